/- HoOpen, HtS -/
import Derived.Test.YtnbleebilmghcabGreatUAP
import Derived.Test.YtnbleebilmghcabGreatUAV
import Derived.Test.YtnbleebilmghcabGreatUBK
import Derived.Test.YtnbleebilmghcabGreatUBQ
set_option linter.all false
set_option maxHeartbeats 4000000
open Go.Value renaming int→I,slice→S,agg→Af,bool→Aj
open Go.IntKind renaming i64→K
open Option renaming none→N,some→O
open Go.Obj renaming cells→Al
open Go.Ending renaming returned→Ao
open Go.Proofs.Tryz renaming prog→Au
namespace Go.Proofs.YtnbleebilmghcabGreat
open Go Go.RowKit Go.ChangeShapes Go.WideShapes Go.ChangeAt Go.Deep Go.Joins
set_option maxRecDepth 100000
theorem VG:Au.cellsOf 69=3:=by kernel_rfl
theorem Xy:Au.cellsOf 89=12:=by kernel_rfl
theorem Za:Au.cellsOf 4=1:=by kernel_rfl
theorem eh:Au.cellsOf 34=2:=by kernel_rfl
theorem gm:Au.cellsOf 61=2:=by kernel_rfl
theorem Sx{H:Type}{enc:TypeId×Value→H}{w:World}{base:Nat}{spare:Nat→Bool}{held:Bool}{P:Program}{t:TypeId}{E F J L M U V:Field}{Y:Nat}{cs:List Value}{x:DataW H×List MemPlace}(ht:P.underlying t=O (.struct #[E,F,J,L,M,U,V]))(h:DataW.trod enc P w base spare held Y t cs=O x):
  ∃y0 y1 y2 y3 y4 y5 y6 n,cs.length=P.cellsOf t∧DataW.trod enc P w base spare held n E.type ((cs.drop E.offset).take (P.cellsOf E.type))=O y0 ∧
   DataW.trod enc P w base spare held n F.type ((cs.drop F.offset).take (P.cellsOf F.type))=O y1∧DataW.trod enc P w base spare held n J.type ((cs.drop J.offset).take (P.cellsOf J.type))=O y2 ∧
   DataW.trod enc P w base spare held n L.type ((cs.drop L.offset).take (P.cellsOf L.type))=O y3∧DataW.trod enc P w base spare held n M.type ((cs.drop M.offset).take (P.cellsOf M.type))=O y4 ∧
   DataW.trod enc P w base spare held n U.type ((cs.drop U.offset).take (P.cellsOf U.type))=O y5∧DataW.trod enc P w base spare held n V.type ((cs.drop V.offset).take (P.cellsOf V.type))=O y6:=by
 obtain⟨xs,n,_,rfl,hl,Z,D⟩:=DataW.trod_struct ht h
 match xs,Z with
 |[y0,y1,y2,y3,y4,y5,y6],_=>exact⟨y0,y1,y2,y3,y4,y5,y6,n,hl,by simpa using D 0 E R,by simpa using D 1 F R,by simpa using D 2 J R,by simpa using D 3 L R,by simpa using D 4 M R,by simpa using D 5 U R,by simpa using D 6 V R⟩
section
variable {H:Type} {enc:TypeId×Value→H} {W:World} {base:Nat} {spare:Nat→Bool} {held:Bool}
theorem SZ{α:Type}[Inhabited α]{f:α→List Value}{k:Nat}{e t:TypeId}{R:α→Prop}(ht:Au.underlying t=O (.slice e))(hk:Au.cellsOf e=k)(hg:0<k)(hf:∀ x,(f x).length=k)(h0:∀ x,∃ n,(f x)[0]?=O (I K n))
  (ho:∀n cs x,DataW.trod enc Au W base spare held n e cs=O x→∃y,cs=f y∧R y) {n:Nat} {v:Value} {x:DataW H×List MemPlace} (h:DataW.trod enc Au W base spare held n t [v]=O x):
  ∃A F l,v=.slice A l.length F∧l.length≤9223372036854775807∧L7 f k W A l∧∀y∈l,R y:=by
 rcases open_slice ht h with⟨J,_⟩|⟨V,len,F,m,n',D,Pl,J,_,hh,hl,hm,_,Y⟩
 ·exact⟨N,0,[],by simpa using J,AS _,fun j x L=>by simp at L,fun y Z=>by cases Z⟩
 ·have hn:len≤m:=by rw[hm];split <;>omega
  obtain⟨S,hS⟩:=choose_lt (α:=α) (n:=len) (p:=fun i s=>W.cells? base (V.add (i*k)) k=O (f s)∧R s) (fun i M=>by
   obtain⟨hp,h1,h2⟩:=Y i (by omega);obtain⟨s,rfl,hs⟩:=ho _ _ _ h2;rw[hk]at h1;exact⟨s,h1,hs⟩)
  have E:((List.range len).map S).length=len:=by simp
  refine⟨O V,F,(List.range len).map S,by rw[E];simpa using J,by rw[E,←gF];omega,fun j x L=>?_,fun y Z=>?_⟩
  ·have hj:j<len:=(by have:=(AX.1 L).1;rwa[E]at this);have ha:x=S j:=by
    rw[Bw,CE hj]at L;simpa using L.symm
   subst ha;obtain⟨_,_,hc⟩:=CF (hS j hj).1;obtain⟨_,_,hb⟩:=CF (hS 0 (by omega)).1;have U:=hb 0 (by omega);obtain⟨q,hq⟩:=h0 (S 0);rw[hq]at U;obtain⟨b,hd,sp⟩:=V;have he:sp=N:=by
    cases sp with
    |none=>rfl
    |some s=>simp[World.cell?,Addr.add]at U;split at U <;>simp at U
   subst he;refine⟨b,hd,rfl,fun i u hu=>?_⟩;have M:i<k:=(by rw[←hf (S j)];exact(AX.1 hu).1);have:=hc i M;rw[add_add,CT,←Bt]at this;rw[this,hu]
  ·obtain⟨i,M,rfl⟩:=Cn.1 Z;exact(hS i (by simpa using M)).2
theorem Yv(n:Nat)(cs:List Value)(x:DataW H×List MemPlace)(h:DataW.trod enc Au W base spare held n 69 cs=O x):∃y:Ho,cs=GO y∧True:=by
 obtain⟨U,V,Y,Z,_,D,h0,E,F⟩:=trod_struct3 Tryz.underlying69 h;rw[VG]at D
 match cs,D with
 |[c0,c1,c2],_ =>
  simp[OK,Za]at h0 E F;obtain⟨J,e0,_⟩:=BA Tryz.underlying3 h0;obtain⟨L,e1,_⟩:=BA Tryz.underlying3 E;obtain⟨M,e2,_⟩:=DataW.trod_bool Tryz.underlying4 F;exact⟨⟨J,L,M⟩,by simp_all[GO]⟩
theorem Yu{n:Nat}{v:Value}{x:DataW H×List MemPlace}(h:DataW.trod enc Au W base spare held n 50 [v]=O x):∃A D l,v=S A l.length D∧l.length≤9223372036854775807∧L7 GO 3 W A l:=by
 have iI:Inhabited Ho:=⟨dM⟩
 obtain⟨A,D,l,E,F,J,_⟩:=SZ (R:=fun _=>True) Tryz.underlying50 VG (by decide) MS (fun x=>⟨x.rd,rfl⟩) Yv h;exact⟨A,D,l,E,F,J⟩
theorem bK(n:Nat)(cs:List Value)(x:DataW H×List MemPlace)(h:DataW.trod enc Au W base spare held n 89 cs=O x):∃d:LE,cs=Iv d∧GZ W d.s.A d.s.len d.s.a:=by
 obtain⟨y0,y1,y2,y3,y4,y5,y6,n',D,h0,E,F,J,L,M,U⟩:=Sx Tryz.underlying89 h;rw[Xy]at D
 match cs,D with
 |[c0,c1,c2,c3,c4,c5,c6,c7,c8,c9,c10,c11],_ =>
  simp[OK,gm,eZ,eh]at h0 E F J L M U;obtain⟨i0,V,_⟩:=BA Tryz.underlying3 h0;obtain⟨i1,Y,_⟩:=BA Tryz.underlying3 E;obtain⟨i2,Z,_⟩:=BA Tryz.underlying3 F;obtain⟨i3,e3,_⟩:=BA Tryz.underlying3 J;obtain⟨i,g,e4⟩:=Ug L;obtain⟨s,e5,ha⟩:=Yt M;obtain⟨z0,z1,hb,_,_,g0,g1⟩:=trod_struct2 Tryz.underlying34 U;simp[OK]at g0 g1;obtain⟨i6,e6,_⟩:=BA Tryz.underlying3 g0;obtain⟨i7,e7,_⟩:=BA Tryz.underlying3 g1;refine⟨⟨i0,i1,i2,i3,i,g,s,i6,i7⟩,?_,ha⟩;simp only[B6,Bx]at V Y Z e3 e4 e5 e6 e7;simp[Iv,V,Y,Z,e3,e4,e5,e6,e7]
theorem U9(d:LE):(Iv d).length=12:=rfl
theorem bJ{n:Nat}{v:Value}{x:DataW H×List MemPlace}(h:DataW.trod enc Au W base spare held n 51 [v]=O x):∃A D l,v=S A l.length D∧l.length≤9223372036854775807∧Oz W A l:=by
 have iI:Inhabited LE:=⟨⟨0, 0, 0, 0, 0, 0, dS, 0, 0⟩⟩
 obtain⟨A,D,l,E,F,J,L⟩:=SZ (R:=fun d:LE=>GZ W d.s.A d.s.len d.s.a) Tryz.underlying51 Xy (by decide) U9 (fun x=>⟨x.k,rfl⟩) bK h;exact⟨A,D,l,E,F,J,L⟩
end
set_option maxRecDepth 8000
attribute [local go_sem ↓] Go.wp_at_zero Go.wp_at_succ
theorem fd{Y:Wd}(W:World)(T:Option Addr)(tc:Nat)(G:Option Addr)(gc:Nat)(T':Option Addr)(tc':Nat)(G':Option Addr)(gc':Nat)(h:Ir W T G (FG Y) Y)(h':Ir W T' G' (FG Y) Y):
  Calls Au 9 #[Af #[S T (FG Y).length tc,S G Y.gens.length gc],Af #[S T' (FG Y).length tc',S G' Y.gens.length gc']] W fun e w'=>e=Ao (Aj true)∧Below W.heap.size W w':=by
 have hr:=GD ((F7 Y).2 h.right);have:=V' T tc G gc T' tc' G' gc' ((FG Y).map Mq) Y.gens W (by rw[Bj];have:=h.few;omega) (by omega) (fun i hi=>by
  rw[Bj]at hi;rw[Kk _ hi];exact(h.each _ (Bm hi)).fewX) h.tbs.x h.gens h'.tbs.x h'.gens
 rwa[Bj]at this
theorem kE(a b:Int)(w:World):(Op.equalIn 10000 34 (Af #[I K a,I K b]) (Af #[I K a,I K b])).run Au w=.ok true w:=by
 have hS:Au.underlying 34=O (.struct (Au.fieldsOf 34)):=by kernel_rfl
 rw[show(10000:Nat)=9999+1 from rfl,Dg w 9999 34 _ _ hS (by kernel_rfl)];simp only[Program.fieldsOf,Tryz.underlying34];go_simp
theorem jH(a b:Int)(w:World):(binOp .neq 34 (.agg #[.int .i64 a,.int .i64 b]) (.agg #[.int .i64 a,.int .i64 b])).run Tryz.prog w=.ok (.bool false) w:=by
 rw[run_neq_struct,kE];rfl
theorem kH(a b c d:Int)(w:World):(Op.equalIn 10000 95 (Af #[I K a,I K b,I K c,I K d]) (Af #[I K a,I K b,I K c,I K d])).run Au w=.ok true w:=by
 have hS:Au.underlying 95=O (.struct (Au.fieldsOf 95)):=by kernel_rfl
 rw[show(10000:Nat)=9999+1 from rfl,Dg w 9999 95 _ _ hS (by kernel_rfl)];simp only[Program.fieldsOf,Tryz.underlying95];go_simp
theorem jI(a b c d:Int)(w:World):(binOp .neq 95 (.agg #[.int .i64 a,.int .i64 b,.int .i64 c,.int .i64 d]) (.agg #[.int .i64 a,.int .i64 b,.int .i64 c,.int .i64 d])).run Tryz.prog w=.ok (.bool false) w:=by
 rw[run_neq_struct,kH];rfl
theorem kD(a b:Int)(c:Bool)(w:World):(Op.equalIn 10000 69 (Af #[I K a,I K b,Aj c]) (Af #[I K a,I K b,Aj c])).run Au w=.ok true w:=by
 have hS:Au.underlying 69=O (.struct (Au.fieldsOf 69)):=by kernel_rfl
 rw[show(10000:Nat)=9999+1 from rfl,Dg w 9999 69 _ _ hS (by kernel_rfl)];simp only[Program.fieldsOf,Tryz.underlying69];go_simp
theorem jG(a b:Int)(c:Bool)(w:World):(binOp .neq 69 (.agg #[.int .i64 a,.int .i64 b,.bool c]) (.agg #[.int .i64 a,.int .i64 b,.bool c])).run Tryz.prog w=.ok (.bool false) w:=by
 rw[run_neq_struct,kD];rfl
theorem S5(m al no:Int)(len:Nat)(a:Nat→F')(A:Option Addr)(cap:Nat)(A2:Option Addr)(cap2:Nat)(w:World)(hl:len≤8)(h1:GZ w A len a)(h2:GZ w A2 len a):
  Calls Au 46 #[Gz m al no A len cap,Gz m al no A2 len cap2] w fun e w'=>e=Ao (Aj true)∧Below w.heap.size w w':=by
 obtain⟨W0,hW0,hbx,hX0⟩:=Gs w [([I K m,I K al,I K no,S A len cap],37),([I K m,I K al,I K no,S A2 len cap2],37)];have HW0:Hid ((w.alloc (Al #[I K m,I K al,I K no,S A len cap] 37)).alloc (Al #[I K m,I K al,I K no,S A2 len cap2] 37)=W0):=An hW0;clear hW0;have HL0:=An hbx;have hqf:=jH;have hqa:=jI;have y0:=hX0.cell 0 R 0 R;have z0:=hX0.cell 1 R 0 R;have y1:=hX0.cell 0 R 1 R;have z1:=hX0.cell 1 R 1 R;have y2:=hX0.cell 0 R 2 R;have z2:=hX0.cell 1 R 2 R;have y3:=hX0.cell 0 R 3 R;have z3:=hX0.cell 1 R 3 R;rw[Ay]at y0 y1 y2 y3;clear hbx;unfold Gz;go_enter Tryz.func46,Tryz.ntmps46
 go_upto_region 1 with fail
 rw[AN HW0];have hqf:=hqf;go_wp2_with fail
 clear y0 y1 y2 y3 z0 z1 z2 z3;go_loopw [30] (fun x wr=>∃k:Nat,k≤len∧x=I K (k:Int)∧Below W0.heap.size W0 wr) (fun x _=>len - (intOf x).toNat)
 case atStart=>exact⟨0,AS _,rfl,AD _ _⟩
 case round =>
  obtain⟨k,hk,rfl,hbr⟩:=hrel;by_cases hlt:k<len
  ·have k0:(0:Int)≤(k:Int):=(by omega);have k1:(k:Int)<(len:Int):=(by omega);have hL:=(AN HL0).trans (hbr.mono (AN HL0).size);obtain⟨b1,o1,rfl,c0,c1,c2,c3⟩:=h1.below hL k hlt;obtain⟨b2,o2,rfl,e0,e1,e2,e3⟩:=h2.below hL k hlt;have hX:=hX0.below hbr;have hne:Nonempty (Hm wr):=⟨⟨wr,AD _ _⟩⟩;have c0:=B1 c0;have c1:=B1 c1;have c2:=B1 c2;have c3:=B1 c3;have e0:=B1 e0;have e1:=B1 e1;have e2:=B1 e2;have e3:=B1 e3;have s0:=B1 (hX.cell 0 R 3 R);have s1:=B1 (hX.cell 1 R 3 R);simp only[Ay]at s0;generalize a k=y at *;have HBR:=An hbr;have hqa:=hqa;clear hbr hX hL;go_wp2_with fail
   refine FN (by kernel_rfl) (by kernel_rfl) ?_
   repeat(go_big_quiet_step(fail))
   refine Bg ?_;rintro w4⟨xs,hxs⟩;have hb4:=xs.bel;rw[←hxs]at hb4;have HB4:=((AN HBR).trans (hb4.mono (AN HBR).size));clear hxs xs hb4 hne c0 c1 c2 c3 e0 e1 e2 e3 s0 s1;go_wp2;go_roundw
   case rel=>exact⟨k+1,by omega,by go_num,HB4⟩
   case measure=>simp[intOf];omega
  ·have dk:decide ((k:Int)<(len:Int))=false:=AO (by omega);have HE:=((AN HL0).trans (hbr.mono (AN HL0).size));clear hbr;go_wp2;go_ret;exact⟨rfl,HE⟩
theorem QT(T1:Option Addr)(tc1:Nat)(G1:Option Addr)(gc1:Nat)(M1:Option Addr)(mc1:Nat)(SA1:Option Addr)(sc1:Nat)(T2:Option Addr)(tc2:Nat)(G2:Option Addr)(gc2:Nat)(M2:Option Addr)(mc2:Nat)(SA2:Option Addr)(sc2:Nat)(X:Wd)(mods:List Ho)(n:Nat)(S1 S2:Nat→GG)(w:World)
  (hn:n≤12) (hml:mods.length≤6) (h1:Ir w T1 G1 (FG X) X) (h2:Ir w T2 G2 (FG X) X) (hM1:L7 GO 3 w M1 mods) (hM2:L7 GO 3 w M2 mods) (hS1:Iw w SA1 n S1) (hS2:Iw w SA2 n S2) (hss:∀j,j<n→I1 (S1 j)=I1 (S2 j)) (h8:∀j,j<n→(S1 j).len≤8):
  Calls Au 19 #[Af #[S T1 (FG X).length tc1,S G1 X.gens.length gc1,S M1 mods.length mc1,S SA1 n sc1],Af #[S T2 (FG X).length tc2,S G2 X.gens.length gc2,S M2 mods.length mc2,S SA2 n sc2]] w fun e w'=>e=Ao (Aj true)∧Below w.heap.size w w':=by
 obtain⟨hzl,hzg,_⟩:=GD ((F7 X).2 h1.right);have hSS:=fun W (hb:Below w.heap.size w W)=>fd W T1 tc1 G1 gc1 T2 tc2 G2 gc2 (h1.below hb) (h2.below hb);obtain⟨W0,hW0,hbx,hX0⟩:=Gs w [([S T1 (FG X).length tc1,S G1 X.gens.length gc1,S M1 mods.length mc1,S SA1 n sc1],53),([S T2 (FG X).length tc2,S G2 X.gens.length gc2,S M2 mods.length mc2,S SA2 n sc2],53)];have HW0:Hid ((w.alloc (Al #[S T1 (FG X).length tc1,S G1 X.gens.length gc1,S M1 mods.length mc1,S SA1 n sc1] 53)).alloc (Al #[S T2 (FG X).length tc2,S G2 X.gens.length gc2,S M2 mods.length mc2,S SA2 n sc2] 53)=W0):=An hW0;clear hW0;have HL0:=An hbx;have hqm:=jG;have a0:=hX0.cell 0 R 0 R;have b0:=hX0.cell 1 R 0 R;have a1:=hX0.cell 0 R 1 R;have b1:=hX0.cell 1 R 1 R;rw[Ay]at a0 a1;clear hbx h1 h2;go_enter Tryz.func19,Tryz.ntmps19
 go_upto_region 1 with fail
 rw[AN HW0];go_wp2_with fail
 go_at_call 9;refine(hSS W0 (AN HL0)).mono ?_;rintro e w1⟨rfl,hb1⟩;have hX1:=hX0.below hb1;have HL1:=An ((AN HL0).trans (hb1.mono (AN HL0).size));clear a0 a1 b0 b1;have a2:=hX1.cell 0 R 2 R;have b2:=hX1.cell 1 R 2 R;have a3:=hX1.cell 0 R 3 R;have b3:=hX1.cell 1 R 3 R;rw[Ay]at a2 a3;clear hb1 hX0 hSS;go_wp2_with fail
 clear a2 a3 b2 b3;go_loopw [34] (fun x wr=>∃k:Nat,k≤mods.length∧x=I K (k:Int)∧Below w1.heap.size w1 wr) (fun x _=>mods.length - (intOf x).toNat)
 case atStart=>exact⟨0,AS _,rfl,AD _ _⟩
 case round =>
  obtain⟨k,hk,rfl,hbr⟩:=hrel;by_cases hlt:k<mods.length
  ·have k0:(0:Int)≤(k:Int):=(by omega);have k1:(k:Int)<(mods.length:Int):=(by omega);have hL:=(AN HL1).trans (hbr.mono (AN HL1).size);have hmg:mods[k]?=O (mods.getD k dM):=(by rw[Az,AE hlt];rfl);obtain⟨b1,o1,rfl,c⟩:=(hM1.below hL) k _ hmg;obtain⟨b2,o2,rfl,e⟩:=(hM2.below hL) k _ hmg;have hX:=hX1.below hbr;have hne:Nonempty (Hm wr):=⟨⟨wr,AD _ _⟩⟩;have c0:=B1 (c 0 _ R);have c1:=B1 (c 1 _ R);have c2:=B1 (c 2 _ R);have e0:=B1 (e 0 _ R);have e1:=B1 (e 1 _ R);have e2:=B1 (e 2 _ R);have s0:=B1 (hX.cell 0 R 2 R);have s1:=B1 (hX.cell 1 R 2 R);simp only[Ay]at s0 c0 e0;generalize mods.getD k dM=y at *;have HBR:=An hbr;have hqm:=hqm;clear hbr hX hL hmg c e;go_wp2_with fail
   refine FN (by kernel_rfl) (by kernel_rfl) ?_
   repeat(go_big_quiet_step(fail))
   refine Bg ?_;rintro w4⟨xs,hxs⟩;have hb4:=xs.bel;rw[←hxs]at hb4;have HB4:=((AN HBR).trans (hb4.mono (AN HBR).size));clear hxs xs hb4 hne c0 c1 c2 e0 e1 e2 s0 s1;go_wp2;go_roundw
   case rel=>exact⟨k+1,by omega,by go_num,HB4⟩
   case measure=>simp[intOf];omega
  ·have dk:decide ((k:Int)<(mods.length:Int))=false:=AO (by omega);have hX2:=hX1.below hbr;have a3:=hX2.cell 0 R 3 R;rw[Ay]at a3;have HL2:=An ((AN HL1).trans (hbr.mono (AN HL1).size));obtain⟨w2,rfl⟩:∃w2,w2=wr:=⟨_,rfl⟩;clear hbr;go_wp2_with fail
   clear a3;go_loopw [52] (fun x wr=>∃j:Nat,j≤n∧x=I K (j:Int)∧Below w2.heap.size w2 wr) (fun x _=>n - (intOf x).toNat)
   case atStart=>exact⟨0,AS _,rfl,AD _ _⟩
   case round =>
    obtain⟨j,hj,rfl,hbr⟩:=hrel;by_cases hlt:j<n
    ·have j0:(0:Int)≤(j:Int):=(by omega);have j1:(j:Int)<(n:Int):=(by omega);have hL:=(AN HL2).trans (hbr.mono (AN HL2).size);obtain⟨b1,o1,hA1,c⟩:=(hS1.below hL) j hlt;obtain⟨b2,o2,hA2,e⟩:=(hS2.below hL) j hlt;have heq:=hss j hlt;have hl8:=h8 j hlt;obtain⟨c0,c1,c2,c3,ca⟩:=c;obtain⟨e0,e1,e2,e3,ea⟩:=e;generalize S1 j=s at *;generalize S2 j=t at *;obtain⟨m,al,no,A,len,cap,a⟩:=s;obtain⟨m',al',no',A',len',cap',a'⟩:=t;have heq:I1 ⟨m,al,no,A,len,cap,a⟩=I1 ⟨m',al',no',A',len',cap',a'⟩:=heq;unfold I1 at heq;simp only[GG.mk.injEq,Br]at heq;obtain⟨rfl,rfl,rfl,rfl,rfl⟩:=heq;dsimp only at c0 c1 c2 c3 ca e0 e1 e2 e3 ea hl8;have hX:=hX2.below hbr;have hne:Nonempty (Hm wr):=⟨⟨wr,AD _ _⟩⟩;have hSY:=fun x:Hm wr=>S5 m al no len a A cap A' cap' x.val hl8 (ca.below x.bel) (ea.below x.bel);unfold Gz at hSY;have c0:=B1 c0;have c1:=B1 c1;have c2:=B1 c2;have c3:=B1 c3;have e0:=B1 e0;have e1:=B1 e1;have e2:=B1 e2;have e3:=B1 e3;have s0:=B1 (hX.cell 0 R 3 R);have s1:=B1 (hX.cell 1 R 3 R);simp only[Ay]at s0;have HBR:=An hbr;subst hA1;subst hA2;clear hbr hX hL ca ea hl8;go_wp2_with fail
     refine FN (by kernel_rfl) (by kernel_rfl) ?_
     repeat(go_big_quiet_step((go_at_call 46;exact Gf (hSY _))))
     refine Bg ?_;rintro w4⟨xs,hxs⟩;have hb4:=xs.bel;rw[←hxs]at hb4;have HB4:=((AN HBR).trans (hb4.mono (AN HBR).size));clear hxs xs hb4 hne c0 c1 c2 c3 e0 e1 e2 e3 s0 s1;go_wp2;go_roundw
     case rel=>exact⟨j+1,by omega,by go_num,HB4⟩
     case measure=>simp[intOf];omega
    ·have dj:decide ((j:Int)<(n:Int))=false:=AO (by omega);have HE9:=((AN HL2).trans (hbr.mono (AN HL2).size));clear hbr;go_wp2;go_ret;exact⟨rfl,HE9⟩
theorem kF(a b:Int)(w:World):(Op.equalIn 10000 29 (Af #[I K a,I K b]) (Af #[I K a,I K b])).run Au w=.ok true w:=by
 have hS:Au.underlying 29=O (.struct (Au.fieldsOf 29)):=by kernel_rfl
 rw[show(10000:Nat)=9999+1 from rfl,Dg w 9999 29 _ _ hS (by kernel_rfl)];simp only[Program.fieldsOf,Tryz.underlying29];go_simp
theorem bT(a b:Int)(w:World):(binOp .neq 29 (.agg #[.int .i64 a,.int .i64 b]) (.agg #[.int .i64 a,.int .i64 b])).run Tryz.prog w=.ok (.bool false) w:=by
 rw[run_neq_struct,kF];rfl
theorem kY(a b:Int)(w:World):(Op.equalIn 10000 61 (Af #[I K a,I K b]) (Af #[I K a,I K b])).run Au w=.ok true w:=by
 have hS:Au.underlying 61=O (.struct (Au.fieldsOf 61)):=by kernel_rfl
 rw[show(10000:Nat)=9999+1 from rfl,Dg w 9999 61 _ _ hS (by kernel_rfl)];simp only[Program.fieldsOf,Tryz.underlying61];go_simp
theorem kG(a b:Int)(w:World):(binOp .eql 61 (.agg #[.int .i64 a,.int .i64 b]) (.agg #[.int .i64 a,.int .i64 b])).run Tryz.prog w=.ok (.bool true) w:=by
 rw[run_eql_struct,kY];rfl
theorem S6(a:Mj)(A:Option Addr)(c:Nat)(A':Option Addr)(c':Nat)(w:World)(hl:a.bs.length≤4194304)(hA:LB w A a.bs)(hA':LB w A' a.bs):
  Calls Au 20 #[Af #[I K a.e,I K a.i,I K a.g,S A a.bs.length c,I K a.n],Af #[I K a.e,I K a.i,I K a.g,S A' a.bs.length c',I K a.n]] w fun e w'=>e=Ao (Aj true)∧Below w.heap.size w w':=by
 obtain⟨W1,hW1,hL1,hX1⟩:=LZ w [([I K a.e,I K a.i,I K a.g,S A a.bs.length c,I K a.n],64),([I K a.e,I K a.i,I K a.g,S A' a.bs.length c',I K a.n],64)];simp only[GQ]at hW1;have HW1:=An hW1;have HSB:=(Pb A c A' c' a.bs W1 hl (hA.below hL1) (hA'.below hL1));have HL1:=An hL1;have hbe:=kG a.i a.g W1;obtain⟨x0,x1,x2,x3⟩:=hX1.g4 R;obtain⟨y0,y1,y2,y3⟩:=hX1.f4 1 R;clear hW1 hL1 hA hA';go_enter Tryz.func20,Tryz.ntmps20
 go_upto_region 1 with fail
 rw[AN HW1];go_wp2_with fail
 go_at_call 28;refine HSB.mono ?_;rintro e w2⟨rfl,hb2⟩;have x4:=(hX1.below hb2).cell 0 R 4 R;have y4:=(hX1.below hb2).cell 1 R 4 R;rw[Ay]at x4;have HL2:=((AN HL1).trans (hb2.mono (AN HL1).size));clear hb2 x0 x1 x2 x3 y0 y1 y2 y3 hbe;go_wp2;go_ret;exact⟨rfl,HL2⟩
end Go.Proofs.YtnbleebilmghcabGreat
