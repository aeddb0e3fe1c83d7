/- Ho3, Ho7 -/
import Derived.Test.YtnbleebilmghcabGreatUAV
import Derived.Test.YtnbleebilmghcabGreatUBF
set_option linter.all false
set_option maxRecDepth 8000
set_option maxHeartbeats 4000000
open Go.Value renaming int→I,slice→S,pointer→Ae,agg→Af,oneCell'→Ar
open Go.IntKind renaming i64→K
open Option renaming none→N,some→O
open Go.Obj renaming cells→Al
open Go.Operand renaming tmp→Am
open Go.Ending renaming returned→Ao
open Array renaming getD_eq_getD_getElem?→Ap
open Go.Act renaming eval→Aq
open Go.Proofs.Tryz renaming prog→Au
namespace Go.Proofs.YtnbleebilmghcabGreat
open Go Go.RowKit
attribute [local go_sem ↓] Go.wp_at_zero Go.wp_at_succ
theorem ey{p:Nat}{u2 u3 u4:Value}{err:Int}{Y:Wd}{w w':World}(h:Ro p u2 u3 u4 err Y w w'):Tw (fun b=>b=p) w w':=by
 unfold Ro at h;split at h
 ·obtain⟨_,_,_,_,_,_,h⟩:=h;exact h
 ·exact Tw.of_below h
theorem X6{p:Nat}{u2 u3 u4:Value}{err:Int}{Y:Wd}{w w':World}(h:Ro p u2 u3 u4 err Y w w'){B:Nat}{l:List (List Value×TypeId)}(hb:GJ B l w)(hp:p<B):GJ B l w':=hb.tw (ey h) (fun k _=>by omega)
theorem X5{p:Nat}{u2 u3 u4:Value}{err:Int}{Y:Wd}{w W0 W1:World}{us:List Value}(h:Ro p u2 u3 u4 err Y W0 W1)(h0:Below w.heap.size w W0)(hB:GJ p [(us,87)] w){c o:Nat}{vs:List Value}(hc:w.heap.size≤c)(hc2:c<W0.heap.size):Ro p u2 u3 u4 err Y w (W1.setCells c o vs):=by
 have hp:p<w.heap.size:=hB.lt (k:=0) R;unfold Ro at h⊢;split at h
 ·rename_i he;obtain⟨T,tc,G,gc,h1,h2,h3⟩:=h;rw[AF he];refine⟨T,tc,G,gc,h1.turn (by simp only[AJ,AK];omega),?_,((Tw.of_below (av:=fun b=>b=p) h0).trans h3 (fun _ _ h=>h)).sets (.inr hc)⟩;exact(h2.tw ((Tw.refl (fun b=>b=c) W1).sets (.inl R)) (fun g hg=>by subst hg;exact hc2)).le h0.size
 ·rename_i he;rw[AA he];exact Bv c hc vs o W1 (h0.trans (h.mono h0.size))
theorem V4(p:Nat)(T:Option Addr)(tc:Nat)(G:Option Addr)(gc:Nat)(u2 u3 u4:Value)(X:Wd)(has n:Int)(w:World)(hB:GJ p [([S T (FG X).length tc,S G X.gens.length gc,u2,u3,u4],87)] w)(hS:Ir w T G (FG X) X):
  Calls Au 72 #[Ae (O ⟨p,0,N⟩),I K has,I K n] w fun e w'=>e=Ao (Af #[I K (FQ X has n).1,I K (FQ X has n).2.1.1,I K (FQ X has n).2.1.2,S N 0 0,I K 0])∧Ro p u2 u3 u4 (FQ X has n).1 (FQ X has n).2.2 w w':=by
 have hC:=fun W (hb:Below w.heap.size w W)=>V0 T tc G gc (FG X) X has n W (hS.below hb);unfold JN FJ at hC;obtain⟨err,herr⟩:∃err,err=(FQ X has n).1:=⟨_,rfl⟩;obtain⟨bi,hbi⟩:∃bi,bi=(FQ X has n).2.1.1:=⟨_,rfl⟩;obtain⟨bg,hbg⟩:∃bg,bg=(FQ X has n).2.1.2:=⟨_,rfl⟩;obtain⟨Y,hY⟩:∃Y,Y=(FQ X has n).2.2:=⟨_,rfl⟩;rw[←herr,←hbi,←hbg,←hY]at hC⊢;have hBE:=fun T' tc' G' gc' W h=>K9 p T' (FG Y).length tc' G' Y.gens.length gc' err (S T (FG X).length tc) (S G X.gens.length gc) u2 u3 u4 W h;unfold JN at hBE;clear hS herr hbi hbg hY;obtain⟨W0,hW0,hbx,hX0⟩:=Gs w [([I K 0,I K 0,I K 0,S N 0 0,I K 0],64)];have HW0:Hid (w.alloc (Al #[I K 0,I K 0,I K 0,S N 0 0,I K 0] 64)=W0):=An hW0;clear hW0;have HZ0:(w.heap.size<W0.heap.size):=(hX0.lt (k:=0) R);have hp:p<w.heap.size:=hB.lt (k:=0) R;have hP0:=hB.below hbx;have HL0:=An hbx;obtain⟨s0,s1⟩:=hP0.g2 R;clear hbx;go_enter Tryz.func72,Tryz.ntmps72
 go_upto_region 1 with fail
 rw[AN HW0];go_wp2_with fail
 go_at_call 108;refine(hC W0 (AN HL0)).mono ?_;rintro e w1⟨T2,tc2,G2,gc2,rfl,hN2,hb2⟩;obtain⟨W2,hW2,hbx,hX2⟩:=Gs w1 [([S T2 (FG Y).length tc2,S G2 Y.gens.length gc2],25),([I K bi,I K bg],61)];have HW2:Hid ((w1.alloc (Al #[S T2 (FG Y).length tc2,S G2 Y.gens.length gc2] 25)).alloc (Al #[I K bi,I K bg] 61)=W2):=An hW2;clear hW2;have hb02:=hb2.trans (hbx.mono hb2.size);have HL2:=((AN HL0).trans (hb02.mono (AN HL0).size));have hP2:=hP0.below hb02;have HX2:=(hX0.below hb02);have HN2:=(hN2.below hbx);have hlt1:w.heap.size<w1.heap.size:=Bs (hX0.lt (k:=0) R) hb2.size;obtain⟨q0,q1⟩:=hX2.g2 R;clear s0 s1 hbx hN2 hb2 hb02 hX0 hP0 hC;go_upto_region 2 with fail
 rw[AN HW2];go_wp2_with fail
 go_at_call 73;refine(hBE T2 tc2 G2 gc2 W2 hP2).mono ?_;rintro e w3⟨rfl,h1,h2⟩;obtain⟨W4,hW4,hbx,hX4⟩:=Gs w3 [([I K err,I K 0,I K 0,S N 0 0,I K 0],64)];have HW4:Hid (w3.alloc (Al #[I K err,I K 0,I K 0,S N 0 0,I K 0] 64)=W4):=An hW4;clear hW4;have hsz2:w1.heap.size+2≤W2.heap.size:=hX2.sz (by simp);have hsz3:W2.heap.size≤w3.heap.size:=h2.size;have hT4:Tw (fun b=>b=p) w W4:=((Tw.of_below (av:=fun b=>b=p) HL2).trans h2 (fun _ _ h=>h)).trans (Tw.of_below (av:=fun b=>b=p) hbx) (fun _ _ h=>h);have HT4:=An hT4;have HN3:=(HN2.tw h2 (fun g hg=>by subst hg;exact Bs hp (AN HL0).size));have HV4:=(Tw.of_below (av:=fun b=>b=w.heap.size) hbx);have HP4:=(h1.below hbx);have HX4:=((HX2.tw h2 (fun k hk=>by simp at hk;subst hk;omega)).below hbx);have hY4:=((hX2.tw h2 (fun k hk=>by omega)).below hbx);obtain⟨b0,b1⟩:=hY4.f2 1 R;clear q0 q1 hbx h1 h2 hT4 hY4 HX2 hX2 HN2 hP2 HL2 hBE;go_upto_region 3 with fail
 rw[AN HW4];go_wp2_with(first
  |(refine As R 61 (Am 28) (Am 27) R w3.heap.size 1 [I K bi,I K bg] R R (by simp[Ar]) jy (Hj (hX4.there 0 R 5 R) 1 2 (by omega)) ?_;intro W5 hW5;have hZ5:=hX4.part 0 R 1 [I K bi,I K bg] (by simp);rw[Ay,←hW5]at hZ5;have y0:=hZ5.cell 0 R 0 R;have y1:=hZ5.cell 0 R 1 R;have y2:=hZ5.cell 0 R 2 R;have y3:=hZ5.cell 0 R 3 R;have y4:=hZ5.cell 0 R 4 R;rw[Ay]at y0 y1 y2 y3 y4;have HT5:=((AN HT4).sets (b:=w3.heap.size) (o:=1) (vs:=[I K bi,I K bg]) (.inr (by omega)));have HV5:=(HV4.sets (b:=w3.heap.size) (o:=1) (vs:=[I K bi,I K bg]) (.inr Fu));have HP5:=(HP4.turn (cb:=w3.heap.size) (o:=1) (vs:=[I K bi,I K bg]) (.inr (by simp only[AJ,AK];omega)));have HX5:=(HX4.turn (cb:=w3.heap.size) (o:=1) (vs:=[I K bi,I K bg]) (.inr (by simp only[AJ,AK];omega)));rw[←hW5]at HT5 HV5 HP5 HX5;clear hW5 hZ5)
  |(refine As R 64 (Am 6) (Am 29) R w.heap.size 0 [I K err,I K bi,I K bg,S N 0 0,I K 0] R R (by simp[Ar]) JT (HX5.there 0 R 5 R) ?_;intro W6 hW6;have HX6:=(HX5.give 0 R [I K err,I K bi,I K bg,S N 0 0,I K 0] R);have HT6:=(HT5.sets (b:=w.heap.size) (o:=0) (vs:=[I K err,I K bi,I K bg,S N 0 0,I K 0]) (.inr Fu));have HV6:=(HV5.sets (b:=w.heap.size) (o:=0) (vs:=[I K err,I K bi,I K bg,S N 0 0,I K 0]) (.inl R));have HP6:=(HP5.turn (cb:=w.heap.size) (o:=0) (vs:=[I K err,I K bi,I K bg,S N 0 0,I K 0]) (.inr (by simp only[AJ,AK];omega)));rw[←hW6]at HT6 HV6 HP6;rw[Ay,←hW6]at HX6;clear hW6))
 obtain⟨r0,r1,r2,r3,r4⟩:=HX6.g5 R;refine AG (by simp[results,Tryz.results72,go_sem,r0,r1,r2,r3,r4]<;>rfl) R ⟨rfl,?_⟩
 have hP6:=HP6;unfold Ro;by_cases he:err=0
 ·rw[AF he]at hP6⊢;exact⟨_,_,_,_,hP6,(HN3.tw HV6 (fun g hg=>by subst hg;exact HZ0)).le (AN HL0).size,HT6⟩
 ·rw[AA he]at hP6⊢;exact Sw HT6 hB hP6
theorem eR(p:Nat)(T:Option Addr)(tc:Nat)(G:Option Addr)(gc:Nat)(u2 u3 u4:Value)(X:Wd)(d:LE)(w:World)(hB:GJ p [([S T (FG X).length tc,S G X.gens.length gc,u2,u3,u4],87)] w)(hS:Ir w T G (FG X) X)(hk:d.k=1):
  Calls Au 42 #[Ae (O ⟨p,0,N⟩),Pv d] w fun e w'=>e=Ao (Af #[I K (FQ X d.has d.n).1,I K (FQ X d.has d.n).2.1.1,I K (FQ X d.has d.n).2.1.2,S N 0 0,I K 0])∧Ro p u2 u3 u4 (FQ X d.has d.n).1 (FQ X d.has d.n).2.2 w w':=by
 have hC:=fun W h (hb:Below w.heap.size w W)=>V4 p T tc G gc u2 u3 u4 X d.has d.n W h (hS.below hb);obtain⟨err,herr⟩:∃err,err=(FQ X d.has d.n).1:=⟨_,rfl⟩;obtain⟨bi,hbi⟩:∃bi,bi=(FQ X d.has d.n).2.1.1:=⟨_,rfl⟩;obtain⟨bg,hbg⟩:∃bg,bg=(FQ X d.has d.n).2.1.2:=⟨_,rfl⟩;obtain⟨Y,hY⟩:∃Y,Y=(FQ X d.has d.n).2.2:=⟨_,rfl⟩;rw[←herr,←hbi,←hbg,←hY]at hC⊢;clear hS herr hbi hbg hY;obtain⟨W0,hW0,hbx,hX0⟩:=Gs w [([I K d.k,I K d.has,I K d.p,I K d.n,I K d.i,I K d.g,I K d.s.m,I K d.s.al,I K d.s.no,S d.s.A d.s.len d.s.cap,I K d.fa,I K d.fn],89),([I K 0,I K 0,I K 0,S N 0 0,I K 0],64)];have HW0:Hid ((w.alloc (Al #[I K d.k,I K d.has,I K d.p,I K d.n,I K d.i,I K d.g,I K d.s.m,I K d.s.al,I K d.s.no,S d.s.A d.s.len d.s.cap,I K d.fa,I K d.fn] 89)).alloc (Al #[I K 0,I K 0,I K 0,S N 0 0,I K 0] 64)=W0):=An hW0;clear hW0;have hP0:=hB.below hbx;obtain⟨z0,z1⟩:=hX0.g2 R;have z3:=hX0.cell 0 R 3 R;have hsz:w.heap.size+2≤W0.heap.size:=hX0.sz (by simp);rw[Ay]at z3;rw[hk]at z0;clear hk;unfold Pv;go_enter Tryz.func42,Tryz.ntmps42
 go_upto_region 1 with fail
 rw[AN HW0];go_wp2_with(first
  |(go_at_call 72;refine(hC W0 hP0 hbx).mono ?_;rintro e w1⟨rfl,hbc⟩;have HX1:=(X6 hbc hX0 (hB.lt (k:=0) R)))
  |(refine As R 64 (Am 4) (Am 14) R (w.heap.size+1) 0 [I K err,I K bi,I K bg,S N 0 0,I K 0] R R (by simp[Ar]) JT (HX1.there 1 R 5 R) ?_;intro W2 hW2;have HX2:=(HX1.give 1 R [I K err,I K bi,I K bg,S N 0 0,I K 0] R);have HBE:=(X5 hbc hbx hB (c:=w.heap.size+1) (vs:=[I K err,I K bi,I K bg,S N 0 0,I K 0]) (o:=0) (by omega) (by omega));rw[←hW2]at HX2 HBE;clear hW2))
 obtain⟨r0,r1,r2,r3,r4⟩:=HX2.f5 1 R;refine AG (by simp[results,Tryz.results42,go_sem,r0,r1,r2,r3,r4]<;>rfl) R ⟨rfl,HBE⟩
structure G3 where
 A:Option Addr
 c:Nat
 b:Nat
structure Vj(W0:World)(n:Nat)(cs:List Value)(γ:G3)(L:Nat→Bool)(W:World):Prop where
 bel:Below W0.heap.size W0 W
 own:L 6=true→W.ownsRow W0.heap.size 61 2 (.slice γ.A n γ.c) n cs
 bx:L 8=true→W0.heap.size≤γ.b∧GJ γ.b [(if L 9=true then [.int .i64 0,.int .i64 0,.int .i64 0,.slice γ.A n γ.c,.int .i64 0]else [.int .i64 0,.int .i64 0,.int .i64 0,.slice none 0 0,.int .i64 0],64)] W
 ne:L 6=true→L 8=true→(Value.slice γ.A n γ.c).ownBlock≠some γ.b
section
variable {W0:World} {n:Nat} {cs:List Value} {γ:G3} {L:Nat→Bool} {W W1:World}
theorem Vj.start(W0:World)(n:Nat)(cs:List Value):Vj W0 n cs ⟨none,0,0⟩ (fun _=>false) W0.drew:=⟨(Below.refl _ _).drew,fun h=>(by cases h),fun h=>(by cases h),fun h=>(by cases h)⟩
theorem Vj.same(h:Vj W0 n cs γ L W){i:Nat}(h1:i≠6)(h2:i≠8)(h3:i≠9):Vj W0 n cs γ (upd L i) W:=by
 have e:∀j,j≠i→upd L i j=L j:=fun j hj=>Fx hj;refine⟨h.bel,?_,?_,?_⟩
 ·rw[e _ (BW h1)];exact h.own
 ·rw[e _ (BW h2),e _ (BW h3)];exact h.bx
 ·rw[e _ (BW h1),e _ (BW h2)];exact h.ne
theorem Vj.call(h:Vj W0 n cs γ L W)(h9:L 9=false){A:Option Addr}{c:Nat}(ho:W1.ownsRow W.heap.size 61 2 (S A n c) n cs)(hb:Below W.heap.size W W1):Vj W0 n cs ⟨A,c,γ.b⟩ (upd L 6) W1:=by
 have e:∀j,j≠6→upd L 6 j=L j:=fun j hj=>Fx hj;refine⟨h.bel.trans (hb.mono h.bel.size),fun _=>Oe ho h.bel.size,?_,fun _ h8 hh=>?_⟩
 ·rw[e 8 (by decide),e 9 (by decide),h9];intro h8;have:=h.bx h8;rw[h9]at this;exact⟨this.1,this.2.below hb⟩
 ·rw[e 8 (by decide)]at h8;have h1:=(ho.lt _ hh).1;have h2:=(h.bx h8).2.lt (k:=0) R;simp only at h1 h2;omega
theorem Vj.make(h:Vj W0 n cs γ L W)(h9:L 9=false):Vj W0 n cs ⟨γ.A,γ.c,W.heap.size⟩ (upd L 8) (W.alloc (Al #[I K 0,I K 0,I K 0,S N 0 0,I K 0] 64)):=by
 have e:∀j,j≠8→upd L 8 j=L j:=fun j hj=>Fx hj;have hb:=GF W (Al #[I K 0,I K 0,I K 0,S N 0 0,I K 0] 64);refine⟨h.bel.trans (hb.mono h.bel.size),?_,fun _=>?_,fun h6 _ hh=>?_⟩
 ·rw[e 6 (by decide)];exact fun h6=>FT (h.own h6) hb
 ·rw[e 9 (by decide),h9];exact⟨h.bel.size,GJ.start W [([I K 0,I K 0,I K 0,S N 0 0,I K 0],64)]⟩
 ·rw[e 6 (by decide)]at h6;have:=((h.own h6).lt _ hh).2;simp only at this;omega
theorem Vj.put(h:Vj W0 n cs γ L W)(h6:L 6=true)(h8:L 8=true)(h9:L 9=false):Vj W0 n cs γ (upd L 9) (W.setCells γ.b 0 [I K 0,I K 0,I K 0,S γ.A n γ.c,I K 0]):=by
 have e:∀j,j≠9→upd L 9 j=L j:=fun j hj=>Fx hj;have hbx:=h.bx h8;rw[h9]at hbx;have hne:=h.ne h6 h8;refine⟨Bv _ hbx.1 _ _ _ h.bel,fun _=>Iu (h.own h6) ((Tw.refl (fun b=>b=γ.b) W).sets (.inl R)) (fun g hg hb=>by subst hb;exact hne hg),fun _=>?_,?_⟩
 ·rw[IF];exact⟨hbx.1,hbx.2.give 0 R _ R⟩
 ·rw[e 6 (by decide),e 8 (by decide)];exact h.ne
end
theorem N0 (X:Wd) (p:Int) (b:Int×Int):∀ (l:List (Int×Int)) (n:Int),Jh X p (l++[b]) n=IntKind.i64.wrap (Jh X p l n+(Ij X b.1 b.2 p).1)
 | [],n=>rfl
 | x :: l,n=>N0 X p b l _
theorem Vx(X:Wd)(p:Int)(l:List (Int×Int))(j:Nat)(h:j<l.length):Jh X p (l.take (j+1)) 0=IntKind.i64.wrap (Jh X p (l.take j) 0+(Ij X (l.getD j (0,0)).1 (l.getD j (0,0)).2 p).1):=by
 rw[List.take_succ_eq_append_getElem h,N0,List.getD_eq_getElem?_getD,List.getElem?_eq_getElem h];rfl
theorem kV:(Tryz.prog.info? 3).map (·.size)=some 1:=by kernel_rfl
structure AQ(w:World)(lo b:Nat)(A:Option Addr)(c n:Nat)(cs:List Value)(Aw:Option Addr)(cw:Nat)(Gw:Option Addr)(gw:Nat)(X:Wd)(B4 wb:Nat)(acc:Int)(W:World):Prop where
 bx:GJ b [([.int .i64 0,.int .i64 0,.int .i64 0,.slice A n c,.int .i64 acc],64)] W
 own:W.ownsRow lo 61 2 (.slice A n c) n cs
 ne:(Value.slice A n c).ownBlock≠some b
 wl:GJ wb [([.slice Aw X.rows.length cw,.slice Gw X.gens.length gw],43)] W
 wn:Gv B4 W Aw cw Gw gw X
 rb:GJ (w.heap.size+1) [([.int .i64 0,.int .i64 0,.int .i64 0,.slice none 0 0,.int .i64 0],64)] W
 bel:Below w.heap.size w W
 lb:w.heap.size+2≤b∧b<B4∧B4≤wb
section
variable {w:World} {lo b:Nat} {A:Option Addr} {c n:Nat} {cs:List Value} {Aw:Option Addr} {cw:Nat} {Gw:Option Addr} {gw:Nat} {X:Wd} {B4 wb:Nat} {acc:Int} {W W1:World}
theorem AQ.below(h:AQ w lo b A c n cs Aw cw Gw gw X B4 wb acc W)(hb:Below W.heap.size W W1):AQ w lo b A c n cs Aw cw Gw gw X B4 wb acc W1 :=
 ⟨h.bx.below hb,FT h.own hb,h.ne,h.wl.below hb,h.wn.below hb,h.rb.below hb,h.bel.trans (hb.mono h.bel.size),h.lb⟩
theorem AQ.put(h:AQ w lo b A c n cs Aw cw Gw gw X B4 wb acc W)(acc':Int):AQ w lo b A c n cs Aw cw Gw gw X B4 wb acc' (W.setCell ⟨b,4,N⟩ (I K acc')):=by
 obtain⟨l1,l2,l3⟩:=h.lb;refine⟨?_,B7 h.own (a:=⟨b,4,N⟩) h.ne _,h.ne,h.wl.turn (cb:=b) (o:=4) (vs:=[I K acc']) (.inl (by omega)),IB (b:=b) (o:=4) (vs:=[I K acc']) h.wn l2,h.rb.turn (cb:=b) (o:=4) (vs:=[I K acc']) (.inr (by simp only[AJ,AK];omega)),h.bel.setCell (p:=⟨b,4,N⟩) (by show w.heap.size≤b;omega) _,h.lb⟩;have:=h.bx.part 0 R 4 [I K acc'] (by simp);rw[Ay]at this;exact this
end
theorem fE(p:Nat)(T:Option Addr)(tc:Nat)(G:Option Addr)(gc:Nat)(u2 u3 u4:Value)(X:Wd)(fa fn part:Int)(w:World)(hB:GJ p [([S T (FG X).length tc,S G X.gens.length gc,u2,u3,u4],87)] w)(hS:Ir w T G (FG X) X)(h1:FV fa=false):
  Calls Au 79 #[Ae (O ⟨p,0,N⟩),Af #[I K fa,I K fn],I K part] w fun e w'=>e=Ao (Af #[I K 3,I K 0,I K 0,S N 0 0,I K 0])∧Below w.heap.size w w':=by
 have hSA:=Hs fa;have hSN:=Hs fn;have hSP:=Jq part;rw[h1]at hSA;clear hS;obtain⟨W0,hW0,hbx,hX0⟩:=Gs w [([I K fa,I K fn],34),([I K 0,I K 0,I K 0,S N 0 0,I K 0],64)];have HW0:Hid ((w.alloc (Al #[I K fa,I K fn] 34)).alloc (Al #[I K 0,I K 0,I K 0,S N 0 0,I K 0] 64)=W0):=An hW0;clear hW0;have hp:p<w.heap.size:=hB.lt (k:=0) R;have hz0:w.heap.size+2≤W0.heap.size:=hX0.sz (by simp);have HP0:=An (hB.below hbx);obtain⟨f0,f1⟩:=hX0.g2 R;clear hB;go_enter Tryz.func79,Tryz.ntmps79
 go_upto_region 1 with fail
 rw[AN HW0];go_wp2_with fail
 go_at_call 44;refine(hSA _).mono ?_;rintro e w1⟨rfl,hw⟩;obtain rfl:=hw.symm;go_wp2_with((refine As R 64 (Am 6) (Am 28) R (w.heap.size+1) 0 [I K 3,I K 0,I K 0,S N 0 0,I K 0] R R (by simp[Ar]) JT (hX0.there 1 R 5 R) ?_;intro W2 hW2;have HX2:=(hX0.give 1 R [I K 3,I K 0,I K 0,S N 0 0,I K 0] R);have HE:=(Bv (B:=w.heap.size) (w.heap.size+1) (by omega) [I K 3,I K 0,I K 0,S N 0 0,I K 0] 0 _ hbx);rw[←hW2]at HX2 HE;clear hW2))
 obtain⟨r0,r1,r2,r3,r4⟩:=HX2.f5 1 R;refine AG (by simp[results,Tryz.results79,go_sem,r0,r1,r2,r3,r4]<;>rfl) R ⟨rfl,HE⟩
theorem fD(p:Nat)(T:Option Addr)(tc:Nat)(G:Option Addr)(gc:Nat)(u2 u3 u4:Value)(X:Wd)(fa fn part:Int)(w:World)(hB:GJ p [([S T (FG X).length tc,S G X.gens.length gc,u2,u3,u4],87)] w)(hS:Ir w T G (FG X) X)(h1:FV fa=true)(h2:FV fn=false):
  Calls Au 79 #[Ae (O ⟨p,0,N⟩),Af #[I K fa,I K fn],I K part] w fun e w'=>e=Ao (Af #[I K 3,I K 0,I K 0,S N 0 0,I K 0])∧Below w.heap.size w w':=by
 have hSA:=Hs fa;have hSN:=Hs fn;have hSP:=Jq part;rw[h1]at hSA;rw[h2]at hSN;clear hS;obtain⟨W0,hW0,hbx,hX0⟩:=Gs w [([I K fa,I K fn],34),([I K 0,I K 0,I K 0,S N 0 0,I K 0],64)];have HW0:Hid ((w.alloc (Al #[I K fa,I K fn] 34)).alloc (Al #[I K 0,I K 0,I K 0,S N 0 0,I K 0] 64)=W0):=An hW0;clear hW0;have hp:p<w.heap.size:=hB.lt (k:=0) R;have hz0:w.heap.size+2≤W0.heap.size:=hX0.sz (by simp);have HP0:=An (hB.below hbx);obtain⟨f0,f1⟩:=hX0.g2 R;clear hB;go_enter Tryz.func79,Tryz.ntmps79
 go_upto_region 1 with fail
 rw[AN HW0];go_wp2_with fail
 go_at_call 44;refine(hSA _).mono ?_;rintro e w1⟨rfl,hw⟩;obtain rfl:=hw.symm;go_wp2_with fail
 go_at_call 44;refine(hSN _).mono ?_;rintro e w1⟨rfl,hw⟩;obtain rfl:=hw.symm;go_wp2_with((refine As R 64 (Am 6) (Am 28) R (w.heap.size+1) 0 [I K 3,I K 0,I K 0,S N 0 0,I K 0] R R (by simp[Ar]) JT (hX0.there 1 R 5 R) ?_;intro W2 hW2;have HX2:=(hX0.give 1 R [I K 3,I K 0,I K 0,S N 0 0,I K 0] R);have HE:=(Bv (B:=w.heap.size) (w.heap.size+1) (by omega) [I K 3,I K 0,I K 0,S N 0 0,I K 0] 0 _ hbx);rw[←hW2]at HX2 HE;clear hW2))
 obtain⟨r0,r1,r2,r3,r4⟩:=HX2.f5 1 R;refine AG (by simp[results,Tryz.results79,go_sem,r0,r1,r2,r3,r4]<;>rfl) R ⟨rfl,HE⟩
theorem fC(p:Nat)(T:Option Addr)(tc:Nat)(G:Option Addr)(gc:Nat)(u2 u3 u4:Value)(X:Wd)(fa fn part:Int)(w:World)(hB:GJ p [([S T (FG X).length tc,S G X.gens.length gc,u2,u3,u4],87)] w)(hS:Ir w T G (FG X) X)(h1:FV fa=true)(h2:FV fn=true)(h3:F5 part=false):
  Calls Au 79 #[Ae (O ⟨p,0,N⟩),Af #[I K fa,I K fn],I K part] w fun e w'=>e=Ao (Af #[I K 3,I K 0,I K 0,S N 0 0,I K 0])∧Below w.heap.size w w':=by
 have hSA:=Hs fa;have hSN:=Hs fn;have hSP:=Jq part;rw[h1]at hSA;rw[h2]at hSN;rw[h3]at hSP;clear hS;obtain⟨W0,hW0,hbx,hX0⟩:=Gs w [([I K fa,I K fn],34),([I K 0,I K 0,I K 0,S N 0 0,I K 0],64)];have HW0:Hid ((w.alloc (Al #[I K fa,I K fn] 34)).alloc (Al #[I K 0,I K 0,I K 0,S N 0 0,I K 0] 64)=W0):=An hW0;clear hW0;have hp:p<w.heap.size:=hB.lt (k:=0) R;have hz0:w.heap.size+2≤W0.heap.size:=hX0.sz (by simp);have HP0:=An (hB.below hbx);obtain⟨f0,f1⟩:=hX0.g2 R;clear hB;go_enter Tryz.func79,Tryz.ntmps79
 go_upto_region 1 with fail
 rw[AN HW0];go_wp2_with fail
 go_at_call 44;refine(hSA _).mono ?_;rintro e w1⟨rfl,hw⟩;obtain rfl:=hw.symm;go_wp2_with fail
 go_at_call 44;refine(hSN _).mono ?_;rintro e w1⟨rfl,hw⟩;obtain rfl:=hw.symm;go_wp2_with fail
 go_at_call 118;refine(hSP _).mono ?_;rintro e w1⟨rfl,hw⟩;obtain rfl:=hw.symm;go_wp2_with((refine As R 64 (Am 6) (Am 28) R (w.heap.size+1) 0 [I K 3,I K 0,I K 0,S N 0 0,I K 0] R R (by simp[Ar]) JT (hX0.there 1 R 5 R) ?_;intro W2 hW2;have HX2:=(hX0.give 1 R [I K 3,I K 0,I K 0,S N 0 0,I K 0] R);have HE:=(Bv (B:=w.heap.size) (w.heap.size+1) (by omega) [I K 3,I K 0,I K 0,S N 0 0,I K 0] 0 _ hbx);rw[←hW2]at HX2 HE;clear hW2))
 obtain⟨r0,r1,r2,r3,r4⟩:=HX2.f5 1 R;refine AG (by simp[results,Tryz.results79,go_sem,r0,r1,r2,r3,r4]<;>rfl) R ⟨rfl,HE⟩
theorem jj(p:Nat)(T:Option Addr)(tc:Nat)(G:Option Addr)(gc:Nat)(u2 u3 u4:Value)(X:Wd)(fa fn part:Int)(w:World)(hB:GJ p [([S T (FG X).length tc,S G X.gens.length gc,u2,u3,u4],87)] w)(hS:Ir w T G (FG X) X)(h1:FV fa=true)(h2:FV fn=true)(h3:F5 part=true):
  Calls Au 79 #[Ae (O ⟨p,0,N⟩),Af #[I K fa,I K fn],I K part] w fun e w'=>∃A c,e=Ao (Af #[I K 0,I K 0,I K 0,S A (GV X fa fn X.rows.length).length c,I K (Jh X part (GV X fa fn X.rows.length) 0)])∧w'.ownsRow (w.heap.size+2) 61 2 (S A (GV X fa fn X.rows.length).length c) (GV X fa fn X.rows.length).length (Fz (GV X fa fn X.rows.length))∧Below w.heap.size w w':=by
 have hSA:=Hs fa;have hSN:=Hs fn;have hSP:=Jq part;rw[h1]at hSA;rw[h2]at hSN;rw[h3]at hSP;obtain⟨hl,_,_⟩:=GD ((F7 X).2 hS.right);have hM:=fun W (hb:Below w.heap.size w W)=>V5 T tc G gc (FG X) X fa fn W (hS.below hb);have hWD:=fun W (hb:Below w.heap.size w W)=>Nz T tc G gc (FG X) X W (hS.below hb);have hGT:=fun A c G' gc' i g W (h:FX W A c G' gc' X)=>P4 A X.rows.length c G' X.gens.length gc' (fun j=>X.rows.getD j dR) i g part W (by omega) h.rows;have hbl:(GV X fa fn X.rows.length).length≤60:=by
  unfold GV;rw[Bj];refine AU (BT _ _) ?_;rw[AZ];omega
 unfold JN at hM hWD;unfold Up FF at hWD;unfold FF FJ at hGT;have hge:∀i g,RD (fun j=>X.rows.getD j dR) X.rows.length i g part=Ij X i g part:=fun _ _=>rfl;simp only[hge]at hGT;have HST:=An (Vx X part (GV X fa fn X.rows.length));have HBG:=An (Tb (GV X fa fn X.rows.length));generalize GV X fa fn X.rows.length=bl at *;obtain⟨n,hn⟩:∃n,n=bl.length:=⟨_,rfl⟩;have HN:=An hn;rw[←hn]at hM hbl HST HBG⊢;generalize Fz bl=cs at *;have HSA:=An hSA;have HSN:=An hSN;have HSP:=An hSP;have HM:=An hM;have HWD:=An hWD;have HGT:=An hGT;clear hSA hSN hSP hS hM hWD hGT h1 h2 h3 hge hn;obtain⟨W0,hW0,hbx,hX0⟩:=Gs w [([I K fa,I K fn],34),([I K 0,I K 0,I K 0,S N 0 0,I K 0],64)];have HW0:Hid ((w.alloc (Al #[I K fa,I K fn] 34)).alloc (Al #[I K 0,I K 0,I K 0,S N 0 0,I K 0] 64)=W0):=An hW0;clear hW0;have hp:p<w.heap.size:=hB.lt (k:=0) R;have hz0:w.heap.size+2≤W0.heap.size:=hX0.sz (by simp);have HP0:=(hB.below hbx);have HL0:=An hbx;obtain⟨f0,f1⟩:=hX0.g2 R;clear hbx hB;go_enter Tryz.func79,Tryz.ntmps79
 go_upto_region 1 with fail
 rw[AN HW0];go_wp2_with fail
 go_at_call 44;refine(AN HSA _).mono ?_;rintro e w1⟨rfl,hw⟩;obtain rfl:=hw.symm;go_wp2_with fail
 go_at_call 44;refine(AN HSN _).mono ?_;rintro e w1⟨rfl,hw⟩;obtain rfl:=hw.symm;go_wp2_with fail
 go_at_call 118;refine(AN HSP _).mono ?_;rintro e w1⟨rfl,hw⟩;obtain rfl:=hw.symm;clear HSA HSN HSP f0 f1;have h0:=Vj.start W0 n cs;have H0:=An h0;clear h0;go_upto_region 3 with fail
 have h0:=AN H0;refine FW (fun(γ:G3)=>[Ae (O ⟨p,0,N⟩),Ae (O ⟨p,0,N⟩),Ae (O ⟨p,0,N⟩),Ae (O ⟨p,0,N⟩),Af #[S T (FG X).length tc,S G X.gens.length gc],Af #[I K fa,I K fn],S γ.A n γ.c,Af #[I K 0,I K 0,I K 0,S γ.A n γ.c,I K 0],Ae (O ⟨γ.b,0,N⟩),undef]) (fun(γ:G3) L W=>Vj W0 n cs γ L W) (⟨N,0,0⟩) (by kernel_rfl) (by kernel_rfl) (by kernel_rfl) (by kernel_rfl) h0 ?hstep ?hend
 case hstep =>
  intro F γ hout hkn ix o ho L w1 hD hL hed hcl;simp only[Hu,G9,Br,Bx]at hkn;have e0:F.tmps.getD 0 undef=Ae (O ⟨p,0,N⟩):=hout 0 (by decide +kernel);have e4:F.tmps.getD 4 undef=Ae (O ⟨w.heap.size,0,N⟩):=hout 4 (by decide +kernel)
  match ix,ho with
  |0,ho|1,ho|2,ho|3,ho|7,ho =>
   simp at ho;subst ho;exact .inl ⟨rfl,FB γ _ (by simp[go_sem,Aq,-Ap,hkn,e0]) R (hD.same (by decide) (by decide) (by decide)) (fun _ _ _=>rfl)⟩
  |4,ho =>
   simp at ho;subst ho;have bb:=HP0.below hD.bel;obtain⟨c0,c1⟩:=bb.g2 R;exact .inl ⟨rfl,FB γ _ (by simp[go_sem,Aq,-Ap,hkn,c0,c1]) R (hD.same (by decide) (by decide) (by decide)) (fun _ _ _=>rfl)⟩
  |5,ho =>
   simp at ho;subst ho;have bb:=hX0.below hD.bel;obtain⟨c0,c1⟩:=bb.g2 R;exact .inl ⟨rfl,FB γ _ (by simp[go_sem,Aq,-Ap,e4,c0,c1]) R (hD.same (by decide) (by decide) (by decide)) (fun _ _ _=>rfl)⟩
  |6,ho =>
   simp at ho;subst ho;have q7:L 7=false:=FA hcl hL 10 7 (by kernel_rfl);have q9:L 9=false:=FA hcl hL 10 9 (by kernel_rfl);refine .inl ⟨rfl,GU 119 #[Af #[S T (FG X).length tc,S G X.gens.length gc],Af #[I K fa,I K fn]] (by simp[go_sem,Aq,-Ap,hkn]) ?_⟩;refine(AN HM w1 ((AN HL0).trans (hD.bel.mono (AN HL0).size))).mono ?_;rintro e w6'⟨A6,c6,rfl,ho6,hb6⟩;exact⟨_,⟨A6,c6,γ.b⟩,rfl,rfl,hD.call q9 ho6 hb6,I5 hcl hL 10 [7] (by kernel_rfl) (fun j h1 h2=>by match j with|0|1|2|3|4|5|8|9=>rfl|6=>exact absurd R h1|7=>simp at h2|j+10=>rfl)⟩
  |8,ho =>
   simp at ho;subst ho;have q9:L 9=false:=FA hcl hL 10 9 (by kernel_rfl);exact .inl ⟨rfl,J' ⟨γ.A,γ.c,w1.heap.size⟩ (Ae (O ⟨w1.heap.size,0,N⟩)) (w2:=w1.alloc (Al #[I K 0,I K 0,I K 0,S N 0 0,I K 0] 64)) (by simp[go_sem,Aq]) R (hD.make q9) (fun j hj _=>by match j with|0|1|2|3|4|5|6|7|9=>rfl|8=>exact absurd R hj|j+10=>rfl)⟩
  |9,ho =>
   simp at ho;subst ho;have q8:L 8=true:=hed 8 (by kernel_rfl);have q7:L 7=true:=hed 7 (by kernel_rfl);have q6:L 6=true:=hcl 7 _ R q7 6 (by kernel_rfl);have hbx:=(hD.bx q8).2;rw[hL]at hbx;exact .inl ⟨rfl,Gy γ 64 (Am 7) (Am 36) R γ.b 0 [I K 0,I K 0,I K 0,S γ.A n γ.c,I K 0] (by simp[Aq,-Ap,hkn]) (by simp[Aq,-Ap,hkn]) (by simp[Ar]) JT (hbx.there 0 R 5 R) R (hD.put q6 q8 hL) (fun _ _ _=>rfl)⟩
  |ix+10,ho=>simp at ho
 case hend =>
  intro γ L w3 hD hall;have a6:=hall 6 (by decide);have a8:=hall 8 (by decide);have a9:=hall 9 (by decide);have hbx:=hD.bx a8;rw[a9,AF R]at hbx;have ho:=hD.own a6;have hne:=hD.ne a6 a8;have hbl3:=hD.bel;obtain⟨A3,c3,b3⟩:=γ;dsimp only at hbx ho hne;obtain⟨hlo3,hbx⟩:=hbx;have HL3:=An ((AN HL0).trans (hbl3.mono (AN HL0).size));have hP3:=HP0.below hbl3;have HRB3:(GJ (w.heap.size+1) [([I K 0,I K 0,I K 0,S N 0 0,I K 0],64)] w3):=(fun k vs t hk=>by
   match k,hk with
   |0,hk=>have:=(hX0.below hbl3) 1 vs t hk;simpa using this
   |k+1,hk=>simp at hk)
  obtain⟨s0,s1⟩:=hP3.g2 R;have HBX:=hbx;have HO:=An ho;have HNE:=An hne;have hb3l:b3<w3.heap.size:=hbx.lt (k:=0) R;clear hall hD h0 a6 a8 a9 hbx ho hne hbl3 hP3 hX0 HP0 H0 HM;simp only[GN,AI,AH,Ba,AJ,AK,Nat.reduceAdd,Bf,Be];go_frame;go_wp2_with fail
  go_at_call 25;refine(AN HWD w3 (AN HL3)).mono ?_;rintro e w4⟨A4,c4,G4,gc4,rfl,hN4,hb4⟩;obtain⟨W5,hW5,hbx,hX5⟩:=Gs w4 [([S A4 X.rows.length c4,S G4 X.gens.length gc4],43)];have HW5:Hid (w4.alloc (Al #[S A4 X.rows.length c4,S G4 X.gens.length gc4] 43)=W5):=An hW5;clear hW5;have hb34:=hb4.trans (hbx.mono hb4.size);have hAQ:AQ w W0.heap.size b3 A3 c3 n cs A4 c4 G4 gc4 X w3.heap.size w4.heap.size 0 W5:=⟨HBX.below hb34,FT (AN HO) hb34,AN HNE,hX5,hN4.below hbx,HRB3.below hb34,(AN HL3).trans (hb34.mono (AN HL3).size),⟨by omega,hb3l,hb4.size⟩⟩;have t3:=hAQ.bx.cell 0 R 3 R;rw[Ay]at t3;have HAQ:=An hAQ;clear s0 s1 hN4 hb4 hbx hb34 hX5 hAQ HBX HO HNE HRB3 HL3 HWD;go_upto_region 5 with fail
  rw[AN HW5];go_wp2_with fail
  clear t3;go_loopw [46] (fun x wr=>∃j:Nat,j≤n∧x=I K (j:Int)∧AQ w W0.heap.size b3 A3 c3 n cs A4 c4 G4 gc4 X w3.heap.size w4.heap.size (Jh X part (bl.take j) 0) wr) (fun x _=>n - (intOf x).toNat)
  case atStart=>exact⟨0,AS _,rfl,AN HAQ⟩
  case round =>
   clear HAQ;obtain⟨j,hj,rfl,hAQ⟩:=hrel;by_cases hlt:j<n
   ·have j0:(0:Int)≤(j:Int):=(by omega);have j1:(j:Int)<(n:Int):=(by omega);obtain⟨wk,rfl⟩:∃wk,wk=wr:=⟨_,rfl⟩;obtain⟨g,cg,hA3,_,_⟩:=Gi hAQ.own (by omega);simp only[A9,Br]at hA3;obtain⟨rfl,rfl⟩:=hA3;have c0:=F4 hAQ.own (AN HBG j hlt).1;have c1:=F4 hAQ.own (AN HBG j hlt).2;have HS:=An (AN HST j hlt);generalize (bl.getD j (0,0)).1=bi at *;generalize (bl.getD j (0,0)).2=bg at *;obtain⟨W6,hW6,hbx,hX6⟩:=Gs wk [([I K bi,I K bg],61)];have HW6:Hid (wk.alloc (Al #[I K bi,I K bg] 61)=W6):=An hW6;clear hW6;have HA6:=(hAQ.below hbx);have HZ6:=An hX6;obtain⟨z0,z1⟩:=hX6.g2 R;obtain⟨y0,y1⟩:=HA6.wl.g2 R;generalize Jh X part (bl.take j) 0=acc at *;clear hbx hX6 hAQ;go_upto_region 8 with fail
    rw[AN HW6];go_wp2_with fail
    go_at_call 120;refine(AN HGT A4 c4 G4 gc4 bi bg W6 HA6.wn.toFX).mono ?_;rintro e w7⟨rfl,hb7⟩;have HA7:=(HA6.below hb7);have t4:=HA7.bx.cell 0 R 4 R;rw[Ay]at t4;generalize (Ij X bi bg part).1=gv at *;generalize (Ij X bi bg part).2=gb at *;clear c0 c1 z0 z1 y0 y1 hb7 HZ6;go_wp2_with((refine FU R 3 (Am 61) (Am 60) R b3 4 _ R R R kV (Hj (HA7.bx.there 0 R 5 R) 4 1 (by omega)) ?_;intro W8 hW8;have HW8:=An hW8;clear hW8))
    go_roundw
    case rel=>exact⟨j+1,by omega,by go_num,by rw[AN HS,AN HW8,EE];exact HA7.put _⟩
    case measure=>simp[intOf];omega
   ·have hjn:n=j:=(by omega);subst hjn;have htk:bl.take n=bl:=(by rw[AN HN,BN]);rw[htk]at hAQ;obtain⟨t0,t1,t2,t3,t4⟩:=hAQ.bx.g5 R;obtain⟨acc,hacc⟩:∃acc,acc=Jh X part bl 0:=⟨_,rfl⟩;rw[←hacc]at hAQ t4;have HAC:=An hacc;have HA:=hAQ;clear hacc;clear hAQ htk;go_wp2_with((refine As R 64 (Am 6) (Am 63) R (w.heap.size+1) 0 [I K 0,I K 0,I K 0,S A3 n c3,I K acc] R R (by simp[Ar]) JT (HA.rb.there 0 R 5 R) ?_;intro W9 hW9;have HR9:=(HA.rb.give 0 R [I K 0,I K 0,I K 0,S A3 n c3,I K acc] R);have HE9:=An (Bv (B:=w.heap.size) (w.heap.size+1) (by omega) [I K 0,I K 0,I K 0,S A3 n c3,I K acc] 0 _ HA.bel);have HO9:=An (Iu HA.own ((Tw.refl (fun b=>b=w.heap.size+1) _).sets (b:=w.heap.size+1) (o:=0) (vs:=[I K 0,I K 0,I K 0,S A3 n c3,I K acc]) (.inl R)) (fun g hg hb=>by have:=(HA.own.lt g hg).1;omega));rw[Ay]at HR9;rw[←hW9]at HR9 HE9 HO9;clear hW9))
    obtain⟨r0,r1,r2,r3,r4⟩:=HR9.g5 R;refine AG (by simp[results,Tryz.results79,go_sem,r0,r1,r2,r3,r4]<;>rfl) R ⟨A3,c3,by rw[AN HAC],Oe (AN HO9) (by omega),AN HE9⟩
end Go.Proofs.YtnbleebilmghcabGreat
