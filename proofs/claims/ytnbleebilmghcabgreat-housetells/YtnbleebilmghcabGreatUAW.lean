/- Clash, Wrong, Right, SGet, May, Refs, RAct -/
import Derived.Test.YtnbleebilmghcabGreatUAC
import Derived.Test.YtnbleebilmghcabGreatUAJ
import Derived.Test.YtnbleebilmghcabGreatUAX
set_option linter.all false
set_option maxRecDepth 8000
set_option maxHeartbeats 4000000
open Go.Value renaming int→I,slice→S,pointer→Ae,agg→Af,bool→Aj,oneCell'→Ar
open Go.IntKind renaming i64→K
open Option renaming none→N,some→O
open Go.Obj renaming cells→Al
open Go.Operand renaming tmp→Am
open Go.Ending renaming returned→Ao
open Go.Proofs.Tryz renaming prog→Au
namespace Go.Proofs.YtnbleebilmghcabGreat
open Go Go.RowKit
attribute [local go_sem ↓] Go.wp_at_zero Go.wp_at_succ
def Zs(u r v:Int):Bool:=bits .and K u (bits .or K r v) != 0
def nV(r u:Int)(m l:Bool):Value:=Af #[I K r,I K u,Aj m,Aj l]
theorem Oo(r u h D:Int)(m l E F:Bool)(w:World):
  Calls Au 70 #[nV r u m l,nV h D E F] w fun e H=>e=Ao (Aj (Zs u h D))∧Below w.heap.size w H:=by
 unfold nV;go_enter Tryz.func70,Tryz.ntmps70
 go_wp2;go_ret;exact⟨rfl,by go_grown⟩
theorem iA(o:Oper)(F:o.op=.alloc 99)(a:Act)(w:World)(K:Act→World→Prop)(Q:Exit→Act→World→Prop)
  (h:K (a.put o.dst (Ae (O ⟨w.heap.size,0,N⟩))) (w.alloc (Al #[I .i64 0,I .i64 0,Aj false,Aj false] 99))):o.wp Au a w K Q:=by
 obtain⟨H,L,M,J,D,E⟩:=o;dsimp only at F;subst F;simp[go_sem];exact h
theorem jV:(Au.info? 99).map (·.size)=O 4:=by kernel_rfl
structure Zq(w:World)(g0 g1:Nat)(r u:Int)(m l:Bool)(r' u':Int)(m' l':Bool)(w1:World):Prop where
 bel:Below w.heap.size w w1
 c0:w1.cell? ⟨g0,0,N⟩=O (I K r)
 c1:w1.cell? ⟨g0,1,N⟩=O (I K u)
 c2:w1.cell? ⟨g0,2,N⟩=O (Aj m)
 c3:w1.cell? ⟨g0,3,N⟩=O (Aj l)
 d0:w1.cell? ⟨g1,0,N⟩=O (I K r')
 d1:w1.cell? ⟨g1,1,N⟩=O (I K u')
 d2:w1.cell? ⟨g1,2,N⟩=O (Aj m')
 d3:w1.cell? ⟨g1,3,N⟩=O (Aj l')
theorem Zq.below{w:World}{E F:Nat}{r u:Int}{m l:Bool}{H J:Int}{L M:Bool}{w1 w2:World}(h:Zq w E F r u m l H J L M w1)(D:Below w1.heap.size w1 w2):Zq w E F r u m l H J L M w2 :=
 ⟨h.bel.trans (D.mono h.bel.size),AW D h.c0,AW D h.c1,AW D h.c2,AW D h.c3,AW D h.d0,AW D h.d1,AW D h.d2,AW D h.d3⟩
def Z4(r u:Int)(m l:Bool)(r' u':Int)(m' l':Bool)(k:Nat):List Value:=if k=0 then [I K r,I K u,Aj m,Aj l]else [I K r',I K u',Aj m',Aj l']
theorem OV{id:Nat}{Q:Exit→Act→World→Prop}{a:Act}{w:World}(J L M U h D E F:Oper)(H V Y Z:Tmp)(hy:H≠Y∧H≠Z∧V≠Y∧V≠Z)
  (h4:h.op=.alloc 99∧h.dst=O Y) (h5:D.op=.alloc 99∧D.dst=O Z)
  (h6:E.op=.store 99 (Am Y) (Am H)∧E.dst=N) (h7:F.op=.store 99 (Am Z) (Am V)∧F.dst=N)
  (hb:Mp #[J,L,M,U,h,D,E,F]=true) (ha:YP [J,L,M,U,h,D,E,F]=true) (hc:ZR [J,L,M,U,h,D,E,F]=true)
  (hg:[J,L,M,U,h,D,E,F].all (fun o=>o.guard.isNone)=true) (hd:Region.noSelect #[J,L,M,U,h,D,E,F]=true) (hh:Y<a.tmps.size) (hi:Z<a.tmps.size)
  (r u:Int) (m l:Bool) (r' u':Int) (m' l':Bool) (x0 x1:Tmp) (v0 v1:Value) (af:Act) (he:af=(((a.put (O x0) v0).put (O H) (nV r u m l)).put (O x1) v1).put (O V) (nV r' u' m' l'))
  (hx:x1≠H∧V≠H) (hj:H<a.tmps.size) (hl:V<a.tmps.size)
  (hq:∀w1,Below w.heap.size w w1→wpQuiet Au #[J,L,M,U,h,D,E,F] (fun w'=>∃x:Hm w1,w'=x.val) (fun a'=>a'=af) [J,L,M,U] a)
  (hf:∀g0 g1 w1,Zq w g0 g1 r u m l r' u' m' l' w1→Q .normal ((af.put (O Y) (Ae (O ⟨g0,0,N⟩))).put (O Z) (Ae (O ⟨g1,0,N⟩))) w1):
  (Code.region id #[J,L,M,U,h,D,E,F] true).wp Au Q a w:=by
 have e0:af.eval (Am H)=nV r u m l:=by
  show af.tmps.getD H undef=_;rw[he,Hv,AA (fun e=>hx.2 e.1),Hv,AA (fun e=>hx.1 e.1),Hv,AF ⟨rfl,by rw[II];exact hj⟩]
 have e1:af.eval (Am V)=nV r' u' m' l':=by
  show af.tmps.getD V undef=_;rw[he,Hv,AF ⟨rfl,by rw[II,II,II];exact hl⟩]
 refine QC (ops:=[J,L,M,U,h,D,E,F]) 4 2 (s:=fun k=>if k=0 then Y else Z) (T:=fun _=>99) (y:=fun k=>if k=0 then Am H else Am V)
  (z:=fun _=>#[I K 0,I K 0,Aj false,Aj false]) (sz:=fun _=>4) (Z4 r u m l r' u' m' l') ?_ (by kernel_rfl) hb ha hc hg hd ?_ ?_ af hq ?_ ?_
 ·refine⟨rfl,fun k hk=>?_,fun k hk=>?_,fun k _ o ho=>iA o ho,fun _ _=>rfl,fun _ _=>jV⟩
  ·rcases(by omega:k=0∨k=1)with rfl|rfl
   ·exact⟨h,rfl,h4.1,h4.2⟩
   ·exact⟨D,rfl,h5.1,h5.2⟩
  ·rcases(by omega:k=0∨k=1)with rfl|rfl
   ·exact⟨E,rfl,h6.1,h6.2⟩
   ·exact⟨F,rfl,h7.1,h7.2⟩
 ·intro k hk k' hm;rcases(by omega:k=0∨k=1)with rfl|rfl <;>rcases(by omega:k'=0∨k'=1)with rfl|rfl <;>simp <;>first|exact hy.1|exact hy.2.1|exact hy.2.2.1|exact hy.2.2.2
 ·intro k hk;rcases(by omega:k=0∨k=1)with rfl|rfl
  ·exact hh
  ·exact hi
 ·intro k hk;rcases(by omega:k=0∨k=1)with rfl|rfl
  ·exact⟨e0,rfl,by simp[Z4,Ar]⟩
  ·exact⟨e1,rfl,by simp[Z4,Ar]⟩
 ·intro v g w1 hv;have p0:=(hv.own 0 (by omega) R).1;have p1:=(hv.own 1 (by omega) R).1;have R0:=(hv.has 0 (by omega) R).2;have R1:=(hv.has 1 (by omega) R).2;have:=hf (g 0) (g 1) w1 ⟨hv.bel,by simpa using R0 0 _ R,by simpa using R0 1 _ R,by simpa using R0 2 _ R,by simpa using R0 3 _ R,by simpa using R1 0 _ R,by simpa using R1 1 _ R,by simpa using R1 2 _ R,by simpa using R1 3 _ R⟩;simpa[JB,p0,p1]using this
def Xw(r u:Int)(m l:Bool)(r' u':Int)(m' l':Bool):Bool:=m || (m' || (l || (l' || (Zs u r' u' || Zs u' r u))))
def gk(al:Int)(a:Nat→F')(len:Nat)(al':Int)(a':Nat→F')(len':Nat):Bool :=
 Xw (Jo a len) (I7 a len) (J5 al a len) (J6 a len) (Jo a' len') (I7 a' len') (J5 al' a' len') (J6 a' len')
theorem ZZ(m al no:Int)(A:Option Addr)(len L:Nat)(a:Nat→F')(m' H M:Int)(A':Option Addr)(D F:Nat)(a':Nat→F')(w:World)(hl:len≤8)(hm:D≤8)(hA:GZ w A len a)(hf:GZ w A' D a'):
  Calls Au 39 #[Gz m al no A len L,Gz m' H M A' D F] w fun e w'=>e=Ao (Aj (gk al a len H a' D))∧Below w.heap.size w w':=by
 have hg:∀W1,Below w.heap.size w W1→Calls Au 49 #[Gz m al no A len L] W1 fun e w'=>e=Ao (Ju al a len)∧Below W1.heap.size W1 w':=fun W1 h=>PE m al no A len L a W1 hl (hA.below h);have hh:∀W1,Below w.heap.size w W1→Calls Au 49 #[Gz m' H M A' D F] W1 fun e w'=>e=Ao (Ju H a' D)∧Below W1.heap.size W1 w':=fun W1 h=>PE m' H M A' D F a' W1 hm (hf.below h);unfold gk;unfold Ju Gz at *;generalize Jo a len=r at *;generalize I7 a len=u at *;generalize J5 al a len=mv at *;generalize J6 a len=lf at *;generalize Jo a' D=r' at *;generalize I7 a' D=u' at *;generalize J5 H a' D=Y at *;generalize J6 a' D=Z at *;clear hA hf;go_enter Tryz.func39,Tryz.ntmps39
 go_wp2;obtain⟨W,U⟩:∃W,W=(w.alloc (Al #[I K m,I K al,I K no,S A len L] 37)).alloc (Al #[I K m',I K H,I K M,S A' D F] 37):=⟨_,rfl⟩;have hB:Below w.heap.size w W:=by rw[U];go_grown
 have p0:W.cell? ⟨w.heap.size,0,N⟩=O (I K m):=by rw[U];simp[go_sem]
 have p1:W.cell? ⟨w.heap.size,1,N⟩=O (I K al):=by rw[U];simp[go_sem]
 have p2:W.cell? ⟨w.heap.size,2,N⟩=O (I K no):=by rw[U];simp[go_sem]
 have p3:W.cell? ⟨w.heap.size,3,N⟩=O (S A len L):=by rw[U];simp[go_sem]
 have q0:W.cell? ⟨w.heap.size+1,0,N⟩=O (I K m'):=by rw[U];simp[go_sem]
 have q1:W.cell? ⟨w.heap.size+1,1,N⟩=O (I K H):=by rw[U];simp[go_sem]
 have q2:W.cell? ⟨w.heap.size+1,2,N⟩=O (I K M):=by rw[U];simp[go_sem]
 have q3:W.cell? ⟨w.heap.size+1,3,N⟩=O (S A' D F):=by rw[U];simp[go_sem]
 rw[←U];clear U;rename_i K1 hi;refine OV _ _ _ _ _ _ _ _ 8 10 5 6 (by decide) ⟨rfl,rfl⟩ ⟨rfl,rfl⟩ ⟨rfl,rfl⟩ ⟨rfl,rfl⟩ (by kernel_rfl) (by kernel_rfl) (by kernel_rfl) (by kernel_rfl) (by kernel_rfl) (by simp) (by simp) r u mv lf r' u' Y Z 7 9
  (Af #[I K m,I K al,I K no,S A len L]) (Af #[I K m',I K H,I K M,S A' D F]) _ R (by decide) (by simp) (by simp) ?q ?fin
 case q =>
  intro w1 E;have hr:Nonempty (Hm w1):=⟨⟨w1,AD _ _⟩⟩;have p0:=B1 (AW E p0);have p1:=B1 (AW E p1);have p2:=B1 (AW E p2);have p3:=B1 (AW E p3);have q0:=B1 (AW E q0);have q1:=B1 (AW E q1);have q2:=B1 (AW E q2);have q3:=B1 (AW E q3);have ha:=An (hB.trans (E.mono hB.size));clear E;have hn:=(fun x:Hm w1=>hg x.val ((AN ha).trans (x.bel.mono (AN ha).size)));have ho:=(fun x:Hm w1=>hh x.val ((AN ha).trans (x.bel.mono (AN ha).size)));go_big_quiet_step(fail)
  go_big_quiet_step((go_at_call 49;exact Gf (hn _)))
  go_big_quiet_step(fail)
  go_big_quiet_step((go_at_call 49;exact Gf (ho _)))
  exact Bg (by simp[Act.put,nV])
 case fin =>
  intro g0 g1 w1 V;have hj:Below w.heap.size w w1:=hB.trans (V.bel.mono hB.size);clear p0 p1 p2 p3 q0 q1 q2 q3 hg hh hB;simp[Act.put,nV];have hK:=hi;clear hi;have c0:=V.c0;have c1:=V.c1;have c2:=V.c2;have c3:=V.c3;have d0:=V.d0;have d1:=V.d1;have d2:=V.d2;have d3:=V.d3;have HD:=(Oo r u r' u' mv lf Y Z);have hp:=(Oo r' u' r u Y Z mv lf);have hb:=An hj;clear hj
  cases mv
  case' false=>cases Y
  case' false.false=>cases lf
  case' false.false.false=>cases Z
  case' false.false.false.false=>cases hd:Zs u r' u'
  all_goals
   go_wp2_with(first
    |(go_at_call 70;refine(HD _).mono ?_;rintro e w2⟨rfl,he⟩;clear HD;have J:=V.below he;clear c0 c1 c2 c3 d0 d1 d2 d3;have c0:=J.c0;have c1:=J.c1;have c2:=J.c2;have c3:=J.c3;have d0:=J.d0;have d1:=J.d1;have d2:=J.d2;have d3:=J.d3;have hc:=An ((AN hb).trans (he.mono (AN hb).size));clear J he hb)
    |(go_at_call 70;refine(hp _).mono ?_;rintro e w3⟨rfl,hk⟩;have hq:=((AN hc).trans (hk.mono (AN hc).size));clear hk hc))
   go_ret
   first
   |exact⟨by simp[Xw],AN hb⟩
   |exact⟨by simp[Xw,hd],AN hc⟩
   |exact⟨by simp[Xw,hd],hq⟩
def Lu(al:Int)(a:Nat→F'):Nat→Int
 |0=>al
 |j+1=>bits .and K (fJ (a j).k (a j).p (Lu al a j)) al
def QJ(al:Int)(a:Nat→F')(j:Nat):Int:=Nd (a j).k (a j).p (a j).f (a j).n (Lu al a j)
def Ms(al:Int)(a:Nat→F'):Nat→Nat→Int×Int
 |0,_=>(0,0)
 |n+1,j=>if QJ al a j=0 then Ms al a n (j+1)else(QJ al a j,(j:Int))
def Is(m al no:Int):Bool:=decide (0≤m∧m<6) && FV al && FV no
def MA(m al no:Int)(a:Nat→F')(len:Nat):Int×Int:=if Is m al no=false then(3,0)else if 8<len then(4,0)else Ms al a len 0
def GC(x:Int×Int):Value:=Af #[I K x.1,I K x.2]
structure iW(w:World)(al:Int)(wr:World):Prop where
 bel:Below w.heap.size w wr
 e1:wr.cell? ⟨w.heap.size,1,N⟩=O (I K al)
 t0:wr.cell? ⟨w.heap.size+1,0,N⟩=O (I K 0)
 t1:wr.cell? ⟨w.heap.size+1,1,N⟩=O (I K 0)
 f:∀i,wr.frozen? ⟨w.heap.size+1,i,N⟩=false
theorem iW.below{w E w1:World}{al:Int}(h:iW w al E)(D:Below E.heap.size E w1):iW w al w1 :=
 ⟨h.bel.trans (D.mono h.bel.size),AW D h.e1,AW D h.t0,AW D h.t1,fun i=>(D.frozen (p:=⟨w.heap.size+1,i,N⟩) (by have:=AL E _ h.t0;exact this)).trans (h.f i)⟩
theorem iW.start(w:World)(m al no:Int)(A:Option Addr)(len h:Nat):iW w al
  ((w.alloc (Al #[I K m,I K al,I K no,S A len h] 37)).alloc (Al #[I K 0,I K 0] 29)):=by
 obtain⟨w1,D⟩:∃W,W=w.alloc (Al #[I K m,I K al,I K no,S A len h] 37):=⟨_,rfl⟩;have H:w1.heap.size=w.heap.size+1:=by rw[D];simp
 have E:Below w.heap.size w w1:=by rw[D];exact Fv.alloc Fu _
 have J:w1.cell? ⟨w.heap.size,1,N⟩=O (I K al):=by rw[D];simp
 rw[←D];clear D;have F:Below w1.heap.size w1 (w1.alloc (Al #[I K 0,I K 0] 29)):=Fv.alloc Fu _;refine⟨E.trans (F.mono E.size),AW F J,?_,?_,fun i=>?_⟩<;>rw[←H]<;>simp[go_sem]
theorem Vm(m al no:Int)(A:Option Addr)(len D:Nat)(w:World)(h:Is m al no=false):
  Calls Au 22 #[Gz m al no A len D] w fun e H=>e=Ao (GC (3,0))∧Below w.heap.size w H:=by
 have M:=iW.start w m al no A len D;unfold Is at h;unfold Gz;have J:m<0∨(¬ m<0∧6≤m)∨((¬ m<0∧¬ 6≤m)∧FV al=false)∨((¬ m<0∧¬ 6≤m)∧FV al=true∧FV no=false):=by
  cases E:FV al <;>cases F:FV no <;>simp[E,F]at h⊢ <;>omega
 clear h;rcases J with h0|⟨h0,E⟩|⟨⟨h0,E⟩,F⟩|⟨⟨h0,E⟩,F,U⟩
 all_goals
  go_enter Tryz.func22,Tryz.ntmps22
  go_wp2_with(first
   |(go_at_call 44;refine(Hs _ _).mono ?_;rintro e w1⟨rfl,L⟩;obtain rfl:=L.symm))
  refine AG (v:=GC (3,0)) (by simp[results,Tryz.results22,go_sem,GC]) R ⟨rfl,?_⟩;go_grown
theorem Vl(m al no:Int)(A:Option Addr)(len D:Nat)(w:World)(h:Is m al no=true)(J:8<len):
  Calls Au 22 #[Gz m al no A len D] w fun e E=>e=Ao (GC (4,0))∧Below w.heap.size w E:=by
 unfold Is at h;unfold Gz;simp only[AP,Ci]at h;obtain⟨⟨⟨h0,L⟩,M⟩,U⟩:=h;have F:(8:Int)<(len:Int):=by omega
 go_enter Tryz.func22,Tryz.ntmps22
 go_wp2_with(first
  |(go_at_call 44;refine(Hs _ _).mono ?_;rintro e w1⟨rfl,H⟩;obtain rfl:=H.symm))
 refine AG (v:=GC (4,0)) (by simp[results,Tryz.results22,go_sem,GC]) R ⟨rfl,?_⟩;go_grown
theorem Xs(al:Int)(a:Nat→F')(len j:Nat)(h:j<len):Ms al a (len - j) j=if QJ al a j=0 then Ms al a (len - (j+1)) (j+1)else(QJ al a j,(j:Int)):=by
 rw[show len - j=(len - (j+1))+1 by omega,Ms]
theorem Vn(m al no:Int)(A:Option Addr)(len cap:Nat)(a:Nat→F')(w:World)(h:Is m al no=true)(hl:len≤8)(hA:GZ w A len a):
  Calls Au 22 #[Gz m al no A len cap] w fun e w'=>e=Ao (GC (Ms al a len 0))∧Below w.heap.size w w':=by
 have hW:=iW.start w m al no A len cap;unfold Is at h;unfold Gz;simp only[AP,Ci]at h;obtain⟨⟨⟨h0,h1⟩,h2⟩,h3⟩:=h;have hl':¬ (8:Int)<(len:Int):=by omega
 go_enter Tryz.func22,Tryz.ntmps22
 go_wp2_with(first
  |(go_at_call 44;refine(Hs _ _).mono ?_;rintro e w1⟨rfl,hw⟩;obtain rfl:=hw.symm))
 go_loopw [3,41] (fun r i wr=>∃j:Nat,j≤len∧i=I K j∧r=I K (Lu al a j)∧Ms al a len 0=Ms al a (len - j) j∧iW w al wr) (fun _ i _=>len - (intOf i).toNat)
 case atStart=>exact⟨0,AS _,rfl,rfl,rfl,hW⟩
 case round =>
  clear hW;obtain⟨j,hj,rfl,rfl,hF,hN⟩:=hrel;have HF:=An hF;clear hF;by_cases hlt:j<len
  ·have j0:(0:Int)≤(j:Int):=(by omega);have j1:(j:Int)<(len:Int):=(by omega);obtain⟨b,off,rfl,q0,q1,q2,q3⟩:=hA j hlt;have q0:=AW hN.bel q0;have q1:=AW hN.bel q1;have q2:=AW hN.bel q2;have q3:=AW hN.bel q3;have HN:=hN;have HS:=An (Xs al a len j hlt);have HR:Hid (Lu al a (j+1)=bits .and K (fJ (a j).k (a j).p (Lu al a j)) al):=rfl;have HE:Hid (QJ al a j=Nd (a j).k (a j).p (a j).f (a j).n (Lu al a j)):=rfl;clear hN hA;generalize QJ al a j=ej at *;generalize Lu al a j=rj at *;generalize a j=y at *;obtain⟨k,p,f,n⟩:=y;dsimp only at *;have HC:=St k p f n rj;rw[←AN HE]at HC;have HC:=HC;clear HE;by_cases he:ej=0
   ·subst he;go_wp2_with(first
     |(go_at_call 47;refine(HC _).mono ?_;rintro e w5⟨rfl,hb5⟩;have hN5:=HN.below (CO (Fv.alloc Fu _) (hb5.mono (by simp)));have d0:=AW hb5 (p:=⟨wr.heap.size,0,N⟩) (v:=I K k) (by simp);have d1:=AW hb5 (p:=⟨wr.heap.size,1,N⟩) (v:=I K p) (by simp);have d2:=AW hb5 (p:=⟨wr.heap.size,2,N⟩) (v:=I K f) (by simp);have d3:=AW hb5 (p:=⟨wr.heap.size,3,N⟩) (v:=I K n) (by simp);clear hb5))
    clear HC HN q0 q1 q2 q3;generalize wr.heap.size=b9 at *;have hne:Nonempty (Hm w5):=⟨⟨w5,AD _ _⟩⟩;have s1:=B1 hN5.e1;have d0:=B1 d0;have d1:=B1 d1;have d2:=B1 d2;have d3:=B1 d3;have HN:=hN5;clear hN5;refine FN (by kernel_rfl) (by kernel_rfl) ?_
    repeat(go_big_quiet_step((first
     |(go_at_call 48;exact Gf (Zl _ _ _ _ _ _)))))
    refine Bg ?_;rintro w6⟨xs,hxs⟩;have hb6:=xs.bel;rw[←hxs]at hb6;have hN6:=HN.below hb6;clear hxs xs hb6 s1 d0 d1 d2 d3 hne HN;have HN:=hN6;clear hN6;go_wp2_with fail
    go_roundw
    case rel=>exact⟨j+1,by omega,by go_num,by rw[AN HR],(AN HF).trans ((AN HS).trans (by simp)),HN⟩
    case measure=>simp[intOf];omega
   ·go_wp2_with(first
     |(go_at_call 47;refine(HC _).mono ?_;rintro e w5⟨rfl,hb5⟩;have hN5:=HN.below (CO (Fv.alloc Fu _) (hb5.mono (by simp)));clear hb5;have t0:=hN5.t0;have t1:=hN5.t1;have f0:=hN5.f 0;have f1:=hN5.f 1))
    have hv:Ms al a len 0=(ej,(j:Int)):=(by rw[AN HF,AN HS,AA he]);refine AG (v:=GC (ej,(j:Int))) (by simp[results,Tryz.results22,go_sem,GC,t0,t1]) R ⟨by rw[hv],?_⟩;exact Bv (w.heap.size+1) (by omega) [I K ej,I K (j:Int)] 0 w5 hN5.bel
  ·obtain rfl:j=len:=(by omega);have hv:Ms al a j 0=(0,0):=(by rw[AN HF,BR];rfl);have t0:=hN.t0;have t1:=hN.t1;have f0:=hN.f 0;have f1:=hN.f 1;have HB:=hN.bel;clear hN hA;go_wp2;refine AG (v:=GC (0,0)) (by simp[results,Tryz.results22,go_sem,GC,t0,t1]) R ⟨by rw[hv],?_⟩;exact Bv (w.heap.size+1) (by omega) [I K 0,I K 0] 0 wr HB
theorem NM(m al no:Int)(A:Option Addr)(len D:Nat)(a:Nat→F')(w:World)(F:GZ w A len a):
  Calls Au 22 #[Gz m al no A len D] w fun e H=>e=Ao (GC (MA m al no a len))∧Below w.heap.size w H:=by
 unfold MA
 cases h:Is m al no
 ·exact Vm m al no A len D w h
 ·by_cases E:8<len
  ·simp only[C2,BG,E,BX];exact Vl m al no A len D w h E
  ·simp only[C2,BG,E];exact Vn m al no A len D a w h (by omega) F
end Go.Proofs.YtnbleebilmghcabGreat
namespace Go.Proofs.YtnbleebilmghcabGreat
open Go Go.RowKit
theorem jv(r:BitVec 64):IntKind.i64.wrap (r.toNat:Int)=0↔r=0#64:=by
 rw[CS];have:=r.isLt;constructor
 ·intro h;apply Ee;simp;omega
 ·rintro rfl;simp
theorem Qp(r:BitVec 64):BitVec.ofInt 64 (IntKind.i64.wrap (r.toNat:Int))=r:=by
 rw[CS];have:=r.isLt;apply Ee;rw[BitVec.toNat_ofInt];simp;omega
theorem kg(x y:Int):bits .and K x y=0↔BitVec.ofInt 64 x &&& BitVec.ofInt 64 y=0#64:=jv _
theorem iQ(x y:Int):BitVec.ofInt 64 (bits .or K x y)=BitVec.ofInt 64 x ||| BitVec.ofInt 64 y:=Qp _
theorem aN(n:Nat)(h:n<256):IntKind.i64.wrap (n:Int)=(n:Int):=by rw[CS];omega
theorem JO(x y:Int)(h:FV x=true)(D:FV y=true):bits .or K x y=((x.toNat ||| y.toNat:Nat):Int)∧FV (bits .or K x y)=true:=by
 have E:=AM h;have F:=AM D;obtain⟨a,rfl⟩:=BD E.1;obtain⟨b,rfl⟩:=BD F.1;have H:a ||| b<2 ^ 8:=Nat.or_lt_two_pow (by omega) (by omega);have e:bits .or K (a:Int) (b:Int)=((a ||| b:Nat):Int):=by
  have J:bits .or K (a:Int) (b:Int)=IntKind.i64.wrap (((BitVec.ofInt 64 (a:Int) ||| BitVec.ofInt 64 (b:Int)).toNat:Nat):Int):=rfl;rw[J,Dn,Dn,BitVec.toNat_or,DY,DY,D5 (by omega),D5 (by omega)];exact aN _ (by omega)
 refine⟨by simpa using e,?_⟩;rw[e];exact Bq ⟨by omega,by omega⟩
theorem IA(k:Int):FV (Ge k)=true:=by
 by_cases h:F5 k=true
 ·rcases Sn k h with rfl|rfl|rfl|rfl|rfl|rfl|rfl|rfl <;>decide
 ·have e:Ge k=0:=by unfold Ge;rw[AA];simpa[F5]using h
  rw[e];decide
theorem MQ(x:Int)(h:FV x=true):bits .or K 0 x=x:=by
 rw[(JO 0 x (by decide) h).1];have D:=AM h;simp;omega
def jA(al:Int)(a:Nat→F')(n:Nat):Prop:=∀j,j<n→QJ al a j=0
theorem Xr(al:Int)(a:Nat→F'):∀n j,(Ms al a n j).1=0↔∀i,i<n→QJ al a (j+i)=0
 |0,j=>by simp[Ms]
 | n+1,j=>by
  unfold Ms;by_cases h:QJ al a j=0
  ·rw[AF h,Xr al a n (j+1)];constructor
   ·intro D i E
    cases i with
    |zero=>exact h
    |succ i=>have:=D i (by omega);rwa[show j+1+i=j+(i+1) by omega]at this
   ·intro D i E;have:=D (i+1) (by omega);rwa[show j+(i+1)=j+1+i by omega]at this
  ·rw[AA h];constructor
   ·intro D;exact absurd D h
   ·intro D;exact absurd (D 0 (by omega)) h
theorem Ie(m al no:Int)(a:Nat→F')(len:Nat):(MA m al no a len).1=0↔Is m al no=true∧len≤8∧jA al a len:=by
 unfold MA
 cases h:Is m al no
 ·simp
 ·by_cases E:8<len
  ·simp[E];intro F;omega
  ·simp only[C2,BG,E,Xr,AT,Br];exact⟨fun D=>⟨by omega,D⟩,fun D=>D.2⟩
theorem KH(k p f n r:Int)(h:Nd k p f n r=0):Iq k p f n=true∧1≤k∧k≤7:=by
 unfold Nd at h;split at h
 ·simp at h
 ·split at h
  ·simp at h
  ·rename_i E D;exact⟨by simpa using D,by omega,by omega⟩
theorem az(k p f:Int):FV (Ji k p f)=true:=by
 unfold Ji;split
 ·exact(JO _ _ (by decide) (IA f)).2
 ·split
  ·exact(JO _ _ (JO _ _ (by decide) (IA f)).2 (IA p)).2
  ·split
   ·exact(JO _ _ (by decide) (IA p)).2
   ·decide
theorem Zv(k p f n:Int)(h:Iq k p f n=true):FV (R' k p)=true:=by
 unfold R';split
 ·exact(JO _ _ (by decide) (IA p)).2
 ·split
  ·rename_i F E;subst E;have D:(FV p && Hx n)=true:=(by simpa[Iq]using h);rw[AP]at D;exact D.1
  ·decide
theorem Lt(a:Nat→F'):∀j,FV (Jo a j)=true
 |0=>rfl
 |j+1=>(JO _ _ (Lt a j) (az _ _ _)).2
theorem Lm(al:Int)(a:Nat→F'):∀j,jA al a j→FV (I7 a j)=true
 |0,_=>rfl
 |j+1,h=>(JO _ _ (Lm al a j (fun i D=>h i (by omega))) (Zv _ _ _ _ (KH _ _ _ _ _ (h j (by omega))).1)).2
theorem eX(r u:Int)(m l:Bool)(E F:Int)(h D:Bool):Xw r u m l E F h D=Xw E F h D r u m l:=by
 unfold Xw
 cases m <;>cases h <;>cases l <;>cases D <;>simp[Bool.or_comm]
theorem eY(al:Int)(a:Nat→F')(len:Nat)(D:Int)(E:Nat→F')(h:Nat):gk al a len D E h=gk D E h al a len:=eX _ _ _ _ _ _ _ _
attribute [local go_sem ↓] Go.wp_at_zero Go.wp_at_succ
def Ij(X:Wd)(i g p:Int):Int×Bool:=RD (fun j=>X.rows.getD j dR) X.rows.length i g p
def Y4(r u:Int)(l:Bool):Value:=Af #[I K r,I K u,Aj l]
def TJ(mr mu:Int)(ml:Bool)(al no r u:Int)(l:Bool):Bool:=LG (bits .or K (bits .or K r al) no) mr && (LG u mu && (ml || !l))
def Rx(mr mu:Int)(ml:Bool)(al no:Int)(a:Nat→F')(len:Nat):Bool:=TJ mr mu ml al no (Jo a len) (I7 a len) (J6 a len)
theorem jS(w:World)(D E:Obj):w.heap.size≤((w.alloc D).alloc E).heap.size:=by
 have F:(w.alloc D).heap.size=w.heap.size+1:=by simp
 have H:((w.alloc D).alloc E).heap.size=(w.alloc D).heap.size+1:=by simp
 omega
theorem Sb{w w1:World}{H J m al no:Int}{L:Bool}{A:Option Addr}{len E:Nat}
  (D:Below ((w.alloc (Al #[I K H,I K J,Aj L] 69)).alloc (Al #[I K m,I K al,I K no,S A len E] 37)).heap.size
   ((w.alloc (Al #[I K H,I K J,Aj L] 69)).alloc (Al #[I K m,I K al,I K no,S A len E] 37)) w1):
  w1.cell? ⟨w.heap.size,0,N⟩=O (I K H)∧w1.cell? ⟨w.heap.size,1,N⟩=O (I K J)∧w1.cell? ⟨w.heap.size,2,N⟩=O (Aj L) ∧
  w1.cell? ⟨w.heap.size+1,1,N⟩=O (I K al)∧w1.cell? ⟨w.heap.size+1,2,N⟩=O (I K no)∧w.heap.size+1<w1.heap.size∧w.heap.size<w1.heap.size∧Below w.heap.size w w1:=by
 have M:=AW D (p:=⟨w.heap.size+1,1,N⟩) (v:=I K al) (by simp[go_sem]);have F:=AL w1 _ M;dsimp only at F;exact⟨AW D (by simp[go_sem]),AW D (by simp[go_sem]),AW D (by simp[go_sem]),M,AW D (by simp[go_sem]),F,by omega,CO (by go_grown) (D.mono (jS _ _ _))⟩
theorem gE(H J:Int)(L:Bool)(m al no:Int)(A:Option Addr)(len D:Nat)(a:Nat→F')(w:World)(Z:len≤8)(V:GZ w A len a):
  Calls Au 23 #[Y4 H J L,Gz m al no A len D] w fun e M=>e=Ao (Aj (Rx H J L al no a len))∧Below w.heap.size w M:=by
 have U:∀W1,Below w.heap.size w W1→Calls Au 49 #[Gz m al no A len D] W1 fun e M=>e=Ao (Ju al a len)∧Below W1.heap.size W1 M:=fun W1 h=>PE m al no A len D a W1 Z (V.below h);unfold Rx Y4;unfold Ju Gz at *;generalize Jo a len=r at *;generalize I7 a len=u at *;generalize J5 al a len=mv at *;generalize J6 a len=lf at *;clear V
 cases Y:LG (bits .or K (bits .or K r al) no) H
 case' true=>cases h2:LG u J
 case' true.true=>cases L
 all_goals
  go_enter Tryz.func23,Tryz.ntmps23
  go_wp2_with(first
   |(go_at_call 49;refine(U _ (by go_grown)).mono ?_;rintro e w1⟨rfl,E⟩;obtain⟨p0,p1,p2,q1,q2,ha,hb,F⟩:=Sb E;clear E)
   |(go_at_call 50;refine(QI _ _ _).mono ?_;rintro e w2⟨rfl,hw⟩;obtain rfl:=hw.symm))
  go_ret;exact⟨by first|(simp[TJ,Y];done)|(simp[TJ,Y,h2];done),F.alloc F.size _⟩
def kh:Nat→F':=fun _=>⟨3,0,1,0⟩
end Go.Proofs.YtnbleebilmghcabGreat
namespace Go.Proofs.YtnbleebilmghcabGreat
open Go Go.RowKit
theorem IK(a:Int)(k:Nat)(w:World)(h:FV a=true)(F:k<8):
  Calls Au 61 #[I K a,I K (k:Int)] w fun e E=>e=Ao (Aj (tb a k))∧Below w.heap.size w E:=by
 have D:=AM h;have:=M6 a (k:Int) w D.1 D.2;have e:Kz a (k:Int)=tb a k:=by simp[Kz];omega
 rwa[e]at this
theorem XT(n:Int)(k:Nat)(h:FV n=true)(D:8≤k):tb n k=false:=by
 have E:=AM h;obtain⟨m,rfl⟩:=BD E.1;unfold tb;have F:256≤2 ^ k:=by
  have:=Fl (n:=2) (by omega) D;omega
 have e:m / 2 ^ k=0:=Nat.div_eq_of_lt (by omega);rw[show((m:Int) / ((2 ^ k:Nat):Int) % 2)=((m / 2 ^ k % 2:Nat):Int) by push_cast;rfl,e];decide
theorem Hq{x:Int}(h:FV x=true):0≤x:=(AM h).1
theorem Lq(x y:Int)(h:FV x=true)(D:FV y=true)(k:Nat)(E:k<8):tb (bits .or K x y) k=(tb x k || tb y k):=by
 rw[←In _ k (Hq (JO x y h D).2) (by omega),iQ,BitVec.getLsbD_or,In _ k (Hq h) (by omega),In _ k (Hq D) (by omega)]
theorem WZ(x y:Int):BitVec.ofInt 64 (bits .and K x y)=BitVec.ofInt 64 x &&& BitVec.ofInt 64 y:=Qp _
theorem PB(x y:Int):BitVec.ofInt 64 (bits .andNot K x y)=BitVec.ofInt 64 x &&& ~~~BitVec.ofInt 64 y:=Qp _
theorem P7(x y:Int)(h:FV x=true):FV (bits .and K x y)=true:=by
 have D:=AM h;obtain⟨a,rfl⟩:=BD D.1;have E:bits .and K (a:Int) y=IntKind.i64.wrap (((BitVec.ofInt 64 (a:Int) &&& BitVec.ofInt 64 y).toNat:Nat):Int):=rfl;have F:(BitVec.ofInt 64 (a:Int) &&& BitVec.ofInt 64 y).toNat≤a:=by
  rw[BitVec.toNat_and,Dn,DY,D5 (by omega)];exact Nat.and_le_left
 rw[E,aN _ (by omega)];exact Bq ⟨by omega,by omega⟩
theorem ON(x y:Int)(h:FV x=true):FV (bits .andNot K x y)=true:=by
 have D:=AM h;obtain⟨a,rfl⟩:=BD D.1;have E:bits .andNot K (a:Int) y=IntKind.i64.wrap (((BitVec.ofInt 64 (a:Int) &&& ~~~BitVec.ofInt 64 y).toNat:Nat):Int):=rfl;have F:(BitVec.ofInt 64 (a:Int) &&& ~~~BitVec.ofInt 64 y).toNat≤a:=by
  rw[BitVec.toNat_and,Dn,DY,D5 (by omega)];exact Nat.and_le_left
 rw[E,aN _ (by omega)];exact Bq ⟨by omega,by omega⟩
theorem S0(x y:Int)(h:FV x=true)(D:FV y=true)(k:Nat)(E:k<8):tb (bits .and K x y) k=(tb x k && tb y k):=by
 rw[←In _ k (Hq (P7 x y h)) (by omega),WZ,Cz,In _ k (Hq h) (by omega),In _ k (Hq D) (by omega)]
theorem SF(x y:Int)(h:FV x=true)(D:FV y=true)(k:Nat)(E:k<8):tb (bits .andNot K x y) k=(tb x k && !tb y k):=by
 rw[←In _ k (Hq (ON x y h)) (by omega),PB,Cz,Df,In _ k (Hq h) (by omega),In _ k (Hq D) (by omega)];simp[show k<64 by omega]
theorem Vt:∀p:Fin 8,∀k:Fin 8,tb (Ge (p.val:Int)) k.val=decide (p.val=k.val):=by decide +kernel
theorem Ny(p k:Nat)(h:p<8)(D:k<8):tb (Ge (p:Int)) k=decide (p=k):=Vt ⟨p,h⟩ ⟨k,D⟩
theorem Q6(x y:Int)(D:FV x=true)(F:FV y=true):LG x y=true↔∀k,k<8→tb x k=true→tb y k=true:=by
 unfold LG;rw[Dl];constructor
 ·intro h k J E;have:=SF x y D F k J;rw[h,E]at this;have h0:tb 0 k=false:=by
   rcases(by omega:k=0∨k=1∨k=2∨k=3∨k=4∨k=5∨k=6∨k=7)with rfl|rfl|rfl|rfl|rfl|rfl|rfl|rfl <;>decide
  rw[h0]at this
  cases L:tb y k
  ·rw[L]at this;cases this
  ·rfl
 ·intro h;have U:=ON x y D;rw[P8];apply DA;intro i H;rw[Cz,Df,In _ i (Hq D) H,In _ i (Hq F) H,Du];by_cases M:i<8
  ·cases E:tb x i
   ·rfl
   ·rw[h i M E];simp
  ·rw[XT x i D (by omega)];simp
def gV(g:Nat→Bool):Value:=Af #[Aj (g 0),Aj (g 1),Aj (g 2),Aj (g 3),Aj (g 4),Aj (g 5),Aj (g 6),Aj (g 7)]
structure GR(al:Int)(g:Nat→Bool)(r:Int):Prop where
 sal:FV al=true
 sr:FV r=true
 eq:∀q,q<8→tb r q=(tb al q && !g q)
theorem Wq:∀m:Fin 256,∀k:Fin 8,LG (Ge (k.val:Int)) (m.val:Int)=tb (m.val:Int) k.val:=by decide +kernel
theorem TU(r:Int)(k:Nat)(h:FV r=true)(E:k<8):LG (Ge (k:Int)) r=tb r k:=by
 have D:=AM h;obtain⟨m,rfl⟩:=KY r D.1 D.2;exact Wq m ⟨k,E⟩
theorem jW(x y r:Int)(E:FV x=true)(F:FV y=true)(J:FV r=true):LG (bits .or K x y) r=(LG x r && LG y r):=by
 rw[Ec,AP,Q6 _ _ (JO x y E F).2 J,Q6 _ _ E J,Q6 _ _ F J];constructor
 ·intro h;exact⟨fun k D H=>h k D (by rw[Lq x y E F k D,H];rfl),fun k D H=>h k D (by rw[Lq x y E F k D,H];simp)⟩
 ·rintro⟨H,L⟩ k D h;rw[Lq x y E F k D,Cg]at h;rcases h with h|h
  ·exact H k D h
  ·exact L k D h
theorem ks(p r:Int)(i:Nat)(h:FV r=true)(D:i<8):LG (Ji 2 p (i:Int)) r=tb r i:=by
 simp only[Ji,BX,MQ _ (IA _)];exact TU r i h D
theorem kq(r:Int)(i j:Nat)(h:FV r=true)(D:i<8)(E:j<8):LG (Ji 3 (j:Int) (i:Int)) r=(tb r i && tb r j):=by
 have e:Ji 3 (j:Int) (i:Int)=bits .or K (Ge (i:Int)) (Ge (j:Int)):=by simp[Ji,MQ _ (IA _)]
 rw[e,jW _ _ _ (IA _) (IA _) h,TU r i h D,TU r j h E]
theorem kp(f r:Int)(j:Nat)(h:FV r=true)(D:j<8):LG (Ji 4 (j:Int) f) r=tb r j:=by
 have e:Ji 4 (j:Int) f=Ge (j:Int):=by simp[Ji,MQ _ (IA _)]
 rw[e];exact TU r j h D
theorem gO(r:Int):LG 0 r=true:=by
 unfold LG;rw[Dl,P8];simp
structure QW(w:World)(al k p f n:Int)(g:Nat→Bool)(W:World):Prop where
 bel:Below w.heap.size w W
 a0:W.cell? ⟨w.heap.size,0,N⟩=O (I K al)
 k0:W.cell? ⟨w.heap.size+1,0,N⟩=O (I K k)
 k1:W.cell? ⟨w.heap.size+1,1,N⟩=O (I K p)
 k2:W.cell? ⟨w.heap.size+1,2,N⟩=O (I K f)
 k3:W.cell? ⟨w.heap.size+1,3,N⟩=O (I K n)
 g:∀i,i<8→W.cell? ⟨w.heap.size+1+1,i,N⟩=O (Aj (g i))
section
variable {w:World} {al no k p f n:Int} {g:Nat→Bool} {W W1:World}
theorem QW.below(h:QW w al k p f n g W)(D:Below W.heap.size W W1):QW w al k p f n g W1 :=
 ⟨h.bel.trans (D.mono h.bel.size),AW D h.a0,AW D h.k0,AW D h.k1,AW D h.k2,AW D h.k3,fun i E=>AW D (h.g i E)⟩
theorem QW.start:QW w al k p f n g (((w.alloc (Al #[I K al,I K no] 34)).alloc (Al #[I K k,I K p,I K f,I K n] 95)).alloc (Al #[Aj (g 0),Aj (g 1),Aj (g 2),Aj (g 3),Aj (g 4),Aj (g 5),Aj (g 6),Aj (g 7)] 107)):=by
 refine⟨by go_grown,by simp[go_sem],by simp[go_sem],by simp[go_sem],by simp[go_sem],by simp[go_sem],fun i h=>?_⟩;rcases(by omega:i=0∨i=1∨i=2∨i=3∨i=4∨i=5∨i=6∨i=7)with rfl|rfl|rfl|rfl|rfl|rfl|rfl|rfl <;>simp[go_sem]
end
theorem MP(p:Int):p<0∨7<p∨∃j:Nat,j<8∧p=(j:Int):=by
 by_cases h:p<0
 ·exact .inl h
 ·by_cases D:7<p
  ·exact .inr (.inl D)
  ·exact .inr (.inr ⟨p.toNat,by omega,by omega⟩)
theorem J4(j:Nat)(h:j<8):F5 (j:Int)=true:=Bq ⟨by omega,by omega⟩
theorem Ps(k p f n al no r:Int)(g:Nat→Bool)(w:World)(M:¬ (k=2∨k=3∨k=4)):
  Calls Au 56 #[Af #[I K al,I K no],H9 k p f n,gV g] w fun e Y=>e=Ao (I K (Nd k p f n r))∧Below w.heap.size w Y:=by
 unfold gV;by_cases h:k=1∨k=5∨k=6∨k=7
 ·clear M;have U:Ji k p f=0:=by rcases h with rfl|rfl|rfl|rfl <;>simp[Ji]
  have e:Nd k p f n r=if Iq k p f n=false then 3 else 0:=by
   unfold Nd;rw[AA (by omega),U,gO];simp
  rw[e];clear e U;unfold H9;rcases h with rfl|rfl|rfl|rfl
  ·cases F:Hx n
   ·have e:(if Iq 1 p f n=false then(3:Int)else 0)=3:=by simp[Iq,F]
    rw[e];clear e;go_enter Tryz.func56,Tryz.ntmps56
    go_wp2_with(first|(go_at_call 97;refine(Gm _ _).mono ?_;rintro e w1⟨rfl,D⟩;obtain rfl:=D.symm))
    go_ret;exact⟨rfl,by go_grown⟩
   ·rcases MP p with H|H|⟨j,J,rfl⟩
    ·have e:(if Iq 1 p f n=false then(3:Int)else 0)=3:=by
      have:F5 p=false:=AO (by omega);simp[Iq,this]
     rw[e];clear e;go_enter Tryz.func56,Tryz.ntmps56
     go_wp2_with(first|(go_at_call 97;refine(Gm _ _).mono ?_;rintro e w1⟨rfl,D⟩;obtain rfl:=D.symm))
     go_ret;exact⟨rfl,by go_grown⟩
    ·have e:(if Iq 1 p f n=false then(3:Int)else 0)=3:=by
      have:F5 p=false:=AO (by omega);simp[Iq,this]
     rw[e];clear e;have E:¬ p<0:=(by omega);go_enter Tryz.func56,Tryz.ntmps56
     go_wp2_with(first|(go_at_call 97;refine(Gm _ _).mono ?_;rintro e w1⟨rfl,D⟩;obtain rfl:=D.symm))
     go_ret;exact⟨rfl,by go_grown⟩
    ·have e:(if Iq 1 (j:Int) f n=false then(3:Int)else 0)=0:=by simp[Iq,F,J4 j J]
     rw[e];clear e;have E:¬ (j:Int)<0:=(by omega);have L:¬ 7<(j:Int):=(by omega);go_enter Tryz.func56,Tryz.ntmps56
     go_wp2_with(first|(go_at_call 97;refine(Gm _ _).mono ?_;rintro e w1⟨rfl,D⟩;obtain rfl:=D.symm))
     go_ret;exact⟨rfl,by go_grown⟩
  ·rcases MP p with H|H|⟨j,J,rfl⟩
   ·have e:(if Iq 5 p f n=false then(3:Int)else 0)=3:=by
     have:F5 p=false:=AO (by omega);simp[Iq,this]
    rw[e];clear e;go_enter Tryz.func56,Tryz.ntmps56
    go_wp2;go_ret;exact⟨rfl,by go_grown⟩
   ·have e:(if Iq 5 p f n=false then(3:Int)else 0)=3:=by
     have:F5 p=false:=AO (by omega);simp[Iq,this]
    rw[e];clear e;have E:¬ p<0:=(by omega);go_enter Tryz.func56,Tryz.ntmps56
    go_wp2;go_ret;exact⟨rfl,by go_grown⟩
   ·have e:(if Iq 5 (j:Int) f n=false then(3:Int)else 0)=0:=by simp[Iq,J4 j J]
    rw[e];clear e;have E:¬ (j:Int)<0:=(by omega);have L:¬ 7<(j:Int):=(by omega);go_enter Tryz.func56,Tryz.ntmps56
    go_wp2;go_ret;exact⟨rfl,by go_grown⟩
  ·have e:(if Iq 6 p f n=false then(3:Int)else 0)=0:=by simp[Iq]
   rw[e];clear e;go_enter Tryz.func56,Tryz.ntmps56
   go_wp2;go_ret;exact⟨rfl,by go_grown⟩
  ·cases V:FV p
   ·have e:(if Iq 7 p f n=false then(3:Int)else 0)=3:=by simp[Iq,V]
    rw[e];clear e;go_enter Tryz.func56,Tryz.ntmps56
    go_wp2_with(first|(go_at_call 45;refine(IG _ _).mono ?_;rintro e w1⟨rfl,D⟩;obtain rfl:=D.symm))
    go_ret;exact⟨rfl,by go_grown⟩
   ·cases F:Hx n
    ·have e:(if Iq 7 p f n=false then(3:Int)else 0)=3:=by simp[Iq,F]
     rw[e];clear e;go_enter Tryz.func56,Tryz.ntmps56
     go_wp2_with(first|(go_at_call 45;refine(IG _ _).mono ?_;rintro e w1⟨rfl,D⟩;obtain rfl:=D.symm)|(go_at_call 97;refine(Gm _ _).mono ?_;rintro e w1⟨rfl,D⟩;obtain rfl:=D.symm))
     go_ret;exact⟨rfl,by go_grown⟩
    ·have e:(if Iq 7 p f n=false then(3:Int)else 0)=0:=by simp[Iq,F,V]
     rw[e];clear e;go_enter Tryz.func56,Tryz.ntmps56
     go_wp2_with(first|(go_at_call 45;refine(IG _ _).mono ?_;rintro e w1⟨rfl,D⟩;obtain rfl:=D.symm)|(go_at_call 97;refine(Gm _ _).mono ?_;rintro e w1⟨rfl,D⟩;obtain rfl:=D.symm))
     go_ret;exact⟨rfl,by go_grown⟩
 ·have Z:¬ k=1:=by omega
  have h2:¬ k=2:=by omega
  have h3:¬ k=3:=by omega
  have h4:¬ k=4:=by omega
  have h5:¬ k=5:=by omega
  have h6:¬ k=6:=by omega
  have h7:¬ k=7:=by omega
  have e:Nd k p f n r=1:=by unfold Nd;rw[AF (by omega)]
  rw[e];clear e h M;unfold H9;go_enter Tryz.func56,Tryz.ntmps56
  go_wp2;go_ret;exact⟨rfl,by go_grown⟩
theorem UE(p f n al no r:Int)(g:Nat→Bool)(w:World)(L:GR al g r):
  Calls Au 56 #[Af #[I K al,I K no],H9 4 p f n,gV g] w fun e Z=>e=Ao (I K (Nd 4 p f n r))∧Below w.heap.size w Z:=by
 have e:Nd 4 p f n r=if Iq 4 p f n=false then 3 else if LG (Ji 4 p f) r=false then 7 else 0:=by
  unfold Nd;rw[AA (by omega)]
 rw[e];clear e;have H:QW w al 4 p f n g _:=QW.start (no:=no);unfold gV H9
 cases V:Hx n
 ·have e:(if Iq 4 p f n=false then(3:Int)else if LG (Ji 4 p f) r=false then 7 else 0)=3:=by simp[Iq,V]
  rw[e];clear e H;go_enter Tryz.func56,Tryz.ntmps56
  go_wp2_with(first|(go_at_call 97;refine(Gm _ _).mono ?_;rintro e w1⟨rfl,E⟩;obtain rfl:=E.symm))
  go_ret;exact⟨rfl,by go_grown⟩
 ·rcases MP p with hp|hp|⟨j,J,rfl⟩
  ·have e:(if Iq 4 p f n=false then(3:Int)else if LG (Ji 4 p f) r=false then 7 else 0)=3:=by
    have:F5 p=false:=AO (by omega);simp[Iq,this]
   rw[e];clear e H;go_enter Tryz.func56,Tryz.ntmps56
   go_wp2_with(first|(go_at_call 97;refine(Gm _ _).mono ?_;rintro e w1⟨rfl,E⟩;obtain rfl:=E.symm))
   go_ret;exact⟨rfl,by go_grown⟩
  ·have e:(if Iq 4 p f n=false then(3:Int)else if LG (Ji 4 p f) r=false then 7 else 0)=3:=by
    have:F5 p=false:=AO (by omega);simp[Iq,this]
   rw[e];clear e H;have M:¬ p<0:=(by omega);go_enter Tryz.func56,Tryz.ntmps56
   go_wp2_with(first|(go_at_call 97;refine(Gm _ _).mono ?_;rintro e w1⟨rfl,E⟩;obtain rfl:=E.symm))
   go_ret;exact⟨rfl,by go_grown⟩
  ·have e:(if Iq 4 (j:Int) f n=false then(3:Int)else if LG (Ji 4 (j:Int) f) r=false then 7 else 0)=if(tb al j && !g j)=false then 7 else 0:=by
    rw[kp f r j L.sr J,L.eq j J];simp[Iq,V,J4 j J]
   rw[e];clear e;have Y:=(fun W=>IK al j W L.sal J);have HG:=(fun W (h:QW w al 4 (j:Int) f n g W)=>h.g j J);have M:¬ (j:Int)<0:=(by omega);have ha:¬ 7<(j:Int):=(by omega);have hb:(0:Int)≤(j:Int):=(by omega);have hc:(j:Int)<8:=(by omega);clear L;generalize tb al j=tj at *;generalize g j=gj at *
   cases tj
   ·go_enter Tryz.func56,Tryz.ntmps56
    go_wp2_with(first
     |(go_at_call 97;refine(Gm _ _).mono ?_;rintro e w1⟨rfl,E⟩;obtain rfl:=E.symm)
     |(go_at_call 61;refine(Y _).mono ?_;rintro e w1⟨rfl,D⟩;have U:=(H.below D).bel;clear D))
    go_ret;exact⟨by simp,U⟩
   ·cases gj
    all_goals
     go_enter Tryz.func56,Tryz.ntmps56
     go_wp2_with(first
      |(go_at_call 97;refine(Gm _ _).mono ?_;rintro e w1⟨rfl,E⟩;obtain rfl:=E.symm)
      |(go_at_call 61;refine(Y _).mono ?_;rintro e w1⟨rfl,D⟩;have F:=H.below D;have k1:=F.k1;have c1:=HG _ F;have U:=F.bel;clear D F))
     go_ret;exact⟨by simp,U⟩
theorem UG(p f n al no r:Int)(g:Nat→Bool)(w:World)(J:GR al g r):
  Calls Au 56 #[Af #[I K al,I K no],H9 2 p f n,gV g] w fun e Y=>e=Ao (I K (Nd 2 p f n r))∧Below w.heap.size w Y:=by
 have e:Nd 2 p f n r=if Iq 2 p f n=false then 3 else if LG (Ji 2 p f) r=false then 7 else 0:=by
  unfold Nd;rw[AA (by omega)]
 rw[e];clear e;have F:QW w al 2 p f n g _:=QW.start (no:=no);unfold gV H9;rcases MP f with Z|Z|⟨i,H,rfl⟩
 ·have e:(if Iq 2 p f n=false then(3:Int)else if LG (Ji 2 p f) r=false then 7 else 0)=3:=by
   have:F5 f=false:=AO (by omega);simp[Iq,this]
  rw[e];clear e F;go_enter Tryz.func56,Tryz.ntmps56
  go_wp2;go_ret;exact⟨rfl,by go_grown⟩
 ·have e:(if Iq 2 p f n=false then(3:Int)else if LG (Ji 2 p f) r=false then 7 else 0)=3:=by
   have:F5 f=false:=AO (by omega);simp[Iq,this]
  rw[e];clear e F;have L:¬ f<0:=by omega
  go_enter Tryz.func56,Tryz.ntmps56
  go_wp2;go_ret;exact⟨rfl,by go_grown⟩
 ·have L:¬ (i:Int)<0:=by omega
  have ha:¬ 7<(i:Int):=by omega
  have hb:(0:Int)≤(i:Int):=by omega
  have hc:(i:Int)<8:=by omega
  rcases MP p with hp|hp|⟨j,hj,rfl⟩
  ·have e:(if Iq 2 p (i:Int) n=false then(3:Int)else if LG (Ji 2 p (i:Int)) r=false then 7 else 0)=3:=by
    have:F5 p=false:=AO (by omega);simp[Iq,this]
   rw[e];clear e F;go_enter Tryz.func56,Tryz.ntmps56
   go_wp2;go_ret;exact⟨rfl,by go_grown⟩
  ·have e:(if Iq 2 p (i:Int) n=false then(3:Int)else if LG (Ji 2 p (i:Int)) r=false then 7 else 0)=3:=by
    have:F5 p=false:=AO (by omega);simp[Iq,this]
   rw[e];clear e F;have M:¬ p<0:=(by omega);go_enter Tryz.func56,Tryz.ntmps56
   go_wp2;go_ret;exact⟨rfl,by go_grown⟩
  ·have e:(if Iq 2 (j:Int) (i:Int) n=false then(3:Int)else if LG (Ji 2 (j:Int) (i:Int)) r=false then 7 else 0)=if(tb al i && !g i)=false then 7 else 0:=by
    rw[ks (j:Int) r i J.sr H,J.eq i H];simp[Iq,J4 j hj,J4 i H]
   rw[e];clear e;have V:=(fun W=>IK al i W J.sal H);have HG:=(fun W (h:QW w al 2 (j:Int) (i:Int) n g W)=>h.g i H);have M:¬ (j:Int)<0:=(by omega);have hd:¬ 7<(j:Int):=(by omega);clear J;generalize tb al i=tj at *;generalize g i=gj at *
   cases tj
   ·go_enter Tryz.func56,Tryz.ntmps56
    go_wp2_with(first
     |(go_at_call 61;refine(V _).mono ?_;rintro e w1⟨rfl,D⟩;have U:=(F.below D).bel;clear D))
    go_ret;exact⟨by simp,U⟩
   ·cases gj
    all_goals
     go_enter Tryz.func56,Tryz.ntmps56
     go_wp2_with(first
      |(go_at_call 61;refine(V _).mono ?_;rintro e w1⟨rfl,D⟩;have E:=F.below D;have k2:=E.k2;have c1:=HG _ E;have U:=E.bel;clear D E))
     go_ret;exact⟨by simp,U⟩
end Go.Proofs.YtnbleebilmghcabGreat
