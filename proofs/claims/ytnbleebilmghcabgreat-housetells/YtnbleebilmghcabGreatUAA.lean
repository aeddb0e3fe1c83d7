/- Draws, Vars, Parts, Last, Tail, POpenS -/
import Derived.Test.YtnbleebilmghcabGreatRows
import Derived.Test.YtnbleebilmghcabGreatVAl
import Derived.Test.YtnbleebilmghcabGreatUAD
set_option linter.all false
set_option maxHeartbeats 400000
open Go.Value renaming int→I,pointer→Ae,agg→Af,bool→Aj
open Go.IntKind renaming i64→K
open Option renaming none→N,some→O
open Go.Obj renaming cells→Al
open Go.Operand renaming tmp→Am
open Go.Ending renaming returned→Ao
open Array renaming getD_eq_getD_getElem?→Ap
open Go.Proofs.Tryz renaming prog→Au
namespace Go.Proofs.YtnbleebilmghcabGreat
open Go Go.RowKit Go.ChangeShapes Go.WideShapes Go.ChangeAt Go.Deep Go.Joins
theorem P6(l:Array Bool)(i:Nat)(h:l.getD i true=false):
  i<l.size∧0<l.toList.countP (fun b=>!b)∧(l.setIfInBounds i true).toList.countP (fun b=>!b)+1=l.toList.countP (fun b=>!b):=by
 have E:i<l.size:=by
  rcases Bo i l.size with F|H
  ·exact F
  ·simp[Array.getD,Nat.not_lt.2 H]at h
 have J:l[i]=false:=by simpa[Array.getD,E]using h
 have D:0<l.toList.countP (fun b=>!b):=by
  rw[List.countP_pos_iff];exact⟨l[i],by simp,by simp[J]⟩
 refine⟨E,D,?_⟩;have e:(l.toList[i]'(by simpa using E))=false:=by simpa using J
 rw[ES,List.countP_set (by simpa using E),e];simp only[Bool.not_false,BX,Bool.not_true,Cy,BG];omega
theorem SC{P:Program}{ops:Array Oper}{Q:Exit→Act→World→Prop}{md:Region.Mode}(I:Array Bool→Act→World→Prop)
  (H:∀D a w i,I D a w→i∈Region.ready md ops D→wpOp P ops Q i (I (D.setIfInBounds i true)) a w)
  (F:∀D a w,I D a w→Region.ready md ops D=[]→Q .normal a w):
  ∀E D a w,I D a w→D.toList.countP (fun b=>!b)≤E→wpAny P md ops Q E D a w:=by
 intro E
 induction E with
 | zero =>
  intro D a w h M;have L:Region.ready md ops D=[]:=by
   rw[CB];intro i J;have:=(P6 D i (Cu.1 J).1).2.1;omega
  exact⟨L,F _ _ _ h L⟩
 |succ E ih =>
  intro D a w h M;refine⟨F _ _ _ h,fun i J=>E4 (fun U V Y=>ih _ U V Y ?_) (H _ _ _ _ h J)⟩;have:=(P6 D i (Cu.1 J).1).2.2;omega
def upd(L:Nat→Bool)(i:Nat):Nat→Bool:=fun j=>if j=i then true else L j
def Mp(ops:Array Oper):Bool:=(List.range ops.size).all fun j=>match ops[j]? with
 |some o=>o.after.all fun e=>decide (e.on<j)
 |none=>true
theorem KB{md:Region.Mode}{ops:Array Oper}(J:Mp ops=true)(h:Array Bool)(L:h.size=ops.size)(M:Region.ready md ops h=[]):
  ∀j,j<ops.size→h.getD j false=true:=by
 intro j
 induction j using Nat.strongRecOn with
 | ind j ih =>
  intro D
  cases U:h.getD j false with
  |true=>rfl
  | false =>
   exfalso;have E:ops[j]?=O ops[j]:=(by simp[D]);have F:j∈Region.ready md ops h:=by
    rw[Cu];refine⟨by simpa[Array.getD,L,D]using U,ops[j],E,fun e V _=>?_⟩;have H:=AY.1 J j (Bh.2 D);simp only[E]at H;have Y:=Ct.1 H e V;have Z:e.on<j:=(by simpa using Y);exact ih e.on Z (by omega)
   rw[M]at F;exact absurd F (by simp)
theorem Ld{P:Program}{ops:Array Oper}{Q:Exit→Act→World→Prop}{id:Nat}{a:Act}{w:World}(hm:P.follows .mixedOrders=true)
  (I:(Nat→Bool)→Act→World→Prop) (hb:Mp ops=true)
  (hstart:I (fun _=>false) a { w with drawn:=w.drawn+1 })
  (hstep:∀L a w i o,I L a w→ops[i]?=O o→L i=false→(∀e∈o.after,Region.binds .any e=true→L e.on=true)→wpOp P ops Q i (I (upd L i)) a w)
  (hend:∀L a w,I L a w→(∀j,j<ops.size→L j=true)→Q .normal a w):(Code.region id ops true).wp P Q a w:=by
 refine Ep hm (SC (fun l a w=>l.size=ops.size∧I (fun j=>l.getD j false) a w) ?_ ?_ _ _ _ _ ?_ ?_)
 ·rintro l a w i⟨hs,hI⟩ hi;obtain⟨h1,o,ho,h2⟩:=Cu.1 hi;have hi':=(P6 l i h1).1;refine E4 (fun a' w' h'=>⟨by simpa using hs,?_⟩) (hstep _ a w i o hI ho (by simpa[Array.getD,hi']using h1) h2);have e:(fun j=>(l.setIfInBounds i true).getD j false)=upd (fun j=>l.getD j false) i:=by
   funext j;unfold upd;by_cases hj:j=i
   ·subst hj;simp[Array.getD,hi']
   ·rw[AA hj,Eg _ (BW hj)]
  show I (fun j=>(l.setIfInBounds i true).getD j false) a' w';rw[e];exact h'
 ·rintro l a w⟨hs,hI⟩ hr;exact hend _ a w hI (KB hb l hs hr)
 ·refine⟨by simp,?_⟩;have e:(fun j=>(Array.replicate ops.size false).getD j false)=fun _=>false:=by
   funext j;simp[Array.getD]
  rw[e];exact hstart
 ·simpa using Fe (p:=fun b=>!b) (l:=List.replicate ops.size false)
theorem Gn{P:Program}{ops:Array Oper}{Q:Exit→Act→World→Prop}{i:Nat}{o:Oper}{a:Act}{w:World}{K:Act→World→Prop}(D:ops[i]?=O o)(E:o.guard=N)
  (h:o.wp P a w K Q):wpOp P ops Q i K a w:=by
 unfold wpOp;simp only[D];rw[AF (by unfold Region.wanted;rw[E])];exact .inl h
structure Hm(W:World) where
 val:World
 bel:Go.RowKit.Below W.heap.size W val
theorem FN{P:Program}{E:Nat}{Q:Exit→Act→World→Prop}{a:Act}{w:World}{l:List Oper}(F:P.follows .mixedOrders=true)(H:Region.lexB .any l.toArray=true)
  (h:wpQuiet P l.toArray (fun D=>∃x:Hm w,D=x.val) (fun a'=>∀D,(∃x:Hm w,D=x.val)→Q .normal a' D) l a):(Code.region E l.toArray true).wp P Q a w :=
 wp_region_quiet (C:=fun D=>∃x:Hm w,D=x.val) F H ⟨⟨_,(Ek _ _).drew⟩,rfl⟩ (by simpa using h)
theorem Gf{P:Program}{W:World}{x:Hm W}{f:FuncId}{D:Array Value}{v:Value}(h:Calls P f D x.val fun e E=>e=Ao v∧Go.RowKit.Below x.val.heap.size x.val E):
  Calls P f D x.val fun e F=>e=Ao v∧∃y:Hm W,F=y.val :=
 h.mono fun _ E ⟨H,J⟩=>⟨H,⟨E,x.bel.trans (J.mono x.bel.size)⟩,rfl⟩
theorem T0{P:Program}{W:World}{x:Hm W}{f:FuncId}{D:Array Value}{v:Value}(h:Calls P f D x.val fun e w'=>e=Ao v∧w'=x.val):
  Calls P f D x.val fun e E=>e=Ao v∧∃y:Hm W,E=y.val :=
 h.mono fun _ _ ⟨F,H⟩=>⟨F,x,H⟩
theorem B1{W:World}{p:Addr}{v:Value}(h:W.cell? p=O v)(x:Hm W):x.val.cell? p=O v :=
 (x.bel.cell (AL W p h)).trans h
theorem AW{W w1:World}(D:Below W.heap.size W w1){p:Addr}{v:Value}(h:W.cell? p=O v):w1.cell? p=O v :=
 (D.cell (AL W p h)).trans h
theorem Ia{W w1:World}(D:Below W.heap.size W w1){g o n:Nat}(E:g<W.heap.size)(h:W.there g o n):w1.there g o n:=fun j F=>by
 rw[D.cell (p:=⟨g,o+j,N⟩) E,D.frozen (p:=⟨g,o+j,N⟩) E];exact h j F
theorem LU{W w1:World}(D:Below W.heap.size W w1){g o:Nat}{cs:List Value}(E:g<W.heap.size)(h:W.rangeAt g o cs):w1.rangeAt g o cs:=fun j v F=>by
 rw[D.cell (p:=⟨g,o+j,N⟩) E];exact h j v F
theorem Bv{B:Nat}{w0:World}(b:Nat)(D:B≤b):∀(vs:List Value) (o:Nat) (w:World),Below B w0 w→Below B w0 (w.setCells b o vs)
 |[],_,_,h=>h
 |v :: r,o,_,h=>Bv b D r (o+1) _ (h.setCell (p:=⟨b,o,N⟩) D v)
theorem Gk(b:Nat):∀(vs:List Value) (o:Nat) (w:World),(w.setCells b o vs).heap.size=w.heap.size
 |[],_,_=>rfl
 |v :: r,o,w=>by show((w.setCell _ v).setCells b (o+1) r).heap.size=_;rw[Gk b r];simp
structure VW(w0:World)(m:Nat)(sz:Nat→Nat)(cs:Nat→List Value)(l st:Nat→Bool)(v:Nat→Value)(g:Nat→Nat)(w:World):Prop where
 bel:Below w0.heap.size w0 w
 own:∀k,k<m→l k=true→v k=Ae (O ⟨g k,0,N⟩)∧w0.heap.size≤g k∧g k<w.heap.size∧w.there (g k) 0 (sz k)
 ne:∀j k,j<m→k<m→l j=true→l k=true→j≠k→g j≠g k
 has:∀k,k<m→st k=true→l k=true∧w.rangeAt (g k) 0 (cs k)
section
variable {w0:World} {m:Nat} {sz:Nat→Nat} {cs:Nat→List Value} {l st l' st':Nat→Bool} {v v':Nat→Value} {g:Nat→Nat} {w w1:World}
theorem VW.congr(h:VW w0 m sz cs l st v g w)(E:∀ k,k<m→l' k=l k)(F:∀ k,k<m→st' k=st k)(J:∀ k,k<m→v' k=v k):VW w0 m sz cs l' st' v' g w :=
 ⟨h.bel,fun k D e=>by rw[J k D];exact h.own k D (by rw[←E k D];exact e),
  fun j k H D L M=>h.ne j k H D (by rw[←E j H];exact L) (by rw[←E k D];exact M),fun k D e=>by rw[E k D];exact h.has k D (by rw[←F k D];exact e)⟩
theorem VW.below(h:VW w0 m sz cs l st v g w)(E:Below w.heap.size w w1):VW w0 m sz cs l st v g w1 :=
 ⟨h.bel.trans (E.mono h.bel.size),
  fun k D e=>by obtain⟨H,J,F,L⟩:=h.own k D e;exact⟨H,J,Bs F E.size,Ia E F L⟩,
  h.ne,fun k D e=>⟨(h.has k D e).1,LU E (h.own k D (h.has k D e).1).2.2.1 (h.has k D e).2⟩⟩
theorem VW.alloc(h:VW w0 m sz cs l st v g w)(k:Nat)(Z:l k=false)(o:Obj)(ho:(w.alloc o).there w.heap.size 0 (sz k)):
  VW w0 m sz cs (fun j=>if j=k then true else l j) st (fun j=>if j=k then Ae (O ⟨w.heap.size,0,N⟩)else v j) (fun j=>if j=k then w.heap.size else g j) (w.alloc o):=by
 have M:Below w.heap.size w (w.alloc o):=Fv.alloc Fu _;refine⟨h.bel.trans (M.mono h.bel.size),fun j E e=>?_,fun i j V E J L U=>?_,fun j E e=>?_⟩
 ·by_cases Y:j=k
  ·subst Y;simp only[BX];exact⟨trivial,h.bel.size,by simp,ho⟩
  ·simp only[Y,BG]at e⊢;obtain⟨F,h2,h3,h4⟩:=h.own j E e;exact⟨F,h2,by simp;omega,Ia M h3 h4⟩
 ·by_cases H:i=k <;>by_cases D:j=k
  ·omega
  ·simp only[H,D,BX,BG]at L⊢;have:=(h.own j E L).2.2.1;omega
  ·simp only[H,D,BX,BG]at J⊢;have:=(h.own i V J).2.2.1;omega
  ·simp only[H,D,BG]at J L⊢;exact h.ne i j V E J L U
 ·have F:=h.has j E e;have D:j≠k:=fun e'=>by rw[e',Z]at F;exact absurd F.1 (by simp)
  simp only[D,BG];exact⟨F.1,LU M (h.own j E F.1).2.2.1 F.2⟩
theorem VW.store(h:VW w0 m sz cs l st v g w)(k:Nat)(L:k<m)(J:l k=true)(E:(cs k).length=sz k):
  VW w0 m sz cs l (fun j=>if j=k then true else st j) v g (w.setCells (g k) 0 (cs k)):=by
 obtain⟨Z,p2,p3,M⟩:=h.own k L J;refine⟨Bv _ (by omega) _ _ _ h.bel,fun j H e=>?_,h.ne,fun j H e=>?_⟩
 ·obtain⟨F,U,V,Y⟩:=h.own j H e;exact⟨F,U,by rw[Gk];exact V,Cj Y _ _ _⟩
 ·by_cases D:j=k
  ·subst D;exact⟨J,EL _ _ _ _ (by rw[E];exact M)⟩
  ·simp only[D,BG]at e;have F:=h.has j H e;exact⟨F.1,EJ F.2 _ _ _ (.inl (h.ne j k H L F.1 J D))⟩
end
def Z6(o:Oper):List Tmp:=o.op.operands.toList.filterMap fun|Am t=>O t|_=>N
def YP(ops:List Oper):Bool:=(List.range ops.length).all fun j=>match ops[j]? with
 |none=>true
 |some o=>(Z6 o).all fun t=>(List.range ops.length).all fun i=>match ops[i]? with
  |none=>true
  |some p=>p.dst != O t || (decide (i<j) && o.after.any fun e=>decide (e.on=i) && Region.binds .any e)
def ZR(ops:List Oper):Bool:=(List.range ops.length).all fun j=>(List.range j).all fun i=>match ops[i]?,ops[j]? with
 |some p,O q=>p.dst.isNone || p.dst != q.dst
 |_,_=>true
theorem KJ{ops:List Oper}(h:YP ops=true){i j:Nat}{o p:Oper}(J:ops[j]?=O o)(L:ops[i]?=O p){t:Tmp}(U:Am t∈o.op.operands)(V:p.dst=O t):
  i<j∧∃e∈o.after,e.on=i∧Region.binds .any e=true:=by
 have D:j<ops.length:=(AX.1 J).1;have E:i<ops.length:=(AX.1 L).1;have M:=AY.1 h j (Bh.2 D);simp only[J]at M;have Y:=AY.1 M t (De.2 ⟨Am t,by simpa using U,rfl⟩);have F:=AY.1 Y i (Bh.2 E);simp only[L,V,bne_self_eq_false,Er,AP,Ci]at F;obtain⟨k,Z,H⟩:=Cc.1 F.2;rw[AP]at H;exact⟨F.1,o.after[k],by simp,AM H.1,H.2⟩
theorem K4{ops:List Oper}(h:ZR ops=true){i j:Nat}{o p:Oper}(D:i≠j)(J:ops[i]?=O p)(E:ops[j]?=O o){d:Tmp}(L:p.dst=O d):o.dst≠O d:=by
 have F:∀ {i j:Nat} {o p:Oper},i<j→ops[i]?=O p→ops[j]?=O o→∀d,p.dst=O d→o.dst≠O d:=by
  intro i j o p D J E d L M;have H:=AY.1 h j (Bh.2 (AX.1 E).1);have U:=AY.1 H i (Bh.2 D);simp[J,E,L,M]at U
 rcases Dd D with H|H
 ·exact F H J E d L
 ·intro M;exact F H E J d M L
theorem Hv(a:Act)(d t:Tmp)(v:Value):(a.put (O d) v).tmps.getD t undef=if d=t∧d<a.tmps.size then v else a.tmps.getD t undef:=by
 simp only[Act.put,Ap,DP];by_cases h:d=t
 ·subst h;by_cases D:d<a.tmps.size
  ·simp[D]
  ·simp[D]
 ·simp[h]
theorem II(a:Act)(x:Option Tmp)(v:Value):(a.put x v).tmps.size=a.tmps.size:=by cases x <;>simp[Act.put]
theorem JA(a:Act)(x:Option Tmp)(v:Value):(a.put x v).defers=a.defers:=by cases x <;>rfl
theorem J1{P:Program}{ops:Array Oper}{C:World→Prop}{af:Act}:∀(l:List Oper) (a:Act),(∀o∈l,o.guard=N)→wpQuiet P ops C (fun J=>J=af) l a →
  a.tmps.size=af.tmps.size∧a.defers=af.defers∧∀t,(∀o∈l,o.dst≠O t)→a.tmps.getD t undef=af.tmps.getD t undef
 |[],a,_,h=>by obtain rfl:a=af:=h;exact⟨rfl,rfl,fun _ _=>rfl⟩
 | o :: l,a,hg,h=>by
  unfold wpQuiet at h;rw[AF (by unfold Region.wanted;rw[hg o (by simp)])]at h;obtain⟨v,_,L⟩:=h;obtain⟨E,F,M⟩:=J1 l _ (fun x D=>hg x (by simp[D])) L;rw[II]at E;rw[JA]at F;refine⟨E,F,fun t H=>?_⟩;rw[←M t (fun x D=>H x (by simp[D]))]
  cases U:o.dst with
  |none=>rfl
  |some d =>
   have:d≠t:=fun e=>H o (by simp) (by rw[U,e]);rw[Hv,AA (fun e=>this e.1)]
theorem NU{P:Program}{ops:Array Oper}{C:World→Prop}{af:Act}(Y:∃ w,C w):∀(l:List Oper) (a:Act),(∀o∈l,o.guard=N)→(∀o∈l,∀cs b,o.op≠.select cs b)→wpQuiet P ops C (fun Z=>Z=af) l a →
  (∀(i j:Nat) (o p:Oper),l[i]?=O p→l[j]?=O o→∀t:Tmp,Operand.tmp t∈o.op.operands→p.dst=O t→i<j) →
  (∀(i j:Nat) (o p:Oper),i≠j→l[i]?=O p→l[j]?=O o→∀d,p.dst=O d→o.dst≠O d) →
  ∀(j:Nat) (o:Oper),l[j]?=O o→∃v,(∀w,C w→o.quietAt P af C w v)∧∀d,o.dst=O d→d<af.tmps.size→af.tmps.getD d undef=v
 |[],_,_,_,_,_,_,j,o,D=>by simp at D
 | o :: l,a,hg,hsel,h,hs,hd,j,q,D=>by
  have hk:=J1 (o :: l) a hg h;unfold wpQuiet at h;rw[AF (by unfold Region.wanted;rw[hg o (by simp)])]at h;obtain⟨v,h1,U⟩:=h
  cases j with
  | zero =>
   obtain rfl:o=q:=(by simpa using D);refine⟨v,fun w hw=>?_,fun d L M=>?_⟩
   ·have:=h1 w hw;unfold Oper.quietAt at this⊢;rwa[DC (ρ:=af.eval) (ρ':=a.eval) o (hsel o (by simp)) (fun x E=>?_)]
    cases x with
    |tmp t =>
     show af.tmps.getD t undef=a.tmps.getD t undef;refine(hk.2.2 t (fun p F H=>?_)).symm;obtain⟨i,J⟩:=Cl F;exact absurd (hs i 0 o p J (by simp) t E H) (by omega)
    |_=>rfl
   ·obtain⟨V,_,h5⟩:=J1 l _ (fun x E=>hg x (by simp[E])) U;rw[←h5 d (fun p F H=>?_),L,Hv,AF ⟨rfl,by rw[II]at V;rw[V];exact M⟩];obtain⟨i,J⟩:=Cl F;exact hd 0 (i+1) p o (by omega) (by simp) (by simpa using J) d L H
  | succ j =>
   exact NU Y l _ (fun x E=>hg x (by simp[E])) (fun x E=>hsel x (by simp[E])) U (fun i j o p J D t ht F=>by
    have:=hs (i+1) (j+1) o p (by simpa using J) (by simpa using D) t ht F;omega) (fun i j o p ha J D d F=>hd (i+1) (j+1) o p (by omega) (by simpa using J) (by simpa using D) d F) j q (by simpa using D)
def JB(s:Nat→Tmp)(v:Nat→Value)(a:Act):Nat→Act
 |0=>a
 |m+1=>(JB s v a m).put (O (s m)) (v m)
theorem M9(s:Nat→Tmp)(v:Nat→Value)(a:Act):∀m,(JB s v a m).tmps.size=a.tmps.size
 |0=>rfl
 |m+1=>by show((JB s v a m).put _ _).tmps.size=_;rw[II,M9 s v a m]
theorem Pi(s:Nat→Tmp)(v:Nat→Value)(a:Act):∀m,(JB s v a m).defers=a.defers
 |0=>rfl
 |m+1=>by show((JB s v a m).put _ _).defers=_;rw[JA,Pi s v a m]
theorem Qi(s:Nat→Tmp)(v:Nat→Value)(a:Act)(t:Tmp):∀m,(∀k,k<m→s k≠t)→(JB s v a m).tmps.getD t undef=a.tmps.getD t undef
 |0,_=>rfl
 |m+1,h=>by
  show((JB s v a m).put _ _).tmps.getD t undef=_;rw[Hv,AA (fun e=>h m (by omega) e.1)];exact Qi s v a t m (fun k D=>h k (by omega))
theorem SU(s:Nat→Tmp)(v:Nat→Value)(a:Act)(k:Nat)(D:s k<a.tmps.size):∀m,k<m→(∀i j,i<m→j<m→i≠j→s i≠s j)→(JB s v a m).tmps.getD (s k) undef=v k
 |m+1,hk,h=>by
  show((JB s v a m).put _ _).tmps.getD (s k) undef=_;by_cases e:k=m
  ·subst e;rw[Hv,AF ⟨rfl,by rw[M9];exact D⟩]
  ·rw[Hv,AA (fun E=>h m k (by omega) (by omega) (BW e) E.1)];exact SU s v a k D m (by omega) (fun i j F H=>h i j (by omega) (by omega))
structure Rh(P:Program)(ops:List Oper)(n m:Nat)(s:Nat→Tmp)(T:Nat→TypeId)(y:Nat→Operand)(z:Nat→Array Value)(sz:Nat→Nat):Prop where
 len:ops.length=n+m+m
 al:∀k,k<m→∃o,ops[n+k]?=O o∧o.op=.alloc (T k)∧o.dst=O (s k)
 st:∀k,k<m→∃o,ops[n+m+k]?=O o∧o.op=.store (T k) (Am (s k)) (y k)∧o.dst=N
 run:∀k,k<m→∀o:Oper,o.op=.alloc (T k)→∀(a:Act) (w:World) (K:Act→World→Prop) (Q:Exit→Act→World→Prop),K (a.put o.dst (Ae (O ⟨w.heap.size,0,N⟩))) (w.alloc (Al (z k) (T k)))→o.wp P a w K Q
 size:∀k,k<m→(z k).size=sz k
 info:∀k,k<m→(P.info? (T k)).map (·.size)=O (sz k)
theorem Mz(w:World)(z:Array Value)(t:TypeId):(w.alloc (Al z t)).there w.heap.size 0 z.size:=fun j h=>by
 simp[go_sem,h]
structure FI(ops:List Oper)(n m:Nat)(s:Nat→Tmp)(af:Act)(L:Nat→Bool)(v:Nat→Value)(ac:Act):Prop where
 size:ac.tmps.size=af.tmps.size
 defs:ac.defers=af.defers
 out:∀t,(∀o∈ops,o.dst≠O t)→ac.tmps.getD t undef=af.tmps.getD t undef
 qs:∀(i:Nat) (o:Oper) (d:Tmp),i<n→ops[i]?=O o→L i=true→o.dst=O d→ac.tmps.getD d undef=af.tmps.getD d undef
 vs:∀k,k<m→L (n+k)=true→ac.tmps.getD (s k) undef=v k
theorem FI.eval{ops:List Oper}{n m:Nat}{s:Nat→Tmp}{T:Nat→TypeId}{y:Nat→Operand}{z:Nat→Array Value}{sz:Nat→Nat}{P:Program}(U:Rh P ops n m s T y z sz){af:Act}{L:Nat→Bool}{v:Nat→Value}{V:Act}
  (h:FI ops n m s af L v V) (F:YP ops=true) {j:Nat} {o:Oper} (hj:ops[j]?=O o) (he:∀e∈o.after,Region.binds .any e=true→L e.on=true)
  {x:Operand} (hx:x∈o.op.operands) (Y:∀k,k<m→x≠Am (s k)):V.eval x=af.eval x:=by
 cases x with
 | tmp t =>
  show V.tmps.getD t undef=af.tmps.getD t undef;by_cases H:∃p∈ops,p.dst=O t
  ·obtain⟨p,hp,E⟩:=H;obtain⟨i,J⟩:=Cl hp;obtain⟨hk,e,Z,ha,hb⟩:=KJ F hj J hx E;have hc:L i=true:=(by rw[←ha];exact he e Z hb);have hg:i<ops.length:=(AX.1 J).1;rw[U.len]at hg;by_cases hh:i<n
   ·exact h.qs i p t hh J hc E
   ·exfalso;by_cases hl:i<n+m
    ·obtain⟨q,M,_,D⟩:=U.al (i - n) (by omega);rw[show n+(i - n)=i by omega,J]at M;obtain rfl:=Bd M;rw[E]at D;exact Y (i - n) (by omega) (by rw[Bd D])
    ·obtain⟨q,M,_,D⟩:=U.st (i - (n+m)) (by omega);rw[show n+m+(i - (n+m))=i by omega,J]at M;obtain rfl:=Bd M;rw[E]at D
     cases D
  ·exact h.out t (fun o ho hd=>H ⟨o,ho,hd⟩)
 |_=>rfl
theorem FI.put{ops:List Oper}{n m:Nat}{s:Nat→Tmp}{T:Nat→TypeId}{y:Nat→Operand}{z:Nat→Array Value}{sz:Nat→Nat}{P:Program}(hf:Rh P ops n m s T y z sz){af:Act}{L:Nat→Bool}{v:Nat→Value}{ac:Act}
  (h:FI ops n m s af L v ac) (F:ZR ops=true) {j:Nat} {o:Oper} (J:ops[j]?=O o) (u:Value) (v':Nat→Value)
  (hq:∀d,j<n→o.dst=O d→d<af.tmps.size→af.tmps.getD d undef=u)
  (hv:∀k,k<m→j≠n+k→v' k=v k) (ha:∀k,k<m→j=n+k→v' k=u∧s k<af.tmps.size):FI ops n m s af (upd L j) v' (ac.put o.dst u):=by
 refine⟨by rw[II];exact h.size,by rw[JA];exact h.defs,fun t ht=>?_,fun i p d hi hp M Y=>?_,fun k Z M=>?_⟩
 ·rw[←h.out t ht]
  cases U:o.dst with
  |none=>rfl
  |some d =>
   have:d≠t:=fun e=>ht o (BE J) (by rw[U,e]);rw[Hv,AA (fun e=>this e.1)]
 ·by_cases D:i=j
  ·subst D;rw[hp]at J;obtain rfl:=Bd J;rw[Y,Hv];by_cases E:d<af.tmps.size
   ·rw[AF ⟨rfl,by rw[h.size];exact E⟩,hq d hi Y E]
   ·rw[AA (fun e=>E (by rw[←h.size];exact e.2))];simp[Array.getD,E,h.size]
  ·rw[←h.qs i p d hi hp (by unfold upd at M;rwa[AA D]at M) Y]
   cases U:o.dst with
   |none=>rfl
   |some d' =>
    have:d'≠d:=fun e=>K4 F D hp J Y (by rw[U,e]);rw[Hv,AA (fun e=>this e.1)]
 ·obtain⟨q,H,_,V⟩:=hf.al k Z;by_cases D:j=n+k
  ·subst D;rw[J]at H;obtain rfl:=Bd H;obtain⟨e1,e2⟩:=ha k Z R;rw[V,Hv,AF ⟨rfl,by rw[h.size];exact e2⟩,e1]
  ·rw[hv k Z D,←h.vs k Z (by unfold upd at M;rwa[AA (BW D)]at M)]
   cases U:o.dst with
   |none=>rfl
   |some d' =>
    have:d'≠s k:=fun e=>K4 F D J H U (by rw[V,e]);rw[Hv,AA (fun e=>this e.1)]
theorem QC{P:Program}{id:Nat}{Q:Exit→Act→World→Prop}{a:Act}{w:World}{ops:List Oper}(n m:Nat){s:Nat→Tmp}{T:Nat→TypeId}{y:Nat→Operand}{z:Nat→Array Value}{sz:Nat→Nat}(cs:Nat→List Value)
  (H:Rh P ops n m s T y z sz) (hm:P.follows .mixedOrders=true) (hb:Mp ops.toArray=true) (J:YP ops=true) (M:ZR ops=true) (hI:ops.all (fun o=>o.guard.isNone)=true)
  (hg:Region.noSelect ops.toArray=true) (hy:∀k,k<m→∀k',k'<m→y k≠Am (s k')) (hJ:∀k,k<m→s k<a.tmps.size) (af:Act)
  (hq:∀w1,Below w.heap.size w w1→wpQuiet P ops.toArray (fun w'=>∃x:Hm w1,w'=x.val) (fun a'=>a'=af) (ops.take n) a)
  (hK:∀k,k<m→af.eval (y k)=Af (cs k).toArray∧(cs k).length=sz k∧(cs k).toArray.all (·.oneCell')=true)
  (hz:∀v g w1,VW w m sz cs (fun _=>true) (fun _=>true) v g w1→Q .normal (JB s v af m) w1):(Code.region id ops.toArray true).wp P Q a w:=by
 have hl:∀o∈ops,o.guard=N:=fun o E=>by simpa using AY.1 hI o E
 have hc:=J1 (ops.take n) a (fun o E=>hl o (C6 E)) (hq w Fv);have hh:∀k,k<m→s k<af.tmps.size:=fun k hk=>by rw[←hc.1];exact hJ k hk
 have hB:=H.len;refine Ld hm (fun L Y w1=>∃v g,FI ops n m s af L v Y∧VW w m sz cs (fun k=>L (n+k)) (fun k=>L (n+m+k)) v g w1) hb ?_ ?_ ?_
 ·refine⟨fun _=>undef,fun _=>0,⟨hc.1,hc.2.1,fun t ht=>hc.2.2 t (fun o E=>ht o (C6 E)),?_,?_⟩,⟨Fv.drew,?_,?_,?_⟩⟩<;>(intros;simp_all)
 ·rintro L Y w1 i o⟨v,g,hF,hW⟩ hn hL he;have E:ops[i]?=O o:=by simpa using hn
  have hM:i<ops.length:=(AX.1 E).1;have hC:=BE E;refine Gn hn (hl o hC) ?_;by_cases hr:i<n
  ·have hN:(ops.take n)[i]?=O o:=(by rw[CR,AF hr];exact E);obtain⟨u,hO,hP⟩:=NU (P:=P) (ops:=ops.toArray) (C:=fun w'=>∃x:Hm w1,w'=x.val) (af:=af) ⟨w1,⟨w1,AD _ _⟩,rfl⟩ (ops.take n) a (fun o E=>hl o (C6 E))
    (fun o E cs b=>by
     obtain⟨j,V⟩:=Cl (C6 E);exact CI hg j o cs b (by simpa using V)) (hq w1 hW.bel)
    (fun i j o p Z V t ht hp=>by
     rw[CR]at Z V;split at Z <;>split at V <;>simp_all
     exact(KJ J V Z (by simpa using ht) hp).1)
    (fun i j o p hD Z V d hp=>by
     rw[CR]at Z V;split at Z <;>split at V <;>simp_all
     exact K4 M hD Z V hp) i o hN
   have hQ:o.quiet P Y (fun w'=>∃x:Hm w1,w'=x.val) (fun a'=>a'=Y.put o.dst u):=by
    refine⟨u,fun w2 hs=>?_,rfl⟩;have:=hO w2 hs;unfold Oper.quietAt at this⊢;rwa[DC (ρ:=Y.eval) (ρ':=af.eval) o (fun cs b=>CI hg i o cs b hn) (fun x hx=>?_)];refine hF.eval H J E he hx (fun k hk hR=>?_);subst hR;obtain⟨q,D,_,F⟩:=H.al k hk;have:=(KJ J E D hx F).1;omega
   refine DJ (C:=fun w'=>∃x:Hm w1,w'=x.val) ⟨⟨w1,AD _ _⟩,rfl⟩ (fun a' w2 hs hT=>?_) hQ;obtain⟨x,rfl⟩:=hs;subst hT;refine⟨v,g,hF.put H M E u v (fun d _ hd hU=>hP d hd hU) (fun _ _ _=>rfl) (fun k _ h=>by omega),(hW.below x.bel).congr (fun k _=>AA (by omega)) (fun k _=>AA (by omega)) (fun _ _=>rfl)⟩
  ·by_cases hV:i<n+m
   ·obtain⟨k,rfl⟩:∃k,i=n+k:=⟨i - n,by omega⟩;obtain⟨q,D,ha,F⟩:=H.al k (by omega);rw[E]at D;obtain rfl:=Bd D;refine H.run k (by omega) o ha Y w1 _ _ ?_;have hA:=hW.alloc k hL (Al (z k) (T k)) (by rw[←H.size k (by omega)];exact Mz _ _ _);refine⟨_,_,hF.put H M E _ (fun j=>if j=k then Ae (O ⟨w1.heap.size,0,N⟩)else v j) (fun d h=>by omega) (fun j _ h=>AA (by omega)) (fun j V h=>?_),hA.congr (fun j _=>?_) (fun j _=>AA (by omega)) (fun _ _=>rfl)⟩
    ·obtain rfl:j=k:=(by omega);exact⟨AF R,hh j V⟩
    ·simp only[upd,D6]
   ·obtain⟨k,rfl⟩:∃k,i=n+m+k:=⟨i - (n+m),by omega⟩;have U:k<m:=(by omega);obtain⟨q,D,ha,F⟩:=H.st k U;rw[E]at D;obtain rfl:=Bd D;obtain⟨c1,c2,c3⟩:=hK k U;obtain⟨qa,hX,_,hY⟩:=H.al k U;have hu:L (n+k)=true:=by
     obtain⟨_,e,hZ,ca,cc⟩:=KJ J E hX (by rw[ha];simp[Op.operands]) hY;rw[←ca];exact he e hZ cc
    obtain⟨p1,p2,p3,p4⟩:=hW.own k U hu;refine DV (T k) (Am (s k)) (y k) ha (g k) 0 (cs k).toArray ?_ ?_ (by simpa[c2]using p4) (by rw[H.info k U];simp[c2]) c3 ?_
    ·show Y.tmps.getD (s k) undef=_;rw[hF.vs k U hu,p1]
    ·rw[hF.eval H J E he (by rw[ha];simp[Op.operands]) (fun k' cd=>hy k U k' cd),c1]
    ·refine⟨v,g,hF.put H M E _ v (fun d h=>by omega) (fun _ _ _=>rfl) (fun j _ h=>by omega),?_⟩;have hS:=hW.store k U hu c2;refine VW.congr (l:=fun j=>L (n+j)) (st:=fun j=>if j=k then true else L (n+m+j)) (v:=v) hS (fun j _=>AA (by omega)) (fun j _=>?_) (fun _ _=>rfl);simp only[upd,D6]
 ·rintro L Y w1⟨v,g,hF,hW⟩ hE;have hL:∀j,j<n+m+m→L j=true:=fun j V=>hE j (by simpa[hB]using V);have e:Y=JB s v af m:=by
   have hG:∀t,Y.tmps.getD t undef=(JB s v af m).tmps.getD t undef:=fun t=>by
    by_cases hv:∃k,k<m∧s k=t
    ·obtain⟨k,hk,rfl⟩:=hv;rw[hF.vs k hk (hL _ (by omega)),SU s v af k (hh k hk) m hk (fun i j Z V hD e=>?_)];obtain⟨q,D,_,F⟩:=H.al i Z;obtain⟨r,ce,_,cf⟩:=H.al j V;exact K4 M (show n+i≠n+j by omega) D ce F (by rw[cf,e])
    ·rw [Qi s v af t m (fun k hk e=>hv ⟨k,hk,e⟩)];by_cases hH:∃p∈ops,p.dst=O t
     ·obtain⟨p,hp,hw⟩:=hH;obtain⟨i,Z⟩:=Cl hp;have hM:i<ops.length:=(AX.1 Z).1;by_cases hr:i<n
      ·exact hF.qs i p t hr Z (hL _ (by omega)) hw
      ·exfalso;by_cases hV:i<n+m
       ·obtain⟨q,D,_,F⟩:=H.al (i - n) (by omega);rw[show n+(i - n)=i by omega,Z]at D;obtain rfl:=Bd D;rw[hw]at F;exact hv ⟨i - n,by omega,(Bd F).symm⟩
       ·obtain⟨q,D,_,F⟩:=H.st (i - (n+m)) (by omega);rw[show n+m+(i - (n+m))=i by omega,Z]at D;obtain rfl:=Bd D;rw[hw]at F
        cases F
     ·exact hF.out t (fun o E hd=>hH ⟨o,E,hd⟩)
   have cg:Y.tmps.size=(JB s v af m).tmps.size:=(by rw[M9];exact hF.size);have ch:Y.tmps=(JB s v af m).tmps:=by
    apply E6 cg;intro i h1 h2;have:=hG i;simpa[Array.getD,h1,h2]using this
   have ci:Y.defers=(JB s v af m).defers:=by rw[Pi];exact hF.defs
   cases Y
   cases hp:JB s v af m;simp_all
  rw[e];exact hz v g w1 (hW.congr (fun k hk=>(hL _ (by omega)).symm) (fun k hk=>(hL _ (by omega)).symm) (fun _ _=>rfl))
def FV(n:Int):Bool:=decide (0≤n∧n≤255)
def F5(n:Int):Bool:=decide (0≤n∧n<8)
def Hx(n:Int):Bool:=decide (-1000000≤n∧n≤1000000)
def IC(n:Int):Int:=if n < -1000000 then -1000000 else if 1000000<n then 1000000 else n
theorem Hs(n:Int)(w:World):
  Calls Au 44 #[I K n] w fun e h=>e=Ao (Aj (FV n))∧h=w:=by
 by_cases h0:0≤n <;>by_cases D:n≤255
 all_goals
  go_enter Tryz.func44,Tryz.ntmps44
  go_wp2;go_ret;exact⟨by simp[FV,h0,D],rfl⟩
theorem IG(n:Int)(w:World):
  Calls Au 45 #[I K n] w fun e h=>e=Ao (Aj (FV n))∧h=w:=by
 by_cases h0:0≤n <;>by_cases D:n≤255
 all_goals
  go_enter Tryz.func45,Tryz.ntmps45
  go_wp2;go_ret;exact⟨by simp[FV,h0,D],rfl⟩
theorem Jq(n:Int)(w:World):
  Calls Au 118 #[I K n] w fun e h=>e=Ao (Aj (F5 n))∧h=w:=by
 by_cases h0:0≤n <;>by_cases D:n<8
 all_goals
  go_enter Tryz.func118,Tryz.ntmps118
  go_wp2;go_ret;exact⟨by simp[F5,h0,D],rfl⟩
theorem Il(n:Int)(w:World):
  Calls Au 124 #[I K n] w fun e h=>e=Ao (Aj (Hx n))∧h=w:=by
 by_cases h0:-1000000≤n <;>by_cases D:n≤1000000
 all_goals
  go_enter Tryz.func124,Tryz.ntmps124
  go_wp2;go_ret;exact⟨by simp[Hx,h0,D],rfl⟩
theorem Gm(n:Int)(w:World):
  Calls Au 97 #[I K n] w fun e h=>e=Ao (Aj (Hx n))∧h=w:=by
 by_cases h0:-1000000≤n <;>by_cases D:n≤1000000
 all_goals
  go_enter Tryz.func97,Tryz.ntmps97
  go_wp2;go_ret;exact⟨by simp[Hx,h0,D],rfl⟩
theorem eU(n:Int)(w:World):
  Calls Au 134 #[I K n] w fun e h=>e=Ao (I K (IC n))∧h=w:=by
 by_cases h0:n < -1000000 <;>by_cases D:1000000<n
 ·omega
 all_goals
  go_enter Tryz.func134,Tryz.ntmps134
  go_wp2;go_ret;exact⟨by unfold IC;(repeat' split)<;>first|rfl|omega,rfl⟩
theorem Yj(n:Int)(w:World):
  Calls Au 64 #[I K n] w fun e h=>e=Ao (I K (IC n))∧h=w:=by
 by_cases h0:n < -1000000 <;>by_cases D:1000000<n
 ·omega
 all_goals
  go_enter Tryz.func64,Tryz.ntmps64
  go_wp2;go_ret;exact⟨by unfold IC;(repeat' split)<;>first|rfl|omega,rfl⟩
theorem Sn(k:Int)(h:F5 k=true):k=0∨k=1∨k=2∨k=3∨k=4∨k=5∨k=6∨k=7:=by
 have:=AM h;omega
theorem Td(k:Int)(w:World):
  Calls Au 125 #[I K k] w fun e D=>e=Ao (I K (Ge k))∧D=w:=by
 by_cases h:F5 k=true
 ·rcases Sn k h with rfl|rfl|rfl|rfl|rfl|rfl|rfl|rfl
  all_goals
   clear h;go_enter Tryz.func125,Tryz.ntmps125
   go_wp2;go_ret;exact⟨rfl,rfl⟩
 ·have E:F5 k=false:=by simpa using h
  clear h;go_enter Tryz.func125,Tryz.ntmps125
  go_wp2_with(go_at_call 118;refine(Jq _ _).mono ?_;rintro e D⟨rfl,rfl⟩)
  go_ret;exact⟨by have:=Es E;simp[Ge,this],rfl⟩
def IJ(a n h:Int):Bool:=bits .andNot K a h == 0 && bits .and K n h == 0
theorem Y6(a n h:Int)(w:World):
  Calls Au 95 #[Af #[I K a,I K n],I K h] w fun e D=>e=Ao (Aj (IJ a n h))∧D=w.alloc (Al #[I K a,I K n] 34):=by
 go_enter Tryz.func95,Tryz.ntmps95
 go_wp2
 all_goals
  go_ret;exact⟨by simp[IJ, *],rfl⟩
theorem Om(a k:Int)(w:World):
  Calls Au 126 #[I K a,I K k] w fun e h=>e=Ao (Aj (bits .and K a (Ge k) != 0))∧h=w:=by
 go_enter Tryz.func126,Tryz.ntmps126
 go_wp2_with(go_at_call 125;refine(Td _ _).mono ?_;rintro e h⟨rfl,rfl⟩)
 go_ret;exact⟨rfl,rfl⟩
theorem Ln(a k:Int)(w:World):
  Calls Au 86 #[I K a,I K k] w fun e h=>e=Ao (I K (bits .or K a (Ge k)))∧h=w:=by
 go_enter Tryz.func86,Tryz.ntmps86
 go_wp2_with(go_at_call 125;refine(Td _ _).mono ?_;rintro e h⟨rfl,rfl⟩)
 go_ret;exact⟨rfl,rfl⟩
theorem PY(a k:Int)(w:World):
  Calls Au 87 #[I K a,I K k] w fun e h=>e=Ao (I K (bits .andNot K a (Ge k)))∧h=w:=by
 go_enter Tryz.func87,Tryz.ntmps87
 go_wp2_with(go_at_call 125;refine(Td _ _).mono ?_;rintro e h⟨rfl,rfl⟩)
 go_ret;exact⟨rfl,rfl⟩
def T9(ops:Array Oper):Bool:=(List.range (ops.size - 1)).all fun j=>(List.range ops.size).any fun k=>decide (j<k) && (match ops[k]? with
 |some o=>o.after.any fun e=>decide (e.on=j) && Region.binds .any e
 |none=>false)
theorem YS{ops:Array Oper}(h:T9 ops=true)(j:Nat)(M:j+1<ops.size):∃k o,j<k∧ops[k]?=O o∧∃e∈o.after,e.on=j∧Region.binds .any e=true:=by
 have J:=AY.1 h j (Bh.2 (by omega));obtain⟨k,_,H⟩:=DK.1 J;rw[AP]at H;obtain⟨L,D⟩:=H
 cases E:ops[k]? with
 |none=>rw[E]at D;cases D
 |some o =>
  rw[E]at D;obtain⟨i,U,F⟩:=Cc.1 D;rw[AP]at F;exact⟨k,o,AM L,E,o.after[i],by simp,AM F.1,F.2⟩
def OR(ops:Array Oper)(listed:Array Bool):Prop:=∀j o,ops[j]?=O o→listed.getD j false=true→∀e∈o.after,Region.binds .any e=true→listed.getD e.on false=true
theorem RY{ops:Array Oper}(U:T9 ops=true){D:Array Bool}(V:OR ops D)(n:Nat)(hn:ops.size=n+1)(Y:n∈Region.ready .any ops D):
  ∀d j,j+d+1=n→D.getD j false=true:=by
 intro d
 induction d using Nat.strongRecOn with
 |ind d ih =>
  intro j hj;obtain⟨k,o,hk,L,e,M,E,F⟩:=YS U j (by omega);have Z:k<ops.size:=(Bk.1 L).1;by_cases h:k=n
  ·subst h;obtain⟨_,o',H,J⟩:=Cu.1 Y;rw[L]at H;obtain rfl:=Bd H;rw[←E];exact J e M F
  ·have:=ih (n - 1 - k) (by omega) k (by omega);rw[←E];exact V k o L this e M F
theorem QG{P:Program}{md:Region.Mode}{ops:Array Oper}{Q:Exit→Act→World→Prop}{D:Array Bool}{a:Act}{w:World}(F:Region.ready md ops D=[])(h:Q .normal a w):
  ∀E,wpAny P md ops Q E D a w
 |0=>⟨F,h⟩
 |_+1=>⟨fun _=>h,fun i H=>by rw[F]at H;cases H⟩
theorem Ku(l:Array Bool)(i:Nat)(d:Bool)(h:i<l.size):(l.push false).getD i d=l.getD i d:=by
 simp[Ft,CL h]
theorem UY(l:Array Bool)(i:Nat)(h:i<l.size):(l.push false).setIfInBounds i true=(l.setIfInBounds i true).push false:=by
 apply Array.ext_getElem?;intro j;simp only[DP,Ft,Array.size_push,E3];by_cases D:i=j
 ·subst D;simp[CL h,h];omega
 ·simp[D]
theorem RT{ops:Array Oper}{h:Array Bool}(U:OR ops h){i:Nat}(V:i∈Region.ready .any ops h):OR ops (h.setIfInBounds i true):=by
 intro j o J L e M D;by_cases E:i=j
 ·subst E;obtain⟨_,Y,F,H⟩:=Cu.1 V;rw[J]at F;obtain rfl:=Bd F;exact getD_set_true (H e M D)
 ·rw[Eg false E]at L;exact getD_set_true (U j o J L e M D)
section
variable {P:Program} {C:World→Prop} {Q:Exit→Act→World→Prop} {Qq:Act→Prop} {l:List Oper} {o:Oper}
theorem Vq(hg:∀ x∈l++[o],x.guard=N)(hb:Mp (l++[o]).toArray=true)(hs:T9 (l++[o]).toArray=true)
  (hQ:∀a w,C w→Qq a→o.wp P a w (fun a' w'=>Q .normal a' w') Q):
  ∀H D a w,D.size=l.length→OR (l++[o]).toArray (D.push false)→C w→wpAnyQ P .any l.toArray C Qq H D a →
   wpAny P .any (l++[o]).toArray Q (H+1) (D.push false) a w:=by
 intro H
 induction H with
 | zero =>
  intro D a w J hc hw h;refine⟨fun h0=>?_,fun i hi=>?_⟩
  ·exfalso;have:=KB hb _ (by simp[J]) h0 l.length (by simp);simp[←J]at this
  ·obtain⟨L,U,F,ha⟩:=Cu.1 hi;have hd:i<l.length+1:=(by have:=(Bk.1 F).1;simpa using this);by_cases hf:i=l.length
   ·subst hf;have e:U=o:=(by simpa using F.symm);subst e;refine Gn F (hg _ (by simp)) ?_;refine Dc (fun a' w' Y=>QG ?_ Y _) (hQ a w hw h.2);rw[CB];intro k hk;obtain⟨E,ok,M,_⟩:=Cu.1 hk;have hh:k<l.length+1:=(by have:=(Bk.1 M).1;simpa using this);by_cases hj:k=l.length
    ·subst hj;simp[←J]at E
    ·have:=RY hs hc l.length (by simp) hi (l.length - 1 - k) k (by omega);rw[Eg true (by omega)]at E;rw[Ku _ _ _ (by omega)]at this E;simp[Array.getD,show k<D.size by omega]at this E;rw[this]at E;cases E
   ·exfalso;have V:i∈Region.ready .any l.toArray D:=by
     rw[Cu];refine⟨by rw[Ku _ _ _ (by omega)]at L;exact L,U,?_,fun e he hl=>?_⟩
     ·have:i<l.length:=(by omega);simpa[BF this]using F
     ·have h2:=ha e he hl;have h3:=AY.1 hb i (Bh.2 (by simpa using hd));simp only[F]at h3;have h4:e.on<i:=(by simpa using Ct.1 h3 e he);rwa[Ku _ _ _ (by omega)]at h2
    rw[h.1]at V
    cases V
 | succ H ih =>
  intro D a w J hc hw h;refine⟨fun h0=>?_,fun i hi=>?_⟩
  ·exfalso;have:=KB hb _ (by simp[J]) h0 l.length (by simp);simp[←J]at this
  ·obtain⟨L,U,F,ha⟩:=Cu.1 hi;have hd:i<l.length+1:=(by have:=(Bk.1 F).1;simpa using this);by_cases hf:i=l.length
   ·subst hf;have e:U=o:=(by simpa using F.symm);subst e;have Z:∀k,k<l.length→D.getD k false=true:=fun k hk=>by
     have:=RY hs hc l.length (by simp) hi (l.length - 1 - k) k (by omega);rwa[Ku _ _ _ (by omega)]at this
    have hm:Region.ready .any l.toArray D=[]:=by
     rw[CB];intro k hk;obtain⟨E,ok,M,_⟩:=Cu.1 hk;have hh:k<l.length:=(by have:=(Bk.1 M).1;simpa using this);have:=Z k hh;simp[Array.getD,show k<D.size by omega]at this E;rw[this]at E;cases E
    refine Gn F (hg _ (by simp)) ?_;refine Dc (fun a' w' Y=>QG ?_ Y _) (hQ a w hw (h.1 hm));rw[CB];intro k hk;obtain⟨E,ok,M,_⟩:=Cu.1 hk;have hh:k<l.length+1:=(by have:=(Bk.1 M).1;simpa using this);by_cases hj:k=l.length
    ·subst hj;simp[←J]at E
    ·have:=Z k (by omega);rw[Eg true (by omega)]at E;rw[Ku _ _ _ (by omega)]at E;simp[Array.getD,show k<D.size by omega]at this E;rw[this]at E;cases E
   ·have hn:l.toArray[i]?=O U:=by
     have:i<l.length:=(by omega);simpa[BF this]using F
    have V:i∈Region.ready .any l.toArray D:=by
     rw[Cu];refine⟨by rw[Ku _ _ _ (by omega)]at L;exact L,U,hn,fun e he hl=>?_⟩;have h2:=ha e he hl;have h3:=AY.1 hb i (Bh.2 (by simpa using hd));simp only[F]at h3;have h4:e.on<i:=(by simpa using Ct.1 h3 e he);rwa[Ku _ _ _ (by omega)]at h2
    have Y:=h.2 i V;unfold qOp at Y;simp only[hn]at Y;have ho:U∈l++[o]:=by
     have:=BE (show(l++[o])[i]?=O U by simpa using F);exact this
    have hp:=hg U ho;rw[AF (by unfold Region.wanted;rw[hp])]at Y;refine Gn F hp ?_;refine DJ hw (fun a' w' hr h'=>?_) Y;rw[UY _ _ (by omega)];exact ih _ a' w' (by simpa using J) (by rw[←UY _ _ (by omega)];exact RT hc hi) hr h'
theorem QE{id:Nat}{a:Act}{w:World}(hm:P.follows .mixedOrders=true)(hg:∀ x∈l++[o],x.guard=N)(hb:Mp (l++[o]).toArray=true)(hs:T9 (l++[o]).toArray=true)
  (hB:Region.lexB .any l.toArray=true)
  (h:wpQuiet P l.toArray (fun w'=>∃x:Hm w,w'=x.val) (fun a'=>∀w',(∃x:Hm w,w'=x.val)→o.wp P a' w' (fun a' w'=>Q .normal a' w') Q) l a):(Code.region id (l++[o]).toArray true).wp P Q a w:=by
 simp only[Region.lexB,AP]at hB;refine Ep hm ?_;have h1:=wpAnyQ_lex (P:=P) (C:=fun w'=>∃x:Hm w,w'=x.val) (md:=.any) hB.1 l 0 (Array.replicate l.length false) a (by simp) (by simpa using hB.2) h;have h2:=Vq (C:=fun w'=>∃x:Hm w,w'=x.val) (Q:=Q) hg hb hs (fun a w hw h=>h w hw) l.length (Array.replicate l.length false) a { w with drawn:=w.drawn+1 } (by simp)
  (by
   intro j oj _ hj;exfalso;have e:(Array.replicate l.length false).push false=Array.replicate (l.length+1) false:=(by simp[Fp]);rw[e]at hj;simp[Array.getD]at hj)
  ⟨⟨_,(Ek _ _).drew⟩,rfl⟩ h1
 have e:(Array.replicate l.length false).push false=Array.replicate (l.length+1) false:=by simp[Fp]
 rw[e]at h2;simpa using h2
theorem LJ{ops:List Oper}{L:Nat}{a:Act}{w:World}(n:Nat)(o:Oper)(M:ops[n]?=O o)(D:ops.length=n+1)(U:P.follows .mixedOrders=true)(E:ops.all (fun o=>o.guard.isNone)=true)
  (F:Mp ops.toArray=true) (H:T9 ops.toArray=true) (V:Region.lexB .any (ops.take n).toArray=true)
  (h:∀l,l=ops.take n→wpQuiet P l.toArray (fun w'=>∃x:Hm w,w'=x.val) (fun a'=>∀w',(∃x:Hm w,w'=x.val)→o.wp P a' w' (fun a' w'=>Q .normal a' w') Q) l a):(Code.region L ops.toArray true).wp P Q a w:=by
 have e:ops=ops.take n++[o]:=by
  have J:n<ops.length:=by omega
  have Y:ops.drop n=[o]:=by
   rw[CP J,DG (by omega)];simpa[AE J]using M
  rw[←Y,BS]
 have Z:=h _ R;rw[e]at E F H⊢;exact QE U (fun x hx=>by simpa using AY.1 E x hx) F H (by simpa[D]using V) (by simpa[D]using Z)
end
theorem QF{P:Program}{md:Region.Mode}{ops:Array Oper}{Q:Exit→Act→World→Prop}:∀f D a w,wpAny P md ops Q f D a w→wpAny P md ops Q (f+1) D a w
 |0,_,_,_,h=>⟨fun _=>h.2,fun i E=>by rw[h.1]at E;cases E⟩
 |f+1,_,_,_,h=>⟨h.1,fun i E=>E4 (fun F H J=>QF f _ F H J) (h.2 i E)⟩
theorem O1{P:Program}{md:Region.Mode}{ops:Array Oper}{Q:Exit→Act→World→Prop}{f:Nat}{D:Array Bool}{a:Act}{w:World}(h:wpAny P md ops Q f D a w):∀k,wpAny P md ops Q (k+f) D a w
 |0=>by rw[AT];exact h
 |k+1=>by rw[show k+1+f=(k+f)+1 by omega];exact QF _ _ _ _ (O1 h k)
def Ra(n:Nat)(ops:List Oper):Bool:=(List.range ops.length).all fun i=>decide (i≤n) || (match ops[i]? with
 |some o=>o.after.any fun e=>decide (e.on+1=i) && Region.binds .any e
 |none=>true)
def Ob(n:Nat)(ops:List Oper):Bool:=(List.range n).all fun j=>(List.range (n+1)).any fun k=>decide (j<k) && (match ops[k]? with
 |some o=>o.after.any fun e=>decide (e.on=j) && Region.binds .any e
 |none=>false)
theorem RZ{n:Nat}{ops:List Oper}(h:Ra n ops=true){i:Nat}{o:Oper}(H:n<i)(F:ops[i]?=O o):∃e∈o.after,e.on+1=i∧Region.binds .any e=true:=by
 have D:=AY.1 h i (Bh.2 (AX.1 F).1);simp only[F,Cg,Ci]at D;rcases D with D|D
 ·omega
 ·obtain⟨k,J,E⟩:=Cc.1 D;rw[AP]at E;exact⟨o.after[k],by simp,AM E.1,E.2⟩
theorem UA{n:Nat}{ops:List Oper}(h:Ob n ops=true)(j:Nat)(H:j<n):∃k o,j<k∧k≤n∧ops[k]?=O o∧∃e∈o.after,e.on=j∧Region.binds .any e=true:=by
 have J:=AY.1 h j (Bh.2 H);obtain⟨k,L,D⟩:=DK.1 J;rw[AP]at D
 cases E:ops[k]? with
 |none=>rw[E]at D;cases D.2
 |some o =>
  rw[E]at D;obtain⟨i,M,F⟩:=Cc.1 D.2;rw[AP]at F;exact⟨k,o,AM D.1,by have:=Bh.1 L;omega,E,o.after[i],by simp,AM F.1,F.2⟩
section
variable {P:Program} {C:World→Prop} {Q:Exit→Act→World→Prop} {Qq:Act→Prop} {ops:List Oper} {n:Nat}
theorem XE(V:Ob n ops=true){D:Array Bool}(Y:OR ops.toArray D)(Z:n∈Region.ready .any ops.toArray D):∀d j,j+d+1=n→D.getD j false=true:=by
 intro d
 induction d using Nat.strongRecOn with
 |ind d ih =>
  intro j hj;obtain⟨k,o,hk,ha,M,e,U,E,F⟩:=UA V j (by omega);by_cases h:k=n
  ·subst h;obtain⟨_,o',H,J⟩:=Cu.1 Z;have L:ops.toArray[k]?=O o:=(by simpa using M);rw[L]at H;obtain rfl:=Bd H;rw[←E];exact J e U F
  ·have:=ih (n - 1 - k) (by omega) k (by omega);rw[←E];exact Y k o (by simpa using M) this e U F
theorem Yg(Z:Ob n ops=true)(L:Ra n ops=true){D:Array Bool}(hc:OR ops.toArray D)(ht:∀ i,n≤i→i<ops.length→D.getD i false=false)
  (E:∃j,j<n∧D.getD j false=false) {i:Nat} (V:i∈Region.ready .any ops.toArray D):i<n:=by
 rcases Bo i n with h|h
 ·exact h
 ·exfalso;obtain⟨_,o,ho,F⟩:=Cu.1 V;have H:ops[i]?=O o:=by simpa using ho
  by_cases M:i=n
  ·subst M;obtain⟨j,hj,J⟩:=E;have:=XE Z hc V (i - 1 - j) j (by omega);rw[this]at J;cases J
  ·obtain⟨e,he,ha,U⟩:=RZ L (by omega) H;have Y:=F e he U;rw[ht e.on (by omega) (by have:=(AX.1 H).1;omega)]at Y
   cases Y
def H8(i N:Nat):Array Bool:=((List.range N).map fun j=>decide (j<i)).toArray
theorem Ry(i N:Nat):(H8 i N).size=N:=by simp[H8]
theorem Kg(i N j:Nat)(d:Bool)(h:j<N):(H8 i N).getD j d=decide (j<i):=by simp[H8,Array.getD,h]
theorem TM(i N:Nat):(H8 i N).setIfInBounds i true=H8 (i+1) N:=by
 apply E6 (by simp[H8]);intro j F h;have D:j<N:=by simpa[H8]using h
 rw[Array.getElem_setIfInBounds]
 ·by_cases e:i=j
  ·subst e;simp[H8]
  ·have E:(j<i)↔(j<i+1):=(by omega);simp[H8,e,E]
 ·simpa[H8]using D
theorem OX(hb:Mp ops.toArray=true)(L:Ra n ops=true)(hg:∀ o∈ops,o.guard=N):∀t i a w,n≤i→i+t=ops.length→wpList P ops.toArray Q (ops.drop i) a w→wpAny P .any ops.toArray Q t (H8 i ops.length) a w:=by
 intro t
 induction t with
 |zero =>
  intro i a w hn hi h;rw[DG (by omega)]at h;refine⟨?_,h⟩;rw[CB];intro k M;obtain⟨E,o,U,_⟩:=Cu.1 M;have V:k<ops.length:=by have:=(Bk.1 U).1;simpa using this
  rw[Kg _ _ _ _ V]at E;have:=Es E;omega
 | succ t ih =>
  intro i a w hn hi h;have D:i<ops.length:=by omega
  rw[CP D]at h;have Y:ops.toArray[i]?=O ops[i]:=by simp[D]
  refine⟨fun h0=>?_,fun k M=>?_⟩
  ·exfalso;have:=KB hb _ (by simp[Ry]) h0 i (by simpa using D);rw[Kg _ _ _ _ D]at this;simp at this
  ·obtain⟨E,o,U,F⟩:=Cu.1 M;have H:ops[k]?=O o:=(by simpa using U);have Z:k<ops.length:=(AX.1 H).1;rw[Kg _ _ _ _ Z]at E;have hd:=Es E;have ha:k=i:=by
    by_cases e:k=i
    ·exact e
    ·exfalso;obtain⟨e',he,hf,hc⟩:=RZ L (by omega) H;have h2:=F e' he hc;rw[Kg _ _ _ _ (by omega)]at h2;have:=AM h2;omega
   subst ha;have J:=hg ops[k] (by simp);unfold wpList at h;rw[AF (by unfold Region.wanted;rw[J])]at h;unfold wpOp;simp only[Y];rw[AF (by unfold Region.wanted;rw[J])];refine h.imp (Dc fun a' w' h'=>?_) id;rw[TM _ _];exact ih (k+1) a' w' (by omega) (by omega) h'
theorem Ti(l:Array Bool)(t i:Nat)(d:Bool)(h:i<l.size):(l++Array.replicate t false).getD i d=l.getD i d:=by
 simp[Array.getD,h,EY h,Bs h (ED _ _)]
theorem VU(l:Array Bool)(t i:Nat)(h:l.size≤i)(D:i<l.size+t):(l++Array.replicate t false).getD i false=false∧(l++Array.replicate t false).getD i true=false:=by
 constructor <;>simp[Array.getD,D,ET h]
theorem X9(l:Array Bool)(t i:Nat)(h:i<l.size):(l++Array.replicate t false).setIfInBounds i true=l.setIfInBounds i true++Array.replicate t false:=by
 apply Array.ext_getElem?;intro j;simp only[DP,Array.getElem?_append,Di,Array.size_replicate,E3];by_cases D:i=j
 ·subst D;simp[h,Bs h (ED _ _)]
 ·simp[D]
theorem YA(l:Array Bool)(t:Nat)(h:∀ j,j<l.size→l.getD j false=true):l++Array.replicate t false=H8 l.size (l.size+t):=by
 apply E6 (by simp[H8]);intro j E F;by_cases D:j<l.size
 ·have:=h j D;rw[EY D];simp[Array.getD,D]at this;simp[H8,D,this]
 ·rw[ET (by omega)];simp[H8,D]
theorem YH(t:Nat)(hn:ops.length=n+t)(hv:0<t)(V:Mp ops.toArray=true)(hs:Ob n ops=true)(L:Ra n ops=true)(hg:∀ o∈ops,o.guard=N)
  (hQ:∀a w,C w→Qq a→wpList P ops.toArray Q (ops.drop n) a w):
  ∀E D a w,D.size=n→OR ops.toArray (D++Array.replicate t false)→C w→wpAnyQ P .any (ops.take n).toArray C Qq E D a →
   wpAny P .any ops.toArray Q (E+t) (D++Array.replicate t false) a w:=by
 have Y:(ops.take n).length=n:=by simp;omega
 intro E
 induction E with
 | zero =>
  intro D a w H hc hw h;have F:∀j,j<D.size→D.getD j false=true:=fun j hj=>by
   have hm:Mp (ops.take n).toArray=true:=by
    unfold Mp;rw[AY];intro i Z;have M:i<n:=(by have:=Bh.1 Z;simpa[Y]using this);have h1:=AY.1 V i (Bh.2 (by simp;omega));have e:(ops.take n).toArray[i]?=ops.toArray[i]?:=(by simp[M]);rw[e];exact h1
   exact KB hm D (by simp[H];omega) h.1 j (by simp;omega)
  rw[YA _ _ F,H];have:=OX (P:=P) (Q:=Q) V L hg t n a w Fu (by omega) (hQ a w hw h.2);rw[hn]at this;exact O1 this 0
 | succ E ih =>
  intro D a w H hc hw h;by_cases F:∀j,j<D.size→D.getD j false=true
  ·have ha:Region.ready .any (ops.take n).toArray D=[]:=by
    rw[CB];intro k hk;obtain⟨U,ok,ho,_⟩:=Cu.1 hk;have hx:k<n:=(by have:=(Bk.1 ho).1;simp at this;omega);have:=F k (by omega);simp[Array.getD,show k<D.size by omega]at this U;rw[this]at U;cases U
   rw[YA _ _ F,H];have:=OX (P:=P) (Q:=Q) V L hg t n a w Fu (by omega) (hQ a w hw (h.1 ha));rw[hn]at this;exact O1 this (E+1)
  ·have hd:∃j,j<n∧(D++Array.replicate t false).getD j false=false:=by
    rcases Classical.not_forall.1 F with⟨j,hj⟩;rcases Classical.not_imp.1 hj with⟨h1,h2⟩;exact⟨j,by omega,by rw[Ti _ _ _ _ h1];simpa using h2⟩
   rw[show E+1+t=(E+t)+1 by omega];refine⟨fun h0=>?_,fun i Z=>?_⟩
   ·exfalso;have:=KB V _ (by simp[H,hn]) h0 n (by simp;omega);rw[(VU D t n (by omega) (by omega)).1]at this
    cases this
   ·have M:=Yg hs L hc (fun i h1 h2=>(VU D t i (by omega) (by omega)).1) hd Z;obtain⟨hf,oi,J,hp⟩:=Cu.1 Z;have hh:(ops.take n).toArray[i]?=O oi:=by
     have:ops[i]?=O oi:=(by simpa using J);simp[M,this]
    have hr:i∈Region.ready .any (ops.take n).toArray D:=by
     rw[Cu];refine⟨by rw[Ti _ _ _ _ (by omega)]at hf;exact hf,oi,hh,fun e he ht=>?_⟩;have h2:=hp e he ht;have h3:=AY.1 V i (Bh.2 (by simp;omega));simp only[J]at h3;have h4:e.on<i:=(by simpa using Ct.1 h3 e he);rwa[Ti _ _ _ _ (by omega)]at h2
    have hq:=h.2 i hr;unfold qOp at hq;simp only[hh]at hq;have hl:=hg oi (BE (show ops[i]?=O oi by simpa using J));rw[AF (by unfold Region.wanted;rw[hl])]at hq;refine Gn J hl ?_;refine DJ hw (fun a' w' hu h'=>?_) hq;rw[X9 _ _ _ (by omega)];exact ih _ a' w' (by simpa using H) (by rw[←X9 _ _ _ (by omega)];exact RT hc Z) hu h'
theorem QD{id:Nat}{a:Act}{w:World}(n:Nat)(hn:n<ops.length)(hm:P.follows .mixedOrders=true)(hg:ops.all (fun o=>o.guard.isNone)=true)
  (hb:Mp ops.toArray=true) (hs:Ob n ops=true) (hch:Ra n ops=true) (hB:Region.lexB .any (ops.take n).toArray=true)
  (h:∀l r,l=ops.take n→r=ops.drop n→wpQuiet P l.toArray (fun w'=>∃x:Hm w,w'=x.val) (fun a'=>∀w',(∃x:Hm w,w'=x.val)→wpList P ops.toArray Q r a' w') l a):(Code.region id ops.toArray true).wp P Q a w:=by
 simp only[Region.lexB,AP]at hB;refine Ep hm ?_;have hlen:(ops.take n).length=n:=by simp;omega
 have h1:=wpAnyQ_lex (P:=P) (C:=fun w'=>∃x:Hm w,w'=x.val) (md:=.any) hB.1 (ops.take n) 0 (Array.replicate n false) a (by simp) (by simpa[hlen]using hB.2) (h _ _ R R);rw[hlen]at h1;have h2:=YH (C:=fun w'=>∃x:Hm w,w'=x.val) (Q:=Q) (ops.length - n) (by omega) (by omega) hb hs hch (fun x hx=>by simpa using AY.1 hg x hx) (fun a w hw h=>h w hw) n (Array.replicate n false) a { w with drawn:=w.drawn+1 } (by simp)
  (by
   intro j oj _ hj;exfalso;rw[EA]at hj;simp[Array.getD]at hj)
  ⟨⟨_,(Ek _ _).drew⟩,rfl⟩ h1
 rw[EA,show n+(ops.length - n)=ops.length by omega]at h2;simpa using h2
end
set_option maxRecDepth 100000
end Go.Proofs.YtnbleebilmghcabGreat
