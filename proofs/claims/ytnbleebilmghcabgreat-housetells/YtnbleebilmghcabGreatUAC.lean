/- BatchMath, Own, Lists, RMeets, RSame, Vals, SMath, POpen, BTMath -/
import Derived.Test.YtnbleebilmghcabGreatRows
import Derived.Test.YtnbleebilmghcabGreatVAl
import Derived.Test.YtnbleebilmghcabGreatUAA
import Derived.Test.YtnbleebilmghcabGreatUAE
set_option linter.all false
set_option maxHeartbeats 400000
open Go.Value renaming int→I,slice→S,pointer→Ae,agg→Af,bool→Aj,ownBlock→Ax
open Go.IntKind renaming i64→K
open Option renaming none→N,some→O
open Go.Obj renaming cells→Al
open Go.Ending renaming returned→Ao
open Go.Proofs.Tryz renaming prog→Au
namespace Go.Proofs.YtnbleebilmghcabGreat
open Go Go.RowKit Go.ChangeShapes Go.WideShapes Go.ChangeAt Go.Deep Go.Joins
def Tn(p:Nat→Bool)(B:List (List Nat)):Nat→Nat
 |0=>0
 |a+1=>if(B.getD a []).any p then a+1 else Tn p B a
def M8(B:List (List Nat))(a x:Nat):List (List Nat):=if a=B.length then B++[[x]]else B.set a (B.getD a []++[x])
def IM(cl:Nat→Nat→Bool):Nat→List (List Nat)
 |0=>[]
 |n+1=>M8 (IM cl n) (Tn (fun o=>cl o n) (IM cl n) (IM cl n).length) n
def I3(cl:Nat→Nat→Bool)(i:Nat):Nat:=Tn (fun o=>cl o i) (IM cl i) (IM cl i).length
theorem PQ(p:Nat→Bool)(B:List (List Nat)):∀a,Tn p B a≤a
 |0=>AC _
 |a+1=>by unfold Tn;split;exact AC _;exact AU (PQ p B a) (Ei _)
theorem VO(p:Nat→Bool)(B:List (List Nat)):∀a k,Tn p B a≤k→k<a→(B.getD k []).any p=false
 |0,_,_,h=>by omega
 | a+1,k,h1,h2=>by
  unfold Tn at h1
  cases h:(B.getD a []).any p
  ·rw[h]at h1;simp only[Cy,BG]at h1;by_cases e:k=a
   ·subst e;exact h
   ·exact VO p B a k h1 (by omega)
  ·rw[h]at h1;simp only[BX]at h1;omega
theorem VN(p:Nat→Bool)(B:List (List Nat)):∀a,0<Tn p B a→(B.getD (Tn p B a - 1) []).any p=true
 |0,h=>by simp[Tn]at h
 |a+1,h=>by
  unfold Tn at h⊢
  cases e:(B.getD a []).any p
  ·rw[e]at h;simp only[Cy,BG]at h⊢;exact VN p B a h
  ·simp only[BX];simpa using e
structure kl(cl:Nat→Nat→Bool)(n:Nat):Prop where
 lt:∀i,i<n→I3 cl i<(IM cl n).length
 at_:∀k,k<(IM cl n).length→(IM cl n).getD k []=(List.range n).filter (fun i=>I3 cl i == k)
 all:∀k,k<(IM cl n).length→∃i,i<n∧I3 cl i=k
theorem Qh(B:List (List Nat))(a x:Nat):(M8 B a x).length=if a=B.length then B.length+1 else B.length:=by unfold M8;split <;>simp
theorem UX(B:List (List Nat))(a x k:Nat)(F:a≤B.length):(M8 B a x).getD k []=if k=a then B.getD k []++[x]else B.getD k []:=by
 unfold M8;by_cases h:a=B.length
 ·rw[AF h];subst h;by_cases D:k=B.length
  ·subst D;simp
  ·rw[AA D];by_cases E:k<B.length
   ·rw[Az,Az,BF E]
   ·rw[Az,Az,Bb (by simp;omega),Bb (by omega)]
 ·rw[AA h];by_cases D:k=a
  ·subst D;rw[AF R,Az,Co (by omega)];rfl
  ·rw[AA D,Az,Cx (by omega),Az]
theorem ev(cl:Nat→Nat→Bool):∀n,kl cl n
 |0=>⟨fun _ h=>by omega,fun _ h=>by simp[IM]at h,fun _ h=>by simp[IM]at h⟩
 | n+1=>by
  have F:=ev cl n;have H:I3 cl n≤(IM cl n).length:=PQ _ _ _;have e:IM cl (n+1)=M8 (IM cl n) (I3 cl n) n:=rfl;have J:(IM cl (n+1)).length=if I3 cl n=(IM cl n).length then(IM cl n).length+1 else(IM cl n).length:=by rw[e,Qh]
  refine⟨fun i L=>?_,fun k D=>?_,fun k D=>?_⟩
  ·rw[J];by_cases h:i=n
   ·subst h;split <;>omega
   ·have:=F.lt i (by omega);split <;>omega
  ·rw[e,UX _ _ _ _ H,CY,Cf];by_cases h:k<(IM cl n).length
   ·rw[F.at_ k h];by_cases E:k=I3 cl n
    ·rw[AF E];simp[E]
    ·rw[AA E];simp;omega
   ·have M:k=I3 cl n∧k=(IM cl n).length:=by rw[J]at D;split at D <;>omega
    rw[AF M.1,Az,Bb (by omega)];have U:(List.range n).filter (fun i=>I3 cl i == k)=[]:=by
     rw[Fa];intro i L;have:=F.lt i (Bh.1 L);simp;omega
    rw[U];simp[M.1]
  ·by_cases h:k<(IM cl n).length
   ·obtain⟨i,V,E⟩:=F.all k h;exact⟨i,by omega,E⟩
   ·refine⟨n,by omega,?_⟩;rw[J]at D;split at D <;>omega
theorem Oi(cl:Nat→Nat→Bool)(n k i:Nat)(h:k<(IM cl n).length):i∈(IM cl n).getD k []↔i<n∧I3 cl i=k:=by
 rw[(ev cl n).at_ k h,BU,Bh];simp
theorem bf(cl:Nat→Nat→Bool)(i j:Nat)(E:j<i)(F:cl j i=true):I3 cl j<I3 cl i:=by
 by_cases h:I3 cl i≤I3 cl j
 ·exfalso;have D:=(ev cl i).lt j E;have:=VO (fun o=>cl o i) (IM cl i) (IM cl i).length (I3 cl j) h D;rw[List.any_eq_false]at this;exact absurd F (by simpa using this j ((Oi cl i _ j D).2 ⟨E,rfl⟩))
 ·omega
theorem bj(cl:Nat→Nat→Bool)(i:Nat)(h:0<I3 cl i):∃j,j<i∧cl j i=true∧I3 cl j+1=I3 cl i:=by
 have E:=VN (fun o=>cl o i) (IM cl i) (IM cl i).length h;have F:I3 cl i≤(IM cl i).length:=PQ _ _ _;rw[DK]at E;obtain⟨j,H,J⟩:=E;have D:I3 cl i - 1<(IM cl i).length:=by omega
 have L:=(Oi cl i _ j D).1 H;exact⟨j,L.1,J,by omega⟩
theorem MT(cl:Nat→Nat→Bool):∀n,(IM cl n).length≤n
 |0=>AC _
 |n+1=>by
  have:=MT cl n;show(M8 _ _ _).length≤_;rw[Qh];split <;>omega
theorem jL(cl:Nat→Nat→Bool)(n k:Nat)(D:k<(IM cl n).length):(IM cl n).getD k []≠[]:=by
 obtain⟨i,E,F⟩:=(ev cl n).all k D;intro h;have:=(Oi cl n k i D).2 ⟨E,F⟩;rw[h]at this;simp at this
section
variable {w:World} {base:Nat} {e:TypeId} {size:Nat} {n:Nat} {xs:List Value}
theorem Gi{v:Value}(h:w.ownsRow base e size v n xs)(J:0<n):∃g D,v=S (O ⟨g,0,N⟩) n D∧base≤g∧g<w.heap.size:=by
 rcases h.2 with⟨_,rfl⟩|⟨g,D,E,rfl,F,H,_⟩
 ·omega
 ·exact⟨g,D,rfl,F,(Bk.1 H).1⟩
theorem F4{g E:Nat}(h:w.ownsRow base e size (S (O ⟨g,0,N⟩) n E) n xs){j:Nat}{u:Value}(F:xs[j]?=O u):w.cell? ⟨g,j,N⟩=O u:=by
 have:=h.cells (g:=g) R j u F;have D:(⟨g,0,N⟩:Addr).add j=⟨g,j,N⟩:=by unfold Addr.add;split <;>simp_all
 rwa[D]at this
theorem I4{g E:Nat}(h:w.ownsRow base e size (S (O ⟨g,0,N⟩) n E) n xs):∃D,w.heap[g]?=O (Al D e (0,0))∧n≤E∧E≤maxLen∧D.size=E*size∧D.toList.take (n*size)=xs:=by
 rcases h.2 with⟨F,_⟩|⟨Y,H,D,F,Z,J,L,M,U,V⟩
 ·cases F
 ·simp only[A9,Bc,Cr,Bx,Br]at F;obtain⟨rfl,rfl⟩:=F;exact⟨D,J,L,M,U,V⟩
theorem KP{g D:Nat}(h:w.ownsRow base e size (S (O ⟨g,0,N⟩) n D) n xs)(j:Nat):w.frozen? ⟨g,j,N⟩=false:=by
 obtain⟨E,F,_⟩:=I4 h;simp[World.frozen?,F]
theorem NX{g D:Nat}(h:w.ownsRow base e size (S (O ⟨g,0,N⟩) n D) n xs){j:Nat}(V:j<xs.length)(u:Value):(w.setCell ⟨g,j,N⟩ u).ownsRow base e size (S (O ⟨g,0,N⟩) n D) n (xs.set j u):=by
 obtain⟨E,F,H,J,L,M⟩:=I4 h;have U:base≤g:=(h.lt g R).1;refine⟨by rw[By];exact h.1,.inr ⟨g,D,E.setIfInBounds j u,rfl,U,?_,H,J,by simpa using L,?_⟩⟩
 ·exact D1 w g j E e u F
 ·rw[ES,List.take_set,M]
theorem FT{w1:World}{v:Value}(h:w.ownsRow base e size v n xs)(L:Below w.heap.size w w1):w1.ownsRow base e size v n xs:=by
 refine⟨h.1,?_⟩;rcases h.2 with M|⟨g,F,H,rfl,J,D,E⟩
 ·exact .inl M
 ·refine .inr ⟨g,F,H,rfl,J,?_,E⟩;rw[L.block g (Bk.1 D).1];exact D
theorem F1{J:TypeId}{D:Nat}{v L:Value}{V:Nat}{F:List Value}{base':Nat}(h:w.ownsRow base e size v n xs)(Y:w.ownsRow base' J D L V F)(Z:e≠J):v.ownBlock=N∨v.ownBlock≠L.ownBlock:=by
 rcases h.2 with⟨rfl,_⟩|⟨g,ha,hb,rfl,_,hg,_⟩
 ·exact .inl R
 ·refine .inr fun H=>?_;rcases Y.2 with⟨rfl,_⟩|⟨g',M,U,rfl,_,E,_⟩
  ·simp[Ax]at H
  ·simp only[Ax,Bc]at H;subst H;rw[hg]at E;simp only[Bc,Obj.cells.injEq]at E;exact Z E.2.1
end
theorem FY{P:Program}(w:World){ops:Array Oper}{J:List Oper}{o:Oper}{a:Act}{Q:Exit→Act→World→Prop}(ha:o.guard=none)(s x:Operand)(t:TypeId)
  (ho:o.op=.call { callee:=.builtin .append,args:=#[s,x],argTypes:=#[t,t] })
  (base:Nat) (e:TypeId) (i:TypeInfo) (z:Value) (size E:Nat) (ht:P.underlying t=some (.slice e)) (hi:P.info? e=some i) (hz:i.zero=some z)
  (L:i.size=size) (hb:i.bytes=E) (hc:z.cells.size=size) (hd:0<size)
  (v:Value) (n:Nat) (xs:List Value) (hs:a.eval s=v) (V:w.ownsRow base e size v n xs)
  (ad:Addr) (m c:Nat) (D:List Value) (hx:a.eval x=.slice (some ad) m c) (hl:D.length=m*size) (M:∀j u,D[j]?=some u→w.cell? (ad.add j)=some u) (h1:∀u∈D,u.oneCell'=true)
  (he:n+m≤maxLen) (F:(n+m)*E≤140737488355328) (U:base≤w.heap.size) (hm:0<m)
  (h:∀g H Y,Y.ownsRow base e size (.slice (some ⟨g,0,none⟩) (n+m) H) (n+m) (xs++D)→w.grownBy Y v.ownBlock→(some g=v.ownBlock∨g=w.heap.size)→wpList P ops Q J (a.put o.dst (.slice (some ⟨g,0,none⟩) (n+m) H)) Y):wpList P ops Q (o :: J) a w:=by
 refine wpList_append_own_at w ha s x t ho base e i z size E ht hi hz L hb hc hd v n xs hs V ad m c D hx hl M h1 he F U ?_;intro v' Y h2 h3 _ Z;obtain⟨g,H,rfl,_,_⟩:=Gi h2 (by omega);refine h g H Y h2 h3 ?_;rcases Z with Z|Z
 ·exact .inl Z
 ·right;simpa[Value.ownBlock]using Z
theorem KU(w:World)(u:Value)(t:TypeId):∀j x,[u][j]?=O x→(w.alloc (Al #[u] t)).cell? ((⟨w.heap.size,0,N⟩:Addr).add j)=O x:=by
 intro j x h
 match j,h with
 |0,h=>simp at h;subst h;simp[Addr.add]
theorem F0{w E:World}{D:Option Nat}{B:Nat}(h:w.grownBy E D)(F:∀ k,D=O k→B≤k)(H:B≤w.heap.size):Below B w E:=(AD B w).grown h H F
set_option maxRecDepth 8000
theorem Tryz.info3:(Au.info? 3).map (fun i=>(i.zero,i.size,i.bytes))=O (O (I K 0),1,8):=by kernel_rfl
theorem Se(a:Int)(k:Nat)(w:World)(h0:0≤a)(h:a≤255)(D:k<8):
  Calls Au 126 #[I K a,I K (k:Int)] w fun e E=>e=Ao (Aj (tb a k))∧E=w:=by
 have:=Om a (k:Int) w;rwa[TW a k h0 h D]at this
theorem Xi(w:World)(x:Value)(t:TypeId):∀j u,[x][j]?=O u→(w.alloc (Al #[x] t)).cell? ((⟨w.heap.size,0,N⟩:Addr).add j)=O u:=by
 intro j u h
 match j,h with
 |0,h=>simp at h;subst h;simp[Addr.add]
theorem Uh(k:IntKind)(n:Int):∀u∈[I k n],u.oneCell'=true:=by
 intro u h;simp at h;subst h;rfl
theorem Xa{a:Int}{k:Nat}{w J w1:World}{v L:Value}(M:tb a k=true)(h:Below w.heap.size w J)
  (F:J.ownsRow w.heap.size 3 1 v (FR a k).length ((FR a k).map (I K)))
  (D:w1.ownsRow w.heap.size 3 1 L ((FR a k).length+1) ((FR a k).map (I K)++[I K (k:Int)]))
  (E:(J.alloc (Al #[I K (k:Int)] 3)).grownBy w1 v.ownBlock):
  w1.ownsRow w.heap.size 3 1 L (FR a (k+1)).length ((FR a (k+1)).map (I K))∧Below w.heap.size w w1:=by
 constructor
 ·rw[Qw,AF M];simpa using D
 ·have H:Below w.heap.size w (J.alloc (Al #[I K (k:Int)] 3)):=h.alloc h.size _;exact H.grown E H.size (fun g U=>(F.lt g U).1)
theorem Qx(a:Int)(w:World)(h0:0≤a)(h1:a≤255):
  Calls Au 106 #[I K a] w fun e w'=>∃v,e=Ao v∧w'.ownsRow w.heap.size 3 1 v (FR a 8).length ((FR a 8).map (I K))∧Below w.heap.size w w':=by
 obtain⟨i0,hi,U,V,Y⟩:=BC Tryz.info3;have hd:=Kf a 8;go_enter Tryz.func106,Tryz.ntmps106
 go_wp2_with(first
  |(go_at_call 127;refine(PO _ _ h0 h1).mono ?_;rintro e w1⟨rfl,Z⟩;obtain rfl:=Z.symm)
  |(at_make;refine wpList_make_own _ rfl _ _ 23 rfl w.heap.size 3 i0 (I K 0) 1 Tryz.underlying23 hi U V K K _ (FR a 8).length rfl rfl rfl (by rw[Y];omega) (by unfold maxLen;omega) Fu ?_;intro w0 H E))
 have ha:Below w.heap.size w w0:=Fv.grown E Fu (fun _ h=>by cases h);go_loopw [3,8] (fun v i wr=>∃k:Nat,k≤8∧i=I K k∧wr.ownsRow w.heap.size 3 1 v (FR a k).length ((FR a k).map (I K))∧Below w.heap.size w wr) (fun _ i _=>8 - (intOf i).toNat)
 case atStart=>exact⟨0,AS _,rfl,H,ha⟩
 case round =>
  obtain⟨k,hk,rfl,F,D⟩:=hrel;clear H E ha;have he:=Kf a k;have hf:=D.size;by_cases hb:k<8
  ·cases M:tb a k
   ·have hc:=Se a k wr h0 h1 hb;rw[M]at hc;have HT:=An M;clear M;go_wp2_with(first|(go_at_call 126;refine hc.mono ?_;rintro e w1⟨rfl,Z⟩;obtain rfl:=Z.symm))
    go_roundw
    case rel=>exact⟨k+1,by omega,by go_num,by rw[Qw,AA (by rw[AN HT];decide)];exact F,D⟩
    case measure=>simp[intOf];omega
   ·have hc:=Se a k wr h0 h1 hb;rw[M]at hc;have HT:=An M;clear M;go_wp2_with(first
     |(go_at_call 126;refine hc.mono ?_;rintro e w1⟨rfl,Z⟩;obtain rfl:=Z.symm)
     |(at_builtin;refine wpList_append_own _ rfl _ _ 23 rfl w.heap.size 3 i0 (I K 0) 1 8 Tryz.underlying23 hi U V Y rfl (by decide) _ _ _ rfl (F.alloc _) ⟨wr.heap.size,0,N⟩ 1 1 [I K (k:Int)] rfl rfl (Xi _ _ _) (Uh _ _) (by unfold maxLen;omega) (by omega) (by simp;omega) ?_;intro v' w1 J L _))
    have R:=Xa (AN HT) D F J L;clear J L D;go_wp2;go_roundw
    case rel=>exact⟨k+1,by omega,by go_num,R.1,R.2⟩
    case measure=>simp[intOf];omega
  ·obtain rfl:k=8:=(by omega);go_wp2;go_ret;exact⟨_,rfl,F,D⟩
theorem WA(a:Int)(k:Nat)(w:World)(h:k<8):
  Sem.run Au (Instr.index 107 (Af (arr a)) (I K (k:Int))) w=.ok (Aj (tb a k)) w:=by
 rcases(by omega:k=0∨k=1∨k=2∨k=3∨k=4∨k=5∨k=6∨k=7)with rfl|rfl|rfl|rfl|rfl|rfl|rfl|rfl
 all_goals simp[Instr.index,go_sem,arr]
theorem Ye(a:Int)(w:World)(h0:0≤a)(h1:a≤255):
  Calls Au 65 #[I K a] w fun e w'=>∃v,e=Ao v∧w'.ownsRow w.heap.size 3 1 v (FR a 8).length ((FR a 8).map (I K))∧Below w.heap.size w w':=by
 obtain⟨i0,hi,hz0,hz1,hz2⟩:=BC Tryz.info3;go_enter Tryz.func65,Tryz.ntmps65
 go_wp2_with(first
  |(go_at_call 100;refine(K8 _ _ h0 h1).mono ?_;rintro e w1⟨rfl,rfl⟩))
 have hb0:Below w.heap.size w ((w.alloc (Al (arr a) 107)).alloc (Al (arr a) 107)):=by go_grown
 go_loopw [3,8] (fun v i wr=>∃k:Nat,k≤8∧i=I K k∧wr.ownsRow w.heap.size 3 1 v (FR a k).length ((FR a k).map (I K))∧Below w.heap.size w wr) (fun _ i _=>8 - (intOf i).toNat)
 case atStart=>exact⟨0,AS _,rfl,Bn _ _ _ _,hb0⟩
 case round =>
  obtain⟨k,hk,rfl,hown,hbel⟩:=hrel;clear hb0;have hlk:=Kf a k;have hsz:=hbel.size;by_cases hlt:k<8
  ·have hix:=WA a k wr hlt
   cases ht:tb a k
   ·rw[ht]at hix;have HT:=An ht;clear ht;go_wp2;go_roundw
    case rel=>exact⟨k+1,by omega,by go_num,by rw[Qw,AA (by rw[AN HT];decide)];exact hown,hbel⟩
    case measure=>simp[intOf];omega
   ·rw[ht]at hix;have HT:=An ht;clear ht;go_wp2_with(first
     |(at_builtin;refine wpList_append_own _ rfl _ _ 23 rfl w.heap.size 3 i0 (I K 0) 1 8 Tryz.underlying23 hi hz0 hz1 hz2 rfl (by decide) _ _ _ rfl (hown.alloc _) ⟨wr.heap.size,0,N⟩ 1 1 [I K (k:Int)] rfl rfl (Xi _ _ _) (Uh _ _) (by unfold maxLen;omega) (by omega) (by simp;omega) ?_;intro v' w1 hown' hgrow _))
    have R:=Xa (AN HT) hbel hown hown' hgrow;clear hown' hgrow hbel;go_wp2;go_roundw
    case rel=>exact⟨k+1,by omega,by go_num,R.1,R.2⟩
    case measure=>simp[intOf];omega
  ·obtain rfl:k=8:=(by omega);go_wp2;go_ret;exact⟨_,rfl,hown,hbel⟩
theorem Mf{W w1:World}(D:Below W.heap.size W w1){p:Addr}{v:Value}(h:W.cell? p=O v):w1.cell? p=O v :=
 (D.cell (AL W p h)).trans h
theorem Ou(n:Int)(w:World)(h0:0≤n)(D:n≤255):
  Calls Au 100 #[I K n] w fun e h=>e=Ao (Af #[Aj (tb n 0),Aj (tb n 1),Aj (tb n 2),Aj (tb n 3),Aj (tb n 4),Aj (tb n 5),Aj (tb n 6),Aj (tb n 7)]) ∧
   Below w.heap.size w h∧h.heap.size=w.heap.size+2:=by
 refine(K8 n w h0 D).mono ?_;rintro e w1⟨rfl,rfl⟩;exact⟨rfl,by go_grown,by simp⟩
def Kz(a k:Int):Bool:=decide (0≤k∧k<8) && tb a k.toNat
theorem M6(a k:Int)(w:World)(h0:0≤a)(h:a≤255):
  Calls Au 61 #[I K a,I K k] w fun e D=>e=Ao (Aj (Kz a k))∧Below w.heap.size w D:=by
 by_cases E:0≤k
 ·by_cases F:k<8
  ·obtain⟨j,rfl⟩:=BD E;have H:=WA a j;have J:j<8:=(by omega);go_enter Tryz.func61,Tryz.ntmps61
   go_wp2_with(first|(go_at_call 100;refine(K8 _ _ h0 h).mono ?_;rintro e w1⟨rfl,rfl⟩))
   go_ret;exact⟨by simp[Kz,F],by go_grown⟩
  ·go_enter Tryz.func61,Tryz.ntmps61
   go_wp2;go_ret;exact⟨by simp[Kz];omega,by go_grown⟩
 ·go_enter Tryz.func61,Tryz.ntmps61
  go_wp2;go_ret;exact⟨by simp[Kz];omega,by go_grown⟩
def Ui(a n h:Int)(k:Nat):Bool:=!(tb a k && !tb h k || tb n k && tb h k)
def Rw(a n h:Int)(k:Nat):Bool:=(List.range k).all (fun j=>Ui a n h j)
structure MW(w0:World)(cs:Nat→List Value)(a n:Int)(l st:Nat→Bool)(v:Nat→Value)(g:Nat→Nat)(w:World):Prop where
 bel:Below w0.heap.size w0 w
 c0:w.cell? ⟨w0.heap.size,0,N⟩=O (I K a)
 c1:w.cell? ⟨w0.heap.size,1,N⟩=O (I K n)
 own:∀k,k<3→l k=true→v k=Ae (O ⟨g k,0,N⟩)∧w0.heap.size<g k∧g k<w.heap.size∧w.there (g k) 0 8
 ne:∀j k,j<3→k<3→l j=true→l k=true→j≠k→g j≠g k
 has:∀k,k<3→st k=true→l k=true∧w.rangeAt (g k) 0 (cs k)
theorem MW.congr{w0:World}{cs:Nat→List Value}{a n:Int}{l st J E:Nat→Bool}{v L:Nat→Value}{g:Nat→Nat}{w:World}(h:MW w0 cs a n l st v g w)
  (F:∀k,k<3→J k=l k) (H:∀k,k<3→E k=st k) (U:∀k,k<3→L k=v k):MW w0 cs a n J E L g w :=
 ⟨h.bel,h.c0,h.c1,fun k D e=>by rw[U k D];exact h.own k D (by rw[←F k D];exact e),
  fun j k M D V Y=>h.ne j k M D (by rw[←F j M];exact V) (by rw[←F k D];exact Y),fun k D e=>by rw[F k D];exact h.has k D (by rw[←H k D];exact e)⟩
theorem MW.below{w0:World}{cs:Nat→List Value}{a n:Int}{l st:Nat→Bool}{v:Nat→Value}{g:Nat→Nat}{w w1:World}(h:MW w0 cs a n l st v g w)(D:Below w.heap.size w w1):MW w0 cs a n l st v g w1 :=
 ⟨h.bel.trans (D.mono h.bel.size),Mf D h.c0,Mf D h.c1,
  fun k E e=>by obtain⟨H,J,F,L⟩:=h.own k E e;exact⟨H,J,Bs F D.size,Ia D F L⟩,
  h.ne,fun k E e=>⟨(h.has k E e).1,LU D (h.own k E (h.has k E e).1).2.2.1 (h.has k E e).2⟩⟩
def XQ:Array Value:=#[Aj false,Aj false,Aj false,Aj false,Aj false,Aj false,Aj false,Aj false]
theorem YJ(w:World)(t:TypeId):(w.alloc (Al XQ t)).there w.heap.size 0 8:=fun j h=>by
 rcases(by omega:j=0∨j=1∨j=2∨j=3∨j=4∨j=5∨j=6∨j=7)with rfl|rfl|rfl|rfl|rfl|rfl|rfl|rfl <;>simp[XQ,go_sem]
theorem MW.alloc{w0:World}{cs:Nat→List Value}{a n:Int}{l st:Nat→Bool}{v:Nat→Value}{g:Nat→Nat}{w:World}(h:MW w0 cs a n l st v g w)(k:Nat)(hl:l k=false)(t:TypeId):
  MW w0 cs a n (fun j=>if j=k then true else l j) st (fun j=>if j=k then Ae (O ⟨w.heap.size,0,N⟩)else v j) (fun j=>if j=k then w.heap.size else g j) (w.alloc (Al XQ t)):=by
 have J:Below w.heap.size w (w.alloc (Al XQ t)):=Fv.alloc Fu _;have U:=AL w _ h.c0;refine⟨h.bel.trans (J.mono h.bel.size),Mf J h.c0,Mf J h.c1,fun j E e=>?_,fun i j Y E L M V=>?_,fun j E e=>?_⟩
 ·by_cases Z:j=k
  ·subst Z;simp only[BX];exact⟨trivial,U,by simp,YJ w t⟩
  ·simp only[Z,BG]at e⊢;obtain⟨F,h2,h3,h4⟩:=h.own j E e;exact⟨F,h2,by simp;omega,Ia J h3 h4⟩
 ·by_cases H:i=k <;>by_cases D:j=k
  ·omega
  ·simp only[H,D,BX,BG]at M⊢;have:=(h.own j E M).2.2.1;omega
  ·simp only[H,D,BX,BG]at L⊢;have:=(h.own i Y L).2.2.1;omega
  ·simp only[H,D,BG]at L M⊢;exact h.ne i j Y E L M V
 ·have F:=h.has j E e;have D:j≠k:=fun e'=>by rw[e',hl]at F;exact absurd F.1 (by simp)
  simp only[D,BG];exact⟨F.1,LU J (h.own j E F.1).2.2.1 F.2⟩
theorem MW.store{w0:World}{cs:Nat→List Value}{a n:Int}{l st:Nat→Bool}{v:Nat→Value}{g:Nat→Nat}{w:World}(h:MW w0 cs a n l st v g w)(k:Nat)(M:k<3)(L:l k=true)(F:(cs k).length=8):
  MW w0 cs a n l (fun j=>if j=k then true else st j) v g (w.setCells (g k) 0 (cs k)):=by
 obtain⟨p1,p2,p3,U⟩:=h.own k M L;have D:∀(o:Nat) (u:Value),w.cell? ⟨w0.heap.size,o,N⟩=O u→(w.setCells (g k) 0 (cs k)).cell? ⟨w0.heap.size,o,N⟩=O u:=fun o u V=>by
  rw[E0 _ _ _ _ _ (fun e=>by simp at e;omega)];exact V
 refine⟨Bv _ (by omega) _ _ _ h.bel,D _ _ h.c0,D _ _ h.c1,fun j J e=>?_,h.ne,fun j J e=>?_⟩
 ·obtain⟨H,Y,Z,h4⟩:=h.own j J e;exact⟨H,Y,by rw[Gk];exact Z,Cj h4 _ _ _⟩
 ·by_cases E:j=k
  ·subst E;exact⟨L,EL _ _ _ _ (by rw[F];exact U)⟩
  ·simp only[E,BG]at e;have H:=h.has j J e;exact⟨H.1,EJ H.2 _ _ _ (.inl (h.ne j k J M H.1 L E))⟩
theorem iL(r:BitVec 64):IntKind.i64.wrap (r.toNat:Int)=0↔r=0#64:=by
 rw[CS];have:=r.isLt;constructor
 ·intro h;apply Ee;simp;omega
 ·rintro rfl;simp
theorem kf(x y:Int):bits .and K x y=0↔BitVec.ofInt 64 x &&& BitVec.ofInt 64 y=0#64:=iL _
theorem P8(x y:Int):bits .andNot K x y=0↔BitVec.ofInt 64 x &&& ~~~BitVec.ofInt 64 y=0#64:=iL _
theorem In(n:Int)(k:Nat)(h0:0≤n)(h:k<64):(BitVec.ofInt 64 n).getLsbD k=tb n k:=by
 obtain⟨m,rfl⟩:=BD h0;rw[Dn,BitVec.getLsbD_ofNat,Nat.testBit_eq_decide_div_mod_eq];unfold tb;rw[show((m:Int) / ((2 ^ k:Nat):Int) % 2)=((m / 2 ^ k % 2:Nat):Int) by push_cast;rfl];generalize m / 2 ^ k % 2=q;rw[Ec];simp only[h,decide_true,DM,Ci,Dl];omega
theorem Z8(n:Int)(k:Nat)(h0:0≤n)(D:n≤255)(h:8≤k):tb n k=false:=by
 obtain⟨m,rfl⟩:=BD h0;unfold tb;have E:256≤2 ^ k:=by
  have:=Fl (n:=2) (by omega) h;omega
 have e:m / 2 ^ k=0:=Nat.div_eq_of_lt (by omega);rw[show((m:Int) / ((2 ^ k:Nat):Int) % 2)=((m / 2 ^ k % 2:Nat):Int) by push_cast;rfl,e];decide
theorem bP(a n h:Int)(m:Nat):Rw a n h m=true↔∀k,k<m→Ui a n h k=true:=by
 unfold Rw;rw[AY];simp
theorem Ul(a n h:Int)(H:0≤a)(U:a≤255)(J:0≤n)(V:n≤255)(h0:0≤h):IJ a n h=Rw a n h 8:=by
 rw[Ec,bP];simp only[IJ,AP,Dl,kf,P8];constructor
 ·rintro⟨Y,Z⟩ k hk;have L:=B8 (fun v:BitVec 64=>v.getLsbD k) Y;have g2:=B8 (fun v:BitVec 64=>v.getLsbD k) Z;simp only[Cz,Df,In _ k H (by omega),In _ k h0 (by omega),In _ k J (by omega),Du]at L g2;have E:decide (k<64)=true:=by simp;omega
  rw[E]at L;unfold Ui;revert L g2
  cases tb a k <;>cases tb n k <;>cases tb h k <;>simp
 ·intro D;constructor
  ·apply DA;intro i F;rw[Cz,Df,In _ i H F,In _ i h0 F,Du];by_cases M:i<8
   ·have:=D i M;unfold Ui at this;revert this
    cases tb a i <;>cases tb n i <;>cases tb h i <;>simp
   ·rw[Z8 a i H U (by omega)];simp
  ·apply DA;intro i F;rw[Cz,In _ i J F,In _ i h0 F,Du];by_cases M:i<8
   ·have:=D i M;unfold Ui at this;revert this
    cases tb a i <;>cases tb n i <;>cases tb h i <;>simp
   ·rw[Z8 n i J V (by omega)];simp
theorem eJ(a k:Int)(D:0≤a)(E:a≤255):(bits .and K a (Ge k) != 0)=Kz a k:=by
 by_cases h:0≤k∧k<8
 ·obtain⟨j,rfl⟩:=BD h.1;rw[TW a j D E (by omega)];simp[Kz,h]
 ·have e:Ge k=0:=by unfold Ge;rw[AA h]
  obtain⟨m,rfl⟩:=KY a D E;rw[e,(Xg m).2.2.2];simp[Kz,h]
def Xt(ops:List Oper)(i:Nat):Tmp:=((ops[i]?).bind (·.dst)).getD 0
def tl(key:Nat→Int)(p q:Nat):Prop:=key p<key q∨(key p=key q∧p<q)
theorem JS{h:Nat→Int}{p q r:Nat}(D:tl h p q)(E:tl h q r):tl h p r:=by unfold tl at *;omega
theorem SE{h:Nat→Int}{p:Nat}:¬ tl h p p:=by unfold tl;omega
def LC(key:Nat→Int)(s:Nat→Nat)(a b:Nat):Prop:=∀i j,a≤i→i<j→j<b→tl key (s i) (s j)
def SP(s t:Nat→Nat)(a b:Nat):Prop:=∃f g:Nat→Nat,(∀k,f (g k)=k)∧(∀k,g (f k)=k)∧(∀k,¬ (a≤k∧k<b)→f k=k)∧∀k,t k=s (f k)
theorem SP.refl(s:Nat→Nat)(a b:Nat):SP s s a b:=⟨id,id,fun _=>rfl,fun _=>rfl,fun _ _=>rfl,fun _=>rfl⟩
theorem SP.trans{s t u:Nat→Nat}{a b:Nat}(V:SP s t a b)(Y:SP t u a b):SP s u a b:=by
 obtain⟨f,g,h,D,E,F⟩:=V;obtain⟨Z,g',H,J,L,M⟩:=Y;exact⟨fun k=>f (Z k),fun k=>g' (g k),fun k=>by simp[H,h],fun k=>by simp[D,J],fun k U=>by simp only;rw[L k U,E k U],fun k=>by rw[M,F]⟩
theorem SP.wide{s t:Nat→Nat}{a b J L:Nat}(h:SP s t a b)(M:J≤a)(U:b≤L):SP s t J L:=by
 obtain⟨f,g,D,E,F,H⟩:=h;exact⟨f,g,D,E,fun k V=>F k (by omega),H⟩
theorem SP.out{s t:Nat→Nat}{a b k:Nat}(h:SP s t a b)(F:¬ (a≤k∧k<b)):t k=s k:=by
 obtain⟨f,g,_,_,D,E⟩:=h;rw[E,D k F]
theorem SP.mem{s t:Nat→Nat}{a b k:Nat}(h:SP s t a b)(U:a≤k)(V:k<b):∃j,a≤j∧j<b∧t k=s j:=by
 obtain⟨f,g,J,E,F,H⟩:=h;refine⟨f k,?_⟩;by_cases D:a≤f k∧f k<b
 ·exact⟨D.1,D.2,H k⟩
 ·exfalso;have L:=F (f k) D;have M:=B8 g L;rw[E,E]at M;omega
theorem SP.symm{s t:Nat→Nat}{a b:Nat}(h:SP s t a b):SP t s a b:=by
 obtain⟨f,g,D,E,F,H⟩:=h;refine⟨g,f,E,D,fun k L=>?_,fun k=>by rw[H,D]⟩;have:=F k L;have J:=B8 g this;rw[E]at J;exact J.symm
def Nm(s:Nat→Nat)(p q n:Nat):Nat→Nat:=fun k=>if p≤k∧k<p+n then s (k+(q - p))else if q≤k∧k<q+n then s (k - (q - p))else s k
def KX(s:Nat→Nat)(l m r:Nat):Nat→Nat:=fun k=>if l≤k∧k<l+(r - m)then s (k+(m - l))else if l+(r - m)≤k∧k<r then s (k - (r - m))else s k
theorem aE(s:Nat→Nat)(p q:Nat):Nm s p q 0=s:=by
 funext k;unfold Nm;rw[AA (by omega),AA (by omega)]
theorem ak(s:Nat→Nat)(l m i:Nat)(h:m=l+i):KX s l m (m+i)=Nm s l m i:=by
 funext k;unfold KX Nm;rw[show m+i - m=i by omega];by_cases D:l≤k∧k<l+i
 ·rw[AF D,AF D]
 ·rw[AA D,AA D];by_cases E:m≤k∧k<m+i
  ·rw[AF (by omega:l+i≤k∧k<m+i),AF E];congr 1;omega
  ·rw[AA (by omega:¬ (l+i≤k∧k<m+i)),AA E]
theorem ai(s:Nat→Nat)(m i j:Nat)(D:i≤m)(h:j<i):KX (Nm s (m - i) m j) (m - i+j) m (m+j)=KX s (m - i) m (m+j):=by
 funext k;unfold KX Nm;by_cases h0:m - i≤k∧k<m - i+j
 ·rw[AA (by omega),AA (by omega),AF (by omega),AF (by omega)]
 ·by_cases E:m - i+j≤k∧k<m - i+j+j
  ·rw[AF (by omega)];rw[AA (by omega:¬ (m - i≤k∧k<m - i+(m+j - m))),AF (by omega:m - i+(m+j - m)≤k∧k<m+j)];by_cases F:k+(m - (m - i+j))<m
   ·rw[AA (by omega),AA (by omega)];exfalso;omega
   ·rw[AA (by omega),AF (by omega)];congr 1;omega
  ·by_cases H:m - i+j+j≤k∧k<m+j
   ·rw[AA (by omega),AF (by omega)];rw[AA (by omega:¬ (m - i≤k∧k<m - i+(m+j - m))),AF (by omega:m - i+(m+j - m)≤k∧k<m+j)];rw[AA (by omega),AA (by omega)]
   ·rw[AA (by omega),AA (by omega),AA (by omega),AA (by omega),AA (by omega),AA (by omega)]
theorem Yd(s:Nat→Nat)(m i j:Nat)(D:i≤m)(h:i<j):KX (Nm s (m - i) (m+j - i) i) (m - i) m (m+j - i)=KX s (m - i) m (m+j):=by
 funext k;unfold KX Nm;by_cases h0:m+j - i≤k∧k<m+j
 ·rw[AA (by omega),AA (by omega),AA (by omega),AF (by omega),AA (by omega),AF (by omega)];congr 1;omega
 ·by_cases E:m - i≤k∧k<m - i+(j - i)
  ·rw[AF (by omega),AA (by omega),AF (by omega:m - i≤k∧k<m - i+(m+j - m))];by_cases F:m+j - i≤k+(m - (m - i))
   ·exfalso;omega
   ·rw[AA (by omega)]
  ·by_cases H:m - i+(j - i)≤k∧k<m+j - i
   ·rw[AA (by omega),AF (by omega),AF (by omega),AF (by omega)];congr 1;omega
   ·rw[AA (by omega),AA (by omega),AA (by omega),AA (by omega),AA (by omega),AA (by omega)]
theorem S8(s:Nat→Nat)(l m r:Nat)(h:l≤m)(D:m≤r):SP s (KX s l m r) l r:=by
 refine⟨fun k=>if l≤k∧k<l+(r - m)then k+(m - l)else if l+(r - m)≤k∧k<r then k - (r - m)else k,fun k=>if l≤k∧k<m then k+(r - m)else if m≤k∧k<r then k - (m - l)else k,fun k=>?_,fun k=>?_,fun k E=>?_,fun k=>?_⟩
 ·dsimp only;by_cases a:l≤k∧k<m
  ·rw[AF a,AA (by omega),AF (by omega)];omega
  ·rw[AA a];by_cases b:m≤k∧k<r
   ·rw[AF b,AF (by omega)];omega
   ·rw[AA b,AA (by omega),AA (by omega)]
 ·dsimp only;by_cases a:l≤k∧k<l+(r - m)
  ·rw[AF a,AA (by omega),AF (by omega)];omega
  ·rw[AA a];by_cases b:l+(r - m)≤k∧k<r
   ·rw[AF b,AF (by omega)];omega
   ·rw[AA b,AA (by omega),AA (by omega)]
 ·dsimp only;rw[AA (by omega),AA (by omega)]
 ·unfold KX;dsimp only;by_cases a:l≤k∧k<l+(r - m)
  ·rw[AF a,AF a]
  ·rw[AA a,AA a];by_cases b:l+(r - m)≤k∧k<r
   ·rw[AF b,AF b]
   ·rw[AA b,AA b]
theorem Jc(s:Nat→Nat)(l m r k:Nat)(h:l≤k)(D:k<l+(r - m)):KX s l m r k=s (k+(m - l)):=by unfold KX;rw[AF ⟨h,D⟩]
theorem Jd(s:Nat→Nat)(l m r k:Nat)(h:l+(r - m)≤k)(D:k<r):KX s l m r k=s (k - (r - m)):=by unfold KX;rw[AA (by omega),AF ⟨h,D⟩]
theorem JI(s:Nat→Nat)(l m r k:Nat)(D:l≤m)(h:k<l∨r≤k)(E:m≤r):KX s l m r k=s k:=by unfold KX;rw[AA (by omega),AA (by omega)]
structure IV(key:Nat→Int)(s:Nat→Nat)(a m b:Nat):Prop where
 l:LC key s a m
 r:LC key s m b
 tag:∀i j,a≤i→i<m→m≤j→j<b→s i<s j
theorem IV.cmp{D:Nat→Int}{s:Nat→Nat}{a m b:Nat}(h:IV D s a m b){i j:Nat}(E:a≤i)(F:i<m)(H:m≤j)(J:j<b):D (s j)<D (s i)↔tl D (s j) (s i):=by
 have:=h.tag i j E F H J;unfold tl;omega
theorem IV.cmpn{D:Nat→Int}{s:Nat→Nat}{a m b:Nat}(h:IV D s a m b){i j:Nat}(E:a≤i)(F:i<m)(H:m≤j)(J:j<b):¬ D (s j)<D (s i)↔tl D (s i) (s j):=by
 have:=h.tag i j E F H J;unfold tl;omega
theorem Y5{D:Nat→Int}{s:Nat→Nat}{a b i:Nat}(h:IV D s a (a+1) b)(M:a+1≤i)(Y:i≤b)(F:∀ j,a+1≤j→j<i→D (s j)<D (s a))(H:∀ j,i≤j→j<b→¬ D (s j)<D (s a)):
  LC D (KX s a (a+1) i) a b:=by
 intro x y J L E;by_cases U:i≤y
 ·rw[JI s a (a+1) i y (by omega) (.inr U) M];by_cases V:i≤x
  ·rw[JI s a (a+1) i x (by omega) (.inr V) M];exact h.r x y (by omega) L E
  ·by_cases Z:x<i - 1
   ·rw[Jc s a (a+1) i x J (by omega)];exact h.r _ y (by omega) (by omega) E
   ·rw[Jd s a (a+1) i x (by omega) (by omega),show x - (i - (a+1))=a by omega];exact(h.cmpn Fu (by omega) (by omega) E).1 (H y U E)
 ·by_cases y2:y<i - 1
  ·rw[Jc s a (a+1) i x J (by omega),Jc s a (a+1) i y (by omega) (by omega)];exact h.r _ _ (by omega) (by omega) (by omega)
  ·rw[Jd s a (a+1) i y (by omega) (by omega),show y - (i - (a+1))=a by omega,Jc s a (a+1) i x J (by omega)];exact(h.cmp Fu (by omega) (by omega) (by omega)).1 (F _ (by omega) (by omega))
theorem Qu{D:Nat→Int}{s:Nat→Nat}{a m i:Nat}(h:IV D s a m (m+1))(U:a≤i)(V:i≤m)(F:∀ j,a≤j→j<i→¬ D (s m)<D (s j))(H:∀ j,i≤j→j<m→D (s m)<D (s j)):
  LC D (KX s i m (m+1)) a (m+1):=by
 intro x y E J Y;by_cases L:x<i
 ·rw[JI s i m (m+1) x (by omega) (.inl L) (by omega)];by_cases M:y<i
  ·rw[JI s i m (m+1) y (by omega) (.inl M) (by omega)];exact h.l x y E J (by omega)
  ·by_cases Z:y=i
   ·rw[Jc s i m (m+1) y (by omega) (by omega),show y+(m - i)=m by omega];exact(h.cmpn E (by omega) Fu (by omega)).1 (F x E L)
   ·rw[Jd s i m (m+1) y (by omega) (by omega)];exact h.l x _ E (by omega) (by omega)
 ·by_cases x2:x=i
  ·rw[Jc s i m (m+1) x (by omega) (by omega),show x+(m - i)=m by omega,Jd s i m (m+1) y (by omega) (by omega)];exact(h.cmp (by omega) (by omega) Fu (by omega)).1 (H _ (by omega) (by omega))
  ·rw[Jd s i m (m+1) x (by omega) (by omega),Jd s i m (m+1) y (by omega) (by omega)];exact h.l _ _ (by omega) (by omega) (by omega)
structure kO(key:Nat→Int)(s:Nat→Nat)(a m b mid st:Nat):Prop where
 am:a<m
 mb:m<b
 hmid:mid=(a+b) / 2
 lo:a≤st
 hi:st≤m
 lo2:mid+m≤b+st
 hi2:st≤mid
 below:a<st→mid+m - st<b→¬ key (s (mid+m - st))<key (s (st - 1))
 above:st<m→m<mid+m - st→key (s (mid+m - st - 1))<key (s st)
theorem gZ{E:Nat→Int}{s:Nat→Nat}{a m b D st:Nat}(h:IV E s a m b)(c:kO E s a m b D st):
  let u:=KX s st m (D+m - st)
  (∀x y,a≤x→x<D→D≤y→y<b→tl E (u x) (u y))∧(a<st→st<D→IV E u a st D)∧(D<D+m - st→D+m - st<b→IV E u D (D+m - st) b):=by
 obtain⟨am,mb,hc,lo,hi,hd,hf,M,U⟩:=c;intro u;have he:D+m - st≤b:=by omega
 have ha:m≤D+m - st:=by omega
 have U1:∀k,k<st→u k=s k:=fun k hk=>JI s st m _ k hi (.inl hk) ha;have U2:∀k,st≤k→k<D→u k=s (k+(m - st)):=fun k L Z=>Jc s st m _ k L (by omega);have U3:∀k,D≤k→k<D+m - st→u k=s (k - (D - st)):=fun k L Z=>by
  show KX s st m _ k=_;rw[Jd s st m _ k (by omega) Z];congr 1;omega
 have U4:∀k,D+m - st≤k→u k=s k:=fun k hk=>JI s st m _ k hi (.inr hk) ha;have LR:∀i j,a≤i→i<st→D+m - st≤j→j<b→tl E (s i) (s j):=fun i j L Z h3 h4=>by
  have F:=(h.cmpn (i:=st - 1) (j:=D+m - st) (by omega) (by omega) (by omega) (by omega)).1 (M (by omega) (by omega));have H:i=st - 1∨tl E (s i) (s (st - 1)):=by
   by_cases e:i=st - 1
   ·exact .inl e
   ·exact .inr (h.l i (st - 1) L (by omega) (by omega))
  have J:j=D+m - st∨tl E (s (D+m - st)) (s j):=by
   by_cases e:j=D+m - st
   ·exact .inl e
   ·exact .inr (h.r (D+m - st) j (by omega) (by omega) h4)
  rcases H with rfl|H <;>rcases J with rfl|J
  ·exact F
  ·exact JS F J
  ·exact JS H F
  ·exact JS H (JS F J)
 have RL:∀i j,m≤i→i<D+m - st→st≤j→j<m→tl E (s i) (s j):=fun i j L Z h3 h4=>by
  have F:=(h.cmp (i:=st) (j:=D+m - st - 1) lo (by omega) (by omega) (by omega)).1 (U (by omega) (by omega));have H:i=D+m - st - 1∨tl E (s i) (s (D+m - st - 1)):=by
   by_cases e:i=D+m - st - 1
   ·exact .inl e
   ·exact .inr (h.r i (D+m - st - 1) L (by omega) (by omega))
  have J:j=st∨tl E (s st) (s j):=by
   by_cases e:j=st
   ·exact .inl e
   ·exact .inr (h.l st j lo (by omega) h4)
  rcases H with rfl|H <;>rcases J with rfl|J
  ·exact F
  ·exact JS F J
  ·exact JS H F
  ·exact JS H (JS F J)
 refine⟨fun x y x0 x1 y0 y1=>?_,fun L Z=>⟨fun i j V ij Y=>?_,fun i j V ij Y=>?_,fun i j V i1 j0 Y=>?_⟩,fun L Z=>⟨fun i j V ij Y=>?_,fun i j V ij Y=>?_,fun i j V i1 j0 Y=>?_⟩⟩
 ·by_cases x2:x<st
  ·rw[U1 x x2];by_cases y2:y<D+m - st
   ·rw[U3 y y0 y2];exact h.l _ _ x0 (by omega) (by omega)
   ·rw[U4 y (by omega)];exact LR x y x0 x2 (by omega) y1
  ·rw[U2 x (by omega) x1];by_cases y2:y<D+m - st
   ·rw[U3 y y0 y2];exact RL _ _ (by omega) (by omega) (by omega) (by omega)
   ·rw[U4 y (by omega)];exact h.r _ _ (by omega) (by omega) y1
 ·rw[U1 i (by omega),U1 j (by omega)];exact h.l _ _ V ij (by omega)
 ·rw[U2 i (by omega) (by omega),U2 j (by omega) (by omega)];exact h.r _ _ (by omega) (by omega) (by omega)
 ·rw[U1 i (by omega),U2 j (by omega) (by omega)];exact h.tag _ _ V (by omega) (by omega) (by omega)
 ·rw[U3 i (by omega) (by omega),U3 j (by omega) (by omega)];exact h.l _ _ (by omega) (by omega) (by omega)
 ·rw[U4 i (by omega),U4 j (by omega)];exact h.r _ _ (by omega) ij Y
 ·rw[U3 i (by omega) (by omega),U4 j (by omega)];exact h.tag _ _ (by omega) (by omega) (by omega) Y
theorem aJ{D:Nat→Int}{u v:Nat→Nat}{a h b:Nat}(V:∀ x y,a≤x→x<h→h≤y→y<b→tl D (u x) (u y))(F:SP u v a h)(J:LC D v a h){t:Nat→Nat}(E:SP v t h b)(L:LC D t h b):LC D t a b:=by
 intro x y M H U;by_cases Y:y<h
 ·rw[E.out (by omega),E.out (by omega)];exact J x y M H Y
 ·by_cases Z:h≤x
  ·exact L x y Z H U
  ·rw[E.out (k:=x) (by omega)];obtain⟨j,j0,j1,ej⟩:=E.mem (k:=y) (by omega) U;obtain⟨i,i0,i1,ei⟩:=F.mem (k:=x) M (by omega);rw[ej,ei,F.out (k:=j) (by omega)];exact V i j i0 i1 j0 j1
theorem V3{H:Nat→Int}{s t u:Nat→Nat}{n:Nat}(V:SP s t 0 n)(Y:SP s u 0 n)(Z:LC H t 0 n)(hu:LC H u 0 n):∀k,k<n→u k=t k:=by
 obtain⟨f,g,fg,U,fo,L⟩:=V.symm.trans Y;have J:∀k,k<n→f k<n:=fun k D=>by
  by_cases h:f k<n
  ·exact h
  ·exfalso;have F:=fo (f k) (by omega);have h4:=B8 g F;rw[U,U]at h4;omega
 have E:∀i j,i<j→j<n→f i<f j:=fun i j M hj=>by
  have F:=hu i j (by omega) M hj;rw[L,L]at F;rcases CM (f i) (f j)with h|h|h
  ·exact h
  ·rw[h]at F;exact absurd F SE
  ·exact absurd (JS F (Z (f j) (f i) (by omega) h (J i (by omega)))) SE
 have ge:∀k,k<n→k≤f k:=fun k=>by
  induction k with
  |zero=>intro _;omega
  |succ k ih=>intro D;have:=ih (by omega);have:=E k (k+1) (by omega) D;omega
 have le:∀d k,k<n→n - 1 - k=d→f k≤k:=fun d=>by
  induction d with
  |zero=>intro k D hd;have:=J k D;omega
  |succ d ih=>intro k D hd;have:=ih (k+1) (by omega) (by omega);have:=E k (k+1) (by omega) (by omega);omega
 intro k D;have:=ge k D;have:=le _ k D R;rw[L,show f k=k by omega]
structure Zu(key:Nat→Int)(s:Nat→Nat)(a i j:Nat):Prop where
 h0:a≤j
 h1:j≤i
 lo:LC key s a j
 hi:LC key s (j+1) (i+1)
 mix:∀x y,a≤x→x<j→j+1≤y→y<i+1→tl key (s x) (s y)
 x:∀y,j+1≤y→y<i+1→tl key (s j) (s y)
 tag:∀y,a≤y→y<j→s y<s j
def j2(s:Nat→Nat)(j:Nat):Nat→Nat:=Nm s (j - 1) j 1
theorem ir(s:Nat→Nat)(j:Nat)(h:0<j):j2 s j (j - 1)=s j∧j2 s j j=s (j - 1)∧∀k,k≠j - 1→k≠j→j2 s j k=s k:=by
 unfold j2 Nm;refine⟨?_,?_,fun k D E=>?_⟩
 ·rw[AF (by omega)];congr 1;omega
 ·rw[AA (by omega),AF (by omega)];congr 1;omega
 ·rw[AA (by omega),AA (by omega)]
theorem Zu.step{D:Nat→Int}{s:Nat→Nat}{a i j:Nat}(h:Zu D s a i j)(hj:a<j)(hc:D (s j)<D (s (j - 1))):Zu D (j2 s j) a i (j - 1):=by
 obtain⟨V,L,E⟩:=ir s j (by omega);have hI:=h.h1;refine⟨by omega,by omega,fun x y Y F Z=>?_,fun x y Y F Z=>?_,fun x y x0 x1 M J=>?_,fun y M J=>?_,fun y M J=>?_⟩
 ·rw[E x (by omega) (by omega),E y (by omega) (by omega)];exact h.lo x y Y F (by omega)
 ·by_cases U:x=j
  ·subst U;rw[L,E y (by omega) (by omega)];exact h.mix _ _ (by omega) (by omega) (by omega) (by omega)
  ·rw[E x (by omega) (by omega),E y (by omega) (by omega)];exact h.hi x y (by omega) F Z
 ·rw[E x (by omega) (by omega)];by_cases H:y=j
  ·subst H;rw[L];exact h.lo _ _ x0 (by omega) (by omega)
  ·rw[E y (by omega) (by omega)];exact h.mix x y x0 (by omega) (by omega) J
 ·rw[V];by_cases H:y=j
  ·subst H;rw[L];exact .inl hc
  ·rw[E y (by omega) (by omega)];exact h.x y (by omega) J
 ·rw[V,E y (by omega) (by omega)];exact h.tag y M (by omega)
theorem Zu.done{D:Nat→Int}{s:Nat→Nat}{a i j:Nat}(h:Zu D s a i j)(L:j=a∨¬ D (s j)<D (s (j - 1))):LC D s a (i+1):=by
 intro x y F E M;have h0:=h.h0;have U:∀x,a≤x→x<j→tl D (s x) (s j):=fun x F Y=>by
  rcases L with L|L
  ·omega
  ·have Z:=h.tag (j - 1) (by omega) (by omega);have V:tl D (s (j - 1)) (s j):=(by unfold tl;omega);by_cases e:x=j - 1
   ·subst e;exact V
   ·exact JS (h.lo x (j - 1) F (by omega) (by omega)) V
 rcases CM y j with H|H|H
 ·exact h.lo x y F E H
 ·subst H;exact U x F E
 ·rcases CM x j with J|J|J
  ·exact h.mix x y F J (by omega) M
  ·subst J;exact h.x y (by omega) M
  ·exact h.hi x y (by omega) E M
theorem Zu.start{D:Nat→Int}{s:Nat→Nat}{a i:Nat}(h:a≤i)(E:LC D s a i)(F:∀ y,a≤y→y<i→s y<s i):Zu D s a i i :=
 ⟨h,AC _,E,fun x y M H U=>by omega,fun x y _ _ J L=>by omega,fun y J L=>by omega,F⟩
theorem iq(s:Nat→Nat)(p q n:Nat)(h:p+n≤q):SP s (Nm s p q n) p (q+n):=by
 refine⟨fun k=>if p≤k∧k<p+n then k+(q - p)else if q≤k∧k<q+n then k - (q - p)else k,fun k=>if p≤k∧k<p+n then k+(q - p)else if q≤k∧k<q+n then k - (q - p)else k,fun k=>?_,fun k=>?_,fun k D=>?_,fun k=>?_⟩
 ·dsimp only;by_cases a:p≤k∧k<p+n
  ·rw[AF a,AA (by omega),AF (by omega)];omega
  ·rw[AA a];by_cases b:q≤k∧k<q+n
   ·rw[AF b,AF (by omega)];omega
   ·rw[AA b,AA (by omega),AA (by omega)]
 ·dsimp only;by_cases a:p≤k∧k<p+n
  ·rw[AF a,AA (by omega),AF (by omega)];omega
  ·rw[AA a];by_cases b:q≤k∧k<q+n
   ·rw[AF b,AF (by omega)];omega
   ·rw[AA b,AA (by omega),AA (by omega)]
 ·dsimp only;rw[AA (by omega),AA (by omega)]
 ·unfold Nm;dsimp only;by_cases a:p≤k∧k<p+n
  ·rw[AF a,AF a]
  ·rw[AA a,AA a];by_cases b:q≤k∧k<q+n
   ·rw[AF b,AF b]
   ·rw[AA b,AA b]
set_option maxRecDepth 100000
theorem j8:laidOutB Au=true:=by kernel_rfl
theorem OK:Au.cellsOf 3=1:=by kernel_rfl
theorem gt:Au.cellsOf 34=2:=by kernel_rfl
theorem gp:Au.cellsOf 61=2:=by kernel_rfl
theorem gF:maxLen=9223372036854775807:=rfl
section
variable {H:Type} {enc:TypeId×Value→H} {W:World} {base:Nat} {spare:Nat→Bool} {held:Bool}
theorem Ug{n:Nat}{cs:List Value}{x:DataW H×List MemPlace}(h:DataW.trod enc Au W base spare held n 61 cs=O x):∃i g:Int,cs=[I K i,I K g]:=by
 obtain⟨L,M,U,_,D,h0,E⟩:=trod_struct2 Tryz.underlying61 h;rw[gp]at D
 match cs,D with
 |[c0,c1],_ =>
  simp[OK]at h0 E;obtain⟨F,V,_⟩:=BA Tryz.underlying3 h0;obtain⟨J,Y,_⟩:=BA Tryz.underlying3 E;exact⟨F,J,by simp_all⟩
end
def LI(cl:Nat→Nat→Bool)(i:Nat):Nat→Nat
 |0=>0
 |j+1=>if cl j i=true∧LI cl i j<I3 cl j+1 then I3 cl j+1 else LI cl i j
theorem Tg(cl:Nat→Nat→Bool)(i:Nat):∀j,j≤i→LI cl i j≤I3 cl i
 |0,_=>AS _
 |j+1,h=>by
  unfold LI;split
  ·rename_i D;have:=bf cl i j (by omega) D.1;omega
  ·exact Tg cl i j (by omega)
theorem X7(cl:Nat→Nat→Bool)(i:Nat):∀j k,k<j→cl k i=true→I3 cl k+1≤LI cl i j
 |0,k,h,_=>by omega
 | j+1,k,h,hc=>by
  unfold LI;by_cases e:k=j
  ·subst e;split
   ·omega
   ·rename_i D;have:¬ LI cl i k<I3 cl k+1:=fun E=>D ⟨hc,E⟩;omega
  ·have:=X7 cl i j k (by omega) hc;split
   ·rename_i D;omega
   ·exact this
theorem VS(cl:Nat→Nat→Bool)(i:Nat):LI cl i i=I3 cl i:=by
 have F:=Tg cl i i Fu;rcases DX (I3 cl i)with h|h
 ·omega
 ·obtain⟨j,D,E,e⟩:=bj cl i h;have:=X7 cl i i j D E;omega
def O0(cl:Nat→Nat→Bool):Nat→Nat
 |0=>0
 |i+1=>if O0 cl i<I3 cl i+1 then I3 cl i+1 else O0 cl i
theorem Qy(cl:Nat→Nat→Bool)(n:Nat):I3 cl n≤(IM cl n).length:=PQ _ _ _
theorem TI(cl:Nat→Nat→Bool):∀n,(IM cl n).length=O0 cl n
 |0=>rfl
 |n+1=>by
  have h:IM cl (n+1)=M8 (IM cl n) (I3 cl n) n:=rfl;have:=Qy cl n;rw[h,Qh];unfold O0;rw[←TI cl n];split <;>split <;>omega
theorem Xj(cl:Nat→Nat→Bool):∀n k,(IM cl n).getD k []=(List.range n).filter (fun i=>I3 cl i == k)
 |0,k=>by simp[IM]
 |n+1,k=>by
  have h:IM cl (n+1)=M8 (IM cl n) (I3 cl n) n:=rfl;rw[h,UX _ _ _ _ (Qy cl n),CY,Cf,Xj cl n k];by_cases e:k=I3 cl n
  ·rw[AF e];simp[e]
  ·rw[AA e];simp[BW e]
def Jy(cl:Nat→Nat→Bool)(m j:Nat):List (List Nat):=(List.range m).map fun k=>(List.range j).filter (fun i=>I3 cl i == k)
theorem O'(cl:Nat→Nat→Bool)(m j:Nat):(Jy cl m j).length=m:=by simp[Jy]
theorem PA(cl:Nat→Nat→Bool)(m j k:Nat)(h:k<m):(Jy cl m j).getD k []=(List.range j).filter (fun i=>I3 cl i == k):=by
 unfold Jy;rw[Az,AE (by simpa using h)];simp
theorem WU(cl:Nat→Nat→Bool)(m:Nat):Jy cl m 0=List.replicate m []:=by
 unfold Jy;refine Ca (by simp) fun i h D=>by simp
theorem WV(cl:Nat→Nat→Bool)(m j:Nat)(h:I3 cl j<m):Jy cl m (j+1)=(Jy cl m j).set (I3 cl j) ((Jy cl m j).getD (I3 cl j) []++[j]):=by
 rw[PA _ _ _ _ h];refine Ca (by simp[Jy]) fun k D E=>?_;rw[Dr];simp only[Jy,BO,CQ,CY,Cf];by_cases e:I3 cl j=k
 ·rw[AF e];simp[e]
 ·rw[AA e];simp[e]
theorem Yr(cl:Nat→Nat→Bool)(n:Nat):Jy cl (O0 cl n) n=IM cl n:=by
 refine Ca (by rw[O',TI]) fun k h F=>?_;have H:k<O0 cl n:=by rw[O']at h;exact h
 have D:=PA cl (O0 cl n) n k H;have E:=Xj cl n k;rw[Az,AE h,C9]at D;rw[Az,AE F,C9]at E;rw[D,E]
theorem Uk(cl:Nat→Nat→Bool)(i:Nat):∀n,i<n→I3 cl i<O0 cl n
 |0,h=>by omega
 |n+1,h=>by
  unfold O0;by_cases e:i=n
  ·subst e;split <;>omega
  ·have:=Uk cl i n (by omega);split <;>omega
theorem bU(cl:Nat→Nat→Bool)(n:Nat):O0 cl n≤n:=by rw[←TI];exact MT cl n
end Go.Proofs.YtnbleebilmghcabGreat
