/- PDel, PIns, RRegion, Gho -/
import Derived.Test.YtnbleebilmghcabGreatUAC
import Derived.Test.YtnbleebilmghcabGreatUAH
import Derived.Test.YtnbleebilmghcabGreatUAJ
set_option linter.all false
set_option maxRecDepth 1000000
set_option maxHeartbeats 4000000
open Go.Value renaming int→I,slice→S,pointer→Ae,agg→Af,tuple→Ai,bool→Aj,oneCell'→Ar
open Go.IntKind renaming i64→K
open Option renaming none→N,some→O
open Go.Obj renaming cells→Al
open Go.Operand renaming tmp→Am
open Go.Ending renaming returned→Ao
open Go.Act renaming eval→Aq
open Go.Proofs.Tryz renaming prog→Au
namespace Go.Proofs.YtnbleebilmghcabGreat
open Go Go.RowKit
attribute [local go_sem ↓] Go.wp_at_zero Go.wp_at_succ
theorem iZ(w:World):(zeroValue 116).run Au w=.ok (Af (D' dR).toArray) w:=by kernel_rfl
theorem WC(w:World)(F:TypeId)(b o c:Nat)(D:w.there b o 11):(Builtin.clear_ #[41] F #[S (O ⟨b,o,N⟩) 1 c]).run Au w=.ok (Ai #[]) (w.setCells b o (D' dR)):=by
 have E:=Ef (P:=Au) b o (D' dR) 0 w (fun j h=>by simpa using(D j (by simpa[F2]using h)).1) (fun j h=>by simpa using(D j (by simpa[F2]using h)).2) (F9 dR);simp only[Ay]at E;have H:(Builtin.zeroCells (Af #[I K 0,I K 0,I K 0,I K 0,I K 0,I K 0,I K 0,I K 0,I K 0,I K 0,I K 0]).cells 1).toList=D' dR:=by kernel_rfl
 have h0:=iZ;unfold D' dR at h0;simp[Builtin.clear_,Dj Tryz.underlying41,h0];rw[H,E];rfl
theorem Rq{ops:Array Oper}{D:List Oper}{E:Oper}{a:Act}{w:World}{Q:Exit→Act→World→Prop}(F:E.guard=N)(x:Operand)(H:E.op=.call { callee:=.builtin .clear,args:=#[x],argTypes:=#[41] })
  (b o c:Nat) (J:a.eval x=S (O ⟨b,o,N⟩) 1 c) (L:w.there b o 11)
  (h:∀W1,W1=w.setCells b o (D' dR)→wpList Au ops Q D (a.put E.dst (Ai #[])) W1):wpList Au ops Q (E :: D) a w :=
 Do F fun _ M=>by
  unfold Oper.wp execOp;simp only[H,resolve,invoke,builtin,Db,Dp,CJ,Dq,BZ,DE,J,WC w E.type b o c L];exact M _ _ (h _ R)
theorem Jk(a b:List D7):At (a++b)=At a++At b:=by unfold At;rw[Dt]
theorem JU:∀(vs D:List Value) (o:Nat),o+vs.length≤D.length→Ih D o vs=D.take o++vs++D.drop (o+vs.length)
 | vs,D,o,h=>by
  apply CX;intro i;rw[O5];by_cases E:o≤i∧i<o+vs.length∧i<D.length
  ·rw[AF E,BJ,BI (by rw[AZ];omega),AZ,show i - min o D.length=i - o by omega,BF (by omega)]
  ·rw[AA E,BJ];by_cases F:i<o
   ·rw[BF (by rw[AZ];omega),CR,AF F]
   ·rw[BI (by rw[AZ];omega),AZ,show i - min o D.length=i - o by omega,BI (by omega),List.getElem?_drop];congr 1;omega
theorem Vu(vs D:List Value)(o:Nat)(h:o+vs.length≤D.length):(Ih D o vs).take o=D.take o:=by
 rw[JU vs D o h,BJ,Ck (by rw[AZ];omega),CV,Nat.min_self]
theorem OJ(D:List D7)(k:Nat):(At D).take (k*11)=At (D.take k):=by
 by_cases h:k≤D.length
 ·have e:D=D.take k++D.drop k:=(BS k D).symm;have E:(At (D.take k)).length=k*11:=by rw[Fy,AZ];congr 1;omega
  conv=>lhs;rw[e,Jk]
  rw[Ck (by omega),BY (by omega)]
 ·rw[BY (by rw[Fy];omega),BY (by omega)]
theorem ZV(D:List D7)(k:Nat)(h:k<D.length):(Ih (At D) (k*11) (At (D.drop (k+1)))).take ((D.length - 1)*11)=At (D.eraseIdx k):=by
 have F:(At (D.drop (k+1))).length=(D.length - (k+1))*11:=by rw[Fy,Cq]
 rw[JU _ _ _ (by rw[F,Fy];omega),OJ,EB,Jk];have E:(At (D.take k)++At (D.drop (k+1))).length=(D.length - 1)*11:=by
  rw[AV,F,Fy,AZ];omega
 rw[←E];exact EQ
theorem Yo{W:World}{B:Nat}{e:TypeId}{D n g E:Nat}{L:List Value}(h:W.ownsRow B e D (S (O ⟨g,0,N⟩) n E) n L)(m:Nat)(M:m≤n):W.ownsRow B e D (S (O ⟨g,0,N⟩) m E) m (L.take (m*D)):=by
 obtain⟨F,U,h2,V,Y,Z⟩:=I4 h;have H:=(h.lt g R).1;have J:m*D≤n*D:=Dm _ M;refine⟨by rw[AZ,h.1];omega,.inr ⟨g,E,F,rfl,H,U,by omega,V,Y,?_⟩⟩;rw[←Z,CV,Cp J]
theorem Hg{W:World}{B:Nat}{e:TypeId}{D n:Nat}{v:Value}{E:List Value}(h:W.ownsRow B e D v n E):W.drew.ownsRow B e D v n E:=h
theorem Je{w:World}{b o:Nat}:∀(vs:List Value) (o:Nat) (W:World),w.grownBy W (O b)→w.grownBy (W.setCells b o vs) (O b)
 |[],_,_,h=>h
 | u :: r,o,W,h=>Je (b:=b) (o:=o) r (o+1) _ ⟨h.os,h.tape,h.output,by rw[World.size_setCell];exact h.size,fun k E D=>by
   rw[Dy W ⟨b,o,N⟩ u k (fun e=>D (by rw[e]))];exact h.block k E D⟩
theorem XA(B g E k:Nat)(D:List D7)(w:World)(hk:k<D.length)(V:w.ownsRow B 116 11 (S (O ⟨g,0,N⟩) D.length E) D.length (At D)):
  Calls Au 156 #[S (O ⟨g,0,N⟩) D.length E,I K (k:Int),I K ((k:Int)+1)] w fun e w'=>e=Ao (S (O ⟨g,0,N⟩) (D.length - 1) E)∧w'.ownsRow B 116 11 (S (O ⟨g,0,N⟩) (D.length - 1) E) (D.length - 1) (At (D.eraseIdx k))∧w.grownBy w' (O g):=by
 obtain⟨hf,ha,hn,hb,hp⟩:=BC OC;obtain⟨hg,c1,c2,c3,c4,c5⟩:=I4 V;have F:(At (D.drop (k+1))).length=(D.length - (k+1))*11:=by rw[Fy,Cq]
 obtain⟨A,hA,H⟩:∃A:Addr,(if E=k+1 then O (⟨g,0,N⟩:Addr)else O ⟨g,(k+1)*11,N⟩)=O A∧Hid (∀j u,(At (D.drop (k+1)))[j]?=O u→w.drew.cell? (A.add j)=O u):=by
  by_cases h:E=k+1
  ·refine⟨⟨g,0,N⟩,by simp[h],fun j u Y=>?_⟩;rw[Bb (by rw[F];omega)]at Y
   cases Y
  ·refine⟨⟨g,(k+1)*11,N⟩,by simp[h],fun j u Y=>?_⟩;rw[KF];refine F4 (Hg V) ?_;have hj:j<(At (D.drop (k+1))).length:=by
    by_cases hh:j<(At (D.drop (k+1))).length
    ·exact hh
    ·rw[Bb (by omega)]at Y;cases Y
   have e:D=D.take (k+1)++D.drop (k+1):=(BS _ D).symm;have hl:(At (D.take (k+1))).length=(k+1)*11:=(by rw[Fy,AZ];congr 1;omega);rw[←Y]
   conv=>lhs;rw[e,Jk]
   rw[BI (by omega),hl];congr 1;omega
 have s1:Hid ((At (D.drop (k+1))).length=(D.length - (k+1))*11):=F;have s2:Hid (∀u∈At (D.drop (k+1)),u.oneCell'=true):=Iz _;have s3:Hid (∀j,j<(At (D.drop (k+1))).length→(w.drew.cell? ⟨g,0+k*11+j,N⟩).isSome=true∧w.drew.frozen? ⟨g,0+k*11+j,N⟩=false):=by
  intro j hj;rw[F]at hj;have:=Hl (Hg V) (k*11) ((D.length - (k+1))*11) (by rw[Fy];omega) j hj;rw[AT];exact this
 have HD:=(ZV D k hk);have J:=An F;have L:=(Fy D);unfold maxLen at c3;clear F c1 c4 c5 hg;generalize At (D.drop (k+1))=Z at *;obtain⟨m,hm⟩:∃m,D.length=m+1:=⟨D.length - 1,by omega⟩;rw[hm]at V HD L s1 hk c2 J⊢;simp only[Dw]at HD⊢;rw[show m+1 - (k+1)=m - k by omega]at s1 J;clear hm;have q0:(0:Int)≤(k:Int):=by omega
 have q1:(k:Int)≤(k:Int)+1:=by omega
 have q2:(k:Int)+1≤((m+1:Nat):Int):=by omega
 have q3:((k:Int)+1).toNat=k+1:=by omega
 have q4:((m+1:Nat):Int)≤(E:Int):=by omega
 have q5:k≤E:=by omega
 have q6:¬ ((k:Int)=(k:Int)+1):=by omega
 have q7:k+(m - k)=m:=by omega
 have q8:(0:Int)≤(k:Int)+1:=by omega
 have q9:(k:Int)+1≤(m:Int)+1:=by omega
 have hq:(k:Int)≤(m:Int):=by omega
 have hr:k≤m:=by omega
 go_enter Tryz.func156,Tryz.ntmps156
 go_wp2_with fail
 go_region_law (refine step_append_room R (Am 22) (Am 25) 41 R 116 hf 11 Tryz.underlying41 ha hb g 0 k E (by simp[Aq,Act.put]) A (m - k) (E - (k+1)) Z (by simp[Aq,Act.put]) s1.out H.out s2.out (by omega) s3.out ?_)
 obtain⟨W1,M⟩:∃W,W=w.drew.setCells g (k*11) Z:=⟨_,rfl⟩;have hc:W1.ownsRow B 116 11 (S (O ⟨g,0,N⟩) (m+1) E) (m+1) (Ih (At D) (k*11) Z):=by
  rw[M];exact Ib Z (k*11) _ _ (Hg V) (by rw[AN J,L];omega)
 have hi:w.grownBy W1 (O g):=by
  rw[M];exact Je (b:=g) (o:=0) Z (k*11) _ ⟨rfl,rfl,rfl,AC _,fun _ _ _=>rfl⟩
 rw[←M];have U:Hid ((Ih (At D) (k*11) Z).length=(m+1)*11):=by rw[JF];exact L
 clear M V s1 s2 s3 H hA J L;have hs:(m:Int)+1≤(E:Int):=by omega
 have ht:¬ E=m:=by omega
 have hv:m≤E:=by omega
 go_wp2_with(first
  |(refine Rq R (Am 31) R g (m*11) (E - m) R (Hl hc (m*11) 11 (by rw[AN U];omega)) ?_;intro W2 hd;have he:=An hd;clear hd))
 go_ret;refine⟨rfl,?_,?_⟩
 ·have h2:=Ib (D' dR) (m*11) _ _ hc (by rw[AN U,F2];omega);rw[←AN he]at h2;have h3:=Yo h2 m (by omega);rw[Vu _ _ _ (by rw[AN U,F2];omega),HD]at h3;exact h3
 ·rw[AN he];exact Je (b:=g) (o:=0) (D' dR) (m*11) _ hi
theorem I9(w:World)(dT Z ty h:TypeId)(b o D F:Nat)(a:Addr)(E H n k:Nat)(cs:List Value){P:Program}
  (hu:P.underlying dT=some (.slice h)) (V:(P.info? h).map (·.size)=some k) (hm:Nat.min E D=n) (hn:cs.length=n*k)
  (J:∀j v,cs[j]?=some v→w.cell? (a.add j)=some v) (Y:w.there b o cs.length) (h1:∀v∈cs,v.oneCell'=true):
  (Builtin.copy_ #[dT,Z] ty #[.slice (some ⟨b,o,none⟩) D F,.slice (some a) E H]).run P w=.ok (goInt n) (w.setCells b o cs):=by
 have hl:=run_loadCells_list (P:=P) w a cs J;have L:=run_storeCells_cells (P:=P) b o cs 0 w (fun j M=>by simpa using(Y j M).1) (fun j M=>by simpa using(Y j M).2) h1
 cases U:P.info? h with
 |none=>simp[U]at V
 |some i =>
  have hi:i.size=k:=by simpa[U]using V
  simp[Builtin.copy_,run_underlying hu,Builtin.lenOf,Builtin.firstCells,sizeOf,typeInfo,U,hi,hm,←hn,hl,L]
theorem KE{P:Program}{ops:Array Oper}{o:Oper}{a:Act}{w:World}{K:Act→World→Prop}{Q:Exit→Act→World→Prop}{E:Prop}
  (J:o.guard=N) (d x:Operand) (dT D:TypeId) (h:o.op=Op.call { callee:=Callee.builtin Builtin.copy,args:=#[d,x],argTypes:=#[dT,D] })
  (v u:Value) (L:a.eval d=v) (M:a.eval x=u) {F:Value} {H:World} (U:(Builtin.copy_ #[dT,D] o.type #[v,u]).run P w=.ok F H) (V:K (a.put o.dst F) H):
  if Region.wanted o (yielded ops a.tmps)=true then Oper.wp P o a w K Q else E:=by
 have Y:Region.wanted o (yielded ops a.tmps)=true:=by simp[Region.wanted,J]
 rw[AF Y];unfold Oper.wp;simp[execOp,h,resolve,invoke,builtin,L,M,U,Result.andThen];exact V
def Ix(rows:List D7)(k:Nat)(r:D7):List D7:=rows.take k++r :: rows.drop k
theorem Ky(D:List D7)(k:Nat)(r:D7)(h:k≤D.length):(Ix D k r).length=D.length+1:=by unfold Ix;simp;omega
theorem Q3(h:List D7)(k:Nat)(r:D7):At (Ix h k r)=At (h.take k)++D' r++At (h.drop k):=by
 unfold Ix;rw[Jk,BJ];rfl
theorem bz(h:List D7)(r:D7):Ix h h.length r=h++[r]:=by unfold Ix;simp
theorem MZ(h:List D7)(k:Nat):(At (h.drop k)).length=(h.length - k)*11:=by rw[Fy,Cq]
theorem ZD(h:List D7)(k:Nat)(r:D7)(D:List Value)(U:k≤h.length)(E:D.length=(h.length+1)*11)(L:D.take (k*11)=At (h.take k)):
  Ih (Ih D ((k+1)*11) (At (h.drop k))) (k*11) (D' r)=At (Ix h k r):=by
 have F:=MZ h k;rw[Q3];generalize At (h.drop k)=J at *;have M:Ih D ((k+1)*11) J=D.take ((k+1)*11)++J:=by
  rw[JU _ _ _ (by rw[F,E];omega),DF (by rw[F,E];omega),CN]
 have H:(D.take ((k+1)*11)).length=(k+1)*11:=by rw[AZ,E];omega
 rw[M,JU _ _ _ (by rw[AV,H,F,F2];omega),←L,F2];rw[Ck (by rw[H];omega),CV,Cp (by omega)];congr 1;rw[show k*11+11=(D.take ((k+1)*11)).length by rw[H];omega,List.drop_left]
theorem ZE(h:List D7)(k:Nat)(r:D7)(E:List Value)(M:k≤h.length)(F:E.length=(h.length+1)*11)(L:E.take (k*11)=At (h.take k)):
  Ih (Ih E (k*11) (D' r)) ((k+1)*11) (At (h.drop k))=At (Ix h k r):=by
 have H:=MZ h k;rw[Q3];generalize At (h.drop k)=U at *;have D:(Ih E (k*11) (D' r)).length=(h.length+1)*11:=by rw[JF];exact F
 rw[JU _ _ _ (by rw[H,D];omega),DF (by rw[H,D];omega),CN,←L];congr 1;have J:(E.take (k*11)).length=k*11:=by rw[AZ,F];omega
 rw[JU _ _ _ (by rw[F,F2];omega),Ck (by rw[AV,J,F2];omega),BY (by rw[AV,J,F2];omega)]
theorem bG{W:World}{B n g D:Nat}{H:List Value}(h:W.ownsRow B 116 11 (S (O ⟨g,0,N⟩) n D) n H)(J:n+1≤D):∃L,W.ownsRow B 116 11 (S (O ⟨g,0,N⟩) (n+1) D) (n+1) L∧L.take (n*11)=H:=by
 obtain⟨E,U,Z,V,M,Y⟩:=I4 h;have F:=(h.lt g R).1;refine⟨E.toList.take ((n+1)*11),⟨by rw[AZ,DU,M,Cp];exact Dm _ J,.inr ⟨g,D,E,rfl,F,U,J,V,M,rfl⟩⟩,?_⟩;rw[CV,Cp (by omega),Y]
theorem YK{E:List Value}{D:List D7}{n k:Nat}(h:E.take (n*11)=At D)(F:k≤n):E.take (k*11)=At (D.take k):=by
 rw[←OJ,←h,CV,Cp (by omega)]
theorem Xe{W:World}{B n g E:Nat}{D:List D7}(h:W.ownsRow B 116 11 (S (O ⟨g,0,N⟩) n E) n (At D))(k:Nat)(J:k≤D.length):∀j v,(At (D.drop k))[j]?=O v→W.cell? ((⟨g,k*11,N⟩:Addr).add j)=O v:=by
 intro j v F;rw[KF];refine F4 h ?_;have e:D=D.take k++D.drop k:=(BS _ D).symm;have H:(At (D.take k)).length=k*11:=by rw[Fy,AZ];congr 1;omega
 rw[←F]
 conv=>lhs;rw[e,Jk]
 rw[BI (by omega),H];congr 1;omega
structure Vf(w:World)(vb:Nat)(r:D7):Prop where
 h:w.heap[vb]?=O (Al (D' r).toArray 116 (0,0))
theorem Vf.src{w:World}{D:Nat}{r:D7}(h:Vf w D r):∀j v,(D' r)[j]?=O v→w.cell? ((⟨D,0,N⟩:Addr).add j)=O v:=by
 intro j v E;rw[KF,AT,EF w D j _ 116 (0,0) h.h];simpa using E
theorem Vf.sets{w:World}{D g o:Nat}{r:D7}{vs:List Value}(h:Vf w D r)(E:D≠g):Vf (w.setCells g o vs) D r:=by
 refine⟨?_⟩;have:∀(vs:List Value) (o:Nat) (W:World),W.heap[D]?=O (Al (D' r).toArray 116 (0,0))→(W.setCells g o vs).heap[D]?=O (Al (D' r).toArray 116 (0,0)):=fun vs=>by
  induction vs with
  |nil=>intro o W h;exact h
  |cons u rr ih=>intro o W h;exact ih (o+1) _ (by rw[Dy W ⟨g,o,N⟩ u D E];exact h)
 exact this vs o w h.h
set_option maxRecDepth 8000
end Go.Proofs.YtnbleebilmghcabGreat
namespace Go.Proofs.YtnbleebilmghcabGreat
open Go Go.RowKit
def bd(a n h:Int):Nat→List Value:=fun k=>if k=0 then(arr a).toList else if k=1 then(arr n).toList else(arr h).toList
def MI(w0:World)(a n h:Int)(L:Nat→Bool)(ac:Act)(w:World):Prop :=
  ∃ (v:Nat→Value) (g:Nat→Nat) (x9 x10 x11 x12 x13 x14 x15 x16:Value),
    ac=⟨(Af #[I K a,I K n]:: I K h :: Ae (O ⟨w0.heap.size,0,N⟩):: undef :: Aj false :: v 0 :: v 1 :: v 2 :: undef :: x9 :: x10 :: x11 :: x12 :: x13 :: x14 :: x15 :: x16 ::
      undef :: undef :: undef :: undef :: undef :: undef :: undef :: undef :: undef :: undef :: undef :: undef :: undef :: undef :: undef :: undef :: undef :: undef :: undef :: undef :: undef :: undef :: undef :: []).toArray,[]⟩ ∧
    (L 0=true→x9=Ae (O ⟨w0.heap.size,0,N⟩))∧(L 1=true→x10=I K a)∧(L 2=true→x11=Af (arr a)) ∧
    (L 3=true→x12=Ae (O ⟨w0.heap.size,1,N⟩))∧(L 4=true→x13=I K n)∧(L 5=true→x14=Af (arr n)) ∧
    (L 6=true→x15=I K h)∧(L 7=true→x16=Af (arr h)) ∧
    MW w0 (bd a n h) a n (fun k=>L (8+k)) (fun k=>L (11+k)) v g w
theorem Lp(L:Nat→Bool)(m k j:Nat):upd L (m+k) (m+j)=if j=k then true else L (m+j):=by
  unfold upd;simp only[D6]
theorem Tryz.info107:(Au.info? 107).map (·.size)=O 8:=by kernel_rfl
theorem Th(n:Int):(arr n).all (·.oneCell')=true:=by simp[arr,Ar]
theorem XJ(n:Int)(k:Nat)(h:k<8):(arr n).toList[k]?=O (Aj (tb n k)):=by
  rcases(by omega:k=0∨k=1∨k=2∨k=3∨k=4∨k=5∨k=6∨k=7)with rfl|rfl|rfl|rfl|rfl|rfl|rfl|rfl <;>rfl
theorem Y0(a n h:Int)(k:Nat):Rw a n h (k+1)=(Rw a n h k && Ui a n h k):=by
  unfold Rw;rw[CY,EK];simp
theorem WY(a n h:Int)(k m:Nat)(D:k<m)(e:Ui a n h k=false):Rw a n h m=false:=by
  unfold Rw;rw[Ez];exact⟨k,Bh.2 D,by simp[e]⟩
theorem Qc(a n h:Int)(w:World)(a0:0≤a)(a1:a≤255)(n0:0≤n)(n1:n≤255)(h0:0≤h)(h1:h≤255):
    Calls Au 83 #[Af #[I K a,I K n],I K h] w fun e w'=>e=Ao (Aj (Rw a n h 8))∧Below w.heap.size w w':=by
  go_enter Tryz.func83,Tryz.ntmps83
  go_wp2;rename_i Q1 K1 hf;refine Ld (by kernel_rfl) (MI w a n h) (by kernel_rfl) ?start ?step ?fin
  case start =>
    refine⟨fun _=>undef,fun _=>0,_,_,_,_,_,_,_,_,rfl,by simp,by simp,by simp,by simp,by simp,by simp,by simp,by simp,?_⟩;have c0:(w.alloc (Al #[I K a,I K n] 34)).cell? ⟨w.heap.size,0,N⟩=O (I K a):=(by simp);have c1:(w.alloc (Al #[I K a,I K n] 34)).cell? ⟨w.heap.size,1,N⟩=O (I K n):=(by simp);exact⟨(Fv.alloc Fu _).drew,c0,c1,by simp,by simp,by simp⟩
  case step =>
    clear hf;rintro L ac w1 i o⟨v,g,x9,hh,hi,hn,hp,hq,hr,hs,rfl,H,J,M,U,V,Y,Z,f7,F⟩ E hL he
    match i,E with
    | 0,E =>
      have D:=E;simp at D;subst D;refine Gn E R ?_;simp[go_sem];exact⟨v,g,_,_,_,_,_,_,_,_,rfl,by first|(intro _;rfl)|(simpa[upd]using H),by first|(intro _;rfl)|(simpa[upd]using J),by first|(intro _;rfl)|(simpa[upd]using M),by first|(intro _;rfl)|(simpa[upd]using U),by first|(intro _;rfl)|(simpa[upd]using V),by first|(intro _;rfl)|(simpa[upd]using Y),by first|(intro _;rfl)|(simpa[upd]using Z),by first|(intro _;rfl)|(simpa[upd]using f7),F.congr (fun k _=>Fx (by omega)) (fun k _=>Fx (by omega)) (fun _ _=>rfl)⟩
    | 1,E =>
      have D:=E;simp at D;subst D;obtain rfl:=H (he ⟨0,.data⟩ (by simp) R);have c0:=F.c0;refine Gn E R ?_;simp[go_sem,c0];exact⟨v,g,_,_,_,_,_,_,_,_,rfl,by first|(intro _;rfl)|(simpa[upd]using H),by first|(intro _;rfl)|(simpa[upd]using J),by first|(intro _;rfl)|(simpa[upd]using M),by first|(intro _;rfl)|(simpa[upd]using U),by first|(intro _;rfl)|(simpa[upd]using V),by first|(intro _;rfl)|(simpa[upd]using Y),by first|(intro _;rfl)|(simpa[upd]using Z),by first|(intro _;rfl)|(simpa[upd]using f7),F.congr (fun k _=>Fx (by omega)) (fun k _=>Fx (by omega)) (fun _ _=>rfl)⟩
    | 3,E =>
      have D:=E;simp at D;subst D;refine Gn E R ?_;simp[go_sem];exact⟨v,g,_,_,_,_,_,_,_,_,rfl,by first|(intro _;rfl)|(simpa[upd]using H),by first|(intro _;rfl)|(simpa[upd]using J),by first|(intro _;rfl)|(simpa[upd]using M),by first|(intro _;rfl)|(simpa[upd]using U),by first|(intro _;rfl)|(simpa[upd]using V),by first|(intro _;rfl)|(simpa[upd]using Y),by first|(intro _;rfl)|(simpa[upd]using Z),by first|(intro _;rfl)|(simpa[upd]using f7),F.congr (fun k _=>Fx (by omega)) (fun k _=>Fx (by omega)) (fun _ _=>rfl)⟩
    | 4,E =>
      have D:=E;simp at D;subst D;obtain rfl:=U (he ⟨3,.data⟩ (by simp) R);have c1:=F.c1;refine Gn E R ?_;simp[go_sem,c1];exact⟨v,g,_,_,_,_,_,_,_,_,rfl,by first|(intro _;rfl)|(simpa[upd]using H),by first|(intro _;rfl)|(simpa[upd]using J),by first|(intro _;rfl)|(simpa[upd]using M),by first|(intro _;rfl)|(simpa[upd]using U),by first|(intro _;rfl)|(simpa[upd]using V),by first|(intro _;rfl)|(simpa[upd]using Y),by first|(intro _;rfl)|(simpa[upd]using Z),by first|(intro _;rfl)|(simpa[upd]using f7),F.congr (fun k _=>Fx (by omega)) (fun k _=>Fx (by omega)) (fun _ _=>rfl)⟩
    | 6,E =>
      have D:=E;simp at D;subst D;refine Gn E R ?_;simp[go_sem];exact⟨v,g,_,_,_,_,_,_,_,_,rfl,by first|(intro _;rfl)|(simpa[upd]using H),by first|(intro _;rfl)|(simpa[upd]using J),by first|(intro _;rfl)|(simpa[upd]using M),by first|(intro _;rfl)|(simpa[upd]using U),by first|(intro _;rfl)|(simpa[upd]using V),by first|(intro _;rfl)|(simpa[upd]using Y),by first|(intro _;rfl)|(simpa[upd]using Z),by first|(intro _;rfl)|(simpa[upd]using f7),F.congr (fun k _=>Fx (by omega)) (fun k _=>Fx (by omega)) (fun _ _=>rfl)⟩
    | 2,E =>
      have D:=E;simp at D;subst D;obtain rfl:=J (he ⟨1,.data⟩ (by simp) R);refine Gn E R ?_;simp[go_sem];refine(K8 a w1 a0 a1).mono ?_;rintro e w2⟨rfl,rfl⟩;have ha:Below w1.heap.size w1 ((w1.alloc (Al (arr a) 107)).alloc (Al (arr a) 107)):=(by go_grown);exact⟨v,g,_,_,_,_,_,_,_,_,rfl,by first|(intro _;rfl)|(simpa[upd]using H),by first|(intro _;rfl)|(simpa[upd]using J),by first|(intro _;rfl)|(simpa[upd]using M),by first|(intro _;rfl)|(simpa[upd]using U),by first|(intro _;rfl)|(simpa[upd]using V),by first|(intro _;rfl)|(simpa[upd]using Y),by first|(intro _;rfl)|(simpa[upd]using Z),by first|(intro _;rfl)|(simpa[upd]using f7),(F.below ha).congr (fun k _=>Fx (by omega)) (fun k _=>Fx (by omega)) (fun _ _=>rfl)⟩
    | 5,E =>
      have D:=E;simp at D;subst D;obtain rfl:=V (he ⟨4,.data⟩ (by simp) R);refine Gn E R ?_;simp[go_sem];refine(K8 n w1 n0 n1).mono ?_;rintro e w2⟨rfl,rfl⟩;have ha:Below w1.heap.size w1 ((w1.alloc (Al (arr n) 107)).alloc (Al (arr n) 107)):=(by go_grown);exact⟨v,g,_,_,_,_,_,_,_,_,rfl,by first|(intro _;rfl)|(simpa[upd]using H),by first|(intro _;rfl)|(simpa[upd]using J),by first|(intro _;rfl)|(simpa[upd]using M),by first|(intro _;rfl)|(simpa[upd]using U),by first|(intro _;rfl)|(simpa[upd]using V),by first|(intro _;rfl)|(simpa[upd]using Y),by first|(intro _;rfl)|(simpa[upd]using Z),by first|(intro _;rfl)|(simpa[upd]using f7),(F.below ha).congr (fun k _=>Fx (by omega)) (fun k _=>Fx (by omega)) (fun _ _=>rfl)⟩
    | 7,E =>
      have D:=E;simp at D;subst D;obtain rfl:=Z (he ⟨6,.data⟩ (by simp) R);refine Gn E R ?_;simp[go_sem];refine(K8 h w1 h0 h1).mono ?_;rintro e w2⟨rfl,rfl⟩;have ha:Below w1.heap.size w1 ((w1.alloc (Al (arr h) 107)).alloc (Al (arr h) 107)):=(by go_grown);exact⟨v,g,_,_,_,_,_,_,_,_,rfl,by first|(intro _;rfl)|(simpa[upd]using H),by first|(intro _;rfl)|(simpa[upd]using J),by first|(intro _;rfl)|(simpa[upd]using M),by first|(intro _;rfl)|(simpa[upd]using U),by first|(intro _;rfl)|(simpa[upd]using V),by first|(intro _;rfl)|(simpa[upd]using Y),by first|(intro _;rfl)|(simpa[upd]using Z),by first|(intro _;rfl)|(simpa[upd]using f7),(F.below ha).congr (fun k _=>Fx (by omega)) (fun k _=>Fx (by omega)) (fun _ _=>rfl)⟩
    | 8,E =>
      have D:=E;simp at D;subst D;refine Gn E R ?_;simp[go_sem];have hm:=F.alloc 0 hL 107;exact⟨(fun j=>if j=0 then Ae (O ⟨w1.heap.size,0,N⟩)else v j),(fun j=>if j=0 then w1.heap.size else g j),_,_,_,_,_,_,_,_,rfl,by first|(intro _;rfl)|(simpa[upd]using H),by first|(intro _;rfl)|(simpa[upd]using J),by first|(intro _;rfl)|(simpa[upd]using M),by first|(intro _;rfl)|(simpa[upd]using U),by first|(intro _;rfl)|(simpa[upd]using V),by first|(intro _;rfl)|(simpa[upd]using Y),by first|(intro _;rfl)|(simpa[upd]using Z),by first|(intro _;rfl)|(simpa[upd]using f7),hm.congr (fun j _=>Lp L 8 0 j) (fun j _=>Fx (by omega)) (fun _ _=>rfl)⟩
    | 9,E =>
      have D:=E;simp at D;subst D;refine Gn E R ?_;simp[go_sem];have hm:=F.alloc 1 hL 107;exact⟨(fun j=>if j=1 then Ae (O ⟨w1.heap.size,0,N⟩)else v j),(fun j=>if j=1 then w1.heap.size else g j),_,_,_,_,_,_,_,_,rfl,by first|(intro _;rfl)|(simpa[upd]using H),by first|(intro _;rfl)|(simpa[upd]using J),by first|(intro _;rfl)|(simpa[upd]using M),by first|(intro _;rfl)|(simpa[upd]using U),by first|(intro _;rfl)|(simpa[upd]using V),by first|(intro _;rfl)|(simpa[upd]using Y),by first|(intro _;rfl)|(simpa[upd]using Z),by first|(intro _;rfl)|(simpa[upd]using f7),hm.congr (fun j _=>Lp L 8 1 j) (fun j _=>Fx (by omega)) (fun _ _=>rfl)⟩
    | 10,E =>
      have D:=E;simp at D;subst D;refine Gn E R ?_;simp[go_sem];have hm:=F.alloc 2 hL 107;exact⟨(fun j=>if j=2 then Ae (O ⟨w1.heap.size,0,N⟩)else v j),(fun j=>if j=2 then w1.heap.size else g j),_,_,_,_,_,_,_,_,rfl,by first|(intro _;rfl)|(simpa[upd]using H),by first|(intro _;rfl)|(simpa[upd]using J),by first|(intro _;rfl)|(simpa[upd]using M),by first|(intro _;rfl)|(simpa[upd]using U),by first|(intro _;rfl)|(simpa[upd]using V),by first|(intro _;rfl)|(simpa[upd]using Y),by first|(intro _;rfl)|(simpa[upd]using Z),by first|(intro _;rfl)|(simpa[upd]using f7),hm.congr (fun j _=>Lp L 8 2 j) (fun j _=>Fx (by omega)) (fun _ _=>rfl)⟩
    | 11,E =>
      have D:=E;simp at D;subst D;have hx:=M (he ⟨2,.data⟩ (by simp) R);have hl:=(he ⟨8,.data⟩ (by simp) R);obtain⟨p1,p2,p3,p4⟩:=F.own 0 (by omega) hl;refine Gn E R ?_;refine DV 107 _ _ R (g 0) 0 (arr a) p1 hx p4 Tryz.info107 (Th _) ?_;have hm:=F.store 0 (by omega) hl R;exact⟨v,g,_,_,_,_,_,_,_,_,rfl,by first|(intro _;rfl)|(simpa[upd]using H),by first|(intro _;rfl)|(simpa[upd]using J),by first|(intro _;rfl)|(simpa[upd]using M),by first|(intro _;rfl)|(simpa[upd]using U),by first|(intro _;rfl)|(simpa[upd]using V),by first|(intro _;rfl)|(simpa[upd]using Y),by first|(intro _;rfl)|(simpa[upd]using Z),by first|(intro _;rfl)|(simpa[upd]using f7),hm.congr (fun j _=>Fx (by omega)) (fun j _=>Lp L 11 0 j) (fun _ _=>rfl)⟩
    | 12,E =>
      have D:=E;simp at D;subst D;have hx:=Y (he ⟨5,.data⟩ (by simp) R);have hl:=(he ⟨9,.data⟩ (by simp) R);obtain⟨p1,p2,p3,p4⟩:=F.own 1 (by omega) hl;refine Gn E R ?_;refine DV 107 _ _ R (g 1) 0 (arr n) p1 hx p4 Tryz.info107 (Th _) ?_;have hm:=F.store 1 (by omega) hl R;exact⟨v,g,_,_,_,_,_,_,_,_,rfl,by first|(intro _;rfl)|(simpa[upd]using H),by first|(intro _;rfl)|(simpa[upd]using J),by first|(intro _;rfl)|(simpa[upd]using M),by first|(intro _;rfl)|(simpa[upd]using U),by first|(intro _;rfl)|(simpa[upd]using V),by first|(intro _;rfl)|(simpa[upd]using Y),by first|(intro _;rfl)|(simpa[upd]using Z),by first|(intro _;rfl)|(simpa[upd]using f7),hm.congr (fun j _=>Fx (by omega)) (fun j _=>Lp L 11 1 j) (fun _ _=>rfl)⟩
    | 13,E =>
      have D:=E;simp at D;subst D;have hx:=f7 (he ⟨7,.data⟩ (by simp) R);have hl:=(he ⟨10,.data⟩ (by simp) R);obtain⟨p1,p2,p3,p4⟩:=F.own 2 (by omega) hl;refine Gn E R ?_;refine DV 107 _ _ R (g 2) 0 (arr h) p1 hx p4 Tryz.info107 (Th _) ?_;have hm:=F.store 2 (by omega) hl R;exact⟨v,g,_,_,_,_,_,_,_,_,rfl,by first|(intro _;rfl)|(simpa[upd]using H),by first|(intro _;rfl)|(simpa[upd]using J),by first|(intro _;rfl)|(simpa[upd]using M),by first|(intro _;rfl)|(simpa[upd]using U),by first|(intro _;rfl)|(simpa[upd]using V),by first|(intro _;rfl)|(simpa[upd]using Y),by first|(intro _;rfl)|(simpa[upd]using Z),by first|(intro _;rfl)|(simpa[upd]using f7),hm.congr (fun j _=>Fx (by omega)) (fun j _=>Lp L 11 2 j) (fun _ _=>rfl)⟩
    |j+14,E=>simp at E
  case fin =>
    rintro L ac w1⟨v,g,x9,hh,hi,hn,hp,hq,hr,hs,rfl,H,J,M,U,V,Y,Z,f7,F⟩ hc;clear H J M U V Y Z f7;have hL:∀j,j<14→L j=true:=fun j hj=>hc j (by simpa using hj);have e0:=(F.own 0 (by omega) (hL 8 (by omega))).1;have e1:=(F.own 1 (by omega) (hL 9 (by omega))).1;have e2:=(F.own 2 (by omega) (hL 10 (by omega))).1;have r0:=(F.has 0 (by omega) (hL 11 (by omega))).2;have r1:=(F.has 1 (by omega) (hL 12 (by omega))).2;have r2:=(F.has 2 (by omega) (hL 13 (by omega))).2;have hd:=F.bel;rw[e0,e1,e2];clear e0 e1 e2 F hc hL;generalize g 0=g0 at *;generalize g 1=g1 at *;generalize g 2=g2 at *;have r0:∀k,k<8→w1.cell? ⟨g0,k,N⟩=O (Aj (tb a k)):=fun k hk=>(by simpa using r0 k _ (XJ a k hk));have r1:∀k,k<8→w1.cell? ⟨g1,k,N⟩=O (Aj (tb n k)):=fun k hk=>(by simpa using r1 k _ (XJ n k hk));have r2:∀k,k<8→w1.cell? ⟨g2,k,N⟩=O (Aj (tb h k)):=fun k hk=>(by simpa using r2 k _ (XJ h k hk));clear v g;refine hf _ _ ?_;clear hf;go_wp2;go_loop [17] (fun i=>∃k:Nat,k≤8∧i=I K k∧Rw a n h k=true) (fun i=>8 - (intOf i).toNat)
    case atStart=>exact⟨0,by omega,rfl,rfl⟩
    case round =>
      obtain⟨k,hk,rfl,hg⟩:=hrel;have HO:=An hg;clear hg;by_cases hb:k<8
      · have k0:(0:Int)≤(k:Int):=by omega
        have k1:(k:Int)<8:=(by omega);have c0:=r0 k hb;have c1:=r1 k hb;have c2:=r2 k hb;have HS:=An (Y0 a n h k);have HF:=An (WY a n h k 8 hb);have hA:Ui a n h k=!(tb a k && !tb h k || tb n k && tb h k):=rfl;have HA:=An hA;clear hA;clear r0 r1 r2;generalize tb a k=ba at *;generalize tb n k=bn at *;generalize tb h k=bh at *
        cases ba <;>cases bn <;>cases bh
        all_goals
          go_wp2
          first
          | (go_ret
             exact⟨by rw[AN HF (AN HA)];rfl,hd⟩)
          | (go_round
             case rel=>exact⟨k+1,by omega,by go_num,by rw[AN HS,AN HO,AN HA];rfl⟩
             case measure=>simp[intOf];omega)
      · obtain rfl:k=8:=by omega
        go_wp2;go_ret;exact⟨by rw[AN HO];rfl,hd⟩
section
variable {Γ:Type} {P:Program} {o:Oper} {ac:Act} {w1 w2:World} {V:Γ→Value→Prop} {D:Γ→World→Prop} {M:Γ→Prop} {Q:Exit→Act→World→Prop}
theorem FB(γ:Γ)(v:Value)(F:(execOp ac.eval o).run P w1=.ok (.value v) w1)(H:V γ v)(J:D γ w1)(L:M γ):
  o.wp P ac w1 (fun E U=>∃v h,E=ac.put o.dst v∧V h v∧D h U∧M h) Q:=by
 unfold Oper.wp;rw[F];exact⟨v,γ,rfl,H,J,L⟩
theorem J'(γ:Γ)(v:Value)(F:(execOp ac.eval o).run P w1=.ok (.value v) w2)(H:V γ v)(J:D γ w2)(L:M γ):
  o.wp P ac w1 (fun E U=>∃v h,E=ac.put o.dst v∧V h v∧D h U∧M h) Q:=by
 unfold Oper.wp;rw[F];exact⟨v,γ,rfl,H,J,L⟩
theorem GU(f:FuncId)(F:Array Value)(L:(execOp ac.eval o).run P w1=.ok (.enter f F) w1)
  (U:Calls P f F w1 fun e H=>∃v E,e=Ao v∧V E v∧D E H∧M E):o.wp P ac w1 (fun J H=>∃v E,J=ac.put o.dst v∧V E v∧D E H∧M E) Q:=by
 unfold Oper.wp;rw[L];refine Dx U fun e H h=>?_;obtain⟨v,E,rfl,Y,Z,hm⟩:=h;exact⟨v,E,rfl,Y,Z,hm⟩
theorem K0(γ:Γ)(E:TypeId)(x y:Operand)(H:o.op=.store E x y)(b i:Nat)(v:Value)(J:ac.eval x=Ae (O ⟨b,i,N⟩))(L:ac.eval y=v)(U:v.oneCell'=true)(Y:(P.info? E).map (·.size)=O 1)(Z:w1.there b i 1)(hV:V γ undef)(hD:D γ (w1.setCell ⟨b,i,N⟩ v))(hM:M γ):
  o.wp P ac w1 (fun F w'=>∃v h,F=ac.put o.dst v∧V h v∧D h w'∧M h) Q:=by
 unfold Oper.wp execOp;simp only[H,J,L,Instr.storeAt,Instr.sureAddr,Db,Dp,CJ,QV w1 b i E v Z Y U];exact⟨undef,γ,rfl,hV,hD,hM⟩
theorem K2(γ:Γ)(s x:Operand)(t:TypeId)(H:o.op=.call { callee:=.builtin .append,args:=#[s,x],argTypes:=#[t,t] })(vs F v:Value)(J:ac.eval s=vs)(L:ac.eval x=F)(U:(Builtin.append_ #[t,t] o.type #[vs,F]).run P w1=.ok v w2)(Y:V γ v)(Z:D γ w2)(hM:M γ):
  o.wp P ac w1 (fun E w'=>∃v h,E=ac.put o.dst v∧V h v∧D h w'∧M h) Q:=by
 unfold Oper.wp execOp;simp only[H,resolve,invoke,builtin,Db,Dp,CJ,Dq,BZ,DE,J,L,U];exact⟨v,γ,rfl,Y,Z,hM⟩
end
end Go.Proofs.YtnbleebilmghcabGreat
