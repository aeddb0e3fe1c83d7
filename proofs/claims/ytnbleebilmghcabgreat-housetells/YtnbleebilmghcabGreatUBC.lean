/- BsMath, BsOwn, Bat6 -/
import Derived.Shelf.Spec.SlicesGrow
import Derived.Test.YtnbleebilmghcabGreatUAH
import Derived.Test.YtnbleebilmghcabGreatUAB
import Derived.Test.YtnbleebilmghcabGreatUBB
import Derived.Test.YtnbleebilmghcabGreatUBD
import Derived.Test.YtnbleebilmghcabGreatUAZ
set_option linter.all false
set_option maxHeartbeats 4000000
open Go.Value renaming int→I,slice→S,agg→Af
open Go.IntKind renaming i64→K
open Option renaming none→N,some→O
open Go.Obj renaming cells→Al
open Go.Operand renaming tmp→Am
open Go.Ending renaming returned→Ao
open Go.Proofs.Tryz renaming prog→Au
namespace Go.Proofs.YtnbleebilmghcabGreat
open Go Go.RowKit Go.Shelf
section
variable {σ:Type} {f:Nat→σ→σ} {P:σ→Prop} {cl:Nat→Nat→Bool} {ok:Nat→Prop}
theorem Si(D:∀ i s,ok i→P s→P (f i s))(E:∀ i j s,ok i→ok j→P s→cl i j=false→f i (f j s)=f j (f i s)){x:Nat}(F:ok x)(r:List Nat):
  ∀(l:List Nat) (s:σ),P s→(∀y∈l,ok y∧cl x y=false)→(l++x :: r).foldl (fun s i=>f i s) s=(l++r).foldl (fun s i=>f i s) (f x s)
 |[],s,_,_=>rfl
 |y :: l,s,hs,h=>by
  obtain⟨H,J⟩:=h y (by simp);show(l++x :: r).foldl (fun s i=>f i s) (f y s)=(l++r).foldl (fun s i=>f i s) (f y (f x s));rw[Si D E F r l (f y s) (D y s H hs) (fun z L=>h z (by simp[L])),E x y s F H hs J]
theorem RK(F:∀ i s,ok i→P s→P (f i s))(L:∀ i j s,ok i→ok j→P s→cl i j=false→f i (f j s)=f j (f i s)):
  ∀(q p:List Nat) (s:σ),P s→p.Perm q→(∀i∈p,ok i)→p.Pairwise (·<·)→q.Pairwise (fun a b=>cl a b=true→a<b)→p.foldl (fun s i=>f i s) s=q.foldl (fun s i=>f i s) s
 |[],p,s,_,hpq,_,_,_=>by rw[List.perm_nil.1 hpq]
 | x :: t,p,s,hs,hpq,ho,hp,hq=>by
  have U:x∈p:=hpq.symm.mem_iff.1 (by simp);obtain⟨l,r,rfl⟩:=List.append_of_mem U;have D:(l++r).Perm t:=(List.perm_middle.symm.trans hpq).cons_inv;rw[C5]at hp;obtain⟨V,M,E⟩:=hp;rw[Ce]at M hq;have H:∀y∈l,ok y∧cl x y=false:=fun y J=>by
   refine⟨ho y (by simp[J]),?_⟩
   cases e:cl x y
   ·rfl
   ·have h1:=hq.1 y (D.mem_iff.1 (by simp[J])) e;have h2:=E y J x (by simp);omega
  rw[Si F L (ho x (by simp)) r l s hs H];refine RK F L t (l++r) (f x s) (F x s (ho x (by simp)) hs) D (fun i Y=>ho i ?_) ?_ hq.2
  ·rcases BV.1 Y with h|h <;>simp[h]
  ·exact C5.2 ⟨V,M.2,fun a Z b hb=>E a Z b (by simp[hb])⟩
end
def QP(S:Nat→GG)(i:Nat)(s:Int×Wd):Int×Wd:=if s.1≠0 then s else I' s.2 (S i)
theorem XW(S:Nat→GG):∀(l:List Nat) (s:Int×Wd),s.1≠0→l.foldl (fun s i=>QP S i s) s=s
 |[],s,_=>rfl
 |i :: l,s,h=>by
  have e:QP S i s=s:=AF h;show l.foldl (fun s i=>QP S i s) (QP S i s)=s;rw[e,XW S l s h]
theorem OO(S:Nat→GG):∀n j X,((GX S n j X).1.1,(GX S n j X).2)=(List.range' j n).foldl (fun s i=>QP S i s) (0,X)
 |0,_,X=>rfl
 |n+1,j,X=>by
  have e:QP S j (0,X)=I' X (S j):=AA (by simp);show _=(List.range' (j+1) n).foldl (fun s i=>QP S i s) (QP S j (0,X));rw[e,GX];by_cases h:(I' X (S j)).1=0
  ·rw[AA (by simpa using h),OO S n (j+1),←h]
  ·rw[AF h,XW S _ _ h];have:=aU (X:=X) (m:=(S j).m) (al:=(S j).al) (no:=(S j).no) (a:=(S j).a) (len:=(S j).len) h;have D:(I' X (S j)).2=FL:=this;exact EO R D.symm
theorem Pu(S:Nat→GG)(q:List Nat)(s:Int×Wd):(List.range' 0 q.length).foldl (fun s i=>QP (fun k=>S (q.getD k 0)) i s) s=q.foldl (fun s i=>QP S i s) s:=by
 have e:q=(List.range' 0 q.length).map (fun k=>q.getD k 0):=by
  refine Ca (by simp) fun k h D=>?_;simp[Az,AE h]
 conv=>rhs;rw[e,List.foldl_map]
 rfl
theorem aH{S:Nat→GG}{i j:Nat}{s:Int×Wd}(J:(sw (S i)).1=0)(L:(sw (S j)).1=0)(M:s.1=0→FK s.2)(U:He S i j=false):QP S i (QP S j s)=QP S j (QP S i s):=by
 by_cases h:s.1=0
 ·obtain⟨Z,V,Y,_⟩:=j6 (M h) (s:=S i) (t:=S j) J L U;have F:∀(a b:GG) (Z:Wd),GX (fun j=>if j=0 then a else b) 2 0 s.2=((0,0),Z)→(I' s.2 a).1=0∧I' (I' s.2 a).2 b=(0,Z):=by
   intro a b Z h;unfold GX GX GX at h;simp only[BX,AT,Nat.succ_ne_zero,BG,Nat.one_ne_zero]at h;by_cases D:(I' s.2 a).1=0
   ·rw[AA (by simpa using D)]at h;by_cases E:(I' (I' s.2 a).2 b).1=0
    ·rw[AA (by simpa using E)]at h;refine⟨D,EO E ?_⟩;injection h
    ·rw[AF E]at h;injection h with h h';injection h with h H;exact absurd h E
   ·rw[AF D]at h;injection h with h h';injection h with h H;exact absurd h D
  obtain⟨a1,a2⟩:=F _ _ _ V;obtain⟨b1,b2⟩:=F _ _ _ Y;have D:QP S j s=I' s.2 (S j):=AA (by simpa using h);have E:QP S i s=I' s.2 (S i):=AA (by simpa using h);have e3:QP S i (I' s.2 (S j))=I' (I' s.2 (S j)).2 (S i):=AA (by simpa using b1);have e4:QP S j (I' s.2 (S i))=I' (I' s.2 (S i)).2 (S j):=AA (by simpa using a1);rw[D,E,e3,e4,a2,b2]
 ·have e:∀k,QP S k s=s:=fun k=>AF h;rw[e,e,e]
theorem YO{S:Nat→GG}{i:Nat}{s:Int×Wd}(D:s.1=0→FK s.2):(QP S i s).1=0→FK (QP S i s).2:=by
 unfold QP;split
 ·exact D
 ·rename_i h;exact fun e=>NQ (m:=(S i).m) (al:=(S i).al) (no:=(S i).no) (a:=(S i).a) (len:=(S i).len) (D (by simpa using h)) e
theorem eV(S:Nat→GG)(i j:Nat):He S i j=He S j i:=ga _ _
theorem R6{S:Nat→GG}{n:Nat}{X:Wd}(J:FK X)(E:∀ i,i<n→(sw (S i)).1=0)(q:List Nat)(F:(List.range' 0 n).Perm q)(L:q.Pairwise (fun a b=>He S a b=true→a<b)):
  (GX (fun k=>S (q.getD k 0)) n 0 X).1.1=(GX S n 0 X).1.1∧(GX (fun k=>S (q.getD k 0)) n 0 X).2=(GX S n 0 X).2:=by
 have e:=RK (f:=QP S) (P:=fun s=>s.1=0→FK s.2) (cl:=He S) (ok:=fun i=>i<n) (fun i s _ h=>YO h) (fun i j s D M h U=>aH (E i D) (E j M) h U) q (List.range' 0 n) (0,X) (fun _=>J) F (fun i D=>by simpa using D) (List.pairwise_lt_range' (s:=0) (n:=n) (step:=1)) L;rw[←OO]at e;have V:q.length=n:=by rw[←F.length_eq];simp
 have H:=Pu S q (0,X);rw[V,←OO]at H;rw[←H]at e;injection e with Y Z;exact⟨Y.symm,Z.symm⟩
def KS(t:Bool)(bs:List (List Nat)):List Nat:=(bs.map fun l=>if t then l.reverse else l).flatten
theorem P3{cl:Nat→Nat→Bool}{n k:Nat}(D:k<(IM cl n).length){i:Nat}(h:i∈(IM cl n)[k]):i<n∧I3 cl i=k:=by
 refine(Oi cl n k i D).1 ?_;rw[Az,AE D];exact h
theorem Y'{cl:Nat→Nat→Bool}(D:∀ a b,cl a b=cl b a){a b:Nat}(h:I3 cl a≤I3 cl b)(E:a≠b)(F:cl a b=true):a<b:=by
 by_cases e:b<a
 ·have:=bf cl a b e (by rw[D];exact F);omega
 ·omega
theorem MX(t:Bool)(h:List (List Nat)):(KS t h).Perm h.flatten:=by
 induction h with
 |nil=>exact List.Perm.refl _
 |cons l h ih =>
  have e:KS t (l :: h)=(if t then l.reverse else l)++KS t h:=by simp[KS]
  rw[e,D2];refine List.Perm.append ?_ ih
  cases t
  ·exact List.Perm.refl _
  ·exact List.reverse_perm l
theorem ZL(t:Bool){cl:Nat→Nat→Bool}(H:∀ a b,cl a b=cl b a)(n:Nat):(KS t (IM cl n)).Pairwise (fun a b=>cl a b=true→a<b):=by
 have J:(IM cl n).flatten.Nodup:=(NE cl n).nodup_iff.2 (List.nodup_range);have D:(KS t (IM cl n)).Nodup:=(MX t _).nodup_iff.2 J;have L:(KS t (IM cl n)).Pairwise (fun a b=>I3 cl a≤I3 cl b):=by
  unfold KS;rw[List.pairwise_flatten];constructor
  ·intro l hl;rw[Cn]at hl;obtain⟨l0,M,rfl⟩:=hl;obtain⟨k,F,rfl⟩:=DN.1 M;refine List.pairwise_of_forall_mem_list fun a U b V=>?_;have E:∀i,i∈(if t=true then(IM cl n)[k].reverse else(IM cl n)[k])→i∈(IM cl n)[k]:=fun i h=>by cases t <;>simpa using h
   have Y:=(P3 F (E a U)).2;have Z:=(P3 F (E b V)).2;omega
  ·rw[Dh,B9];intro i j h hj hc a U b V;have E:∀(k:Nat) (F:k<(IM cl n).length) i,i∈(if t=true then(IM cl n)[k].reverse else(IM cl n)[k])→i∈(IM cl n)[k]:=fun k F i h=>by cases t <;>simpa using h
   have Y:=(P3 h (E i h a U)).2;have Z:=(P3 hj (E j hj b V)).2;omega
 exact(L.and D).imp fun⟨Y,Z⟩=>Y' H Y Z
theorem VQ{S:Nat→GG}{n:Nat}{X:Wd}(h:FK X)(D:∀ i,i<n→(sw (S i)).1=0)(t:Bool):
  (GX (fun k=>S ((KS t (IM (He S) n)).getD k 0)) n 0 X).1.1=(GX S n 0 X).1.1∧(GX (fun k=>S ((KS t (IM (He S) n)).getD k 0)) n 0 X).2=(GX S n 0 X).2 :=
 R6 h D _ (by rw[←List.range_eq_range'];exact((MX t _).trans (NE _ n)).symm) (ZL t (eV S) n)
attribute [local go_sem ↓] Go.wp_at_zero Go.wp_at_succ
def GI(s:GG):List Value:=[I K s.m,I K s.al,I K s.no,S s.A s.len s.cap]
def Gj(l:List GG):List Value:=l.flatMap GI
theorem MG(s:GG):(GI s).length=4:=rfl
theorem MF(s:GG):∀u∈GI s,u.oneCell'=true:=fun u h=>by
 simp only[GI,Bu,Ch,Dk]at h;rcases h with rfl|rfl|rfl|rfl <;>rfl
theorem Kn(l:List GG)(s:GG):Gj (l++[s])=Gj l++GI s:=by simp[Gj]
theorem Nl:∀(l:List GG) (j i:Nat),i<4→(Gj l)[j*4+i]?=(l[j]?).bind (fun s=>(GI s)[i]?)
 |[],j,i,_=>by simp[Gj]
 |s :: l,0,i,hi=>by
  rw[E7,AT];show((GI s)++Gj l)[i]?=_;rw[BF (by rw[MG];exact hi)];rfl
 |s :: l,j+1,i,hi=>by
  show((GI s)++Gj l)[(j+1)*4+i]?=_;rw[BI (by rw[MG];omega),MG,show(j+1)*4+i - 4=j*4+i by omega,Nl l j i hi];simp
theorem YN(W:World)(s:GG):∀j u,(GI s)[j]?=O u→(W.alloc (Al #[I K s.m,I K s.al,I K s.no,S s.A s.len s.cap] 37)).cell? ((⟨W.heap.size,0,N⟩:Addr).add j)=O u:=fun j u D=>by
 have h:=GJ.start W [(GI s,37)];have:=h.cell 0 R j D;rw[Ay]at this;rw[CT,AT];exact this
theorem M0{W:World}{D c:Nat}{A:Option Addr}{l:List GG}(h:W.ownsRow D 37 4 (S A l.length c) l.length (Gj l))(J:∀ s∈l,GZ W s.A s.len s.a)(d:GG):Iw W A l.length (fun j=>l.getD j d):=fun j F=>by
 obtain⟨g,L,e,_,_⟩:=Gi h (by omega);injection e with M e2 U;subst M;have H:l[j]?=O l[j]:=AE F;have E:=fun i (V:i<4) u Y=>F4 (U▸h) (j:=j*4+i) (u:=u) (by rw[Nl l j i V,H];exact Y);have Z:l.getD j d=l[j]:=by rw[Az,H];rfl
 refine⟨g,0,rfl,?_⟩;show Rj W g (0+j*4) (l.getD j d);rw[Z,AT];exact⟨E 0 (by omega) _ R,E 1 (by omega) _ R,E 2 (by omega) _ R,E 3 (by omega) _ R,J _ (Bm F)⟩
theorem b8:(Au.info? 37).map (fun i=>(i.zero,i.size,i.bytes))=O (O (Af #[I K 0,I K 0,I K 0,S N 0 0]),4,48):=by kernel_rfl
def kS(t:Bool)(l:List Nat):List Nat:=if t then l.reverse else l
theorem Z9(l:List Nat)(j:Nat)(h:j<l.length):l.take (j+1)=l.take j++[l.getD j 0]:=by
 rw[A0 h,Az,AE h];rfl
theorem eM{t:Bool}{cl:Nat→Nat→Bool}{n:Nat}:∀x∈KS t (IM cl n),x<n:=fun x h=>by
 have:=((MX t _).trans (NE cl n)).mem_iff.1 h;simpa using this
theorem ZM{t:Bool}{cl:Nat→Nat→Bool}{n:Nat}:(KS t (IM cl n)).length=n:=by
 rw[((MX t _).trans (NE cl n)).length_eq,List.length_range]
set_option maxRecDepth 8000
end Go.Proofs.YtnbleebilmghcabGreat
namespace Go.Proofs.YtnbleebilmghcabGreat
open Go Go.RowKit Go.Shelf
set_option maxRecDepth 8000
def growI_ren : Go.Shelf.Ren := ⟨fun | 4 => 103 | n => n, fun | 22 => 23 | 25 => 3 | 3 => 3 | 4 => 4 | 9 => 9 | 20 => 20 | 0 => 0 | n => n, fun | n => n⟩
theorem growI : Go.Proofs.Lays8.n4 Tryz.prog growI_ren := {
  mixed := by kernel_rfl
  f4 := ⟨Tryz.f103.name, by decide, Tryz.func103.trans (congrArg some (by kernel_rfl))⟩
  t0 := Tryz.underlying0
  a0 := Tryz.isAgg0
  z0 := Tryz.sizeOf0
  v0 := Tryz.zeroValue0
  t3 := Tryz.underlying3
  a3 := Tryz.isAgg3
  z3 := Tryz.sizeOf3
  v3 := Tryz.zeroValue3
  t4 := Tryz.underlying4
  a4 := Tryz.isAgg4
  z4 := Tryz.sizeOf4
  v4 := Tryz.zeroValue4
  t9 := Tryz.underlying9
  a9 := Tryz.isAgg9
  z9 := Tryz.sizeOf9
  v9 := Tryz.zeroValue9
  t20 := Tryz.underlying20
  a20 := Tryz.isAgg20
  z20 := Tryz.sizeOf20
  v20 := Tryz.zeroValue20
  t22 := Tryz.underlying23
  a22 := Tryz.isAgg23
  z22 := Tryz.sizeOf23
  v22 := Tryz.zeroValue23 }
attribute [local go_sem ↓] Go.wp_at_zero Go.wp_at_succ
theorem ZI(w:World):Calls Au 103 #[S N 0 0,I K 0] w fun e h=>e=Ao (S N 0 0)∧h=w :=
 Any8.slices_Grow_room growI N 0 0 0 w Fu (by decide) (by decide) (by decide)
theorem ZJ(n:Nat)(w:World)(h0:0<n)(h:n≤100000):Calls Au 103 #[S N 0 0,I K (n:Int)] w fun e F=>∃D,e=Ao (S (O ⟨w.heap.size,0,N⟩) 0 D)∧F.ownsRow w.heap.size 3 1 (S (O ⟨w.heap.size,0,N⟩) 0 D) 0 []∧Below w.heap.size w F:=by
 obtain⟨U,H,J,E,L⟩:=BC info3;have V:=Any8.slices_Grow_grow growI U (I K 0) H J (by rw[E];decide) N 0 0 n [] w Fu (by omega) (by rw[L];omega) (by omega) (by rw[E];rfl) (fun _=>rfl) (fun a h=>by cases h);refine Dx V ?_;rintro e F⟨rfl,rfl⟩;refine⟨_,rfl,?_,(Fv.drew).alloc Fu _⟩;have M:=Et w (0+n) 0 3 (by unfold maxLen;omega);refine World.ownsRow_made w.drew _ _ Fu M ?_;have Y:=Fk w (0+n) 0 3;have Z:growI_ren.t 25=3:=rfl;rw[Z];simp only[Di,EN,Ex,AK];simp only[show(I IntKind.i64 0).cells.size=1 from rfl];omega
theorem eK(n:Nat)(w:World)(h:n≤100000):Calls Au 103 #[S N 0 0,I K (n:Int)] w fun e E=>∃A D,e=Ao (S A 0 D)∧E.ownsRow w.heap.size 3 1 (S A 0 D) 0 []∧Below w.heap.size w E:=by
 cases n with
 |zero =>
  refine Dx (ZI w) ?_;rintro e E⟨rfl,rfl⟩;exact⟨N,0,rfl,Bn _ _ _ _,AD _ _⟩
 |succ n =>
  refine Dx (ZJ (n+1) w (by omega) h) ?_;rintro e E⟨D,rfl,F,H⟩;exact⟨_,D,rfl,F,H⟩
def JP(bs:List (List Nat))(k:Nat):List Nat:=(bs.take k).flatten
theorem NI(D:List (List Nat))(k:Nat)(h:k<D.length):JP D (k+1)=JP D k++D.getD k []:=by
 unfold JP;rw[A0 h,DR,Az,AE h];simp
theorem RM(D:List (List Nat))(m:Nat)(h:∀ k,k<D.length→(D.getD k []).length≤m):∀k,k≤D.length→(JP D k).length≤k*m
 |0,_=>by simp[JP]
 |k+1,hk=>by
  have:=RM D m h k (by omega);have:=h k (by omega);rw[NI D k (by omega),AV,Nat.succ_mul];omega
theorem Wy(h:List (List Nat)):JP h h.length=h.flatten:=by unfold JP;rw[BN]
theorem Wk(a b:List Nat):IQ (a++b)=IQ a++IQ b:=by unfold IQ;simp
theorem Wj(l:List Nat):∀u∈IQ l,u.oneCell'=true:=fun u h=>by
 unfold IQ at h;obtain⟨x,_,rfl⟩:=Cn.1 h;rfl
theorem We{w:World}{b D:Nat}{l:List Nat}(h:Lk w (O ⟨b,D,N⟩) l):∀j u,(IQ l)[j]?=O u→w.cell? ((⟨b,D,N⟩:Addr).add j)=O u:=by
 intro j u E;unfold IQ at E;rw[Bw]at E;have H:j<l.length:=by
  by_cases M:j<l.length
  ·exact M
  ·rw[Bb (by omega)]at E;cases E
 obtain⟨U,J,e,L⟩:=h j H;simp only[Bc,Cr,Bx]at e;obtain⟨rfl,rfl⟩:=e;rw[AE H]at E;simp only[Option.map_some,Bc]at E;rw[Az,AE H]at L;have F:(⟨b,D,N⟩:Addr).add j=⟨b,D+j,N⟩:=by unfold Addr.add;split <;>simp_all
 rw[F,L,←E];rfl
theorem XC(B:Option Addr)(h:List (List Nat))(hi:Nat)(w:World)(hl:h.length≤100)(E:∀ k,k<h.length→(h.getD k []).length≤100)(H:∀ k,k<h.length→0<(h.getD k []).length)(Y:Mi w B h):
  Calls Au 66 #[S B h.length hi] w fun e w'=>∃A Z,e=Ao (S A h.flatten.length Z)∧Lk w' A h.flatten∧Below w.heap.size w w':=by
 have F:=RM h 100 E;obtain⟨i3,hm,hp,hq,hr⟩:=BC info3;go_enter Tryz.func66,Tryz.ntmps66
 go_wp2;go_loop [3,11] (fun t i=>∃k:Nat,k≤h.length∧i=I K k∧t=I K ((JP h k).length:Nat)) (fun _ i=>h.length - (intOf i).toNat)
 case atStart=>exact⟨0,AS _,rfl,rfl⟩
 case round =>
  obtain⟨k,hk,rfl,rfl⟩:=hrel;have hs:=F k hk;have L:k*100≤10000:=by omega
  by_cases M:k<h.length
  ·have k0:(0:Int)≤(k:Int):=(by omega);have k1:(k:Int)<(h.length:Int):=(by omega);obtain⟨b,ht,A,c,rfl,hc,U⟩:=Y k M;have ha:=E k M;have HS:Hid ((JP h (k+1)).length=(JP h k).length+(h.getD k []).length):=(by rw[NI h k M,AV];exact An R);clear Y F E H;generalize (h.getD k []).length=m at *;generalize (JP h k).length=t at *;have hC:¬ ((t:Int)+(m:Int)<0):=(by omega);go_wp2;go_round
   case rel=>exact⟨k+1,by omega,by go_num,by rw[AN HS];go_num⟩
   case measure=>simp[intOf];omega
  ·obtain rfl:k=h.length:=(by omega);have hd:=(eK (JP h h.length).length w (by omega));have hu:=An (Wy h);generalize (JP h h.length).length=t at *;go_wp2_with(first
    |(go_at_call 103;refine hd.mono ?_;rintro e w5⟨A5,hz,rfl,he,hf⟩))
   clear hd;go_loopw [6,27] (fun v i wr=>∃k:Nat,k≤h.length∧i=I K k∧wr.ownsRow w.heap.size 3 1 v (JP h k).length (IQ (JP h k))∧Below w.heap.size w wr) (fun _ i _=>h.length - (intOf i).toNat)
   case atStart=>exact⟨0,AS _,rfl,he,hf⟩
   case round =>
    clear he hf;obtain⟨k,hv,rfl,ho,hb⟩:=hrel;have hs:=F k hv;have L:k*100≤10000:=(by omega);by_cases D:k<h.length
    ·have k0:(0:Int)≤(k:Int):=(by omega);have k1:(k:Int)<(h.length:Int):=(by omega);obtain⟨b,ht,A,c,rfl,hc,U⟩:=Y k D;have ha:=E k D;have J:=H k D;obtain⟨b2,hg,rfl,_⟩:=U 0 J;have hc:=AW hb hc;have U:=An (We (U.below hb));have HS:=An (NI h k D);have hh:=hb.size;clear Y F E H;generalize h.getD k []=l at *;generalize JP h k=fl at *;go_wp2_with(first
      |(at_builtin;refine FY _ R (Am 31) (Am 32) 23 R w.heap.size 3 i3 (I K 0) 1 8 Tryz.underlying23 hm hp hq hr R (by decide) _ fl.length (IQ fl) R ho ⟨b2,hg,N⟩ l.length c (IQ l) R (by simp[IQ]) U (Wj l) (by unfold maxLen;omega) (by omega) hh J ?_;intro g hA w7 hw hx hy;clear hy))
     go_roundw
     case rel=>exact⟨k+1,by omega,by go_num,by rw[AN HS,Wk,AV];exact hw,hb.grown hx hh (fun j hj=>(ho.lt j hj).1)⟩
     case measure=>simp[intOf];omega
    ·obtain rfl:k=h.length:=(by omega);have V:=ho;rw[AN hu]at V;obtain⟨A,c,rfl,U⟩:=Qr V;clear V Y F E H;go_wp2;go_ret;exact⟨A,c,rfl,U,hb⟩
theorem Ys(B:Option Addr)(h:List (List Nat))(D:Nat)(w:World)(U:h.length≤100)(E:∀ k,k<h.length→(h.getD k []).length≤100)(F:∀ k,k<h.length→0<(h.getD k []).length)(L:Mi w B h):
  Calls Au 34 #[S B h.length D] w fun e M=>∃A H,e=Ao (S A h.flatten.length H)∧Lk M A h.flatten∧Below w.heap.size w M:=by
 have V:=(XC B h D w U E F L);clear E F L;generalize h.flatten.length=m at *;go_enter Tryz.func34,Tryz.ntmps34
 go_wp2_with(first
  |(go_at_call 66;refine V.mono ?_;rintro e Z⟨A,c,rfl,Y,J⟩))
 go_ret;exact⟨A,c,rfl,Y,J⟩
end Go.Proofs.YtnbleebilmghcabGreat
