/- ROf0, ROf -/
import Derived.Test.YtnbleebilmghcabGreatUAU
set_option linter.all false
set_option maxHeartbeats 8000000
open Go.Value renaming int→I,slice→S,pointer→Ae,oneCell'→Ar
open Go.IntKind renaming i64→K
open Option renaming none→N,some→O
open Go.Obj renaming cells→Al
open Go.Operand renaming tmp→Am
open Go.Ending renaming returned→Ao
open Array renaming getD_eq_getD_getElem?→Ap
open Go.Act renaming eval→Aq
open Go.Proofs.Tryz renaming prog→Au
namespace Go.Proofs.YtnbleebilmghcabGreat
open Go Go.RowKit
theorem Q7{W:World}{b o:Nat}{D:List Value}{t:TypeId}{v:Value}(h:W.heap[b]?=O (Al D.toArray t (0,0)))(E:o<D.length):(W.setCell ⟨b,o,N⟩ v).heap[b]?=O (Al (D.set o v).toArray t (0,0)):=by
 have:=Jv b t [v] o D W h (by simp only[AJ,AK];omega);have e:D.take o++[v]++D.drop (o+[v].length)=D.set o v:=by
  rw[Ew,AF E];simp
 rw[e]at this;exact this
theorem VH{W:World}{b o:Nat}{D:List Value}{t:TypeId}{v:Value}(h:GJ b [(D,t)] W)(F:o<D.length):GJ b [(D.set o v,t)] (W.setCell ⟨b,o,N⟩ v):=fun k vs H E=>by
 match k,E with
 |0,E =>
  simp only[AI,Bc,Dv]at E;obtain⟨rfl,rfl⟩:=E;have:=h 0 D t R;rw[Ay]at this⊢;exact Q7 this F
 |k+1,E=>simp at E
theorem OM{W:World}{b g o:Nat}{D:List Value}{t:TypeId}{v:Value}(h:GJ b [(D,t)] W)(F:g≠b):GJ b [(D,t)] (W.setCell ⟨g,o,N⟩ v):=fun k vs H E=>by
 match k,E with
 |0,E =>
  have:=h 0 vs H E;rw[Ay]at this⊢;rw[Cm W ⟨g,o,N⟩ b _ (fun e=>F e.symm)];exact this
 |k+1,E=>simp at E
theorem JL{W W2:World}{b:Nat}{E:List Value}{t:TypeId}{F:Option Nat}(h:GJ b [(E,t)] W)(M:W.grownBy W2 F)(J:F≠O b):GJ b [(E,t)] W2:=fun k vs U D=>by
 match k,D with
 |0,D =>
  have:=h 0 vs U D;have H:=h.lt (k:=0) D;rw[Ay]at this H⊢;exact(M.block b H (fun e=>J e.symm)).trans this
 |k+1,D=>simp at D
theorem Ic{W:World}{B b:Nat}{e t:TypeId}{E n:Nat}{v:Value}{F D:List Value}(h:W.ownsRow B e E v n F)(H:GJ b [(D,t)] W)(J:t≠e):v.ownBlock≠O b:=Ht h ⟨D.toArray,by have:=H 0 D t R;rw[Ay]at this;exact this⟩ J
structure CU(N bt:Nat)(h:Int)(A C:Option Addr×Nat)(K:Nat→Value)(B:List (Int×Int))(L:Nat→List Int)(W:World):Prop where
 box:GJ bt [([I .i64 h,S A.1 B.length A.2,S C.1 (F3 h) C.2],75)] W
 lo:N≤bt
 ownA:W.ownsRow N 61 2 (S A.1 B.length A.2) B.length (Fz B)
 ownC:W.ownsRow N 23 1 (S C.1 (F3 h) C.2) (F3 h) ((List.range (F3 h)).map K)
 ownK:∀k,W.ownsRow N 3 1 (K k) (L k).length (FD (L k))
 sepK:∀k k',k≠k'→P9 (K k) (K k')
section
variable {N bt:Nat} {h:Int} {A C:Option Addr×Nat} {K:Nat→Value} {B:List (Int×Int)} {L:Nat→List Int} {W W1 W2:World}
theorem CU.sz(c:CU N bt h A C K B L W):N≤W.heap.size:=AU c.lo (DD (c.box.lt (k:=0) R))
theorem CU.below(c:CU N bt h A C K B L W)(D:Below W.heap.size W W1):CU N bt h A C K B L W1:=⟨c.box.below D,c.lo,FT c.ownA D,FT c.ownC D,fun k=>FT (c.ownK k) D,c.sepK⟩
theorem CU.being(c:CU N bt h A C K B L W){g D:Nat}(b:Int×Int)(J:W.grownBy W2 (S A.1 B.length A.2).ownBlock)(M:W2.ownsRow N 61 2 (S (O ⟨g,0,none⟩) (B.length+1) D) (B.length+1) (Fz B++[I .i64 b.1,I .i64 b.2])):
  CU N bt h (O ⟨g,0,none⟩,D) C K (B++[b]) L (W2.setCell ⟨bt,1,none⟩ (S (O ⟨g,0,none⟩) (B.length+1) D)):=by
 have U:=JC W2 bt 1 (S (O ⟨g,0,none⟩) (B.length+1) D);have F:GJ bt [([I .i64 h,S A.1 B.length A.2,S C.1 (F3 h) C.2],75)] W2:=JL c.box J (Ic c.ownA c.box (by decide));have E:∀ {e:TypeId} {size n:Nat} {v:Value} {xs:List Value},e≠75→W2.ownsRow N e size v n xs→(W2.setCell ⟨bt,1,none⟩ (S (O ⟨g,0,none⟩) (B.length+1) D)).ownsRow N e size v n xs:=fun V H=>H.kept U (.inr (Ic H F (BW V)));refine⟨?_,c.lo,?_,E (by decide) (c.ownC.kept J (F1 c.ownC c.ownA (by decide))),fun k=>E (by decide) ((c.ownK k).kept J (F1 (c.ownK k) c.ownA (by decide))),c.sepK⟩
 ·have:=VH (v:=S (O ⟨g,0,none⟩) (B.length+1) D) F (o:=1) (by simp);simpa using this
 ·rw[AV,Bp,Re];exact E (by decide) M
theorem CU.col(c:CU N bt h A C K B L W){k:Nat}(hk:k<F3 h){M cc:Nat}(hC:S C.1 (F3 h) C.2=S (O ⟨M,0,none⟩) (F3 h) cc){g D:Nat}(z:Int)
  (hg:W.grownBy W2 (K k).ownBlock) (ho:W2.ownsRow N 3 1 (S (O ⟨g,0,none⟩) ((L k).length+1) D) ((L k).length+1) (FD (L k)++[I .i64 z])) (U:O g=(K k).ownBlock∨g=W.heap.size):
  CU N bt h A C (fun j=>if j=k then S (O ⟨g,0,none⟩) ((L k).length+1) D else K j) B (fun j=>if j=k then L k++[z]else L j) (W2.setCell ⟨M,k,none⟩ (S (O ⟨g,0,none⟩) ((L k).length+1) D)):=by
 have hs:=JC W2 M k (S (O ⟨g,0,none⟩) ((L k).length+1) D);have V:(S C.1 (F3 h) C.2).ownBlock=O M:=by rw[hC];rfl
 have F:=c.ownC.kept hg (F1 c.ownC (c.ownK k) (by decide));have Y:(S (O ⟨g,0,none⟩) ((L k).length+1) D).ownBlock=(K k).ownBlock∨(S (O ⟨g,0,none⟩) ((L k).length+1) D).ownBlock=O W.heap.size:=by
  rcases U with U|U
  ·exact .inl U
  ·exact .inr (by rw[U];rfl)
 have E:∀ {e:TypeId} {size n:Nat} {v:Value} {xs:List Value},e≠23→W2.ownsRow N e size v n xs→(W2.setCell ⟨M,k,none⟩ (S (O ⟨g,0,none⟩) ((L k).length+1) D)).ownsRow N e size v n xs:=fun he Z=>Z.kept hs (by
  have:=F1 Z F he;rw[V]at this;exact this)
 have ha:GJ bt [([I .i64 h,S A.1 B.length A.2,S C.1 (F3 h) C.2],75)] W2:=JL c.box hg (Ic (c.ownK k) c.box (by decide));refine⟨OM ha (fun e=>Ic F ha (by decide) (by rw[V,e])),c.lo,E (by decide) (c.ownA.kept hg (F1 c.ownA (c.ownK k) (by decide))),?_,fun j=>?_,fun j j' H=>?_⟩
 ·have e1:(List.range (F3 h)).map (fun j=>if j=k then S (O ⟨g,0,none⟩) ((L k).length+1) D else K j)=((List.range (F3 h)).map K).set k (S (O ⟨g,0,none⟩) ((L k).length+1) D):=by
   refine Ca (by simp) fun j h1 h2=>?_;rw[Dr];simp only[BO,CQ];by_cases ej:k=j
   ·subst ej;rw[AF R]
   ·rw[AA ej,AA (BW ej)]
  rw[e1];rw[hC]at F⊢;exact(F.stored k _).1
 ·by_cases e:j=k
  ·subst e;rw[AF R,AF R,AV,Bp,show FD (L j++[z])=FD (L j)++[I .i64 z] by simp[FD]];exact E (by decide) ho
  ·rw[AA e,AA e];exact E (by decide) ((c.ownK j).kept hg (c.sepK j k e))
 ·show P9 (if j=k then _ else _) (if j'=k then _ else _);by_cases e:j=k
  ·rw[AF e,AA (fun J=>H (e.trans J.symm))];exact((c.sepK j' k (fun J=>H (e.trans J.symm))).moved (c.ownK j') Y).symm
  ·rw[AA e];by_cases J:j'=k
   ·rw[AF J];exact(c.sepK j k e).moved (c.ownK j) Y
   ·rw[AA J];exact c.sepK j j' H
end
structure FO(base bx:Nat)(T:Option Addr×Nat)(G:Value)(m:KC)(d:JQ)(W:World):Prop where
 box:GJ bx [([S T.1 d.hs.length T.2,G],25)] W
 lo:base≤bx
 ownT:W.ownsRow base 75 3 (S T.1 d.hs.length T.2) d.hs.length (FC (d.hs.map (tt m d)))
 ownA:∀h,h∈d.hs→W.ownsRow base 61 2 (aV m d h) (d.B h).length (Fz (d.B h))
 ownC:∀h,h∈d.hs→W.ownsRow base 23 1 (cV m h) (F3 h) ((List.range (F3 h)).map (m.K h))
 ownK:∀h,h∈d.hs→∀k,k<F3 h→W.ownsRow base 3 1 (m.K h k) (d.L h k).length (FD (d.L h k))
section
variable {base bx:Nat} {T:Option Addr×Nat} {G:Value} {m:KC} {d:JQ} {W W1 W2:World}
theorem FO.sz(f:FO base bx T G m d W):base≤W.heap.size:=AU f.lo (DD (f.box.lt (k:=0) R))
theorem FO.keep(f:FO base bx T G m d W){N:Nat}(H:N=W.heap.size){F:World}(D:Below N W F):FO base bx T G m d F:=by
 subst H;exact⟨f.box.below D,f.lo,FT f.ownT D,fun h E=>FT (f.ownA h E) D,fun h E=>FT (f.ownC h E) D,fun h E k J=>FT (f.ownK h E k J) D⟩
theorem FO.add(f:FO base bx T G m d W){N bt:Nat}{h:Int}{A C:Option Addr×Nat}{K:Nat→Value}{B:List (Int×Int)}{L:Nat→List Int}(c:CU N bt h A C K B L W)(V:base≤N)(hh:h ∉ d.hs){g F:Nat}
  (Y:W.grownBy W2 (S T.1 d.hs.length T.2).ownBlock) (ho:W2.ownsRow base 75 3 (S (O ⟨g,0,none⟩) (d.hs.length+1) F) (d.hs.length+1) (FC (d.hs.map (tt m d))++[I .i64 h,S A.1 B.length A.2,S C.1 (F3 h) C.2])):
  FO base bx (O ⟨g,0,none⟩,F) G ⟨IL m.A h A,IL m.C h C,fun x=>if x=h then K else m.K x⟩ ⟨d.hs++[h],IL d.B h B,fun x=>if x=h then L else d.L x⟩ (W2.setCell ⟨bx,0,none⟩ (S (O ⟨g,0,none⟩) (d.hs.length+1) F)):=by
 have hs:=JC W2 bx 0 (S (O ⟨g,0,none⟩) (d.hs.length+1) F);have J:GJ bx [([S T.1 d.hs.length T.2,G],25)] W2:=JL f.box Y (Ic f.ownT f.box (by decide));have E:∀ {e:TypeId} {size n b':Nat} {v:Value} {xs:List Value},e≠75→e≠25→W.ownsRow b' e size v n xs→base≤b'→(W2.setCell ⟨bx,0,none⟩ (S (O ⟨g,0,none⟩) (d.hs.length+1) F)).ownsRow base e size v n xs:=fun he Z H M =>
  ((Jt H M).kept Y (F1 H f.ownT he)).kept hs (.inr (Ic ((Jt H M).kept Y (F1 H f.ownT he)) J (BW Z)))
 have U:∀x,x∈d.hs→x≠h:=fun x D e=>hh (e▸D);refine⟨?_,f.lo,?_,fun x D=>?_,fun x D=>?_,fun x D k hk=>?_⟩
 ·have:=VH (v:=S (O ⟨g,0,none⟩) (d.hs.length+1) F) J (o:=0) (by simp);simpa using this
 ·have e1:(d.hs++[h]).map (tt ⟨IL m.A h A,IL m.C h C,fun x=>if x=h then K else m.K x⟩ ⟨d.hs++[h],IL d.B h B,fun x=>if x=h then L else d.L x⟩)=d.hs.map (tt m d)++[⟨h,A.1,B.length,A.2,C.1,F3 h,C.2⟩]:=by
   rw[CH];congr 1
   ·refine CC fun x D=>?_;simp[tt,IL,U x D]
   ·simp[tt,IL]
  show World.ownsRow _ _ _ _ (S _ (d.hs++[h]).length _) (d.hs++[h]).length (FC ((d.hs++[h]).map _));rw[e1,AV,Bp,K7];exact ho.kept hs (.inr (Ic ho J (by decide)))
 ·rcases BV.1 D with D|D
  ·have:=E (by decide) (by decide) (f.ownA x D) Fu;simpa[aV,IL,U x D]using this
  ·rw[BH]at D;subst D;have:=E (by decide) (by decide) c.ownA V;simpa[aV,IL]using this
 ·rcases BV.1 D with D|D
  ·have:=E (by decide) (by decide) (f.ownC x D) Fu;simpa[cV,IL,U x D]using this
  ·rw[BH]at D;subst D;have:=E (by decide) (by decide) c.ownC V;simpa[cV,IL]using this
 ·rcases BV.1 D with D|D
  ·have:=E (by decide) (by decide) (f.ownK x D k hk) Fu;simpa[U x D]using this
  ·rw[BH]at D;subst D;have:=E (by decide) (by decide) (c.ownK k) V;simpa using this
end
set_option maxRecDepth 8000
attribute [local go_sem ↓] Go.wp_at_zero Go.wp_at_succ
def OT(rs:List D7)(h:Int):List (Int×Int):=(Mr rs h).map fun r=>(r.ix,r.gen)
def TL(rs:List D7)(h:Int)(k:Nat):List Int:=if k<F3 h then(Mr rs h).map (fun r=>r.v ((FR h 8).getD k 0).toNat)else []
def Ni(rs:List D7):Nat→List Int
 |0=>[]
 |n+1=>if Mr rs (n:Int)=[]then Ni rs n else Ni rs n++[(n:Int)]
def dH(rs:List D7)(n:Nat):JQ:=⟨Ni rs n,OT rs,TL rs⟩
theorem Ol(F:List D7):∀n x,x∈Ni F n↔∃k:Nat,k<n∧x=(k:Int)∧Mr F x≠[]
 |0,x=>by simp[Ni]
 | n+1,x=>by
  have J:=Ol F n x;unfold Ni;split
  ·rename_i e;rw[J];constructor
   ·rintro⟨k,H,D,E⟩;exact⟨k,by omega,D,E⟩
   ·rintro⟨k,H,D,E⟩;refine⟨k,?_,D,E⟩;rcases Bo k n with h|h
    ·exact h
    ·obtain rfl:k=n:=(by omega);rw[D]at E;exact absurd e E
  ·rename_i e;rw[BV,J,BH];constructor
   ·rintro(⟨k,H,D,E⟩|h)
    ·exact⟨k,by omega,D,E⟩
    ·exact⟨n,by omega,h,by rw[h];exact e⟩
   ·rintro⟨k,H,D,E⟩;rcases Bo k n with h|h
    ·exact .inl ⟨k,h,D,E⟩
    ·obtain rfl:k=n:=(by omega);exact .inr D
theorem TV(D:List D7):∀n,(Ni D n).Pairwise (·<·)
 |0=>List.Pairwise.nil
 |n+1=>by
  unfold Ni;split
  ·exact TV D n
  ·rw[C5];refine⟨TV D n,E5 _ _,fun a E b F=>?_⟩;rw[BH]at F;obtain⟨k,H,J,_⟩:=(Ol D n a).1 E;omega
theorem Uw(D:List D7):∀n,(Ni D n).length≤n
 |0=>AC _
 |n+1=>by
  have:=Uw D n;unfold Ni;split
  ·omega
  ·rw[AV,Bp];omega
theorem bm:∀(D E:List Int),D.Pairwise (·<·)→E.Pairwise (·<·)→(∀x,x∈D↔x∈E)→D=E:=fun D E F H h=>by
 have:=Le (fun r=>r.ix) (D.map fun x=>⟨x,0,0,fun _=>0⟩) (E.map fun x=>⟨x,0,0,fun _=>0⟩) (Dh.2 F) (Dh.2 H) (fun x=>by simp only[Cn,h]);have e:=B8 (List.map (fun r:D7=>r.ix)) this;simp only[List.map_map]at e;have i:((fun r:D7=>r.ix) ∘ fun x:Int=>(⟨x,0,0,fun _=>0⟩:D7))=id:=rfl;rw[i,List.map_id,List.map_id]at e;exact e
theorem ZG{X:Wd}(hr:FK X):Ni X.rows 256=(FG X).map (·.has):=by
 have E:=Jg X;refine bm _ _ (TV _ _) (Dh.2 E.up) fun x=>?_;rw[Ol,Cn];constructor
 ·rintro⟨k,h1,h2,h3⟩;obtain⟨r,D⟩:=Ds _ h3;unfold Mr at D;rw[BU]at D;have Z:=E.perm.mem_iff.2 D.1;rw[C1]at Z;obtain⟨t,F,J⟩:=Z;rw[E.each t F,BU]at J;refine⟨t,F,?_⟩;have e1:r.has=x:=by simpa using D.2
  have U:r.has=t.has:=by simpa using J.2
  rw[←e1,U]
 ·rintro⟨t,F,rfl⟩;obtain⟨r,D⟩:=Ds _ (E.ne t F);have H:=D;rw[E.each t F,BU]at H;have U:r.has=t.has:=by simpa using H.2
  obtain⟨j,hj,V⟩:=BL H.1;have M:FV (E' X j).has=true:=by
   have:=hr.rv j hj;unfold N4 at this;rw[AP]at this;exact this.1
  have Y:(E' X j).has=t.has:=by unfold E';rw[Hr _ _ hj,V,U]
  rw[Y]at M;unfold FV at M;have M:=AM M;exact⟨t.has.toNat,by omega,by omega,fun e=>by
   have:=E.each t F;unfold Mr at e;rw[e]at this;exact E.ne t F this⟩
theorem X3(D:List D7)(r:D7)(h:Int):OT (D++[r]) h=if r.has=h then OT D h++[(r.ix,r.gen)]else OT D h:=by
 unfold OT;rw[NF];by_cases e:r.has=h
 ·rw[AF e.symm,AF e];simp
 ·rw[AA (BW e),AA e]
theorem jP(D:List D7)(r:D7)(h:Int)(e:r.has≠h):TL (D++[r]) h=TL D h:=by
 funext k;unfold TL;rw[NF,AA (BW e)]
def Um(rs:List D7)(r:D7)(h:Int)(k:Nat)(j:Nat):List Int:=if j<k then TL rs h j++[r.v ((FR h 8).getD j 0).toNat]else TL rs h j
theorem bZ(D:List D7)(r:D7)(h:Int):Um D r h 0=TL D h:=by funext j;unfold Um;rw[AA (by omega)]
theorem bc(D:List D7)(r:D7)(h:Int)(k p:Nat)(E:(FR h 8).getD k 0=(p:Int)):(fun j=>if j=k then Um D r h k k++[r.v p]else Um D r h k j)=Um D r h (k+1):=by
 funext j;unfold Um;by_cases e:j=k
 ·subst e;rw[AF R,AA (by omega),AF (by omega),E,Bi]
 ·rw[AA e];by_cases h:j<k
  ·rw[AF h,AF (by omega)]
  ·rw[AA h,AA (by omega)]
theorem gG(D:List D7)(r:D7)(h:Int)(e:r.has=h):Um D r h (F3 h)=TL (D++[r]) h:=by
 subst e;funext j;unfold Um TL;rw[NF,AF R];by_cases h:j<F3 r.has
 ·rw[AF h,AF h,AF h];simp
 ·rw[AA h,AA h,AA h]
theorem jO(D:List D7)(h:Int)(k:Nat):(TL D h k).length≤D.length:=by
 unfold TL;split
 ·rw[Bj];exact BT _ _
 ·simp
theorem gy(D:List D7)(h:Int):(OT D h).length≤D.length:=by
 unfold OT;rw[Bj];exact BT _ _
structure CK(N bt gr:Nat)(h:Int)(A C:Option Addr×Nat)(K:Nat→Value)(B:List (Int×Int))(L:Nat→List Int)(r:D7)(vh:Value)(l:List Int)(W:World):Prop extends CU N bt h A C K B L W where
 rb:GJ gr [(D' r,116)] W
 held:W.ownsRow N 3 1 vh l.length (FD l)
 sepH:∀k,P9 vh (K k)
section
variable {N bt gr:Nat} {h:Int} {A C:Option Addr×Nat} {K:Nat→Value} {B:List (Int×Int)} {L:Nat→List Int} {r:D7} {vh:Value} {l:List Int} {W W1 W2:World}
theorem CK.below(c:CK N bt gr h A C K B L r vh l W)(D:Below W.heap.size W W1):CK N bt gr h A C K B L r vh l W1:=⟨c.toCU.below D,c.rb.below D,FT c.held D,c.sepH⟩
theorem CK.col(c:CK N bt gr h A C K B L r vh l W){k:Nat}(Y:k<F3 h){U Z:Nat}(V:S C.1 (F3 h) C.2=S (O ⟨U,0,none⟩) (F3 h) Z){g D:Nat}(z:Int)
  (F:W.grownBy W2 (K k).ownBlock) (ho:W2.ownsRow N 3 1 (S (O ⟨g,0,none⟩) ((L k).length+1) D) ((L k).length+1) (FD (L k)++[I .i64 z])) (E:O g=(K k).ownBlock∨g=W.heap.size):
  CK N bt gr h A C (fun j=>if j=k then S (O ⟨g,0,none⟩) ((L k).length+1) D else K j) B (fun j=>if j=k then L k++[z]else L j) r vh l (W2.setCell ⟨U,k,none⟩ (S (O ⟨g,0,none⟩) ((L k).length+1) D)):=by
 have H:(S C.1 (F3 h) C.2).ownBlock=O U:=by rw[V];rfl
 have J:=c.ownC.kept F (F1 c.ownC (c.ownK k) (by decide));have M:=JL c.rb F (Ic (c.ownK k) c.rb (by decide));refine⟨c.toCU.col Y V z F ho E,OM M (fun e=>Ic J M (by decide) (by rw[H,e])),?_,fun j=>?_⟩
 ·refine(c.held.kept F (c.sepH k)).kept (JC W2 U k _) ?_;have:=F1 (c.held.kept F (c.sepH k)) J (by decide);rw[H]at this;exact this
 ·show P9 vh (if j=k then _ else _);by_cases e:j=k
  ·rw[AF e];subst e;refine(c.sepH j).moved c.held ?_;rcases E with E|E
   ·exact .inl E
   ·exact .inr (by rw[E];rfl)
  ·rw[AA e];exact c.sepH j
end
theorem aB{M bx:Nat}{T:Option Addr×Nat}{G:Value}{m:KC}{l:List Gu}{E:List D7}{W:World}(h:FO M bx T G m (Ll l E) W)(hg:YG l E):NL W T.1 l:=fun j Y=>by
 have Z:(Ll l E).hs.length=l.length:=by simp[Ll]
 have U:=h.ownT;rw[Z]at U;obtain⟨g,hc,e,_,_⟩:=Gi U (by omega);obtain⟨T1,T2⟩:=T;simp only[A9,Br]at e;obtain⟨rfl,rfl⟩:=e;have hx:(Ll l E).hs[j]'(by rw[Z];exact Y)=l[j].has:=by simp[Ll]
 have F:l[j].rows=Mr E l[j].has:=hg.each _ (Bm Y);have hB:(Ll l E).B l[j].has=Vi l[j]:=by unfold Vi;rw[F];rfl
 have hL:∀k,k<F3 l[j].has→(Ll l E).L l[j].has k=Oq l[j] k:=fun k V=>by
  unfold Oq;rw[F];show(if k<F3 l[j].has then _ else _)=_;rw[AF V]
 obtain⟨c0,c1,c2⟩:=KA ((Ll l E).hs.map (tt m (Ll l E))) j (by simpa[Z]using Y);simp only[BO,hx]at c0 c1 c2;have D:l[j].has∈(Ll l E).hs:=by rw[←hx];exact Bm _
 generalize l[j]=t at *;have oA:=h.ownA t.has D;have ha:((Ll l E).B t.has).length=t.rows.length:=by rw[hB,Md]
 refine⟨g,0,rfl,(m.A t.has).1,(m.A t.has).2,(m.C t.has).1,(m.C t.has).2,?_,?_,?_,?_,fun k V=>?_⟩
 ·rw[AT];exact F4 U c0
 ·rw[AT,←ha];exact F4 U c1
 ·rw[AT];exact F4 U c2
 ·rw[hB]at oA;obtain⟨A',H,J,hb⟩:=Rd oA;unfold aV at J;rw[A9]at J;rw[J.1];exact hb
 ·obtain⟨gc,cc,J,_,_⟩:=Gi (h.ownC t.has D) (show 0<F3 t.has by unfold F3;omega);have oC:=h.ownC t.has D;have eC:(m.C t.has).1=O ⟨gc,0,N⟩:=by
   unfold cV at J;simp only[A9,Br]at J;exact J.1
  rw[J]at oC;have oK:=h.ownK t.has D k V;rw[hL k V]at oK;obtain⟨A',H,e2,hI⟩:=J8 oK;refine⟨gc,0,eC,A',H,?_,hI⟩;rw[AT,←KT t k,←e2];refine F4 oC ?_;have:k<F3 t.has:=V;simp[this]
theorem iM{W:World}{gr:Nat}{r:D7}(h:GJ gr [(D' r,116)] W){p:Nat}(D:p<8):W.cell? ⟨gr,3+p,N⟩=O (I K (r.v p)):=by
 have h0:=h 0 _ _ R;rw[Ay]at h0;have:=(MN h0).v p D;rw[AT]at this;exact this
theorem fS(W:World)(h:Int)(a:Option Addr)(n x:Nat)(c:Option Addr)(m y:Nat):∀j u,[I K h,S a n x,S c m y][j]?=O u→(W.alloc (Al #[I K h,S a n x,S c m y] 75)).cell? ((⟨W.heap.size,0,N⟩:Addr).add j)=O u:=fun j u D=>by
 have h:=GJ.start W [([I K h,S a n x,S c m y],75)];have:=h.cell 0 R j D;rw[Ay]at this;rw[CT,AT];exact this
theorem VM{W W2:World}{B E n:Nat}{u0 u1 J:List Value}{v:Value}(h:GJ B [(u0,43),(u1,25)] W)(H:W.ownsRow E 75 3 v n J)(M:W.grownBy W2 v.ownBlock):GJ B [(u0,43),(u1,25)] W2:=fun k vs t D=>by
 have F:=h.lt D;have h0:=h k vs t D;refine(M.block (B+k) F (fun e=>?_)).trans h0
 match k,D with
 |0,D=>exact Ht H ⟨_,h0⟩ (by simp at D;rw[←D.2];decide) e.symm
 |1,D=>exact Ht H ⟨_,h0⟩ (by simp at D;rw[←D.2];decide) e.symm
 |k+2,D=>simp at D
def Rk(base:Nat)(W:World)(T G:Option Addr)(tabs:List Gu)(X:Wd):Prop:=∀W':World,(∀g,base≤g→g<W.heap.size→W'.heap[g]?=W.heap[g]?)→JE W' G X.gens→Ir W' T G tabs X
theorem FO.agree{D J:Nat}{T:Option Addr×Nat}{G:Value}{m:KC}{d:JQ}{W W':World}(f:FO D J T G m d W)(E:∀ g,D≤g→g<W.heap.size→W'.heap[g]?=W.heap[g]?):FO D J T G m d W' :=
 ⟨fun k vs t H=>(E (J+k) (by have:=f.lo;omega) (f.box.lt H)).trans (f.box k vs t H),f.lo,JJ f.ownT E,fun h F=>JJ (f.ownA h F) E,fun h F=>JJ (f.ownC h F) E,fun h F k H=>JJ (f.ownK h F k H) E⟩
theorem FO.res{D H:Nat}{T:Option Addr×Nat}{G:Value}{m:KC}{d:JQ}{W:World}(f:FO D H T G m d W){b:Nat}{cs:Array Value}(M:W.heap[b]?=O (Al cs 25 (0,0)))(U:b≠H)(o:Nat)(vs:List Value):FO D H T G m d (W.setCells b o vs):=by
 have V:=NH b vs o W;have E:∀ {e:TypeId} {size n:Nat} {v:Value} {xs:List Value},25≠e→W.ownsRow D e size v n xs→(W.setCells b o vs).ownsRow D e size v n xs:=fun Y J=>J.kept V (.inr (Ht J ⟨cs,M⟩ Y));exact⟨f.box.turn (by simp only[AJ,AK];omega),f.lo,E (by decide) f.ownT,fun h F=>E (by decide) (f.ownA h F),fun h F=>E (by decide) (f.ownC h F),fun h F k Z=>E (by decide) (f.ownK h F k Z)⟩
theorem Yx(a:Int)(b c:Option Addr)(n m x y:Nat):∀u∈[I K a,S b n x,S c m y],u.oneCell'=true:=by simp[Ar]
theorem fv(A:Option Addr)(cap:Nat)(G:Option Addr)(gcap:Nat)(X:Wd)(w:World)(hX:FX w A cap G gcap X)(hr:FK X):
  Calls Au 32 #[Up A cap G gcap X] w fun e w'=>∃T tc,e=Ao (JN T (FG X).length tc G X.gens.length gcap)∧Rk w.heap.size w' T G (FG X) X∧Below w.heap.size w w':=by
 obtain⟨hl,hgl,_⟩:=GD ((F7 X).2 hr);obtain⟨i40,hi40,hz40,hs40,hb40⟩:=BC Q4;obtain⟨i3,hi3,hz3,hs3,hb3⟩:=BC info3;obtain⟨i26,hi26,hz26,hs26,hb26⟩:=BC eE;obtain⟨i92,hi92,hz92,hs92,hb92⟩:=BC Wp;have H40:=(And.intro hi40 (And.intro hz40 (And.intro hs40 hb40)));have H3:=(And.intro hi3 (And.intro hz3 (And.intro hs3 hb3)));have H26:=An (And.intro hi26 (And.intro hz26 (And.intro hs26 hb26)));have H92:=(And.intro hi92 (And.intro hz92 (And.intro hs92 hb92)));clear hi40 hz40 hs40 hb40 hi3 hz3 hs3 hb3 hi26 hz26 hs26 hb26 hi92 hz92 hs92 hb92;obtain⟨W1,hW1,hbx,hX1⟩:=Gs w [([.slice A X.rows.length cap,.slice G X.gens.length gcap],43),([.slice N 0 0,.slice N 0 0],25),([.slice N 0 0,.slice G X.gens.length gcap],25)];have HW1:Hid (((w.alloc (Al #[.slice A X.rows.length cap,.slice G X.gens.length gcap] 43)).alloc (Al #[.slice N 0 0,.slice N 0 0] 25)).alloc (Al #[.slice N 0 0,.slice G X.gens.length gcap] 25)=W1):=An hW1;clear hW1;have HF1:Hid (FO w.heap.size (w.heap.size+2) (N,0) (.slice G X.gens.length gcap) ⟨fun _=>(N,0),fun _=>(N,0),fun _ _=>.slice N 0 0⟩ (dH X.rows 0) W1):=An ⟨(fun k vs t hk=>by
  match k,hk with
  |0,hk=>exact hX1 2 vs t hk
  |k+1,hk=>simp at hk),by omega,Bn _ _ _ _,fun h hh=>(by simp[dH,Ni]at hh),fun h hh=>(by simp[dH,Ni]at hh),fun h hh=>(by simp[dH,Ni]at hh)⟩
 have HB1:Hid (GJ w.heap.size [([.slice A X.rows.length cap,.slice G X.gens.length gcap],43),([.slice N 0 0,.slice N 0 0],25)] W1):=An fun k vs t hk=>by
  match k,hk with
  |0,hk=>exact hX1 0 vs t (by simpa using hk)
  |1,hk=>exact hX1 1 vs t (by simpa using hk)
  |k+2,hk=>simp at hk
 have HL1:=An hbx;have HR:=An hr;clear hbx hX1 hr;unfold Up FF JN;go_enter Tryz.func32,Tryz.ntmps32
 go_upto_region 2 with fail
 rw[AN HW1];go_wp2_with fail
 go_loopw [4] (fun x wr=>∃(n:Nat) (T:Option Addr×Nat) (m:KC),n≤256∧x=I .i64 (n:Int)∧FO w.heap.size (w.heap.size+2) T (.slice G X.gens.length gcap) m (dH X.rows n) wr∧GJ w.heap.size [([.slice A X.rows.length cap,.slice G X.gens.length gcap],43),([.slice N 0 0,.slice N 0 0],25)] wr∧Below w.heap.size w wr) (fun x _=>256 - (intOf x).toNat)
 case atStart=>exact⟨0,_,_,AS _,rfl,AN HF1,AN HB1,AN HL1⟩
 case round =>
  clear HF1 HB1 HL1 HW1;obtain⟨n,T,m,hn,rfl,hF,hB,hbw⟩:=hrel;by_cases hlt:n<256
  ·have n0:(0:Int)≤(n:Int):=(by omega);have n1:(n:Int)≤255:=(by omega);have n2:(n:Int)<256:=(by omega);have ml:F3 (n:Int)≤8:=Kf (n:Int) 8;obtain⟨wo,rfl⟩:∃wo,wo=wr:=⟨_,rfl⟩;have HLI:=An (fun W=>Ye (n:Int) W n0 n1);have HBW:=An hbw;have HSZ:=An hF.sz;clear hbw;go_upto_region 6 with(first
    |(go_at_call 65;refine(AN HLI _).mono ?_;rintro e w2⟨vh,rfl,hh,hb2⟩;obtain⟨Ah,ch,rfl⟩:=Hw hh;have HB2:=An hb2;clear hb2 hh)
    |(at_make;refine DI w2 R _ _ 46 R wo.heap.size 23 i26 _ 1 Tryz.underlying46 (AN H26).1 (AN H26).2.1 (AN H26).2.2.1 .i64 .i64 _ _ (F3 (n:Int)) R R R R (by rw[(AN H26).2.2.2];omega) (by unfold maxLen;omega) (AN HB2).size ?_;intro w3 ho3 hg3;have HO3:=An ho3;have HG3:=An hg3;clear ho3 hg3))
   obtain⟨gC,hgC⟩:∃gC,gC=w2.heap.size:=⟨_,rfl⟩;obtain⟨bt,hbt⟩:∃bt,bt=w3.heap.size:=⟨_,rfl⟩;rw[←hgC,←hbt];have hb3:Below w2.heap.size w2 w3:=F0 (AN HG3) (fun k e=>by cases e) Fu;have hOC:w3.ownsRow wo.heap.size 23 1 (.slice (O ⟨gC,0,N⟩) (F3 (n:Int)) (F3 (n:Int))) (F3 (n:Int)) ((List.range (F3 (n:Int))).map (fun _=>.slice N 0 0)):=by
    have:=AN HO3;rw[Eh,show(Value.slice N 0 0).cells=#[.slice N 0 0]from rfl,Fi,←hgC]at this;rw[show(List.range (F3 (n:Int))).map (fun _=>Value.slice N 0 0)=List.replicate (F3 (n:Int)) (.slice N 0 0) by rw[List.map_const'];simp];exact this
   obtain⟨W4,hW4⟩:∃W4,W4=w3.alloc (Al #[I .i64 (n:Int),.slice N 0 0,.slice (O ⟨gC,0,N⟩) (F3 (n:Int)) (F3 (n:Int))] 75):=⟨_,rfl⟩;have hb4:Below w3.heap.size w3 W4:=(by rw[hW4];exact GF _ _);have hX4:GJ bt [([I .i64 (n:Int),.slice N 0 0,.slice (O ⟨gC,0,N⟩) (F3 (n:Int)) (F3 (n:Int))],75)] W4:=(by rw[hW4,hbt];exact GJ.start w3 [(_,75)]);have hb03:Below wo.heap.size wo w3:=(AN HB2).trans (hb3.mono (AN HB2).size);have hC4:CU wo.heap.size bt (n:Int) (N,0) (O ⟨gC,0,N⟩,F3 (n:Int)) (fun _=>.slice N 0 0) (OT (X.rows.take 0) (n:Int)) (TL (X.rows.take 0) (n:Int)) W4:=by
    have e2:∀k,TL (X.rows.take 0) (n:Int) k=[]:=fun k=>by unfold TL;split <;>rfl
    exact⟨hX4,by rw[hbt];exact hb03.size,Bn _ _ _ _,FT hOC hb4,fun k=>by rw[e2];exact Bn _ _ _ _,fun _ _ _=>P9.nil _⟩
   have hgw:w3.alloc (Al #[I .i64 (n:Int),.slice N 0 0,.slice (O ⟨gC,0,N⟩) (F3 (n:Int)) (F3 (n:Int))] 75)=W4:=hW4.symm;have hb04:Below wo.heap.size wo W4:=hb03.trans (hb4.mono hb03.size);rw[hgw];have r0:=(hB.below hb04).cell 0 R 0 R;rw[Ay]at r0;have HC4:=An hC4;have HB4:=An hb04;clear hb3 hOC hb4 hX4 hb03 hC4 hgw hb04 hW4 hgC hbt HO3 HG3 HB2;go_wp2_with fail
   clear r0;go_loopw [26] (fun x wr=>∃(i:Nat) (Aa C:Option Addr×Nat) (K:Nat→Value),i≤X.rows.length∧x=I .i64 (i:Int)∧CU wo.heap.size bt (n:Int) Aa C K (OT (X.rows.take i) (n:Int)) (TL (X.rows.take i) (n:Int)) wr∧Below wo.heap.size wo wr) (fun x _=>X.rows.length - (intOf x).toNat)
   case atStart=>exact⟨0,_,_,_,AS _,rfl,AN HC4,AN HB4⟩
   case round =>
    clear HC4 HB4;obtain⟨i,Aa,C,K,hi,rfl,hC,hbr⟩:=hrel;by_cases hli:i<X.rows.length
    ·have i0:(0:Int)≤(i:Int):=(by omega);have i1:(i:Int)<(X.rows.length:Int):=(by omega);obtain⟨wk,rfl⟩:∃wk,wk=wr:=⟨_,rfl⟩;have hLr:Below w.heap.size w wk:=(AN HBW).trans (hbr.mono (AN HSZ));obtain⟨rb,ro,hAe,hrow⟩:=(hX.below hLr).rows i hli;have hrow:Hb wk rb (ro+i*11) (E' X i):=hrow;have htk:X.rows.take (i+1)=X.rows.take i++[E' X i]:=by
      rw[A0 hli];unfold E';rw[Hr _ _ hli]
     have hbl:=gy (X.rows.take i) (n:Int);have hll:=jO (X.rows.take i) (n:Int);rw[AZ]at hbl;simp only[AZ]at hll;generalize E' X i=r at *;obtain⟨c0,c1,c2,c3,c4,c5,c6,c7,c8,c9,c10⟩:=IX hrow;obtain⟨W5,hW5,hbx,hX5⟩:=Gs wk [([I .i64 r.ix,I .i64 r.gen,I .i64 r.has,I .i64 (r.v 0),I .i64 (r.v 1),I .i64 (r.v 2),I .i64 (r.v 3),I .i64 (r.v 4),I .i64 (r.v 5),I .i64 (r.v 6),I .i64 (r.v 7)],116)];have HW5:Hid (wk.alloc (Al #[I .i64 r.ix,I .i64 r.gen,I .i64 r.has,I .i64 (r.v 0),I .i64 (r.v 1),I .i64 (r.v 2),I .i64 (r.v 3),I .i64 (r.v 4),I .i64 (r.v 5),I .i64 (r.v 6),I .i64 (r.v 7)] 116)=W5):=An hW5;clear hW5;have hC5:=hC.below hbx;have hb5:=hbr.trans (hbx.mono hbr.size);obtain⟨z0,z1,z2⟩:=hX5.g3 R;obtain⟨gr,hgr⟩:∃gr,gr=wk.heap.size:=⟨_,rfl⟩;rw[←hgr]at z0 z1 z2 hX5;have HNG:Hid (bt≠gr):=An (by have:=hC.box.lt (k:=0) R;omega);have HGR:=An hgr;have HB5:=An hb5;have HTK:=An htk;have HLL:=An hll;subst hAe;clear hbr hLr hrow hbx hb5 htk hll hgr;go_upto_region 9 with fail
     rw[AN HW5,←AN HGR];clear c0 c1 c2 c3 c4 c5 c6 c7 c8 c9 c10;by_cases he:r.has=(n:Int)
     ·rw [he]at z2;have HE:=An he;clear he;have hC6:=hC5.below (GF W5 (Al #[I .i64 r.ix,I .i64 r.gen] 61));have HN6:=An (Oh W5 (I .i64 r.ix) (I .i64 r.gen) 61);have y1:=hC5.box.cell 0 R 1 R;rw[Ay]at y1;go_upto_region 11 with(first
       |(at_builtin;refine FY _ R (Am 35) (Am 38) 62 R wo.heap.size 61 i40 _ 2 16 Tryz.underlying62 H40.1 H40.2.1 H40.2.2.1 H40.2.2.2 R (by decide) _ (OT (X.rows.take i) (n:Int)).length (Fz (OT (X.rows.take i) (n:Int))) R hC6.ownA ⟨_,0,N⟩ 1 1 [I .i64 r.ix,I .i64 r.gen] R R (AN HN6) (Og _ _) (by unfold maxLen;omega) (by omega) hC6.sz (by omega) ?_;intro g8 c8 w6 ho6 hg6 hm6;have hbx6:=JL hC6.box hg6 (Ic hC6.ownA hC6.box (by decide));have HTB:Hid (w6.there bt 1 1):=An (Gx (by have:=hbx6.cell 0 R 1 R;rw[Ay]at this;exact this) (fun j=>by have:=hbx6.free 0 R j;rw[Ay]at this;exact this));have HC7:=An (hC6.being (r.ix,r.gen) hg6 ho6);have HRB6:=An (JL (hX5.below (GF W5 (Al #[I .i64 r.ix,I .i64 r.gen] 61))) hg6 (Ic hC6.ownA (hX5.below (GF W5 (Al #[I .i64 r.ix,I .i64 r.gen] 61))) (by decide)));have HB6:=(((AN HB5).trans ((GF W5 (Al #[I .i64 r.ix,I .i64 r.gen] 61)).mono (AN HB5).size)).trans (F0 hg6 (fun k e=>(hC6.ownA.lt k e).1) hC6.sz));clear ho6 hg6 hm6 hbx6)
       |(refine FU R 62 (Am 40) _ R bt 1 (.slice (O ⟨g8,0,N⟩) ((OT (X.rows.take i) (n:Int)).length+1) c8) R R R aQ (AN HTB) ?_;intro W7 hW7;have HC8:=(AN HC7);have HRB8:=(OM (o:=1) (v:=.slice (O ⟨g8,0,N⟩) ((OT (X.rows.take i) (n:Int)).length+1) c8) (AN HRB6) (g:=bt) (AN HNG));have HB8:=An (HB6.setCell (p:=⟨bt,1,N⟩) hC6.lo (.slice (O ⟨g8,0,N⟩) ((OT (X.rows.take i) (n:Int)).length+1) c8));rw[←hW7]at HC8 HRB8 HB8;clear hW7))
      clear z0 z1 z2 y1 hC6 HN6 HC7 HRB6 HB6 HTB hC5 HB5 hX5 HNG HW5 HGR;go_wp2_with((go_at_call 65;refine(AN HLI _).mono ?_;rintro e w8⟨vh,rfl,hh,hb8⟩;obtain⟨Ah2,ch2,rfl⟩:=Hw hh;have hK:CK wo.heap.size bt gr (n:Int) (O ⟨g8,0,N⟩,c8) C K (OT (X.rows.take i) (n:Int)++[(r.ix,r.gen)]) (Um (X.rows.take i) r (n:Int) 0) r (.slice Ah2 (FR (n:Int) 8).length ch2) (FR (n:Int) 8) w8:=⟨by rw[bZ];exact HC8.below hb8,HRB8.below hb8,Jt hh HC8.sz,fun k=>X8 hh (HC8.ownK k)⟩;have HK:=An hK;have HB9:=An ((AN HB8).trans (hb8.mono HC8.sz));clear hK hh hb8 HC8 HRB8 HB8))
      go_loopw [44] (fun x wr=>∃(k:Nat) (K:Nat→Value),k≤(FR (n:Int) 8).length∧x=I .i64 (k:Int)∧CK wo.heap.size bt gr (n:Int) (O ⟨g8,0,N⟩,c8) C K (OT (X.rows.take i) (n:Int)++[(r.ix,r.gen)]) (Um (X.rows.take i) r (n:Int) k) r (.slice Ah2 (FR (n:Int) 8).length ch2) (FR (n:Int) 8) wr∧Below wo.heap.size wo wr) (fun x _=>(FR (n:Int) 8).length - (intOf x).toNat)
      case atStart=>exact⟨0,K,AS _,rfl,AN HK,AN HB9⟩
      case round =>
       clear HK HB9;obtain⟨k,K,hk,rfl,hT,hbW⟩:=hrel;by_cases hlk:k<(FR (n:Int) 8).length
       ·have k0:(0:Int)≤(k:Int):=(by omega);have k1:(k:Int)<((FR (n:Int) 8).length:Int):=(by omega);have k1':(k:Int)<(F3 (n:Int):Int):=k1;obtain⟨p,hp,hpk⟩:∃p:Nat,p<8∧(FR (n:Int) 8).getD k 0=(p:Int):=by
         have hm:(FR (n:Int) 8).getD k 0∈FR (n:Int) 8:=by
          rw[Az,AE hlk];exact Bm hlk
         generalize (FR (n:Int) 8).getD k 0=z at *;unfold FR at hm;rw[Cn]at hm;obtain⟨q,hq,e⟩:=hm;rw[BU,Bh]at hq;exact⟨q,hq.1,e.symm⟩
        have p0:(0:Int)≤(p:Int):=(by omega);have p1:(p:Int)<8:=(by omega);obtain⟨gh,ch',hvh,_,_⟩:=Gi hT.held (by omega);simp only[A9,Br]at hvh;obtain⟨hvA,hvc⟩:=hvh;have hcell:wr.cell? ⟨gh,k,N⟩=O (I .i64 (p:Int)):=by
         have hh:=hT.held;rw[hvA]at hh;refine F4 hh ?_;unfold FD;rw[Bw,AE hlk];rw[Az,AE hlk]at hpk;simpa using hpk
        have hkc:k<F3 (n:Int):=hlk;obtain⟨gc,cc,hC,_,_⟩:=Gi hT.ownC (by omega);have tc:=hT.box.cell 0 R 2 R;rw[Ay,hC]at tc;have hkk:((List.range (F3 (n:Int))).map K)[k]?=O (K k):=(by simp[hkc]);have oC:=hT.ownC;rw[hC]at oC;have ck:=F4 oC hkk;have rv:wr.cell? ⟨gr,3+p,N⟩=O (I .i64 (r.v p)):=(iM hT.rb hp);obtain⟨Wa,hWa⟩:∃Wa,Wa=wr.drew:=⟨_,rfl⟩;obtain⟨S,hS⟩:∃S,S=Wa.heap.size:=⟨_,rfl⟩;obtain⟨Wb,hWb⟩:∃Wb,Wb=Wa.alloc (Al #[I .i64 (r.v p)] 3):=⟨_,rfl⟩;have hb01:Below wr.heap.size wr Wb:=(by rw[hWb,hWa];exact Fv.drew.alloc Fu _);have hT1:=hT.below hb01;have hnew:∀j u,[I .i64 (r.v p)][j]?=O u→Wb.cell? ((⟨S,0,N⟩:Addr).add j)=O u:=(by rw[hWb,hS];exact KU Wa _ 3);have hlk0:Um (X.rows.take i) r (n:Int) k k=TL (X.rows.take i) (n:Int) k:=AA (by omega);obtain⟨g9,c9,Wc,hap,ho9,hg9,hm9⟩:=PS wo.heap.size 23 3 i3 _ 1 8 Tryz.underlying23 H3.1 H3.2.1 H3.2.2.1 H3.2.2.2 R (by decide) Wb (K k) (Um (X.rows.take i) r (n:Int) k k).length (FD (Um (X.rows.take i) r (n:Int) k k)) (hT1.ownK k) ⟨S,0,N⟩ [I .i64 (r.v p)] R hnew (by simp[Ar]) (by rw[hlk0];have:=AN HLL k;omega) (by decide) hT1.sz;obtain⟨Wd,hWd⟩:∃Wd,Wd=Wc.setCell ⟨gc,k,N⟩ (.slice (O ⟨g9,0,N⟩) ((Um (X.rows.take i) r (n:Int) k k).length+1) c9):=⟨_,rfl⟩;have hT3:=hT1.col hkc hC (r.v p) hg9 ho9 hm9;rw[←hWd,bc _ r (n:Int) k p hpk]at hT3;have oC2:=hT1.ownC.kept hg9 (F1 hT1.ownC (hT1.ownK k) (by decide));rw[hC]at oC2;have ck2:=F4 oC2 hkk;have bt2:=JL hT1.box hg9 (Ic (hT1.ownK k) hT1.box (by decide));have tc2:=bt2.cell 0 R 2 R;rw[Ay,hC]at tc2;have rv2:Wc.cell? ⟨gr,3+p,N⟩=O (I .i64 (r.v p)):=iM (JL hT1.rb hg9 (Ic (hT1.ownK k) hT1.rb (by decide))) hp;have hlo:wo.heap.size≤gc:=(oC.lt gc R).1;have hB3:Below wo.heap.size wo Wd:=by
         rw[hWd];exact((hbW.trans (hb01.mono hT.sz)).trans (F0 hg9 (fun k' e=>((hT1.ownK k).lt k' e).1) hT1.sz)).setCell (p:=⟨gc,k,N⟩) hlo _
        have HP1:Hid (Wb.cell? ⟨bt,2,N⟩=O (.slice (O ⟨gc,0,N⟩) (F3 (n:Int)) cc)∧Wb.cell? ⟨gc,k,N⟩=O (K k)∧Wb.cell? ⟨gr,3+p,N⟩=O (I .i64 (r.v p))):=An ⟨AW hb01 tc,AW hb01 ck,AW hb01 rv⟩;have HP2:Hid (Wc.cell? ⟨bt,2,N⟩=O (.slice (O ⟨gc,0,N⟩) (F3 (n:Int)) cc)∧Wc.cell? ⟨gc,k,N⟩=O (K k)∧Wc.cell? ⟨gr,3+p,N⟩=O (I .i64 (r.v p))):=An ⟨tc2,ck2,rv2⟩;have h7:XD (fun W=>W.cell? ⟨bt,2,N⟩=O (.slice (O ⟨gc,0,N⟩) (F3 (n:Int)) cc)∧W.cell? ⟨gc,k,N⟩=O (K k)∧W.cell? ⟨gr,3+p,N⟩=O (I .i64 (r.v p))) Wa Wb Wc Wd 12 13 15 (fun _=>false) wr.drew:=(by rw[←hWa];exact XD.start (by rw[hWa];exact⟨tc,ck,rv⟩));have HTH:=An (Gx ck2 (fun j=>KP oC2 j));have HWb:=An hWb;have HSS:=An hS;have HAP:=An hap;have HWd:=An hWd;have HT3:=An hT3;have HBB:=An hB3;clear hWb hS hap hWd hT3 hB3 hlo hWa hb01 hT1 hnew ho9 hg9 hm9 oC2 tc2 ck2 rv2 bt2 oC ck rv tc hT hbW hpk hlk0 hkk hkc;subst hvA hvc;go_wp2_with fail
        refine FW (fun(γ:Unit)=>[Ae (O ⟨bt,2,N⟩),.slice (O ⟨gc,0,N⟩) (F3 (n:Int)) cc,I .i64 (k:Int),Ae (O ⟨bt,2,N⟩),.slice (O ⟨gc,0,N⟩) (F3 (n:Int)) cc,I .i64 (k:Int),Ae (O ⟨gc,k,N⟩),K k,I .i64 (p:Int),Ae (O ⟨gr,3,N⟩),Ae (O ⟨gr,3+p,N⟩),I .i64 (r.v p),.slice (O ⟨S,0,N⟩) 1 1,.slice (O ⟨g9,0,N⟩) ((Um (X.rows.take i) r (n:Int) k k).length+1) c9,Ae (O ⟨gc,k,N⟩),undef]) (fun(_:Unit) L W=>XD (fun W=>W.cell? ⟨bt,2,N⟩=O (.slice (O ⟨gc,0,N⟩) (F3 (n:Int)) cc)∧W.cell? ⟨gc,k,N⟩=O (K k)∧W.cell? ⟨gr,3+p,N⟩=O (I .i64 (r.v p))) Wa Wb Wc Wd 12 13 15 L W) (()) (by kernel_rfl) (by kernel_rfl) (by kernel_rfl) (by kernel_rfl) h7 ?hstep ?hend7
        case hstep =>
         intro F γ hout hkn ix o ho L w1 hD hL hed hcl;simp only[Hu,G9,Br,Bx]at hkn;have e5:F.tmps.getD 5 undef=Ae (O ⟨bt,0,N⟩):=hout 5 (by decide +kernel);have e7:F.tmps.getD 7 undef=Ae (O ⟨gr,0,N⟩):=hout 7 (by decide +kernel);have e8:F.tmps.getD 8 undef=I .i64 (k:Int):=hout 8 (by decide +kernel);have e9:F.tmps.getD 9 undef=I .i64 (p:Int):=hout 9 (by decide +kernel)
         match ix,ho with
         |0,ho|2,ho|3,ho|5,ho|6,ho|8,ho|9,ho|10,ho|14,ho =>
          simp at ho;subst ho;exact .inl ⟨rfl,FB γ _ (by simp[go_sem,Aq,-Ap,hkn,e5,e8,k0,k1',e9,e7,p0,p1]) R hD (fun _ _ _=>rfl)⟩
         |1,ho =>
          simp at ho;subst ho;have q14:L 14=false:=FA hcl hL 16 14 (by kernel_rfl);have q15:L 15=false:=FA hcl hL 16 15 (by kernel_rfl);have c0:=(hD.1 q15).1;exact .inl ⟨rfl,FB γ _ (by simp[go_sem,Aq,-Ap,hkn,c0]) R hD (fun _ _ _=>rfl)⟩
         |4,ho =>
          simp at ho;subst ho;have q6:L 6=false:=FA hcl hL 16 6 (by kernel_rfl);have q7:L 7=false:=FA hcl hL 16 7 (by kernel_rfl);have q13:L 13=false:=FA hcl hL 16 13 (by kernel_rfl);have q15:L 15=false:=FA hcl hL 16 15 (by kernel_rfl);have c0:=(hD.1 q15).1;exact .inl ⟨rfl,FB γ _ (by simp[go_sem,Aq,-Ap,hkn,c0]) R hD (fun _ _ _=>rfl)⟩
         |7,ho =>
          simp at ho;subst ho;have q13:L 13=false:=FA hcl hL 16 13 (by kernel_rfl);have q15:L 15=false:=FA hcl hL 16 15 (by kernel_rfl);have c0:=(hD.1 q15).2.1;exact .inl ⟨rfl,FB γ _ (by simp[go_sem,Aq,-Ap,hkn,c0]) R hD (fun _ _ _=>rfl)⟩
         |11,ho =>
          simp at ho;subst ho;have q12:L 12=false:=FA hcl hL 16 12 (by kernel_rfl);have q13:L 13=false:=FA hcl hL 16 13 (by kernel_rfl);have q15:L 15=false:=FA hcl hL 16 15 (by kernel_rfl);have c0:=(hD.1 q15).2.2;exact .inl ⟨rfl,FB γ _ (by simp[go_sem,Aq,-Ap,hkn,c0]) R hD (fun _ _ _=>rfl)⟩
         |12,ho =>
          simp at ho;subst ho;have e60:F.tmps.getD 60 undef=I .i64 (r.v p):=(by simp only[hkn]);have q13:L 13=false:=FA hcl hL 16 13 (by kernel_rfl);have q15:L 15=false:=FA hcl hL 16 15 (by kernel_rfl);obtain⟨hw,hx⟩:=hD.build hL q13 q15 (by decide) (by decide) (AN HP1);subst hw;refine .inl ⟨rfl,J' γ (.slice (O ⟨S,0,N⟩) 1 1) (w2:=Wb) (by rw[AN HWb,AN HSS];simp[go_sem,Aq,-Ap,e60]) R hx (fun _ _ _=>rfl)⟩
         |13,ho =>
          simp at ho;subst ho;have q15:L 15=false:=FA hcl hL 16 15 (by kernel_rfl);have q12:L 12=true:=hed 12 (by kernel_rfl);obtain⟨hw,hx⟩:=hD.app q12 hL q15 (by decide) (AN HP2);subst hw;exact .inl ⟨rfl,K2 γ (Am 56) (Am 61) 23 R (K k) (.slice (O ⟨S,0,N⟩) 1 1) (.slice (O ⟨g9,0,N⟩) ((Um (X.rows.take i) r (n:Int) k k).length+1) c9) (by simp[Aq,-Ap,hkn]) (by simp[Aq,-Ap,hkn]) (AN HAP _) R hx (fun _ _ _=>rfl)⟩
         |15,ho =>
          simp at ho;subst ho;have q13:L 13=true:=hed 13 (by kernel_rfl);obtain⟨hw,hx⟩:=hD.store q13 hL (by decide);subst hw;exact .inl ⟨rfl,K0 γ 23 (Am 63) (Am 62) R gc k (.slice (O ⟨g9,0,N⟩) ((Um (X.rows.take i) r (n:Int) k k).length+1) c9) (by simp[Aq,-Ap,hkn]) (by simp[Aq,-Ap,hkn]) R QR (AN HTH) R (by rw[←AN HWd];exact hx) (fun _ _ _=>rfl)⟩
         |ix+16,ho=>simp at ho
        case hend7 =>
         intro γ L w5 hD hall;rw[hD.2.2.2 (hall 15 (by decide))];clear hall hD h7 HP1 HP2 HTH HWb HSS HAP HWd;simp only[GN,AI,AH,Ba,AJ,AK,Nat.reduceAdd,Bf,Be];go_frame;go_wp2;go_roundw
         case rel=>exact⟨k+1,_,by omega,by go_num,AN HT3,AN HBB⟩
         case measure=>simp[intOf];omega
       ·obtain rfl:k=(FR (n:Int) 8).length:=(by omega);have HT:=An hT.toCU;have HBB:=An hbW;have kk:decide (((FR (n:Int) 8).length:Int)<((FR (n:Int) 8).length:Int))=false:=AO (by omega);clear hT hbW;go_wp2;go_roundw
        case rel=>exact⟨i+1,_,C,K,by omega,by go_num,by rw[AN HTK,X3,AF (AN HE),←gG _ _ _ (AN HE)];exact AN HT,AN HBB⟩
        case measure=>simp[intOf];omega
     ·have hne:(r.has == (n:Int))=false:=(by simpa using he);have hne2:(r.has != (n:Int))=true:=(by simpa using he);have HE:=An he;clear he;go_wp2;go_roundw
      case rel=>exact⟨i+1,Aa,C,K,by omega,by go_num,by rw[AN HTK,X3,AA (AN HE),jP _ _ _ (AN HE)];exact hC5,AN HB5⟩
      case measure=>simp[intOf];omega
    ·obtain rfl:i=X.rows.length:=(by omega);have HBR:=An hbr;have hLr:Below w.heap.size w wr:=(AN HBW).trans (hbr.mono (AN HSZ));have y1:=hC.box.cell 0 R 1 R;rw[Ay]at y1;have ki:decide ((X.rows.length:Int)<(X.rows.length:Int))=false:=AO (by omega);have hF2:=hF.keep R hbr;have HBX:=(hB.below hbr);have HLR:=An hLr;have hfull:OT (X.rows.take X.rows.length) (n:Int)=OT X.rows (n:Int):=(by rw[BN]);have hfull2:TL (X.rows.take X.rows.length) (n:Int)=TL X.rows (n:Int):=(by rw[BN]);rw[hfull]at y1;rw[hfull,hfull2]at hC;clear hbr hLr hfull hfull2;by_cases hz:OT X.rows (n:Int)=[]
     ·have hH:Mr X.rows (n:Int)=[]:=(by unfold OT at hz;exact List.map_eq_nil_iff.1 hz);rw[hz]at y1;have hd:dH X.rows (n+1)=dH X.rows n:=(by unfold dH;rw[Ni,AF hH]);have HD:=An hd;clear hd hH hz;go_wp2;go_roundw
      case rel=>exact⟨n+1,T,m,by omega,by go_num,by rw[AN HD];exact hF2,HBX,AN HLR⟩
      case measure=>simp[intOf];omega
     ·have hpos:0<(OT X.rows (n:Int)).length:=CD.2 hz;have hpos2:(0:Int)<((OT X.rows (n:Int)).length:Int):=(by omega);have hH:Mr X.rows (n:Int)≠[]:=fun e=>hz (by unfold OT;rw[e];rfl);have hd:dH X.rows (n+1)=⟨(dH X.rows n).hs++[(n:Int)],IL (dH X.rows n).B (n:Int) (OT X.rows (n:Int)),fun x=>if x=(n:Int)then TL X.rows (n:Int)else(dH X.rows n).L x⟩:=by
       unfold dH;rw[Ni,AA hH];simp only[JQ.mk.injEq,Br];refine⟨funext fun x=>?_,funext fun x=>?_⟩
       ·unfold IL;split
        ·rename_i e;rw[e]
        ·rfl
       ·split
        ·rename_i e;rw[e]
        ·rfl
      have hnm:(n:Int) ∉ (dH X.rows n).hs:=fun hm=>by
       obtain⟨k,h1,h2,_⟩:=(Ol X.rows n (n:Int)).1 hm;omega
      have hhl:(dH X.rows n).hs.length≤256:=AU (Uw X.rows n) hn;have y0:=hC.box.cell 0 R 0 R;have y2:=hC.box.cell 0 R 2 R;have s0:=hF2.box.cell 0 R 0 R;rw[Ay]at y0 y2 s0;obtain⟨w5,rfl⟩:∃w5,w5=wr:=⟨_,rfl⟩;have HCN:=An (hC.below (GF w5 (Al #[I .i64 (n:Int),.slice Aa.1 (OT X.rows (n:Int)).length Aa.2,.slice C.1 (F3 (n:Int)) C.2] 75)));have HFN:=(hF2.keep R (GF w5 (Al #[I .i64 (n:Int),.slice Aa.1 (OT X.rows (n:Int)).length Aa.2,.slice C.1 (F3 (n:Int)) C.2] 75)));have HBN:=An (HBX.below (GF w5 (Al #[I .i64 (n:Int),.slice Aa.1 (OT X.rows (n:Int)).length Aa.2,.slice C.1 (F3 (n:Int)) C.2] 75)));have HLN:=An ((AN HLR).trans ((GF w5 (Al #[I .i64 (n:Int),.slice Aa.1 (OT X.rows (n:Int)).length Aa.2,.slice C.1 (F3 (n:Int)) C.2] 75)).mono (AN HLR).size));have HNW:=An (fS w5 (n:Int) Aa.1 (OT X.rows (n:Int)).length Aa.2 C.1 (F3 (n:Int)) C.2);have HD:=An hd;have HNM:=An hnm;clear hd hH hz hnm;go_wp2_with(first
       |(at_builtin;refine FY _ R (Am 71) (Am 73) 22 R w.heap.size 75 i92 _ 3 56 Tryz.underlying22 H92.1 H92.2.1 H92.2.2.1 H92.2.2.2 R (by decide) _ (dH X.rows n).hs.length (FC ((dH X.rows n).hs.map (tt m (dH X.rows n)))) R HFN.ownT ⟨_,0,N⟩ 1 1 [I .i64 (n:Int),.slice Aa.1 (OT X.rows (n:Int)).length Aa.2,.slice C.1 (F3 (n:Int)) C.2] R R (AN HNW) (Yx _ _ _ _ _ _ _) (by unfold maxLen;omega) (by omega) HFN.sz (by omega) ?_;intro g8 c8 w6 ho6 hg6 hm6;have hbx6:=JL HFN.box hg6 (Ic HFN.ownT HFN.box (by decide));have HTB:Hid (w6.there (w.heap.size+2) 0 1):=An (Gx (by have:=hbx6.cell 0 R 0 R;rw[Ay]at this;exact this) (fun j=>by have:=hbx6.free 0 R j;rw[Ay]at this;exact this));have HF7:=An (HFN.add (AN HCN) (AN HSZ) (AN HNM) hg6 ho6);have HB6:=(VM (AN HBN) HFN.ownT hg6);have HL6:=((AN HLN).trans (F0 hg6 (fun k e=>(HFN.ownT.lt k e).1) HFN.sz));clear ho6 hg6 hm6 hbx6)
       |(refine FU R 22 (Am 75) _ R (w.heap.size+2) 0 (.slice (O ⟨g8,0,N⟩) ((dH X.rows n).hs.length+1) c8) R R R aP (AN HTB) ?_;intro W7 hW7;have HF8:=An (AN HF7);have HB8:=An (HB6.turn (cb:=w.heap.size+2) (o:=0) (vs:=[.slice (O ⟨g8,0,N⟩) ((dH X.rows n).hs.length+1) c8]) (.inr Fu));have HL8:=An (HL6.setCell (p:=⟨w.heap.size+2,0,N⟩) (by simp) (.slice (O ⟨g8,0,N⟩) ((dH X.rows n).hs.length+1) c8));rw[←hW7]at HF8 HL8;have HB8':Hid (GJ w.heap.size [([.slice A X.rows.length cap,.slice G X.gens.length gcap],43),([.slice N 0 0,.slice N 0 0],25)] W7):=An (by rw[hW7];exact AN HB8);clear hW7 HB8))
      go_roundw
      case rel=>exact⟨n+1,_,_,by omega,by go_num,by rw[AN HD];exact AN HF8,AN HB8',AN HL8⟩
      case measure=>simp[intOf];omega
  ·obtain rfl:n=256:=(by omega);obtain⟨s0,s1⟩:=hF.box.g2 R;have e256:dH X.rows 256=Ll (FG X) X.rows:=(by unfold dH;rw[ZG (AN HR)];rfl);rw[e256]at hF s0;have hTA:=aB hF (Jg X);have hls:(Ll (FG X) X.rows).hs.length=(FG X).length:=(by simp[Ll]);rw[hls]at s0;have hgx:=(hX.below hbw).gens;have hb9:=Bv (w.heap.size+1) (by omega) [.slice T.1 (FG X).length T.2,.slice G X.gens.length gcap] 0 wr hbw;have hTH:=hB.there 1 R 2 R;have hF9:=hF.res (hB 1 _ _ R) (by omega) 0 [.slice T.1 (FG X).length T.2,.slice G X.gens.length gcap];have HST:Hid (Rk w.heap.size (wr.setCells (w.heap.size+1) 0 [.slice T.1 (FG X).length T.2,.slice G X.gens.length gcap]) T.1 G (FG X) X):=An (fun W' ha hg'=>⟨aB (hF9.agree ha) (Jg X),hg',AN HR,Sg (AN HR) (Jg X),fun j hj=>Wv (Jg X) j (j+1) hj (by omega),(Jg X).perm,by have:=TX (Jg X);omega⟩);have HG9:=An (hB.give 1 R [.slice T.1 (FG X).length T.2,.slice G X.gens.length gcap] R);have HTH:=An hTH;have HB9:=An hb9;have kn:decide ((256:Int)<256)=false:=(by decide);clear hbw hF9 hTA hgx hb9 hTH e256 hls;go_wp2_with((refine As R 25 (Am 2) _ R (w.heap.size+1) 0 [.slice T.1 (FG X).length T.2,.slice G X.gens.length gcap] R R (by simp[Ar]) Kq (AN HTH) ?_;intro W9 hW9;have HST9:=An (AN HST);have HGG:=(AN HG9);have HBB:=An (AN HB9);rw[←hW9]at HST9 HGG HBB;clear hW9))
   obtain⟨g0,g1⟩:=HGG.f2 1 R;refine AG (by simp[results,Tryz.results32,go_sem,g0,g1]<;>rfl) R ⟨T.1,T.2,rfl,AN HST9,AN HBB⟩
end Go.Proofs.YtnbleebilmghcabGreat
