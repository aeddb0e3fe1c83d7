/- ROf0, RWld0 -/
import Derived.Test.YtnbleebilmghcabGreatWL
import Derived.Test.YtnbleebilmghcabGreatWO
set_option linter.all false
namespace Go.Proofs.YtnbleebilmghcabGreat
open Go Go.RowKit
theorem zDR {W:World} {b o:Nat} {cur:List Value} {t:TypeId} {v:Value} (h:W.heap[b]?=some (.cells cur.toArray t (0,0))) (ho:o<cur.length):(W.setCell ⟨b,o,none⟩ v).heap[b]?=some (.cells (cur.set o v).toArray t (0,0)):=by
 have:=zCJ b t [v] o cur W h (by simp only [List.length_cons,List.length_nil];omega)
 have e:cur.take o++[v]++cur.drop (o+[v].length)=cur.set o v:=by
  rw [List.set_eq_take_append_cons_drop,if_pos ho]
  simp
 rw [e] at this
 exact this
theorem zGN {W:World} {b o:Nat} {cur:List Value} {t:TypeId} {v:Value} (h:Bxs b [(cur,t)] W) (ho:o<cur.length):Bxs b [(cur.set o v,t)] (W.setCell ⟨b,o,none⟩ v):=fun k vs t' hk=>by
 match k,hk with
 | 0,hk =>
  simp only [List.getElem?_cons_zero,Option.some.injEq,Prod.mk.injEq] at hk
  obtain ⟨rfl,rfl⟩:=hk
  have:=h 0 cur t rfl
  rw [Nat.add_zero] at this ⊢
  exact zDR this ho
 | k+1,hk=>simp at hk
theorem zBk {W:World} {b g o:Nat} {cur:List Value} {t:TypeId} {v:Value} (h:Bxs b [(cur,t)] W) (hg:g≠b):Bxs b [(cur,t)] (W.setCell ⟨g,o,none⟩ v):=fun k vs t' hk=>by
 match k,hk with
 | 0,hk =>
  have:=h 0 vs t' hk
  rw [Nat.add_zero] at this ⊢
  rw [heap_setCell_other W ⟨g,o,none⟩ b _ (fun e=>hg e.symm)]
  exact this
 | k+1,hk=>simp at hk
theorem zAy {W W2:World} {b:Nat} {cur:List Value} {t:TypeId} {row:Option Nat} (h:Bxs b [(cur,t)] W) (hg:W.grownBy W2 row) (hne:row≠some b):Bxs b [(cur,t)] W2:=fun k vs t' hk=>by
 match k,hk with
 | 0,hk =>
  have:=h 0 vs t' hk
  have hlt:=h.lt (k:=0) hk
  rw [Nat.add_zero] at this hlt ⊢
  exact (hg.block b hlt (fun e=>hne e.symm)).trans this
 | k+1,hk=>simp at hk
theorem zAm {W:World} {B b:Nat} {e t:TypeId} {size n:Nat} {v:Value} {xs cur:List Value} (h:W.ownsRow B e size v n xs) (hb:Bxs b [(cur,t)] W) (ht:t≠e):v.ownBlock≠some b:=zAI h ⟨cur.toArray,by have:=hb 0 cur t rfl;rw [Nat.add_zero] at this;exact this⟩ ht
structure CU (N bt:Nat) (h:Int) (A C:Option Addr×Nat) (K:Nat→Value) (B:List (Int×Int)) (L:Nat→List Int) (W:World):Prop where
 box:Bxs bt [([.int .i64 h,.slice A.1 B.length A.2,.slice C.1 (zv h) C.2],75)] W
 lo:N≤bt
 ownA:W.ownsRow N 61 2 (.slice A.1 B.length A.2) B.length (zn B)
 ownC:W.ownsRow N 23 1 (.slice C.1 (zv h) C.2) (zv h) ((List.range (zv h)).map K)
 ownK:∀ k,W.ownsRow N 3 1 (K k) (L k).length (zJ (L k))
 sepK:∀ k k',k≠k'→Apt (K k) (K k')
section
variable {N bt:Nat} {h:Int} {A C:Option Addr×Nat} {K:Nat→Value} {B:List (Int×Int)} {L:Nat→List Int} {W W1 W2:World}
theorem CU.sz (c:CU N bt h A C K B L W):N≤W.heap.size:=Nat.le_trans c.lo (Nat.le_of_lt (c.box.lt (k:=0) rfl))
theorem CU.below (c:CU N bt h A C K B L W) (hb:Below W.heap.size W W1):CU N bt h A C K B L W1:=⟨c.box.below hb,c.lo,zc c.ownA hb,zc c.ownC hb,fun k=>zc (c.ownK k) hb,c.sepK⟩
theorem CU.being (c:CU N bt h A C K B L W) {g cap:Nat} (b:Int×Int) (hg:W.grownBy W2 (Value.slice A.1 B.length A.2).ownBlock) (ho:W2.ownsRow N 61 2 (.slice (some ⟨g,0,none⟩) (B.length+1) cap) (B.length+1) (zn B++[.int .i64 b.1,.int .i64 b.2])) :
  CU N bt h (some ⟨g,0,none⟩,cap) C K (B++[b]) L (W2.setCell ⟨bt,1,none⟩ (.slice (some ⟨g,0,none⟩) (B.length+1) cap)):=by
 have hs:=zAZ W2 bt 1 (.slice (some ⟨g,0,none⟩) (B.length+1) cap)
 have hb2:Bxs bt [([.int .i64 h,.slice A.1 B.length A.2,.slice C.1 (zv h) C.2],75)] W2:=zAy c.box hg (zAm c.ownA c.box (by decide))
 have keep:∀ {e:TypeId} {size n:Nat} {v:Value} {xs:List Value},e≠75→W2.ownsRow N e size v n xs→(W2.setCell ⟨bt,1,none⟩ (.slice (some ⟨g,0,none⟩) (B.length+1) cap)).ownsRow N e size v n xs:=fun he ho'=>ho'.kept hs (.inr (zAm ho' hb2 (Ne.symm he)))
 refine ⟨?_,c.lo,?_,keep (by decide) (c.ownC.kept hg (zb c.ownC c.ownA (by decide))),fun k=>keep (by decide) ((c.ownK k).kept hg (zb (c.ownK k) c.ownA (by decide))),c.sepK⟩
 ·have:=zGN (v:=.slice (some ⟨g,0,none⟩) (B.length+1) cap) hb2 (o:=1) (by simp)
  simpa using this
 ·rw [List.length_append,List.length_singleton,zIm]
  exact keep (by decide) ho
theorem CU.col (c:CU N bt h A C K B L W) {k:Nat} (hk:k<zv h) {gc cc:Nat} (hC:Value.slice C.1 (zv h) C.2=.slice (some ⟨gc,0,none⟩) (zv h) cc) {g cap:Nat} (z:Int)
  (hg:W.grownBy W2 (K k).ownBlock) (ho:W2.ownsRow N 3 1 (.slice (some ⟨g,0,none⟩) ((L k).length+1) cap) ((L k).length+1) (zJ (L k)++[.int .i64 z])) (hm:some g=(K k).ownBlock∨g=W.heap.size) :
  CU N bt h A C (fun j=>if j=k then .slice (some ⟨g,0,none⟩) ((L k).length+1) cap else K j) B (fun j=>if j=k then L k++[z] else L j) (W2.setCell ⟨gc,k,none⟩ (.slice (some ⟨g,0,none⟩) ((L k).length+1) cap)):=by
 have hs:=zAZ W2 gc k (.slice (some ⟨g,0,none⟩) ((L k).length+1) cap)
 have hCb:(Value.slice C.1 (zv h) C.2).ownBlock=some gc:=by rw [hC];rfl
 have oC2:=c.ownC.kept hg (zb c.ownC (c.ownK k) (by decide))
 have hmv:(Value.slice (some ⟨g,0,none⟩) ((L k).length+1) cap).ownBlock=(K k).ownBlock∨(Value.slice (some ⟨g,0,none⟩) ((L k).length+1) cap).ownBlock=some W.heap.size:=by
  rcases hm with hm | hm
  ·exact .inl hm
  ·exact .inr (by rw [hm];rfl)
 have keepC:∀ {e:TypeId} {size n:Nat} {v:Value} {xs:List Value},e≠23→W2.ownsRow N e size v n xs→(W2.setCell ⟨gc,k,none⟩ (.slice (some ⟨g,0,none⟩) ((L k).length+1) cap)).ownsRow N e size v n xs:=fun he ho'=>ho'.kept hs (by
  have:=zb ho' oC2 he
  rw [hCb] at this
  exact this)
 have hb2:Bxs bt [([.int .i64 h,.slice A.1 B.length A.2,.slice C.1 (zv h) C.2],75)] W2:=zAy c.box hg (zAm (c.ownK k) c.box (by decide))
 refine ⟨zBk hb2 (fun e=>zAm oC2 hb2 (by decide) (by rw [hCb,e])),c.lo,keepC (by decide) (c.ownA.kept hg (zb c.ownA (c.ownK k) (by decide))),?_,fun j=>?_,fun j j' hne=>?_⟩
 ·have e1:(List.range (zv h)).map (fun j=>if j=k then Value.slice (some ⟨g,0,none⟩) ((L k).length+1) cap else K j)=((List.range (zv h)).map K).set k (.slice (some ⟨g,0,none⟩) ((L k).length+1) cap):=by
   refine List.ext_getElem (by simp) fun j h1 h2=>?_
   rw [List.getElem_set]
   simp only [List.getElem_map,List.getElem_range]
   by_cases ej:k=j
   ·subst ej;rw [if_pos rfl]
   ·rw [if_neg ej,if_neg (Ne.symm ej)]
  rw [e1]
  rw [hC] at oC2 ⊢
  exact (oC2.stored k _).1
 ·by_cases e:j=k
  ·subst e
   rw [if_pos rfl,if_pos rfl,List.length_append,List.length_singleton,show zJ (L j++[z])=zJ (L j)++[.int .i64 z] by simp [zJ]]
   exact keepC (by decide) ho
  ·rw [if_neg e,if_neg e]
   exact keepC (by decide) ((c.ownK j).kept hg (c.sepK j k e))
 ·show Apt (if j=k then _ else _) (if j'=k then _ else _)
  by_cases e:j=k
  ·rw [if_pos e,if_neg (fun e'=>hne (e.trans e'.symm))]
   exact ((c.sepK j' k (fun e'=>hne (e.trans e'.symm))).moved (c.ownK j') hmv).symm
  ·rw [if_neg e]
   by_cases e':j'=k
   ·rw [if_pos e']
    exact (c.sepK j k e).moved (c.ownK j) hmv
   ·rw [if_neg e']
    exact c.sepK j j' hne
end
structure FO (base bx:Nat) (T:Option Addr×Nat) (G:Value) (m:TblM) (d:TblD) (W:World):Prop where
 box:Bxs bx [([.slice T.1 d.hs.length T.2,G],25)] W
 lo:base≤bx
 ownT:W.ownsRow base 75 3 (.slice T.1 d.hs.length T.2) d.hs.length (zK (d.hs.map (tt m d)))
 ownA:∀ h,h∈d.hs→W.ownsRow base 61 2 (aV m d h) (d.B h).length (zn (d.B h))
 ownC:∀ h,h∈d.hs→W.ownsRow base 23 1 (cV m h) (zv h) ((List.range (zv h)).map (m.K h))
 ownK:∀ h,h∈d.hs→∀ k,k<zv h→W.ownsRow base 3 1 (m.K h k) (d.L h k).length (zJ (d.L h k))
section
variable {base bx:Nat} {T:Option Addr×Nat} {G:Value} {m:TblM} {d:TblD} {W W1 W2:World}
theorem FO.sz (f:FO base bx T G m d W):base≤W.heap.size:=Nat.le_trans f.lo (Nat.le_of_lt (f.box.lt (k:=0) rfl))
theorem FO.keep (f:FO base bx T G m d W) {N:Nat} (hN:N=W.heap.size) {Wa:World} (hb:Below N W Wa):FO base bx T G m d Wa:=by
 subst hN
 exact ⟨f.box.below hb,f.lo,zc f.ownT hb,fun h hh=>zc (f.ownA h hh) hb,fun h hh=>zc (f.ownC h hh) hb,fun h hh k hk=>zc (f.ownK h hh k hk) hb⟩
theorem FO.add (f:FO base bx T G m d W) {N bt:Nat} {h:Int} {A C:Option Addr×Nat} {K:Nat→Value} {B:List (Int×Int)} {L:Nat→List Int} (c:CU N bt h A C K B L W) (hN:base≤N) (hh:h ∉ d.hs) {g cap:Nat}
  (hg:W.grownBy W2 (Value.slice T.1 d.hs.length T.2).ownBlock) (ho:W2.ownsRow base 75 3 (.slice (some ⟨g,0,none⟩) (d.hs.length+1) cap) (d.hs.length+1) (zK (d.hs.map (tt m d))++[.int .i64 h,.slice A.1 B.length A.2,.slice C.1 (zv h) C.2])) :
  FO base bx (some ⟨g,0,none⟩,cap) G ⟨zBx m.A h A,zBx m.C h C,fun x=>if x=h then K else m.K x⟩ ⟨d.hs++[h],zBx d.B h B,fun x=>if x=h then L else d.L x⟩ (W2.setCell ⟨bx,0,none⟩ (.slice (some ⟨g,0,none⟩) (d.hs.length+1) cap)):=by
 have hs:=zAZ W2 bx 0 (.slice (some ⟨g,0,none⟩) (d.hs.length+1) cap)
 have hb2:Bxs bx [([.slice T.1 d.hs.length T.2,G],25)] W2:=zAy f.box hg (zAm f.ownT f.box (by decide))
 have keep:∀ {e:TypeId} {size n b':Nat} {v:Value} {xs:List Value},e≠75→e≠25→W.ownsRow b' e size v n xs→base≤b'→(W2.setCell ⟨bx,0,none⟩ (.slice (some ⟨g,0,none⟩) (d.hs.length+1) cap)).ownsRow base e size v n xs:=fun he he2 ho' hb' =>
  ((zBX ho' hb').kept hg (zb ho' f.ownT he)).kept hs (.inr (zAm ((zBX ho' hb').kept hg (zb ho' f.ownT he)) hb2 (Ne.symm he2)))
 have ne:∀ x,x∈d.hs→x≠h:=fun x hx e=>hh (e▸hx)
 refine ⟨?_,f.lo,?_,fun x hx=>?_,fun x hx=>?_,fun x hx k hk=>?_⟩
 ·have:=zGN (v:=.slice (some ⟨g,0,none⟩) (d.hs.length+1) cap) hb2 (o:=0) (by simp)
  simpa using this
 ·have e1:(d.hs++[h]).map (tt ⟨zBx m.A h A,zBx m.C h C,fun x=>if x=h then K else m.K x⟩ ⟨d.hs++[h],zBx d.B h B,fun x=>if x=h then L else d.L x⟩)=d.hs.map (tt m d)++[⟨h,A.1,B.length,A.2,C.1,zv h,C.2⟩]:=by
   rw [List.map_append]
   congr 1
   ·refine List.map_congr_left fun x hx=>?_
    simp [tt,zBx,ne x hx]
   ·simp [tt,zBx]
  show World.ownsRow _ _ _ _ (.slice _ (d.hs++[h]).length _) (d.hs++[h]).length (zK ((d.hs++[h]).map _))
  rw [e1,List.length_append,List.length_singleton,zCP]
  exact ho.kept hs (.inr (zAm ho hb2 (by decide)))
 ·rcases List.mem_append.1 hx with hx | hx
  ·have:=keep (by decide) (by decide) (f.ownA x hx) (Nat.le_refl _)
   simpa [aV,zBx,ne x hx] using this
  ·rw [List.mem_singleton] at hx
   subst hx
   have:=keep (by decide) (by decide) c.ownA hN
   simpa [aV,zBx] using this
 ·rcases List.mem_append.1 hx with hx | hx
  ·have:=keep (by decide) (by decide) (f.ownC x hx) (Nat.le_refl _)
   simpa [cV,zBx,ne x hx] using this
  ·rw [List.mem_singleton] at hx
   subst hx
   have:=keep (by decide) (by decide) c.ownC hN
   simpa [cV,zBx] using this
 ·rcases List.mem_append.1 hx with hx | hx
  ·have:=keep (by decide) (by decide) (f.ownK x hx k hk) (Nat.le_refl _)
   simpa [ne x hx] using this
  ·rw [List.mem_singleton] at hx
   subst hx
   have:=keep (by decide) (by decide) (c.ownK k) hN
   simpa using this
end
end Go.Proofs.YtnbleebilmghcabGreat
namespace Go.Proofs.YtnbleebilmghcabGreat
open Go Go.RowKit
theorem zEM (base:Nat) (t e:TypeId) (i:TypeInfo) (z:Value) (size bytes:Nat) (ht:Tryz.prog.underlying t=some (.slice e)) (hi:Tryz.prog.info? e=some i) (hz:i.zero=some z) (hsize:i.size=size) (hby:i.bytes=bytes) (hzs:z.cells.size=size) (hsz:0<size) (w:World) (v:Value) (n:Nat) (xs:List Value) (hown:w.ownsRow base e size v n xs)
  (A:Option Addr) (m c:Nat) (news:List Value) (hc:zDB w A m size news) (h63:n+m≤maxLen) (hbytes:(n+m)*bytes≤140737488355328) (hbase:base≤w.heap.size) (hA:m=0→A=none→c=0) :
  ∃ v' w',(∀ ty,(Builtin.append_ #[t,t] ty #[v,.slice A m c]).run Tryz.prog w=.ok v' w')∧w'.ownsRow base e size v' (n+m) (xs++news)∧w.grownBy w' v.ownBlock∧(v'.ownBlock=v.ownBlock∨v'.ownBlock=some w.heap.size):=by
 obtain ⟨h1,h2,h3⟩:=hc
 cases A with
 | some a =>
  have hn:∀ j u,news[j]?=some u→w.cell? (a.add j)=some u:=fun j u hj=>by
   rcases h3 with h3 | ⟨ad,h3,h4⟩
   ·subst h3
    have:news=[]:=List.eq_nil_of_length_eq_zero (by omega)
    subst this;simp at hj
   ·cases h3;exact h4 j u hj
  obtain ⟨v',w',hr,g1,g2,_,g4⟩:=run_append_own_at (P:=Tryz.prog) w base t 0 e i z size bytes ht hi hz hsize hby hzs hsz v n xs hown a m c news h1 hn h2 h63 hbytes hbase
  exact ⟨v',w',fun ty=>hr,g1,g2,g4⟩
 | none =>
  have hm:m=0:=by
   rcases h3 with h3 | ⟨ad,h3,_⟩
   ·exact h3
   ·cases h3
  subst hm
  have hx0:news=[]:=List.eq_nil_of_length_eq_zero (by omega)
  subst hx0
  obtain rfl:=hA rfl rfl
  refine ⟨v,w,fun ty=>?_,by rw [Nat.add_zero,List.append_nil];exact hown,⟨rfl,rfl,rfl,Nat.le_refl _,fun _ _ _=>rfl⟩,.inl rfl⟩
  rcases hown.2 with ⟨rfl,hn0⟩ | ⟨g,cap,cur,rfl,hb,hg,hcap,rest⟩
  ·simp [Builtin.append_,run_underlying ht,sizeOf,typeInfo,hi,Builtin.lenOf,Builtin.firstCells,loadCells,loadCellsFrom,storeCells]
  ·simp [Builtin.append_,run_underlying ht,sizeOf,typeInfo,hi,Builtin.lenOf,Builtin.firstCells,loadCells,loadCellsFrom,storeCells,hcap]
theorem zMW (W:World) (e size:Nat):(W.alloc (.cells #[] e)).ownsRow W.heap.size e size (.slice (some ⟨W.heap.size,0,none⟩) 0 0) 0 []:=by
 refine ⟨by simp,.inr ⟨W.heap.size,0,#[],rfl,Nat.le_refl _,?_,Nat.le_refl _,Nat.zero_le _,by simp,by simp⟩⟩
 show (W.heap.push _)[W.heap.size]?=_
 simp
structure G18 where
 v0:Value
 v5:Value
 S1:Nat
 v8:Value
 v13:Value
def g18:G18:=⟨undef,undef,0,undef,undef⟩
structure R18 (Wr:World) (b3 q n:Nat) (X1 X2:List Value) (r:RowI) (γ:G18) (L:Nat→Bool) (W:World):Prop where
 bel:L 15=false→Below Wr.heap.size Wr W
 o0:L 0=true→L 5=false→W.ownsRow Wr.heap.size 116 11 γ.v0 0 []
 o5:L 5=true→L 8=false→W.ownsRow Wr.heap.size 116 11 γ.v5 q X1
 o7:L 7=true→L 8=false→Bxs γ.S1 [(zH r,116)] W
 s0:L 7=true→L 0=true→L 5=false→γ.v0.ownBlock≠some γ.S1
 s5:L 7=true→L 5=true→L 8=false→γ.v5.ownBlock≠some γ.S1
 o8:L 8=true→L 13=false→W.ownsRow Wr.heap.size 116 11 γ.v8 (q+1) (X1++zH r)
 o13:L 13=true→L 15=false→W.ownsRow Wr.heap.size 116 11 γ.v13 (n+1) (X1++zH r++X2)
 fin:L 15=true→∃ W',Below Wr.heap.size Wr W'∧W'.ownsRow Wr.heap.size 116 11 γ.v13 (n+1) (X1++zH r++X2)∧W=W'.setCell ⟨b3,0,none⟩ γ.v13
section
variable {Wr:World} {b3 q n:Nat} {X1 X2:List Value} {r:RowI} {γ:G18} {L:Nat→Bool} {W W1:World}
theorem R18.start (Wr:World) (b3 q n:Nat) (X1 X2:List Value) (r:RowI):R18 Wr b3 q n X1 X2 r g18 (fun _=>false) Wr.drew :=
 ⟨fun _=>(Below.refl _ _).drew,(fun e=>by cases e),(fun e=>by cases e),(fun e=>by cases e),(fun e=>by cases e),(fun e=>by cases e),(fun e=>by cases e),(fun e=>by cases e),(fun e=>by cases e)⟩
theorem R18.congr {L':Nat→Bool} (h:R18 Wr b3 q n X1 X2 r γ L W) (e:∀ j,j=0∨j=5∨j=7∨j=8∨j=13∨j=15→L' j=L j):R18 Wr b3 q n X1 X2 r γ L' W:=by
 have e0:=e 0 (by omega);have e5:=e 5 (by omega);have e7:=e 7 (by omega);have e8:=e 8 (by omega);have e13:=e 13 (by omega);have e15:=e 15 (by omega)
 exact ⟨by rw [e15];exact h.bel,by rw [e0,e5];exact h.o0,by rw [e5,e8];exact h.o5,by rw [e7,e8];exact h.o7,by rw [e7,e0,e5];exact h.s0,by rw [e7,e5,e8];exact h.s5,by rw [e8,e13];exact h.o8,by rw [e13,e15];exact h.o13,by rw [e15];exact h.fin⟩
theorem R18.same (h:R18 Wr b3 q n X1 X2 r γ L W) {i:Nat} (hi:i≠0∧i≠5∧i≠7∧i≠8∧i≠13∧i≠15):R18 Wr b3 q n X1 X2 r γ (upd L i) W:=h.congr fun j hj=>zL (by omega)
theorem R18.mk0 (h:R18 Wr b3 q n X1 X2 r γ L W) (q5:L 5=false) (q8:L 8=false) (q13:L 13=false) (q15:L 15=false):R18 Wr b3 q n X1 X2 r ⟨.slice (some ⟨W.heap.size,0,none⟩) 0 0,γ.v5,γ.S1,γ.v8,γ.v13⟩ (upd L 0) (W.alloc (.cells #[] 116)):=by
 have e:∀ j,j≠0→upd L 0 j=L j:=fun j hj=>zL hj
 have hb:=zAS W (.cells #[] 116)
 have hB:=h.bel q15
 refine ⟨fun _=>hB.trans (hb.mono hB.size),fun _ _=>zBX (zMW W 116 11) hB.size,?_,?_,fun e7 _ _ hk=>?_,?_,?_,?_,?_⟩
 ·rw [e 5 (by decide),q5];exact fun x=>(by cases x)
 ·rw [e 7 (by decide),e 8 (by decide)];exact fun a b=>(h.o7 a b).below hb
 ·rw [e 7 (by decide)] at e7
  have:=(h.o7 e7 q8).lt (k:=0) rfl
  have hk:W.heap.size=γ.S1:=Option.some.inj hk
  simp only [Nat.add_zero] at this
  omega
 ·rw [e 5 (by decide),q5];exact fun _ x=>(by cases x)
 ·rw [e 8 (by decide),q8];exact fun x=>(by cases x)
 ·rw [e 13 (by decide),q13];exact fun x=>(by cases x)
 ·rw [e 15 (by decide),q15];exact fun x=>(by cases x)
theorem R18.app5 (h:R18 Wr b3 q n X1 X2 r γ L W) (t0:L 0=true) (hL:L 5=false) (q8:L 8=false) (q13:L 13=false) (q15:L 15=false) {v':Value} (ho:W1.ownsRow Wr.heap.size 116 11 v' q X1) (hg:W.grownBy W1 γ.v0.ownBlock) (hm:v'.ownBlock=γ.v0.ownBlock∨v'.ownBlock=some W.heap.size):R18 Wr b3 q n X1 X2 r ⟨γ.v0,v',γ.S1,γ.v8,γ.v13⟩ (upd L 5) W1:=by
 have e:∀ j,j≠5→upd L 5 j=L j:=fun j hj=>zL hj
 have hB:=h.bel q15
 have o0:=h.o0 t0 hL
 refine ⟨fun _=>hB.trans (zZ hg (fun k ek=>(o0.lt k ek).1) hB.size),fun _ x=>?_,fun _ _=>ho,?_,fun _ _ x=>?_,fun e7 _ _=>?_,?_,?_,?_⟩
 ·rw [zAw] at x;cases x
 ·rw [e 7 (by decide),e 8 (by decide)];exact fun a b=>zAy (h.o7 a b) hg (h.s0 a t0 hL)
 ·rw [zAw] at x;cases x
 ·rw [e 7 (by decide)] at e7
  have hlt:=(h.o7 e7 q8).lt (k:=0) rfl
  rw [Nat.add_zero] at hlt
  rcases hm with hm | hm
  ·show v'.ownBlock≠_;rw [hm];exact h.s0 e7 t0 hL
  ·show v'.ownBlock≠_;rw [hm];intro x;have x:W.heap.size=γ.S1:=Option.some.inj x;omega
 ·rw [e 8 (by decide),q8];exact fun x=>(by cases x)
 ·rw [e 13 (by decide),q13];exact fun x=>(by cases x)
 ·rw [e 15 (by decide),q15];exact fun x=>(by cases x)
theorem R18.mk7 (h:R18 Wr b3 q n X1 X2 r γ L W) (q8:L 8=false) (q13:L 13=false) (q15:L 15=false):R18 Wr b3 q n X1 X2 r ⟨γ.v0,γ.v5,W.heap.size,γ.v8,γ.v13⟩ (upd L 7) (W.alloc (.cells (zH r).toArray 116)):=by
 have e:∀ j,j≠7→upd L 7 j=L j:=fun j hj=>zL hj
 have hb:=zAS W (.cells (zH r).toArray 116)
 have hB:=h.bel q15
 refine ⟨fun _=>hB.trans (hb.mono hB.size),?_,?_,fun _ _=>Bxs.start W [(zH r,116)],fun _ e0 e5 hk=>?_,fun _ e5 _ hk=>?_,?_,?_,?_⟩
 ·rw [e 0 (by decide),e 5 (by decide)];exact fun a b=>zc (h.o0 a b) hb
 ·rw [e 5 (by decide),e 8 (by decide)];exact fun a b=>zc (h.o5 a b) hb
 ·rw [e 0 (by decide)] at e0
  rw [e 5 (by decide)] at e5
  have:=((h.o0 e0 e5).lt _ hk).2
  simp only at this
  omega
 ·rw [e 5 (by decide)] at e5
  have:=((h.o5 e5 q8).lt _ hk).2
  simp only at this
  omega
 ·rw [e 8 (by decide),q8];exact fun x=>(by cases x)
 ·rw [e 13 (by decide),q13];exact fun x=>(by cases x)
 ·rw [e 15 (by decide),q15];exact fun x=>(by cases x)
theorem R18.app8 (h:R18 Wr b3 q n X1 X2 r γ L W) (t5:L 5=true) (hL:L 8=false) (q13:L 13=false) (q15:L 15=false) {v':Value} (ho:W1.ownsRow Wr.heap.size 116 11 v' (q+1) (X1++zH r)) (hg:W.grownBy W1 γ.v5.ownBlock):R18 Wr b3 q n X1 X2 r ⟨γ.v0,γ.v5,γ.S1,v',γ.v13⟩ (upd L 8) W1:=by
 have e:∀ j,j≠8→upd L 8 j=L j:=fun j hj=>zL hj
 have hB:=h.bel q15
 have o5:=h.o5 t5 hL
 refine ⟨fun _=>hB.trans (zZ hg (fun k ek=>(o5.lt k ek).1) hB.size),?_,fun _ x=>?_,fun _ x=>?_,?_,fun _ _ x=>?_,fun _ _=>ho,?_,?_⟩
 ·rw [e 5 (by decide),t5];exact fun _ x=>(by cases x)
 ·rw [zAw] at x;cases x
 ·rw [zAw] at x;cases x
 ·rw [e 5 (by decide),t5];exact fun _ _ x=>(by cases x)
 ·rw [zAw] at x;cases x
 ·rw [e 13 (by decide),q13];exact fun x=>(by cases x)
 ·rw [e 15 (by decide),q15];exact fun x=>(by cases x)
theorem R18.app13 (h:R18 Wr b3 q n X1 X2 r γ L W) (t5:L 5=true) (t8:L 8=true) (hL:L 13=false) (q15:L 15=false) {v':Value} (ho:W1.ownsRow Wr.heap.size 116 11 v' (n+1) (X1++zH r++X2)) (hg:W.grownBy W1 γ.v8.ownBlock):R18 Wr b3 q n X1 X2 r ⟨γ.v0,γ.v5,γ.S1,γ.v8,v'⟩ (upd L 13) W1:=by
 have e:∀ j,j≠13→upd L 13 j=L j:=fun j hj=>zL hj
 have hB:=h.bel q15
 have o8:=h.o8 t8 hL
 refine ⟨fun _=>hB.trans (zZ hg (fun k ek=>(o8.lt k ek).1) hB.size),?_,?_,?_,?_,?_,fun _ x=>?_,fun _ _=>ho,?_⟩
 ·rw [e 5 (by decide),t5];exact fun _ x=>(by cases x)
 ·rw [e 8 (by decide),t8];exact fun _ x=>(by cases x)
 ·rw [e 8 (by decide),t8];exact fun _ x=>(by cases x)
 ·rw [e 5 (by decide),t5];exact fun _ _ x=>(by cases x)
 ·rw [e 8 (by decide),t8];exact fun _ _ x=>(by cases x)
 ·rw [zAw] at x;cases x
 ·rw [e 15 (by decide),q15];exact fun x=>(by cases x)
theorem R18.put (h:R18 Wr b3 q n X1 X2 r γ L W) (t5:L 5=true) (t8:L 8=true) (t13:L 13=true) (hL:L 15=false):R18 Wr b3 q n X1 X2 r γ (upd L 15) (W.setCell ⟨b3,0,none⟩ γ.v13):=by
 have e:∀ j,j≠15→upd L 15 j=L j:=fun j hj=>zL hj
 refine ⟨fun x=>?_,?_,?_,?_,?_,?_,?_,fun _ x=>?_,fun _=>⟨W,h.bel hL,h.o13 t13 hL,rfl⟩⟩
 ·rw [zAw] at x;cases x
 ·rw [e 5 (by decide),t5];exact fun _ x=>(by cases x)
 ·rw [e 8 (by decide),t8];exact fun _ x=>(by cases x)
 ·rw [e 8 (by decide),t8];exact fun _ x=>(by cases x)
 ·rw [e 5 (by decide),t5];exact fun _ _ x=>(by cases x)
 ·rw [e 8 (by decide),t8];exact fun _ _ x=>(by cases x)
 ·rw [e 13 (by decide),t13];exact fun _ x=>(by cases x)
 ·rw [zAw] at x;cases x
end
end Go.Proofs.YtnbleebilmghcabGreat
