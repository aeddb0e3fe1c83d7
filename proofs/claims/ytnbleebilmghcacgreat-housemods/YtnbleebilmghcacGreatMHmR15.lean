/- A drawn region: two worlds asked for and kept. -/
import Derived.Test.YtnbleebilmghcacGreatMX
set_option linter.all false
namespace Go.Proofs.YtnbleebilmghcacGreat
open Go Go.RowKit
structure G15 where
 p:Nat
 q:Nat
 A:Option Addr
 c:Nat
 G:Option Addr
 gc:Nat
 B:Option Addr
 d:Nat
 H:Option Addr
 hd:Nat
def g15:G15:=⟨0,0,none,0,none,0,none,0,none,0⟩
def slP (P:Wd) (A:Option Addr) (c:Nat) (G:Option Addr) (gc:Nat):List Value:=[.slice A P.rows.length c,.slice G P.gens.length gc]
structure R15 (W5:World) (P Q:Wd) (γ:G15) (L:Nat→Bool) (W:World):Prop where
 bel:Below W5.heap.size W5 W
 w1:L 2=true→WldAt W γ.A γ.c γ.G γ.gc P
 w2:L 5=true→WldAt W γ.B γ.d γ.H γ.hd Q
 n1p:L 2=true→L 6=true→¬ Blk γ.A γ.G P γ.p
 n1q:L 2=true→L 7=true→¬ Blk γ.A γ.G P γ.q
 n2p:L 5=true→L 6=true→¬ Blk γ.B γ.H Q γ.p
 n2q:L 5=true→L 7=true→¬ Blk γ.B γ.H Q γ.q
 bp:L 6=true→W5.heap.size≤γ.p∧Bxs γ.p [(if L 8=true then slP P γ.A γ.c γ.G γ.gc else [.slice none 0 0,.slice none 0 0],51)] W
 bq:L 7=true→W5.heap.size≤γ.q∧Bxs γ.q [(if L 9=true then slP Q γ.B γ.d γ.H γ.hd else [.slice none 0 0,.slice none 0 0],51)] W
 ne:L 6=true→L 7=true→γ.p≠γ.q
section
variable {W5:World} {P Q:Wd} {γ:G15} {L:Nat→Bool} {W W1:World}
theorem R15.start (W5:World) (P Q:Wd):R15 W5 P Q g15 (fun _=>false) W5.drew :=
 ⟨(Below.refl _ _).drew,fun h=>(by cases h),fun h=>(by cases h),fun h=>(by cases h),fun h=>(by cases h),fun h=>(by cases h),fun h=>(by cases h),fun h=>(by cases h),fun h=>(by cases h),fun h=>(by cases h)⟩
theorem R15.congr {L':Nat→Bool} (h:R15 W5 P Q γ L W) (e:∀ j,j=2∨5≤j→L' j=L j):R15 W5 P Q γ L' W:=by
 have e1:=e 2 (by omega);have e3:=e 5 (by omega);have e4:=e 6 (by omega);have e5:=e 7 (by omega);have e6:=e 8 (by omega);have e7:=e 9 (by omega)
 refine ⟨h.bel,?_,?_,?_,?_,?_,?_,?_,?_,?_⟩
 ·rw [e1];exact h.w1
 ·rw [e3];exact h.w2
 ·rw [e1,e4];exact h.n1p
 ·rw [e1,e5];exact h.n1q
 ·rw [e3,e4];exact h.n2p
 ·rw [e3,e5];exact h.n2q
 ·rw [e4,e6];exact h.bp
 ·rw [e5,e7];exact h.bq
 ·rw [e4,e5];exact h.ne
theorem R15.same (h:R15 W5 P Q γ L W) {i:Nat} (hi:i=0∨i=1∨i=3∨i=4):R15 W5 P Q γ (upd L i) W:=h.congr fun j hj=>zM (by omega)
theorem R15.world1 (h:R15 W5 P Q γ L W) (h6:L 8=false) {A:Option Addr} {c:Nat} {G:Option Addr} {gc:Nat} (hN:WldNew W.heap.size W1 A c G gc P) (hb:Below W.heap.size W W1):R15 W5 P Q ⟨γ.p,γ.q,A,c,G,gc,γ.B,γ.d,γ.H,γ.hd⟩ (upd L 2) W1:=by
 have e:∀ j,j≠2→upd L 2 j=L j:=fun j hj=>zM hj
 refine ⟨h.bel.trans (hb.mono h.bel.size),fun _=>hN.toWldAt,?_,fun _ h4 hk=>?_,fun _ h5 hk=>?_,?_,?_,?_,?_,?_⟩
 ·rw [e 5 (by decide)];exact fun e=>(h.w2 e).below hb
 ·rw [e 6 (by decide)] at h4
  have:=zCX hN hk
  have:=(h.bp h4).2.lt (k:=0) rfl
  simp only at *
  omega
 ·rw [e 7 (by decide)] at h5
  have:=zCX hN hk
  have:=(h.bq h5).2.lt (k:=0) rfl
  simp only at *
  omega
 ·rw [e 5 (by decide),e 6 (by decide)];exact h.n2p
 ·rw [e 5 (by decide),e 7 (by decide)];exact h.n2q
 ·rw [e 6 (by decide),e 8 (by decide),h6]
  intro e4
  have:=h.bp e4
  rw [h6] at this
  exact ⟨this.1,this.2.below hb⟩
 ·rw [e 7 (by decide),e 9 (by decide)];exact fun e=>⟨(h.bq e).1,(h.bq e).2.below hb⟩
 ·rw [e 6 (by decide),e 7 (by decide)];exact h.ne
theorem R15.world2 (h:R15 W5 P Q γ L W) (h7:L 9=false) {A:Option Addr} {c:Nat} {G:Option Addr} {gc:Nat} (hN:WldNew W.heap.size W1 A c G gc Q) (hb:Below W.heap.size W W1):R15 W5 P Q ⟨γ.p,γ.q,γ.A,γ.c,γ.G,γ.gc,A,c,G,gc⟩ (upd L 5) W1:=by
 have e:∀ j,j≠5→upd L 5 j=L j:=fun j hj=>zM hj
 refine ⟨h.bel.trans (hb.mono h.bel.size),?_,fun _=>hN.toWldAt,?_,?_,fun _ h4 hk=>?_,fun _ h5 hk=>?_,?_,?_,?_⟩
 ·rw [e 2 (by decide)];exact fun e=>(h.w1 e).below hb
 ·rw [e 2 (by decide),e 6 (by decide)];exact h.n1p
 ·rw [e 2 (by decide),e 7 (by decide)];exact h.n1q
 ·rw [e 6 (by decide)] at h4
  have:=zCX hN hk
  have:=(h.bp h4).2.lt (k:=0) rfl
  simp only at *
  omega
 ·rw [e 7 (by decide)] at h5
  have:=zCX hN hk
  have:=(h.bq h5).2.lt (k:=0) rfl
  simp only at *
  omega
 ·rw [e 6 (by decide),e 8 (by decide)];exact fun e=>⟨(h.bp e).1,(h.bp e).2.below hb⟩
 ·rw [e 7 (by decide),e 9 (by decide),h7]
  intro e5
  have:=h.bq e5
  rw [h7] at this
  exact ⟨this.1,this.2.below hb⟩
 ·rw [e 6 (by decide),e 7 (by decide)];exact h.ne
theorem R15.makep (h:R15 W5 P Q γ L W) (h6:L 8=false):R15 W5 P Q ⟨W.heap.size,γ.q,γ.A,γ.c,γ.G,γ.gc,γ.B,γ.d,γ.H,γ.hd⟩ (upd L 6) (W.alloc (.cells #[.slice none 0 0,.slice none 0 0] 51)):=by
 have e:∀ j,j≠6→upd L 6 j=L j:=fun j hj=>zM hj
 have hb:=zAo W (.cells #[.slice none 0 0,.slice none 0 0] 51)
 refine ⟨h.bel.trans (hb.mono h.bel.size),?_,?_,fun h1 _ hk=>?_,?_,fun h3 _ hk=>?_,?_,fun _=>?_,?_,fun _ h5=>?_⟩
 ·rw [e 2 (by decide)];exact fun e=>(h.w1 e).below hb
 ·rw [e 5 (by decide)];exact fun e=>(h.w2 e).below hb
 ·rw [e 2 (by decide)] at h1
  exact absurd (zBx (h.w1 h1) hk) (by simp)
 ·rw [e 2 (by decide),e 7 (by decide)];exact h.n1q
 ·rw [e 5 (by decide)] at h3
  exact absurd (zBx (h.w2 h3) hk) (by simp)
 ·rw [e 5 (by decide),e 7 (by decide)];exact h.n2q
 ·rw [e 8 (by decide),h6]
  exact ⟨h.bel.size,Bxs.start W [([.slice none 0 0,.slice none 0 0],51)]⟩
 ·rw [e 7 (by decide),e 9 (by decide)];exact fun e=>⟨(h.bq e).1,(h.bq e).2.below hb⟩
 ·rw [e 7 (by decide)] at h5
  have:=(h.bq h5).2.lt (k:=0) rfl
  simp only at *
  omega
theorem R15.makeq (h:R15 W5 P Q γ L W) (h7:L 9=false):R15 W5 P Q ⟨γ.p,W.heap.size,γ.A,γ.c,γ.G,γ.gc,γ.B,γ.d,γ.H,γ.hd⟩ (upd L 7) (W.alloc (.cells #[.slice none 0 0,.slice none 0 0] 51)):=by
 have e:∀ j,j≠7→upd L 7 j=L j:=fun j hj=>zM hj
 have hb:=zAo W (.cells #[.slice none 0 0,.slice none 0 0] 51)
 refine ⟨h.bel.trans (hb.mono h.bel.size),?_,?_,?_,fun h1 _ hk=>?_,?_,fun h3 _ hk=>?_,?_,fun _=>?_,fun h4 _=>?_⟩
 ·rw [e 2 (by decide)];exact fun e=>(h.w1 e).below hb
 ·rw [e 5 (by decide)];exact fun e=>(h.w2 e).below hb
 ·rw [e 2 (by decide),e 6 (by decide)];exact h.n1p
 ·rw [e 2 (by decide)] at h1
  exact absurd (zBx (h.w1 h1) hk) (by simp)
 ·rw [e 5 (by decide),e 6 (by decide)];exact h.n2p
 ·rw [e 5 (by decide)] at h3
  exact absurd (zBx (h.w2 h3) hk) (by simp)
 ·rw [e 6 (by decide),e 8 (by decide)];exact fun e=>⟨(h.bp e).1,(h.bp e).2.below hb⟩
 ·rw [e 9 (by decide),h7]
  exact ⟨h.bel.size,Bxs.start W [([.slice none 0 0,.slice none 0 0],51)]⟩
 ·rw [e 6 (by decide)] at h4
  have:=(h.bp h4).2.lt (k:=0) rfl
  simp only at *
  omega
theorem R15.put6 (h:R15 W5 P Q γ L W) (h1:L 2=true) (h4:L 6=true) (h6:L 8=false):R15 W5 P Q γ (upd L 8) (W.setCells γ.p 0 (slP P γ.A γ.c γ.G γ.gc)):=by
 have e:∀ j,j≠8→upd L 8 j=L j:=fun j hj=>zM hj
 have hbp:=h.bp h4
 rw [h6] at hbp
 refine ⟨zG _ hbp.1 _ _ _ h.bel,?_,?_,?_,?_,?_,?_,fun _=>?_,?_,?_⟩
 ·rw [e 2 (by decide)];exact fun h1=>zCZ (h.w1 h1) (h.n1p h1 h4)
 ·rw [e 5 (by decide)];exact fun h3=>zCZ (h.w2 h3) (h.n2p h3 h4)
 ·rw [e 2 (by decide),e 6 (by decide)];exact h.n1p
 ·rw [e 2 (by decide),e 7 (by decide)];exact h.n1q
 ·rw [e 5 (by decide),e 6 (by decide)];exact h.n2p
 ·rw [e 5 (by decide),e 7 (by decide)];exact h.n2q
 ·rw [zAq]
  exact ⟨hbp.1,hbp.2.give 0 rfl _ rfl⟩
 ·rw [e 7 (by decide),e 9 (by decide)]
  intro h5
  have:=h.ne h4 h5
  exact ⟨(h.bq h5).1,(h.bq h5).2.turn (by simp only [List.length_cons,List.length_nil];omega)⟩
 ·rw [e 6 (by decide),e 7 (by decide)];exact h.ne
theorem R15.put7 (h:R15 W5 P Q γ L W) (h3:L 5=true) (h5:L 7=true) (h7:L 9=false):R15 W5 P Q γ (upd L 9) (W.setCells γ.q 0 (slP Q γ.B γ.d γ.H γ.hd)):=by
 have e:∀ j,j≠9→upd L 9 j=L j:=fun j hj=>zM hj
 have hbq:=h.bq h5
 rw [h7] at hbq
 refine ⟨zG _ hbq.1 _ _ _ h.bel,?_,?_,?_,?_,?_,?_,?_,fun _=>?_,?_⟩
 ·rw [e 2 (by decide)];exact fun h1=>zCZ (h.w1 h1) (h.n1q h1 h5)
 ·rw [e 5 (by decide)];exact fun h3=>zCZ (h.w2 h3) (h.n2q h3 h5)
 ·rw [e 2 (by decide),e 6 (by decide)];exact h.n1p
 ·rw [e 2 (by decide),e 7 (by decide)];exact h.n1q
 ·rw [e 5 (by decide),e 6 (by decide)];exact h.n2p
 ·rw [e 5 (by decide),e 7 (by decide)];exact h.n2q
 ·rw [e 6 (by decide),e 8 (by decide)]
  intro h4
  have:=h.ne h4 h5
  exact ⟨(h.bp h4).1,(h.bp h4).2.turn (by simp only [List.length_cons,List.length_nil];omega)⟩
 ·rw [zAq]
  exact ⟨hbq.1,hbq.2.give 0 rfl _ rfl⟩
 ·rw [e 6 (by decide),e 7 (by decide)];exact h.ne
end
end Go.Proofs.YtnbleebilmghcacGreat
