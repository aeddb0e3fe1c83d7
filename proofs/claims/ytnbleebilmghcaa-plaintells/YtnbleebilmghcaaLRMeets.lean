/- Contracts of the document's Has and Meets, for right sets. -/
import Derived.Test.YtnbleebilmghcaaLPLawR0
set_option linter.unusedVariables false
set_option linter.unusedSimpArgs false
set_option linter.unnecessarySimpa false
namespace Go.Proofs.Ytnbleebilmghcaa
open Go.RowKit

theorem below_keep {W w1 : World} (hb : Below W.heap.size W w1) {p : Addr} {v : Value} (h : W.cell? p = some v) : w1.cell? p = some v :=
  (hb.cell (World.block_lt_of_cell? W p h)).trans h

theorem alloc_keep {W : World} {o : Obj} {p : Addr} {v : Value} (h : W.cell? p = some v) : (W.alloc o).cell? p = some v :=
  (World.cell?_alloc_lt _ _ _ (World.block_lt_of_cell? W p h)).trans h
theorem drew_keep {W : World} {p : Addr} {v : Value} (h : W.cell? p = some v) : W.drew.cell? p = some v := h

theorem bits_bel (n : Int) (w : World) (h0 : 0 ≤ n) (h1 : n ≤ 255) :
    Calls Try.prog 22 #[.int .i64 n] w fun e w' => e = .returned (.agg #[.bool (tb n 0), .bool (tb n 1), .bool (tb n 2), .bool (tb n 3), .bool (tb n 4), .bool (tb n 5), .bool (tb n 6), .bool (tb n 7)]) ∧
      Below w.heap.size w w' ∧ w'.heap.size = w.heap.size + 2 := by
  refine (bits_any n w h0 h1).mono ?_
  rintro e w1 ⟨rfl, rfl⟩
  exact ⟨rfl, by go_grown, by simp⟩

def hasB (a k : Int) : Bool := decide (0 ≤ k ∧ k < 8) && tb a k.toNat

set_option maxRecDepth 8000 in
set_option maxHeartbeats 400000 in
theorem rhas_any (a k : Int) (w : World) (h0 : 0 ≤ a) (h1 : a ≤ 255) :
    Calls Try.prog 26 #[.int .i64 a, .int .i64 k] w fun e w' => e = .returned (.bool (hasB a k)) ∧ Below w.heap.size w w' := by
  by_cases k0 : 0 ≤ k
  · by_cases k1 : k < 8
    · obtain ⟨j, rfl⟩ := Int.eq_ofNat_of_zero_le k0
      have hix := run_ix a j
      have hj : j < 8 := by omega
      go_enter Try.func26, Try.ntmps26
      go_wp2_with (first | (go_at_call 22; refine (bits_any _ _ h0 h1).mono ?_; rintro e w1 ⟨rfl, rfl⟩))
      go_ret
      exact ⟨by simp [hasB, k1], by go_grown⟩
    · go_enter Try.func26, Try.ntmps26
      go_wp2
      go_ret
      exact ⟨by simp [hasB]; omega, by go_grown⟩
  · go_enter Try.func26, Try.ntmps26
    go_wp2
    go_ret
    exact ⟨by simp [hasB]; omega, by go_grown⟩

def okAt (a n h : Int) (k : Nat) : Bool := !(tb a k && !tb h k || tb n k && tb h k)
def okTo (a n h : Int) (k : Nat) : Bool := (List.range k).all (fun j => okAt a n h j)

structure MW (w0 : World) (cs : Nat → List Value) (a n : Int) (l st : Nat → Bool) (v : Nat → Value) (g : Nat → Nat) (w : World) : Prop where
  bel : Below w0.heap.size w0 w
  c0 : w.cell? ⟨w0.heap.size, 0, none⟩ = some (.int .i64 a)
  c1 : w.cell? ⟨w0.heap.size, 1, none⟩ = some (.int .i64 n)
  own : ∀ k, k < 3 → l k = true → v k = .pointer (some ⟨g k, 0, none⟩) ∧ w0.heap.size < g k ∧ g k < w.heap.size ∧ w.there (g k) 0 8
  ne : ∀ j k, j < 3 → k < 3 → l j = true → l k = true → j ≠ k → g j ≠ g k
  has : ∀ k, k < 3 → st k = true → l k = true ∧ w.rangeAt (g k) 0 (cs k)

theorem MW.congr {w0 : World} {cs : Nat → List Value} {a n : Int} {l st l' st' : Nat → Bool} {v v' : Nat → Value} {g : Nat → Nat} {w : World} (h : MW w0 cs a n l st v g w)
    (hl : ∀ k, k < 3 → l' k = l k) (hst : ∀ k, k < 3 → st' k = st k) (hv : ∀ k, k < 3 → v' k = v k) : MW w0 cs a n l' st' v' g w :=
  ⟨h.bel, h.c0, h.c1, fun k hk e => by rw [hv k hk]; exact h.own k hk (by rw [← hl k hk]; exact e),
    fun j k hj hk e1 e2 => h.ne j k hj hk (by rw [← hl j hj]; exact e1) (by rw [← hl k hk]; exact e2), fun k hk e => by rw [hl k hk]; exact h.has k hk (by rw [← hst k hk]; exact e)⟩

theorem MW.below {w0 : World} {cs : Nat → List Value} {a n : Int} {l st : Nat → Bool} {v : Nat → Value} {g : Nat → Nat} {w w1 : World} (h : MW w0 cs a n l st v g w) (hb : Below w.heap.size w w1) : MW w0 cs a n l st v g w1 :=
  ⟨h.bel.trans (hb.mono h.bel.size), below_keep hb h.c0, below_keep hb h.c1,
    fun k hk e => by obtain ⟨h1, h2, h3, h4⟩ := h.own k hk e; exact ⟨h1, h2, Nat.lt_of_lt_of_le h3 hb.size, there_below hb h3 h4⟩,
    h.ne, fun k hk e => ⟨(h.has k hk e).1, range_below hb (h.own k hk (h.has k hk e).1).2.2.1 (h.has k hk e).2⟩⟩

def zeros : Array Value := #[.bool false, .bool false, .bool false, .bool false, .bool false, .bool false, .bool false, .bool false]
theorem there_new (w : World) (t : TypeId) : (w.alloc (.cells zeros t)).there w.heap.size 0 8 := fun j hj => by
  rcases (by omega : j = 0 ∨ j = 1 ∨ j = 2 ∨ j = 3 ∨ j = 4 ∨ j = 5 ∨ j = 6 ∨ j = 7) with rfl | rfl | rfl | rfl | rfl | rfl | rfl | rfl <;> simp [zeros, go_sem]

theorem MW.alloc {w0 : World} {cs : Nat → List Value} {a n : Int} {l st : Nat → Bool} {v : Nat → Value} {g : Nat → Nat} {w : World} (h : MW w0 cs a n l st v g w) (k : Nat) (hl : l k = false) (t : TypeId) :
    MW w0 cs a n (fun j => if j = k then true else l j) st (fun j => if j = k then .pointer (some ⟨w.heap.size, 0, none⟩) else v j) (fun j => if j = k then w.heap.size else g j) (w.alloc (.cells zeros t)) := by
  have hb : Below w.heap.size w (w.alloc (.cells zeros t)) := (Below.refl _ _).alloc (Nat.le_refl _) _
  have hlt := World.block_lt_of_cell? w _ h.c0
  refine ⟨h.bel.trans (hb.mono h.bel.size), below_keep hb h.c0, below_keep hb h.c1, fun j hj e => ?_, fun i j hi hj e1 e2 hne => ?_, fun j hj e => ?_⟩
  · by_cases hk : j = k
    · subst hk
      simp only [if_true]
      exact ⟨trivial, hlt, by simp, there_new w t⟩
    · simp only [hk, if_false] at e ⊢
      obtain ⟨h1, h2, h3, h4⟩ := h.own j hj e
      exact ⟨h1, h2, by simp; omega, there_below hb h3 h4⟩
  · by_cases hik : i = k <;> by_cases hjk : j = k
    · omega
    · simp only [hik, hjk, if_true, if_false] at e2 ⊢
      have := (h.own j hj e2).2.2.1; omega
    · simp only [hik, hjk, if_true, if_false] at e1 ⊢
      have := (h.own i hi e1).2.2.1; omega
    · simp only [hik, hjk, if_false] at e1 e2 ⊢
      exact h.ne i j hi hj e1 e2 hne
  · have h1 := h.has j hj e
    have hjk : j ≠ k := fun e' => by rw [e', hl] at h1; exact absurd h1.1 (by simp)
    simp only [hjk, if_false]
    exact ⟨h1.1, range_below hb (h.own j hj h1.1).2.2.1 h1.2⟩

theorem MW.store {w0 : World} {cs : Nat → List Value} {a n : Int} {l st : Nat → Bool} {v : Nat → Value} {g : Nat → Nat} {w : World} (h : MW w0 cs a n l st v g w) (k : Nat) (hk : k < 3) (hl : l k = true) (hlen : (cs k).length = 8) :
    MW w0 cs a n l (fun j => if j = k then true else st j) v g (w.setCells (g k) 0 (cs k)) := by
  obtain ⟨p1, p2, p3, p4⟩ := h.own k hk hl
  have keep : ∀ (o : Nat) (u : Value), w.cell? ⟨w0.heap.size, o, none⟩ = some u → (w.setCells (g k) 0 (cs k)).cell? ⟨w0.heap.size, o, none⟩ = some u := fun o u hu => by
    rw [World.cell?_setCells_out _ _ _ _ _ (fun e => by simp at e; omega)]; exact hu
  refine ⟨below_setCells _ (by omega) _ _ _ h.bel, keep _ _ h.c0, keep _ _ h.c1, fun j hj e => ?_, h.ne, fun j hj e => ?_⟩
  · obtain ⟨h1, h2, h3, h4⟩ := h.own j hj e
    exact ⟨h1, h2, by rw [size_setCells]; exact h3, World.there_setCells h4 _ _ _⟩
  · by_cases hjk : j = k
    · subst hjk
      exact ⟨hl, World.rangeAt_setCells_same _ _ _ _ (by rw [hlen]; exact p4)⟩
    · simp only [hjk, if_false] at e
      have h1 := h.has j hj e
      exact ⟨h1.1, World.rangeAt_setCells_apart h1.2 _ _ _ (.inl (h.ne j k hj hk h1.1 hl hjk))⟩
end Go.Proofs.Ytnbleebilmghcaa
