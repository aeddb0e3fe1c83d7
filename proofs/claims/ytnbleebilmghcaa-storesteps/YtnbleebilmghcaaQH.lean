/- RMeets, RRegion, RSame, PMatch -/
import Derived.Test.YtnbleebilmghcaaQG
set_option linter.all false
namespace Go.Proofs.Ytnbleebilmghcaa
open Go.RowKit
theorem below_keep {W w1 : World} (hb : Below W.heap.size W w1) {p : Addr} {v : Value} (h : W.cell? p = some v) : w1.cell? p = some v :=
  (hb.cell (World.block_lt_of_cell? W p h)).trans h
theorem alloc_keep {W : World} {o : Obj} {p : Addr} {v : Value} (h : W.cell? p = some v) : (W.alloc o).cell? p = some v :=
  (World.cell?_alloc_lt _ _ _ (World.block_lt_of_cell? W p h)).trans h
theorem drew_keep {W : World} {p : Addr} {v : Value} (h : W.cell? p = some v) : W.drew.cell? p = some v := h
theorem bits_bel (n : Int) (w : World) (h0 : 0 ≤ n) (h1 : n ≤ 255) :
    Calls Try.prog 22 #[.int .i64 n] w fun e w' => e = .returned (.agg #[.bool (tb n 0), .bool (tb n 1), .bool (tb n 2), .bool (tb n 3), .bool (tb n 4), .bool (tb n 5), .bool (tb n 6), .bool (tb n 7)]) ∧
      Below w.heap.size w w' ∧ w'.heap.size = w.heap.size + 2 := by
  refine (bits_any n w h0 h1).mono ?_
  rintro e w1 ⟨rfl, rfl⟩
  exact ⟨rfl, by go_grown, by simp⟩
def hasB (a k : Int) : Bool := decide (0 ≤ k ∧ k < 8) && tb a k.toNat
set_option maxRecDepth 8000 in
set_option maxHeartbeats 400000 in
theorem rhas_any (a k : Int) (w : World) (h0 : 0 ≤ a) (h1 : a ≤ 255) :
    Calls Try.prog 26 #[.int .i64 a, .int .i64 k] w fun e w' => e = .returned (.bool (hasB a k)) ∧ Below w.heap.size w w' := by
  by_cases k0 : 0 ≤ k
  · by_cases k1 : k < 8
    · obtain ⟨j, rfl⟩ := Int.eq_ofNat_of_zero_le k0
      have hix := run_ix a j
      have hj : j < 8 := by omega
      go_enter Try.func26, Try.ntmps26
      go_wp2_with (first | (go_at_call 22; refine (bits_any _ _ h0 h1).mono ?_; rintro e w1 ⟨rfl, rfl⟩))
      go_ret
      exact ⟨by simp [hasB, k1], by go_grown⟩
    · go_enter Try.func26, Try.ntmps26
      go_wp2
      go_ret
      exact ⟨by simp [hasB]; omega, by go_grown⟩
  · go_enter Try.func26, Try.ntmps26
    go_wp2
    go_ret
    exact ⟨by simp [hasB]; omega, by go_grown⟩
def okAt (a n h : Int) (k : Nat) : Bool := !(tb a k && !tb h k || tb n k && tb h k)
def okTo (a n h : Int) (k : Nat) : Bool := (List.range k).all (fun j => okAt a n h j)
structure MW (w0 : World) (cs : Nat → List Value) (a n : Int) (l st : Nat → Bool) (v : Nat → Value) (g : Nat → Nat) (w : World) : Prop where
  bel : Below w0.heap.size w0 w
  c0 : w.cell? ⟨w0.heap.size, 0, none⟩ = some (.int .i64 a)
  c1 : w.cell? ⟨w0.heap.size, 1, none⟩ = some (.int .i64 n)
  own : ∀ k, k < 3 → l k = true → v k = .pointer (some ⟨g k, 0, none⟩) ∧ w0.heap.size < g k ∧ g k < w.heap.size ∧ w.there (g k) 0 8
  ne : ∀ j k, j < 3 → k < 3 → l j = true → l k = true → j ≠ k → g j ≠ g k
  has : ∀ k, k < 3 → st k = true → l k = true ∧ w.rangeAt (g k) 0 (cs k)
theorem MW.congr {w0 : World} {cs : Nat → List Value} {a n : Int} {l st l' st' : Nat → Bool} {v v' : Nat → Value} {g : Nat → Nat} {w : World} (h : MW w0 cs a n l st v g w)
    (hl : ∀ k, k < 3 → l' k = l k) (hst : ∀ k, k < 3 → st' k = st k) (hv : ∀ k, k < 3 → v' k = v k) : MW w0 cs a n l' st' v' g w :=
  ⟨h.bel, h.c0, h.c1, fun k hk e => by rw [hv k hk]; exact h.own k hk (by rw [← hl k hk]; exact e),
    fun j k hj hk e1 e2 => h.ne j k hj hk (by rw [← hl j hj]; exact e1) (by rw [← hl k hk]; exact e2), fun k hk e => by rw [hl k hk]; exact h.has k hk (by rw [← hst k hk]; exact e)⟩
theorem MW.below {w0 : World} {cs : Nat → List Value} {a n : Int} {l st : Nat → Bool} {v : Nat → Value} {g : Nat → Nat} {w w1 : World} (h : MW w0 cs a n l st v g w) (hb : Below w.heap.size w w1) : MW w0 cs a n l st v g w1 :=
  ⟨h.bel.trans (hb.mono h.bel.size), below_keep hb h.c0, below_keep hb h.c1,
    fun k hk e => by obtain ⟨h1, h2, h3, h4⟩ := h.own k hk e; exact ⟨h1, h2, Nat.lt_of_lt_of_le h3 hb.size, there_below hb h3 h4⟩,
    h.ne, fun k hk e => ⟨(h.has k hk e).1, range_below hb (h.own k hk (h.has k hk e).1).2.2.1 (h.has k hk e).2⟩⟩
def zeros : Array Value := #[.bool false, .bool false, .bool false, .bool false, .bool false, .bool false, .bool false, .bool false]
theorem there_new (w : World) (t : TypeId) : (w.alloc (.cells zeros t)).there w.heap.size 0 8 := fun j hj => by
  rcases (by omega : j = 0 ∨ j = 1 ∨ j = 2 ∨ j = 3 ∨ j = 4 ∨ j = 5 ∨ j = 6 ∨ j = 7) with rfl | rfl | rfl | rfl | rfl | rfl | rfl | rfl <;> simp [zeros, go_sem]
theorem MW.alloc {w0 : World} {cs : Nat → List Value} {a n : Int} {l st : Nat → Bool} {v : Nat → Value} {g : Nat → Nat} {w : World} (h : MW w0 cs a n l st v g w) (k : Nat) (hl : l k = false) (t : TypeId) :
    MW w0 cs a n (fun j => if j = k then true else l j) st (fun j => if j = k then .pointer (some ⟨w.heap.size, 0, none⟩) else v j) (fun j => if j = k then w.heap.size else g j) (w.alloc (.cells zeros t)) := by
  have hb : Below w.heap.size w (w.alloc (.cells zeros t)) := (Below.refl _ _).alloc (Nat.le_refl _) _
  have hlt := World.block_lt_of_cell? w _ h.c0
  refine ⟨h.bel.trans (hb.mono h.bel.size), below_keep hb h.c0, below_keep hb h.c1, fun j hj e => ?_, fun i j hi hj e1 e2 hne => ?_, fun j hj e => ?_⟩
  · by_cases hk : j = k
    · subst hk
      simp only [if_true]
      exact ⟨trivial, hlt, by simp, there_new w t⟩
    · simp only [hk, if_false] at e ⊢
      obtain ⟨h1, h2, h3, h4⟩ := h.own j hj e
      exact ⟨h1, h2, by simp; omega, there_below hb h3 h4⟩
  · by_cases hik : i = k <;> by_cases hjk : j = k
    · omega
    · simp only [hik, hjk, if_true, if_false] at e2 ⊢
      have := (h.own j hj e2).2.2.1; omega
    · simp only [hik, hjk, if_true, if_false] at e1 ⊢
      have := (h.own i hi e1).2.2.1; omega
    · simp only [hik, hjk, if_false] at e1 e2 ⊢
      exact h.ne i j hi hj e1 e2 hne
  · have h1 := h.has j hj e
    have hjk : j ≠ k := fun e' => by rw [e', hl] at h1; exact absurd h1.1 (by simp)
    simp only [hjk, if_false]
    exact ⟨h1.1, range_below hb (h.own j hj h1.1).2.2.1 h1.2⟩
theorem MW.store {w0 : World} {cs : Nat → List Value} {a n : Int} {l st : Nat → Bool} {v : Nat → Value} {g : Nat → Nat} {w : World} (h : MW w0 cs a n l st v g w) (k : Nat) (hk : k < 3) (hl : l k = true) (hlen : (cs k).length = 8) :
    MW w0 cs a n l (fun j => if j = k then true else st j) v g (w.setCells (g k) 0 (cs k)) := by
  obtain ⟨p1, p2, p3, p4⟩ := h.own k hk hl
  have keep : ∀ (o : Nat) (u : Value), w.cell? ⟨w0.heap.size, o, none⟩ = some u → (w.setCells (g k) 0 (cs k)).cell? ⟨w0.heap.size, o, none⟩ = some u := fun o u hu => by
    rw [World.cell?_setCells_out _ _ _ _ _ (fun e => by simp at e; omega)]; exact hu
  refine ⟨below_setCells _ (by omega) _ _ _ h.bel, keep _ _ h.c0, keep _ _ h.c1, fun j hj e => ?_, h.ne, fun j hj e => ?_⟩
  · obtain ⟨h1, h2, h3, h4⟩ := h.own j hj e
    exact ⟨h1, h2, by rw [size_setCells]; exact h3, World.there_setCells h4 _ _ _⟩
  · by_cases hjk : j = k
    · subst hjk
      exact ⟨hl, World.rangeAt_setCells_same _ _ _ _ (by rw [hlen]; exact p4)⟩
    · simp only [hjk, if_false] at e
      have h1 := h.has j hj e
      exact ⟨h1.1, World.rangeAt_setCells_apart h1.2 _ _ _ (.inl (h.ne j k hj hk h1.1 hl hjk))⟩
end Go.Proofs.Ytnbleebilmghcaa
namespace Go.Proofs.Ytnbleebilmghcaa
open Go.RowKit
def lists (a n h : Int) : Nat → List Value := fun k => if k = 0 then (arr a).toList else if k = 1 then (arr n).toList else (arr h).toList
def MI (w0 : World) (a n h : Int) (L : Nat → Bool) (ac : Act) (w : World) : Prop :=
  ∃ (v : Nat → Value) (g : Nat → Nat) (x9 x10 x11 x12 x13 x14 x15 x16 : Value),
    ac = ⟨(.agg #[.int .i64 a, .int .i64 n] :: .int .i64 h :: .pointer (some ⟨w0.heap.size, 0, none⟩) :: undef :: .bool false :: v 0 :: v 1 :: v 2 :: undef :: x9 :: x10 :: x11 :: x12 :: x13 :: x14 :: x15 :: x16 ::
      undef :: undef :: undef :: undef :: undef :: undef :: undef :: undef :: undef :: undef :: undef :: undef :: undef :: undef :: undef :: undef :: undef :: undef :: undef :: undef :: undef :: undef :: undef :: []).toArray, []⟩ ∧
    (L 0 = true → x9 = .pointer (some ⟨w0.heap.size, 0, none⟩)) ∧ (L 1 = true → x10 = .int .i64 a) ∧ (L 2 = true → x11 = .agg (arr a)) ∧
    (L 3 = true → x12 = .pointer (some ⟨w0.heap.size, 1, none⟩)) ∧ (L 4 = true → x13 = .int .i64 n) ∧ (L 5 = true → x14 = .agg (arr n)) ∧
    (L 6 = true → x15 = .int .i64 h) ∧ (L 7 = true → x16 = .agg (arr h)) ∧
    MW w0 (lists a n h) a n (fun k => L (8 + k)) (fun k => L (11 + k)) v g w
theorem upd_same (L : Nat → Bool) (m k j : Nat) : upd L (m + k) (m + j) = if j = k then true else L (m + j) := by
  unfold upd; simp only [Nat.add_left_cancel_iff]
theorem Try.info24 : (Try.prog.info? 24).map (·.size) = some 8 := by kernel_rfl
theorem arr_one (n : Int) : (arr n).all (·.oneCell') = true := by simp [arr, Value.oneCell']
theorem arr_at (n : Int) (k : Nat) (hk : k < 8) : (arr n).toList[k]? = some (.bool (tb n k)) := by
  rcases (by omega : k = 0 ∨ k = 1 ∨ k = 2 ∨ k = 3 ∨ k = 4 ∨ k = 5 ∨ k = 6 ∨ k = 7) with rfl | rfl | rfl | rfl | rfl | rfl | rfl | rfl <;> rfl
theorem okTo_succ (a n h : Int) (k : Nat) : okTo a n h (k + 1) = (okTo a n h k && okAt a n h k) := by
  unfold okTo; rw [List.range_succ, List.all_append]; simp
theorem okTo_false (a n h : Int) (k m : Nat) (hk : k < m) (e : okAt a n h k = false) : okTo a n h m = false := by
  unfold okTo
  rw [List.all_eq_false]
  exact ⟨k, List.mem_range.2 hk, by simp [e]⟩
set_option maxRecDepth 8000 in
set_option maxHeartbeats 1000000 in
theorem rmeets_any (a n h : Int) (w : World) (a0 : 0 ≤ a) (a1 : a ≤ 255) (n0 : 0 ≤ n) (n1 : n ≤ 255) (h0 : 0 ≤ h) (h1 : h ≤ 255) :
    Calls Try.prog 32 #[.agg #[.int .i64 a, .int .i64 n], .int .i64 h] w fun e w' => e = .returned (.bool (okTo a n h 8)) ∧ Below w.heap.size w w' := by
  go_enter Try.func32, Try.ntmps32
  go_wp2
  rename_i Q1 K1 hK1
  refine wp_region_inv (by kernel_rfl) (MI w a n h) (by kernel_rfl) ?start ?step ?fin
  case start =>
    refine ⟨fun _ => undef, fun _ => 0, _, _, _, _, _, _, _, _, rfl, by simp, by simp, by simp, by simp, by simp, by simp, by simp, by simp, ?_⟩
    have c0 : (w.alloc (.cells #[.int .i64 a, .int .i64 n] 32)).cell? ⟨w.heap.size, 0, none⟩ = some (.int .i64 a) := by simp
    have c1 : (w.alloc (.cells #[.int .i64 a, .int .i64 n] 32)).cell? ⟨w.heap.size, 1, none⟩ = some (.int .i64 n) := by simp
    exact ⟨((Below.refl _ _).alloc (Nat.le_refl _) _).drew, c0, c1, by simp, by simp, by simp⟩
  case step =>
    clear hK1
    rintro L ac w1 i o ⟨v, g, x9, x10, x11, x12, x13, x14, x15, x16, rfl, f0, f1, f2, f3, f4, f5, f6, f7, hw⟩ ho hL he
    match i, ho with
    | 0, ho =>
      have ho' := ho
      simp at ho'
      subst ho'
      refine wpOp_of ho rfl ?_
      simp [go_sem]
      exact ⟨v, g, _, _, _, _, _, _, _, _, rfl, by first | (intro _; rfl) | (simpa [upd] using f0), by first | (intro _; rfl) | (simpa [upd] using f1), by first | (intro _; rfl) | (simpa [upd] using f2), by first | (intro _; rfl) | (simpa [upd] using f3), by first | (intro _; rfl) | (simpa [upd] using f4), by first | (intro _; rfl) | (simpa [upd] using f5), by first | (intro _; rfl) | (simpa [upd] using f6), by first | (intro _; rfl) | (simpa [upd] using f7), hw.congr (fun k _ => upd_ne (by omega)) (fun k _ => upd_ne (by omega)) (fun _ _ => rfl)⟩
    | 1, ho =>
      have ho' := ho
      simp at ho'
      subst ho'
      obtain rfl := f0 (he ⟨0, .data⟩ (by simp) rfl)
      have c0 := hw.c0
      refine wpOp_of ho rfl ?_
      simp [go_sem, c0]
      exact ⟨v, g, _, _, _, _, _, _, _, _, rfl, by first | (intro _; rfl) | (simpa [upd] using f0), by first | (intro _; rfl) | (simpa [upd] using f1), by first | (intro _; rfl) | (simpa [upd] using f2), by first | (intro _; rfl) | (simpa [upd] using f3), by first | (intro _; rfl) | (simpa [upd] using f4), by first | (intro _; rfl) | (simpa [upd] using f5), by first | (intro _; rfl) | (simpa [upd] using f6), by first | (intro _; rfl) | (simpa [upd] using f7), hw.congr (fun k _ => upd_ne (by omega)) (fun k _ => upd_ne (by omega)) (fun _ _ => rfl)⟩
    | 3, ho =>
      have ho' := ho
      simp at ho'
      subst ho'
      refine wpOp_of ho rfl ?_
      simp [go_sem]
      exact ⟨v, g, _, _, _, _, _, _, _, _, rfl, by first | (intro _; rfl) | (simpa [upd] using f0), by first | (intro _; rfl) | (simpa [upd] using f1), by first | (intro _; rfl) | (simpa [upd] using f2), by first | (intro _; rfl) | (simpa [upd] using f3), by first | (intro _; rfl) | (simpa [upd] using f4), by first | (intro _; rfl) | (simpa [upd] using f5), by first | (intro _; rfl) | (simpa [upd] using f6), by first | (intro _; rfl) | (simpa [upd] using f7), hw.congr (fun k _ => upd_ne (by omega)) (fun k _ => upd_ne (by omega)) (fun _ _ => rfl)⟩
    | 4, ho =>
      have ho' := ho
      simp at ho'
      subst ho'
      obtain rfl := f3 (he ⟨3, .data⟩ (by simp) rfl)
      have c1 := hw.c1
      refine wpOp_of ho rfl ?_
      simp [go_sem, c1]
      exact ⟨v, g, _, _, _, _, _, _, _, _, rfl, by first | (intro _; rfl) | (simpa [upd] using f0), by first | (intro _; rfl) | (simpa [upd] using f1), by first | (intro _; rfl) | (simpa [upd] using f2), by first | (intro _; rfl) | (simpa [upd] using f3), by first | (intro _; rfl) | (simpa [upd] using f4), by first | (intro _; rfl) | (simpa [upd] using f5), by first | (intro _; rfl) | (simpa [upd] using f6), by first | (intro _; rfl) | (simpa [upd] using f7), hw.congr (fun k _ => upd_ne (by omega)) (fun k _ => upd_ne (by omega)) (fun _ _ => rfl)⟩
    | 6, ho =>
      have ho' := ho
      simp at ho'
      subst ho'
      refine wpOp_of ho rfl ?_
      simp [go_sem]
      exact ⟨v, g, _, _, _, _, _, _, _, _, rfl, by first | (intro _; rfl) | (simpa [upd] using f0), by first | (intro _; rfl) | (simpa [upd] using f1), by first | (intro _; rfl) | (simpa [upd] using f2), by first | (intro _; rfl) | (simpa [upd] using f3), by first | (intro _; rfl) | (simpa [upd] using f4), by first | (intro _; rfl) | (simpa [upd] using f5), by first | (intro _; rfl) | (simpa [upd] using f6), by first | (intro _; rfl) | (simpa [upd] using f7), hw.congr (fun k _ => upd_ne (by omega)) (fun k _ => upd_ne (by omega)) (fun _ _ => rfl)⟩
    | 2, ho =>
      have ho' := ho
      simp at ho'
      subst ho'
      obtain rfl := f1 (he ⟨1, .data⟩ (by simp) rfl)
      refine wpOp_of ho rfl ?_
      simp [go_sem]
      refine (bits_any a w1 a0 a1).mono ?_
      rintro e w2 ⟨rfl, rfl⟩
      have hb2 : Below w1.heap.size w1 ((w1.alloc (.cells (arr a) 24)).alloc (.cells (arr a) 24)) := by go_grown
      exact ⟨v, g, _, _, _, _, _, _, _, _, rfl, by first | (intro _; rfl) | (simpa [upd] using f0), by first | (intro _; rfl) | (simpa [upd] using f1), by first | (intro _; rfl) | (simpa [upd] using f2), by first | (intro _; rfl) | (simpa [upd] using f3), by first | (intro _; rfl) | (simpa [upd] using f4), by first | (intro _; rfl) | (simpa [upd] using f5), by first | (intro _; rfl) | (simpa [upd] using f6), by first | (intro _; rfl) | (simpa [upd] using f7), (hw.below hb2).congr (fun k _ => upd_ne (by omega)) (fun k _ => upd_ne (by omega)) (fun _ _ => rfl)⟩
    | 5, ho =>
      have ho' := ho
      simp at ho'
      subst ho'
      obtain rfl := f4 (he ⟨4, .data⟩ (by simp) rfl)
      refine wpOp_of ho rfl ?_
      simp [go_sem]
      refine (bits_any n w1 n0 n1).mono ?_
      rintro e w2 ⟨rfl, rfl⟩
      have hb2 : Below w1.heap.size w1 ((w1.alloc (.cells (arr n) 24)).alloc (.cells (arr n) 24)) := by go_grown
      exact ⟨v, g, _, _, _, _, _, _, _, _, rfl, by first | (intro _; rfl) | (simpa [upd] using f0), by first | (intro _; rfl) | (simpa [upd] using f1), by first | (intro _; rfl) | (simpa [upd] using f2), by first | (intro _; rfl) | (simpa [upd] using f3), by first | (intro _; rfl) | (simpa [upd] using f4), by first | (intro _; rfl) | (simpa [upd] using f5), by first | (intro _; rfl) | (simpa [upd] using f6), by first | (intro _; rfl) | (simpa [upd] using f7), (hw.below hb2).congr (fun k _ => upd_ne (by omega)) (fun k _ => upd_ne (by omega)) (fun _ _ => rfl)⟩
    | 7, ho =>
      have ho' := ho
      simp at ho'
      subst ho'
      obtain rfl := f6 (he ⟨6, .data⟩ (by simp) rfl)
      refine wpOp_of ho rfl ?_
      simp [go_sem]
      refine (bits_any h w1 h0 h1).mono ?_
      rintro e w2 ⟨rfl, rfl⟩
      have hb2 : Below w1.heap.size w1 ((w1.alloc (.cells (arr h) 24)).alloc (.cells (arr h) 24)) := by go_grown
      exact ⟨v, g, _, _, _, _, _, _, _, _, rfl, by first | (intro _; rfl) | (simpa [upd] using f0), by first | (intro _; rfl) | (simpa [upd] using f1), by first | (intro _; rfl) | (simpa [upd] using f2), by first | (intro _; rfl) | (simpa [upd] using f3), by first | (intro _; rfl) | (simpa [upd] using f4), by first | (intro _; rfl) | (simpa [upd] using f5), by first | (intro _; rfl) | (simpa [upd] using f6), by first | (intro _; rfl) | (simpa [upd] using f7), (hw.below hb2).congr (fun k _ => upd_ne (by omega)) (fun k _ => upd_ne (by omega)) (fun _ _ => rfl)⟩
    | 8, ho =>
      have ho' := ho
      simp at ho'
      subst ho'
      refine wpOp_of ho rfl ?_
      simp [go_sem]
      have hm := hw.alloc 0 hL 24
      exact ⟨(fun j => if j = 0 then .pointer (some ⟨w1.heap.size, 0, none⟩) else v j), (fun j => if j = 0 then w1.heap.size else g j), _, _, _, _, _, _, _, _, rfl, by first | (intro _; rfl) | (simpa [upd] using f0), by first | (intro _; rfl) | (simpa [upd] using f1), by first | (intro _; rfl) | (simpa [upd] using f2), by first | (intro _; rfl) | (simpa [upd] using f3), by first | (intro _; rfl) | (simpa [upd] using f4), by first | (intro _; rfl) | (simpa [upd] using f5), by first | (intro _; rfl) | (simpa [upd] using f6), by first | (intro _; rfl) | (simpa [upd] using f7), hm.congr (fun j _ => upd_same L 8 0 j) (fun j _ => upd_ne (by omega)) (fun _ _ => rfl)⟩
    | 9, ho =>
      have ho' := ho
      simp at ho'
      subst ho'
      refine wpOp_of ho rfl ?_
      simp [go_sem]
      have hm := hw.alloc 1 hL 24
      exact ⟨(fun j => if j = 1 then .pointer (some ⟨w1.heap.size, 0, none⟩) else v j), (fun j => if j = 1 then w1.heap.size else g j), _, _, _, _, _, _, _, _, rfl, by first | (intro _; rfl) | (simpa [upd] using f0), by first | (intro _; rfl) | (simpa [upd] using f1), by first | (intro _; rfl) | (simpa [upd] using f2), by first | (intro _; rfl) | (simpa [upd] using f3), by first | (intro _; rfl) | (simpa [upd] using f4), by first | (intro _; rfl) | (simpa [upd] using f5), by first | (intro _; rfl) | (simpa [upd] using f6), by first | (intro _; rfl) | (simpa [upd] using f7), hm.congr (fun j _ => upd_same L 8 1 j) (fun j _ => upd_ne (by omega)) (fun _ _ => rfl)⟩
    | 10, ho =>
      have ho' := ho
      simp at ho'
      subst ho'
      refine wpOp_of ho rfl ?_
      simp [go_sem]
      have hm := hw.alloc 2 hL 24
      exact ⟨(fun j => if j = 2 then .pointer (some ⟨w1.heap.size, 0, none⟩) else v j), (fun j => if j = 2 then w1.heap.size else g j), _, _, _, _, _, _, _, _, rfl, by first | (intro _; rfl) | (simpa [upd] using f0), by first | (intro _; rfl) | (simpa [upd] using f1), by first | (intro _; rfl) | (simpa [upd] using f2), by first | (intro _; rfl) | (simpa [upd] using f3), by first | (intro _; rfl) | (simpa [upd] using f4), by first | (intro _; rfl) | (simpa [upd] using f5), by first | (intro _; rfl) | (simpa [upd] using f6), by first | (intro _; rfl) | (simpa [upd] using f7), hm.congr (fun j _ => upd_same L 8 2 j) (fun j _ => upd_ne (by omega)) (fun _ _ => rfl)⟩
    | 11, ho =>
      have ho' := ho
      simp at ho'
      subst ho'
      have hx := f2 (he ⟨2, .data⟩ (by simp) rfl)
      have hl := (he ⟨8, .data⟩ (by simp) rfl)
      obtain ⟨p1, p2, p3, p4⟩ := hw.own 0 (by omega) hl
      refine wpOp_of ho rfl ?_
      refine wp_store_mid 24 _ _ rfl (g 0) 0 (arr a) p1 hx p4 Try.info24 (arr_one _) ?_
      have hm := hw.store 0 (by omega) hl rfl
      exact ⟨v, g, _, _, _, _, _, _, _, _, rfl, by first | (intro _; rfl) | (simpa [upd] using f0), by first | (intro _; rfl) | (simpa [upd] using f1), by first | (intro _; rfl) | (simpa [upd] using f2), by first | (intro _; rfl) | (simpa [upd] using f3), by first | (intro _; rfl) | (simpa [upd] using f4), by first | (intro _; rfl) | (simpa [upd] using f5), by first | (intro _; rfl) | (simpa [upd] using f6), by first | (intro _; rfl) | (simpa [upd] using f7), hm.congr (fun j _ => upd_ne (by omega)) (fun j _ => upd_same L 11 0 j) (fun _ _ => rfl)⟩
    | 12, ho =>
      have ho' := ho
      simp at ho'
      subst ho'
      have hx := f5 (he ⟨5, .data⟩ (by simp) rfl)
      have hl := (he ⟨9, .data⟩ (by simp) rfl)
      obtain ⟨p1, p2, p3, p4⟩ := hw.own 1 (by omega) hl
      refine wpOp_of ho rfl ?_
      refine wp_store_mid 24 _ _ rfl (g 1) 0 (arr n) p1 hx p4 Try.info24 (arr_one _) ?_
      have hm := hw.store 1 (by omega) hl rfl
      exact ⟨v, g, _, _, _, _, _, _, _, _, rfl, by first | (intro _; rfl) | (simpa [upd] using f0), by first | (intro _; rfl) | (simpa [upd] using f1), by first | (intro _; rfl) | (simpa [upd] using f2), by first | (intro _; rfl) | (simpa [upd] using f3), by first | (intro _; rfl) | (simpa [upd] using f4), by first | (intro _; rfl) | (simpa [upd] using f5), by first | (intro _; rfl) | (simpa [upd] using f6), by first | (intro _; rfl) | (simpa [upd] using f7), hm.congr (fun j _ => upd_ne (by omega)) (fun j _ => upd_same L 11 1 j) (fun _ _ => rfl)⟩
    | 13, ho =>
      have ho' := ho
      simp at ho'
      subst ho'
      have hx := f7 (he ⟨7, .data⟩ (by simp) rfl)
      have hl := (he ⟨10, .data⟩ (by simp) rfl)
      obtain ⟨p1, p2, p3, p4⟩ := hw.own 2 (by omega) hl
      refine wpOp_of ho rfl ?_
      refine wp_store_mid 24 _ _ rfl (g 2) 0 (arr h) p1 hx p4 Try.info24 (arr_one _) ?_
      have hm := hw.store 2 (by omega) hl rfl
      exact ⟨v, g, _, _, _, _, _, _, _, _, rfl, by first | (intro _; rfl) | (simpa [upd] using f0), by first | (intro _; rfl) | (simpa [upd] using f1), by first | (intro _; rfl) | (simpa [upd] using f2), by first | (intro _; rfl) | (simpa [upd] using f3), by first | (intro _; rfl) | (simpa [upd] using f4), by first | (intro _; rfl) | (simpa [upd] using f5), by first | (intro _; rfl) | (simpa [upd] using f6), by first | (intro _; rfl) | (simpa [upd] using f7), hm.congr (fun j _ => upd_ne (by omega)) (fun j _ => upd_same L 11 2 j) (fun _ _ => rfl)⟩
    | j + 14, ho => simp at ho
  case fin =>
    rintro L ac w1 ⟨v, g, x9, x10, x11, x12, x13, x14, x15, x16, rfl, f0, f1, f2, f3, f4, f5, f6, f7, hw⟩ hall
    clear f0 f1 f2 f3 f4 f5 f6 f7
    have hL : ∀ j, j < 14 → L j = true := fun j hj => hall j (by simpa using hj)
    have e0 := (hw.own 0 (by omega) (hL 8 (by omega))).1
    have e1 := (hw.own 1 (by omega) (hL 9 (by omega))).1
    have e2 := (hw.own 2 (by omega) (hL 10 (by omega))).1
    have r0 := (hw.has 0 (by omega) (hL 11 (by omega))).2
    have r1 := (hw.has 1 (by omega) (hL 12 (by omega))).2
    have r2 := (hw.has 2 (by omega) (hL 13 (by omega))).2
    have hbel := hw.bel
    rw [e0, e1, e2]
    clear e0 e1 e2 hw hall hL
    generalize g 0 = g0 at *
    generalize g 1 = g1 at *
    generalize g 2 = g2 at *
    have r0 : ∀ k, k < 8 → w1.cell? ⟨g0, k, none⟩ = some (.bool (tb a k)) := fun k hk => by simpa using r0 k _ (arr_at a k hk)
    have r1 : ∀ k, k < 8 → w1.cell? ⟨g1, k, none⟩ = some (.bool (tb n k)) := fun k hk => by simpa using r1 k _ (arr_at n k hk)
    have r2 : ∀ k, k < 8 → w1.cell? ⟨g2, k, none⟩ = some (.bool (tb h k)) := fun k hk => by simpa using r2 k _ (arr_at h k hk)
    have R0 := hide r0
    have R1 := hide r1
    have R2 := hide r2
    have HB := hide hbel
    clear r0 r1 r2 hbel v g
    refine hK1 _ _ ?_
    clear hK1
    go_wp2
    go_loop [17] (fun i => ∃ k : Nat, k ≤ 8 ∧ i = .int .i64 k ∧ okTo a n h k = true) (fun i => 8 - (intOf i).toNat)
    case atStart => exact ⟨0, by omega, rfl, rfl⟩
    case round =>
      obtain ⟨k, hk, rfl, hok⟩ := hrel
      have HO := hide hok
      clear hok
      by_cases hlt : k < 8
      · have k0 : (0 : Int) ≤ (k : Int) := by omega
        have k1 : (k : Int) < 8 := by omega
        have c0 := unhide R0 k hlt
        have c1 := unhide R1 k hlt
        have c2 := unhide R2 k hlt
        have HS := hide (okTo_succ a n h k)
        have HF := hide (okTo_false a n h k 8 hlt)
        have hA : okAt a n h k = !(tb a k && !tb h k || tb n k && tb h k) := rfl
        have HA := hide hA
        clear hA
        clear R0 R1 R2
        generalize tb a k = ba at *
        generalize tb n k = bn at *
        generalize tb h k = bh at *
        cases ba <;> cases bn <;> cases bh
        all_goals
          go_wp2
          first
          | (go_ret
             exact ⟨by rw [unhide HF (unhide HA)]; rfl, unhide HB⟩)
          | (go_round
             case rel => exact ⟨k + 1, by omega, by go_num, by rw [unhide HS, unhide HO, unhide HA]; rfl⟩
             case measure => simp [intOf]; omega)
      · obtain rfl : k = 8 := by omega
        go_wp2
        go_ret
        exact ⟨by rw [unhide HO]; rfl, unhide HB⟩
end Go.Proofs.Ytnbleebilmghcaa
namespace Go.Proofs.Ytnbleebilmghcaa
open Go.RowKit
theorem wrapz (r : BitVec 64) : IntKind.i64.wrap (r.toNat : Int) = 0 ↔ r = 0#64 := by
  rw [IntKind.wrap_i64]
  have := r.isLt
  constructor
  · intro h
    apply BitVec.eq_of_toNat_eq
    simp
    omega
  · rintro rfl; simp
theorem andz (x y : Int) : bits .and .i64 x y = 0 ↔ BitVec.ofInt 64 x &&& BitVec.ofInt 64 y = 0#64 := wrapz _
theorem andNotz (x y : Int) : bits .andNot .i64 x y = 0 ↔ BitVec.ofInt 64 x &&& ~~~BitVec.ofInt 64 y = 0#64 := wrapz _
theorem lsb_tb (n : Int) (k : Nat) (h0 : 0 ≤ n) (hk : k < 64) : (BitVec.ofInt 64 n).getLsbD k = tb n k := by
  obtain ⟨m, rfl⟩ := Int.eq_ofNat_of_zero_le h0
  rw [BitVec.ofInt_natCast, BitVec.getLsbD_ofNat, Nat.testBit_eq_decide_div_mod_eq]
  unfold tb
  rw [show ((m : Int) / ((2 ^ k : Nat) : Int) % 2) = ((m / 2 ^ k % 2 : Nat) : Int) by push_cast; rfl]
  generalize m / 2 ^ k % 2 = q
  rw [Bool.eq_iff_iff]
  simp only [hk, decide_true, Bool.true_and, decide_eq_true_eq, beq_iff_eq]
  omega
theorem tb_far (n : Int) (k : Nat) (h0 : 0 ≤ n) (h1 : n ≤ 255) (hk : 8 ≤ k) : tb n k = false := by
  obtain ⟨m, rfl⟩ := Int.eq_ofNat_of_zero_le h0
  unfold tb
  have h2 : 256 ≤ 2 ^ k := by
    have := Nat.pow_le_pow_right (n := 2) (by omega) hk
    omega
  have e : m / 2 ^ k = 0 := Nat.div_eq_of_lt (by omega)
  rw [show ((m : Int) / ((2 ^ k : Nat) : Int) % 2) = ((m / 2 ^ k % 2 : Nat) : Int) by push_cast; rfl, e]
  decide
theorem okTo_all (a n h : Int) (m : Nat) : okTo a n h m = true ↔ ∀ k, k < m → okAt a n h k = true := by
  unfold okTo; rw [List.all_eq_true]; simp
theorem meets_ok (a n h : Int) (a0 : 0 ≤ a) (a1 : a ≤ 255) (n0 : 0 ≤ n) (n1 : n ≤ 255) (h0 : 0 ≤ h) : meetsB a n h = okTo a n h 8 := by
  rw [Bool.eq_iff_iff, okTo_all]
  simp only [meetsB, Bool.and_eq_true, beq_iff_eq, andz, andNotz]
  constructor
  · rintro ⟨e1, e2⟩ k hk
    have g1 := congrArg (fun v : BitVec 64 => v.getLsbD k) e1
    have g2 := congrArg (fun v : BitVec 64 => v.getLsbD k) e2
    simp only [BitVec.getLsbD_and, BitVec.getLsbD_not, lsb_tb _ k a0 (by omega), lsb_tb _ k h0 (by omega), lsb_tb _ k n0 (by omega), BitVec.getLsbD_zero] at g1 g2
    have hk64 : decide (k < 64) = true := by simp; omega
    rw [hk64] at g1
    unfold okAt
    revert g1 g2
    cases tb a k <;> cases tb n k <;> cases tb h k <;> simp
  · intro hall
    constructor
    · apply BitVec.eq_of_getLsbD_eq
      intro i hi
      rw [BitVec.getLsbD_and, BitVec.getLsbD_not, lsb_tb _ i a0 hi, lsb_tb _ i h0 hi, BitVec.getLsbD_zero]
      by_cases h8 : i < 8
      · have := hall i h8
        unfold okAt at this
        revert this
        cases tb a i <;> cases tb n i <;> cases tb h i <;> simp
      · rw [tb_far a i a0 a1 (by omega)]; simp
    · apply BitVec.eq_of_getLsbD_eq
      intro i hi
      rw [BitVec.getLsbD_and, lsb_tb _ i n0 hi, lsb_tb _ i h0 hi, BitVec.getLsbD_zero]
      by_cases h8 : i < 8
      · have := hall i h8
        unfold okAt at this
        revert this
        cases tb a i <;> cases tb n i <;> cases tb h i <;> simp
      · rw [tb_far n i n0 n1 (by omega)]; simp
theorem has_hasB (a k : Int) (a0 : 0 ≤ a) (a1 : a ≤ 255) : (bits .and .i64 a (bitI k) != 0) = hasB a k := by
  by_cases hk : 0 ≤ k ∧ k < 8
  · obtain ⟨j, rfl⟩ := Int.eq_ofNat_of_zero_le hk.1
    rw [has_tb a j a0 a1 (by omega)]
    simp [hasB, hk]
  · have e : bitI k = 0 := by unfold bitI; rw [if_neg hk]
    obtain ⟨m, rfl⟩ := fin_of a a0 a1
    rw [e, (num_fin m).2.2.2]
    simp [hasB, hk]
theorem has_same (a k : Int) (w : World) (a0 : 0 ≤ a) (a1 : a ≤ 255) :
    Calls Try.prog 25 #[.int .i64 a, .int .i64 k] w fun e w' => e = .returned (.bool (hasB a k)) ∧ w' = w := by
  have := has_any a k w
  rwa [has_hasB a k a0 a1] at this
theorem list_read {a : Int} {w w' : World} {v : Value} (h : w'.ownsRow w.heap.size 3 1 v (lstTo a 8).length ((lstTo a 8).map (Value.int .i64))) :
    ∃ ao cap, v = .slice ao (lstTo a 8).length cap ∧ (lstTo a 8).length ≤ cap ∧ (∀ j, j < (lstTo a 8).length → ∃ g, ao = some ⟨g, 0, none⟩ ∧ w'.cell? ⟨g, j, none⟩ = some (.int .i64 ((lstTo a 8).getD j 0))) := by
  rcases h.2 with ⟨hv, h0⟩ | ⟨g, cap, cur, hv, hb, hg, hcap, _⟩
  · exact ⟨none, 0, by rw [hv, h0], by omega, fun j hj => by omega⟩
  · refine ⟨some ⟨g, 0, none⟩, cap, hv, hcap, fun j hj => ⟨g, rfl, ?_⟩⟩
    rw [hv] at h
    rw [h.cellAt j (by omega)]
    simp [hj]
theorem list_two (a : Int) (w : World) (h0 : 0 ≤ a) (h1 : a ≤ 255) :
    Calls Try.prog 23 #[.int .i64 a] w fun e w' => ∃ ao cap, e = .returned (.slice ao (lstTo a 8).length cap) ∧ Below w.heap.size w w' ∧ (lstTo a 8).length ≤ cap ∧ (∀ j, j < (lstTo a 8).length → ∃ g, ao = some ⟨g, 0, none⟩ ∧ w'.cell? ⟨g, j, none⟩ = some (.int .i64 ((lstTo a 8).getD j 0))) := by
  refine (list_any a w h0 h1).mono ?_
  rintro e w' ⟨v, rfl, hown, hb⟩
  obtain ⟨ao, cap, rfl, h2, h3⟩ := list_read hown
  exact ⟨ao, cap, rfl, hb, h2, h3⟩
theorem rlist_two (a : Int) (w : World) (h0 : 0 ≤ a) (h1 : a ≤ 255) :
    Calls Try.prog 24 #[.int .i64 a] w fun e w' => ∃ ao cap, e = .returned (.slice ao (lstTo a 8).length cap) ∧ Below w.heap.size w w' ∧ (lstTo a 8).length ≤ cap ∧ (∀ j, j < (lstTo a 8).length → ∃ g, ao = some ⟨g, 0, none⟩ ∧ w'.cell? ⟨g, j, none⟩ = some (.int .i64 ((lstTo a 8).getD j 0))) := by
  refine (rlist_any a w h0 h1).mono ?_
  rintro e w' ⟨v, rfl, hown, hb⟩
  obtain ⟨ao, cap, rfl, h2, h3⟩ := list_read hown
  exact ⟨ao, cap, rfl, hb, h2, h3⟩
end Go.Proofs.Ytnbleebilmghcaa
namespace Go.Proofs.Ytnbleebilmghcaa
open Go Go.RowKit
attribute [local go_sem ↓] Go.wp_at_zero Go.wp_at_succ
theorem info40 : (Try.prog.info? 40).map (fun i => (i.zero, i.size, i.bytes)) = some (some (.agg #[.int .i64 0, .int .i64 0]), 2, 16) := by kernel_rfl
def cellsOfBs (l : List (Int × Int)) : List Value := l.flatMap fun b => [.int .i64 b.1, .int .i64 b.2]
theorem bs_len (l : List (Int × Int)) : (cellsOfBs l).length = l.length * 2 := by
  induction l with
  | nil => rfl
  | cons x l ih => simp only [cellsOfBs, List.flatMap_cons, List.length_append, List.length_cons, List.length_nil] at ih ⊢; omega
theorem bs_app (l m : List (Int × Int)) : cellsOfBs (l ++ m) = cellsOfBs l ++ cellsOfBs m := by simp [cellsOfBs]
def bsTo (X : Wd) (a n : Int) (j : Nat) : List (Int × Int) := ((X.rows.take j).filter fun r => meetsB a n r.has).map fun r => (r.ix, r.gen)
theorem bsTo_succ (X : Wd) (a n : Int) (j : Nat) (h : j < X.rows.length) : bsTo X a n (j + 1) = if meetsB a n (X.rows.getD j dR).has = true then bsTo X a n j ++ [((X.rows.getD j dR).ix, (X.rows.getD j dR).gen)] else bsTo X a n j := by
  unfold bsTo
  rw [List.take_succ_eq_append_getElem h, List.filter_append, List.map_append, List.getD_eq_getElem?_getD, List.getElem?_eq_getElem h, Option.getD_some]
  cases hm : meetsB a n X.rows[j].has <;> simp [hm]
theorem bsTo_len (X : Wd) (a n : Int) (j : Nat) : (bsTo X a n j).length ≤ j := by
  unfold bsTo
  rw [List.length_map]
  exact Nat.le_trans (List.length_filter_le _ _) (by rw [List.length_take]; omega)
structure MB (w : World) (a n : Int) (W : World) : Prop where
  bel : Below w.heap.size w W
  sz : w.heap.size + 2 ≤ W.heap.size
  f0 : W.cell? ⟨w.heap.size + 1, 0, none⟩ = some (.int .i64 a)
  f1 : W.cell? ⟨w.heap.size + 1, 1, none⟩ = some (.int .i64 n)
theorem MB.keep {w W W1 : World} {a n : Int} (h : MB w a n W) (hb : Below (w.heap.size + 2) W W1) : MB w a n W1 :=
  ⟨h.bel.trans (hb.mono (by omega)), Nat.le_trans h.sz hb.size, (hb.cell (p := ⟨w.heap.size + 1, 0, none⟩) (by simp)).trans h.f0, (hb.cell (p := ⟨w.heap.size + 1, 1, none⟩) (by simp)).trans h.f1⟩
theorem MB.below {w W W1 : World} {a n : Int} (h : MB w a n W) (hb : Below W.heap.size W W1) : MB w a n W1 := h.keep (hb.mono h.sz)
theorem MB.start (w : World) (u0 u1 : Value) (a n : Int) : MB w a n ((w.alloc (.cells #[u0, u1] 38)).alloc (.cells #[.int .i64 a, .int .i64 n] 32)) := by
  have hb := bel2 w (.cells #[u0, u1] 38) (.cells #[.int .i64 a, .int .i64 n] 32)
  exact ⟨hb, by simp, by simp [go_sem], by simp [go_sem]⟩
theorem new_two (w : World) (x y : Value) (t : TypeId) : ∀ j u, [x, y][j]? = some u → (w.alloc (.cells #[x, y] t)).cell? ((⟨w.heap.size, 0, none⟩ : Addr).add j) = some u := by
  intro j u hj
  match j, hj with
  | 0, hj => simp at hj; subst hj; simp [Addr.add]
  | 1, hj => simp at hj; subst hj; simp [Addr.add]
theorem one_two (x y : Int) : ∀ u ∈ [Value.int .i64 x, Value.int .i64 y], u.oneCell' = true := by
  intro u hu; simp at hu; rcases hu with rfl | rfl <;> rfl
set_option maxRecDepth 8000 in
set_option maxHeartbeats 4000000 in
theorem match_any (A : Option Addr) (cap : Nat) (G : Option Addr) (gcap : Nat) (X : Wd) (a n : Int) (w : World) (hn : X.rows.length ≤ 1000000) (hX : WldAt w A cap G gcap X) :
    Calls Try.prog 51 #[wldV A cap G gcap X, .agg #[.int .i64 a, .int .i64 n]] w fun e w' => ∃ v, e = .returned v ∧ w'.ownsRow (w.heap.size + 2) 40 2 v (bsTo X a n X.rows.length).length (cellsOfBs (bsTo X a n X.rows.length)) ∧ Below w.heap.size w w' := by
  obtain ⟨i40, hi, hz, hs, hb⟩ := info_parts info40
  have hME : ∀ j, j < X.rows.length → ∀ W, Calls Try.prog 31 #[.agg #[.int .i64 a, .int .i64 n], .int .i64 (X.rows.getD j dR).has] W fun e w' => e = .returned (.bool (meetsB a n (X.rows.getD j dR).has)) ∧ Below W.heap.size W w' := fun j hj W => (meets_any a n _ W).mono fun e w' ⟨he, hw⟩ => ⟨he, by rw [hw]; exact bel1 _ _⟩
  have HI := hide hi
  have HZ := hide hz
  have HS := hide hs
  have HB := hide hb
  have HM := hide (MB.start w (.slice A X.rows.length cap) (.slice G X.gens.length gcap) a n)
  have HX := hide hX
  have HME := hide hME
  clear hi hz hs hb hX hME
  unfold wldV worldV
  go_enter Try.func51, Try.ntmps51
  go_wp2
  go_loopw [5, 11] (fun v i wr => ∃ j : Nat, j ≤ X.rows.length ∧ i = .int .i64 j ∧ wr.ownsRow (w.heap.size + 2) 40 2 v (bsTo X a n j).length (cellsOfBs (bsTo X a n j)) ∧ MB w a n wr) (fun _ i _ => X.rows.length - (intOf i).toNat)
  case atStart => exact ⟨0, Nat.zero_le _, rfl, World.ownsRow_nil _ _ _ _, unhide HM⟩
  case round =>
    clear HM
    obtain ⟨j, hj, rfl, ho, hM⟩ := hrel
    by_cases hlt : j < X.rows.length
    · have j0 : (0 : Int) ≤ (j : Int) := by omega
      have j1 : (j : Int) < (X.rows.length : Int) := by omega
      obtain ⟨b, off, hA, hrow⟩ := (unhide HX).rows j hlt
      have hrow : RowAt wr b (off + j * 11) (X.rows.getD j dR) := hrow.below hM.bel
      have c0 := hrow.c0
      have c1 := hrow.c1
      have c2 := hrow.c2
      have c3 := hrow.v 0 (by omega)
      have c4 := hrow.v 1 (by omega)
      have c5 := hrow.v 2 (by omega)
      have c6 := hrow.v 3 (by omega)
      have c7 := hrow.v 4 (by omega)
      have c8 := hrow.v 5 (by omega)
      have c9 := hrow.v 6 (by omega)
      have c10 := hrow.v 7 (by omega)
      simp only [Nat.add_assoc, Nat.reduceAdd] at c3 c4 c5 c6 c7 c8 c9 c10
      simp only [← Nat.add_assoc] at c3 c4 c5 c6 c7 c8 c9 c10
      have f0 := hM.f0
      have f1 := hM.f1
      have lf := World.block_lt_of_cell? wr _ f0
      have lf2 := Nat.lt_of_succ_lt lf
      have HC := hide (unhide HME j hlt)
      have HST := hide (bsTo_succ X a n j hlt)
      have hbl := bsTo_len X a n j
      subst hA
      have HO := hide ho
      have HM := hide hM
      clear ho hM hrow HX HME
      generalize bsTo X a n j = bs at *
      generalize X.rows.getD j dR = x at *
      obtain ⟨ix, gen, has, v⟩ := x
      dsimp only at *
      generalize meetsB a n has = me at *
      cases me
      · have HEQ := hide ((unhide HST).trans (if_neg (by simp)))
        go_wp2_with (first
          | (go_at_call 31; refine (unhide HC _).mono ?_; rintro e w5 ⟨rfl, hb5⟩; have HB5 := hide (below_one _ _ hb5); clear hb5))
        go_roundw
        case rel => exact ⟨j + 1, by omega, by go_num, by rw [unhide HEQ]; exact own_kept (unhide HO) (unhide HB5), (unhide HM).below (unhide HB5)⟩
        case measure => simp [intOf]; omega
      · have HEQ := hide ((unhide HST).trans (if_pos rfl))
        go_wp2_with (first
          | (go_at_call 31; refine (unhide HC _).mono ?_; rintro e w5 ⟨rfl, hb5⟩; have d0 := keep_below hb5 (p := ⟨wr.heap.size, 0, none⟩) (v := .int .i64 ix) (by simp [go_sem]); have d1 := keep_below hb5 (p := ⟨wr.heap.size, 1, none⟩) (v := .int .i64 gen) (by simp [go_sem]); have HO5 := hide (own_kept (unhide HO) (below_one _ _ hb5)); have HM5 := hide ((unhide HM).below (below_one _ _ hb5)); clear hb5)
          | (at_builtin; refine wpList_append1 _ rfl (.tmp 19) (.tmp 22) 63 rfl (w.heap.size + 2) 40 i40 (.agg #[.int .i64 0, .int .i64 0]) 2 16 Try.underlying63 (unhide HI) (unhide HZ) (unhide HS) (unhide HB) rfl (by decide) _ bs.length (cellsOfBs bs) rfl ((unhide HO5).alloc _) ⟨w5.heap.size, 0, none⟩ 1 1 [.int .i64 ix, .int .i64 gen] rfl rfl (new_two _ _ _ _) (one_two _ _) (by unfold maxLen; omega) (by omega) (by simp; have := (unhide HM5).sz; omega) (by omega) ?_; intro g capg w7 ho7 hg7 hw7; have HO7 := hide ho7; have HG7 := hide hg7; clear ho7 hg7 hw7))
        go_roundw
        case rel =>
          refine ⟨j + 1, by omega, by go_num, ?_, ?_⟩
          · rw [unhide HEQ, bs_app, List.length_append]; exact unhide HO7
          · have h1 := (unhide HM5).below (bel1 w5 (.cells #[.int .i64 ix, .int .i64 gen] 40))
            exact h1.keep (grown_below (unhide HG7) (fun k hk => ((unhide HO5).lt k hk).1) h1.sz)
        case measure => simp [intOf]; omega
    · obtain rfl : j = X.rows.length := by omega
      have HO := hide ho
      have HBW := hide hM.bel
      clear ho hM HX HME
      go_wp2
      go_ret
      exact ⟨_, rfl, unhide HO, unhide HBW⟩
set_option maxRecDepth 8000 in
set_option maxHeartbeats 4000000 in
theorem rmatch_any (A : Option Addr) (cap : Nat) (G : Option Addr) (gcap : Nat) (X : Wd) (a n : Int) (w : World) (hn : X.rows.length ≤ 1000000) (hX : WldAt w A cap G gcap X) (ha : setB a = true) (hna : setB n = true) (hR : ∀ j, j < X.rows.length → setB (X.rows.getD j dR).has = true) :
    Calls Try.prog 52 #[wldV A cap G gcap X, .agg #[.int .i64 a, .int .i64 n]] w fun e w' => ∃ v, e = .returned v ∧ w'.ownsRow (w.heap.size + 2) 40 2 v (bsTo X a n X.rows.length).length (cellsOfBs (bsTo X a n X.rows.length)) ∧ Below w.heap.size w w' := by
  obtain ⟨i40, hi, hz, hs, hb⟩ := info_parts info40
  have hME : ∀ j, j < X.rows.length → ∀ W, Calls Try.prog 32 #[.agg #[.int .i64 a, .int .i64 n], .int .i64 (X.rows.getD j dR).has] W fun e w' => e = .returned (.bool (meetsB a n (X.rows.getD j dR).has)) ∧ Below W.heap.size W w' := fun j hj W => by
    have q1 := set_bd ha
    have q2 := set_bd hna
    have q3 := set_bd (hR j hj)
    have := rmeets_any a n (X.rows.getD j dR).has W q1.1 q1.2 q2.1 q2.2 q3.1 q3.2
    rw [← meets_ok a n _ q1.1 q1.2 q2.1 q2.2 q3.1] at this
    exact this
  have HI := hide hi
  have HZ := hide hz
  have HS := hide hs
  have HB := hide hb
  have HM := hide (MB.start w (.slice A X.rows.length cap) (.slice G X.gens.length gcap) a n)
  have HX := hide hX
  have HME := hide hME
  clear hi hz hs hb hX hME
  unfold wldV worldV
  go_enter Try.func52, Try.ntmps52
  go_wp2
  go_loopw [5, 11] (fun v i wr => ∃ j : Nat, j ≤ X.rows.length ∧ i = .int .i64 j ∧ wr.ownsRow (w.heap.size + 2) 40 2 v (bsTo X a n j).length (cellsOfBs (bsTo X a n j)) ∧ MB w a n wr) (fun _ i _ => X.rows.length - (intOf i).toNat)
  case atStart => exact ⟨0, Nat.zero_le _, rfl, World.ownsRow_nil _ _ _ _, unhide HM⟩
  case round =>
    clear HM
    obtain ⟨j, hj, rfl, ho, hM⟩ := hrel
    by_cases hlt : j < X.rows.length
    · have j0 : (0 : Int) ≤ (j : Int) := by omega
      have j1 : (j : Int) < (X.rows.length : Int) := by omega
      obtain ⟨b, off, hA, hrow⟩ := (unhide HX).rows j hlt
      have hrow : RowAt wr b (off + j * 11) (X.rows.getD j dR) := hrow.below hM.bel
      have c0 := hrow.c0
      have c1 := hrow.c1
      have c2 := hrow.c2
      have c3 := hrow.v 0 (by omega)
      have c4 := hrow.v 1 (by omega)
      have c5 := hrow.v 2 (by omega)
      have c6 := hrow.v 3 (by omega)
      have c7 := hrow.v 4 (by omega)
      have c8 := hrow.v 5 (by omega)
      have c9 := hrow.v 6 (by omega)
      have c10 := hrow.v 7 (by omega)
      simp only [Nat.add_assoc, Nat.reduceAdd] at c3 c4 c5 c6 c7 c8 c9 c10
      simp only [← Nat.add_assoc] at c3 c4 c5 c6 c7 c8 c9 c10
      have f0 := hM.f0
      have f1 := hM.f1
      have lf := World.block_lt_of_cell? wr _ f0
      have lf2 := Nat.lt_of_succ_lt lf
      have HC := hide (unhide HME j hlt)
      have HST := hide (bsTo_succ X a n j hlt)
      have hbl := bsTo_len X a n j
      subst hA
      have HO := hide ho
      have HM := hide hM
      clear ho hM hrow HX HME
      generalize bsTo X a n j = bs at *
      generalize X.rows.getD j dR = x at *
      obtain ⟨ix, gen, has, v⟩ := x
      dsimp only at *
      generalize meetsB a n has = me at *
      cases me
      · have HEQ := hide ((unhide HST).trans (if_neg (by simp)))
        go_wp2_with (first
          | (go_at_call 32; refine (unhide HC _).mono ?_; rintro e w5 ⟨rfl, hb5⟩; have HB5 := hide (below_one _ _ hb5); clear hb5))
        go_roundw
        case rel => exact ⟨j + 1, by omega, by go_num, by rw [unhide HEQ]; exact own_kept (unhide HO) (unhide HB5), (unhide HM).below (unhide HB5)⟩
        case measure => simp [intOf]; omega
      · have HEQ := hide ((unhide HST).trans (if_pos rfl))
        go_wp2_with (first
          | (go_at_call 32; refine (unhide HC _).mono ?_; rintro e w5 ⟨rfl, hb5⟩; have d0 := keep_below hb5 (p := ⟨wr.heap.size, 0, none⟩) (v := .int .i64 ix) (by simp [go_sem]); have d1 := keep_below hb5 (p := ⟨wr.heap.size, 1, none⟩) (v := .int .i64 gen) (by simp [go_sem]); have HO5 := hide (own_kept (unhide HO) (below_one _ _ hb5)); have HM5 := hide ((unhide HM).below (below_one _ _ hb5)); clear hb5)
          | (at_builtin; refine wpList_append1 _ rfl (.tmp 19) (.tmp 22) 63 rfl (w.heap.size + 2) 40 i40 (.agg #[.int .i64 0, .int .i64 0]) 2 16 Try.underlying63 (unhide HI) (unhide HZ) (unhide HS) (unhide HB) rfl (by decide) _ bs.length (cellsOfBs bs) rfl ((unhide HO5).alloc _) ⟨w5.heap.size, 0, none⟩ 1 1 [.int .i64 ix, .int .i64 gen] rfl rfl (new_two _ _ _ _) (one_two _ _) (by unfold maxLen; omega) (by omega) (by simp; have := (unhide HM5).sz; omega) (by omega) ?_; intro g capg w7 ho7 hg7 hw7; have HO7 := hide ho7; have HG7 := hide hg7; clear ho7 hg7 hw7))
        go_roundw
        case rel =>
          refine ⟨j + 1, by omega, by go_num, ?_, ?_⟩
          · rw [unhide HEQ, bs_app, List.length_append]; exact unhide HO7
          · have h1 := (unhide HM5).below (bel1 w5 (.cells #[.int .i64 ix, .int .i64 gen] 40))
            exact h1.keep (grown_below (unhide HG7) (fun k hk => ((unhide HO5).lt k hk).1) h1.sz)
        case measure => simp [intOf]; omega
    · obtain rfl : j = X.rows.length := by omega
      have HO := hide ho
      have HBW := hide hM.bel
      clear ho hM HX HME
      go_wp2
      go_ret
      exact ⟨_, rfl, unhide HO, unhide HBW⟩
def BsAt (w : World) (A : Option Addr) (l : List (Int × Int)) : Prop := ∀ j, j < l.length → ∃ b off, A = some ⟨b, off, none⟩ ∧ w.cell? ⟨b, off + j * 2, none⟩ = some (.int .i64 (l.getD j (0, 0)).1) ∧ w.cell? ⟨b, off + j * 2 + 1, none⟩ = some (.int .i64 (l.getD j (0, 0)).2)
theorem BsAt.below {w w1 : World} {A : Option Addr} {l : List (Int × Int)} (h : BsAt w A l) (hb : Below w.heap.size w w1) : BsAt w1 A l := fun j hj => by
  obtain ⟨b, off, h0, h1, h2⟩ := h j hj
  exact ⟨b, off, h0, keep_below hb h1, keep_below hb h2⟩
theorem bs_get : ∀ (l : List (Int × Int)) (j : Nat), j < l.length → (cellsOfBs l)[j * 2]? = some (.int .i64 (l.getD j (0, 0)).1) ∧ (cellsOfBs l)[j * 2 + 1]? = some (.int .i64 (l.getD j (0, 0)).2)
  | [], j, h => by simp at h
  | x :: l, 0, _ => by simp [cellsOfBs]
  | x :: l, j + 1, h => by
    have := bs_get l j (by simpa using h)
    have e : cellsOfBs (x :: l) = .int .i64 x.1 :: .int .i64 x.2 :: cellsOfBs l := rfl
    rw [e, show (j + 1) * 2 = j * 2 + 1 + 1 by omega]
    simpa using this
theorem bs_own {W : World} {base : Nat} {v : Value} {l : List (Int × Int)} (h : W.ownsRow base 40 2 v l.length (cellsOfBs l)) : ∃ A cap, v = .slice A l.length cap ∧ BsAt W A l := by
  by_cases h0 : 0 < l.length
  · obtain ⟨g, cap, rfl, _, _⟩ := own_pos h h0
    refine ⟨some ⟨g, 0, none⟩, cap, rfl, fun j hj => ⟨g, 0, rfl, ?_, ?_⟩⟩
    · rw [Nat.zero_add]; exact own_cell h (bs_get l j hj).1
    · rw [Nat.zero_add]; exact own_cell h (bs_get l j hj).2
  · obtain rfl : l = [] := List.eq_nil_of_length_eq_zero (by omega)
    rcases h.2 with ⟨rfl, _⟩ | ⟨g, cap, cur, rfl, _⟩
    · exact ⟨none, 0, rfl, fun j hj => by simp at hj⟩
    · exact ⟨_, cap, rfl, fun j hj => by simp at hj⟩
set_option maxRecDepth 8000 in
set_option maxHeartbeats 2000000 in
theorem samebs_true (A : Option Addr) (c : Nat) (A' : Option Addr) (c' : Nat) (l : List (Int × Int)) (w : World) (hl : l.length ≤ 1000000) (hA : BsAt w A l) (hA' : BsAt w A' l) :
    Calls Try.prog 50 #[.slice A l.length c, .slice A' l.length c'] w fun e w' => e = .returned (.bool true) ∧ Below w.heap.size w w' := by
  have HA := hide hA
  have HA' := hide hA'
  clear hA hA'
  go_enter Try.func50, Try.ntmps50
  go_wp2
  go_loopw [13] (fun x wr => ∃ j : Nat, j ≤ l.length ∧ x = .int .i64 j ∧ Below w.heap.size w wr) (fun x _ => l.length - (intOf x).toNat)
  case atStart => exact ⟨0, Nat.zero_le _, rfl, Below.refl _ _⟩
  case round =>
    obtain ⟨j, hj, rfl, hbr⟩ := hrel
    by_cases hlt : j < l.length
    · have j0 : (0 : Int) ≤ (j : Int) := by omega
      have j1 : (j : Int) < (l.length : Int) := by omega
      obtain ⟨b, off, rfl, h1, h2⟩ := unhide HA j hlt
      obtain ⟨b', off', rfl, h3, h4⟩ := unhide HA' j hlt
      have c0 := keep_below hbr h1
      have c1 := keep_below hbr h2
      have d0 := keep_below hbr h3
      have d1 := keep_below hbr h4
      have HBR := hide hbr
      clear h1 h2 h3 h4 hbr HA HA'
      go_wp2
      go_quiet (fail)
      go_wp2
      go_roundw
      case rel => exact ⟨j + 1, by omega, by go_num, bel_drewN' (unhide HBR) _⟩
      case measure => simp [intOf]; omega
    · obtain rfl : j = l.length := by omega
      have HBR := hide hbr
      clear hbr HA HA'
      go_wp2
      go_ret
      exact ⟨rfl, unhide HBR⟩
end Go.Proofs.Ytnbleebilmghcaa
