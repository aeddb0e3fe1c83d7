/- The document's WrongAct answers what package rule's wrongAct answers, if what may be read is what is in All and not gone. -/
import Derived.Test.YtnbleebilmghcabBRefs
set_option linter.unusedVariables false
set_option linter.unusedSimpArgs false
set_option linter.unnecessarySimpa false
namespace Go.Proofs.Ytnbleebilmghcab
open Go.RowKit

def gV (g : Nat → Bool) : Value := .agg #[.bool (g 0), .bool (g 1), .bool (g 2), .bool (g 3), .bool (g 4), .bool (g 5), .bool (g 6), .bool (g 7)]
/-- What may be read is what is in All and not gone. -/
structure GR (al : Int) (g : Nat → Bool) (r : Int) : Prop where
  sal : setB al = true
  sr : setB r = true
  eq : ∀ q, q < 8 → tb r q = (tb al q && !g q)

theorem in_bit_fin : ∀ m : Fin 256, ∀ k : Fin 8, inB (bitI (k.val : Int)) (m.val : Int) = tb (m.val : Int) k.val := by decide +kernel
theorem in_bit (r : Int) (k : Nat) (h : setB r = true) (hk : k < 8) : inB (bitI (k : Int)) r = tb r k := by
  have h1 := of_decide_eq_true h
  obtain ⟨m, rfl⟩ := fin_of r h1.1 h1.2
  exact in_bit_fin m ⟨k, hk⟩
theorem in_two (x y r : Int) (hx : setB x = true) (hy : setB y = true) (hr : setB r = true) : inB (bits .or .i64 x y) r = (inB x r && inB y r) := by
  rw [Bool.eq_iff_iff, Bool.and_eq_true, in_tb _ _ (or_set x y hx hy).2 hr, in_tb _ _ hx hr, in_tb _ _ hy hr]
  constructor
  · intro h
    exact ⟨fun k hk h1 => h k hk (by rw [tb_or x y hx hy k hk, h1]; rfl), fun k hk h1 => h k hk (by rw [tb_or x y hx hy k hk, h1]; simp)⟩
  · rintro ⟨h1, h2⟩ k hk h
    rw [tb_or x y hx hy k hk, Bool.or_eq_true] at h
    rcases h with h | h
    · exact h1 k hk h
    · exact h2 k hk h
theorem rd2 (p r : Int) (i : Nat) (hr : setB r = true) (hi : i < 8) : inB (rdI 2 p (i : Int)) r = tb r i := by
  simp only [rdI, if_true, or_left _ (bit_set _)]
  exact in_bit r i hr hi
theorem rd3 (r : Int) (i j : Nat) (hr : setB r = true) (hi : i < 8) (hj : j < 8) : inB (rdI 3 (j : Int) (i : Int)) r = (tb r i && tb r j) := by
  have e : rdI 3 (j : Int) (i : Int) = bits .or .i64 (bitI (i : Int)) (bitI (j : Int)) := by simp [rdI, or_left _ (bit_set _)]
  rw [e, in_two _ _ _ (bit_set _) (bit_set _) hr, in_bit r i hr hi, in_bit r j hr hj]
theorem rd4 (f r : Int) (j : Nat) (hr : setB r = true) (hj : j < 8) : inB (rdI 4 (j : Int) f) r = tb r j := by
  have e : rdI 4 (j : Int) f = bitI (j : Int) := by simp [rdI, or_left _ (bit_set _)]
  rw [e]; exact in_bit r j hr hj
theorem in_zero (r : Int) : inB 0 r = true := by
  unfold inB
  rw [beq_iff_eq, andNotz]; simp

/-- The boxes. -/
structure QW (w : World) (al k p f n : Int) (g : Nat → Bool) (W : World) : Prop where
  bel : Below w.heap.size w W
  a0 : W.cell? ⟨w.heap.size, 0, none⟩ = some (.int .i64 al)
  k0 : W.cell? ⟨w.heap.size + 1, 0, none⟩ = some (.int .i64 k)
  k1 : W.cell? ⟨w.heap.size + 1, 1, none⟩ = some (.int .i64 p)
  k2 : W.cell? ⟨w.heap.size + 1, 2, none⟩ = some (.int .i64 f)
  k3 : W.cell? ⟨w.heap.size + 1, 3, none⟩ = some (.int .i64 n)
  g : ∀ i, i < 8 → W.cell? ⟨w.heap.size + 1 + 1, i, none⟩ = some (.bool (g i))
section
variable {w : World} {al no k p f n : Int} {g : Nat → Bool} {W W1 : World}
theorem QW.below (h : QW w al k p f n g W) (hb : Below W.heap.size W W1) : QW w al k p f n g W1 :=
  ⟨h.bel.trans (hb.mono h.bel.size), keep_below hb h.a0, keep_below hb h.k0, keep_below hb h.k1, keep_below hb h.k2, keep_below hb h.k3, fun i hi => keep_below hb (h.g i hi)⟩
theorem QW.start : QW w al k p f n g (((w.alloc (.cells #[.int .i64 al, .int .i64 no] 23)).alloc (.cells #[.int .i64 k, .int .i64 p, .int .i64 f, .int .i64 n] 76)).alloc (.cells #[.bool (g 0), .bool (g 1), .bool (g 2), .bool (g 3), .bool (g 4), .bool (g 5), .bool (g 6), .bool (g 7)] 92)) := by
  refine ⟨by go_grown, by simp [go_sem], by simp [go_sem], by simp [go_sem], by simp [go_sem], by simp [go_sem], fun i hi => ?_⟩
  rcases (by omega : i = 0 ∨ i = 1 ∨ i = 2 ∨ i = 3 ∨ i = 4 ∨ i = 5 ∨ i = 6 ∨ i = 7) with rfl | rfl | rfl | rfl | rfl | rfl | rfl | rfl <;> simp [go_sem]
end

theorem part_or (p : Int) : p < 0 ∨ 7 < p ∨ ∃ j : Nat, j < 8 ∧ p = (j : Int) := by
  by_cases h : p < 0
  · exact .inl h
  · by_cases h2 : 7 < p
    · exact .inr (.inl h2)
    · exact .inr (.inr ⟨p.toNat, by omega, by omega⟩)
theorem partB_nat (j : Nat) (h : j < 8) : partB (j : Int) = true := decide_eq_true ⟨by omega, by omega⟩

set_option maxRecDepth 8000 in
set_option maxHeartbeats 1000000 in
/-- Kinds that read nothing. -/
theorem rwrongAct_plain (k p f n al no r : Int) (g : Nat → Bool) (w : World) (hk : ¬ (k = 2 ∨ k = 3 ∨ k = 4)) :
    Calls Try.prog 78 #[.agg #[.int .i64 al, .int .i64 no], actV k p f n, gV g] w fun e w' => e = .returned (.int .i64 (waI k p f n r)) ∧ Below w.heap.size w w' := by
  unfold gV
  by_cases h : k = 1 ∨ k = 5 ∨ k = 6 ∨ k = 7
  · clear hk
    have hr : rdI k p f = 0 := by rcases h with rfl | rfl | rfl | rfl <;> simp [rdI]
    have e : waI k p f n r = if rgB k p f n = false then 3 else 0 := by
      unfold waI
      rw [if_neg (by omega), hr, in_zero]; simp
    rw [e]
    clear e hr
    unfold actV
    rcases h with rfl | rfl | rfl | rfl
    · cases hv : valB n
      · have e : (if rgB 1 p f n = false then (3 : Int) else 0) = 3 := by simp [rgB, hv]
        rw [e]
        clear e
        go_enter Try.func78, Try.ntmps78
        go_wp2_with (first | (go_at_call 21; refine (rvalue_any _ _).mono ?_; rintro e w1 ⟨rfl, hw⟩; obtain rfl := hw.symm))
        go_ret
        exact ⟨rfl, by go_grown⟩
      · rcases part_or p with hp | hp | ⟨j, hj, rfl⟩
        · have e : (if rgB 1 p f n = false then (3 : Int) else 0) = 3 := by
            have : partB p = false := decide_eq_false (by omega)
            simp [rgB, this]
          rw [e]
          clear e
          go_enter Try.func78, Try.ntmps78
          go_wp2_with (first | (go_at_call 21; refine (rvalue_any _ _).mono ?_; rintro e w1 ⟨rfl, hw⟩; obtain rfl := hw.symm))
          go_ret
          exact ⟨rfl, by go_grown⟩
        · have e : (if rgB 1 p f n = false then (3 : Int) else 0) = 3 := by
            have : partB p = false := decide_eq_false (by omega)
            simp [rgB, this]
          rw [e]
          clear e
          have hp0 : ¬ p < 0 := by omega
          go_enter Try.func78, Try.ntmps78
          go_wp2_with (first | (go_at_call 21; refine (rvalue_any _ _).mono ?_; rintro e w1 ⟨rfl, hw⟩; obtain rfl := hw.symm))
          go_ret
          exact ⟨rfl, by go_grown⟩
        · have e : (if rgB 1 (j : Int) f n = false then (3 : Int) else 0) = 0 := by simp [rgB, hv, partB_nat j hj]
          rw [e]
          clear e
          have hp0 : ¬ (j : Int) < 0 := by omega
          have hp1 : ¬ 7 < (j : Int) := by omega
          go_enter Try.func78, Try.ntmps78
          go_wp2_with (first | (go_at_call 21; refine (rvalue_any _ _).mono ?_; rintro e w1 ⟨rfl, hw⟩; obtain rfl := hw.symm))
          go_ret
          exact ⟨rfl, by go_grown⟩
    · rcases part_or p with hp | hp | ⟨j, hj, rfl⟩
      · have e : (if rgB 5 p f n = false then (3 : Int) else 0) = 3 := by
          have : partB p = false := decide_eq_false (by omega)
          simp [rgB, this]
        rw [e]
        clear e
        go_enter Try.func78, Try.ntmps78
        go_wp2
        go_ret
        exact ⟨rfl, by go_grown⟩
      · have e : (if rgB 5 p f n = false then (3 : Int) else 0) = 3 := by
          have : partB p = false := decide_eq_false (by omega)
          simp [rgB, this]
        rw [e]
        clear e
        have hp0 : ¬ p < 0 := by omega
        go_enter Try.func78, Try.ntmps78
        go_wp2
        go_ret
        exact ⟨rfl, by go_grown⟩
      · have e : (if rgB 5 (j : Int) f n = false then (3 : Int) else 0) = 0 := by simp [rgB, partB_nat j hj]
        rw [e]
        clear e
        have hp0 : ¬ (j : Int) < 0 := by omega
        have hp1 : ¬ 7 < (j : Int) := by omega
        go_enter Try.func78, Try.ntmps78
        go_wp2
        go_ret
        exact ⟨rfl, by go_grown⟩
    · have e : (if rgB 6 p f n = false then (3 : Int) else 0) = 0 := by simp [rgB]
      rw [e]
      clear e
      go_enter Try.func78, Try.ntmps78
      go_wp2
      go_ret
      exact ⟨rfl, by go_grown⟩
    · cases hs : setB p
      · have e : (if rgB 7 p f n = false then (3 : Int) else 0) = 3 := by simp [rgB, hs]
        rw [e]
        clear e
        go_enter Try.func78, Try.ntmps78
        go_wp2_with (first | (go_at_call 77; refine (rset_any _ _).mono ?_; rintro e w1 ⟨rfl, hw⟩; obtain rfl := hw.symm))
        go_ret
        exact ⟨rfl, by go_grown⟩
      · cases hv : valB n
        · have e : (if rgB 7 p f n = false then (3 : Int) else 0) = 3 := by simp [rgB, hv]
          rw [e]
          clear e
          go_enter Try.func78, Try.ntmps78
          go_wp2_with (first | (go_at_call 77; refine (rset_any _ _).mono ?_; rintro e w1 ⟨rfl, hw⟩; obtain rfl := hw.symm) | (go_at_call 21; refine (rvalue_any _ _).mono ?_; rintro e w1 ⟨rfl, hw⟩; obtain rfl := hw.symm))
          go_ret
          exact ⟨rfl, by go_grown⟩
        · have e : (if rgB 7 p f n = false then (3 : Int) else 0) = 0 := by simp [rgB, hv, hs]
          rw [e]
          clear e
          go_enter Try.func78, Try.ntmps78
          go_wp2_with (first | (go_at_call 77; refine (rset_any _ _).mono ?_; rintro e w1 ⟨rfl, hw⟩; obtain rfl := hw.symm) | (go_at_call 21; refine (rvalue_any _ _).mono ?_; rintro e w1 ⟨rfl, hw⟩; obtain rfl := hw.symm))
          go_ret
          exact ⟨rfl, by go_grown⟩
  · have h1 : ¬ k = 1 := by omega
    have h2 : ¬ k = 2 := by omega
    have h3 : ¬ k = 3 := by omega
    have h4 : ¬ k = 4 := by omega
    have h5 : ¬ k = 5 := by omega
    have h6 : ¬ k = 6 := by omega
    have h7 : ¬ k = 7 := by omega
    have e : waI k p f n r = 1 := by unfold waI; rw [if_pos (by omega)]
    rw [e]
    clear e h hk
    unfold actV
    go_enter Try.func78, Try.ntmps78
    go_wp2
    go_ret
    exact ⟨rfl, by go_grown⟩

set_option maxRecDepth 8000 in
set_option maxHeartbeats 1000000 in
/-- More. -/
theorem rwrongAct_4 (p f n al no r : Int) (g : Nat → Bool) (w : World) (hg : GR al g r) :
    Calls Try.prog 78 #[.agg #[.int .i64 al, .int .i64 no], actV 4 p f n, gV g] w fun e w' => e = .returned (.int .i64 (waI 4 p f n r)) ∧ Below w.heap.size w w' := by
  have e : waI 4 p f n r = if rgB 4 p f n = false then 3 else if inB (rdI 4 p f) r = false then 7 else 0 := by
    unfold waI; rw [if_neg (by omega)]
  rw [e]
  clear e
  have hS : QW w al 4 p f n g _ := QW.start (no := no)
  have HS := hide hS
  clear hS
  unfold gV actV
  cases hv : valB n
  · have e : (if rgB 4 p f n = false then (3 : Int) else if inB (rdI 4 p f) r = false then 7 else 0) = 3 := by simp [rgB, hv]
    rw [e]
    clear e HS
    go_enter Try.func78, Try.ntmps78
    go_wp2_with (first | (go_at_call 21; refine (rvalue_any _ _).mono ?_; rintro e w1 ⟨rfl, hw⟩; obtain rfl := hw.symm))
    go_ret
    exact ⟨rfl, by go_grown⟩
  · rcases part_or p with hp | hp | ⟨j, hj, rfl⟩
    · have e : (if rgB 4 p f n = false then (3 : Int) else if inB (rdI 4 p f) r = false then 7 else 0) = 3 := by
        have : partB p = false := decide_eq_false (by omega)
        simp [rgB, this]
      rw [e]
      clear e HS
      go_enter Try.func78, Try.ntmps78
      go_wp2_with (first | (go_at_call 21; refine (rvalue_any _ _).mono ?_; rintro e w1 ⟨rfl, hw⟩; obtain rfl := hw.symm))
      go_ret
      exact ⟨rfl, by go_grown⟩
    · have e : (if rgB 4 p f n = false then (3 : Int) else if inB (rdI 4 p f) r = false then 7 else 0) = 3 := by
        have : partB p = false := decide_eq_false (by omega)
        simp [rgB, this]
      rw [e]
      clear e HS
      have hp0 : ¬ p < 0 := by omega
      go_enter Try.func78, Try.ntmps78
      go_wp2_with (first | (go_at_call 21; refine (rvalue_any _ _).mono ?_; rintro e w1 ⟨rfl, hw⟩; obtain rfl := hw.symm))
      go_ret
      exact ⟨rfl, by go_grown⟩
    · have e : (if rgB 4 (j : Int) f n = false then (3 : Int) else if inB (rdI 4 (j : Int) f) r = false then 7 else 0) = if (tb al j && !g j) = false then 7 else 0 := by
        rw [rd4 f r j hg.sr hj, hg.eq j hj]; simp [rgB, hv, partB_nat j hj]
      rw [e]
      clear e
      have HJ := hide (fun W => rhas_at al j W hg.sal hj)
      have HG := hide (fun W (h : QW w al 4 (j : Int) f n g W) => h.g j hj)
      have hp0 : ¬ (j : Int) < 0 := by omega
      have hp1 : ¬ 7 < (j : Int) := by omega
      have hj0 : (0 : Int) ≤ (j : Int) := by omega
      have hj1 : (j : Int) < 8 := by omega
      clear hg
      generalize tb al j = tj at *
      generalize g j = gj at *
      cases tj
      · go_enter Try.func78, Try.ntmps78
        go_wp2_with (first
          | (go_at_call 21; refine (rvalue_any _ _).mono ?_; rintro e w1 ⟨rfl, hw⟩; obtain rfl := hw.symm)
          | (go_at_call 20; refine (unhide HJ _).mono ?_; rintro e w1 ⟨rfl, hb1⟩; have HB := hide ((unhide HS).below hb1).bel; clear hb1))
        go_ret
        exact ⟨by simp, unhide HB⟩
      · cases gj
        all_goals
          go_enter Try.func78, Try.ntmps78
          go_wp2_with (first
            | (go_at_call 21; refine (rvalue_any _ _).mono ?_; rintro e w1 ⟨rfl, hw⟩; obtain rfl := hw.symm)
            | (go_at_call 20; refine (unhide HJ _).mono ?_; rintro e w1 ⟨rfl, hb1⟩; have hS1 := (unhide HS).below hb1; have k1 := hS1.k1; have c1 := unhide HG _ hS1; have HB := hide hS1.bel; clear hb1 hS1))
          go_ret
          exact ⟨by simp, unhide HB⟩

set_option maxRecDepth 8000 in
set_option maxHeartbeats 2000000 in
/-- Copy. -/
theorem rwrongAct_2 (p f n al no r : Int) (g : Nat → Bool) (w : World) (hg : GR al g r) :
    Calls Try.prog 78 #[.agg #[.int .i64 al, .int .i64 no], actV 2 p f n, gV g] w fun e w' => e = .returned (.int .i64 (waI 2 p f n r)) ∧ Below w.heap.size w w' := by
  have e : waI 2 p f n r = if rgB 2 p f n = false then 3 else if inB (rdI 2 p f) r = false then 7 else 0 := by
    unfold waI; rw [if_neg (by omega)]
  rw [e]
  clear e
  have hS : QW w al 2 p f n g _ := QW.start (no := no)
  have HS := hide hS
  clear hS
  unfold gV actV
  rcases part_or f with hf | hf | ⟨i, hi, rfl⟩
  · have e : (if rgB 2 p f n = false then (3 : Int) else if inB (rdI 2 p f) r = false then 7 else 0) = 3 := by
      have : partB f = false := decide_eq_false (by omega)
      simp [rgB, this]
    rw [e]
    clear e HS
    go_enter Try.func78, Try.ntmps78
    go_wp2
    go_ret
    exact ⟨rfl, by go_grown⟩
  · have e : (if rgB 2 p f n = false then (3 : Int) else if inB (rdI 2 p f) r = false then 7 else 0) = 3 := by
      have : partB f = false := decide_eq_false (by omega)
      simp [rgB, this]
    rw [e]
    clear e HS
    have hf0 : ¬ f < 0 := by omega
    go_enter Try.func78, Try.ntmps78
    go_wp2
    go_ret
    exact ⟨rfl, by go_grown⟩
  · have hf0 : ¬ (i : Int) < 0 := by omega
    have hf1 : ¬ 7 < (i : Int) := by omega
    have hi0 : (0 : Int) ≤ (i : Int) := by omega
    have hi1 : (i : Int) < 8 := by omega
    rcases part_or p with hp | hp | ⟨j, hj, rfl⟩
    · have e : (if rgB 2 p (i : Int) n = false then (3 : Int) else if inB (rdI 2 p (i : Int)) r = false then 7 else 0) = 3 := by
        have : partB p = false := decide_eq_false (by omega)
        simp [rgB, this]
      rw [e]
      clear e HS
      go_enter Try.func78, Try.ntmps78
      go_wp2
      go_ret
      exact ⟨rfl, by go_grown⟩
    · have e : (if rgB 2 p (i : Int) n = false then (3 : Int) else if inB (rdI 2 p (i : Int)) r = false then 7 else 0) = 3 := by
        have : partB p = false := decide_eq_false (by omega)
        simp [rgB, this]
      rw [e]
      clear e HS
      have hp0 : ¬ p < 0 := by omega
      go_enter Try.func78, Try.ntmps78
      go_wp2
      go_ret
      exact ⟨rfl, by go_grown⟩
    · have e : (if rgB 2 (j : Int) (i : Int) n = false then (3 : Int) else if inB (rdI 2 (j : Int) (i : Int)) r = false then 7 else 0) = if (tb al i && !g i) = false then 7 else 0 := by
        rw [rd2 (j : Int) r i hg.sr hi, hg.eq i hi]; simp [rgB, partB_nat j hj, partB_nat i hi]
      rw [e]
      clear e
      have HJ := hide (fun W => rhas_at al i W hg.sal hi)
      have HG := hide (fun W (h : QW w al 2 (j : Int) (i : Int) n g W) => h.g i hi)
      have hp0 : ¬ (j : Int) < 0 := by omega
      have hp1 : ¬ 7 < (j : Int) := by omega
      clear hg
      generalize tb al i = tj at *
      generalize g i = gj at *
      cases tj
      · go_enter Try.func78, Try.ntmps78
        go_wp2_with (first
          | (go_at_call 20; refine (unhide HJ _).mono ?_; rintro e w1 ⟨rfl, hb1⟩; have HB := hide ((unhide HS).below hb1).bel; clear hb1))
        go_ret
        exact ⟨by simp, unhide HB⟩
      · cases gj
        all_goals
          go_enter Try.func78, Try.ntmps78
          go_wp2_with (first
            | (go_at_call 20; refine (unhide HJ _).mono ?_; rintro e w1 ⟨rfl, hb1⟩; have hS1 := (unhide HS).below hb1; have k2 := hS1.k2; have c1 := unhide HG _ hS1; have HB := hide hS1.bel; clear hb1 hS1))
          go_ret
          exact ⟨by simp, unhide HB⟩
end Go.Proofs.Ytnbleebilmghcab
