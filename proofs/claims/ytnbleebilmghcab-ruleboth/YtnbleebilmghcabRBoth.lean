/- The statement RuleBoth, its walk. -/
import Derived.Test.YtnbleebilmghcabRRight
set_option maxRecDepth 100000
set_option linter.unnecessarySimpa false
set_option linter.unusedSimpArgs false
set_option linter.unusedVariables false
namespace Go.Proofs.Ytnbleebilmghcab
open Go.RowKit
attribute [local go_sem ↓] Go.wp_at_zero Go.wp_at_succ

/-- The two systems' boxes. -/
structure BW (w : World) (m al no : Int) (A : Option Addr) (len cap : Nat) (m' al' no' : Int) (A' : Option Addr) (len' cap' : Nat) (W : World) : Prop where
  bel : Below w.heap.size w W
  p0 : W.cell? ⟨w.heap.size, 0, none⟩ = some (.int .i64 m)
  p1 : W.cell? ⟨w.heap.size, 1, none⟩ = some (.int .i64 al)
  p2 : W.cell? ⟨w.heap.size, 2, none⟩ = some (.int .i64 no)
  p3 : W.cell? ⟨w.heap.size, 3, none⟩ = some (.slice A len cap)
  q0 : W.cell? ⟨w.heap.size + 1, 0, none⟩ = some (.int .i64 m')
  q1 : W.cell? ⟨w.heap.size + 1, 1, none⟩ = some (.int .i64 al')
  q2 : W.cell? ⟨w.heap.size + 1, 2, none⟩ = some (.int .i64 no')
  q3 : W.cell? ⟨w.heap.size + 1, 3, none⟩ = some (.slice A' len' cap')
section
variable {w : World} {m al no : Int} {A : Option Addr} {len cap : Nat} {m' al' no' : Int} {A' : Option Addr} {len' cap' : Nat} {W W1 : World}
theorem BW.below (h : BW w m al no A len cap m' al' no' A' len' cap' W) (hb : Below W.heap.size W W1) : BW w m al no A len cap m' al' no' A' len' cap' W1 :=
  ⟨h.bel.trans (hb.mono h.bel.size), keep_below hb h.p0, keep_below hb h.p1, keep_below hb h.p2, keep_below hb h.p3, keep_below hb h.q0, keep_below hb h.q1, keep_below hb h.q2, keep_below hb h.q3⟩
theorem BW.start : BW w m al no A len cap m' al' no' A' len' cap' ((w.alloc (.cells #[.int .i64 m, .int .i64 al, .int .i64 no, .slice A len cap] 26)).alloc (.cells #[.int .i64 m', .int .i64 al', .int .i64 no', .slice A' len' cap'] 26)) :=
  ⟨by go_grown, by simp [go_sem], by simp [go_sem], by simp [go_sem], by simp [go_sem], by simp [go_sem], by simp [go_sem], by simp [go_sem], by simp [go_sem]⟩
end

set_option maxHeartbeats 2000000 in
theorem both_walk (m al no : Int) (A : Option Addr) (len cap : Nat) (a : Nat → ActI) (m' al' no' : Int) (A' : Option Addr) (len' cap' : Nat) (a' : Nat → ActI) (w : World) (hA : ActsAt w A len a) (hA' : ActsAt w A' len' a') :
    Calls Try.prog 3 #[sysV m al no A len cap, sysV m' al' no' A' len' cap'] w fun e w' => e = .returned (.bool true) ∧ Below w.heap.size w w' := by
  have hS : BW w m al no A len cap m' al' no' A' len' cap' _ := BW.start
  have hw1 : ∀ W1, Below w.heap.size w W1 → Calls Try.prog 12 #[sysV m al no A len cap] W1 fun e w' => e = .returned (faultV (wrF m al no a len)) ∧ Below W1.heap.size W1 w' := fun W1 h => wrong_any m al no A len cap a W1 (hA.below h)
  have hw2 : ∀ W1, Below w.heap.size w W1 → Calls Try.prog 12 #[sysV m' al' no' A' len' cap'] W1 fun e w' => e = .returned (faultV (wrF m' al' no' a' len')) ∧ Below W1.heap.size W1 w' := fun W1 h => wrong_any m' al' no' A' len' cap' a' W1 (hA'.below h)
  unfold faultV at hw1 hw2
  have hfd := run_field
  have HS := hide hS
  have HAL := hide alive_any
  by_cases h1 : (wrF m al no a len).1 = 0
  · by_cases h2 : (wrF m' al' no' a' len').1 = 0
    · obtain ⟨_, hl, hok⟩ := (right_spec m al no a len).1 h1
      obtain ⟨_, hl', hok'⟩ := (right_spec m' al' no' a' len').1 h2
      have hc1 : ∀ W1, Below w.heap.size w W1 → Calls Try.prog 13 #[sysV m al no A len cap, sysV m' al' no' A' len' cap'] W1 fun e w' => e = .returned (.bool (clB al a len al' a' len')) ∧ Below W1.heap.size W1 w' := fun W1 h => clash_any m al no A len cap a m' al' no' A' len' cap' a' W1 hl hl' (hA.below h) (hA'.below h)
      have hc2 : ∀ W1, Below w.heap.size w W1 → Calls Try.prog 13 #[sysV m' al' no' A' len' cap', sysV m al no A len cap] W1 fun e w' => e = .returned (.bool (clB al' a' len' al a len)) ∧ Below W1.heap.size W1 w' := fun W1 h => clash_any m' al' no' A' len' cap' a' m al no A len cap a W1 hl' hl (hA'.below h) (hA.below h)
      rw [← clB_comm al a len al' a' len'] at hc2
      have hn1 : ∀ W1, Below w.heap.size w W1 → Calls Try.prog 14 #[sysV m al no A len cap] W1 fun e w' => e = .returned (needsV al a len) ∧ Below W1.heap.size W1 w' := fun W1 h => needs_any m al no A len cap a W1 hl (hA.below h)
      have hn2 : ∀ W1, Below w.heap.size w W1 → Calls Try.prog 14 #[sysV m' al' no' A' len' cap'] W1 fun e w' => e = .returned (needsV al' a' len') ∧ Below W1.heap.size W1 w' := fun W1 h => needs_any m' al' no' A' len' cap' a' W1 hl' (hA'.below h)
      have hfin : wrTo a len = 0 → wrTo a' len' = 0 → lfTo a len = false → lfTo a' len' = false → clB al a len al' a' len' = false := by
        intro e1 e2 e3 e4
        have e5 := moves_writes al a len hok e1
        have e6 := moves_writes al' a' len' hok' e2
        simp [clB, clN, e1, e2, e3, e4, e5, e6, ds_zero]
      rw [h1] at hw1
      rw [h2] at hw2
      generalize (wrF m' al' no' a' len').2 = g2 at *
      generalize (wrF m al no a len).2 = g1 at *
      generalize clB al a len al' a' len' = c at *
      unfold needsV sysV at *
      generalize rdTo a len = r at *
      generalize wrTo a len = u at *
      generalize mvTo al a len = mv at *
      generalize lfTo a len = lf at *
      generalize rdTo a' len' = r' at *
      generalize wrTo a' len' = u' at *
      generalize mvTo al' a' len' = mv' at *
      generalize lfTo a' len' = lf' at *
      have HW1 := hide hw1
      have HW2 := hide hw2
      have HC1 := hide hc1
      have HC2 := hide hc2
      have HN1 := hide hn1
      have HN2 := hide hn2
      have HF := hide hfin
      clear hw1 hw2 hc1 hc2 hn1 hn2 hS h1 h2 hA hA' hfin hok hok' hl hl'
      go_enter Try.func3, Try.ntmps3
      go_wp2_with (first
        | (go_at_call 11; refine (unhide HAL _).mono ?_; rintro e w1 ⟨rfl, hb1⟩; have hS1 := (unhide HS).below hb1; have p0 := hS1.p0; have p1 := hS1.p1; have p2 := hS1.p2; have p3 := hS1.p3; have q0 := hS1.q0; have q1 := hS1.q1; have q2 := hS1.q2; have q3 := hS1.q3; have HS1 := hide hS1; clear hS1 hb1 HS)
        | (go_at_call 12; refine (unhide HW1 _ (unhide HS1).bel).mono ?_; rintro e w2 ⟨rfl, hb2⟩; clear HW1 p0 p1 p2 p3 q0 q1 q2 q3; have hS2 := (unhide HS1).below hb2; have q0 := hS2.q0; have q1 := hS2.q1; have q2 := hS2.q2; have q3 := hS2.q3; have HS2 := hide hS2; clear hS2 hb2 HS1)
        | (go_at_call 12; refine (unhide HW2 _ (unhide HS2).bel).mono ?_; rintro e w3 ⟨rfl, hb3⟩; have hS3 := (unhide HS2).below hb3; have HS3 := hide hS3; clear hS3 hb3 HS2 q0 q1 q2 q3))
      have hS3 := unhide HS3
      have hne : Nonempty (Sub w3) := ⟨⟨w3, Below.refl _ _⟩⟩
      have p0 := sub_cell hS3.p0
      have p1 := sub_cell hS3.p1
      have p2 := sub_cell hS3.p2
      have p3 := sub_cell hS3.p3
      have q0 := sub_cell hS3.q0
      have q1 := sub_cell hS3.q1
      have q2 := sub_cell hS3.q2
      have q3 := sub_cell hS3.q3
      have HD1 := hide (fun x : Sub w3 => unhide HC1 x.val (hS3.bel.trans (x.bel.mono hS3.bel.size)))
      have HD2 := hide (fun x : Sub w3 => unhide HC2 x.val (hS3.bel.trans (x.bel.mono hS3.bel.size)))
      clear hS3
      refine wp_region_sub (by kernel_rfl) (by kernel_rfl) ?_
      go_big_quiet_step (fail)
      go_big_quiet_step (fail)
      go_big_quiet_step ((go_at_call 13; exact sub_bel (unhide HD1 _)))
      go_big_quiet_step (fail)
      go_big_quiet_step (fail)
      go_big_quiet_step ((go_at_call 13; exact sub_bel (unhide HD2 _)))
      go_big_quiet_step (fail)
      refine wpQuiet_nil ?_
      rintro w4 ⟨xs, hxs⟩
      have hb4 := xs.bel
      rw [← hxs] at hb4
      have hS4 := (unhide HS3).below hb4
      clear hxs xs hb4 p0 p1 p2 p3 q0 q1 q2 q3 hne HD1 HD2 HS3 HC2
      have HS4 := hide hS4
      clear hS4
      go_wp2_with fail
      rename_i K1 hK1
      have HK := hide hK1
      clear hK1
      refine wp_two_needs _ _ _ _ _ _ _ _ 27 29 5 6 (by decide) ⟨rfl, rfl⟩ ⟨rfl, rfl⟩ ⟨rfl, rfl⟩ ⟨rfl, rfl⟩ (by kernel_rfl) (by kernel_rfl) (by kernel_rfl) (by kernel_rfl) (by kernel_rfl) (by simp) (by simp) r u mv lf r' u' mv' lf' 26 28
        (.agg #[.int .i64 m, .int .i64 al, .int .i64 no, .slice A len cap]) (.agg #[.int .i64 m', .int .i64 al', .int .i64 no', .slice A' len' cap']) _ rfl (by decide) (by simp) (by simp) ?q ?fin
      case q =>
        intro w5 hw5
        have hS5 := (unhide HS4).below hw5
        have hne : Nonempty (Sub w5) := ⟨⟨w5, Below.refl _ _⟩⟩
        have p0 := sub_cell hS5.p0
        have p1 := sub_cell hS5.p1
        have p2 := sub_cell hS5.p2
        have p3 := sub_cell hS5.p3
        have q0 := sub_cell hS5.q0
        have q1 := sub_cell hS5.q1
        have q2 := sub_cell hS5.q2
        have q3 := sub_cell hS5.q3
        have HD1 := hide (fun x : Sub w5 => unhide HN1 x.val (hS5.bel.trans (x.bel.mono hS5.bel.size)))
        have HD2 := hide (fun x : Sub w5 => unhide HN2 x.val (hS5.bel.trans (x.bel.mono hS5.bel.size)))
        clear hS5 hw5
        go_big_quiet_step (fail)
        go_big_quiet_step ((go_at_call 14; exact sub_bel (unhide HD1 _)))
        go_big_quiet_step (fail)
        go_big_quiet_step ((go_at_call 14; exact sub_bel (unhide HD2 _)))
        exact wpQuiet_nil (by simp [Act.put, nV])
      case fin =>
        intro g0 g1 w6 hN
        have hS6 := BW.below (unhide HS4) hN.bel
        simp [Act.put, nV]
        have hK := unhide HK
        clear HK HS4 HN1 HN2
        have c1 := hN.c1
        have c3 := hN.c3
        have d1 := hN.d1
        have d3 := hN.d3
        have p0 := hS6.p0
        have p1 := hS6.p1
        have p2 := hS6.p2
        have p3 := hS6.p3
        have q0 := hS6.q0
        have q1 := hS6.q1
        have q2 := hS6.q2
        have q3 := hS6.q3
        have HB6 := hide hS6.bel
        clear hN hS6
        have hcase : (c = false ∧ u = 0 ∧ u' = 0 ∧ lf = false ∧ lf' = false) ∨ (u = 0 ∧ u' = 0 ∧ lf = false ∧ lf' = true) ∨ (u = 0 ∧ u' = 0 ∧ lf = true) ∨ (u = 0 ∧ ¬ u' = 0) ∨ ¬ u = 0 := by
          by_cases hu : u = 0
          · by_cases hu' : u' = 0
            · cases lf
              · cases lf'
                · exact .inl ⟨unhide HF hu hu' rfl rfl, hu, hu', rfl, rfl⟩
                · exact .inr (.inl ⟨hu, hu', rfl, rfl⟩)
              · exact .inr (.inr (.inl ⟨hu, hu', rfl⟩))
            · exact .inr (.inr (.inr (.inl ⟨hu, hu'⟩)))
          · exact .inr (.inr (.inr (.inr hu)))
        clear HF
        rcases hcase with ⟨rfl, rfl, rfl, rfl, rfl⟩ | ⟨rfl, rfl, rfl, rfl⟩ | ⟨rfl, rfl, rfl⟩ | ⟨rfl, hu'⟩ | hu
        all_goals
          go_wp2_with (first
            | (go_at_call 13; refine (unhide HC1 _ (unhide HB6)).mono ?_; rintro e w7 ⟨rfl, hb7⟩; have HB7 := hide ((unhide HB6).trans (hb7.mono (unhide HB6).size)); clear hb7))
          go_ret
          first
          | exact ⟨rfl, unhide HB6⟩
          | exact ⟨rfl, unhide HB7⟩
    · generalize (wrF m' al' no' a' len').1 = e2 at *
      generalize (wrF m' al' no' a' len').2 = g2 at *
      generalize (wrF m al no a len).2 = g1 at *
      rw [h1] at hw1
      have HW1 := hide hw1
      have HW2 := hide hw2
      clear hw1 hw2 hS h1 hA hA'
      unfold sysV at *
      go_enter Try.func3, Try.ntmps3
      go_wp2_with (first
        | (go_at_call 11; refine (unhide HAL _).mono ?_; rintro e w1 ⟨rfl, hb1⟩; have hS1 := (unhide HS).below hb1; have p0 := hS1.p0; have p1 := hS1.p1; have p2 := hS1.p2; have p3 := hS1.p3; have q0 := hS1.q0; have q1 := hS1.q1; have q2 := hS1.q2; have q3 := hS1.q3; have HS1 := hide hS1; clear hS1 hb1 HS)
        | (go_at_call 12; refine (unhide HW1 _ (unhide HS1).bel).mono ?_; rintro e w2 ⟨rfl, hb2⟩; clear HW1 p0 p1 p2 p3 q0 q1 q2 q3; have hS2 := (unhide HS1).below hb2; have q0 := hS2.q0; have q1 := hS2.q1; have q2 := hS2.q2; have q3 := hS2.q3; have HS2 := hide hS2; clear hS2 hb2 HS1)
        | (go_at_call 12; refine (unhide HW2 _ (unhide HS2).bel).mono ?_; rintro e w3 ⟨rfl, hb3⟩; have HB := hide ((unhide HS2).bel.trans (hb3.mono (unhide HS2).bel.size)); clear hb3 HS2))
      go_ret
      exact ⟨rfl, unhide HB⟩
  · generalize (wrF m al no a len).1 = e1 at *
    generalize (wrF m al no a len).2 = g1 at *
    have HW1 := hide hw1
    clear hw1 hw2 hS hA hA'
    unfold sysV at *
    go_enter Try.func3, Try.ntmps3
    go_wp2_with (first
      | (go_at_call 11; refine (unhide HAL _).mono ?_; rintro e w1 ⟨rfl, hb1⟩; have hS1 := (unhide HS).below hb1; have p0 := hS1.p0; have p1 := hS1.p1; have p2 := hS1.p2; have p3 := hS1.p3; have HS1 := hide hS1; clear hS1 hb1 HS)
      | (go_at_call 12; refine (unhide HW1 _ (unhide HS1).bel).mono ?_; rintro e w3 ⟨rfl, hb3⟩; have HB := hide ((unhide HS1).bel.trans (hb3.mono (unhide HS1).bel.size)); clear hb3 HS1))
    go_ret
    exact ⟨rfl, unhide HB⟩
end Go.Proofs.Ytnbleebilmghcab
