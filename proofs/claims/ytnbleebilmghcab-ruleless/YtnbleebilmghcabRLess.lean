/- The statement RuleLess, its walk. -/
import Derived.Test.YtnbleebilmghcabRRight
set_option maxRecDepth 100000
set_option linter.unnecessarySimpa false
set_option linter.unusedSimpArgs false
set_option linter.unusedVariables false
namespace Go.Proofs.Ytnbleebilmghcab
open Go.RowKit
attribute [local go_sem ↓] Go.wp_at_zero Go.wp_at_succ

/-- The system's box. -/
structure LW (w : World) (b : Nat) (m al no : Int) (A : Option Addr) (len cap : Nat) (W : World) : Prop where
  bel : Below w.heap.size w W
  p0 : W.cell? ⟨b, 0, none⟩ = some (.int .i64 m)
  p1 : W.cell? ⟨b, 1, none⟩ = some (.int .i64 al)
  p2 : W.cell? ⟨b, 2, none⟩ = some (.int .i64 no)
  p3 : W.cell? ⟨b, 3, none⟩ = some (.slice A len cap)
section
variable {w : World} {b : Nat} {m al no : Int} {A : Option Addr} {len cap : Nat} {W W1 : World}
theorem LW.below (h : LW w b m al no A len cap W) (hb : Below W.heap.size W W1) : LW w b m al no A len cap W1 :=
  ⟨h.bel.trans (hb.mono h.bel.size), keep_below hb h.p0, keep_below hb h.p1, keep_below hb h.p2, keep_below hb h.p3⟩
theorem LW.start : LW w w.heap.size m al no A len cap (w.alloc (.cells #[.int .i64 m, .int .i64 al, .int .i64 no, .slice A len cap] 26)) :=
  ⟨by go_grown, by simp [go_sem], by simp [go_sem], by simp [go_sem], by simp [go_sem]⟩
end

theorem less_in (x y : Int) : inB x (bits .or .i64 x y) = true := by
  unfold inB
  rw [beq_iff_eq, andNotz, of_or]
  ext i hi
  simp
  intro h1 h2
  rw [h1] at h2
  cases h2

theorem less_rd (a : Nat → ActI) (n : Nat) : bits .andNot .i64 (rdTo a n) (rdTo a (n + 1)) = 0 := eq_of_beq (less_in (rdTo a n) (rdI (a n).k (a n).p (a n).f))
theorem less_wr (a : Nat → ActI) (n : Nat) : bits .andNot .i64 (wrTo a n) (wrTo a (n + 1)) = 0 := eq_of_beq (less_in (wrTo a n) (wrI (a n).k (a n).p))

set_option maxHeartbeats 2000000 in
theorem less_walk (m al no : Int) (A : Option Addr) (len cap : Nat) (a : Nat → ActI) (w : World) (hlc : len ≤ cap) (hA : ActsAt w A len a) :
    Calls Try.prog 4 #[sysV m al no A len cap] w fun e w' => e = .returned (.bool true) ∧ Below w.heap.size w w' := by
  have hS : LW w w.heap.size m al no A len cap _ := LW.start
  have hw1 : ∀ W1, Below w.heap.size w W1 → Calls Try.prog 12 #[sysV m al no A len cap] W1 fun e w' => e = .returned (faultV (wrF m al no a len)) ∧ Below W1.heap.size W1 w' := fun W1 h => wrong_any m al no A len cap a W1 (hA.below h)
  unfold faultV at hw1
  have hfd := run_field
  have HS := hide hS
  have HAL := hide alive_any
  by_cases h1 : (wrF m al no a len).1 = 0
  · cases len with
    | zero =>
      rw [h1] at hw1
      generalize (wrF m al no a 0).2 = g1 at *
      have HW1 := hide hw1
      clear hw1 hS hA
      unfold sysV at *
      go_enter Try.func4, Try.ntmps4
      go_wp2_with (first
        | (go_at_call 11; refine (unhide HAL _).mono ?_; rintro e w1 ⟨rfl, hb1⟩; have hS1 := (unhide HS).below hb1; have p0 := hS1.p0; have p1 := hS1.p1; have p2 := hS1.p2; have p3 := hS1.p3; have HS1 := hide hS1; clear hS1 hb1 HS)
        | (go_at_call 12; refine (unhide HW1 _ (unhide HS1).bel).mono ?_; rintro e w3 ⟨rfl, hb3⟩; clear p0 p1 p2 p3; have hS3 := (unhide HS1).below hb3; have p3 := hS3.p3; have HB := hide hS3.bel; clear hb3 hS3 HS1))
      go_ret
      exact ⟨rfl, unhide HB⟩
    | succ n =>
      obtain ⟨hh, hl, hok⟩ := (right_spec m al no a (n + 1)).1 h1
      have hAn : ActsAt w A n a := fun j hj => hA j (by omega)
      have h1' : (wrF m al no a n).1 = 0 := (right_spec m al no a n).2 ⟨hh, by omega, fun j hj => hok j (by omega)⟩
      have hw2 : ∀ W1, Below w.heap.size w W1 → Calls Try.prog 12 #[sysV m al no A n cap] W1 fun e w' => e = .returned (faultV (wrF m al no a n)) ∧ Below W1.heap.size W1 w' := fun W1 h => wrong_any m al no A n cap a W1 (hAn.below h)
      have hn1 : ∀ W1, Below w.heap.size w W1 → Calls Try.prog 14 #[sysV m al no A n cap] W1 fun e w' => e = .returned (needsV al a n) ∧ Below W1.heap.size W1 w' := fun W1 h => needs_any m al no A n cap a W1 (by omega) (hAn.below h)
      have hn2 : ∀ W1, Below w.heap.size w W1 → Calls Try.prog 14 #[sysV m al no A (n + 1) cap] W1 fun e w' => e = .returned (needsV al a (n + 1)) ∧ Below W1.heap.size W1 w' := fun W1 h => needs_any m al no A (n + 1) cap a W1 hl (hA.below h)
      unfold faultV at hw2
      have er := less_rd a n
      have eu := less_wr a n
      have em : mvTo al a n = true → mvTo al a (n + 1) = true := fun h => by show (mvTo al a n || _) = true; rw [h]; rfl
      have ef : lfTo a n = true → lfTo a (n + 1) = true := fun h => by show (lfTo a n || _) = true; rw [h]; rfl
      rw [h1] at hw1
      rw [h1'] at hw2
      generalize (wrF m al no a (n + 1)).2 = g1 at *
      generalize (wrF m al no a n).2 = g2 at *
      unfold needsV sysV at *
      generalize rdTo a (n + 1) = r' at *
      generalize wrTo a (n + 1) = u' at *
      generalize mvTo al a (n + 1) = mv' at *
      generalize lfTo a (n + 1) = lf' at *
      generalize rdTo a n = r at *
      generalize wrTo a n = u at *
      generalize mvTo al a n = mv at *
      generalize lfTo a n = lf at *
      obtain ⟨b, off, rfl, _⟩ := hA 0 (by omega)
      have HW1 := hide hw1
      have HW2 := hide hw2
      have HN1 := hide hn1
      have HN2 := hide hn2
      clear hw1 hw2 hn1 hn2 hS h1 h1' hA hAn hok hh
      have hn0 : ¬ ((n : Int) + 1 = 0) := by omega
      go_enter Try.func4, Try.ntmps4
      go_wp2_with (first
        | (go_at_call 11; refine (unhide HAL _).mono ?_; rintro e w1 ⟨rfl, hb1⟩; have hS1 := (unhide HS).below hb1; have p0 := hS1.p0; have p1 := hS1.p1; have p2 := hS1.p2; have p3 := hS1.p3; have HS1 := hide hS1; clear hS1 hb1 HS)
        | (go_at_call 12; refine (unhide HW1 _ (unhide HS1).bel).mono ?_; rintro e w3 ⟨rfl, hb3⟩; clear p0 p1 p2 p3; have hS3 := (unhide HS1).below hb3; have p0 := hS3.p0; have p1 := hS3.p1; have p2 := hS3.p2; have p3 := hS3.p3; have hz3 : w.heap.size < w3.heap.size := World.block_lt_of_cell? w3 _ p0; have HS3 := hide hS3; clear hb3 hS3 HS1))
      obtain ⟨W5, hW5⟩ : ∃ W, W = w3.alloc (.cells #[.int .i64 m, .int .i64 al, .int .i64 no, .slice (some ⟨b, off, none⟩) n cap] 26) := ⟨_, rfl⟩
      have hb5 : Below w3.heap.size w3 W5 := by rw [hW5]; exact (Below.refl _ _).alloc (Nat.le_refl _) _
      have hS5 := (unhide HS3).below hb5
      have hT5 : LW w w3.heap.size m al no (some ⟨b, off, none⟩) n cap W5 := ⟨hS5.bel, by rw [hW5]; simp [go_sem], by rw [hW5]; simp [go_sem], by rw [hW5]; simp [go_sem], by rw [hW5]; simp [go_sem]⟩
      rw [← hW5]
      clear hW5 hb5 p0 p1 p2 p3 HS3 hz3
      generalize w3.heap.size = b3 at *
      have HS5 := hide hS5
      have HT5 := hide hT5
      clear hS5 hT5
      rename_i K1 hK1
      have HK := hide hK1
      clear hK1
      refine wp_two_needs _ _ _ _ _ _ _ _ 28 30 4 5 (by decide) ⟨rfl, rfl⟩ ⟨rfl, rfl⟩ ⟨rfl, rfl⟩ ⟨rfl, rfl⟩ (by kernel_rfl) (by kernel_rfl) (by kernel_rfl) (by kernel_rfl) (by kernel_rfl) (by simp) (by simp) r u mv lf r' u' mv' lf' 27 29
        (.agg #[.int .i64 m, .int .i64 al, .int .i64 no, .slice (some ⟨b, off, none⟩) n cap]) (.agg #[.int .i64 m, .int .i64 al, .int .i64 no, .slice (some ⟨b, off, none⟩) (n + 1) cap]) _ rfl (by decide) (by simp) (by simp) ?q ?fin
      case q =>
        intro w6 hw6
        have hS6 := (unhide HS5).below hw6
        have hT6 := (unhide HT5).below hw6
        have hne : Nonempty (Sub w6) := ⟨⟨w6, Below.refl _ _⟩⟩
        have p0 := sub_cell hS6.p0
        have p1 := sub_cell hS6.p1
        have p2 := sub_cell hS6.p2
        have p3 := sub_cell hS6.p3
        have q0 := sub_cell hT6.p0
        have q1 := sub_cell hT6.p1
        have q2 := sub_cell hT6.p2
        have q3 := sub_cell hT6.p3
        have HD1 := hide (fun x : Sub w6 => unhide HN1 x.val (hS6.bel.trans (x.bel.mono hS6.bel.size)))
        have HD2 := hide (fun x : Sub w6 => unhide HN2 x.val (hS6.bel.trans (x.bel.mono hS6.bel.size)))
        clear hS6 hT6 hw6
        go_big_quiet_step (fail)
        go_big_quiet_step ((go_at_call 14; exact sub_bel (unhide HD1 _)))
        go_big_quiet_step (fail)
        go_big_quiet_step ((go_at_call 14; exact sub_bel (unhide HD2 _)))
        exact wpQuiet_nil (by simp [Act.put, nV])
      case fin =>
        intro g0 g1 w6 hN
        have hT6 := LW.below (unhide HT5) hN.bel
        simp [Act.put, nV]
        have hK := unhide HK
        clear HK HS5 HT5 HN1 HN2
        have q0 := hT6.p0
        have q1 := hT6.p1
        have q2 := hT6.p2
        have q3 := hT6.p3
        have HB6 := hide hT6.bel
        have HN := hide hN
        clear hN hT6
        cases mv
        all_goals
          try (obtain rfl : mv' = true := em rfl)
          cases lf
          all_goals
            try (obtain rfl : lf' = true := ef rfl)
            go_wp2_with (first
              | (go_at_call 12; refine (unhide HW2 _ (unhide HB6)).mono ?_; rintro e w7 ⟨rfl, hb7⟩; have hN7 := (unhide HN).below hb7; have c0 := hN7.c0; have c1 := hN7.c1; have c2 := hN7.c2; have c3 := hN7.c3; have d0 := hN7.d0; have d1 := hN7.d1; have d2 := hN7.d2; have d3 := hN7.d3; have HB7 := hide ((unhide HB6).trans (hb7.mono (unhide HB6).size)); clear hb7 hN7))
            go_ret
            exact ⟨rfl, unhide HB7⟩
  · generalize (wrF m al no a len).1 = e1 at *
    generalize (wrF m al no a len).2 = g1 at *
    have HW1 := hide hw1
    clear hw1 hS hA
    unfold sysV at *
    go_enter Try.func4, Try.ntmps4
    go_wp2_with (first
      | (go_at_call 11; refine (unhide HAL _).mono ?_; rintro e w1 ⟨rfl, hb1⟩; have hS1 := (unhide HS).below hb1; have p0 := hS1.p0; have p1 := hS1.p1; have p2 := hS1.p2; have p3 := hS1.p3; have HS1 := hide hS1; clear hS1 hb1 HS)
      | (go_at_call 12; refine (unhide HW1 _ (unhide HS1).bel).mono ?_; rintro e w3 ⟨rfl, hb3⟩; have HB := hide ((unhide HS1).bel.trans (hb3.mono (unhide HS1).bel.size)); clear hb3 HS1))
    go_ret
    exact ⟨rfl, unhide HB⟩
end Go.Proofs.Ytnbleebilmghcab
