/- The statement RuleTells, its walk. -/
import Derived.Test.YtnbleebilmghcaaRRClash
set_option linter.unnecessarySimpa false
set_option linter.unusedSimpArgs false
set_option linter.unusedVariables false
namespace Go.Proofs.Ytnbleebilmghcaa
open Go.RowKit
attribute [local go_sem ↓] Go.wp_at_zero Go.wp_at_succ

/-- The boxes of two systems and a mod. -/
structure TW (w : World) (m al no : Int) (A : Option Addr) (len cap : Nat) (m' al' no' : Int) (A' : Option Addr) (len' cap' : Nat) (mr mu : Int) (ml : Bool) (W : World) : Prop where
  bel : Below w.heap.size w W
  p0 : W.cell? ⟨w.heap.size, 0, none⟩ = some (.int .i64 m)
  p1 : W.cell? ⟨w.heap.size, 1, none⟩ = some (.int .i64 al)
  p2 : W.cell? ⟨w.heap.size, 2, none⟩ = some (.int .i64 no)
  p3 : W.cell? ⟨w.heap.size, 3, none⟩ = some (.slice A len cap)
  q0 : W.cell? ⟨w.heap.size + 1, 0, none⟩ = some (.int .i64 m')
  q1 : W.cell? ⟨w.heap.size + 1, 1, none⟩ = some (.int .i64 al')
  q2 : W.cell? ⟨w.heap.size + 1, 2, none⟩ = some (.int .i64 no')
  q3 : W.cell? ⟨w.heap.size + 1, 3, none⟩ = some (.slice A' len' cap')
  m0 : W.cell? ⟨w.heap.size + 1 + 1, 0, none⟩ = some (.int .i64 mr)
  m1 : W.cell? ⟨w.heap.size + 1 + 1, 1, none⟩ = some (.int .i64 mu)
  m2 : W.cell? ⟨w.heap.size + 1 + 1, 2, none⟩ = some (.bool ml)
section
variable {w : World} {m al no : Int} {A : Option Addr} {len cap : Nat} {m' al' no' : Int} {A' : Option Addr} {len' cap' : Nat} {mr mu : Int} {ml : Bool} {W W1 : World}
theorem TW.below (h : TW w m al no A len cap m' al' no' A' len' cap' mr mu ml W) (hb : Below W.heap.size W W1) : TW w m al no A len cap m' al' no' A' len' cap' mr mu ml W1 :=
  ⟨h.bel.trans (hb.mono h.bel.size), keep_below hb h.p0, keep_below hb h.p1, keep_below hb h.p2, keep_below hb h.p3, keep_below hb h.q0, keep_below hb h.q1, keep_below hb h.q2, keep_below hb h.q3, keep_below hb h.m0, keep_below hb h.m1, keep_below hb h.m2⟩
theorem TW.start : TW w m al no A len cap m' al' no' A' len' cap' mr mu ml (((w.alloc (.cells #[.int .i64 m, .int .i64 al, .int .i64 no, .slice A len cap] 96)).alloc (.cells #[.int .i64 m', .int .i64 al', .int .i64 no', .slice A' len' cap'] 96)).alloc (.cells #[.int .i64 mr, .int .i64 mu, .bool ml] 98)) :=
  ⟨by go_grown, by simp [go_sem], by simp [go_sem], by simp [go_sem], by simp [go_sem], by simp [go_sem], by simp [go_sem], by simp [go_sem], by simp [go_sem], by simp [go_sem], by simp [go_sem], by simp [go_sem]⟩
end

set_option maxRecDepth 8000 in
set_option maxHeartbeats 4000000 in
theorem tells_walk (m al no : Int) (A : Option Addr) (len cap : Nat) (a : Nat → ActI) (m' al' no' : Int) (A' : Option Addr) (len' cap' : Nat) (a' : Nat → ActI) (mr mu : Int) (ml : Bool) (w : World) (hA : ActsAt w A len a) (hA' : ActsAt w A' len' a') :
    Calls Try.prog 13 #[sysV m al no A len cap, sysV m' al' no' A' len' cap', modV mr mu ml] w fun e w' => e = .returned (.bool true) ∧ Below w.heap.size w w' := by
  have hS : TW w m al no A len cap m' al' no' A' len' cap' mr mu ml _ := TW.start
  have hw1 : ∀ W1, Below w.heap.size w W1 → Calls Try.prog 69 #[sysV m al no A len cap] W1 fun e w' => e = .returned (faultV (wrF m al no a len)) ∧ Below W1.heap.size W1 w' := fun W1 h => wrong_any m al no A len cap a W1 (hA.below h)
  have hw2 : ∀ W1, Below w.heap.size w W1 → Calls Try.prog 70 #[sysV m al no A len cap] W1 fun e w' => e = .returned (faultV (wrF m al no a len)) ∧ Below W1.heap.size W1 w' := fun W1 h => rwrong_any m al no A len cap a W1 (hA.below h)
  have hw3 : ∀ W1, Below w.heap.size w W1 → Calls Try.prog 70 #[sysV m' al' no' A' len' cap'] W1 fun e w' => e = .returned (faultV (wrF m' al' no' a' len')) ∧ Below W1.heap.size W1 w' := fun W1 h => rwrong_any m' al' no' A' len' cap' a' W1 (hA'.below h)
  unfold faultV at hw1 hw2 hw3
  have hfd := run_field
  have HS := hide hS
  clear hS
  by_cases h1 : (wrF m al no a len).1 = 0
  · obtain ⟨hhd, hl, hok⟩ := (right_spec m al no a len).1 h1
    unfold headB at hhd
    rw [Bool.and_eq_true, Bool.and_eq_true] at hhd
    have hal := hhd.1.2
    have hno := hhd.2
    have hn1 : ∀ W1, Below w.heap.size w W1 → Calls Try.prog 71 #[sysV m al no A len cap] W1 fun e w' => e = .returned (needsV al a len) ∧ Below W1.heap.size W1 w' := fun W1 h => needs_any m al no A len cap a W1 hl (hA.below h)
    have hn2 : ∀ W1, Below w.heap.size w W1 → Calls Try.prog 72 #[sysV m al no A len cap] W1 fun e w' => e = .returned (needsV al a len) ∧ Below W1.heap.size W1 w' := fun W1 h => rneeds_any m al no A len cap a W1 hal hl hok (hA.below h)
    have hm1 : ∀ W1, Below w.heap.size w W1 → Calls Try.prog 73 #[modV mr mu ml, sysV m al no A len cap] W1 fun e w' => e = .returned (.bool (mayB mr mu ml al no a len)) ∧ Below W1.heap.size W1 w' := fun W1 h => may_any mr mu ml m al no A len cap a W1 hl (hA.below h)
    have hm2 : setB mr = true → setB mu = true → ∀ W1, Below w.heap.size w W1 → Calls Try.prog 74 #[modV mr mu ml, sysV m al no A len cap] W1 fun e w' => e = .returned (.bool (mayB mr mu ml al no a len)) ∧ Below W1.heap.size W1 w' := fun s1 s2 W1 h => rmay_any mr mu ml m al no A len cap a W1 s1 s2 hal hno hl hok (hA.below h)
    have hc : (wrF m' al' no' a' len').1 = 0 → (∀ W1, Below w.heap.size w W1 → Calls Try.prog 75 #[sysV m al no A len cap, sysV m' al' no' A' len' cap'] W1 fun e w' => e = .returned (.bool (clB al a len al' a' len')) ∧ Below W1.heap.size W1 w') ∧
        (∀ W1, Below w.heap.size w W1 → Calls Try.prog 76 #[sysV m al no A len cap, sysV m' al' no' A' len' cap'] W1 fun e w' => e = .returned (.bool (clB al a len al' a' len')) ∧ Below W1.heap.size W1 w') := fun h2 => by
      obtain ⟨hhd', hl', hok'⟩ := (right_spec m' al' no' a' len').1 h2
      unfold headB at hhd'
      rw [Bool.and_eq_true, Bool.and_eq_true] at hhd'
      exact ⟨fun W1 h => clash_any m al no A len cap a m' al' no' A' len' cap' a' W1 hl hl' (hA.below h) (hA'.below h), fun W1 h => rclash_any m al no A len cap a m' al' no' A' len' cap' a' W1 hl hl' hal hhd'.1.2 hok hok' (hA.below h) (hA'.below h)⟩
    rw [h1] at hw1 hw2
    generalize (wrF m al no a len).2 = g1 at *
    generalize (wrF m' al' no' a' len').1 = e2 at *
    generalize (wrF m' al' no' a' len').2 = g2 at *
    unfold needsV at hn1 hn2
    generalize mayB mr mu ml al no a len = mb at *
    generalize clB al a len al' a' len' = cb at *
    generalize rdTo a len = r at *
    generalize wrTo a len = u at *
    generalize mvTo al a len = mv at *
    generalize lfTo a len = lf at *
    have HW1 := hide hw1
    have HW2 := hide hw2
    have HW3 := hide hw3
    have HN1 := hide hn1
    have HN2 := hide hn2
    have HM1 := hide hm1
    have HM2 := hide hm2
    have HC := hide hc
    clear hw1 hw2 hw3 hn1 hn2 hm1 hm2 hc hA hA' h1 hhd hal hno hok hl
    unfold sysV modV at *
    go_enter Try.func13, Try.ntmps13
    go_wp2
    obtain ⟨W, hW⟩ : ∃ W, W = (((w.alloc (.cells #[.int .i64 m, .int .i64 al, .int .i64 no, .slice A len cap] 96)).alloc (.cells #[.int .i64 m', .int .i64 al', .int .i64 no', .slice A' len' cap'] 96)).alloc (.cells #[.int .i64 mr, .int .i64 mu, .bool ml] 98)) := ⟨_, rfl⟩
    have hS := unhide HS
    rw [← hW] at hS ⊢
    clear hW HS
    have hne : Nonempty (Sub W) := ⟨⟨W, Below.refl _ _⟩⟩
    have p0 := sub_cell hS.p0
    have p1 := sub_cell hS.p1
    have p2 := sub_cell hS.p2
    have p3 := sub_cell hS.p3
    have HD1 := hide (fun x : Sub W => unhide HW1 x.val (hS.bel.trans (x.bel.mono hS.bel.size)))
    have HD2 := hide (fun x : Sub W => unhide HW2 x.val (hS.bel.trans (x.bel.mono hS.bel.size)))
    have HS := hide hS
    clear hS
    refine wp_region_sub (by kernel_rfl) (by kernel_rfl) ?_
    repeat (go_big_quiet_step ((first
      | (go_at_call 69; exact sub_bel (unhide HD1 _))
      | (go_at_call 70; exact sub_bel (unhide HD2 _)))))
    refine wpQuiet_nil ?_
    rintro w2 ⟨xs, hxs⟩
    have hb2 := xs.bel
    rw [← hxs] at hb2
    have hS2 := (unhide HS).below hb2
    clear hxs xs hb2 p0 p1 p2 p3 hne HD1 HD2 HS
    have p0 := hS2.p0
    have p1 := hS2.p1
    have p2 := hS2.p2
    have p3 := hS2.p3
    have HS2 := hide hS2
    clear hS2
    go_wp2_with (first
      | (go_at_call 70; refine (unhide HW2 _ (unhide HS2).bel).mono ?_; rintro e w3 ⟨rfl, hb3⟩; have hS3 := (unhide HS2).below hb3; have HS3 := hide hS3; clear hb3 hS3 HS2 p0 p1 p2 p3))
    have hS3 := unhide HS3
    have hne : Nonempty (Sub w3) := ⟨⟨w3, Below.refl _ _⟩⟩
    have p0 := sub_cell hS3.p0
    have p1 := sub_cell hS3.p1
    have p2 := sub_cell hS3.p2
    have p3 := sub_cell hS3.p3
    have m0 := sub_cell hS3.m0
    have m1 := sub_cell hS3.m1
    have m2 := sub_cell hS3.m2
    have HD1 := hide (fun x : Sub w3 => unhide HN1 x.val (hS3.bel.trans (x.bel.mono hS3.bel.size)))
    have HD2 := hide (fun x : Sub w3 => unhide HN2 x.val (hS3.bel.trans (x.bel.mono hS3.bel.size)))
    have HD3 := hide (fun x : Sub w3 => unhide HM1 x.val (hS3.bel.trans (x.bel.mono hS3.bel.size)))
    have HD4 := hide (fun (s1 : setB mr = true) (s2 : setB mu = true) (x : Sub w3) => unhide HM2 s1 s2 x.val (hS3.bel.trans (x.bel.mono hS3.bel.size)))
    clear hS3 HN1 HN2 HM1 HM2 HW1 HW2
    have hs : setB mr = false ∨ (setB mr = true ∧ setB mu = false) ∨ (setB mr = true ∧ setB mu = true) := by
      cases setB mr <;> cases setB mu <;> simp
    rcases hs with s1 | ⟨s1, s2⟩ | ⟨s1, s2⟩
    all_goals
      try (have HD5 := hide (unhide HD4 s1 s2))
      have hr1 := fun x : Sub w3 => rset_any mr x.val
      have hr2 := fun x : Sub w3 => rset_any mu x.val
      rw [s1] at hr1
      try (rw [s2] at hr2)
      have HR1 := hide hr1
      have HR2 := hide hr2
      clear hr1 hr2
      refine wp_region_sub (by kernel_rfl) (by kernel_rfl) ?_
      repeat (go_big_quiet_step ((first
        | (go_at_call 71; exact sub_bel (unhide HD1 _))
        | (go_at_call 72; exact sub_bel (unhide HD2 _))
        | (go_at_call_of 16 mr; exact sub_same (unhide HR1 _))
        | (go_at_call_of 16 mu; exact sub_same (unhide HR2 _))
        | (go_at_call 73; exact sub_bel (unhide HD3 _))
        | (go_at_call 74; exact sub_bel (unhide HD5 _)))))
      refine wpQuiet_nil ?_
      rintro w4 ⟨xs, hxs⟩
      have hb4 := xs.bel
      rw [← hxs] at hb4
      have hS4 := (unhide HS3).below hb4
      clear hxs xs hb4 p0 p1 p2 p3 m0 m1 m2 hne HD1 HD2 HD3 HD4 HS3 HR1 HR2
      have HS4 := hide hS4
      clear hS4
      go_wp2_with fail
      have hS4 := unhide HS4
      have hne : Nonempty (Sub w4) := ⟨⟨w4, Below.refl _ _⟩⟩
      have p0 := sub_cell hS4.p0
      have p1 := sub_cell hS4.p1
      have p2 := sub_cell hS4.p2
      have p3 := sub_cell hS4.p3
      have q0 := sub_cell hS4.q0
      have q1 := sub_cell hS4.q1
      have q2 := sub_cell hS4.q2
      have q3 := sub_cell hS4.q3
      have HE1 := hide (fun x : Sub w4 => unhide HW3 x.val (hS4.bel.trans (x.bel.mono hS4.bel.size)))
      have HE2 := hide (fun (h : e2 = 0) (x : Sub w4) => (unhide HC h).1 x.val (hS4.bel.trans (x.bel.mono hS4.bel.size)))
      have HE3 := hide (fun (h : e2 = 0) (x : Sub w4) => (unhide HC h).2 x.val (hS4.bel.trans (x.bel.mono hS4.bel.size)))
      clear hS4 HC HW3
      have hfq : ∀ (x : Sub w4) (v y : Value), Sem.run Try.prog (Instr.field 43 (.agg #[v, y]) 0) x.val = .ok v x.val := fun x v y => run_field v y x.val
      by_cases he2 : e2 = 0
      · have HE4 := hide (unhide HE2 he2)
        have HE5 := hide (unhide HE3 he2)
        subst he2
        refine wp_region_sub (by kernel_rfl) (by kernel_rfl) ?_
        repeat (go_big_quiet_step ((first
          | (go_at_call 70; exact sub_bel (unhide HE1 _))
          | (go_at_call 75; exact sub_bel (unhide HE4 _))
          | (go_at_call 76; exact sub_bel (unhide HE5 _)))))
        refine wpQuiet_nil ?_
        rintro w5 ⟨xs, hxs⟩
        have hb5 := xs.bel
        rw [← hxs] at hb5
        have HB := hide ((unhide HS4).below hb5).bel
        clear hxs xs hb5 p0 p1 p2 p3 q0 q1 q2 q3 hne HE1 HE2 HE3 HE4 HE5 HS4
        go_wp2_with fail
        go_ret
        exact ⟨rfl, unhide HB⟩
      · have he3 : (e2 == 0) = false := by simpa using he2
        have he4 : (e2 != 0) = true := by simpa using he2
        refine wp_region_sub (by kernel_rfl) (by kernel_rfl) ?_
        repeat (go_big_quiet_step ((first
          | (go_at_call 70; exact sub_bel (unhide HE1 _)))))
        refine wpQuiet_nil ?_
        rintro w5 ⟨xs, hxs⟩
        have hb5 := xs.bel
        rw [← hxs] at hb5
        have HB := hide ((unhide HS4).below hb5).bel
        clear hxs xs hb5 p0 p1 p2 p3 q0 q1 q2 q3 hne HE1 HE2 HE3 HS4
        go_wp2_with fail
        go_ret
        exact ⟨rfl, unhide HB⟩
  · generalize (wrF m al no a len).1 = e1 at *
    generalize (wrF m al no a len).2 = g1 at *
    have HW1 := hide hw1
    have HW2 := hide hw2
    clear hw1 hw2 hw3 hA hA'
    unfold sysV modV at *
    go_enter Try.func13, Try.ntmps13
    go_wp2
    obtain ⟨W, hW⟩ : ∃ W, W = (((w.alloc (.cells #[.int .i64 m, .int .i64 al, .int .i64 no, .slice A len cap] 96)).alloc (.cells #[.int .i64 m', .int .i64 al', .int .i64 no', .slice A' len' cap'] 96)).alloc (.cells #[.int .i64 mr, .int .i64 mu, .bool ml] 98)) := ⟨_, rfl⟩
    have hS := unhide HS
    rw [← hW] at hS ⊢
    clear hW HS
    have hne : Nonempty (Sub W) := ⟨⟨W, Below.refl _ _⟩⟩
    have p0 := sub_cell hS.p0
    have p1 := sub_cell hS.p1
    have p2 := sub_cell hS.p2
    have p3 := sub_cell hS.p3
    have HD1 := hide (fun x : Sub W => unhide HW1 x.val (hS.bel.trans (x.bel.mono hS.bel.size)))
    have HD2 := hide (fun x : Sub W => unhide HW2 x.val (hS.bel.trans (x.bel.mono hS.bel.size)))
    have HS := hide hS
    clear hS
    refine wp_region_sub (by kernel_rfl) (by kernel_rfl) ?_
    repeat (go_big_quiet_step ((first
      | (go_at_call 69; exact sub_bel (unhide HD1 _))
      | (go_at_call 70; exact sub_bel (unhide HD2 _)))))
    refine wpQuiet_nil ?_
    rintro w2 ⟨xs, hxs⟩
    have hb2 := xs.bel
    rw [← hxs] at hb2
    have hS2 := (unhide HS).below hb2
    clear hxs xs hb2 p0 p1 p2 p3 hne HD1 HD2 HS
    have p0 := hS2.p0
    have p1 := hS2.p1
    have p2 := hS2.p2
    have p3 := hS2.p3
    have HS2 := hide hS2
    clear hS2
    go_wp2_with (first
      | (go_at_call 70; refine (unhide HW2 _ (unhide HS2).bel).mono ?_; rintro e w3 ⟨rfl, hb3⟩; have HB := hide ((unhide HS2).bel.trans (hb3.mono (unhide HS2).bel.size)); clear hb3 HS2))
    go_ret
    exact ⟨rfl, unhide HB⟩
end Go.Proofs.Ytnbleebilmghcaa
