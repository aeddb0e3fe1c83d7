/- The statement RuleMore, its walk. -/
import Derived.Test.YtnbleebilmghcaaRRight
set_option linter.unnecessarySimpa false
set_option linter.unusedSimpArgs false
set_option linter.unusedVariables false
namespace Go.Proofs.Ytnbleebilmghcaa
open Go.RowKit
attribute [local go_sem ↓] Go.wp_at_zero Go.wp_at_succ

/-- The boxes of a system and of two mods. -/
structure XW (w : World) (m al no : Int) (A : Option Addr) (len cap : Nat) (mr mu : Int) (ml : Bool) (nr nu : Int) (nl : Bool) (W : World) : Prop where
  bel : Below w.heap.size w W
  p0 : W.cell? ⟨w.heap.size, 0, none⟩ = some (.int .i64 m)
  p1 : W.cell? ⟨w.heap.size, 1, none⟩ = some (.int .i64 al)
  p2 : W.cell? ⟨w.heap.size, 2, none⟩ = some (.int .i64 no)
  p3 : W.cell? ⟨w.heap.size, 3, none⟩ = some (.slice A len cap)
  q0 : W.cell? ⟨w.heap.size + 1, 0, none⟩ = some (.int .i64 mr)
  q1 : W.cell? ⟨w.heap.size + 1, 1, none⟩ = some (.int .i64 mu)
  q2 : W.cell? ⟨w.heap.size + 1, 2, none⟩ = some (.bool ml)
  r0 : W.cell? ⟨w.heap.size + 1 + 1, 0, none⟩ = some (.int .i64 nr)
  r1 : W.cell? ⟨w.heap.size + 1 + 1, 1, none⟩ = some (.int .i64 nu)
  r2 : W.cell? ⟨w.heap.size + 1 + 1, 2, none⟩ = some (.bool nl)
section
variable {w : World} {m al no : Int} {A : Option Addr} {len cap : Nat} {mr mu nr nu : Int} {ml nl : Bool} {W W1 : World}
theorem XW.below (h : XW w m al no A len cap mr mu ml nr nu nl W) (hb : Below W.heap.size W W1) : XW w m al no A len cap mr mu ml nr nu nl W1 :=
  ⟨h.bel.trans (hb.mono h.bel.size), keep_below hb h.p0, keep_below hb h.p1, keep_below hb h.p2, keep_below hb h.p3, keep_below hb h.q0, keep_below hb h.q1, keep_below hb h.q2, keep_below hb h.r0, keep_below hb h.r1, keep_below hb h.r2⟩
theorem XW.start : XW w m al no A len cap mr mu ml nr nu nl (((w.alloc (.cells #[.int .i64 m, .int .i64 al, .int .i64 no, .slice A len cap] 96)).alloc (.cells #[.int .i64 mr, .int .i64 mu, .bool ml] 98)).alloc (.cells #[.int .i64 nr, .int .i64 nu, .bool nl] 98)) :=
  ⟨by go_grown, by simp [go_sem], by simp [go_sem], by simp [go_sem], by simp [go_sem], by simp [go_sem], by simp [go_sem], by simp [go_sem], by simp [go_sem], by simp [go_sem], by simp [go_sem]⟩
end

theorem in_or (x y z : Int) (h : inB x y = true) : inB x (bits .or .i64 y z) = true := by
  unfold inB at *
  rw [beq_iff_eq, andNotz] at *
  rw [of_or]
  ext i hi
  have := congrArg (fun v : BitVec 64 => v[i]) h
  simp at this ⊢
  intro p q
  simp_all
theorem in_all_fin : ∀ m : Fin 256, inB (m.val : Int) 255 = true := by decide +kernel
theorem in_all (x : Int) (h : setB x = true) : inB x 255 = true := by
  have h1 := of_decide_eq_true h
  obtain ⟨m, rfl⟩ := fin_of x h1.1 h1.2
  exact in_all_fin m
theorem may_more (mr mu : Int) (ml : Bool) (nr nu : Int) (nl : Bool) (al no : Int) (a : Nat → ActI) (len : Nat) (h : mayB mr mu ml al no a len = true) : mayB (bits .or .i64 mr nr) (bits .or .i64 mu nu) (ml || nl) al no a len = true := by
  unfold mayB mayN at *
  rw [Bool.and_eq_true, Bool.and_eq_true] at *
  refine ⟨in_or _ _ _ h.1, in_or _ _ _ h.2.1, ?_⟩
  have := h.2.2
  cases ml <;> cases nl <;> simp_all
theorem may_all (m al no : Int) (a : Nat → ActI) (len : Nat) (h : (wrF m al no a len).1 = 0) : mayB 255 255 true al no a len = true := by
  obtain ⟨h1, _, h3⟩ := (right_spec m al no a len).1 h
  unfold headB at h1
  rw [Bool.and_eq_true, Bool.and_eq_true] at h1
  unfold mayB mayN
  rw [in_all _ (or_set _ _ (or_set _ _ (rdTo_set a len) h1.1.2).2 h1.2).2, in_all _ (wrTo_set al a len h3)]
  rfl

set_option maxRecDepth 8000 in
set_option maxHeartbeats 2000000 in
theorem more_walk (m al no : Int) (A : Option Addr) (len cap : Nat) (a : Nat → ActI) (mr mu : Int) (ml : Bool) (nr nu : Int) (nl : Bool) (w : World) (hA : ActsAt w A len a) :
    Calls Try.prog 14 #[sysV m al no A len cap, modV mr mu ml, modV nr nu nl] w fun e w' => e = .returned (.bool true) ∧ Below w.heap.size w w' := by
  have hS : XW w m al no A len cap mr mu ml nr nu nl _ := XW.start
  have hw1 : ∀ W1, Below w.heap.size w W1 → Calls Try.prog 69 #[sysV m al no A len cap] W1 fun e w' => e = .returned (faultV (wrF m al no a len)) ∧ Below W1.heap.size W1 w' := fun W1 h => wrong_any m al no A len cap a W1 (hA.below h)
  unfold faultV at hw1
  have hfd := run_field
  have HS := hide hS
  have HAL := hide alive_any
  by_cases h1 : (wrF m al no a len).1 = 0
  · obtain ⟨_, hl, _⟩ := (right_spec m al no a len).1 h1
    have hm1 : ∀ W1, Below w.heap.size w W1 → Calls Try.prog 73 #[modV mr mu ml, sysV m al no A len cap] W1 fun e w' => e = .returned (.bool (mayB mr mu ml al no a len)) ∧ Below W1.heap.size W1 w' := fun W1 h => may_any mr mu ml m al no A len cap a W1 hl (hA.below h)
    have hm2 : mayB mr mu ml al no a len = true → ∀ W1, Below w.heap.size w W1 → Calls Try.prog 73 #[modV (bits .or .i64 mr nr) (bits .or .i64 mu nu) (ml || nl), sysV m al no A len cap] W1 fun e w' => e = .returned (.bool true) ∧ Below W1.heap.size W1 w' := fun hb W1 h => by
      have := may_any (bits .or .i64 mr nr) (bits .or .i64 mu nu) (ml || nl) m al no A len cap a W1 hl (hA.below h)
      rwa [may_more mr mu ml nr nu nl al no a len hb] at this
    have hm3 : ∀ W1, Below w.heap.size w W1 → Calls Try.prog 73 #[modV 255 255 true, sysV m al no A len cap] W1 fun e w' => e = .returned (.bool true) ∧ Below W1.heap.size W1 w' := fun W1 h => by
      have := may_any 255 255 true m al no A len cap a W1 hl (hA.below h)
      rwa [may_all m al no a len h1] at this
    rw [h1] at hw1
    generalize (wrF m al no a len).2 = g1 at *
    generalize mayB mr mu ml al no a len = b1 at *
    have HW1 := hide hw1
    have HM1 := hide hm1
    have HM2 := hide hm2
    have HM3 := hide hm3
    clear hw1 hm1 hm2 hm3 hS h1 hA
    unfold sysV modV at *
    have hs : setB mr = false ∨ (setB mr = true ∧ setB mu = false) ∨ (setB mr = true ∧ setB mu = true ∧ setB nr = false) ∨ (setB mr = true ∧ setB mu = true ∧ setB nr = true ∧ setB nu = false) ∨ (setB mr = true ∧ setB mu = true ∧ setB nr = true ∧ setB nu = true) := by
      cases setB mr <;> cases setB mu <;> cases setB nr <;> cases setB nu <;> simp
    rcases hs with s1 | ⟨s1, s2⟩ | ⟨s1, s2, s3⟩ | ⟨s1, s2, s3, s4⟩ | ⟨s1, s2, s3, s4⟩
    case inr.inr.inr.inr =>
      obtain ⟨nn, hnn⟩ : ∃ nn, nn = (ml || nl) := ⟨_, rfl⟩
      rw [← hnn] at HM2
      have hnl : (ml = true ∧ Hid (nn = true)) ∨ (ml = false ∧ Hid (nn = nl)) := by cases ml <;> simp [hnn, Hid]
      clear hnn
      rcases hnl with ⟨rfl, HZ⟩ | ⟨rfl, HZ⟩
      all_goals
       go_enter Try.func14, Try.ntmps14
       go_wp2_with (first
         | (go_at_call 77; refine (unhide HAL _).mono ?_; rintro e w1 ⟨rfl, hb1⟩; have hS1 := (unhide HS).below hb1; have p0 := hS1.p0; have p1 := hS1.p1; have p2 := hS1.p2; have p3 := hS1.p3; have HS1 := hide hS1; clear hS1 hb1 HS)
         | (go_at_call 69; refine (unhide HW1 _ (unhide HS1).bel).mono ?_; rintro e w3 ⟨rfl, hb3⟩; clear p0 p1 p2 p3; have hS3 := (unhide HS1).below hb3; have p0 := hS3.p0; have p1 := hS3.p1; have p2 := hS3.p2; have p3 := hS3.p3; have q0 := hS3.q0; have q1 := hS3.q1; have q2 := hS3.q2; have r0 := hS3.r0; have r1 := hS3.r1; have r2 := hS3.r2; have z2 : w.heap.size + 1 + 1 < w3.heap.size := World.block_lt_of_cell? w3 _ r2; have z1 : w.heap.size + 1 < w3.heap.size := Nat.lt_of_succ_lt z2; have z0 : w.heap.size < w3.heap.size := Nat.lt_of_succ_lt z1; have HS3 := hide hS3; clear hb3 hS3 HS1)
         | (go_at_call 16; refine (rset_any _ _).mono ?_; rintro e w4 ⟨rfl, hw⟩; obtain rfl := hw.symm))
       refine (unhide HM1 _ ((unhide HS3).bel.alloc (unhide HS3).bel.size _)).mono ?_
       rintro e w5 ⟨rfl, hb5⟩
       have k0 := keep_below hb5 (p := ⟨w3.heap.size, 0, none⟩) (v := .int .i64 (bits .or .i64 mr nr)) (by simp)
       have k1 := keep_below hb5 (p := ⟨w3.heap.size, 1, none⟩) (v := .int .i64 (bits .or .i64 mu nu)) (by simp)
       have k2 := keep_below hb5 (p := ⟨w3.heap.size, 2, none⟩) (v := .bool nn) (by simp [unhide HZ])
       have hS5 := (unhide HS3).below (Below.trans ((Below.refl _ _).alloc (Nat.le_refl _) _) (hb5.mono (by simp)))
       clear hb5 HS3 p0 p1 p2 p3 q0 q1 q2 r0 r1 r2 z0 z1 z2 HM1
       have p0 := hS5.p0
       have p1 := hS5.p1
       have p2 := hS5.p2
       have p3 := hS5.p3
       have HS5 := hide hS5
       clear hS5
       cases b1
       · clear HM2
         go_wp2_with (first
           | (go_at_call 73; refine (unhide HM3 _ (unhide HS5).bel).mono ?_; rintro e w6 ⟨rfl, hb6⟩; have HB := hide ((unhide HS5).bel.trans (hb6.mono (unhide HS5).bel.size)); clear hb6 HS5))
         go_ret
         exact ⟨rfl, unhide HB⟩
       · have HX2 := hide (unhide HM2 rfl)
         clear HM2
         go_wp2_with (first
           | (go_at_call 73; refine (unhide HX2 _ (unhide HS5).bel).mono ?_; rintro e w6 ⟨rfl, hb6⟩; clear HX2 p0 p1 p2 p3 k0 k1 k2; have hS6 := (unhide HS5).below hb6; have p0 := hS6.p0; have p1 := hS6.p1; have p2 := hS6.p2; have p3 := hS6.p3; have HS6 := hide hS6; clear hS6 hb6 HS5)
           | (go_at_call 73; refine (unhide HM3 _ (unhide HS6).bel).mono ?_; rintro e w7 ⟨rfl, hb7⟩; have HB := hide ((unhide HS6).bel.trans (hb7.mono (unhide HS6).bel.size)); clear hb7 HS6))
         go_ret
         exact ⟨rfl, unhide HB⟩
    all_goals
      go_enter Try.func14, Try.ntmps14
      go_wp2_with (first
        | (go_at_call 77; refine (unhide HAL _).mono ?_; rintro e w1 ⟨rfl, hb1⟩; have hS1 := (unhide HS).below hb1; have p0 := hS1.p0; have p1 := hS1.p1; have p2 := hS1.p2; have p3 := hS1.p3; have HS1 := hide hS1; clear hS1 hb1 HS)
        | (go_at_call 69; refine (unhide HW1 _ (unhide HS1).bel).mono ?_; rintro e w3 ⟨rfl, hb3⟩; clear p0 p1 p2 p3; have hS3 := (unhide HS1).below hb3; have q0 := hS3.q0; have q1 := hS3.q1; have r0 := hS3.r0; have r1 := hS3.r1; have HB := hide hS3.bel; clear hb3 hS3 HS1)
        | (go_at_call 16; refine (rset_any _ _).mono ?_; rintro e w4 ⟨rfl, hw⟩; obtain rfl := hw.symm))
      go_ret
      exact ⟨rfl, unhide HB⟩
  · generalize (wrF m al no a len).1 = e1 at *
    generalize (wrF m al no a len).2 = g1 at *
    have HW1 := hide hw1
    clear hw1 hS hA
    unfold sysV modV at *
    go_enter Try.func14, Try.ntmps14
    go_wp2_with (first
      | (go_at_call 77; refine (unhide HAL _).mono ?_; rintro e w1 ⟨rfl, hb1⟩; have hS1 := (unhide HS).below hb1; have p0 := hS1.p0; have p1 := hS1.p1; have p2 := hS1.p2; have p3 := hS1.p3; have HS1 := hide hS1; clear hS1 hb1 HS)
      | (go_at_call 69; refine (unhide HW1 _ (unhide HS1).bel).mono ?_; rintro e w3 ⟨rfl, hb3⟩; have HB := hide ((unhide HS1).bel.trans (hb3.mono (unhide HS1).bel.size)); clear hb3 HS1))
    go_ret
    exact ⟨rfl, unhide HB⟩
end Go.Proofs.Ytnbleebilmghcaa
