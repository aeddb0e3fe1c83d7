/- What rule.May answers, whatever the mod and the system (of at most eight acts); and that the closed fact that statements of chapter 4 ask first holds. -/
import Derived.Test.YtnbleebilmghcabAClash
set_option linter.unnecessarySimpa false
set_option linter.unusedSimpArgs false
set_option linter.unusedVariables false
namespace Go.Proofs.Ytnbleebilmghcab
open Go.RowKit
attribute [local go_sem ↓] Go.wp_at_zero Go.wp_at_succ

def modV (r u : Int) (l : Bool) : Value := .agg #[.int .i64 r, .int .i64 u, .bool l]
def mayN (mr mu : Int) (ml : Bool) (al no r u : Int) (l : Bool) : Bool := inB (bits .or .i64 (bits .or .i64 r al) no) mr && (inB u mu && (ml || !l))
def mayB (mr mu : Int) (ml : Bool) (al no : Int) (a : Nat → ActI) (len : Nat) : Bool := mayN mr mu ml al no (rdTo a len) (wrTo a len) (lfTo a len)

theorem le_two (w : World) (o1 o2 : Obj) : w.heap.size ≤ ((w.alloc o1).alloc o2).heap.size := by
  have h1 : (w.alloc o1).heap.size = w.heap.size + 1 := by simp
  have h2 : ((w.alloc o1).alloc o2).heap.size = (w.alloc o1).heap.size + 1 := by simp
  omega

theorem may_after {w w1 : World} {mr mu m al no : Int} {ml : Bool} {A : Option Addr} {len cap : Nat}
    (hb : Below ((w.alloc (.cells #[.int .i64 mr, .int .i64 mu, .bool ml] 79)).alloc (.cells #[.int .i64 m, .int .i64 al, .int .i64 no, .slice A len cap] 26)).heap.size
      ((w.alloc (.cells #[.int .i64 mr, .int .i64 mu, .bool ml] 79)).alloc (.cells #[.int .i64 m, .int .i64 al, .int .i64 no, .slice A len cap] 26)) w1) :
    w1.cell? ⟨w.heap.size, 0, none⟩ = some (.int .i64 mr) ∧ w1.cell? ⟨w.heap.size, 1, none⟩ = some (.int .i64 mu) ∧ w1.cell? ⟨w.heap.size, 2, none⟩ = some (.bool ml) ∧
    w1.cell? ⟨w.heap.size + 1, 1, none⟩ = some (.int .i64 al) ∧ w1.cell? ⟨w.heap.size + 1, 2, none⟩ = some (.int .i64 no) ∧ w.heap.size + 1 < w1.heap.size ∧ w.heap.size < w1.heap.size ∧ Below w.heap.size w w1 := by
  have q1 := keep_below hb (p := ⟨w.heap.size + 1, 1, none⟩) (v := .int .i64 al) (by simp [go_sem])
  have hz1 := World.block_lt_of_cell? w1 _ q1
  dsimp only at hz1
  exact ⟨keep_below hb (by simp [go_sem]), keep_below hb (by simp [go_sem]), keep_below hb (by simp [go_sem]), q1, keep_below hb (by simp [go_sem]), hz1, by omega, Below.trans (by go_grown) (hb.mono (le_two _ _ _))⟩

set_option maxRecDepth 8000 in
set_option maxHeartbeats 1000000 in
theorem may_any (mr mu : Int) (ml : Bool) (m al no : Int) (A : Option Addr) (len cap : Nat) (a : Nat → ActI) (w : World) (hl : len ≤ 8) (hA : ActsAt w A len a) :
    Calls Try.prog 32 #[modV mr mu ml, sysV m al no A len cap] w fun e w' => e = .returned (.bool (mayB mr mu ml al no a len)) ∧ Below w.heap.size w w' := by
  have hnA : ∀ W1, Below w.heap.size w W1 → Calls Try.prog 14 #[sysV m al no A len cap] W1 fun e w' => e = .returned (needsV al a len) ∧ Below W1.heap.size W1 w' := fun W1 h => needs_any m al no A len cap a W1 hl (hA.below h)
  unfold mayB modV
  unfold needsV sysV at *
  generalize rdTo a len = r at *
  generalize wrTo a len = u at *
  generalize mvTo al a len = mv at *
  generalize lfTo a len = lf at *
  have HA := hide hnA
  clear hnA hA
  cases h1 : inB (bits .or .i64 (bits .or .i64 r al) no) mr
  case' true => cases h2 : inB u mu
  case' true.true => cases ml
  all_goals
    go_enter Try.func32, Try.ntmps32
    go_wp2_with (first
      | (go_at_call 14; refine (unhide HA _ (by go_grown)).mono ?_; rintro e w1 ⟨rfl, hb1⟩; obtain ⟨p0, p1, p2, q1, q2, hz1, hz0, hB1⟩ := may_after hb1; have HB1 := hide hB1; clear hb1 hB1)
      | (go_at_call 56; refine (within_any _ _ _).mono ?_; rintro e w2 ⟨rfl, hw⟩; obtain rfl := hw.symm))
    go_ret
    exact ⟨by first | (simp [mayN, h1]; done) | (simp [mayN, h1, h2]; done), (unhide HB1).alloc (unhide HB1).size _⟩

/-- The act of the closed fact. -/
def actA : Nat → ActI := fun _ => ⟨3, 0, 1, 0⟩
theorem actA_needs : needsV 3 actA 1 = nV 3 1 false false := by
  have e1 : rdTo actA 1 = 3 := by decide +kernel
  have e2 : wrTo actA 1 = 1 := by decide +kernel
  have e3 : mvTo 3 actA 1 = false := by decide +kernel
  have e4 : lfTo actA 1 = false := by decide +kernel
  unfold needsV nV
  rw [e1, e2, e3, e4]
theorem actA_wrong : wrF 0 3 0 actA 1 = (0, 0) := by decide +kernel
theorem actA_may : mayB 3 1 false 3 0 actA 1 = true := by decide +kernel
theorem actA_mayn : mayB 1 1 false 3 0 actA 1 = false := by decide +kernel
theorem actA_clash : clB 3 actA 1 3 actA 1 = true := by decide +kernel

section
variable (b : Nat) (W : World)
theorem alive_needs (h : ActsAt W (some ⟨b, 0, none⟩) 1 actA) : Calls Try.prog 14 #[sysV 0 3 0 (some ⟨b, 0, none⟩) 1 1] W fun e w' => e = .returned (nV 3 1 false false) ∧ Below W.heap.size W w' := by
  have := needs_any 0 3 0 (some ⟨b, 0, none⟩) 1 1 actA W (by omega) h
  rwa [actA_needs] at this
theorem alive_wrong (h : ActsAt W (some ⟨b, 0, none⟩) 1 actA) : Calls Try.prog 12 #[sysV 0 3 0 (some ⟨b, 0, none⟩) 1 1] W fun e w' => e = .returned (.agg #[.int .i64 0, .int .i64 0]) ∧ Below W.heap.size W w' := by
  have := wrong_any 0 3 0 (some ⟨b, 0, none⟩) 1 1 actA W h
  rwa [actA_wrong] at this
theorem alive_may (h : ActsAt W (some ⟨b, 0, none⟩) 1 actA) : Calls Try.prog 32 #[modV 3 1 false, sysV 0 3 0 (some ⟨b, 0, none⟩) 1 1] W fun e w' => e = .returned (.bool true) ∧ Below W.heap.size W w' := by
  have := may_any 3 1 false 0 3 0 (some ⟨b, 0, none⟩) 1 1 actA W (by omega) h
  rwa [actA_may] at this
theorem alive_mayn (h : ActsAt W (some ⟨b, 0, none⟩) 1 actA) : Calls Try.prog 32 #[modV 1 1 false, sysV 0 3 0 (some ⟨b, 0, none⟩) 1 1] W fun e w' => e = .returned (.bool false) ∧ Below W.heap.size W w' := by
  have := may_any 1 1 false 0 3 0 (some ⟨b, 0, none⟩) 1 1 actA W (by omega) h
  rwa [actA_mayn] at this
theorem alive_clash (h : ActsAt W (some ⟨b, 0, none⟩) 1 actA) : Calls Try.prog 13 #[sysV 0 3 0 (some ⟨b, 0, none⟩) 1 1, sysV 0 3 0 (some ⟨b, 0, none⟩) 1 1] W fun e w' => e = .returned (.bool true) ∧ Below W.heap.size W w' := by
  have := clash_any 0 3 0 (some ⟨b, 0, none⟩) 1 1 actA 0 3 0 (some ⟨b, 0, none⟩) 1 1 actA W (by omega) (by omega) h h
  rwa [actA_clash] at this
end

theorem run_field (x y : Value) (w : World) : Sem.run Try.prog (Instr.field 30 (.agg #[x, y]) 0) w = .ok x w := by
  simp [Instr.field, asAgg, go_sem]

structure AW (w W : World) : Prop where
  bel : Below w.heap.size w W
  acts : ActsAt W (some ⟨w.heap.size, 0, none⟩) 1 actA
  s0 : W.cell? ⟨w.heap.size + 1, 0, none⟩ = some (.int .i64 0)
  s1 : W.cell? ⟨w.heap.size + 1, 1, none⟩ = some (.int .i64 3)
  s2 : W.cell? ⟨w.heap.size + 1, 2, none⟩ = some (.int .i64 0)
  s3 : W.cell? ⟨w.heap.size + 1, 3, none⟩ = some (.slice (some ⟨w.heap.size, 0, none⟩) 1 1)
theorem AW.below {w W W1 : World} (h : AW w W) (hb : Below W.heap.size W W1) : AW w W1 :=
  ⟨h.bel.trans (hb.mono h.bel.size), h.acts.below hb, keep_below hb h.s0, keep_below hb h.s1, keep_below hb h.s2, keep_below hb h.s3⟩
theorem AW.start (w : World) : AW w ((w.alloc (.cells #[.int .i64 3, .int .i64 0, .int .i64 1, .int .i64 0] 76)).alloc (.cells #[.int .i64 0, .int .i64 3, .int .i64 0, .slice (some ⟨w.heap.size, 0, none⟩) 1 1] 26)) := by
  refine ⟨by go_grown, fun j hj => ?_, by simp [go_sem], by simp [go_sem], by simp [go_sem], by simp [go_sem]⟩
  obtain rfl : j = 0 := by omega
  exact ⟨w.heap.size, 0, rfl, by simp [go_sem, actA], by simp [go_sem, actA], by simp [go_sem, actA], by simp [go_sem, actA]⟩
structure AN (w : World) (b : Nat) (W : World) : Prop extends AW w W where
  n0 : W.cell? ⟨b, 0, none⟩ = some (.int .i64 3)
  n1 : W.cell? ⟨b, 1, none⟩ = some (.int .i64 1)
  n2 : W.cell? ⟨b, 2, none⟩ = some (.bool false)
theorem AN.below {w W W1 : World} {b : Nat} (h : AN w b W) (hb : Below W.heap.size W W1) : AN w b W1 := ⟨h.toAW.below hb, keep_below hb h.n0, keep_below hb h.n1, keep_below hb h.n2⟩
theorem AW.needs {w W : World} (h : AW w W) : AN w W.heap.size (W.alloc (.cells #[.int .i64 3, .int .i64 1, .bool false, .bool false] 34)) :=
  ⟨h.below ((Below.refl _ _).alloc (Nat.le_refl _) _), by simp, by simp, by simp⟩

set_option maxRecDepth 8000 in
set_option maxHeartbeats 1000000 in
theorem alive_any (w : World) : Calls Try.prog 11 #[] w fun e w' => e = .returned (.bool true) ∧ Below w.heap.size w w' := by
  have hS := AW.start w
  have HS := hide hS
  clear hS
  go_enter Try.func11, Try.ntmps11
  go_wp2_with fail
  obtain ⟨W, hW⟩ : ∃ W, W = (w.alloc (.cells #[.int .i64 3, .int .i64 0, .int .i64 1, .int .i64 0] 76)).alloc (.cells #[.int .i64 0, .int .i64 3, .int .i64 0, .slice (some ⟨w.heap.size, 0, none⟩) 1 1] 26) := ⟨_, rfl⟩
  have hS := unhide HS
  rw [← hW] at hS ⊢
  clear hW HS
  refine (alive_needs _ _ hS.acts).mono ?_
  rintro e w1 ⟨rfl, hb1⟩
  have hS1 := hS.below hb1
  have s0 := hS1.s0
  have s1 := hS1.s1
  have s2 := hS1.s2
  have s3 := hS1.s3
  have hz : w.heap.size + 1 < w1.heap.size := World.block_lt_of_cell? w1 _ s0
  have hN := hS1.needs
  have HN := hide hN
  clear hN hS1 hS hb1
  unfold nV
  go_wp2_with fail
  obtain ⟨W2, hW2⟩ : ∃ W, W = w1.alloc (.cells #[.int .i64 3, .int .i64 1, .bool false, .bool false] 34) := ⟨_, rfl⟩
  have hN := unhide HN
  rw [← hW2] at hN ⊢
  clear hW2 HN s0 s1 s2 s3 hz
  generalize w1.heap.size = b at *
  refine (alive_wrong _ _ hN.acts).mono ?_
  rintro e w3 ⟨rfl, hb3⟩
  have hN := hN.below hb3
  clear hb3
  have s0 := hN.s0
  have s1 := hN.s1
  have s2 := hN.s2
  have s3 := hN.s3
  have n0 := hN.n0
  have n1 := hN.n1
  have n2 := hN.n2
  have HN := hide hN
  clear hN
  have hfd := run_field
  go_wp2_with fail
  clear hfd
  refine (alive_may _ _ (unhide HN).acts).mono ?_
  rintro e w4 ⟨rfl, hb4⟩
  have hN := (unhide HN).below hb4
  clear hb4 HN s0 s1 s2 s3 n0 n1 n2
  have s0 := hN.s0
  have s1 := hN.s1
  have s2 := hN.s2
  have s3 := hN.s3
  have HN := hide hN
  clear hN
  go_wp2_with fail
  refine (alive_mayn _ _ (unhide HN).acts).mono ?_
  rintro e w5 ⟨rfl, hb5⟩
  have hN := (unhide HN).below hb5
  clear hb5 HN s0 s1 s2 s3
  have s0 := hN.s0
  have s1 := hN.s1
  have s2 := hN.s2
  have s3 := hN.s3
  have HN := hide hN
  clear hN
  go_wp2_with fail
  refine (alive_clash _ _ (unhide HN).acts).mono ?_
  rintro e w6 ⟨rfl, hb6⟩
  have HB := hide ((unhide HN).bel.trans (hb6.mono (unhide HN).bel.size))
  clear hb6 HN s0 s1 s2 s3
  go_wp2_with fail
  go_ret
  exact ⟨rfl, unhide HB⟩
end Go.Proofs.Ytnbleebilmghcab
