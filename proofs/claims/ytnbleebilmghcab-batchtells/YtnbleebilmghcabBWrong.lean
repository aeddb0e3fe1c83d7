/- What rule.Wrong answers, whatever the system. -/
import Derived.Test.YtnbleebilmghcabBNeeds
set_option linter.unnecessarySimpa false
set_option linter.unusedSimpArgs false
set_option linter.unusedVariables false
namespace Go.Proofs.Ytnbleebilmghcab
open Go.RowKit
attribute [local go_sem ↓] Go.wp_at_zero Go.wp_at_succ

/-- What may be read ahead of act j. -/
def rbTo (al : Int) (a : Nat → ActI) : Nat → Int
  | 0 => al
  | j + 1 => bits .and .i64 (afI (a j).k (a j).p (rbTo al a j)) al
/-- What is wrong with act j. -/
def waAt (al : Int) (a : Nat → ActI) (j : Nat) : Int := waI (a j).k (a j).p (a j).f (a j).n (rbTo al a j)
/-- The first fault of n acts from j on. -/
def fbTo (al : Int) (a : Nat → ActI) : Nat → Nat → Int × Int
  | 0, _ => (0, 0)
  | n + 1, j => if waAt al a j = 0 then fbTo al a n (j + 1) else (waAt al a j, (j : Int))
def headB (m al no : Int) : Bool := decide (0 ≤ m ∧ m < 6) && setB al && setB no
def wrF (m al no : Int) (a : Nat → ActI) (len : Nat) : Int × Int := if headB m al no = false then (3, 0) else if 8 < len then (4, 0) else fbTo al a len 0
def faultV (x : Int × Int) : Value := .agg #[.int .i64 x.1, .int .i64 x.2]

structure WB (w : World) (al : Int) (wr : World) : Prop where
  bel : Below w.heap.size w wr
  e1 : wr.cell? ⟨w.heap.size, 1, none⟩ = some (.int .i64 al)
  t0 : wr.cell? ⟨w.heap.size + 1, 0, none⟩ = some (.int .i64 0)
  t1 : wr.cell? ⟨w.heap.size + 1, 1, none⟩ = some (.int .i64 0)
  f : ∀ i, wr.frozen? ⟨w.heap.size + 1, i, none⟩ = false
theorem WB.below {w wr w1 : World} {al : Int} (h : WB w al wr) (hb : Below wr.heap.size wr w1) : WB w al w1 :=
  ⟨h.bel.trans (hb.mono h.bel.size), keep_below hb h.e1, keep_below hb h.t0, keep_below hb h.t1, fun i => (hb.frozen (p := ⟨w.heap.size + 1, i, none⟩) (by have := World.block_lt_of_cell? wr _ h.t0; exact this)).trans (h.f i)⟩
theorem WB.start (w : World) (m al no : Int) (A : Option Addr) (len cap : Nat) : WB w al
    ((w.alloc (.cells #[.int .i64 m, .int .i64 al, .int .i64 no, .slice A len cap] 26)).alloc (.cells #[.int .i64 0, .int .i64 0] 30)) := by
  obtain ⟨w1, h1⟩ : ∃ W, W = w.alloc (.cells #[.int .i64 m, .int .i64 al, .int .i64 no, .slice A len cap] 26) := ⟨_, rfl⟩
  have z1 : w1.heap.size = w.heap.size + 1 := by rw [h1]; simp
  have b1 : Below w.heap.size w w1 := by rw [h1]; exact (Below.refl _ _).alloc (Nat.le_refl _) _
  have e1 : w1.cell? ⟨w.heap.size, 1, none⟩ = some (.int .i64 al) := by rw [h1]; simp
  rw [← h1]
  clear h1
  have b2 : Below w1.heap.size w1 (w1.alloc (.cells #[.int .i64 0, .int .i64 0] 30)) := (Below.refl _ _).alloc (Nat.le_refl _) _
  refine ⟨b1.trans (b2.mono b1.size), keep_below b2 e1, ?_, ?_, fun i => ?_⟩ <;> rw [← z1] <;> simp [go_sem]

set_option maxRecDepth 8000 in
set_option maxHeartbeats 1000000 in
theorem wrong_head (m al no : Int) (A : Option Addr) (len cap : Nat) (w : World) (h : headB m al no = false) :
    Calls Try.prog 12 #[sysV m al no A len cap] w fun e w' => e = .returned (faultV (3, 0)) ∧ Below w.heap.size w w' := by
  have hW := WB.start w m al no A len cap
  unfold headB at h
  unfold sysV
  have hc : m < 0 ∨ (¬ m < 0 ∧ 6 ≤ m) ∨ ((¬ m < 0 ∧ ¬ 6 ≤ m) ∧ setB al = false) ∨ ((¬ m < 0 ∧ ¬ 6 ≤ m) ∧ setB al = true ∧ setB no = false) := by
    cases h1 : setB al <;> cases h2 : setB no <;> simp [h1, h2] at h ⊢ <;> omega
  clear h
  have HW := hide hW
  clear hW
  rcases hc with h0 | ⟨h0, h1⟩ | ⟨⟨h0, h1⟩, h2⟩ | ⟨⟨h0, h1⟩, h2, h3⟩
  all_goals
    go_enter Try.func12, Try.ntmps12
    go_wp2_with (first
      | (go_at_call 33; refine (set_any _ _).mono ?_; rintro e w1 ⟨rfl, hw⟩; obtain rfl := hw.symm))
    refine bodyPost_ret (v := faultV (3, 0)) (by simp [results, Try.results12, go_sem, faultV]) rfl ⟨rfl, ?_⟩
    go_grown

set_option maxRecDepth 8000 in
set_option maxHeartbeats 1000000 in
theorem wrong_many (m al no : Int) (A : Option Addr) (len cap : Nat) (w : World) (h : headB m al no = true) (hl : 8 < len) :
    Calls Try.prog 12 #[sysV m al no A len cap] w fun e w' => e = .returned (faultV (4, 0)) ∧ Below w.heap.size w w' := by
  unfold headB at h
  unfold sysV
  simp only [Bool.and_eq_true, decide_eq_true_eq] at h
  obtain ⟨⟨⟨h0, h1⟩, h2⟩, h3⟩ := h
  have hl' : (8 : Int) < (len : Int) := by omega
  go_enter Try.func12, Try.ntmps12
  go_wp2_with (first
    | (go_at_call 33; refine (set_any _ _).mono ?_; rintro e w1 ⟨rfl, hw⟩; obtain rfl := hw.symm))
  refine bodyPost_ret (v := faultV (4, 0)) (by simp [results, Try.results12, go_sem, faultV]) rfl ⟨rfl, ?_⟩
  go_grown

theorem fb_step (al : Int) (a : Nat → ActI) (len j : Nat) (h : j < len) : fbTo al a (len - j) j = if waAt al a j = 0 then fbTo al a (len - (j + 1)) (j + 1) else (waAt al a j, (j : Int)) := by
  rw [show len - j = (len - (j + 1)) + 1 by omega, fbTo]

set_option maxRecDepth 8000 in
set_option maxHeartbeats 2000000 in
theorem wrong_body (m al no : Int) (A : Option Addr) (len cap : Nat) (a : Nat → ActI) (w : World) (h : headB m al no = true) (hl : len ≤ 8) (hA : ActsAt w A len a) :
    Calls Try.prog 12 #[sysV m al no A len cap] w fun e w' => e = .returned (faultV (fbTo al a len 0)) ∧ Below w.heap.size w w' := by
  have hW := WB.start w m al no A len cap
  unfold headB at h
  unfold sysV
  simp only [Bool.and_eq_true, decide_eq_true_eq] at h
  obtain ⟨⟨⟨h0, h1⟩, h2⟩, h3⟩ := h
  have hl' : ¬ (8 : Int) < (len : Int) := by omega
  have HW := hide hW
  have HA := hide hA
  clear hW hA
  go_enter Try.func12, Try.ntmps12
  go_wp2_with (first
    | (go_at_call 33; refine (set_any _ _).mono ?_; rintro e w1 ⟨rfl, hw⟩; obtain rfl := hw.symm))
  go_loopw [3, 41] (fun r i wr => ∃ j : Nat, j ≤ len ∧ i = .int .i64 j ∧ r = .int .i64 (rbTo al a j) ∧ fbTo al a len 0 = fbTo al a (len - j) j ∧ WB w al wr) (fun _ i _ => len - (intOf i).toNat)
  case atStart => exact ⟨0, Nat.zero_le _, rfl, rfl, rfl, unhide HW⟩
  case round =>
    clear HW
    obtain ⟨j, hj, rfl, rfl, hF, hN⟩ := hrel
    have HF := hide hF
    clear hF
    by_cases hlt : j < len
    · have j0 : (0 : Int) ≤ (j : Int) := by omega
      have j1 : (j : Int) < (len : Int) := by omega
      obtain ⟨b, off, rfl, q0, q1, q2, q3⟩ := unhide HA j hlt
      have q0 := keep_below hN.bel q0
      have q1 := keep_below hN.bel q1
      have q2 := keep_below hN.bel q2
      have q3 := keep_below hN.bel q3
      have HN := hide hN
      have HS := hide (fb_step al a len j hlt)
      have HR : Hid (rbTo al a (j + 1) = bits .and .i64 (afI (a j).k (a j).p (rbTo al a j)) al) := rfl
      have HE : Hid (waAt al a j = waI (a j).k (a j).p (a j).f (a j).n (rbTo al a j)) := rfl
      clear hN HA
      generalize waAt al a j = ej at *
      generalize rbTo al a j = rj at *
      generalize a j = y at *
      obtain ⟨k, p, f, n⟩ := y
      dsimp only at *
      have HC := wrongAct_any k p f n rj
      rw [← unhide HE] at HC
      have HC := hide HC
      clear HE
      by_cases he : ej = 0
      · subst he
        go_wp2_with (first
          | (go_at_call 34; refine (unhide HC _).mono ?_; rintro e w5 ⟨rfl, hb5⟩; have hN5 := (unhide HN).below (Below.trans ((Below.refl _ _).alloc (Nat.le_refl _) _) (hb5.mono (by simp))); have d0 := keep_below hb5 (p := ⟨wr.heap.size, 0, none⟩) (v := .int .i64 k) (by simp); have d1 := keep_below hb5 (p := ⟨wr.heap.size, 1, none⟩) (v := .int .i64 p) (by simp); have d2 := keep_below hb5 (p := ⟨wr.heap.size, 2, none⟩) (v := .int .i64 f) (by simp); have d3 := keep_below hb5 (p := ⟨wr.heap.size, 3, none⟩) (v := .int .i64 n) (by simp); clear hb5))
        clear HC HN q0 q1 q2 q3
        generalize wr.heap.size = b9 at *
        have hne : Nonempty (Sub w5) := ⟨⟨w5, Below.refl _ _⟩⟩
        have s1 := sub_cell hN5.e1
        have d0 := sub_cell d0
        have d1 := sub_cell d1
        have d2 := sub_cell d2
        have d3 := sub_cell d3
        have HN := hide hN5
        clear hN5
        refine wp_region_sub (by kernel_rfl) (by kernel_rfl) ?_
        repeat (go_big_quiet_step ((first
          | (go_at_call 35; exact sub_bel (after_any _ _ _ _ _ _)))))
        refine wpQuiet_nil ?_
        rintro w6 ⟨xs, hxs⟩
        have hb6 := xs.bel
        rw [← hxs] at hb6
        have hN6 := (unhide HN).below hb6
        clear hxs xs hb6 s1 d0 d1 d2 d3 hne HN
        have HN := hide hN6
        clear hN6
        go_wp2_with fail
        go_roundw
        case rel => exact ⟨j + 1, by omega, by go_num, by rw [unhide HR], (unhide HF).trans ((unhide HS).trans (by simp)), unhide HN⟩
        case measure => simp [intOf]; omega
      · go_wp2_with (first
          | (go_at_call 34; refine (unhide HC _).mono ?_; rintro e w5 ⟨rfl, hb5⟩; have hN5 := (unhide HN).below (Below.trans ((Below.refl _ _).alloc (Nat.le_refl _) _) (hb5.mono (by simp))); clear hb5; have t0 := hN5.t0; have t1 := hN5.t1; have f0 := hN5.f 0; have f1 := hN5.f 1))
        have hv : fbTo al a len 0 = (ej, (j : Int)) := by rw [unhide HF, unhide HS, if_neg he]
        refine bodyPost_ret (v := faultV (ej, (j : Int))) (by simp [results, Try.results12, go_sem, faultV, t0, t1]) rfl ⟨by rw [hv], ?_⟩
        exact below_setCells (w.heap.size + 1) (by omega) [.int .i64 ej, .int .i64 (j : Int)] 0 w5 hN5.bel
    · obtain rfl : j = len := by omega
      have hv : fbTo al a j 0 = (0, 0) := by rw [unhide HF, Nat.sub_self]; rfl
      have t0 := hN.t0
      have t1 := hN.t1
      have f0 := hN.f 0
      have f1 := hN.f 1
      have HB := hide hN.bel
      clear hN HA
      go_wp2
      refine bodyPost_ret (v := faultV (0, 0)) (by simp [results, Try.results12, go_sem, faultV, t0, t1]) rfl ⟨by rw [hv], ?_⟩
      exact below_setCells (w.heap.size + 1) (by omega) [.int .i64 0, .int .i64 0] 0 wr (unhide HB)

/-- WHATEVER THE SYSTEM. -/
theorem wrong_any (m al no : Int) (A : Option Addr) (len cap : Nat) (a : Nat → ActI) (w : World) (hA : ActsAt w A len a) :
    Calls Try.prog 12 #[sysV m al no A len cap] w fun e w' => e = .returned (faultV (wrF m al no a len)) ∧ Below w.heap.size w w' := by
  unfold wrF
  cases h : headB m al no
  · exact wrong_head m al no A len cap w h
  · by_cases hl : 8 < len
    · simp only [Bool.true_eq_false, if_false, hl, if_true]
      exact wrong_many m al no A len cap w h hl
    · simp only [Bool.true_eq_false, if_false, hl]
      exact wrong_body m al no A len cap a w h (by omega) hA
end Go.Proofs.Ytnbleebilmghcab
