/- The document's Row and Same. -/
import Derived.Test.YtmbjghjpofcdpaaPSpawn
import Derived.Test.YtmbjghjpofcdpaaPEq
set_option linter.unusedVariables false
set_option linter.unusedSimpArgs false
set_option linter.unnecessarySimpa false
namespace Go.Proofs.Ytmbjghjpofcdpaa
open Go Go.RowKit
attribute [local go_sem ↓] Go.wp_at_zero Go.wp_at_succ neq61

structure RX (w : World) (u0 u1 y0 y1 : Value) (W : World) : Prop where
  bel : Below w.heap.size w W
  r0 : W.cell? ⟨w.heap.size, 0, none⟩ = some u0
  r1 : W.cell? ⟨w.heap.size, 1, none⟩ = some u1
  d0 : W.cell? ⟨w.heap.size + 1, 0, none⟩ = some y0
  d1 : W.cell? ⟨w.heap.size + 1, 1, none⟩ = some y1
theorem RX.below {w W W1 : World} {u0 u1 y0 y1 : Value} (h : RX w u0 u1 y0 y1 W) (hb : Below W.heap.size W W1) : RX w u0 u1 y0 y1 W1 :=
  ⟨h.bel.trans (hb.mono h.bel.size), keep_below hb h.r0, keep_below hb h.r1, keep_below hb h.d0, keep_below hb h.d1⟩
theorem RX.start (w : World) (u0 u1 y0 y1 : Value) (s t : TypeId) : RX w u0 u1 y0 y1 ((w.alloc (.cells #[u0, u1] s)).alloc (.cells #[y0, y1] t)) := by
  obtain ⟨a0, a1, af, ab⟩ := new_box (W := w) (u0 := u0) (u1 := u1) (t := s) rfl
  have z1 : (w.alloc (.cells #[u0, u1] s)).heap.size = w.heap.size + 1 := by simp
  obtain ⟨c0, c1, cf, cb⟩ := new_box (W := w.alloc (.cells #[u0, u1] s)) (u0 := y0) (u1 := y1) (t := t) z1
  exact ⟨ab.trans (cb.mono ab.size), keep_below cb a0, keep_below cb a1, c0, c1⟩

set_option maxRecDepth 8000 in
set_option maxHeartbeats 2000000 in
theorem row_any (A : Option Addr) (n cap : Nat) (G : Option Addr) (gn gcap : Nat) (R : Nat → RowI) (i g : Int) (w : World) (hn : n ≤ 140737488355328) (hR : RowsAt w A n R) :
    Calls Try.prog 49 #[worldV A n cap G gn gcap, beingV i g] w fun e w' => (∃ p, e = .returned (.pointer p) ∧ ((fIx R i g n 0 = -1 ∧ p = none) ∨ ∃ (k b off : Nat), k < n ∧ fIx R i g n 0 = (k : Int) ∧ A = some ⟨b, off, none⟩ ∧ p = some ⟨b, off + k * 11, none⟩)) ∧ Below w.heap.size w w' := by
  have hx := RX.start w (.slice A n cap) (.slice G gn gcap) (.int .i64 i) (.int .i64 g) 38 40
  have r0 := hx.r0
  have HR := hide hR
  have HX := hide hx
  clear hR hx
  unfold worldV beingV
  go_enter Try.func49, Try.ntmps49
  go_wp2
  go_loopw [9] (fun x wr => ∃ j : Nat, j ≤ n ∧ x = .int .i64 j ∧ fIx R i g n 0 = fIx R i g (n - j) j ∧ RX w (.slice A n cap) (.slice G gn gcap) (.int .i64 i) (.int .i64 g) wr) (fun x _ => n - (intOf x).toNat)
  case atStart => exact ⟨0, Nat.zero_le _, rfl, rfl, unhide HX⟩
  case round =>
    clear r0
    obtain ⟨j, hj, rfl, hF, hbr⟩ := hrel
    have HF := hide hF
    clear hF
    by_cases hlt : j < n
    · have j0 : (0 : Int) ≤ (j : Int) := by omega
      have j1 : (j : Int) < (n : Int) := by omega
      obtain ⟨b', off, rfl, hrow⟩ := unhide HR j hlt
      have hrow := hrow.below hbr.bel
      have c0 := hrow.c0
      have c1 := hrow.c1
      have r0 := hbr.r0
      have d0 := hbr.d0
      have d1 := hbr.d1
      have HS := hide (fIx_step R i g n j hlt)
      unfold isB at HS
      have HBR := hide hbr
      clear hrow hbr HR HX
      by_cases h1 : (R j).ix = i <;> by_cases h2 : (R j).gen = g
      all_goals
        have e1 : ((R j).ix == i && (R j).gen == g) = (decide ((R j).ix = i) && decide ((R j).gen = g)) := by simp [Bool.beq_eq_decide_eq]
        rw [e1] at HS
        simp only [h1, h2, decide_true, decide_false, Bool.and_true, Bool.and_false, Bool.true_and, Bool.false_and, if_true, if_false, Bool.false_eq_true] at HS
        go_wp2
        go_quiet (fail)
        go_wp2
        first
        | (go_ret
           exact ⟨⟨_, rfl, .inr ⟨j, b', off, hlt, (unhide HF).trans (unhide HS), rfl, rfl⟩⟩, bel_drewN' (unhide HBR).bel _⟩)
        | (go_roundw
           case rel => exact ⟨j + 1, by omega, by go_num, (unhide HF).trans (unhide HS), (unhide HBR).below (bel_drewN' (Below.refl _ _) _)⟩
           case measure => simp [intOf]; omega)
    · obtain rfl : j = n := by omega
      have hv : fIx R i g j 0 = -1 := by rw [unhide HF, Nat.sub_self]; rfl
      have HB := hide hbr.bel
      clear hbr HR HX
      go_wp2
      go_ret
      exact ⟨⟨none, rfl, .inl ⟨hv, rfl⟩⟩, unhide HB⟩

theorem RowsAt.congr {w : World} {A : Option Addr} {n : Nat} {R R' : Nat → RowI} (h : RowsAt w A n R) (e : ∀ j, j < n → rowCells (R j) = rowCells (R' j)) : RowsAt w A n R' := fun j hj => by
  obtain ⟨b, off, h0, h1⟩ := h j hj
  refine ⟨b, off, h0, ?_⟩
  rw [rowAt_iff] at h1 ⊢
  rw [← e j hj]; exact h1
theorem IntsAt.congr {w : World} {G : Option Addr} {n : Nat} {f f' : Nat → Int} (h : IntsAt w G n f) (e : ∀ j, j < n → f j = f' j) : IntsAt w G n f' := fun j hj => by
  obtain ⟨b, off, h0, h1⟩ := h j hj
  exact ⟨b, off, h0, by rw [← e j hj]; exact h1⟩

set_option maxRecDepth 8000 in
set_option maxHeartbeats 4000000 in
theorem same_true (A : Option Addr) (n cap : Nat) (G : Option Addr) (gn gcap : Nat) (A' : Option Addr) (cap' : Nat) (G' : Option Addr) (gcap' : Nat) (R : Nat → RowI) (f : Nat → Int) (w : World) (hn : n ≤ 140737488355328) (hgn : gn ≤ 140737488355328)
    (hR : RowsAt w A n R) (hR' : RowsAt w A' n R) (hG : IntsAt w G gn f) (hG' : IntsAt w G' gn f) :
    Calls Try.prog 36 #[worldV A n cap G gn gcap, worldV A' n cap' G' gn gcap'] w fun e w' => e = .returned (.bool true) ∧ Below w.heap.size w w' := by
  have hx := RX.start w (.slice A n cap) (.slice G gn gcap) (.slice A' n cap') (.slice G' gn gcap') 38 38
  have r0 := hx.r0
  have r1 := hx.r1
  have d0 := hx.d0
  have d1 := hx.d1
  have HR := hide hR
  have HR' := hide hR'
  have HG := hide hG
  have HG' := hide hG'
  have HX := hide hx
  clear hR hR' hG hG' hx
  unfold worldV
  go_enter Try.func36, Try.ntmps36
  go_wp2
  go_loopw [26] (fun x wr => ∃ j : Nat, j ≤ n ∧ x = .int .i64 j ∧ RX w (.slice A n cap) (.slice G gn gcap) (.slice A' n cap') (.slice G' gn gcap') wr) (fun x _ => n - (intOf x).toNat)
  case atStart => exact ⟨0, Nat.zero_le _, rfl, unhide HX⟩
  case round =>
    clear r0 r1 d0 d1
    obtain ⟨j, hj, rfl, hbr⟩ := hrel
    by_cases hlt : j < n
    · have j0 : (0 : Int) ≤ (j : Int) := by omega
      have j1 : (j : Int) < (n : Int) := by omega
      obtain ⟨b, off, rfl, hrow⟩ := unhide HR j hlt
      obtain ⟨b', off', rfl, hrow'⟩ := unhide HR' j hlt
      have hrow := hrow.below hbr.bel
      have hrow' := hrow'.below hbr.bel
      have c0 := hrow.c0
      have c1 := hrow.c1
      have c2 := hrow.c2
      have c3 := hrow.v 0 (by omega)
      have c4 := hrow.v 1 (by omega)
      have c5 := hrow.v 2 (by omega)
      have c6 := hrow.v 3 (by omega)
      have c7 := hrow.v 4 (by omega)
      have c8 := hrow.v 5 (by omega)
      have c9 := hrow.v 6 (by omega)
      have c10 := hrow.v 7 (by omega)
      have k0 := hrow'.c0
      have k1 := hrow'.c1
      have k2 := hrow'.c2
      have k3 := hrow'.v 0 (by omega)
      have k4 := hrow'.v 1 (by omega)
      have k5 := hrow'.v 2 (by omega)
      have k6 := hrow'.v 3 (by omega)
      have k7 := hrow'.v 4 (by omega)
      have k8 := hrow'.v 5 (by omega)
      have k9 := hrow'.v 6 (by omega)
      have k10 := hrow'.v 7 (by omega)
      simp only [Nat.add_assoc, Nat.reduceAdd] at c3 c4 c5 c6 c7 c8 c9 c10 k3 k4 k5 k6 k7 k8 k9 k10
      simp only [← Nat.add_assoc] at c3 c4 c5 c6 c7 c8 c9 c10 k3 k4 k5 k6 k7 k8 k9 k10
      have r0 := hbr.r0
      have d0 := hbr.d0
      have HBR := hide hbr
      clear hrow hrow' hbr HR HR' HG HG' HX
      go_wp2
      go_quiet (fail)
      go_wp2
      go_roundw
      case rel => exact ⟨j + 1, by omega, by go_num, (unhide HBR).below (bel_drewN' (Below.refl _ _) _)⟩
      case measure => simp [intOf]; omega
    · obtain rfl : n = j := by omega
      have r1 := hbr.r1
      have d1 := hbr.d1
      have HX2 := hide hbr
      clear hbr HR HR' HX
      go_wp2
      go_loopw [44] (fun x wr => ∃ j : Nat, j ≤ gn ∧ x = .int .i64 j ∧ RX w (.slice A n cap) (.slice G gn gcap) (.slice A' n cap') (.slice G' gn gcap') wr) (fun x _ => gn - (intOf x).toNat)
      case atStart => exact ⟨0, Nat.zero_le _, rfl, unhide HX2⟩
      case round =>
        clear r1 d1
        obtain ⟨j, hj, rfl, hbr⟩ := hrel
        by_cases hlt : j < gn
        · have j0 : (0 : Int) ≤ (j : Int) := by omega
          have j1 : (j : Int) < (gn : Int) := by omega
          obtain ⟨b, off, rfl, c0⟩ := unhide HG j hlt
          obtain ⟨b', off', rfl, k0⟩ := unhide HG' j hlt
          have c0 := keep_below hbr.bel c0
          have k0 := keep_below hbr.bel k0
          have r1 := hbr.r1
          have d1 := hbr.d1
          have HBR := hide hbr
          clear hbr HG HG' HX2
          go_wp2
          go_quiet (fail)
          go_wp2
          go_roundw
          case rel => exact ⟨j + 1, by omega, by go_num, (unhide HBR).below (bel_drewN' (Below.refl _ _) _)⟩
          case measure => simp [intOf]; omega
        · obtain rfl : j = gn := by omega
          have HB := hide hbr.bel
          clear hbr HG HG' HX2
          go_wp2
          go_ret
          exact ⟨rfl, unhide HB⟩

end Go.Proofs.Ytmbjghjpofcdpaa
