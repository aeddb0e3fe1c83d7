/- plain.wrongRow, whatever the world. -/
import Derived.Test.YtmbjghjpofcdpaaPRight
set_option linter.unnecessarySimpa false
set_option linter.unusedSimpArgs false
set_option linter.unusedVariables false
namespace Go.Proofs.Ytmbjghjpofcdpaa
open Go.RowKit
attribute [local go_sem ↓] Go.wp_at_zero Go.wp_at_succ

/-- Numbers that lie in memory, one behind the other. -/
def IntsAt (w : World) (G : Option Addr) (n : Nat) (f : Nat → Int) : Prop := ∀ j, j < n → ∃ b off, G = some ⟨b, off, none⟩ ∧ w.cell? ⟨b, off + j, none⟩ = some (.int .i64 (f j))
theorem IntsAt.below {w w1 : World} {G : Option Addr} {n : Nat} {f : Nat → Int} (h : IntsAt w G n f) (hb : Below w.heap.size w w1) : IntsAt w1 G n f := fun j hj => by
  obtain ⟨b, off, h0, h1⟩ := h j hj
  exact ⟨b, off, h0, keep_below hb h1⟩

/-- What is wrong with row j. -/
def wrowI (R : Nat → RowI) (gn : Nat) (f : Nat → Int) (j : Nat) : Int :=
  if rvB (R j) = false ∨ (R j).ix < 0 ∨ (gn : Int) ≤ (R j).ix then 3 else if 0 < j ∧ (R j).ix ≤ (R (j - 1)).ix then 2 else if (R j).gen = f (R j).ix.toNat then 0 else 7

theorem bel_drewN' {B : Nat} {a w : World} (h : Below B a w) (n : Nat) : Below B a (w.drewN n) := ⟨h.os, h.tape, h.output, h.size, h.block⟩

structure PW (w : World) (A : Option Addr) (n cap : Nat) (G : Option Addr) (gn gcap : Nat) (x : RowI) (W : World) : Prop where
  bel : Below w.heap.size w W
  r0 : W.cell? ⟨w.heap.size, 0, none⟩ = some (.slice A n cap)
  r1 : W.cell? ⟨w.heap.size, 1, none⟩ = some (.slice G gn gcap)
  d0 : W.cell? ⟨w.heap.size + 1, 0, none⟩ = some (.int .i64 x.ix)
  d1 : W.cell? ⟨w.heap.size + 1, 1, none⟩ = some (.int .i64 x.gen)
theorem PW.below {w : World} {A : Option Addr} {n cap : Nat} {G : Option Addr} {gn gcap : Nat} {x : RowI} {W W1 : World} (h : PW w A n cap G gn gcap x W) (hb : Below W.heap.size W W1) : PW w A n cap G gn gcap x W1 :=
  ⟨h.bel.trans (hb.mono h.bel.size), keep_below hb h.r0, keep_below hb h.r1, keep_below hb h.d0, keep_below hb h.d1⟩
theorem PW.start (w : World) (A : Option Addr) (n cap : Nat) (G : Option Addr) (gn gcap : Nat) (x : RowI) : PW w A n cap G gn gcap x ((w.alloc (.cells #[.slice A n cap, .slice G gn gcap] 38)).alloc (.cells #[.int .i64 x.ix, .int .i64 x.gen, .int .i64 x.has, .int .i64 (x.v 0), .int .i64 (x.v 1), .int .i64 (x.v 2), .int .i64 (x.v 3), .int .i64 (x.v 4), .int .i64 (x.v 5), .int .i64 (x.v 6), .int .i64 (x.v 7)] 61)) :=
  ⟨by go_grown, by simp [go_sem], by simp [go_sem], by simp [go_sem], by simp [go_sem]⟩

set_option maxRecDepth 8000 in
set_option maxHeartbeats 2000000 in
theorem wrongRow_any (A : Option Addr) (n cap : Nat) (G : Option Addr) (gn gcap : Nat) (R : Nat → RowI) (f : Nat → Int) (j : Nat) (w : World) (hj : j < n) (hn : n ≤ 9223372036854775807) (hR : RowsAt w A n R) (hG : IntsAt w G gn f) :
    Calls Try.prog 80 #[worldV A n cap G gn gcap, .int .i64 (j : Int)] w fun e w' => e = .returned (.int .i64 (wrowI R gn f j)) ∧ Below w.heap.size w w' := by
  have hP := PW.start w A n cap G gn gcap (R j)
  obtain ⟨b, off, rfl, hrow⟩ := hR j hj
  have hb0 : Below w.heap.size w (w.alloc (.cells #[.slice (some ⟨b, off, none⟩) n cap, .slice G gn gcap] 38)) := (Below.refl _ _).alloc (Nat.le_refl _) _
  have c0 := hrow.c0
  have c1 := hrow.c1
  have c2 := hrow.c2
  have c3 := hrow.v 0 (by omega)
  have c4 := hrow.v 1 (by omega)
  have c5 := hrow.v 2 (by omega)
  have c6 := hrow.v 3 (by omega)
  have c7 := hrow.v 4 (by omega)
  have c8 := hrow.v 5 (by omega)
  have c9 := hrow.v 6 (by omega)
  have c10 := hrow.v 7 (by omega)
  simp only [Nat.add_assoc, Nat.reduceAdd] at c3 c4 c5 c6 c7 c8 c9 c10
  simp only [← Nat.add_assoc] at c3 c4 c5 c6 c7 c8 c9 c10
  have hz : b < w.heap.size := World.block_lt_of_cell? w _ c0
  have HP := hide hP
  have HRV := hide (fun W => rightVals_any (R j) W)
  have HR := hide hR
  have HG := hide hG
  have jj0 : (0 : Int) ≤ (j : Int) := by omega
  have jj1 : (j : Int) < (n : Int) := by omega
  clear hrow hb0 hP hR hG
  unfold rowV at HRV
  unfold worldV wrowI
  cases hv : rvB (R j)
  · rw [hv] at HRV
    simp only [true_or, if_true]
    go_enter Try.func80, Try.ntmps80
    go_wp2_with (first
      | (go_at_call 112; refine (unhide HRV _).mono ?_; rintro e w5 ⟨rfl, hb5⟩; have HP5 := hide ((unhide HP).below hb5); clear hb5))
    go_ret
    exact ⟨rfl, (unhide HP5).bel⟩
  · rw [hv] at HRV
    by_cases hi0 : (R j).ix < 0
    · simp only [hi0, true_or, or_true, if_true]
      go_enter Try.func80, Try.ntmps80
      go_wp2_with (first
        | (go_at_call 112; refine (unhide HRV _).mono ?_; rintro e w5 ⟨rfl, hb5⟩; have HP5 := hide ((unhide HP).below hb5); clear hb5))
      go_ret
      exact ⟨rfl, (unhide HP5).bel⟩
    · by_cases hi1 : (gn : Int) ≤ (R j).ix
      · simp only [hi1, or_true, if_true]
        go_enter Try.func80, Try.ntmps80
        go_wp2_with (first
          | (go_at_call 112; refine (unhide HRV _).mono ?_; rintro e w5 ⟨rfl, hb5⟩; have hP5 := (unhide HP).below hb5; have r1 := hP5.r1; have HP5 := hide hP5; clear hb5 hP5))
        go_ret
        exact ⟨rfl, (unhide HP5).bel⟩
      · simp only [hi0, hi1, Bool.true_eq_false, or_self, if_false]
        have hq : ∃ q : Nat, q < gn ∧ (R j).ix = (q : Int) := ⟨(R j).ix.toNat, by omega, by omega⟩
        obtain ⟨q, hq, hqe⟩ := hq
        obtain ⟨bg, og, rfl, cg⟩ := unhide HG q hq
        have HCG := hide cg
        have qq0 : (0 : Int) ≤ (q : Int) := by omega
        have qq1 : (q : Int) < (gn : Int) := by omega
        have qq2 : ¬ (q : Int) < 0 := by omega
        have qq3 : ¬ (gn : Int) ≤ (q : Int) := by omega
        clear cg HG hi0 hi1
        cases j with
        | zero =>
          generalize R 0 = x at *
          obtain ⟨ix, gen, has, v⟩ := x
          dsimp only at *
          subst hqe
          simp only [Nat.lt_irrefl, false_and, if_false, Int.toNat_natCast]
          simp only [Nat.zero_mul, Nat.add_zero] at c0 c1 c2 c3 c4 c5 c6 c7 c8 c9 c10
          clear HR
          by_cases hge : gen = f q
          all_goals
            first
            | (subst hge; simp only [if_true])
            | simp only [hge, if_false]
            go_enter Try.func80, Try.ntmps80
            go_wp2_with (first
              | (go_at_call 112; refine (unhide HRV _).mono ?_; rintro e w5 ⟨rfl, hb5⟩; have hP5 := (unhide HP).below hb5; have r0 := hP5.r0; have r1 := hP5.r1; have d0 := hP5.d0; have d1 := hP5.d1; have cg := keep_below hP5.bel (unhide HCG); have HP5 := hide hP5; clear hb5 hP5))
            go_quiet (fail)
            go_wp2_with fail
            go_ret
            exact ⟨rfl, bel_drewN' (unhide HP5).bel _⟩
        | succ m =>
          obtain ⟨b', off', hbo, hprev⟩ := unhide HR m (by omega)
          simp only [Option.some.injEq, Addr.mk.injEq, and_true] at hbo
          obtain ⟨rfl, rfl⟩ := hbo
          have HPV := hide hprev.c0
          clear hprev HR
          simp only [Nat.add_sub_cancel, Nat.zero_lt_succ, true_and]
          generalize R (m + 1) = x at *
          obtain ⟨ix, gen, has, v⟩ := x
          dsimp only at *
          subst hqe
          simp only [Int.toNat_natCast]
          generalize (R m).ix = pix at *
          have hm0 : (0 : Int) < (m : Int) + 1 := by omega
          have hm1 : (m : Int) < (n : Int) := by omega
          have hm2 : (0 : Int) ≤ (m : Int) := by omega
          by_cases hp : (q : Int) ≤ pix
          · simp only [hp, if_true]
            go_enter Try.func80, Try.ntmps80
            go_wp2_with (first
              | (go_at_call 112; refine (unhide HRV _).mono ?_; rintro e w5 ⟨rfl, hb5⟩; have hP5 := (unhide HP).below hb5; have r0 := hP5.r0; have r1 := hP5.r1; have d0 := hP5.d0; have d1 := hP5.d1; have pv := keep_below hP5.bel (unhide HPV); have HP5 := hide hP5; clear hb5 hP5))
            go_ret
            exact ⟨rfl, (unhide HP5).bel⟩
          · simp only [hp, if_false]
            by_cases hge : gen = f q
            all_goals
              first
              | (subst hge; simp only [if_true])
              | simp only [hge, if_false]
              go_enter Try.func80, Try.ntmps80
              go_wp2_with (first
                | (go_at_call 112; refine (unhide HRV _).mono ?_; rintro e w5 ⟨rfl, hb5⟩; have hP5 := (unhide HP).below hb5; have r0 := hP5.r0; have r1 := hP5.r1; have d0 := hP5.d0; have d1 := hP5.d1; have cg := keep_below hP5.bel (unhide HCG); have pv := keep_below hP5.bel (unhide HPV); have HP5 := hide hP5; clear hb5 hP5))
              go_quiet (fail)
              go_wp2_with fail
              go_ret
              exact ⟨rfl, bel_drewN' (unhide HP5).bel _⟩
end Go.Proofs.Ytmbjghjpofcdpaa
