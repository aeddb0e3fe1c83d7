/- Rows of beings in memory; contracts of plain.find and plain.Get. -/
import Derived.Test.YtmbjghjpofcdpaaVars
import Derived.Test.YtmbjghjpofcdpaaRef
import Derived.Deep.RegionHeld3
import Derived.Deep.DrawnRows
import Derived.Deep.QuietTactic
import Derived.BigQuiet
import Derived.Deep.DeepCutAuto
set_option linter.unnecessarySimpa false
set_option linter.unusedSimpArgs false
set_option linter.unusedVariables false
namespace Go.Proofs.Ytmbjghjpofcdpaa
open Go.RowKit
attribute [local go_sem ↓] Go.wp_at_zero Go.wp_at_succ

structure RowI where
  ix : Int
  gen : Int
  has : Int
  v : Nat → Int

def rowV (x : RowI) : Value := .agg #[.int .i64 x.ix, .int .i64 x.gen, .int .i64 x.has, .int .i64 (x.v 0), .int .i64 (x.v 1), .int .i64 (x.v 2), .int .i64 (x.v 3), .int .i64 (x.v 4), .int .i64 (x.v 5), .int .i64 (x.v 6), .int .i64 (x.v 7)]
/-- A row lies at this place. -/
structure RowAt (w : World) (b o : Nat) (x : RowI) : Prop where
  c0 : w.cell? ⟨b, o, none⟩ = some (.int .i64 x.ix)
  c1 : w.cell? ⟨b, o + 1, none⟩ = some (.int .i64 x.gen)
  c2 : w.cell? ⟨b, o + 2, none⟩ = some (.int .i64 x.has)
  v : ∀ k, k < 8 → w.cell? ⟨b, o + 3 + k, none⟩ = some (.int .i64 (x.v k))
theorem RowAt.below {w w1 : World} {b o : Nat} {x : RowI} (h : RowAt w b o x) (hb : Below w.heap.size w w1) : RowAt w1 b o x :=
  ⟨keep_below hb h.c0, keep_below hb h.c1, keep_below hb h.c2, fun k hk => keep_below hb (h.v k hk)⟩
/-- The rows lie in memory, one behind the other. -/
def RowsAt (w : World) (A : Option Addr) (n : Nat) (R : Nat → RowI) : Prop := ∀ j, j < n → ∃ b off, A = some ⟨b, off, none⟩ ∧ RowAt w b (off + j * 11) (R j)
theorem RowsAt.below {w w1 : World} {A : Option Addr} {n : Nat} {R : Nat → RowI} (h : RowsAt w A n R) (hb : Below w.heap.size w w1) : RowsAt w1 A n R := fun j hj => by
  obtain ⟨b, off, h0, h1⟩ := h j hj
  exact ⟨b, off, h0, h1.below hb⟩

def isB (x : RowI) (i g : Int) : Bool := x.ix == i && x.gen == g

set_option maxRecDepth 8000 in
set_option maxHeartbeats 400000 in
/-- The closure that find asks. -/
theorem find1_any (x : RowI) (i g : Int) (b : Nat) (w : World) (h0 : w.cell? ⟨b, 0, none⟩ = some (.int .i64 i)) (h1 : w.cell? ⟨b, 1, none⟩ = some (.int .i64 g)) :
    Calls Try.prog 118 #[rowV x, .pointer (some ⟨b, 0, none⟩)] w fun e w' => e = .returned (.bool (isB x i g)) ∧ Below w.heap.size w w' := by
  have hz : b < w.heap.size := World.block_lt_of_cell? w _ h0
  unfold rowV
  go_enter Try.func118, Try.ntmps118
  go_wp2
  all_goals
    go_ret
    exact ⟨by simp [isB, *], by go_grown⟩

/-- The number of the first of n rows from j on that is of this being; -1, if none is. -/
def fIx (R : Nat → RowI) (i g : Int) : Nat → Nat → Int
  | 0, _ => -1
  | n + 1, j => if isB (R j) i g then (j : Int) else fIx R i g n (j + 1)
theorem fIx_step (R : Nat → RowI) (i g : Int) (n j : Nat) (h : j < n) : fIx R i g (n - j) j = if isB (R j) i g then (j : Int) else fIx R i g (n - (j + 1)) (j + 1) := by
  rw [show n - j = (n - (j + 1)) + 1 by omega, fIx]

set_option maxRecDepth 8000 in
set_option maxHeartbeats 1000000 in
theorem indexFind_any (A : Option Addr) (n cap : Nat) (R : Nat → RowI) (i g : Int) (b : Nat) (w : World) (hn : n ≤ 9223372036854775807) (hR : RowsAt w A n R) (h0 : w.cell? ⟨b, 0, none⟩ = some (.int .i64 i)) (h1 : w.cell? ⟨b, 1, none⟩ = some (.int .i64 g)) :
    Calls Try.prog 115 #[.slice A n cap, .func (.func 118) #[] #[.pointer (some ⟨b, 0, none⟩)]] w fun e w' => e = .returned (.int .i64 (fIx R i g n 0)) ∧ Below w.heap.size w w' := by
  have HR := hide hR
  have HB0 := hide h0
  have HB1 := hide h1
  clear hR h0 h1
  go_enter Try.func115, Try.ntmps115
  go_wp2
  go_loopw [8] (fun x wr => ∃ j : Nat, j ≤ n ∧ x = .int .i64 j ∧ fIx R i g n 0 = fIx R i g (n - j) j ∧ Below w.heap.size w wr) (fun x _ => n - (intOf x).toNat)
  case atStart => exact ⟨0, Nat.zero_le _, rfl, rfl, Below.refl _ _⟩
  case round =>
    obtain ⟨j, hj, rfl, hF, hbr⟩ := hrel
    have HF := hide hF
    clear hF
    by_cases hlt : j < n
    · have j0 : (0 : Int) ≤ (j : Int) := by omega
      have j1 : (j : Int) < (n : Int) := by omega
      obtain ⟨b', off, rfl, hrow⟩ := unhide HR j hlt
      have hrow := hrow.below hbr
      have c0 := hrow.c0
      have c1 := hrow.c1
      have c2 := hrow.c2
      have c3 := hrow.v 0 (by omega)
      have c4 := hrow.v 1 (by omega)
      have c5 := hrow.v 2 (by omega)
      have c6 := hrow.v 3 (by omega)
      have c7 := hrow.v 4 (by omega)
      have c8 := hrow.v 5 (by omega)
      have c9 := hrow.v 6 (by omega)
      have c10 := hrow.v 7 (by omega)
      simp only [Nat.add_assoc, Nat.reduceAdd] at c3 c4 c5 c6 c7 c8 c9 c10
      simp only [← Nat.add_assoc] at c3 c4 c5 c6 c7 c8 c9 c10
      have HS := hide (fIx_step R i g n j hlt)
      have HC := hide (find1_any (R j) i g b wr (keep_below hbr (unhide HB0)) (keep_below hbr (unhide HB1)))
      have HBR := hide hbr
      clear hrow hbr HR HB0 HB1
      generalize isB (R j) i g = ok at *
      cases ok
      all_goals
        go_wp2_with (first
          | (go_at_call 118; refine (unhide HC).mono ?_; rintro e w5 ⟨rfl, hb5⟩; have HB5 := hide ((unhide HBR).trans (hb5.mono (unhide HBR).size)); clear hb5))
        first
        | (go_ret
           have hv : fIx R i g n 0 = (j : Int) := (unhide HF).trans ((unhide HS).trans (by simp))
           rw [hv]
           exact ⟨rfl, unhide HB5⟩)
        | (go_roundw
           case rel => exact ⟨j + 1, by omega, by go_num, (unhide HF).trans ((unhide HS).trans (by simp)), unhide HB5⟩
           case measure => simp [intOf]; omega)
    · obtain rfl : j = n := by omega
      have hv : fIx R i g j 0 = -1 := by rw [unhide HF, Nat.sub_self]; rfl
      have HB := hide hbr
      clear hbr HR HB0 HB1
      go_wp2
      go_ret
      rw [hv]
      exact ⟨rfl, unhide HB⟩

def beingV (i g : Int) : Value := .agg #[.int .i64 i, .int .i64 g]
set_option maxRecDepth 8000 in
set_option maxHeartbeats 400000 in
theorem find_any (A : Option Addr) (n cap : Nat) (R : Nat → RowI) (i g : Int) (w : World) (hn : n ≤ 9223372036854775807) (hR : RowsAt w A n R) :
    Calls Try.prog 91 #[.slice A n cap, beingV i g] w fun e w' => e = .returned (.int .i64 (fIx R i g n 0)) ∧ Below w.heap.size w w' := by
  have hb : Below w.heap.size w (w.alloc (.cells #[.int .i64 i, .int .i64 g] 40)) := (Below.refl _ _).alloc (Nat.le_refl _) _
  have HC := hide (indexFind_any A n cap R i g w.heap.size _ hn (hR.below hb) (by simp) (by simp))
  have HB := hide hb
  clear hb hR
  unfold beingV
  go_enter Try.func91, Try.ntmps91
  go_wp2_with (first
    | (go_at_call 115; refine (unhide HC).mono ?_; rintro e w5 ⟨rfl, hb5⟩; have HB5 := hide ((unhide HB).trans (hb5.mono (unhide HB).size)); clear hb5))
  go_ret
  exact ⟨rfl, unhide HB5⟩
/-- Where the row is. -/
theorem fIx_spec (R : Nat → RowI) (i g : Int) : ∀ n j, fIx R i g n j = -1 ∨ ∃ k : Nat, j ≤ k ∧ k < j + n ∧ fIx R i g n j = (k : Int) ∧ isB (R k) i g = true
  | 0, _ => .inl rfl
  | n + 1, j => by
    unfold fIx
    cases h : isB (R j) i g
    · simp only [Bool.false_eq_true, if_false]
      rcases fIx_spec R i g n (j + 1) with h1 | ⟨k, h1, h2, h3, h4⟩
      · exact .inl h1
      · exact .inr ⟨k, by omega, by omega, h3, h4⟩
    · simp only [if_true]
      exact .inr ⟨j, by omega, by omega, rfl, h⟩
end Go.Proofs.Ytmbjghjpofcdpaa
