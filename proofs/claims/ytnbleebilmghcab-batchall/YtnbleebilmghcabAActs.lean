/- Contracts of package rule's functions on one act, whatever the act. -/
import Derived.Test.YtnbleebilmghcabAParts
import Derived.Test.YtnbleebilmghcabAVars
import Derived.Deep.RegionHeld3
import Derived.Deep.DrawnRows
import Derived.Deep.QuietTactic
import Derived.BigQuiet
import Derived.Deep.DeepCutAuto
set_option linter.unnecessarySimpa false
set_option linter.unusedSimpArgs false
set_option linter.unusedVariables false
namespace Go.Proofs.Ytnbleebilmghcab
open Go.RowKit
attribute [local go_sem ↓] Go.wp_at_zero Go.wp_at_succ

def actV (k p f n : Int) : Value := .agg #[.int .i64 k, .int .i64 p, .int .i64 f, .int .i64 n]
/-- What an act reads. -/
def rdI (k p f : Int) : Int := if k = 2 then bits .or .i64 0 (bitI f) else if k = 3 then bits .or .i64 (bits .or .i64 0 (bitI f)) (bitI p) else if k = 4 then bits .or .i64 0 (bitI p) else 0
/-- What it writes. -/
def wrI (k p : Int) : Int := if k = 1 ∨ k = 2 ∨ k = 3 ∨ k = 4 ∨ k = 5 then bits .or .i64 0 (bitI p) else if k = 7 then p else 0
/-- Whether a being that has all may get, or lose, a part. -/
def mvB (k p all : Int) : Bool := if k = 1 ∨ k = 2 then !(bits .and .i64 all (bitI p) != 0) else decide (k = 5)
/-- What may be read behind it. -/
def afI (k p r : Int) : Int := if k = 1 ∨ k = 2 then bits .or .i64 r (bitI p) else if k = 5 then bits .andNot .i64 r (bitI p) else r
/-- Whether its fields are what they must be. -/
def rgB (k p f n : Int) : Bool := if k = 1 ∨ k = 4 then partB p && valB n else if k = 2 ∨ k = 3 then partB p && partB f else if k = 5 then partB p else if k = 7 then setB p && valB n else true
def inB (x y : Int) : Bool := bits .andNot .i64 x y == 0
/-- What is wrong with it. -/
def waI (k p f n r : Int) : Int := if k < 1 ∨ 7 < k then 1 else if rgB k p f n = false then 3 else if inB (rdI k p f) r = false then 7 else 0

theorem bel_drewN {B : Nat} {a w : World} (h : Below B a w) (n : Nat) : Below B a (w.drewN n) := ⟨h.os, h.tape, h.output, h.size, h.block⟩

theorem within_any (x y : Int) (w : World) :
    Calls Try.prog 56 #[.int .i64 x, .int .i64 y] w fun e w' => e = .returned (.bool (inB x y)) ∧ w' = w := by
  go_enter Try.func56, Try.ntmps56
  go_wp2
  go_ret
  exact ⟨rfl, rfl⟩

set_option maxRecDepth 8000 in
set_option maxHeartbeats 400000 in
theorem reads_any (k p f n : Int) (w : World) :
    Calls Try.prog 37 #[actV k p f n] w fun e w' => e = .returned (.int .i64 (rdI k p f)) ∧ Below w.heap.size w w' := by
  by_cases h3 : k = 3
  · subst h3
    unfold actV
    go_enter Try.func37, Try.ntmps37
    go_wp2
    go_quiet ((first | (go_at_call 58; refine (with_any _ _ _).mono ?_; rintro e w' ⟨rfl, hw⟩; exact ⟨rfl, _, hw⟩)))
    go_wp2
    go_ret
    exact ⟨rfl, bel_drewN (by go_grown) _⟩
  · by_cases h2 : k = 2
    · subst h2
      unfold actV
      go_enter Try.func37, Try.ntmps37
      go_wp2_with (go_at_call 58; refine (with_any _ _ _).mono ?_; rintro e w' ⟨rfl, rfl⟩)
      go_ret
      exact ⟨rfl, by go_grown⟩
    · by_cases h4 : k = 4
      · subst h4
        unfold actV
        go_enter Try.func37, Try.ntmps37
        go_wp2_with (go_at_call 58; refine (with_any _ _ _).mono ?_; rintro e w' ⟨rfl, rfl⟩)
        go_ret
        exact ⟨rfl, by go_grown⟩
      · have e : rdI k p f = 0 := by simp [rdI, h2, h3, h4]
        rw [e]
        unfold actV
        go_enter Try.func37, Try.ntmps37
        go_wp2
        go_ret
        exact ⟨rfl, by go_grown⟩

theorem kinds (k : Int) : k < 1 ∨ k = 1 ∨ k = 2 ∨ k = 3 ∨ k = 4 ∨ k = 5 ∨ k = 6 ∨ k = 7 ∨ 7 < k := by omega

set_option maxRecDepth 8000 in
set_option maxHeartbeats 400000 in
theorem writes_any (k p f n : Int) (w : World) :
    Calls Try.prog 38 #[actV k p f n] w fun e w' => e = .returned (.int .i64 (wrI k p)) ∧ Below w.heap.size w w' := by
  have hk := kinds k
  unfold actV
  by_cases h : k = 1 ∨ k = 2 ∨ k = 3 ∨ k = 4 ∨ k = 5 ∨ k = 6 ∨ k = 7
  · clear hk
    rcases h with rfl | rfl | rfl | rfl | rfl | rfl | rfl
    all_goals
      go_enter Try.func38, Try.ntmps38
      go_wp2_with (go_at_call 58; refine (with_any _ _ _).mono ?_; rintro e w' ⟨rfl, rfl⟩)
      go_ret
      exact ⟨rfl, by go_grown⟩
  · have h1 : ¬ k = 1 := by omega
    have h2 : ¬ k = 2 := by omega
    have h3 : ¬ k = 3 := by omega
    have h4 : ¬ k = 4 := by omega
    have h5 : ¬ k = 5 := by omega
    have h7 : ¬ k = 7 := by omega
    have e : wrI k p = 0 := by simp [wrI, h1, h2, h3, h4, h5, h7]
    rw [e]
    clear h hk e
    go_enter Try.func38, Try.ntmps38
    go_wp2
    go_ret
    exact ⟨rfl, by go_grown⟩

set_option maxRecDepth 8000 in
set_option maxHeartbeats 400000 in
theorem moves_any (k p f n all : Int) (w : World) :
    Calls Try.prog 39 #[actV k p f n, .int .i64 all] w fun e w' => e = .returned (.bool (mvB k p all)) ∧ Below w.heap.size w w' := by
  unfold actV
  by_cases h : k = 1 ∨ k = 2 ∨ k = 5
  · rcases h with rfl | rfl | rfl
    all_goals
      go_enter Try.func39, Try.ntmps39
      go_wp2_with (go_at_call 60; refine (has_any _ _ _).mono ?_; rintro e w' ⟨rfl, rfl⟩)
      go_ret
      exact ⟨by simp [mvB], by go_grown⟩
  · have h1 : ¬ k = 1 := by omega
    have h2 : ¬ k = 2 := by omega
    have h5 : ¬ k = 5 := by omega
    have e : mvB k p all = false := by simp [mvB, h1, h2, h5]
    rw [e]
    clear h e
    go_enter Try.func39, Try.ntmps39
    go_wp2
    go_ret
    exact ⟨rfl, by go_grown⟩

set_option maxRecDepth 8000 in
set_option maxHeartbeats 400000 in
theorem after_any (k p f n r : Int) (w : World) :
    Calls Try.prog 35 #[actV k p f n, .int .i64 r] w fun e w' => e = .returned (.int .i64 (afI k p r)) ∧ Below w.heap.size w w' := by
  unfold actV
  by_cases h : k = 1 ∨ k = 2 ∨ k = 5
  · rcases h with rfl | rfl | rfl
    all_goals
      go_enter Try.func35, Try.ntmps35
      go_wp2_with (first
        | (go_at_call 58; refine (with_any _ _ _).mono ?_; rintro e w' ⟨rfl, rfl⟩)
        | (go_at_call 59; refine (without_any _ _ _).mono ?_; rintro e w' ⟨rfl, rfl⟩))
      go_ret
      exact ⟨by simp [afI], by go_grown⟩
  · have h1 : ¬ k = 1 := by omega
    have h2 : ¬ k = 2 := by omega
    have h5 : ¬ k = 5 := by omega
    have e : afI k p r = r := by simp [afI, h1, h2, h5]
    rw [e]
    clear h e
    go_enter Try.func35, Try.ntmps35
    go_wp2
    go_ret
    exact ⟨rfl, by go_grown⟩

set_option maxRecDepth 8000 in
set_option maxHeartbeats 400000 in
theorem range_any (k p f n : Int) (w : World) :
    Calls Try.prog 57 #[actV k p f n] w fun e w' => e = .returned (.bool (rgB k p f n)) ∧ Below w.heap.size w w' := by
  unfold actV
  by_cases h : k = 1 ∨ k = 2 ∨ k = 3 ∨ k = 4 ∨ k = 5 ∨ k = 7
  · rcases h with rfl | rfl | rfl | rfl | rfl | rfl
    all_goals
      cases hp : partB p
      all_goals
        cases hs : setB p
        all_goals
          go_enter Try.func57, Try.ntmps57
          go_wp2_with (first
            | (go_at_call 80; refine (part_any _ _).mono ?_; rintro e w' ⟨rfl, rfl⟩)
            | (go_at_call 33; refine (set_any _ _).mono ?_; rintro e w' ⟨rfl, rfl⟩)
            | (go_at_call 81; refine (value_any _ _).mono ?_; rintro e w' ⟨rfl, rfl⟩))
          go_ret
          exact ⟨by simp [rgB, hp, hs], by go_grown⟩
  · have h1 : ¬ k = 1 := by omega
    have h2 : ¬ k = 2 := by omega
    have h3 : ¬ k = 3 := by omega
    have h4 : ¬ k = 4 := by omega
    have h5 : ¬ k = 5 := by omega
    have h7 : ¬ k = 7 := by omega
    have e : rgB k p f n = true := by simp [rgB, h1, h2, h3, h4, h5, h7]
    rw [e]
    clear h e
    go_enter Try.func57, Try.ntmps57
    go_wp2
    go_ret
    exact ⟨rfl, by go_grown⟩

set_option maxRecDepth 8000 in
set_option maxHeartbeats 400000 in
theorem wrongAct_any (k p f n r : Int) (w : World) :
    Calls Try.prog 34 #[actV k p f n, .int .i64 r] w fun e w' => e = .returned (.int .i64 (waI k p f n r)) ∧ Below w.heap.size w w' := by
  by_cases hlo : k < 1
  · have e : waI k p f n r = 1 := by simp [waI, hlo]
    rw [e]
    clear e
    unfold actV
    go_enter Try.func34, Try.ntmps34
    go_wp2
    go_ret
    exact ⟨rfl, by go_grown⟩
  · by_cases hhi : 7 < k
    · have e : waI k p f n r = 1 := by simp [waI, hhi]
      rw [e]
      clear e
      unfold actV
      go_enter Try.func34, Try.ntmps34
      go_wp2
      go_ret
      exact ⟨rfl, by go_grown⟩
    · have e : waI k p f n r = if rgB k p f n = false then 3 else if inB (rdI k p f) r = false then 7 else 0 := by
        unfold waI; rw [if_neg (by omega)]
      rw [e]
      clear e
      have HR := range_any k p f n
      have HD := reads_any k p f n
      unfold actV at HR HD ⊢
      cases hr : rgB k p f n
      · rw [hr] at HR
        have HR := hide HR
        go_enter Try.func34, Try.ntmps34
        go_wp2_with (first
          | (go_at_call 57; refine (unhide HR _).mono ?_; rintro e w1 ⟨rfl, hb⟩))
        go_ret
        exact ⟨rfl, Below.trans (by go_grown) (hb.mono (by simp))⟩
      · rw [hr] at HR
        have HR := hide HR
        have HD := hide HD
        generalize rdI k p f = d at *
        cases hi : inB d r
        all_goals
          go_enter Try.func34, Try.ntmps34
          go_wp2_with (first
            | (go_at_call 57; refine (unhide HR _).mono ?_; rintro e w1 ⟨rfl, hb⟩; have c0 := keep_below hb (p := ⟨w.heap.size, 0, none⟩) (v := .int .i64 k) (by simp); have c1 := keep_below hb (p := ⟨w.heap.size, 1, none⟩) (v := .int .i64 p) (by simp); have c2 := keep_below hb (p := ⟨w.heap.size, 2, none⟩) (v := .int .i64 f) (by simp); have c3 := keep_below hb (p := ⟨w.heap.size, 3, none⟩) (v := .int .i64 n) (by simp))
            | (go_at_call 37; refine (unhide HD _).mono ?_; rintro e w2 ⟨rfl, hb2⟩)
            | (go_at_call 56; refine (within_any _ _ _).mono ?_; rintro e w3 ⟨rfl, hw⟩; obtain rfl := hw.symm))
          go_ret
          have B1 : Below w.heap.size w w1 := Below.trans (by go_grown) (hb.mono (by simp))
          exact ⟨rfl, B1.trans (hb2.mono B1.size)⟩
end Go.Proofs.Ytnbleebilmghcab
