/- The document's WrongAct, of Add; and of all kinds together. -/
import Derived.Test.YtnbleebilmghcabBRAct
set_option linter.unusedVariables false
set_option linter.unusedSimpArgs false
set_option linter.unnecessarySimpa false
namespace Go.Proofs.Ytnbleebilmghcab
open Go.RowKit

set_option maxRecDepth 8000 in
set_option maxHeartbeats 2000000 in
/-- Add. -/
theorem rwrongAct_3 (p f n al no r : Int) (g : Nat → Bool) (w : World) (hg : GR al g r) :
    Calls Try.prog 78 #[.agg #[.int .i64 al, .int .i64 no], actV 3 p f n, gV g] w fun e w' => e = .returned (.int .i64 (waI 3 p f n r)) ∧ Below w.heap.size w w' := by
  have e : waI 3 p f n r = if rgB 3 p f n = false then 3 else if inB (rdI 3 p f) r = false then 7 else 0 := by
    unfold waI; rw [if_neg (by omega)]
  rw [e]
  clear e
  have hS : QW w al 3 p f n g _ := QW.start (no := no)
  have HS := hide hS
  clear hS
  unfold gV actV
  rcases part_or f with hf | hf | ⟨i, hi, rfl⟩
  · have e : (if rgB 3 p f n = false then (3 : Int) else if inB (rdI 3 p f) r = false then 7 else 0) = 3 := by
      have : partB f = false := decide_eq_false (by omega)
      simp [rgB, this]
    rw [e]
    clear e HS
    go_enter Try.func78, Try.ntmps78
    go_wp2
    go_ret
    exact ⟨rfl, by go_grown⟩
  · have e : (if rgB 3 p f n = false then (3 : Int) else if inB (rdI 3 p f) r = false then 7 else 0) = 3 := by
      have : partB f = false := decide_eq_false (by omega)
      simp [rgB, this]
    rw [e]
    clear e HS
    have hf0 : ¬ f < 0 := by omega
    go_enter Try.func78, Try.ntmps78
    go_wp2
    go_ret
    exact ⟨rfl, by go_grown⟩
  · have hf0 : ¬ (i : Int) < 0 := by omega
    have hf1 : ¬ 7 < (i : Int) := by omega
    have hi0 : (0 : Int) ≤ (i : Int) := by omega
    have hi1 : (i : Int) < 8 := by omega
    rcases part_or p with hp | hp | ⟨j, hj, rfl⟩
    · have e : (if rgB 3 p (i : Int) n = false then (3 : Int) else if inB (rdI 3 p (i : Int)) r = false then 7 else 0) = 3 := by
        have : partB p = false := decide_eq_false (by omega)
        simp [rgB, this]
      rw [e]
      clear e HS
      go_enter Try.func78, Try.ntmps78
      go_wp2
      go_ret
      exact ⟨rfl, by go_grown⟩
    · have e : (if rgB 3 p (i : Int) n = false then (3 : Int) else if inB (rdI 3 p (i : Int)) r = false then 7 else 0) = 3 := by
        have : partB p = false := decide_eq_false (by omega)
        simp [rgB, this]
      rw [e]
      clear e HS
      have hp0 : ¬ p < 0 := by omega
      go_enter Try.func78, Try.ntmps78
      go_wp2
      go_ret
      exact ⟨rfl, by go_grown⟩
    · have e : (if rgB 3 (j : Int) (i : Int) n = false then (3 : Int) else if inB (rdI 3 (j : Int) (i : Int)) r = false then 7 else 0) = if ((tb al i && !g i) && (tb al j && !g j)) = false then 7 else 0 := by
        rw [rd3 r i j hg.sr hi hj, hg.eq i hi, hg.eq j hj]; simp [rgB, partB_nat j hj, partB_nat i hi]
      rw [e]
      clear e
      have HI := hide (fun W => rhas_at al i W hg.sal hi)
      have HJ := hide (fun W => rhas_at al j W hg.sal hj)
      have HG := hide (fun W (h : QW w al 3 (j : Int) (i : Int) n g W) => h.g i hi)
      have HH := hide (fun W (h : QW w al 3 (j : Int) (i : Int) n g W) => h.g j hj)
      have hp0 : ¬ (j : Int) < 0 := by omega
      have hp1 : ¬ 7 < (j : Int) := by omega
      have hj0 : (0 : Int) ≤ (j : Int) := by omega
      have hj1 : (j : Int) < 8 := by omega
      clear hg
      generalize tb al i = ti at *
      generalize g i = gi at *
      generalize tb al j = tj at *
      generalize g j = gj at *
      have hc : ti = false ∨ (ti = true ∧ gi = true) ∨ (ti = true ∧ gi = false ∧ tj = false) ∨ (ti = true ∧ gi = false ∧ tj = true ∧ gj = true) ∨ (ti = true ∧ gi = false ∧ tj = true ∧ gj = false) := by
        cases ti <;> cases gi <;> cases tj <;> cases gj <;> simp
      rcases hc with rfl | ⟨rfl, rfl⟩ | ⟨rfl, rfl, rfl⟩ | ⟨rfl, rfl, rfl, rfl⟩ | ⟨rfl, rfl, rfl, rfl⟩
      all_goals
        go_enter Try.func78, Try.ntmps78
        go_wp2_with (first
          | (go_at_call 20; refine (unhide HI _).mono ?_; rintro e w1 ⟨rfl, hb1⟩; clear HI; have hS1 := (unhide HS).below hb1; have a0 := hS1.a0; have k1 := hS1.k1; have k2 := hS1.k2; have c1 := unhide HG _ hS1; have HS1 := hide hS1; clear hb1 hS1 HS)
          | (go_at_call 20; refine (unhide HJ _).mono ?_; rintro e w2 ⟨rfl, hb2⟩; clear HJ a0 k1 k2 c1; have hS2 := (unhide HS1).below hb2; have k1 := hS2.k1; have c1 := unhide HH _ hS2; have HS2 := hide hS2; clear hb2 hS2 HS1))
        go_ret
        first
        | exact ⟨by simp, (unhide HS2).bel⟩
        | exact ⟨by simp, (unhide HS1).bel⟩

/-- WHATEVER THE ACT. -/
theorem rwrongAct_any (k p f n al no r : Int) (g : Nat → Bool) (w : World) (hg : GR al g r) :
    Calls Try.prog 78 #[.agg #[.int .i64 al, .int .i64 no], actV k p f n, gV g] w fun e w' => e = .returned (.int .i64 (waI k p f n r)) ∧ Below w.heap.size w w' := by
  by_cases h : k = 2 ∨ k = 3 ∨ k = 4
  · rcases h with rfl | rfl | rfl
    · exact rwrongAct_2 p f n al no r g w hg
    · exact rwrongAct_3 p f n al no r g w hg
    · exact rwrongAct_4 p f n al no r g w hg
  · exact rwrongAct_plain k p f n al no r g w h
end Go.Proofs.Ytnbleebilmghcab
