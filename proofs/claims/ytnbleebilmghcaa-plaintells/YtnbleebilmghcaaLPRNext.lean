/- The document's Next. -/
import Derived.Test.YtnbleebilmghcaaLPMatch
set_option linter.unusedVariables false
set_option linter.unusedSimpArgs false
set_option linter.unnecessarySimpa false
namespace Go.Proofs.Ytnbleebilmghcaa
open Go Go.RowKit
attribute [local go_sem ↓] Go.wp_at_zero Go.wp_at_succ

set_option maxRecDepth 8000 in
set_option maxHeartbeats 4000000 in
theorem rnext_any (A : Option Addr) (cap : Nat) (G : Option Addr) (gcap : Nat) (X : Wd) (w : World) (hn : X.rows.length ≤ 140737488355328) (hgn : X.gens.length ≤ 140737488355328) (hgv : ∀ j, j < X.gens.length → -9223372036854775808 ≤ X.gens.getD j 0) (hX : WldAt w A cap G gcap X) :
    Calls Try.prog 39 #[wldV A cap G gcap X] w fun e w' => e = .returned (.tuple #[beingV (nextF X).1.1 (nextF X).1.2, .int .i64 (nextF X).2]) ∧ Below w.heap.size w w' := by
  obtain ⟨W1, hW1⟩ : ∃ W, W = w.alloc (.cells #[.slice A X.rows.length cap, .slice G X.gens.length gcap] 38) := ⟨_, rfl⟩
  have z1 : W1.heap.size = w.heap.size + 1 := by rw [hW1]; simp
  have b1 : Below w.heap.size w W1 := by rw [hW1]; go_grown
  obtain ⟨y0, y1, yf, yb⟩ := new_box (W := W1) (u0 := .int .i64 0) (u1 := .int .i64 0) (t := 40) z1
  have hAB : AB w (w.heap.size + 1) (.int .i64 0) (.int .i64 0) (W1.alloc (.cells #[.int .i64 0, .int .i64 0] 40)) := ⟨b1.trans (yb.mono b1.size), by omega, y0, y1, yf⟩
  have hN : NW1 w (.slice A X.rows.length cap) (.slice G X.gens.length gcap) (W1.alloc (.cells #[.int .i64 0, .int .i64 0] 40)) := (hW1 ▸ NW1.start w _ _ : NW1 w (.slice A X.rows.length cap) (.slice G X.gens.length gcap) W1).below yb
  rw [hW1] at hAB hN
  have HAB := hide hAB
  have HN := hide hN
  have HG := hide hX.gens
  have HR := hide hX.rows
  have HGV := hide hgv
  clear hAB hN hW1 z1 b1 y0 y1 yf yb hX hgv
  unfold wldV worldV beingV nextF at *
  go_enter Try.func39, Try.ntmps39
  go_wp2
  go_loopw [12] (fun i wr => ∃ j : Nat, j ≤ X.gens.length ∧ i = .int .i64 j ∧ nxTo X X.gens.length 0 = nxTo X (X.gens.length - j) j ∧ AB w (w.heap.size + 1) (.int .i64 0) (.int .i64 0) wr ∧ NW1 w (.slice A X.rows.length cap) (.slice G X.gens.length gcap) wr) (fun i _ => X.gens.length - (intOf i).toNat)
  case atStart => exact ⟨0, Nat.zero_le _, rfl, rfl, unhide HAB, unhide HN⟩
  case round =>
    clear HAB HN
    obtain ⟨j, hj, rfl, hF, hA5, hN5⟩ := hrel
    have HF := hide hF
    clear hF
    by_cases hlt : j < X.gens.length
    · have j0 : (0 : Int) ≤ (j : Int) := by omega
      have j1 : (j : Int) < (X.gens.length : Int) := by omega
      obtain ⟨b, off, hGe, hg⟩ := (unhide HG) j hlt
      have hg : wr.cell? ⟨b, off + j, none⟩ = some (.int .i64 (X.gens.getD j 0)) := keep_below hN5.bel hg
      have hgv := unhide HGV j hlt
      have r0 := hN5.r0
      have HS := hide (nxTo_step X X.gens.length j hlt)
      have HA5 := hide hA5
      have HN5 := hide hN5
      subst hGe
      clear HG HGV hA5 hN5
      generalize X.gens.getD j 0 = gj at *
      obtain ⟨fr, hfr⟩ : ∃ fr, fr = decide (gj < 1000) := ⟨_, rfl⟩
      have HFR := hide hfr
      go_wp2
      clear hg r0
      go_loopw [6, 22] (fun t i wr => ∃ k : Nat, k ≤ X.rows.length ∧ i = .int .i64 k ∧ t = .bool (decide (gj < 1000) && !(usedB X.rows k j)) ∧ AB w (w.heap.size + 1) (.int .i64 0) (.int .i64 0) wr ∧ NW1 w (.slice A X.rows.length cap) (.slice (some ⟨b, off, none⟩) X.gens.length gcap) wr) (fun _ i _ => X.rows.length - (intOf i).toNat)
      case atStart => exact ⟨0, Nat.zero_le _, rfl, by simp [usedB], unhide HA5, unhide HN5⟩
      case round =>
        clear HA5 HN5
        obtain ⟨k, hk, rfl, rfl, hA6, hN6⟩ := hrel
        by_cases hkl : k < X.rows.length
        · have k0 : (0 : Int) ≤ (k : Int) := by omega
          have k1 : (k : Int) < (X.rows.length : Int) := by omega
          obtain ⟨b2, o2, hA, hrow⟩ := (unhide HR) k hkl
          have hrow : RowAt wr b2 (o2 + k * 11) (X.rows.getD k dR) := hrow.below hN6.bel
          have c0 := hrow.c0
          have c1 := hrow.c1
          have c2 := hrow.c2
          have c3 := hrow.v 0 (by omega)
          have c4 := hrow.v 1 (by omega)
          have c5 := hrow.v 2 (by omega)
          have c6 := hrow.v 3 (by omega)
          have c7 := hrow.v 4 (by omega)
          have c8 := hrow.v 5 (by omega)
          have c9 := hrow.v 6 (by omega)
          have c10 := hrow.v 7 (by omega)
          simp only [Nat.add_assoc, Nat.reduceAdd] at c3 c4 c5 c6 c7 c8 c9 c10
          simp only [← Nat.add_assoc] at c3 c4 c5 c6 c7 c8 c9 c10
          have HUS := hide (usedB_succ X.rows k j hkl)
          have HA6 := hide hA6
          have HN6 := hide hN6
          subst hA
          clear hrow hA6 hN6 HR HF HS HFR hfr
          generalize X.rows.getD k dR = x at *
          obtain ⟨ix, gen, has, v⟩ := x
          dsimp only at *
          generalize usedB X.rows k j = ub at *
          generalize decide (gj < 1000) = de at *
          have hc : (de && !ub) = false ∨ ((de = true ∧ ub = false) ∧ (ix = (j : Int) ∨ ix ≠ (j : Int))) := by
            cases de <;> cases ub <;> simp
            exact Decidable.em _
          rcases hc with h1 | ⟨⟨rfl, rfl⟩, rfl | h1⟩
          · rw [h1]
            go_wp2
            go_roundw
            case rel => exact ⟨k + 1, by omega, by go_num, by rw [unhide HUS]; cases de <;> cases ub <;> simp_all, (unhide HA6).below (bel1 _ _), (unhide HN6).below (bel1 _ _)⟩
            case measure => simp [intOf]; omega
          · go_wp2
            go_roundw
            case rel => exact ⟨k + 1, by omega, by go_num, by rw [unhide HUS]; simp, (unhide HA6).below (bel1 _ _), (unhide HN6).below (bel1 _ _)⟩
            case measure => simp [intOf]; omega
          · have h2 : (ix == (j : Int)) = false := by simpa using h1
            go_wp2
            go_roundw
            case rel => exact ⟨k + 1, by omega, by go_num, by rw [unhide HUS]; simp [bne], (unhide HA6).below (bel1 _ _), (unhide HN6).below (bel1 _ _)⟩
            case measure => simp [intOf]; omega
        · obtain rfl : k = X.rows.length := by omega
          have HA6 := hide hA6
          have HN6 := hide hN6
          clear hA6 hN6 HR
          generalize usedB X.rows X.rows.length j = ub at *
          by_cases hg1 : gj < 1000
          · cases ub
            · have e : (decide (gj < 1000) && !false) = true := by simp [hg1]
              rw [e]
              go_wp2_with (first
                | (refine wpList_putN rfl 40 (.tmp 2) (.tmp 39) rfl (w.heap.size + 1) 0 [.int .i64 (j : Int), .int .i64 (gj + 1)] rfl rfl (by simp [Value.oneCell']) size40 (unhide HA6).there ?_; intro W3 hW3; have hA7 := (unhide HA6).give (.int .i64 (j : Int)) (.int .i64 (gj + 1)); rw [← hW3] at hA7; have HA7 := hide hA7; clear hW3 hA7))
              have t0 := (unhide HA7).t0
              have t1 := (unhide HA7).t1
              have hv := (unhide HF).trans ((unhide HS).trans (if_pos (by simpa using hg1)))
              refine bodyPost_ret (v := .tuple #[.agg #[.int .i64 (j : Int), .int .i64 (gj + 1)], .int .i64 0]) (by simp [results, Try.results39, go_sem, t0, t1]) rfl ⟨by rw [hv], (unhide HA7).bel⟩
            · have e : (decide (gj < 1000) && !true) = false := by simp
              rw [e]
              go_wp2
              go_roundw
              case rel => exact ⟨j + 1, by omega, by go_num, (unhide HF).trans ((unhide HS).trans (by simp)), unhide HA6, unhide HN6⟩
              case measure => simp [intOf]; omega
          · have e : (decide (gj < 1000) && !ub) = false := by simp [hg1]
            rw [e]
            go_wp2
            go_roundw
            case rel => exact ⟨j + 1, by omega, by go_num, (unhide HF).trans ((unhide HS).trans (if_neg (fun h => hg1 h.2))), unhide HA6, unhide HN6⟩
            case measure => simp [intOf]; omega
    · obtain rfl : j = X.gens.length := by omega
      have hv0 : nxTo X X.gens.length 0 = if 60 ≤ X.gens.length then ((0, 0), 4) else ((((X.gens.length : Nat) : Int), 1), 0) := by rw [unhide HF, Nat.sub_self]; rfl
      have HV := hide hv0
      have r1 := hN5.r1
      have HA5 := hide hA5
      clear HG HGV HR HF hv0 hA5 hN5
      by_cases h60 : 60 ≤ X.gens.length
      · have h60' : (60 : Int) ≤ (X.gens.length : Int) := by omega
        go_wp2_with (first
          | (refine wpList_putN rfl 40 (.tmp 2) (.tmp 45) rfl (w.heap.size + 1) 0 [.int .i64 0, .int .i64 0] rfl rfl (by simp [Value.oneCell']) size40 (unhide HA5).there ?_; intro W3 hW3; have hA6 := (unhide HA5).give (.int .i64 0) (.int .i64 0); rw [← hW3] at hA6; have HA6 := hide hA6; clear hW3 hA6))
        have t0 := (unhide HA6).t0
        have t1 := (unhide HA6).t1
        have hv := (unhide HV).trans (if_pos h60)
        refine bodyPost_ret (v := .tuple #[.agg #[.int .i64 0, .int .i64 0], .int .i64 4]) (by simp [results, Try.results39, go_sem, t0, t1]) rfl ⟨by rw [hv], (unhide HA6).bel⟩
      · have h60' : ¬ (60 : Int) ≤ (X.gens.length : Int) := by omega
        go_wp2_with (first
          | (refine wpList_putN rfl 40 (.tmp 2) (.tmp 49) rfl (w.heap.size + 1) 0 [.int .i64 (X.gens.length : Int), .int .i64 1] rfl rfl (by simp [Value.oneCell']) size40 (unhide HA5).there ?_; intro W3 hW3; have hA6 := (unhide HA5).give (.int .i64 (X.gens.length : Int)) (.int .i64 1); rw [← hW3] at hA6; have HA6 := hide hA6; clear hW3 hA6))
        have t0 := (unhide HA6).t0
        have t1 := (unhide HA6).t1
        have hv := (unhide HV).trans (if_neg h60)
        refine bodyPost_ret (v := .tuple #[.agg #[.int .i64 (X.gens.length : Int), .int .i64 1], .int .i64 0]) (by simp [results, Try.results39, go_sem, t0, t1]) rfl ⟨by rw [hv], (unhide HA6).bel⟩
end Go.Proofs.Ytnbleebilmghcaa
