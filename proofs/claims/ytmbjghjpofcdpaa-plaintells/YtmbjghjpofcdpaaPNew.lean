/- The statement PlainNew's function. -/
import Derived.Test.YtmbjghjpofcdpaaPAlive
set_option linter.unusedVariables false
set_option linter.unusedSimpArgs false
set_option linter.unnecessarySimpa false
namespace Go.Proofs.Ytmbjghjpofcdpaa
open Go Go.RowKit
attribute [local go_sem ↓] Go.wp_at_zero Go.wp_at_succ

theorem row_none {X : Wd} {i g : Int} (h : findW X i g = -1) (hl : X.rows.length ≤ 60) (A : Option Addr) (c : Nat) (G : Option Addr) (gc : Nat) (W : World) (hX : WldAt W A c G gc X) :
    Calls Try.prog 49 #[.agg #[.slice A X.rows.length c, .slice G X.gens.length gc], .agg #[.int .i64 i, .int .i64 g]] W fun e w' => e = .returned (.pointer none) ∧ Below W.heap.size W w' := by
  refine (row_any A X.rows.length c G X.gens.length gc (fun j => X.rows.getD j dR) i g W (by omega) hX.rows).mono fun e w' ⟨⟨p, he, hp⟩, hb⟩ => ⟨?_, hb⟩
  have hf : fIx (fun j => X.rows.getD j dR) i g X.rows.length 0 = -1 := h
  rcases hp with ⟨_, rfl⟩ | ⟨k, b, off, _, e2, _⟩
  · exact he
  · omega
theorem row_some {X : Wd} {i g : Int} {k : Nat} (h : findW X i g = (k : Int)) (hl : X.rows.length ≤ 60) (A : Option Addr) (c : Nat) (G : Option Addr) (gc : Nat) (W : World) (hX : WldAt W A c G gc X) :
    Calls Try.prog 49 #[.agg #[.slice A X.rows.length c, .slice G X.gens.length gc], .agg #[.int .i64 i, .int .i64 g]] W fun e w' => ∃ b o, e = .returned (.pointer (some ⟨b, o, none⟩)) ∧ RowAt w' b o (rowOf X k) ∧ Below W.heap.size W w' := by
  refine (row_any A X.rows.length c G X.gens.length gc (fun j => X.rows.getD j dR) i g W (by omega) hX.rows).mono fun e w' ⟨⟨p, he, hp⟩, hb⟩ => ?_
  have hf : fIx (fun j => X.rows.getD j dR) i g X.rows.length 0 = (k : Int) := h
  rcases hp with ⟨e1, rfl⟩ | ⟨k', b, off, hk, e2, hA, rfl⟩
  · omega
  · have : k' = k := by omega
    subst this
    obtain ⟨b', off', hA', hr⟩ := hX.rows k' hk
    rw [hA] at hA'
    injection hA' with hA'
    injection hA' with h1 h2
    subst h1 h2
    exact ⟨b, _, he, hr.below hb, hb⟩

theorem eq40 (i g i2 g2 : Int) (w : World) : (Op.equalIn 10000 40 (.agg #[.int .i64 i, .int .i64 g]) (.agg #[.int .i64 i2, .int .i64 g2])).run Try.prog w = .ok (i == i2 && g == g2) w := by
  have hS : Try.prog.underlying 40 = some (.struct (Try.prog.fieldsOf 40)) := by kernel_rfl
  rw [show (10000 : Nat) = 9999 + 1 from rfl, run_equalIn_agg w 9999 40 _ _ hS (by kernel_rfl)]
  simp only [Program.fieldsOf, Try.underlying40]
  by_cases h1 : i = i2 <;> by_cases h2 : g = g2
  all_goals go_simp
theorem neq40 (i g i2 g2 : Int) (w : World) : (binOp .neq 40 (.agg #[.int .i64 i, .int .i64 g]) (.agg #[.int .i64 i2, .int .i64 g2])).run Try.prog w = .ok (.bool (!(i == i2 && g == g2))) w := by
  rw [run_neq_struct, eq40]; rfl
theorem neq40_ne {i g i2 g2 : Int} (h : ¬ (i = i2 ∧ g = g2)) (w : World) : (binOp .neq 40 (.agg #[.int .i64 i, .int .i64 g]) (.agg #[.int .i64 i2, .int .i64 g2])).run Try.prog w = .ok (.bool true) w := by
  rw [neq40]
  have : (i == i2 && g == g2) = false := by
    rw [Bool.eq_false_iff]
    intro e
    exact h (by simpa using e)
  rw [this]; rfl

set_option maxRecDepth 8000 in
set_option maxHeartbeats 2000000 in
theorem new_no (A : Option Addr) (cap : Nat) (G : Option Addr) (gcap : Nat) (X : Wd) (has n : Int) (w : World) (hn0 : X.rows.length ≤ 9223372036854775807) (hX : WldAt w A cap G gcap X) (h0 : (spawnF X has n).1 ≠ 0) :
    Calls Try.prog 7 #[wldV A cap G gcap X, .int .i64 has, .int .i64 n] w fun e w' => e = .returned (.bool true) ∧ Below w.heap.size w w' := by
  have hS : ∀ W, WldAt W A cap G gcap X → Calls Try.prog 40 #[.agg #[.slice A X.rows.length cap, .slice G X.gens.length gcap], .int .i64 has, .int .i64 n] W fun e w' => ∃ A' m c' G' gm gc' i g, e = .returned (.tuple #[.agg #[.slice A' m c', .slice G' gm gc'], .agg #[.int .i64 i, .int .i64 g], .int .i64 (spawnF X has n).1]) ∧ Below W.heap.size W w' := fun W h =>
    (spawn_any A cap G gcap X has n W hn0 h).mono fun e w' ⟨A', c', G', gc', he, _, hb⟩ => ⟨A', _, c', G', _, gc', _, _, he, hb⟩
  have HAL := hide alive2_any
  have HX := hide hX
  generalize (spawnF X has n).1 = err at *
  have HS := hide hS
  clear hS hX
  unfold wldV worldV
  go_enter Try.func7, Try.ntmps7
  go_wp2_with (first
    | (go_at_call 53; refine (unhide HAL _).mono ?_; rintro e w1 ⟨rfl, hb1⟩; obtain ⟨p0, p1⟩ := box_one _ _ _ _ hb1; have HB1 := hide (below_one _ _ hb1); clear hb1)
    | (go_at_call 40; refine (unhide HS _ ((unhide HX).below (unhide HB1))).mono ?_; rintro e w2 ⟨A2, m2, c2, G2, gm2, gc2, i2, g2, rfl, hb2⟩; have HB2 := hide ((unhide HB1).trans (hb2.mono (unhide HB1).size)); clear hb2))
  go_ret
  exact ⟨rfl, (unhide HB2).trans ((bel2 _ _ _).mono (unhide HB2).size)⟩

set_option maxRecDepth 8000 in
set_option maxHeartbeats 4000000 in
theorem new_yes (A : Option Addr) (cap : Nat) (G : Option Addr) (gcap : Nat) (X : Wd) (has n : Int) (w : World) (hn0 : X.rows.length ≤ 9223372036854775807) (hX : WldAt w A cap G gcap X) (h0 : (spawnF X has n).1 = 0) :
    Calls Try.prog 7 #[wldV A cap G gcap X, .int .i64 has, .int .i64 n] w fun e w' => e = .returned (.bool true) ∧ Below w.heap.size w w' := by
  obtain ⟨i, g, eb, hr, hr1, hf0, ⟨j1, hj1, hf1⟩, hlen, hk0, hr2, hZ⟩ := new_facts h0
  have hS := fun W (h : WldAt W A cap G gcap X) => spawn_any A cap G gcap X has n W hn0 h
  rw [h0, eb] at hS
  generalize (spawnF X has n).2.2 = X1 at *
  have hl0 := (right_hr ((right_iff X).2 hr)).1
  have hl1 := (right_hr ((right_iff X1).2 hr1)).1
  have hK := fun W A c G gc (h : WldAt W A c G gc X1) => kill_any A c G gc X1 i g W (by omega) h
  rw [hk0] at hK
  generalize (killF X1 i g).2 = X2 at *
  have hl2 := (right_hr ((right_iff X2).2 hr2)).1
  have hS2 := fun W A c G gc (h : WldAt W A c G gc X2) => spawn_any A c G gc X2 has n W (by omega) h
  have hR0 := fun W (h : WldAt W A cap G gcap X) => row_none hf0 hl0 A cap G gcap W h
  have hR1 := fun W A c G gc (h : WldAt W A c G gc X1) => row_some hf1 hl1 A c G gc W h
  obtain ⟨v, hv⟩ : ∃ v, v = (spawnF X2 has n).1 := ⟨_, rfl⟩
  obtain ⟨⟨i2, g2⟩, hb2⟩ : ∃ b, b = (spawnF X2 has n).2.1 := ⟨_, rfl⟩
  have hR2 := fun (hv0 : v = 0) W A c G gc h => row_none (hZ (hv ▸ hv0)).2.1 (right_hr ((right_iff _).2 (hZ (hv ▸ hv0)).2.2)).1 A c G gc W h
  have hne : v = 0 → ¬ (i = i2 ∧ g = g2) := fun hv0 e => (hZ (hv ▸ hv0)).1 (by rw [← hb2, e.1, e.2])
  rw [← hv, ← hb2] at hS2
  clear hZ
  generalize (spawnF X2 has n).2.2 = X3 at *
  unfold wldV worldV beingV at *
  clear hv hb2 eb h0 hr hr1 hr2 hk0 hf0 hf1 hj1
  rw [hlen] at *
  have HAL := hide alive2_any
  have HX := hide hX
  have HS := hide hS
  have HK := hide hK
  have HS2 := hide hS2
  have HR0 := hide hR0
  have HR1 := hide hR1
  have HR2 := hide hR2
  have HNE := hide hne
  clear hS hX hK hS2 hR0 hR1 hR2 hne hn0 hlen
  rcases Decidable.em (v = 0) with hv0 | hv0
  · have hq := neq40_ne (unhide HNE hv0)
    clear HNE
    go_enter Try.func7, Try.ntmps7
    go_wp2_with (first
      | (go_at_call 53; refine (unhide HAL _).mono ?_; rintro e w1 ⟨rfl, hb1⟩; obtain ⟨p0, p1⟩ := box_one _ _ _ _ hb1; have HB1 := hide (below_one _ _ hb1); clear hb1)
      | (go_at_call 40; refine (unhide HS _ ((unhide HX).below (unhide HB1))).mono ?_; rintro e w2 ⟨A2, c2, G2, gc2, rfl, hX1, hb2⟩; replace p0 := keep_below hb2 p0; replace p1 := keep_below hb2 p1; have HX1 := hide hX1.toWldAt; have HB2 := hide ((unhide HB1).trans (hb2.mono (unhide HB1).size)); have l0 := World.block_lt_of_cell? w2 _ p0; clear hb2 hX1 HS HB1)
      | (go_at_call 49; refine (unhide HR0 _ (((unhide HX).below (unhide HB2)).below (bel2 _ _ _))).mono ?_; rintro e w3 ⟨rfl, hb3⟩; obtain ⟨q0, q1, q2, q3⟩ := box_two _ _ _ _ _ _ _ hb3; replace hb3 := below_two _ _ _ hb3; replace p0 := keep_below hb3 p0; replace p1 := keep_below hb3 p1; have HX3 := hide ((unhide HX1).below hb3); have HB3 := hide ((unhide HB2).trans (hb3.mono (unhide HB2).size)); clear hb3 HB2 HX1 HR0 l0)
      | (go_at_call 49; refine (unhide HR1 _ _ _ _ _ (unhide HX3)).mono ?_; rintro e w4 ⟨b4, o4, rfl, _, hb4⟩; replace q0 := keep_below hb4 q0; replace q1 := keep_below hb4 q1; replace q2 := keep_below hb4 q2; replace q3 := keep_below hb4 q3; replace p0 := keep_below hb4 p0; replace p1 := keep_below hb4 p1; have HX4 := hide ((unhide HX3).below hb4); have HB4 := hide ((unhide HB3).trans (hb4.mono (unhide HB3).size)); clear hb4 HB3 HX3 HR1)
      | (go_at_call 42; refine (unhide HK _ _ _ _ _ (unhide HX4)).mono ?_; rintro e w5 ⟨A5, c5, G5, gc5, rfl, hX5, hb5⟩; replace q2 := keep_below hb5 q2; replace q3 := keep_below hb5 q3; have l2 := World.block_lt_of_cell? w5 _ q2; have HX5 := hide hX5.toWldAt; have HB5 := hide ((unhide HB4).trans (hb5.mono (unhide HB4).size)); clear hb5 HB4 HX4 HK hX5)
      | (go_at_call 40; refine (unhide HS2 _ _ _ _ _ ((unhide HX5).below (bel1 _ _))).mono ?_; rintro e w6 ⟨A6, c6, G6, gc6, rfl, hX6, hb6⟩; replace hb6 := below_one _ _ hb6; replace q2 := keep_below hb6 q2; replace q3 := keep_below hb6 q3; have l3 := World.block_lt_of_cell? w6 _ q2; have l4 := Nat.lt_of_succ_lt l3; have HX6 := hide hX6.toWldAt; have HB6 := hide ((unhide HB5).trans (hb6.mono (unhide HB5).size)); clear hb6 HB5 HX5 HS2 hX6)
      | (go_at_call 49; refine (unhide HR2 hv0 _ _ _ _ _ ((unhide HX6).below (bel2 _ _ _))).mono ?_; rintro e w7 ⟨rfl, hb7⟩; have HB7 := hide ((unhide HB6).trans ((below_two _ _ _ hb7).mono (unhide HB6).size)); clear hb7))
    go_ret
    exact ⟨rfl, unhide HB7⟩
  · clear HNE HR2
    go_enter Try.func7, Try.ntmps7
    go_wp2_with (first
      | (go_at_call 53; refine (unhide HAL _).mono ?_; rintro e w1 ⟨rfl, hb1⟩; obtain ⟨p0, p1⟩ := box_one _ _ _ _ hb1; have HB1 := hide (below_one _ _ hb1); clear hb1)
      | (go_at_call 40; refine (unhide HS _ ((unhide HX).below (unhide HB1))).mono ?_; rintro e w2 ⟨A2, c2, G2, gc2, rfl, hX1, hb2⟩; replace p0 := keep_below hb2 p0; replace p1 := keep_below hb2 p1; have HX1 := hide hX1.toWldAt; have HB2 := hide ((unhide HB1).trans (hb2.mono (unhide HB1).size)); have l0 := World.block_lt_of_cell? w2 _ p0; clear hb2 hX1 HS HB1)
      | (go_at_call 49; refine (unhide HR0 _ (((unhide HX).below (unhide HB2)).below (bel2 _ _ _))).mono ?_; rintro e w3 ⟨rfl, hb3⟩; obtain ⟨q0, q1, q2, q3⟩ := box_two _ _ _ _ _ _ _ hb3; replace hb3 := below_two _ _ _ hb3; replace p0 := keep_below hb3 p0; replace p1 := keep_below hb3 p1; have HX3 := hide ((unhide HX1).below hb3); have HB3 := hide ((unhide HB2).trans (hb3.mono (unhide HB2).size)); clear hb3 HB2 HX1 HR0 l0)
      | (go_at_call 49; refine (unhide HR1 _ _ _ _ _ (unhide HX3)).mono ?_; rintro e w4 ⟨b4, o4, rfl, _, hb4⟩; replace q0 := keep_below hb4 q0; replace q1 := keep_below hb4 q1; replace q2 := keep_below hb4 q2; replace q3 := keep_below hb4 q3; replace p0 := keep_below hb4 p0; replace p1 := keep_below hb4 p1; have HX4 := hide ((unhide HX3).below hb4); have HB4 := hide ((unhide HB3).trans (hb4.mono (unhide HB3).size)); clear hb4 HB3 HX3 HR1)
      | (go_at_call 42; refine (unhide HK _ _ _ _ _ (unhide HX4)).mono ?_; rintro e w5 ⟨A5, c5, G5, gc5, rfl, hX5, hb5⟩; replace q2 := keep_below hb5 q2; replace q3 := keep_below hb5 q3; have l2 := World.block_lt_of_cell? w5 _ q2; have HX5 := hide hX5.toWldAt; have HB5 := hide ((unhide HB4).trans (hb5.mono (unhide HB4).size)); clear hb5 HB4 HX4 HK hX5)
      | (go_at_call 40; refine (unhide HS2 _ _ _ _ _ ((unhide HX5).below (bel1 _ _))).mono ?_; rintro e w6 ⟨A6, c6, G6, gc6, rfl, hX6, hb6⟩; replace hb6 := below_one _ _ hb6; replace q2 := keep_below hb6 q2; replace q3 := keep_below hb6 q3; have l3 := World.block_lt_of_cell? w6 _ q2; have l4 := Nat.lt_of_succ_lt l3; have HX6 := hide hX6.toWldAt; have HB6 := hide ((unhide HB5).trans (hb6.mono (unhide HB5).size)); clear hb6 HB5 HX5 HS2 hX6))
    go_ret
    exact ⟨rfl, (unhide HB6).trans ((bel2 _ _ _).mono (unhide HB6).size)⟩
theorem new_any (A : Option Addr) (cap : Nat) (G : Option Addr) (gcap : Nat) (X : Wd) (has n : Int) (w : World) (hn0 : X.rows.length ≤ 9223372036854775807) (hgn0 : X.gens.length ≤ 9223372036854775807) (hX : WldAt w A cap G gcap X) :
    Calls Try.prog 7 #[wldV A cap G gcap X, .int .i64 has, .int .i64 n] w fun e w' => e = .returned (.bool true) ∧ Below w.heap.size w w' := by
  by_cases h0 : (spawnF X has n).1 = 0
  · exact new_yes A cap G gcap X has n w hn0 hX h0
  · exact new_no A cap G gcap X has n w hn0 hX h0
end Go.Proofs.Ytmbjghjpofcdpaa
