/- The statement PlainPut's function. -/
import Derived.Test.YtnbleebilmghcaaLG
set_option linter.unusedVariables false
set_option linter.unusedSimpArgs false
set_option linter.unnecessarySimpa false
namespace Go.Proofs.Ytnbleebilmghcaa
open Go Go.RowKit
attribute [local go_sem ↓] Go.wp_at_zero Go.wp_at_succ

theorem same_w {X : Wd} (hl : X.rows.length ≤ 60) (hgl : X.gens.length ≤ 60) (W : World) (A : Option Addr) (c : Nat) (G : Option Addr) (gc : Nat) (A' : Option Addr) (c' : Nat) (G' : Option Addr) (gc' : Nat) (h : WldAt W A c G gc X) (h' : WldAt W A' c' G' gc' X) :
    Calls Try.prog 36 #[.agg #[.slice A X.rows.length c, .slice G X.gens.length gc], .agg #[.slice A' X.rows.length c', .slice G' X.gens.length gc']] W fun e w' => e = .returned (.bool true) ∧ Below W.heap.size W w' :=
  same_true A X.rows.length c G X.gens.length gc A' c' G' gc' (fun j => X.rows.getD j dR) (fun j => X.gens.getD j 0) W (by omega) (by omega) h.rows h'.rows h.gens h'.gens
theorem get_u (X : Wd) (hl : X.rows.length ≤ 60) (i g p : Int) (W : World) (A : Option Addr) (c : Nat) (G : Option Addr) (gc : Nat) (h : WldAt W A c G gc X) :
    Calls Try.prog 48 #[.agg #[.slice A X.rows.length c, .slice G X.gens.length gc], .agg #[.int .i64 i, .int .i64 g], .int .i64 p] W fun e w' => e = .returned (.tuple #[.int .i64 (getI (fun j => X.rows.getD j dR) X.rows.length i g p).1, .bool (getI (fun j => X.rows.getD j dR) X.rows.length i g p).2]) ∧ Below W.heap.size W w' :=
  get_any A X.rows.length c G X.gens.length gc (fun j => X.rows.getD j dR) i g p W (by omega) h.rows

set_option maxRecDepth 8000 in
set_option maxHeartbeats 2000000 in
theorem put_no (A : Option Addr) (cap : Nat) (G : Option Addr) (gcap : Nat) (X : Wd) (i g p n m : Int) (w : World) (hn0 : X.rows.length ≤ 9223372036854775807) (hX : WldAt w A cap G gcap X) (h0 : (putF X i g p n).1 ≠ 0) :
    Calls Try.prog 8 #[wldV A cap G gcap X, beingV i g, .int .i64 p, .int .i64 n, .int .i64 m] w fun e w' => e = .returned (.bool true) ∧ Below w.heap.size w w' := by
  have hS : ∀ W, WldAt W A cap G gcap X → Calls Try.prog 44 #[.agg #[.slice A X.rows.length cap, .slice G X.gens.length gcap], .agg #[.int .i64 i, .int .i64 g], .int .i64 p, .int .i64 n] W fun e w' => ∃ A' m c' G' gm gc', e = .returned (.tuple #[.agg #[.slice A' m c', .slice G' gm gc'], .int .i64 (putF X i g p n).1]) ∧ Below W.heap.size W w' := fun W h =>
    (put_any A cap G gcap X i g p n W hn0 h).mono fun e w' ⟨A', c', G', gc', he, _, hb⟩ => ⟨A', _, c', G', _, gc', he, hb⟩
  have HAL := hide alive2_any
  have HX := hide hX
  generalize (putF X i g p n).1 = err at *
  have HS := hide hS
  clear hS hX
  unfold wldV worldV beingV
  go_enter Try.func8, Try.ntmps8
  go_wp2_with (first
    | (go_at_call 53; refine (unhide HAL _).mono ?_; rintro e w1 ⟨rfl, hb1⟩; obtain ⟨p0, p1, p2, p3⟩ := box_two _ _ _ _ _ _ _ hb1; have HB1 := hide (below_two _ _ _ hb1); clear hb1)
    | (go_at_call 44; refine (unhide HS _ ((unhide HX).below (unhide HB1))).mono ?_; rintro e w2 ⟨A2, m2, c2, G2, gm2, gc2, rfl, hb2⟩; have HB2 := hide ((unhide HB1).trans (hb2.mono (unhide HB1).size)); clear hb2))
  go_ret
  exact ⟨rfl, (unhide HB2).trans ((bel1 _ _).mono (unhide HB2).size)⟩

set_option maxRecDepth 8000 in
set_option maxHeartbeats 8000000 in
theorem put_yes (A : Option Addr) (cap : Nat) (G : Option Addr) (gcap : Nat) (X : Wd) (i g p n m : Int) (w : World) (hn0 : X.rows.length ≤ 9223372036854775807) (hX : WldAt w A cap G gcap X) (h0 : (putF X i g p n).1 = 0) :
    Calls Try.prog 8 #[wldV A cap G gcap X, beingV i g, .int .i64 p, .int .i64 n, .int .i64 m] w fun e w' => e = .returned (.bool true) ∧ Below w.heap.size w w' := by
  obtain ⟨hr, hr1, hg1, hpp, hd0, hrd, hg2, hsm⟩ := put_facts m h0
  have hP1 := fun W (h : WldAt W A cap G gcap X) => put_any A cap G gcap X i g p n W hn0 h
  have hP3 := fun W (h : WldAt W A cap G gcap X) => put_any A cap G gcap X i g p m W hn0 h
  rw [h0] at hP1
  generalize (putF X i g p n).2 = X1 at *
  obtain ⟨hl, hgl, _⟩ := right_hr ((right_iff X).2 hr)
  have hl1 := (right_hr ((right_iff X1).2 hr1)).1
  have hP2 := fun W A c G gc (h : WldAt W A c G gc X1) => put_any A c G gc X1 i g p m W (by omega) h
  rw [hpp] at hP2
  have hG1 := get_u X1 hl1 i g p
  rw [hg1] at hG1
  have hDR := fun W A c G gc (h : WldAt W A c G gc X1) => drop_any A c G gc X1 i g p W (by omega) h
  rw [hd0] at hDR
  generalize (dropF X1 i g p).2 = X3 at *
  obtain ⟨hl3, hgl3, _⟩ := right_hr ((right_iff X3).2 hrd)
  have hG2' := get_u X3 hl3 i g p
  rw [hg2] at hG2'
  have hG2 : ∀ W A c G gc, WldAt W A c G gc X3 → Calls Try.prog 48 #[.agg #[.slice A X3.rows.length c, .slice G X3.gens.length gc], .agg #[.int .i64 i, .int .i64 g], .int .i64 p] W fun e w' => ∃ kk, e = .returned (.tuple #[.int .i64 kk, .bool false]) ∧ Below W.heap.size W w' := fun W A c G gc h => (hG2' W A c G gc h).mono fun e w' ⟨he, hb⟩ => ⟨_, he, hb⟩
  have hG3' := get_u X hl i g p
  obtain ⟨had, hhad⟩ : ∃ b, b = (getI (fun j => X.rows.getD j dR) X.rows.length i g p).2 := ⟨_, rfl⟩
  rw [← hhad] at hG3' hsm
  have hG3 : ∀ W, WldAt W A cap G gcap X → Calls Try.prog 48 #[.agg #[.slice A X.rows.length cap, .slice G X.gens.length gcap], .agg #[.int .i64 i, .int .i64 g], .int .i64 p] W fun e w' => ∃ kk, e = .returned (.tuple #[.int .i64 kk, .bool had]) ∧ Below W.heap.size W w' := fun W h => (hG3' W A cap G gcap h).mono fun e w' ⟨he, hb⟩ => ⟨_, he, hb⟩
  obtain ⟨v, hv⟩ : ∃ v, v = (putF X i g p m).1 := ⟨_, rfl⟩
  have hr2 : v = 0 → RightW (putF X i g p m).2 := fun e => by
    obtain ⟨_, _, _, _, _, _, _, _, _, h⟩ := put_spec (hv ▸ e : (putF X i g p m).1 = 0)
    exact h
  rw [← hv] at hP2 hP3
  generalize (putF X i g p m).2 = X2 at *
  have hSA := fun (e : v = 0) => same_w (right_hr ((right_iff X2).2 (hr2 e))).1 (right_hr ((right_iff X2).2 (hr2 e))).2.1
  have hSB : ∀ (e : had = false) W A' c' G' gc', WldAt W A' c' G' gc' X3 → WldAt W A cap G gcap X → Calls Try.prog 36 #[.agg #[.slice A' X3.rows.length c', .slice G' X3.gens.length gc'], .agg #[.slice A X.rows.length cap, .slice G X.gens.length gcap]] W fun e w' => e = .returned (.bool true) ∧ Below W.heap.size W w' := fun e W A' c' G' gc' h h' => by
    have e3 := hsm e
    subst e3
    exact same_w hl hgl W A' c' G' gc' A cap G gcap h h'
  unfold wldV worldV beingV at *
  have HAL := hide alive2_any
  have HX := hide hX
  have HP1 := hide hP1
  have HP2 := hide hP2
  have HP3 := hide hP3
  have HG1 := hide hG1
  have HG2 := hide hG2
  have HG3 := hide hG3
  have HDR := hide hDR
  clear hX hP1 hP2 hP3 hG1 hG2 hG3 hDR hG2' hG3' hr2 hv hpp hg1 hg2 hd0 hrd hr hr1 hsm hhad h0
  rcases Decidable.em (v = 0) with hv0 | hv0 <;> rcases Bool.eq_false_or_eq_true had with hh | hh
  · subst hh
    have HSA := hide (hSA hv0)
    clear hSA hSB
    go_enter Try.func8, Try.ntmps8
    go_wp2_with (first
      | (go_at_call 53; refine (unhide HAL _).mono ?_; rintro e w1 ⟨rfl, hb1⟩; obtain ⟨p0, p1, p2, p3⟩ := box_two _ _ _ _ _ _ _ hb1; have HB1 := hide (below_two _ _ _ hb1); clear hb1 HAL)
      | (go_at_call 44; refine (unhide HP1 _ ((unhide HX).below (unhide HB1))).mono ?_; rintro e w2 ⟨A2, c2, G2, gc2, rfl, hX1, hb2⟩; replace p0 := keep_below hb2 p0; replace p1 := keep_below hb2 p1; replace p2 := keep_below hb2 p2; replace p3 := keep_below hb2 p3; have lp0w2 := World.block_lt_of_cell? w2 _ p0; have lp2w2 := World.block_lt_of_cell? w2 _ p2; have lq2 := Nat.lt_of_succ_lt lp2w2; have HX1 := hide hX1.toWldAt; have HB2 := hide ((unhide HB1).trans (hb2.mono (unhide HB1).size)); clear hb2 hX1 HP1 HB1)
      | (go_at_call 48; refine (unhide HG1 _ _ _ _ _ ((unhide HX1).below (bel1 _ _))).mono ?_; rintro e w3 ⟨rfl, hb3⟩; obtain ⟨q0, q1⟩ := box_one _ _ _ _ hb3; replace hb3 := below_one _ _ hb3; replace p0 := keep_below hb3 p0; replace p1 := keep_below hb3 p1; replace p2 := keep_below hb3 p2; replace p3 := keep_below hb3 p3; have HX3 := hide ((unhide HX1).below hb3); have HB3 := hide ((unhide HB2).trans (hb3.mono (unhide HB2).size)); clear hb3 HG1 HX1 HB2 lp0w2 lp2w2 lq2)
      | (go_at_call 44; refine (unhide HP2 _ _ _ _ _ (unhide HX3)).mono ?_; rintro e w4 ⟨A4, c4, G4, gc4, rfl, hX4, hb4⟩; replace p0 := keep_below hb4 p0; replace p1 := keep_below hb4 p1; replace p2 := keep_below hb4 p2; replace p3 := keep_below hb4 p3; replace q0 := keep_below hb4 q0; replace q1 := keep_below hb4 q1; have lp0w4 := World.block_lt_of_cell? w4 _ p0; have lp2w4 := World.block_lt_of_cell? w4 _ p2; have lq0w4 := World.block_lt_of_cell? w4 _ q0; have lp3 := Nat.lt_of_succ_lt lp2w4; have HX4 := hide ((unhide HX3).below hb4); have HY4 := hide hX4.toWldAt; have HB4 := hide ((unhide HB3).trans (hb4.mono (unhide HB3).size)); clear hb4 hX4 HX3 HP2 HB3)
      | (go_at_call 44; refine (unhide HP3 _ (((unhide HX).below (unhide HB4)).below (bel1 _ _))).mono ?_; rintro e w5 ⟨A5, c5, G5, gc5, rfl, hX5, hb5⟩; obtain ⟨r0, r1⟩ := box_one _ _ _ _ (Below.mono hb5 (Nat.le_refl _)); replace hb5 := below_one _ _ hb5; replace p0 := keep_below hb5 p0; replace p1 := keep_below hb5 p1; replace p2 := keep_below hb5 p2; replace p3 := keep_below hb5 p3; replace q0 := keep_below hb5 q0; replace q1 := keep_below hb5 q1; have lp0w5 := World.block_lt_of_cell? w5 _ p0; have lp2w5 := World.block_lt_of_cell? w5 _ p2; have lq0w5 := World.block_lt_of_cell? w5 _ q0; have lr0w5 := World.block_lt_of_cell? w5 _ r0; have lp4 := Nat.lt_of_succ_lt lp2w5; have HX5 := hide ((unhide HX4).below hb5); have HY5 := hide ((unhide HY4).below hb5); have HZ5 := hide hX5.toWldAt; have HB5 := hide ((unhide HB4).trans (hb5.mono (unhide HB4).size)); clear hb5 hX5 HX4 HY4 HP3 HB4 lp0w4 lp2w4 lq0w4 lp3)
      | (go_at_call 36; refine (unhide HSA _ _ _ _ _ _ _ _ _ ((unhide HY5).below (bel1 _ _)) ((unhide HZ5).below (bel1 _ _))).mono ?_; rintro e w6 ⟨rfl, hb6⟩; replace hb6 := below_one _ _ hb6; replace p0 := keep_below hb6 p0; replace p1 := keep_below hb6 p1; replace p2 := keep_below hb6 p2; replace p3 := keep_below hb6 p3; replace q0 := keep_below hb6 q0; replace q1 := keep_below hb6 q1; have HX6 := hide ((unhide HX5).below hb6); have HB6 := hide ((unhide HB5).trans (hb6.mono (unhide HB5).size)); clear hb6 HX5 HY5 HZ5 HB5 lp0w5 lp2w5 lq0w5 lr0w5 lp4 HSA)
      | (go_at_call 46; refine (unhide HDR _ _ _ _ _ (unhide HX6)).mono ?_; rintro e w7 ⟨A7, c7, G7, gc7, rfl, hX7, hb7⟩; replace p0 := keep_below hb7 p0; replace p1 := keep_below hb7 p1; replace p2 := keep_below hb7 p2; replace p3 := keep_below hb7 p3; have lp0w7 := World.block_lt_of_cell? w7 _ p0; have lp2w7 := World.block_lt_of_cell? w7 _ p2; have lp5 := Nat.lt_of_succ_lt lp2w7; have HX7 := hide hX7.toWldAt; have HB7 := hide ((unhide HB6).trans (hb7.mono (unhide HB6).size)); clear hb7 hX7 HX6 HDR HB6)
      | (go_at_call 48; refine (unhide HG2 _ _ _ _ _ ((unhide HX7).below (bel1 _ _))).mono ?_; rintro e w8 ⟨kk, rfl, hb8⟩; obtain ⟨t0, t1⟩ := box_one _ _ _ _ hb8; replace hb8 := below_one _ _ hb8; replace p0 := keep_below hb8 p0; replace p1 := keep_below hb8 p1; replace p2 := keep_below hb8 p2; replace p3 := keep_below hb8 p3; have HX8 := hide ((unhide HX7).below hb8); have HB8 := hide ((unhide HB7).trans (hb8.mono (unhide HB7).size)); clear hb8 HG2 HX7 HB7 lp0w7 lp2w7 lp5)
      | (go_at_call 48; refine (unhide HG3 _ ((unhide HX).below (unhide HB8))).mono ?_; rintro e w9 ⟨kl, rfl, hb9⟩; replace p0 := keep_below hb9 p0; replace p1 := keep_below hb9 p1; replace p2 := keep_below hb9 p2; replace p3 := keep_below hb9 p3; replace t0 := keep_below hb9 t0; replace t1 := keep_below hb9 t1; have HX9 := hide ((unhide HX8).below hb9); have HB9 := hide ((unhide HB8).trans (hb9.mono (unhide HB8).size)); clear hb9 HG3 HX8 HB8))
    go_ret
    exact ⟨rfl, unhide HB9⟩
  · subst hh
    have HSA := hide (hSA hv0)
    have HSB := hide (hSB rfl)
    clear hSA hSB
    go_enter Try.func8, Try.ntmps8
    go_wp2_with (first
      | (go_at_call 53; refine (unhide HAL _).mono ?_; rintro e w1 ⟨rfl, hb1⟩; obtain ⟨p0, p1, p2, p3⟩ := box_two _ _ _ _ _ _ _ hb1; have HB1 := hide (below_two _ _ _ hb1); clear hb1 HAL)
      | (go_at_call 44; refine (unhide HP1 _ ((unhide HX).below (unhide HB1))).mono ?_; rintro e w2 ⟨A2, c2, G2, gc2, rfl, hX1, hb2⟩; replace p0 := keep_below hb2 p0; replace p1 := keep_below hb2 p1; replace p2 := keep_below hb2 p2; replace p3 := keep_below hb2 p3; have lp0w2 := World.block_lt_of_cell? w2 _ p0; have lp2w2 := World.block_lt_of_cell? w2 _ p2; have lq2 := Nat.lt_of_succ_lt lp2w2; have HX1 := hide hX1.toWldAt; have HB2 := hide ((unhide HB1).trans (hb2.mono (unhide HB1).size)); clear hb2 hX1 HP1 HB1)
      | (go_at_call 48; refine (unhide HG1 _ _ _ _ _ ((unhide HX1).below (bel1 _ _))).mono ?_; rintro e w3 ⟨rfl, hb3⟩; obtain ⟨q0, q1⟩ := box_one _ _ _ _ hb3; replace hb3 := below_one _ _ hb3; replace p0 := keep_below hb3 p0; replace p1 := keep_below hb3 p1; replace p2 := keep_below hb3 p2; replace p3 := keep_below hb3 p3; have HX3 := hide ((unhide HX1).below hb3); have HB3 := hide ((unhide HB2).trans (hb3.mono (unhide HB2).size)); clear hb3 HG1 HX1 HB2 lp0w2 lp2w2 lq2)
      | (go_at_call 44; refine (unhide HP2 _ _ _ _ _ (unhide HX3)).mono ?_; rintro e w4 ⟨A4, c4, G4, gc4, rfl, hX4, hb4⟩; replace p0 := keep_below hb4 p0; replace p1 := keep_below hb4 p1; replace p2 := keep_below hb4 p2; replace p3 := keep_below hb4 p3; replace q0 := keep_below hb4 q0; replace q1 := keep_below hb4 q1; have lp0w4 := World.block_lt_of_cell? w4 _ p0; have lp2w4 := World.block_lt_of_cell? w4 _ p2; have lq0w4 := World.block_lt_of_cell? w4 _ q0; have lp3 := Nat.lt_of_succ_lt lp2w4; have HX4 := hide ((unhide HX3).below hb4); have HY4 := hide hX4.toWldAt; have HB4 := hide ((unhide HB3).trans (hb4.mono (unhide HB3).size)); clear hb4 hX4 HX3 HP2 HB3)
      | (go_at_call 44; refine (unhide HP3 _ (((unhide HX).below (unhide HB4)).below (bel1 _ _))).mono ?_; rintro e w5 ⟨A5, c5, G5, gc5, rfl, hX5, hb5⟩; obtain ⟨r0, r1⟩ := box_one _ _ _ _ (Below.mono hb5 (Nat.le_refl _)); replace hb5 := below_one _ _ hb5; replace p0 := keep_below hb5 p0; replace p1 := keep_below hb5 p1; replace p2 := keep_below hb5 p2; replace p3 := keep_below hb5 p3; replace q0 := keep_below hb5 q0; replace q1 := keep_below hb5 q1; have lp0w5 := World.block_lt_of_cell? w5 _ p0; have lp2w5 := World.block_lt_of_cell? w5 _ p2; have lq0w5 := World.block_lt_of_cell? w5 _ q0; have lr0w5 := World.block_lt_of_cell? w5 _ r0; have lp4 := Nat.lt_of_succ_lt lp2w5; have HX5 := hide ((unhide HX4).below hb5); have HY5 := hide ((unhide HY4).below hb5); have HZ5 := hide hX5.toWldAt; have HB5 := hide ((unhide HB4).trans (hb5.mono (unhide HB4).size)); clear hb5 hX5 HX4 HY4 HP3 HB4 lp0w4 lp2w4 lq0w4 lp3)
      | (go_at_call 36; refine (unhide HSA _ _ _ _ _ _ _ _ _ ((unhide HY5).below (bel1 _ _)) ((unhide HZ5).below (bel1 _ _))).mono ?_; rintro e w6 ⟨rfl, hb6⟩; replace hb6 := below_one _ _ hb6; replace p0 := keep_below hb6 p0; replace p1 := keep_below hb6 p1; replace p2 := keep_below hb6 p2; replace p3 := keep_below hb6 p3; replace q0 := keep_below hb6 q0; replace q1 := keep_below hb6 q1; have HX6 := hide ((unhide HX5).below hb6); have HB6 := hide ((unhide HB5).trans (hb6.mono (unhide HB5).size)); clear hb6 HX5 HY5 HZ5 HB5 lp0w5 lp2w5 lq0w5 lr0w5 lp4 HSA)
      | (go_at_call 46; refine (unhide HDR _ _ _ _ _ (unhide HX6)).mono ?_; rintro e w7 ⟨A7, c7, G7, gc7, rfl, hX7, hb7⟩; replace p0 := keep_below hb7 p0; replace p1 := keep_below hb7 p1; replace p2 := keep_below hb7 p2; replace p3 := keep_below hb7 p3; have lp0w7 := World.block_lt_of_cell? w7 _ p0; have lp2w7 := World.block_lt_of_cell? w7 _ p2; have lp5 := Nat.lt_of_succ_lt lp2w7; have HX7 := hide hX7.toWldAt; have HB7 := hide ((unhide HB6).trans (hb7.mono (unhide HB6).size)); clear hb7 hX7 HX6 HDR HB6)
      | (go_at_call 48; refine (unhide HG2 _ _ _ _ _ ((unhide HX7).below (bel1 _ _))).mono ?_; rintro e w8 ⟨kk, rfl, hb8⟩; obtain ⟨t0, t1⟩ := box_one _ _ _ _ hb8; replace hb8 := below_one _ _ hb8; replace p0 := keep_below hb8 p0; replace p1 := keep_below hb8 p1; replace p2 := keep_below hb8 p2; replace p3 := keep_below hb8 p3; have HX8 := hide ((unhide HX7).below hb8); have HB8 := hide ((unhide HB7).trans (hb8.mono (unhide HB7).size)); clear hb8 HG2 HX7 HB7 lp0w7 lp2w7 lp5)
      | (go_at_call 48; refine (unhide HG3 _ ((unhide HX).below (unhide HB8))).mono ?_; rintro e w9 ⟨kl, rfl, hb9⟩; replace p0 := keep_below hb9 p0; replace p1 := keep_below hb9 p1; replace p2 := keep_below hb9 p2; replace p3 := keep_below hb9 p3; replace t0 := keep_below hb9 t0; replace t1 := keep_below hb9 t1; have HX9 := hide ((unhide HX8).below hb9); have HB9 := hide ((unhide HB8).trans (hb9.mono (unhide HB8).size)); clear hb9 HG3 HX8 HB8)
      | (go_at_call 36; refine (unhide HSB _ _ _ _ _ (unhide HX9) ((unhide HX).below (unhide HB9))).mono ?_; rintro e w10 ⟨rfl, hb10⟩; have HB10 := hide ((unhide HB9).trans (hb10.mono (unhide HB9).size)); clear hb10 HSB))
    go_ret
    exact ⟨rfl, unhide HB10⟩
  · subst hh
    clear hSA hSB
    go_enter Try.func8, Try.ntmps8
    go_wp2_with (first
      | (go_at_call 53; refine (unhide HAL _).mono ?_; rintro e w1 ⟨rfl, hb1⟩; obtain ⟨p0, p1, p2, p3⟩ := box_two _ _ _ _ _ _ _ hb1; have HB1 := hide (below_two _ _ _ hb1); clear hb1 HAL)
      | (go_at_call 44; refine (unhide HP1 _ ((unhide HX).below (unhide HB1))).mono ?_; rintro e w2 ⟨A2, c2, G2, gc2, rfl, hX1, hb2⟩; replace p0 := keep_below hb2 p0; replace p1 := keep_below hb2 p1; replace p2 := keep_below hb2 p2; replace p3 := keep_below hb2 p3; have lp0w2 := World.block_lt_of_cell? w2 _ p0; have lp2w2 := World.block_lt_of_cell? w2 _ p2; have lq2 := Nat.lt_of_succ_lt lp2w2; have HX1 := hide hX1.toWldAt; have HB2 := hide ((unhide HB1).trans (hb2.mono (unhide HB1).size)); clear hb2 hX1 HP1 HB1)
      | (go_at_call 48; refine (unhide HG1 _ _ _ _ _ ((unhide HX1).below (bel1 _ _))).mono ?_; rintro e w3 ⟨rfl, hb3⟩; obtain ⟨q0, q1⟩ := box_one _ _ _ _ hb3; replace hb3 := below_one _ _ hb3; replace p0 := keep_below hb3 p0; replace p1 := keep_below hb3 p1; replace p2 := keep_below hb3 p2; replace p3 := keep_below hb3 p3; have HX3 := hide ((unhide HX1).below hb3); have HB3 := hide ((unhide HB2).trans (hb3.mono (unhide HB2).size)); clear hb3 HG1 HX1 HB2 lp0w2 lp2w2 lq2)
      | (go_at_call 44; refine (unhide HP2 _ _ _ _ _ (unhide HX3)).mono ?_; rintro e w4 ⟨A4, c4, G4, gc4, rfl, hX4, hb4⟩; replace p0 := keep_below hb4 p0; replace p1 := keep_below hb4 p1; replace p2 := keep_below hb4 p2; replace p3 := keep_below hb4 p3; replace q0 := keep_below hb4 q0; replace q1 := keep_below hb4 q1; have lp0w4 := World.block_lt_of_cell? w4 _ p0; have lp2w4 := World.block_lt_of_cell? w4 _ p2; have lq0w4 := World.block_lt_of_cell? w4 _ q0; have lp3 := Nat.lt_of_succ_lt lp2w4; have HX4 := hide ((unhide HX3).below hb4); have HY4 := hide hX4.toWldAt; have HB4 := hide ((unhide HB3).trans (hb4.mono (unhide HB3).size)); clear hb4 hX4 HX3 HP2 HB3)
      | (go_at_call 44; refine (unhide HP3 _ (((unhide HX).below (unhide HB4)).below (bel1 _ _))).mono ?_; rintro e w5 ⟨A5, c5, G5, gc5, rfl, hX5, hb5⟩; obtain ⟨r0, r1⟩ := box_one _ _ _ _ (Below.mono hb5 (Nat.le_refl _)); replace hb5 := below_one _ _ hb5; replace p0 := keep_below hb5 p0; replace p1 := keep_below hb5 p1; replace p2 := keep_below hb5 p2; replace p3 := keep_below hb5 p3; replace q0 := keep_below hb5 q0; replace q1 := keep_below hb5 q1; have lp0w5 := World.block_lt_of_cell? w5 _ p0; have lp2w5 := World.block_lt_of_cell? w5 _ p2; have lq0w5 := World.block_lt_of_cell? w5 _ q0; have lr0w5 := World.block_lt_of_cell? w5 _ r0; have lp4 := Nat.lt_of_succ_lt lp2w5; have HX5 := hide ((unhide HX4).below hb5); have HY5 := hide ((unhide HY4).below hb5); have HZ5 := hide hX5.toWldAt; have HB5 := hide ((unhide HB4).trans (hb5.mono (unhide HB4).size)); clear hb5 hX5 HX4 HY4 HP3 HB4 lp0w4 lp2w4 lq0w4 lp3)
      | (go_at_call 46; refine (unhide HDR _ _ _ _ _ ((unhide HX5).below (bel1 _ _))).mono ?_; rintro e w7 ⟨A7, c7, G7, gc7, rfl, hX7, hb7⟩; replace hb7 := below_one _ _ hb7; replace p0 := keep_below hb7 p0; replace p1 := keep_below hb7 p1; replace p2 := keep_below hb7 p2; replace p3 := keep_below hb7 p3; have lp0w7 := World.block_lt_of_cell? w7 _ p0; have lp2w7 := World.block_lt_of_cell? w7 _ p2; have lp5 := Nat.lt_of_succ_lt lp2w7; have HX7 := hide hX7.toWldAt; have HB7 := hide ((unhide HB5).trans (hb7.mono (unhide HB5).size)); clear hb7 hX7 HX5 HY5 HZ5 HDR HB5 lp0w5 lp2w5 lq0w5 lr0w5 lp4)
      | (go_at_call 48; refine (unhide HG2 _ _ _ _ _ ((unhide HX7).below (bel1 _ _))).mono ?_; rintro e w8 ⟨kk, rfl, hb8⟩; obtain ⟨t0, t1⟩ := box_one _ _ _ _ hb8; replace hb8 := below_one _ _ hb8; replace p0 := keep_below hb8 p0; replace p1 := keep_below hb8 p1; replace p2 := keep_below hb8 p2; replace p3 := keep_below hb8 p3; have HX8 := hide ((unhide HX7).below hb8); have HB8 := hide ((unhide HB7).trans (hb8.mono (unhide HB7).size)); clear hb8 HG2 HX7 HB7 lp0w7 lp2w7 lp5)
      | (go_at_call 48; refine (unhide HG3 _ ((unhide HX).below (unhide HB8))).mono ?_; rintro e w9 ⟨kl, rfl, hb9⟩; replace p0 := keep_below hb9 p0; replace p1 := keep_below hb9 p1; replace p2 := keep_below hb9 p2; replace p3 := keep_below hb9 p3; replace t0 := keep_below hb9 t0; replace t1 := keep_below hb9 t1; have HX9 := hide ((unhide HX8).below hb9); have HB9 := hide ((unhide HB8).trans (hb9.mono (unhide HB8).size)); clear hb9 HG3 HX8 HB8))
    go_ret
    exact ⟨rfl, unhide HB9⟩
  · subst hh
    have HSB := hide (hSB rfl)
    clear hSA hSB
    go_enter Try.func8, Try.ntmps8
    go_wp2_with (first
      | (go_at_call 53; refine (unhide HAL _).mono ?_; rintro e w1 ⟨rfl, hb1⟩; obtain ⟨p0, p1, p2, p3⟩ := box_two _ _ _ _ _ _ _ hb1; have HB1 := hide (below_two _ _ _ hb1); clear hb1 HAL)
      | (go_at_call 44; refine (unhide HP1 _ ((unhide HX).below (unhide HB1))).mono ?_; rintro e w2 ⟨A2, c2, G2, gc2, rfl, hX1, hb2⟩; replace p0 := keep_below hb2 p0; replace p1 := keep_below hb2 p1; replace p2 := keep_below hb2 p2; replace p3 := keep_below hb2 p3; have lp0w2 := World.block_lt_of_cell? w2 _ p0; have lp2w2 := World.block_lt_of_cell? w2 _ p2; have lq2 := Nat.lt_of_succ_lt lp2w2; have HX1 := hide hX1.toWldAt; have HB2 := hide ((unhide HB1).trans (hb2.mono (unhide HB1).size)); clear hb2 hX1 HP1 HB1)
      | (go_at_call 48; refine (unhide HG1 _ _ _ _ _ ((unhide HX1).below (bel1 _ _))).mono ?_; rintro e w3 ⟨rfl, hb3⟩; obtain ⟨q0, q1⟩ := box_one _ _ _ _ hb3; replace hb3 := below_one _ _ hb3; replace p0 := keep_below hb3 p0; replace p1 := keep_below hb3 p1; replace p2 := keep_below hb3 p2; replace p3 := keep_below hb3 p3; have HX3 := hide ((unhide HX1).below hb3); have HB3 := hide ((unhide HB2).trans (hb3.mono (unhide HB2).size)); clear hb3 HG1 HX1 HB2 lp0w2 lp2w2 lq2)
      | (go_at_call 44; refine (unhide HP2 _ _ _ _ _ (unhide HX3)).mono ?_; rintro e w4 ⟨A4, c4, G4, gc4, rfl, hX4, hb4⟩; replace p0 := keep_below hb4 p0; replace p1 := keep_below hb4 p1; replace p2 := keep_below hb4 p2; replace p3 := keep_below hb4 p3; replace q0 := keep_below hb4 q0; replace q1 := keep_below hb4 q1; have lp0w4 := World.block_lt_of_cell? w4 _ p0; have lp2w4 := World.block_lt_of_cell? w4 _ p2; have lq0w4 := World.block_lt_of_cell? w4 _ q0; have lp3 := Nat.lt_of_succ_lt lp2w4; have HX4 := hide ((unhide HX3).below hb4); have HY4 := hide hX4.toWldAt; have HB4 := hide ((unhide HB3).trans (hb4.mono (unhide HB3).size)); clear hb4 hX4 HX3 HP2 HB3)
      | (go_at_call 44; refine (unhide HP3 _ (((unhide HX).below (unhide HB4)).below (bel1 _ _))).mono ?_; rintro e w5 ⟨A5, c5, G5, gc5, rfl, hX5, hb5⟩; obtain ⟨r0, r1⟩ := box_one _ _ _ _ (Below.mono hb5 (Nat.le_refl _)); replace hb5 := below_one _ _ hb5; replace p0 := keep_below hb5 p0; replace p1 := keep_below hb5 p1; replace p2 := keep_below hb5 p2; replace p3 := keep_below hb5 p3; replace q0 := keep_below hb5 q0; replace q1 := keep_below hb5 q1; have lp0w5 := World.block_lt_of_cell? w5 _ p0; have lp2w5 := World.block_lt_of_cell? w5 _ p2; have lq0w5 := World.block_lt_of_cell? w5 _ q0; have lr0w5 := World.block_lt_of_cell? w5 _ r0; have lp4 := Nat.lt_of_succ_lt lp2w5; have HX5 := hide ((unhide HX4).below hb5); have HY5 := hide ((unhide HY4).below hb5); have HZ5 := hide hX5.toWldAt; have HB5 := hide ((unhide HB4).trans (hb5.mono (unhide HB4).size)); clear hb5 hX5 HX4 HY4 HP3 HB4 lp0w4 lp2w4 lq0w4 lp3)
      | (go_at_call 46; refine (unhide HDR _ _ _ _ _ ((unhide HX5).below (bel1 _ _))).mono ?_; rintro e w7 ⟨A7, c7, G7, gc7, rfl, hX7, hb7⟩; replace hb7 := below_one _ _ hb7; replace p0 := keep_below hb7 p0; replace p1 := keep_below hb7 p1; replace p2 := keep_below hb7 p2; replace p3 := keep_below hb7 p3; have lp0w7 := World.block_lt_of_cell? w7 _ p0; have lp2w7 := World.block_lt_of_cell? w7 _ p2; have lp5 := Nat.lt_of_succ_lt lp2w7; have HX7 := hide hX7.toWldAt; have HB7 := hide ((unhide HB5).trans (hb7.mono (unhide HB5).size)); clear hb7 hX7 HX5 HY5 HZ5 HDR HB5 lp0w5 lp2w5 lq0w5 lr0w5 lp4)
      | (go_at_call 48; refine (unhide HG2 _ _ _ _ _ ((unhide HX7).below (bel1 _ _))).mono ?_; rintro e w8 ⟨kk, rfl, hb8⟩; obtain ⟨t0, t1⟩ := box_one _ _ _ _ hb8; replace hb8 := below_one _ _ hb8; replace p0 := keep_below hb8 p0; replace p1 := keep_below hb8 p1; replace p2 := keep_below hb8 p2; replace p3 := keep_below hb8 p3; have HX8 := hide ((unhide HX7).below hb8); have HB8 := hide ((unhide HB7).trans (hb8.mono (unhide HB7).size)); clear hb8 HG2 HX7 HB7 lp0w7 lp2w7 lp5)
      | (go_at_call 48; refine (unhide HG3 _ ((unhide HX).below (unhide HB8))).mono ?_; rintro e w9 ⟨kl, rfl, hb9⟩; replace p0 := keep_below hb9 p0; replace p1 := keep_below hb9 p1; replace p2 := keep_below hb9 p2; replace p3 := keep_below hb9 p3; replace t0 := keep_below hb9 t0; replace t1 := keep_below hb9 t1; have HX9 := hide ((unhide HX8).below hb9); have HB9 := hide ((unhide HB8).trans (hb9.mono (unhide HB8).size)); clear hb9 HG3 HX8 HB8)
      | (go_at_call 36; refine (unhide HSB _ _ _ _ _ (unhide HX9) ((unhide HX).below (unhide HB9))).mono ?_; rintro e w10 ⟨rfl, hb10⟩; have HB10 := hide ((unhide HB9).trans (hb10.mono (unhide HB9).size)); clear hb10 HSB))
    go_ret
    exact ⟨rfl, unhide HB10⟩
theorem put_law (A : Option Addr) (cap : Nat) (G : Option Addr) (gcap : Nat) (X : Wd) (i g p n m : Int) (w : World) (hn0 : X.rows.length ≤ 9223372036854775807) (hgn0 : X.gens.length ≤ 9223372036854775807) (hX : WldAt w A cap G gcap X) :
    Calls Try.prog 8 #[wldV A cap G gcap X, beingV i g, .int .i64 p, .int .i64 n, .int .i64 m] w fun e w' => e = .returned (.bool true) ∧ Below w.heap.size w w' := by
  by_cases h0 : (putF X i g p n).1 = 0
  · exact put_yes A cap G gcap X i g p n m w hn0 hX h0
  · exact put_no A cap G gcap X i g p n m w hn0 hX h0
end Go.Proofs.Ytnbleebilmghcaa
