/- The statement PlainRight's function. -/
import Derived.Test.YtnbleebilmghcaaLPLawR0
set_option linter.unusedVariables false
set_option linter.unusedSimpArgs false
set_option linter.unnecessarySimpa false
namespace Go.Proofs.Ytnbleebilmghcaa
open Go Go.RowKit
attribute [local go_sem ↓] Go.wp_at_zero Go.wp_at_succ neq61

set_option maxRecDepth 8000 in
set_option maxHeartbeats 2000000 in
theorem right_no (A : Option Addr) (cap : Nat) (G : Option Addr) (gcap : Nat) (X : Wd) (bi bg has p n oi og : Int) (w : World) (hn0 : X.rows.length ≤ 9223372036854775807) (hX : WldAt w A cap G gcap X) (h0 : (wrongW X).1 ≠ 0) :
    Calls Try.prog 6 #[wldV A cap G gcap X, beingV bi bg, .int .i64 has, .int .i64 p, .int .i64 n, beingV oi og] w fun e w' => e = .returned (.bool true) ∧ Below w.heap.size w w' := by
  have hW : ∀ W, WldAt W A cap G gcap X → Calls Try.prog 34 #[.agg #[.slice A X.rows.length cap, .slice G X.gens.length gcap]] W fun e w' => e = .returned (.agg #[.int .i64 (wrongW X).1, .int .i64 (wrongW X).2]) ∧ Below W.heap.size W w' := fun W h =>
    pwrong_any A X.rows.length cap G X.gens.length gcap (fun j => X.rows.getD j dR) (fun j => X.gens.getD j 0) W hn0 h.rows h.gens
  have HAL := hide alive2_any
  have HX := hide hX
  have HPR := hide (PR.start w (.slice A X.rows.length cap) (.slice G X.gens.length gcap) bi bg oi og)
  obtain ⟨er, her⟩ : ∃ e, e = (wrongW X).1 := ⟨_, rfl⟩
  obtain ⟨ea, hea⟩ : ∃ e, e = (wrongW X).2 := ⟨_, rfl⟩
  rw [← her] at h0
  rw [← her, ← hea] at hW
  clear her hea
  have HW := hide hW
  have hfld := run_field
  clear hW hX
  unfold wldV worldV beingV
  go_enter Try.func6, Try.ntmps6
  go_wp2_with (first
    | (go_at_call 53; refine (unhide HAL _).mono ?_; rintro e w1 ⟨rfl, hb1⟩; have h1 := (unhide HPR).below hb1; have p0 := h1.p0; have p1 := h1.p1; have HP1 := hide h1; clear hb1 h1)
    | (go_at_call 34; refine (unhide HW _ ((unhide HX).below (unhide HP1).bel)).mono ?_; rintro e w2 ⟨rfl, hb2⟩; have HB2 := hide ((unhide HP1).bel.trans (hb2.mono (unhide HP1).bel.size)); clear hb2))
  go_ret
  exact ⟨rfl, unhide HB2⟩

set_option maxRecDepth 8000 in
set_option maxHeartbeats 16000000 in
theorem right_yes (A : Option Addr) (cap : Nat) (G : Option Addr) (gcap : Nat) (X : Wd) (bi bg has p n oi og : Int) (w : World) (hn0 : X.rows.length ≤ 9223372036854775807) (hX : WldAt w A cap G gcap X) (h0 : (wrongW X).1 = 0) :
    Calls Try.prog 6 #[wldV A cap G gcap X, beingV bi bg, .int .i64 has, .int .i64 p, .int .i64 n, beingV oi og] w fun e w' => e = .returned (.bool true) ∧ Below w.heap.size w w' := by
  have hr := (right_iff X).1 h0
  obtain ⟨hl, hgl, _⟩ := right_hr h0
  have hWX : ∀ (Y : Wd) (hY : RightW Y) W A c G gc, WldAt W A c G gc Y → Calls Try.prog 34 #[.agg #[.slice A Y.rows.length c, .slice G Y.gens.length gc]] W fun e w' => e = .returned (.agg #[.int .i64 0, .int .i64 (wrongW Y).2]) ∧ Below W.heap.size W w' := fun Y hY W A c G gc h => by
    have := pwrong_any A Y.rows.length c G Y.gens.length gc (fun j => Y.rows.getD j dR) (fun j => Y.gens.getD j 0) W (by have := (right_hr ((right_iff Y).2 hY)).1; omega) h.rows h.gens
    have e : (plainF (fun j => Y.rows.getD j dR) Y.rows.length Y.gens.length (fun j => Y.gens.getD j 0)).1 = 0 := (right_iff Y).2 hY
    unfold faultP at this
    rw [e] at this
    exact this
  have hSE : ∀ W A c G gc, Calls Try.prog 36 #[.agg #[.slice A 0 c, .slice G 0 gc], .agg #[.slice none 0 0, .slice none 0 0]] W fun e w' => e = .returned (.bool true) ∧ Below W.heap.size W w' := fun W A c G gc =>
    same_w (X := emptyW) (by decide) (by decide) W A c G gc none 0 none 0 ⟨fun j hj => by simp [emptyW] at hj, fun j hj => by simp [emptyW] at hj⟩ ⟨fun j hj => by simp [emptyW] at hj, fun j hj => by simp [emptyW] at hj⟩
  obtain ⟨pp, hPP, hpp⟩ := row_ptr X hl oi og A cap G gcap w hX
  have HWX := hide (hWX X hr)
  have HWY := hide hWX
  have HSE := hide hSE
  have HPP := hide hPP
  have Hpp := hide hpp
  have HAL := hide alive2_any
  have HX := hide hX
  have HPR := hide (PR.start w (.slice A X.rows.length cap) (.slice G X.gens.length gcap) bi bg oi og)
  have hfld := run_field
  clear hWX hSE hPP hpp hX h0
  unfold wldV worldV beingV
  go_enter Try.func6, Try.ntmps6
  go_wp2_with (first
    | (go_at_call 53; refine (unhide HAL _).mono ?_; rintro e w1 ⟨rfl, hb1⟩; have h1 := (unhide HPR).below hb1; have p0 := h1.p0; have p1 := h1.p1; have HP1 := hide h1; clear hb1 h1)
    | (go_at_call 34; refine (unhide HWX _ _ _ _ _ ((unhide HX).below (unhide HP1).bel)).mono ?_; rintro e w2 ⟨rfl, hb2⟩; have HP2 := hide ((unhide HP1).below hb2); clear hb2 p0 p1 HP1))
  clear HWX HAL HPR
  go_loopw [24] (fun i wr => ∃ j : Nat, j ≤ 4 ∧ i = .int .i64 j ∧ PR w (.slice A X.rows.length cap) (.slice G X.gens.length gcap) bi bg oi og wr) (fun i _ => 4 - (intOf i).toNat)
  case atStart => exact ⟨0, Nat.zero_le _, rfl, unhide HP2⟩
  case round =>
    clear HP2
    obtain ⟨j, hj, rfl, hP⟩ := hrel
    obtain ⟨W0, hW0⟩ : ∃ W, W = wr := ⟨_, rfl⟩
    subst hW0
    have p0 := hP.p0
    have p1 := hP.p1
    have b0 := hP.b0
    have b1 := hP.b1
    have HP := hide hP
    have lw0 := World.block_lt_of_cell? W0 _ p0
    have lw1 := World.block_lt_of_cell? W0 _ b0
    clear hP
    have hwne : ∀ k : Nat, k < W0.heap.size → (k == W0.heap.size) = false := fun k hk => by simp; omega
    rcases (by omega : j = 0 ∨ j = 1 ∨ j = 2 ∨ j = 3 ∨ j = 4) with rfl | rfl | rfl | rfl | rfl
    · have hE0 : ∀ H : (spawnF X has n).1 ≠ 0, (spawnF X has n).2.2 = emptyW := fun H => spawn_no H
      by_cases H : (spawnF X has n).1 = 0
      · have hC : ∀ W, WldAt W A cap G gcap X → Calls Try.prog 40 #[.agg #[.slice A X.rows.length cap, .slice G X.gens.length gcap], .int .i64 has, .int .i64 n] W fun e w' => ∃ A1 c1 G1 gc1 i1 g1, e = .returned (.tuple #[.agg #[.slice A1 (spawnF X has n).2.2.rows.length c1, .slice G1 (spawnF X has n).2.2.gens.length gc1], .agg #[.int .i64 i1, .int .i64 g1], .int .i64 0]) ∧ WldNew W.heap.size w' A1 c1 G1 gc1 (spawnF X has n).2.2 ∧ Below W.heap.size W w' := fun W h => by
          have := spawn_any A cap G gcap X has n W hn0 h
          rw [H] at this
          exact this.mono fun e w' ⟨A1, c1, G1, gc1, he, hN, hb⟩ => ⟨A1, c1, G1, gc1, _, _, he, hN, hb⟩
        have hrY : RightW (spawnF X has n).2.2 := (spawn_keeps H oi og).1
        have hkY : (oi, og) ≠ (bi, bg) → Keeps X (spawnF X has n).2.2 oi og := fun _ => (spawn_keeps H oi og).2
        have hlY := (right_hr ((right_iff _).2 hrY)).1
        have HWZ := hide (unhide HWY _ hrY)
        have HC := hide hC
        have HK := hide hkY
        clear hC hkY hrY hE0 H HWY HSE
        generalize (spawnF X has n).2.2 = Y at *
        go_wp2_with (first
          | (go_at_call 40; refine (unhide HC _ (((unhide HX).below (unhide HP).bel).below (bel1 _ _))).mono ?_; rintro e w2 ⟨A1, c1, G1, gc1, i1, g1, rfl, hN, hb2⟩; have HPX := hide ((PX.new (unhide HP)).below hb2); have HN := hide hN; clear hN hb2 HC p0 p1 b0 b1)
          | (refine wpList_putN rfl 38 (.tmp 14) (.tmp 42) rfl W0.heap.size 0 [.slice A1 Y.rows.length c1, .slice G1 Y.gens.length gc1] rfl rfl (by simp [Value.oneCell']) size38 (unhide HPX).there ?_; intro W3 hW3; have h3 := (unhide HPX).give (.slice A1 Y.rows.length c1) (.slice G1 Y.gens.length gc1); have hY3 := (unhide HN).over (x := W0.heap.size) (by simp) [.slice A1 Y.rows.length c1, .slice G1 Y.gens.length gc1]; rw [← hW3] at h3 hY3; have x0 := h3.x0; have x1 := h3.x1; have HP3 := hide h3; have HY3 := hide hY3; clear hW3 h3 hY3 HPX HN)
          | (go_at_call 34; refine (unhide HWZ _ _ _ _ _ (unhide HY3)).mono ?_; rintro e w4 ⟨rfl, hb4⟩; have HP4 := hide ((unhide HP3).below hb4); have HY4 := hide ((unhide HY3).below hb4); clear hb4 HP3 HY3 HWZ x0 x1))
        obtain ⟨pq, hPQ, hpq⟩ := row_ptr Y hlY oi og A1 c1 G1 gc1 w4 (unhide HY4)
        have hP4 := unhide HP4
        have hne : Nonempty (Sub w4) := ⟨⟨w4, Below.refl _ _⟩⟩
        have p0 := sub_cell hP4.p0
        have p1 := sub_cell hP4.p1
        have o0 := sub_cell hP4.o0
        have o1 := sub_cell hP4.o1
        have x0 := sub_cell hP4.x0
        have x1 := sub_cell hP4.x1
        have HE1 := hide (fun x : Sub w4 => unhide HPP x.val (hP4.bel.trans (x.bel.mono hP4.bel.size)))
        have HE2 := hide (fun x : Sub w4 => hPQ x.val x.bel)
        have Hpq := hide hpq
        clear hP4 hPQ hpq
        refine wp_region_sub (by kernel_rfl) (by kernel_rfl) ?_
        go_big_quiet_step (fail)
        go_big_quiet_step (fail)
        go_big_quiet_step ((go_at_call 49; exact sub_bel (unhide HE1 _)))
        go_big_quiet_step (fail)
        go_big_quiet_step (fail)
        go_big_quiet_step ((go_at_call 49; exact sub_bel (unhide HE2 _)))
        repeat (go_big_quiet_step (fail))
        refine wpQuiet_nil ?_
        rintro w5 ⟨xs, hxs⟩
        have hb5 := xs.bel
        rw [← hxs] at hb5
        have HP5 := hide ((unhide HP4).below hb5)
        clear hxs xs p0 p1 o0 o1 x0 x1 hne HE1 HE2
        go_wp2
        have hP5 := unhide HP5
        have hne : Nonempty (Sub w5) := ⟨⟨w5, Below.refl _ _⟩⟩
        have b0 := sub_cell hP5.b0
        have b1 := sub_cell hP5.b1
        have o0 := sub_cell hP5.o0
        have o1 := sub_cell hP5.o1
        rcases unhide Hpp with ⟨hpn, _⟩ | ⟨k, b, o, hps, hk, hf, hrw⟩
        · subst hpn
          clear hP5 Hpq
          refine wp_region_sub (by kernel_rfl) (by kernel_rfl) ?_
          repeat (go_big_quiet_step (fail))
          refine wpQuiet_nil ?_
          rintro w6 ⟨xs6, hxs6⟩
          have hb6 := xs6.bel
          rw [← hxs6] at hb6
          clear hxs6 xs6 hne b0 b1 o0 o1
          go_wp2
          go_roundw
          case rel => exact ⟨1, by omega, by go_num, ((unhide HP5).below hb6).toPR⟩
          case measure => simp [intOf]
        · subst hps
          by_cases he : (oi, og) = (bi, bg)
          · have e1 : oi = bi := congrArg Prod.fst he
            have e2 : og = bg := congrArg Prod.snd he
            subst e1 e2
            clear hP5 Hpq hrw
            refine wp_region_sub (by kernel_rfl) (by kernel_rfl) ?_
            repeat (go_big_quiet_step (fail))
            refine wpQuiet_nil ?_
            rintro w6 ⟨xs6, hxs6⟩
            have hb6 := xs6.bel
            rw [← hxs6] at hb6
            clear hxs6 xs6 hne b0 b1 o0 o1
            go_wp2
            go_roundw
            case rel => exact ⟨1, by omega, by go_num, ((unhide HP5).below hb6).toPR⟩
            case measure => simp [intOf]
          · have hne2 : ¬ (oi = bi ∧ og = bg) := fun h => he (by rw [h.1, h.2])
            have hq : ∀ x : Sub w5, (binOp .neq 40 (.agg #[.int .i64 oi, .int .i64 og]) (.agg #[.int .i64 bi, .int .i64 bg])).run Try.prog x.val = .ok (.bool true) x.val := fun x => neq40_ne hne2 x.val
            obtain ⟨j', hj', hf', er'⟩ := unhide HK he k hk hf
            rcases unhide Hpq with ⟨_, hno⟩ | ⟨k', b', o', hqs, hk', hfk, hrw'⟩
            · omega
            subst hqs
            obtain rfl : k' = j' := by omega
            rw [er'] at hrw'
            have hrw := hrw.below hP5.bel
            have hrw' := hrw'.below hb5
            have c0 := sub_cell (hrw.c0)
            have c1 := sub_cell (hrw.c1)
            have c2 := sub_cell (hrw.c2)
            have c3 := sub_cell (hrw.v 0 (by omega))
            have c4 := sub_cell (hrw.v 1 (by omega))
            have c5 := sub_cell (hrw.v 2 (by omega))
            have c6 := sub_cell (hrw.v 3 (by omega))
            have c7 := sub_cell (hrw.v 4 (by omega))
            have c8 := sub_cell (hrw.v 5 (by omega))
            have c9 := sub_cell (hrw.v 6 (by omega))
            have c10 := sub_cell (hrw.v 7 (by omega))
            have d0 := sub_cell (hrw'.c0)
            have d1 := sub_cell (hrw'.c1)
            have d2 := sub_cell (hrw'.c2)
            have d3 := sub_cell (hrw'.v 0 (by omega))
            have d4 := sub_cell (hrw'.v 1 (by omega))
            have d5 := sub_cell (hrw'.v 2 (by omega))
            have d6 := sub_cell (hrw'.v 3 (by omega))
            have d7 := sub_cell (hrw'.v 4 (by omega))
            have d8 := sub_cell (hrw'.v 5 (by omega))
            have d9 := sub_cell (hrw'.v 6 (by omega))
            have d10 := sub_cell (hrw'.v 7 (by omega))
            simp only [Nat.add_assoc, Nat.reduceAdd] at c3 c4 c5 c6 c7 c8 c9 c10 d3 d4 d5 d6 d7 d8 d9 d10
            clear hP5 Hpq hrw hrw'
            have hq61 : ∀ (x : Sub w5) (y0 y1 y2 a0 a1 a2 a3 a4 a5 a6 a7 : Int), (binOp .neq 61 (.agg #[.int .i64 y0, .int .i64 y1, .int .i64 y2, .int .i64 a0, .int .i64 a1, .int .i64 a2, .int .i64 a3, .int .i64 a4, .int .i64 a5, .int .i64 a6, .int .i64 a7]) (.agg #[.int .i64 y0, .int .i64 y1, .int .i64 y2, .int .i64 a0, .int .i64 a1, .int .i64 a2, .int .i64 a3, .int .i64 a4, .int .i64 a5, .int .i64 a6, .int .i64 a7])).run Try.prog x.val = .ok (.bool false) x.val := fun x y0 y1 y2 a0 a1 a2 a3 a4 a5 a6 a7 => neq61 y0 y1 y2 a0 a1 a2 a3 a4 a5 a6 a7 x.val
            generalize rowOf X k = rr at *
            by_cases h1 : oi = bi
            · subst h1
              have h2 : ¬ og = bg := fun h => hne2 ⟨rfl, h⟩
              have h3 : (og == bg) = false := by simpa using h2
              have h4 : (bg == og) = false := by simpa using Ne.symm h2
              clear hne2 he hq
              refine wp_region_sub (by kernel_rfl) (by kernel_rfl) ?_
              repeat (go_big_quiet_step (fail))
              refine wpQuiet_nil ?_
              rintro w6 ⟨xs6, hxs6⟩
              have hb6 := xs6.bel
              rw [← hxs6] at hb6
              clear hxs6 xs6 hne b0 b1 o0 o1 c0 d0 c1 d1 c2 d2 c3 d3 c4 d4 c5 d5 c6 d6 c7 d7 c8 d8 c9 d9 c10 d10
              go_wp2
              go_roundw
              case rel => exact ⟨1, by omega, by go_num, ((unhide HP5).below hb6).toPR⟩
              case measure => simp [intOf]
            · have h3 : (oi == bi) = false := by simpa using h1
              clear hne2 he hq
              refine wp_region_sub (by kernel_rfl) (by kernel_rfl) ?_
              repeat (go_big_quiet_step (fail))
              refine wpQuiet_nil ?_
              rintro w6 ⟨xs6, hxs6⟩
              have hb6 := xs6.bel
              rw [← hxs6] at hb6
              clear hxs6 xs6 hne b0 b1 o0 o1 c0 d0 c1 d1 c2 d2 c3 d3 c4 d4 c5 d5 c6 d6 c7 d7 c8 d8 c9 d9 c10 d10
              go_wp2
              go_roundw
              case rel => exact ⟨1, by omega, by go_num, ((unhide HP5).below hb6).toPR⟩
              case measure => simp [intOf]
      · have hC : ∀ W, WldAt W A cap G gcap X → Calls Try.prog 40 #[.agg #[.slice A X.rows.length cap, .slice G X.gens.length gcap], .int .i64 has, .int .i64 n] W fun e w' => ∃ A1 c1 G1 gc1 i1 g1, e = .returned (.tuple #[.agg #[.slice A1 0 c1, .slice G1 0 gc1], .agg #[.int .i64 i1, .int .i64 g1], .int .i64 (spawnF X has n).1]) ∧ Below W.heap.size W w' := fun W h => by
          have := spawn_any A cap G gcap X has n W hn0 h
          rw [hE0 H] at this
          exact this.mono fun e w' ⟨A1, c1, G1, gc1, he, hN, hb⟩ => ⟨A1, c1, G1, gc1, _, _, he, hb⟩
        generalize (spawnF X has n).1 = er at *
        have HC := hide hC
        clear hC hE0 HWY HPP Hpp
        go_wp2_with (first
          | (go_at_call 40; refine (unhide HC _ (((unhide HX).below (unhide HP).bel).below (bel1 _ _))).mono ?_; rintro e w2 ⟨A1, c1, G1, gc1, i1, g1, rfl, hb2⟩; have HPX := hide ((PX.new (unhide HP)).below hb2); clear hb2 HC p0 p1 b0 b1)
          | (refine wpList_putN rfl 38 (.tmp 14) (.tmp 42) rfl W0.heap.size 0 [.slice A1 0 c1, .slice G1 0 gc1] rfl rfl (by simp [Value.oneCell']) size38 (unhide HPX).there ?_; intro W3 hW3; have h3 := (unhide HPX).give (.slice A1 0 c1) (.slice G1 0 gc1); rw [← hW3] at h3; have x0 := h3.x0; have x1 := h3.x1; have HP3 := hide h3; clear hW3 h3 HPX)
          | (go_at_call 36; refine (unhide HSE _ _ _ _ _).mono ?_; rintro e w4 ⟨rfl, hb4⟩; have HP4 := hide ((unhide HP3).below hb4); clear hb4 HP3 HSE x0 x1))
        go_roundw
        case rel => exact ⟨1, by omega, by go_num, (unhide HP4).toPR⟩
        case measure => simp [intOf]
    · have hE0 : ∀ H : (killF X bi bg).1 ≠ 0, (killF X bi bg).2 = emptyW := fun H => kill_no H
      by_cases H : (killF X bi bg).1 = 0
      · have hC : ∀ W, WldAt W A cap G gcap X → Calls Try.prog 42 #[.agg #[.slice A X.rows.length cap, .slice G X.gens.length gcap], .agg #[.int .i64 bi, .int .i64 bg]] W fun e w' => ∃ A1 c1 G1 gc1, e = .returned (.tuple #[.agg #[.slice A1 (killF X bi bg).2.rows.length c1, .slice G1 (killF X bi bg).2.gens.length gc1], .int .i64 0]) ∧ WldNew W.heap.size w' A1 c1 G1 gc1 (killF X bi bg).2 ∧ Below W.heap.size W w' := fun W h => by
          have := kill_any A cap G gcap X bi bg W hn0 h
          rw [H] at this
          exact this.mono fun e w' ⟨A1, c1, G1, gc1, he, hN, hb⟩ => ⟨A1, c1, G1, gc1, he, hN, hb⟩
        have hrY : RightW (killF X bi bg).2 := (kill_keeps H).1
        have hkY : (oi, og) ≠ (bi, bg) → Keeps X (killF X bi bg).2 oi og := fun hne => (kill_keeps H).2 oi og hne
        have hlY := (right_hr ((right_iff _).2 hrY)).1
        have HWZ := hide (unhide HWY _ hrY)
        have HC := hide hC
        have HK := hide hkY
        clear hC hkY hrY hE0 H HWY HSE
        generalize (killF X bi bg).2 = Y at *
        go_wp2_with (first
          | (go_at_call 42; refine (unhide HC _ (((unhide HX).below (unhide HP).bel).below (bel1 _ _))).mono ?_; rintro e w2 ⟨A1, c1, G1, gc1, rfl, hN, hb2⟩; have HPX := hide ((PX.new (unhide HP)).below hb2); have HN := hide hN; clear hN hb2 HC p0 p1 b0 b1)
          | (refine wpList_putN rfl 38 (.tmp 14) (.tmp 51) rfl W0.heap.size 0 [.slice A1 Y.rows.length c1, .slice G1 Y.gens.length gc1] rfl rfl (by simp [Value.oneCell']) size38 (unhide HPX).there ?_; intro W3 hW3; have h3 := (unhide HPX).give (.slice A1 Y.rows.length c1) (.slice G1 Y.gens.length gc1); have hY3 := (unhide HN).over (x := W0.heap.size) (by simp) [.slice A1 Y.rows.length c1, .slice G1 Y.gens.length gc1]; rw [← hW3] at h3 hY3; have x0 := h3.x0; have x1 := h3.x1; have HP3 := hide h3; have HY3 := hide hY3; clear hW3 h3 hY3 HPX HN)
          | (go_at_call 34; refine (unhide HWZ _ _ _ _ _ (unhide HY3)).mono ?_; rintro e w4 ⟨rfl, hb4⟩; have HP4 := hide ((unhide HP3).below hb4); have HY4 := hide ((unhide HY3).below hb4); clear hb4 HP3 HY3 HWZ x0 x1))
        obtain ⟨pq, hPQ, hpq⟩ := row_ptr Y hlY oi og A1 c1 G1 gc1 w4 (unhide HY4)
        have hP4 := unhide HP4
        have hne : Nonempty (Sub w4) := ⟨⟨w4, Below.refl _ _⟩⟩
        have p0 := sub_cell hP4.p0
        have p1 := sub_cell hP4.p1
        have o0 := sub_cell hP4.o0
        have o1 := sub_cell hP4.o1
        have x0 := sub_cell hP4.x0
        have x1 := sub_cell hP4.x1
        have HE1 := hide (fun x : Sub w4 => unhide HPP x.val (hP4.bel.trans (x.bel.mono hP4.bel.size)))
        have HE2 := hide (fun x : Sub w4 => hPQ x.val x.bel)
        have Hpq := hide hpq
        clear hP4 hPQ hpq
        refine wp_region_sub (by kernel_rfl) (by kernel_rfl) ?_
        go_big_quiet_step (fail)
        go_big_quiet_step (fail)
        go_big_quiet_step ((go_at_call 49; exact sub_bel (unhide HE1 _)))
        go_big_quiet_step (fail)
        go_big_quiet_step (fail)
        go_big_quiet_step ((go_at_call 49; exact sub_bel (unhide HE2 _)))
        repeat (go_big_quiet_step (fail))
        refine wpQuiet_nil ?_
        rintro w5 ⟨xs, hxs⟩
        have hb5 := xs.bel
        rw [← hxs] at hb5
        have HP5 := hide ((unhide HP4).below hb5)
        clear hxs xs p0 p1 o0 o1 x0 x1 hne HE1 HE2
        go_wp2
        have hP5 := unhide HP5
        have hne : Nonempty (Sub w5) := ⟨⟨w5, Below.refl _ _⟩⟩
        have b0 := sub_cell hP5.b0
        have b1 := sub_cell hP5.b1
        have o0 := sub_cell hP5.o0
        have o1 := sub_cell hP5.o1
        rcases unhide Hpp with ⟨hpn, _⟩ | ⟨k, b, o, hps, hk, hf, hrw⟩
        · subst hpn
          clear hP5 Hpq
          refine wp_region_sub (by kernel_rfl) (by kernel_rfl) ?_
          repeat (go_big_quiet_step (fail))
          refine wpQuiet_nil ?_
          rintro w6 ⟨xs6, hxs6⟩
          have hb6 := xs6.bel
          rw [← hxs6] at hb6
          clear hxs6 xs6 hne b0 b1 o0 o1
          go_wp2
          go_roundw
          case rel => exact ⟨2, by omega, by go_num, ((unhide HP5).below hb6).toPR⟩
          case measure => simp [intOf]
        · subst hps
          by_cases he : (oi, og) = (bi, bg)
          · have e1 : oi = bi := congrArg Prod.fst he
            have e2 : og = bg := congrArg Prod.snd he
            subst e1 e2
            clear hP5 Hpq hrw
            refine wp_region_sub (by kernel_rfl) (by kernel_rfl) ?_
            repeat (go_big_quiet_step (fail))
            refine wpQuiet_nil ?_
            rintro w6 ⟨xs6, hxs6⟩
            have hb6 := xs6.bel
            rw [← hxs6] at hb6
            clear hxs6 xs6 hne b0 b1 o0 o1
            go_wp2
            go_roundw
            case rel => exact ⟨2, by omega, by go_num, ((unhide HP5).below hb6).toPR⟩
            case measure => simp [intOf]
          · have hne2 : ¬ (oi = bi ∧ og = bg) := fun h => he (by rw [h.1, h.2])
            have hq : ∀ x : Sub w5, (binOp .neq 40 (.agg #[.int .i64 oi, .int .i64 og]) (.agg #[.int .i64 bi, .int .i64 bg])).run Try.prog x.val = .ok (.bool true) x.val := fun x => neq40_ne hne2 x.val
            obtain ⟨j', hj', hf', er'⟩ := unhide HK he k hk hf
            rcases unhide Hpq with ⟨_, hno⟩ | ⟨k', b', o', hqs, hk', hfk, hrw'⟩
            · omega
            subst hqs
            obtain rfl : k' = j' := by omega
            rw [er'] at hrw'
            have hrw := hrw.below hP5.bel
            have hrw' := hrw'.below hb5
            have c0 := sub_cell (hrw.c0)
            have c1 := sub_cell (hrw.c1)
            have c2 := sub_cell (hrw.c2)
            have c3 := sub_cell (hrw.v 0 (by omega))
            have c4 := sub_cell (hrw.v 1 (by omega))
            have c5 := sub_cell (hrw.v 2 (by omega))
            have c6 := sub_cell (hrw.v 3 (by omega))
            have c7 := sub_cell (hrw.v 4 (by omega))
            have c8 := sub_cell (hrw.v 5 (by omega))
            have c9 := sub_cell (hrw.v 6 (by omega))
            have c10 := sub_cell (hrw.v 7 (by omega))
            have d0 := sub_cell (hrw'.c0)
            have d1 := sub_cell (hrw'.c1)
            have d2 := sub_cell (hrw'.c2)
            have d3 := sub_cell (hrw'.v 0 (by omega))
            have d4 := sub_cell (hrw'.v 1 (by omega))
            have d5 := sub_cell (hrw'.v 2 (by omega))
            have d6 := sub_cell (hrw'.v 3 (by omega))
            have d7 := sub_cell (hrw'.v 4 (by omega))
            have d8 := sub_cell (hrw'.v 5 (by omega))
            have d9 := sub_cell (hrw'.v 6 (by omega))
            have d10 := sub_cell (hrw'.v 7 (by omega))
            simp only [Nat.add_assoc, Nat.reduceAdd] at c3 c4 c5 c6 c7 c8 c9 c10 d3 d4 d5 d6 d7 d8 d9 d10
            clear hP5 Hpq hrw hrw'
            have hq61 : ∀ (x : Sub w5) (y0 y1 y2 a0 a1 a2 a3 a4 a5 a6 a7 : Int), (binOp .neq 61 (.agg #[.int .i64 y0, .int .i64 y1, .int .i64 y2, .int .i64 a0, .int .i64 a1, .int .i64 a2, .int .i64 a3, .int .i64 a4, .int .i64 a5, .int .i64 a6, .int .i64 a7]) (.agg #[.int .i64 y0, .int .i64 y1, .int .i64 y2, .int .i64 a0, .int .i64 a1, .int .i64 a2, .int .i64 a3, .int .i64 a4, .int .i64 a5, .int .i64 a6, .int .i64 a7])).run Try.prog x.val = .ok (.bool false) x.val := fun x y0 y1 y2 a0 a1 a2 a3 a4 a5 a6 a7 => neq61 y0 y1 y2 a0 a1 a2 a3 a4 a5 a6 a7 x.val
            generalize rowOf X k = rr at *
            by_cases h1 : oi = bi
            · subst h1
              have h2 : ¬ og = bg := fun h => hne2 ⟨rfl, h⟩
              have h3 : (og == bg) = false := by simpa using h2
              have h4 : (bg == og) = false := by simpa using Ne.symm h2
              clear hne2 he hq
              refine wp_region_sub (by kernel_rfl) (by kernel_rfl) ?_
              repeat (go_big_quiet_step (fail))
              refine wpQuiet_nil ?_
              rintro w6 ⟨xs6, hxs6⟩
              have hb6 := xs6.bel
              rw [← hxs6] at hb6
              clear hxs6 xs6 hne b0 b1 o0 o1 c0 d0 c1 d1 c2 d2 c3 d3 c4 d4 c5 d5 c6 d6 c7 d7 c8 d8 c9 d9 c10 d10
              go_wp2
              go_roundw
              case rel => exact ⟨2, by omega, by go_num, ((unhide HP5).below hb6).toPR⟩
              case measure => simp [intOf]
            · have h3 : (oi == bi) = false := by simpa using h1
              clear hne2 he hq
              refine wp_region_sub (by kernel_rfl) (by kernel_rfl) ?_
              repeat (go_big_quiet_step (fail))
              refine wpQuiet_nil ?_
              rintro w6 ⟨xs6, hxs6⟩
              have hb6 := xs6.bel
              rw [← hxs6] at hb6
              clear hxs6 xs6 hne b0 b1 o0 o1 c0 d0 c1 d1 c2 d2 c3 d3 c4 d4 c5 d5 c6 d6 c7 d7 c8 d8 c9 d9 c10 d10
              go_wp2
              go_roundw
              case rel => exact ⟨2, by omega, by go_num, ((unhide HP5).below hb6).toPR⟩
              case measure => simp [intOf]
      · have hC : ∀ W, WldAt W A cap G gcap X → Calls Try.prog 42 #[.agg #[.slice A X.rows.length cap, .slice G X.gens.length gcap], .agg #[.int .i64 bi, .int .i64 bg]] W fun e w' => ∃ A1 c1 G1 gc1, e = .returned (.tuple #[.agg #[.slice A1 0 c1, .slice G1 0 gc1], .int .i64 (killF X bi bg).1]) ∧ Below W.heap.size W w' := fun W h => by
          have := kill_any A cap G gcap X bi bg W hn0 h
          rw [hE0 H] at this
          exact this.mono fun e w' ⟨A1, c1, G1, gc1, he, hN, hb⟩ => ⟨A1, c1, G1, gc1, he, hb⟩
        generalize (killF X bi bg).1 = er at *
        have HC := hide hC
        clear hC hE0 HWY HPP Hpp
        go_wp2_with (first
          | (go_at_call 42; refine (unhide HC _ (((unhide HX).below (unhide HP).bel).below (bel1 _ _))).mono ?_; rintro e w2 ⟨A1, c1, G1, gc1, rfl, hb2⟩; have HPX := hide ((PX.new (unhide HP)).below hb2); clear hb2 HC p0 p1 b0 b1)
          | (refine wpList_putN rfl 38 (.tmp 14) (.tmp 51) rfl W0.heap.size 0 [.slice A1 0 c1, .slice G1 0 gc1] rfl rfl (by simp [Value.oneCell']) size38 (unhide HPX).there ?_; intro W3 hW3; have h3 := (unhide HPX).give (.slice A1 0 c1) (.slice G1 0 gc1); rw [← hW3] at h3; have x0 := h3.x0; have x1 := h3.x1; have HP3 := hide h3; clear hW3 h3 HPX)
          | (go_at_call 36; refine (unhide HSE _ _ _ _ _).mono ?_; rintro e w4 ⟨rfl, hb4⟩; have HP4 := hide ((unhide HP3).below hb4); clear hb4 HP3 HSE x0 x1))
        go_roundw
        case rel => exact ⟨2, by omega, by go_num, (unhide HP4).toPR⟩
        case measure => simp [intOf]
    · have hE0 : ∀ H : (putF X bi bg p n).1 ≠ 0, (putF X bi bg p n).2 = emptyW := fun H => ch_no H
      by_cases H : (putF X bi bg p n).1 = 0
      · have hC : ∀ W, WldAt W A cap G gcap X → Calls Try.prog 44 #[.agg #[.slice A X.rows.length cap, .slice G X.gens.length gcap], .agg #[.int .i64 bi, .int .i64 bg], .int .i64 p, .int .i64 n] W fun e w' => ∃ A1 c1 G1 gc1, e = .returned (.tuple #[.agg #[.slice A1 (putF X bi bg p n).2.rows.length c1, .slice G1 (putF X bi bg p n).2.gens.length gc1], .int .i64 0]) ∧ WldNew W.heap.size w' A1 c1 G1 gc1 (putF X bi bg p n).2 ∧ Below W.heap.size W w' := fun W h => by
          have := put_any A cap G gcap X bi bg p n W hn0 h
          rw [H] at this
          exact this.mono fun e w' ⟨A1, c1, G1, gc1, he, hN, hb⟩ => ⟨A1, c1, G1, gc1, he, hN, hb⟩
        have hrY : RightW (putF X bi bg p n).2 := (put_keeps H).1
        have hkY : (oi, og) ≠ (bi, bg) → Keeps X (putF X bi bg p n).2 oi og := fun hne => (put_keeps H).2 oi og hne
        have hlY := (right_hr ((right_iff _).2 hrY)).1
        have HWZ := hide (unhide HWY _ hrY)
        have HC := hide hC
        have HK := hide hkY
        clear hC hkY hrY hE0 H HWY HSE
        generalize (putF X bi bg p n).2 = Y at *
        go_wp2_with (first
          | (go_at_call 44; refine (unhide HC _ (((unhide HX).below (unhide HP).bel).below (bel1 _ _))).mono ?_; rintro e w2 ⟨A1, c1, G1, gc1, rfl, hN, hb2⟩; have HPX := hide ((PX.new (unhide HP)).below hb2); have HN := hide hN; clear hN hb2 HC p0 p1 b0 b1)
          | (refine wpList_putN rfl 38 (.tmp 14) (.tmp 61) rfl W0.heap.size 0 [.slice A1 Y.rows.length c1, .slice G1 Y.gens.length gc1] rfl rfl (by simp [Value.oneCell']) size38 (unhide HPX).there ?_; intro W3 hW3; have h3 := (unhide HPX).give (.slice A1 Y.rows.length c1) (.slice G1 Y.gens.length gc1); have hY3 := (unhide HN).over (x := W0.heap.size) (by simp) [.slice A1 Y.rows.length c1, .slice G1 Y.gens.length gc1]; rw [← hW3] at h3 hY3; have x0 := h3.x0; have x1 := h3.x1; have HP3 := hide h3; have HY3 := hide hY3; clear hW3 h3 hY3 HPX HN)
          | (go_at_call 34; refine (unhide HWZ _ _ _ _ _ (unhide HY3)).mono ?_; rintro e w4 ⟨rfl, hb4⟩; have HP4 := hide ((unhide HP3).below hb4); have HY4 := hide ((unhide HY3).below hb4); clear hb4 HP3 HY3 HWZ x0 x1))
        obtain ⟨pq, hPQ, hpq⟩ := row_ptr Y hlY oi og A1 c1 G1 gc1 w4 (unhide HY4)
        have hP4 := unhide HP4
        have hne : Nonempty (Sub w4) := ⟨⟨w4, Below.refl _ _⟩⟩
        have p0 := sub_cell hP4.p0
        have p1 := sub_cell hP4.p1
        have o0 := sub_cell hP4.o0
        have o1 := sub_cell hP4.o1
        have x0 := sub_cell hP4.x0
        have x1 := sub_cell hP4.x1
        have HE1 := hide (fun x : Sub w4 => unhide HPP x.val (hP4.bel.trans (x.bel.mono hP4.bel.size)))
        have HE2 := hide (fun x : Sub w4 => hPQ x.val x.bel)
        have Hpq := hide hpq
        clear hP4 hPQ hpq
        refine wp_region_sub (by kernel_rfl) (by kernel_rfl) ?_
        go_big_quiet_step (fail)
        go_big_quiet_step (fail)
        go_big_quiet_step ((go_at_call 49; exact sub_bel (unhide HE1 _)))
        go_big_quiet_step (fail)
        go_big_quiet_step (fail)
        go_big_quiet_step ((go_at_call 49; exact sub_bel (unhide HE2 _)))
        repeat (go_big_quiet_step (fail))
        refine wpQuiet_nil ?_
        rintro w5 ⟨xs, hxs⟩
        have hb5 := xs.bel
        rw [← hxs] at hb5
        have HP5 := hide ((unhide HP4).below hb5)
        clear hxs xs p0 p1 o0 o1 x0 x1 hne HE1 HE2
        go_wp2
        have hP5 := unhide HP5
        have hne : Nonempty (Sub w5) := ⟨⟨w5, Below.refl _ _⟩⟩
        have b0 := sub_cell hP5.b0
        have b1 := sub_cell hP5.b1
        have o0 := sub_cell hP5.o0
        have o1 := sub_cell hP5.o1
        rcases unhide Hpp with ⟨hpn, _⟩ | ⟨k, b, o, hps, hk, hf, hrw⟩
        · subst hpn
          clear hP5 Hpq
          refine wp_region_sub (by kernel_rfl) (by kernel_rfl) ?_
          repeat (go_big_quiet_step (fail))
          refine wpQuiet_nil ?_
          rintro w6 ⟨xs6, hxs6⟩
          have hb6 := xs6.bel
          rw [← hxs6] at hb6
          clear hxs6 xs6 hne b0 b1 o0 o1
          go_wp2
          go_roundw
          case rel => exact ⟨3, by omega, by go_num, ((unhide HP5).below hb6).toPR⟩
          case measure => simp [intOf]
        · subst hps
          by_cases he : (oi, og) = (bi, bg)
          · have e1 : oi = bi := congrArg Prod.fst he
            have e2 : og = bg := congrArg Prod.snd he
            subst e1 e2
            clear hP5 Hpq hrw
            refine wp_region_sub (by kernel_rfl) (by kernel_rfl) ?_
            repeat (go_big_quiet_step (fail))
            refine wpQuiet_nil ?_
            rintro w6 ⟨xs6, hxs6⟩
            have hb6 := xs6.bel
            rw [← hxs6] at hb6
            clear hxs6 xs6 hne b0 b1 o0 o1
            go_wp2
            go_roundw
            case rel => exact ⟨3, by omega, by go_num, ((unhide HP5).below hb6).toPR⟩
            case measure => simp [intOf]
          · have hne2 : ¬ (oi = bi ∧ og = bg) := fun h => he (by rw [h.1, h.2])
            have hq : ∀ x : Sub w5, (binOp .neq 40 (.agg #[.int .i64 oi, .int .i64 og]) (.agg #[.int .i64 bi, .int .i64 bg])).run Try.prog x.val = .ok (.bool true) x.val := fun x => neq40_ne hne2 x.val
            obtain ⟨j', hj', hf', er'⟩ := unhide HK he k hk hf
            rcases unhide Hpq with ⟨_, hno⟩ | ⟨k', b', o', hqs, hk', hfk, hrw'⟩
            · omega
            subst hqs
            obtain rfl : k' = j' := by omega
            rw [er'] at hrw'
            have hrw := hrw.below hP5.bel
            have hrw' := hrw'.below hb5
            have c0 := sub_cell (hrw.c0)
            have c1 := sub_cell (hrw.c1)
            have c2 := sub_cell (hrw.c2)
            have c3 := sub_cell (hrw.v 0 (by omega))
            have c4 := sub_cell (hrw.v 1 (by omega))
            have c5 := sub_cell (hrw.v 2 (by omega))
            have c6 := sub_cell (hrw.v 3 (by omega))
            have c7 := sub_cell (hrw.v 4 (by omega))
            have c8 := sub_cell (hrw.v 5 (by omega))
            have c9 := sub_cell (hrw.v 6 (by omega))
            have c10 := sub_cell (hrw.v 7 (by omega))
            have d0 := sub_cell (hrw'.c0)
            have d1 := sub_cell (hrw'.c1)
            have d2 := sub_cell (hrw'.c2)
            have d3 := sub_cell (hrw'.v 0 (by omega))
            have d4 := sub_cell (hrw'.v 1 (by omega))
            have d5 := sub_cell (hrw'.v 2 (by omega))
            have d6 := sub_cell (hrw'.v 3 (by omega))
            have d7 := sub_cell (hrw'.v 4 (by omega))
            have d8 := sub_cell (hrw'.v 5 (by omega))
            have d9 := sub_cell (hrw'.v 6 (by omega))
            have d10 := sub_cell (hrw'.v 7 (by omega))
            simp only [Nat.add_assoc, Nat.reduceAdd] at c3 c4 c5 c6 c7 c8 c9 c10 d3 d4 d5 d6 d7 d8 d9 d10
            clear hP5 Hpq hrw hrw'
            have hq61 : ∀ (x : Sub w5) (y0 y1 y2 a0 a1 a2 a3 a4 a5 a6 a7 : Int), (binOp .neq 61 (.agg #[.int .i64 y0, .int .i64 y1, .int .i64 y2, .int .i64 a0, .int .i64 a1, .int .i64 a2, .int .i64 a3, .int .i64 a4, .int .i64 a5, .int .i64 a6, .int .i64 a7]) (.agg #[.int .i64 y0, .int .i64 y1, .int .i64 y2, .int .i64 a0, .int .i64 a1, .int .i64 a2, .int .i64 a3, .int .i64 a4, .int .i64 a5, .int .i64 a6, .int .i64 a7])).run Try.prog x.val = .ok (.bool false) x.val := fun x y0 y1 y2 a0 a1 a2 a3 a4 a5 a6 a7 => neq61 y0 y1 y2 a0 a1 a2 a3 a4 a5 a6 a7 x.val
            generalize rowOf X k = rr at *
            by_cases h1 : oi = bi
            · subst h1
              have h2 : ¬ og = bg := fun h => hne2 ⟨rfl, h⟩
              have h3 : (og == bg) = false := by simpa using h2
              have h4 : (bg == og) = false := by simpa using Ne.symm h2
              clear hne2 he hq
              refine wp_region_sub (by kernel_rfl) (by kernel_rfl) ?_
              repeat (go_big_quiet_step (fail))
              refine wpQuiet_nil ?_
              rintro w6 ⟨xs6, hxs6⟩
              have hb6 := xs6.bel
              rw [← hxs6] at hb6
              clear hxs6 xs6 hne b0 b1 o0 o1 c0 d0 c1 d1 c2 d2 c3 d3 c4 d4 c5 d5 c6 d6 c7 d7 c8 d8 c9 d9 c10 d10
              go_wp2
              go_roundw
              case rel => exact ⟨3, by omega, by go_num, ((unhide HP5).below hb6).toPR⟩
              case measure => simp [intOf]
            · have h3 : (oi == bi) = false := by simpa using h1
              clear hne2 he hq
              refine wp_region_sub (by kernel_rfl) (by kernel_rfl) ?_
              repeat (go_big_quiet_step (fail))
              refine wpQuiet_nil ?_
              rintro w6 ⟨xs6, hxs6⟩
              have hb6 := xs6.bel
              rw [← hxs6] at hb6
              clear hxs6 xs6 hne b0 b1 o0 o1 c0 d0 c1 d1 c2 d2 c3 d3 c4 d4 c5 d5 c6 d6 c7 d7 c8 d8 c9 d9 c10 d10
              go_wp2
              go_roundw
              case rel => exact ⟨3, by omega, by go_num, ((unhide HP5).below hb6).toPR⟩
              case measure => simp [intOf]
      · have hC : ∀ W, WldAt W A cap G gcap X → Calls Try.prog 44 #[.agg #[.slice A X.rows.length cap, .slice G X.gens.length gcap], .agg #[.int .i64 bi, .int .i64 bg], .int .i64 p, .int .i64 n] W fun e w' => ∃ A1 c1 G1 gc1, e = .returned (.tuple #[.agg #[.slice A1 0 c1, .slice G1 0 gc1], .int .i64 (putF X bi bg p n).1]) ∧ Below W.heap.size W w' := fun W h => by
          have := put_any A cap G gcap X bi bg p n W hn0 h
          rw [hE0 H] at this
          exact this.mono fun e w' ⟨A1, c1, G1, gc1, he, hN, hb⟩ => ⟨A1, c1, G1, gc1, he, hb⟩
        generalize (putF X bi bg p n).1 = er at *
        have HC := hide hC
        clear hC hE0 HWY HPP Hpp
        go_wp2_with (first
          | (go_at_call 44; refine (unhide HC _ (((unhide HX).below (unhide HP).bel).below (bel1 _ _))).mono ?_; rintro e w2 ⟨A1, c1, G1, gc1, rfl, hb2⟩; have HPX := hide ((PX.new (unhide HP)).below hb2); clear hb2 HC p0 p1 b0 b1)
          | (refine wpList_putN rfl 38 (.tmp 14) (.tmp 61) rfl W0.heap.size 0 [.slice A1 0 c1, .slice G1 0 gc1] rfl rfl (by simp [Value.oneCell']) size38 (unhide HPX).there ?_; intro W3 hW3; have h3 := (unhide HPX).give (.slice A1 0 c1) (.slice G1 0 gc1); rw [← hW3] at h3; have x0 := h3.x0; have x1 := h3.x1; have HP3 := hide h3; clear hW3 h3 HPX)
          | (go_at_call 36; refine (unhide HSE _ _ _ _ _).mono ?_; rintro e w4 ⟨rfl, hb4⟩; have HP4 := hide ((unhide HP3).below hb4); clear hb4 HP3 HSE x0 x1))
        go_roundw
        case rel => exact ⟨3, by omega, by go_num, (unhide HP4).toPR⟩
        case measure => simp [intOf]
    · have hE0 : ∀ H : (dropF X bi bg p).1 ≠ 0, (dropF X bi bg p).2 = emptyW := fun H => ch_no H
      by_cases H : (dropF X bi bg p).1 = 0
      · have hC : ∀ W, WldAt W A cap G gcap X → Calls Try.prog 46 #[.agg #[.slice A X.rows.length cap, .slice G X.gens.length gcap], .agg #[.int .i64 bi, .int .i64 bg], .int .i64 p] W fun e w' => ∃ A1 c1 G1 gc1, e = .returned (.tuple #[.agg #[.slice A1 (dropF X bi bg p).2.rows.length c1, .slice G1 (dropF X bi bg p).2.gens.length gc1], .int .i64 0]) ∧ WldNew W.heap.size w' A1 c1 G1 gc1 (dropF X bi bg p).2 ∧ Below W.heap.size W w' := fun W h => by
          have := drop_any A cap G gcap X bi bg p W hn0 h
          rw [H] at this
          exact this.mono fun e w' ⟨A1, c1, G1, gc1, he, hN, hb⟩ => ⟨A1, c1, G1, gc1, he, hN, hb⟩
        have hrY : RightW (dropF X bi bg p).2 := (drop_keeps H).1
        have hkY : (oi, og) ≠ (bi, bg) → Keeps X (dropF X bi bg p).2 oi og := fun hne => (drop_keeps H).2 oi og hne
        have hlY := (right_hr ((right_iff _).2 hrY)).1
        have HWZ := hide (unhide HWY _ hrY)
        have HC := hide hC
        have HK := hide hkY
        clear hC hkY hrY hE0 H HWY HSE
        generalize (dropF X bi bg p).2 = Y at *
        go_wp2_with (first
          | (go_at_call 46; refine (unhide HC _ (((unhide HX).below (unhide HP).bel).below (bel1 _ _))).mono ?_; rintro e w2 ⟨A1, c1, G1, gc1, rfl, hN, hb2⟩; have HPX := hide ((PX.new (unhide HP)).below hb2); have HN := hide hN; clear hN hb2 HC p0 p1 b0 b1)
          | (refine wpList_putN rfl 38 (.tmp 14) (.tmp 33) rfl W0.heap.size 0 [.slice A1 Y.rows.length c1, .slice G1 Y.gens.length gc1] rfl rfl (by simp [Value.oneCell']) size38 (unhide HPX).there ?_; intro W3 hW3; have h3 := (unhide HPX).give (.slice A1 Y.rows.length c1) (.slice G1 Y.gens.length gc1); have hY3 := (unhide HN).over (x := W0.heap.size) (by simp) [.slice A1 Y.rows.length c1, .slice G1 Y.gens.length gc1]; rw [← hW3] at h3 hY3; have x0 := h3.x0; have x1 := h3.x1; have HP3 := hide h3; have HY3 := hide hY3; clear hW3 h3 hY3 HPX HN)
          | (go_at_call 34; refine (unhide HWZ _ _ _ _ _ (unhide HY3)).mono ?_; rintro e w4 ⟨rfl, hb4⟩; have HP4 := hide ((unhide HP3).below hb4); have HY4 := hide ((unhide HY3).below hb4); clear hb4 HP3 HY3 HWZ x0 x1))
        obtain ⟨pq, hPQ, hpq⟩ := row_ptr Y hlY oi og A1 c1 G1 gc1 w4 (unhide HY4)
        have hP4 := unhide HP4
        have hne : Nonempty (Sub w4) := ⟨⟨w4, Below.refl _ _⟩⟩
        have p0 := sub_cell hP4.p0
        have p1 := sub_cell hP4.p1
        have o0 := sub_cell hP4.o0
        have o1 := sub_cell hP4.o1
        have x0 := sub_cell hP4.x0
        have x1 := sub_cell hP4.x1
        have HE1 := hide (fun x : Sub w4 => unhide HPP x.val (hP4.bel.trans (x.bel.mono hP4.bel.size)))
        have HE2 := hide (fun x : Sub w4 => hPQ x.val x.bel)
        have Hpq := hide hpq
        clear hP4 hPQ hpq
        refine wp_region_sub (by kernel_rfl) (by kernel_rfl) ?_
        go_big_quiet_step (fail)
        go_big_quiet_step (fail)
        go_big_quiet_step ((go_at_call 49; exact sub_bel (unhide HE1 _)))
        go_big_quiet_step (fail)
        go_big_quiet_step (fail)
        go_big_quiet_step ((go_at_call 49; exact sub_bel (unhide HE2 _)))
        repeat (go_big_quiet_step (fail))
        refine wpQuiet_nil ?_
        rintro w5 ⟨xs, hxs⟩
        have hb5 := xs.bel
        rw [← hxs] at hb5
        have HP5 := hide ((unhide HP4).below hb5)
        clear hxs xs p0 p1 o0 o1 x0 x1 hne HE1 HE2
        go_wp2
        have hP5 := unhide HP5
        have hne : Nonempty (Sub w5) := ⟨⟨w5, Below.refl _ _⟩⟩
        have b0 := sub_cell hP5.b0
        have b1 := sub_cell hP5.b1
        have o0 := sub_cell hP5.o0
        have o1 := sub_cell hP5.o1
        rcases unhide Hpp with ⟨hpn, _⟩ | ⟨k, b, o, hps, hk, hf, hrw⟩
        · subst hpn
          clear hP5 Hpq
          refine wp_region_sub (by kernel_rfl) (by kernel_rfl) ?_
          repeat (go_big_quiet_step (fail))
          refine wpQuiet_nil ?_
          rintro w6 ⟨xs6, hxs6⟩
          have hb6 := xs6.bel
          rw [← hxs6] at hb6
          clear hxs6 xs6 hne b0 b1 o0 o1
          go_wp2
          go_roundw
          case rel => exact ⟨4, by omega, by go_num, ((unhide HP5).below hb6).toPR⟩
          case measure => simp [intOf]
        · subst hps
          by_cases he : (oi, og) = (bi, bg)
          · have e1 : oi = bi := congrArg Prod.fst he
            have e2 : og = bg := congrArg Prod.snd he
            subst e1 e2
            clear hP5 Hpq hrw
            refine wp_region_sub (by kernel_rfl) (by kernel_rfl) ?_
            repeat (go_big_quiet_step (fail))
            refine wpQuiet_nil ?_
            rintro w6 ⟨xs6, hxs6⟩
            have hb6 := xs6.bel
            rw [← hxs6] at hb6
            clear hxs6 xs6 hne b0 b1 o0 o1
            go_wp2
            go_roundw
            case rel => exact ⟨4, by omega, by go_num, ((unhide HP5).below hb6).toPR⟩
            case measure => simp [intOf]
          · have hne2 : ¬ (oi = bi ∧ og = bg) := fun h => he (by rw [h.1, h.2])
            have hq : ∀ x : Sub w5, (binOp .neq 40 (.agg #[.int .i64 oi, .int .i64 og]) (.agg #[.int .i64 bi, .int .i64 bg])).run Try.prog x.val = .ok (.bool true) x.val := fun x => neq40_ne hne2 x.val
            obtain ⟨j', hj', hf', er'⟩ := unhide HK he k hk hf
            rcases unhide Hpq with ⟨_, hno⟩ | ⟨k', b', o', hqs, hk', hfk, hrw'⟩
            · omega
            subst hqs
            obtain rfl : k' = j' := by omega
            rw [er'] at hrw'
            have hrw := hrw.below hP5.bel
            have hrw' := hrw'.below hb5
            have c0 := sub_cell (hrw.c0)
            have c1 := sub_cell (hrw.c1)
            have c2 := sub_cell (hrw.c2)
            have c3 := sub_cell (hrw.v 0 (by omega))
            have c4 := sub_cell (hrw.v 1 (by omega))
            have c5 := sub_cell (hrw.v 2 (by omega))
            have c6 := sub_cell (hrw.v 3 (by omega))
            have c7 := sub_cell (hrw.v 4 (by omega))
            have c8 := sub_cell (hrw.v 5 (by omega))
            have c9 := sub_cell (hrw.v 6 (by omega))
            have c10 := sub_cell (hrw.v 7 (by omega))
            have d0 := sub_cell (hrw'.c0)
            have d1 := sub_cell (hrw'.c1)
            have d2 := sub_cell (hrw'.c2)
            have d3 := sub_cell (hrw'.v 0 (by omega))
            have d4 := sub_cell (hrw'.v 1 (by omega))
            have d5 := sub_cell (hrw'.v 2 (by omega))
            have d6 := sub_cell (hrw'.v 3 (by omega))
            have d7 := sub_cell (hrw'.v 4 (by omega))
            have d8 := sub_cell (hrw'.v 5 (by omega))
            have d9 := sub_cell (hrw'.v 6 (by omega))
            have d10 := sub_cell (hrw'.v 7 (by omega))
            simp only [Nat.add_assoc, Nat.reduceAdd] at c3 c4 c5 c6 c7 c8 c9 c10 d3 d4 d5 d6 d7 d8 d9 d10
            clear hP5 Hpq hrw hrw'
            have hq61 : ∀ (x : Sub w5) (y0 y1 y2 a0 a1 a2 a3 a4 a5 a6 a7 : Int), (binOp .neq 61 (.agg #[.int .i64 y0, .int .i64 y1, .int .i64 y2, .int .i64 a0, .int .i64 a1, .int .i64 a2, .int .i64 a3, .int .i64 a4, .int .i64 a5, .int .i64 a6, .int .i64 a7]) (.agg #[.int .i64 y0, .int .i64 y1, .int .i64 y2, .int .i64 a0, .int .i64 a1, .int .i64 a2, .int .i64 a3, .int .i64 a4, .int .i64 a5, .int .i64 a6, .int .i64 a7])).run Try.prog x.val = .ok (.bool false) x.val := fun x y0 y1 y2 a0 a1 a2 a3 a4 a5 a6 a7 => neq61 y0 y1 y2 a0 a1 a2 a3 a4 a5 a6 a7 x.val
            generalize rowOf X k = rr at *
            by_cases h1 : oi = bi
            · subst h1
              have h2 : ¬ og = bg := fun h => hne2 ⟨rfl, h⟩
              have h3 : (og == bg) = false := by simpa using h2
              have h4 : (bg == og) = false := by simpa using Ne.symm h2
              clear hne2 he hq
              refine wp_region_sub (by kernel_rfl) (by kernel_rfl) ?_
              repeat (go_big_quiet_step (fail))
              refine wpQuiet_nil ?_
              rintro w6 ⟨xs6, hxs6⟩
              have hb6 := xs6.bel
              rw [← hxs6] at hb6
              clear hxs6 xs6 hne b0 b1 o0 o1 c0 d0 c1 d1 c2 d2 c3 d3 c4 d4 c5 d5 c6 d6 c7 d7 c8 d8 c9 d9 c10 d10
              go_wp2
              go_roundw
              case rel => exact ⟨4, by omega, by go_num, ((unhide HP5).below hb6).toPR⟩
              case measure => simp [intOf]
            · have h3 : (oi == bi) = false := by simpa using h1
              clear hne2 he hq
              refine wp_region_sub (by kernel_rfl) (by kernel_rfl) ?_
              repeat (go_big_quiet_step (fail))
              refine wpQuiet_nil ?_
              rintro w6 ⟨xs6, hxs6⟩
              have hb6 := xs6.bel
              rw [← hxs6] at hb6
              clear hxs6 xs6 hne b0 b1 o0 o1 c0 d0 c1 d1 c2 d2 c3 d3 c4 d4 c5 d5 c6 d6 c7 d7 c8 d8 c9 d9 c10 d10
              go_wp2
              go_roundw
              case rel => exact ⟨4, by omega, by go_num, ((unhide HP5).below hb6).toPR⟩
              case measure => simp [intOf]
      · have hC : ∀ W, WldAt W A cap G gcap X → Calls Try.prog 46 #[.agg #[.slice A X.rows.length cap, .slice G X.gens.length gcap], .agg #[.int .i64 bi, .int .i64 bg], .int .i64 p] W fun e w' => ∃ A1 c1 G1 gc1, e = .returned (.tuple #[.agg #[.slice A1 0 c1, .slice G1 0 gc1], .int .i64 (dropF X bi bg p).1]) ∧ Below W.heap.size W w' := fun W h => by
          have := drop_any A cap G gcap X bi bg p W hn0 h
          rw [hE0 H] at this
          exact this.mono fun e w' ⟨A1, c1, G1, gc1, he, hN, hb⟩ => ⟨A1, c1, G1, gc1, he, hb⟩
        generalize (dropF X bi bg p).1 = er at *
        have HC := hide hC
        clear hC hE0 HWY HPP Hpp
        go_wp2_with (first
          | (go_at_call 46; refine (unhide HC _ (((unhide HX).below (unhide HP).bel).below (bel1 _ _))).mono ?_; rintro e w2 ⟨A1, c1, G1, gc1, rfl, hb2⟩; have HPX := hide ((PX.new (unhide HP)).below hb2); clear hb2 HC p0 p1 b0 b1)
          | (refine wpList_putN rfl 38 (.tmp 14) (.tmp 33) rfl W0.heap.size 0 [.slice A1 0 c1, .slice G1 0 gc1] rfl rfl (by simp [Value.oneCell']) size38 (unhide HPX).there ?_; intro W3 hW3; have h3 := (unhide HPX).give (.slice A1 0 c1) (.slice G1 0 gc1); rw [← hW3] at h3; have x0 := h3.x0; have x1 := h3.x1; have HP3 := hide h3; clear hW3 h3 HPX)
          | (go_at_call 36; refine (unhide HSE _ _ _ _ _).mono ?_; rintro e w4 ⟨rfl, hb4⟩; have HP4 := hide ((unhide HP3).below hb4); clear hb4 HP3 HSE x0 x1))
        go_roundw
        case rel => exact ⟨4, by omega, by go_num, (unhide HP4).toPR⟩
        case measure => simp [intOf]
    · have HB := hide (unhide HP).bel
      go_wp2
      go_ret
      exact ⟨rfl, unhide HB⟩
theorem right_law (A : Option Addr) (cap : Nat) (G : Option Addr) (gcap : Nat) (X : Wd) (bi bg has p n oi og : Int) (w : World) (hn0 : X.rows.length ≤ 9223372036854775807) (hgn0 : X.gens.length ≤ 9223372036854775807) (hX : WldAt w A cap G gcap X) :
    Calls Try.prog 6 #[wldV A cap G gcap X, beingV bi bg, .int .i64 has, .int .i64 p, .int .i64 n, beingV oi og] w fun e w' => e = .returned (.bool true) ∧ Below w.heap.size w w' := by
  by_cases h0 : (wrongW X).1 = 0
  · exact right_yes A cap G gcap X bi bg has p n oi og w hn0 hX h0
  · exact right_no A cap G gcap X bi bg has p n oi og w hn0 hX h0
end Go.Proofs.Ytnbleebilmghcaa
