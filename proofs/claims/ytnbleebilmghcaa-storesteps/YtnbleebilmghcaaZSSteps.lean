/- The law StoreSteps. -/
import Derived.Test.YtnbleebilmghcaaQP
set_option linter.all false
namespace Go.Proofs.Ytnbleebilmghcaa
open Go Go.RowKit
attribute [local go_sem ↓] Go.wp_at_zero Go.wp_at_succ
theorem wld_lt {W : World} {A : Option Addr} {c : Nat} {G : Option Addr} {gc : Nat} {X : Wd} (h : WldAt W A c G gc X) : (∀ c o, A = some ⟨c, o, none⟩ → 0 < X.rows.length → c < W.heap.size) ∧ (∀ c o, G = some ⟨c, o, none⟩ → 0 < X.gens.length → c < W.heap.size) := by
  refine ⟨fun b o e hl => ?_, fun b o e hl => ?_⟩
  · obtain ⟨b', o', e', hr⟩ := h.rows 0 hl
    rw [e] at e'
    simp only [Option.some.injEq, Addr.mk.injEq, and_true] at e'
    rw [e'.1]
    exact World.block_lt_of_cell? W _ hr.c0
  · obtain ⟨b', o', e', hr⟩ := h.gens 0 hl
    rw [e] at e'
    simp only [Option.some.injEq, Addr.mk.injEq, and_true] at e'
    rw [e'.1]
    exact World.block_lt_of_cell? W _ hr
theorem wld_turn {W : World} {A : Option Addr} {c : Nat} {G : Option Addr} {gc : Nat} {X : Wd} {B : Nat} (h : WldAt W A c G gc X) {b o : Nat} {vs : List Value} (hB : (∀ c o, A = some ⟨c, o, none⟩ → 0 < X.rows.length → c < B) ∧ (∀ c o, G = some ⟨c, o, none⟩ → 0 < X.gens.length → c < B)) (hb : B ≤ b := by omega) : WldAt (W.setCells b o vs) A c G gc X := by
  refine ⟨fun j hj => ?_, fun j hj => ?_⟩
  · obtain ⟨b', off, e, hr⟩ := h.rows j hj
    have := hB.1 b' off e (by omega)
    exact ⟨b', off, e, rowAt_others (by omega) hr⟩
  · obtain ⟨b', off, e, hr⟩ := h.gens j hj
    have := hB.2 b' off e (by omega)
    exact ⟨b', off, e, (setcs_other (by simp only [ne_eq]; omega)).trans hr⟩
set_option maxRecDepth 8000 in
set_option maxHeartbeats 8000000 in
theorem steps_wrong (A : Option Addr) (cap : Nat) (G : Option Addr) (gcap : Nat) (X : Wd) (i g has p n : Int) (w : World) (hn0 : X.rows.length ≤ 9223372036854775807) (hX : WldAt w A cap G gcap X) (hw0 : (wrongW X).1 ≠ 0) :
    Calls Try.prog 11 #[wldV A cap G gcap X, beingV i g, .int .i64 has, .int .i64 p, .int .i64 n] w fun e w' => e = .returned (.bool true) ∧ Below w.heap.size w w' := by
  have hOF := fun W (hb : Below w.heap.size w W) => of_wrong A cap G gcap X W hn0 (hX.below hb) hw0
  unfold wldV worldV stV at hOF
  generalize (wrongW X).2 = wa at *
  generalize (wrongW X).1 = we at *
  have HOF := hide hOF
  clear hOF
  have hB0 := Bxs.start w [([.slice A X.rows.length cap, .slice G X.gens.length gcap], 38), ([.int .i64 i, .int .i64 g], 40)]
  have hb0 := allocs_below [([.slice A X.rows.length cap, .slice G X.gens.length gcap], 38), ([.int .i64 i, .int .i64 g], 40)] w
  have hs0 := allocs_size [([.slice A X.rows.length cap, .slice G X.gens.length gcap], 38), ([.int .i64 i, .int .i64 g], 40)] w
  obtain ⟨W0, hW0⟩ : ∃ W0, W0 = allocs w [([.slice A X.rows.length cap, .slice G X.gens.length gcap], 38), ([.int .i64 i, .int .i64 g], 40)] := ⟨_, rfl⟩
  rw [← hW0] at hB0 hb0 hs0
  have hW0' : (w.alloc (.cells #[.slice A X.rows.length cap, .slice G X.gens.length gcap] 38)).alloc (.cells #[.int .i64 i, .int .i64 g] 40) = W0 := hW0.symm
  have HW0 := hide hW0'
  have HB0 := hide hB0
  have HL0 := hide hb0
  have HX := hide hX
  have HS0 := hide hs0
  clear hW0 hW0' hB0 hb0 hX hs0
  unfold wldV worldV beingV
  go_enter Try.func11, Try.ntmps11
  go_wp2_with fail
  go_at_call 66
  rw [unhide HW0]
  refine (alive3_any W0).mono ?_
  rintro e w1 ⟨rfl, hb1⟩
  have hB1 := (unhide HB0).below hb1
  have hL1 := (unhide HL0).trans (hb1.mono (unhide HL0).size)
  have HS1 : Hid (w.heap.size + 2 ≤ w1.heap.size) := hide (by have := hb1.size; rw [unhide HS0] at this; simpa using this)
  have c0 := hB1.cell 0 rfl 0 rfl
  have c1 := hB1.cell 0 rfl 1 rfl
  rw [Nat.add_zero] at c0 c1
  have HB1 := hide hB1
  have HL1 := hide hL1
  clear hB1 hL1 hb1 HW0 HB0 HL0 HS0
  go_wp2_with fail
  go_at_call 60
  refine (unhide HOF _ (unhide HL1)).mono ?_
  rintro e w2 ⟨rfl, hb2⟩
  have HL2 := hide ((unhide HL1).trans (hb2.mono (unhide HL1).size))
  clear c0 c1 hb2 HL1 HB1 HOF
  go_wp2
  go_ret
  refine ⟨rfl, (unhide HL2).trans ((bel2 _ _ _).mono (unhide HL2).size)⟩
set_option maxRecDepth 8000 in
set_option maxHeartbeats 8000000 in
theorem steps_right (A : Option Addr) (cap : Nat) (G : Option Addr) (gcap : Nat) (X : Wd) (i g has p n : Int) (w : World) (hX : WldAt w A cap G gcap X) (hr : RightW X) :
    Calls Try.prog 11 #[wldV A cap G gcap X, beingV i g, .int .i64 has, .int .i64 p, .int .i64 n] w fun e w' => e = .returned (.bool true) ∧ Below w.heap.size w w' := by
  obtain ⟨hl, hgl, _⟩ := right_hr ((right_iff X).2 hr)
  have hOF := fun W (hb : Below w.heap.size w W) => of_right A cap G gcap X W (hX.below hb) hr
  unfold wldV worldV stV at hOF
  have HOF := hide hOF
  clear hOF hr
  have hB0 := Bxs.start w [([.slice A X.rows.length cap, .slice G X.gens.length gcap], 38), ([.int .i64 i, .int .i64 g], 40)]
  have hb0 := allocs_below [([.slice A X.rows.length cap, .slice G X.gens.length gcap], 38), ([.int .i64 i, .int .i64 g], 40)] w
  have hs0 := allocs_size [([.slice A X.rows.length cap, .slice G X.gens.length gcap], 38), ([.int .i64 i, .int .i64 g], 40)] w
  obtain ⟨W0, hW0⟩ : ∃ W0, W0 = allocs w [([.slice A X.rows.length cap, .slice G X.gens.length gcap], 38), ([.int .i64 i, .int .i64 g], 40)] := ⟨_, rfl⟩
  rw [← hW0] at hB0 hb0 hs0
  have hW0' : (w.alloc (.cells #[.slice A X.rows.length cap, .slice G X.gens.length gcap] 38)).alloc (.cells #[.int .i64 i, .int .i64 g] 40) = W0 := hW0.symm
  have HW0 := hide hW0'
  have HB0 := hide hB0
  have HL0 := hide hb0
  have HX := hide hX
  have HS0 := hide hs0
  clear hW0 hW0' hB0 hb0 hX hs0
  unfold wldV worldV beingV
  go_enter Try.func11, Try.ntmps11
  go_wp2_with fail
  go_at_call 66
  rw [unhide HW0]
  refine (alive3_any W0).mono ?_
  rintro e w1 ⟨rfl, hb1⟩
  have hB1 := (unhide HB0).below hb1
  have hL1 := (unhide HL0).trans (hb1.mono (unhide HL0).size)
  have HS1 : Hid (w.heap.size + 2 ≤ w1.heap.size) := hide (by have := hb1.size; rw [unhide HS0] at this; simpa using this)
  have c0 := hB1.cell 0 rfl 0 rfl
  have c1 := hB1.cell 0 rfl 1 rfl
  rw [Nat.add_zero] at c0 c1
  have HB1 := hide hB1
  have HL1 := hide hL1
  clear hB1 hL1 hb1 HW0 HB0 HL0 HS0
  go_wp2_with fail
  go_at_call 60
  refine (unhide HOF _ (unhide HL1)).mono ?_
  rintro e w2 ⟨T2, tc2, G2, gc2, rfl, hN2, hb2⟩
  have hB2 := Bxs.start w2 [([.slice T2 (tabsW X).length tc2, .slice G2 X.gens.length gc2], 71), ([.int .i64 0, .int .i64 0], 43)]
  have hb3 := allocs_below [([.slice T2 (tabsW X).length tc2, .slice G2 X.gens.length gc2], 71), ([.int .i64 0, .int .i64 0], 43)] w2
  have hs3 := allocs_size [([.slice T2 (tabsW X).length tc2, .slice G2 X.gens.length gc2], 71), ([.int .i64 0, .int .i64 0], 43)] w2
  obtain ⟨W3, hW3⟩ : ∃ W3, W3 = allocs w2 [([.slice T2 (tabsW X).length tc2, .slice G2 X.gens.length gc2], 71), ([.int .i64 0, .int .i64 0], 43)] := ⟨_, rfl⟩
  rw [← hW3] at hB2 hb3 hs3
  have hL2 := (unhide HL1).trans (hb2.mono (unhide HL1).size)
  have HL3 := hide (hL2.trans (hb3.mono hL2.size))
  have HB3 := hide (((unhide HB1).below hb2).below hb3)
  have HC3 := hide hB2
  have HT3 := hide (hN2.below hb3).st
  have HX3 := hide ((unhide HX).below (hL2.trans (hb3.mono hL2.size)))
  have HZ3 : Hid (w.heap.size + 2 ≤ W3.heap.size) := hide (by have := unhide HS1; have := hb2.size; have := hb3.size; omega)
  have hW3' : (w2.alloc (.cells #[.slice T2 (tabsW X).length tc2, .slice G2 X.gens.length gc2] 71)).alloc (.cells #[.int .i64 0, .int .i64 0] 43) = W3 := hW3.symm
  have HW3 := hide hW3'
  clear c0 c1 hB2 hb3 hb2 hL2 hW3 hW3' hN2 HB1 HL1 HOF HX HS1 hs3
  go_wp2_with fail
  rw [unhide HW3]
  go_loopw [30] (fun x wr => ∃ k : Int, (k = 0 ∨ k = 1 ∨ k = 2 ∨ k = 3 ∨ k = 4) ∧ x = .int .i64 k ∧ Below W3.heap.size W3 wr) (fun x _ => 4 - (intOf x).toNat)
  case atStart => exact ⟨0, by omega, rfl, Below.refl _ _⟩
  case round =>
    obtain ⟨k, hk, rfl, hbr⟩ := hrel
    by_cases hk4 : k = 4
    · subst hk4
      have HE := hide hbr
      clear hbr
      go_wp2
      go_ret
      exact ⟨rfl, (unhide HL3).trans ((unhide HE).mono (unhide HL3).size)⟩
    · have hz0 : W3.heap.size ≤ wr.heap.size := hbr.size
      have HZR : Hid (w.heap.size + 2 ≤ wr.heap.size) := hide (by have := unhide HZ3; omega)
      obtain ⟨W4, hW4⟩ : ∃ W4, W4 = allocs wr [([.slice none 0 0, .slice none 0 0], 71), ([.slice none 0 0, .slice none 0 0], 38), ([.int .i64 0, .int .i64 0], 40), ([.int .i64 0, .int .i64 0], 40)] := ⟨_, rfl⟩
      have hD4 := Bxs.start wr [([.slice none 0 0, .slice none 0 0], 71), ([.slice none 0 0, .slice none 0 0], 38), ([.int .i64 0, .int .i64 0], 40), ([.int .i64 0, .int .i64 0], 40)]
      have hb4 := allocs_below [([.slice none 0 0, .slice none 0 0], 71), ([.slice none 0 0, .slice none 0 0], 38), ([.int .i64 0, .int .i64 0], 40), ([.int .i64 0, .int .i64 0], 40)] wr
      have hs4 := allocs_size [([.slice none 0 0, .slice none 0 0], 71), ([.slice none 0 0, .slice none 0 0], 38), ([.int .i64 0, .int .i64 0], 40), ([.int .i64 0, .int .i64 0], 40)] wr
      rw [← hW4] at hD4 hb4 hs4
      have hL4 : Below W3.heap.size W3 W4 := hbr.trans (hb4.mono hbr.size)
      have hB4 := (unhide HB3).below hL4
      have hC4 := (unhide HC3).below hL4
      have HT4 := hide ((unhide HT3).below hL4)
      have HX4 := hide ((unhide HX3).below hL4)
      have HZ4 : Hid (wr.heap.size + 4 ≤ W4.heap.size) := hide (by rw [hs4]; simp)
      have HXB : Hid ((∀ c o, A = some ⟨c, o, none⟩ → 0 < X.rows.length → c < wr.heap.size) ∧ (∀ c o, G = some ⟨c, o, none⟩ → 0 < X.gens.length → c < wr.heap.size)) := hide (wld_lt ((unhide HX3).below hbr))
      have s0 := hC4.cell 0 rfl 0 rfl
      have s1 := hC4.cell 0 rfl 1 rfl
      rw [Nat.add_zero] at s0 s1
      have b0 := hB4.cell 1 rfl 0 rfl
      have b1 := hB4.cell 1 rfl 1 rfl
      have hW4' : (((wr.alloc (.cells #[.slice none 0 0, .slice none 0 0] 71)).alloc (.cells #[.slice none 0 0, .slice none 0 0] 38)).alloc (.cells #[.int .i64 0, .int .i64 0] 40)).alloc (.cells #[.int .i64 0, .int .i64 0] 40) = W4 := hW4.symm
      have HW4 := hide hW4'
      have HD4 := hide hD4
      have HB4 := hide hB4
      have HL4 := hide hL4
      have HZ0 := hide hz0
      clear hD4 hb4 hs4 hL4 hB4 hC4 hW4 hW4' hbr hz0
      rcases (by omega : k = 0 ∨ k = 1 ∨ k = 2 ∨ k = 3) with rfl | rfl | rfl | rfl
      · have hSC := fun W (h : StAt W T2 G2 (tabsW X) X) => sspawn_any T2 tc2 G2 gc2 (tabsW X) X has n W h
        have hPC := fun W (h : WldAt W A cap G gcap X) => spawn_any A cap G gcap X has n W (by omega) h
        have hYR : (spawnF X has n).1 = 0 → RightW ((spawnF X has n).2.2) := fun e => (spawn_keeps e 0 0).1
        obtain ⟨Y, hY⟩ : ∃ Y, Y = (spawnF X has n).2.2 := ⟨_, rfl⟩
        obtain ⟨err, herr⟩ : ∃ err, err = (spawnF X has n).1 := ⟨_, rfl⟩
        rw [← hY, ← herr] at hSC hPC hYR
        obtain ⟨ci, hci⟩ : ∃ ci, ci = (spawnF X has n).2.1.1 := ⟨_, rfl⟩
        obtain ⟨cg, hcg⟩ : ∃ cg, cg = (spawnF X has n).2.1.2 := ⟨_, rfl⟩
        rw [← hci, ← hcg] at hSC hPC
        clear hci hcg
        unfold stV beingV at hSC
        unfold wldV worldV beingV at hPC
        have HSC := hide hSC
        have HPC := hide hPC
        have HYR := hide hYR
        clear hSC hPC hYR hY herr
        go_upto_region 13 with fail
        rw [unhide HW4]
        go_wp2_with fail
        go_at_call 62
        refine (unhide HSC _ (unhide HT4)).mono ?_
        rintro e w5 ⟨T5, tc5, G5, gc5, rfl, hN5, hb5⟩
        have HB5 := hide ((unhide HB4).below hb5)
        have HD5 := hide ((unhide HD4).below hb5)
        have HL5 := hide ((unhide HL4).trans (hb5.mono (by have := unhide HZ4; have := unhide HZ0; omega)))
        have HX5 := hide ((unhide HX4).below hb5)
        have HN5 := hide (hN5.le (base' := wr.heap.size + 4) (unhide HZ4))
        clear hN5 hb5 s0 s1 b0 b1
        go_wp2_with (first
          | (refine wpList_putN rfl 71 (.tmp 14) (.tmp 55) rfl (wr.heap.size + 0) 0 [.slice T5 (tabsW Y).length tc5, .slice G5 Y.gens.length gc5] rfl rfl (by simp [Value.oneCell']) size71 ((unhide HD5).there 0 rfl 2 rfl) ?_; intro W6 hW; have q1 := (unhide HD5).give 0 rfl [.slice T5 (tabsW Y).length tc5, .slice G5 Y.gens.length gc5] rfl; have q2 := (unhide HB5).turn (cb := wr.heap.size + 0) (o := 0) (vs := [.slice T5 (tabsW Y).length tc5, .slice G5 Y.gens.length gc5]) (.inr (by have := unhide HZR; simp only [List.length_cons, List.length_nil]; omega)); have q3 := below_setCells (wr.heap.size + 0) (by have := unhide HZ0; omega) [.slice T5 (tabsW Y).length tc5, .slice G5 Y.gens.length gc5] 0 _ (unhide HL5); have q4 := wld_turn (unhide HX5) (b := wr.heap.size + 0) (o := 0) (vs := [.slice T5 (tabsW Y).length tc5, .slice G5 Y.gens.length gc5]) (unhide HXB); have q5 := (unhide HN5).putc (b := wr.heap.size + 0) (o := 0) (vs := [.slice T5 (tabsW Y).length tc5, .slice G5 Y.gens.length gc5]) (by omega); rw [← hW] at q1 q2 q3 q4 q5; have HD6 := hide q1; have HB6 := hide q2; have HL6 := hide q3; have HX6 := hide q4; have HN6 := hide q5; clear hW q1 q2 q3 q4 q5)
          | (refine wpList_putN rfl 40 (.tmp 16) (.tmp 56) rfl (wr.heap.size + 2) 0 [.int .i64 ci, .int .i64 cg] rfl rfl (by simp [Value.oneCell']) size40 ((unhide HD6).there 2 rfl 2 rfl) ?_; intro W7 hW; have q1 := (unhide HD6).give 2 rfl [.int .i64 ci, .int .i64 cg] rfl; have q2 := (unhide HB6).turn (cb := wr.heap.size + 2) (o := 0) (vs := [.int .i64 ci, .int .i64 cg]) (.inr (by have := unhide HZR; simp only [List.length_cons, List.length_nil]; omega)); have q3 := below_setCells (wr.heap.size + 2) (by have := unhide HZ0; omega) [.int .i64 ci, .int .i64 cg] 0 _ (unhide HL6); have q4 := wld_turn (unhide HX6) (b := wr.heap.size + 2) (o := 0) (vs := [.int .i64 ci, .int .i64 cg]) (unhide HXB); have q5 := (unhide HN6).putc (b := wr.heap.size + 2) (o := 0) (vs := [.int .i64 ci, .int .i64 cg]) (by omega); rw [← hW] at q1 q2 q3 q4 q5; have HD7 := hide q1; have HB7 := hide q2; have HL7 := hide q3; have HX7 := hide q4; have HN7 := hide q5; clear hW q1 q2 q3 q4 q5; have a0 := (unhide HB7).cell 0 rfl 0 rfl; have a1 := (unhide HB7).cell 0 rfl 1 rfl; rw [Nat.add_zero] at a0 a1; have b0 := (unhide HB7).cell 1 rfl 0 rfl; have b1 := (unhide HB7).cell 1 rfl 1 rfl))
        go_at_call 40
        refine (unhide HPC _ (unhide HX7)).mono ?_
        rintro e w8 ⟨A8, c8, G8, gc8, rfl, hY8, hb8⟩
        have HB8 := hide ((unhide HB7).below hb8)
        have HD8 := hide ((unhide HD7).below hb8)
        have HL8 := hide ((unhide HL7).trans (hb8.mono (by have := (unhide HD7).sz (by simp); simp only [List.length_set, List.length_cons, List.length_nil] at this; have := unhide HZ0; omega)))
        have HX8 := hide ((unhide HX7).below hb8)
        have HN8 := hide ((unhide HN7).below hb8)
        have HZ8 : Hid (wr.heap.size + 4 ≤ W7.heap.size) := hide (by have := (unhide HD7).sz (by simp); simpa using this)
        have HY8 := hide hY8
        clear hY8 hb8 a0 a1 b0 b1
        go_wp2_with (first
          | (refine wpList_putN rfl 38 (.tmp 15) (.tmp 63) rfl (wr.heap.size + 1) 0 [.slice A8 Y.rows.length c8, .slice G8 Y.gens.length gc8] rfl rfl (by simp [Value.oneCell']) size38 ((unhide HD8).there 1 rfl 2 rfl) ?_; intro W9 hW; have q1 := (unhide HD8).give 1 rfl [.slice A8 Y.rows.length c8, .slice G8 Y.gens.length gc8] rfl; have q2 := (unhide HB8).turn (cb := wr.heap.size + 1) (o := 0) (vs := [.slice A8 Y.rows.length c8, .slice G8 Y.gens.length gc8]) (.inr (by have := unhide HZR; simp only [List.length_cons, List.length_nil]; omega)); have q3 := below_setCells (wr.heap.size + 1) (by have := unhide HZ0; omega) [.slice A8 Y.rows.length c8, .slice G8 Y.gens.length gc8] 0 _ (unhide HL8); have q4 := wld_turn (unhide HX8) (b := wr.heap.size + 1) (o := 0) (vs := [.slice A8 Y.rows.length c8, .slice G8 Y.gens.length gc8]) (unhide HXB); have q5 := (unhide HN8).putc (b := wr.heap.size + 1) (o := 0) (vs := [.slice A8 Y.rows.length c8, .slice G8 Y.gens.length gc8]) (by omega); have q6 := wldnew_putc (unhide HY8) (b := wr.heap.size + 1) (o := 0) (vs := [.slice A8 Y.rows.length c8, .slice G8 Y.gens.length gc8]) (by have := unhide HZ8; omega); rw [← hW] at q1 q2 q3 q4 q5 q6; have HD9 := hide q1; have HB9 := hide q2; have HL9 := hide q3; have HX9 := hide q4; have HN9 := hide q5; have HY9 := hide q6; clear hW q1 q2 q3 q4 q5 q6)
          | (refine wpList_putN rfl 40 (.tmp 17) (.tmp 64) rfl (wr.heap.size + 3) 0 [.int .i64 ci, .int .i64 cg] rfl rfl (by simp [Value.oneCell']) size40 ((unhide HD9).there 3 rfl 2 rfl) ?_; intro W10 hW; have q1 := (unhide HD9).give 3 rfl [.int .i64 ci, .int .i64 cg] rfl; have q2 := (unhide HB9).turn (cb := wr.heap.size + 3) (o := 0) (vs := [.int .i64 ci, .int .i64 cg]) (.inr (by have := unhide HZR; simp only [List.length_cons, List.length_nil]; omega)); have q3 := below_setCells (wr.heap.size + 3) (by have := unhide HZ0; omega) [.int .i64 ci, .int .i64 cg] 0 _ (unhide HL9); have q4 := wld_turn (unhide HX9) (b := wr.heap.size + 3) (o := 0) (vs := [.int .i64 ci, .int .i64 cg]) (unhide HXB); have q5 := (unhide HN9).putc (b := wr.heap.size + 3) (o := 0) (vs := [.int .i64 ci, .int .i64 cg]) (by omega); have q6 := wldnew_putc (unhide HY9) (b := wr.heap.size + 3) (o := 0) (vs := [.int .i64 ci, .int .i64 cg]) (by have := unhide HZ8; omega); rw [← hW] at q1 q2 q3 q4 q5 q6; have HD10 := hide q1; have HB10 := hide q2; have HL10 := hide q3; have HX10 := hide q4; have HN10 := hide q5; have HY10 := hide q6; clear hW q1 q2 q3 q4 q5 q6))
        have HST := hide (unhide HN10).st
        have HWY := hide (unhide HY10).toWldAt
        have HLW := hide (unhide HL10)
        have HDW := hide (unhide HD10)
        clear HSC HPC HX5 HX8 HB5 HB8
        by_cases he0 : err = 0
        · subst he0
          have hr := unhide HYR rfl
          obtain ⟨hyl, hygl, _⟩ := right_hr ((right_iff Y).2 hr)
          clear hr
          have h0 : Below W10.heap.size W10 W10.drew ∧ ((fun (_ : Nat) => false) 18 = true → ∃ A' c' G' gc', undef = .agg #[.slice A' Y.rows.length c', .slice G' Y.gens.length gc'] ∧ WldAt W10.drew A' c' G' gc' Y) := ⟨(Below.refl _ _).drew, fun e => by cases e⟩
          refine wp_region_gho (fun (γ : Value) ix v => if ix = 18 then v = γ else (([fun v => v = .int .i64 0, fun v => v = .int .i64 0, fun v => v = .bool false, fun v => v = .bool false, fun v => v = .agg #[.int .i64 ci, .int .i64 cg], fun v => v = .agg #[.int .i64 ci, .int .i64 cg], fun v => v = .bool false, fun v => v = .bool false, fun v => v = .bool false, fun v => v = .int .i64 0, fun v => v = .bool true, fun v => v = .bool true, fun v => v = .agg #[.slice T5 (tabsW Y).length tc5, .slice G5 Y.gens.length gc5], fun v => v = .agg #[.int .i64 0, .int .i64 0], fun v => v = .int .i64 0, fun v => v = .bool false, fun v => v = .bool false, fun v => v = .agg #[.slice T5 (tabsW Y).length tc5, .slice G5 Y.gens.length gc5], fun _ => True, fun v => v = .agg #[.slice A8 Y.rows.length c8, .slice G8 Y.gens.length gc8], fun v => v = .bool true, fun v => v = .bool false, fun v => v = .bool false, fun v => v = .bool false, fun v => v = .bool false] : List (Value → Prop)).getD ix (fun _ => True)) v) (fun (γ : Value) L W => Below W10.heap.size W10 W ∧ (L 18 = true → ∃ A' c' G' gc', γ = .agg #[.slice A' Y.rows.length c', .slice G' Y.gens.length gc'] ∧ WldAt W A' c' G' gc' Y)) (undef) (by kernel_rfl) (by kernel_rfl) (by kernel_rfl) h0 ?hstep ?hend
          case hstep =>
            intro γ ix o ho L ac w1 hD hL hed hcl hout hv
            match ix, ho with
            | 0, ho =>
              simp at ho
              subst ho
              have e18 : ac.tmps.getD 18 undef = .int .i64 0 := hout 18 (by decide +kernel)
              exact .inl ⟨rfl, gho_reads γ (.int .i64 0) (by simp [go_sem, Act.eval, -Array.getD_eq_getD_getElem?, e18]) rfl (⟨hD.1, by rw [upd_ne (by decide)]; exact hD.2⟩) (fun _ _ _ _ h => h)⟩
            | 1, ho =>
              simp at ho
              subst ho
              have e19 : ac.tmps.getD 19 undef = .int .i64 0 := hout 19 (by decide +kernel)
              exact .inl ⟨rfl, gho_reads γ (.int .i64 0) (by simp [go_sem, Act.eval, -Array.getD_eq_getD_getElem?, e19]) rfl (⟨hD.1, by rw [upd_ne (by decide)]; exact hD.2⟩) (fun _ _ _ _ h => h)⟩
            | 2, ho =>
              simp at ho
              subst ho
              have e98 : ac.tmps.getD 98 undef = .int .i64 0 := hv 0 98 rfl (by kernel_rfl)
              have e99 : ac.tmps.getD 99 undef = .int .i64 0 := hv 1 99 rfl (by kernel_rfl)
              exact .inl ⟨rfl, gho_reads γ (.bool false) (by simp [go_sem, Act.eval, -Array.getD_eq_getD_getElem?, e98, e99]) rfl (⟨hD.1, by rw [upd_ne (by decide)]; exact hD.2⟩) (fun _ _ _ _ h => h)⟩
            | 3, ho =>
              simp at ho
              subst ho
              have e100 : ac.tmps.getD 100 undef = .bool false := hv 2 100 rfl (by kernel_rfl)
              exact .inl ⟨rfl, gho_reads γ (.bool false) (by simp [go_sem, Act.eval, -Array.getD_eq_getD_getElem?, e100]) rfl (⟨hD.1, by rw [upd_ne (by decide)]; exact hD.2⟩) (fun _ _ _ _ h => h)⟩
            | 4, ho =>
              simp at ho
              subst ho
              have eg : ac.tmps.getD 101 undef = .bool false := hv 3 101 rfl (by kernel_rfl)
              have e16 : ac.tmps.getD 16 undef = .pointer (some ⟨wr.heap.size + 2, 0, none⟩) := hout 16 (by decide +kernel)
              have bb := (unhide HDW).below hD.1
              have c0 := bb.cell 2 rfl 0 rfl
              have c1 := bb.cell 2 rfl 1 rfl
              exact .inl ⟨wanted_of rfl rfl eg, gho_reads γ (.agg #[.int .i64 ci, .int .i64 cg]) (by simp [go_sem, Act.eval, -Array.getD_eq_getD_getElem?, e16, c0, c1]) rfl (⟨hD.1, by rw [upd_ne (by decide)]; exact hD.2⟩) (fun _ _ _ _ h => h)⟩
            | 5, ho =>
              simp at ho
              subst ho
              have eg : ac.tmps.getD 101 undef = .bool false := hv 3 101 rfl (by kernel_rfl)
              have e17 : ac.tmps.getD 17 undef = .pointer (some ⟨wr.heap.size + 3, 0, none⟩) := hout 17 (by decide +kernel)
              have bb := (unhide HDW).below hD.1
              have c0 := bb.cell 3 rfl 0 rfl
              have c1 := bb.cell 3 rfl 1 rfl
              exact .inl ⟨wanted_of rfl rfl eg, gho_reads γ (.agg #[.int .i64 ci, .int .i64 cg]) (by simp [go_sem, Act.eval, -Array.getD_eq_getD_getElem?, e17, c0, c1]) rfl (⟨hD.1, by rw [upd_ne (by decide)]; exact hD.2⟩) (fun _ _ _ _ h => h)⟩
            | 6, ho =>
              simp at ho
              subst ho
              have eg : ac.tmps.getD 101 undef = .bool false := hv 3 101 rfl (by kernel_rfl)
              have e102 : ac.tmps.getD 102 undef = .agg #[.int .i64 ci, .int .i64 cg] := hv 4 102 rfl (by kernel_rfl)
              have e103 : ac.tmps.getD 103 undef = .agg #[.int .i64 ci, .int .i64 cg] := hv 5 103 rfl (by kernel_rfl)
              exact .inl ⟨wanted_of rfl rfl eg, gho_reads γ (.bool false) (by simp [go_sem, Act.eval, -Array.getD_eq_getD_getElem?, e102, e103]) rfl (⟨hD.1, by rw [upd_ne (by decide)]; exact hD.2⟩) (fun _ _ _ _ h => h)⟩
            | 7, ho =>
              simp at ho
              subst ho
              have e101 : ac.tmps.getD 101 undef = .bool false := hv 3 101 rfl (by kernel_rfl)
              have e104 : ac.tmps.getD 104 undef = .bool false := hv 6 104 rfl (by kernel_rfl)
              exact .inl ⟨rfl, gho_reads γ (.bool false) (by simp [go_sem, Act.eval, -Array.getD_eq_getD_getElem?, e101, e104]) rfl (⟨hD.1, by rw [upd_ne (by decide)]; exact hD.2⟩) (fun _ _ _ _ h => h)⟩
            | 8, ho =>
              simp at ho
              subst ho
              have e105 : ac.tmps.getD 105 undef = .bool false := hv 7 105 rfl (by kernel_rfl)
              exact .inl ⟨rfl, gho_reads γ (.bool false) (by simp [go_sem, Act.eval, -Array.getD_eq_getD_getElem?, e105]) rfl (⟨hD.1, by rw [upd_ne (by decide)]; exact hD.2⟩) (fun _ _ _ _ h => h)⟩
            | 9, ho =>
              simp at ho
              subst ho
              have eg : ac.tmps.getD 106 undef = .bool false := hv 8 106 rfl (by kernel_rfl)
              have e18 : ac.tmps.getD 18 undef = .int .i64 0 := hout 18 (by decide +kernel)
              exact .inl ⟨wanted_of rfl rfl eg, gho_reads γ (.int .i64 0) (by simp [go_sem, Act.eval, -Array.getD_eq_getD_getElem?, e18]) rfl (⟨hD.1, by rw [upd_ne (by decide)]; exact hD.2⟩) (fun _ _ _ _ h => h)⟩
            | 10, ho =>
              simp at ho
              subst ho
              have eg : ac.tmps.getD 106 undef = .bool false := hv 8 106 rfl (by kernel_rfl)
              have e107 : ac.tmps.getD 107 undef = .int .i64 0 := hv 9 107 rfl (by kernel_rfl)
              exact .inl ⟨wanted_of rfl rfl eg, gho_reads γ (.bool true) (by simp [go_sem, Act.eval, -Array.getD_eq_getD_getElem?, e107]) rfl (⟨hD.1, by rw [upd_ne (by decide)]; exact hD.2⟩) (fun _ _ _ _ h => h)⟩
            | 11, ho =>
              simp at ho
              subst ho
              have eg : ac.tmps.getD 106 undef = .bool false := hv 8 106 rfl (by kernel_rfl)
              have e108 : ac.tmps.getD 108 undef = .bool true := hv 10 108 rfl (by kernel_rfl)
              exact .inl ⟨wanted_of rfl rfl eg, gho_reads γ (.bool true) (by simp [go_sem, Act.eval, -Array.getD_eq_getD_getElem?, e108]) rfl (⟨hD.1, by rw [upd_ne (by decide)]; exact hD.2⟩) (fun _ _ _ _ h => h)⟩
            | 12, ho =>
              simp at ho
              subst ho
              have eg : ac.tmps.getD 109 undef = .bool true := hv 11 109 rfl (by kernel_rfl)
              have e14 : ac.tmps.getD 14 undef = .pointer (some ⟨wr.heap.size, 0, none⟩) := hout 14 (by decide +kernel)
              have bb := (unhide HDW).below hD.1
              have c0 := bb.cell 0 rfl 0 rfl
              have c1 := bb.cell 0 rfl 1 rfl
              rw [Nat.add_zero] at c0 c1
              exact .inl ⟨wanted_of rfl rfl eg, gho_reads γ (.agg #[.slice T5 (tabsW Y).length tc5, .slice G5 Y.gens.length gc5]) (by simp [go_sem, Act.eval, -Array.getD_eq_getD_getElem?, e14, c0, c1]) rfl (⟨hD.1, by rw [upd_ne (by decide)]; exact hD.2⟩) (fun _ _ _ _ h => h)⟩
            | 13, ho =>
              simp at ho
              subst ho
              have eg : ac.tmps.getD 109 undef = .bool true := hv 11 109 rfl (by kernel_rfl)
              have e110 : ac.tmps.getD 110 undef = .agg #[.slice T5 (tabsW Y).length tc5, .slice G5 Y.gens.length gc5] := hv 12 110 rfl (by kernel_rfl)
              refine .inl ⟨wanted_of rfl rfl eg, gho_enters 54 #[.agg #[.slice T5 (tabsW Y).length tc5, .slice G5 Y.gens.length gc5]] (by simp [go_sem, Act.eval, -Array.getD_eq_getD_getElem?, e110]) ?_⟩
              refine (swrong_any T5 tc5 G5 gc5 (tabsW Y) Y w1 ((unhide HST).below hD.1)).mono ?_
              rintro e w6 ⟨rfl, hb6⟩
              exact ⟨_, γ, rfl, rfl, ⟨hD.1.trans (hb6.mono hD.1.size), fun e => (by obtain ⟨A1, c1, G1, gc1, a, b⟩ := hD.2 (by rwa [upd_ne (by decide)] at e); exact ⟨A1, c1, G1, gc1, a, b.below hb6⟩)⟩, fun _ _ _ _ h => h⟩
            | 14, ho =>
              simp at ho
              subst ho
              have eg : ac.tmps.getD 109 undef = .bool true := hv 11 109 rfl (by kernel_rfl)
              have e111 : ac.tmps.getD 111 undef = .agg #[.int .i64 0, .int .i64 0] := hv 13 111 rfl (by kernel_rfl)
              have hf := run_field43 (.int .i64 0) (.int .i64 0) w1
              exact .inl ⟨wanted_of rfl rfl eg, gho_reads γ (.int .i64 0) (by simp [go_sem, Act.eval, -Array.getD_eq_getD_getElem?, e111, hf]) rfl (⟨hD.1, by rw [upd_ne (by decide)]; exact hD.2⟩) (fun _ _ _ _ h => h)⟩
            | 15, ho =>
              simp at ho
              subst ho
              have eg : ac.tmps.getD 109 undef = .bool true := hv 11 109 rfl (by kernel_rfl)
              have e112 : ac.tmps.getD 112 undef = .int .i64 0 := hv 14 112 rfl (by kernel_rfl)
              exact .inl ⟨wanted_of rfl rfl eg, gho_reads γ (.bool false) (by simp [go_sem, Act.eval, -Array.getD_eq_getD_getElem?, e112]) rfl (⟨hD.1, by rw [upd_ne (by decide)]; exact hD.2⟩) (fun _ _ _ _ h => h)⟩
            | 16, ho =>
              simp at ho
              subst ho
              have eg : ac.tmps.getD 109 undef = .bool true := hv 11 109 rfl (by kernel_rfl)
              have e113 : ac.tmps.getD 113 undef = .bool false := hv 15 113 rfl (by kernel_rfl)
              exact .inl ⟨wanted_of rfl rfl eg, gho_reads γ (.bool false) (by simp [go_sem, Act.eval, -Array.getD_eq_getD_getElem?, e113]) rfl (⟨hD.1, by rw [upd_ne (by decide)]; exact hD.2⟩) (fun _ _ _ _ h => h)⟩
            | 17, ho =>
              simp at ho
              subst ho
              have eg : ac.tmps.getD 114 undef = .bool false := hv 16 114 rfl (by kernel_rfl)
              have e14 : ac.tmps.getD 14 undef = .pointer (some ⟨wr.heap.size, 0, none⟩) := hout 14 (by decide +kernel)
              have bb := (unhide HDW).below hD.1
              have c0 := bb.cell 0 rfl 0 rfl
              have c1 := bb.cell 0 rfl 1 rfl
              rw [Nat.add_zero] at c0 c1
              exact .inl ⟨wanted_of rfl rfl eg, gho_reads γ (.agg #[.slice T5 (tabsW Y).length tc5, .slice G5 Y.gens.length gc5]) (by simp [go_sem, Act.eval, -Array.getD_eq_getD_getElem?, e14, c0, c1]) rfl (⟨hD.1, by rw [upd_ne (by decide)]; exact hD.2⟩) (fun _ _ _ _ h => h)⟩
            | 18, ho =>
              simp at ho
              subst ho
              have eg : ac.tmps.getD 114 undef = .bool false := hv 16 114 rfl (by kernel_rfl)
              have e115 : ac.tmps.getD 115 undef = .agg #[.slice T5 (tabsW Y).length tc5, .slice G5 Y.gens.length gc5] := hv 17 115 rfl (by kernel_rfl)
              refine .inl ⟨wanted_of rfl rfl eg, gho_enters 58 #[.agg #[.slice T5 (tabsW Y).length tc5, .slice G5 Y.gens.length gc5]] (by simp [go_sem, Act.eval, -Array.getD_eq_getD_getElem?, e115]) ?_⟩
              refine (sworld_any T5 tc5 G5 gc5 (tabsW Y) Y w1 ((unhide HST).below hD.1)).mono ?_
              rintro e w6 ⟨A6, c6, G6, gc6, rfl, hN6, hb6⟩
              exact ⟨_, wldV A6 c6 G6 gc6 Y, rfl, rfl, ⟨hD.1.trans (hb6.mono hD.1.size), fun _ => ⟨A6, c6, G6, gc6, rfl, hN6.toWldAt⟩⟩, fun j u hj hLj h => by simpa [hj] using h⟩
            | 19, ho =>
              simp at ho
              subst ho
              have eg : ac.tmps.getD 114 undef = .bool false := hv 16 114 rfl (by kernel_rfl)
              have e15 : ac.tmps.getD 15 undef = .pointer (some ⟨wr.heap.size + 1, 0, none⟩) := hout 15 (by decide +kernel)
              have bb := (unhide HDW).below hD.1
              have c0 := bb.cell 1 rfl 0 rfl
              have c1 := bb.cell 1 rfl 1 rfl
              exact .inl ⟨wanted_of rfl rfl eg, gho_reads γ (.agg #[.slice A8 Y.rows.length c8, .slice G8 Y.gens.length gc8]) (by simp [go_sem, Act.eval, -Array.getD_eq_getD_getElem?, e15, c0, c1]) rfl (⟨hD.1, by rw [upd_ne (by decide)]; exact hD.2⟩) (fun _ _ _ _ h => h)⟩
            | 20, ho =>
              simp at ho
              subst ho
              have eg : ac.tmps.getD 114 undef = .bool false := hv 16 114 rfl (by kernel_rfl)
              have e116 : ac.tmps.getD 116 undef = γ := hv 18 116 rfl (by kernel_rfl)
              have e117 : ac.tmps.getD 117 undef = .agg #[.slice A8 Y.rows.length c8, .slice G8 Y.gens.length gc8] := hv 19 117 rfl (by kernel_rfl)
              obtain ⟨A1, c1, G1, gc1, hγ, hX1⟩ := hD.2 (hed 18 (by kernel_rfl))
              rw [hγ] at e116
              refine .inl ⟨wanted_of rfl rfl eg, gho_enters 36 #[.agg #[.slice A1 Y.rows.length c1, .slice G1 Y.gens.length gc1], .agg #[.slice A8 Y.rows.length c8, .slice G8 Y.gens.length gc8]] (by simp [go_sem, Act.eval, -Array.getD_eq_getD_getElem?, e116, e117]) ?_⟩
              refine (same_ws hyl hygl w1 A1 c1 G1 gc1 A8 c8 G8 gc8 hX1 ((unhide HWY).below hD.1)).mono ?_
              rintro e w6 ⟨rfl, hb6⟩
              exact ⟨_, γ, rfl, rfl, ⟨hD.1.trans (hb6.mono hD.1.size), fun _ => ⟨A1, c1, G1, gc1, hγ, hX1.below hb6⟩⟩, fun _ _ _ _ h => h⟩
            | 21, ho =>
              simp at ho
              subst ho
              have eg : ac.tmps.getD 114 undef = .bool false := hv 16 114 rfl (by kernel_rfl)
              have e118 : ac.tmps.getD 118 undef = .bool true := hv 20 118 rfl (by kernel_rfl)
              exact .inl ⟨wanted_of rfl rfl eg, gho_reads γ (.bool false) (by simp [go_sem, Act.eval, -Array.getD_eq_getD_getElem?, e118]) rfl (⟨hD.1, by rw [upd_ne (by decide)]; exact hD.2⟩) (fun _ _ _ _ h => h)⟩
            | 22, ho =>
              simp at ho
              subst ho
              have eg : ac.tmps.getD 109 undef = .bool true := hv 11 109 rfl (by kernel_rfl)
              have e114 : ac.tmps.getD 114 undef = .bool false := hv 16 114 rfl (by kernel_rfl)
              have e119 : ac.tmps.getD 119 undef = .bool false := hv 21 119 rfl (by kernel_rfl)
              exact .inl ⟨wanted_of rfl rfl eg, gho_reads γ (.bool false) (by simp [go_sem, Act.eval, -Array.getD_eq_getD_getElem?, e114, e119]) rfl (⟨hD.1, by rw [upd_ne (by decide)]; exact hD.2⟩) (fun _ _ _ _ h => h)⟩
            | 23, ho =>
              simp at ho
              subst ho
              have eg : ac.tmps.getD 106 undef = .bool false := hv 8 106 rfl (by kernel_rfl)
              have e109 : ac.tmps.getD 109 undef = .bool true := hv 11 109 rfl (by kernel_rfl)
              have e120 : ac.tmps.getD 120 undef = .bool false := hv 22 120 rfl (by kernel_rfl)
              exact .inl ⟨wanted_of rfl rfl eg, gho_reads γ (.bool false) (by simp [go_sem, Act.eval, -Array.getD_eq_getD_getElem?, e109, e120]) rfl (⟨hD.1, by rw [upd_ne (by decide)]; exact hD.2⟩) (fun _ _ _ _ h => h)⟩
            | 24, ho =>
              simp at ho
              subst ho
              have e106 : ac.tmps.getD 106 undef = .bool false := hv 8 106 rfl (by kernel_rfl)
              have e121 : ac.tmps.getD 121 undef = .bool false := hv 23 121 rfl (by kernel_rfl)
              exact .inl ⟨rfl, gho_reads γ (.bool false) (by simp [go_sem, Act.eval, -Array.getD_eq_getD_getElem?, e106, e121]) rfl (⟨hD.1, by rw [upd_ne (by decide)]; exact hD.2⟩) (fun _ _ _ _ h => h)⟩
            | ix + 25, ho => simp at ho
          case hend =>
            intro γ v L w11 hD hall hv
            have v24 : v 24 = .bool false := hv 24 122 rfl
            have HE := hide ((unhide HLW).trans (hD.1.mono (by have := (unhide HDW).sz (by simp); simp only [List.length_set, List.length_cons, List.length_nil] at this; have := unhide HZ0; omega)))
            clear hv hall hD h0
            simp only [putOps, List.getElem?_cons_zero, List.getElem?_cons_succ, Option.bind_some, List.length_cons, List.length_nil, Nat.reduceAdd, v24]
            clear v24
            go_frame
            go_wp2
            go_roundw
            case rel => exact ⟨1, by omega, rfl, unhide HE⟩
            case measure => simp [intOf]
        · have h0 : Below W10.heap.size W10 W10.drew ∧ True := ⟨(Below.refl _ _).drew, trivial⟩
          refine wp_region_gho (fun (γ : Value) ix v => (([fun v => v = .int .i64 err, fun v => v = .int .i64 err, fun v => v = .bool false, fun v => v = .bool false, fun v => v = .agg #[.int .i64 ci, .int .i64 cg], fun v => v = .agg #[.int .i64 ci, .int .i64 cg], fun v => v = .bool false, fun v => v = .bool false, fun v => v = .bool false, fun v => v = .int .i64 err, fun v => v = .bool false, fun v => v = .bool false, fun v => v = undef, fun v => v = undef, fun v => v = undef, fun v => v = undef, fun v => v = undef, fun v => v = undef, fun v => v = undef, fun v => v = undef, fun v => v = undef, fun v => v = undef, fun v => v = undef, fun v => v = .bool false, fun v => v = .bool false] : List (Value → Prop)).getD ix (fun _ => True)) v) (fun (γ : Value) (L : Nat → Bool) W => Below W10.heap.size W10 W ∧ True) (undef) (by kernel_rfl) (by kernel_rfl) (by kernel_rfl) h0 ?hstep ?hend
          case hstep =>
            intro γ ix o ho L ac w1 hD hL hed hcl hout hv
            match ix, ho with
            | 0, ho =>
              simp at ho
              subst ho
              have e18 : ac.tmps.getD 18 undef = .int .i64 err := hout 18 (by decide +kernel)
              exact .inl ⟨rfl, gho_reads γ (.int .i64 err) (by simp [go_sem, Act.eval, -Array.getD_eq_getD_getElem?, e18]) rfl (⟨hD.1, trivial⟩) (fun _ _ _ _ h => h)⟩
            | 1, ho =>
              simp at ho
              subst ho
              have e19 : ac.tmps.getD 19 undef = .int .i64 err := hout 19 (by decide +kernel)
              exact .inl ⟨rfl, gho_reads γ (.int .i64 err) (by simp [go_sem, Act.eval, -Array.getD_eq_getD_getElem?, e19]) rfl (⟨hD.1, trivial⟩) (fun _ _ _ _ h => h)⟩
            | 2, ho =>
              simp at ho
              subst ho
              have e98 : ac.tmps.getD 98 undef = .int .i64 err := hv 0 98 rfl (by kernel_rfl)
              have e99 : ac.tmps.getD 99 undef = .int .i64 err := hv 1 99 rfl (by kernel_rfl)
              exact .inl ⟨rfl, gho_reads γ (.bool false) (by simp [go_sem, Act.eval, -Array.getD_eq_getD_getElem?, e98, e99]) rfl (⟨hD.1, trivial⟩) (fun _ _ _ _ h => h)⟩
            | 3, ho =>
              simp at ho
              subst ho
              have e100 : ac.tmps.getD 100 undef = .bool false := hv 2 100 rfl (by kernel_rfl)
              exact .inl ⟨rfl, gho_reads γ (.bool false) (by simp [go_sem, Act.eval, -Array.getD_eq_getD_getElem?, e100]) rfl (⟨hD.1, trivial⟩) (fun _ _ _ _ h => h)⟩
            | 4, ho =>
              simp at ho
              subst ho
              have eg : ac.tmps.getD 101 undef = .bool false := hv 3 101 rfl (by kernel_rfl)
              have e16 : ac.tmps.getD 16 undef = .pointer (some ⟨wr.heap.size + 2, 0, none⟩) := hout 16 (by decide +kernel)
              have bb := (unhide HDW).below hD.1
              have c0 := bb.cell 2 rfl 0 rfl
              have c1 := bb.cell 2 rfl 1 rfl
              exact .inl ⟨wanted_of rfl rfl eg, gho_reads γ (.agg #[.int .i64 ci, .int .i64 cg]) (by simp [go_sem, Act.eval, -Array.getD_eq_getD_getElem?, e16, c0, c1]) rfl (⟨hD.1, trivial⟩) (fun _ _ _ _ h => h)⟩
            | 5, ho =>
              simp at ho
              subst ho
              have eg : ac.tmps.getD 101 undef = .bool false := hv 3 101 rfl (by kernel_rfl)
              have e17 : ac.tmps.getD 17 undef = .pointer (some ⟨wr.heap.size + 3, 0, none⟩) := hout 17 (by decide +kernel)
              have bb := (unhide HDW).below hD.1
              have c0 := bb.cell 3 rfl 0 rfl
              have c1 := bb.cell 3 rfl 1 rfl
              exact .inl ⟨wanted_of rfl rfl eg, gho_reads γ (.agg #[.int .i64 ci, .int .i64 cg]) (by simp [go_sem, Act.eval, -Array.getD_eq_getD_getElem?, e17, c0, c1]) rfl (⟨hD.1, trivial⟩) (fun _ _ _ _ h => h)⟩
            | 6, ho =>
              simp at ho
              subst ho
              have eg : ac.tmps.getD 101 undef = .bool false := hv 3 101 rfl (by kernel_rfl)
              have e102 : ac.tmps.getD 102 undef = .agg #[.int .i64 ci, .int .i64 cg] := hv 4 102 rfl (by kernel_rfl)
              have e103 : ac.tmps.getD 103 undef = .agg #[.int .i64 ci, .int .i64 cg] := hv 5 103 rfl (by kernel_rfl)
              exact .inl ⟨wanted_of rfl rfl eg, gho_reads γ (.bool false) (by simp [go_sem, Act.eval, -Array.getD_eq_getD_getElem?, e102, e103]) rfl (⟨hD.1, trivial⟩) (fun _ _ _ _ h => h)⟩
            | 7, ho =>
              simp at ho
              subst ho
              have e101 : ac.tmps.getD 101 undef = .bool false := hv 3 101 rfl (by kernel_rfl)
              have e104 : ac.tmps.getD 104 undef = .bool false := hv 6 104 rfl (by kernel_rfl)
              exact .inl ⟨rfl, gho_reads γ (.bool false) (by simp [go_sem, Act.eval, -Array.getD_eq_getD_getElem?, e101, e104]) rfl (⟨hD.1, trivial⟩) (fun _ _ _ _ h => h)⟩
            | 8, ho =>
              simp at ho
              subst ho
              have e105 : ac.tmps.getD 105 undef = .bool false := hv 7 105 rfl (by kernel_rfl)
              exact .inl ⟨rfl, gho_reads γ (.bool false) (by simp [go_sem, Act.eval, -Array.getD_eq_getD_getElem?, e105]) rfl (⟨hD.1, trivial⟩) (fun _ _ _ _ h => h)⟩
            | 9, ho =>
              simp at ho
              subst ho
              have eg : ac.tmps.getD 106 undef = .bool false := hv 8 106 rfl (by kernel_rfl)
              have e18 : ac.tmps.getD 18 undef = .int .i64 err := hout 18 (by decide +kernel)
              exact .inl ⟨wanted_of rfl rfl eg, gho_reads γ (.int .i64 err) (by simp [go_sem, Act.eval, -Array.getD_eq_getD_getElem?, e18]) rfl (⟨hD.1, trivial⟩) (fun _ _ _ _ h => h)⟩
            | 10, ho =>
              simp at ho
              subst ho
              have eg : ac.tmps.getD 106 undef = .bool false := hv 8 106 rfl (by kernel_rfl)
              have e107 : ac.tmps.getD 107 undef = .int .i64 err := hv 9 107 rfl (by kernel_rfl)
              exact .inl ⟨wanted_of rfl rfl eg, gho_reads γ (.bool false) (by simp [go_sem, Act.eval, -Array.getD_eq_getD_getElem?, e107, he0]) rfl (⟨hD.1, trivial⟩) (fun _ _ _ _ h => h)⟩
            | 11, ho =>
              simp at ho
              subst ho
              have eg : ac.tmps.getD 106 undef = .bool false := hv 8 106 rfl (by kernel_rfl)
              have e108 : ac.tmps.getD 108 undef = .bool false := hv 10 108 rfl (by kernel_rfl)
              exact .inl ⟨wanted_of rfl rfl eg, gho_reads γ (.bool false) (by simp [go_sem, Act.eval, -Array.getD_eq_getD_getElem?, e108]) rfl (⟨hD.1, trivial⟩) (fun _ _ _ _ h => h)⟩
            | 12, ho =>
              simp at ho
              subst ho
              have eg : ac.tmps.getD 109 undef = .bool !true := hv 11 109 rfl (by kernel_rfl)
              exact .inr ⟨unwanted_of rfl rfl eg, rfl, ⟨hD.1, trivial⟩⟩
            | 13, ho =>
              simp at ho
              subst ho
              have eg : ac.tmps.getD 109 undef = .bool !true := hv 11 109 rfl (by kernel_rfl)
              exact .inr ⟨unwanted_of rfl rfl eg, rfl, ⟨hD.1, trivial⟩⟩
            | 14, ho =>
              simp at ho
              subst ho
              have eg : ac.tmps.getD 109 undef = .bool !true := hv 11 109 rfl (by kernel_rfl)
              exact .inr ⟨unwanted_of rfl rfl eg, rfl, ⟨hD.1, trivial⟩⟩
            | 15, ho =>
              simp at ho
              subst ho
              have eg : ac.tmps.getD 109 undef = .bool !true := hv 11 109 rfl (by kernel_rfl)
              exact .inr ⟨unwanted_of rfl rfl eg, rfl, ⟨hD.1, trivial⟩⟩
            | 16, ho =>
              simp at ho
              subst ho
              have eg : ac.tmps.getD 109 undef = .bool !true := hv 11 109 rfl (by kernel_rfl)
              exact .inr ⟨unwanted_of rfl rfl eg, rfl, ⟨hD.1, trivial⟩⟩
            | 17, ho =>
              simp at ho
              subst ho
              have eg : ac.tmps.getD 114 undef = undef := hv 16 114 rfl (by kernel_rfl)
              exact .inr ⟨unwanted_un rfl rfl eg, rfl, ⟨hD.1, trivial⟩⟩
            | 18, ho =>
              simp at ho
              subst ho
              have eg : ac.tmps.getD 114 undef = undef := hv 16 114 rfl (by kernel_rfl)
              exact .inr ⟨unwanted_un rfl rfl eg, rfl, ⟨hD.1, trivial⟩⟩
            | 19, ho =>
              simp at ho
              subst ho
              have eg : ac.tmps.getD 114 undef = undef := hv 16 114 rfl (by kernel_rfl)
              exact .inr ⟨unwanted_un rfl rfl eg, rfl, ⟨hD.1, trivial⟩⟩
            | 20, ho =>
              simp at ho
              subst ho
              have eg : ac.tmps.getD 114 undef = undef := hv 16 114 rfl (by kernel_rfl)
              exact .inr ⟨unwanted_un rfl rfl eg, rfl, ⟨hD.1, trivial⟩⟩
            | 21, ho =>
              simp at ho
              subst ho
              have eg : ac.tmps.getD 114 undef = undef := hv 16 114 rfl (by kernel_rfl)
              exact .inr ⟨unwanted_un rfl rfl eg, rfl, ⟨hD.1, trivial⟩⟩
            | 22, ho =>
              simp at ho
              subst ho
              have eg : ac.tmps.getD 109 undef = .bool !true := hv 11 109 rfl (by kernel_rfl)
              exact .inr ⟨unwanted_of rfl rfl eg, rfl, ⟨hD.1, trivial⟩⟩
            | 23, ho =>
              simp at ho
              subst ho
              have eg : ac.tmps.getD 106 undef = .bool false := hv 8 106 rfl (by kernel_rfl)
              have e109 : ac.tmps.getD 109 undef = .bool false := hv 11 109 rfl (by kernel_rfl)
              exact .inl ⟨wanted_of rfl rfl eg, gho_reads γ (.bool false) (by simp [go_sem, Act.eval, -Array.getD_eq_getD_getElem?, e109]) rfl (⟨hD.1, trivial⟩) (fun _ _ _ _ h => h)⟩
            | 24, ho =>
              simp at ho
              subst ho
              have e106 : ac.tmps.getD 106 undef = .bool false := hv 8 106 rfl (by kernel_rfl)
              have e121 : ac.tmps.getD 121 undef = .bool false := hv 23 121 rfl (by kernel_rfl)
              exact .inl ⟨rfl, gho_reads γ (.bool false) (by simp [go_sem, Act.eval, -Array.getD_eq_getD_getElem?, e106, e121]) rfl (⟨hD.1, trivial⟩) (fun _ _ _ _ h => h)⟩
            | ix + 25, ho => simp at ho
          case hend =>
            intro γ v L w11 hD hall hv
            have v24 : v 24 = .bool false := hv 24 122 rfl
            have HE := hide ((unhide HLW).trans (hD.1.mono (by have := (unhide HDW).sz (by simp); simp only [List.length_set, List.length_cons, List.length_nil] at this; have := unhide HZ0; omega)))
            clear hv hall hD h0
            simp only [putOps, List.getElem?_cons_zero, List.getElem?_cons_succ, Option.bind_some, List.length_cons, List.length_nil, Nat.reduceAdd, v24]
            clear v24
            go_frame
            go_wp2
            go_roundw
            case rel => exact ⟨1, by omega, rfl, unhide HE⟩
            case measure => simp [intOf]
      · have hSC := fun W (h : StAt W T2 G2 (tabsW X) X) => skill_any T2 tc2 G2 gc2 (tabsW X) X i g W h
        have hPC := fun W (h : WldAt W A cap G gcap X) => kill_any A cap G gcap X i g W (by omega) h
        have hYR : (killF X i g).1 = 0 → RightW ((killF X i g).2) := fun e => (kill_keeps e).1
        obtain ⟨Y, hY⟩ : ∃ Y, Y = (killF X i g).2 := ⟨_, rfl⟩
        obtain ⟨err, herr⟩ : ∃ err, err = (killF X i g).1 := ⟨_, rfl⟩
        rw [← hY, ← herr] at hSC hPC hYR
        unfold stV beingV at hSC
        unfold wldV worldV beingV at hPC
        have HSC := hide hSC
        have HPC := hide hPC
        have HYR := hide hYR
        clear hSC hPC hYR hY herr
        go_upto_region 13 with fail
        rw [unhide HW4]
        go_wp2_with fail
        go_at_call 64
        refine (unhide HSC _ (unhide HT4)).mono ?_
        rintro e w5 ⟨T5, tc5, G5, gc5, rfl, hN5, hb5⟩
        have HB5 := hide ((unhide HB4).below hb5)
        have HD5 := hide ((unhide HD4).below hb5)
        have HL5 := hide ((unhide HL4).trans (hb5.mono (by have := unhide HZ4; have := unhide HZ0; omega)))
        have HX5 := hide ((unhide HX4).below hb5)
        have HN5 := hide (hN5.le (base' := wr.heap.size + 4) (unhide HZ4))
        clear hN5 hb5 s0 s1 b0 b1
        go_wp2_with (first
          | (refine wpList_putN rfl 71 (.tmp 14) (.tmp 72) rfl (wr.heap.size + 0) 0 [.slice T5 (tabsW Y).length tc5, .slice G5 Y.gens.length gc5] rfl rfl (by simp [Value.oneCell']) size71 ((unhide HD5).there 0 rfl 2 rfl) ?_; intro W6 hW; have q1 := (unhide HD5).give 0 rfl [.slice T5 (tabsW Y).length tc5, .slice G5 Y.gens.length gc5] rfl; have q2 := (unhide HB5).turn (cb := wr.heap.size + 0) (o := 0) (vs := [.slice T5 (tabsW Y).length tc5, .slice G5 Y.gens.length gc5]) (.inr (by have := unhide HZR; simp only [List.length_cons, List.length_nil]; omega)); have q3 := below_setCells (wr.heap.size + 0) (by have := unhide HZ0; omega) [.slice T5 (tabsW Y).length tc5, .slice G5 Y.gens.length gc5] 0 _ (unhide HL5); have q4 := wld_turn (unhide HX5) (b := wr.heap.size + 0) (o := 0) (vs := [.slice T5 (tabsW Y).length tc5, .slice G5 Y.gens.length gc5]) (unhide HXB); have q5 := (unhide HN5).putc (b := wr.heap.size + 0) (o := 0) (vs := [.slice T5 (tabsW Y).length tc5, .slice G5 Y.gens.length gc5]) (by omega); rw [← hW] at q1 q2 q3 q4 q5; have HD6 := hide q1; have HB6 := hide q2; have HL6 := hide q3; have HX6 := hide q4; have HN6 := hide q5; clear hW q1 q2 q3 q4 q5; have a0 := (unhide HB6).cell 0 rfl 0 rfl; have a1 := (unhide HB6).cell 0 rfl 1 rfl; rw [Nat.add_zero] at a0 a1; have b0 := (unhide HB6).cell 1 rfl 0 rfl; have b1 := (unhide HB6).cell 1 rfl 1 rfl))
        go_at_call 42
        refine (unhide HPC _ (unhide HX6)).mono ?_
        rintro e w8 ⟨A8, c8, G8, gc8, rfl, hY8, hb8⟩
        have HB8 := hide ((unhide HB6).below hb8)
        have HD8 := hide ((unhide HD6).below hb8)
        have HL8 := hide ((unhide HL6).trans (hb8.mono (by have := (unhide HD6).sz (by simp); simp only [List.length_set, List.length_cons, List.length_nil] at this; have := unhide HZ0; omega)))
        have HX8 := hide ((unhide HX6).below hb8)
        have HN8 := hide ((unhide HN6).below hb8)
        have HZ8 : Hid (wr.heap.size + 4 ≤ W6.heap.size) := hide (by have := (unhide HD6).sz (by simp); simpa using this)
        have HY8 := hide hY8
        clear hY8 hb8 a0 a1 b0 b1
        go_wp2_with (first
          | (refine wpList_putN rfl 38 (.tmp 15) (.tmp 78) rfl (wr.heap.size + 1) 0 [.slice A8 Y.rows.length c8, .slice G8 Y.gens.length gc8] rfl rfl (by simp [Value.oneCell']) size38 ((unhide HD8).there 1 rfl 2 rfl) ?_; intro W9 hW; have q1 := (unhide HD8).give 1 rfl [.slice A8 Y.rows.length c8, .slice G8 Y.gens.length gc8] rfl; have q2 := (unhide HB8).turn (cb := wr.heap.size + 1) (o := 0) (vs := [.slice A8 Y.rows.length c8, .slice G8 Y.gens.length gc8]) (.inr (by have := unhide HZR; simp only [List.length_cons, List.length_nil]; omega)); have q3 := below_setCells (wr.heap.size + 1) (by have := unhide HZ0; omega) [.slice A8 Y.rows.length c8, .slice G8 Y.gens.length gc8] 0 _ (unhide HL8); have q4 := wld_turn (unhide HX8) (b := wr.heap.size + 1) (o := 0) (vs := [.slice A8 Y.rows.length c8, .slice G8 Y.gens.length gc8]) (unhide HXB); have q5 := (unhide HN8).putc (b := wr.heap.size + 1) (o := 0) (vs := [.slice A8 Y.rows.length c8, .slice G8 Y.gens.length gc8]) (by omega); have q6 := wldnew_putc (unhide HY8) (b := wr.heap.size + 1) (o := 0) (vs := [.slice A8 Y.rows.length c8, .slice G8 Y.gens.length gc8]) (by have := unhide HZ8; omega); rw [← hW] at q1 q2 q3 q4 q5 q6; have HD9 := hide q1; have HB9 := hide q2; have HL9 := hide q3; have HX9 := hide q4; have HN9 := hide q5; have HY9 := hide q6; clear hW q1 q2 q3 q4 q5 q6))
        have HST := hide (unhide HN9).st
        have HWY := hide (unhide HY9).toWldAt
        have HLW := hide (unhide HL9)
        have HDW := hide (unhide HD9)
        clear HSC HPC HX5 HX8 HB5 HB8
        by_cases he0 : err = 0
        · subst he0
          have hr := unhide HYR rfl
          obtain ⟨hyl, hygl, _⟩ := right_hr ((right_iff Y).2 hr)
          clear hr
          have h0 : Below W9.heap.size W9 W9.drew ∧ ((fun (_ : Nat) => false) 18 = true → ∃ A' c' G' gc', undef = .agg #[.slice A' Y.rows.length c', .slice G' Y.gens.length gc'] ∧ WldAt W9.drew A' c' G' gc' Y) := ⟨(Below.refl _ _).drew, fun e => by cases e⟩
          refine wp_region_gho (fun (γ : Value) ix v => if ix = 18 then v = γ else (([fun v => v = .int .i64 0, fun v => v = .int .i64 0, fun v => v = .bool false, fun v => v = .bool false, fun v => v = .agg #[.int .i64 0, .int .i64 0], fun v => v = .agg #[.int .i64 0, .int .i64 0], fun v => v = .bool false, fun v => v = .bool false, fun v => v = .bool false, fun v => v = .int .i64 0, fun v => v = .bool true, fun v => v = .bool true, fun v => v = .agg #[.slice T5 (tabsW Y).length tc5, .slice G5 Y.gens.length gc5], fun v => v = .agg #[.int .i64 0, .int .i64 0], fun v => v = .int .i64 0, fun v => v = .bool false, fun v => v = .bool false, fun v => v = .agg #[.slice T5 (tabsW Y).length tc5, .slice G5 Y.gens.length gc5], fun _ => True, fun v => v = .agg #[.slice A8 Y.rows.length c8, .slice G8 Y.gens.length gc8], fun v => v = .bool true, fun v => v = .bool false, fun v => v = .bool false, fun v => v = .bool false, fun v => v = .bool false] : List (Value → Prop)).getD ix (fun _ => True)) v) (fun (γ : Value) L W => Below W9.heap.size W9 W ∧ (L 18 = true → ∃ A' c' G' gc', γ = .agg #[.slice A' Y.rows.length c', .slice G' Y.gens.length gc'] ∧ WldAt W A' c' G' gc' Y)) (undef) (by kernel_rfl) (by kernel_rfl) (by kernel_rfl) h0 ?hstep ?hend
          case hstep =>
            intro γ ix o ho L ac w1 hD hL hed hcl hout hv
            match ix, ho with
            | 0, ho =>
              simp at ho
              subst ho
              have e18 : ac.tmps.getD 18 undef = .int .i64 0 := hout 18 (by decide +kernel)
              exact .inl ⟨rfl, gho_reads γ (.int .i64 0) (by simp [go_sem, Act.eval, -Array.getD_eq_getD_getElem?, e18]) rfl (⟨hD.1, by rw [upd_ne (by decide)]; exact hD.2⟩) (fun _ _ _ _ h => h)⟩
            | 1, ho =>
              simp at ho
              subst ho
              have e19 : ac.tmps.getD 19 undef = .int .i64 0 := hout 19 (by decide +kernel)
              exact .inl ⟨rfl, gho_reads γ (.int .i64 0) (by simp [go_sem, Act.eval, -Array.getD_eq_getD_getElem?, e19]) rfl (⟨hD.1, by rw [upd_ne (by decide)]; exact hD.2⟩) (fun _ _ _ _ h => h)⟩
            | 2, ho =>
              simp at ho
              subst ho
              have e98 : ac.tmps.getD 98 undef = .int .i64 0 := hv 0 98 rfl (by kernel_rfl)
              have e99 : ac.tmps.getD 99 undef = .int .i64 0 := hv 1 99 rfl (by kernel_rfl)
              exact .inl ⟨rfl, gho_reads γ (.bool false) (by simp [go_sem, Act.eval, -Array.getD_eq_getD_getElem?, e98, e99]) rfl (⟨hD.1, by rw [upd_ne (by decide)]; exact hD.2⟩) (fun _ _ _ _ h => h)⟩
            | 3, ho =>
              simp at ho
              subst ho
              have e100 : ac.tmps.getD 100 undef = .bool false := hv 2 100 rfl (by kernel_rfl)
              exact .inl ⟨rfl, gho_reads γ (.bool false) (by simp [go_sem, Act.eval, -Array.getD_eq_getD_getElem?, e100]) rfl (⟨hD.1, by rw [upd_ne (by decide)]; exact hD.2⟩) (fun _ _ _ _ h => h)⟩
            | 4, ho =>
              simp at ho
              subst ho
              have eg : ac.tmps.getD 101 undef = .bool false := hv 3 101 rfl (by kernel_rfl)
              have e16 : ac.tmps.getD 16 undef = .pointer (some ⟨wr.heap.size + 2, 0, none⟩) := hout 16 (by decide +kernel)
              have bb := (unhide HDW).below hD.1
              have c0 := bb.cell 2 rfl 0 rfl
              have c1 := bb.cell 2 rfl 1 rfl
              exact .inl ⟨wanted_of rfl rfl eg, gho_reads γ (.agg #[.int .i64 0, .int .i64 0]) (by simp [go_sem, Act.eval, -Array.getD_eq_getD_getElem?, e16, c0, c1]) rfl (⟨hD.1, by rw [upd_ne (by decide)]; exact hD.2⟩) (fun _ _ _ _ h => h)⟩
            | 5, ho =>
              simp at ho
              subst ho
              have eg : ac.tmps.getD 101 undef = .bool false := hv 3 101 rfl (by kernel_rfl)
              have e17 : ac.tmps.getD 17 undef = .pointer (some ⟨wr.heap.size + 3, 0, none⟩) := hout 17 (by decide +kernel)
              have bb := (unhide HDW).below hD.1
              have c0 := bb.cell 3 rfl 0 rfl
              have c1 := bb.cell 3 rfl 1 rfl
              exact .inl ⟨wanted_of rfl rfl eg, gho_reads γ (.agg #[.int .i64 0, .int .i64 0]) (by simp [go_sem, Act.eval, -Array.getD_eq_getD_getElem?, e17, c0, c1]) rfl (⟨hD.1, by rw [upd_ne (by decide)]; exact hD.2⟩) (fun _ _ _ _ h => h)⟩
            | 6, ho =>
              simp at ho
              subst ho
              have eg : ac.tmps.getD 101 undef = .bool false := hv 3 101 rfl (by kernel_rfl)
              have e102 : ac.tmps.getD 102 undef = .agg #[.int .i64 0, .int .i64 0] := hv 4 102 rfl (by kernel_rfl)
              have e103 : ac.tmps.getD 103 undef = .agg #[.int .i64 0, .int .i64 0] := hv 5 103 rfl (by kernel_rfl)
              exact .inl ⟨wanted_of rfl rfl eg, gho_reads γ (.bool false) (by simp [go_sem, Act.eval, -Array.getD_eq_getD_getElem?, e102, e103]) rfl (⟨hD.1, by rw [upd_ne (by decide)]; exact hD.2⟩) (fun _ _ _ _ h => h)⟩
            | 7, ho =>
              simp at ho
              subst ho
              have e101 : ac.tmps.getD 101 undef = .bool false := hv 3 101 rfl (by kernel_rfl)
              have e104 : ac.tmps.getD 104 undef = .bool false := hv 6 104 rfl (by kernel_rfl)
              exact .inl ⟨rfl, gho_reads γ (.bool false) (by simp [go_sem, Act.eval, -Array.getD_eq_getD_getElem?, e101, e104]) rfl (⟨hD.1, by rw [upd_ne (by decide)]; exact hD.2⟩) (fun _ _ _ _ h => h)⟩
            | 8, ho =>
              simp at ho
              subst ho
              have e105 : ac.tmps.getD 105 undef = .bool false := hv 7 105 rfl (by kernel_rfl)
              exact .inl ⟨rfl, gho_reads γ (.bool false) (by simp [go_sem, Act.eval, -Array.getD_eq_getD_getElem?, e105]) rfl (⟨hD.1, by rw [upd_ne (by decide)]; exact hD.2⟩) (fun _ _ _ _ h => h)⟩
            | 9, ho =>
              simp at ho
              subst ho
              have eg : ac.tmps.getD 106 undef = .bool false := hv 8 106 rfl (by kernel_rfl)
              have e18 : ac.tmps.getD 18 undef = .int .i64 0 := hout 18 (by decide +kernel)
              exact .inl ⟨wanted_of rfl rfl eg, gho_reads γ (.int .i64 0) (by simp [go_sem, Act.eval, -Array.getD_eq_getD_getElem?, e18]) rfl (⟨hD.1, by rw [upd_ne (by decide)]; exact hD.2⟩) (fun _ _ _ _ h => h)⟩
            | 10, ho =>
              simp at ho
              subst ho
              have eg : ac.tmps.getD 106 undef = .bool false := hv 8 106 rfl (by kernel_rfl)
              have e107 : ac.tmps.getD 107 undef = .int .i64 0 := hv 9 107 rfl (by kernel_rfl)
              exact .inl ⟨wanted_of rfl rfl eg, gho_reads γ (.bool true) (by simp [go_sem, Act.eval, -Array.getD_eq_getD_getElem?, e107]) rfl (⟨hD.1, by rw [upd_ne (by decide)]; exact hD.2⟩) (fun _ _ _ _ h => h)⟩
            | 11, ho =>
              simp at ho
              subst ho
              have eg : ac.tmps.getD 106 undef = .bool false := hv 8 106 rfl (by kernel_rfl)
              have e108 : ac.tmps.getD 108 undef = .bool true := hv 10 108 rfl (by kernel_rfl)
              exact .inl ⟨wanted_of rfl rfl eg, gho_reads γ (.bool true) (by simp [go_sem, Act.eval, -Array.getD_eq_getD_getElem?, e108]) rfl (⟨hD.1, by rw [upd_ne (by decide)]; exact hD.2⟩) (fun _ _ _ _ h => h)⟩
            | 12, ho =>
              simp at ho
              subst ho
              have eg : ac.tmps.getD 109 undef = .bool true := hv 11 109 rfl (by kernel_rfl)
              have e14 : ac.tmps.getD 14 undef = .pointer (some ⟨wr.heap.size, 0, none⟩) := hout 14 (by decide +kernel)
              have bb := (unhide HDW).below hD.1
              have c0 := bb.cell 0 rfl 0 rfl
              have c1 := bb.cell 0 rfl 1 rfl
              rw [Nat.add_zero] at c0 c1
              exact .inl ⟨wanted_of rfl rfl eg, gho_reads γ (.agg #[.slice T5 (tabsW Y).length tc5, .slice G5 Y.gens.length gc5]) (by simp [go_sem, Act.eval, -Array.getD_eq_getD_getElem?, e14, c0, c1]) rfl (⟨hD.1, by rw [upd_ne (by decide)]; exact hD.2⟩) (fun _ _ _ _ h => h)⟩
            | 13, ho =>
              simp at ho
              subst ho
              have eg : ac.tmps.getD 109 undef = .bool true := hv 11 109 rfl (by kernel_rfl)
              have e110 : ac.tmps.getD 110 undef = .agg #[.slice T5 (tabsW Y).length tc5, .slice G5 Y.gens.length gc5] := hv 12 110 rfl (by kernel_rfl)
              refine .inl ⟨wanted_of rfl rfl eg, gho_enters 54 #[.agg #[.slice T5 (tabsW Y).length tc5, .slice G5 Y.gens.length gc5]] (by simp [go_sem, Act.eval, -Array.getD_eq_getD_getElem?, e110]) ?_⟩
              refine (swrong_any T5 tc5 G5 gc5 (tabsW Y) Y w1 ((unhide HST).below hD.1)).mono ?_
              rintro e w6 ⟨rfl, hb6⟩
              exact ⟨_, γ, rfl, rfl, ⟨hD.1.trans (hb6.mono hD.1.size), fun e => (by obtain ⟨A1, c1, G1, gc1, a, b⟩ := hD.2 (by rwa [upd_ne (by decide)] at e); exact ⟨A1, c1, G1, gc1, a, b.below hb6⟩)⟩, fun _ _ _ _ h => h⟩
            | 14, ho =>
              simp at ho
              subst ho
              have eg : ac.tmps.getD 109 undef = .bool true := hv 11 109 rfl (by kernel_rfl)
              have e111 : ac.tmps.getD 111 undef = .agg #[.int .i64 0, .int .i64 0] := hv 13 111 rfl (by kernel_rfl)
              have hf := run_field43 (.int .i64 0) (.int .i64 0) w1
              exact .inl ⟨wanted_of rfl rfl eg, gho_reads γ (.int .i64 0) (by simp [go_sem, Act.eval, -Array.getD_eq_getD_getElem?, e111, hf]) rfl (⟨hD.1, by rw [upd_ne (by decide)]; exact hD.2⟩) (fun _ _ _ _ h => h)⟩
            | 15, ho =>
              simp at ho
              subst ho
              have eg : ac.tmps.getD 109 undef = .bool true := hv 11 109 rfl (by kernel_rfl)
              have e112 : ac.tmps.getD 112 undef = .int .i64 0 := hv 14 112 rfl (by kernel_rfl)
              exact .inl ⟨wanted_of rfl rfl eg, gho_reads γ (.bool false) (by simp [go_sem, Act.eval, -Array.getD_eq_getD_getElem?, e112]) rfl (⟨hD.1, by rw [upd_ne (by decide)]; exact hD.2⟩) (fun _ _ _ _ h => h)⟩
            | 16, ho =>
              simp at ho
              subst ho
              have eg : ac.tmps.getD 109 undef = .bool true := hv 11 109 rfl (by kernel_rfl)
              have e113 : ac.tmps.getD 113 undef = .bool false := hv 15 113 rfl (by kernel_rfl)
              exact .inl ⟨wanted_of rfl rfl eg, gho_reads γ (.bool false) (by simp [go_sem, Act.eval, -Array.getD_eq_getD_getElem?, e113]) rfl (⟨hD.1, by rw [upd_ne (by decide)]; exact hD.2⟩) (fun _ _ _ _ h => h)⟩
            | 17, ho =>
              simp at ho
              subst ho
              have eg : ac.tmps.getD 114 undef = .bool false := hv 16 114 rfl (by kernel_rfl)
              have e14 : ac.tmps.getD 14 undef = .pointer (some ⟨wr.heap.size, 0, none⟩) := hout 14 (by decide +kernel)
              have bb := (unhide HDW).below hD.1
              have c0 := bb.cell 0 rfl 0 rfl
              have c1 := bb.cell 0 rfl 1 rfl
              rw [Nat.add_zero] at c0 c1
              exact .inl ⟨wanted_of rfl rfl eg, gho_reads γ (.agg #[.slice T5 (tabsW Y).length tc5, .slice G5 Y.gens.length gc5]) (by simp [go_sem, Act.eval, -Array.getD_eq_getD_getElem?, e14, c0, c1]) rfl (⟨hD.1, by rw [upd_ne (by decide)]; exact hD.2⟩) (fun _ _ _ _ h => h)⟩
            | 18, ho =>
              simp at ho
              subst ho
              have eg : ac.tmps.getD 114 undef = .bool false := hv 16 114 rfl (by kernel_rfl)
              have e115 : ac.tmps.getD 115 undef = .agg #[.slice T5 (tabsW Y).length tc5, .slice G5 Y.gens.length gc5] := hv 17 115 rfl (by kernel_rfl)
              refine .inl ⟨wanted_of rfl rfl eg, gho_enters 58 #[.agg #[.slice T5 (tabsW Y).length tc5, .slice G5 Y.gens.length gc5]] (by simp [go_sem, Act.eval, -Array.getD_eq_getD_getElem?, e115]) ?_⟩
              refine (sworld_any T5 tc5 G5 gc5 (tabsW Y) Y w1 ((unhide HST).below hD.1)).mono ?_
              rintro e w6 ⟨A6, c6, G6, gc6, rfl, hN6, hb6⟩
              exact ⟨_, wldV A6 c6 G6 gc6 Y, rfl, rfl, ⟨hD.1.trans (hb6.mono hD.1.size), fun _ => ⟨A6, c6, G6, gc6, rfl, hN6.toWldAt⟩⟩, fun j u hj hLj h => by simpa [hj] using h⟩
            | 19, ho =>
              simp at ho
              subst ho
              have eg : ac.tmps.getD 114 undef = .bool false := hv 16 114 rfl (by kernel_rfl)
              have e15 : ac.tmps.getD 15 undef = .pointer (some ⟨wr.heap.size + 1, 0, none⟩) := hout 15 (by decide +kernel)
              have bb := (unhide HDW).below hD.1
              have c0 := bb.cell 1 rfl 0 rfl
              have c1 := bb.cell 1 rfl 1 rfl
              exact .inl ⟨wanted_of rfl rfl eg, gho_reads γ (.agg #[.slice A8 Y.rows.length c8, .slice G8 Y.gens.length gc8]) (by simp [go_sem, Act.eval, -Array.getD_eq_getD_getElem?, e15, c0, c1]) rfl (⟨hD.1, by rw [upd_ne (by decide)]; exact hD.2⟩) (fun _ _ _ _ h => h)⟩
            | 20, ho =>
              simp at ho
              subst ho
              have eg : ac.tmps.getD 114 undef = .bool false := hv 16 114 rfl (by kernel_rfl)
              have e116 : ac.tmps.getD 116 undef = γ := hv 18 116 rfl (by kernel_rfl)
              have e117 : ac.tmps.getD 117 undef = .agg #[.slice A8 Y.rows.length c8, .slice G8 Y.gens.length gc8] := hv 19 117 rfl (by kernel_rfl)
              obtain ⟨A1, c1, G1, gc1, hγ, hX1⟩ := hD.2 (hed 18 (by kernel_rfl))
              rw [hγ] at e116
              refine .inl ⟨wanted_of rfl rfl eg, gho_enters 36 #[.agg #[.slice A1 Y.rows.length c1, .slice G1 Y.gens.length gc1], .agg #[.slice A8 Y.rows.length c8, .slice G8 Y.gens.length gc8]] (by simp [go_sem, Act.eval, -Array.getD_eq_getD_getElem?, e116, e117]) ?_⟩
              refine (same_ws hyl hygl w1 A1 c1 G1 gc1 A8 c8 G8 gc8 hX1 ((unhide HWY).below hD.1)).mono ?_
              rintro e w6 ⟨rfl, hb6⟩
              exact ⟨_, γ, rfl, rfl, ⟨hD.1.trans (hb6.mono hD.1.size), fun _ => ⟨A1, c1, G1, gc1, hγ, hX1.below hb6⟩⟩, fun _ _ _ _ h => h⟩
            | 21, ho =>
              simp at ho
              subst ho
              have eg : ac.tmps.getD 114 undef = .bool false := hv 16 114 rfl (by kernel_rfl)
              have e118 : ac.tmps.getD 118 undef = .bool true := hv 20 118 rfl (by kernel_rfl)
              exact .inl ⟨wanted_of rfl rfl eg, gho_reads γ (.bool false) (by simp [go_sem, Act.eval, -Array.getD_eq_getD_getElem?, e118]) rfl (⟨hD.1, by rw [upd_ne (by decide)]; exact hD.2⟩) (fun _ _ _ _ h => h)⟩
            | 22, ho =>
              simp at ho
              subst ho
              have eg : ac.tmps.getD 109 undef = .bool true := hv 11 109 rfl (by kernel_rfl)
              have e114 : ac.tmps.getD 114 undef = .bool false := hv 16 114 rfl (by kernel_rfl)
              have e119 : ac.tmps.getD 119 undef = .bool false := hv 21 119 rfl (by kernel_rfl)
              exact .inl ⟨wanted_of rfl rfl eg, gho_reads γ (.bool false) (by simp [go_sem, Act.eval, -Array.getD_eq_getD_getElem?, e114, e119]) rfl (⟨hD.1, by rw [upd_ne (by decide)]; exact hD.2⟩) (fun _ _ _ _ h => h)⟩
            | 23, ho =>
              simp at ho
              subst ho
              have eg : ac.tmps.getD 106 undef = .bool false := hv 8 106 rfl (by kernel_rfl)
              have e109 : ac.tmps.getD 109 undef = .bool true := hv 11 109 rfl (by kernel_rfl)
              have e120 : ac.tmps.getD 120 undef = .bool false := hv 22 120 rfl (by kernel_rfl)
              exact .inl ⟨wanted_of rfl rfl eg, gho_reads γ (.bool false) (by simp [go_sem, Act.eval, -Array.getD_eq_getD_getElem?, e109, e120]) rfl (⟨hD.1, by rw [upd_ne (by decide)]; exact hD.2⟩) (fun _ _ _ _ h => h)⟩
            | 24, ho =>
              simp at ho
              subst ho
              have e106 : ac.tmps.getD 106 undef = .bool false := hv 8 106 rfl (by kernel_rfl)
              have e121 : ac.tmps.getD 121 undef = .bool false := hv 23 121 rfl (by kernel_rfl)
              exact .inl ⟨rfl, gho_reads γ (.bool false) (by simp [go_sem, Act.eval, -Array.getD_eq_getD_getElem?, e106, e121]) rfl (⟨hD.1, by rw [upd_ne (by decide)]; exact hD.2⟩) (fun _ _ _ _ h => h)⟩
            | ix + 25, ho => simp at ho
          case hend =>
            intro γ v L w11 hD hall hv
            have v24 : v 24 = .bool false := hv 24 122 rfl
            have HE := hide ((unhide HLW).trans (hD.1.mono (by have := (unhide HDW).sz (by simp); simp only [List.length_set, List.length_cons, List.length_nil] at this; have := unhide HZ0; omega)))
            clear hv hall hD h0
            simp only [putOps, List.getElem?_cons_zero, List.getElem?_cons_succ, Option.bind_some, List.length_cons, List.length_nil, Nat.reduceAdd, v24]
            clear v24
            go_frame
            go_wp2
            go_roundw
            case rel => exact ⟨2, by omega, rfl, unhide HE⟩
            case measure => simp [intOf]
        · have h0 : Below W9.heap.size W9 W9.drew ∧ True := ⟨(Below.refl _ _).drew, trivial⟩
          refine wp_region_gho (fun (γ : Value) ix v => (([fun v => v = .int .i64 err, fun v => v = .int .i64 err, fun v => v = .bool false, fun v => v = .bool false, fun v => v = .agg #[.int .i64 0, .int .i64 0], fun v => v = .agg #[.int .i64 0, .int .i64 0], fun v => v = .bool false, fun v => v = .bool false, fun v => v = .bool false, fun v => v = .int .i64 err, fun v => v = .bool false, fun v => v = .bool false, fun v => v = undef, fun v => v = undef, fun v => v = undef, fun v => v = undef, fun v => v = undef, fun v => v = undef, fun v => v = undef, fun v => v = undef, fun v => v = undef, fun v => v = undef, fun v => v = undef, fun v => v = .bool false, fun v => v = .bool false] : List (Value → Prop)).getD ix (fun _ => True)) v) (fun (γ : Value) (L : Nat → Bool) W => Below W9.heap.size W9 W ∧ True) (undef) (by kernel_rfl) (by kernel_rfl) (by kernel_rfl) h0 ?hstep ?hend
          case hstep =>
            intro γ ix o ho L ac w1 hD hL hed hcl hout hv
            match ix, ho with
            | 0, ho =>
              simp at ho
              subst ho
              have e18 : ac.tmps.getD 18 undef = .int .i64 err := hout 18 (by decide +kernel)
              exact .inl ⟨rfl, gho_reads γ (.int .i64 err) (by simp [go_sem, Act.eval, -Array.getD_eq_getD_getElem?, e18]) rfl (⟨hD.1, trivial⟩) (fun _ _ _ _ h => h)⟩
            | 1, ho =>
              simp at ho
              subst ho
              have e19 : ac.tmps.getD 19 undef = .int .i64 err := hout 19 (by decide +kernel)
              exact .inl ⟨rfl, gho_reads γ (.int .i64 err) (by simp [go_sem, Act.eval, -Array.getD_eq_getD_getElem?, e19]) rfl (⟨hD.1, trivial⟩) (fun _ _ _ _ h => h)⟩
            | 2, ho =>
              simp at ho
              subst ho
              have e98 : ac.tmps.getD 98 undef = .int .i64 err := hv 0 98 rfl (by kernel_rfl)
              have e99 : ac.tmps.getD 99 undef = .int .i64 err := hv 1 99 rfl (by kernel_rfl)
              exact .inl ⟨rfl, gho_reads γ (.bool false) (by simp [go_sem, Act.eval, -Array.getD_eq_getD_getElem?, e98, e99]) rfl (⟨hD.1, trivial⟩) (fun _ _ _ _ h => h)⟩
            | 3, ho =>
              simp at ho
              subst ho
              have e100 : ac.tmps.getD 100 undef = .bool false := hv 2 100 rfl (by kernel_rfl)
              exact .inl ⟨rfl, gho_reads γ (.bool false) (by simp [go_sem, Act.eval, -Array.getD_eq_getD_getElem?, e100]) rfl (⟨hD.1, trivial⟩) (fun _ _ _ _ h => h)⟩
            | 4, ho =>
              simp at ho
              subst ho
              have eg : ac.tmps.getD 101 undef = .bool false := hv 3 101 rfl (by kernel_rfl)
              have e16 : ac.tmps.getD 16 undef = .pointer (some ⟨wr.heap.size + 2, 0, none⟩) := hout 16 (by decide +kernel)
              have bb := (unhide HDW).below hD.1
              have c0 := bb.cell 2 rfl 0 rfl
              have c1 := bb.cell 2 rfl 1 rfl
              exact .inl ⟨wanted_of rfl rfl eg, gho_reads γ (.agg #[.int .i64 0, .int .i64 0]) (by simp [go_sem, Act.eval, -Array.getD_eq_getD_getElem?, e16, c0, c1]) rfl (⟨hD.1, trivial⟩) (fun _ _ _ _ h => h)⟩
            | 5, ho =>
              simp at ho
              subst ho
              have eg : ac.tmps.getD 101 undef = .bool false := hv 3 101 rfl (by kernel_rfl)
              have e17 : ac.tmps.getD 17 undef = .pointer (some ⟨wr.heap.size + 3, 0, none⟩) := hout 17 (by decide +kernel)
              have bb := (unhide HDW).below hD.1
              have c0 := bb.cell 3 rfl 0 rfl
              have c1 := bb.cell 3 rfl 1 rfl
              exact .inl ⟨wanted_of rfl rfl eg, gho_reads γ (.agg #[.int .i64 0, .int .i64 0]) (by simp [go_sem, Act.eval, -Array.getD_eq_getD_getElem?, e17, c0, c1]) rfl (⟨hD.1, trivial⟩) (fun _ _ _ _ h => h)⟩
            | 6, ho =>
              simp at ho
              subst ho
              have eg : ac.tmps.getD 101 undef = .bool false := hv 3 101 rfl (by kernel_rfl)
              have e102 : ac.tmps.getD 102 undef = .agg #[.int .i64 0, .int .i64 0] := hv 4 102 rfl (by kernel_rfl)
              have e103 : ac.tmps.getD 103 undef = .agg #[.int .i64 0, .int .i64 0] := hv 5 103 rfl (by kernel_rfl)
              exact .inl ⟨wanted_of rfl rfl eg, gho_reads γ (.bool false) (by simp [go_sem, Act.eval, -Array.getD_eq_getD_getElem?, e102, e103]) rfl (⟨hD.1, trivial⟩) (fun _ _ _ _ h => h)⟩
            | 7, ho =>
              simp at ho
              subst ho
              have e101 : ac.tmps.getD 101 undef = .bool false := hv 3 101 rfl (by kernel_rfl)
              have e104 : ac.tmps.getD 104 undef = .bool false := hv 6 104 rfl (by kernel_rfl)
              exact .inl ⟨rfl, gho_reads γ (.bool false) (by simp [go_sem, Act.eval, -Array.getD_eq_getD_getElem?, e101, e104]) rfl (⟨hD.1, trivial⟩) (fun _ _ _ _ h => h)⟩
            | 8, ho =>
              simp at ho
              subst ho
              have e105 : ac.tmps.getD 105 undef = .bool false := hv 7 105 rfl (by kernel_rfl)
              exact .inl ⟨rfl, gho_reads γ (.bool false) (by simp [go_sem, Act.eval, -Array.getD_eq_getD_getElem?, e105]) rfl (⟨hD.1, trivial⟩) (fun _ _ _ _ h => h)⟩
            | 9, ho =>
              simp at ho
              subst ho
              have eg : ac.tmps.getD 106 undef = .bool false := hv 8 106 rfl (by kernel_rfl)
              have e18 : ac.tmps.getD 18 undef = .int .i64 err := hout 18 (by decide +kernel)
              exact .inl ⟨wanted_of rfl rfl eg, gho_reads γ (.int .i64 err) (by simp [go_sem, Act.eval, -Array.getD_eq_getD_getElem?, e18]) rfl (⟨hD.1, trivial⟩) (fun _ _ _ _ h => h)⟩
            | 10, ho =>
              simp at ho
              subst ho
              have eg : ac.tmps.getD 106 undef = .bool false := hv 8 106 rfl (by kernel_rfl)
              have e107 : ac.tmps.getD 107 undef = .int .i64 err := hv 9 107 rfl (by kernel_rfl)
              exact .inl ⟨wanted_of rfl rfl eg, gho_reads γ (.bool false) (by simp [go_sem, Act.eval, -Array.getD_eq_getD_getElem?, e107, he0]) rfl (⟨hD.1, trivial⟩) (fun _ _ _ _ h => h)⟩
            | 11, ho =>
              simp at ho
              subst ho
              have eg : ac.tmps.getD 106 undef = .bool false := hv 8 106 rfl (by kernel_rfl)
              have e108 : ac.tmps.getD 108 undef = .bool false := hv 10 108 rfl (by kernel_rfl)
              exact .inl ⟨wanted_of rfl rfl eg, gho_reads γ (.bool false) (by simp [go_sem, Act.eval, -Array.getD_eq_getD_getElem?, e108]) rfl (⟨hD.1, trivial⟩) (fun _ _ _ _ h => h)⟩
            | 12, ho =>
              simp at ho
              subst ho
              have eg : ac.tmps.getD 109 undef = .bool !true := hv 11 109 rfl (by kernel_rfl)
              exact .inr ⟨unwanted_of rfl rfl eg, rfl, ⟨hD.1, trivial⟩⟩
            | 13, ho =>
              simp at ho
              subst ho
              have eg : ac.tmps.getD 109 undef = .bool !true := hv 11 109 rfl (by kernel_rfl)
              exact .inr ⟨unwanted_of rfl rfl eg, rfl, ⟨hD.1, trivial⟩⟩
            | 14, ho =>
              simp at ho
              subst ho
              have eg : ac.tmps.getD 109 undef = .bool !true := hv 11 109 rfl (by kernel_rfl)
              exact .inr ⟨unwanted_of rfl rfl eg, rfl, ⟨hD.1, trivial⟩⟩
            | 15, ho =>
              simp at ho
              subst ho
              have eg : ac.tmps.getD 109 undef = .bool !true := hv 11 109 rfl (by kernel_rfl)
              exact .inr ⟨unwanted_of rfl rfl eg, rfl, ⟨hD.1, trivial⟩⟩
            | 16, ho =>
              simp at ho
              subst ho
              have eg : ac.tmps.getD 109 undef = .bool !true := hv 11 109 rfl (by kernel_rfl)
              exact .inr ⟨unwanted_of rfl rfl eg, rfl, ⟨hD.1, trivial⟩⟩
            | 17, ho =>
              simp at ho
              subst ho
              have eg : ac.tmps.getD 114 undef = undef := hv 16 114 rfl (by kernel_rfl)
              exact .inr ⟨unwanted_un rfl rfl eg, rfl, ⟨hD.1, trivial⟩⟩
            | 18, ho =>
              simp at ho
              subst ho
              have eg : ac.tmps.getD 114 undef = undef := hv 16 114 rfl (by kernel_rfl)
              exact .inr ⟨unwanted_un rfl rfl eg, rfl, ⟨hD.1, trivial⟩⟩
            | 19, ho =>
              simp at ho
              subst ho
              have eg : ac.tmps.getD 114 undef = undef := hv 16 114 rfl (by kernel_rfl)
              exact .inr ⟨unwanted_un rfl rfl eg, rfl, ⟨hD.1, trivial⟩⟩
            | 20, ho =>
              simp at ho
              subst ho
              have eg : ac.tmps.getD 114 undef = undef := hv 16 114 rfl (by kernel_rfl)
              exact .inr ⟨unwanted_un rfl rfl eg, rfl, ⟨hD.1, trivial⟩⟩
            | 21, ho =>
              simp at ho
              subst ho
              have eg : ac.tmps.getD 114 undef = undef := hv 16 114 rfl (by kernel_rfl)
              exact .inr ⟨unwanted_un rfl rfl eg, rfl, ⟨hD.1, trivial⟩⟩
            | 22, ho =>
              simp at ho
              subst ho
              have eg : ac.tmps.getD 109 undef = .bool !true := hv 11 109 rfl (by kernel_rfl)
              exact .inr ⟨unwanted_of rfl rfl eg, rfl, ⟨hD.1, trivial⟩⟩
            | 23, ho =>
              simp at ho
              subst ho
              have eg : ac.tmps.getD 106 undef = .bool false := hv 8 106 rfl (by kernel_rfl)
              have e109 : ac.tmps.getD 109 undef = .bool false := hv 11 109 rfl (by kernel_rfl)
              exact .inl ⟨wanted_of rfl rfl eg, gho_reads γ (.bool false) (by simp [go_sem, Act.eval, -Array.getD_eq_getD_getElem?, e109]) rfl (⟨hD.1, trivial⟩) (fun _ _ _ _ h => h)⟩
            | 24, ho =>
              simp at ho
              subst ho
              have e106 : ac.tmps.getD 106 undef = .bool false := hv 8 106 rfl (by kernel_rfl)
              have e121 : ac.tmps.getD 121 undef = .bool false := hv 23 121 rfl (by kernel_rfl)
              exact .inl ⟨rfl, gho_reads γ (.bool false) (by simp [go_sem, Act.eval, -Array.getD_eq_getD_getElem?, e106, e121]) rfl (⟨hD.1, trivial⟩) (fun _ _ _ _ h => h)⟩
            | ix + 25, ho => simp at ho
          case hend =>
            intro γ v L w11 hD hall hv
            have v24 : v 24 = .bool false := hv 24 122 rfl
            have HE := hide ((unhide HLW).trans (hD.1.mono (by have := (unhide HDW).sz (by simp); simp only [List.length_set, List.length_cons, List.length_nil] at this; have := unhide HZ0; omega)))
            clear hv hall hD h0
            simp only [putOps, List.getElem?_cons_zero, List.getElem?_cons_succ, Option.bind_some, List.length_cons, List.length_nil, Nat.reduceAdd, v24]
            clear v24
            go_frame
            go_wp2
            go_roundw
            case rel => exact ⟨2, by omega, rfl, unhide HE⟩
            case measure => simp [intOf]
      · have hSC := fun W (h : StAt W T2 G2 (tabsW X) X) => sput_any T2 tc2 G2 gc2 (tabsW X) X i g p n W h
        have hPC := fun W (h : WldAt W A cap G gcap X) => put_any A cap G gcap X i g p n W (by omega) h
        have hYR : (putF X i g p n).1 = 0 → RightW ((putF X i g p n).2) := fun e => (put_keeps e).1
        obtain ⟨Y, hY⟩ : ∃ Y, Y = (putF X i g p n).2 := ⟨_, rfl⟩
        obtain ⟨err, herr⟩ : ∃ err, err = (putF X i g p n).1 := ⟨_, rfl⟩
        rw [← hY, ← herr] at hSC hPC hYR
        unfold stV beingV at hSC
        unfold wldV worldV beingV at hPC
        have HSC := hide hSC
        have HPC := hide hPC
        have HYR := hide hYR
        clear hSC hPC hYR hY herr
        go_upto_region 13 with fail
        rw [unhide HW4]
        go_wp2_with fail
        go_at_call 63
        refine (unhide HSC _ (unhide HT4)).mono ?_
        rintro e w5 ⟨T5, tc5, G5, gc5, rfl, hN5, hb5⟩
        have HB5 := hide ((unhide HB4).below hb5)
        have HD5 := hide ((unhide HD4).below hb5)
        have HL5 := hide ((unhide HL4).trans (hb5.mono (by have := unhide HZ4; have := unhide HZ0; omega)))
        have HX5 := hide ((unhide HX4).below hb5)
        have HN5 := hide (hN5.le (base' := wr.heap.size + 4) (unhide HZ4))
        clear hN5 hb5 s0 s1 b0 b1
        go_wp2_with (first
          | (refine wpList_putN rfl 71 (.tmp 14) (.tmp 88) rfl (wr.heap.size + 0) 0 [.slice T5 (tabsW Y).length tc5, .slice G5 Y.gens.length gc5] rfl rfl (by simp [Value.oneCell']) size71 ((unhide HD5).there 0 rfl 2 rfl) ?_; intro W6 hW; have q1 := (unhide HD5).give 0 rfl [.slice T5 (tabsW Y).length tc5, .slice G5 Y.gens.length gc5] rfl; have q2 := (unhide HB5).turn (cb := wr.heap.size + 0) (o := 0) (vs := [.slice T5 (tabsW Y).length tc5, .slice G5 Y.gens.length gc5]) (.inr (by have := unhide HZR; simp only [List.length_cons, List.length_nil]; omega)); have q3 := below_setCells (wr.heap.size + 0) (by have := unhide HZ0; omega) [.slice T5 (tabsW Y).length tc5, .slice G5 Y.gens.length gc5] 0 _ (unhide HL5); have q4 := wld_turn (unhide HX5) (b := wr.heap.size + 0) (o := 0) (vs := [.slice T5 (tabsW Y).length tc5, .slice G5 Y.gens.length gc5]) (unhide HXB); have q5 := (unhide HN5).putc (b := wr.heap.size + 0) (o := 0) (vs := [.slice T5 (tabsW Y).length tc5, .slice G5 Y.gens.length gc5]) (by omega); rw [← hW] at q1 q2 q3 q4 q5; have HD6 := hide q1; have HB6 := hide q2; have HL6 := hide q3; have HX6 := hide q4; have HN6 := hide q5; clear hW q1 q2 q3 q4 q5; have a0 := (unhide HB6).cell 0 rfl 0 rfl; have a1 := (unhide HB6).cell 0 rfl 1 rfl; rw [Nat.add_zero] at a0 a1; have b0 := (unhide HB6).cell 1 rfl 0 rfl; have b1 := (unhide HB6).cell 1 rfl 1 rfl))
        go_at_call 44
        refine (unhide HPC _ (unhide HX6)).mono ?_
        rintro e w8 ⟨A8, c8, G8, gc8, rfl, hY8, hb8⟩
        have HB8 := hide ((unhide HB6).below hb8)
        have HD8 := hide ((unhide HD6).below hb8)
        have HL8 := hide ((unhide HL6).trans (hb8.mono (by have := (unhide HD6).sz (by simp); simp only [List.length_set, List.length_cons, List.length_nil] at this; have := unhide HZ0; omega)))
        have HX8 := hide ((unhide HX6).below hb8)
        have HN8 := hide ((unhide HN6).below hb8)
        have HZ8 : Hid (wr.heap.size + 4 ≤ W6.heap.size) := hide (by have := (unhide HD6).sz (by simp); simpa using this)
        have HY8 := hide hY8
        clear hY8 hb8 a0 a1 b0 b1
        go_wp2_with (first
          | (refine wpList_putN rfl 38 (.tmp 15) (.tmp 96) rfl (wr.heap.size + 1) 0 [.slice A8 Y.rows.length c8, .slice G8 Y.gens.length gc8] rfl rfl (by simp [Value.oneCell']) size38 ((unhide HD8).there 1 rfl 2 rfl) ?_; intro W9 hW; have q1 := (unhide HD8).give 1 rfl [.slice A8 Y.rows.length c8, .slice G8 Y.gens.length gc8] rfl; have q2 := (unhide HB8).turn (cb := wr.heap.size + 1) (o := 0) (vs := [.slice A8 Y.rows.length c8, .slice G8 Y.gens.length gc8]) (.inr (by have := unhide HZR; simp only [List.length_cons, List.length_nil]; omega)); have q3 := below_setCells (wr.heap.size + 1) (by have := unhide HZ0; omega) [.slice A8 Y.rows.length c8, .slice G8 Y.gens.length gc8] 0 _ (unhide HL8); have q4 := wld_turn (unhide HX8) (b := wr.heap.size + 1) (o := 0) (vs := [.slice A8 Y.rows.length c8, .slice G8 Y.gens.length gc8]) (unhide HXB); have q5 := (unhide HN8).putc (b := wr.heap.size + 1) (o := 0) (vs := [.slice A8 Y.rows.length c8, .slice G8 Y.gens.length gc8]) (by omega); have q6 := wldnew_putc (unhide HY8) (b := wr.heap.size + 1) (o := 0) (vs := [.slice A8 Y.rows.length c8, .slice G8 Y.gens.length gc8]) (by have := unhide HZ8; omega); rw [← hW] at q1 q2 q3 q4 q5 q6; have HD9 := hide q1; have HB9 := hide q2; have HL9 := hide q3; have HX9 := hide q4; have HN9 := hide q5; have HY9 := hide q6; clear hW q1 q2 q3 q4 q5 q6))
        have HST := hide (unhide HN9).st
        have HWY := hide (unhide HY9).toWldAt
        have HLW := hide (unhide HL9)
        have HDW := hide (unhide HD9)
        clear HSC HPC HX5 HX8 HB5 HB8
        by_cases he0 : err = 0
        · subst he0
          have hr := unhide HYR rfl
          obtain ⟨hyl, hygl, _⟩ := right_hr ((right_iff Y).2 hr)
          clear hr
          have h0 : Below W9.heap.size W9 W9.drew ∧ ((fun (_ : Nat) => false) 18 = true → ∃ A' c' G' gc', undef = .agg #[.slice A' Y.rows.length c', .slice G' Y.gens.length gc'] ∧ WldAt W9.drew A' c' G' gc' Y) := ⟨(Below.refl _ _).drew, fun e => by cases e⟩
          refine wp_region_gho (fun (γ : Value) ix v => if ix = 18 then v = γ else (([fun v => v = .int .i64 0, fun v => v = .int .i64 0, fun v => v = .bool false, fun v => v = .bool false, fun v => v = .agg #[.int .i64 0, .int .i64 0], fun v => v = .agg #[.int .i64 0, .int .i64 0], fun v => v = .bool false, fun v => v = .bool false, fun v => v = .bool false, fun v => v = .int .i64 0, fun v => v = .bool true, fun v => v = .bool true, fun v => v = .agg #[.slice T5 (tabsW Y).length tc5, .slice G5 Y.gens.length gc5], fun v => v = .agg #[.int .i64 0, .int .i64 0], fun v => v = .int .i64 0, fun v => v = .bool false, fun v => v = .bool false, fun v => v = .agg #[.slice T5 (tabsW Y).length tc5, .slice G5 Y.gens.length gc5], fun _ => True, fun v => v = .agg #[.slice A8 Y.rows.length c8, .slice G8 Y.gens.length gc8], fun v => v = .bool true, fun v => v = .bool false, fun v => v = .bool false, fun v => v = .bool false, fun v => v = .bool false] : List (Value → Prop)).getD ix (fun _ => True)) v) (fun (γ : Value) L W => Below W9.heap.size W9 W ∧ (L 18 = true → ∃ A' c' G' gc', γ = .agg #[.slice A' Y.rows.length c', .slice G' Y.gens.length gc'] ∧ WldAt W A' c' G' gc' Y)) (undef) (by kernel_rfl) (by kernel_rfl) (by kernel_rfl) h0 ?hstep ?hend
          case hstep =>
            intro γ ix o ho L ac w1 hD hL hed hcl hout hv
            match ix, ho with
            | 0, ho =>
              simp at ho
              subst ho
              have e18 : ac.tmps.getD 18 undef = .int .i64 0 := hout 18 (by decide +kernel)
              exact .inl ⟨rfl, gho_reads γ (.int .i64 0) (by simp [go_sem, Act.eval, -Array.getD_eq_getD_getElem?, e18]) rfl (⟨hD.1, by rw [upd_ne (by decide)]; exact hD.2⟩) (fun _ _ _ _ h => h)⟩
            | 1, ho =>
              simp at ho
              subst ho
              have e19 : ac.tmps.getD 19 undef = .int .i64 0 := hout 19 (by decide +kernel)
              exact .inl ⟨rfl, gho_reads γ (.int .i64 0) (by simp [go_sem, Act.eval, -Array.getD_eq_getD_getElem?, e19]) rfl (⟨hD.1, by rw [upd_ne (by decide)]; exact hD.2⟩) (fun _ _ _ _ h => h)⟩
            | 2, ho =>
              simp at ho
              subst ho
              have e98 : ac.tmps.getD 98 undef = .int .i64 0 := hv 0 98 rfl (by kernel_rfl)
              have e99 : ac.tmps.getD 99 undef = .int .i64 0 := hv 1 99 rfl (by kernel_rfl)
              exact .inl ⟨rfl, gho_reads γ (.bool false) (by simp [go_sem, Act.eval, -Array.getD_eq_getD_getElem?, e98, e99]) rfl (⟨hD.1, by rw [upd_ne (by decide)]; exact hD.2⟩) (fun _ _ _ _ h => h)⟩
            | 3, ho =>
              simp at ho
              subst ho
              have e100 : ac.tmps.getD 100 undef = .bool false := hv 2 100 rfl (by kernel_rfl)
              exact .inl ⟨rfl, gho_reads γ (.bool false) (by simp [go_sem, Act.eval, -Array.getD_eq_getD_getElem?, e100]) rfl (⟨hD.1, by rw [upd_ne (by decide)]; exact hD.2⟩) (fun _ _ _ _ h => h)⟩
            | 4, ho =>
              simp at ho
              subst ho
              have eg : ac.tmps.getD 101 undef = .bool false := hv 3 101 rfl (by kernel_rfl)
              have e16 : ac.tmps.getD 16 undef = .pointer (some ⟨wr.heap.size + 2, 0, none⟩) := hout 16 (by decide +kernel)
              have bb := (unhide HDW).below hD.1
              have c0 := bb.cell 2 rfl 0 rfl
              have c1 := bb.cell 2 rfl 1 rfl
              exact .inl ⟨wanted_of rfl rfl eg, gho_reads γ (.agg #[.int .i64 0, .int .i64 0]) (by simp [go_sem, Act.eval, -Array.getD_eq_getD_getElem?, e16, c0, c1]) rfl (⟨hD.1, by rw [upd_ne (by decide)]; exact hD.2⟩) (fun _ _ _ _ h => h)⟩
            | 5, ho =>
              simp at ho
              subst ho
              have eg : ac.tmps.getD 101 undef = .bool false := hv 3 101 rfl (by kernel_rfl)
              have e17 : ac.tmps.getD 17 undef = .pointer (some ⟨wr.heap.size + 3, 0, none⟩) := hout 17 (by decide +kernel)
              have bb := (unhide HDW).below hD.1
              have c0 := bb.cell 3 rfl 0 rfl
              have c1 := bb.cell 3 rfl 1 rfl
              exact .inl ⟨wanted_of rfl rfl eg, gho_reads γ (.agg #[.int .i64 0, .int .i64 0]) (by simp [go_sem, Act.eval, -Array.getD_eq_getD_getElem?, e17, c0, c1]) rfl (⟨hD.1, by rw [upd_ne (by decide)]; exact hD.2⟩) (fun _ _ _ _ h => h)⟩
            | 6, ho =>
              simp at ho
              subst ho
              have eg : ac.tmps.getD 101 undef = .bool false := hv 3 101 rfl (by kernel_rfl)
              have e102 : ac.tmps.getD 102 undef = .agg #[.int .i64 0, .int .i64 0] := hv 4 102 rfl (by kernel_rfl)
              have e103 : ac.tmps.getD 103 undef = .agg #[.int .i64 0, .int .i64 0] := hv 5 103 rfl (by kernel_rfl)
              exact .inl ⟨wanted_of rfl rfl eg, gho_reads γ (.bool false) (by simp [go_sem, Act.eval, -Array.getD_eq_getD_getElem?, e102, e103]) rfl (⟨hD.1, by rw [upd_ne (by decide)]; exact hD.2⟩) (fun _ _ _ _ h => h)⟩
            | 7, ho =>
              simp at ho
              subst ho
              have e101 : ac.tmps.getD 101 undef = .bool false := hv 3 101 rfl (by kernel_rfl)
              have e104 : ac.tmps.getD 104 undef = .bool false := hv 6 104 rfl (by kernel_rfl)
              exact .inl ⟨rfl, gho_reads γ (.bool false) (by simp [go_sem, Act.eval, -Array.getD_eq_getD_getElem?, e101, e104]) rfl (⟨hD.1, by rw [upd_ne (by decide)]; exact hD.2⟩) (fun _ _ _ _ h => h)⟩
            | 8, ho =>
              simp at ho
              subst ho
              have e105 : ac.tmps.getD 105 undef = .bool false := hv 7 105 rfl (by kernel_rfl)
              exact .inl ⟨rfl, gho_reads γ (.bool false) (by simp [go_sem, Act.eval, -Array.getD_eq_getD_getElem?, e105]) rfl (⟨hD.1, by rw [upd_ne (by decide)]; exact hD.2⟩) (fun _ _ _ _ h => h)⟩
            | 9, ho =>
              simp at ho
              subst ho
              have eg : ac.tmps.getD 106 undef = .bool false := hv 8 106 rfl (by kernel_rfl)
              have e18 : ac.tmps.getD 18 undef = .int .i64 0 := hout 18 (by decide +kernel)
              exact .inl ⟨wanted_of rfl rfl eg, gho_reads γ (.int .i64 0) (by simp [go_sem, Act.eval, -Array.getD_eq_getD_getElem?, e18]) rfl (⟨hD.1, by rw [upd_ne (by decide)]; exact hD.2⟩) (fun _ _ _ _ h => h)⟩
            | 10, ho =>
              simp at ho
              subst ho
              have eg : ac.tmps.getD 106 undef = .bool false := hv 8 106 rfl (by kernel_rfl)
              have e107 : ac.tmps.getD 107 undef = .int .i64 0 := hv 9 107 rfl (by kernel_rfl)
              exact .inl ⟨wanted_of rfl rfl eg, gho_reads γ (.bool true) (by simp [go_sem, Act.eval, -Array.getD_eq_getD_getElem?, e107]) rfl (⟨hD.1, by rw [upd_ne (by decide)]; exact hD.2⟩) (fun _ _ _ _ h => h)⟩
            | 11, ho =>
              simp at ho
              subst ho
              have eg : ac.tmps.getD 106 undef = .bool false := hv 8 106 rfl (by kernel_rfl)
              have e108 : ac.tmps.getD 108 undef = .bool true := hv 10 108 rfl (by kernel_rfl)
              exact .inl ⟨wanted_of rfl rfl eg, gho_reads γ (.bool true) (by simp [go_sem, Act.eval, -Array.getD_eq_getD_getElem?, e108]) rfl (⟨hD.1, by rw [upd_ne (by decide)]; exact hD.2⟩) (fun _ _ _ _ h => h)⟩
            | 12, ho =>
              simp at ho
              subst ho
              have eg : ac.tmps.getD 109 undef = .bool true := hv 11 109 rfl (by kernel_rfl)
              have e14 : ac.tmps.getD 14 undef = .pointer (some ⟨wr.heap.size, 0, none⟩) := hout 14 (by decide +kernel)
              have bb := (unhide HDW).below hD.1
              have c0 := bb.cell 0 rfl 0 rfl
              have c1 := bb.cell 0 rfl 1 rfl
              rw [Nat.add_zero] at c0 c1
              exact .inl ⟨wanted_of rfl rfl eg, gho_reads γ (.agg #[.slice T5 (tabsW Y).length tc5, .slice G5 Y.gens.length gc5]) (by simp [go_sem, Act.eval, -Array.getD_eq_getD_getElem?, e14, c0, c1]) rfl (⟨hD.1, by rw [upd_ne (by decide)]; exact hD.2⟩) (fun _ _ _ _ h => h)⟩
            | 13, ho =>
              simp at ho
              subst ho
              have eg : ac.tmps.getD 109 undef = .bool true := hv 11 109 rfl (by kernel_rfl)
              have e110 : ac.tmps.getD 110 undef = .agg #[.slice T5 (tabsW Y).length tc5, .slice G5 Y.gens.length gc5] := hv 12 110 rfl (by kernel_rfl)
              refine .inl ⟨wanted_of rfl rfl eg, gho_enters 54 #[.agg #[.slice T5 (tabsW Y).length tc5, .slice G5 Y.gens.length gc5]] (by simp [go_sem, Act.eval, -Array.getD_eq_getD_getElem?, e110]) ?_⟩
              refine (swrong_any T5 tc5 G5 gc5 (tabsW Y) Y w1 ((unhide HST).below hD.1)).mono ?_
              rintro e w6 ⟨rfl, hb6⟩
              exact ⟨_, γ, rfl, rfl, ⟨hD.1.trans (hb6.mono hD.1.size), fun e => (by obtain ⟨A1, c1, G1, gc1, a, b⟩ := hD.2 (by rwa [upd_ne (by decide)] at e); exact ⟨A1, c1, G1, gc1, a, b.below hb6⟩)⟩, fun _ _ _ _ h => h⟩
            | 14, ho =>
              simp at ho
              subst ho
              have eg : ac.tmps.getD 109 undef = .bool true := hv 11 109 rfl (by kernel_rfl)
              have e111 : ac.tmps.getD 111 undef = .agg #[.int .i64 0, .int .i64 0] := hv 13 111 rfl (by kernel_rfl)
              have hf := run_field43 (.int .i64 0) (.int .i64 0) w1
              exact .inl ⟨wanted_of rfl rfl eg, gho_reads γ (.int .i64 0) (by simp [go_sem, Act.eval, -Array.getD_eq_getD_getElem?, e111, hf]) rfl (⟨hD.1, by rw [upd_ne (by decide)]; exact hD.2⟩) (fun _ _ _ _ h => h)⟩
            | 15, ho =>
              simp at ho
              subst ho
              have eg : ac.tmps.getD 109 undef = .bool true := hv 11 109 rfl (by kernel_rfl)
              have e112 : ac.tmps.getD 112 undef = .int .i64 0 := hv 14 112 rfl (by kernel_rfl)
              exact .inl ⟨wanted_of rfl rfl eg, gho_reads γ (.bool false) (by simp [go_sem, Act.eval, -Array.getD_eq_getD_getElem?, e112]) rfl (⟨hD.1, by rw [upd_ne (by decide)]; exact hD.2⟩) (fun _ _ _ _ h => h)⟩
            | 16, ho =>
              simp at ho
              subst ho
              have eg : ac.tmps.getD 109 undef = .bool true := hv 11 109 rfl (by kernel_rfl)
              have e113 : ac.tmps.getD 113 undef = .bool false := hv 15 113 rfl (by kernel_rfl)
              exact .inl ⟨wanted_of rfl rfl eg, gho_reads γ (.bool false) (by simp [go_sem, Act.eval, -Array.getD_eq_getD_getElem?, e113]) rfl (⟨hD.1, by rw [upd_ne (by decide)]; exact hD.2⟩) (fun _ _ _ _ h => h)⟩
            | 17, ho =>
              simp at ho
              subst ho
              have eg : ac.tmps.getD 114 undef = .bool false := hv 16 114 rfl (by kernel_rfl)
              have e14 : ac.tmps.getD 14 undef = .pointer (some ⟨wr.heap.size, 0, none⟩) := hout 14 (by decide +kernel)
              have bb := (unhide HDW).below hD.1
              have c0 := bb.cell 0 rfl 0 rfl
              have c1 := bb.cell 0 rfl 1 rfl
              rw [Nat.add_zero] at c0 c1
              exact .inl ⟨wanted_of rfl rfl eg, gho_reads γ (.agg #[.slice T5 (tabsW Y).length tc5, .slice G5 Y.gens.length gc5]) (by simp [go_sem, Act.eval, -Array.getD_eq_getD_getElem?, e14, c0, c1]) rfl (⟨hD.1, by rw [upd_ne (by decide)]; exact hD.2⟩) (fun _ _ _ _ h => h)⟩
            | 18, ho =>
              simp at ho
              subst ho
              have eg : ac.tmps.getD 114 undef = .bool false := hv 16 114 rfl (by kernel_rfl)
              have e115 : ac.tmps.getD 115 undef = .agg #[.slice T5 (tabsW Y).length tc5, .slice G5 Y.gens.length gc5] := hv 17 115 rfl (by kernel_rfl)
              refine .inl ⟨wanted_of rfl rfl eg, gho_enters 58 #[.agg #[.slice T5 (tabsW Y).length tc5, .slice G5 Y.gens.length gc5]] (by simp [go_sem, Act.eval, -Array.getD_eq_getD_getElem?, e115]) ?_⟩
              refine (sworld_any T5 tc5 G5 gc5 (tabsW Y) Y w1 ((unhide HST).below hD.1)).mono ?_
              rintro e w6 ⟨A6, c6, G6, gc6, rfl, hN6, hb6⟩
              exact ⟨_, wldV A6 c6 G6 gc6 Y, rfl, rfl, ⟨hD.1.trans (hb6.mono hD.1.size), fun _ => ⟨A6, c6, G6, gc6, rfl, hN6.toWldAt⟩⟩, fun j u hj hLj h => by simpa [hj] using h⟩
            | 19, ho =>
              simp at ho
              subst ho
              have eg : ac.tmps.getD 114 undef = .bool false := hv 16 114 rfl (by kernel_rfl)
              have e15 : ac.tmps.getD 15 undef = .pointer (some ⟨wr.heap.size + 1, 0, none⟩) := hout 15 (by decide +kernel)
              have bb := (unhide HDW).below hD.1
              have c0 := bb.cell 1 rfl 0 rfl
              have c1 := bb.cell 1 rfl 1 rfl
              exact .inl ⟨wanted_of rfl rfl eg, gho_reads γ (.agg #[.slice A8 Y.rows.length c8, .slice G8 Y.gens.length gc8]) (by simp [go_sem, Act.eval, -Array.getD_eq_getD_getElem?, e15, c0, c1]) rfl (⟨hD.1, by rw [upd_ne (by decide)]; exact hD.2⟩) (fun _ _ _ _ h => h)⟩
            | 20, ho =>
              simp at ho
              subst ho
              have eg : ac.tmps.getD 114 undef = .bool false := hv 16 114 rfl (by kernel_rfl)
              have e116 : ac.tmps.getD 116 undef = γ := hv 18 116 rfl (by kernel_rfl)
              have e117 : ac.tmps.getD 117 undef = .agg #[.slice A8 Y.rows.length c8, .slice G8 Y.gens.length gc8] := hv 19 117 rfl (by kernel_rfl)
              obtain ⟨A1, c1, G1, gc1, hγ, hX1⟩ := hD.2 (hed 18 (by kernel_rfl))
              rw [hγ] at e116
              refine .inl ⟨wanted_of rfl rfl eg, gho_enters 36 #[.agg #[.slice A1 Y.rows.length c1, .slice G1 Y.gens.length gc1], .agg #[.slice A8 Y.rows.length c8, .slice G8 Y.gens.length gc8]] (by simp [go_sem, Act.eval, -Array.getD_eq_getD_getElem?, e116, e117]) ?_⟩
              refine (same_ws hyl hygl w1 A1 c1 G1 gc1 A8 c8 G8 gc8 hX1 ((unhide HWY).below hD.1)).mono ?_
              rintro e w6 ⟨rfl, hb6⟩
              exact ⟨_, γ, rfl, rfl, ⟨hD.1.trans (hb6.mono hD.1.size), fun _ => ⟨A1, c1, G1, gc1, hγ, hX1.below hb6⟩⟩, fun _ _ _ _ h => h⟩
            | 21, ho =>
              simp at ho
              subst ho
              have eg : ac.tmps.getD 114 undef = .bool false := hv 16 114 rfl (by kernel_rfl)
              have e118 : ac.tmps.getD 118 undef = .bool true := hv 20 118 rfl (by kernel_rfl)
              exact .inl ⟨wanted_of rfl rfl eg, gho_reads γ (.bool false) (by simp [go_sem, Act.eval, -Array.getD_eq_getD_getElem?, e118]) rfl (⟨hD.1, by rw [upd_ne (by decide)]; exact hD.2⟩) (fun _ _ _ _ h => h)⟩
            | 22, ho =>
              simp at ho
              subst ho
              have eg : ac.tmps.getD 109 undef = .bool true := hv 11 109 rfl (by kernel_rfl)
              have e114 : ac.tmps.getD 114 undef = .bool false := hv 16 114 rfl (by kernel_rfl)
              have e119 : ac.tmps.getD 119 undef = .bool false := hv 21 119 rfl (by kernel_rfl)
              exact .inl ⟨wanted_of rfl rfl eg, gho_reads γ (.bool false) (by simp [go_sem, Act.eval, -Array.getD_eq_getD_getElem?, e114, e119]) rfl (⟨hD.1, by rw [upd_ne (by decide)]; exact hD.2⟩) (fun _ _ _ _ h => h)⟩
            | 23, ho =>
              simp at ho
              subst ho
              have eg : ac.tmps.getD 106 undef = .bool false := hv 8 106 rfl (by kernel_rfl)
              have e109 : ac.tmps.getD 109 undef = .bool true := hv 11 109 rfl (by kernel_rfl)
              have e120 : ac.tmps.getD 120 undef = .bool false := hv 22 120 rfl (by kernel_rfl)
              exact .inl ⟨wanted_of rfl rfl eg, gho_reads γ (.bool false) (by simp [go_sem, Act.eval, -Array.getD_eq_getD_getElem?, e109, e120]) rfl (⟨hD.1, by rw [upd_ne (by decide)]; exact hD.2⟩) (fun _ _ _ _ h => h)⟩
            | 24, ho =>
              simp at ho
              subst ho
              have e106 : ac.tmps.getD 106 undef = .bool false := hv 8 106 rfl (by kernel_rfl)
              have e121 : ac.tmps.getD 121 undef = .bool false := hv 23 121 rfl (by kernel_rfl)
              exact .inl ⟨rfl, gho_reads γ (.bool false) (by simp [go_sem, Act.eval, -Array.getD_eq_getD_getElem?, e106, e121]) rfl (⟨hD.1, by rw [upd_ne (by decide)]; exact hD.2⟩) (fun _ _ _ _ h => h)⟩
            | ix + 25, ho => simp at ho
          case hend =>
            intro γ v L w11 hD hall hv
            have v24 : v 24 = .bool false := hv 24 122 rfl
            have HE := hide ((unhide HLW).trans (hD.1.mono (by have := (unhide HDW).sz (by simp); simp only [List.length_set, List.length_cons, List.length_nil] at this; have := unhide HZ0; omega)))
            clear hv hall hD h0
            simp only [putOps, List.getElem?_cons_zero, List.getElem?_cons_succ, Option.bind_some, List.length_cons, List.length_nil, Nat.reduceAdd, v24]
            clear v24
            go_frame
            go_wp2
            go_roundw
            case rel => exact ⟨3, by omega, rfl, unhide HE⟩
            case measure => simp [intOf]
        · have h0 : Below W9.heap.size W9 W9.drew ∧ True := ⟨(Below.refl _ _).drew, trivial⟩
          refine wp_region_gho (fun (γ : Value) ix v => (([fun v => v = .int .i64 err, fun v => v = .int .i64 err, fun v => v = .bool false, fun v => v = .bool false, fun v => v = .agg #[.int .i64 0, .int .i64 0], fun v => v = .agg #[.int .i64 0, .int .i64 0], fun v => v = .bool false, fun v => v = .bool false, fun v => v = .bool false, fun v => v = .int .i64 err, fun v => v = .bool false, fun v => v = .bool false, fun v => v = undef, fun v => v = undef, fun v => v = undef, fun v => v = undef, fun v => v = undef, fun v => v = undef, fun v => v = undef, fun v => v = undef, fun v => v = undef, fun v => v = undef, fun v => v = undef, fun v => v = .bool false, fun v => v = .bool false] : List (Value → Prop)).getD ix (fun _ => True)) v) (fun (γ : Value) (L : Nat → Bool) W => Below W9.heap.size W9 W ∧ True) (undef) (by kernel_rfl) (by kernel_rfl) (by kernel_rfl) h0 ?hstep ?hend
          case hstep =>
            intro γ ix o ho L ac w1 hD hL hed hcl hout hv
            match ix, ho with
            | 0, ho =>
              simp at ho
              subst ho
              have e18 : ac.tmps.getD 18 undef = .int .i64 err := hout 18 (by decide +kernel)
              exact .inl ⟨rfl, gho_reads γ (.int .i64 err) (by simp [go_sem, Act.eval, -Array.getD_eq_getD_getElem?, e18]) rfl (⟨hD.1, trivial⟩) (fun _ _ _ _ h => h)⟩
            | 1, ho =>
              simp at ho
              subst ho
              have e19 : ac.tmps.getD 19 undef = .int .i64 err := hout 19 (by decide +kernel)
              exact .inl ⟨rfl, gho_reads γ (.int .i64 err) (by simp [go_sem, Act.eval, -Array.getD_eq_getD_getElem?, e19]) rfl (⟨hD.1, trivial⟩) (fun _ _ _ _ h => h)⟩
            | 2, ho =>
              simp at ho
              subst ho
              have e98 : ac.tmps.getD 98 undef = .int .i64 err := hv 0 98 rfl (by kernel_rfl)
              have e99 : ac.tmps.getD 99 undef = .int .i64 err := hv 1 99 rfl (by kernel_rfl)
              exact .inl ⟨rfl, gho_reads γ (.bool false) (by simp [go_sem, Act.eval, -Array.getD_eq_getD_getElem?, e98, e99]) rfl (⟨hD.1, trivial⟩) (fun _ _ _ _ h => h)⟩
            | 3, ho =>
              simp at ho
              subst ho
              have e100 : ac.tmps.getD 100 undef = .bool false := hv 2 100 rfl (by kernel_rfl)
              exact .inl ⟨rfl, gho_reads γ (.bool false) (by simp [go_sem, Act.eval, -Array.getD_eq_getD_getElem?, e100]) rfl (⟨hD.1, trivial⟩) (fun _ _ _ _ h => h)⟩
            | 4, ho =>
              simp at ho
              subst ho
              have eg : ac.tmps.getD 101 undef = .bool false := hv 3 101 rfl (by kernel_rfl)
              have e16 : ac.tmps.getD 16 undef = .pointer (some ⟨wr.heap.size + 2, 0, none⟩) := hout 16 (by decide +kernel)
              have bb := (unhide HDW).below hD.1
              have c0 := bb.cell 2 rfl 0 rfl
              have c1 := bb.cell 2 rfl 1 rfl
              exact .inl ⟨wanted_of rfl rfl eg, gho_reads γ (.agg #[.int .i64 0, .int .i64 0]) (by simp [go_sem, Act.eval, -Array.getD_eq_getD_getElem?, e16, c0, c1]) rfl (⟨hD.1, trivial⟩) (fun _ _ _ _ h => h)⟩
            | 5, ho =>
              simp at ho
              subst ho
              have eg : ac.tmps.getD 101 undef = .bool false := hv 3 101 rfl (by kernel_rfl)
              have e17 : ac.tmps.getD 17 undef = .pointer (some ⟨wr.heap.size + 3, 0, none⟩) := hout 17 (by decide +kernel)
              have bb := (unhide HDW).below hD.1
              have c0 := bb.cell 3 rfl 0 rfl
              have c1 := bb.cell 3 rfl 1 rfl
              exact .inl ⟨wanted_of rfl rfl eg, gho_reads γ (.agg #[.int .i64 0, .int .i64 0]) (by simp [go_sem, Act.eval, -Array.getD_eq_getD_getElem?, e17, c0, c1]) rfl (⟨hD.1, trivial⟩) (fun _ _ _ _ h => h)⟩
            | 6, ho =>
              simp at ho
              subst ho
              have eg : ac.tmps.getD 101 undef = .bool false := hv 3 101 rfl (by kernel_rfl)
              have e102 : ac.tmps.getD 102 undef = .agg #[.int .i64 0, .int .i64 0] := hv 4 102 rfl (by kernel_rfl)
              have e103 : ac.tmps.getD 103 undef = .agg #[.int .i64 0, .int .i64 0] := hv 5 103 rfl (by kernel_rfl)
              exact .inl ⟨wanted_of rfl rfl eg, gho_reads γ (.bool false) (by simp [go_sem, Act.eval, -Array.getD_eq_getD_getElem?, e102, e103]) rfl (⟨hD.1, trivial⟩) (fun _ _ _ _ h => h)⟩
            | 7, ho =>
              simp at ho
              subst ho
              have e101 : ac.tmps.getD 101 undef = .bool false := hv 3 101 rfl (by kernel_rfl)
              have e104 : ac.tmps.getD 104 undef = .bool false := hv 6 104 rfl (by kernel_rfl)
              exact .inl ⟨rfl, gho_reads γ (.bool false) (by simp [go_sem, Act.eval, -Array.getD_eq_getD_getElem?, e101, e104]) rfl (⟨hD.1, trivial⟩) (fun _ _ _ _ h => h)⟩
            | 8, ho =>
              simp at ho
              subst ho
              have e105 : ac.tmps.getD 105 undef = .bool false := hv 7 105 rfl (by kernel_rfl)
              exact .inl ⟨rfl, gho_reads γ (.bool false) (by simp [go_sem, Act.eval, -Array.getD_eq_getD_getElem?, e105]) rfl (⟨hD.1, trivial⟩) (fun _ _ _ _ h => h)⟩
            | 9, ho =>
              simp at ho
              subst ho
              have eg : ac.tmps.getD 106 undef = .bool false := hv 8 106 rfl (by kernel_rfl)
              have e18 : ac.tmps.getD 18 undef = .int .i64 err := hout 18 (by decide +kernel)
              exact .inl ⟨wanted_of rfl rfl eg, gho_reads γ (.int .i64 err) (by simp [go_sem, Act.eval, -Array.getD_eq_getD_getElem?, e18]) rfl (⟨hD.1, trivial⟩) (fun _ _ _ _ h => h)⟩
            | 10, ho =>
              simp at ho
              subst ho
              have eg : ac.tmps.getD 106 undef = .bool false := hv 8 106 rfl (by kernel_rfl)
              have e107 : ac.tmps.getD 107 undef = .int .i64 err := hv 9 107 rfl (by kernel_rfl)
              exact .inl ⟨wanted_of rfl rfl eg, gho_reads γ (.bool false) (by simp [go_sem, Act.eval, -Array.getD_eq_getD_getElem?, e107, he0]) rfl (⟨hD.1, trivial⟩) (fun _ _ _ _ h => h)⟩
            | 11, ho =>
              simp at ho
              subst ho
              have eg : ac.tmps.getD 106 undef = .bool false := hv 8 106 rfl (by kernel_rfl)
              have e108 : ac.tmps.getD 108 undef = .bool false := hv 10 108 rfl (by kernel_rfl)
              exact .inl ⟨wanted_of rfl rfl eg, gho_reads γ (.bool false) (by simp [go_sem, Act.eval, -Array.getD_eq_getD_getElem?, e108]) rfl (⟨hD.1, trivial⟩) (fun _ _ _ _ h => h)⟩
            | 12, ho =>
              simp at ho
              subst ho
              have eg : ac.tmps.getD 109 undef = .bool !true := hv 11 109 rfl (by kernel_rfl)
              exact .inr ⟨unwanted_of rfl rfl eg, rfl, ⟨hD.1, trivial⟩⟩
            | 13, ho =>
              simp at ho
              subst ho
              have eg : ac.tmps.getD 109 undef = .bool !true := hv 11 109 rfl (by kernel_rfl)
              exact .inr ⟨unwanted_of rfl rfl eg, rfl, ⟨hD.1, trivial⟩⟩
            | 14, ho =>
              simp at ho
              subst ho
              have eg : ac.tmps.getD 109 undef = .bool !true := hv 11 109 rfl (by kernel_rfl)
              exact .inr ⟨unwanted_of rfl rfl eg, rfl, ⟨hD.1, trivial⟩⟩
            | 15, ho =>
              simp at ho
              subst ho
              have eg : ac.tmps.getD 109 undef = .bool !true := hv 11 109 rfl (by kernel_rfl)
              exact .inr ⟨unwanted_of rfl rfl eg, rfl, ⟨hD.1, trivial⟩⟩
            | 16, ho =>
              simp at ho
              subst ho
              have eg : ac.tmps.getD 109 undef = .bool !true := hv 11 109 rfl (by kernel_rfl)
              exact .inr ⟨unwanted_of rfl rfl eg, rfl, ⟨hD.1, trivial⟩⟩
            | 17, ho =>
              simp at ho
              subst ho
              have eg : ac.tmps.getD 114 undef = undef := hv 16 114 rfl (by kernel_rfl)
              exact .inr ⟨unwanted_un rfl rfl eg, rfl, ⟨hD.1, trivial⟩⟩
            | 18, ho =>
              simp at ho
              subst ho
              have eg : ac.tmps.getD 114 undef = undef := hv 16 114 rfl (by kernel_rfl)
              exact .inr ⟨unwanted_un rfl rfl eg, rfl, ⟨hD.1, trivial⟩⟩
            | 19, ho =>
              simp at ho
              subst ho
              have eg : ac.tmps.getD 114 undef = undef := hv 16 114 rfl (by kernel_rfl)
              exact .inr ⟨unwanted_un rfl rfl eg, rfl, ⟨hD.1, trivial⟩⟩
            | 20, ho =>
              simp at ho
              subst ho
              have eg : ac.tmps.getD 114 undef = undef := hv 16 114 rfl (by kernel_rfl)
              exact .inr ⟨unwanted_un rfl rfl eg, rfl, ⟨hD.1, trivial⟩⟩
            | 21, ho =>
              simp at ho
              subst ho
              have eg : ac.tmps.getD 114 undef = undef := hv 16 114 rfl (by kernel_rfl)
              exact .inr ⟨unwanted_un rfl rfl eg, rfl, ⟨hD.1, trivial⟩⟩
            | 22, ho =>
              simp at ho
              subst ho
              have eg : ac.tmps.getD 109 undef = .bool !true := hv 11 109 rfl (by kernel_rfl)
              exact .inr ⟨unwanted_of rfl rfl eg, rfl, ⟨hD.1, trivial⟩⟩
            | 23, ho =>
              simp at ho
              subst ho
              have eg : ac.tmps.getD 106 undef = .bool false := hv 8 106 rfl (by kernel_rfl)
              have e109 : ac.tmps.getD 109 undef = .bool false := hv 11 109 rfl (by kernel_rfl)
              exact .inl ⟨wanted_of rfl rfl eg, gho_reads γ (.bool false) (by simp [go_sem, Act.eval, -Array.getD_eq_getD_getElem?, e109]) rfl (⟨hD.1, trivial⟩) (fun _ _ _ _ h => h)⟩
            | 24, ho =>
              simp at ho
              subst ho
              have e106 : ac.tmps.getD 106 undef = .bool false := hv 8 106 rfl (by kernel_rfl)
              have e121 : ac.tmps.getD 121 undef = .bool false := hv 23 121 rfl (by kernel_rfl)
              exact .inl ⟨rfl, gho_reads γ (.bool false) (by simp [go_sem, Act.eval, -Array.getD_eq_getD_getElem?, e106, e121]) rfl (⟨hD.1, trivial⟩) (fun _ _ _ _ h => h)⟩
            | ix + 25, ho => simp at ho
          case hend =>
            intro γ v L w11 hD hall hv
            have v24 : v 24 = .bool false := hv 24 122 rfl
            have HE := hide ((unhide HLW).trans (hD.1.mono (by have := (unhide HDW).sz (by simp); simp only [List.length_set, List.length_cons, List.length_nil] at this; have := unhide HZ0; omega)))
            clear hv hall hD h0
            simp only [putOps, List.getElem?_cons_zero, List.getElem?_cons_succ, Option.bind_some, List.length_cons, List.length_nil, Nat.reduceAdd, v24]
            clear v24
            go_frame
            go_wp2
            go_roundw
            case rel => exact ⟨3, by omega, rfl, unhide HE⟩
            case measure => simp [intOf]
      · have hSC := fun W (h : StAt W T2 G2 (tabsW X) X) => sdrop_any T2 tc2 G2 gc2 (tabsW X) X i g p W h
        have hPC := fun W (h : WldAt W A cap G gcap X) => drop_any A cap G gcap X i g p W (by omega) h
        have hYR : (dropF X i g p).1 = 0 → RightW ((dropF X i g p).2) := fun e => (drop_keeps e).1
        obtain ⟨Y, hY⟩ : ∃ Y, Y = (dropF X i g p).2 := ⟨_, rfl⟩
        obtain ⟨err, herr⟩ : ∃ err, err = (dropF X i g p).1 := ⟨_, rfl⟩
        rw [← hY, ← herr] at hSC hPC hYR
        unfold stV beingV at hSC
        unfold wldV worldV beingV at hPC
        have HSC := hide hSC
        have HPC := hide hPC
        have HYR := hide hYR
        clear hSC hPC hYR hY herr
        go_upto_region 13 with fail
        rw [unhide HW4]
        go_wp2_with fail
        go_at_call 65
        refine (unhide HSC _ (unhide HT4)).mono ?_
        rintro e w5 ⟨T5, tc5, G5, gc5, rfl, hN5, hb5⟩
        have HB5 := hide ((unhide HB4).below hb5)
        have HD5 := hide ((unhide HD4).below hb5)
        have HL5 := hide ((unhide HL4).trans (hb5.mono (by have := unhide HZ4; have := unhide HZ0; omega)))
        have HX5 := hide ((unhide HX4).below hb5)
        have HN5 := hide (hN5.le (base' := wr.heap.size + 4) (unhide HZ4))
        clear hN5 hb5 s0 s1 b0 b1
        go_wp2_with (first
          | (refine wpList_putN rfl 71 (.tmp 14) (.tmp 39) rfl (wr.heap.size + 0) 0 [.slice T5 (tabsW Y).length tc5, .slice G5 Y.gens.length gc5] rfl rfl (by simp [Value.oneCell']) size71 ((unhide HD5).there 0 rfl 2 rfl) ?_; intro W6 hW; have q1 := (unhide HD5).give 0 rfl [.slice T5 (tabsW Y).length tc5, .slice G5 Y.gens.length gc5] rfl; have q2 := (unhide HB5).turn (cb := wr.heap.size + 0) (o := 0) (vs := [.slice T5 (tabsW Y).length tc5, .slice G5 Y.gens.length gc5]) (.inr (by have := unhide HZR; simp only [List.length_cons, List.length_nil]; omega)); have q3 := below_setCells (wr.heap.size + 0) (by have := unhide HZ0; omega) [.slice T5 (tabsW Y).length tc5, .slice G5 Y.gens.length gc5] 0 _ (unhide HL5); have q4 := wld_turn (unhide HX5) (b := wr.heap.size + 0) (o := 0) (vs := [.slice T5 (tabsW Y).length tc5, .slice G5 Y.gens.length gc5]) (unhide HXB); have q5 := (unhide HN5).putc (b := wr.heap.size + 0) (o := 0) (vs := [.slice T5 (tabsW Y).length tc5, .slice G5 Y.gens.length gc5]) (by omega); rw [← hW] at q1 q2 q3 q4 q5; have HD6 := hide q1; have HB6 := hide q2; have HL6 := hide q3; have HX6 := hide q4; have HN6 := hide q5; clear hW q1 q2 q3 q4 q5; have a0 := (unhide HB6).cell 0 rfl 0 rfl; have a1 := (unhide HB6).cell 0 rfl 1 rfl; rw [Nat.add_zero] at a0 a1; have b0 := (unhide HB6).cell 1 rfl 0 rfl; have b1 := (unhide HB6).cell 1 rfl 1 rfl))
        go_at_call 46
        refine (unhide HPC _ (unhide HX6)).mono ?_
        rintro e w8 ⟨A8, c8, G8, gc8, rfl, hY8, hb8⟩
        have HB8 := hide ((unhide HB6).below hb8)
        have HD8 := hide ((unhide HD6).below hb8)
        have HL8 := hide ((unhide HL6).trans (hb8.mono (by have := (unhide HD6).sz (by simp); simp only [List.length_set, List.length_cons, List.length_nil] at this; have := unhide HZ0; omega)))
        have HX8 := hide ((unhide HX6).below hb8)
        have HN8 := hide ((unhide HN6).below hb8)
        have HZ8 : Hid (wr.heap.size + 4 ≤ W6.heap.size) := hide (by have := (unhide HD6).sz (by simp); simpa using this)
        have HY8 := hide hY8
        clear hY8 hb8 a0 a1 b0 b1
        go_wp2_with (first
          | (refine wpList_putN rfl 38 (.tmp 15) (.tmp 46) rfl (wr.heap.size + 1) 0 [.slice A8 Y.rows.length c8, .slice G8 Y.gens.length gc8] rfl rfl (by simp [Value.oneCell']) size38 ((unhide HD8).there 1 rfl 2 rfl) ?_; intro W9 hW; have q1 := (unhide HD8).give 1 rfl [.slice A8 Y.rows.length c8, .slice G8 Y.gens.length gc8] rfl; have q2 := (unhide HB8).turn (cb := wr.heap.size + 1) (o := 0) (vs := [.slice A8 Y.rows.length c8, .slice G8 Y.gens.length gc8]) (.inr (by have := unhide HZR; simp only [List.length_cons, List.length_nil]; omega)); have q3 := below_setCells (wr.heap.size + 1) (by have := unhide HZ0; omega) [.slice A8 Y.rows.length c8, .slice G8 Y.gens.length gc8] 0 _ (unhide HL8); have q4 := wld_turn (unhide HX8) (b := wr.heap.size + 1) (o := 0) (vs := [.slice A8 Y.rows.length c8, .slice G8 Y.gens.length gc8]) (unhide HXB); have q5 := (unhide HN8).putc (b := wr.heap.size + 1) (o := 0) (vs := [.slice A8 Y.rows.length c8, .slice G8 Y.gens.length gc8]) (by omega); have q6 := wldnew_putc (unhide HY8) (b := wr.heap.size + 1) (o := 0) (vs := [.slice A8 Y.rows.length c8, .slice G8 Y.gens.length gc8]) (by have := unhide HZ8; omega); rw [← hW] at q1 q2 q3 q4 q5 q6; have HD9 := hide q1; have HB9 := hide q2; have HL9 := hide q3; have HX9 := hide q4; have HN9 := hide q5; have HY9 := hide q6; clear hW q1 q2 q3 q4 q5 q6))
        have HST := hide (unhide HN9).st
        have HWY := hide (unhide HY9).toWldAt
        have HLW := hide (unhide HL9)
        have HDW := hide (unhide HD9)
        clear HSC HPC HX5 HX8 HB5 HB8
        by_cases he0 : err = 0
        · subst he0
          have hr := unhide HYR rfl
          obtain ⟨hyl, hygl, _⟩ := right_hr ((right_iff Y).2 hr)
          clear hr
          have h0 : Below W9.heap.size W9 W9.drew ∧ ((fun (_ : Nat) => false) 18 = true → ∃ A' c' G' gc', undef = .agg #[.slice A' Y.rows.length c', .slice G' Y.gens.length gc'] ∧ WldAt W9.drew A' c' G' gc' Y) := ⟨(Below.refl _ _).drew, fun e => by cases e⟩
          refine wp_region_gho (fun (γ : Value) ix v => if ix = 18 then v = γ else (([fun v => v = .int .i64 0, fun v => v = .int .i64 0, fun v => v = .bool false, fun v => v = .bool false, fun v => v = .agg #[.int .i64 0, .int .i64 0], fun v => v = .agg #[.int .i64 0, .int .i64 0], fun v => v = .bool false, fun v => v = .bool false, fun v => v = .bool false, fun v => v = .int .i64 0, fun v => v = .bool true, fun v => v = .bool true, fun v => v = .agg #[.slice T5 (tabsW Y).length tc5, .slice G5 Y.gens.length gc5], fun v => v = .agg #[.int .i64 0, .int .i64 0], fun v => v = .int .i64 0, fun v => v = .bool false, fun v => v = .bool false, fun v => v = .agg #[.slice T5 (tabsW Y).length tc5, .slice G5 Y.gens.length gc5], fun _ => True, fun v => v = .agg #[.slice A8 Y.rows.length c8, .slice G8 Y.gens.length gc8], fun v => v = .bool true, fun v => v = .bool false, fun v => v = .bool false, fun v => v = .bool false, fun v => v = .bool false] : List (Value → Prop)).getD ix (fun _ => True)) v) (fun (γ : Value) L W => Below W9.heap.size W9 W ∧ (L 18 = true → ∃ A' c' G' gc', γ = .agg #[.slice A' Y.rows.length c', .slice G' Y.gens.length gc'] ∧ WldAt W A' c' G' gc' Y)) (undef) (by kernel_rfl) (by kernel_rfl) (by kernel_rfl) h0 ?hstep ?hend
          case hstep =>
            intro γ ix o ho L ac w1 hD hL hed hcl hout hv
            match ix, ho with
            | 0, ho =>
              simp at ho
              subst ho
              have e18 : ac.tmps.getD 18 undef = .int .i64 0 := hout 18 (by decide +kernel)
              exact .inl ⟨rfl, gho_reads γ (.int .i64 0) (by simp [go_sem, Act.eval, -Array.getD_eq_getD_getElem?, e18]) rfl (⟨hD.1, by rw [upd_ne (by decide)]; exact hD.2⟩) (fun _ _ _ _ h => h)⟩
            | 1, ho =>
              simp at ho
              subst ho
              have e19 : ac.tmps.getD 19 undef = .int .i64 0 := hout 19 (by decide +kernel)
              exact .inl ⟨rfl, gho_reads γ (.int .i64 0) (by simp [go_sem, Act.eval, -Array.getD_eq_getD_getElem?, e19]) rfl (⟨hD.1, by rw [upd_ne (by decide)]; exact hD.2⟩) (fun _ _ _ _ h => h)⟩
            | 2, ho =>
              simp at ho
              subst ho
              have e98 : ac.tmps.getD 98 undef = .int .i64 0 := hv 0 98 rfl (by kernel_rfl)
              have e99 : ac.tmps.getD 99 undef = .int .i64 0 := hv 1 99 rfl (by kernel_rfl)
              exact .inl ⟨rfl, gho_reads γ (.bool false) (by simp [go_sem, Act.eval, -Array.getD_eq_getD_getElem?, e98, e99]) rfl (⟨hD.1, by rw [upd_ne (by decide)]; exact hD.2⟩) (fun _ _ _ _ h => h)⟩
            | 3, ho =>
              simp at ho
              subst ho
              have e100 : ac.tmps.getD 100 undef = .bool false := hv 2 100 rfl (by kernel_rfl)
              exact .inl ⟨rfl, gho_reads γ (.bool false) (by simp [go_sem, Act.eval, -Array.getD_eq_getD_getElem?, e100]) rfl (⟨hD.1, by rw [upd_ne (by decide)]; exact hD.2⟩) (fun _ _ _ _ h => h)⟩
            | 4, ho =>
              simp at ho
              subst ho
              have eg : ac.tmps.getD 101 undef = .bool false := hv 3 101 rfl (by kernel_rfl)
              have e16 : ac.tmps.getD 16 undef = .pointer (some ⟨wr.heap.size + 2, 0, none⟩) := hout 16 (by decide +kernel)
              have bb := (unhide HDW).below hD.1
              have c0 := bb.cell 2 rfl 0 rfl
              have c1 := bb.cell 2 rfl 1 rfl
              exact .inl ⟨wanted_of rfl rfl eg, gho_reads γ (.agg #[.int .i64 0, .int .i64 0]) (by simp [go_sem, Act.eval, -Array.getD_eq_getD_getElem?, e16, c0, c1]) rfl (⟨hD.1, by rw [upd_ne (by decide)]; exact hD.2⟩) (fun _ _ _ _ h => h)⟩
            | 5, ho =>
              simp at ho
              subst ho
              have eg : ac.tmps.getD 101 undef = .bool false := hv 3 101 rfl (by kernel_rfl)
              have e17 : ac.tmps.getD 17 undef = .pointer (some ⟨wr.heap.size + 3, 0, none⟩) := hout 17 (by decide +kernel)
              have bb := (unhide HDW).below hD.1
              have c0 := bb.cell 3 rfl 0 rfl
              have c1 := bb.cell 3 rfl 1 rfl
              exact .inl ⟨wanted_of rfl rfl eg, gho_reads γ (.agg #[.int .i64 0, .int .i64 0]) (by simp [go_sem, Act.eval, -Array.getD_eq_getD_getElem?, e17, c0, c1]) rfl (⟨hD.1, by rw [upd_ne (by decide)]; exact hD.2⟩) (fun _ _ _ _ h => h)⟩
            | 6, ho =>
              simp at ho
              subst ho
              have eg : ac.tmps.getD 101 undef = .bool false := hv 3 101 rfl (by kernel_rfl)
              have e102 : ac.tmps.getD 102 undef = .agg #[.int .i64 0, .int .i64 0] := hv 4 102 rfl (by kernel_rfl)
              have e103 : ac.tmps.getD 103 undef = .agg #[.int .i64 0, .int .i64 0] := hv 5 103 rfl (by kernel_rfl)
              exact .inl ⟨wanted_of rfl rfl eg, gho_reads γ (.bool false) (by simp [go_sem, Act.eval, -Array.getD_eq_getD_getElem?, e102, e103]) rfl (⟨hD.1, by rw [upd_ne (by decide)]; exact hD.2⟩) (fun _ _ _ _ h => h)⟩
            | 7, ho =>
              simp at ho
              subst ho
              have e101 : ac.tmps.getD 101 undef = .bool false := hv 3 101 rfl (by kernel_rfl)
              have e104 : ac.tmps.getD 104 undef = .bool false := hv 6 104 rfl (by kernel_rfl)
              exact .inl ⟨rfl, gho_reads γ (.bool false) (by simp [go_sem, Act.eval, -Array.getD_eq_getD_getElem?, e101, e104]) rfl (⟨hD.1, by rw [upd_ne (by decide)]; exact hD.2⟩) (fun _ _ _ _ h => h)⟩
            | 8, ho =>
              simp at ho
              subst ho
              have e105 : ac.tmps.getD 105 undef = .bool false := hv 7 105 rfl (by kernel_rfl)
              exact .inl ⟨rfl, gho_reads γ (.bool false) (by simp [go_sem, Act.eval, -Array.getD_eq_getD_getElem?, e105]) rfl (⟨hD.1, by rw [upd_ne (by decide)]; exact hD.2⟩) (fun _ _ _ _ h => h)⟩
            | 9, ho =>
              simp at ho
              subst ho
              have eg : ac.tmps.getD 106 undef = .bool false := hv 8 106 rfl (by kernel_rfl)
              have e18 : ac.tmps.getD 18 undef = .int .i64 0 := hout 18 (by decide +kernel)
              exact .inl ⟨wanted_of rfl rfl eg, gho_reads γ (.int .i64 0) (by simp [go_sem, Act.eval, -Array.getD_eq_getD_getElem?, e18]) rfl (⟨hD.1, by rw [upd_ne (by decide)]; exact hD.2⟩) (fun _ _ _ _ h => h)⟩
            | 10, ho =>
              simp at ho
              subst ho
              have eg : ac.tmps.getD 106 undef = .bool false := hv 8 106 rfl (by kernel_rfl)
              have e107 : ac.tmps.getD 107 undef = .int .i64 0 := hv 9 107 rfl (by kernel_rfl)
              exact .inl ⟨wanted_of rfl rfl eg, gho_reads γ (.bool true) (by simp [go_sem, Act.eval, -Array.getD_eq_getD_getElem?, e107]) rfl (⟨hD.1, by rw [upd_ne (by decide)]; exact hD.2⟩) (fun _ _ _ _ h => h)⟩
            | 11, ho =>
              simp at ho
              subst ho
              have eg : ac.tmps.getD 106 undef = .bool false := hv 8 106 rfl (by kernel_rfl)
              have e108 : ac.tmps.getD 108 undef = .bool true := hv 10 108 rfl (by kernel_rfl)
              exact .inl ⟨wanted_of rfl rfl eg, gho_reads γ (.bool true) (by simp [go_sem, Act.eval, -Array.getD_eq_getD_getElem?, e108]) rfl (⟨hD.1, by rw [upd_ne (by decide)]; exact hD.2⟩) (fun _ _ _ _ h => h)⟩
            | 12, ho =>
              simp at ho
              subst ho
              have eg : ac.tmps.getD 109 undef = .bool true := hv 11 109 rfl (by kernel_rfl)
              have e14 : ac.tmps.getD 14 undef = .pointer (some ⟨wr.heap.size, 0, none⟩) := hout 14 (by decide +kernel)
              have bb := (unhide HDW).below hD.1
              have c0 := bb.cell 0 rfl 0 rfl
              have c1 := bb.cell 0 rfl 1 rfl
              rw [Nat.add_zero] at c0 c1
              exact .inl ⟨wanted_of rfl rfl eg, gho_reads γ (.agg #[.slice T5 (tabsW Y).length tc5, .slice G5 Y.gens.length gc5]) (by simp [go_sem, Act.eval, -Array.getD_eq_getD_getElem?, e14, c0, c1]) rfl (⟨hD.1, by rw [upd_ne (by decide)]; exact hD.2⟩) (fun _ _ _ _ h => h)⟩
            | 13, ho =>
              simp at ho
              subst ho
              have eg : ac.tmps.getD 109 undef = .bool true := hv 11 109 rfl (by kernel_rfl)
              have e110 : ac.tmps.getD 110 undef = .agg #[.slice T5 (tabsW Y).length tc5, .slice G5 Y.gens.length gc5] := hv 12 110 rfl (by kernel_rfl)
              refine .inl ⟨wanted_of rfl rfl eg, gho_enters 54 #[.agg #[.slice T5 (tabsW Y).length tc5, .slice G5 Y.gens.length gc5]] (by simp [go_sem, Act.eval, -Array.getD_eq_getD_getElem?, e110]) ?_⟩
              refine (swrong_any T5 tc5 G5 gc5 (tabsW Y) Y w1 ((unhide HST).below hD.1)).mono ?_
              rintro e w6 ⟨rfl, hb6⟩
              exact ⟨_, γ, rfl, rfl, ⟨hD.1.trans (hb6.mono hD.1.size), fun e => (by obtain ⟨A1, c1, G1, gc1, a, b⟩ := hD.2 (by rwa [upd_ne (by decide)] at e); exact ⟨A1, c1, G1, gc1, a, b.below hb6⟩)⟩, fun _ _ _ _ h => h⟩
            | 14, ho =>
              simp at ho
              subst ho
              have eg : ac.tmps.getD 109 undef = .bool true := hv 11 109 rfl (by kernel_rfl)
              have e111 : ac.tmps.getD 111 undef = .agg #[.int .i64 0, .int .i64 0] := hv 13 111 rfl (by kernel_rfl)
              have hf := run_field43 (.int .i64 0) (.int .i64 0) w1
              exact .inl ⟨wanted_of rfl rfl eg, gho_reads γ (.int .i64 0) (by simp [go_sem, Act.eval, -Array.getD_eq_getD_getElem?, e111, hf]) rfl (⟨hD.1, by rw [upd_ne (by decide)]; exact hD.2⟩) (fun _ _ _ _ h => h)⟩
            | 15, ho =>
              simp at ho
              subst ho
              have eg : ac.tmps.getD 109 undef = .bool true := hv 11 109 rfl (by kernel_rfl)
              have e112 : ac.tmps.getD 112 undef = .int .i64 0 := hv 14 112 rfl (by kernel_rfl)
              exact .inl ⟨wanted_of rfl rfl eg, gho_reads γ (.bool false) (by simp [go_sem, Act.eval, -Array.getD_eq_getD_getElem?, e112]) rfl (⟨hD.1, by rw [upd_ne (by decide)]; exact hD.2⟩) (fun _ _ _ _ h => h)⟩
            | 16, ho =>
              simp at ho
              subst ho
              have eg : ac.tmps.getD 109 undef = .bool true := hv 11 109 rfl (by kernel_rfl)
              have e113 : ac.tmps.getD 113 undef = .bool false := hv 15 113 rfl (by kernel_rfl)
              exact .inl ⟨wanted_of rfl rfl eg, gho_reads γ (.bool false) (by simp [go_sem, Act.eval, -Array.getD_eq_getD_getElem?, e113]) rfl (⟨hD.1, by rw [upd_ne (by decide)]; exact hD.2⟩) (fun _ _ _ _ h => h)⟩
            | 17, ho =>
              simp at ho
              subst ho
              have eg : ac.tmps.getD 114 undef = .bool false := hv 16 114 rfl (by kernel_rfl)
              have e14 : ac.tmps.getD 14 undef = .pointer (some ⟨wr.heap.size, 0, none⟩) := hout 14 (by decide +kernel)
              have bb := (unhide HDW).below hD.1
              have c0 := bb.cell 0 rfl 0 rfl
              have c1 := bb.cell 0 rfl 1 rfl
              rw [Nat.add_zero] at c0 c1
              exact .inl ⟨wanted_of rfl rfl eg, gho_reads γ (.agg #[.slice T5 (tabsW Y).length tc5, .slice G5 Y.gens.length gc5]) (by simp [go_sem, Act.eval, -Array.getD_eq_getD_getElem?, e14, c0, c1]) rfl (⟨hD.1, by rw [upd_ne (by decide)]; exact hD.2⟩) (fun _ _ _ _ h => h)⟩
            | 18, ho =>
              simp at ho
              subst ho
              have eg : ac.tmps.getD 114 undef = .bool false := hv 16 114 rfl (by kernel_rfl)
              have e115 : ac.tmps.getD 115 undef = .agg #[.slice T5 (tabsW Y).length tc5, .slice G5 Y.gens.length gc5] := hv 17 115 rfl (by kernel_rfl)
              refine .inl ⟨wanted_of rfl rfl eg, gho_enters 58 #[.agg #[.slice T5 (tabsW Y).length tc5, .slice G5 Y.gens.length gc5]] (by simp [go_sem, Act.eval, -Array.getD_eq_getD_getElem?, e115]) ?_⟩
              refine (sworld_any T5 tc5 G5 gc5 (tabsW Y) Y w1 ((unhide HST).below hD.1)).mono ?_
              rintro e w6 ⟨A6, c6, G6, gc6, rfl, hN6, hb6⟩
              exact ⟨_, wldV A6 c6 G6 gc6 Y, rfl, rfl, ⟨hD.1.trans (hb6.mono hD.1.size), fun _ => ⟨A6, c6, G6, gc6, rfl, hN6.toWldAt⟩⟩, fun j u hj hLj h => by simpa [hj] using h⟩
            | 19, ho =>
              simp at ho
              subst ho
              have eg : ac.tmps.getD 114 undef = .bool false := hv 16 114 rfl (by kernel_rfl)
              have e15 : ac.tmps.getD 15 undef = .pointer (some ⟨wr.heap.size + 1, 0, none⟩) := hout 15 (by decide +kernel)
              have bb := (unhide HDW).below hD.1
              have c0 := bb.cell 1 rfl 0 rfl
              have c1 := bb.cell 1 rfl 1 rfl
              exact .inl ⟨wanted_of rfl rfl eg, gho_reads γ (.agg #[.slice A8 Y.rows.length c8, .slice G8 Y.gens.length gc8]) (by simp [go_sem, Act.eval, -Array.getD_eq_getD_getElem?, e15, c0, c1]) rfl (⟨hD.1, by rw [upd_ne (by decide)]; exact hD.2⟩) (fun _ _ _ _ h => h)⟩
            | 20, ho =>
              simp at ho
              subst ho
              have eg : ac.tmps.getD 114 undef = .bool false := hv 16 114 rfl (by kernel_rfl)
              have e116 : ac.tmps.getD 116 undef = γ := hv 18 116 rfl (by kernel_rfl)
              have e117 : ac.tmps.getD 117 undef = .agg #[.slice A8 Y.rows.length c8, .slice G8 Y.gens.length gc8] := hv 19 117 rfl (by kernel_rfl)
              obtain ⟨A1, c1, G1, gc1, hγ, hX1⟩ := hD.2 (hed 18 (by kernel_rfl))
              rw [hγ] at e116
              refine .inl ⟨wanted_of rfl rfl eg, gho_enters 36 #[.agg #[.slice A1 Y.rows.length c1, .slice G1 Y.gens.length gc1], .agg #[.slice A8 Y.rows.length c8, .slice G8 Y.gens.length gc8]] (by simp [go_sem, Act.eval, -Array.getD_eq_getD_getElem?, e116, e117]) ?_⟩
              refine (same_ws hyl hygl w1 A1 c1 G1 gc1 A8 c8 G8 gc8 hX1 ((unhide HWY).below hD.1)).mono ?_
              rintro e w6 ⟨rfl, hb6⟩
              exact ⟨_, γ, rfl, rfl, ⟨hD.1.trans (hb6.mono hD.1.size), fun _ => ⟨A1, c1, G1, gc1, hγ, hX1.below hb6⟩⟩, fun _ _ _ _ h => h⟩
            | 21, ho =>
              simp at ho
              subst ho
              have eg : ac.tmps.getD 114 undef = .bool false := hv 16 114 rfl (by kernel_rfl)
              have e118 : ac.tmps.getD 118 undef = .bool true := hv 20 118 rfl (by kernel_rfl)
              exact .inl ⟨wanted_of rfl rfl eg, gho_reads γ (.bool false) (by simp [go_sem, Act.eval, -Array.getD_eq_getD_getElem?, e118]) rfl (⟨hD.1, by rw [upd_ne (by decide)]; exact hD.2⟩) (fun _ _ _ _ h => h)⟩
            | 22, ho =>
              simp at ho
              subst ho
              have eg : ac.tmps.getD 109 undef = .bool true := hv 11 109 rfl (by kernel_rfl)
              have e114 : ac.tmps.getD 114 undef = .bool false := hv 16 114 rfl (by kernel_rfl)
              have e119 : ac.tmps.getD 119 undef = .bool false := hv 21 119 rfl (by kernel_rfl)
              exact .inl ⟨wanted_of rfl rfl eg, gho_reads γ (.bool false) (by simp [go_sem, Act.eval, -Array.getD_eq_getD_getElem?, e114, e119]) rfl (⟨hD.1, by rw [upd_ne (by decide)]; exact hD.2⟩) (fun _ _ _ _ h => h)⟩
            | 23, ho =>
              simp at ho
              subst ho
              have eg : ac.tmps.getD 106 undef = .bool false := hv 8 106 rfl (by kernel_rfl)
              have e109 : ac.tmps.getD 109 undef = .bool true := hv 11 109 rfl (by kernel_rfl)
              have e120 : ac.tmps.getD 120 undef = .bool false := hv 22 120 rfl (by kernel_rfl)
              exact .inl ⟨wanted_of rfl rfl eg, gho_reads γ (.bool false) (by simp [go_sem, Act.eval, -Array.getD_eq_getD_getElem?, e109, e120]) rfl (⟨hD.1, by rw [upd_ne (by decide)]; exact hD.2⟩) (fun _ _ _ _ h => h)⟩
            | 24, ho =>
              simp at ho
              subst ho
              have e106 : ac.tmps.getD 106 undef = .bool false := hv 8 106 rfl (by kernel_rfl)
              have e121 : ac.tmps.getD 121 undef = .bool false := hv 23 121 rfl (by kernel_rfl)
              exact .inl ⟨rfl, gho_reads γ (.bool false) (by simp [go_sem, Act.eval, -Array.getD_eq_getD_getElem?, e106, e121]) rfl (⟨hD.1, by rw [upd_ne (by decide)]; exact hD.2⟩) (fun _ _ _ _ h => h)⟩
            | ix + 25, ho => simp at ho
          case hend =>
            intro γ v L w11 hD hall hv
            have v24 : v 24 = .bool false := hv 24 122 rfl
            have HE := hide ((unhide HLW).trans (hD.1.mono (by have := (unhide HDW).sz (by simp); simp only [List.length_set, List.length_cons, List.length_nil] at this; have := unhide HZ0; omega)))
            clear hv hall hD h0
            simp only [putOps, List.getElem?_cons_zero, List.getElem?_cons_succ, Option.bind_some, List.length_cons, List.length_nil, Nat.reduceAdd, v24]
            clear v24
            go_frame
            go_wp2
            go_roundw
            case rel => exact ⟨4, by omega, rfl, unhide HE⟩
            case measure => simp [intOf]
        · have h0 : Below W9.heap.size W9 W9.drew ∧ True := ⟨(Below.refl _ _).drew, trivial⟩
          refine wp_region_gho (fun (γ : Value) ix v => (([fun v => v = .int .i64 err, fun v => v = .int .i64 err, fun v => v = .bool false, fun v => v = .bool false, fun v => v = .agg #[.int .i64 0, .int .i64 0], fun v => v = .agg #[.int .i64 0, .int .i64 0], fun v => v = .bool false, fun v => v = .bool false, fun v => v = .bool false, fun v => v = .int .i64 err, fun v => v = .bool false, fun v => v = .bool false, fun v => v = undef, fun v => v = undef, fun v => v = undef, fun v => v = undef, fun v => v = undef, fun v => v = undef, fun v => v = undef, fun v => v = undef, fun v => v = undef, fun v => v = undef, fun v => v = undef, fun v => v = .bool false, fun v => v = .bool false] : List (Value → Prop)).getD ix (fun _ => True)) v) (fun (γ : Value) (L : Nat → Bool) W => Below W9.heap.size W9 W ∧ True) (undef) (by kernel_rfl) (by kernel_rfl) (by kernel_rfl) h0 ?hstep ?hend
          case hstep =>
            intro γ ix o ho L ac w1 hD hL hed hcl hout hv
            match ix, ho with
            | 0, ho =>
              simp at ho
              subst ho
              have e18 : ac.tmps.getD 18 undef = .int .i64 err := hout 18 (by decide +kernel)
              exact .inl ⟨rfl, gho_reads γ (.int .i64 err) (by simp [go_sem, Act.eval, -Array.getD_eq_getD_getElem?, e18]) rfl (⟨hD.1, trivial⟩) (fun _ _ _ _ h => h)⟩
            | 1, ho =>
              simp at ho
              subst ho
              have e19 : ac.tmps.getD 19 undef = .int .i64 err := hout 19 (by decide +kernel)
              exact .inl ⟨rfl, gho_reads γ (.int .i64 err) (by simp [go_sem, Act.eval, -Array.getD_eq_getD_getElem?, e19]) rfl (⟨hD.1, trivial⟩) (fun _ _ _ _ h => h)⟩
            | 2, ho =>
              simp at ho
              subst ho
              have e98 : ac.tmps.getD 98 undef = .int .i64 err := hv 0 98 rfl (by kernel_rfl)
              have e99 : ac.tmps.getD 99 undef = .int .i64 err := hv 1 99 rfl (by kernel_rfl)
              exact .inl ⟨rfl, gho_reads γ (.bool false) (by simp [go_sem, Act.eval, -Array.getD_eq_getD_getElem?, e98, e99]) rfl (⟨hD.1, trivial⟩) (fun _ _ _ _ h => h)⟩
            | 3, ho =>
              simp at ho
              subst ho
              have e100 : ac.tmps.getD 100 undef = .bool false := hv 2 100 rfl (by kernel_rfl)
              exact .inl ⟨rfl, gho_reads γ (.bool false) (by simp [go_sem, Act.eval, -Array.getD_eq_getD_getElem?, e100]) rfl (⟨hD.1, trivial⟩) (fun _ _ _ _ h => h)⟩
            | 4, ho =>
              simp at ho
              subst ho
              have eg : ac.tmps.getD 101 undef = .bool false := hv 3 101 rfl (by kernel_rfl)
              have e16 : ac.tmps.getD 16 undef = .pointer (some ⟨wr.heap.size + 2, 0, none⟩) := hout 16 (by decide +kernel)
              have bb := (unhide HDW).below hD.1
              have c0 := bb.cell 2 rfl 0 rfl
              have c1 := bb.cell 2 rfl 1 rfl
              exact .inl ⟨wanted_of rfl rfl eg, gho_reads γ (.agg #[.int .i64 0, .int .i64 0]) (by simp [go_sem, Act.eval, -Array.getD_eq_getD_getElem?, e16, c0, c1]) rfl (⟨hD.1, trivial⟩) (fun _ _ _ _ h => h)⟩
            | 5, ho =>
              simp at ho
              subst ho
              have eg : ac.tmps.getD 101 undef = .bool false := hv 3 101 rfl (by kernel_rfl)
              have e17 : ac.tmps.getD 17 undef = .pointer (some ⟨wr.heap.size + 3, 0, none⟩) := hout 17 (by decide +kernel)
              have bb := (unhide HDW).below hD.1
              have c0 := bb.cell 3 rfl 0 rfl
              have c1 := bb.cell 3 rfl 1 rfl
              exact .inl ⟨wanted_of rfl rfl eg, gho_reads γ (.agg #[.int .i64 0, .int .i64 0]) (by simp [go_sem, Act.eval, -Array.getD_eq_getD_getElem?, e17, c0, c1]) rfl (⟨hD.1, trivial⟩) (fun _ _ _ _ h => h)⟩
            | 6, ho =>
              simp at ho
              subst ho
              have eg : ac.tmps.getD 101 undef = .bool false := hv 3 101 rfl (by kernel_rfl)
              have e102 : ac.tmps.getD 102 undef = .agg #[.int .i64 0, .int .i64 0] := hv 4 102 rfl (by kernel_rfl)
              have e103 : ac.tmps.getD 103 undef = .agg #[.int .i64 0, .int .i64 0] := hv 5 103 rfl (by kernel_rfl)
              exact .inl ⟨wanted_of rfl rfl eg, gho_reads γ (.bool false) (by simp [go_sem, Act.eval, -Array.getD_eq_getD_getElem?, e102, e103]) rfl (⟨hD.1, trivial⟩) (fun _ _ _ _ h => h)⟩
            | 7, ho =>
              simp at ho
              subst ho
              have e101 : ac.tmps.getD 101 undef = .bool false := hv 3 101 rfl (by kernel_rfl)
              have e104 : ac.tmps.getD 104 undef = .bool false := hv 6 104 rfl (by kernel_rfl)
              exact .inl ⟨rfl, gho_reads γ (.bool false) (by simp [go_sem, Act.eval, -Array.getD_eq_getD_getElem?, e101, e104]) rfl (⟨hD.1, trivial⟩) (fun _ _ _ _ h => h)⟩
            | 8, ho =>
              simp at ho
              subst ho
              have e105 : ac.tmps.getD 105 undef = .bool false := hv 7 105 rfl (by kernel_rfl)
              exact .inl ⟨rfl, gho_reads γ (.bool false) (by simp [go_sem, Act.eval, -Array.getD_eq_getD_getElem?, e105]) rfl (⟨hD.1, trivial⟩) (fun _ _ _ _ h => h)⟩
            | 9, ho =>
              simp at ho
              subst ho
              have eg : ac.tmps.getD 106 undef = .bool false := hv 8 106 rfl (by kernel_rfl)
              have e18 : ac.tmps.getD 18 undef = .int .i64 err := hout 18 (by decide +kernel)
              exact .inl ⟨wanted_of rfl rfl eg, gho_reads γ (.int .i64 err) (by simp [go_sem, Act.eval, -Array.getD_eq_getD_getElem?, e18]) rfl (⟨hD.1, trivial⟩) (fun _ _ _ _ h => h)⟩
            | 10, ho =>
              simp at ho
              subst ho
              have eg : ac.tmps.getD 106 undef = .bool false := hv 8 106 rfl (by kernel_rfl)
              have e107 : ac.tmps.getD 107 undef = .int .i64 err := hv 9 107 rfl (by kernel_rfl)
              exact .inl ⟨wanted_of rfl rfl eg, gho_reads γ (.bool false) (by simp [go_sem, Act.eval, -Array.getD_eq_getD_getElem?, e107, he0]) rfl (⟨hD.1, trivial⟩) (fun _ _ _ _ h => h)⟩
            | 11, ho =>
              simp at ho
              subst ho
              have eg : ac.tmps.getD 106 undef = .bool false := hv 8 106 rfl (by kernel_rfl)
              have e108 : ac.tmps.getD 108 undef = .bool false := hv 10 108 rfl (by kernel_rfl)
              exact .inl ⟨wanted_of rfl rfl eg, gho_reads γ (.bool false) (by simp [go_sem, Act.eval, -Array.getD_eq_getD_getElem?, e108]) rfl (⟨hD.1, trivial⟩) (fun _ _ _ _ h => h)⟩
            | 12, ho =>
              simp at ho
              subst ho
              have eg : ac.tmps.getD 109 undef = .bool !true := hv 11 109 rfl (by kernel_rfl)
              exact .inr ⟨unwanted_of rfl rfl eg, rfl, ⟨hD.1, trivial⟩⟩
            | 13, ho =>
              simp at ho
              subst ho
              have eg : ac.tmps.getD 109 undef = .bool !true := hv 11 109 rfl (by kernel_rfl)
              exact .inr ⟨unwanted_of rfl rfl eg, rfl, ⟨hD.1, trivial⟩⟩
            | 14, ho =>
              simp at ho
              subst ho
              have eg : ac.tmps.getD 109 undef = .bool !true := hv 11 109 rfl (by kernel_rfl)
              exact .inr ⟨unwanted_of rfl rfl eg, rfl, ⟨hD.1, trivial⟩⟩
            | 15, ho =>
              simp at ho
              subst ho
              have eg : ac.tmps.getD 109 undef = .bool !true := hv 11 109 rfl (by kernel_rfl)
              exact .inr ⟨unwanted_of rfl rfl eg, rfl, ⟨hD.1, trivial⟩⟩
            | 16, ho =>
              simp at ho
              subst ho
              have eg : ac.tmps.getD 109 undef = .bool !true := hv 11 109 rfl (by kernel_rfl)
              exact .inr ⟨unwanted_of rfl rfl eg, rfl, ⟨hD.1, trivial⟩⟩
            | 17, ho =>
              simp at ho
              subst ho
              have eg : ac.tmps.getD 114 undef = undef := hv 16 114 rfl (by kernel_rfl)
              exact .inr ⟨unwanted_un rfl rfl eg, rfl, ⟨hD.1, trivial⟩⟩
            | 18, ho =>
              simp at ho
              subst ho
              have eg : ac.tmps.getD 114 undef = undef := hv 16 114 rfl (by kernel_rfl)
              exact .inr ⟨unwanted_un rfl rfl eg, rfl, ⟨hD.1, trivial⟩⟩
            | 19, ho =>
              simp at ho
              subst ho
              have eg : ac.tmps.getD 114 undef = undef := hv 16 114 rfl (by kernel_rfl)
              exact .inr ⟨unwanted_un rfl rfl eg, rfl, ⟨hD.1, trivial⟩⟩
            | 20, ho =>
              simp at ho
              subst ho
              have eg : ac.tmps.getD 114 undef = undef := hv 16 114 rfl (by kernel_rfl)
              exact .inr ⟨unwanted_un rfl rfl eg, rfl, ⟨hD.1, trivial⟩⟩
            | 21, ho =>
              simp at ho
              subst ho
              have eg : ac.tmps.getD 114 undef = undef := hv 16 114 rfl (by kernel_rfl)
              exact .inr ⟨unwanted_un rfl rfl eg, rfl, ⟨hD.1, trivial⟩⟩
            | 22, ho =>
              simp at ho
              subst ho
              have eg : ac.tmps.getD 109 undef = .bool !true := hv 11 109 rfl (by kernel_rfl)
              exact .inr ⟨unwanted_of rfl rfl eg, rfl, ⟨hD.1, trivial⟩⟩
            | 23, ho =>
              simp at ho
              subst ho
              have eg : ac.tmps.getD 106 undef = .bool false := hv 8 106 rfl (by kernel_rfl)
              have e109 : ac.tmps.getD 109 undef = .bool false := hv 11 109 rfl (by kernel_rfl)
              exact .inl ⟨wanted_of rfl rfl eg, gho_reads γ (.bool false) (by simp [go_sem, Act.eval, -Array.getD_eq_getD_getElem?, e109]) rfl (⟨hD.1, trivial⟩) (fun _ _ _ _ h => h)⟩
            | 24, ho =>
              simp at ho
              subst ho
              have e106 : ac.tmps.getD 106 undef = .bool false := hv 8 106 rfl (by kernel_rfl)
              have e121 : ac.tmps.getD 121 undef = .bool false := hv 23 121 rfl (by kernel_rfl)
              exact .inl ⟨rfl, gho_reads γ (.bool false) (by simp [go_sem, Act.eval, -Array.getD_eq_getD_getElem?, e106, e121]) rfl (⟨hD.1, trivial⟩) (fun _ _ _ _ h => h)⟩
            | ix + 25, ho => simp at ho
          case hend =>
            intro γ v L w11 hD hall hv
            have v24 : v 24 = .bool false := hv 24 122 rfl
            have HE := hide ((unhide HLW).trans (hD.1.mono (by have := (unhide HDW).sz (by simp); simp only [List.length_set, List.length_cons, List.length_nil] at this; have := unhide HZ0; omega)))
            clear hv hall hD h0
            simp only [putOps, List.getElem?_cons_zero, List.getElem?_cons_succ, Option.bind_some, List.length_cons, List.length_nil, Nat.reduceAdd, v24]
            clear v24
            go_frame
            go_wp2
            go_roundw
            case rel => exact ⟨4, by omega, rfl, unhide HE⟩
            case measure => simp [intOf]
theorem steps_law (A : Option Addr) (cap : Nat) (G : Option Addr) (gcap : Nat) (X : Wd) (i g has p n : Int) (w : World) (hn0 : X.rows.length ≤ 9223372036854775807) (hgn0 : X.gens.length ≤ 9223372036854775807) (hX : WldAt w A cap G gcap X) :
    Calls Try.prog 11 #[wldV A cap G gcap X, beingV i g, .int .i64 has, .int .i64 p, .int .i64 n] w fun e w' => e = .returned (.bool true) ∧ Below w.heap.size w w' := by
  by_cases h : (wrongW X).1 = 0
  · exact steps_right A cap G gcap X i g has p n w hX ((right_iff X).1 h)
  · exact steps_wrong A cap G gcap X i g has p n w hn0 hX h
end Go.Proofs.Ytnbleebilmghcaa
