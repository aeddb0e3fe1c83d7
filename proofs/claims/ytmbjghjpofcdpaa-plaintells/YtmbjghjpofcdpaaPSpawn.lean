/- plain.Spawn. -/
import Derived.Test.YtmbjghjpofcdpaaPSpawn0
set_option linter.unusedVariables false
set_option linter.unusedSimpArgs false
set_option linter.unnecessarySimpa false
namespace Go.Proofs.Ytmbjghjpofcdpaa
open Go Go.RowKit
attribute [local go_sem ↓] Go.wp_at_zero Go.wp_at_succ

set_option maxRecDepth 8000 in
set_option maxHeartbeats 8000000 in
theorem spawn_any (A : Option Addr) (cap : Nat) (G : Option Addr) (gcap : Nat) (X : Wd) (has n : Int) (w : World) (hn0 : X.rows.length ≤ 9223372036854775807) (hX : WldAt w A cap G gcap X) :
    Calls Try.prog 40 #[wldV A cap G gcap X, .int .i64 has, .int .i64 n] w fun e w' => ∃ A' c' G' gc', e = .returned (.tuple #[wldV A' c' G' gc' (spawnF X has n).2.2, beingV (spawnF X has n).2.1.1 (spawnF X has n).2.1.2, .int .i64 (spawnF X has n).1]) ∧ WldNew w.heap.size w' A' c' G' gc' (spawnF X has n).2.2 ∧ Below w.heap.size w w' := by
  have hSB := SB.start w (.slice A X.rows.length cap) (.slice G X.gens.length gcap)
  have hP := fun W (hb : Below w.heap.size w W) => pwrong_any A X.rows.length cap G X.gens.length gcap (fun j => X.rows.getD j dR) (fun j => X.gens.getD j 0) W (by omega) (hX.rows.below hb) (hX.gens.below hb)
  have eW : plainF (fun j => X.rows.getD j dR) X.rows.length X.gens.length (fun j => X.gens.getD j 0) = wrongW X := rfl
  rw [eW] at hP
  unfold faultP worldV at hP
  have HP := hide hP
  have HX := hide hX
  have HSB := hide hSB
  clear hP hSB eW hX
  unfold spawnF
  unfold wldV worldV beingV
  by_cases hw0 : (wrongW X).1 = 0
  · rw [if_neg (by simpa using hw0)]
    obtain ⟨hr1, hr2, hr3⟩ := right_hr hw0
    obtain ⟨hn, hgn⟩ := right_fit hw0
    rw [hw0] at HP
    generalize (wrongW X).2 = wa at *
    cases hs : setB has
    · simp only [Bool.false_and, if_true]
      unfold emptyW
      go_enter Try.func40, Try.ntmps40
      go_wp2_with (first
        | (go_at_call 34; refine (unhide HP _ (unhide HSB).bel).mono ?_; rintro e w5 ⟨rfl, hb5⟩; have hS5 := (unhide HSB).below hb5; have hS6 := hS5.below ((Below.refl _ _).alloc (Nat.le_refl _) (.cells #[.int .i64 0, .int .i64 wa] 43)); have r0 := hS6.r0; have r1 := hS6.r1; have HS6 := hide hS6; clear hb5 hS5 hS6)
        | (go_at_call 15; refine (set_any _ _).mono ?_; rintro e w1 ⟨rfl, hw⟩; obtain rfl := hw.symm)
        | (go_at_call 18; refine (value_any _ _).mono ?_; rintro e w1 ⟨rfl, hw⟩; obtain rfl := hw.symm)
        | (refine wpList_putN rfl 38 (.tmp 6) (.tmp 30) rfl (w.heap.size + 1) 0 [.slice none 0 0, .slice none 0 0] rfl rfl (by simp [Value.oneCell']) size38 (unhide HS6).thereA ?_; intro W3 hW3; have hS7 := (unhide HS6).giveA (.slice none 0 0) (.slice none 0 0); rw [← hW3] at hS7; have HS7 := hide hS7; clear hW3 hS7)
        | (refine wpList_putN rfl 40 (.tmp 7) (.tmp 31) rfl (w.heap.size + 2) 0 [.int .i64 0, .int .i64 0] rfl rfl (by simp [Value.oneCell']) size40 (unhide HS7).thereB ?_; intro W4 hW4; have hS8 := (unhide HS7).giveB (.int .i64 0) (.int .i64 0); rw [← hW4] at hS8; have HS8 := hide hS8; clear hW4 hS8))
      have t0 := (unhide HS8).t0
      have t1 := (unhide HS8).t1
      have s0 := (unhide HS8).s0
      have s1 := (unhide HS8).s1
      refine bodyPost_ret (v := .tuple #[.agg #[.slice none 0 0, .slice none 0 0], .agg #[.int .i64 0, .int .i64 0], .int .i64 3]) (by simp [results, Try.results40, go_sem, t0, t1, s0, s1]) rfl ⟨none, 0, none, 0, rfl, wldNew_empty _ _, (unhide HS8).bel⟩
    · cases hv : valB n
      · simp only [Bool.true_and, if_true]
        unfold emptyW
        go_enter Try.func40, Try.ntmps40
        go_wp2_with (first
          | (go_at_call 34; refine (unhide HP _ (unhide HSB).bel).mono ?_; rintro e w5 ⟨rfl, hb5⟩; have hS5 := (unhide HSB).below hb5; have hS6 := hS5.below ((Below.refl _ _).alloc (Nat.le_refl _) (.cells #[.int .i64 0, .int .i64 wa] 43)); have r0 := hS6.r0; have r1 := hS6.r1; have HS6 := hide hS6; clear hb5 hS5 hS6)
          | (go_at_call 15; refine (set_any _ _).mono ?_; rintro e w1 ⟨rfl, hw⟩; obtain rfl := hw.symm)
          | (go_at_call 18; refine (value_any _ _).mono ?_; rintro e w1 ⟨rfl, hw⟩; obtain rfl := hw.symm)
          | (refine wpList_putN rfl 38 (.tmp 6) (.tmp 30) rfl (w.heap.size + 1) 0 [.slice none 0 0, .slice none 0 0] rfl rfl (by simp [Value.oneCell']) size38 (unhide HS6).thereA ?_; intro W3 hW3; have hS7 := (unhide HS6).giveA (.slice none 0 0) (.slice none 0 0); rw [← hW3] at hS7; have HS7 := hide hS7; clear hW3 hS7)
          | (refine wpList_putN rfl 40 (.tmp 7) (.tmp 31) rfl (w.heap.size + 2) 0 [.int .i64 0, .int .i64 0] rfl rfl (by simp [Value.oneCell']) size40 (unhide HS7).thereB ?_; intro W4 hW4; have hS8 := (unhide HS7).giveB (.int .i64 0) (.int .i64 0); rw [← hW4] at hS8; have HS8 := hide hS8; clear hW4 hS8))
        have t0 := (unhide HS8).t0
        have t1 := (unhide HS8).t1
        have s0 := (unhide HS8).s0
        have s1 := (unhide HS8).s1
        refine bodyPost_ret (v := .tuple #[.agg #[.slice none 0 0, .slice none 0 0], .agg #[.int .i64 0, .int .i64 0], .int .i64 3]) (by simp [results, Try.results40, go_sem, t0, t1, s0, s1]) rfl ⟨none, 0, none, 0, rfl, wldNew_empty _ _, (unhide HS8).bel⟩
      · simp only [Bool.and_self, Bool.true_eq_false, if_false]
        have hNX := fun W (hb : Below w.heap.size w W) => next_any A cap G gcap X W (by omega) (by omega) (fun j hj => by have := hr3 j hj; omega) ((unhide HX).below hb)
        unfold wldV worldV beingV at hNX
        have HNX := hide hNX
        clear hNX
        by_cases hne : (nextF X).2 = 0
        · rw [if_neg (by simpa using hne)]
          obtain ⟨k, hk1, hk2⟩ := next_ok X hne
          rw [hne, hk1] at HNX
          rw [hk1]
          generalize (nextF X).1.2 = ng at *
          clear hk1 hne
          have hs0 : 0 ≤ has ∧ has ≤ 255 := by unfold setB at hs; simpa using hs
          obtain ⟨hs0, hs1⟩ := hs0
          obtain ⟨r, hrw⟩ : ∃ r, newR (k : Int) ng has n = r := ⟨_, rfl⟩
          rw [hrw]
          by_cases hkl : k = X.gens.length
          · subst hkl
            have hkz : (X.gens.length : Int) < ((X.gens.length + 1 : Nat) : Int) := by omega
            have hkb : X.gens.length < (X.gens ++ [(0 : Int)]).length := by simp
            have hlb : X.gens.length + 1 = (X.gens ++ [(0 : Int)]).length := by simp
            have HKB := hide hkb
            have HLB := hide hlb
            have hgs : X.gens ++ [ng] = (X.gens ++ [(0 : Int)]).set X.gens.length ng := by simp
            obtain ⟨i3, hi3, hz3, hs3, hb3⟩ := info_parts info3
            have HI3 := hide hi3
            have HZZ3 := hide hz3
            have HSS3 := hide hs3
            have HBB3 := hide hb3
            clear hi3 hz3 hs3 hb3
            unfold gensF
            rw [if_pos rfl, hgs]
            clear hgs hkb hlb
            have hOW := fun W (hb : Below w.heap.size w W) => own_base A cap X.rows G gcap X.gens W hn hgn ((unhide HX).below hb).rows ((unhide HX).below hb).gens
            unfold worldV at hOW
            have HOW := hide hOW
            clear hOW
            go_enter Try.func40, Try.ntmps40
            go_wp2_with (first
            | (go_at_call 34; refine (unhide HP _ (unhide HSB).bel).mono ?_; rintro e w5 ⟨rfl, hb5⟩; have hS5 := (unhide HSB).below hb5; have hS6 := hS5.below ((Below.refl _ _).alloc (Nat.le_refl _) (.cells #[.int .i64 0, .int .i64 wa] 43)); have r0 := hS6.r0; have r1 := hS6.r1; have HS6 := hide hS6; clear hb5 hS5 hS6)
            | (go_at_call 15; refine (set_any _ _).mono ?_; rintro e w1 ⟨rfl, hw⟩; obtain rfl := hw.symm)
            | (go_at_call 18; refine (value_any _ _).mono ?_; rintro e w1 ⟨rfl, hw⟩; obtain rfl := hw.symm)
            | (go_at_call 38; refine (unhide HNX _ (unhide HS6).bel).mono ?_; rintro e w6 ⟨rfl, hb6⟩; have hS8 := (unhide HS6).below hb6; have HZ6 := hide hS8.sz; have hS9 := hS8.below ((Below.refl _ _).alloc (Nat.le_refl _) (.cells #[.int .i64 (X.gens.length : Int), .int .i64 ng] 40)); have r0' := hS9.r0; have r1' := hS9.r1; have HS9 := hide hS9; have HQ0 : Hid ((w6.alloc (.cells #[.int .i64 (X.gens.length : Int), .int .i64 ng] 40)).cell? ⟨w6.heap.size, 0, none⟩ = some (.int .i64 (X.gens.length : Int))) := hide (by simp); have HQ1 : Hid ((w6.alloc (.cells #[.int .i64 (X.gens.length : Int), .int .i64 ng] 40)).cell? ⟨w6.heap.size, 1, none⟩ = some (.int .i64 ng)) := hide (by simp); clear hb6 hS8 hS9 r0 r1)
            | (go_at_call 37; refine (unhide HOW _ (unhide HS9).bel).mono ?_; rintro e w8 ⟨A5, c5, A8, c8, rfl, q5, q8, hb8⟩; have hZ5 := ZB.start ((unhide HS9).below hb8) (keep_below hb8 (unhide HQ0)) (keep_below hb8 (unhide HQ1)) q5 q8 (unhide HS9).sz (by simp) hb8.size; rw [show (w6.alloc (.cells #[.int .i64 (X.gens.length : Int), .int .i64 ng] 40)).heap.size = w6.heap.size + 1 from by simp] at hZ5; have i0 := hZ5.i0; have i1 := hZ5.i1; have o0 := hZ5.o0; have o1 := hZ5.o1; have hZ4 := hZ5.below ((Below.refl _ _).alloc (Nat.le_refl _) (.cells #[.int .i64 0] 3)); have hC := cell_new (w8.alloc (.cells #[.slice A5 X.rows.length c5, .slice A8 X.gens.length c8] 38)) (.int .i64 0) 3; rw [show (w8.alloc (.cells #[.slice A5 X.rows.length c5, .slice A8 X.gens.length c8] 38)).heap.size = w8.heap.size + 1 from by simp] at hC; have HC := hide hC; have HZ4 := hide hZ4; clear hb8 q5 q8 hZ5 hZ4 hC r0' r1')
            | (at_builtin; refine wpList_append1 _ rfl (.tmp 51) (.tmp 52) 26 rfl _ 3 i3 _ 1 8 Try.underlying26 (unhide HI3) (unhide HZZ3) (unhide HSS3) (unhide HBB3) rfl (by decide) (.slice A8 X.gens.length c8) X.gens.length (cellsOfInts X.gens) rfl (unhide HZ4).p8 ⟨w8.heap.size + 1, 0, none⟩ 1 1 [.int .i64 0] rfl rfl (unhide HC) (by simp [Value.oneCell']) (by unfold maxLen; omega) (by omega) (unhide HZ4).base (by omega) ?_; intro g8 c9 w9 q9 hg9 hw9; have hZ7 := (unhide HZ4).app8 q9 hg9; rw [← unhide HLB] at hZ7; have HZ7 := hide hZ7; clear i0 i1 o0 o1 q9 hg9 hw9 hZ7)
            | (refine wpList_put1 rfl 26 (.tmp 54) (.tmp 53) rfl w8.heap.size 1 (.slice (some ⟨g8, 0, none⟩) (X.gens.length + 1) c9) rfl rfl rfl size26 ((unhide HZ7).there12 1 (by decide)) ?_; intro W8 hW8; have hZ5 := (unhide HZ7).set1 (.slice (some ⟨g8, 0, none⟩) (X.gens.length + 1) c9); rw [← hW8] at hZ5; have i0 := hZ5.i0; have i1 := hZ5.i1; have o0 := hZ5.o0; have o1 := hZ5.o1; have HZ5 := hide hZ5; clear hW8 hZ5; go_frame)
            | (refine wpList_put1 rfl 3 (.tmp 61) (.tmp 60) rfl g8 X.gens.length (.int .i64 ng) rfl rfl rfl size3 ((unhide HZ5).thereG (unhide HLB) X.gens.length (unhide HKB)) ?_; intro W5 hW5; have hZ9 := (unhide HZ5).setG (unhide HLB) X.gens.length (unhide HKB) ng; rw [← hW5] at hZ9; have HZ9 := hide hZ9; clear hW5 hZ9))
            go_frame
            refine wp_region_mix 1 [0, 1, 2, 3, 4, 5, 6, 7, 8, 9, 10, 11, 12] [13] [0, 1, 2, 3, 4, 5, 6, 7, 8, 9, 10, 13] [11, 12, 14] (fun W => ZB w (.slice A X.rows.length cap) (.slice G X.gens.length gcap) w6.heap.size w8.heap.size (w6.heap.size + 1) (X.gens.length : Int) ng (.slice A5 X.rows.length c5) (.slice (some ⟨g8, 0, none⟩) (X.gens.length + 1) c9) (.slice A5 X.rows.length c5) (.slice (some ⟨g8, 0, none⟩) (X.gens.length + 1) c9) X.rows ((X.gens ++ [(0 : Int)]).set X.gens.length ng) W)
              (by kernel_rfl) (by kernel_rfl) (by kernel_rfl) (by kernel_rfl) (by kernel_rfl) (by kernel_rfl) (by kernel_rfl) (fun w1 x h => h.below x.bel) (unhide HZ9) ?_
            apply Exists.intro
            refine ⟨?hq, ?hp, ?hl⟩
            case hq =>
              intro l w1 hl hI
              simp only [pickL, List.getElem?_cons_zero, List.getElem?_cons_succ, Option.toList_some, List.cons_append, List.nil_append] at hl
              subst hl
              have hne : Nonempty (Sub w1) := ⟨⟨w1, Below.refl _ _⟩⟩
              have q0 := sub_cell hI.o0
              have q1 := sub_cell hI.i0
              have q2 := sub_cell hI.i1
              have hPL := fun x : Sub w1 => place_any A5 c5 X.rows (X.gens.length : Int) x.val (by omega) (own_rows (hI.below x.bel).p5)
              have hNR := fun x : Sub w1 => newRow_any (X.gens.length : Int) ng has n x.val hs0 hs1
              rw [hrw] at hNR
              unfold beingV rowV at hNR
              have HPL := hide hPL
              have HNR := hide hNR
              clear hI hPL hNR
              repeat (go_big_quiet_step ((first | (go_at_call 84; exact sub_bel (unhide HPL _)) | (go_at_call 85; exact sub_bel (unhide HNR _)))))
              exact wpQuiet_nil rfl
            case hp =>
              intro l w1 hl
              simp only [pickL, List.getElem?_cons_zero, List.getElem?_cons_succ, Option.toList_some, List.cons_append, List.nil_append] at hl
              subst hl
              have hne : Nonempty (Sub w1) := ⟨⟨w1, Below.refl _ _⟩⟩
              repeat (go_big_quiet_step (fail))
              exact wpQuiet_nil rfl
            case hl =>
              intro l hl x
              simp only [pickL, List.getElem?_cons_zero, List.getElem?_cons_succ, Option.toList_some, List.cons_append, List.nil_append] at hl
              subst hl
              have hZ := (unhide HZ9).below x.bel
              have HZ := hide hZ
              clear hZ
              unfold wpLoud
              go_wp2
              refine lpost_intro fun x2 => ⟨fun _ => ?_, ?_⟩
              · exact ((unhide HZ).below ((Below.refl _ _).alloc (Nat.le_refl _) _)).below x2.bel
              · have hZ2 := ((unhide HZ).below ((Below.refl _ _).alloc (Nat.le_refl _) _)).below x2.bel
                have hv2 := (vb1_new x.val r).below x2.bel
                have hin := insert_any _ A5 c5 (placeN X.rows (X.gens.length : Int)) X.rows r x.val.heap.size x2.val (by omega) (place_le _ _) hZ2.base (fun c o e => by have := ((unhide HZ).p5.lt c (by rw [e]; rfl)).2; omega) hZ2.p5 hv2
                have HIN := hide hin
                have HZ2 := hide hZ2
                clear hin hZ2 hv2
                unfold wpLoud
                go_wp2_with (go_at_call 83; refine (unhide HIN).mono ?_; rintro e w3 ⟨g5, c5', rfl, ho3, hg3⟩)
                refine lpost_intro fun x3 => ⟨fun h => absurd h (by decide), ?_⟩
                have hl5 : (insR X.rows (placeN X.rows (X.gens.length : Int)) r).length = X.rows.length + 1 := insR_len _ _ _ (place_le _ _)
                have hZ3 := ((unhide HZ2).give5 (v5' := .slice (some ⟨g5, 0, none⟩) (X.rows.length + 1) c5') (rows' := insR X.rows (placeN X.rows (X.gens.length : Int)) r) hg3 (by rw [hl5]; exact ho3)).below x3.bel
                have HZ3 := hide hZ3
                clear hZ3 ho3 hg3
                unfold wpLoud
                refine wpList_put1 rfl 36 (.tmp 75) (.tmp 74) rfl w8.heap.size 0 (.slice (some ⟨g5, 0, none⟩) (X.rows.length + 1) c5') rfl rfl rfl size36 ((unhide HZ3).there12 0 (by decide)) ?_
                intro W9 hW9
                unfold wpList
                refine lpost_intro fun x4 => ⟨fun h => absurd h (by decide), ?_⟩
                have hZ4 := ((unhide HZ3).set0 (.slice (some ⟨g5, 0, none⟩) (X.rows.length + 1) c5'))
                rw [← hW9] at hZ4
                have HZ4 := hide (hZ4.below x4.bel)
                clear hZ4 hW9
                unfold wpLoud
                go_wp2
                go_frame
                refine wp_region_puts [0, 1, 4] [2, 3] (fun L W => ∃ y0 y1 z0 z1, SB w (.slice A X.rows.length cap) (.slice G X.gens.length gcap) y0 y1 z0 z1 W ∧ (L 2 = true → y0 = .slice (some ⟨g5, 0, none⟩) (X.rows.length + 1) c5' ∧ y1 = .slice (some ⟨g8, 0, none⟩) (X.gens.length + 1) c9) ∧ (L 3 = true → z0 = .int .i64 (X.gens.length : Int) ∧ z1 = .int .i64 ng) ∧ FE w w6.heap.size w8.heap.size (w6.heap.size + 1) (X.gens.length : Int) ng (.slice (some ⟨g5, 0, none⟩) (X.rows.length + 1) c5') (.slice (some ⟨g8, 0, none⟩) (X.gens.length + 1) c9) (insR X.rows (placeN X.rows (X.gens.length : Int)) r) ((X.gens ++ [(0 : Int)]).set X.gens.length ng) W)
                  (by kernel_rfl) (by kernel_rfl) (by kernel_rfl) (by kernel_rfl) (by kernel_rfl) (by kernel_rfl) (by kernel_rfl) ?_ ?_ ?_ ?_
                · rintro L w1 x ⟨y0, y1, z0, z1, h1, h2, h3, h4⟩
                  exact ⟨y0, y1, z0, z1, h1.below x.bel, h2, h3, h4.below x.bel⟩
                · rintro L L' w1 he ⟨y0, y1, z0, z1, h1, h2, h3, h4⟩
                  exact ⟨y0, y1, z0, z1, h1, by rw [he 2 (by simp)]; exact h2, by rw [he 3 (by simp)]; exact h3, h4⟩
                · exact ⟨_, _, _, _, (unhide HZ4).sb, fun h => (by cases h), fun h => (by cases h), (unhide HZ4).fin (c0 := .int .i64 0) (c1 := .int .i64 0) (unhide HZ6)⟩
                · apply Exists.intro
                  refine ⟨?hq, ?hl, ?hend⟩
                  case hq =>
                    rintro l L w1 hl ⟨y0, y1, z0, z1, h1, h2, h3, h4⟩
                    simp only [pickL, List.getElem?_cons_zero, List.getElem?_cons_succ, Option.toList_some, List.cons_append, List.nil_append] at hl
                    subst hl
                    have hne : Nonempty (Sub w1) := ⟨⟨w1, Below.refl _ _⟩⟩
                    have q0 := sub_cell h4.o0
                    have q1 := sub_cell h4.o1
                    have q2 := sub_cell h4.i0
                    have q3 := sub_cell h4.i1
                    clear h1 h2 h3 h4
                    repeat (go_big_quiet_step (fail))
                    exact wpQuiet_nil rfl
                  case hl =>
                    rintro i o hi ho L w1 ⟨y0, y1, z0, z1, h1, h2, h3, h4⟩ hL
                    simp only [List.mem_cons, List.not_mem_nil, or_false] at hi
                    rcases hi with rfl | rfl
                    · simp only [List.getElem?_cons_zero, List.getElem?_cons_succ, Option.some.injEq] at ho
                      subst ho
                      refine wpList_putN rfl 38 (.tmp 6) (.tmp 76) rfl (w.heap.size + 1) 0 [.slice (some ⟨g5, 0, none⟩) (X.rows.length + 1) c5', .slice (some ⟨g8, 0, none⟩) (X.gens.length + 1) c9] rfl rfl (by simp [Value.oneCell']) size38 h1.thereA ?_
                      intro W3 hW3
                      unfold wpList
                      exact ⟨rfl, rfl, _, _, z0, z1, by rw [hW3]; exact h1.giveA _ _, fun _ => ⟨rfl, rfl⟩, fun h => h3 h, by rw [hW3]; exact h4.sets (by omega)⟩
                    · simp only [List.getElem?_cons_zero, List.getElem?_cons_succ, Option.some.injEq] at ho
                      subst ho
                      refine wpList_putN rfl 40 (.tmp 7) (.tmp 77) rfl (w.heap.size + 2) 0 [.int .i64 (X.gens.length : Int), .int .i64 ng] rfl rfl (by simp [Value.oneCell']) size40 h1.thereB ?_
                      intro W3 hW3
                      unfold wpList
                      exact ⟨rfl, rfl, y0, y1, _, _, by rw [hW3]; exact h1.giveB _ _, fun h => h2 h, fun _ => ⟨rfl, rfl⟩, by rw [hW3]; exact h4.sets (by omega)⟩
                  case hend =>
                    rintro L w1 ⟨y0, y1, z0, z1, h1, h2, h3, h4⟩ hall
                    obtain ⟨rfl, rfl⟩ := h2 (hall 2 (by simp))
                    obtain ⟨rfl, rfl⟩ := h3 (hall 3 (by simp))
                    have HS8 := hide h1
                    have HE := hide h4
                    clear h1 h2 h3 h4 hall
                    go_wp2
                    have t0 := (unhide HS8).t0
                    have t1 := (unhide HS8).t1
                    have s0 := (unhide HS8).s0
                    have s1 := (unhide HS8).s1
                    have hle : (insR X.rows (placeN X.rows (X.gens.length : Int)) r).length = X.rows.length + 1 := insR_len _ _ _ (place_le _ _)
                    refine bodyPost_ret (v := .tuple #[.agg #[.slice (some ⟨g5, 0, none⟩) (X.rows.length + 1) c5', .slice (some ⟨g8, 0, none⟩) (X.gens.length + 1) c9], .agg #[.int .i64 (X.gens.length : Int), .int .i64 ng], .int .i64 0]) (by simp [results, Try.results40, go_sem, t0, t1, s0, s1]) rfl ⟨some ⟨g5, 0, none⟩, c5', some ⟨g8, 0, none⟩, c9, ?_, ?_, (unhide HS8).bel⟩
                    · simp [hle]
                    · exact (unhide HE).wld hle.symm (by simp)
          · have hkl' : ¬ ((k : Int) = (X.gens.length : Int)) := by omega
            have hk3 : k < X.gens.length := by omega
            have hkz : (k : Int) < (X.gens.length : Int) := by omega
            unfold gensF
            rw [if_neg hkl']
            have hOW := fun W (hb : Below w.heap.size w W) => own_base2 A cap X.rows G gcap X.gens W hn hgn (by omega) ((unhide HX).below hb).rows ((unhide HX).below hb).gens
            unfold worldV at hOW
            have HOW := hide hOW
            clear hOW
            go_enter Try.func40, Try.ntmps40
            go_wp2_with (first
            | (go_at_call 34; refine (unhide HP _ (unhide HSB).bel).mono ?_; rintro e w5 ⟨rfl, hb5⟩; have hS5 := (unhide HSB).below hb5; have hS6 := hS5.below ((Below.refl _ _).alloc (Nat.le_refl _) (.cells #[.int .i64 0, .int .i64 wa] 43)); have r0 := hS6.r0; have r1 := hS6.r1; have HS6 := hide hS6; clear hb5 hS5 hS6)
            | (go_at_call 15; refine (set_any _ _).mono ?_; rintro e w1 ⟨rfl, hw⟩; obtain rfl := hw.symm)
            | (go_at_call 18; refine (value_any _ _).mono ?_; rintro e w1 ⟨rfl, hw⟩; obtain rfl := hw.symm)
            | (go_at_call 38; refine (unhide HNX _ (unhide HS6).bel).mono ?_; rintro e w6 ⟨rfl, hb6⟩; have hS8 := (unhide HS6).below hb6; have HZ6 := hide hS8.sz; have hS9 := hS8.below ((Below.refl _ _).alloc (Nat.le_refl _) (.cells #[.int .i64 (k : Int), .int .i64 ng] 40)); have r0' := hS9.r0; have r1' := hS9.r1; have HS9 := hide hS9; have HQ0 : Hid ((w6.alloc (.cells #[.int .i64 (k : Int), .int .i64 ng] 40)).cell? ⟨w6.heap.size, 0, none⟩ = some (.int .i64 (k : Int))) := hide (by simp); have HQ1 : Hid ((w6.alloc (.cells #[.int .i64 (k : Int), .int .i64 ng] 40)).cell? ⟨w6.heap.size, 1, none⟩ = some (.int .i64 ng)) := hide (by simp); clear hb6 hS8 hS9 r0 r1)
            | (go_at_call 37; refine (unhide HOW _ (unhide HS9).bel).mono ?_; rintro e w8 ⟨A5, c5, g8, c8, rfl, q5, q8, hb8⟩; have hZ5 := ZB.start ((unhide HS9).below hb8) (keep_below hb8 (unhide HQ0)) (keep_below hb8 (unhide HQ1)) q5 q8 (unhide HS9).sz (by simp) hb8.size; rw [show (w6.alloc (.cells #[.int .i64 (k : Int), .int .i64 ng] 40)).heap.size = w6.heap.size + 1 from by simp] at hZ5; have i0 := hZ5.i0; have i1 := hZ5.i1; have o0 := hZ5.o0; have o1 := hZ5.o1; have HZ5 := hide hZ5; clear hb8 q5 q8 hZ5 r0' r1')
            | (refine wpList_put1 rfl 3 (.tmp 61) (.tmp 60) rfl g8 k (.int .i64 ng) rfl rfl rfl size3 ((unhide HZ5).thereG rfl k (by omega)) ?_; intro W5 hW5; have hZ9 := (unhide HZ5).setG rfl k (by omega) ng; rw [← hW5] at hZ9; have HZ9 := hide hZ9; clear hW5 hZ9))
            go_frame
            refine wp_region_mix 1 [0, 1, 2, 3, 4, 5, 6, 7, 8, 9, 10, 11, 12] [13] [0, 1, 2, 3, 4, 5, 6, 7, 8, 9, 10, 13] [11, 12, 14] (fun W => ZB w (.slice A X.rows.length cap) (.slice G X.gens.length gcap) w6.heap.size w8.heap.size (w6.heap.size + 1) (k : Int) ng (.slice A5 X.rows.length c5) (.slice (some ⟨g8, 0, none⟩) X.gens.length c8) (.slice A5 X.rows.length c5) (.slice (some ⟨g8, 0, none⟩) X.gens.length c8) X.rows (X.gens.set k ng) W)
              (by kernel_rfl) (by kernel_rfl) (by kernel_rfl) (by kernel_rfl) (by kernel_rfl) (by kernel_rfl) (by kernel_rfl) (fun w1 x h => h.below x.bel) (unhide HZ9) ?_
            apply Exists.intro
            refine ⟨?hq, ?hp, ?hl⟩
            case hq =>
              intro l w1 hl hI
              simp only [pickL, List.getElem?_cons_zero, List.getElem?_cons_succ, Option.toList_some, List.cons_append, List.nil_append] at hl
              subst hl
              have hne : Nonempty (Sub w1) := ⟨⟨w1, Below.refl _ _⟩⟩
              have q0 := sub_cell hI.o0
              have q1 := sub_cell hI.i0
              have q2 := sub_cell hI.i1
              have hPL := fun x : Sub w1 => place_any A5 c5 X.rows (k : Int) x.val (by omega) (own_rows (hI.below x.bel).p5)
              have hNR := fun x : Sub w1 => newRow_any (k : Int) ng has n x.val hs0 hs1
              rw [hrw] at hNR
              unfold beingV rowV at hNR
              have HPL := hide hPL
              have HNR := hide hNR
              clear hI hPL hNR
              repeat (go_big_quiet_step ((first | (go_at_call 84; exact sub_bel (unhide HPL _)) | (go_at_call 85; exact sub_bel (unhide HNR _)))))
              exact wpQuiet_nil rfl
            case hp =>
              intro l w1 hl
              simp only [pickL, List.getElem?_cons_zero, List.getElem?_cons_succ, Option.toList_some, List.cons_append, List.nil_append] at hl
              subst hl
              have hne : Nonempty (Sub w1) := ⟨⟨w1, Below.refl _ _⟩⟩
              repeat (go_big_quiet_step (fail))
              exact wpQuiet_nil rfl
            case hl =>
              intro l hl x
              simp only [pickL, List.getElem?_cons_zero, List.getElem?_cons_succ, Option.toList_some, List.cons_append, List.nil_append] at hl
              subst hl
              have hZ := (unhide HZ9).below x.bel
              have HZ := hide hZ
              clear hZ
              unfold wpLoud
              go_wp2
              refine lpost_intro fun x2 => ⟨fun _ => ?_, ?_⟩
              · exact ((unhide HZ).below ((Below.refl _ _).alloc (Nat.le_refl _) _)).below x2.bel
              · have hZ2 := ((unhide HZ).below ((Below.refl _ _).alloc (Nat.le_refl _) _)).below x2.bel
                have hv2 := (vb1_new x.val r).below x2.bel
                have hin := insert_any _ A5 c5 (placeN X.rows (k : Int)) X.rows r x.val.heap.size x2.val (by omega) (place_le _ _) hZ2.base (fun c o e => by have := ((unhide HZ).p5.lt c (by rw [e]; rfl)).2; omega) hZ2.p5 hv2
                have HIN := hide hin
                have HZ2 := hide hZ2
                clear hin hZ2 hv2
                unfold wpLoud
                go_wp2_with (go_at_call 83; refine (unhide HIN).mono ?_; rintro e w3 ⟨g5, c5', rfl, ho3, hg3⟩)
                refine lpost_intro fun x3 => ⟨fun h => absurd h (by decide), ?_⟩
                have hl5 : (insR X.rows (placeN X.rows (k : Int)) r).length = X.rows.length + 1 := insR_len _ _ _ (place_le _ _)
                have hZ3 := ((unhide HZ2).give5 (v5' := .slice (some ⟨g5, 0, none⟩) (X.rows.length + 1) c5') (rows' := insR X.rows (placeN X.rows (k : Int)) r) hg3 (by rw [hl5]; exact ho3)).below x3.bel
                have HZ3 := hide hZ3
                clear hZ3 ho3 hg3
                unfold wpLoud
                refine wpList_put1 rfl 36 (.tmp 75) (.tmp 74) rfl w8.heap.size 0 (.slice (some ⟨g5, 0, none⟩) (X.rows.length + 1) c5') rfl rfl rfl size36 ((unhide HZ3).there12 0 (by decide)) ?_
                intro W9 hW9
                unfold wpList
                refine lpost_intro fun x4 => ⟨fun h => absurd h (by decide), ?_⟩
                have hZ4 := ((unhide HZ3).set0 (.slice (some ⟨g5, 0, none⟩) (X.rows.length + 1) c5'))
                rw [← hW9] at hZ4
                have HZ4 := hide (hZ4.below x4.bel)
                clear hZ4 hW9
                unfold wpLoud
                go_wp2
                go_frame
                refine wp_region_puts [0, 1, 4] [2, 3] (fun L W => ∃ y0 y1 z0 z1, SB w (.slice A X.rows.length cap) (.slice G X.gens.length gcap) y0 y1 z0 z1 W ∧ (L 2 = true → y0 = .slice (some ⟨g5, 0, none⟩) (X.rows.length + 1) c5' ∧ y1 = .slice (some ⟨g8, 0, none⟩) X.gens.length c8) ∧ (L 3 = true → z0 = .int .i64 (k : Int) ∧ z1 = .int .i64 ng) ∧ FE w w6.heap.size w8.heap.size (w6.heap.size + 1) (k : Int) ng (.slice (some ⟨g5, 0, none⟩) (X.rows.length + 1) c5') (.slice (some ⟨g8, 0, none⟩) X.gens.length c8) (insR X.rows (placeN X.rows (k : Int)) r) (X.gens.set k ng) W)
                  (by kernel_rfl) (by kernel_rfl) (by kernel_rfl) (by kernel_rfl) (by kernel_rfl) (by kernel_rfl) (by kernel_rfl) ?_ ?_ ?_ ?_
                · rintro L w1 x ⟨y0, y1, z0, z1, h1, h2, h3, h4⟩
                  exact ⟨y0, y1, z0, z1, h1.below x.bel, h2, h3, h4.below x.bel⟩
                · rintro L L' w1 he ⟨y0, y1, z0, z1, h1, h2, h3, h4⟩
                  exact ⟨y0, y1, z0, z1, h1, by rw [he 2 (by simp)]; exact h2, by rw [he 3 (by simp)]; exact h3, h4⟩
                · exact ⟨_, _, _, _, (unhide HZ4).sb, fun h => (by cases h), fun h => (by cases h), (unhide HZ4).fin (c0 := .int .i64 0) (c1 := .int .i64 0) (unhide HZ6)⟩
                · apply Exists.intro
                  refine ⟨?hq, ?hl, ?hend⟩
                  case hq =>
                    rintro l L w1 hl ⟨y0, y1, z0, z1, h1, h2, h3, h4⟩
                    simp only [pickL, List.getElem?_cons_zero, List.getElem?_cons_succ, Option.toList_some, List.cons_append, List.nil_append] at hl
                    subst hl
                    have hne : Nonempty (Sub w1) := ⟨⟨w1, Below.refl _ _⟩⟩
                    have q0 := sub_cell h4.o0
                    have q1 := sub_cell h4.o1
                    have q2 := sub_cell h4.i0
                    have q3 := sub_cell h4.i1
                    clear h1 h2 h3 h4
                    repeat (go_big_quiet_step (fail))
                    exact wpQuiet_nil rfl
                  case hl =>
                    rintro i o hi ho L w1 ⟨y0, y1, z0, z1, h1, h2, h3, h4⟩ hL
                    simp only [List.mem_cons, List.not_mem_nil, or_false] at hi
                    rcases hi with rfl | rfl
                    · simp only [List.getElem?_cons_zero, List.getElem?_cons_succ, Option.some.injEq] at ho
                      subst ho
                      refine wpList_putN rfl 38 (.tmp 6) (.tmp 76) rfl (w.heap.size + 1) 0 [.slice (some ⟨g5, 0, none⟩) (X.rows.length + 1) c5', .slice (some ⟨g8, 0, none⟩) X.gens.length c8] rfl rfl (by simp [Value.oneCell']) size38 h1.thereA ?_
                      intro W3 hW3
                      unfold wpList
                      exact ⟨rfl, rfl, _, _, z0, z1, by rw [hW3]; exact h1.giveA _ _, fun _ => ⟨rfl, rfl⟩, fun h => h3 h, by rw [hW3]; exact h4.sets (by omega)⟩
                    · simp only [List.getElem?_cons_zero, List.getElem?_cons_succ, Option.some.injEq] at ho
                      subst ho
                      refine wpList_putN rfl 40 (.tmp 7) (.tmp 77) rfl (w.heap.size + 2) 0 [.int .i64 (k : Int), .int .i64 ng] rfl rfl (by simp [Value.oneCell']) size40 h1.thereB ?_
                      intro W3 hW3
                      unfold wpList
                      exact ⟨rfl, rfl, y0, y1, _, _, by rw [hW3]; exact h1.giveB _ _, fun h => h2 h, fun _ => ⟨rfl, rfl⟩, by rw [hW3]; exact h4.sets (by omega)⟩
                  case hend =>
                    rintro L w1 ⟨y0, y1, z0, z1, h1, h2, h3, h4⟩ hall
                    obtain ⟨rfl, rfl⟩ := h2 (hall 2 (by simp))
                    obtain ⟨rfl, rfl⟩ := h3 (hall 3 (by simp))
                    have HS8 := hide h1
                    have HE := hide h4
                    clear h1 h2 h3 h4 hall
                    go_wp2
                    have t0 := (unhide HS8).t0
                    have t1 := (unhide HS8).t1
                    have s0 := (unhide HS8).s0
                    have s1 := (unhide HS8).s1
                    have hle : (insR X.rows (placeN X.rows (k : Int)) r).length = X.rows.length + 1 := insR_len _ _ _ (place_le _ _)
                    refine bodyPost_ret (v := .tuple #[.agg #[.slice (some ⟨g5, 0, none⟩) (X.rows.length + 1) c5', .slice (some ⟨g8, 0, none⟩) X.gens.length c8], .agg #[.int .i64 (k : Int), .int .i64 ng], .int .i64 0]) (by simp [results, Try.results40, go_sem, t0, t1, s0, s1]) rfl ⟨some ⟨g5, 0, none⟩, c5', some ⟨g8, 0, none⟩, c8, ?_, ?_, (unhide HS8).bel⟩
                    · simp [hle]
                    · exact (unhide HE).wld hle.symm (by simp)
        · rw [if_pos hne]
          generalize (nextF X).1.1 = ni at *
          generalize (nextF X).1.2 = ng at *
          generalize (nextF X).2 = ne at *
          unfold emptyW
          go_enter Try.func40, Try.ntmps40
          go_wp2_with (first
          | (go_at_call 34; refine (unhide HP _ (unhide HSB).bel).mono ?_; rintro e w5 ⟨rfl, hb5⟩; have hS5 := (unhide HSB).below hb5; have hS6 := hS5.below ((Below.refl _ _).alloc (Nat.le_refl _) (.cells #[.int .i64 0, .int .i64 wa] 43)); have r0 := hS6.r0; have r1 := hS6.r1; have HS6 := hide hS6; clear hb5 hS5 hS6)
          | (go_at_call 15; refine (set_any _ _).mono ?_; rintro e w1 ⟨rfl, hw⟩; obtain rfl := hw.symm)
          | (go_at_call 18; refine (value_any _ _).mono ?_; rintro e w1 ⟨rfl, hw⟩; obtain rfl := hw.symm)
          | (go_at_call 38; refine (unhide HNX _ (unhide HS6).bel).mono ?_; rintro e w6 ⟨rfl, hb6⟩; have hS8 := (unhide HS6).below hb6; have hS9 := hS8.below ((Below.refl _ _).alloc (Nat.le_refl _) (.cells #[.int .i64 ni, .int .i64 ng] 40)); have r0' := hS9.r0; have r1' := hS9.r1; have HS9 := hide hS9; clear hb6 hS8 hS9 r0 r1)
          | (refine wpList_putN rfl 38 (.tmp 6) (.tmp 39) rfl (w.heap.size + 1) 0 [.slice none 0 0, .slice none 0 0] rfl rfl (by simp [Value.oneCell']) size38 (unhide HS9).thereA ?_; intro W3 hW3; have hS7 := (unhide HS9).giveA (.slice none 0 0) (.slice none 0 0); rw [← hW3] at hS7; have HS7 := hide hS7; clear hW3 hS7)
          | (refine wpList_putN rfl 40 (.tmp 7) (.tmp 40) rfl (w.heap.size + 2) 0 [.int .i64 0, .int .i64 0] rfl rfl (by simp [Value.oneCell']) size40 (unhide HS7).thereB ?_; intro W4 hW4; have hS8 := (unhide HS7).giveB (.int .i64 0) (.int .i64 0); rw [← hW4] at hS8; have HS8 := hide hS8; clear hW4 hS8))
          have t0 := (unhide HS8).t0
          have t1 := (unhide HS8).t1
          have s0 := (unhide HS8).s0
          have s1 := (unhide HS8).s1
          refine bodyPost_ret (v := .tuple #[.agg #[.slice none 0 0, .slice none 0 0], .agg #[.int .i64 0, .int .i64 0], .int .i64 ne]) (by simp [results, Try.results40, go_sem, t0, t1, s0, s1]) rfl ⟨none, 0, none, 0, rfl, wldNew_empty _ _, (unhide HS8).bel⟩
  · rw [if_pos hw0]
    generalize (wrongW X).2 = wa at *
    generalize (wrongW X).1 = we at *
    unfold emptyW
    go_enter Try.func40, Try.ntmps40
    go_wp2_with (first
      | (go_at_call 34; refine (unhide HP _ (unhide HSB).bel).mono ?_; rintro e w5 ⟨rfl, hb5⟩; have hS5 := (unhide HSB).below hb5; have hS6 := hS5.below ((Below.refl _ _).alloc (Nat.le_refl _) (.cells #[.int .i64 we, .int .i64 wa] 43)); have HS6 := hide hS6; have HZ5 := hide hS5.sz; clear hb5 hS5 hS6))
    have hf0 : (w5.alloc (.cells #[.int .i64 we, .int .i64 wa] 43)).cell? ⟨w5.heap.size, 0, none⟩ = some (.int .i64 we) := by simp
    have HF0 := hide hf0
    clear hf0
    refine wp_region_puts [0, 1, 2, 3, 6] [4, 5] (fun _ W => SB w (.slice A X.rows.length cap) (.slice G X.gens.length gcap) (.slice none 0 0) (.slice none 0 0) (.int .i64 0) (.int .i64 0) W ∧ W.cell? ⟨w5.heap.size, 0, none⟩ = some (.int .i64 we)) (by kernel_rfl) (by kernel_rfl) (by kernel_rfl) (by kernel_rfl) (by kernel_rfl) (by kernel_rfl) (by kernel_rfl)
      (fun L w1 x h => ⟨h.1.below x.bel, keep_below x.bel h.2⟩) (fun _ _ _ _ h => h) ⟨unhide HS6, unhide HF0⟩ ?_
    apply Exists.intro
    refine ⟨?hq, ?hl, ?hend⟩
    case hq =>
      intro l L w1 hl hI
      simp only [pickL, List.getElem?_cons_zero, List.getElem?_cons_succ, Option.toList_some, List.cons_append, List.nil_append] at hl
      subst hl
      have hne : Nonempty (Sub w1) := ⟨⟨w1, Below.refl _ _⟩⟩
      have f0 := sub_cell hI.2
      clear hI
      repeat (go_big_quiet_step (fail))
      exact wpQuiet_nil rfl
    case hl =>
      intro i o hi ho L w1 hI hL
      simp only [List.mem_cons, List.not_mem_nil, or_false] at hi
      rcases hi with rfl | rfl
      · simp only [List.getElem?_cons_zero, List.getElem?_cons_succ, Option.some.injEq] at ho
        subst ho
        refine wpList_putN rfl 38 (.tmp 6) (.tmp 18) rfl (w.heap.size + 1) 0 [.slice none 0 0, .slice none 0 0] rfl rfl (by simp [Value.oneCell']) size38 hI.1.thereA ?_
        intro W3 hW3
        unfold wpList
        refine ⟨rfl, rfl, by rw [hW3]; exact hI.1.giveA _ _, ?_⟩
        rw [hW3]
        exact (setcs_other (by have := unhide HZ5; simp only [ne_eq]; omega)).trans hI.2
      · simp only [List.getElem?_cons_zero, List.getElem?_cons_succ, Option.some.injEq] at ho
        subst ho
        refine wpList_putN rfl 40 (.tmp 7) (.tmp 19) rfl (w.heap.size + 2) 0 [.int .i64 0, .int .i64 0] rfl rfl (by simp [Value.oneCell']) size40 hI.1.thereB ?_
        intro W3 hW3
        unfold wpList
        refine ⟨rfl, rfl, by rw [hW3]; exact hI.1.giveB _ _, ?_⟩
        rw [hW3]
        exact (setcs_other (by have := unhide HZ5; simp only [ne_eq]; omega)).trans hI.2
    case hend =>
      intro L w1 hI _
      have HS8 := hide hI.1
      clear hI
      go_wp2
      have t0 := (unhide HS8).t0
      have t1 := (unhide HS8).t1
      have s0 := (unhide HS8).s0
      have s1 := (unhide HS8).s1
      refine bodyPost_ret (v := .tuple #[.agg #[.slice none 0 0, .slice none 0 0], .agg #[.int .i64 0, .int .i64 0], .int .i64 we]) (by simp [results, Try.results40, go_sem, t0, t1, s0, s1]) rfl ⟨none, 0, none, 0, rfl, wldNew_empty _ _, (unhide HS8).bel⟩
end Go.Proofs.Ytmbjghjpofcdpaa
