/- The document's Spawn. -/
import Derived.Test.YtnbleebilmghcaaLPRMath
import Derived.Test.YtnbleebilmghcaaLPRSpawn0
set_option linter.unusedVariables false
set_option linter.unusedSimpArgs false
set_option linter.unnecessarySimpa false
namespace Go.Proofs.Ytnbleebilmghcaa
open Go Go.RowKit
attribute [local go_sem ↓] Go.wp_at_zero Go.wp_at_succ

set_option maxRecDepth 8000 in
set_option maxHeartbeats 8000000 in
theorem rspawn_new (A : Option Addr) (cap : Nat) (G : Option Addr) (gcap : Nat) (X : Wd) (has n : Int) (w : World) (hX : WldAt w A cap G gcap X) (hw0 : (wrongW X).1 = 0) (hs : setB has = true) (hv : valB n = true) (k : Nat) (ng : Int) (hN1 : (nextF X).1 = ((k : Int), ng)) (hN2 : (nextF X).2 = 0) (hkl : k = X.gens.length) (rows' : List RowI) (hrows : withF X.rows (newR (k : Int) ng has n) = rows') :
    Calls Try.prog 41 #[wldV A cap G gcap X, .int .i64 has, .int .i64 n] w fun e w' => ∃ A' c' G' gc', e = .returned (.tuple #[.agg #[.slice A' rows'.length c', .slice G' ((X.gens ++ [(0 : Int)]).set k ng).length gc'], .agg #[.int .i64 (k : Int), .int .i64 ng], .int .i64 0]) ∧ WldDoc w.heap.size w' none A' c' G' gc' ⟨rows', (X.gens ++ [(0 : Int)]).set k ng⟩ ∧ Below w.heap.size w w' := by
  have hSB := SB.start w (.slice A X.rows.length cap) (.slice G X.gens.length gcap)
  have hP := fun W (hb : Below w.heap.size w W) => rpwrong_any A X.rows.length cap G X.gens.length gcap (fun j => X.rows.getD j dR) (fun j => X.gens.getD j 0) W (by have := (right_hr hw0).1; omega) (hX.rows.below hb) (hX.gens.below hb)
  have eW : plainF (fun j => X.rows.getD j dR) X.rows.length X.gens.length (fun j => X.gens.getD j 0) = wrongW X := rfl
  rw [eW] at hP
  unfold faultP worldV at hP
  obtain ⟨hr1, hr2, hr3⟩ := right_hr hw0
  rw [hw0] at hP
  have hNX := fun W (hb : Below w.heap.size w W) => rnext_any A cap G gcap X W (by omega) (by omega) (fun j hj => by have := hr3 j hj; omega) (hX.below hb)
  rw [hN1, hN2] at hNX
  unfold wldV worldV beingV at hNX
  dsimp only at hNX
  have hs0 : 0 ≤ has ∧ has ≤ 255 := by unfold setB at hs; simpa using hs
  obtain ⟨hs0, hs1⟩ := hs0
  have hBI := fun W => bits_bel has W hs0 hs1
  have hST := rset_any has
  have hVL := rvalue_any n
  rw [hs] at hST
  rw [hv] at hVL
  have hWI := fun W (h : WldAt W A cap G gcap X) => rwith_any A cap G gcap X (newR (k : Int) ng has n) W (by omega) h
  rw [hrows] at hWI
  unfold wldV worldV rowV at hWI
  obtain ⟨i3, hi3, hz3, hs3, hb3⟩ := info_parts info3
  obtain ⟨r, hr⟩ : ∃ r, r = newR (k : Int) ng has n := ⟨_, rfl⟩
  rw [← hr] at hWI
  have HRR := hide hr
  have hix := ix24 has
  generalize (wrongW X).2 = wa at *
  have HP := hide hP
  have HX := hide hX
  have HSB := hide hSB
  have HNX := hide hNX
  have HBI := hide hBI
  have HST := hide hST
  have HVL := hide hVL
  have HWI := hide hWI
  have HI3 := hide hi3
  have HZZ3 := hide hz3
  have HSS3 := hide hs3
  have HBB3 := hide hb3
  have HIX := hide hix
  clear hP hX hSB hNX hBI hST hVL hWI hi3 hz3 hs3 hb3 eW hrows hN1 hN2 hw0 hs hv hr hix
  have HKL := hide hkl
  have k0 : (0 : Int) ≤ (k : Int) := by omega
  have k1 : (X.gens.length : Int) ≤ (k : Int) := by omega
  have k2 : (k : Int) < ((X.gens.length + 1 : Nat) : Int) := by omega
  have k3 : ¬ (k : Int) < (X.gens.length : Int) := by omega
  have HLB := hide (show X.gens.length + 1 = (X.gens ++ [(0 : Int)]).length by simp)
  have HKB := hide (show k < (X.gens ++ [(0 : Int)]).length by simp; omega)
  clear hkl
  unfold wldV worldV
  go_enter Try.func41, Try.ntmps41
  go_wp2_with (first
    | (go_at_call 35; refine (unhide HP _ (unhide HSB).bel).mono ?_; rintro e w5 ⟨rfl, hb5⟩; have hS5 := (unhide HSB).below hb5; have hS6 := hS5.below ((Below.refl _ _).alloc (Nat.le_refl _) (.cells #[.int .i64 0, .int .i64 wa] 43)); have r0 := hS6.r0; have r1 := hS6.r1; have HS6 := hide hS6; clear hb5 hS5 hS6)
    | (go_at_call 16; refine (unhide HST _).mono ?_; rintro e w1 ⟨rfl, hw⟩; obtain rfl := hw.symm)
    | (go_at_call 19; refine (unhide HVL _).mono ?_; rintro e w1 ⟨rfl, hw⟩; obtain rfl := hw.symm)
    | (go_at_call 39; refine (unhide HNX _ (unhide HS6).bel).mono ?_; rintro e w6 ⟨rfl, hb6⟩; have hS8 := (unhide HS6).below hb6; have HX8 := hide (XB.start hS8 (k : Int) ng has (rowTo (k : Int) ng has n 0).v (fun t ht => by simp [rowTo])); have HZ6 := hide hS8.sz; clear hb6 hS8 r0 r1)
    | (go_at_call 22; refine (unhide HBI _).mono ?_; rintro e w7 ⟨rfl, hb7, hz7⟩; have HX9 := hide ((unhide HX8).below hb7); clear hb7 hz7 HX8))
  go_loopw [51] (fun t wr => ∃ j : Nat, j ≤ 8 ∧ t = .int .i64 j ∧ XB w (.slice A X.rows.length cap) (.slice G X.gens.length gcap) w6.heap.size (w6.heap.size + 1) (k : Int) ng (rowTo (k : Int) ng has n j) wr) (fun t _ => 8 - (intOf t).toNat)
  case atStart => exact ⟨0, Nat.zero_le _, rfl, unhide HX9⟩
  case round =>
    clear HX9
    obtain ⟨j, hj, rfl, hC⟩ := hrel
    by_cases hlt : j < 8
    · have j0 : (0 : Int) ≤ (j : Int) := by omega
      have j1 : (j : Int) < 8 := by omega
      have hix := unhide HIX j hlt
      cases hb : tb has j
      · have HEQ := hide (rowTo_no (k : Int) ng has n j hb)
        rw [hb] at hix
        have HC := hide hC
        clear hC hb
        go_wp2
        go_roundw
        case rel => exact ⟨j + 1, by omega, by go_num, by rw [unhide HEQ]; exact unhide HC⟩
        case measure => simp [intOf]; omega
      · have HEQ := hide (rowTo_yes (k : Int) ng has n j hb)
        rw [hb] at hix
        have HC := hide hC
        clear hC hb
        go_wp2_with (first
          | (refine wpList_put1 rfl 3 (.tmp 59) (.tmp 57) rfl (w6.heap.size + 1) (3 + j) (.int .i64 n) rfl rfl rfl size3 (by have := there_of ((unhide HC).row.v j hlt) (unhide HC).fr; rwa [Nat.zero_add] at this) ?_; intro W13 hW13; have hY13 := (unhide HC).setV j hlt n; rw [← hW13] at hY13; have HY13 := hide hY13; clear hW13 hY13))
        go_roundw
        case rel => exact ⟨j + 1, by omega, by go_num, by rw [unhide HEQ]; exact unhide HY13⟩
        case measure => simp [intOf]; omega
    · obtain rfl : j = 8 := by omega
      rw [rowTo_8, ← unhide HRR] at hC
      have r1 := hC.sb.r1
      have lr := World.block_lt_of_cell? wr _ r1
      have HC := hide hC
      clear hC HIX HBI
      go_wp2_with (first
        | (at_builtin; refine wpList_append_onto _ rfl (.tmp 61) (.tmp 63) 26 rfl wr.heap.size 3 i3 _ 1 8 Try.underlying26 (unhide HI3) (unhide HZZ3) (unhide HSS3) (unhide HBB3) rfl (by decide) wr.heap.size rfl (own_empty wr) G X.gens.length gcap (cellsOfInts X.gens) rfl ((unhide HX).below ((unhide HC).sb.bel.trans ((bel1 wr (.cells #[] 3)).mono (unhide HC).sb.bel.size))).gens.copies (by unfold maxLen; omega) (by omega) (by simp) ?_; intro v8 w8 q8 hg8; obtain ⟨A8, c8, rfl⟩ := own_one q8; have hG8 := GB.start (unhide HC) (gens := X.gens) hg8 q8; have i0 := hG8.xb.i0; have HG8 := hide hG8; clear q8 hg8 hG8 r1 lr)
        | (at_builtin; refine wpList_append1 _ rfl (.tmp 70) (.tmp 71) 26 rfl wr.heap.size 3 i3 _ 1 8 Try.underlying26 (unhide HI3) (unhide HZZ3) (unhide HSS3) (unhide HBB3) rfl (by decide) (.slice A8 X.gens.length c8) X.gens.length (cellsOfInts X.gens) rfl ((unhide HG8).below (bel1 _ _)).p8 ⟨w8.heap.size, 0, none⟩ 1 1 [.int .i64 0] rfl rfl (cell_new w8 (.int .i64 0) 3) (by simp [Value.oneCell']) (by unfold maxLen; omega) (by omega) ((unhide HG8).below (bel1 _ _)).hs (by omega) ?_; intro g9 c9 w9 q9 hg9 hw9; have hG9 := ((unhide HG8).below (bel1 w8 (.cells #[.int .i64 0] 3))).app q9 hg9; rw [← unhide HLB] at hG9; clear i0; have i0 := hG9.xb.i0; have i1 := hG9.xb.i1; have HG9 := hide hG9; clear q9 hg9 hw9 hG9 HG8)
        | (refine wpList_put1 rfl 3 (.tmp 78) (.tmp 77) rfl g9 k (.int .i64 ng) rfl rfl rfl size3 ((unhide HG9).thereG (unhide HLB) k (unhide HKB)) ?_; intro W5 hW5; have hG10 := (unhide HG9).setG (unhide HLB) k (unhide HKB) ng; rw [← hW5] at hG10; obtain ⟨p0, p1, p2, p3, p4, p5, p6, p7, p8, p9, p10⟩ := rowAt0 hG10.xb.row; have r0 := hG10.xb.sb.r0; have r1 := hG10.xb.sb.r1; have HG10 := hide hG10; clear hW5 hG10 HG9 i0 i1)
        | (go_at_call 86; refine (unhide HWI _ ((unhide HX).below (unhide HG10).xb.sb.bel)).mono ?_; rintro e w15 ⟨A5, c5, rfl, ho5, hb15⟩; have hG15 := (unhide HG10).below hb15; have HZ16 := hide (hG15.out (c0 := .slice A5 rows'.length c5) (c1 := .slice G X.gens.length gcap) (own_kept (own_le ho5 (unhide HG10).hs) (Below.refl _ _))); clear ho5 hb15 hG15 r0 r1 p0 p1 p2 p3 p4 p5 p6 p7 p8 p9 p10 HG10)
        | (refine wpList_put1 rfl 26 (.tmp 83) (.tmp 82) rfl w15.heap.size 1 (.slice (some ⟨g9, 0, none⟩) (X.gens.length + 1) c9) rfl rfl rfl size26 ((unhide HZ16).there12 1 (by decide)) ?_; intro W8 hW8; have hZ5 := (unhide HZ16).set1 (.slice (some ⟨g9, 0, none⟩) (X.gens.length + 1) c9); rw [← hW8] at hZ5; have HZ5 := hide hZ5; clear hW8 hZ5 HZ16))
      try go_frame
      refine wp_region_puts [0, 1, 4] [2, 3] (fun L W => ∃ y0 y1 z0 z1, SB w (.slice A X.rows.length cap) (.slice G X.gens.length gcap) y0 y1 z0 z1 W ∧ (L 2 = true → y0 = .slice A5 rows'.length c5 ∧ y1 = (.slice (some ⟨g9, 0, none⟩) (X.gens.length + 1) c9)) ∧ (L 3 = true → z0 = .int .i64 (k : Int) ∧ z1 = .int .i64 ng) ∧ FE w w6.heap.size w15.heap.size wr.heap.size (k : Int) ng (.slice A5 rows'.length c5) (.slice (some ⟨g9, 0, none⟩) (X.gens.length + 1) c9) rows' ((X.gens ++ [(0 : Int)]).set k ng) W)
        (by kernel_rfl) (by kernel_rfl) (by kernel_rfl) (by kernel_rfl) (by kernel_rfl) (by kernel_rfl) (by kernel_rfl) ?_ ?_ ?_ ?_
      · rintro L w1 x ⟨y0, y1, z0, z1, h1, h2, h3, h4⟩
        exact ⟨y0, y1, z0, z1, h1.below x.bel, h2, h3, h4.below x.bel⟩
      · rintro L L' w1 he ⟨y0, y1, z0, z1, h1, h2, h3, h4⟩
        exact ⟨y0, y1, z0, z1, h1, by rw [he 2 (by simp)]; exact h2, by rw [he 3 (by simp)]; exact h3, h4⟩
      · exact ⟨_, _, _, _, (unhide HZ5).sb, fun h => (by cases h), fun h => (by cases h), (unhide HZ5).fin (c0 := .int .i64 0) (c1 := .int .i64 0) (unhide HZ6)⟩
      · apply Exists.intro
        refine ⟨?hq, ?hl, ?hend⟩
        case hq =>
          rintro l L w1 hl ⟨y0, y1, z0, z1, h1, h2, h3, h4⟩
          simp only [pickL, List.getElem?_cons_zero, List.getElem?_cons_succ, Option.toList_some, List.cons_append, List.nil_append] at hl
          subst hl
          have hne : Nonempty (Sub w1) := ⟨⟨w1, Below.refl _ _⟩⟩
          have q0 := sub_cell h4.o0
          have q1 := sub_cell h4.o1
          have q2 := sub_cell h4.i0
          have q3 := sub_cell h4.i1
          clear h1 h2 h3 h4
          repeat (go_big_quiet_step (fail))
          exact wpQuiet_nil rfl
        case hl =>
          rintro i o hi ho L w1 ⟨y0, y1, z0, z1, h1, h2, h3, h4⟩ hL
          simp only [List.mem_cons, List.not_mem_nil, or_false] at hi
          rcases hi with rfl | rfl
          · simp only [List.getElem?_cons_zero, List.getElem?_cons_succ, Option.some.injEq] at ho
            subst ho
            refine wpList_putN rfl 38 (.tmp 6) (.tmp 84) rfl (w.heap.size + 1) 0 [.slice A5 rows'.length c5, (.slice (some ⟨g9, 0, none⟩) (X.gens.length + 1) c9)] rfl rfl (by simp [Value.oneCell']) size38 h1.thereA ?_
            intro W3 hW3
            unfold wpList
            exact ⟨rfl, rfl, _, _, z0, z1, by rw [hW3]; exact h1.giveA _ _, fun _ => ⟨rfl, rfl⟩, fun h => h3 h, by rw [hW3]; exact h4.sets (by omega)⟩
          · simp only [List.getElem?_cons_zero, List.getElem?_cons_succ, Option.some.injEq] at ho
            subst ho
            refine wpList_putN rfl 40 (.tmp 7) (.tmp 85) rfl (w.heap.size + 2) 0 [.int .i64 (k : Int), .int .i64 ng] rfl rfl (by simp [Value.oneCell']) size40 h1.thereB ?_
            intro W3 hW3
            unfold wpList
            exact ⟨rfl, rfl, y0, y1, _, _, by rw [hW3]; exact h1.giveB _ _, fun h => h2 h, fun _ => ⟨rfl, rfl⟩, by rw [hW3]; exact h4.sets (by omega)⟩
        case hend =>
          rintro L w1 ⟨y0, y1, z0, z1, h1, h2, h3, h4⟩ hall
          obtain ⟨rfl, rfl⟩ := h2 (hall 2 (by simp))
          obtain ⟨rfl, rfl⟩ := h3 (hall 3 (by simp))
          have HS8 := hide h1
          have HE := hide h4
          clear h1 h2 h3 h4 hall
          go_wp2
          have t0 := (unhide HS8).t0
          have t1 := (unhide HS8).t1
          have s0 := (unhide HS8).s0
          have s1 := (unhide HS8).s1
          have h8 : w1.ownsRow wr.heap.size 3 1 (.slice (some ⟨g9, 0, none⟩) ((X.gens ++ [(0 : Int)]).set k ng).length c9) ((X.gens ++ [(0 : Int)]).set k ng).length (cellsOfInts ((X.gens ++ [(0 : Int)]).set k ng)) := by have := (unhide HE).p8; rw [show ((X.gens ++ [(0 : Int)]).set k ng).length = X.gens.length + 1 by simp] at this ⊢; exact this
          refine bodyPost_ret (v := .tuple #[.agg #[.slice A5 rows'.length c5, (.slice (some ⟨g9, 0, none⟩) (X.gens.length + 1) c9)], .agg #[.int .i64 (k : Int), .int .i64 ng], .int .i64 0]) (by simp [results, Try.results41, go_sem, t0, t1, s0, s1]) rfl ⟨A5, c5, some ⟨g9, 0, none⟩, c9, ?_, ⟨⟨own_rows (unhide HE).p5, own_ints h8⟩, own_fresh (unhide HE).p5 (by have := (unhide HE).hB; omega), .inr (own_fresh h8 (by have := (unhide HE).hB; omega))⟩, (unhide HS8).bel⟩
          rw [show ((X.gens ++ [(0 : Int)]).set k ng).length = X.gens.length + 1 by simp]

set_option maxRecDepth 8000 in
set_option maxHeartbeats 8000000 in
theorem rspawn_old (A : Option Addr) (cap : Nat) (G : Option Addr) (gcap : Nat) (X : Wd) (has n : Int) (w : World) (hX : WldAt w A cap G gcap X) (hw0 : (wrongW X).1 = 0) (hs : setB has = true) (hv : valB n = true) (k : Nat) (ng : Int) (hN1 : (nextF X).1 = ((k : Int), ng)) (hN2 : (nextF X).2 = 0) (hkl : k < X.gens.length) (rows' : List RowI) (hrows : withF X.rows (newR (k : Int) ng has n) = rows') :
    Calls Try.prog 41 #[wldV A cap G gcap X, .int .i64 has, .int .i64 n] w fun e w' => ∃ A' c' G' gc', e = .returned (.tuple #[.agg #[.slice A' rows'.length c', .slice G' (X.gens.set k ng).length gc'], .agg #[.int .i64 (k : Int), .int .i64 ng], .int .i64 0]) ∧ WldDoc w.heap.size w' none A' c' G' gc' ⟨rows', X.gens.set k ng⟩ ∧ Below w.heap.size w w' := by
  have hSB := SB.start w (.slice A X.rows.length cap) (.slice G X.gens.length gcap)
  have hP := fun W (hb : Below w.heap.size w W) => rpwrong_any A X.rows.length cap G X.gens.length gcap (fun j => X.rows.getD j dR) (fun j => X.gens.getD j 0) W (by have := (right_hr hw0).1; omega) (hX.rows.below hb) (hX.gens.below hb)
  have eW : plainF (fun j => X.rows.getD j dR) X.rows.length X.gens.length (fun j => X.gens.getD j 0) = wrongW X := rfl
  rw [eW] at hP
  unfold faultP worldV at hP
  obtain ⟨hr1, hr2, hr3⟩ := right_hr hw0
  rw [hw0] at hP
  have hNX := fun W (hb : Below w.heap.size w W) => rnext_any A cap G gcap X W (by omega) (by omega) (fun j hj => by have := hr3 j hj; omega) (hX.below hb)
  rw [hN1, hN2] at hNX
  unfold wldV worldV beingV at hNX
  dsimp only at hNX
  have hs0 : 0 ≤ has ∧ has ≤ 255 := by unfold setB at hs; simpa using hs
  obtain ⟨hs0, hs1⟩ := hs0
  have hBI := fun W => bits_bel has W hs0 hs1
  have hST := rset_any has
  have hVL := rvalue_any n
  rw [hs] at hST
  rw [hv] at hVL
  have hWI := fun W (h : WldAt W A cap G gcap X) => rwith_any A cap G gcap X (newR (k : Int) ng has n) W (by omega) h
  rw [hrows] at hWI
  unfold wldV worldV rowV at hWI
  obtain ⟨i3, hi3, hz3, hs3, hb3⟩ := info_parts info3
  obtain ⟨r, hr⟩ : ∃ r, r = newR (k : Int) ng has n := ⟨_, rfl⟩
  rw [← hr] at hWI
  have HRR := hide hr
  have hix := ix24 has
  generalize (wrongW X).2 = wa at *
  have HP := hide hP
  have HX := hide hX
  have HSB := hide hSB
  have HNX := hide hNX
  have HBI := hide hBI
  have HST := hide hST
  have HVL := hide hVL
  have HWI := hide hWI
  have HI3 := hide hi3
  have HZZ3 := hide hz3
  have HSS3 := hide hs3
  have HBB3 := hide hb3
  have HIX := hide hix
  clear hP hX hSB hNX hBI hST hVL hWI hi3 hz3 hs3 hb3 eW hrows hN1 hN2 hw0 hs hv hr hix
  have HKL := hide hkl
  have k0 : (0 : Int) ≤ (k : Int) := by omega
  have k1 : (k : Int) < (X.gens.length : Int) := by omega
  have k3 : decide (X.gens.length ≤ k) = false := by simp; omega
  have k4 : decide ((X.gens.length : Int) ≤ (k : Int)) = false := by simp; omega
  have HKB := hide hkl
  clear hkl
  unfold wldV worldV
  go_enter Try.func41, Try.ntmps41
  go_wp2_with (first
    | (go_at_call 35; refine (unhide HP _ (unhide HSB).bel).mono ?_; rintro e w5 ⟨rfl, hb5⟩; have hS5 := (unhide HSB).below hb5; have hS6 := hS5.below ((Below.refl _ _).alloc (Nat.le_refl _) (.cells #[.int .i64 0, .int .i64 wa] 43)); have r0 := hS6.r0; have r1 := hS6.r1; have HS6 := hide hS6; clear hb5 hS5 hS6)
    | (go_at_call 16; refine (unhide HST _).mono ?_; rintro e w1 ⟨rfl, hw⟩; obtain rfl := hw.symm)
    | (go_at_call 19; refine (unhide HVL _).mono ?_; rintro e w1 ⟨rfl, hw⟩; obtain rfl := hw.symm)
    | (go_at_call 39; refine (unhide HNX _ (unhide HS6).bel).mono ?_; rintro e w6 ⟨rfl, hb6⟩; have hS8 := (unhide HS6).below hb6; have HX8 := hide (XB.start hS8 (k : Int) ng has (rowTo (k : Int) ng has n 0).v (fun t ht => by simp [rowTo])); have HZ6 := hide hS8.sz; clear hb6 hS8 r0 r1)
    | (go_at_call 22; refine (unhide HBI _).mono ?_; rintro e w7 ⟨rfl, hb7, hz7⟩; have HX9 := hide ((unhide HX8).below hb7); clear hb7 hz7 HX8))
  go_loopw [51] (fun t wr => ∃ j : Nat, j ≤ 8 ∧ t = .int .i64 j ∧ XB w (.slice A X.rows.length cap) (.slice G X.gens.length gcap) w6.heap.size (w6.heap.size + 1) (k : Int) ng (rowTo (k : Int) ng has n j) wr) (fun t _ => 8 - (intOf t).toNat)
  case atStart => exact ⟨0, Nat.zero_le _, rfl, unhide HX9⟩
  case round =>
    clear HX9
    obtain ⟨j, hj, rfl, hC⟩ := hrel
    by_cases hlt : j < 8
    · have j0 : (0 : Int) ≤ (j : Int) := by omega
      have j1 : (j : Int) < 8 := by omega
      have hix := unhide HIX j hlt
      cases hb : tb has j
      · have HEQ := hide (rowTo_no (k : Int) ng has n j hb)
        rw [hb] at hix
        have HC := hide hC
        clear hC hb
        go_wp2
        go_roundw
        case rel => exact ⟨j + 1, by omega, by go_num, by rw [unhide HEQ]; exact unhide HC⟩
        case measure => simp [intOf]; omega
      · have HEQ := hide (rowTo_yes (k : Int) ng has n j hb)
        rw [hb] at hix
        have HC := hide hC
        clear hC hb
        go_wp2_with (first
          | (refine wpList_put1 rfl 3 (.tmp 59) (.tmp 57) rfl (w6.heap.size + 1) (3 + j) (.int .i64 n) rfl rfl rfl size3 (by have := there_of ((unhide HC).row.v j hlt) (unhide HC).fr; rwa [Nat.zero_add] at this) ?_; intro W13 hW13; have hY13 := (unhide HC).setV j hlt n; rw [← hW13] at hY13; have HY13 := hide hY13; clear hW13 hY13))
        go_roundw
        case rel => exact ⟨j + 1, by omega, by go_num, by rw [unhide HEQ]; exact unhide HY13⟩
        case measure => simp [intOf]; omega
    · obtain rfl : j = 8 := by omega
      rw [rowTo_8, ← unhide HRR] at hC
      have r1 := hC.sb.r1
      have lr := World.block_lt_of_cell? wr _ r1
      have HC := hide hC
      clear hC HIX HBI
      go_wp2_with (first
        | (at_builtin; refine wpList_append_onto _ rfl (.tmp 61) (.tmp 63) 26 rfl wr.heap.size 3 i3 _ 1 8 Try.underlying26 (unhide HI3) (unhide HZZ3) (unhide HSS3) (unhide HBB3) rfl (by decide) wr.heap.size rfl (own_empty wr) G X.gens.length gcap (cellsOfInts X.gens) rfl ((unhide HX).below ((unhide HC).sb.bel.trans ((bel1 wr (.cells #[] 3)).mono (unhide HC).sb.bel.size))).gens.copies (by unfold maxLen; omega) (by omega) (by simp) ?_; intro v8 w8 q8 hg8; obtain ⟨g9, c9, rfl, _, _⟩ := own_pos q8 (show 0 < X.gens.length by omega); have hG8 := GB.start (unhide HC) (gens := X.gens) hg8 q8; have i0 := hG8.xb.i0; have i1 := hG8.xb.i1; have HG9 := hide hG8; clear q8 hg8 hG8 r1 lr)
        | (refine wpList_put1 rfl 3 (.tmp 78) (.tmp 77) rfl g9 k (.int .i64 ng) rfl rfl rfl size3 ((unhide HG9).thereG rfl k (unhide HKB)) ?_; intro W5 hW5; have hG10 := (unhide HG9).setG rfl k (unhide HKB) ng; rw [← hW5] at hG10; obtain ⟨p0, p1, p2, p3, p4, p5, p6, p7, p8, p9, p10⟩ := rowAt0 hG10.xb.row; have r0 := hG10.xb.sb.r0; have r1 := hG10.xb.sb.r1; have HG10 := hide hG10; clear hW5 hG10 HG9 i0 i1)
        | (go_at_call 86; refine (unhide HWI _ ((unhide HX).below (unhide HG10).xb.sb.bel)).mono ?_; rintro e w15 ⟨A5, c5, rfl, ho5, hb15⟩; have hG15 := (unhide HG10).below hb15; have HZ16 := hide (hG15.out (c0 := .slice A5 rows'.length c5) (c1 := .slice G X.gens.length gcap) (own_kept (own_le ho5 (unhide HG10).hs) (Below.refl _ _))); clear ho5 hb15 hG15 r0 r1 p0 p1 p2 p3 p4 p5 p6 p7 p8 p9 p10 HG10)
        | (refine wpList_put1 rfl 26 (.tmp 83) (.tmp 82) rfl w15.heap.size 1 (.slice (some ⟨g9, 0, none⟩) X.gens.length c9) rfl rfl rfl size26 ((unhide HZ16).there12 1 (by decide)) ?_; intro W8 hW8; have hZ5 := (unhide HZ16).set1 (.slice (some ⟨g9, 0, none⟩) X.gens.length c9); rw [← hW8] at hZ5; have HZ5 := hide hZ5; clear hW8 hZ5 HZ16))
      try go_frame
      refine wp_region_puts [0, 1, 4] [2, 3] (fun L W => ∃ y0 y1 z0 z1, SB w (.slice A X.rows.length cap) (.slice G X.gens.length gcap) y0 y1 z0 z1 W ∧ (L 2 = true → y0 = .slice A5 rows'.length c5 ∧ y1 = (.slice (some ⟨g9, 0, none⟩) X.gens.length c9)) ∧ (L 3 = true → z0 = .int .i64 (k : Int) ∧ z1 = .int .i64 ng) ∧ FE w w6.heap.size w15.heap.size wr.heap.size (k : Int) ng (.slice A5 rows'.length c5) (.slice (some ⟨g9, 0, none⟩) X.gens.length c9) rows' (X.gens.set k ng) W)
        (by kernel_rfl) (by kernel_rfl) (by kernel_rfl) (by kernel_rfl) (by kernel_rfl) (by kernel_rfl) (by kernel_rfl) ?_ ?_ ?_ ?_
      · rintro L w1 x ⟨y0, y1, z0, z1, h1, h2, h3, h4⟩
        exact ⟨y0, y1, z0, z1, h1.below x.bel, h2, h3, h4.below x.bel⟩
      · rintro L L' w1 he ⟨y0, y1, z0, z1, h1, h2, h3, h4⟩
        exact ⟨y0, y1, z0, z1, h1, by rw [he 2 (by simp)]; exact h2, by rw [he 3 (by simp)]; exact h3, h4⟩
      · exact ⟨_, _, _, _, (unhide HZ5).sb, fun h => (by cases h), fun h => (by cases h), (unhide HZ5).fin (c0 := .int .i64 0) (c1 := .int .i64 0) (unhide HZ6)⟩
      · apply Exists.intro
        refine ⟨?hq, ?hl, ?hend⟩
        case hq =>
          rintro l L w1 hl ⟨y0, y1, z0, z1, h1, h2, h3, h4⟩
          simp only [pickL, List.getElem?_cons_zero, List.getElem?_cons_succ, Option.toList_some, List.cons_append, List.nil_append] at hl
          subst hl
          have hne : Nonempty (Sub w1) := ⟨⟨w1, Below.refl _ _⟩⟩
          have q0 := sub_cell h4.o0
          have q1 := sub_cell h4.o1
          have q2 := sub_cell h4.i0
          have q3 := sub_cell h4.i1
          clear h1 h2 h3 h4
          repeat (go_big_quiet_step (fail))
          exact wpQuiet_nil rfl
        case hl =>
          rintro i o hi ho L w1 ⟨y0, y1, z0, z1, h1, h2, h3, h4⟩ hL
          simp only [List.mem_cons, List.not_mem_nil, or_false] at hi
          rcases hi with rfl | rfl
          · simp only [List.getElem?_cons_zero, List.getElem?_cons_succ, Option.some.injEq] at ho
            subst ho
            refine wpList_putN rfl 38 (.tmp 6) (.tmp 84) rfl (w.heap.size + 1) 0 [.slice A5 rows'.length c5, (.slice (some ⟨g9, 0, none⟩) X.gens.length c9)] rfl rfl (by simp [Value.oneCell']) size38 h1.thereA ?_
            intro W3 hW3
            unfold wpList
            exact ⟨rfl, rfl, _, _, z0, z1, by rw [hW3]; exact h1.giveA _ _, fun _ => ⟨rfl, rfl⟩, fun h => h3 h, by rw [hW3]; exact h4.sets (by omega)⟩
          · simp only [List.getElem?_cons_zero, List.getElem?_cons_succ, Option.some.injEq] at ho
            subst ho
            refine wpList_putN rfl 40 (.tmp 7) (.tmp 85) rfl (w.heap.size + 2) 0 [.int .i64 (k : Int), .int .i64 ng] rfl rfl (by simp [Value.oneCell']) size40 h1.thereB ?_
            intro W3 hW3
            unfold wpList
            exact ⟨rfl, rfl, y0, y1, _, _, by rw [hW3]; exact h1.giveB _ _, fun h => h2 h, fun _ => ⟨rfl, rfl⟩, by rw [hW3]; exact h4.sets (by omega)⟩
        case hend =>
          rintro L w1 ⟨y0, y1, z0, z1, h1, h2, h3, h4⟩ hall
          obtain ⟨rfl, rfl⟩ := h2 (hall 2 (by simp))
          obtain ⟨rfl, rfl⟩ := h3 (hall 3 (by simp))
          have HS8 := hide h1
          have HE := hide h4
          clear h1 h2 h3 h4 hall
          go_wp2
          have t0 := (unhide HS8).t0
          have t1 := (unhide HS8).t1
          have s0 := (unhide HS8).s0
          have s1 := (unhide HS8).s1
          have h8 : w1.ownsRow wr.heap.size 3 1 (.slice (some ⟨g9, 0, none⟩) (X.gens.set k ng).length c9) (X.gens.set k ng).length (cellsOfInts (X.gens.set k ng)) := by have := (unhide HE).p8; rw [show (X.gens.set k ng).length = X.gens.length by simp] at this ⊢; exact this
          refine bodyPost_ret (v := .tuple #[.agg #[.slice A5 rows'.length c5, (.slice (some ⟨g9, 0, none⟩) X.gens.length c9)], .agg #[.int .i64 (k : Int), .int .i64 ng], .int .i64 0]) (by simp [results, Try.results41, go_sem, t0, t1, s0, s1]) rfl ⟨A5, c5, some ⟨g9, 0, none⟩, c9, ?_, ⟨⟨own_rows (unhide HE).p5, own_ints h8⟩, own_fresh (unhide HE).p5 (by have := (unhide HE).hB; omega), .inr (own_fresh h8 (by have := (unhide HE).hB; omega))⟩, (unhide HS8).bel⟩
          rw [show (X.gens.set k ng).length = X.gens.length by simp]
end Go.Proofs.Ytnbleebilmghcaa
