/- The law BatchSame. -/
import Derived.Test.YtnbleebilmghcabGreatZBsOwn
set_option linter.all false
namespace Go.Proofs.YtnbleebilmghcabGreat
open Go Go.RowKit
attribute [local go_sem ↓] Go.wp_at_zero Go.wp_at_succ
set_option maxRecDepth 8000 in
set_option maxHeartbeats 2000000 in
theorem bsame_w (A : Option Addr) (cap : Nat) (G : Option Addr) (gcap : Nat) (X : Wd) (L : Option Addr) (n lcap : Nat) (S : Nat → SysI) (t : Bool) (w : World) (hn0 : X.rows.length ≤ 9223372036854775807) (hX : WldAt w A cap G gcap X) (hL : SyssAt w L n S) (hw0 : (wrongW X).1 ≠ 0) :
    Calls Tryz.prog 4 #[wldV A cap G gcap X, .slice L n lcap, .bool t] w fun e w' => e = .returned (.bool true) ∧ Below w.heap.size w w' := by
  have hOF := fun W (hb : Below w.heap.size w W) => of_wrong A cap G gcap X W hn0 (hX.below hb) hw0
  unfold wldV worldV stV at hOF
  obtain ⟨we, hwe⟩ : ∃ we, we = (wrongW X).1 := ⟨_, rfl⟩
  generalize (wrongW X).2 = wa at *
  rw [← hwe] at hOF hw0
  clear hwe
  have hne : (we == 0) = false := by simpa using hw0
  have hne2 : (we != 0) = true := by simpa using hw0
  have HOF := hide hOF
  have HMK := hide (fun W (hb : Below w.heap.size w W) => make_any L n lcap S W (hL.below hb))
  clear hOF hw0 hL
  have HX := hide hX
  clear hX
  have hX0 := Bxs.start w [([.slice A X.rows.length cap, .slice G X.gens.length gcap], 43)]
  have hb0 := allocs_below [([.slice A X.rows.length cap, .slice G X.gens.length gcap], 43)] w
  obtain ⟨W0, hW0⟩ : ∃ W0, W0 = allocs w [([.slice A X.rows.length cap, .slice G X.gens.length gcap], 43)] := ⟨_, rfl⟩
  rw [← hW0] at hX0 hb0
  have hW0' : w.alloc (.cells #[.slice A X.rows.length cap, .slice G X.gens.length gcap] 43) = W0 := hW0.symm
  have HW0 := hide hW0'
  have HB0 := hide hX0
  have HL0 := hide hb0
  clear hW0 hW0' hX0 hb0
  unfold wldV worldV
  go_enter Tryz.func4, Tryz.ntmps4
  go_wp2_with fail
  go_at_call 12
  rw [unhide HW0]
  refine (alive6_any W0).mono ?_
  rintro e w1 ⟨rfl, hb1⟩
  have hB1 := (unhide HB0).below hb1
  have hL1 := (unhide HL0).trans (hb1.mono (unhide HL0).size)
  have c0 := hB1.cell 0 rfl 0 rfl
  have c1 := hB1.cell 0 rfl 1 rfl
  rw [Nat.add_zero] at c0 c1
  have HL1 := hide hL1
  clear hB1 hL1 hb1 HW0 HB0 HL0
  go_wp2_with fail
  go_at_call 13
  refine (unhide HOF _ (unhide HL1)).mono ?_
  rintro e w2 ⟨rfl, hb2⟩
  have hbx := allocs_below [([.slice none 0 0, .slice none 0 0], 25), ([.int .i64 we, .int .i64 wa], 29)] w2
  have hX3 := Bxs.start w2 [([.slice none 0 0, .slice none 0 0], 25), ([.int .i64 we, .int .i64 wa], 29)]
  obtain ⟨W3, hW3⟩ : ∃ W3, W3 = allocs w2 [([.slice none 0 0, .slice none 0 0], 25), ([.int .i64 we, .int .i64 wa], 29)] := ⟨_, rfl⟩
  rw [← hW3] at hbx hX3
  have hW3' : (w2.alloc (.cells #[.slice none 0 0, .slice none 0 0] 25)).alloc (.cells #[.int .i64 we, .int .i64 wa] 29) = W3 := hW3.symm
  have HW3 := hide hW3'
  clear hW3 hW3'
  have hL2 := (unhide HL1).trans (hb2.mono (unhide HL1).size)
  have HL3 := hide (hL2.trans (hbx.mono hL2.size))
  have HC3 := hide hX3
  clear c0 c1 hbx hb2 hL2 hX3 HL1 HOF
  go_upto_region 4 with fail
  rw [unhide HW3]
  go_wp2_with fail
  go_at_call 14
  refine (unhide HMK _ (unhide HL3)).mono ?_
  rintro e w4 ⟨v4, m0, m1, rfl, hb4⟩
  have hbx := allocs_below [([.int .i64 m0, .int .i64 m1], 29)] w4
  have hX5 := Bxs.start w4 [([.int .i64 m0, .int .i64 m1], 29)]
  obtain ⟨W5, hW5⟩ : ∃ W5, W5 = allocs w4 [([.int .i64 m0, .int .i64 m1], 29)] := ⟨_, rfl⟩
  rw [← hW5] at hbx hX5
  have hW5' : w4.alloc (.cells #[.int .i64 m0, .int .i64 m1] 29) = W5 := hW5.symm
  have HW5 := hide hW5'
  clear hW5 hW5'
  have hb45 := hb4.trans (hbx.mono hb4.size)
  have HL5 := hide ((unhide HL3).trans (hb45.mono (unhide HL3).size))
  have f0 := ((unhide HC3).below hb45).cell 1 rfl 0 rfl
  clear hb4 hbx hb45 hX5
  go_upto_region 5 with fail
  rw [unhide HW5]
  go_wp2
  go_ret
  exact ⟨rfl, unhide HL5⟩
set_option maxRecDepth 8000 in
set_option maxHeartbeats 2000000 in
theorem bsame_s (A : Option Addr) (cap : Nat) (G : Option Addr) (gcap : Nat) (X : Wd) (L : Option Addr) (n lcap : Nat) (S : Nat → SysI) (t : Bool) (w : World) (hX : WldAt w A cap G gcap X) (hr : RightW X) (hL : SyssAt w L n S) (hw : (bwF S n).1 ≠ 0) :
    Calls Tryz.prog 4 #[wldV A cap G gcap X, .slice L n lcap, .bool t] w fun e w' => e = .returned (.bool true) ∧ Below w.heap.size w w' := by
  obtain ⟨hl, hgl, _⟩ := right_hr ((right_iff X).2 hr)
  have hOF := fun W (hb : Below w.heap.size w W) => of_right A cap G gcap X W (hX.below hb) hr
  unfold wldV worldV stV at hOF
  have HOF := hide hOF
  have HRX := hide hr
  clear hOF hr
  have hMK := fun W (hb : Below w.heap.size w W) => make_wrong L n lcap S W (hL.below hb) hw
  unfold faultV at hMK
  obtain ⟨we, hwe⟩ : ∃ we, we = (bwF S n).1 := ⟨_, rfl⟩
  generalize (bwF S n).2 = wa at *
  rw [← hwe] at hMK hw
  clear hwe
  have hne : (we == 0) = false := by simpa using hw
  have hne2 : (we != 0) = true := by simpa using hw
  have HMK := hide hMK
  clear hMK hw hL
  have HX := hide hX
  clear hX
  have hX0 := Bxs.start w [([.slice A X.rows.length cap, .slice G X.gens.length gcap], 43)]
  have hb0 := allocs_below [([.slice A X.rows.length cap, .slice G X.gens.length gcap], 43)] w
  obtain ⟨W0, hW0⟩ : ∃ W0, W0 = allocs w [([.slice A X.rows.length cap, .slice G X.gens.length gcap], 43)] := ⟨_, rfl⟩
  rw [← hW0] at hX0 hb0
  have hW0' : w.alloc (.cells #[.slice A X.rows.length cap, .slice G X.gens.length gcap] 43) = W0 := hW0.symm
  have HW0 := hide hW0'
  have HB0 := hide hX0
  have HL0 := hide hb0
  clear hW0 hW0' hX0 hb0
  unfold wldV worldV
  go_enter Tryz.func4, Tryz.ntmps4
  go_wp2_with fail
  go_at_call 12
  rw [unhide HW0]
  refine (alive6_any W0).mono ?_
  rintro e w1 ⟨rfl, hb1⟩
  have hB1 := (unhide HB0).below hb1
  have hL1 := (unhide HL0).trans (hb1.mono (unhide HL0).size)
  have c0 := hB1.cell 0 rfl 0 rfl
  have c1 := hB1.cell 0 rfl 1 rfl
  rw [Nat.add_zero] at c0 c1
  have HL1 := hide hL1
  clear hB1 hL1 hb1 HW0 HB0 HL0
  go_wp2_with fail
  go_at_call 13
  refine (unhide HOF _ (unhide HL1)).mono ?_
  rintro e w2 ⟨T2, tc2, G2, gc2, rfl, hN2, hb2⟩
  have hbx := allocs_below [([.slice T2 (tabsW X).length tc2, .slice G2 X.gens.length gc2], 25), ([.int .i64 0, .int .i64 0], 29)] w2
  have hX3 := Bxs.start w2 [([.slice T2 (tabsW X).length tc2, .slice G2 X.gens.length gc2], 25), ([.int .i64 0, .int .i64 0], 29)]
  obtain ⟨W3, hW3⟩ : ∃ W3, W3 = allocs w2 [([.slice T2 (tabsW X).length tc2, .slice G2 X.gens.length gc2], 25), ([.int .i64 0, .int .i64 0], 29)] := ⟨_, rfl⟩
  rw [← hW3] at hbx hX3
  have hW3' : (w2.alloc (.cells #[.slice T2 (tabsW X).length tc2, .slice G2 X.gens.length gc2] 25)).alloc (.cells #[.int .i64 0, .int .i64 0] 29) = W3 := hW3.symm
  have HW3 := hide hW3'
  clear hW3 hW3'
  have hL2 := (unhide HL1).trans (hb2.mono (unhide HL1).size)
  have HL3 := hide (hL2.trans (hbx.mono hL2.size))
  have HC3 := hide hX3
  clear c0 c1 hbx hb2 hL2 hX3 HL1 HOF
  go_upto_region 4 with fail
  rw [unhide HW3]
  go_wp2_with fail
  go_at_call 14
  refine (unhide HMK _ (unhide HL3)).mono ?_
  rintro e w4 ⟨rfl, hb4⟩
  have hbx := allocs_below [([.int .i64 we, .int .i64 wa], 29)] w4
  have hX5 := Bxs.start w4 [([.int .i64 we, .int .i64 wa], 29)]
  obtain ⟨W5, hW5⟩ : ∃ W5, W5 = allocs w4 [([.int .i64 we, .int .i64 wa], 29)] := ⟨_, rfl⟩
  rw [← hW5] at hbx hX5
  have hW5' : w4.alloc (.cells #[.int .i64 we, .int .i64 wa] 29) = W5 := hW5.symm
  have HW5 := hide hW5'
  clear hW5 hW5'
  have hb45 := hb4.trans (hbx.mono hb4.size)
  have HL5 := hide ((unhide HL3).trans (hb45.mono (unhide HL3).size))
  have f0 := ((unhide HC3).below hb45).cell 1 rfl 0 rfl
  have g0 := hX5.cell 0 rfl 0 rfl
  rw [Nat.add_zero] at g0
  clear hb4 hbx hb45 hX5
  go_upto_region 5 with fail
  rw [unhide HW5]
  go_wp2
  go_ret
  exact ⟨rfl, unhide HL5⟩
set_option maxRecDepth 8000 in
set_option maxHeartbeats 2000000 in
theorem bsame_main (A : Option Addr) (cap : Nat) (G : Option Addr) (gcap : Nat) (X : Wd) (L : Option Addr) (n lcap : Nat) (S : Nat → SysI) (t : Bool) (w : World) (hX : WldAt w A cap G gcap X) (hr : RightW X) (hL : SyssAt w L n S) (hw : (bwF S n).1 = 0) :
    Calls Tryz.prog 4 #[wldV A cap G gcap X, .slice L n lcap, .bool t] w fun e w' => e = .returned (.bool true) ∧ Below w.heap.size w w' := by
  obtain ⟨hn, hsw, _⟩ := bw_right S n hw
  obtain ⟨hq1, hq2⟩ := batch_order hr hsw t
  have hMK := fun W (hb : Below w.heap.size w W) => make_right L n lcap S W (hL.below hb) hw
  have hAL := fun T tc G gc W (h : StAt W T G (tabsW X) X) (hb : Below w.heap.size w W) => all_any T tc G gc (tabsW X) X L n lcap S W h (by omega) (hL.below hb)
  have hAM := fun T tc G gc A c W (h : StAt W T G (tabsW X) X) (hS : SyssAt W A n (fun k => S ((flatR t (mkB (clS S) n)).getD k 0))) => all_any T tc G gc (tabsW X) X A n c (fun k => S ((flatR t (mkB (clS S) n)).getD k 0)) W h (by omega) hS
  unfold faultV at hMK
  unfold stV at hAL hAM
  rw [hq1, hq2] at hAM
  generalize (allTo (fun k => S ((flatR t (mkB (clS S) n)).getD k 0)) n 0 X).1.2 = at2 at *
  obtain ⟨e1, he1⟩ : ∃ e1, e1 = (allTo S n 0 X).1.1 := ⟨_, rfl⟩
  obtain ⟨Z, hZ⟩ : ∃ Z, Z = (allTo S n 0 X).2 := ⟨_, rfl⟩
  generalize (allTo S n 0 X).1.2 = at1 at *
  rw [← he1, ← hZ] at hAL hAM
  have hblen := mkB_len (clS S) n
  have HLENS := hide (fun k hk => mkB_lens (clS S) n k hk)
  have HLT := hide (flatR_lt (t := t) (cl := clS S) (n := n))
  have HFL := hide (flatR_len (t := t) (cl := clS S) (n := n))
  generalize mkB (clS S) n = bs at *
  have HTL := hide (flatR_take_le t bs)
  have HMEM : Hid (∀ k, k < bs.length → ∀ x ∈ bs.getD k [], x < n) := hide (fun k hk x hx => unhide HLT x ((flatR_perm t bs).mem_iff.2 (List.mem_flatten.2 ⟨bs.getD k [], by rw [List.getD_eq_getElem?_getD, List.getElem?_eq_getElem hk]; exact List.getElem_mem hk, hx⟩)))
  obtain ⟨i37, hi37, hz37, hs37, hb37⟩ := info_parts infoS
  have HI := hide hi37
  have HZ := hide hz37
  have HS := hide hs37
  have HBB := hide hb37
  have HMK := hide hMK
  have HAL := hide hAL
  have HAM := hide hAM
  have HSL := hide hL
  clear hMK hAL hAM hL hw hsw hq1 hq2 he1 hZ hi37 hz37 hs37 hb37
  obtain ⟨hl, hgl, _⟩ := right_hr ((right_iff X).2 hr)
  have hOF := fun W (hb : Below w.heap.size w W) => of_right A cap G gcap X W (hX.below hb) hr
  unfold wldV worldV stV at hOF
  have HOF := hide hOF
  have HRX := hide hr
  clear hOF hr
  have HX := hide hX
  clear hX
  have hX0 := Bxs.start w [([.slice A X.rows.length cap, .slice G X.gens.length gcap], 43)]
  have hb0 := allocs_below [([.slice A X.rows.length cap, .slice G X.gens.length gcap], 43)] w
  obtain ⟨W0, hW0⟩ : ∃ W0, W0 = allocs w [([.slice A X.rows.length cap, .slice G X.gens.length gcap], 43)] := ⟨_, rfl⟩
  rw [← hW0] at hX0 hb0
  have hW0' : w.alloc (.cells #[.slice A X.rows.length cap, .slice G X.gens.length gcap] 43) = W0 := hW0.symm
  have HW0 := hide hW0'
  have HB0 := hide hX0
  have HL0 := hide hb0
  clear hW0 hW0' hX0 hb0
  unfold wldV worldV
  go_enter Tryz.func4, Tryz.ntmps4
  go_wp2_with fail
  go_at_call 12
  rw [unhide HW0]
  refine (alive6_any W0).mono ?_
  rintro e w1 ⟨rfl, hb1⟩
  have hB1 := (unhide HB0).below hb1
  have hL1 := (unhide HL0).trans (hb1.mono (unhide HL0).size)
  have c0 := hB1.cell 0 rfl 0 rfl
  have c1 := hB1.cell 0 rfl 1 rfl
  rw [Nat.add_zero] at c0 c1
  have HL1 := hide hL1
  clear hB1 hL1 hb1 HW0 HB0 HL0
  go_wp2_with fail
  go_at_call 13
  refine (unhide HOF _ (unhide HL1)).mono ?_
  rintro e w2 ⟨T2, tc2, G2, gc2, rfl, hN2, hb2⟩
  have hbx := allocs_below [([.slice T2 (tabsW X).length tc2, .slice G2 X.gens.length gc2], 25), ([.int .i64 0, .int .i64 0], 29)] w2
  have hX3 := Bxs.start w2 [([.slice T2 (tabsW X).length tc2, .slice G2 X.gens.length gc2], 25), ([.int .i64 0, .int .i64 0], 29)]
  obtain ⟨W3, hW3⟩ : ∃ W3, W3 = allocs w2 [([.slice T2 (tabsW X).length tc2, .slice G2 X.gens.length gc2], 25), ([.int .i64 0, .int .i64 0], 29)] := ⟨_, rfl⟩
  rw [← hW3] at hbx hX3
  have hW3' : (w2.alloc (.cells #[.slice T2 (tabsW X).length tc2, .slice G2 X.gens.length gc2] 25)).alloc (.cells #[.int .i64 0, .int .i64 0] 29) = W3 := hW3.symm
  have HW3 := hide hW3'
  clear hW3 hW3'
  have hL2 := (unhide HL1).trans (hb2.mono (unhide HL1).size)
  have HL3 := hide (hL2.trans (hbx.mono hL2.size))
  have HC3 := hide hX3
  have HT3 := hide (hN2.below hbx).st
  clear hN2
  clear c0 c1 hbx hb2 hL2 hX3 HL1 HOF
  go_upto_region 4 with fail
  rw [unhide HW3]
  go_wp2_with fail
  go_at_call 14
  refine (unhide HMK _ (unhide HL3)).mono ?_
  rintro e w4 ⟨B, bcap, rfl, hB, hb4⟩
  have hbx := allocs_below [([.int .i64 0, .int .i64 0], 29)] w4
  have hX5 := Bxs.start w4 [([.int .i64 0, .int .i64 0], 29)]
  obtain ⟨W5, hW5⟩ : ∃ W5, W5 = allocs w4 [([.int .i64 0, .int .i64 0], 29)] := ⟨_, rfl⟩
  rw [← hW5] at hbx hX5
  have hW5' : w4.alloc (.cells #[.int .i64 0, .int .i64 0] 29) = W5 := hW5.symm
  have HW5 := hide hW5'
  clear hW5 hW5'
  have hb45 := hb4.trans (hbx.mono hb4.size)
  have HL5 := hide ((unhide HL3).trans (hb45.mono (unhide HL3).size))
  have HC5 := hide ((unhide HC3).below hb45)
  have HT5 := hide ((unhide HT3).below hb45)
  have HBS := hide (hB.below hbx)
  have f0 := (unhide HC5).cell 1 rfl 0 rfl
  have g0 := hX5.cell 0 rfl 0 rfl
  rw [Nat.add_zero] at g0
  clear hb4 hbx hb45 hX5 hB HC3 HT3 HL3 HMK
  go_upto_region 5 with fail
  rw [unhide HW5]
  go_wp2
  clear f0 g0 HW5
  go_loopw [11, 41] (fun v x wr => ∃ k : Nat, k ≤ bs.length ∧ x = .int .i64 (k : Int) ∧ wr.ownsRow W5.heap.size 37 4 v (flatR t (bs.take k)).length (sysCellsL ((flatR t (bs.take k)).map S)) ∧ Below W5.heap.size W5 wr) (fun _ x _ => bs.length - (intOf x).toNat)
  case atStart => exact ⟨0, Nat.zero_le _, rfl, World.ownsRow_nil _ _ _ _, Below.refl _ _⟩
  case round =>
    obtain ⟨k, hk, rfl, ho, hbr⟩ := hrel
    by_cases hlt : k < bs.length
    · have k0 : (0 : Int) ≤ (k : Int) := by omega
      have k1 : (k : Int) < (bs.length : Int) := by omega
      obtain ⟨b, off, A3, c3, rfl, hc, hnums⟩ := unhide HBS k hlt
      have hc := keep_below hbr hc
      have HN := hide hnums
      have hl12 := unhide HLENS k hlt
      have HMK2 := hide (unhide HMEM k hlt)
      have HFS := hide (flatR_succ t bs k hlt)
      have HTK := hide (unhide HTL (k + 1))
      have HO := hide ho
      have HBR := hide hbr
      clear hnums ho hbr
      generalize bs.getD k [] = l at *
      generalize flatR t (bs.take k) = q at *
      go_wp2
      go_loopw [11, 47] (fun v x wr => ∃ j : Nat, j ≤ l.length ∧ x = .int .i64 (j : Int) ∧ wr.ownsRow W5.heap.size 37 4 v (q ++ (turned t l).take j).length (sysCellsL ((q ++ (turned t l).take j).map S)) ∧ Below W5.heap.size W5 wr) (fun _ x _ => l.length - (intOf x).toNat)
      case atStart => exact ⟨0, Nat.zero_le _, rfl, by simpa using unhide HO, unhide HBR⟩
      case round =>
        clear HO HBR hc
        obtain ⟨j, hj, rfl, ho, hbr⟩ := hrel
        by_cases hltj : j < l.length
        · have j0 : (0 : Int) ≤ (j : Int) := by omega
          have j1 : (j : Int) < (l.length : Int) := by omega
          have hql : (q ++ (turned t l).take j).length ≤ 12 := by
            have h1 := unhide HTK
            rw [unhide HFS, unhide HFL, List.length_append, turned_len] at h1
            rw [List.length_append, List.length_take]; omega
          have HNX : Hid ((q ++ (turned t l).take (j + 1)).map S = (q ++ (turned t l).take j).map S ++ [S ((turned t l).getD j 0)]) := by
            rw [take_one _ j (by rw [turned_len]; exact hltj)]; exact hide (by simp)
          have HNL : Hid ((q ++ (turned t l).take (j + 1)).length = (q ++ (turned t l).take j).length + 1) := by
            rw [take_one _ j (by rw [turned_len]; exact hltj)]; exact hide (by simp; omega)
          have hget := turned_get t l j hltj
          generalize (q ++ (turned t l).take j).map S = xs at *
          generalize (q ++ (turned t l).take j).length = m at *
          generalize (turned t l).getD j 0 = x at *
          obtain ⟨ip, hip⟩ : ∃ ip : Nat, ip = if t then l.length - 1 - j else j := ⟨_, rfl⟩
          rw [← hip] at hget
          have hipl : ip < l.length := by rw [hip]; cases t <;> simp <;> omega
          obtain ⟨b2, off2, rfl, hc2⟩ := (unhide HN) ip hipl
          have hc2 := keep_below hbr hc2
          rw [← hget] at hc2
          have hx : x < n := by rw [hget]; exact unhide HMK2 _ (getD_mem l ip hipl)
          have x0 : (0 : Int) ≤ (x : Int) := by omega
          have x1 : (x : Int) < (n : Int) := by omega
          obtain ⟨b4, o4, rfl, hsys⟩ := ((unhide HSL).below ((unhide HL5).trans (hbr.mono (unhide HL5).size))) x hx
          obtain ⟨y0, y1, y2, y3, hact⟩ := hsys
          generalize S x = s at *
          have HNS := hide (sysAt_new wr s)
          have HO := hide ho
          have HBR := hide hbr
          have HHP := hide hip
          clear ho hbr hip hget hact
          cases t
          · have hip : j = ip := (unhide HHP).symm
            subst hip
            have HNX2 := hide (show sysCellsL (xs ++ [s]) = sysCellsL xs ++ sysCells s from sysCellsL_snoc xs s)
            go_wp2_with (first
              | (at_builtin; refine wpList_append1 _ rfl (.tmp 56) (.tmp 64) 26 rfl W5.heap.size 37 i37 _ 4 48 Tryz.underlying26 (unhide HI) (unhide HZ) (unhide HS) (unhide HBB) rfl (by decide) _ m (sysCellsL xs) rfl ((unhide HO).alloc _) ⟨_, 0, none⟩ 1 1 (sysCells s) rfl rfl (unhide HNS) (sysCells_one s) (by unfold maxLen; omega) (by omega) (Nat.le_trans (unhide HBR).size (bel1 _ _).size) (by omega) ?_; intro g capg w17 ho7 hg7 hw7; have HO7 := hide ho7; have HB7 := hide (((unhide HBR).alloc (unhide HBR).size _).grown hg7 (Nat.le_trans (unhide HBR).size (bel1 _ _).size) (fun q hq => ((unhide HO).lt q hq).1)); clear ho7 hg7 hw7))
            go_roundw
            case rel => exact ⟨j + 1, by omega, by go_num, by rw [unhide HNX, unhide HNL, unhide HNX2]; exact unhide HO7, unhide HB7⟩
            case measure => simp [intOf]; omega
          · have hip : ip = l.length - 1 - j := unhide HHP
            have ei : (l.length : Int) - 1 - (j : Int) = (ip : Int) := by omega
            have ew1 : IntKind.i64.wrap ((l.length : Int) - 1) = (l.length : Int) - 1 := i64_id (by omega) (by omega)
            have ew2 : IntKind.i64.wrap ((l.length : Int) - 1 - (j : Int)) = (ip : Int) := by rw [ei]; exact i64_id (by omega) (by omega)
            have i0 : (0 : Int) ≤ (ip : Int) := by omega
            have i1 : (ip : Int) < (l.length : Int) := by omega
            clear hip ei
            have HNX2 := hide (show sysCellsL (xs ++ [s]) = sysCellsL xs ++ sysCells s from sysCellsL_snoc xs s)
            go_wp2_with (first
              | (at_builtin; refine wpList_append1 _ rfl (.tmp 56) (.tmp 64) 26 rfl W5.heap.size 37 i37 _ 4 48 Tryz.underlying26 (unhide HI) (unhide HZ) (unhide HS) (unhide HBB) rfl (by decide) _ m (sysCellsL xs) rfl ((unhide HO).alloc _) ⟨_, 0, none⟩ 1 1 (sysCells s) rfl rfl (unhide HNS) (sysCells_one s) (by unfold maxLen; omega) (by omega) (Nat.le_trans (unhide HBR).size (bel1 _ _).size) (by omega) ?_; intro g capg w17 ho7 hg7 hw7; have HO7 := hide ho7; have HB7 := hide (((unhide HBR).alloc (unhide HBR).size _).grown hg7 (Nat.le_trans (unhide HBR).size (bel1 _ _).size) (fun q hq => ((unhide HO).lt q hq).1)); clear ho7 hg7 hw7))
            go_roundw
            case rel => exact ⟨j + 1, by omega, by go_num, by rw [unhide HNX, unhide HNL, unhide HNX2]; exact unhide HO7, unhide HB7⟩
            case measure => simp [intOf]; omega
        · obtain rfl : j = l.length := by omega
          have HO := hide ho
          have HBR := hide hbr
          clear ho hbr
          go_wp2
          go_roundw
          case rel => exact ⟨k + 1, by omega, by go_num, by rw [unhide HFS]; simpa [List.take_of_length_le (Nat.le_of_eq (turned_len t l))] using unhide HO, unhide HBR⟩
          case measure => simp [intOf]; omega
    · obtain rfl : k = bs.length := by omega
      rw [List.take_length] at ho
      have hfl := unhide HFL
      have hlen : ((flatR t bs).map S).length = n := by rw [List.length_map, hfl]
      rw [hfl] at ho
      obtain ⟨A6, c6, rfl⟩ := own_one ho
      have hSM : SyssAt wr A6 n (fun k => S ((flatR t bs).getD k 0)) := by
        have := syss_own (l := (flatR t bs).map S) (A := A6) (c := c6) (by rw [hlen]; exact ho) (fun s hs => by
          obtain ⟨x, hx, rfl⟩ := List.mem_map.1 hs
          obtain ⟨_, _, _, h⟩ := unhide HSL x (unhide HLT x hx)
          exact h.acts.below ((unhide HL5).trans (hbr.mono (unhide HL5).size))) (S 0)
        rw [hlen] at this
        intro j hj
        have := this j hj
        have e : ((flatR t bs).map S).getD j (S 0) = S ((flatR t bs).getD j 0) := by
          have h1 : j < (flatR t bs).length := by omega
          rw [List.getD_eq_getElem?_getD, List.getElem?_map, List.getD_eq_getElem?_getD, List.getElem?_eq_getElem h1]; rfl
        simp only [e] at this
        exact this
      have hL6 := (unhide HL5).trans (hbr.mono (unhide HL5).size)
      have hC6 := (unhide HC5).below hbr
      have HT6 := hide ((unhide HT5).below hbr)
      have HS6 := hide hSM
      have s0 := hC6.cell 0 rfl 0 rfl
      have s1 := hC6.cell 0 rfl 1 rfl
      rw [Nat.add_zero] at s0 s1
      have HL6 := hide hL6
      have HC6 := hide hC6
      clear ho hbr hSM hL6 hlen hfl hC6 HSL HBS
      go_wp2_with fail
      go_at_call 7
      refine (unhide HAL T2 tc2 G2 gc2 _ (unhide HT6) (unhide HL6)).mono ?_
      rintro e w7 ⟨T7, tc7, G7, gc7, rfl, hN7, hb7⟩
      have hbx := allocs_below [([.slice T7 (tabsW Z).length tc7, .slice G7 Z.gens.length gc7], 25), ([.int .i64 e1, .int .i64 at1], 29)] w7
      have hX8 := Bxs.start w7 [([.slice T7 (tabsW Z).length tc7, .slice G7 Z.gens.length gc7], 25), ([.int .i64 e1, .int .i64 at1], 29)]
      obtain ⟨W8, hW8⟩ : ∃ W8, W8 = allocs w7 [([.slice T7 (tabsW Z).length tc7, .slice G7 Z.gens.length gc7], 25), ([.int .i64 e1, .int .i64 at1], 29)] := ⟨_, rfl⟩
      rw [← hW8] at hbx hX8
      have hW8' : (w7.alloc (.cells #[.slice T7 (tabsW Z).length tc7, .slice G7 Z.gens.length gc7] 25)).alloc (.cells #[.int .i64 e1, .int .i64 at1] 29) = W8 := hW8.symm
      have HW8 := hide hW8'
      clear hW8 hW8'
      have hb78 := hb7.trans (hbx.mono hb7.size)
      have HL8 := hide ((unhide HL6).trans (hb78.mono (unhide HL6).size))
      have hC8 := (unhide HC6).below hb78
      have HT8 := hide ((unhide HT6).below hb78)
      have HS8 := hide ((unhide HS6).below hb78)
      have HU8 := hide (hN7.below hbx).st
      have HX8 := hide hX8
      clear s0 s1
      have s0 := hC8.cell 0 rfl 0 rfl
      have s1 := hC8.cell 0 rfl 1 rfl
      rw [Nat.add_zero] at s0 s1
      clear hC8 hb78 hN7 hb7 hbx hX8 HL6 HC6 HT6 HS6 HAL
      go_upto_region 20 with fail
      rw [unhide HW8]
      go_wp2_with fail
      go_at_call 7
      refine (unhide HAM T2 tc2 G2 gc2 _ _ _ (unhide HT8) (unhide HS8)).mono ?_
      rintro e w9 ⟨T9, tc9, G9, gc9, rfl, hN9, hb9⟩
      have hbx := allocs_below [([.slice T9 (tabsW Z).length tc9, .slice G9 Z.gens.length gc9], 25), ([.int .i64 e1, .int .i64 at2], 29)] w9
      have hX10 := Bxs.start w9 [([.slice T9 (tabsW Z).length tc9, .slice G9 Z.gens.length gc9], 25), ([.int .i64 e1, .int .i64 at2], 29)]
      obtain ⟨W10, hW10⟩ : ∃ W10, W10 = allocs w9 [([.slice T9 (tabsW Z).length tc9, .slice G9 Z.gens.length gc9], 25), ([.int .i64 e1, .int .i64 at2], 29)] := ⟨_, rfl⟩
      rw [← hW10] at hbx hX10
      have hW10' : (w9.alloc (.cells #[.slice T9 (tabsW Z).length tc9, .slice G9 Z.gens.length gc9] 25)).alloc (.cells #[.int .i64 e1, .int .i64 at2] 29) = W10 := hW10.symm
      have HW10 := hide hW10'
      clear hW10 hW10'
      have hb910 := hb9.trans (hbx.mono hb9.size)
      have HL10 := hide ((unhide HL8).trans (hb910.mono (unhide HL8).size))
      have hY10 := (unhide HX8).below hb910
      have hU := (unhide HU8).below hb910
      have hV := (hN9.below hbx).st
      obtain ⟨hzl, hzg, _⟩ := right_hr ((right_iff Z).2 hU.right)
      have hSS := samest_true T7 tc7 G7 gc7 T9 tc9 G9 gc9 (tabsW Z) Z.gens W10 hU.few (by omega) (fun t ht => (hU.each t ht).few) hU.tbs hU.gens hV.tbs hV.gens
      unfold stV at hSS
      have HSS := hide hSS
      have a0 := hY10.cell 0 rfl 0 rfl
      have a1 := hY10.cell 0 rfl 1 rfl
      have a2 := hY10.cell 1 rfl 0 rfl
      have b0 := hX10.cell 0 rfl 0 rfl
      have b1 := hX10.cell 0 rfl 1 rfl
      have b2 := hX10.cell 1 rfl 0 rfl
      rw [Nat.add_zero] at a0 a1 b0 b1
      clear s0 s1 hY10 hU hV hSS hX10 hbx hN9 hb9 hb910 HL8 HT8 HS8 HU8 HX8 HW8 HAM
      go_upto_region 21 with fail
      rw [unhide HW10]
      by_cases he : e1 = 0
      · subst he
        go_wp2_with (go_at_call 9; refine (unhide HSS).mono ?_; rintro e w11 ⟨rfl, hb11⟩; have HLE := hide ((unhide HL10).trans (hb11.mono (unhide HL10).size)); clear hb11)
        go_ret
        exact ⟨rfl, unhide HLE⟩
      · have hne : (e1 == 0) = false := by simpa using he
        have hne2 : (e1 != 0) = true := by simpa using he
        go_wp2
        go_ret
        exact ⟨rfl, unhide HL10⟩
theorem bsame_law (A : Option Addr) (cap : Nat) (G : Option Addr) (gcap : Nat) (X : Wd) (L : Option Addr) (n lcap : Nat) (S : Nat → SysI) (t : Bool) (w : World) (hn0 : X.rows.length ≤ 9223372036854775807) (hX : WldAt w A cap G gcap X) (hL : SyssAt w L n S) :
    Calls Tryz.prog 4 #[wldV A cap G gcap X, .slice L n lcap, .bool t] w fun e w' => e = .returned (.bool true) ∧ Below w.heap.size w w' := by
  by_cases h : (wrongW X).1 = 0
  · by_cases hw : (bwF S n).1 = 0
    · exact bsame_main A cap G gcap X L n lcap S t w hX ((right_iff X).1 h) hL hw
    · exact bsame_s A cap G gcap X L n lcap S t w hX ((right_iff X).1 h) hL hw
  · exact bsame_w A cap G gcap X L n lcap S t w hn0 hX hL h
end Go.Proofs.YtnbleebilmghcabGreat
