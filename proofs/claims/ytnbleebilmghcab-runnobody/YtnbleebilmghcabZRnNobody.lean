/- The law RunNobody. -/
import Derived.Test.YtnbleebilmghcabQY
import Derived.Test.YtnbleebilmghcabQX
import Derived.Test.YtnbleebilmghcabZRnSame
set_option linter.all false
namespace Go.Proofs.Ytnbleebilmghcab
open Go Go.RowKit
attribute [local go_sem ↓] Go.wp_at_zero Go.wp_at_succ
def inL (l : List (Int × Int)) (i g : Int) (q : Nat) : Bool := (l.take q).any fun b => b.1 == i && b.2 == g
theorem inL_zero (l : List (Int × Int)) (i g : Int) : inL l i g 0 = false := rfl
theorem inL_step (l : List (Int × Int)) (i g : Int) (q : Nat) (h : q < l.length) : inL l i g (q + 1) = (inL l i g q || ((l.getD q (0, 0)).1 == i && (l.getD q (0, 0)).2 == g)) := by
  unfold inL
  rw [List.take_add_one, List.getElem?_eq_getElem h, List.any_append]
  simp only [Option.toList, List.any_cons, List.any_nil, Bool.or_false, List.getD_eq_getElem?_getD, List.getElem?_eq_getElem h, Option.getD_some]
theorem inL_all (l : List (Int × Int)) (i g : Int) (h : inL l i g l.length = false) : (i, g) ∉ l := by
  unfold inL at h
  rw [List.take_length] at h
  intro hm
  have := (List.any_eq_false.1 h) _ hm
  simp at this
set_option maxRecDepth 8000 in
set_option maxHeartbeats 8000000 in
theorem nobody_wrong (A : Option Addr) (cap : Nat) (G : Option Addr) (gcap : Nat) (X : Wd) (s : SysI) (w : World) (hn0 : X.rows.length ≤ 9223372036854775807) (hX : WldAt w A cap G gcap X) (hA : ActsAt w s.A s.len s.a) (hw0 : (wrongW X).1 ≠ 0) :
    Calls Try.prog 8 #[wldV A cap G gcap X, sysI s] w fun e w' => e = .returned (.bool true) ∧ Below w.heap.size w w' := by
  have hOF := fun W (hb : Below w.heap.size w W) => of_wrong A cap G gcap X W hn0 (hX.below hb) hw0
  unfold wldV worldV stV at hOF
  obtain ⟨we, hwe⟩ : ∃ we, we = (wrongW X).1 := ⟨_, rfl⟩
  generalize (wrongW X).2 = wa at *
  rw [← hwe] at hOF hw0
  clear hwe
  have HOF := hide hOF
  clear hOF
  have hRU := fun W (hb : Below w.heap.size w W) => run_any none 0 none 0 (tabsW emptyW) emptyW s W (stNew_empty 0 W).st (hA.below hb)
  unfold stV sysI sysV at hRU
  generalize (runS emptyW s).2 = Y at *
  generalize (runS emptyW s).1 = err at *
  have HRU := hide hRU
  have HW0' := hide hw0
  clear hRU hw0 hA
  have hB0 := Bxs.start w [([.slice A X.rows.length cap, .slice G X.gens.length gcap], 40), ([.int .i64 s.m, .int .i64 s.al, .int .i64 s.no, .slice s.A s.len s.cap], 26)]
  have hb0 := allocs_below [([.slice A X.rows.length cap, .slice G X.gens.length gcap], 40), ([.int .i64 s.m, .int .i64 s.al, .int .i64 s.no, .slice s.A s.len s.cap], 26)] w
  obtain ⟨W0, hW0⟩ : ∃ W0, W0 = allocs w [([.slice A X.rows.length cap, .slice G X.gens.length gcap], 40), ([.int .i64 s.m, .int .i64 s.al, .int .i64 s.no, .slice s.A s.len s.cap], 26)] := ⟨_, rfl⟩
  rw [← hW0] at hB0 hb0
  have hW0' : (w.alloc (.cells #[.slice A X.rows.length cap, .slice G X.gens.length gcap] 40)).alloc (.cells #[.int .i64 s.m, .int .i64 s.al, .int .i64 s.no, .slice s.A s.len s.cap] 26) = W0 := hW0.symm
  have HW0 := hide hW0'
  have HB0 := hide hB0
  have HL0 := hide hb0
  have HX := hide hX
  clear hW0 hW0' hB0 hb0 hX
  unfold wldV worldV sysI sysV
  go_enter Try.func8, Try.ntmps8
  go_wp2_with fail
  go_at_call 15
  rw [unhide HW0]
  refine (alive5_any W0).mono ?_
  rintro e w1 ⟨rfl, hb1⟩
  have hB1 := (unhide HB0).below hb1
  have hL1 := (unhide HL0).trans (hb1.mono (unhide HL0).size)
  have c0 := hB1.cell 0 rfl 0 rfl
  have c1 := hB1.cell 0 rfl 1 rfl
  rw [Nat.add_zero] at c0 c1
  have HB1 := hide hB1
  have HL1 := hide hL1
  clear hB1 hL1 hb1 HW0 HB0 HL0
  go_wp2_with fail
  go_at_call 16
  refine (unhide HOF _ (unhide HL1)).mono ?_
  rintro e w2 ⟨rfl, hb2⟩
  have hB2 := Bxs.start w2 [([.slice none 0 0, .slice none 0 0], 43), ([.int .i64 we, .int .i64 wa], 30)]
  have hb3 := allocs_below [([.slice none 0 0, .slice none 0 0], 43), ([.int .i64 we, .int .i64 wa], 30)] w2
  obtain ⟨W3, hW3⟩ : ∃ W3, W3 = allocs w2 [([.slice none 0 0, .slice none 0 0], 43), ([.int .i64 we, .int .i64 wa], 30)] := ⟨_, rfl⟩
  rw [← hW3] at hB2 hb3
  have hL2 := (unhide HL1).trans (hb2.mono (unhide HL1).size)
  have HL3 := hide (hL2.trans (hb3.mono hL2.size))
  have HB3 := hide (((unhide HB1).below hb2).below hb3)
  have HC3 := hide hB2
  have hW3' : (w2.alloc (.cells #[.slice none 0 0, .slice none 0 0] 43)).alloc (.cells #[.int .i64 we, .int .i64 wa] 30) = W3 := hW3.symm
  have HW3 := hide hW3'
  clear c0 c1 hB2 hb3 hb2 hL2 hW3 hW3' HB1 HL1 HOF
  have s0 := (unhide HC3).cell 0 rfl 0 rfl
  have s1 := (unhide HC3).cell 0 rfl 1 rfl
  rw [Nat.add_zero] at s0 s1
  have y0 := (unhide HB3).cell 1 rfl 0 rfl
  have y1 := (unhide HB3).cell 1 rfl 1 rfl
  have y2 := (unhide HB3).cell 1 rfl 2 rfl
  have y3 := (unhide HB3).cell 1 rfl 3 rfl
  go_upto_region 4 with fail
  rw [unhide HW3]
  go_wp2_with fail
  go_at_call 17
  refine (unhide HRU _ (unhide HL3)).mono ?_
  rintro e w4 ⟨T4, tc4, G4, gc4, rfl, hN4, hb4⟩
  have f0 := ((unhide HC3).below hb4).cell 1 rfl 0 rfl
  have lf := World.block_lt_of_cell? w4 _ f0
  have HL4 := hide ((unhide HL3).trans (hb4.mono (unhide HL3).size))
  clear hN4 hb4 s0 s1 y0 y1 y2 y3 HC3 HB3 HRU HW3 HL3
  have hne : (we == 0) = false := by simpa using unhide HW0'
  go_wp2
  go_ret
  exact ⟨rfl, (unhide HL4).trans ((bel1 _ _).mono (unhide HL4).size)⟩
set_option maxRecDepth 8000 in
set_option maxHeartbeats 8000000 in
theorem nobody_err (A : Option Addr) (cap : Nat) (G : Option Addr) (gcap : Nat) (X : Wd) (s : SysI) (w : World) (hX : WldAt w A cap G gcap X) (hA : ActsAt w s.A s.len s.a) (hr : RightW X) (he : (runS X s).1 ≠ 0) :
    Calls Try.prog 8 #[wldV A cap G gcap X, sysI s] w fun e w' => e = .returned (.bool true) ∧ Below w.heap.size w w' := by
  obtain ⟨hl, hgl, _⟩ := right_hr ((right_iff X).2 hr)
  have hOF := fun W (hb : Below w.heap.size w W) => of_right A cap G gcap X W (hX.below hb) hr
  unfold wldV worldV stV at hOF
  have HOF := hide hOF
  have HRX := hide hr
  clear hOF hr
  have hRU := fun T tc G gc W (h : StAt W T G (tabsW X) X) (hb : Below w.heap.size w W) => run_any T tc G gc (tabsW X) X s W h (hA.below hb)
  unfold stV sysI sysV at hRU
  obtain ⟨Y, hY⟩ : ∃ Y, Y = (runS X s).2 := ⟨_, rfl⟩
  obtain ⟨err, herr⟩ : ∃ err, err = (runS X s).1 := ⟨_, rfl⟩
  rw [← hY, ← herr] at hRU
  rw [← herr] at he
  have hne : (err == 0) = false := by simpa using he
  clear he
  have HRU := hide hRU
  clear hRU hA hY herr
  have hB0 := Bxs.start w [([.slice A X.rows.length cap, .slice G X.gens.length gcap], 40), ([.int .i64 s.m, .int .i64 s.al, .int .i64 s.no, .slice s.A s.len s.cap], 26)]
  have hb0 := allocs_below [([.slice A X.rows.length cap, .slice G X.gens.length gcap], 40), ([.int .i64 s.m, .int .i64 s.al, .int .i64 s.no, .slice s.A s.len s.cap], 26)] w
  obtain ⟨W0, hW0⟩ : ∃ W0, W0 = allocs w [([.slice A X.rows.length cap, .slice G X.gens.length gcap], 40), ([.int .i64 s.m, .int .i64 s.al, .int .i64 s.no, .slice s.A s.len s.cap], 26)] := ⟨_, rfl⟩
  rw [← hW0] at hB0 hb0
  have hW0' : (w.alloc (.cells #[.slice A X.rows.length cap, .slice G X.gens.length gcap] 40)).alloc (.cells #[.int .i64 s.m, .int .i64 s.al, .int .i64 s.no, .slice s.A s.len s.cap] 26) = W0 := hW0.symm
  have HW0 := hide hW0'
  have HB0 := hide hB0
  have HL0 := hide hb0
  have HX := hide hX
  clear hW0 hW0' hB0 hb0 hX
  unfold wldV worldV sysI sysV
  go_enter Try.func8, Try.ntmps8
  go_wp2_with fail
  go_at_call 15
  rw [unhide HW0]
  refine (alive5_any W0).mono ?_
  rintro e w1 ⟨rfl, hb1⟩
  have hB1 := (unhide HB0).below hb1
  have hL1 := (unhide HL0).trans (hb1.mono (unhide HL0).size)
  have c0 := hB1.cell 0 rfl 0 rfl
  have c1 := hB1.cell 0 rfl 1 rfl
  rw [Nat.add_zero] at c0 c1
  have HB1 := hide hB1
  have HL1 := hide hL1
  clear hB1 hL1 hb1 HW0 HB0 HL0
  go_wp2_with fail
  go_at_call 16
  refine (unhide HOF _ (unhide HL1)).mono ?_
  rintro e w2 ⟨T2, tc2, G2, gc2, rfl, hN2, hb2⟩
  have hB2 := Bxs.start w2 [([.slice T2 (tabsW X).length tc2, .slice G2 X.gens.length gc2], 43), ([.int .i64 0, .int .i64 0], 30)]
  have hb3 := allocs_below [([.slice T2 (tabsW X).length tc2, .slice G2 X.gens.length gc2], 43), ([.int .i64 0, .int .i64 0], 30)] w2
  obtain ⟨W3, hW3⟩ : ∃ W3, W3 = allocs w2 [([.slice T2 (tabsW X).length tc2, .slice G2 X.gens.length gc2], 43), ([.int .i64 0, .int .i64 0], 30)] := ⟨_, rfl⟩
  rw [← hW3] at hB2 hb3
  have hL2 := (unhide HL1).trans (hb2.mono (unhide HL1).size)
  have HL3 := hide (hL2.trans (hb3.mono hL2.size))
  have HB3 := hide (((unhide HB1).below hb2).below hb3)
  have HC3 := hide hB2
  have HT3 := hide (hN2.below hb3).st
  have HX3 := hide ((unhide HX).below (hL2.trans (hb3.mono hL2.size)))
  have hW3' : (w2.alloc (.cells #[.slice T2 (tabsW X).length tc2, .slice G2 X.gens.length gc2] 43)).alloc (.cells #[.int .i64 0, .int .i64 0] 30) = W3 := hW3.symm
  have HW3 := hide hW3'
  clear c0 c1 hB2 hb3 hb2 hL2 hW3 hW3' hN2 HB1 HL1 HOF HX
  have s0 := (unhide HC3).cell 0 rfl 0 rfl
  have s1 := (unhide HC3).cell 0 rfl 1 rfl
  rw [Nat.add_zero] at s0 s1
  have y0 := (unhide HB3).cell 1 rfl 0 rfl
  have y1 := (unhide HB3).cell 1 rfl 1 rfl
  have y2 := (unhide HB3).cell 1 rfl 2 rfl
  have y3 := (unhide HB3).cell 1 rfl 3 rfl
  go_upto_region 4 with fail
  rw [unhide HW3]
  go_wp2_with fail
  go_at_call 17
  refine (unhide HRU T2 tc2 G2 gc2 _ (unhide HT3) (unhide HL3)).mono ?_
  rintro e w4 ⟨T4, tc4, G4, gc4, rfl, hN4, hb4⟩
  have f0 := ((unhide HC3).below hb4).cell 1 rfl 0 rfl
  have lf := World.block_lt_of_cell? w4 _ f0
  have HL4 := hide ((unhide HL3).trans (hb4.mono (unhide HL3).size))
  clear hN4 hb4 s0 s1 y0 y1 y2 y3 HC3 HB3 HRU HW3 HL3
  go_wp2
  go_ret
  exact ⟨rfl, (unhide HL4).trans ((bel1 _ _).mono (unhide HL4).size)⟩
set_option maxRecDepth 8000 in
set_option maxHeartbeats 8000000 in
theorem nobody_right (A : Option Addr) (cap : Nat) (G : Option Addr) (gcap : Nat) (X : Wd) (s : SysI) (w : World) (hX : WldAt w A cap G gcap X) (hA : ActsAt w s.A s.len s.a) (hr : RightW X) (he : (runS X s).1 = 0) :
    Calls Try.prog 8 #[wldV A cap G gcap X, sysI s] w fun e w' => e = .returned (.bool true) ∧ Below w.heap.size w w' := by
  have hNB := fun j (hj : j < X.rows.length) => nobody hr he hj
  have hNS := nobody_same he
  have hYR := run_right hr he
  obtain ⟨hl, hgl, _⟩ := right_hr ((right_iff X).2 hr)
  have hOF := fun W (hb : Below w.heap.size w W) => of_right A cap G gcap X W (hX.below hb) hr
  unfold wldV worldV stV at hOF
  have HOF := hide hOF
  have HRX := hide hr
  clear hOF hr
  have hRU := fun T tc G gc W (h : StAt W T G (tabsW X) X) (hb : Below w.heap.size w W) => run_any T tc G gc (tabsW X) X s W h (hA.below hb)
  unfold stV sysI sysV at hRU
  obtain ⟨Y, hY⟩ : ∃ Y, Y = (runS X s).2 := ⟨_, rfl⟩
  obtain ⟨err, herr⟩ : ∃ err, err = (runS X s).1 := ⟨_, rfl⟩
  rw [← hY, ← herr] at hRU
  rw [← herr] at he
  have hNB : ∀ j, j < X.rows.length → ((rowOf X j).ix, (rowOf X j).gen) ∉ bsTo X s.al s.no X.rows.length → ∃ k : Nat, k < Y.rows.length ∧ findW Y (rowOf X j).ix (rowOf X j).gen = (k : Int) ∧ rowOf Y k = rowOf X j := by rw [hY]; exact hNB
  have hNS : bsTo X s.al s.no X.rows.length = [] → Y = X := by rw [hY]; exact hNS
  have hYR : RightW Y := by rw [hY]; exact hYR
  obtain ⟨hyl, hygl, _⟩ := right_hr ((right_iff Y).2 hYR)
  have HNB := hide hNB
  have HNS := hide hNS
  have HYR := hide hYR
  subst he
  clear hNB hNS hYR
  have HRU := hide hRU
  clear hRU hA hY herr
  have hB0 := Bxs.start w [([.slice A X.rows.length cap, .slice G X.gens.length gcap], 40), ([.int .i64 s.m, .int .i64 s.al, .int .i64 s.no, .slice s.A s.len s.cap], 26)]
  have hb0 := allocs_below [([.slice A X.rows.length cap, .slice G X.gens.length gcap], 40), ([.int .i64 s.m, .int .i64 s.al, .int .i64 s.no, .slice s.A s.len s.cap], 26)] w
  obtain ⟨W0, hW0⟩ : ∃ W0, W0 = allocs w [([.slice A X.rows.length cap, .slice G X.gens.length gcap], 40), ([.int .i64 s.m, .int .i64 s.al, .int .i64 s.no, .slice s.A s.len s.cap], 26)] := ⟨_, rfl⟩
  rw [← hW0] at hB0 hb0
  have hW0' : (w.alloc (.cells #[.slice A X.rows.length cap, .slice G X.gens.length gcap] 40)).alloc (.cells #[.int .i64 s.m, .int .i64 s.al, .int .i64 s.no, .slice s.A s.len s.cap] 26) = W0 := hW0.symm
  have HW0 := hide hW0'
  have HB0 := hide hB0
  have HL0 := hide hb0
  have HX := hide hX
  clear hW0 hW0' hB0 hb0 hX
  unfold wldV worldV sysI sysV
  go_enter Try.func8, Try.ntmps8
  go_wp2_with fail
  go_at_call 15
  rw [unhide HW0]
  refine (alive5_any W0).mono ?_
  rintro e w1 ⟨rfl, hb1⟩
  have hB1 := (unhide HB0).below hb1
  have hL1 := (unhide HL0).trans (hb1.mono (unhide HL0).size)
  have c0 := hB1.cell 0 rfl 0 rfl
  have c1 := hB1.cell 0 rfl 1 rfl
  rw [Nat.add_zero] at c0 c1
  have HB1 := hide hB1
  have HL1 := hide hL1
  clear hB1 hL1 hb1 HW0 HB0 HL0
  go_wp2_with fail
  go_at_call 16
  refine (unhide HOF _ (unhide HL1)).mono ?_
  rintro e w2 ⟨T2, tc2, G2, gc2, rfl, hN2, hb2⟩
  have hB2 := Bxs.start w2 [([.slice T2 (tabsW X).length tc2, .slice G2 X.gens.length gc2], 43), ([.int .i64 0, .int .i64 0], 30)]
  have hb3 := allocs_below [([.slice T2 (tabsW X).length tc2, .slice G2 X.gens.length gc2], 43), ([.int .i64 0, .int .i64 0], 30)] w2
  obtain ⟨W3, hW3⟩ : ∃ W3, W3 = allocs w2 [([.slice T2 (tabsW X).length tc2, .slice G2 X.gens.length gc2], 43), ([.int .i64 0, .int .i64 0], 30)] := ⟨_, rfl⟩
  rw [← hW3] at hB2 hb3
  have hL2 := (unhide HL1).trans (hb2.mono (unhide HL1).size)
  have HL3 := hide (hL2.trans (hb3.mono hL2.size))
  have HB3 := hide (((unhide HB1).below hb2).below hb3)
  have HC3 := hide hB2
  have HT3 := hide (hN2.below hb3).st
  have HX3 := hide ((unhide HX).below (hL2.trans (hb3.mono hL2.size)))
  have hW3' : (w2.alloc (.cells #[.slice T2 (tabsW X).length tc2, .slice G2 X.gens.length gc2] 43)).alloc (.cells #[.int .i64 0, .int .i64 0] 30) = W3 := hW3.symm
  have HW3 := hide hW3'
  clear c0 c1 hB2 hb3 hb2 hL2 hW3 hW3' hN2 HB1 HL1 HOF HX
  have s0 := (unhide HC3).cell 0 rfl 0 rfl
  have s1 := (unhide HC3).cell 0 rfl 1 rfl
  rw [Nat.add_zero] at s0 s1
  have y0 := (unhide HB3).cell 1 rfl 0 rfl
  have y1 := (unhide HB3).cell 1 rfl 1 rfl
  have y2 := (unhide HB3).cell 1 rfl 2 rfl
  have y3 := (unhide HB3).cell 1 rfl 3 rfl
  go_upto_region 4 with fail
  rw [unhide HW3]
  go_wp2_with fail
  go_at_call 17
  refine (unhide HRU T2 tc2 G2 gc2 _ (unhide HT3) (unhide HL3)).mono ?_
  rintro e w4 ⟨T4, tc4, G4, gc4, rfl, hN4, hb4⟩
  have hb5 := bel1 w4 (.cells #[.slice T4 (tabsW Y).length tc4, .slice G4 Y.gens.length gc4] 43)
  have hB5 := ((unhide HB3).below hb4).below hb5
  have hC5 := ((unhide HC3).below hb4).below hb5
  have hE5 := Bxs.start w4 [([.slice T4 (tabsW Y).length tc4, .slice G4 Y.gens.length gc4], 43)]
  have hT5 := ((unhide HT3).below hb4).below hb5
  have hU5 := (hN4.below hb5).st
  have hX5 := ((unhide HX3).below hb4).below hb5
  have hL5 := ((unhide HL3).trans (hb4.mono (unhide HL3).size)).trans (hb5.mono ((unhide HL3).trans (hb4.mono (unhide HL3).size)).size)
  obtain ⟨W5, hW5⟩ : ∃ W5, W5 = w4.alloc (.cells #[.slice T4 (tabsW Y).length tc4, .slice G4 Y.gens.length gc4] 43) := ⟨_, rfl⟩
  have hW5' : w4.alloc (.cells #[.slice T4 (tabsW Y).length tc4, .slice G4 Y.gens.length gc4] 43) = W5 := hW5.symm
  have hE5 : Bxs w4.heap.size [([.slice T4 (tabsW Y).length tc4, .slice G4 Y.gens.length gc4], 43)] W5 := by rw [hW5]; exact hE5
  rw [← hW5] at hB5 hC5 hT5 hU5 hX5 hL5
  have f0 := hC5.cell 1 rfl 0 rfl
  have t0 := hE5.cell 0 rfl 0 rfl
  have t1 := hE5.cell 0 rfl 1 rfl
  rw [Nat.add_zero] at t0 t1
  have HB5 := hide hB5
  have HC5 := hide hC5
  have HE5 := hide hE5
  have HT5 := hide hT5
  have HU5 := hide hU5
  have HX5 := hide hX5
  have HL5 := hide hL5
  have HW5 := hide hW5'
  clear hb4 hb5 hN4 hB5 hC5 hE5 hT5 hU5 hX5 hL5 hW5 hW5' HB3 HC3 HT3 HX3 HL3 HW3 HRU s0 s1 y0 y1 y2 y3
  go_upto_region 5 with fail
  rw [unhide HW5]
  go_wp2_with fail
  go_at_call 18
  have hWO := sworld_any T4 tc4 G4 gc4 (tabsW Y) Y W5 (unhide HU5)
  unfold stV wldV worldV at hWO
  refine hWO.mono ?_
  rintro e w6 ⟨A5, c5, G5, gc5, rfl, hN6, hb6⟩
  have hb7 := bel1 w6 (.cells #[.slice A5 Y.rows.length c5, .slice G5 Y.gens.length gc5] 40)
  have hb67 := hb6.trans (hb7.mono hb6.size)
  have hV7 := Bxs.start w6 [([.slice A5 Y.rows.length c5, .slice G5 Y.gens.length gc5], 40)]
  obtain ⟨W7, hW7⟩ : ∃ W7, W7 = w6.alloc (.cells #[.slice A5 Y.rows.length c5, .slice G5 Y.gens.length gc5] 40) := ⟨_, rfl⟩
  have hW7' : w6.alloc (.cells #[.slice A5 Y.rows.length c5, .slice G5 Y.gens.length gc5] 40) = W7 := hW7.symm
  have hV7 : Bxs w6.heap.size [([.slice A5 Y.rows.length c5, .slice G5 Y.gens.length gc5], 40)] W7 := by rw [hW7]; exact hV7
  have hY7 := hN6.toWldAt.below hb7
  rw [← hW7] at hb67 hY7
  have hC7 := (unhide HC5).below hb67
  have hB7 := (unhide HB5).below hb67
  have s0 := hC7.cell 0 rfl 0 rfl
  have s1 := hC7.cell 0 rfl 1 rfl
  rw [Nat.add_zero] at s0 s1
  have y1 := hB7.cell 1 rfl 1 rfl
  have y2 := hB7.cell 1 rfl 2 rfl
  have HB7 := hide hB7
  have HC7 := hide hC7
  have HE7 := hide ((unhide HE5).below hb67)
  have HT7 := hide ((unhide HT5).below hb67)
  have HU7 := hide ((unhide HU5).below hb67)
  have HX7 := hide ((unhide HX5).below hb67)
  have HL7 := hide ((unhide HL5).trans (hb67.mono (unhide HL5).size))
  have HV7 := hide hV7
  have HY7 := hide hY7
  have HW7 := hide hW7'
  have hMA := smatch_any T2 tc2 G2 gc2 (tabsW X) X s.al s.no W7 (unhide HT7)
  unfold stV at hMA
  have HMA := hide hMA
  clear hMA hWO hN6 hb6 hb7 hb67 hV7 hY7 hC7 hB7 hW7 hW7' HB5 HC5 HE5 HT5 HU5 HX5 HL5 HW5 f0 t0 t1
  go_upto_region 8 with fail
  rw [unhide HW7]
  go_wp2_with fail
  go_at_call 24
  obtain ⟨l, hl0⟩ : ∃ l, l = bsTo X s.al s.no X.rows.length := ⟨_, rfl⟩
  have hll : l.length ≤ 60 := by rw [hl0]; exact Nat.le_trans (bsTo_len X _ _ _) hl
  have hNB2 := unhide HNB
  have hNS2 := unhide HNS
  have hMA2 := unhide HMA
  rw [← hl0] at hNB2 hNS2 hMA2
  have HNB2 := hide hNB2
  have HNS2 := hide hNS2
  refine hMA2.mono ?_
  rintro e w8 ⟨A8, c8, rfl, hS8, hb8⟩
  have hB8 := (unhide HB7).below hb8
  have r0 := hB8.cell 0 rfl 0 rfl
  rw [Nat.add_zero] at r0
  have HB8 := hide hB8
  have HC8 := hide ((unhide HC7).below hb8)
  have HE8 := hide ((unhide HE7).below hb8)
  have HT8 := hide ((unhide HT7).below hb8)
  have HU8 := hide ((unhide HU7).below hb8)
  have HX8 := hide ((unhide HX7).below hb8)
  have HL8 := hide ((unhide HL7).trans (hb8.mono (unhide HL7).size))
  have HV8 := hide ((unhide HV7).below hb8)
  have HY8 := hide ((unhide HY7).below hb8)
  have HS8 := hide hS8
  clear hNB2 hNS2 hMA2 hl0 HNB HNS HMA hS8 hb8 hB8 HB7 HC7 HE7 HT7 HU7 HX7 HL7 HV7 HY7 HW7 s0 s1 y1 y2
  go_wp2_with fail
  clear r0
  go_loopw [46] (fun x wr => ∃ k : Nat, k ≤ X.rows.length ∧ x = .int .i64 (k : Int) ∧ Below w8.heap.size w8 wr) (fun x _ => X.rows.length - (intOf x).toNat)
  case atStart => exact ⟨0, Nat.zero_le _, rfl, Below.refl _ _⟩
  case round =>
    obtain ⟨k, hk, rfl, hbr⟩ := hrel
    by_cases hlt : k < X.rows.length
    · have k0 : (0 : Int) ≤ (k : Int) := by omega
      have k1 : (k : Int) < (X.rows.length : Int) := by omega
      obtain ⟨wk, rfl⟩ : ∃ wk, wk = wr := ⟨_, rfl⟩
      obtain ⟨rb, ro, hAe, hrow⟩ := ((unhide HX8).below hbr).rows k hlt
      have hrow : RowAt wk rb (ro + k * 11) (rowOf X k) := hrow
      have hNBk := unhide HNB2 k hlt
      obtain ⟨r, hrr⟩ : ∃ r, r = rowOf X k := ⟨_, rfl⟩
      rw [← hrr] at hrow hNBk
      obtain ⟨c0, c1, c2, c3, c4, c5x, c6, c7, c8x, c9, c10⟩ := rowAt_all hrow
      have HNK := hide hNBk
      have hbz := bel1 wk (.cells #[.int .i64 r.ix, .int .i64 r.gen, .int .i64 r.has, .int .i64 (r.v 0), .int .i64 (r.v 1), .int .i64 (r.v 2), .int .i64 (r.v 3), .int .i64 (r.v 4), .int .i64 (r.v 5), .int .i64 (r.v 6), .int .i64 (r.v 7)] 53)
      have hR9 := Bxs.start wk [([.int .i64 r.ix, .int .i64 r.gen, .int .i64 r.has, .int .i64 (r.v 0), .int .i64 (r.v 1), .int .i64 (r.v 2), .int .i64 (r.v 3), .int .i64 (r.v 4), .int .i64 (r.v 5), .int .i64 (r.v 6), .int .i64 (r.v 7)], 53)]
      obtain ⟨W9, hW9⟩ : ∃ W9, W9 = wk.alloc (.cells #[.int .i64 r.ix, .int .i64 r.gen, .int .i64 r.has, .int .i64 (r.v 0), .int .i64 (r.v 1), .int .i64 (r.v 2), .int .i64 (r.v 3), .int .i64 (r.v 4), .int .i64 (r.v 5), .int .i64 (r.v 6), .int .i64 (r.v 7)] 53) := ⟨_, rfl⟩
      have hW9' : wk.alloc (.cells #[.int .i64 r.ix, .int .i64 r.gen, .int .i64 r.has, .int .i64 (r.v 0), .int .i64 (r.v 1), .int .i64 (r.v 2), .int .i64 (r.v 3), .int .i64 (r.v 4), .int .i64 (r.v 5), .int .i64 (r.v 6), .int .i64 (r.v 7)] 53) = W9 := hW9.symm
      have hR9 : Bxs wk.heap.size [([.int .i64 r.ix, .int .i64 r.gen, .int .i64 r.has, .int .i64 (r.v 0), .int .i64 (r.v 1), .int .i64 (r.v 2), .int .i64 (r.v 3), .int .i64 (r.v 4), .int .i64 (r.v 5), .int .i64 (r.v 6), .int .i64 (r.v 7)], 53)] W9 := by rw [hW9]; exact hR9
      rw [← hW9] at hbz
      have HL9 := hide (hbr.trans (hbz.mono hbr.size))
      have HR9 := hide hR9
      have HW9 := hide hW9'
      have hz9 : w8.heap.size ≤ wk.heap.size := hbr.size
      clear hrow hNBk hbr hbz hR9 hW9 hW9' hrr
      subst hAe
      go_upto_region 12 with fail
      rw [unhide HW9]
      go_wp2_with fail
      clear c0 c1 c2 c3 c4 c5x c6 c7 c8x c9 c10
      go_loopw [13, 52] (fun f x wr => ∃ q : Nat, q ≤ l.length ∧ x = .int .i64 (q : Int) ∧ f = .bool (inL l r.ix r.gen q) ∧ Below W9.heap.size W9 wr) (fun _ x _ => l.length - (intOf x).toNat)
      case atStart => exact ⟨0, Nat.zero_le _, rfl, rfl, Below.refl _ _⟩
      case round =>
        obtain ⟨q, hq, rfl, rfl, hbr⟩ := hrel
        by_cases hlq : q < l.length
        · have q0 : (0 : Int) ≤ (q : Int) := by omega
          have q1 : (q : Int) < (l.length : Int) := by omega
          have hL10 := (unhide HL9).trans (hbr.mono (unhide HL9).size)
          obtain ⟨sb, so, hSe, d0, d1⟩ := ((unhide HS8).below hL10) q hlq
          have hst := inL_step l r.ix r.gen q hlq
          generalize l.getD q (0, 0) = z at *
          obtain ⟨zi, zg⟩ := z
          dsimp only at d0 d1 hst
          have HSt := hide hst
          have hbz := bel1 wr (.cells #[.int .i64 zi, .int .i64 zg] 50)
          have hZ10 := Bxs.start wr [([.int .i64 zi, .int .i64 zg], 50)]
          obtain ⟨W10, hW10⟩ : ∃ W10, W10 = wr.alloc (.cells #[.int .i64 zi, .int .i64 zg] 50) := ⟨_, rfl⟩
          have hW10' : wr.alloc (.cells #[.int .i64 zi, .int .i64 zg] 50) = W10 := hW10.symm
          have HW10 := hide hW10'
          have hZ10 : Bxs wr.heap.size [([.int .i64 zi, .int .i64 zg], 50)] W10 := by rw [hW10]; exact hZ10
          rw [← hW10] at hbz
          have hR10 := ((unhide HR9).below hbr).below hbz
          have x0 := hR10.cell 0 rfl 0 rfl
          have x1 := hR10.cell 0 rfl 1 rfl
          have z0 := hZ10.cell 0 rfl 0 rfl
          have z1 := hZ10.cell 0 rfl 1 rfl
          rw [Nat.add_zero] at x0 x1 z0 z1
          have HBR := hide (hbr.trans (hbz.mono hbr.size))
          clear hL10 hst hR10 hbr hbz hZ10 hW10 hW10'
          subst hSe
          go_upto_region 16 with fail
          rw [unhide HW10]
          cases hb : inL l r.ix r.gen q
          · rw [hb] at HSt
            by_cases h1 : zi = r.ix <;> by_cases h2 : zg = r.gen
            all_goals
              have e1 : (zi == r.ix && zg == r.gen) = (decide (zi = r.ix) && decide (zg = r.gen)) := by simp [Bool.beq_eq_decide_eq]
              rw [e1] at HSt
              simp only [h1, h2, decide_true, decide_false, Bool.and_true, Bool.and_false, Bool.true_and, Bool.false_and, Bool.or_false, Bool.or_true, Bool.false_or] at HSt
              go_wp2
              go_roundw
              case rel => exact ⟨q + 1, by omega, by go_num, by rw [unhide HSt], unhide HBR⟩
              case measure => simp [intOf]; omega
          · rw [hb, Bool.true_or] at HSt
            go_wp2
            go_roundw
            case rel => exact ⟨q + 1, by omega, by go_num, by rw [unhide HSt], unhide HBR⟩
            case measure => simp [intOf]; omega
        · obtain rfl : q = l.length := by omega
          have hL10 := (unhide HL9).trans (hbr.mono (unhide HL9).size)
          have hV10 := (unhide HV8).below hL10
          have v0 := hV10.cell 0 rfl 0 rfl
          have v1 := hV10.cell 0 rfl 1 rfl
          rw [Nat.add_zero] at v0 v1
          have hR10 := (unhide HR9).below hbr
          have x0 := hR10.cell 0 rfl 0 rfl
          have x1 := hR10.cell 0 rfl 1 rfl
          rw [Nat.add_zero] at x0 x1
          obtain ⟨p, hpc, hp⟩ := row_ptr Y hyl r.ix r.gen A5 c5 G5 gc5 wr ((unhide HY8).below hL10)
          have HPC := hide hpc
          have HR10 := hide hR10
          have HLA := hide hL10
          have lz := World.block_lt_of_cell? wr _ x0
          clear hpc hV10 hR10 hL10 hbr
          cases hb : inL l r.ix r.gen l.length
          · obtain ⟨kk, hkk, hfk, hrk⟩ := unhide HNK (inL_all _ _ _ hb)
            rcases hp with ⟨rfl, hf⟩ | ⟨k2, pb, po, rfl, hk2, hf, hpr⟩
            · exact absurd (hf.symm.trans hfk) (by omega)
            · have : k2 = kk := by omega
              subst this
              rw [hrk] at hpr
              have HPR := hide hpr
              clear hpr hkk hfk hrk hk2 hf
              go_wp2_with (go_at_call 19; refine (unhide HPC _ (Below.refl _ _)).mono ?_; rintro e w11 ⟨rfl, hb11⟩; have HPR2 := hide ((unhide HPR).below hb11); have HR11 := hide ((unhide HR10).below hb11); have HL11 := hide ((unhide HLA).trans (hb11.mono (unhide HLA).size)); clear hb11 v0 v1 x0 x1)
              have h0 : Below w11.heap.size w11 w11.drew := (Below.refl _ _).drew
              refine wp_region_gho (fun (γ : Unit) ix v => (([fun v => v = .bool false, fun v => v = .bool true, fun v => v = .bool true, fun v => v = .pointer (some ⟨pb, po, none⟩), fun v => v = .bool false, fun v => v = .bool false, fun v => v = .pointer (some ⟨pb, po, none⟩), fun v => v = .pointer (some ⟨pb, po, none⟩), fun v => v = .agg #[.int .i64 r.ix, .int .i64 r.gen, .int .i64 r.has, .int .i64 (r.v 0), .int .i64 (r.v 1), .int .i64 (r.v 2), .int .i64 (r.v 3), .int .i64 (r.v 4), .int .i64 (r.v 5), .int .i64 (r.v 6), .int .i64 (r.v 7)], fun v => v = .agg #[.int .i64 r.ix, .int .i64 r.gen, .int .i64 r.has, .int .i64 (r.v 0), .int .i64 (r.v 1), .int .i64 (r.v 2), .int .i64 (r.v 3), .int .i64 (r.v 4), .int .i64 (r.v 5), .int .i64 (r.v 6), .int .i64 (r.v 7)], fun v => v = .bool false, fun v => v = .bool false, fun v => v = .bool false] : List (Value → Prop)).getD ix (fun _ => True)) v) (fun (_ : Unit) (_ : Nat → Bool) W => Below w11.heap.size w11 W) (()) (by kernel_rfl) (by kernel_rfl) (by kernel_rfl) h0 ?hstep ?hend
              case hstep =>
                intro γ ix o ho L ac w1 hD hL hed hcl hout hv
                match ix, ho with
                | 0, ho =>
                  simp at ho
                  subst ho
                  have e13 : ac.tmps.getD 13 undef = .bool false := hout 13 (by decide +kernel)
                  exact .inl ⟨rfl, gho_reads γ (.bool false) (by simp [go_sem, Act.eval, -Array.getD_eq_getD_getElem?, e13]) rfl (hD) (fun _ _ _ _ h => h)⟩
                | 1, ho =>
                  simp at ho
                  subst ho
                  have e68 : ac.tmps.getD 68 undef = .bool false := hv 0 68 rfl (by kernel_rfl)
                  exact .inl ⟨rfl, gho_reads γ (.bool true) (by simp [go_sem, Act.eval, -Array.getD_eq_getD_getElem?, e68]) rfl (hD) (fun _ _ _ _ h => h)⟩
                | 2, ho =>
                  simp at ho
                  subst ho
                  have e69 : ac.tmps.getD 69 undef = .bool true := hv 1 69 rfl (by kernel_rfl)
                  exact .inl ⟨rfl, gho_reads γ (.bool true) (by simp [go_sem, Act.eval, -Array.getD_eq_getD_getElem?, e69]) rfl (hD) (fun _ _ _ _ h => h)⟩
                | 3, ho =>
                  simp at ho
                  subst ho
                  have eg : ac.tmps.getD 70 undef = .bool true := hv 2 70 rfl (by kernel_rfl)
                  have e16 : ac.tmps.getD 16 undef = .pointer (some ⟨pb, po, none⟩) := hout 16 (by decide +kernel)
                  exact .inl ⟨wanted_of rfl rfl eg, gho_reads γ (.pointer (some ⟨pb, po, none⟩)) (by simp [go_sem, Act.eval, -Array.getD_eq_getD_getElem?, e16]) rfl (hD) (fun _ _ _ _ h => h)⟩
                | 4, ho =>
                  simp at ho
                  subst ho
                  have eg : ac.tmps.getD 70 undef = .bool true := hv 2 70 rfl (by kernel_rfl)
                  have e71 : ac.tmps.getD 71 undef = .pointer (some ⟨pb, po, none⟩) := hv 3 71 rfl (by kernel_rfl)
                  exact .inl ⟨wanted_of rfl rfl eg, gho_reads γ (.bool false) (by simp [go_sem, Act.eval, -Array.getD_eq_getD_getElem?, e71]) rfl (hD) (fun _ _ _ _ h => h)⟩
                | 5, ho =>
                  simp at ho
                  subst ho
                  have eg : ac.tmps.getD 70 undef = .bool true := hv 2 70 rfl (by kernel_rfl)
                  have e72 : ac.tmps.getD 72 undef = .bool false := hv 4 72 rfl (by kernel_rfl)
                  exact .inl ⟨wanted_of rfl rfl eg, gho_reads γ (.bool false) (by simp [go_sem, Act.eval, -Array.getD_eq_getD_getElem?, e72]) rfl (hD) (fun _ _ _ _ h => h)⟩
                | 6, ho =>
                  simp at ho
                  subst ho
                  have eg : ac.tmps.getD 73 undef = .bool false := hv 5 73 rfl (by kernel_rfl)
                  have e16 : ac.tmps.getD 16 undef = .pointer (some ⟨pb, po, none⟩) := hout 16 (by decide +kernel)
                  exact .inl ⟨wanted_of rfl rfl eg, gho_reads γ (.pointer (some ⟨pb, po, none⟩)) (by simp [go_sem, Act.eval, -Array.getD_eq_getD_getElem?, e16]) rfl (hD) (fun _ _ _ _ h => h)⟩
                | 7, ho =>
                  simp at ho
                  subst ho
                  have eg : ac.tmps.getD 73 undef = .bool false := hv 5 73 rfl (by kernel_rfl)
                  have e74 : ac.tmps.getD 74 undef = .pointer (some ⟨pb, po, none⟩) := hv 6 74 rfl (by kernel_rfl)
                  exact .inl ⟨wanted_of rfl rfl eg, gho_reads γ (.pointer (some ⟨pb, po, none⟩)) (by simp [go_sem, Act.eval, -Array.getD_eq_getD_getElem?, e74]) rfl (hD) (fun _ _ _ _ h => h)⟩
                | 8, ho =>
                  simp at ho
                  subst ho
                  have eg : ac.tmps.getD 73 undef = .bool false := hv 5 73 rfl (by kernel_rfl)
                  have e75 : ac.tmps.getD 75 undef = .pointer (some ⟨pb, po, none⟩) := hv 7 75 rfl (by kernel_rfl)
                  obtain ⟨c0, c1, c2, c3, c4, c5x, c6, c7, c8x, c9, c10⟩ := rowAt_all ((unhide HPR2).below hD)
                  exact .inl ⟨wanted_of rfl rfl eg, gho_reads γ (.agg #[.int .i64 r.ix, .int .i64 r.gen, .int .i64 r.has, .int .i64 (r.v 0), .int .i64 (r.v 1), .int .i64 (r.v 2), .int .i64 (r.v 3), .int .i64 (r.v 4), .int .i64 (r.v 5), .int .i64 (r.v 6), .int .i64 (r.v 7)]) (by simp [go_sem, Act.eval, -Array.getD_eq_getD_getElem?, e75, c0, c1, c2, c3, c4, c5x, c6, c7, c8x, c9, c10]) rfl (hD) (fun _ _ _ _ h => h)⟩
                | 9, ho =>
                  simp at ho
                  subst ho
                  have eg : ac.tmps.getD 73 undef = .bool false := hv 5 73 rfl (by kernel_rfl)
                  have e12 : ac.tmps.getD 12 undef = .pointer (some ⟨wk.heap.size, 0, none⟩) := hout 12 (by decide +kernel)
                  have bb := (unhide HR11).below hD
                  have c0 := bb.cell 0 rfl 0 rfl
                  have c1 := bb.cell 0 rfl 1 rfl
                  have c2 := bb.cell 0 rfl 2 rfl
                  have c3 := bb.cell 0 rfl 3 rfl
                  have c4 := bb.cell 0 rfl 4 rfl
                  have c5 := bb.cell 0 rfl 5 rfl
                  have c6 := bb.cell 0 rfl 6 rfl
                  have c7 := bb.cell 0 rfl 7 rfl
                  have c8 := bb.cell 0 rfl 8 rfl
                  have c9 := bb.cell 0 rfl 9 rfl
                  have c10 := bb.cell 0 rfl 10 rfl
                  rw [Nat.add_zero] at c0 c1 c2 c3 c4 c5 c6 c7 c8 c9 c10
                  exact .inl ⟨wanted_of rfl rfl eg, gho_reads γ (.agg #[.int .i64 r.ix, .int .i64 r.gen, .int .i64 r.has, .int .i64 (r.v 0), .int .i64 (r.v 1), .int .i64 (r.v 2), .int .i64 (r.v 3), .int .i64 (r.v 4), .int .i64 (r.v 5), .int .i64 (r.v 6), .int .i64 (r.v 7)]) (by simp [go_sem, Act.eval, -Array.getD_eq_getD_getElem?, e12, c0, c1, c2, c3, c4, c5, c6, c7, c8, c9, c10]) rfl (hD) (fun _ _ _ _ h => h)⟩
                | 10, ho =>
                  simp at ho
                  subst ho
                  have eg : ac.tmps.getD 73 undef = .bool false := hv 5 73 rfl (by kernel_rfl)
                  have e76 : ac.tmps.getD 76 undef = .agg #[.int .i64 r.ix, .int .i64 r.gen, .int .i64 r.has, .int .i64 (r.v 0), .int .i64 (r.v 1), .int .i64 (r.v 2), .int .i64 (r.v 3), .int .i64 (r.v 4), .int .i64 (r.v 5), .int .i64 (r.v 6), .int .i64 (r.v 7)] := hv 8 76 rfl (by kernel_rfl)
                  have e77 : ac.tmps.getD 77 undef = .agg #[.int .i64 r.ix, .int .i64 r.gen, .int .i64 r.has, .int .i64 (r.v 0), .int .i64 (r.v 1), .int .i64 (r.v 2), .int .i64 (r.v 3), .int .i64 (r.v 4), .int .i64 (r.v 5), .int .i64 (r.v 6), .int .i64 (r.v 7)] := hv 9 77 rfl (by kernel_rfl)
                  exact .inl ⟨wanted_of rfl rfl eg, gho_reads γ (.bool false) (by simp [go_sem, Act.eval, -Array.getD_eq_getD_getElem?, e76, e77, neq61]) rfl (hD) (fun _ _ _ _ h => h)⟩
                | 11, ho =>
                  simp at ho
                  subst ho
                  have eg : ac.tmps.getD 70 undef = .bool true := hv 2 70 rfl (by kernel_rfl)
                  have e73 : ac.tmps.getD 73 undef = .bool false := hv 5 73 rfl (by kernel_rfl)
                  have e78 : ac.tmps.getD 78 undef = .bool false := hv 10 78 rfl (by kernel_rfl)
                  exact .inl ⟨wanted_of rfl rfl eg, gho_reads γ (.bool false) (by simp [go_sem, Act.eval, -Array.getD_eq_getD_getElem?, e73, e78]) rfl (hD) (fun _ _ _ _ h => h)⟩
                | 12, ho =>
                  simp at ho
                  subst ho
                  have e70 : ac.tmps.getD 70 undef = .bool true := hv 2 70 rfl (by kernel_rfl)
                  have e79 : ac.tmps.getD 79 undef = .bool false := hv 11 79 rfl (by kernel_rfl)
                  exact .inl ⟨rfl, gho_reads γ (.bool false) (by simp [go_sem, Act.eval, -Array.getD_eq_getD_getElem?, e70, e79]) rfl (hD) (fun _ _ _ _ h => h)⟩
                | ix + 13, ho => simp at ho
              case hend =>
                intro γ v L w12 hD hall hv
                have v12 : v 12 = .bool false := hv 12 80 rfl
                have HE := hide ((unhide HL11).trans (hD.mono (unhide HL11).size))
                clear hv hall hD h0
                simp only [putOps, List.getElem?_cons_zero, List.getElem?_cons_succ, Option.bind_some, List.length_cons, List.length_nil, Nat.reduceAdd, v12]
                clear v12
                go_frame
                go_wp2
                go_roundw
                case rel => exact ⟨k + 1, by omega, by go_num, unhide HE⟩
                case measure => simp [intOf]; omega
          · clear hp
            go_wp2_with (go_at_call 19; refine (unhide HPC _ (Below.refl _ _)).mono ?_; rintro e w11 ⟨rfl, hb11⟩; have HL11 := hide ((unhide HLA).trans (hb11.mono (unhide HLA).size)); clear hb11 v0 v1 x0 x1)
            have h0 : Below w11.heap.size w11 w11.drew := (Below.refl _ _).drew
            refine wp_region_gho (fun (γ : Unit) ix v => (([fun v => v = .bool true, fun v => v = .bool false, fun v => v = .bool false, fun v => v = undef, fun v => v = undef, fun v => v = undef, fun v => v = undef, fun v => v = undef, fun v => v = undef, fun v => v = undef, fun v => v = undef, fun v => v = undef, fun v => v = .bool false] : List (Value → Prop)).getD ix (fun _ => True)) v) (fun (_ : Unit) (_ : Nat → Bool) W => Below w11.heap.size w11 W) (()) (by kernel_rfl) (by kernel_rfl) (by kernel_rfl) h0 ?hstep ?hend
            case hstep =>
              intro γ ix o ho L ac w1 hD hL hed hcl hout hv
              match ix, ho with
              | 0, ho =>
                simp at ho
                subst ho
                have e13 : ac.tmps.getD 13 undef = .bool true := hout 13 (by decide +kernel)
                exact .inl ⟨rfl, gho_reads γ (.bool true) (by simp [go_sem, Act.eval, -Array.getD_eq_getD_getElem?, e13]) rfl (hD) (fun _ _ _ _ h => h)⟩
              | 1, ho =>
                simp at ho
                subst ho
                have e68 : ac.tmps.getD 68 undef = .bool true := hv 0 68 rfl (by kernel_rfl)
                exact .inl ⟨rfl, gho_reads γ (.bool false) (by simp [go_sem, Act.eval, -Array.getD_eq_getD_getElem?, e68]) rfl (hD) (fun _ _ _ _ h => h)⟩
              | 2, ho =>
                simp at ho
                subst ho
                have e69 : ac.tmps.getD 69 undef = .bool false := hv 1 69 rfl (by kernel_rfl)
                exact .inl ⟨rfl, gho_reads γ (.bool false) (by simp [go_sem, Act.eval, -Array.getD_eq_getD_getElem?, e69]) rfl (hD) (fun _ _ _ _ h => h)⟩
              | 3, ho =>
                simp at ho
                subst ho
                have eg : ac.tmps.getD 70 undef = .bool !true := hv 2 70 rfl (by kernel_rfl)
                exact .inr ⟨unwanted_of rfl rfl eg, rfl, hD⟩
              | 4, ho =>
                simp at ho
                subst ho
                have eg : ac.tmps.getD 70 undef = .bool !true := hv 2 70 rfl (by kernel_rfl)
                exact .inr ⟨unwanted_of rfl rfl eg, rfl, hD⟩
              | 5, ho =>
                simp at ho
                subst ho
                have eg : ac.tmps.getD 70 undef = .bool !true := hv 2 70 rfl (by kernel_rfl)
                exact .inr ⟨unwanted_of rfl rfl eg, rfl, hD⟩
              | 6, ho =>
                simp at ho
                subst ho
                have eg : ac.tmps.getD 73 undef = undef := hv 5 73 rfl (by kernel_rfl)
                exact .inr ⟨unwanted_un rfl rfl eg, rfl, hD⟩
              | 7, ho =>
                simp at ho
                subst ho
                have eg : ac.tmps.getD 73 undef = undef := hv 5 73 rfl (by kernel_rfl)
                exact .inr ⟨unwanted_un rfl rfl eg, rfl, hD⟩
              | 8, ho =>
                simp at ho
                subst ho
                have eg : ac.tmps.getD 73 undef = undef := hv 5 73 rfl (by kernel_rfl)
                exact .inr ⟨unwanted_un rfl rfl eg, rfl, hD⟩
              | 9, ho =>
                simp at ho
                subst ho
                have eg : ac.tmps.getD 73 undef = undef := hv 5 73 rfl (by kernel_rfl)
                exact .inr ⟨unwanted_un rfl rfl eg, rfl, hD⟩
              | 10, ho =>
                simp at ho
                subst ho
                have eg : ac.tmps.getD 73 undef = undef := hv 5 73 rfl (by kernel_rfl)
                exact .inr ⟨unwanted_un rfl rfl eg, rfl, hD⟩
              | 11, ho =>
                simp at ho
                subst ho
                have eg : ac.tmps.getD 70 undef = .bool !true := hv 2 70 rfl (by kernel_rfl)
                exact .inr ⟨unwanted_of rfl rfl eg, rfl, hD⟩
              | 12, ho =>
                simp at ho
                subst ho
                have e70 : ac.tmps.getD 70 undef = .bool false := hv 2 70 rfl (by kernel_rfl)
                exact .inl ⟨rfl, gho_reads γ (.bool false) (by simp [go_sem, Act.eval, -Array.getD_eq_getD_getElem?, e70]) rfl (hD) (fun _ _ _ _ h => h)⟩
              | ix + 13, ho => simp at ho
            case hend =>
              intro γ v L w12 hD hall hv
              have v12 : v 12 = .bool false := hv 12 80 rfl
              have HE := hide ((unhide HL11).trans (hD.mono (unhide HL11).size))
              clear hv hall hD h0
              simp only [putOps, List.getElem?_cons_zero, List.getElem?_cons_succ, Option.bind_some, List.length_cons, List.length_nil, Nat.reduceAdd, v12]
              clear v12
              go_frame
              go_wp2
              go_roundw
              case rel => exact ⟨k + 1, by omega, by go_num, unhide HE⟩
              case measure => simp [intOf]; omega
    · obtain rfl : k = X.rows.length := by omega
      have hC9 := (unhide HC8).below hbr
      have hE9 := (unhide HE8).below hbr
      have s0 := hC9.cell 0 rfl 0 rfl
      have s1 := hC9.cell 0 rfl 1 rfl
      have t0 := hE9.cell 0 rfl 0 rfl
      have t1 := hE9.cell 0 rfl 1 rfl
      rw [Nat.add_zero] at s0 s1 t0 t1
      have HL9 := hide ((unhide HL8).trans (hbr.mono (unhide HL8).size))
      have hT9 := (unhide HT8).below hbr
      have hU9 := (unhide HU8).below hbr
      by_cases hz : l = []
      · have hYX := unhide HNS2 hz
        subst hYX hz
        have hSS := samest_true T2 tc2 G2 gc2 T4 tc4 G4 gc4 (tabsW Y) Y.gens wr hT9.few (by omega) (fun t ht => (hT9.each t ht).few) hT9.tbs hT9.gens hU9.tbs hU9.gens
        unfold stV at hSS
        have HSS := hide hSS
        clear hC9 hE9 hbr hT9 hU9 hSS
        go_wp2_with (go_at_call 23; refine (unhide HSS).mono ?_; rintro e w12 ⟨rfl, hb12⟩; have HLE := hide ((unhide HL9).trans (hb12.mono (unhide HL9).size)); clear hb12)
        go_ret
        exact ⟨rfl, unhide HLE⟩
      · have hpos : 0 < l.length := by cases l with | nil => exact absurd rfl hz | cons a b => simp
        have hgt : decide ((0 : Int) < (l.length : Int)) = true := by simp; omega
        have hgt2 : (0 : Int) < (l.length : Int) := by omega
        clear hC9 hE9 hbr hT9 hU9
        go_wp2
        go_ret
        exact ⟨rfl, unhide HL9⟩
theorem nobody_law (A : Option Addr) (cap : Nat) (G : Option Addr) (gcap : Nat) (X : Wd) (s : SysI) (w : World) (hn0 : X.rows.length ≤ 9223372036854775807) (hX : WldAt w A cap G gcap X) (hA : ActsAt w s.A s.len s.a) :
    Calls Try.prog 8 #[wldV A cap G gcap X, sysI s] w fun e w' => e = .returned (.bool true) ∧ Below w.heap.size w w' := by
  by_cases h : (wrongW X).1 = 0
  · by_cases he : (runS X s).1 = 0
    · exact nobody_right A cap G gcap X s w hX hA ((right_iff X).1 h) he
    · exact nobody_err A cap G gcap X s w hX hA ((right_iff X).1 h) he
  · exact nobody_wrong A cap G gcap X s w hn0 hX hA h
end Go.Proofs.Ytnbleebilmghcab
