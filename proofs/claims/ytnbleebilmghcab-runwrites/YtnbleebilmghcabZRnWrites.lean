/- The law RunWrites. -/
import Derived.Test.YtnbleebilmghcabQY
import Derived.Test.YtnbleebilmghcabQX
import Derived.Test.YtnbleebilmghcabZRnWr
import Derived.Test.YtnbleebilmghcabZRnW7
set_option linter.all false
namespace Go.Proofs.Ytnbleebilmghcab
open Go Go.RowKit
attribute [local go_sem ↓] Go.wp_at_zero Go.wp_at_succ
theorem size34 : (Try.prog.info? 34).map (·.size) = some 4 := by kernel_rfl
theorem row_box {W : World} {b : Nat} {r : RowI} {t : TypeId} (h : Bxs b [([.int .i64 r.ix, .int .i64 r.gen, .int .i64 r.has, .int .i64 (r.v 0), .int .i64 (r.v 1), .int .i64 (r.v 2), .int .i64 (r.v 3), .int .i64 (r.v 4), .int .i64 (r.v 5), .int .i64 (r.v 6), .int .i64 (r.v 7)], t)] W) : RowAt W b 0 r := by
  have c := fun j u hj => h.cell 0 rfl j (u := u) hj
  simp only [Nat.add_zero] at c
  refine ⟨c 0 _ rfl, c 1 _ rfl, c 2 _ rfl, fun k hk => ?_⟩
  match k, hk with
  | 0, _ => exact c 3 _ rfl
  | 1, _ => exact c 4 _ rfl
  | 2, _ => exact c 5 _ rfl
  | 3, _ => exact c 6 _ rfl
  | 4, _ => exact c 7 _ rfl
  | 5, _ => exact c 8 _ rfl
  | 6, _ => exact c 9 _ rfl
  | 7, _ => exact c 10 _ rfl
  | k + 8, hk => omega
theorem hasB_bt {x : Int} (h : setB x = true) {k : Nat} (hk : k < 8) : hasB x (k : Int) = bt x k := by
  unfold hasB
  rw [Int.toNat_natCast, tb_bt h hk]
  have : decide ((0 : Int) ≤ (k : Int) ∧ (k : Int) < 8) = true := decide_eq_true (by omega)
  rw [this, Bool.true_and]
theorem setB_le {x : Int} (h : setB x = true) : 0 ≤ x ∧ x ≤ 255 := by unfold setB at h; exact of_decide_eq_true h
set_option maxRecDepth 8000 in
set_option maxHeartbeats 8000000 in
theorem writes_wrong (A : Option Addr) (cap : Nat) (G : Option Addr) (gcap : Nat) (X : Wd) (s : SysI) (w : World) (hn0 : X.rows.length ≤ 9223372036854775807) (hX : WldAt w A cap G gcap X) (hA : ActsAt w s.A s.len s.a) (hw0 : (wrongW X).1 ≠ 0) :
    Calls Try.prog 5 #[wldV A cap G gcap X, sysI s] w fun e w' => e = .returned (.bool true) ∧ Below w.heap.size w w' := by
  have hOF := fun W (hb : Below w.heap.size w W) => of_wrong A cap G gcap X W hn0 (hX.below hb) hw0
  unfold wldV worldV stV at hOF
  obtain ⟨we, hwe⟩ : ∃ we, we = (wrongW X).1 := ⟨_, rfl⟩
  generalize (wrongW X).2 = wa at *
  rw [← hwe] at hOF hw0
  clear hwe
  have HOF := hide hOF
  clear hOF
  have hRU := fun W (hb : Below w.heap.size w W) => run_any none 0 none 0 (tabsW emptyW) emptyW s W (stNew_empty 0 W).st (hA.below hb)
  unfold stV sysI sysV at hRU
  generalize (runS emptyW s).2 = Y at *
  generalize (runS emptyW s).1 = err at *
  have HRU := hide hRU
  have HW0' := hide hw0
  clear hRU hw0 hA
  have hB0 := Bxs.start w [([.slice A X.rows.length cap, .slice G X.gens.length gcap], 40), ([.int .i64 s.m, .int .i64 s.al, .int .i64 s.no, .slice s.A s.len s.cap], 26)]
  have hb0 := allocs_below [([.slice A X.rows.length cap, .slice G X.gens.length gcap], 40), ([.int .i64 s.m, .int .i64 s.al, .int .i64 s.no, .slice s.A s.len s.cap], 26)] w
  obtain ⟨W0, hW0⟩ : ∃ W0, W0 = allocs w [([.slice A X.rows.length cap, .slice G X.gens.length gcap], 40), ([.int .i64 s.m, .int .i64 s.al, .int .i64 s.no, .slice s.A s.len s.cap], 26)] := ⟨_, rfl⟩
  rw [← hW0] at hB0 hb0
  have hW0' : (w.alloc (.cells #[.slice A X.rows.length cap, .slice G X.gens.length gcap] 40)).alloc (.cells #[.int .i64 s.m, .int .i64 s.al, .int .i64 s.no, .slice s.A s.len s.cap] 26) = W0 := hW0.symm
  have HW0 := hide hW0'
  have HB0 := hide hB0
  have HL0 := hide hb0
  have HX := hide hX
  clear hW0 hW0' hB0 hb0 hX
  unfold wldV worldV sysI sysV
  go_enter Try.func5, Try.ntmps5
  go_wp2_with fail
  go_at_call 15
  rw [unhide HW0]
  refine (alive5_any W0).mono ?_
  rintro e w1 ⟨rfl, hb1⟩
  have hB1 := (unhide HB0).below hb1
  have hL1 := (unhide HL0).trans (hb1.mono (unhide HL0).size)
  have c0 := hB1.cell 0 rfl 0 rfl
  have c1 := hB1.cell 0 rfl 1 rfl
  rw [Nat.add_zero] at c0 c1
  have HB1 := hide hB1
  have HL1 := hide hL1
  clear hB1 hL1 hb1 HW0 HB0 HL0
  go_wp2_with fail
  go_at_call 16
  refine (unhide HOF _ (unhide HL1)).mono ?_
  rintro e w2 ⟨rfl, hb2⟩
  have hB2 := Bxs.start w2 [([.slice none 0 0, .slice none 0 0], 43), ([.int .i64 we, .int .i64 wa], 30)]
  have hb3 := allocs_below [([.slice none 0 0, .slice none 0 0], 43), ([.int .i64 we, .int .i64 wa], 30)] w2
  obtain ⟨W3, hW3⟩ : ∃ W3, W3 = allocs w2 [([.slice none 0 0, .slice none 0 0], 43), ([.int .i64 we, .int .i64 wa], 30)] := ⟨_, rfl⟩
  rw [← hW3] at hB2 hb3
  have hL2 := (unhide HL1).trans (hb2.mono (unhide HL1).size)
  have HL3 := hide (hL2.trans (hb3.mono hL2.size))
  have HB3 := hide (((unhide HB1).below hb2).below hb3)
  have HC3 := hide hB2
  have hW3' : (w2.alloc (.cells #[.slice none 0 0, .slice none 0 0] 43)).alloc (.cells #[.int .i64 we, .int .i64 wa] 30) = W3 := hW3.symm
  have HW3 := hide hW3'
  clear c0 c1 hB2 hb3 hb2 hL2 hW3 hW3' HB1 HL1 HOF
  have s0 := (unhide HC3).cell 0 rfl 0 rfl
  have s1 := (unhide HC3).cell 0 rfl 1 rfl
  rw [Nat.add_zero] at s0 s1
  have y0 := (unhide HB3).cell 1 rfl 0 rfl
  have y1 := (unhide HB3).cell 1 rfl 1 rfl
  have y2 := (unhide HB3).cell 1 rfl 2 rfl
  have y3 := (unhide HB3).cell 1 rfl 3 rfl
  go_upto_region 4 with fail
  rw [unhide HW3]
  go_wp2_with fail
  go_at_call 17
  refine (unhide HRU _ (unhide HL3)).mono ?_
  rintro e w4 ⟨T4, tc4, G4, gc4, rfl, hN4, hb4⟩
  have f0 := ((unhide HC3).below hb4).cell 1 rfl 0 rfl
  have lf := World.block_lt_of_cell? w4 _ f0
  have HL4 := hide ((unhide HL3).trans (hb4.mono (unhide HL3).size))
  clear hN4 hb4 s0 s1 y0 y1 y2 y3 HC3 HB3 HRU HW3 HL3
  have hne : (we == 0) = false := by simpa using unhide HW0'
  go_wp2
  go_ret
  exact ⟨rfl, (unhide HL4).trans ((bel1 _ _).mono (unhide HL4).size)⟩
set_option maxRecDepth 8000 in
set_option maxHeartbeats 8000000 in
theorem writes_err (A : Option Addr) (cap : Nat) (G : Option Addr) (gcap : Nat) (X : Wd) (s : SysI) (w : World) (hX : WldAt w A cap G gcap X) (hA : ActsAt w s.A s.len s.a) (hr : RightW X) (he : (runS X s).1 ≠ 0) :
    Calls Try.prog 5 #[wldV A cap G gcap X, sysI s] w fun e w' => e = .returned (.bool true) ∧ Below w.heap.size w w' := by
  obtain ⟨hl, hgl, _⟩ := right_hr ((right_iff X).2 hr)
  have hOF := fun W (hb : Below w.heap.size w W) => of_right A cap G gcap X W (hX.below hb) hr
  unfold wldV worldV stV at hOF
  have HOF := hide hOF
  have HRX := hide hr
  clear hOF hr
  have hRU := fun T tc G gc W (h : StAt W T G (tabsW X) X) (hb : Below w.heap.size w W) => run_any T tc G gc (tabsW X) X s W h (hA.below hb)
  unfold stV sysI sysV at hRU
  obtain ⟨Y, hY⟩ : ∃ Y, Y = (runS X s).2 := ⟨_, rfl⟩
  obtain ⟨err, herr⟩ : ∃ err, err = (runS X s).1 := ⟨_, rfl⟩
  rw [← hY, ← herr] at hRU
  rw [← herr] at he
  have hne : (err == 0) = false := by simpa using he
  clear he
  have HRU := hide hRU
  clear hRU hA hY herr
  have hB0 := Bxs.start w [([.slice A X.rows.length cap, .slice G X.gens.length gcap], 40), ([.int .i64 s.m, .int .i64 s.al, .int .i64 s.no, .slice s.A s.len s.cap], 26)]
  have hb0 := allocs_below [([.slice A X.rows.length cap, .slice G X.gens.length gcap], 40), ([.int .i64 s.m, .int .i64 s.al, .int .i64 s.no, .slice s.A s.len s.cap], 26)] w
  obtain ⟨W0, hW0⟩ : ∃ W0, W0 = allocs w [([.slice A X.rows.length cap, .slice G X.gens.length gcap], 40), ([.int .i64 s.m, .int .i64 s.al, .int .i64 s.no, .slice s.A s.len s.cap], 26)] := ⟨_, rfl⟩
  rw [← hW0] at hB0 hb0
  have hW0' : (w.alloc (.cells #[.slice A X.rows.length cap, .slice G X.gens.length gcap] 40)).alloc (.cells #[.int .i64 s.m, .int .i64 s.al, .int .i64 s.no, .slice s.A s.len s.cap] 26) = W0 := hW0.symm
  have HW0 := hide hW0'
  have HB0 := hide hB0
  have HL0 := hide hb0
  have HX := hide hX
  clear hW0 hW0' hB0 hb0 hX
  unfold wldV worldV sysI sysV
  go_enter Try.func5, Try.ntmps5
  go_wp2_with fail
  go_at_call 15
  rw [unhide HW0]
  refine (alive5_any W0).mono ?_
  rintro e w1 ⟨rfl, hb1⟩
  have hB1 := (unhide HB0).below hb1
  have hL1 := (unhide HL0).trans (hb1.mono (unhide HL0).size)
  have c0 := hB1.cell 0 rfl 0 rfl
  have c1 := hB1.cell 0 rfl 1 rfl
  rw [Nat.add_zero] at c0 c1
  have HB1 := hide hB1
  have HL1 := hide hL1
  clear hB1 hL1 hb1 HW0 HB0 HL0
  go_wp2_with fail
  go_at_call 16
  refine (unhide HOF _ (unhide HL1)).mono ?_
  rintro e w2 ⟨T2, tc2, G2, gc2, rfl, hN2, hb2⟩
  have hB2 := Bxs.start w2 [([.slice T2 (tabsW X).length tc2, .slice G2 X.gens.length gc2], 43), ([.int .i64 0, .int .i64 0], 30)]
  have hb3 := allocs_below [([.slice T2 (tabsW X).length tc2, .slice G2 X.gens.length gc2], 43), ([.int .i64 0, .int .i64 0], 30)] w2
  obtain ⟨W3, hW3⟩ : ∃ W3, W3 = allocs w2 [([.slice T2 (tabsW X).length tc2, .slice G2 X.gens.length gc2], 43), ([.int .i64 0, .int .i64 0], 30)] := ⟨_, rfl⟩
  rw [← hW3] at hB2 hb3
  have hL2 := (unhide HL1).trans (hb2.mono (unhide HL1).size)
  have HL3 := hide (hL2.trans (hb3.mono hL2.size))
  have HB3 := hide (((unhide HB1).below hb2).below hb3)
  have HC3 := hide hB2
  have HT3 := hide (hN2.below hb3).st
  have HX3 := hide ((unhide HX).below (hL2.trans (hb3.mono hL2.size)))
  have hW3' : (w2.alloc (.cells #[.slice T2 (tabsW X).length tc2, .slice G2 X.gens.length gc2] 43)).alloc (.cells #[.int .i64 0, .int .i64 0] 30) = W3 := hW3.symm
  have HW3 := hide hW3'
  clear c0 c1 hB2 hb3 hb2 hL2 hW3 hW3' hN2 HB1 HL1 HOF HX
  have s0 := (unhide HC3).cell 0 rfl 0 rfl
  have s1 := (unhide HC3).cell 0 rfl 1 rfl
  rw [Nat.add_zero] at s0 s1
  have y0 := (unhide HB3).cell 1 rfl 0 rfl
  have y1 := (unhide HB3).cell 1 rfl 1 rfl
  have y2 := (unhide HB3).cell 1 rfl 2 rfl
  have y3 := (unhide HB3).cell 1 rfl 3 rfl
  go_upto_region 4 with fail
  rw [unhide HW3]
  go_wp2_with fail
  go_at_call 17
  refine (unhide HRU T2 tc2 G2 gc2 _ (unhide HT3) (unhide HL3)).mono ?_
  rintro e w4 ⟨T4, tc4, G4, gc4, rfl, hN4, hb4⟩
  have f0 := ((unhide HC3).below hb4).cell 1 rfl 0 rfl
  have lf := World.block_lt_of_cell? w4 _ f0
  have HL4 := hide ((unhide HL3).trans (hb4.mono (unhide HL3).size))
  clear hN4 hb4 s0 s1 y0 y1 y2 y3 HC3 HB3 HRU HW3 HL3
  go_wp2
  go_ret
  exact ⟨rfl, (unhide HL4).trans ((bel1 _ _).mono (unhide HL4).size)⟩
set_option maxRecDepth 8000 in
set_option maxHeartbeats 8000000 in
theorem writes_right (A : Option Addr) (cap : Nat) (G : Option Addr) (gcap : Nat) (X : Wd) (s : SysI) (w : World) (hX : WldAt w A cap G gcap X) (hA : ActsAt w s.A s.len s.a) (hr : RightW X) (he : (runS X s).1 = 0) :
    Calls Try.prog 5 #[wldV A cap G gcap X, sysI s] w fun e w' => e = .returned (.bool true) ∧ Below w.heap.size w w' := by
  have hWS := fun j (hj : j < X.rows.length) => writes hr he hj
  have hWL := fun h => writes_len (m := s.m) (al := s.al) (no := s.no) (a := s.a) (len := s.len) (X := X) he h
  have hYR := run_right hr he
  have hw : (wrF s.m s.al s.no s.a s.len).1 = 0 := by
    have he2 : (runF X s.m s.al s.no s.a s.len).1 = 0 := he
    unfold runF at he2
    by_cases e : (wrF s.m s.al s.no s.a s.len).1 = 0
    · exact e
    · rw [if_pos e] at he2; exact he2
  have hws := wrTo_set s.al s.a s.len ((right_spec _ _ _ _ _).1 hw).2.2
  have hND := fun W (hb : Below w.heap.size w W) => needs_any s.m s.al s.no s.A s.len s.cap s.a W (wr_len hw) (hA.below hb)
  unfold sysV needsV at hND
  obtain ⟨hl, hgl, _⟩ := right_hr ((right_iff X).2 hr)
  have hOF := fun W (hb : Below w.heap.size w W) => of_right A cap G gcap X W (hX.below hb) hr
  unfold wldV worldV stV at hOF
  have HOF := hide hOF
  have HRX := hide hr
  clear hOF hr
  have hRU := fun T tc G gc W (h : StAt W T G (tabsW X) X) (hb : Below w.heap.size w W) => run_any T tc G gc (tabsW X) X s W h (hA.below hb)
  unfold stV sysI sysV at hRU
  obtain ⟨Y, hY⟩ : ∃ Y, Y = (runS X s).2 := ⟨_, rfl⟩
  obtain ⟨err, herr⟩ : ∃ err, err = (runS X s).1 := ⟨_, rfl⟩
  rw [← hY, ← herr] at hRU
  rw [← herr] at he
  have hWS : ∀ j, j < X.rows.length → (lfTo s.a s.len = true ∧ findW Y (rowOf X j).ix (rowOf X j).gen = -1) ∨ ∃ q : Nat, q < Y.rows.length ∧ findW Y (rowOf X j).ix (rowOf X j).gen = (q : Int) ∧ (mvTo s.al s.a s.len = false → (rowOf Y q).has = (rowOf X j).has) ∧ ∀ k : Nat, k < 8 → bt (wrTo s.a s.len) k = false → (rowOf Y q).v k = (rowOf X j).v k ∧ bt (rowOf Y q).has k = bt (rowOf X j).has k := by rw [hY]; exact hWS
  have hWL : lfTo s.a s.len = false → Y.rows.length = X.rows.length := by rw [hY]; exact hWL
  have hYR : RightW Y := by rw [hY]; exact hYR
  obtain ⟨hyl, hygl, _⟩ := right_hr ((right_iff Y).2 hYR)
  obtain ⟨rd, hrd⟩ : ∃ rd, rd = rdTo s.a s.len := ⟨_, rfl⟩
  obtain ⟨ws, hws'⟩ : ∃ ws, ws = wrTo s.a s.len := ⟨_, rfl⟩
  obtain ⟨mv, hmv⟩ : ∃ mv, mv = mvTo s.al s.a s.len := ⟨_, rfl⟩
  obtain ⟨lf, hlf⟩ : ∃ lf, lf = lfTo s.a s.len := ⟨_, rfl⟩
  rw [← hrd, ← hws', ← hmv, ← hlf] at hND
  rw [← hws'] at hws
  simp only [← hws', ← hmv, ← hlf] at hWS hWL
  have HWS := hide hWS
  have HWL := hide hWL
  have HYR := hide hYR
  have HND := hide hND
  have HSW := hide hws
  subst he
  clear hWS hWL hYR hND hws hrd hws' hmv hlf hw
  have HRU := hide hRU
  clear hRU hA hY herr
  have hB0 := Bxs.start w [([.slice A X.rows.length cap, .slice G X.gens.length gcap], 40), ([.int .i64 s.m, .int .i64 s.al, .int .i64 s.no, .slice s.A s.len s.cap], 26)]
  have hb0 := allocs_below [([.slice A X.rows.length cap, .slice G X.gens.length gcap], 40), ([.int .i64 s.m, .int .i64 s.al, .int .i64 s.no, .slice s.A s.len s.cap], 26)] w
  obtain ⟨W0, hW0⟩ : ∃ W0, W0 = allocs w [([.slice A X.rows.length cap, .slice G X.gens.length gcap], 40), ([.int .i64 s.m, .int .i64 s.al, .int .i64 s.no, .slice s.A s.len s.cap], 26)] := ⟨_, rfl⟩
  rw [← hW0] at hB0 hb0
  have hW0' : (w.alloc (.cells #[.slice A X.rows.length cap, .slice G X.gens.length gcap] 40)).alloc (.cells #[.int .i64 s.m, .int .i64 s.al, .int .i64 s.no, .slice s.A s.len s.cap] 26) = W0 := hW0.symm
  have HW0 := hide hW0'
  have HB0 := hide hB0
  have HL0 := hide hb0
  have HX := hide hX
  clear hW0 hW0' hB0 hb0 hX
  unfold wldV worldV sysI sysV
  go_enter Try.func5, Try.ntmps5
  go_wp2_with fail
  go_at_call 15
  rw [unhide HW0]
  refine (alive5_any W0).mono ?_
  rintro e w1 ⟨rfl, hb1⟩
  have hB1 := (unhide HB0).below hb1
  have hL1 := (unhide HL0).trans (hb1.mono (unhide HL0).size)
  have c0 := hB1.cell 0 rfl 0 rfl
  have c1 := hB1.cell 0 rfl 1 rfl
  rw [Nat.add_zero] at c0 c1
  have HB1 := hide hB1
  have HL1 := hide hL1
  clear hB1 hL1 hb1 HW0 HB0 HL0
  go_wp2_with fail
  go_at_call 16
  refine (unhide HOF _ (unhide HL1)).mono ?_
  rintro e w2 ⟨T2, tc2, G2, gc2, rfl, hN2, hb2⟩
  have hB2 := Bxs.start w2 [([.slice T2 (tabsW X).length tc2, .slice G2 X.gens.length gc2], 43), ([.int .i64 0, .int .i64 0], 30)]
  have hb3 := allocs_below [([.slice T2 (tabsW X).length tc2, .slice G2 X.gens.length gc2], 43), ([.int .i64 0, .int .i64 0], 30)] w2
  obtain ⟨W3, hW3⟩ : ∃ W3, W3 = allocs w2 [([.slice T2 (tabsW X).length tc2, .slice G2 X.gens.length gc2], 43), ([.int .i64 0, .int .i64 0], 30)] := ⟨_, rfl⟩
  rw [← hW3] at hB2 hb3
  have hL2 := (unhide HL1).trans (hb2.mono (unhide HL1).size)
  have HL3 := hide (hL2.trans (hb3.mono hL2.size))
  have HB3 := hide (((unhide HB1).below hb2).below hb3)
  have HC3 := hide hB2
  have HT3 := hide (hN2.below hb3).st
  have HX3 := hide ((unhide HX).below (hL2.trans (hb3.mono hL2.size)))
  have hW3' : (w2.alloc (.cells #[.slice T2 (tabsW X).length tc2, .slice G2 X.gens.length gc2] 43)).alloc (.cells #[.int .i64 0, .int .i64 0] 30) = W3 := hW3.symm
  have HW3 := hide hW3'
  clear c0 c1 hB2 hb3 hb2 hL2 hW3 hW3' hN2 HB1 HL1 HOF HX
  have s0 := (unhide HC3).cell 0 rfl 0 rfl
  have s1 := (unhide HC3).cell 0 rfl 1 rfl
  rw [Nat.add_zero] at s0 s1
  have y0 := (unhide HB3).cell 1 rfl 0 rfl
  have y1 := (unhide HB3).cell 1 rfl 1 rfl
  have y2 := (unhide HB3).cell 1 rfl 2 rfl
  have y3 := (unhide HB3).cell 1 rfl 3 rfl
  go_upto_region 4 with fail
  rw [unhide HW3]
  go_wp2_with fail
  go_at_call 17
  refine (unhide HRU T2 tc2 G2 gc2 _ (unhide HT3) (unhide HL3)).mono ?_
  rintro e w4 ⟨T4, tc4, G4, gc4, rfl, hN4, hb4⟩
  have hb5 := bel1 w4 (.cells #[.slice T4 (tabsW Y).length tc4, .slice G4 Y.gens.length gc4] 43)
  have hB5 := ((unhide HB3).below hb4).below hb5
  have hC5 := ((unhide HC3).below hb4).below hb5
  have hE5 := Bxs.start w4 [([.slice T4 (tabsW Y).length tc4, .slice G4 Y.gens.length gc4], 43)]
  have hU5 := (hN4.below hb5).st
  have hX5 := ((unhide HX3).below hb4).below hb5
  have hL5 := ((unhide HL3).trans (hb4.mono (unhide HL3).size)).trans (hb5.mono ((unhide HL3).trans (hb4.mono (unhide HL3).size)).size)
  obtain ⟨W5, hW5⟩ : ∃ W5, W5 = w4.alloc (.cells #[.slice T4 (tabsW Y).length tc4, .slice G4 Y.gens.length gc4] 43) := ⟨_, rfl⟩
  have hW5' : w4.alloc (.cells #[.slice T4 (tabsW Y).length tc4, .slice G4 Y.gens.length gc4] 43) = W5 := hW5.symm
  have hE5 : Bxs w4.heap.size [([.slice T4 (tabsW Y).length tc4, .slice G4 Y.gens.length gc4], 43)] W5 := by rw [hW5]; exact hE5
  rw [← hW5] at hB5 hC5 hU5 hX5 hL5
  have f0 := hC5.cell 1 rfl 0 rfl
  have HB5 := hide hB5
  have HE5 := hide hE5
  have HU5 := hide hU5
  have HX5 := hide hX5
  have HL5 := hide hL5
  have HW5 := hide hW5'
  clear hb4 hb5 hN4 hB5 hC5 hE5 hU5 hX5 hL5 hW5 hW5' HB3 HC3 HT3 HX3 HL3 HW3 HRU s0 s1 y0 y1 y2 y3
  go_upto_region 5 with fail
  rw [unhide HW5]
  go_wp2_with fail
  have h0 : R7 W5 Y [.int .i64 0, .int .i64 0, .bool false, .bool false] [.int .i64 rd, .int .i64 ws, .bool mv, .bool lf] g7 (fun _ => false) W5.drew := R7.start _ _ _ _
  refine wp_region_gho (fun (γ : G7) ix v => if ix = 3 then v = .agg #[.slice γ.vA Y.rows.length γ.vc, .slice γ.vG Y.gens.length γ.vgc] else if ix = 4 then v = .pointer (some ⟨γ.p9, 0, none⟩) else if ix = 5 then v = .pointer (some ⟨γ.p10, 0, none⟩) else (([fun v => v = .agg #[.int .i64 s.m, .int .i64 s.al, .int .i64 s.no, .slice s.A s.len s.cap], fun v => v = .agg #[.int .i64 rd, .int .i64 ws, .bool mv, .bool lf], fun v => v = .agg #[.slice T4 (tabsW Y).length tc4, .slice G4 Y.gens.length gc4], fun _ => True, fun _ => True, fun _ => True, fun _ => True, fun _ => True] : List (Value → Prop)).getD ix (fun _ => True)) v) (fun (γ : G7) L W => R7 W5 Y [.int .i64 0, .int .i64 0, .bool false, .bool false] [.int .i64 rd, .int .i64 ws, .bool mv, .bool lf] γ L W) (g7) (by kernel_rfl) (by kernel_rfl) (by kernel_rfl) h0 ?hstep ?hend
  case hstep =>
    intro γ ix o ho L ac w1 hD hL hed hcl hout hv
    match ix, ho with
    | 0, ho =>
      simp at ho
      subst ho
      have e3 : ac.tmps.getD 3 undef = .pointer (some ⟨w.heap.size + 1, 0, none⟩) := hout 3 (by decide +kernel)
      have bb := (unhide HB5).below hD.bel
      have c0 := bb.cell 1 rfl 0 rfl
      have c1 := bb.cell 1 rfl 1 rfl
      have c2 := bb.cell 1 rfl 2 rfl
      have c3 := bb.cell 1 rfl 3 rfl
      exact .inl ⟨rfl, gho_reads γ (.agg #[.int .i64 s.m, .int .i64 s.al, .int .i64 s.no, .slice s.A s.len s.cap]) (by simp [go_sem, Act.eval, -Array.getD_eq_getD_getElem?, e3, c0, c1, c2, c3]) rfl (hD.same (by decide)) (fun _ _ _ _ h => h)⟩
    | 1, ho =>
      simp at ho
      subst ho
      have e35 : ac.tmps.getD 35 undef = .agg #[.int .i64 s.m, .int .i64 s.al, .int .i64 s.no, .slice s.A s.len s.cap] := hv 0 35 rfl (by kernel_rfl)
      refine .inl ⟨rfl, gho_enters 14 #[.agg #[.int .i64 s.m, .int .i64 s.al, .int .i64 s.no, .slice s.A s.len s.cap]] (by simp [go_sem, Act.eval, -Array.getD_eq_getD_getElem?, e35]) ?_⟩
      refine (unhide HND w1 ((unhide HL5).trans (hD.bel.mono (unhide HL5).size))).mono ?_
      rintro e w6 ⟨rfl, hb6⟩
      exact ⟨_, γ, rfl, rfl, (hD.same (by decide)).below hb6, fun _ _ _ _ h => h⟩
    | 2, ho =>
      simp at ho
      subst ho
      have e7 : ac.tmps.getD 7 undef = .pointer (some ⟨w4.heap.size, 0, none⟩) := hout 7 (by decide +kernel)
      have bb := (unhide HE5).below hD.bel
      have c0 := bb.cell 0 rfl 0 rfl
      have c1 := bb.cell 0 rfl 1 rfl
      rw [Nat.add_zero] at c0 c1
      exact .inl ⟨rfl, gho_reads γ (.agg #[.slice T4 (tabsW Y).length tc4, .slice G4 Y.gens.length gc4]) (by simp [go_sem, Act.eval, -Array.getD_eq_getD_getElem?, e7, c0, c1]) rfl (hD.same (by decide)) (fun _ _ _ _ h => h)⟩
    | 3, ho =>
      simp at ho
      subst ho
      have e37 : ac.tmps.getD 37 undef = .agg #[.slice T4 (tabsW Y).length tc4, .slice G4 Y.gens.length gc4] := hv 2 37 rfl (by kernel_rfl)
      have q7 : L 7 = false := by
        cases h : L 7
        · rfl
        · exact absurd (hcl 7 _ rfl h 3 (by kernel_rfl)) (by rw [hL]; decide)
      refine .inl ⟨rfl, gho_enters 18 #[.agg #[.slice T4 (tabsW Y).length tc4, .slice G4 Y.gens.length gc4]] (by simp [go_sem, Act.eval, -Array.getD_eq_getD_getElem?, e37]) ?_⟩
      refine (sworld_any T4 tc4 G4 gc4 (tabsW Y) Y w1 ((unhide HU5).below hD.bel)).mono ?_
      rintro e w6 ⟨A6, c6, G6, gc6, rfl, hN6, hb6⟩
      exact ⟨_, ⟨γ.p9, γ.p10, A6, c6, G6, gc6⟩, rfl, rfl, hD.world q7 hN6 hb6, fun j u hj hLj h => by simpa [hj] using h⟩
    | 4, ho =>
      simp at ho
      subst ho
      have q6 : L 6 = false := by
        cases h : L 6
        · rfl
        · exact absurd (hcl 6 _ rfl h 4 (by kernel_rfl)) (by rw [hL]; decide)
      exact .inl ⟨rfl, gho_makes ⟨w1.heap.size, γ.p10, γ.vA, γ.vc, γ.vG, γ.vgc⟩ (.pointer (some ⟨w1.heap.size, 0, none⟩)) (w2 := w1.alloc (.cells #[.int .i64 0, .int .i64 0, .bool false, .bool false] 34)) (by simp [go_sem, Act.eval]) rfl (hD.make9 q6) (fun j u hj hLj h => by simpa [hj] using h)⟩
    | 5, ho =>
      simp at ho
      subst ho
      have q7 : L 7 = false := by
        cases h : L 7
        · rfl
        · exact absurd (hcl 7 _ rfl h 5 (by kernel_rfl)) (by rw [hL]; decide)
      exact .inl ⟨rfl, gho_makes ⟨γ.p9, w1.heap.size, γ.vA, γ.vc, γ.vG, γ.vgc⟩ (.pointer (some ⟨w1.heap.size, 0, none⟩)) (w2 := w1.alloc (.cells #[.slice none 0 0, .slice none 0 0] 40)) (by simp [go_sem, Act.eval]) rfl (hD.make10 q7) (fun j u hj hLj h => by simpa [hj] using h)⟩
    | 6, ho =>
      simp at ho
      subst ho
      have e9 : ac.tmps.getD 9 undef = .pointer (some ⟨γ.p9, 0, none⟩) := hv 4 9 rfl (by kernel_rfl)
      have e36 : ac.tmps.getD 36 undef = .agg #[.int .i64 rd, .int .i64 ws, .bool mv, .bool lf] := hv 1 36 rfl (by kernel_rfl)
      have q4 : L 4 = true := hed 4 (by kernel_rfl)
      have hb9 := (hD.b9 q4).2
      rw [hL] at hb9
      exact .inl ⟨rfl, gho_putN γ 34 (.tmp 9) (.tmp 36) rfl γ.p9 0 [.int .i64 rd, .int .i64 ws, .bool mv, .bool lf] (by simp [Act.eval, -Array.getD_eq_getD_getElem?, e9]) (by simp [Act.eval, -Array.getD_eq_getD_getElem?, e36]) (by simp [Value.oneCell']) size34 (hb9.there 0 rfl 4 rfl) trivial (hD.put6 q4 hL rfl) (fun _ _ _ _ h => h)⟩
    | 7, ho =>
      simp at ho
      subst ho
      have e10 : ac.tmps.getD 10 undef = .pointer (some ⟨γ.p10, 0, none⟩) := hv 5 10 rfl (by kernel_rfl)
      have e38 : ac.tmps.getD 38 undef = .agg #[.slice γ.vA Y.rows.length γ.vc, .slice γ.vG Y.gens.length γ.vgc] := hv 3 38 rfl (by kernel_rfl)
      have q3 : L 3 = true := hed 3 (by kernel_rfl)
      have q5 : L 5 = true := hed 5 (by kernel_rfl)
      have hb10 := (hD.b10 q5).2
      rw [hL] at hb10
      exact .inl ⟨rfl, gho_putN γ 40 (.tmp 10) (.tmp 38) rfl γ.p10 0 [.slice γ.vA Y.rows.length γ.vc, .slice γ.vG Y.gens.length γ.vgc] (by simp [Act.eval, -Array.getD_eq_getD_getElem?, e10]) (by simp [Act.eval, -Array.getD_eq_getD_getElem?, e38]) (by simp [Value.oneCell']) size38 (hb10.there 0 rfl 2 rfl) trivial (hD.put7 q3 q5 hL) (fun _ _ _ _ h => h)⟩
    | ix + 8, ho => simp at ho
  case hend =>
    intro γ v L w8 hD hall hv
    have a3 := hall 3 (by decide)
    have a4 := hall 4 (by decide)
    have a5 := hall 5 (by decide)
    have a6 := hall 6 (by decide)
    have a7 := hall 7 (by decide)
    have v4 : v 4 = .pointer (some ⟨γ.p9, 0, none⟩) := hv 4 9 rfl
    have v5 : v 5 = .pointer (some ⟨γ.p10, 0, none⟩) := hv 5 10 rfl
    have hY8 := hD.wld a3
    have h9 := (hD.b9 a4).2
    have h10 := (hD.b10 a5).2
    rw [a6, if_pos rfl] at h9
    rw [a7, if_pos rfl] at h10
    have hb8 := hD.bel
    have hB8 := (unhide HB5).below hb8
    have r0 := hB8.cell 0 rfl 0 rfl
    rw [Nat.add_zero] at r0
    obtain ⟨p9, p10, A5, c5, G5, gc5⟩ := γ
    dsimp only at v4 v5 hY8 h9 h10
    have HY8 := hide hY8
    have H9 := hide h9
    have H10 := hide h10
    have HB8 := hide hB8
    have HX8 := hide ((unhide HX5).below hb8)
    have HL8 := hide ((unhide HL5).trans (hb8.mono (unhide HL5).size))
    clear hv hall hD h0 hY8 h9 h10 hb8 hB8 a3 a4 a5 a6 a7 HB5 HE5 HU5 HX5 HL5 HW5 HND f0
    simp only [putOps, List.getElem?_cons_zero, List.getElem?_cons_succ, Option.bind_some, List.length_cons, List.length_nil, Nat.reduceAdd, v4, v5]
    clear v4 v5
    go_frame
    go_wp2_with fail
    clear r0
    go_loopw [42] (fun x wr => ∃ k : Nat, k ≤ X.rows.length ∧ x = .int .i64 (k : Int) ∧ Below w8.heap.size w8 wr) (fun x _ => X.rows.length - (intOf x).toNat)
    case atStart => exact ⟨0, Nat.zero_le _, rfl, Below.refl _ _⟩
    case round =>
      obtain ⟨k, hk, rfl, hbr⟩ := hrel
      by_cases hlt : k < X.rows.length
      · have k0 : (0 : Int) ≤ (k : Int) := by omega
        have k1 : (k : Int) < (X.rows.length : Int) := by omega
        obtain ⟨wk, rfl⟩ : ∃ wk, wk = wr := ⟨_, rfl⟩
        obtain ⟨rb, ro, hAe, hrow⟩ := ((unhide HX8).below hbr).rows k hlt
        have hrow : RowAt wk rb (ro + k * 11) (rowOf X k) := hrow
        have hWk := unhide HWS k hlt
        have hsr : setB (rowOf X k).has = true := rv_set ((unhide HRX).rv k hlt)
        obtain ⟨r, hrr⟩ : ∃ r, r = rowOf X k := ⟨_, rfl⟩
        rw [← hrr] at hrow hWk hsr
        obtain ⟨c0, c1, c2, c3, c4, c5x, c6, c7, c8x, c9, c10⟩ := rowAt_all hrow
        have hbz := bel1 wk (.cells #[.int .i64 r.ix, .int .i64 r.gen, .int .i64 r.has, .int .i64 (r.v 0), .int .i64 (r.v 1), .int .i64 (r.v 2), .int .i64 (r.v 3), .int .i64 (r.v 4), .int .i64 (r.v 5), .int .i64 (r.v 6), .int .i64 (r.v 7)] 53)
        have hR9 := Bxs.start wk [([.int .i64 r.ix, .int .i64 r.gen, .int .i64 r.has, .int .i64 (r.v 0), .int .i64 (r.v 1), .int .i64 (r.v 2), .int .i64 (r.v 3), .int .i64 (r.v 4), .int .i64 (r.v 5), .int .i64 (r.v 6), .int .i64 (r.v 7)], 53)]
        obtain ⟨W9, hW9⟩ : ∃ W9, W9 = wk.alloc (.cells #[.int .i64 r.ix, .int .i64 r.gen, .int .i64 r.has, .int .i64 (r.v 0), .int .i64 (r.v 1), .int .i64 (r.v 2), .int .i64 (r.v 3), .int .i64 (r.v 4), .int .i64 (r.v 5), .int .i64 (r.v 6), .int .i64 (r.v 7)] 53) := ⟨_, rfl⟩
        have hW9' : wk.alloc (.cells #[.int .i64 r.ix, .int .i64 r.gen, .int .i64 r.has, .int .i64 (r.v 0), .int .i64 (r.v 1), .int .i64 (r.v 2), .int .i64 (r.v 3), .int .i64 (r.v 4), .int .i64 (r.v 5), .int .i64 (r.v 6), .int .i64 (r.v 7)] 53) = W9 := hW9.symm
        have hR9 : Bxs wk.heap.size [([.int .i64 r.ix, .int .i64 r.gen, .int .i64 r.has, .int .i64 (r.v 0), .int .i64 (r.v 1), .int .i64 (r.v 2), .int .i64 (r.v 3), .int .i64 (r.v 4), .int .i64 (r.v 5), .int .i64 (r.v 6), .int .i64 (r.v 7)], 53)] W9 := by rw [hW9]; exact hR9
        rw [← hW9] at hbz
        have hL9 := hbr.trans (hbz.mono hbr.size)
        have hV9 := (unhide H10).below hL9
        have v0 := hV9.cell 0 rfl 0 rfl
        have v1 := hV9.cell 0 rfl 1 rfl
        have x0 := hR9.cell 0 rfl 0 rfl
        have x1 := hR9.cell 0 rfl 1 rfl
        rw [Nat.add_zero] at v0 v1 x0 x1
        obtain ⟨p, hpc, hp⟩ := row_ptr Y hyl r.ix r.gen A5 c5 G5 gc5 W9 ((unhide HY8).below hL9)
        have HPC := hide (hpc W9 (Below.refl _ _))
        have HL9 := hide hL9
        have HR9 := hide hR9
        have HW9 := hide hW9'
        have HWK := hide hWk
        have HSR := hide hsr
        clear hrow hWk hsr hbr hbz hR9 hW9 hW9' hrr hpc hV9 hL9
        subst hAe
        go_upto_region 11 with fail
        rw [unhide HW9]
        go_wp2_with fail
        go_at_call 19
        refine (unhide HPC).mono ?_
        rintro e w11 ⟨rfl, hb11⟩
        have hL11 := (unhide HL9).trans (hb11.mono (unhide HL9).size)
        have hn11 := (unhide H9).below hL11
        have n3 := hn11.cell 0 rfl 3 rfl
        rw [Nat.add_zero] at n3
        have HN11 := hide hn11
        have HL11 := hide hL11
        have HR11 := hide ((unhide HR9).below hb11)
        rcases hp with ⟨rfl, hf⟩ | ⟨k2, pb, po, rfl, hk2, hf, hpr⟩
        · rcases unhide HWK with ⟨rfl, _⟩ | ⟨q, _, hq, _⟩
          · clear hb11 hL11 hn11 v0 v1 x0 x1 c0 c1 c2 c3 c4 c5x c6 c7 c8x c9 c10
            go_wp2
            go_roundw
            case rel => exact ⟨k + 1, by omega, by go_num, unhide HL11⟩
            case measure => simp [intOf]; omega
          · exact absurd (hf.symm.trans hq) (by omega)
        · rcases unhide HWK with ⟨_, hq⟩ | ⟨q, hq, hfq, hmq, hvq⟩
          · exact absurd (hf.symm.trans hq) (by omega)
          · have : q = k2 := by omega
            subst this
            have hsz : setB (rowOf Y q).has = true := rv_set ((unhide HYR).rv q hq)
            obtain ⟨z, hzz⟩ : ∃ z, z = rowOf Y q := ⟨_, rfl⟩
            rw [← hzz] at hpr hmq hvq hsz
            have HPR := hide (hpr.below hb11)
            have HVQ := hide hvq
            have HSZ := hide hsz
            clear hpr hvq hsz hzz hq hfq hk2 hf hb11 hL11 hn11 v0 v1 x0 x1 n3 c0 c1 c2 c3 c4 c5x c6 c7 c8x c9 c10 HWK HPC
            go_wp2_with fail
            have h0 : Below w11.heap.size w11 w11.drew := (Below.refl _ _).drew
            cases mv
            · have hhas := hmq rfl
              clear hmq
              refine wp_region_gho (fun (γ : Unit) ix v => (([fun v => v = .pointer (some ⟨p9, 2, none⟩), fun v => v = .bool false, fun v => v = .bool true, fun v => v = .bool true, fun v => v = .pointer (some ⟨pb, po, none⟩), fun v => v = .pointer (some ⟨pb, po, none⟩), fun v => v = .pointer (some ⟨pb, po + 2, none⟩), fun v => v = .int .i64 z.has, fun v => v = .pointer (some ⟨wk.heap.size, 2, none⟩), fun v => v = .int .i64 r.has, fun v => v = .bool false, fun v => v = .bool false] : List (Value → Prop)).getD ix (fun _ => True)) v) (fun (_ : Unit) (_ : Nat → Bool) W => Below w11.heap.size w11 W) (()) (by kernel_rfl) (by kernel_rfl) (by kernel_rfl) h0 ?hstep ?hend
              case hstep =>
                intro γ ix o ho L ac w1 hD hL hed hcl hout hv
                match ix, ho with
                | 0, ho =>
                  simp at ho
                  subst ho
                  have e9 : ac.tmps.getD 9 undef = .pointer (some ⟨p9, 0, none⟩) := hout 9 (by decide +kernel)
                  exact .inl ⟨rfl, gho_reads γ (.pointer (some ⟨p9, 2, none⟩)) (by simp [go_sem, Act.eval, -Array.getD_eq_getD_getElem?, e9]) rfl (hD) (fun _ _ _ _ h => h)⟩
                | 1, ho =>
                  simp at ho
                  subst ho
                  have e55 : ac.tmps.getD 55 undef = .pointer (some ⟨p9, 2, none⟩) := hv 0 55 rfl (by kernel_rfl)
                  have bb := (unhide HN11).below hD
                  have c0 := bb.cell 0 rfl 2 rfl
                  rw [Nat.add_zero] at c0
                  exact .inl ⟨rfl, gho_reads γ (.bool false) (by simp [go_sem, Act.eval, -Array.getD_eq_getD_getElem?, e55, c0]) rfl (hD) (fun _ _ _ _ h => h)⟩
                | 2, ho =>
                  simp at ho
                  subst ho
                  have e56 : ac.tmps.getD 56 undef = .bool false := hv 1 56 rfl (by kernel_rfl)
                  exact .inl ⟨rfl, gho_reads γ (.bool true) (by simp [go_sem, Act.eval, -Array.getD_eq_getD_getElem?, e56]) rfl (hD) (fun _ _ _ _ h => h)⟩
                | 3, ho =>
                  simp at ho
                  subst ho
                  have e57 : ac.tmps.getD 57 undef = .bool true := hv 2 57 rfl (by kernel_rfl)
                  exact .inl ⟨rfl, gho_reads γ (.bool true) (by simp [go_sem, Act.eval, -Array.getD_eq_getD_getElem?, e57]) rfl (hD) (fun _ _ _ _ h => h)⟩
                | 4, ho =>
                  simp at ho
                  subst ho
                  have eg : ac.tmps.getD 58 undef = .bool true := hv 3 58 rfl (by kernel_rfl)
                  have e13 : ac.tmps.getD 13 undef = .pointer (some ⟨pb, po, none⟩) := hout 13 (by decide +kernel)
                  exact .inl ⟨wanted_of rfl rfl eg, gho_reads γ (.pointer (some ⟨pb, po, none⟩)) (by simp [go_sem, Act.eval, -Array.getD_eq_getD_getElem?, e13]) rfl (hD) (fun _ _ _ _ h => h)⟩
                | 5, ho =>
                  simp at ho
                  subst ho
                  have eg : ac.tmps.getD 58 undef = .bool true := hv 3 58 rfl (by kernel_rfl)
                  have e59 : ac.tmps.getD 59 undef = .pointer (some ⟨pb, po, none⟩) := hv 4 59 rfl (by kernel_rfl)
                  exact .inl ⟨wanted_of rfl rfl eg, gho_reads γ (.pointer (some ⟨pb, po, none⟩)) (by simp [go_sem, Act.eval, -Array.getD_eq_getD_getElem?, e59]) rfl (hD) (fun _ _ _ _ h => h)⟩
                | 6, ho =>
                  simp at ho
                  subst ho
                  have eg : ac.tmps.getD 58 undef = .bool true := hv 3 58 rfl (by kernel_rfl)
                  have e60 : ac.tmps.getD 60 undef = .pointer (some ⟨pb, po, none⟩) := hv 5 60 rfl (by kernel_rfl)
                  exact .inl ⟨wanted_of rfl rfl eg, gho_reads γ (.pointer (some ⟨pb, po + 2, none⟩)) (by simp [go_sem, Act.eval, -Array.getD_eq_getD_getElem?, e60]) rfl (hD) (fun _ _ _ _ h => h)⟩
                | 7, ho =>
                  simp at ho
                  subst ho
                  have eg : ac.tmps.getD 58 undef = .bool true := hv 3 58 rfl (by kernel_rfl)
                  have e61 : ac.tmps.getD 61 undef = .pointer (some ⟨pb, po + 2, none⟩) := hv 6 61 rfl (by kernel_rfl)
                  have c2 := ((unhide HPR).below hD).c2
                  exact .inl ⟨wanted_of rfl rfl eg, gho_reads γ (.int .i64 z.has) (by simp [go_sem, Act.eval, -Array.getD_eq_getD_getElem?, e61, c2]) rfl (hD) (fun _ _ _ _ h => h)⟩
                | 8, ho =>
                  simp at ho
                  subst ho
                  have eg : ac.tmps.getD 58 undef = .bool true := hv 3 58 rfl (by kernel_rfl)
                  have e12 : ac.tmps.getD 12 undef = .pointer (some ⟨wk.heap.size, 0, none⟩) := hout 12 (by decide +kernel)
                  exact .inl ⟨wanted_of rfl rfl eg, gho_reads γ (.pointer (some ⟨wk.heap.size, 2, none⟩)) (by simp [go_sem, Act.eval, -Array.getD_eq_getD_getElem?, e12]) rfl (hD) (fun _ _ _ _ h => h)⟩
                | 9, ho =>
                  simp at ho
                  subst ho
                  have eg : ac.tmps.getD 58 undef = .bool true := hv 3 58 rfl (by kernel_rfl)
                  have e63 : ac.tmps.getD 63 undef = .pointer (some ⟨wk.heap.size, 2, none⟩) := hv 8 63 rfl (by kernel_rfl)
                  have c2 := (row_box ((unhide HR11).below hD)).c2
                  rw [Nat.zero_add] at c2
                  exact .inl ⟨wanted_of rfl rfl eg, gho_reads γ (.int .i64 r.has) (by simp [go_sem, Act.eval, -Array.getD_eq_getD_getElem?, e63, c2]) rfl (hD) (fun _ _ _ _ h => h)⟩
                | 10, ho =>
                  simp at ho
                  subst ho
                  have eg : ac.tmps.getD 58 undef = .bool true := hv 3 58 rfl (by kernel_rfl)
                  have e62 : ac.tmps.getD 62 undef = .int .i64 z.has := hv 7 62 rfl (by kernel_rfl)
                  have e64 : ac.tmps.getD 64 undef = .int .i64 r.has := hv 9 64 rfl (by kernel_rfl)
                  exact .inl ⟨wanted_of rfl rfl eg, gho_reads γ (.bool false) (by simp [go_sem, Act.eval, -Array.getD_eq_getD_getElem?, e62, e64, hhas]) rfl (hD) (fun _ _ _ _ h => h)⟩
                | 11, ho =>
                  simp at ho
                  subst ho
                  have e58 : ac.tmps.getD 58 undef = .bool true := hv 3 58 rfl (by kernel_rfl)
                  have e65 : ac.tmps.getD 65 undef = .bool false := hv 10 65 rfl (by kernel_rfl)
                  exact .inl ⟨rfl, gho_reads γ (.bool false) (by simp [go_sem, Act.eval, -Array.getD_eq_getD_getElem?, e58, e65]) rfl (hD) (fun _ _ _ _ h => h)⟩
                | ix + 12, ho => simp at ho
              case hend =>
                intro γ v L w12 hD hall hv
                have v11 : v 11 = .bool false := hv 11 66 rfl
                have HD := hide hD
                clear hv hall hD h0
                simp only [putOps, List.getElem?_cons_zero, List.getElem?_cons_succ, Option.bind_some, List.length_cons, List.length_nil, Nat.reduceAdd, v11]
                clear v11
                go_frame
                go_wp2_with fail
                go_loopw [67] (fun x wr => ∃ q : Nat, q ≤ 8 ∧ x = .int .i64 (q : Int) ∧ Below w12.heap.size w12 wr) (fun x _ => 8 - (intOf x).toNat)
                case atStart => exact ⟨0, Nat.zero_le _, rfl, Below.refl _ _⟩
                case round =>
                  obtain ⟨q, hq, rfl, hbr⟩ := hrel
                  by_cases hlq : q < 8
                  · have q0 : (0 : Int) ≤ (q : Int) := by omega
                    have q1 : (q : Int) < 8 := by omega
                    have hLq := (unhide HD).trans (hbr.mono (unhide HD).size)
                    have HNq := hide ((unhide HN11).below hLq)
                    have HZq := hide ((unhide HPR).below hLq)
                    have HRq := hide (row_box ((unhide HR11).below hLq))
                    have HLq := hide ((unhide HL11).trans (hLq.mono (unhide HL11).size))
                    have hvq := unhide HVQ q hlq
                    have hbw := hasB_bt (unhide HSW) hlq
                    have hbz := hasB_bt (unhide HSZ) hlq
                    have hbx := hasB_bt (unhide HSR) hlq
                    have hHW := fun W => rhas_any ws (q : Int) W (setB_le (unhide HSW)).1 (setB_le (unhide HSW)).2
                    have hHZ := fun W => rhas_any z.has (q : Int) W (setB_le (unhide HSZ)).1 (setB_le (unhide HSZ)).2
                    have hHR := fun W => rhas_any r.has (q : Int) W (setB_le (unhide HSR)).1 (setB_le (unhide HSR)).2
                    rw [hbw] at hHW
                    rw [hbz] at hHZ
                    rw [hbx] at hHR
                    have HBQ := hide hbr
                    clear hbw hbz hbx hLq hbr
                    cases hcw : bt ws q
                    · obtain ⟨hv1, hv2⟩ := hvq hcw
                      rw [hcw] at hHW
                      rw [hv2] at hHZ
                      generalize bt r.has q = bb at *
                      have HHW := hide hHW
                      have HHZ := hide hHZ
                      have HHR := hide hHR
                      clear hvq hcw hv2 hHW hHZ hHR
                      go_wp2_with fail
                      have h0 : Below wr.heap.size wr wr.drew := (Below.refl _ _).drew
                      refine wp_region_gho (fun (γ : Unit) ix v => (([fun v => v = .pointer (some ⟨p9, 1, none⟩), fun v => v = .int .i64 ws, fun v => v = .int .i64 (q : Int), fun v => v = .bool false, fun v => v = .bool true, fun v => v = .bool true, fun v => v = .pointer (some ⟨pb, po, none⟩), fun v => v = .int .i64 (q : Int), fun v => v = .pointer (some ⟨pb, po, none⟩), fun v => v = .pointer (some ⟨pb, po + 3, none⟩), fun v => v = .pointer (some ⟨pb, po + 3 + q, none⟩), fun v => v = .int .i64 (r.v q), fun v => v = .int .i64 (q : Int), fun v => v = .pointer (some ⟨wk.heap.size, 3, none⟩), fun v => v = .pointer (some ⟨wk.heap.size, 3 + q, none⟩), fun v => v = .int .i64 (r.v q), fun v => v = .bool false, fun v => v = .bool false, fun v => v = .pointer (some ⟨pb, po, none⟩), fun v => v = .pointer (some ⟨pb, po, none⟩), fun v => v = .pointer (some ⟨pb, po + 2, none⟩), fun v => v = .int .i64 z.has, fun v => v = .int .i64 (q : Int), fun v => v = .bool bb, fun v => v = .pointer (some ⟨wk.heap.size, 2, none⟩), fun v => v = .int .i64 r.has, fun v => v = .int .i64 (q : Int), fun v => v = .bool bb, fun v => v = .bool false, fun v => v = .bool false, fun v => v = .bool false] : List (Value → Prop)).getD ix (fun _ => True)) v) (fun (_ : Unit) (_ : Nat → Bool) W => Below wr.heap.size wr W) (()) (by kernel_rfl) (by kernel_rfl) (by kernel_rfl) h0 ?hstep ?hend
                      case hstep =>
                        intro γ ix o ho L ac w1 hD hL hed hcl hout hv
                        match ix, ho with
                        | 0, ho =>
                          simp at ho
                          subst ho
                          have e9 : ac.tmps.getD 9 undef = .pointer (some ⟨p9, 0, none⟩) := hout 9 (by decide +kernel)
                          exact .inl ⟨rfl, gho_reads γ (.pointer (some ⟨p9, 1, none⟩)) (by simp [go_sem, Act.eval, -Array.getD_eq_getD_getElem?, e9]) rfl (hD) (fun _ _ _ _ h => h)⟩
                        | 1, ho =>
                          simp at ho
                          subst ho
                          have e70 : ac.tmps.getD 70 undef = .pointer (some ⟨p9, 1, none⟩) := hv 0 70 rfl (by kernel_rfl)
                          have bb := (unhide HNq).below hD
                          have c0 := bb.cell 0 rfl 1 rfl
                          rw [Nat.add_zero] at c0
                          exact .inl ⟨rfl, gho_reads γ (.int .i64 ws) (by simp [go_sem, Act.eval, -Array.getD_eq_getD_getElem?, e70, c0]) rfl (hD) (fun _ _ _ _ h => h)⟩
                        | 2, ho =>
                          simp at ho
                          subst ho
                          have e14 : ac.tmps.getD 14 undef = .int .i64 (q : Int) := hout 14 (by decide +kernel)
                          exact .inl ⟨rfl, gho_reads γ (.int .i64 (q : Int)) (by simp [go_sem, Act.eval, -Array.getD_eq_getD_getElem?, e14]) rfl (hD) (fun _ _ _ _ h => h)⟩
                        | 3, ho =>
                          simp at ho
                          subst ho
                          have e71 : ac.tmps.getD 71 undef = .int .i64 ws := hv 1 71 rfl (by kernel_rfl)
                          have e72 : ac.tmps.getD 72 undef = .int .i64 (q : Int) := hv 2 72 rfl (by kernel_rfl)
                          refine .inl ⟨rfl, gho_enters 20 #[.int .i64 ws, .int .i64 (q : Int)] (by simp [go_sem, Act.eval, -Array.getD_eq_getD_getElem?, e71, e72]) ?_⟩
                          refine (unhide HHW w1).mono ?_
                          rintro e w6 ⟨rfl, hb6⟩
                          exact ⟨_, γ, rfl, rfl, hD.trans (hb6.mono hD.size), fun _ _ _ _ h => h⟩
                        | 4, ho =>
                          simp at ho
                          subst ho
                          have e73 : ac.tmps.getD 73 undef = .bool false := hv 3 73 rfl (by kernel_rfl)
                          exact .inl ⟨rfl, gho_reads γ (.bool true) (by simp [go_sem, Act.eval, -Array.getD_eq_getD_getElem?, e73]) rfl (hD) (fun _ _ _ _ h => h)⟩
                        | 5, ho =>
                          simp at ho
                          subst ho
                          have e74 : ac.tmps.getD 74 undef = .bool true := hv 4 74 rfl (by kernel_rfl)
                          exact .inl ⟨rfl, gho_reads γ (.bool true) (by simp [go_sem, Act.eval, -Array.getD_eq_getD_getElem?, e74]) rfl (hD) (fun _ _ _ _ h => h)⟩
                        | 6, ho =>
                          simp at ho
                          subst ho
                          have eg : ac.tmps.getD 75 undef = .bool true := hv 5 75 rfl (by kernel_rfl)
                          have e13 : ac.tmps.getD 13 undef = .pointer (some ⟨pb, po, none⟩) := hout 13 (by decide +kernel)
                          exact .inl ⟨wanted_of rfl rfl eg, gho_reads γ (.pointer (some ⟨pb, po, none⟩)) (by simp [go_sem, Act.eval, -Array.getD_eq_getD_getElem?, e13]) rfl (hD) (fun _ _ _ _ h => h)⟩
                        | 7, ho =>
                          simp at ho
                          subst ho
                          have eg : ac.tmps.getD 75 undef = .bool true := hv 5 75 rfl (by kernel_rfl)
                          have e14 : ac.tmps.getD 14 undef = .int .i64 (q : Int) := hout 14 (by decide +kernel)
                          exact .inl ⟨wanted_of rfl rfl eg, gho_reads γ (.int .i64 (q : Int)) (by simp [go_sem, Act.eval, -Array.getD_eq_getD_getElem?, e14]) rfl (hD) (fun _ _ _ _ h => h)⟩
                        | 8, ho =>
                          simp at ho
                          subst ho
                          have eg : ac.tmps.getD 75 undef = .bool true := hv 5 75 rfl (by kernel_rfl)
                          have e76 : ac.tmps.getD 76 undef = .pointer (some ⟨pb, po, none⟩) := hv 6 76 rfl (by kernel_rfl)
                          exact .inl ⟨wanted_of rfl rfl eg, gho_reads γ (.pointer (some ⟨pb, po, none⟩)) (by simp [go_sem, Act.eval, -Array.getD_eq_getD_getElem?, e76]) rfl (hD) (fun _ _ _ _ h => h)⟩
                        | 9, ho =>
                          simp at ho
                          subst ho
                          have eg : ac.tmps.getD 75 undef = .bool true := hv 5 75 rfl (by kernel_rfl)
                          have e78 : ac.tmps.getD 78 undef = .pointer (some ⟨pb, po, none⟩) := hv 8 78 rfl (by kernel_rfl)
                          exact .inl ⟨wanted_of rfl rfl eg, gho_reads γ (.pointer (some ⟨pb, po + 3, none⟩)) (by simp [go_sem, Act.eval, -Array.getD_eq_getD_getElem?, e78]) rfl (hD) (fun _ _ _ _ h => h)⟩
                        | 10, ho =>
                          simp at ho
                          subst ho
                          have eg : ac.tmps.getD 75 undef = .bool true := hv 5 75 rfl (by kernel_rfl)
                          have e79 : ac.tmps.getD 79 undef = .pointer (some ⟨pb, po + 3, none⟩) := hv 9 79 rfl (by kernel_rfl)
                          have e77 : ac.tmps.getD 77 undef = .int .i64 (q : Int) := hv 7 77 rfl (by kernel_rfl)
                          exact .inl ⟨wanted_of rfl rfl eg, gho_reads γ (.pointer (some ⟨pb, po + 3 + q, none⟩)) (by simp [go_sem, Act.eval, -Array.getD_eq_getD_getElem?, e79, e77, q0, q1]) rfl (hD) (fun _ _ _ _ h => h)⟩
                        | 11, ho =>
                          simp at ho
                          subst ho
                          have eg : ac.tmps.getD 75 undef = .bool true := hv 5 75 rfl (by kernel_rfl)
                          have e80 : ac.tmps.getD 80 undef = .pointer (some ⟨pb, po + 3 + q, none⟩) := hv 10 80 rfl (by kernel_rfl)
                          have cv := ((unhide HZq).below hD).v q hlq
                          rw [hv1] at cv
                          exact .inl ⟨wanted_of rfl rfl eg, gho_reads γ (.int .i64 (r.v q)) (by simp [go_sem, Act.eval, -Array.getD_eq_getD_getElem?, e80, cv]) rfl (hD) (fun _ _ _ _ h => h)⟩
                        | 12, ho =>
                          simp at ho
                          subst ho
                          have eg : ac.tmps.getD 75 undef = .bool true := hv 5 75 rfl (by kernel_rfl)
                          have e14 : ac.tmps.getD 14 undef = .int .i64 (q : Int) := hout 14 (by decide +kernel)
                          exact .inl ⟨wanted_of rfl rfl eg, gho_reads γ (.int .i64 (q : Int)) (by simp [go_sem, Act.eval, -Array.getD_eq_getD_getElem?, e14]) rfl (hD) (fun _ _ _ _ h => h)⟩
                        | 13, ho =>
                          simp at ho
                          subst ho
                          have eg : ac.tmps.getD 75 undef = .bool true := hv 5 75 rfl (by kernel_rfl)
                          have e12 : ac.tmps.getD 12 undef = .pointer (some ⟨wk.heap.size, 0, none⟩) := hout 12 (by decide +kernel)
                          exact .inl ⟨wanted_of rfl rfl eg, gho_reads γ (.pointer (some ⟨wk.heap.size, 3, none⟩)) (by simp [go_sem, Act.eval, -Array.getD_eq_getD_getElem?, e12]) rfl (hD) (fun _ _ _ _ h => h)⟩
                        | 14, ho =>
                          simp at ho
                          subst ho
                          have eg : ac.tmps.getD 75 undef = .bool true := hv 5 75 rfl (by kernel_rfl)
                          have e83 : ac.tmps.getD 83 undef = .pointer (some ⟨wk.heap.size, 3, none⟩) := hv 13 83 rfl (by kernel_rfl)
                          have e82 : ac.tmps.getD 82 undef = .int .i64 (q : Int) := hv 12 82 rfl (by kernel_rfl)
                          exact .inl ⟨wanted_of rfl rfl eg, gho_reads γ (.pointer (some ⟨wk.heap.size, 3 + q, none⟩)) (by simp [go_sem, Act.eval, -Array.getD_eq_getD_getElem?, e83, e82, q0, q1]) rfl (hD) (fun _ _ _ _ h => h)⟩
                        | 15, ho =>
                          simp at ho
                          subst ho
                          have eg : ac.tmps.getD 75 undef = .bool true := hv 5 75 rfl (by kernel_rfl)
                          have e84 : ac.tmps.getD 84 undef = .pointer (some ⟨wk.heap.size, 3 + q, none⟩) := hv 14 84 rfl (by kernel_rfl)
                          have cv := ((unhide HRq).below hD).v q hlq
                          rw [Nat.zero_add] at cv
                          exact .inl ⟨wanted_of rfl rfl eg, gho_reads γ (.int .i64 (r.v q)) (by simp [go_sem, Act.eval, -Array.getD_eq_getD_getElem?, e84, cv]) rfl (hD) (fun _ _ _ _ h => h)⟩
                        | 16, ho =>
                          simp at ho
                          subst ho
                          have eg : ac.tmps.getD 75 undef = .bool true := hv 5 75 rfl (by kernel_rfl)
                          have e81 : ac.tmps.getD 81 undef = .int .i64 (r.v q) := hv 11 81 rfl (by kernel_rfl)
                          have e85 : ac.tmps.getD 85 undef = .int .i64 (r.v q) := hv 15 85 rfl (by kernel_rfl)
                          exact .inl ⟨wanted_of rfl rfl eg, gho_reads γ (.bool false) (by simp [go_sem, Act.eval, -Array.getD_eq_getD_getElem?, e81, e85]) rfl (hD) (fun _ _ _ _ h => h)⟩
                        | 17, ho =>
                          simp at ho
                          subst ho
                          have eg : ac.tmps.getD 75 undef = .bool true := hv 5 75 rfl (by kernel_rfl)
                          have e86 : ac.tmps.getD 86 undef = .bool false := hv 16 86 rfl (by kernel_rfl)
                          exact .inl ⟨wanted_of rfl rfl eg, gho_reads γ (.bool false) (by simp [go_sem, Act.eval, -Array.getD_eq_getD_getElem?, e86]) rfl (hD) (fun _ _ _ _ h => h)⟩
                        | 18, ho =>
                          simp at ho
                          subst ho
                          have eg : ac.tmps.getD 87 undef = .bool false := hv 17 87 rfl (by kernel_rfl)
                          have e13 : ac.tmps.getD 13 undef = .pointer (some ⟨pb, po, none⟩) := hout 13 (by decide +kernel)
                          exact .inl ⟨wanted_of rfl rfl eg, gho_reads γ (.pointer (some ⟨pb, po, none⟩)) (by simp [go_sem, Act.eval, -Array.getD_eq_getD_getElem?, e13]) rfl (hD) (fun _ _ _ _ h => h)⟩
                        | 19, ho =>
                          simp at ho
                          subst ho
                          have eg : ac.tmps.getD 87 undef = .bool false := hv 17 87 rfl (by kernel_rfl)
                          have e88 : ac.tmps.getD 88 undef = .pointer (some ⟨pb, po, none⟩) := hv 18 88 rfl (by kernel_rfl)
                          exact .inl ⟨wanted_of rfl rfl eg, gho_reads γ (.pointer (some ⟨pb, po, none⟩)) (by simp [go_sem, Act.eval, -Array.getD_eq_getD_getElem?, e88]) rfl (hD) (fun _ _ _ _ h => h)⟩
                        | 20, ho =>
                          simp at ho
                          subst ho
                          have eg : ac.tmps.getD 87 undef = .bool false := hv 17 87 rfl (by kernel_rfl)
                          have e89 : ac.tmps.getD 89 undef = .pointer (some ⟨pb, po, none⟩) := hv 19 89 rfl (by kernel_rfl)
                          exact .inl ⟨wanted_of rfl rfl eg, gho_reads γ (.pointer (some ⟨pb, po + 2, none⟩)) (by simp [go_sem, Act.eval, -Array.getD_eq_getD_getElem?, e89]) rfl (hD) (fun _ _ _ _ h => h)⟩
                        | 21, ho =>
                          simp at ho
                          subst ho
                          have eg : ac.tmps.getD 87 undef = .bool false := hv 17 87 rfl (by kernel_rfl)
                          have e90 : ac.tmps.getD 90 undef = .pointer (some ⟨pb, po + 2, none⟩) := hv 20 90 rfl (by kernel_rfl)
                          have c2 := ((unhide HZq).below hD).c2
                          exact .inl ⟨wanted_of rfl rfl eg, gho_reads γ (.int .i64 z.has) (by simp [go_sem, Act.eval, -Array.getD_eq_getD_getElem?, e90, c2]) rfl (hD) (fun _ _ _ _ h => h)⟩
                        | 22, ho =>
                          simp at ho
                          subst ho
                          have eg : ac.tmps.getD 87 undef = .bool false := hv 17 87 rfl (by kernel_rfl)
                          have e14 : ac.tmps.getD 14 undef = .int .i64 (q : Int) := hout 14 (by decide +kernel)
                          exact .inl ⟨wanted_of rfl rfl eg, gho_reads γ (.int .i64 (q : Int)) (by simp [go_sem, Act.eval, -Array.getD_eq_getD_getElem?, e14]) rfl (hD) (fun _ _ _ _ h => h)⟩
                        | 23, ho =>
                          simp at ho
                          subst ho
                          have eg : ac.tmps.getD 87 undef = .bool false := hv 17 87 rfl (by kernel_rfl)
                          have e91 : ac.tmps.getD 91 undef = .int .i64 z.has := hv 21 91 rfl (by kernel_rfl)
                          have e92 : ac.tmps.getD 92 undef = .int .i64 (q : Int) := hv 22 92 rfl (by kernel_rfl)
                          refine .inl ⟨wanted_of rfl rfl eg, gho_enters 20 #[.int .i64 z.has, .int .i64 (q : Int)] (by simp [go_sem, Act.eval, -Array.getD_eq_getD_getElem?, e91, e92]) ?_⟩
                          refine (unhide HHZ w1).mono ?_
                          rintro e w6 ⟨rfl, hb6⟩
                          exact ⟨_, γ, rfl, rfl, hD.trans (hb6.mono hD.size), fun _ _ _ _ h => h⟩
                        | 24, ho =>
                          simp at ho
                          subst ho
                          have eg : ac.tmps.getD 87 undef = .bool false := hv 17 87 rfl (by kernel_rfl)
                          have e12 : ac.tmps.getD 12 undef = .pointer (some ⟨wk.heap.size, 0, none⟩) := hout 12 (by decide +kernel)
                          exact .inl ⟨wanted_of rfl rfl eg, gho_reads γ (.pointer (some ⟨wk.heap.size, 2, none⟩)) (by simp [go_sem, Act.eval, -Array.getD_eq_getD_getElem?, e12]) rfl (hD) (fun _ _ _ _ h => h)⟩
                        | 25, ho =>
                          simp at ho
                          subst ho
                          have eg : ac.tmps.getD 87 undef = .bool false := hv 17 87 rfl (by kernel_rfl)
                          have e94 : ac.tmps.getD 94 undef = .pointer (some ⟨wk.heap.size, 2, none⟩) := hv 24 94 rfl (by kernel_rfl)
                          have c2 := ((unhide HRq).below hD).c2
                          rw [Nat.zero_add] at c2
                          exact .inl ⟨wanted_of rfl rfl eg, gho_reads γ (.int .i64 r.has) (by simp [go_sem, Act.eval, -Array.getD_eq_getD_getElem?, e94, c2]) rfl (hD) (fun _ _ _ _ h => h)⟩
                        | 26, ho =>
                          simp at ho
                          subst ho
                          have eg : ac.tmps.getD 87 undef = .bool false := hv 17 87 rfl (by kernel_rfl)
                          have e14 : ac.tmps.getD 14 undef = .int .i64 (q : Int) := hout 14 (by decide +kernel)
                          exact .inl ⟨wanted_of rfl rfl eg, gho_reads γ (.int .i64 (q : Int)) (by simp [go_sem, Act.eval, -Array.getD_eq_getD_getElem?, e14]) rfl (hD) (fun _ _ _ _ h => h)⟩
                        | 27, ho =>
                          simp at ho
                          subst ho
                          have eg : ac.tmps.getD 87 undef = .bool false := hv 17 87 rfl (by kernel_rfl)
                          have e95 : ac.tmps.getD 95 undef = .int .i64 r.has := hv 25 95 rfl (by kernel_rfl)
                          have e96 : ac.tmps.getD 96 undef = .int .i64 (q : Int) := hv 26 96 rfl (by kernel_rfl)
                          refine .inl ⟨wanted_of rfl rfl eg, gho_enters 20 #[.int .i64 r.has, .int .i64 (q : Int)] (by simp [go_sem, Act.eval, -Array.getD_eq_getD_getElem?, e95, e96]) ?_⟩
                          refine (unhide HHR w1).mono ?_
                          rintro e w6 ⟨rfl, hb6⟩
                          exact ⟨_, γ, rfl, rfl, hD.trans (hb6.mono hD.size), fun _ _ _ _ h => h⟩
                        | 28, ho =>
                          simp at ho
                          subst ho
                          have eg : ac.tmps.getD 87 undef = .bool false := hv 17 87 rfl (by kernel_rfl)
                          have e93 : ac.tmps.getD 93 undef = .bool bb := hv 23 93 rfl (by kernel_rfl)
                          have e97 : ac.tmps.getD 97 undef = .bool bb := hv 27 97 rfl (by kernel_rfl)
                          exact .inl ⟨wanted_of rfl rfl eg, gho_reads γ (.bool false) (by simp [go_sem, Act.eval, -Array.getD_eq_getD_getElem?, e93, e97]) rfl (hD) (fun _ _ _ _ h => h)⟩
                        | 29, ho =>
                          simp at ho
                          subst ho
                          have eg : ac.tmps.getD 75 undef = .bool true := hv 5 75 rfl (by kernel_rfl)
                          have e87 : ac.tmps.getD 87 undef = .bool false := hv 17 87 rfl (by kernel_rfl)
                          have e98 : ac.tmps.getD 98 undef = .bool false := hv 28 98 rfl (by kernel_rfl)
                          exact .inl ⟨wanted_of rfl rfl eg, gho_reads γ (.bool false) (by simp [go_sem, Act.eval, -Array.getD_eq_getD_getElem?, e87, e98]) rfl (hD) (fun _ _ _ _ h => h)⟩
                        | 30, ho =>
                          simp at ho
                          subst ho
                          have e75 : ac.tmps.getD 75 undef = .bool true := hv 5 75 rfl (by kernel_rfl)
                          have e99 : ac.tmps.getD 99 undef = .bool false := hv 29 99 rfl (by kernel_rfl)
                          exact .inl ⟨rfl, gho_reads γ (.bool false) (by simp [go_sem, Act.eval, -Array.getD_eq_getD_getElem?, e75, e99]) rfl (hD) (fun _ _ _ _ h => h)⟩
                        | ix + 31, ho => simp at ho
                      case hend =>
                        intro γ v L w13 hD hall hv
                        have v30 : v 30 = .bool false := hv 30 100 rfl
                        have HE := hide (hD)
                        clear hv hall hD h0
                        simp only [putOps, List.getElem?_cons_zero, List.getElem?_cons_succ, Option.bind_some, List.length_cons, List.length_nil, Nat.reduceAdd, v30]
                        clear v30
                        go_frame
                        go_wp2
                        go_roundw
                        case rel => exact ⟨q + 1, by omega, by go_num, (unhide HBQ).trans ((unhide HE).mono (unhide HBQ).size)⟩
                        case measure => simp [intOf]; omega
                    · rw [hcw] at hHW
                      have HHW := hide hHW
                      clear hvq hcw hHW hHZ hHR
                      go_wp2_with fail
                      have h0 : Below wr.heap.size wr wr.drew := (Below.refl _ _).drew
                      refine wp_region_gho (fun (γ : Unit) ix v => (([fun v => v = .pointer (some ⟨p9, 1, none⟩), fun v => v = .int .i64 ws, fun v => v = .int .i64 (q : Int), fun v => v = .bool true, fun v => v = .bool false, fun v => v = .bool false, fun v => v = undef, fun v => v = undef, fun v => v = undef, fun v => v = undef, fun v => v = undef, fun v => v = undef, fun v => v = undef, fun v => v = undef, fun v => v = undef, fun v => v = undef, fun v => v = undef, fun v => v = undef, fun v => v = undef, fun v => v = undef, fun v => v = undef, fun v => v = undef, fun v => v = undef, fun v => v = undef, fun v => v = undef, fun v => v = undef, fun v => v = undef, fun v => v = undef, fun v => v = undef, fun v => v = undef, fun v => v = .bool false] : List (Value → Prop)).getD ix (fun _ => True)) v) (fun (_ : Unit) (_ : Nat → Bool) W => Below wr.heap.size wr W) (()) (by kernel_rfl) (by kernel_rfl) (by kernel_rfl) h0 ?hstep ?hend
                      case hstep =>
                        intro γ ix o ho L ac w1 hD hL hed hcl hout hv
                        match ix, ho with
                        | 0, ho =>
                          simp at ho
                          subst ho
                          have e9 : ac.tmps.getD 9 undef = .pointer (some ⟨p9, 0, none⟩) := hout 9 (by decide +kernel)
                          exact .inl ⟨rfl, gho_reads γ (.pointer (some ⟨p9, 1, none⟩)) (by simp [go_sem, Act.eval, -Array.getD_eq_getD_getElem?, e9]) rfl (hD) (fun _ _ _ _ h => h)⟩
                        | 1, ho =>
                          simp at ho
                          subst ho
                          have e70 : ac.tmps.getD 70 undef = .pointer (some ⟨p9, 1, none⟩) := hv 0 70 rfl (by kernel_rfl)
                          have bb := (unhide HNq).below hD
                          have c0 := bb.cell 0 rfl 1 rfl
                          rw [Nat.add_zero] at c0
                          exact .inl ⟨rfl, gho_reads γ (.int .i64 ws) (by simp [go_sem, Act.eval, -Array.getD_eq_getD_getElem?, e70, c0]) rfl (hD) (fun _ _ _ _ h => h)⟩
                        | 2, ho =>
                          simp at ho
                          subst ho
                          have e14 : ac.tmps.getD 14 undef = .int .i64 (q : Int) := hout 14 (by decide +kernel)
                          exact .inl ⟨rfl, gho_reads γ (.int .i64 (q : Int)) (by simp [go_sem, Act.eval, -Array.getD_eq_getD_getElem?, e14]) rfl (hD) (fun _ _ _ _ h => h)⟩
                        | 3, ho =>
                          simp at ho
                          subst ho
                          have e71 : ac.tmps.getD 71 undef = .int .i64 ws := hv 1 71 rfl (by kernel_rfl)
                          have e72 : ac.tmps.getD 72 undef = .int .i64 (q : Int) := hv 2 72 rfl (by kernel_rfl)
                          refine .inl ⟨rfl, gho_enters 20 #[.int .i64 ws, .int .i64 (q : Int)] (by simp [go_sem, Act.eval, -Array.getD_eq_getD_getElem?, e71, e72]) ?_⟩
                          refine (unhide HHW w1).mono ?_
                          rintro e w6 ⟨rfl, hb6⟩
                          exact ⟨_, γ, rfl, rfl, hD.trans (hb6.mono hD.size), fun _ _ _ _ h => h⟩
                        | 4, ho =>
                          simp at ho
                          subst ho
                          have e73 : ac.tmps.getD 73 undef = .bool true := hv 3 73 rfl (by kernel_rfl)
                          exact .inl ⟨rfl, gho_reads γ (.bool false) (by simp [go_sem, Act.eval, -Array.getD_eq_getD_getElem?, e73]) rfl (hD) (fun _ _ _ _ h => h)⟩
                        | 5, ho =>
                          simp at ho
                          subst ho
                          have e74 : ac.tmps.getD 74 undef = .bool false := hv 4 74 rfl (by kernel_rfl)
                          exact .inl ⟨rfl, gho_reads γ (.bool false) (by simp [go_sem, Act.eval, -Array.getD_eq_getD_getElem?, e74]) rfl (hD) (fun _ _ _ _ h => h)⟩
                        | 6, ho =>
                          simp at ho
                          subst ho
                          have eg : ac.tmps.getD 75 undef = .bool !true := hv 5 75 rfl (by kernel_rfl)
                          exact .inr ⟨unwanted_of rfl rfl eg, rfl, hD⟩
                        | 7, ho =>
                          simp at ho
                          subst ho
                          have eg : ac.tmps.getD 75 undef = .bool !true := hv 5 75 rfl (by kernel_rfl)
                          exact .inr ⟨unwanted_of rfl rfl eg, rfl, hD⟩
                        | 8, ho =>
                          simp at ho
                          subst ho
                          have eg : ac.tmps.getD 75 undef = .bool !true := hv 5 75 rfl (by kernel_rfl)
                          exact .inr ⟨unwanted_of rfl rfl eg, rfl, hD⟩
                        | 9, ho =>
                          simp at ho
                          subst ho
                          have eg : ac.tmps.getD 75 undef = .bool !true := hv 5 75 rfl (by kernel_rfl)
                          exact .inr ⟨unwanted_of rfl rfl eg, rfl, hD⟩
                        | 10, ho =>
                          simp at ho
                          subst ho
                          have eg : ac.tmps.getD 75 undef = .bool !true := hv 5 75 rfl (by kernel_rfl)
                          exact .inr ⟨unwanted_of rfl rfl eg, rfl, hD⟩
                        | 11, ho =>
                          simp at ho
                          subst ho
                          have eg : ac.tmps.getD 75 undef = .bool !true := hv 5 75 rfl (by kernel_rfl)
                          exact .inr ⟨unwanted_of rfl rfl eg, rfl, hD⟩
                        | 12, ho =>
                          simp at ho
                          subst ho
                          have eg : ac.tmps.getD 75 undef = .bool !true := hv 5 75 rfl (by kernel_rfl)
                          exact .inr ⟨unwanted_of rfl rfl eg, rfl, hD⟩
                        | 13, ho =>
                          simp at ho
                          subst ho
                          have eg : ac.tmps.getD 75 undef = .bool !true := hv 5 75 rfl (by kernel_rfl)
                          exact .inr ⟨unwanted_of rfl rfl eg, rfl, hD⟩
                        | 14, ho =>
                          simp at ho
                          subst ho
                          have eg : ac.tmps.getD 75 undef = .bool !true := hv 5 75 rfl (by kernel_rfl)
                          exact .inr ⟨unwanted_of rfl rfl eg, rfl, hD⟩
                        | 15, ho =>
                          simp at ho
                          subst ho
                          have eg : ac.tmps.getD 75 undef = .bool !true := hv 5 75 rfl (by kernel_rfl)
                          exact .inr ⟨unwanted_of rfl rfl eg, rfl, hD⟩
                        | 16, ho =>
                          simp at ho
                          subst ho
                          have eg : ac.tmps.getD 75 undef = .bool !true := hv 5 75 rfl (by kernel_rfl)
                          exact .inr ⟨unwanted_of rfl rfl eg, rfl, hD⟩
                        | 17, ho =>
                          simp at ho
                          subst ho
                          have eg : ac.tmps.getD 75 undef = .bool !true := hv 5 75 rfl (by kernel_rfl)
                          exact .inr ⟨unwanted_of rfl rfl eg, rfl, hD⟩
                        | 18, ho =>
                          simp at ho
                          subst ho
                          have eg : ac.tmps.getD 87 undef = undef := hv 17 87 rfl (by kernel_rfl)
                          exact .inr ⟨unwanted_un rfl rfl eg, rfl, hD⟩
                        | 19, ho =>
                          simp at ho
                          subst ho
                          have eg : ac.tmps.getD 87 undef = undef := hv 17 87 rfl (by kernel_rfl)
                          exact .inr ⟨unwanted_un rfl rfl eg, rfl, hD⟩
                        | 20, ho =>
                          simp at ho
                          subst ho
                          have eg : ac.tmps.getD 87 undef = undef := hv 17 87 rfl (by kernel_rfl)
                          exact .inr ⟨unwanted_un rfl rfl eg, rfl, hD⟩
                        | 21, ho =>
                          simp at ho
                          subst ho
                          have eg : ac.tmps.getD 87 undef = undef := hv 17 87 rfl (by kernel_rfl)
                          exact .inr ⟨unwanted_un rfl rfl eg, rfl, hD⟩
                        | 22, ho =>
                          simp at ho
                          subst ho
                          have eg : ac.tmps.getD 87 undef = undef := hv 17 87 rfl (by kernel_rfl)
                          exact .inr ⟨unwanted_un rfl rfl eg, rfl, hD⟩
                        | 23, ho =>
                          simp at ho
                          subst ho
                          have eg : ac.tmps.getD 87 undef = undef := hv 17 87 rfl (by kernel_rfl)
                          exact .inr ⟨unwanted_un rfl rfl eg, rfl, hD⟩
                        | 24, ho =>
                          simp at ho
                          subst ho
                          have eg : ac.tmps.getD 87 undef = undef := hv 17 87 rfl (by kernel_rfl)
                          exact .inr ⟨unwanted_un rfl rfl eg, rfl, hD⟩
                        | 25, ho =>
                          simp at ho
                          subst ho
                          have eg : ac.tmps.getD 87 undef = undef := hv 17 87 rfl (by kernel_rfl)
                          exact .inr ⟨unwanted_un rfl rfl eg, rfl, hD⟩
                        | 26, ho =>
                          simp at ho
                          subst ho
                          have eg : ac.tmps.getD 87 undef = undef := hv 17 87 rfl (by kernel_rfl)
                          exact .inr ⟨unwanted_un rfl rfl eg, rfl, hD⟩
                        | 27, ho =>
                          simp at ho
                          subst ho
                          have eg : ac.tmps.getD 87 undef = undef := hv 17 87 rfl (by kernel_rfl)
                          exact .inr ⟨unwanted_un rfl rfl eg, rfl, hD⟩
                        | 28, ho =>
                          simp at ho
                          subst ho
                          have eg : ac.tmps.getD 87 undef = undef := hv 17 87 rfl (by kernel_rfl)
                          exact .inr ⟨unwanted_un rfl rfl eg, rfl, hD⟩
                        | 29, ho =>
                          simp at ho
                          subst ho
                          have eg : ac.tmps.getD 75 undef = .bool !true := hv 5 75 rfl (by kernel_rfl)
                          exact .inr ⟨unwanted_of rfl rfl eg, rfl, hD⟩
                        | 30, ho =>
                          simp at ho
                          subst ho
                          have e75 : ac.tmps.getD 75 undef = .bool false := hv 5 75 rfl (by kernel_rfl)
                          exact .inl ⟨rfl, gho_reads γ (.bool false) (by simp [go_sem, Act.eval, -Array.getD_eq_getD_getElem?, e75]) rfl (hD) (fun _ _ _ _ h => h)⟩
                        | ix + 31, ho => simp at ho
                      case hend =>
                        intro γ v L w13 hD hall hv
                        have v30 : v 30 = .bool false := hv 30 100 rfl
                        have HE := hide (hD)
                        clear hv hall hD h0
                        simp only [putOps, List.getElem?_cons_zero, List.getElem?_cons_succ, Option.bind_some, List.length_cons, List.length_nil, Nat.reduceAdd, v30]
                        clear v30
                        go_frame
                        go_wp2
                        go_roundw
                        case rel => exact ⟨q + 1, by omega, by go_num, (unhide HBQ).trans ((unhide HE).mono (unhide HBQ).size)⟩
                        case measure => simp [intOf]; omega
                  · obtain rfl : q = 8 := by omega
                    have HE := hide ((unhide HL11).trans (((unhide HD).trans (hbr.mono (unhide HD).size)).mono (unhide HL11).size))
                    clear hbr
                    go_wp2
                    go_roundw
                    case rel => exact ⟨k + 1, by omega, by go_num, unhide HE⟩
                    case measure => simp [intOf]; omega
            · clear hmq
              refine wp_region_gho (fun (γ : Unit) ix v => (([fun v => v = .pointer (some ⟨p9, 2, none⟩), fun v => v = .bool true, fun v => v = .bool false, fun v => v = .bool false, fun v => v = undef, fun v => v = undef, fun v => v = undef, fun v => v = undef, fun v => v = undef, fun v => v = undef, fun v => v = undef, fun v => v = .bool false] : List (Value → Prop)).getD ix (fun _ => True)) v) (fun (_ : Unit) (_ : Nat → Bool) W => Below w11.heap.size w11 W) (()) (by kernel_rfl) (by kernel_rfl) (by kernel_rfl) h0 ?hstep ?hend
              case hstep =>
                intro γ ix o ho L ac w1 hD hL hed hcl hout hv
                match ix, ho with
                | 0, ho =>
                  simp at ho
                  subst ho
                  have e9 : ac.tmps.getD 9 undef = .pointer (some ⟨p9, 0, none⟩) := hout 9 (by decide +kernel)
                  exact .inl ⟨rfl, gho_reads γ (.pointer (some ⟨p9, 2, none⟩)) (by simp [go_sem, Act.eval, -Array.getD_eq_getD_getElem?, e9]) rfl (hD) (fun _ _ _ _ h => h)⟩
                | 1, ho =>
                  simp at ho
                  subst ho
                  have e55 : ac.tmps.getD 55 undef = .pointer (some ⟨p9, 2, none⟩) := hv 0 55 rfl (by kernel_rfl)
                  have bb := (unhide HN11).below hD
                  have c0 := bb.cell 0 rfl 2 rfl
                  rw [Nat.add_zero] at c0
                  exact .inl ⟨rfl, gho_reads γ (.bool true) (by simp [go_sem, Act.eval, -Array.getD_eq_getD_getElem?, e55, c0]) rfl (hD) (fun _ _ _ _ h => h)⟩
                | 2, ho =>
                  simp at ho
                  subst ho
                  have e56 : ac.tmps.getD 56 undef = .bool true := hv 1 56 rfl (by kernel_rfl)
                  exact .inl ⟨rfl, gho_reads γ (.bool false) (by simp [go_sem, Act.eval, -Array.getD_eq_getD_getElem?, e56]) rfl (hD) (fun _ _ _ _ h => h)⟩
                | 3, ho =>
                  simp at ho
                  subst ho
                  have e57 : ac.tmps.getD 57 undef = .bool false := hv 2 57 rfl (by kernel_rfl)
                  exact .inl ⟨rfl, gho_reads γ (.bool false) (by simp [go_sem, Act.eval, -Array.getD_eq_getD_getElem?, e57]) rfl (hD) (fun _ _ _ _ h => h)⟩
                | 4, ho =>
                  simp at ho
                  subst ho
                  have eg : ac.tmps.getD 58 undef = .bool !true := hv 3 58 rfl (by kernel_rfl)
                  exact .inr ⟨unwanted_of rfl rfl eg, rfl, hD⟩
                | 5, ho =>
                  simp at ho
                  subst ho
                  have eg : ac.tmps.getD 58 undef = .bool !true := hv 3 58 rfl (by kernel_rfl)
                  exact .inr ⟨unwanted_of rfl rfl eg, rfl, hD⟩
                | 6, ho =>
                  simp at ho
                  subst ho
                  have eg : ac.tmps.getD 58 undef = .bool !true := hv 3 58 rfl (by kernel_rfl)
                  exact .inr ⟨unwanted_of rfl rfl eg, rfl, hD⟩
                | 7, ho =>
                  simp at ho
                  subst ho
                  have eg : ac.tmps.getD 58 undef = .bool !true := hv 3 58 rfl (by kernel_rfl)
                  exact .inr ⟨unwanted_of rfl rfl eg, rfl, hD⟩
                | 8, ho =>
                  simp at ho
                  subst ho
                  have eg : ac.tmps.getD 58 undef = .bool !true := hv 3 58 rfl (by kernel_rfl)
                  exact .inr ⟨unwanted_of rfl rfl eg, rfl, hD⟩
                | 9, ho =>
                  simp at ho
                  subst ho
                  have eg : ac.tmps.getD 58 undef = .bool !true := hv 3 58 rfl (by kernel_rfl)
                  exact .inr ⟨unwanted_of rfl rfl eg, rfl, hD⟩
                | 10, ho =>
                  simp at ho
                  subst ho
                  have eg : ac.tmps.getD 58 undef = .bool !true := hv 3 58 rfl (by kernel_rfl)
                  exact .inr ⟨unwanted_of rfl rfl eg, rfl, hD⟩
                | 11, ho =>
                  simp at ho
                  subst ho
                  have e58 : ac.tmps.getD 58 undef = .bool false := hv 3 58 rfl (by kernel_rfl)
                  exact .inl ⟨rfl, gho_reads γ (.bool false) (by simp [go_sem, Act.eval, -Array.getD_eq_getD_getElem?, e58]) rfl (hD) (fun _ _ _ _ h => h)⟩
                | ix + 12, ho => simp at ho
              case hend =>
                intro γ v L w12 hD hall hv
                have v11 : v 11 = .bool false := hv 11 66 rfl
                have HD := hide hD
                clear hv hall hD h0
                simp only [putOps, List.getElem?_cons_zero, List.getElem?_cons_succ, Option.bind_some, List.length_cons, List.length_nil, Nat.reduceAdd, v11]
                clear v11
                go_frame
                go_wp2_with fail
                go_loopw [67] (fun x wr => ∃ q : Nat, q ≤ 8 ∧ x = .int .i64 (q : Int) ∧ Below w12.heap.size w12 wr) (fun x _ => 8 - (intOf x).toNat)
                case atStart => exact ⟨0, Nat.zero_le _, rfl, Below.refl _ _⟩
                case round =>
                  obtain ⟨q, hq, rfl, hbr⟩ := hrel
                  by_cases hlq : q < 8
                  · have q0 : (0 : Int) ≤ (q : Int) := by omega
                    have q1 : (q : Int) < 8 := by omega
                    have hLq := (unhide HD).trans (hbr.mono (unhide HD).size)
                    have HNq := hide ((unhide HN11).below hLq)
                    have HZq := hide ((unhide HPR).below hLq)
                    have HRq := hide (row_box ((unhide HR11).below hLq))
                    have HLq := hide ((unhide HL11).trans (hLq.mono (unhide HL11).size))
                    have hvq := unhide HVQ q hlq
                    have hbw := hasB_bt (unhide HSW) hlq
                    have hbz := hasB_bt (unhide HSZ) hlq
                    have hbx := hasB_bt (unhide HSR) hlq
                    have hHW := fun W => rhas_any ws (q : Int) W (setB_le (unhide HSW)).1 (setB_le (unhide HSW)).2
                    have hHZ := fun W => rhas_any z.has (q : Int) W (setB_le (unhide HSZ)).1 (setB_le (unhide HSZ)).2
                    have hHR := fun W => rhas_any r.has (q : Int) W (setB_le (unhide HSR)).1 (setB_le (unhide HSR)).2
                    rw [hbw] at hHW
                    rw [hbz] at hHZ
                    rw [hbx] at hHR
                    have HBQ := hide hbr
                    clear hbw hbz hbx hLq hbr
                    cases hcw : bt ws q
                    · obtain ⟨hv1, hv2⟩ := hvq hcw
                      rw [hcw] at hHW
                      rw [hv2] at hHZ
                      generalize bt r.has q = bb at *
                      have HHW := hide hHW
                      have HHZ := hide hHZ
                      have HHR := hide hHR
                      clear hvq hcw hv2 hHW hHZ hHR
                      go_wp2_with fail
                      have h0 : Below wr.heap.size wr wr.drew := (Below.refl _ _).drew
                      refine wp_region_gho (fun (γ : Unit) ix v => (([fun v => v = .pointer (some ⟨p9, 1, none⟩), fun v => v = .int .i64 ws, fun v => v = .int .i64 (q : Int), fun v => v = .bool false, fun v => v = .bool true, fun v => v = .bool true, fun v => v = .pointer (some ⟨pb, po, none⟩), fun v => v = .int .i64 (q : Int), fun v => v = .pointer (some ⟨pb, po, none⟩), fun v => v = .pointer (some ⟨pb, po + 3, none⟩), fun v => v = .pointer (some ⟨pb, po + 3 + q, none⟩), fun v => v = .int .i64 (r.v q), fun v => v = .int .i64 (q : Int), fun v => v = .pointer (some ⟨wk.heap.size, 3, none⟩), fun v => v = .pointer (some ⟨wk.heap.size, 3 + q, none⟩), fun v => v = .int .i64 (r.v q), fun v => v = .bool false, fun v => v = .bool false, fun v => v = .pointer (some ⟨pb, po, none⟩), fun v => v = .pointer (some ⟨pb, po, none⟩), fun v => v = .pointer (some ⟨pb, po + 2, none⟩), fun v => v = .int .i64 z.has, fun v => v = .int .i64 (q : Int), fun v => v = .bool bb, fun v => v = .pointer (some ⟨wk.heap.size, 2, none⟩), fun v => v = .int .i64 r.has, fun v => v = .int .i64 (q : Int), fun v => v = .bool bb, fun v => v = .bool false, fun v => v = .bool false, fun v => v = .bool false] : List (Value → Prop)).getD ix (fun _ => True)) v) (fun (_ : Unit) (_ : Nat → Bool) W => Below wr.heap.size wr W) (()) (by kernel_rfl) (by kernel_rfl) (by kernel_rfl) h0 ?hstep ?hend
                      case hstep =>
                        intro γ ix o ho L ac w1 hD hL hed hcl hout hv
                        match ix, ho with
                        | 0, ho =>
                          simp at ho
                          subst ho
                          have e9 : ac.tmps.getD 9 undef = .pointer (some ⟨p9, 0, none⟩) := hout 9 (by decide +kernel)
                          exact .inl ⟨rfl, gho_reads γ (.pointer (some ⟨p9, 1, none⟩)) (by simp [go_sem, Act.eval, -Array.getD_eq_getD_getElem?, e9]) rfl (hD) (fun _ _ _ _ h => h)⟩
                        | 1, ho =>
                          simp at ho
                          subst ho
                          have e70 : ac.tmps.getD 70 undef = .pointer (some ⟨p9, 1, none⟩) := hv 0 70 rfl (by kernel_rfl)
                          have bb := (unhide HNq).below hD
                          have c0 := bb.cell 0 rfl 1 rfl
                          rw [Nat.add_zero] at c0
                          exact .inl ⟨rfl, gho_reads γ (.int .i64 ws) (by simp [go_sem, Act.eval, -Array.getD_eq_getD_getElem?, e70, c0]) rfl (hD) (fun _ _ _ _ h => h)⟩
                        | 2, ho =>
                          simp at ho
                          subst ho
                          have e14 : ac.tmps.getD 14 undef = .int .i64 (q : Int) := hout 14 (by decide +kernel)
                          exact .inl ⟨rfl, gho_reads γ (.int .i64 (q : Int)) (by simp [go_sem, Act.eval, -Array.getD_eq_getD_getElem?, e14]) rfl (hD) (fun _ _ _ _ h => h)⟩
                        | 3, ho =>
                          simp at ho
                          subst ho
                          have e71 : ac.tmps.getD 71 undef = .int .i64 ws := hv 1 71 rfl (by kernel_rfl)
                          have e72 : ac.tmps.getD 72 undef = .int .i64 (q : Int) := hv 2 72 rfl (by kernel_rfl)
                          refine .inl ⟨rfl, gho_enters 20 #[.int .i64 ws, .int .i64 (q : Int)] (by simp [go_sem, Act.eval, -Array.getD_eq_getD_getElem?, e71, e72]) ?_⟩
                          refine (unhide HHW w1).mono ?_
                          rintro e w6 ⟨rfl, hb6⟩
                          exact ⟨_, γ, rfl, rfl, hD.trans (hb6.mono hD.size), fun _ _ _ _ h => h⟩
                        | 4, ho =>
                          simp at ho
                          subst ho
                          have e73 : ac.tmps.getD 73 undef = .bool false := hv 3 73 rfl (by kernel_rfl)
                          exact .inl ⟨rfl, gho_reads γ (.bool true) (by simp [go_sem, Act.eval, -Array.getD_eq_getD_getElem?, e73]) rfl (hD) (fun _ _ _ _ h => h)⟩
                        | 5, ho =>
                          simp at ho
                          subst ho
                          have e74 : ac.tmps.getD 74 undef = .bool true := hv 4 74 rfl (by kernel_rfl)
                          exact .inl ⟨rfl, gho_reads γ (.bool true) (by simp [go_sem, Act.eval, -Array.getD_eq_getD_getElem?, e74]) rfl (hD) (fun _ _ _ _ h => h)⟩
                        | 6, ho =>
                          simp at ho
                          subst ho
                          have eg : ac.tmps.getD 75 undef = .bool true := hv 5 75 rfl (by kernel_rfl)
                          have e13 : ac.tmps.getD 13 undef = .pointer (some ⟨pb, po, none⟩) := hout 13 (by decide +kernel)
                          exact .inl ⟨wanted_of rfl rfl eg, gho_reads γ (.pointer (some ⟨pb, po, none⟩)) (by simp [go_sem, Act.eval, -Array.getD_eq_getD_getElem?, e13]) rfl (hD) (fun _ _ _ _ h => h)⟩
                        | 7, ho =>
                          simp at ho
                          subst ho
                          have eg : ac.tmps.getD 75 undef = .bool true := hv 5 75 rfl (by kernel_rfl)
                          have e14 : ac.tmps.getD 14 undef = .int .i64 (q : Int) := hout 14 (by decide +kernel)
                          exact .inl ⟨wanted_of rfl rfl eg, gho_reads γ (.int .i64 (q : Int)) (by simp [go_sem, Act.eval, -Array.getD_eq_getD_getElem?, e14]) rfl (hD) (fun _ _ _ _ h => h)⟩
                        | 8, ho =>
                          simp at ho
                          subst ho
                          have eg : ac.tmps.getD 75 undef = .bool true := hv 5 75 rfl (by kernel_rfl)
                          have e76 : ac.tmps.getD 76 undef = .pointer (some ⟨pb, po, none⟩) := hv 6 76 rfl (by kernel_rfl)
                          exact .inl ⟨wanted_of rfl rfl eg, gho_reads γ (.pointer (some ⟨pb, po, none⟩)) (by simp [go_sem, Act.eval, -Array.getD_eq_getD_getElem?, e76]) rfl (hD) (fun _ _ _ _ h => h)⟩
                        | 9, ho =>
                          simp at ho
                          subst ho
                          have eg : ac.tmps.getD 75 undef = .bool true := hv 5 75 rfl (by kernel_rfl)
                          have e78 : ac.tmps.getD 78 undef = .pointer (some ⟨pb, po, none⟩) := hv 8 78 rfl (by kernel_rfl)
                          exact .inl ⟨wanted_of rfl rfl eg, gho_reads γ (.pointer (some ⟨pb, po + 3, none⟩)) (by simp [go_sem, Act.eval, -Array.getD_eq_getD_getElem?, e78]) rfl (hD) (fun _ _ _ _ h => h)⟩
                        | 10, ho =>
                          simp at ho
                          subst ho
                          have eg : ac.tmps.getD 75 undef = .bool true := hv 5 75 rfl (by kernel_rfl)
                          have e79 : ac.tmps.getD 79 undef = .pointer (some ⟨pb, po + 3, none⟩) := hv 9 79 rfl (by kernel_rfl)
                          have e77 : ac.tmps.getD 77 undef = .int .i64 (q : Int) := hv 7 77 rfl (by kernel_rfl)
                          exact .inl ⟨wanted_of rfl rfl eg, gho_reads γ (.pointer (some ⟨pb, po + 3 + q, none⟩)) (by simp [go_sem, Act.eval, -Array.getD_eq_getD_getElem?, e79, e77, q0, q1]) rfl (hD) (fun _ _ _ _ h => h)⟩
                        | 11, ho =>
                          simp at ho
                          subst ho
                          have eg : ac.tmps.getD 75 undef = .bool true := hv 5 75 rfl (by kernel_rfl)
                          have e80 : ac.tmps.getD 80 undef = .pointer (some ⟨pb, po + 3 + q, none⟩) := hv 10 80 rfl (by kernel_rfl)
                          have cv := ((unhide HZq).below hD).v q hlq
                          rw [hv1] at cv
                          exact .inl ⟨wanted_of rfl rfl eg, gho_reads γ (.int .i64 (r.v q)) (by simp [go_sem, Act.eval, -Array.getD_eq_getD_getElem?, e80, cv]) rfl (hD) (fun _ _ _ _ h => h)⟩
                        | 12, ho =>
                          simp at ho
                          subst ho
                          have eg : ac.tmps.getD 75 undef = .bool true := hv 5 75 rfl (by kernel_rfl)
                          have e14 : ac.tmps.getD 14 undef = .int .i64 (q : Int) := hout 14 (by decide +kernel)
                          exact .inl ⟨wanted_of rfl rfl eg, gho_reads γ (.int .i64 (q : Int)) (by simp [go_sem, Act.eval, -Array.getD_eq_getD_getElem?, e14]) rfl (hD) (fun _ _ _ _ h => h)⟩
                        | 13, ho =>
                          simp at ho
                          subst ho
                          have eg : ac.tmps.getD 75 undef = .bool true := hv 5 75 rfl (by kernel_rfl)
                          have e12 : ac.tmps.getD 12 undef = .pointer (some ⟨wk.heap.size, 0, none⟩) := hout 12 (by decide +kernel)
                          exact .inl ⟨wanted_of rfl rfl eg, gho_reads γ (.pointer (some ⟨wk.heap.size, 3, none⟩)) (by simp [go_sem, Act.eval, -Array.getD_eq_getD_getElem?, e12]) rfl (hD) (fun _ _ _ _ h => h)⟩
                        | 14, ho =>
                          simp at ho
                          subst ho
                          have eg : ac.tmps.getD 75 undef = .bool true := hv 5 75 rfl (by kernel_rfl)
                          have e83 : ac.tmps.getD 83 undef = .pointer (some ⟨wk.heap.size, 3, none⟩) := hv 13 83 rfl (by kernel_rfl)
                          have e82 : ac.tmps.getD 82 undef = .int .i64 (q : Int) := hv 12 82 rfl (by kernel_rfl)
                          exact .inl ⟨wanted_of rfl rfl eg, gho_reads γ (.pointer (some ⟨wk.heap.size, 3 + q, none⟩)) (by simp [go_sem, Act.eval, -Array.getD_eq_getD_getElem?, e83, e82, q0, q1]) rfl (hD) (fun _ _ _ _ h => h)⟩
                        | 15, ho =>
                          simp at ho
                          subst ho
                          have eg : ac.tmps.getD 75 undef = .bool true := hv 5 75 rfl (by kernel_rfl)
                          have e84 : ac.tmps.getD 84 undef = .pointer (some ⟨wk.heap.size, 3 + q, none⟩) := hv 14 84 rfl (by kernel_rfl)
                          have cv := ((unhide HRq).below hD).v q hlq
                          rw [Nat.zero_add] at cv
                          exact .inl ⟨wanted_of rfl rfl eg, gho_reads γ (.int .i64 (r.v q)) (by simp [go_sem, Act.eval, -Array.getD_eq_getD_getElem?, e84, cv]) rfl (hD) (fun _ _ _ _ h => h)⟩
                        | 16, ho =>
                          simp at ho
                          subst ho
                          have eg : ac.tmps.getD 75 undef = .bool true := hv 5 75 rfl (by kernel_rfl)
                          have e81 : ac.tmps.getD 81 undef = .int .i64 (r.v q) := hv 11 81 rfl (by kernel_rfl)
                          have e85 : ac.tmps.getD 85 undef = .int .i64 (r.v q) := hv 15 85 rfl (by kernel_rfl)
                          exact .inl ⟨wanted_of rfl rfl eg, gho_reads γ (.bool false) (by simp [go_sem, Act.eval, -Array.getD_eq_getD_getElem?, e81, e85]) rfl (hD) (fun _ _ _ _ h => h)⟩
                        | 17, ho =>
                          simp at ho
                          subst ho
                          have eg : ac.tmps.getD 75 undef = .bool true := hv 5 75 rfl (by kernel_rfl)
                          have e86 : ac.tmps.getD 86 undef = .bool false := hv 16 86 rfl (by kernel_rfl)
                          exact .inl ⟨wanted_of rfl rfl eg, gho_reads γ (.bool false) (by simp [go_sem, Act.eval, -Array.getD_eq_getD_getElem?, e86]) rfl (hD) (fun _ _ _ _ h => h)⟩
                        | 18, ho =>
                          simp at ho
                          subst ho
                          have eg : ac.tmps.getD 87 undef = .bool false := hv 17 87 rfl (by kernel_rfl)
                          have e13 : ac.tmps.getD 13 undef = .pointer (some ⟨pb, po, none⟩) := hout 13 (by decide +kernel)
                          exact .inl ⟨wanted_of rfl rfl eg, gho_reads γ (.pointer (some ⟨pb, po, none⟩)) (by simp [go_sem, Act.eval, -Array.getD_eq_getD_getElem?, e13]) rfl (hD) (fun _ _ _ _ h => h)⟩
                        | 19, ho =>
                          simp at ho
                          subst ho
                          have eg : ac.tmps.getD 87 undef = .bool false := hv 17 87 rfl (by kernel_rfl)
                          have e88 : ac.tmps.getD 88 undef = .pointer (some ⟨pb, po, none⟩) := hv 18 88 rfl (by kernel_rfl)
                          exact .inl ⟨wanted_of rfl rfl eg, gho_reads γ (.pointer (some ⟨pb, po, none⟩)) (by simp [go_sem, Act.eval, -Array.getD_eq_getD_getElem?, e88]) rfl (hD) (fun _ _ _ _ h => h)⟩
                        | 20, ho =>
                          simp at ho
                          subst ho
                          have eg : ac.tmps.getD 87 undef = .bool false := hv 17 87 rfl (by kernel_rfl)
                          have e89 : ac.tmps.getD 89 undef = .pointer (some ⟨pb, po, none⟩) := hv 19 89 rfl (by kernel_rfl)
                          exact .inl ⟨wanted_of rfl rfl eg, gho_reads γ (.pointer (some ⟨pb, po + 2, none⟩)) (by simp [go_sem, Act.eval, -Array.getD_eq_getD_getElem?, e89]) rfl (hD) (fun _ _ _ _ h => h)⟩
                        | 21, ho =>
                          simp at ho
                          subst ho
                          have eg : ac.tmps.getD 87 undef = .bool false := hv 17 87 rfl (by kernel_rfl)
                          have e90 : ac.tmps.getD 90 undef = .pointer (some ⟨pb, po + 2, none⟩) := hv 20 90 rfl (by kernel_rfl)
                          have c2 := ((unhide HZq).below hD).c2
                          exact .inl ⟨wanted_of rfl rfl eg, gho_reads γ (.int .i64 z.has) (by simp [go_sem, Act.eval, -Array.getD_eq_getD_getElem?, e90, c2]) rfl (hD) (fun _ _ _ _ h => h)⟩
                        | 22, ho =>
                          simp at ho
                          subst ho
                          have eg : ac.tmps.getD 87 undef = .bool false := hv 17 87 rfl (by kernel_rfl)
                          have e14 : ac.tmps.getD 14 undef = .int .i64 (q : Int) := hout 14 (by decide +kernel)
                          exact .inl ⟨wanted_of rfl rfl eg, gho_reads γ (.int .i64 (q : Int)) (by simp [go_sem, Act.eval, -Array.getD_eq_getD_getElem?, e14]) rfl (hD) (fun _ _ _ _ h => h)⟩
                        | 23, ho =>
                          simp at ho
                          subst ho
                          have eg : ac.tmps.getD 87 undef = .bool false := hv 17 87 rfl (by kernel_rfl)
                          have e91 : ac.tmps.getD 91 undef = .int .i64 z.has := hv 21 91 rfl (by kernel_rfl)
                          have e92 : ac.tmps.getD 92 undef = .int .i64 (q : Int) := hv 22 92 rfl (by kernel_rfl)
                          refine .inl ⟨wanted_of rfl rfl eg, gho_enters 20 #[.int .i64 z.has, .int .i64 (q : Int)] (by simp [go_sem, Act.eval, -Array.getD_eq_getD_getElem?, e91, e92]) ?_⟩
                          refine (unhide HHZ w1).mono ?_
                          rintro e w6 ⟨rfl, hb6⟩
                          exact ⟨_, γ, rfl, rfl, hD.trans (hb6.mono hD.size), fun _ _ _ _ h => h⟩
                        | 24, ho =>
                          simp at ho
                          subst ho
                          have eg : ac.tmps.getD 87 undef = .bool false := hv 17 87 rfl (by kernel_rfl)
                          have e12 : ac.tmps.getD 12 undef = .pointer (some ⟨wk.heap.size, 0, none⟩) := hout 12 (by decide +kernel)
                          exact .inl ⟨wanted_of rfl rfl eg, gho_reads γ (.pointer (some ⟨wk.heap.size, 2, none⟩)) (by simp [go_sem, Act.eval, -Array.getD_eq_getD_getElem?, e12]) rfl (hD) (fun _ _ _ _ h => h)⟩
                        | 25, ho =>
                          simp at ho
                          subst ho
                          have eg : ac.tmps.getD 87 undef = .bool false := hv 17 87 rfl (by kernel_rfl)
                          have e94 : ac.tmps.getD 94 undef = .pointer (some ⟨wk.heap.size, 2, none⟩) := hv 24 94 rfl (by kernel_rfl)
                          have c2 := ((unhide HRq).below hD).c2
                          rw [Nat.zero_add] at c2
                          exact .inl ⟨wanted_of rfl rfl eg, gho_reads γ (.int .i64 r.has) (by simp [go_sem, Act.eval, -Array.getD_eq_getD_getElem?, e94, c2]) rfl (hD) (fun _ _ _ _ h => h)⟩
                        | 26, ho =>
                          simp at ho
                          subst ho
                          have eg : ac.tmps.getD 87 undef = .bool false := hv 17 87 rfl (by kernel_rfl)
                          have e14 : ac.tmps.getD 14 undef = .int .i64 (q : Int) := hout 14 (by decide +kernel)
                          exact .inl ⟨wanted_of rfl rfl eg, gho_reads γ (.int .i64 (q : Int)) (by simp [go_sem, Act.eval, -Array.getD_eq_getD_getElem?, e14]) rfl (hD) (fun _ _ _ _ h => h)⟩
                        | 27, ho =>
                          simp at ho
                          subst ho
                          have eg : ac.tmps.getD 87 undef = .bool false := hv 17 87 rfl (by kernel_rfl)
                          have e95 : ac.tmps.getD 95 undef = .int .i64 r.has := hv 25 95 rfl (by kernel_rfl)
                          have e96 : ac.tmps.getD 96 undef = .int .i64 (q : Int) := hv 26 96 rfl (by kernel_rfl)
                          refine .inl ⟨wanted_of rfl rfl eg, gho_enters 20 #[.int .i64 r.has, .int .i64 (q : Int)] (by simp [go_sem, Act.eval, -Array.getD_eq_getD_getElem?, e95, e96]) ?_⟩
                          refine (unhide HHR w1).mono ?_
                          rintro e w6 ⟨rfl, hb6⟩
                          exact ⟨_, γ, rfl, rfl, hD.trans (hb6.mono hD.size), fun _ _ _ _ h => h⟩
                        | 28, ho =>
                          simp at ho
                          subst ho
                          have eg : ac.tmps.getD 87 undef = .bool false := hv 17 87 rfl (by kernel_rfl)
                          have e93 : ac.tmps.getD 93 undef = .bool bb := hv 23 93 rfl (by kernel_rfl)
                          have e97 : ac.tmps.getD 97 undef = .bool bb := hv 27 97 rfl (by kernel_rfl)
                          exact .inl ⟨wanted_of rfl rfl eg, gho_reads γ (.bool false) (by simp [go_sem, Act.eval, -Array.getD_eq_getD_getElem?, e93, e97]) rfl (hD) (fun _ _ _ _ h => h)⟩
                        | 29, ho =>
                          simp at ho
                          subst ho
                          have eg : ac.tmps.getD 75 undef = .bool true := hv 5 75 rfl (by kernel_rfl)
                          have e87 : ac.tmps.getD 87 undef = .bool false := hv 17 87 rfl (by kernel_rfl)
                          have e98 : ac.tmps.getD 98 undef = .bool false := hv 28 98 rfl (by kernel_rfl)
                          exact .inl ⟨wanted_of rfl rfl eg, gho_reads γ (.bool false) (by simp [go_sem, Act.eval, -Array.getD_eq_getD_getElem?, e87, e98]) rfl (hD) (fun _ _ _ _ h => h)⟩
                        | 30, ho =>
                          simp at ho
                          subst ho
                          have e75 : ac.tmps.getD 75 undef = .bool true := hv 5 75 rfl (by kernel_rfl)
                          have e99 : ac.tmps.getD 99 undef = .bool false := hv 29 99 rfl (by kernel_rfl)
                          exact .inl ⟨rfl, gho_reads γ (.bool false) (by simp [go_sem, Act.eval, -Array.getD_eq_getD_getElem?, e75, e99]) rfl (hD) (fun _ _ _ _ h => h)⟩
                        | ix + 31, ho => simp at ho
                      case hend =>
                        intro γ v L w13 hD hall hv
                        have v30 : v 30 = .bool false := hv 30 100 rfl
                        have HE := hide (hD)
                        clear hv hall hD h0
                        simp only [putOps, List.getElem?_cons_zero, List.getElem?_cons_succ, Option.bind_some, List.length_cons, List.length_nil, Nat.reduceAdd, v30]
                        clear v30
                        go_frame
                        go_wp2
                        go_roundw
                        case rel => exact ⟨q + 1, by omega, by go_num, (unhide HBQ).trans ((unhide HE).mono (unhide HBQ).size)⟩
                        case measure => simp [intOf]; omega
                    · rw [hcw] at hHW
                      have HHW := hide hHW
                      clear hvq hcw hHW hHZ hHR
                      go_wp2_with fail
                      have h0 : Below wr.heap.size wr wr.drew := (Below.refl _ _).drew
                      refine wp_region_gho (fun (γ : Unit) ix v => (([fun v => v = .pointer (some ⟨p9, 1, none⟩), fun v => v = .int .i64 ws, fun v => v = .int .i64 (q : Int), fun v => v = .bool true, fun v => v = .bool false, fun v => v = .bool false, fun v => v = undef, fun v => v = undef, fun v => v = undef, fun v => v = undef, fun v => v = undef, fun v => v = undef, fun v => v = undef, fun v => v = undef, fun v => v = undef, fun v => v = undef, fun v => v = undef, fun v => v = undef, fun v => v = undef, fun v => v = undef, fun v => v = undef, fun v => v = undef, fun v => v = undef, fun v => v = undef, fun v => v = undef, fun v => v = undef, fun v => v = undef, fun v => v = undef, fun v => v = undef, fun v => v = undef, fun v => v = .bool false] : List (Value → Prop)).getD ix (fun _ => True)) v) (fun (_ : Unit) (_ : Nat → Bool) W => Below wr.heap.size wr W) (()) (by kernel_rfl) (by kernel_rfl) (by kernel_rfl) h0 ?hstep ?hend
                      case hstep =>
                        intro γ ix o ho L ac w1 hD hL hed hcl hout hv
                        match ix, ho with
                        | 0, ho =>
                          simp at ho
                          subst ho
                          have e9 : ac.tmps.getD 9 undef = .pointer (some ⟨p9, 0, none⟩) := hout 9 (by decide +kernel)
                          exact .inl ⟨rfl, gho_reads γ (.pointer (some ⟨p9, 1, none⟩)) (by simp [go_sem, Act.eval, -Array.getD_eq_getD_getElem?, e9]) rfl (hD) (fun _ _ _ _ h => h)⟩
                        | 1, ho =>
                          simp at ho
                          subst ho
                          have e70 : ac.tmps.getD 70 undef = .pointer (some ⟨p9, 1, none⟩) := hv 0 70 rfl (by kernel_rfl)
                          have bb := (unhide HNq).below hD
                          have c0 := bb.cell 0 rfl 1 rfl
                          rw [Nat.add_zero] at c0
                          exact .inl ⟨rfl, gho_reads γ (.int .i64 ws) (by simp [go_sem, Act.eval, -Array.getD_eq_getD_getElem?, e70, c0]) rfl (hD) (fun _ _ _ _ h => h)⟩
                        | 2, ho =>
                          simp at ho
                          subst ho
                          have e14 : ac.tmps.getD 14 undef = .int .i64 (q : Int) := hout 14 (by decide +kernel)
                          exact .inl ⟨rfl, gho_reads γ (.int .i64 (q : Int)) (by simp [go_sem, Act.eval, -Array.getD_eq_getD_getElem?, e14]) rfl (hD) (fun _ _ _ _ h => h)⟩
                        | 3, ho =>
                          simp at ho
                          subst ho
                          have e71 : ac.tmps.getD 71 undef = .int .i64 ws := hv 1 71 rfl (by kernel_rfl)
                          have e72 : ac.tmps.getD 72 undef = .int .i64 (q : Int) := hv 2 72 rfl (by kernel_rfl)
                          refine .inl ⟨rfl, gho_enters 20 #[.int .i64 ws, .int .i64 (q : Int)] (by simp [go_sem, Act.eval, -Array.getD_eq_getD_getElem?, e71, e72]) ?_⟩
                          refine (unhide HHW w1).mono ?_
                          rintro e w6 ⟨rfl, hb6⟩
                          exact ⟨_, γ, rfl, rfl, hD.trans (hb6.mono hD.size), fun _ _ _ _ h => h⟩
                        | 4, ho =>
                          simp at ho
                          subst ho
                          have e73 : ac.tmps.getD 73 undef = .bool true := hv 3 73 rfl (by kernel_rfl)
                          exact .inl ⟨rfl, gho_reads γ (.bool false) (by simp [go_sem, Act.eval, -Array.getD_eq_getD_getElem?, e73]) rfl (hD) (fun _ _ _ _ h => h)⟩
                        | 5, ho =>
                          simp at ho
                          subst ho
                          have e74 : ac.tmps.getD 74 undef = .bool false := hv 4 74 rfl (by kernel_rfl)
                          exact .inl ⟨rfl, gho_reads γ (.bool false) (by simp [go_sem, Act.eval, -Array.getD_eq_getD_getElem?, e74]) rfl (hD) (fun _ _ _ _ h => h)⟩
                        | 6, ho =>
                          simp at ho
                          subst ho
                          have eg : ac.tmps.getD 75 undef = .bool !true := hv 5 75 rfl (by kernel_rfl)
                          exact .inr ⟨unwanted_of rfl rfl eg, rfl, hD⟩
                        | 7, ho =>
                          simp at ho
                          subst ho
                          have eg : ac.tmps.getD 75 undef = .bool !true := hv 5 75 rfl (by kernel_rfl)
                          exact .inr ⟨unwanted_of rfl rfl eg, rfl, hD⟩
                        | 8, ho =>
                          simp at ho
                          subst ho
                          have eg : ac.tmps.getD 75 undef = .bool !true := hv 5 75 rfl (by kernel_rfl)
                          exact .inr ⟨unwanted_of rfl rfl eg, rfl, hD⟩
                        | 9, ho =>
                          simp at ho
                          subst ho
                          have eg : ac.tmps.getD 75 undef = .bool !true := hv 5 75 rfl (by kernel_rfl)
                          exact .inr ⟨unwanted_of rfl rfl eg, rfl, hD⟩
                        | 10, ho =>
                          simp at ho
                          subst ho
                          have eg : ac.tmps.getD 75 undef = .bool !true := hv 5 75 rfl (by kernel_rfl)
                          exact .inr ⟨unwanted_of rfl rfl eg, rfl, hD⟩
                        | 11, ho =>
                          simp at ho
                          subst ho
                          have eg : ac.tmps.getD 75 undef = .bool !true := hv 5 75 rfl (by kernel_rfl)
                          exact .inr ⟨unwanted_of rfl rfl eg, rfl, hD⟩
                        | 12, ho =>
                          simp at ho
                          subst ho
                          have eg : ac.tmps.getD 75 undef = .bool !true := hv 5 75 rfl (by kernel_rfl)
                          exact .inr ⟨unwanted_of rfl rfl eg, rfl, hD⟩
                        | 13, ho =>
                          simp at ho
                          subst ho
                          have eg : ac.tmps.getD 75 undef = .bool !true := hv 5 75 rfl (by kernel_rfl)
                          exact .inr ⟨unwanted_of rfl rfl eg, rfl, hD⟩
                        | 14, ho =>
                          simp at ho
                          subst ho
                          have eg : ac.tmps.getD 75 undef = .bool !true := hv 5 75 rfl (by kernel_rfl)
                          exact .inr ⟨unwanted_of rfl rfl eg, rfl, hD⟩
                        | 15, ho =>
                          simp at ho
                          subst ho
                          have eg : ac.tmps.getD 75 undef = .bool !true := hv 5 75 rfl (by kernel_rfl)
                          exact .inr ⟨unwanted_of rfl rfl eg, rfl, hD⟩
                        | 16, ho =>
                          simp at ho
                          subst ho
                          have eg : ac.tmps.getD 75 undef = .bool !true := hv 5 75 rfl (by kernel_rfl)
                          exact .inr ⟨unwanted_of rfl rfl eg, rfl, hD⟩
                        | 17, ho =>
                          simp at ho
                          subst ho
                          have eg : ac.tmps.getD 75 undef = .bool !true := hv 5 75 rfl (by kernel_rfl)
                          exact .inr ⟨unwanted_of rfl rfl eg, rfl, hD⟩
                        | 18, ho =>
                          simp at ho
                          subst ho
                          have eg : ac.tmps.getD 87 undef = undef := hv 17 87 rfl (by kernel_rfl)
                          exact .inr ⟨unwanted_un rfl rfl eg, rfl, hD⟩
                        | 19, ho =>
                          simp at ho
                          subst ho
                          have eg : ac.tmps.getD 87 undef = undef := hv 17 87 rfl (by kernel_rfl)
                          exact .inr ⟨unwanted_un rfl rfl eg, rfl, hD⟩
                        | 20, ho =>
                          simp at ho
                          subst ho
                          have eg : ac.tmps.getD 87 undef = undef := hv 17 87 rfl (by kernel_rfl)
                          exact .inr ⟨unwanted_un rfl rfl eg, rfl, hD⟩
                        | 21, ho =>
                          simp at ho
                          subst ho
                          have eg : ac.tmps.getD 87 undef = undef := hv 17 87 rfl (by kernel_rfl)
                          exact .inr ⟨unwanted_un rfl rfl eg, rfl, hD⟩
                        | 22, ho =>
                          simp at ho
                          subst ho
                          have eg : ac.tmps.getD 87 undef = undef := hv 17 87 rfl (by kernel_rfl)
                          exact .inr ⟨unwanted_un rfl rfl eg, rfl, hD⟩
                        | 23, ho =>
                          simp at ho
                          subst ho
                          have eg : ac.tmps.getD 87 undef = undef := hv 17 87 rfl (by kernel_rfl)
                          exact .inr ⟨unwanted_un rfl rfl eg, rfl, hD⟩
                        | 24, ho =>
                          simp at ho
                          subst ho
                          have eg : ac.tmps.getD 87 undef = undef := hv 17 87 rfl (by kernel_rfl)
                          exact .inr ⟨unwanted_un rfl rfl eg, rfl, hD⟩
                        | 25, ho =>
                          simp at ho
                          subst ho
                          have eg : ac.tmps.getD 87 undef = undef := hv 17 87 rfl (by kernel_rfl)
                          exact .inr ⟨unwanted_un rfl rfl eg, rfl, hD⟩
                        | 26, ho =>
                          simp at ho
                          subst ho
                          have eg : ac.tmps.getD 87 undef = undef := hv 17 87 rfl (by kernel_rfl)
                          exact .inr ⟨unwanted_un rfl rfl eg, rfl, hD⟩
                        | 27, ho =>
                          simp at ho
                          subst ho
                          have eg : ac.tmps.getD 87 undef = undef := hv 17 87 rfl (by kernel_rfl)
                          exact .inr ⟨unwanted_un rfl rfl eg, rfl, hD⟩
                        | 28, ho =>
                          simp at ho
                          subst ho
                          have eg : ac.tmps.getD 87 undef = undef := hv 17 87 rfl (by kernel_rfl)
                          exact .inr ⟨unwanted_un rfl rfl eg, rfl, hD⟩
                        | 29, ho =>
                          simp at ho
                          subst ho
                          have eg : ac.tmps.getD 75 undef = .bool !true := hv 5 75 rfl (by kernel_rfl)
                          exact .inr ⟨unwanted_of rfl rfl eg, rfl, hD⟩
                        | 30, ho =>
                          simp at ho
                          subst ho
                          have e75 : ac.tmps.getD 75 undef = .bool false := hv 5 75 rfl (by kernel_rfl)
                          exact .inl ⟨rfl, gho_reads γ (.bool false) (by simp [go_sem, Act.eval, -Array.getD_eq_getD_getElem?, e75]) rfl (hD) (fun _ _ _ _ h => h)⟩
                        | ix + 31, ho => simp at ho
                      case hend =>
                        intro γ v L w13 hD hall hv
                        have v30 : v 30 = .bool false := hv 30 100 rfl
                        have HE := hide (hD)
                        clear hv hall hD h0
                        simp only [putOps, List.getElem?_cons_zero, List.getElem?_cons_succ, Option.bind_some, List.length_cons, List.length_nil, Nat.reduceAdd, v30]
                        clear v30
                        go_frame
                        go_wp2
                        go_roundw
                        case rel => exact ⟨q + 1, by omega, by go_num, (unhide HBQ).trans ((unhide HE).mono (unhide HBQ).size)⟩
                        case measure => simp [intOf]; omega
                  · obtain rfl : q = 8 := by omega
                    have HE := hide ((unhide HL11).trans (((unhide HD).trans (hbr.mono (unhide HD).size)).mono (unhide HL11).size))
                    clear hbr
                    go_wp2
                    go_roundw
                    case rel => exact ⟨k + 1, by omega, by go_num, unhide HE⟩
                    case measure => simp [intOf]; omega
      · obtain rfl : k = X.rows.length := by omega
        have hB9 := (unhide HB8).below hbr
        have hN9 := (unhide H9).below hbr
        have hV9 := (unhide H10).below hbr
        have n3 := hN9.cell 0 rfl 3 rfl
        have r0 := hB9.cell 0 rfl 0 rfl
        have v0 := hV9.cell 0 rfl 0 rfl
        rw [Nat.add_zero] at n3 r0 v0
        have HL9 := hide ((unhide HL8).trans (hbr.mono (unhide HL8).size))
        cases lf
        · have hlen := unhide HWL rfl
          clear hB9 hN9 hV9 hbr
          go_wp2
          go_ret
          exact ⟨rfl, unhide HL9⟩
        · clear hB9 hN9 hV9 hbr
          go_wp2
          go_ret
          exact ⟨rfl, unhide HL9⟩
theorem writes_law (A : Option Addr) (cap : Nat) (G : Option Addr) (gcap : Nat) (X : Wd) (s : SysI) (w : World) (hn0 : X.rows.length ≤ 9223372036854775807) (hX : WldAt w A cap G gcap X) (hA : ActsAt w s.A s.len s.a) :
    Calls Try.prog 5 #[wldV A cap G gcap X, sysI s] w fun e w' => e = .returned (.bool true) ∧ Below w.heap.size w w' := by
  by_cases h : (wrongW X).1 = 0
  · by_cases he : (runS X s).1 = 0
    · exact writes_right A cap G gcap X s w hX hA ((right_iff X).1 h) he
    · exact writes_err A cap G gcap X s w hX hA ((right_iff X).1 h) he
  · exact writes_wrong A cap G gcap X s w hn0 hX hA h
end Go.Proofs.Ytnbleebilmghcab
