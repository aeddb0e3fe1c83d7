/- The law RunBlind. -/
import Derived.Test.YtnbleebilmghcabQG
import Derived.Test.YtnbleebilmghcabQY
import Derived.Test.YtnbleebilmghcabQX
import Derived.Test.YtnbleebilmghcabZRnBl1
import Derived.Test.YtnbleebilmghcabZRnB21
import Derived.Test.YtnbleebilmghcabZRnWrites0
set_option linter.all false
namespace Go.Proofs.Ytnbleebilmghcab
open Go Go.RowKit
attribute [local go_sem ↓] Go.wp_at_zero Go.wp_at_succ
theorem run_field34 (a b c d : Value) (w : World) : Sem.run Try.prog (Instr.field 34 (.agg #[a, b, c, d]) 0) w = .ok a w := by kernel_rfl
attribute [local go_sem ↓] neq61
theorem size53b : (Try.prog.info? 53).map (·.size) = some 11 := by kernel_rfl
theorem size3' : (Try.prog.info? 3).map (·.size) = some 1 := by kernel_rfl
structure BW (w6 : World) (gs v : Value) (k : Nat) (cs : List Value) (W : World) : Prop where
  bx : Bxs w6.heap.size [([v, gs], 40)] W
  own : W.ownsRow (w6.heap.size + 1) 53 11 v k cs
  bel : Below w6.heap.size w6 W
section
variable {w6 : World} {gs v v' : Value} {k k' : Nat} {cs cs' : List Value} {W W1 : World}
theorem BW.below (h : BW w6 gs v k cs W) (hb : Below W.heap.size W W1) : BW w6 gs v k cs W1 := ⟨h.bx.below hb, own_kept h.own hb, h.bel.trans (hb.mono h.bel.size)⟩
theorem BW.sz (h : BW w6 gs v k cs W) : w6.heap.size + 1 ≤ W.heap.size := h.bx.sz (by simp)
theorem BW.grow (h : BW w6 gs v k cs W) (hg : W.grownBy W1 v.ownBlock) : Bxs w6.heap.size [([v, gs], 40)] W1 ∧ Below w6.heap.size w6 W1 :=
  have hb := grown_below hg (fun k hk => (h.own.lt k hk).1) h.sz
  ⟨h.bx.keep hb, h.bel.trans (hb.mono (Nat.le_succ _))⟩
theorem BW.put (hx : Bxs w6.heap.size [([v, gs], 40)] W) (hb : Below w6.heap.size w6 W) (ho : W.ownsRow (w6.heap.size + 1) 53 11 v' k' cs') : BW w6 gs v' k' cs' (W.setCell ⟨w6.heap.size, 0, none⟩ v') := by
  refine ⟨fun j us t hj => ?_, ownsRow_setCell_below ho (a := ⟨w6.heap.size, 0, none⟩) (by simp) v', hb.setCell (p := ⟨w6.heap.size, 0, none⟩) (Nat.le_refl _) v'⟩
  match j, hj with
  | 0, hj =>
    simp only [List.getElem?_cons_zero, Option.some.injEq, Prod.mk.injEq] at hj
    obtain ⟨rfl, rfl⟩ := hj
    exact heap_sets_same w6.heap.size 40 [v'] 0 [v, gs] W (hx 0 _ _ rfl) (by simp)
  | j + 1, hj => simp at hj
end
theorem rowAt_setv {W : World} {b : Nat} {r : RowI} (h : RowAt W b 0 r) {pt : Nat} (hp : pt < 8) (x : Int) : RowAt (W.setCell ⟨b, 3 + pt, none⟩ (.int .i64 x)) b 0 (uRow pt x r) := by
  have sm : ∀ o, o ≠ 3 + pt → (⟨b, 3 + pt, none⟩ : Addr) ≠ ⟨b, o, none⟩ := fun o ho e => by injection e with _ e2; exact ho e2.symm
  refine ⟨cell_other (sm _ (by omega)) h.c0, cell_other (sm _ (by omega)) h.c1, cell_other (sm _ (by omega)) h.c2, fun k hk => ?_⟩
  have hv := h.v k hk
  by_cases e : k = pt
  · subst e
    have e2 : (uRow k x r).v k = x := if_pos rfl
    rw [e2]
    rw [Nat.zero_add] at hv ⊢
    exact cell_same hv
  · have e2 : (uRow pt x r).v k = r.v k := if_neg e
    rw [e2]
    exact cell_other (sm _ (by omega)) hv
theorem uTo_cells (X : Wd) (vals : List Int) (pt k : Nat) {r' : RowI} (h : uAt vals pt k (rowOf X k) = r') : cellsOfRows (uTo X vals pt (k + 1)) = cellsOfRows (uTo X vals pt k) ++ rowCells r' := by
  show cellsOfRows (uTo X vals pt k ++ [uAt vals pt k (rowOf X k)]) = _
  rw [cells_app, h]
  rw [cells_one]
set_option maxRecDepth 8000 in
set_option maxHeartbeats 8000000 in
theorem blind_wrong (A : Option Addr) (cap : Nat) (G : Option Addr) (gcap : Nat) (X : Wd) (s : SysI) (pi : Int) (Lv : Option Addr) (vals : List Int) (vcap : Nat) (w : World) (hn0 : X.rows.length ≤ 9223372036854775807) (hX : WldAt w A cap G gcap X) (hw0 : (wrongW X).1 ≠ 0) :
    Calls Try.prog 6 #[wldV A cap G gcap X, sysI s, .int .i64 pi, .slice Lv vals.length vcap] w fun e w' => e = .returned (.bool true) ∧ Below w.heap.size w w' := by
  have hOF := fun W (hb : Below w.heap.size w W) => of_wrong A cap G gcap X W hn0 (hX.below hb) hw0
  unfold wldV worldV stV at hOF
  obtain ⟨we, hwe⟩ : ∃ we, we = (wrongW X).1 := ⟨_, rfl⟩
  generalize (wrongW X).2 = wa at *
  rw [← hwe] at hOF hw0
  clear hwe
  have HOF := hide hOF
  clear hOF
  have hB0 := Bxs.start w [([.slice A X.rows.length cap, .slice G X.gens.length gcap], 40), ([.int .i64 s.m, .int .i64 s.al, .int .i64 s.no, .slice s.A s.len s.cap], 26)]
  have hb0 := allocs_below [([.slice A X.rows.length cap, .slice G X.gens.length gcap], 40), ([.int .i64 s.m, .int .i64 s.al, .int .i64 s.no, .slice s.A s.len s.cap], 26)] w
  obtain ⟨W0, hW0⟩ : ∃ W0, W0 = allocs w [([.slice A X.rows.length cap, .slice G X.gens.length gcap], 40), ([.int .i64 s.m, .int .i64 s.al, .int .i64 s.no, .slice s.A s.len s.cap], 26)] := ⟨_, rfl⟩
  rw [← hW0] at hB0 hb0
  have hW0' : (w.alloc (.cells #[.slice A X.rows.length cap, .slice G X.gens.length gcap] 40)).alloc (.cells #[.int .i64 s.m, .int .i64 s.al, .int .i64 s.no, .slice s.A s.len s.cap] 26) = W0 := hW0.symm
  have HW0 := hide hW0'
  have HB0 := hide hB0
  have HL0 := hide hb0
  have HX := hide hX
  clear hW0 hW0' hB0 hb0 hX
  unfold wldV worldV sysI sysV
  go_enter Try.func6, Try.ntmps6
  go_wp2_with fail
  go_at_call 15
  rw [unhide HW0]
  refine (alive5_any W0).mono ?_
  rintro e w1 ⟨rfl, hb1⟩
  have hB1 := (unhide HB0).below hb1
  have hL1 := (unhide HL0).trans (hb1.mono (unhide HL0).size)
  have c0 := hB1.cell 0 rfl 0 rfl
  have c1 := hB1.cell 0 rfl 1 rfl
  rw [Nat.add_zero] at c0 c1
  have HB1 := hide hB1
  have HL1 := hide hL1
  clear hB1 hL1 hb1 HW0 HB0 HL0
  go_wp2_with fail
  go_at_call 16
  refine (unhide HOF _ (unhide HL1)).mono ?_
  rintro e w2 ⟨rfl, hb2⟩
  have hB2 := Bxs.start w2 [([.slice none 0 0, .slice none 0 0], 43), ([.int .i64 we, .int .i64 wa], 30)]
  have hb3 := allocs_below [([.slice none 0 0, .slice none 0 0], 43), ([.int .i64 we, .int .i64 wa], 30)] w2
  obtain ⟨W3, hW3⟩ : ∃ W3, W3 = allocs w2 [([.slice none 0 0, .slice none 0 0], 43), ([.int .i64 we, .int .i64 wa], 30)] := ⟨_, rfl⟩
  rw [← hW3] at hB2 hb3
  have hL2 := (unhide HL1).trans (hb2.mono (unhide HL1).size)
  have HL3 := hide (hL2.trans (hb3.mono hL2.size))
  have HB3 := hide (((unhide HB1).below hb2).below hb3)
  have HC3 := hide hB2
  have hW3' : (w2.alloc (.cells #[.slice none 0 0, .slice none 0 0] 43)).alloc (.cells #[.int .i64 we, .int .i64 wa] 30) = W3 := hW3.symm
  have HW3 := hide hW3'
  clear c0 c1 hB2 hb3 hb2 hL2 hW3 hW3' HB1 HL1 HOF
  have f0 := (unhide HC3).cell 1 rfl 0 rfl
  have hne : (we == 0) = false := by simpa using hw0
  go_upto_region 4 with fail
  rw [unhide HW3]
  go_wp2
  go_ret
  exact ⟨rfl, unhide HL3⟩
set_option maxRecDepth 8000 in
set_option maxHeartbeats 8000000 in
theorem blind_s (A : Option Addr) (cap : Nat) (G : Option Addr) (gcap : Nat) (X : Wd) (s : SysI) (pi : Int) (Lv : Option Addr) (vals : List Int) (vcap : Nat) (w : World) (hX : WldAt w A cap G gcap X) (hr : RightW X) (hA : ActsAt w s.A s.len s.a) (h1 : (wrF s.m s.al s.no s.a s.len).1 ≠ 0) :
    Calls Try.prog 6 #[wldV A cap G gcap X, sysI s, .int .i64 pi, .slice Lv vals.length vcap] w fun e w' => e = .returned (.bool true) ∧ Below w.heap.size w w' := by
  obtain ⟨hl, hgl, _⟩ := right_hr ((right_iff X).2 hr)
  have hOF := fun W (hb : Below w.heap.size w W) => of_right A cap G gcap X W (hX.below hb) hr
  unfold wldV worldV stV at hOF
  have HOF := hide hOF
  have HRX := hide hr
  clear hOF hr
  have hVS := fun W (hb : Below w.heap.size w W) => wrong_any s.m s.al s.no s.A s.len s.cap s.a W (hA.below hb)
  unfold sysV faultV at hVS
  have hfd := run_field
  have hfe := run_field34
  obtain ⟨e1, he1⟩ : ∃ e1, e1 = (wrF s.m s.al s.no s.a s.len).1 := ⟨_, rfl⟩
  generalize (wrF s.m s.al s.no s.a s.len).2 = a1 at *
  rw [← he1] at hVS
  rw [← he1] at h1
  have hne : (e1 == 0) = false := by simpa using h1
  clear he1 hA
  have HVS := hide hVS
  have HFD := hide hfd
  have HFE := hide hfe
  clear hVS hfd hfe
  have hB0 := Bxs.start w [([.slice A X.rows.length cap, .slice G X.gens.length gcap], 40), ([.int .i64 s.m, .int .i64 s.al, .int .i64 s.no, .slice s.A s.len s.cap], 26)]
  have hb0 := allocs_below [([.slice A X.rows.length cap, .slice G X.gens.length gcap], 40), ([.int .i64 s.m, .int .i64 s.al, .int .i64 s.no, .slice s.A s.len s.cap], 26)] w
  obtain ⟨W0, hW0⟩ : ∃ W0, W0 = allocs w [([.slice A X.rows.length cap, .slice G X.gens.length gcap], 40), ([.int .i64 s.m, .int .i64 s.al, .int .i64 s.no, .slice s.A s.len s.cap], 26)] := ⟨_, rfl⟩
  rw [← hW0] at hB0 hb0
  have hW0' : (w.alloc (.cells #[.slice A X.rows.length cap, .slice G X.gens.length gcap] 40)).alloc (.cells #[.int .i64 s.m, .int .i64 s.al, .int .i64 s.no, .slice s.A s.len s.cap] 26) = W0 := hW0.symm
  have HW0 := hide hW0'
  have HB0 := hide hB0
  have HL0 := hide hb0
  have HX := hide hX
  clear hW0 hW0' hB0 hb0 hX
  unfold wldV worldV sysI sysV
  go_enter Try.func6, Try.ntmps6
  go_wp2_with fail
  go_at_call 15
  rw [unhide HW0]
  refine (alive5_any W0).mono ?_
  rintro e w1 ⟨rfl, hb1⟩
  have hB1 := (unhide HB0).below hb1
  have hL1 := (unhide HL0).trans (hb1.mono (unhide HL0).size)
  have c0 := hB1.cell 0 rfl 0 rfl
  have c1 := hB1.cell 0 rfl 1 rfl
  rw [Nat.add_zero] at c0 c1
  have HB1 := hide hB1
  have HL1 := hide hL1
  clear hB1 hL1 hb1 HW0 HB0 HL0
  go_wp2_with fail
  go_at_call 16
  refine (unhide HOF _ (unhide HL1)).mono ?_
  rintro e w2 ⟨T2, tc2, G2, gc2, rfl, hN2, hb2⟩
  have hB2 := Bxs.start w2 [([.slice T2 (tabsW X).length tc2, .slice G2 X.gens.length gc2], 43), ([.int .i64 0, .int .i64 0], 30)]
  have hb3 := allocs_below [([.slice T2 (tabsW X).length tc2, .slice G2 X.gens.length gc2], 43), ([.int .i64 0, .int .i64 0], 30)] w2
  obtain ⟨W3, hW3⟩ : ∃ W3, W3 = allocs w2 [([.slice T2 (tabsW X).length tc2, .slice G2 X.gens.length gc2], 43), ([.int .i64 0, .int .i64 0], 30)] := ⟨_, rfl⟩
  rw [← hW3] at hB2 hb3
  have hL2 := (unhide HL1).trans (hb2.mono (unhide HL1).size)
  have HL3 := hide (hL2.trans (hb3.mono hL2.size))
  have HB3 := hide (((unhide HB1).below hb2).below hb3)
  have HC3 := hide hB2
  have HT3 := hide (hN2.below hb3).st
  have HX3 := hide ((unhide HX).below (hL2.trans (hb3.mono hL2.size)))
  have hW3' : (w2.alloc (.cells #[.slice T2 (tabsW X).length tc2, .slice G2 X.gens.length gc2] 43)).alloc (.cells #[.int .i64 0, .int .i64 0] 30) = W3 := hW3.symm
  have HW3 := hide hW3'
  clear c0 c1 hB2 hb3 hb2 hL2 hW3 hW3' hN2 HB1 HL1 HOF HX
  have f0 := (unhide HC3).cell 1 rfl 0 rfl
  have y0 := (unhide HB3).cell 1 rfl 0 rfl
  have y1 := (unhide HB3).cell 1 rfl 1 rfl
  have y2 := (unhide HB3).cell 1 rfl 2 rfl
  have y3 := (unhide HB3).cell 1 rfl 3 rfl
  go_upto_region 4 with fail
  rw [unhide HW3]
  have hfd := unhide HFD
  have hfe := unhide HFE
  go_wp2_with fail
  go_at_call 12
  refine (unhide HVS _ (unhide HL3)).mono ?_
  rintro e w4 ⟨rfl, hb4⟩
  have HL4 := hide ((unhide HL3).trans (hb4.mono (unhide HL3).size))
  have hB4 := (unhide HB3).below hb4
  have hC4 := (unhide HC3).below hb4
  have HT4 := hide ((unhide HT3).below hb4)
  have HX4 := hide ((unhide HX3).below hb4)
  clear f0 y0 y1 y2 y3
  have y0 := hB4.cell 1 rfl 0 rfl
  have y1 := hB4.cell 1 rfl 1 rfl
  have y2 := hB4.cell 1 rfl 2 rfl
  have y3 := hB4.cell 1 rfl 3 rfl
  have HB4 := hide hB4
  have HC4 := hide hC4
  clear hb4 hB4 hC4 HW3
  go_wp2
  go_ret
  exact ⟨rfl, unhide HL4⟩
set_option maxRecDepth 8000 in
set_option maxHeartbeats 8000000 in
theorem blind_lo (A : Option Addr) (cap : Nat) (G : Option Addr) (gcap : Nat) (X : Wd) (s : SysI) (pi : Int) (Lv : Option Addr) (vals : List Int) (vcap : Nat) (w : World) (hX : WldAt w A cap G gcap X) (hr : RightW X) (hA : ActsAt w s.A s.len s.a) (h1 : (wrF s.m s.al s.no s.a s.len).1 = 0) (hp : pi < 0) :
    Calls Try.prog 6 #[wldV A cap G gcap X, sysI s, .int .i64 pi, .slice Lv vals.length vcap] w fun e w' => e = .returned (.bool true) ∧ Below w.heap.size w w' := by
  obtain ⟨hl, hgl, _⟩ := right_hr ((right_iff X).2 hr)
  have hOF := fun W (hb : Below w.heap.size w W) => of_right A cap G gcap X W (hX.below hb) hr
  unfold wldV worldV stV at hOF
  have HOF := hide hOF
  have HRX := hide hr
  clear hOF hr
  have hVS := fun W (hb : Below w.heap.size w W) => wrong_any s.m s.al s.no s.A s.len s.cap s.a W (hA.below hb)
  unfold sysV faultV at hVS
  have hfd := run_field
  have hfe := run_field34
  obtain ⟨e1, he1⟩ : ∃ e1, e1 = (wrF s.m s.al s.no s.a s.len).1 := ⟨_, rfl⟩
  generalize (wrF s.m s.al s.no s.a s.len).2 = a1 at *
  rw [← he1] at hVS
  rw [h1] at he1
  subst he1
  clear hA h1
  have HVS := hide hVS
  have HFD := hide hfd
  have HFE := hide hfe
  clear hVS hfd hfe
  have hB0 := Bxs.start w [([.slice A X.rows.length cap, .slice G X.gens.length gcap], 40), ([.int .i64 s.m, .int .i64 s.al, .int .i64 s.no, .slice s.A s.len s.cap], 26)]
  have hb0 := allocs_below [([.slice A X.rows.length cap, .slice G X.gens.length gcap], 40), ([.int .i64 s.m, .int .i64 s.al, .int .i64 s.no, .slice s.A s.len s.cap], 26)] w
  obtain ⟨W0, hW0⟩ : ∃ W0, W0 = allocs w [([.slice A X.rows.length cap, .slice G X.gens.length gcap], 40), ([.int .i64 s.m, .int .i64 s.al, .int .i64 s.no, .slice s.A s.len s.cap], 26)] := ⟨_, rfl⟩
  rw [← hW0] at hB0 hb0
  have hW0' : (w.alloc (.cells #[.slice A X.rows.length cap, .slice G X.gens.length gcap] 40)).alloc (.cells #[.int .i64 s.m, .int .i64 s.al, .int .i64 s.no, .slice s.A s.len s.cap] 26) = W0 := hW0.symm
  have HW0 := hide hW0'
  have HB0 := hide hB0
  have HL0 := hide hb0
  have HX := hide hX
  clear hW0 hW0' hB0 hb0 hX
  unfold wldV worldV sysI sysV
  go_enter Try.func6, Try.ntmps6
  go_wp2_with fail
  go_at_call 15
  rw [unhide HW0]
  refine (alive5_any W0).mono ?_
  rintro e w1 ⟨rfl, hb1⟩
  have hB1 := (unhide HB0).below hb1
  have hL1 := (unhide HL0).trans (hb1.mono (unhide HL0).size)
  have c0 := hB1.cell 0 rfl 0 rfl
  have c1 := hB1.cell 0 rfl 1 rfl
  rw [Nat.add_zero] at c0 c1
  have HB1 := hide hB1
  have HL1 := hide hL1
  clear hB1 hL1 hb1 HW0 HB0 HL0
  go_wp2_with fail
  go_at_call 16
  refine (unhide HOF _ (unhide HL1)).mono ?_
  rintro e w2 ⟨T2, tc2, G2, gc2, rfl, hN2, hb2⟩
  have hB2 := Bxs.start w2 [([.slice T2 (tabsW X).length tc2, .slice G2 X.gens.length gc2], 43), ([.int .i64 0, .int .i64 0], 30)]
  have hb3 := allocs_below [([.slice T2 (tabsW X).length tc2, .slice G2 X.gens.length gc2], 43), ([.int .i64 0, .int .i64 0], 30)] w2
  obtain ⟨W3, hW3⟩ : ∃ W3, W3 = allocs w2 [([.slice T2 (tabsW X).length tc2, .slice G2 X.gens.length gc2], 43), ([.int .i64 0, .int .i64 0], 30)] := ⟨_, rfl⟩
  rw [← hW3] at hB2 hb3
  have hL2 := (unhide HL1).trans (hb2.mono (unhide HL1).size)
  have HL3 := hide (hL2.trans (hb3.mono hL2.size))
  have HB3 := hide (((unhide HB1).below hb2).below hb3)
  have HC3 := hide hB2
  have HT3 := hide (hN2.below hb3).st
  have HX3 := hide ((unhide HX).below (hL2.trans (hb3.mono hL2.size)))
  have hW3' : (w2.alloc (.cells #[.slice T2 (tabsW X).length tc2, .slice G2 X.gens.length gc2] 43)).alloc (.cells #[.int .i64 0, .int .i64 0] 30) = W3 := hW3.symm
  have HW3 := hide hW3'
  clear c0 c1 hB2 hb3 hb2 hL2 hW3 hW3' hN2 HB1 HL1 HOF HX
  have f0 := (unhide HC3).cell 1 rfl 0 rfl
  have y0 := (unhide HB3).cell 1 rfl 0 rfl
  have y1 := (unhide HB3).cell 1 rfl 1 rfl
  have y2 := (unhide HB3).cell 1 rfl 2 rfl
  have y3 := (unhide HB3).cell 1 rfl 3 rfl
  go_upto_region 4 with fail
  rw [unhide HW3]
  have hfd := unhide HFD
  have hfe := unhide HFE
  go_wp2_with fail
  go_at_call 12
  refine (unhide HVS _ (unhide HL3)).mono ?_
  rintro e w4 ⟨rfl, hb4⟩
  have HL4 := hide ((unhide HL3).trans (hb4.mono (unhide HL3).size))
  have hB4 := (unhide HB3).below hb4
  have hC4 := (unhide HC3).below hb4
  have HT4 := hide ((unhide HT3).below hb4)
  have HX4 := hide ((unhide HX3).below hb4)
  clear f0 y0 y1 y2 y3
  have y0 := hB4.cell 1 rfl 0 rfl
  have y1 := hB4.cell 1 rfl 1 rfl
  have y2 := hB4.cell 1 rfl 2 rfl
  have y3 := hB4.cell 1 rfl 3 rfl
  have HB4 := hide hB4
  have HC4 := hide hC4
  clear hb4 hB4 hC4 HW3
  go_wp2
  go_ret
  exact ⟨rfl, unhide HL4⟩
set_option maxRecDepth 8000 in
set_option maxHeartbeats 8000000 in
theorem blind_hi (A : Option Addr) (cap : Nat) (G : Option Addr) (gcap : Nat) (X : Wd) (s : SysI) (pi : Int) (Lv : Option Addr) (vals : List Int) (vcap : Nat) (w : World) (hX : WldAt w A cap G gcap X) (hr : RightW X) (hA : ActsAt w s.A s.len s.a) (h1 : (wrF s.m s.al s.no s.a s.len).1 = 0) (hp : 8 ≤ pi) :
    Calls Try.prog 6 #[wldV A cap G gcap X, sysI s, .int .i64 pi, .slice Lv vals.length vcap] w fun e w' => e = .returned (.bool true) ∧ Below w.heap.size w w' := by
  obtain ⟨hl, hgl, _⟩ := right_hr ((right_iff X).2 hr)
  have hOF := fun W (hb : Below w.heap.size w W) => of_right A cap G gcap X W (hX.below hb) hr
  unfold wldV worldV stV at hOF
  have HOF := hide hOF
  have HRX := hide hr
  clear hOF hr
  have hVS := fun W (hb : Below w.heap.size w W) => wrong_any s.m s.al s.no s.A s.len s.cap s.a W (hA.below hb)
  unfold sysV faultV at hVS
  have hfd := run_field
  have hfe := run_field34
  obtain ⟨e1, he1⟩ : ∃ e1, e1 = (wrF s.m s.al s.no s.a s.len).1 := ⟨_, rfl⟩
  generalize (wrF s.m s.al s.no s.a s.len).2 = a1 at *
  rw [← he1] at hVS
  rw [h1] at he1
  subst he1
  have hp1 : decide (pi < 0) = false := decide_eq_false (by omega)
  have hp2 : decide (8 ≤ pi) = true := decide_eq_true hp
  clear hA h1
  have HVS := hide hVS
  have HFD := hide hfd
  have HFE := hide hfe
  clear hVS hfd hfe
  have hB0 := Bxs.start w [([.slice A X.rows.length cap, .slice G X.gens.length gcap], 40), ([.int .i64 s.m, .int .i64 s.al, .int .i64 s.no, .slice s.A s.len s.cap], 26)]
  have hb0 := allocs_below [([.slice A X.rows.length cap, .slice G X.gens.length gcap], 40), ([.int .i64 s.m, .int .i64 s.al, .int .i64 s.no, .slice s.A s.len s.cap], 26)] w
  obtain ⟨W0, hW0⟩ : ∃ W0, W0 = allocs w [([.slice A X.rows.length cap, .slice G X.gens.length gcap], 40), ([.int .i64 s.m, .int .i64 s.al, .int .i64 s.no, .slice s.A s.len s.cap], 26)] := ⟨_, rfl⟩
  rw [← hW0] at hB0 hb0
  have hW0' : (w.alloc (.cells #[.slice A X.rows.length cap, .slice G X.gens.length gcap] 40)).alloc (.cells #[.int .i64 s.m, .int .i64 s.al, .int .i64 s.no, .slice s.A s.len s.cap] 26) = W0 := hW0.symm
  have HW0 := hide hW0'
  have HB0 := hide hB0
  have HL0 := hide hb0
  have HX := hide hX
  clear hW0 hW0' hB0 hb0 hX
  unfold wldV worldV sysI sysV
  go_enter Try.func6, Try.ntmps6
  go_wp2_with fail
  go_at_call 15
  rw [unhide HW0]
  refine (alive5_any W0).mono ?_
  rintro e w1 ⟨rfl, hb1⟩
  have hB1 := (unhide HB0).below hb1
  have hL1 := (unhide HL0).trans (hb1.mono (unhide HL0).size)
  have c0 := hB1.cell 0 rfl 0 rfl
  have c1 := hB1.cell 0 rfl 1 rfl
  rw [Nat.add_zero] at c0 c1
  have HB1 := hide hB1
  have HL1 := hide hL1
  clear hB1 hL1 hb1 HW0 HB0 HL0
  go_wp2_with fail
  go_at_call 16
  refine (unhide HOF _ (unhide HL1)).mono ?_
  rintro e w2 ⟨T2, tc2, G2, gc2, rfl, hN2, hb2⟩
  have hB2 := Bxs.start w2 [([.slice T2 (tabsW X).length tc2, .slice G2 X.gens.length gc2], 43), ([.int .i64 0, .int .i64 0], 30)]
  have hb3 := allocs_below [([.slice T2 (tabsW X).length tc2, .slice G2 X.gens.length gc2], 43), ([.int .i64 0, .int .i64 0], 30)] w2
  obtain ⟨W3, hW3⟩ : ∃ W3, W3 = allocs w2 [([.slice T2 (tabsW X).length tc2, .slice G2 X.gens.length gc2], 43), ([.int .i64 0, .int .i64 0], 30)] := ⟨_, rfl⟩
  rw [← hW3] at hB2 hb3
  have hL2 := (unhide HL1).trans (hb2.mono (unhide HL1).size)
  have HL3 := hide (hL2.trans (hb3.mono hL2.size))
  have HB3 := hide (((unhide HB1).below hb2).below hb3)
  have HC3 := hide hB2
  have HT3 := hide (hN2.below hb3).st
  have HX3 := hide ((unhide HX).below (hL2.trans (hb3.mono hL2.size)))
  have hW3' : (w2.alloc (.cells #[.slice T2 (tabsW X).length tc2, .slice G2 X.gens.length gc2] 43)).alloc (.cells #[.int .i64 0, .int .i64 0] 30) = W3 := hW3.symm
  have HW3 := hide hW3'
  clear c0 c1 hB2 hb3 hb2 hL2 hW3 hW3' hN2 HB1 HL1 HOF HX
  have f0 := (unhide HC3).cell 1 rfl 0 rfl
  have y0 := (unhide HB3).cell 1 rfl 0 rfl
  have y1 := (unhide HB3).cell 1 rfl 1 rfl
  have y2 := (unhide HB3).cell 1 rfl 2 rfl
  have y3 := (unhide HB3).cell 1 rfl 3 rfl
  go_upto_region 4 with fail
  rw [unhide HW3]
  have hfd := unhide HFD
  have hfe := unhide HFE
  go_wp2_with fail
  go_at_call 12
  refine (unhide HVS _ (unhide HL3)).mono ?_
  rintro e w4 ⟨rfl, hb4⟩
  have HL4 := hide ((unhide HL3).trans (hb4.mono (unhide HL3).size))
  have hB4 := (unhide HB3).below hb4
  have hC4 := (unhide HC3).below hb4
  have HT4 := hide ((unhide HT3).below hb4)
  have HX4 := hide ((unhide HX3).below hb4)
  clear f0 y0 y1 y2 y3
  have y0 := hB4.cell 1 rfl 0 rfl
  have y1 := hB4.cell 1 rfl 1 rfl
  have y2 := hB4.cell 1 rfl 2 rfl
  have y3 := hB4.cell 1 rfl 3 rfl
  have HB4 := hide hB4
  have HC4 := hide hC4
  clear hb4 hB4 hC4 HW3
  go_wp2
  go_ret
  exact ⟨rfl, unhide HL4⟩
set_option maxRecDepth 8000 in
set_option maxHeartbeats 8000000 in
theorem blind_rd (A : Option Addr) (cap : Nat) (G : Option Addr) (gcap : Nat) (X : Wd) (s : SysI) (pi : Int) (Lv : Option Addr) (vals : List Int) (vcap : Nat) (w : World) (hX : WldAt w A cap G gcap X) (hr : RightW X) (hA : ActsAt w s.A s.len s.a) (pt : Nat) (hpi : pi = (pt : Int)) (hpt : pt < 8) (h1 : (wrF s.m s.al s.no s.a s.len).1 = 0) (h2 : bt (rdTo s.a s.len) pt = true) :
    Calls Try.prog 6 #[wldV A cap G gcap X, sysI s, .int .i64 pi, .slice Lv vals.length vcap] w fun e w' => e = .returned (.bool true) ∧ Below w.heap.size w w' := by
  obtain ⟨hl, hgl, _⟩ := right_hr ((right_iff X).2 hr)
  have hOF := fun W (hb : Below w.heap.size w W) => of_right A cap G gcap X W (hX.below hb) hr
  unfold wldV worldV stV at hOF
  have HOF := hide hOF
  have HRX := hide hr
  clear hOF hr
  have hVS := fun W (hb : Below w.heap.size w W) => wrong_any s.m s.al s.no s.A s.len s.cap s.a W (hA.below hb)
  unfold sysV faultV at hVS
  have hfd := run_field
  have hfe := run_field34
  obtain ⟨e1, he1⟩ : ∃ e1, e1 = (wrF s.m s.al s.no s.a s.len).1 := ⟨_, rfl⟩
  generalize (wrF s.m s.al s.no s.a s.len).2 = a1 at *
  rw [← he1] at hVS
  subst hpi
  have hND := fun W (hb : Below w.heap.size w W) => needs_any s.m s.al s.no s.A s.len s.cap s.a W (wr_len h1) (hA.below hb)
  unfold sysV needsV at hND
  have hrs := rdTo_set s.a s.len
  obtain ⟨rd, hrd⟩ : ∃ rd, rd = rdTo s.a s.len := ⟨_, rfl⟩
  generalize wrTo s.a s.len = ws at *
  generalize mvTo s.al s.a s.len = mv at *
  generalize lfTo s.a s.len = lf at *
  rw [← hrd] at hND hrs h2
  have hHA := fun W => rhas_any rd (pt : Int) W (setB_le hrs).1 (setB_le hrs).2
  rw [hasB_bt hrs hpt, h2] at hHA
  have hp1 : decide ((pt : Int) < 0) = false := decide_eq_false (by omega)
  have hp2 : decide ((8 : Int) ≤ (pt : Int)) = false := decide_eq_false (by omega)
  have HND := hide hND
  have HHA := hide hHA
  clear hND hHA hrs hrd
  rw [h1] at he1
  subst he1
  clear hA h1 h2
  have HVS := hide hVS
  have HFD := hide hfd
  have HFE := hide hfe
  clear hVS hfd hfe
  have hB0 := Bxs.start w [([.slice A X.rows.length cap, .slice G X.gens.length gcap], 40), ([.int .i64 s.m, .int .i64 s.al, .int .i64 s.no, .slice s.A s.len s.cap], 26)]
  have hb0 := allocs_below [([.slice A X.rows.length cap, .slice G X.gens.length gcap], 40), ([.int .i64 s.m, .int .i64 s.al, .int .i64 s.no, .slice s.A s.len s.cap], 26)] w
  obtain ⟨W0, hW0⟩ : ∃ W0, W0 = allocs w [([.slice A X.rows.length cap, .slice G X.gens.length gcap], 40), ([.int .i64 s.m, .int .i64 s.al, .int .i64 s.no, .slice s.A s.len s.cap], 26)] := ⟨_, rfl⟩
  rw [← hW0] at hB0 hb0
  have hW0' : (w.alloc (.cells #[.slice A X.rows.length cap, .slice G X.gens.length gcap] 40)).alloc (.cells #[.int .i64 s.m, .int .i64 s.al, .int .i64 s.no, .slice s.A s.len s.cap] 26) = W0 := hW0.symm
  have HW0 := hide hW0'
  have HB0 := hide hB0
  have HL0 := hide hb0
  have HX := hide hX
  clear hW0 hW0' hB0 hb0 hX
  unfold wldV worldV sysI sysV
  go_enter Try.func6, Try.ntmps6
  go_wp2_with fail
  go_at_call 15
  rw [unhide HW0]
  refine (alive5_any W0).mono ?_
  rintro e w1 ⟨rfl, hb1⟩
  have hB1 := (unhide HB0).below hb1
  have hL1 := (unhide HL0).trans (hb1.mono (unhide HL0).size)
  have c0 := hB1.cell 0 rfl 0 rfl
  have c1 := hB1.cell 0 rfl 1 rfl
  rw [Nat.add_zero] at c0 c1
  have HB1 := hide hB1
  have HL1 := hide hL1
  clear hB1 hL1 hb1 HW0 HB0 HL0
  go_wp2_with fail
  go_at_call 16
  refine (unhide HOF _ (unhide HL1)).mono ?_
  rintro e w2 ⟨T2, tc2, G2, gc2, rfl, hN2, hb2⟩
  have hB2 := Bxs.start w2 [([.slice T2 (tabsW X).length tc2, .slice G2 X.gens.length gc2], 43), ([.int .i64 0, .int .i64 0], 30)]
  have hb3 := allocs_below [([.slice T2 (tabsW X).length tc2, .slice G2 X.gens.length gc2], 43), ([.int .i64 0, .int .i64 0], 30)] w2
  obtain ⟨W3, hW3⟩ : ∃ W3, W3 = allocs w2 [([.slice T2 (tabsW X).length tc2, .slice G2 X.gens.length gc2], 43), ([.int .i64 0, .int .i64 0], 30)] := ⟨_, rfl⟩
  rw [← hW3] at hB2 hb3
  have hL2 := (unhide HL1).trans (hb2.mono (unhide HL1).size)
  have HL3 := hide (hL2.trans (hb3.mono hL2.size))
  have HB3 := hide (((unhide HB1).below hb2).below hb3)
  have HC3 := hide hB2
  have HT3 := hide (hN2.below hb3).st
  have HX3 := hide ((unhide HX).below (hL2.trans (hb3.mono hL2.size)))
  have hW3' : (w2.alloc (.cells #[.slice T2 (tabsW X).length tc2, .slice G2 X.gens.length gc2] 43)).alloc (.cells #[.int .i64 0, .int .i64 0] 30) = W3 := hW3.symm
  have HW3 := hide hW3'
  clear c0 c1 hB2 hb3 hb2 hL2 hW3 hW3' hN2 HB1 HL1 HOF HX
  have f0 := (unhide HC3).cell 1 rfl 0 rfl
  have y0 := (unhide HB3).cell 1 rfl 0 rfl
  have y1 := (unhide HB3).cell 1 rfl 1 rfl
  have y2 := (unhide HB3).cell 1 rfl 2 rfl
  have y3 := (unhide HB3).cell 1 rfl 3 rfl
  go_upto_region 4 with fail
  rw [unhide HW3]
  have hfd := unhide HFD
  have hfe := unhide HFE
  go_wp2_with fail
  go_at_call 12
  refine (unhide HVS _ (unhide HL3)).mono ?_
  rintro e w4 ⟨rfl, hb4⟩
  have HL4 := hide ((unhide HL3).trans (hb4.mono (unhide HL3).size))
  have hB4 := (unhide HB3).below hb4
  have hC4 := (unhide HC3).below hb4
  have HT4 := hide ((unhide HT3).below hb4)
  have HX4 := hide ((unhide HX3).below hb4)
  clear f0 y0 y1 y2 y3
  have y0 := hB4.cell 1 rfl 0 rfl
  have y1 := hB4.cell 1 rfl 1 rfl
  have y2 := hB4.cell 1 rfl 2 rfl
  have y3 := hB4.cell 1 rfl 3 rfl
  have HB4 := hide hB4
  have HC4 := hide hC4
  clear hb4 hB4 hC4 HW3
  go_wp2_with fail
  go_at_call 14
  refine (unhide HND _ (unhide HL4)).mono ?_
  rintro e w5 ⟨rfl, hb5⟩
  have HL5 := hide ((unhide HL4).trans (hb5.mono (unhide HL4).size))
  have HB5 := hide ((unhide HB4).below hb5)
  have HC5 := hide ((unhide HC4).below hb5)
  have HT5 := hide ((unhide HT4).below hb5)
  have HX5 := hide ((unhide HX4).below hb5)
  clear hb5 y0 y1 y2 y3 HB4 HC4 HT4 HX4
  go_wp2_with fail
  go_at_call 20
  refine (unhide HHA _).mono ?_
  rintro e w6 ⟨rfl, hb6⟩
  have HL6 := hide ((unhide HL5).trans (hb6.mono (unhide HL5).size))
  have hB6 := (unhide HB5).below hb6
  have r1 := hB6.cell 0 rfl 1 rfl
  have r0 := hB6.cell 0 rfl 0 rfl
  rw [Nat.add_zero] at r0 r1
  have HB6 := hide hB6
  have HC6 := hide ((unhide HC5).below hb6)
  have HT6 := hide ((unhide HT5).below hb6)
  have HX6 := hide ((unhide HX5).below hb6)
  clear hb6 hB6 HB5 HC5 HT5 HX5 HND HHA HVS HFD HFE hfd hfe
  go_wp2
  go_ret
  exact ⟨rfl, unhide HL6⟩
set_option maxRecDepth 8000 in
set_option maxHeartbeats 8000000 in
theorem blind_main (A : Option Addr) (cap : Nat) (G : Option Addr) (gcap : Nat) (X : Wd) (s : SysI) (pi : Int) (Lv : Option Addr) (vals : List Int) (vcap : Nat) (w : World) (hX : WldAt w A cap G gcap X) (hr : RightW X) (hA : ActsAt w s.A s.len s.a) (pt : Nat) (hpi : pi = (pt : Int)) (hpt : pt < 8) (h1 : (wrF s.m s.al s.no s.a s.len).1 = 0) (h2 : bt (rdTo s.a s.len) pt = false) (hV : IntsL w Lv vals) :
    Calls Try.prog 6 #[wldV A cap G gcap X, sysI s, .int .i64 pi, .slice Lv vals.length vcap] w fun e w' => e = .returned (.bool true) ∧ Below w.heap.size w w' := by
  have hTW := blind (uW_like X vals pt) hr (uW_right hr vals hpt) h1 h2
  have hUR := uW_right hr vals hpt
  have hLP := fun he => run_right (m := s.m) (al := s.al) (no := s.no) (a := s.a) (len := s.len) hr he
  have hLQ := fun he => run_right (m := s.m) (al := s.al) (no := s.no) (a := s.a) (len := s.len) hUR he
  have hRP := fun T tc G gc W (h : StAt W T G (tabsW X) X) (hb : Below w.heap.size w W) => run_any T tc G gc (tabsW X) X s W h (hA.below hb)
  have hRQ := fun T tc G gc W (h : StAt W T G (tabsW (uW X vals pt)) (uW X vals pt)) (hb : Below w.heap.size w W) => run_any T tc G gc (tabsW (uW X vals pt)) (uW X vals pt) s W h (hA.below hb)
  unfold stV sysI sysV at hRP hRQ
  have hOU := fun A c W (h : WldAt W A c G gcap (uW X vals pt)) => of_right A c G gcap (uW X vals pt) W h hUR
  unfold wldV worldV stV at hOU
  obtain ⟨e2, he2⟩ : ∃ e2, e2 = (runS X s).1 := ⟨_, rfl⟩
  obtain ⟨P, hP⟩ : ∃ P, P = (runS X s).2 := ⟨_, rfl⟩
  obtain ⟨Q, hQ⟩ : ∃ Q, Q = (runS (uW X vals pt) s).2 := ⟨_, rfl⟩
  have heq : (runS (uW X vals pt) s).1 = e2 := by rw [he2]; exact hTW.1.symm
  have hPQ : LK pt P Q := by rw [hP, hQ]; exact hTW.2
  rw [heq, ← hQ] at hRQ
  rw [← he2, ← hP] at hRP
  have hPR : e2 = 0 → RightW P := fun e => by rw [hP]; exact hLP (he2 ▸ e)
  have hQR : e2 = 0 → RightW Q := fun e => by rw [hQ]; exact hLQ (heq.trans e)
  have hul : (uW X vals pt).rows.length = X.rows.length := uTo_len X vals pt _
  have hug : (uW X vals pt).gens = X.gens := rfl
  obtain ⟨U, hU⟩ : ∃ U, U = uW X vals pt := ⟨_, rfl⟩
  rw [← hU] at hRQ hOU hul hug
  have hur : U.rows = uTo X vals pt X.rows.length := by rw [hU]; rfl
  have HRP := hide hRP
  have HRQ := hide hRQ
  have HOU := hide hOU
  have HPQ := hide hPQ
  have HPR := hide hPR
  have HQR := hide hQR
  have HUR := hide hur
  have HUG := hide hug
  have HUL := hide hul
  have HV := hide hV
  clear hTW hUR hLP hLQ hRP hRQ hOU hPQ hPR hQR hur hug hul hV he2 hP hQ heq hU
  obtain ⟨hl, hgl, _⟩ := right_hr ((right_iff X).2 hr)
  have hOF := fun W (hb : Below w.heap.size w W) => of_right A cap G gcap X W (hX.below hb) hr
  unfold wldV worldV stV at hOF
  have HOF := hide hOF
  have HRX := hide hr
  clear hOF hr
  have hVS := fun W (hb : Below w.heap.size w W) => wrong_any s.m s.al s.no s.A s.len s.cap s.a W (hA.below hb)
  unfold sysV faultV at hVS
  have hfd := run_field
  have hfe := run_field34
  obtain ⟨e1, he1⟩ : ∃ e1, e1 = (wrF s.m s.al s.no s.a s.len).1 := ⟨_, rfl⟩
  generalize (wrF s.m s.al s.no s.a s.len).2 = a1 at *
  rw [← he1] at hVS
  subst hpi
  have hND := fun W (hb : Below w.heap.size w W) => needs_any s.m s.al s.no s.A s.len s.cap s.a W (wr_len h1) (hA.below hb)
  unfold sysV needsV at hND
  have hrs := rdTo_set s.a s.len
  obtain ⟨rd, hrd⟩ : ∃ rd, rd = rdTo s.a s.len := ⟨_, rfl⟩
  generalize wrTo s.a s.len = ws at *
  generalize mvTo s.al s.a s.len = mv at *
  generalize lfTo s.a s.len = lf at *
  rw [← hrd] at hND hrs h2
  have hHA := fun W => rhas_any rd (pt : Int) W (setB_le hrs).1 (setB_le hrs).2
  rw [hasB_bt hrs hpt, h2] at hHA
  have hp1 : decide ((pt : Int) < 0) = false := decide_eq_false (by omega)
  have hp2 : decide ((8 : Int) ≤ (pt : Int)) = false := decide_eq_false (by omega)
  have HND := hide hND
  have HHA := hide hHA
  clear hND hHA hrs hrd
  rw [h1] at he1
  subst he1
  obtain ⟨i61, hi61, hz61, hs61, hb61⟩ := info_parts info61
  have HI := hide hi61
  have HZ := hide hz61
  have HS := hide hs61
  have HBB := hide hb61
  clear hA h1 h2 hi61 hz61 hs61 hb61
  have HVS := hide hVS
  have HFD := hide hfd
  have HFE := hide hfe
  clear hVS hfd hfe
  have hB0 := Bxs.start w [([.slice A X.rows.length cap, .slice G X.gens.length gcap], 40), ([.int .i64 s.m, .int .i64 s.al, .int .i64 s.no, .slice s.A s.len s.cap], 26)]
  have hb0 := allocs_below [([.slice A X.rows.length cap, .slice G X.gens.length gcap], 40), ([.int .i64 s.m, .int .i64 s.al, .int .i64 s.no, .slice s.A s.len s.cap], 26)] w
  obtain ⟨W0, hW0⟩ : ∃ W0, W0 = allocs w [([.slice A X.rows.length cap, .slice G X.gens.length gcap], 40), ([.int .i64 s.m, .int .i64 s.al, .int .i64 s.no, .slice s.A s.len s.cap], 26)] := ⟨_, rfl⟩
  rw [← hW0] at hB0 hb0
  have hW0' : (w.alloc (.cells #[.slice A X.rows.length cap, .slice G X.gens.length gcap] 40)).alloc (.cells #[.int .i64 s.m, .int .i64 s.al, .int .i64 s.no, .slice s.A s.len s.cap] 26) = W0 := hW0.symm
  have HW0 := hide hW0'
  have HB0 := hide hB0
  have HL0 := hide hb0
  have HX := hide hX
  clear hW0 hW0' hB0 hb0 hX
  unfold wldV worldV sysI sysV
  go_enter Try.func6, Try.ntmps6
  go_wp2_with fail
  go_at_call 15
  rw [unhide HW0]
  refine (alive5_any W0).mono ?_
  rintro e w1 ⟨rfl, hb1⟩
  have hB1 := (unhide HB0).below hb1
  have hL1 := (unhide HL0).trans (hb1.mono (unhide HL0).size)
  have c0 := hB1.cell 0 rfl 0 rfl
  have c1 := hB1.cell 0 rfl 1 rfl
  rw [Nat.add_zero] at c0 c1
  have HB1 := hide hB1
  have HL1 := hide hL1
  clear hB1 hL1 hb1 HW0 HB0 HL0
  go_wp2_with fail
  go_at_call 16
  refine (unhide HOF _ (unhide HL1)).mono ?_
  rintro e w2 ⟨T2, tc2, G2, gc2, rfl, hN2, hb2⟩
  have hB2 := Bxs.start w2 [([.slice T2 (tabsW X).length tc2, .slice G2 X.gens.length gc2], 43), ([.int .i64 0, .int .i64 0], 30)]
  have hb3 := allocs_below [([.slice T2 (tabsW X).length tc2, .slice G2 X.gens.length gc2], 43), ([.int .i64 0, .int .i64 0], 30)] w2
  obtain ⟨W3, hW3⟩ : ∃ W3, W3 = allocs w2 [([.slice T2 (tabsW X).length tc2, .slice G2 X.gens.length gc2], 43), ([.int .i64 0, .int .i64 0], 30)] := ⟨_, rfl⟩
  rw [← hW3] at hB2 hb3
  have hL2 := (unhide HL1).trans (hb2.mono (unhide HL1).size)
  have HL3 := hide (hL2.trans (hb3.mono hL2.size))
  have HB3 := hide (((unhide HB1).below hb2).below hb3)
  have HC3 := hide hB2
  have HT3 := hide (hN2.below hb3).st
  have HX3 := hide ((unhide HX).below (hL2.trans (hb3.mono hL2.size)))
  have hW3' : (w2.alloc (.cells #[.slice T2 (tabsW X).length tc2, .slice G2 X.gens.length gc2] 43)).alloc (.cells #[.int .i64 0, .int .i64 0] 30) = W3 := hW3.symm
  have HW3 := hide hW3'
  clear c0 c1 hB2 hb3 hb2 hL2 hW3 hW3' hN2 HB1 HL1 HOF HX
  have f0 := (unhide HC3).cell 1 rfl 0 rfl
  have y0 := (unhide HB3).cell 1 rfl 0 rfl
  have y1 := (unhide HB3).cell 1 rfl 1 rfl
  have y2 := (unhide HB3).cell 1 rfl 2 rfl
  have y3 := (unhide HB3).cell 1 rfl 3 rfl
  go_upto_region 4 with fail
  rw [unhide HW3]
  have hfd := unhide HFD
  have hfe := unhide HFE
  go_wp2_with fail
  go_at_call 12
  refine (unhide HVS _ (unhide HL3)).mono ?_
  rintro e w4 ⟨rfl, hb4⟩
  have HL4 := hide ((unhide HL3).trans (hb4.mono (unhide HL3).size))
  have hB4 := (unhide HB3).below hb4
  have hC4 := (unhide HC3).below hb4
  have HT4 := hide ((unhide HT3).below hb4)
  have HX4 := hide ((unhide HX3).below hb4)
  clear f0 y0 y1 y2 y3
  have y0 := hB4.cell 1 rfl 0 rfl
  have y1 := hB4.cell 1 rfl 1 rfl
  have y2 := hB4.cell 1 rfl 2 rfl
  have y3 := hB4.cell 1 rfl 3 rfl
  have HB4 := hide hB4
  have HC4 := hide hC4
  clear hb4 hB4 hC4 HW3
  go_wp2_with fail
  go_at_call 14
  refine (unhide HND _ (unhide HL4)).mono ?_
  rintro e w5 ⟨rfl, hb5⟩
  have HL5 := hide ((unhide HL4).trans (hb5.mono (unhide HL4).size))
  have HB5 := hide ((unhide HB4).below hb5)
  have HC5 := hide ((unhide HC4).below hb5)
  have HT5 := hide ((unhide HT4).below hb5)
  have HX5 := hide ((unhide HX4).below hb5)
  clear hb5 y0 y1 y2 y3 HB4 HC4 HT4 HX4
  go_wp2_with fail
  go_at_call 20
  refine (unhide HHA _).mono ?_
  rintro e w6 ⟨rfl, hb6⟩
  have HL6 := hide ((unhide HL5).trans (hb6.mono (unhide HL5).size))
  have hB6 := (unhide HB5).below hb6
  have r1 := hB6.cell 0 rfl 1 rfl
  have r0 := hB6.cell 0 rfl 0 rfl
  rw [Nat.add_zero] at r0 r1
  have HB6 := hide hB6
  have HC6 := hide ((unhide HC5).below hb6)
  have HT6 := hide ((unhide HT5).below hb6)
  have HX6 := hide ((unhide HX5).below hb6)
  clear hb6 hB6 HB5 HC5 HT5 HX5 HND HHA HVS HFD HFE hfd hfe
  have p0 : (0 : Int) ≤ (pt : Int) := by omega
  have p1 : (pt : Int) < 8 := by omega
  have h7 : BW w6 (.slice G X.gens.length gcap) (.slice none 0 0) 0 (cellsOfRows (uTo X vals pt 0)) (w6.alloc (.cells #[.slice none 0 0, .slice G X.gens.length gcap] 40)) := ⟨Bxs.start w6 [([.slice none 0 0, .slice G X.gens.length gcap], 40)], World.ownsRow_nil _ _ _ _, bel1 _ _⟩
  have r2 := keep_below (bel1 w6 (.cells #[.slice none 0 0, .slice G X.gens.length gcap] 40)) r0
  obtain ⟨W7, hW7⟩ : ∃ W7, W7 = w6.alloc (.cells #[.slice none 0 0, .slice G X.gens.length gcap] 40) := ⟨_, rfl⟩
  rw [← hW7] at h7 r2
  have hW7' : w6.alloc (.cells #[.slice none 0 0, .slice G X.gens.length gcap] 40) = W7 := hW7.symm
  have HW7 := hide hW7'
  have H7 := hide h7
  clear hW7 hW7' h7
  go_upto_region 7 with fail
  rw [unhide HW7]
  clear r0 r1
  go_wp2_with fail
  clear r2
  go_loopw [62] (fun x wr => ∃ (k : Nat) (v : Value), k ≤ X.rows.length ∧ x = .int .i64 (k : Int) ∧ BW w6 (.slice G X.gens.length gcap) v k (cellsOfRows (uTo X vals pt k)) wr) (fun x _ => X.rows.length - (intOf x).toNat)
  case atStart => exact ⟨0, _, Nat.zero_le _, rfl, unhide H7⟩
  case round =>
    clear H7 HW7
    obtain ⟨k, v, hk, rfl, hBW⟩ := hrel
    obtain ⟨Av, cv, rfl⟩ := own_one hBW.own
    by_cases hlt : k < X.rows.length
    · have k0 : (0 : Int) ≤ (k : Int) := by omega
      have k1 : (k : Int) < (X.rows.length : Int) := by omega
      obtain ⟨wk, rfl⟩ : ∃ wk, wk = wr := ⟨_, rfl⟩
      obtain ⟨rb, ro, hAe, hrow⟩ := ((unhide HX6).below hBW.bel).rows k hlt
      have hrow : RowAt wk rb (ro + k * 11) (rowOf X k) := hrow
      have hsr : setB (rowOf X k).has = true := rv_set ((unhide HRX).rv k hlt)
      have hcs := fun r' h => uTo_cells X vals pt k (r' := r') h
      obtain ⟨r, hrr⟩ : ∃ r, r = rowOf X k := ⟨_, rfl⟩
      rw [← hrr] at hrow hsr hcs
      generalize cellsOfRows (uTo X vals pt k) = cs at *
      obtain ⟨c0, c1, c2, c3, c4, c5, c6, c7, c8, c9, c10⟩ := rowAt_all hrow
      have hbz := bel1 wk (.cells #[.int .i64 r.ix, .int .i64 r.gen, .int .i64 r.has, .int .i64 (r.v 0), .int .i64 (r.v 1), .int .i64 (r.v 2), .int .i64 (r.v 3), .int .i64 (r.v 4), .int .i64 (r.v 5), .int .i64 (r.v 6), .int .i64 (r.v 7)] 53)
      have hR9 := Bxs.start wk [([.int .i64 r.ix, .int .i64 r.gen, .int .i64 r.has, .int .i64 (r.v 0), .int .i64 (r.v 1), .int .i64 (r.v 2), .int .i64 (r.v 3), .int .i64 (r.v 4), .int .i64 (r.v 5), .int .i64 (r.v 6), .int .i64 (r.v 7)], 53)]
      obtain ⟨W9, hW9⟩ : ∃ W9, W9 = wk.alloc (.cells #[.int .i64 r.ix, .int .i64 r.gen, .int .i64 r.has, .int .i64 (r.v 0), .int .i64 (r.v 1), .int .i64 (r.v 2), .int .i64 (r.v 3), .int .i64 (r.v 4), .int .i64 (r.v 5), .int .i64 (r.v 6), .int .i64 (r.v 7)] 53) := ⟨_, rfl⟩
      have hW9' : wk.alloc (.cells #[.int .i64 r.ix, .int .i64 r.gen, .int .i64 r.has, .int .i64 (r.v 0), .int .i64 (r.v 1), .int .i64 (r.v 2), .int .i64 (r.v 3), .int .i64 (r.v 4), .int .i64 (r.v 5), .int .i64 (r.v 6), .int .i64 (r.v 7)] 53) = W9 := hW9.symm
      have hR9 : Bxs wk.heap.size [([.int .i64 r.ix, .int .i64 r.gen, .int .i64 r.has, .int .i64 (r.v 0), .int .i64 (r.v 1), .int .i64 (r.v 2), .int .i64 (r.v 3), .int .i64 (r.v 4), .int .i64 (r.v 5), .int .i64 (r.v 6), .int .i64 (r.v 7)], 53)] W9 := by rw [hW9]; exact hR9
      rw [← hW9] at hbz
      have HA := hide (hBW.below hbz)
      have HR := hide hR9
      have HCS := hide hcs
      have HHR := hide (fun W => rhas_any r.has (pt : Int) W (setB_le hsr).1 (setB_le hsr).2)
      have HW9 := hide hW9'
      have HWK : Hid (w6.heap.size + 1 ≤ wk.heap.size) := hide hBW.sz
      have HNO : Hid ((Value.slice Av k cv).ownBlock ≠ some wk.heap.size) := hide (fun hc => by have := (hBW.own.lt _ hc).2; omega)
      have hV9 := (unhide HV).below ((unhide HL6).trans ((hBW.below hbz).bel.mono (unhide HL6).size))
      have HV9 := hide hV9
      clear hrow hsr hcs hbz hR9 hW9 hW9' hrr hV9 hBW
      subst hAe
      go_upto_region 10 with fail
      rw [unhide HW9]
      clear c0 c1 c2 c3 c4 c5 c6 c7 c8 c9 c10
      by_cases hv : k < vals.length
      · obtain ⟨vb, vo, hVe, x0⟩ := unhide HV9 k hv
        have v1 : (k : Int) < (vals.length : Int) := by omega
        have hu : ∀ r', uAt vals pt k r = r' ↔ (if hasB r.has (pt : Int) = true ∧ valB (vals.getD k 0) = true then uRow pt (vals.getD k 0) r else r) = r' := fun r' => by unfold uAt; simp only [hv, true_and]
        have hVA := fun W => rvalue_any (vals.getD k 0) W
        have hHR := unhide HHR
        dsimp only at x0
        generalize vals.getD k 0 = x at *
        generalize hasB r.has (pt : Int) = hb at *
        have HX0 := hide x0
        subst hVe
        have u2 := (row_box (unhide HR)).c2
        rw [Nat.zero_add] at u2
        cases hb
        · have e := unhide HCS r ((hu r).2 (if_neg (by simp)))
          have HEQ := hide e
          clear e
          go_wp2_with fail
          go_at_call 20
          refine (hHR _).mono ?_
          rintro e w10 ⟨rfl, hb10⟩
          have HA := hide ((unhide HA).below hb10)
          have HR := hide ((unhide HR).below hb10)
          have x1 := keep_below hb10 (unhide HX0)
          clear hb10
          clear u2 x0 x1
          have HRW := hide (row_box (unhide HR))
          have ha := unhide HA
          have ub := ha.bx.cell 0 rfl 0 rfl
          rw [Nat.add_zero] at ub
          have hrx := unhide HRW
          obtain ⟨c0, c1, c2, c3, c4, c5, c6, c7, c8, c9, c10⟩ := rowAt_all hrx
          simp only [Nat.zero_add] at c0 c1 c2 c3 c4 c5 c6 c7 c8 c9 c10
          clear ha hrx
          go_wp2_with (first
            | (at_builtin; refine wpList_append1 _ rfl (.tmp 92) (.tmp 94) 37 rfl (w6.heap.size + 1) 53 i61 _ 11 88 Try.underlying37 (unhide HI) (unhide HZ) (unhide HS) (unhide HBB) rfl (by decide) _ k cs rfl ((unhide HA).own.alloc _) ⟨_, 0, none⟩ 1 1 (rowCells r) rfl rfl (vb1_new _ r).src (rowCells_one r) (by unfold maxLen; omega) (by omega) (Nat.le_trans (unhide HA).sz (bel1 _ _).size) (by omega) ?_; intro g capg w17 ho7 hg7 hw7; have HX7 := hide (((unhide HA).below (bel1 _ _)).grow hg7); have HO7 := hide ho7; clear ho7 hg7 hw7)
            | (refine wpList_put1 rfl 37 (.tmp 96) (.tmp 95) rfl w6.heap.size 0 (.slice (some ⟨g, 0, none⟩) (k + 1) capg) rfl rfl rfl size36 (fun j hj => (unhide HX7).1.there 0 rfl 2 rfl j (by omega)) ?_; intro W18 hW18; have HB18 := hide (BW.put (unhide HX7).1 (unhide HX7).2 (unhide HO7)); rw [← hW18] at HB18; clear hW18))
          go_roundw
          case rel => exact ⟨k + 1, _, by omega, by go_num, by rw [unhide HEQ]; exact unhide HB18⟩
          case measure => simp [intOf]; omega
        · generalize valB x = vx at *
          cases vx
          · have e := unhide HCS r ((hu r).2 (if_neg (by simp)))
            have HEQ := hide e
            clear e
            go_wp2_with fail
            go_at_call 20
            refine (hHR _).mono ?_
            rintro e w10 ⟨rfl, hb10⟩
            have HA := hide ((unhide HA).below hb10)
            have HR := hide ((unhide HR).below hb10)
            have x1 := keep_below hb10 (unhide HX0)
            clear hb10
            go_wp2_with fail
            go_at_call 21
            refine (hVA _).mono ?_
            rintro e w11 ⟨rfl, rfl⟩
            clear u2 x0 x1
            have HRW := hide (row_box (unhide HR))
            have ha := unhide HA
            have ub := ha.bx.cell 0 rfl 0 rfl
            rw [Nat.add_zero] at ub
            have hrx := unhide HRW
            obtain ⟨c0, c1, c2, c3, c4, c5, c6, c7, c8, c9, c10⟩ := rowAt_all hrx
            simp only [Nat.zero_add] at c0 c1 c2 c3 c4 c5 c6 c7 c8 c9 c10
            clear ha hrx
            go_wp2_with (first
              | (at_builtin; refine wpList_append1 _ rfl (.tmp 92) (.tmp 94) 37 rfl (w6.heap.size + 1) 53 i61 _ 11 88 Try.underlying37 (unhide HI) (unhide HZ) (unhide HS) (unhide HBB) rfl (by decide) _ k cs rfl ((unhide HA).own.alloc _) ⟨_, 0, none⟩ 1 1 (rowCells r) rfl rfl (vb1_new _ r).src (rowCells_one r) (by unfold maxLen; omega) (by omega) (Nat.le_trans (unhide HA).sz (bel1 _ _).size) (by omega) ?_; intro g capg w17 ho7 hg7 hw7; have HX7 := hide (((unhide HA).below (bel1 _ _)).grow hg7); have HO7 := hide ho7; clear ho7 hg7 hw7)
              | (refine wpList_put1 rfl 37 (.tmp 96) (.tmp 95) rfl w6.heap.size 0 (.slice (some ⟨g, 0, none⟩) (k + 1) capg) rfl rfl rfl size36 (fun j hj => (unhide HX7).1.there 0 rfl 2 rfl j (by omega)) ?_; intro W18 hW18; have HB18 := hide (BW.put (unhide HX7).1 (unhide HX7).2 (unhide HO7)); rw [← hW18] at HB18; clear hW18))
            go_roundw
            case rel => exact ⟨k + 1, _, by omega, by go_num, by rw [unhide HEQ]; exact unhide HB18⟩
            case measure => simp [intOf]; omega
          · have e := unhide HCS (uRow pt x r) ((hu _).2 (if_pos ⟨rfl, rfl⟩))
            have HEQ := hide e
            clear e
            go_wp2_with fail
            go_at_call 20
            refine (hHR _).mono ?_
            rintro e w10 ⟨rfl, hb10⟩
            have HA := hide ((unhide HA).below hb10)
            have HR := hide ((unhide HR).below hb10)
            have x1 := keep_below hb10 (unhide HX0)
            clear hb10
            go_wp2_with fail
            go_at_call 21
            refine (hVA _).mono ?_
            rintro e w11 ⟨rfl, rfl⟩
            have HAT := hide (row_box (unhide HR))
            have hth := (unhide HR).there 0 rfl 11 rfl
            rw [Nat.add_zero] at hth
            have HTH := hide (fun j (hj : j < 11) => (by have := hth j hj; rwa [Nat.zero_add] at this : _))
            clear hth
            obtain ⟨r2, hr2⟩ : ∃ r2, r2 = uRow pt x r := ⟨_, rfl⟩
            rw [← hr2] at HEQ
            have HR2 := hide hr2
            clear hr2
            go_wp2_with (first
              | (refine wpList_put1 rfl 3 (.tmp 90) (.tmp 88) rfl wk.heap.size (3 + pt) (.int .i64 x) rfl rfl rfl size3' (fun j hj => by obtain rfl : j = 0 := (by omega); exact (unhide HTH) (3 + pt) (by omega)) ?_; intro W12 hW12; have HA := hide (show BW w6 (.slice G X.gens.length gcap) (.slice Av k cv) k cs W12 by rw [hW12]; exact ⟨(unhide HA).bx.turn (cb := wk.heap.size) (o := 3 + pt) (vs := [.int .i64 x]) (by have := unhide HWK; simp only [List.length_cons, List.length_nil]; omega), ownsRow_setCell_other (unhide HA).own (a := ⟨wk.heap.size, 3 + pt, none⟩) (unhide HNO) _, (unhide HA).bel.setCell (p := ⟨wk.heap.size, 3 + pt, none⟩) (by have := unhide HWK; show w6.heap.size ≤ wk.heap.size; omega) _⟩); have hR12 : RowAt W12 wk.heap.size 0 r2 := (by rw [hW12, unhide HR2]; exact rowAt_setv (unhide HAT) hpt x); have ub := (unhide HA).bx.cell 0 rfl 0 rfl; rw [Nat.add_zero] at ub; obtain ⟨c0, c1, c2, c3, c4, c5, c6, c7, c8, c9, c10⟩ := rowAt_all hR12; simp only [Nat.zero_add] at c0 c1 c2 c3 c4 c5 c6 c7 c8 c9 c10; clear hR12 hW12 u2 x0 x1)
              | (at_builtin; refine wpList_append1 _ rfl (.tmp 92) (.tmp 94) 37 rfl (w6.heap.size + 1) 53 i61 _ 11 88 Try.underlying37 (unhide HI) (unhide HZ) (unhide HS) (unhide HBB) rfl (by decide) _ k cs rfl ((unhide HA).own.alloc _) ⟨_, 0, none⟩ 1 1 (rowCells r2) rfl rfl (vb1_new _ r2).src (rowCells_one r2) (by unfold maxLen; omega) (by omega) (Nat.le_trans (unhide HA).sz (bel1 _ _).size) (by omega) ?_; intro g capg w17 ho7 hg7 hw7; have HX7 := hide (((unhide HA).below (bel1 _ _)).grow hg7); have HO7 := hide ho7; clear ho7 hg7 hw7)
              | (refine wpList_put1 rfl 37 (.tmp 96) (.tmp 95) rfl w6.heap.size 0 (.slice (some ⟨g, 0, none⟩) (k + 1) capg) rfl rfl rfl size36 (fun j hj => (unhide HX7).1.there 0 rfl 2 rfl j (by omega)) ?_; intro W18 hW18; have HB18 := hide (BW.put (unhide HX7).1 (unhide HX7).2 (unhide HO7)); rw [← hW18] at HB18; clear hW18))
            go_roundw
            case rel => exact ⟨k + 1, _, by omega, by go_num, by rw [unhide HEQ]; exact unhide HB18⟩
            case measure => simp [intOf]; omega
      · have v1 : decide ((k : Int) < (vals.length : Int)) = false := decide_eq_false (by omega)
        have e := unhide HCS r (by unfold uAt; exact if_neg (by simp [hv]))
        have HEQ := hide e
        clear e
        have HRW := hide (row_box (unhide HR))
        have ha := unhide HA
        have ub := ha.bx.cell 0 rfl 0 rfl
        rw [Nat.add_zero] at ub
        have hrx := unhide HRW
        obtain ⟨c0, c1, c2, c3, c4, c5, c6, c7, c8, c9, c10⟩ := rowAt_all hrx
        simp only [Nat.zero_add] at c0 c1 c2 c3 c4 c5 c6 c7 c8 c9 c10
        clear ha hrx
        go_wp2_with (first
          | (at_builtin; refine wpList_append1 _ rfl (.tmp 92) (.tmp 94) 37 rfl (w6.heap.size + 1) 53 i61 _ 11 88 Try.underlying37 (unhide HI) (unhide HZ) (unhide HS) (unhide HBB) rfl (by decide) _ k cs rfl ((unhide HA).own.alloc _) ⟨_, 0, none⟩ 1 1 (rowCells r) rfl rfl (vb1_new _ r).src (rowCells_one r) (by unfold maxLen; omega) (by omega) (Nat.le_trans (unhide HA).sz (bel1 _ _).size) (by omega) ?_; intro g capg w17 ho7 hg7 hw7; have HX7 := hide (((unhide HA).below (bel1 _ _)).grow hg7); have HO7 := hide ho7; clear ho7 hg7 hw7)
          | (refine wpList_put1 rfl 37 (.tmp 96) (.tmp 95) rfl w6.heap.size 0 (.slice (some ⟨g, 0, none⟩) (k + 1) capg) rfl rfl rfl size36 (fun j hj => (unhide HX7).1.there 0 rfl 2 rfl j (by omega)) ?_; intro W18 hW18; have HB18 := hide (BW.put (unhide HX7).1 (unhide HX7).2 (unhide HO7)); rw [← hW18] at HB18; clear hW18))
        go_roundw
        case rel => exact ⟨k + 1, _, by omega, by go_num, by rw [unhide HEQ]; exact unhide HB18⟩
        case measure => simp [intOf]; omega
    · obtain rfl : k = X.rows.length := by omega
      have hur := unhide HUR
      have ho := hBW.own
      rw [← hur, ← unhide HUL] at ho
      have hWU : WldAt wr Av cv G gcap U := ⟨own_rows ho, by rw [unhide HUG]; exact ((unhide HX6).below hBW.bel).gens⟩
      have hOU := unhide HOU Av cv wr hWU
      rw [unhide HUL, unhide HUG] at hOU
      have hRQ := unhide HRQ
      simp only [unhide HUG] at hRQ
      have HRQ2 := hide hRQ
      have u0 := hBW.bx.cell 0 rfl 0 rfl
      have u1 := hBW.bx.cell 0 rfl 1 rfl
      rw [Nat.add_zero] at u0 u1
      have hb7 := hBW.bel
      have HL7 := hide ((unhide HL6).trans (hb7.mono (unhide HL6).size))
      have HB7 := hide ((unhide HB6).below hb7)
      have HC7 := hide ((unhide HC6).below hb7)
      have HT7 := hide ((unhide HT6).below hb7)
      have HOU2 := hide hOU
      clear hur ho hWU hOU hRQ hBW hb7 HB6 HC6 HT6 HL6 HX6 HRQ HOU
      go_wp2_with fail
      go_at_call 16
      refine (unhide HOU2).mono ?_
      rintro e w14 ⟨T8, tc8, G8, gc8, rfl, hN8, hb8⟩
      have hbx := allocs_below [([.slice T8 (tabsW U).length tc8, .slice G8 X.gens.length gc8], 43), ([.int .i64 0, .int .i64 0], 30)] w14
      have hX15 := Bxs.start w14 [([.slice T8 (tabsW U).length tc8, .slice G8 X.gens.length gc8], 43), ([.int .i64 0, .int .i64 0], 30)]
      obtain ⟨W15, hW15⟩ : ∃ W15, W15 = allocs w14 [([.slice T8 (tabsW U).length tc8, .slice G8 X.gens.length gc8], 43), ([.int .i64 0, .int .i64 0], 30)] := ⟨_, rfl⟩
      rw [← hW15] at hbx hX15
      have hW15' : (w14.alloc (.cells #[.slice T8 (tabsW U).length tc8, .slice G8 X.gens.length gc8] 43)).alloc (.cells #[.int .i64 0, .int .i64 0] 30) = W15 := hW15.symm
      have HW15 := hide hW15'
      clear hW15 hW15'
      have HU15 := hide (hN8.below hbx).st
      have hL15 := hb8.trans (hbx.mono hb8.size)
      have HL15 := hide ((unhide HL7).trans (hL15.mono (unhide HL7).size))
      have hB15 := (unhide HB7).below hL15
      have hC15 := (unhide HC7).below hL15
      have HT15 := hide ((unhide HT7).below hL15)
      have y0 := hB15.cell 1 rfl 0 rfl
      have y1 := hB15.cell 1 rfl 1 rfl
      have y2 := hB15.cell 1 rfl 2 rfl
      have y3 := hB15.cell 1 rfl 3 rfl
      have s0 := hC15.cell 0 rfl 0 rfl
      have s1 := hC15.cell 0 rfl 1 rfl
      rw [Nat.add_zero] at s0 s1
      have HB15 := hide hB15
      have HF15 := hide hX15
      clear hN8 hb8 hbx hL15 hB15 hC15 hX15 u0 u1 HB7 HC7 HT7 HL7 HOU2
      go_upto_region 15 with fail
      rw [unhide HW15]
      go_wp2_with fail
      go_at_call 17
      refine (unhide HRP T2 tc2 G2 gc2 _ (unhide HT15) (unhide HL15)).mono ?_
      rintro e w16 ⟨T9, tc9, G9, gc9, rfl, hN9, hb9⟩
      have hbx := allocs_below [([.slice T9 (tabsW P).length tc9, .slice G9 P.gens.length gc9], 43)] w16
      have hX17 := Bxs.start w16 [([.slice T9 (tabsW P).length tc9, .slice G9 P.gens.length gc9], 43)]
      obtain ⟨W17, hW17⟩ : ∃ W17, W17 = allocs w16 [([.slice T9 (tabsW P).length tc9, .slice G9 P.gens.length gc9], 43)] := ⟨_, rfl⟩
      rw [← hW17] at hbx hX17
      have hW17' : w16.alloc (.cells #[.slice T9 (tabsW P).length tc9, .slice G9 P.gens.length gc9] 43) = W17 := hW17.symm
      have HW17 := hide hW17'
      clear hW17 hW17'
      have hL17 := hb9.trans (hbx.mono hb9.size)
      have HP17 := hide (hN9.below hbx).st
      have HL17 := hide ((unhide HL15).trans (hL17.mono (unhide HL15).size))
      have hB17 := (unhide HB15).below hL17
      have hF17 := (unhide HF15).below hL17
      have HU17 := hide ((unhide HU15).below hL17)
      clear s0 s1 y0 y1 y2 y3
      have y0 := hB17.cell 1 rfl 0 rfl
      have y1 := hB17.cell 1 rfl 1 rfl
      have y2 := hB17.cell 1 rfl 2 rfl
      have y3 := hB17.cell 1 rfl 3 rfl
      have s0 := hF17.cell 0 rfl 0 rfl
      have s1 := hF17.cell 0 rfl 1 rfl
      rw [Nat.add_zero] at s0 s1
      have HF17 := hide hF17
      have HX17 := hide hX17
      clear hN9 hb9 hbx hL17 hB17 hF17 hX17 HB15 HF15 HT15 HL15 HU15 HRP HW15
      go_upto_region 16 with fail
      rw [unhide HW17]
      go_wp2_with fail
      go_at_call 17
      refine (unhide HRQ2 T8 tc8 G8 gc8 _ (unhide HU17) (unhide HL17)).mono ?_
      rintro e w18 ⟨T10, tc10, G10, gc10, rfl, hN10, hb10⟩
      have hbx := allocs_below [([.slice T10 (tabsW Q).length tc10, .slice G10 Q.gens.length gc10], 43)] w18
      have hX19 := Bxs.start w18 [([.slice T10 (tabsW Q).length tc10, .slice G10 Q.gens.length gc10], 43)]
      obtain ⟨W19, hW19⟩ : ∃ W19, W19 = allocs w18 [([.slice T10 (tabsW Q).length tc10, .slice G10 Q.gens.length gc10], 43)] := ⟨_, rfl⟩
      rw [← hW19] at hbx hX19
      have hW19' : w18.alloc (.cells #[.slice T10 (tabsW Q).length tc10, .slice G10 Q.gens.length gc10] 43) = W19 := hW19.symm
      have HW19 := hide hW19'
      clear hW19 hW19'
      have hL19 := hb10.trans (hbx.mono hb10.size)
      have HQ19 := hide (hN10.below hbx).st
      have HL19 := hide ((unhide HL17).trans (hL19.mono (unhide HL17).size))
      have HP19 := hide ((unhide HP17).below hL19)
      have HE19 := hide ((unhide HX17).below hL19)
      have HG19 := hide hX19
      have f0 := ((unhide HF17).below hL19).cell 1 rfl 0 rfl
      clear s0 s1 y0 y1 y2 y3 hN10 hb10 hbx hL19 hX19 HF17 HX17 HU17 HL17 HP17 HRQ2 HW17
      go_upto_region 17 with fail
      rw [unhide HW19]
      by_cases he : e2 = 0
      · subst he
        have hpl := (unhide HPQ).len
        obtain ⟨hP60, _, _⟩ := right_hr ((right_iff P).2 (unhide HPR rfl))
        go_wp2_with fail
        have h0 : R21 W19 P Q g21 (fun _ => false) W19.drew := R21.start _ _ _
        refine wp_region_gho (fun (γ : G21) ix v => if ix = 1 then v = .agg #[.slice γ.A P.rows.length γ.c, .slice γ.G P.gens.length γ.gc] else if ix = 3 then v = .agg #[.slice γ.B Q.rows.length γ.d, .slice γ.H Q.gens.length γ.hd] else if ix = 4 then v = .pointer (some ⟨γ.p, 0, none⟩) else if ix = 5 then v = .pointer (some ⟨γ.q, 0, none⟩) else (([fun v => v = .agg #[.slice T9 (tabsW P).length tc9, .slice G9 P.gens.length gc9], fun _ => True, fun v => v = .agg #[.slice T10 (tabsW Q).length tc10, .slice G10 Q.gens.length gc10], fun _ => True, fun _ => True, fun _ => True, fun _ => True, fun _ => True] : List (Value → Prop)).getD ix (fun _ => True)) v) (fun (γ : G21) L W => R21 W19 P Q γ L W) (g21) (by kernel_rfl) (by kernel_rfl) (by kernel_rfl) h0 ?hstep ?hend
        case hstep =>
          intro γ ix o ho L ac w1 hD hL hed hcl hout hv
          match ix, ho with
          | 0, ho =>
            simp at ho
            subst ho
            have e16 : ac.tmps.getD 16 undef = .pointer (some ⟨w16.heap.size, 0, none⟩) := hout 16 (by decide +kernel)
            have bb := (unhide HE19).below hD.bel
            have c0 := bb.cell 0 rfl 0 rfl
            have c1 := bb.cell 0 rfl 1 rfl
            rw [Nat.add_zero] at c0 c1
            exact .inl ⟨rfl, gho_reads γ (.agg #[.slice T9 (tabsW P).length tc9, .slice G9 P.gens.length gc9]) (by simp [go_sem, Act.eval, -Array.getD_eq_getD_getElem?, e16, c0, c1]) rfl (hD.same (by decide)) (fun _ _ _ _ h => h)⟩
          | 1, ho =>
            simp at ho
            subst ho
            have e125 : ac.tmps.getD 125 undef = .agg #[.slice T9 (tabsW P).length tc9, .slice G9 P.gens.length gc9] := hv 0 125 rfl (by kernel_rfl)
            have q6 : L 6 = false := by
              cases h : L 6
              · rfl
              · exact absurd (hcl 6 _ rfl h 1 (by kernel_rfl)) (by rw [hL]; decide)
            refine .inl ⟨rfl, gho_enters 18 #[.agg #[.slice T9 (tabsW P).length tc9, .slice G9 P.gens.length gc9]] (by simp [go_sem, Act.eval, -Array.getD_eq_getD_getElem?, e125]) ?_⟩
            refine (sworld_any T9 tc9 G9 gc9 (tabsW P) P w1 ((unhide HP19).below hD.bel)).mono ?_
            rintro e w6' ⟨A6, c6, G6, gc6, rfl, hN6, hb6⟩
            exact ⟨_, ⟨γ.p, γ.q, A6, c6, G6, gc6, γ.B, γ.d, γ.H, γ.hd⟩, rfl, rfl, hD.world1 q6 hN6 hb6, fun j u hj hLj h => by simpa [hj] using h⟩
          | 2, ho =>
            simp at ho
            subst ho
            have e18 : ac.tmps.getD 18 undef = .pointer (some ⟨w18.heap.size, 0, none⟩) := hout 18 (by decide +kernel)
            have bb := (unhide HG19).below hD.bel
            have c0 := bb.cell 0 rfl 0 rfl
            have c1 := bb.cell 0 rfl 1 rfl
            rw [Nat.add_zero] at c0 c1
            exact .inl ⟨rfl, gho_reads γ (.agg #[.slice T10 (tabsW Q).length tc10, .slice G10 Q.gens.length gc10]) (by simp [go_sem, Act.eval, -Array.getD_eq_getD_getElem?, e18, c0, c1]) rfl (hD.same (by decide)) (fun _ _ _ _ h => h)⟩
          | 3, ho =>
            simp at ho
            subst ho
            have e127 : ac.tmps.getD 127 undef = .agg #[.slice T10 (tabsW Q).length tc10, .slice G10 Q.gens.length gc10] := hv 2 127 rfl (by kernel_rfl)
            have q7 : L 7 = false := by
              cases h : L 7
              · rfl
              · exact absurd (hcl 7 _ rfl h 3 (by kernel_rfl)) (by rw [hL]; decide)
            refine .inl ⟨rfl, gho_enters 18 #[.agg #[.slice T10 (tabsW Q).length tc10, .slice G10 Q.gens.length gc10]] (by simp [go_sem, Act.eval, -Array.getD_eq_getD_getElem?, e127]) ?_⟩
            refine (sworld_any T10 tc10 G10 gc10 (tabsW Q) Q w1 ((unhide HQ19).below hD.bel)).mono ?_
            rintro e w6' ⟨A6, c6, G6, gc6, rfl, hN6, hb6⟩
            exact ⟨_, ⟨γ.p, γ.q, γ.A, γ.c, γ.G, γ.gc, A6, c6, G6, gc6⟩, rfl, rfl, hD.world2 q7 hN6 hb6, fun j u hj hLj h => by simpa [hj] using h⟩
          | 4, ho =>
            simp at ho
            subst ho
            have q6 : L 6 = false := by
              cases h : L 6
              · rfl
              · exact absurd (hcl 6 _ rfl h 4 (by kernel_rfl)) (by rw [hL]; decide)
            exact .inl ⟨rfl, gho_makes ⟨w1.heap.size, γ.q, γ.A, γ.c, γ.G, γ.gc, γ.B, γ.d, γ.H, γ.hd⟩ (.pointer (some ⟨w1.heap.size, 0, none⟩)) (w2 := w1.alloc (.cells #[.slice none 0 0, .slice none 0 0] 40)) (by simp [go_sem, Act.eval]) rfl (hD.makep q6) (fun j u hj hLj h => by simpa [hj] using h)⟩
          | 5, ho =>
            simp at ho
            subst ho
            have q7 : L 7 = false := by
              cases h : L 7
              · rfl
              · exact absurd (hcl 7 _ rfl h 5 (by kernel_rfl)) (by rw [hL]; decide)
            exact .inl ⟨rfl, gho_makes ⟨γ.p, w1.heap.size, γ.A, γ.c, γ.G, γ.gc, γ.B, γ.d, γ.H, γ.hd⟩ (.pointer (some ⟨w1.heap.size, 0, none⟩)) (w2 := w1.alloc (.cells #[.slice none 0 0, .slice none 0 0] 40)) (by simp [go_sem, Act.eval]) rfl (hD.makeq q7) (fun j u hj hLj h => by simpa [hj] using h)⟩
          | 6, ho =>
            simp at ho
            subst ho
            have e20 : ac.tmps.getD 20 undef = .pointer (some ⟨γ.p, 0, none⟩) := hv 4 20 rfl (by kernel_rfl)
            have e126 : ac.tmps.getD 126 undef = .agg #[.slice γ.A P.rows.length γ.c, .slice γ.G P.gens.length γ.gc] := hv 1 126 rfl (by kernel_rfl)
            have q1 : L 1 = true := hed 1 (by kernel_rfl)
            have q4 : L 4 = true := hed 4 (by kernel_rfl)
            have hb4 := (hD.bp q4).2
            rw [hL] at hb4
            exact .inl ⟨rfl, gho_putN γ 40 (.tmp 20) (.tmp 126) rfl γ.p 0 (slP P γ.A γ.c γ.G γ.gc) (by simp [Act.eval, -Array.getD_eq_getD_getElem?, e20]) (by simp [Act.eval, -Array.getD_eq_getD_getElem?, e126, slP]) (by simp [Value.oneCell', slP]) size38 (hb4.there 0 rfl 2 rfl) trivial (hD.put6 q1 q4 hL) (fun _ _ _ _ h => h)⟩
          | 7, ho =>
            simp at ho
            subst ho
            have e21 : ac.tmps.getD 21 undef = .pointer (some ⟨γ.q, 0, none⟩) := hv 5 21 rfl (by kernel_rfl)
            have e128 : ac.tmps.getD 128 undef = .agg #[.slice γ.B Q.rows.length γ.d, .slice γ.H Q.gens.length γ.hd] := hv 3 128 rfl (by kernel_rfl)
            have q3 : L 3 = true := hed 3 (by kernel_rfl)
            have q5 : L 5 = true := hed 5 (by kernel_rfl)
            have hb5 := (hD.bq q5).2
            rw [hL] at hb5
            exact .inl ⟨rfl, gho_putN γ 40 (.tmp 21) (.tmp 128) rfl γ.q 0 (slP Q γ.B γ.d γ.H γ.hd) (by simp [Act.eval, -Array.getD_eq_getD_getElem?, e21]) (by simp [Act.eval, -Array.getD_eq_getD_getElem?, e128, slP]) (by simp [Value.oneCell', slP]) size38 (hb5.there 0 rfl 2 rfl) trivial (hD.put7 q3 q5 hL) (fun _ _ _ _ h => h)⟩
          | ix + 8, ho => simp at ho
        case hend =>
          intro γ v L w21 hD hall hv
          have a1 := hall 1 (by decide)
          have a3 := hall 3 (by decide)
          have a4 := hall 4 (by decide)
          have a5 := hall 5 (by decide)
          have a6 := hall 6 (by decide)
          have a7 := hall 7 (by decide)
          have v4 : v 4 = .pointer (some ⟨γ.p, 0, none⟩) := hv 4 20 rfl
          have v5 : v 5 = .pointer (some ⟨γ.q, 0, none⟩) := hv 5 21 rfl
          have hWP := hD.w1 a1
          have hWQ := hD.w2 a3
          have hbp := (hD.bp a4).2
          have hbq := (hD.bq a5).2
          rw [a6, if_pos rfl] at hbp
          rw [a7, if_pos rfl] at hbq
          unfold slP at hbp hbq
          rw [← hpl] at hbq
          have HPL := hide hpl
          clear hpl
          obtain ⟨p20, p21, A5, c5, G5, gc5, A6, c6, G6, gc6⟩ := γ
          dsimp only at v4 v5 hWP hWQ hbp hbq
          have u0 := hbp.cell 0 rfl 0 rfl
          have u1 := hbq.cell 0 rfl 0 rfl
          rw [Nat.add_zero] at u0 u1
          have HWP := hide hWP
          have HWQ := hide hWQ
          have HBP := hide hbp
          have HBQ := hide hbq
          have HL21 := hide ((unhide HL19).trans (hD.bel.mono (unhide HL19).size))
          clear hv hall hD h0 hWP hWQ hbp hbq a1 a3 a4 a5 a6 a7 f0 HP19 HQ19 HE19 HG19 HL19 HW19
          simp only [putOps, List.getElem?_cons_zero, List.getElem?_cons_succ, Option.bind_some, List.length_cons, List.length_nil, Nat.reduceAdd, v4, v5]
          clear v4 v5
          go_frame
          go_wp2_with fail
          go_loopw [139] (fun x wr => ∃ k : Nat, k ≤ P.rows.length ∧ x = .int .i64 (k : Int) ∧ Below w21.heap.size w21 wr) (fun x _ => P.rows.length - (intOf x).toNat)
          case atStart => exact ⟨0, Nat.zero_le _, rfl, Below.refl _ _⟩
          case round =>
            clear u0 u1
            obtain ⟨k, hk, rfl, hbr⟩ := hrel
            by_cases hlt : k < P.rows.length
            · have k0 : (0 : Int) ≤ (k : Int) := by omega
              have k1 : (k : Int) < (P.rows.length : Int) := by omega
              obtain ⟨ab, ao, hAe, hrow⟩ := ((unhide HWP).below hbr).rows k hlt
              obtain ⟨zb, zo, hBe, hrow2⟩ := ((unhide HWQ).below hbr).rows k (by have := unhide HPL; omega)
              have hrow : RowAt wr ab (ao + k * 11) (rowOf P k) := hrow
              have hrow2 : RowAt wr zb (zo + k * 11) (rowOf Q k) := hrow2
              have hz := (unhide HPQ).zero k
              obtain ⟨y, hy⟩ : ∃ y, y = rowOf P k := ⟨_, rfl⟩
              obtain ⟨z, hzz⟩ : ∃ z, z = rowOf Q k := ⟨_, rfl⟩
              rw [← hy, ← hzz] at hz
              rw [← hy] at hrow
              rw [← hzz] at hrow2
              obtain ⟨r0, hr0⟩ : ∃ r0, uRow pt 0 y = r0 := ⟨_, rfl⟩
              have HR0 := hide hr0
              have HZZ := hide hz
              have HY := hide hrow
              have HZ := hide hrow2
              have hBPk := (unhide HBP).below hbr
              have hBQk := (unhide HBQ).below hbr
              have HBR := hide hbr
              subst hAe
              subst hBe
              have HBPk := hide hBPk
              have HBQk := hide hBQk
              clear hrow hrow2 hy hzz hr0 hz hBPk hBQk hbr
              go_wp2_with fail
              have h0 : R27 wr y z (0, 0) (fun _ => false) wr.drew := R27.start _ _ _
              refine wp_region_gho (fun (γ : Nat × Nat) ix v => if ix = 10 then v = .pointer (some ⟨γ.1, 0, none⟩) else if ix = 11 then v = .pointer (some ⟨γ.2, 0, none⟩) else (([fun v => v = .pointer (some ⟨p20, 0, none⟩), fun v => v = .slice (some ⟨ab, ao, none⟩) P.rows.length c5, fun v => v = .int .i64 (k : Int), fun v => v = .pointer (some ⟨ab, ao + k * 11, none⟩), fun v => v = .agg #[.int .i64 y.ix, .int .i64 y.gen, .int .i64 y.has, .int .i64 (y.v 0), .int .i64 (y.v 1), .int .i64 (y.v 2), .int .i64 (y.v 3), .int .i64 (y.v 4), .int .i64 (y.v 5), .int .i64 (y.v 6), .int .i64 (y.v 7)], fun v => v = .pointer (some ⟨p21, 0, none⟩), fun v => v = .slice (some ⟨zb, zo, none⟩) P.rows.length c6, fun v => v = .int .i64 (k : Int), fun v => v = .pointer (some ⟨zb, zo + k * 11, none⟩), fun v => v = .agg #[.int .i64 z.ix, .int .i64 z.gen, .int .i64 z.has, .int .i64 (z.v 0), .int .i64 (z.v 1), .int .i64 (z.v 2), .int .i64 (z.v 3), .int .i64 (z.v 4), .int .i64 (z.v 5), .int .i64 (z.v 6), .int .i64 (z.v 7)], fun _ => True, fun _ => True, fun _ => True, fun _ => True] : List (Value → Prop)).getD ix (fun _ => True)) v) (fun (γ : Nat × Nat) L W => R27 wr y z γ L W) ((0, 0)) (by kernel_rfl) (by kernel_rfl) (by kernel_rfl) h0 ?hstep ?hend
              case hstep =>
                intro γ ix o ho L ac w1 hD hL hed hcl hout hv
                match ix, ho with
                | 0, ho =>
                  simp at ho
                  subst ho
                  have e20 : ac.tmps.getD 20 undef = .pointer (some ⟨p20, 0, none⟩) := hout 20 (by decide +kernel)
                  exact .inl ⟨rfl, gho_reads γ (.pointer (some ⟨p20, 0, none⟩)) (by simp [go_sem, Act.eval, -Array.getD_eq_getD_getElem?, e20]) rfl (hD.same (by decide)) (fun _ _ _ _ h => h)⟩
                | 1, ho =>
                  simp at ho
                  subst ho
                  have e142 : ac.tmps.getD 142 undef = .pointer (some ⟨p20, 0, none⟩) := hv 0 142 rfl (by kernel_rfl)
                  have bb := (unhide HBPk).below hD.bel
                  have c0 := bb.cell 0 rfl 0 rfl
                  rw [Nat.add_zero] at c0
                  exact .inl ⟨rfl, gho_reads γ (.slice (some ⟨ab, ao, none⟩) P.rows.length c5) (by simp [go_sem, Act.eval, -Array.getD_eq_getD_getElem?, e142, c0]) rfl (hD.same (by decide)) (fun _ _ _ _ h => h)⟩
                | 2, ho =>
                  simp at ho
                  subst ho
                  have e22 : ac.tmps.getD 22 undef = .int .i64 (k : Int) := hout 22 (by decide +kernel)
                  exact .inl ⟨rfl, gho_reads γ (.int .i64 (k : Int)) (by simp [go_sem, Act.eval, -Array.getD_eq_getD_getElem?, e22]) rfl (hD.same (by decide)) (fun _ _ _ _ h => h)⟩
                | 3, ho =>
                  simp at ho
                  subst ho
                  have e143 : ac.tmps.getD 143 undef = .slice (some ⟨ab, ao, none⟩) P.rows.length c5 := hv 1 143 rfl (by kernel_rfl)
                  have e144 : ac.tmps.getD 144 undef = .int .i64 (k : Int) := hv 2 144 rfl (by kernel_rfl)
                  exact .inl ⟨rfl, gho_reads γ (.pointer (some ⟨ab, ao + k * 11, none⟩)) (by simp [go_sem, Act.eval, -Array.getD_eq_getD_getElem?, e143, e144, k0, k1]) rfl (hD.same (by decide)) (fun _ _ _ _ h => h)⟩
                | 4, ho =>
                  simp at ho
                  subst ho
                  have e145 : ac.tmps.getD 145 undef = .pointer (some ⟨ab, ao + k * 11, none⟩) := hv 3 145 rfl (by kernel_rfl)
                  obtain ⟨c0, c1, c2, c3, c4, c5, c6, c7, c8, c9, c10⟩ := rowAt_all ((unhide HY).below hD.bel)
                  exact .inl ⟨rfl, gho_reads γ (.agg #[.int .i64 y.ix, .int .i64 y.gen, .int .i64 y.has, .int .i64 (y.v 0), .int .i64 (y.v 1), .int .i64 (y.v 2), .int .i64 (y.v 3), .int .i64 (y.v 4), .int .i64 (y.v 5), .int .i64 (y.v 6), .int .i64 (y.v 7)]) (by simp [go_sem, Act.eval, -Array.getD_eq_getD_getElem?, e145, c0, c1, c2, c3, c4, c5, c6, c7, c8, c9, c10]) rfl (hD.same (by decide)) (fun _ _ _ _ h => h)⟩
                | 5, ho =>
                  simp at ho
                  subst ho
                  have e21 : ac.tmps.getD 21 undef = .pointer (some ⟨p21, 0, none⟩) := hout 21 (by decide +kernel)
                  exact .inl ⟨rfl, gho_reads γ (.pointer (some ⟨p21, 0, none⟩)) (by simp [go_sem, Act.eval, -Array.getD_eq_getD_getElem?, e21]) rfl (hD.same (by decide)) (fun _ _ _ _ h => h)⟩
                | 6, ho =>
                  simp at ho
                  subst ho
                  have e147 : ac.tmps.getD 147 undef = .pointer (some ⟨p21, 0, none⟩) := hv 5 147 rfl (by kernel_rfl)
                  have bb := (unhide HBQk).below hD.bel
                  have c0 := bb.cell 0 rfl 0 rfl
                  rw [Nat.add_zero] at c0
                  exact .inl ⟨rfl, gho_reads γ (.slice (some ⟨zb, zo, none⟩) P.rows.length c6) (by simp [go_sem, Act.eval, -Array.getD_eq_getD_getElem?, e147, c0]) rfl (hD.same (by decide)) (fun _ _ _ _ h => h)⟩
                | 7, ho =>
                  simp at ho
                  subst ho
                  have e22 : ac.tmps.getD 22 undef = .int .i64 (k : Int) := hout 22 (by decide +kernel)
                  exact .inl ⟨rfl, gho_reads γ (.int .i64 (k : Int)) (by simp [go_sem, Act.eval, -Array.getD_eq_getD_getElem?, e22]) rfl (hD.same (by decide)) (fun _ _ _ _ h => h)⟩
                | 8, ho =>
                  simp at ho
                  subst ho
                  have e148 : ac.tmps.getD 148 undef = .slice (some ⟨zb, zo, none⟩) P.rows.length c6 := hv 6 148 rfl (by kernel_rfl)
                  have e149 : ac.tmps.getD 149 undef = .int .i64 (k : Int) := hv 7 149 rfl (by kernel_rfl)
                  exact .inl ⟨rfl, gho_reads γ (.pointer (some ⟨zb, zo + k * 11, none⟩)) (by simp [go_sem, Act.eval, -Array.getD_eq_getD_getElem?, e148, e149, k0, k1]) rfl (hD.same (by decide)) (fun _ _ _ _ h => h)⟩
                | 9, ho =>
                  simp at ho
                  subst ho
                  have e150 : ac.tmps.getD 150 undef = .pointer (some ⟨zb, zo + k * 11, none⟩) := hv 8 150 rfl (by kernel_rfl)
                  obtain ⟨c0, c1, c2, c3, c4, c5, c6, c7, c8, c9, c10⟩ := rowAt_all ((unhide HZ).below hD.bel)
                  exact .inl ⟨rfl, gho_reads γ (.agg #[.int .i64 z.ix, .int .i64 z.gen, .int .i64 z.has, .int .i64 (z.v 0), .int .i64 (z.v 1), .int .i64 (z.v 2), .int .i64 (z.v 3), .int .i64 (z.v 4), .int .i64 (z.v 5), .int .i64 (z.v 6), .int .i64 (z.v 7)]) (by simp [go_sem, Act.eval, -Array.getD_eq_getD_getElem?, e150, c0, c1, c2, c3, c4, c5, c6, c7, c8, c9, c10]) rfl (hD.same (by decide)) (fun _ _ _ _ h => h)⟩
                | 10, ho =>
                  simp at ho
                  subst ho
                  have q12 : L 12 = false := by
                    cases h : L 12
                    · rfl
                    · exact absurd (hcl 12 _ rfl h 10 (by kernel_rfl)) (by rw [hL]; decide)
                  exact .inl ⟨rfl, gho_makes (w1.heap.size, γ.2) (.pointer (some ⟨w1.heap.size, 0, none⟩)) (w2 := w1.alloc (.cells (rowCells dR).toArray 53)) (by simp [go_sem, Act.eval, rowCells, dR]) rfl (hD.makep q12) (fun j u hj hLj h => by simpa [hj] using h)⟩
                | 11, ho =>
                  simp at ho
                  subst ho
                  have q13 : L 13 = false := by
                    cases h : L 13
                    · rfl
                    · exact absurd (hcl 13 _ rfl h 11 (by kernel_rfl)) (by rw [hL]; decide)
                  exact .inl ⟨rfl, gho_makes (γ.1, w1.heap.size) (.pointer (some ⟨w1.heap.size, 0, none⟩)) (w2 := w1.alloc (.cells (rowCells dR).toArray 53)) (by simp [go_sem, Act.eval, rowCells, dR]) rfl (hD.makeq q13) (fun j u hj hLj h => by simpa [hj] using h)⟩
                | 12, ho =>
                  simp at ho
                  subst ho
                  have e23 : ac.tmps.getD 23 undef = .pointer (some ⟨γ.1, 0, none⟩) := hv 10 23 rfl (by kernel_rfl)
                  have e146 : ac.tmps.getD 146 undef = .agg #[.int .i64 y.ix, .int .i64 y.gen, .int .i64 y.has, .int .i64 (y.v 0), .int .i64 (y.v 1), .int .i64 (y.v 2), .int .i64 (y.v 3), .int .i64 (y.v 4), .int .i64 (y.v 5), .int .i64 (y.v 6), .int .i64 (y.v 7)] := hv 4 146 rfl (by kernel_rfl)
                  have q10 : L 10 = true := hed 10 (by kernel_rfl)
                  have hb4 := (hD.bp q10).2
                  rw [hL] at hb4
                  exact .inl ⟨rfl, gho_putN γ 53 (.tmp 23) (.tmp 146) rfl γ.1 0 (rowCells y) (by simp [Act.eval, -Array.getD_eq_getD_getElem?, e23]) (by simp [Act.eval, -Array.getD_eq_getD_getElem?, e146, rowCells]) (rowCells_one _) size53b (hb4.there 0 rfl 11 rfl) trivial (hD.put12 q10 hL) (fun _ _ _ _ h => h)⟩
                | 13, ho =>
                  simp at ho
                  subst ho
                  have e24 : ac.tmps.getD 24 undef = .pointer (some ⟨γ.2, 0, none⟩) := hv 11 24 rfl (by kernel_rfl)
                  have e151 : ac.tmps.getD 151 undef = .agg #[.int .i64 z.ix, .int .i64 z.gen, .int .i64 z.has, .int .i64 (z.v 0), .int .i64 (z.v 1), .int .i64 (z.v 2), .int .i64 (z.v 3), .int .i64 (z.v 4), .int .i64 (z.v 5), .int .i64 (z.v 6), .int .i64 (z.v 7)] := hv 9 151 rfl (by kernel_rfl)
                  have q11 : L 11 = true := hed 11 (by kernel_rfl)
                  have hb4 := (hD.bq q11).2
                  rw [hL] at hb4
                  exact .inl ⟨rfl, gho_putN γ 53 (.tmp 24) (.tmp 151) rfl γ.2 0 (rowCells z) (by simp [Act.eval, -Array.getD_eq_getD_getElem?, e24]) (by simp [Act.eval, -Array.getD_eq_getD_getElem?, e151, rowCells]) (rowCells_one _) size53b (hb4.there 0 rfl 11 rfl) trivial (hD.put13 q11 hL) (fun _ _ _ _ h => h)⟩
                | ix + 14, ho => simp at ho
              case hend =>
                intro γ v L w27 hD hall hv
                have a10 := hall 10 (by decide)
                have a11 := hall 11 (by decide)
                have a12 := hall 12 (by decide)
                have a13 := hall 13 (by decide)
                have v10 : v 10 = .pointer (some ⟨γ.1, 0, none⟩) := hv 10 23 rfl
                have v11 : v 11 = .pointer (some ⟨γ.2, 0, none⟩) := hv 11 24 rfl
                have hbp := hD.bp a10
                have hbq := hD.bq a11
                have hne := hD.ne a10 a11
                rw [a12, if_pos rfl] at hbp
                rw [a13, if_pos rfl] at hbq
                have hbl := hD.bel
                obtain ⟨g1, g2⟩ := γ
                dsimp only at v10 v11 hbp hbq hne
                obtain ⟨hg1, hbp⟩ := hbp
                obtain ⟨hg2, hbq⟩ := hbq
                have HG1 := hide hg1
                have HG2 := hide hg2
                have HNE := hide hne
                have HTY := hide (hbp.there 0 rfl 11 rfl)
                have HTZ := hide (hbq.there 0 rfl 11 rfl)
                have HRY := hide (row_box hbp)
                have HRZ := hide (row_box hbq)
                have HBL := hide hbl
                have HQ2 := hide hbq
                clear hv hall hD h0 hbp hbq hbl hne hg1 hg2 a10 a11 a12 a13
                simp only [putOps, List.getElem?_cons_zero, List.getElem?_cons_succ, Option.bind_some, List.length_cons, List.length_nil, Nat.reduceAdd, v10, v11]
                clear v10 v11
                go_frame
                go_wp2_with (first
                  | (refine wpList_put1 rfl 3 (.tmp 155) _ rfl g1 (3 + pt) (.int .i64 0) rfl rfl rfl size3' (fun j hj => by obtain rfl : j = 0 := (by omega); simpa using (unhide HTY) (3 + pt) (by omega)) ?_; intro W28 hW28; have HY28 := hide (show RowAt W28 g1 0 (uRow pt 0 y) by rw [hW28]; exact rowAt_setv (unhide HRY) hpt 0); have HZ28 := hide (show RowAt W28 g2 0 z by rw [hW28]; exact rowAt_other (unhide HNE) (unhide HRZ)); have HL28 := hide (show Below wr.heap.size wr W28 by rw [hW28]; exact (unhide HBL).setCell (p := ⟨g1, 3 + pt, none⟩) (unhide HG1) _); have HQ28 := hide (show Bxs g2 [(rowCells z, 53)] W28 by rw [hW28]; exact (unhide HQ2).turn (cb := g1) (o := 3 + pt) (vs := [.int .i64 0]) (by have := unhide HNE; simp only [List.length_cons, List.length_nil]; omega)); clear hW28)
                  | (refine wpList_put1 rfl 3 (.tmp 157) _ rfl g2 (3 + pt) (.int .i64 0) rfl rfl rfl size3' (fun j hj => by obtain rfl : j = 0 := (by omega); simpa using ((unhide HQ28).there 0 rfl 11 rfl) (3 + pt) (by omega)) ?_; intro W29 hW29; have hY29 : RowAt W29 g1 0 r0 := (by rw [hW29, ← unhide HR0]; exact rowAt_other (fun e => unhide HNE e.symm) (unhide HY28)); have hZ29 : RowAt W29 g2 0 r0 := (by rw [hW29, ← unhide HR0, unhide HZZ]; exact rowAt_setv (unhide HZ28) hpt 0); have HL29 := hide (show Below wr.heap.size wr W29 by rw [hW29]; exact (unhide HL28).setCell (p := ⟨g2, 3 + pt, none⟩) (unhide HG2) _); obtain ⟨c0, c1, c2, c3, c4, c5, c6, c7, c8, c9, c10⟩ := rowAt_all hY29; obtain ⟨d0, d1, d2, d3, d4, d5, d6, d7, d8, d9, d10⟩ := rowAt_all hZ29; simp only [Nat.zero_add] at c0 c1 c2 c3 c4 c5 c6 c7 c8 c9 c10 d0 d1 d2 d3 d4 d5 d6 d7 d8 d9 d10; clear hY29 hZ29 hW29))
                go_roundw
                case rel => exact ⟨k + 1, by omega, by go_num, (unhide HBR).trans ((unhide HL29).mono (unhide HBR).size)⟩
                case measure => simp [intOf]; omega
            · obtain rfl : k = P.rows.length := by omega
              have HE := hide ((unhide HL21).trans (hbr.mono (unhide HL21).size))
              clear hbr
              go_wp2
              go_ret
              exact ⟨rfl, unhide HE⟩
      · have hne : (e2 == 0) = false := by simpa using he
        go_wp2
        go_ret
        exact ⟨rfl, unhide HL19⟩
end Go.Proofs.Ytnbleebilmghcab
