/- The law RunOrder. -/
import Derived.Test.YtnbleebilmghcabQY
import Derived.Test.YtnbleebilmghcabQX
import Derived.Test.YtnbleebilmghcabZRnOrd
import Derived.Test.YtnbleebilmghcabZRnSame
set_option linter.all false
namespace Go.Proofs.Ytnbleebilmghcab
open Go Go.RowKit
attribute [local go_sem ↓] Go.wp_at_zero Go.wp_at_succ
set_option maxRecDepth 8000 in
set_option maxHeartbeats 1500000 in
theorem order_wrong (A : Option Addr) (cap : Nat) (G : Option Addr) (gcap : Nat) (X : Wd) (s t : SysI) (w : World) (hn0 : X.rows.length ≤ 9223372036854775807) (hX : WldAt w A cap G gcap X) (hw0 : (wrongW X).1 ≠ 0) :
    Calls Try.prog 7 #[wldV A cap G gcap X, sysI s, sysI t] w fun e w' => e = .returned (.bool true) ∧ Below w.heap.size w w' := by
  have hOF := fun W (hb : Below w.heap.size w W) => of_wrong A cap G gcap X W hn0 (hX.below hb) hw0
  unfold wldV worldV stV at hOF
  obtain ⟨we, hwe⟩ : ∃ we, we = (wrongW X).1 := ⟨_, rfl⟩
  generalize (wrongW X).2 = wa at *
  rw [← hwe] at hOF hw0
  clear hwe
  have HOF := hide hOF
  clear hOF
  have hB0 := Bxs.start w [([.slice A X.rows.length cap, .slice G X.gens.length gcap], 40), ([.int .i64 s.m, .int .i64 s.al, .int .i64 s.no, .slice s.A s.len s.cap], 26), ([.int .i64 t.m, .int .i64 t.al, .int .i64 t.no, .slice t.A t.len t.cap], 26)]
  have hb0 := allocs_below [([.slice A X.rows.length cap, .slice G X.gens.length gcap], 40), ([.int .i64 s.m, .int .i64 s.al, .int .i64 s.no, .slice s.A s.len s.cap], 26), ([.int .i64 t.m, .int .i64 t.al, .int .i64 t.no, .slice t.A t.len t.cap], 26)] w
  obtain ⟨W0, hW0⟩ : ∃ W0, W0 = allocs w [([.slice A X.rows.length cap, .slice G X.gens.length gcap], 40), ([.int .i64 s.m, .int .i64 s.al, .int .i64 s.no, .slice s.A s.len s.cap], 26), ([.int .i64 t.m, .int .i64 t.al, .int .i64 t.no, .slice t.A t.len t.cap], 26)] := ⟨_, rfl⟩
  rw [← hW0] at hB0 hb0
  have hW0' : ((w.alloc (.cells #[.slice A X.rows.length cap, .slice G X.gens.length gcap] 40)).alloc (.cells #[.int .i64 s.m, .int .i64 s.al, .int .i64 s.no, .slice s.A s.len s.cap] 26)).alloc (.cells #[.int .i64 t.m, .int .i64 t.al, .int .i64 t.no, .slice t.A t.len t.cap] 26) = W0 := hW0.symm
  have HW0 := hide hW0'
  have HB0 := hide hB0
  have HL0 := hide hb0
  have HX := hide hX
  clear hW0 hW0' hB0 hb0 hX
  unfold wldV worldV sysI sysV
  go_enter Try.func7, Try.ntmps7
  go_wp2_with fail
  go_at_call 15
  rw [unhide HW0]
  refine (alive5_any W0).mono ?_
  rintro e w1 ⟨rfl, hb1⟩
  have hB1 := (unhide HB0).below hb1
  have hL1 := (unhide HL0).trans (hb1.mono (unhide HL0).size)
  have c0 := hB1.cell 0 rfl 0 rfl
  have c1 := hB1.cell 0 rfl 1 rfl
  rw [Nat.add_zero] at c0 c1
  have HB1 := hide hB1
  have HL1 := hide hL1
  clear hB1 hL1 hb1 HW0 HB0 HL0
  go_wp2_with fail
  go_at_call 16
  refine (unhide HOF _ (unhide HL1)).mono ?_
  rintro e w2 ⟨rfl, hb2⟩
  have hB2 := Bxs.start w2 [([.slice none 0 0, .slice none 0 0], 43), ([.int .i64 we, .int .i64 wa], 30)]
  have hb3 := allocs_below [([.slice none 0 0, .slice none 0 0], 43), ([.int .i64 we, .int .i64 wa], 30)] w2
  obtain ⟨W3, hW3⟩ : ∃ W3, W3 = allocs w2 [([.slice none 0 0, .slice none 0 0], 43), ([.int .i64 we, .int .i64 wa], 30)] := ⟨_, rfl⟩
  rw [← hW3] at hB2 hb3
  have hL2 := (unhide HL1).trans (hb2.mono (unhide HL1).size)
  have HL3 := hide (hL2.trans (hb3.mono hL2.size))
  have HB3 := hide (((unhide HB1).below hb2).below hb3)
  have HC3 := hide hB2
  have hW3' : (w2.alloc (.cells #[.slice none 0 0, .slice none 0 0] 43)).alloc (.cells #[.int .i64 we, .int .i64 wa] 30) = W3 := hW3.symm
  have HW3 := hide hW3'
  clear c0 c1 hB2 hb3 hb2 hL2 hW3 hW3' HB1 HL1 HOF
  have f0 := (unhide HC3).cell 1 rfl 0 rfl
  have hne : (we == 0) = false := by simpa using hw0
  go_upto_region 4 with fail
  rw [unhide HW3]
  go_wp2
  go_ret
  exact ⟨rfl, unhide HL3⟩
set_option maxRecDepth 8000 in
set_option maxHeartbeats 1500000 in
theorem order_s (A : Option Addr) (cap : Nat) (G : Option Addr) (gcap : Nat) (X : Wd) (s t : SysI) (w : World) (hX : WldAt w A cap G gcap X) (hr : RightW X) (hA : ActsAt w s.A s.len s.a) (hB : ActsAt w t.A t.len t.a) (h1 : (wrF s.m s.al s.no s.a s.len).1 ≠ 0) :
    Calls Try.prog 7 #[wldV A cap G gcap X, sysI s, sysI t] w fun e w' => e = .returned (.bool true) ∧ Below w.heap.size w w' := by
  obtain ⟨hl, hgl, _⟩ := right_hr ((right_iff X).2 hr)
  have hOF := fun W (hb : Below w.heap.size w W) => of_right A cap G gcap X W (hX.below hb) hr
  unfold wldV worldV stV at hOF
  have HOF := hide hOF
  have HRX := hide hr
  clear hOF hr
  have hVS := fun W (hb : Below w.heap.size w W) => wrong_any s.m s.al s.no s.A s.len s.cap s.a W (hA.below hb)
  have hVT := fun W (hb : Below w.heap.size w W) => wrong_any t.m t.al t.no t.A t.len t.cap t.a W (hB.below hb)
  unfold sysV faultV at hVS hVT
  have hfd := run_field
  obtain ⟨e1, he1⟩ : ∃ e1, e1 = (wrF s.m s.al s.no s.a s.len).1 := ⟨_, rfl⟩
  generalize (wrF s.m s.al s.no s.a s.len).2 = a1 at *
  rw [← he1] at hVS h1
  have hne : (e1 == 0) = false := by simpa using h1
  clear he1 hA hB
  have HVS := hide hVS
  have HVT := hide hVT
  have HFD := hide hfd
  clear hVS hVT hfd
  have hB0 := Bxs.start w [([.slice A X.rows.length cap, .slice G X.gens.length gcap], 40), ([.int .i64 s.m, .int .i64 s.al, .int .i64 s.no, .slice s.A s.len s.cap], 26), ([.int .i64 t.m, .int .i64 t.al, .int .i64 t.no, .slice t.A t.len t.cap], 26)]
  have hb0 := allocs_below [([.slice A X.rows.length cap, .slice G X.gens.length gcap], 40), ([.int .i64 s.m, .int .i64 s.al, .int .i64 s.no, .slice s.A s.len s.cap], 26), ([.int .i64 t.m, .int .i64 t.al, .int .i64 t.no, .slice t.A t.len t.cap], 26)] w
  obtain ⟨W0, hW0⟩ : ∃ W0, W0 = allocs w [([.slice A X.rows.length cap, .slice G X.gens.length gcap], 40), ([.int .i64 s.m, .int .i64 s.al, .int .i64 s.no, .slice s.A s.len s.cap], 26), ([.int .i64 t.m, .int .i64 t.al, .int .i64 t.no, .slice t.A t.len t.cap], 26)] := ⟨_, rfl⟩
  rw [← hW0] at hB0 hb0
  have hW0' : ((w.alloc (.cells #[.slice A X.rows.length cap, .slice G X.gens.length gcap] 40)).alloc (.cells #[.int .i64 s.m, .int .i64 s.al, .int .i64 s.no, .slice s.A s.len s.cap] 26)).alloc (.cells #[.int .i64 t.m, .int .i64 t.al, .int .i64 t.no, .slice t.A t.len t.cap] 26) = W0 := hW0.symm
  have HW0 := hide hW0'
  have HB0 := hide hB0
  have HL0 := hide hb0
  have HX := hide hX
  clear hW0 hW0' hB0 hb0 hX
  unfold wldV worldV sysI sysV
  go_enter Try.func7, Try.ntmps7
  go_wp2_with fail
  go_at_call 15
  rw [unhide HW0]
  refine (alive5_any W0).mono ?_
  rintro e w1 ⟨rfl, hb1⟩
  have hB1 := (unhide HB0).below hb1
  have hL1 := (unhide HL0).trans (hb1.mono (unhide HL0).size)
  have c0 := hB1.cell 0 rfl 0 rfl
  have c1 := hB1.cell 0 rfl 1 rfl
  rw [Nat.add_zero] at c0 c1
  have HB1 := hide hB1
  have HL1 := hide hL1
  clear hB1 hL1 hb1 HW0 HB0 HL0
  go_wp2_with fail
  go_at_call 16
  refine (unhide HOF _ (unhide HL1)).mono ?_
  rintro e w2 ⟨T2, tc2, G2, gc2, rfl, hN2, hb2⟩
  have hB2 := Bxs.start w2 [([.slice T2 (tabsW X).length tc2, .slice G2 X.gens.length gc2], 43), ([.int .i64 0, .int .i64 0], 30)]
  have hb3 := allocs_below [([.slice T2 (tabsW X).length tc2, .slice G2 X.gens.length gc2], 43), ([.int .i64 0, .int .i64 0], 30)] w2
  obtain ⟨W3, hW3⟩ : ∃ W3, W3 = allocs w2 [([.slice T2 (tabsW X).length tc2, .slice G2 X.gens.length gc2], 43), ([.int .i64 0, .int .i64 0], 30)] := ⟨_, rfl⟩
  rw [← hW3] at hB2 hb3
  have hL2 := (unhide HL1).trans (hb2.mono (unhide HL1).size)
  have HL3 := hide (hL2.trans (hb3.mono hL2.size))
  have HB3 := hide (((unhide HB1).below hb2).below hb3)
  have HC3 := hide hB2
  have HT3 := hide (hN2.below hb3).st
  have HX3 := hide ((unhide HX).below (hL2.trans (hb3.mono hL2.size)))
  have hW3' : (w2.alloc (.cells #[.slice T2 (tabsW X).length tc2, .slice G2 X.gens.length gc2] 43)).alloc (.cells #[.int .i64 0, .int .i64 0] 30) = W3 := hW3.symm
  have HW3 := hide hW3'
  clear c0 c1 hB2 hb3 hb2 hL2 hW3 hW3' hN2 HB1 HL1 HOF HX
  have f0 := (unhide HC3).cell 1 rfl 0 rfl
  have y0 := (unhide HB3).cell 1 rfl 0 rfl
  have y1 := (unhide HB3).cell 1 rfl 1 rfl
  have y2 := (unhide HB3).cell 1 rfl 2 rfl
  have y3 := (unhide HB3).cell 1 rfl 3 rfl
  go_upto_region 4 with fail
  rw [unhide HW3]
  have hfd := unhide HFD
  go_wp2_with fail
  go_at_call 12
  refine (unhide HVS _ (unhide HL3)).mono ?_
  rintro e w4 ⟨rfl, hb4⟩
  have HL4 := hide ((unhide HL3).trans (hb4.mono (unhide HL3).size))
  have hB4 := (unhide HB3).below hb4
  have hC4 := (unhide HC3).below hb4
  have HT4 := hide ((unhide HT3).below hb4)
  have z0 := hB4.cell 2 rfl 0 rfl
  have z1 := hB4.cell 2 rfl 1 rfl
  have z2 := hB4.cell 2 rfl 2 rfl
  have z3 := hB4.cell 2 rfl 3 rfl
  have HB4 := hide hB4
  have HC4 := hide hC4
  clear hb4 hB4 hC4 f0 y0 y1 y2 y3
  go_wp2
  go_ret
  exact ⟨rfl, unhide HL4⟩
set_option maxRecDepth 8000 in
set_option maxHeartbeats 1500000 in
theorem order_t (A : Option Addr) (cap : Nat) (G : Option Addr) (gcap : Nat) (X : Wd) (s t : SysI) (w : World) (hX : WldAt w A cap G gcap X) (hr : RightW X) (hA : ActsAt w s.A s.len s.a) (hB : ActsAt w t.A t.len t.a) (h1 : (wrF s.m s.al s.no s.a s.len).1 = 0) (h2 : (wrF t.m t.al t.no t.a t.len).1 ≠ 0) :
    Calls Try.prog 7 #[wldV A cap G gcap X, sysI s, sysI t] w fun e w' => e = .returned (.bool true) ∧ Below w.heap.size w w' := by
  obtain ⟨hl, hgl, _⟩ := right_hr ((right_iff X).2 hr)
  have hOF := fun W (hb : Below w.heap.size w W) => of_right A cap G gcap X W (hX.below hb) hr
  unfold wldV worldV stV at hOF
  have HOF := hide hOF
  have HRX := hide hr
  clear hOF hr
  have hVS := fun W (hb : Below w.heap.size w W) => wrong_any s.m s.al s.no s.A s.len s.cap s.a W (hA.below hb)
  have hVT := fun W (hb : Below w.heap.size w W) => wrong_any t.m t.al t.no t.A t.len t.cap t.a W (hB.below hb)
  unfold sysV faultV at hVS hVT
  have hfd := run_field
  obtain ⟨e1, he1⟩ : ∃ e1, e1 = (wrF s.m s.al s.no s.a s.len).1 := ⟨_, rfl⟩
  generalize (wrF s.m s.al s.no s.a s.len).2 = a1 at *
  rw [← he1] at hVS
  rw [h1] at he1
  subst he1
  obtain ⟨e2, he2⟩ : ∃ e2, e2 = (wrF t.m t.al t.no t.a t.len).1 := ⟨_, rfl⟩
  generalize (wrF t.m t.al t.no t.a t.len).2 = a2 at *
  rw [← he2] at hVT
  rw [← he2] at h2
  have hne : (e2 == 0) = false := by simpa using h2
  clear he2 hA hB h1
  have HVS := hide hVS
  have HVT := hide hVT
  have HFD := hide hfd
  clear hVS hVT hfd
  have hB0 := Bxs.start w [([.slice A X.rows.length cap, .slice G X.gens.length gcap], 40), ([.int .i64 s.m, .int .i64 s.al, .int .i64 s.no, .slice s.A s.len s.cap], 26), ([.int .i64 t.m, .int .i64 t.al, .int .i64 t.no, .slice t.A t.len t.cap], 26)]
  have hb0 := allocs_below [([.slice A X.rows.length cap, .slice G X.gens.length gcap], 40), ([.int .i64 s.m, .int .i64 s.al, .int .i64 s.no, .slice s.A s.len s.cap], 26), ([.int .i64 t.m, .int .i64 t.al, .int .i64 t.no, .slice t.A t.len t.cap], 26)] w
  obtain ⟨W0, hW0⟩ : ∃ W0, W0 = allocs w [([.slice A X.rows.length cap, .slice G X.gens.length gcap], 40), ([.int .i64 s.m, .int .i64 s.al, .int .i64 s.no, .slice s.A s.len s.cap], 26), ([.int .i64 t.m, .int .i64 t.al, .int .i64 t.no, .slice t.A t.len t.cap], 26)] := ⟨_, rfl⟩
  rw [← hW0] at hB0 hb0
  have hW0' : ((w.alloc (.cells #[.slice A X.rows.length cap, .slice G X.gens.length gcap] 40)).alloc (.cells #[.int .i64 s.m, .int .i64 s.al, .int .i64 s.no, .slice s.A s.len s.cap] 26)).alloc (.cells #[.int .i64 t.m, .int .i64 t.al, .int .i64 t.no, .slice t.A t.len t.cap] 26) = W0 := hW0.symm
  have HW0 := hide hW0'
  have HB0 := hide hB0
  have HL0 := hide hb0
  have HX := hide hX
  clear hW0 hW0' hB0 hb0 hX
  unfold wldV worldV sysI sysV
  go_enter Try.func7, Try.ntmps7
  go_wp2_with fail
  go_at_call 15
  rw [unhide HW0]
  refine (alive5_any W0).mono ?_
  rintro e w1 ⟨rfl, hb1⟩
  have hB1 := (unhide HB0).below hb1
  have hL1 := (unhide HL0).trans (hb1.mono (unhide HL0).size)
  have c0 := hB1.cell 0 rfl 0 rfl
  have c1 := hB1.cell 0 rfl 1 rfl
  rw [Nat.add_zero] at c0 c1
  have HB1 := hide hB1
  have HL1 := hide hL1
  clear hB1 hL1 hb1 HW0 HB0 HL0
  go_wp2_with fail
  go_at_call 16
  refine (unhide HOF _ (unhide HL1)).mono ?_
  rintro e w2 ⟨T2, tc2, G2, gc2, rfl, hN2, hb2⟩
  have hB2 := Bxs.start w2 [([.slice T2 (tabsW X).length tc2, .slice G2 X.gens.length gc2], 43), ([.int .i64 0, .int .i64 0], 30)]
  have hb3 := allocs_below [([.slice T2 (tabsW X).length tc2, .slice G2 X.gens.length gc2], 43), ([.int .i64 0, .int .i64 0], 30)] w2
  obtain ⟨W3, hW3⟩ : ∃ W3, W3 = allocs w2 [([.slice T2 (tabsW X).length tc2, .slice G2 X.gens.length gc2], 43), ([.int .i64 0, .int .i64 0], 30)] := ⟨_, rfl⟩
  rw [← hW3] at hB2 hb3
  have hL2 := (unhide HL1).trans (hb2.mono (unhide HL1).size)
  have HL3 := hide (hL2.trans (hb3.mono hL2.size))
  have HB3 := hide (((unhide HB1).below hb2).below hb3)
  have HC3 := hide hB2
  have HT3 := hide (hN2.below hb3).st
  have HX3 := hide ((unhide HX).below (hL2.trans (hb3.mono hL2.size)))
  have hW3' : (w2.alloc (.cells #[.slice T2 (tabsW X).length tc2, .slice G2 X.gens.length gc2] 43)).alloc (.cells #[.int .i64 0, .int .i64 0] 30) = W3 := hW3.symm
  have HW3 := hide hW3'
  clear c0 c1 hB2 hb3 hb2 hL2 hW3 hW3' hN2 HB1 HL1 HOF HX
  have f0 := (unhide HC3).cell 1 rfl 0 rfl
  have y0 := (unhide HB3).cell 1 rfl 0 rfl
  have y1 := (unhide HB3).cell 1 rfl 1 rfl
  have y2 := (unhide HB3).cell 1 rfl 2 rfl
  have y3 := (unhide HB3).cell 1 rfl 3 rfl
  go_upto_region 4 with fail
  rw [unhide HW3]
  have hfd := unhide HFD
  go_wp2_with fail
  go_at_call 12
  refine (unhide HVS _ (unhide HL3)).mono ?_
  rintro e w4 ⟨rfl, hb4⟩
  have HL4 := hide ((unhide HL3).trans (hb4.mono (unhide HL3).size))
  have hB4 := (unhide HB3).below hb4
  have hC4 := (unhide HC3).below hb4
  have HT4 := hide ((unhide HT3).below hb4)
  have z0 := hB4.cell 2 rfl 0 rfl
  have z1 := hB4.cell 2 rfl 1 rfl
  have z2 := hB4.cell 2 rfl 2 rfl
  have z3 := hB4.cell 2 rfl 3 rfl
  have HB4 := hide hB4
  have HC4 := hide hC4
  clear hb4 hB4 hC4 f0 y0 y1 y2 y3
  go_wp2_with fail
  go_at_call 12
  refine (unhide HVT _ (unhide HL4)).mono ?_
  rintro e w5 ⟨rfl, hb5⟩
  have HL5 := hide ((unhide HL4).trans (hb5.mono (unhide HL4).size))
  have hB5 := (unhide HB4).below hb5
  have hC5 := (unhide HC4).below hb5
  have HT5 := hide ((unhide HT4).below hb5)
  have y0 := hB5.cell 1 rfl 0 rfl
  have x0 := hB5.cell 2 rfl 0 rfl
  have y1 := hB5.cell 1 rfl 1 rfl
  have x1 := hB5.cell 2 rfl 1 rfl
  have y2 := hB5.cell 1 rfl 2 rfl
  have x2 := hB5.cell 2 rfl 2 rfl
  have y3 := hB5.cell 1 rfl 3 rfl
  have x3 := hB5.cell 2 rfl 3 rfl
  have HB5 := hide hB5
  have HC5 := hide hC5
  clear hb5 hB5 hC5 z0 z1 z2 z3
  go_wp2
  go_ret
  exact ⟨rfl, unhide HL5⟩
set_option maxRecDepth 8000 in
set_option maxHeartbeats 1500000 in
theorem order_clash (A : Option Addr) (cap : Nat) (G : Option Addr) (gcap : Nat) (X : Wd) (s t : SysI) (w : World) (hX : WldAt w A cap G gcap X) (hr : RightW X) (hA : ActsAt w s.A s.len s.a) (hB : ActsAt w t.A t.len t.a) (h1 : (wrF s.m s.al s.no s.a s.len).1 = 0) (h2 : (wrF t.m t.al t.no t.a t.len).1 = 0) (h3 : clB s.al s.a s.len t.al t.a t.len = true) :
    Calls Try.prog 7 #[wldV A cap G gcap X, sysI s, sysI t] w fun e w' => e = .returned (.bool true) ∧ Below w.heap.size w w' := by
  obtain ⟨hl, hgl, _⟩ := right_hr ((right_iff X).2 hr)
  have hOF := fun W (hb : Below w.heap.size w W) => of_right A cap G gcap X W (hX.below hb) hr
  unfold wldV worldV stV at hOF
  have HOF := hide hOF
  have HRX := hide hr
  clear hOF hr
  have hVS := fun W (hb : Below w.heap.size w W) => wrong_any s.m s.al s.no s.A s.len s.cap s.a W (hA.below hb)
  have hVT := fun W (hb : Below w.heap.size w W) => wrong_any t.m t.al t.no t.A t.len t.cap t.a W (hB.below hb)
  unfold sysV faultV at hVS hVT
  have hfd := run_field
  obtain ⟨e1, he1⟩ : ∃ e1, e1 = (wrF s.m s.al s.no s.a s.len).1 := ⟨_, rfl⟩
  generalize (wrF s.m s.al s.no s.a s.len).2 = a1 at *
  rw [← he1] at hVS
  rw [h1] at he1
  subst he1
  obtain ⟨e2, he2⟩ : ∃ e2, e2 = (wrF t.m t.al t.no t.a t.len).1 := ⟨_, rfl⟩
  generalize (wrF t.m t.al t.no t.a t.len).2 = a2 at *
  rw [← he2] at hVT
  rw [h2] at he2
  subst he2
  obtain ⟨cl, hcl⟩ : ∃ cl, cl = clB s.al s.a s.len t.al t.a t.len := ⟨_, rfl⟩
  have hCL := fun W (hb : Below w.heap.size w W) => clash_any s.m s.al s.no s.A s.len s.cap s.a t.m t.al t.no t.A t.len t.cap t.a W (wr_len h1) (wr_len h2) (hA.below hb) (hB.below hb)
  unfold sysV at hCL
  rw [← hcl] at hCL
  rw [h3] at hcl
  subst hcl
  have HCL := hide hCL
  clear hCL
  clear hA hB h1 h2 h3
  have HVS := hide hVS
  have HVT := hide hVT
  have HFD := hide hfd
  clear hVS hVT hfd
  have hB0 := Bxs.start w [([.slice A X.rows.length cap, .slice G X.gens.length gcap], 40), ([.int .i64 s.m, .int .i64 s.al, .int .i64 s.no, .slice s.A s.len s.cap], 26), ([.int .i64 t.m, .int .i64 t.al, .int .i64 t.no, .slice t.A t.len t.cap], 26)]
  have hb0 := allocs_below [([.slice A X.rows.length cap, .slice G X.gens.length gcap], 40), ([.int .i64 s.m, .int .i64 s.al, .int .i64 s.no, .slice s.A s.len s.cap], 26), ([.int .i64 t.m, .int .i64 t.al, .int .i64 t.no, .slice t.A t.len t.cap], 26)] w
  obtain ⟨W0, hW0⟩ : ∃ W0, W0 = allocs w [([.slice A X.rows.length cap, .slice G X.gens.length gcap], 40), ([.int .i64 s.m, .int .i64 s.al, .int .i64 s.no, .slice s.A s.len s.cap], 26), ([.int .i64 t.m, .int .i64 t.al, .int .i64 t.no, .slice t.A t.len t.cap], 26)] := ⟨_, rfl⟩
  rw [← hW0] at hB0 hb0
  have hW0' : ((w.alloc (.cells #[.slice A X.rows.length cap, .slice G X.gens.length gcap] 40)).alloc (.cells #[.int .i64 s.m, .int .i64 s.al, .int .i64 s.no, .slice s.A s.len s.cap] 26)).alloc (.cells #[.int .i64 t.m, .int .i64 t.al, .int .i64 t.no, .slice t.A t.len t.cap] 26) = W0 := hW0.symm
  have HW0 := hide hW0'
  have HB0 := hide hB0
  have HL0 := hide hb0
  have HX := hide hX
  clear hW0 hW0' hB0 hb0 hX
  unfold wldV worldV sysI sysV
  go_enter Try.func7, Try.ntmps7
  go_wp2_with fail
  go_at_call 15
  rw [unhide HW0]
  refine (alive5_any W0).mono ?_
  rintro e w1 ⟨rfl, hb1⟩
  have hB1 := (unhide HB0).below hb1
  have hL1 := (unhide HL0).trans (hb1.mono (unhide HL0).size)
  have c0 := hB1.cell 0 rfl 0 rfl
  have c1 := hB1.cell 0 rfl 1 rfl
  rw [Nat.add_zero] at c0 c1
  have HB1 := hide hB1
  have HL1 := hide hL1
  clear hB1 hL1 hb1 HW0 HB0 HL0
  go_wp2_with fail
  go_at_call 16
  refine (unhide HOF _ (unhide HL1)).mono ?_
  rintro e w2 ⟨T2, tc2, G2, gc2, rfl, hN2, hb2⟩
  have hB2 := Bxs.start w2 [([.slice T2 (tabsW X).length tc2, .slice G2 X.gens.length gc2], 43), ([.int .i64 0, .int .i64 0], 30)]
  have hb3 := allocs_below [([.slice T2 (tabsW X).length tc2, .slice G2 X.gens.length gc2], 43), ([.int .i64 0, .int .i64 0], 30)] w2
  obtain ⟨W3, hW3⟩ : ∃ W3, W3 = allocs w2 [([.slice T2 (tabsW X).length tc2, .slice G2 X.gens.length gc2], 43), ([.int .i64 0, .int .i64 0], 30)] := ⟨_, rfl⟩
  rw [← hW3] at hB2 hb3
  have hL2 := (unhide HL1).trans (hb2.mono (unhide HL1).size)
  have HL3 := hide (hL2.trans (hb3.mono hL2.size))
  have HB3 := hide (((unhide HB1).below hb2).below hb3)
  have HC3 := hide hB2
  have HT3 := hide (hN2.below hb3).st
  have HX3 := hide ((unhide HX).below (hL2.trans (hb3.mono hL2.size)))
  have hW3' : (w2.alloc (.cells #[.slice T2 (tabsW X).length tc2, .slice G2 X.gens.length gc2] 43)).alloc (.cells #[.int .i64 0, .int .i64 0] 30) = W3 := hW3.symm
  have HW3 := hide hW3'
  clear c0 c1 hB2 hb3 hb2 hL2 hW3 hW3' hN2 HB1 HL1 HOF HX
  have f0 := (unhide HC3).cell 1 rfl 0 rfl
  have y0 := (unhide HB3).cell 1 rfl 0 rfl
  have y1 := (unhide HB3).cell 1 rfl 1 rfl
  have y2 := (unhide HB3).cell 1 rfl 2 rfl
  have y3 := (unhide HB3).cell 1 rfl 3 rfl
  go_upto_region 4 with fail
  rw [unhide HW3]
  have hfd := unhide HFD
  go_wp2_with fail
  go_at_call 12
  refine (unhide HVS _ (unhide HL3)).mono ?_
  rintro e w4 ⟨rfl, hb4⟩
  have HL4 := hide ((unhide HL3).trans (hb4.mono (unhide HL3).size))
  have hB4 := (unhide HB3).below hb4
  have hC4 := (unhide HC3).below hb4
  have HT4 := hide ((unhide HT3).below hb4)
  have z0 := hB4.cell 2 rfl 0 rfl
  have z1 := hB4.cell 2 rfl 1 rfl
  have z2 := hB4.cell 2 rfl 2 rfl
  have z3 := hB4.cell 2 rfl 3 rfl
  have HB4 := hide hB4
  have HC4 := hide hC4
  clear hb4 hB4 hC4 f0 y0 y1 y2 y3
  go_wp2_with fail
  go_at_call 12
  refine (unhide HVT _ (unhide HL4)).mono ?_
  rintro e w5 ⟨rfl, hb5⟩
  have HL5 := hide ((unhide HL4).trans (hb5.mono (unhide HL4).size))
  have hB5 := (unhide HB4).below hb5
  have hC5 := (unhide HC4).below hb5
  have HT5 := hide ((unhide HT4).below hb5)
  have y0 := hB5.cell 1 rfl 0 rfl
  have x0 := hB5.cell 2 rfl 0 rfl
  have y1 := hB5.cell 1 rfl 1 rfl
  have x1 := hB5.cell 2 rfl 1 rfl
  have y2 := hB5.cell 1 rfl 2 rfl
  have x2 := hB5.cell 2 rfl 2 rfl
  have y3 := hB5.cell 1 rfl 3 rfl
  have x3 := hB5.cell 2 rfl 3 rfl
  have HB5 := hide hB5
  have HC5 := hide hC5
  clear hb5 hB5 hC5 z0 z1 z2 z3
  go_wp2_with fail
  go_at_call 13
  refine (unhide HCL _ (unhide HL5)).mono ?_
  rintro e w6 ⟨rfl, hb6⟩
  have HL6 := hide ((unhide HL5).trans (hb6.mono (unhide HL5).size))
  have hB6 := (unhide HB5).below hb6
  have hC6 := (unhide HC5).below hb6
  have HT6 := hide ((unhide HT5).below hb6)
  clear y0 y1 y2 y3 x0 x1 x2 x3
  have y0 := hB6.cell 1 rfl 0 rfl
  have x0 := hB6.cell 2 rfl 0 rfl
  have y1 := hB6.cell 1 rfl 1 rfl
  have x1 := hB6.cell 2 rfl 1 rfl
  have y2 := hB6.cell 1 rfl 2 rfl
  have x2 := hB6.cell 2 rfl 2 rfl
  have y3 := hB6.cell 1 rfl 3 rfl
  have x3 := hB6.cell 2 rfl 3 rfl
  have s0 := hC6.cell 0 rfl 0 rfl
  have s1 := hC6.cell 0 rfl 1 rfl
  rw [Nat.add_zero] at s0 s1
  have HB6 := hide hB6
  have HC6 := hide hC6
  clear hb6 hB6 hC6
  go_wp2
  go_ret
  exact ⟨rfl, unhide HL6⟩
set_option maxRecDepth 8000 in
set_option maxHeartbeats 1500000 in
theorem order_main (A : Option Addr) (cap : Nat) (G : Option Addr) (gcap : Nat) (X : Wd) (s t : SysI) (w : World) (hX : WldAt w A cap G gcap X) (hr : RightW X) (hA : ActsAt w s.A s.len s.a) (hB : ActsAt w t.A t.len t.a) (h1 : (wrF s.m s.al s.no s.a s.len).1 = 0) (h2 : (wrF t.m t.al t.no t.a t.len).1 = 0) (h3 : clB s.al s.a s.len t.al t.a t.len = false) :
    Calls Try.prog 7 #[wldV A cap G gcap X, sysI s, sysI t] w fun e w' => e = .returned (.bool true) ∧ Below w.heap.size w w' := by
  obtain ⟨Z, hz1, hz2, hzr⟩ := order hr h1 h2 h3
  obtain ⟨hzl, hzg, _⟩ := right_hr ((right_iff Z).2 hzr)
  obtain ⟨hl, hgl, _⟩ := right_hr ((right_iff X).2 hr)
  have hOF := fun W (hb : Below w.heap.size w W) => of_right A cap G gcap X W (hX.below hb) hr
  unfold wldV worldV stV at hOF
  have HOF := hide hOF
  have HRX := hide hr
  clear hOF hr
  have hVS := fun W (hb : Below w.heap.size w W) => wrong_any s.m s.al s.no s.A s.len s.cap s.a W (hA.below hb)
  have hVT := fun W (hb : Below w.heap.size w W) => wrong_any t.m t.al t.no t.A t.len t.cap t.a W (hB.below hb)
  unfold sysV faultV at hVS hVT
  have hfd := run_field
  obtain ⟨e1, he1⟩ : ∃ e1, e1 = (wrF s.m s.al s.no s.a s.len).1 := ⟨_, rfl⟩
  generalize (wrF s.m s.al s.no s.a s.len).2 = a1 at *
  rw [← he1] at hVS
  rw [h1] at he1
  subst he1
  obtain ⟨e2, he2⟩ : ∃ e2, e2 = (wrF t.m t.al t.no t.a t.len).1 := ⟨_, rfl⟩
  generalize (wrF t.m t.al t.no t.a t.len).2 = a2 at *
  rw [← he2] at hVT
  rw [h2] at he2
  subst he2
  obtain ⟨cl, hcl⟩ : ∃ cl, cl = clB s.al s.a s.len t.al t.a t.len := ⟨_, rfl⟩
  have hCL := fun W (hb : Below w.heap.size w W) => clash_any s.m s.al s.no s.A s.len s.cap s.a t.m t.al t.no t.A t.len t.cap t.a W (wr_len h1) (wr_len h2) (hA.below hb) (hB.below hb)
  unfold sysV at hCL
  rw [← hcl] at hCL
  rw [h3] at hcl
  subst hcl
  have HCL := hide hCL
  clear hCL
  have hAL1 := fun T tc G gc L W (h : StAt W T G (tabsW X) X) (hS : SyssAt W L 2 (fun j => if j = 0 then s else t)) => all_any T tc G gc (tabsW X) X L 2 2 (fun j => if j = 0 then s else t) W h (by decide) hS
  have hAL2 := fun T tc G gc L W (h : StAt W T G (tabsW X) X) (hS : SyssAt W L 2 (fun j => if j = 0 then t else s)) => all_any T tc G gc (tabsW X) X L 2 2 (fun j => if j = 0 then t else s) W h (by decide) hS
  rw [hz1] at hAL1
  rw [hz2] at hAL2
  unfold stV at hAL1 hAL2
  dsimp only at hAL1 hAL2
  have HA1 := hide hAL1
  have HA2 := hide hAL2
  have HA := hide hA
  have HB := hide hB
  clear hAL1 hAL2 hA hB h1 h2 h3 hz1 hz2
  have HVS := hide hVS
  have HVT := hide hVT
  have HFD := hide hfd
  clear hVS hVT hfd
  have hB0 := Bxs.start w [([.slice A X.rows.length cap, .slice G X.gens.length gcap], 40), ([.int .i64 s.m, .int .i64 s.al, .int .i64 s.no, .slice s.A s.len s.cap], 26), ([.int .i64 t.m, .int .i64 t.al, .int .i64 t.no, .slice t.A t.len t.cap], 26)]
  have hb0 := allocs_below [([.slice A X.rows.length cap, .slice G X.gens.length gcap], 40), ([.int .i64 s.m, .int .i64 s.al, .int .i64 s.no, .slice s.A s.len s.cap], 26), ([.int .i64 t.m, .int .i64 t.al, .int .i64 t.no, .slice t.A t.len t.cap], 26)] w
  obtain ⟨W0, hW0⟩ : ∃ W0, W0 = allocs w [([.slice A X.rows.length cap, .slice G X.gens.length gcap], 40), ([.int .i64 s.m, .int .i64 s.al, .int .i64 s.no, .slice s.A s.len s.cap], 26), ([.int .i64 t.m, .int .i64 t.al, .int .i64 t.no, .slice t.A t.len t.cap], 26)] := ⟨_, rfl⟩
  rw [← hW0] at hB0 hb0
  have hW0' : ((w.alloc (.cells #[.slice A X.rows.length cap, .slice G X.gens.length gcap] 40)).alloc (.cells #[.int .i64 s.m, .int .i64 s.al, .int .i64 s.no, .slice s.A s.len s.cap] 26)).alloc (.cells #[.int .i64 t.m, .int .i64 t.al, .int .i64 t.no, .slice t.A t.len t.cap] 26) = W0 := hW0.symm
  have HW0 := hide hW0'
  have HB0 := hide hB0
  have HL0 := hide hb0
  have HX := hide hX
  clear hW0 hW0' hB0 hb0 hX
  unfold wldV worldV sysI sysV
  go_enter Try.func7, Try.ntmps7
  go_wp2_with fail
  go_at_call 15
  rw [unhide HW0]
  refine (alive5_any W0).mono ?_
  rintro e w1 ⟨rfl, hb1⟩
  have hB1 := (unhide HB0).below hb1
  have hL1 := (unhide HL0).trans (hb1.mono (unhide HL0).size)
  have c0 := hB1.cell 0 rfl 0 rfl
  have c1 := hB1.cell 0 rfl 1 rfl
  rw [Nat.add_zero] at c0 c1
  have HB1 := hide hB1
  have HL1 := hide hL1
  clear hB1 hL1 hb1 HW0 HB0 HL0
  go_wp2_with fail
  go_at_call 16
  refine (unhide HOF _ (unhide HL1)).mono ?_
  rintro e w2 ⟨T2, tc2, G2, gc2, rfl, hN2, hb2⟩
  have hB2 := Bxs.start w2 [([.slice T2 (tabsW X).length tc2, .slice G2 X.gens.length gc2], 43), ([.int .i64 0, .int .i64 0], 30)]
  have hb3 := allocs_below [([.slice T2 (tabsW X).length tc2, .slice G2 X.gens.length gc2], 43), ([.int .i64 0, .int .i64 0], 30)] w2
  obtain ⟨W3, hW3⟩ : ∃ W3, W3 = allocs w2 [([.slice T2 (tabsW X).length tc2, .slice G2 X.gens.length gc2], 43), ([.int .i64 0, .int .i64 0], 30)] := ⟨_, rfl⟩
  rw [← hW3] at hB2 hb3
  have hL2 := (unhide HL1).trans (hb2.mono (unhide HL1).size)
  have HL3 := hide (hL2.trans (hb3.mono hL2.size))
  have HB3 := hide (((unhide HB1).below hb2).below hb3)
  have HC3 := hide hB2
  have HT3 := hide (hN2.below hb3).st
  have HX3 := hide ((unhide HX).below (hL2.trans (hb3.mono hL2.size)))
  have hW3' : (w2.alloc (.cells #[.slice T2 (tabsW X).length tc2, .slice G2 X.gens.length gc2] 43)).alloc (.cells #[.int .i64 0, .int .i64 0] 30) = W3 := hW3.symm
  have HW3 := hide hW3'
  clear c0 c1 hB2 hb3 hb2 hL2 hW3 hW3' hN2 HB1 HL1 HOF HX
  have f0 := (unhide HC3).cell 1 rfl 0 rfl
  have y0 := (unhide HB3).cell 1 rfl 0 rfl
  have y1 := (unhide HB3).cell 1 rfl 1 rfl
  have y2 := (unhide HB3).cell 1 rfl 2 rfl
  have y3 := (unhide HB3).cell 1 rfl 3 rfl
  go_upto_region 4 with fail
  rw [unhide HW3]
  have hfd := unhide HFD
  go_wp2_with fail
  go_at_call 12
  refine (unhide HVS _ (unhide HL3)).mono ?_
  rintro e w4 ⟨rfl, hb4⟩
  have HL4 := hide ((unhide HL3).trans (hb4.mono (unhide HL3).size))
  have hB4 := (unhide HB3).below hb4
  have hC4 := (unhide HC3).below hb4
  have HT4 := hide ((unhide HT3).below hb4)
  have z0 := hB4.cell 2 rfl 0 rfl
  have z1 := hB4.cell 2 rfl 1 rfl
  have z2 := hB4.cell 2 rfl 2 rfl
  have z3 := hB4.cell 2 rfl 3 rfl
  have HB4 := hide hB4
  have HC4 := hide hC4
  clear hb4 hB4 hC4 f0 y0 y1 y2 y3
  go_wp2_with fail
  go_at_call 12
  refine (unhide HVT _ (unhide HL4)).mono ?_
  rintro e w5 ⟨rfl, hb5⟩
  have HL5 := hide ((unhide HL4).trans (hb5.mono (unhide HL4).size))
  have hB5 := (unhide HB4).below hb5
  have hC5 := (unhide HC4).below hb5
  have HT5 := hide ((unhide HT4).below hb5)
  have y0 := hB5.cell 1 rfl 0 rfl
  have x0 := hB5.cell 2 rfl 0 rfl
  have y1 := hB5.cell 1 rfl 1 rfl
  have x1 := hB5.cell 2 rfl 1 rfl
  have y2 := hB5.cell 1 rfl 2 rfl
  have x2 := hB5.cell 2 rfl 2 rfl
  have y3 := hB5.cell 1 rfl 3 rfl
  have x3 := hB5.cell 2 rfl 3 rfl
  have HB5 := hide hB5
  have HC5 := hide hC5
  clear hb5 hB5 hC5 z0 z1 z2 z3
  go_wp2_with fail
  go_at_call 13
  refine (unhide HCL _ (unhide HL5)).mono ?_
  rintro e w6 ⟨rfl, hb6⟩
  have HL6 := hide ((unhide HL5).trans (hb6.mono (unhide HL5).size))
  have hB6 := (unhide HB5).below hb6
  have hC6 := (unhide HC5).below hb6
  have HT6 := hide ((unhide HT5).below hb6)
  clear y0 y1 y2 y3 x0 x1 x2 x3
  have y0 := hB6.cell 1 rfl 0 rfl
  have x0 := hB6.cell 2 rfl 0 rfl
  have y1 := hB6.cell 1 rfl 1 rfl
  have x1 := hB6.cell 2 rfl 1 rfl
  have y2 := hB6.cell 1 rfl 2 rfl
  have x2 := hB6.cell 2 rfl 2 rfl
  have y3 := hB6.cell 1 rfl 3 rfl
  have x3 := hB6.cell 2 rfl 3 rfl
  have s0 := hC6.cell 0 rfl 0 rfl
  have s1 := hC6.cell 0 rfl 1 rfl
  rw [Nat.add_zero] at s0 s1
  have HB6 := hide hB6
  have HC6 := hide hC6
  clear hb6 hB6 hC6
  go_wp2_with fail
  go_at_call 22
  have hbNa := bel1 w6 (.cells #[.int .i64 s.m, .int .i64 s.al, .int .i64 s.no, .slice s.A s.len s.cap, .int .i64 t.m, .int .i64 t.al, .int .i64 t.no, .slice t.A t.len t.cap] 26)
  have hNa := (unhide HL6).trans (hbNa.mono (unhide HL6).size)
  have hSNa : SyssAt (w6.alloc (.cells #[.int .i64 s.m, .int .i64 s.al, .int .i64 s.no, .slice s.A s.len s.cap, .int .i64 t.m, .int .i64 t.al, .int .i64 t.no, .slice t.A t.len t.cap] 26)) (some ⟨w6.heap.size, 0, none⟩) 2 (fun j => if j = 0 then s else t) := fun j hj => by
    have hc := Bxs.start w6 [([.int .i64 s.m, .int .i64 s.al, .int .i64 s.no, .slice s.A s.len s.cap, .int .i64 t.m, .int .i64 t.al, .int .i64 t.no, .slice t.A t.len t.cap], 26)]
    have hc := fun i u hu => hc.cell 0 rfl i (u := u) hu
    simp only [Nat.add_zero] at hc
    rcases (by omega : j = 0 ∨ j = 1) with rfl | rfl
    · exact ⟨w6.heap.size, 0, rfl, hc 0 _ rfl, hc 1 _ rfl, hc 2 _ rfl, hc 3 _ rfl, (unhide HA).below hNa⟩
    · exact ⟨w6.heap.size, 0, rfl, hc 4 _ rfl, hc 5 _ rfl, hc 6 _ rfl, hc 7 _ rfl, (unhide HB).below hNa⟩
  refine (unhide HA1 T2 tc2 G2 gc2 _ _ ((unhide HT6).below hbNa) hSNa).mono ?_
  rintro e w7 ⟨T7, tc7, G7, gc7, rfl, hN7, hb7⟩
  have hbx := allocs_below [([.slice T7 (tabsW Z).length tc7, .slice G7 Z.gens.length gc7], 43), ([.int .i64 0, .int .i64 0], 30)] w7
  have hX8 := Bxs.start w7 [([.slice T7 (tabsW Z).length tc7, .slice G7 Z.gens.length gc7], 43), ([.int .i64 0, .int .i64 0], 30)]
  obtain ⟨w8, hw8⟩ : ∃ w8, w8 = allocs w7 [([.slice T7 (tabsW Z).length tc7, .slice G7 Z.gens.length gc7], 43), ([.int .i64 0, .int .i64 0], 30)] := ⟨_, rfl⟩
  rw [← hw8] at hbx hX8
  have hw8' : (w7.alloc (.cells #[.slice T7 (tabsW Z).length tc7, .slice G7 Z.gens.length gc7] 43)).alloc (.cells #[.int .i64 0, .int .i64 0] 30) = w8 := hw8.symm
  have HW8 := hide hw8'
  have hb678 := (hbNa.trans (hb7.mono hbNa.size)).trans (hbx.mono (hbNa.trans (hb7.mono hbNa.size)).size)
  have HL8 := hide ((unhide HL6).trans (hb678.mono (unhide HL6).size))
  have hB8 := (unhide HB6).below hb678
  have hC8 := (unhide HC6).below hb678
  have HT8 := hide ((unhide HT6).below hb678)
  have HU8 := hide (hN7.below hbx).st
  have HX8 := hide hX8
  clear y0 y1 y2 y3 x0 x1 x2 x3 s0 s1 hfd
  have s0 := hC8.cell 0 rfl 0 rfl
  have s1 := hC8.cell 0 rfl 1 rfl
  rw [Nat.add_zero] at s0 s1
  have y0 := hB8.cell 1 rfl 0 rfl
  have x0 := hB8.cell 2 rfl 0 rfl
  have y1 := hB8.cell 1 rfl 1 rfl
  have x1 := hB8.cell 2 rfl 1 rfl
  have y2 := hB8.cell 1 rfl 2 rfl
  have x2 := hB8.cell 2 rfl 2 rfl
  have y3 := hB8.cell 1 rfl 3 rfl
  have x3 := hB8.cell 2 rfl 3 rfl
  have HB8 := hide hB8
  clear hB8 hC8 hb678 hN7 hb7 hbx hX8 hw8 hw8' hbNa hNa hSNa HL6 HB6 HC6 HT6 HA1
  go_upto_region 7 with fail
  rw [unhide HW8]
  go_wp2_with fail
  go_at_call 22
  have hbNb := bel1 w8 (.cells #[.int .i64 t.m, .int .i64 t.al, .int .i64 t.no, .slice t.A t.len t.cap, .int .i64 s.m, .int .i64 s.al, .int .i64 s.no, .slice s.A s.len s.cap] 26)
  have hNb := (unhide HL8).trans (hbNb.mono (unhide HL8).size)
  have hSNb : SyssAt (w8.alloc (.cells #[.int .i64 t.m, .int .i64 t.al, .int .i64 t.no, .slice t.A t.len t.cap, .int .i64 s.m, .int .i64 s.al, .int .i64 s.no, .slice s.A s.len s.cap] 26)) (some ⟨w8.heap.size, 0, none⟩) 2 (fun j => if j = 0 then t else s) := fun j hj => by
    have hc := Bxs.start w8 [([.int .i64 t.m, .int .i64 t.al, .int .i64 t.no, .slice t.A t.len t.cap, .int .i64 s.m, .int .i64 s.al, .int .i64 s.no, .slice s.A s.len s.cap], 26)]
    have hc := fun i u hu => hc.cell 0 rfl i (u := u) hu
    simp only [Nat.add_zero] at hc
    rcases (by omega : j = 0 ∨ j = 1) with rfl | rfl
    · exact ⟨w8.heap.size, 0, rfl, hc 0 _ rfl, hc 1 _ rfl, hc 2 _ rfl, hc 3 _ rfl, (unhide HB).below hNb⟩
    · exact ⟨w8.heap.size, 0, rfl, hc 4 _ rfl, hc 5 _ rfl, hc 6 _ rfl, hc 7 _ rfl, (unhide HA).below hNb⟩
  refine (unhide HA2 T2 tc2 G2 gc2 _ _ ((unhide HT8).below hbNb) hSNb).mono ?_
  rintro e w9 ⟨T9, tc9, G9, gc9, rfl, hN9, hb9⟩
  have hbx := allocs_below [([.slice T9 (tabsW Z).length tc9, .slice G9 Z.gens.length gc9], 43), ([.int .i64 0, .int .i64 0], 30)] w9
  have hX10 := Bxs.start w9 [([.slice T9 (tabsW Z).length tc9, .slice G9 Z.gens.length gc9], 43), ([.int .i64 0, .int .i64 0], 30)]
  obtain ⟨w10, hw10⟩ : ∃ w10, w10 = allocs w9 [([.slice T9 (tabsW Z).length tc9, .slice G9 Z.gens.length gc9], 43), ([.int .i64 0, .int .i64 0], 30)] := ⟨_, rfl⟩
  rw [← hw10] at hbx hX10
  have hw10' : (w9.alloc (.cells #[.slice T9 (tabsW Z).length tc9, .slice G9 Z.gens.length gc9] 43)).alloc (.cells #[.int .i64 0, .int .i64 0] 30) = w10 := hw10.symm
  have HW10 := hide hw10'
  have hb8910 := (hbNb.trans (hb9.mono hbNb.size)).trans (hbx.mono (hbNb.trans (hb9.mono hbNb.size)).size)
  have HL10 := hide ((unhide HL8).trans (hb8910.mono (unhide HL8).size))
  have hY10 := (unhide HX8).below hb8910
  have hU := (unhide HU8).below hb8910
  have hV := (hN9.below hbx).st
  have hSS := samest_true T7 tc7 G7 gc7 T9 tc9 G9 gc9 (tabsW Z) Z.gens w10 hU.few (by omega) (fun t ht => (hU.each t ht).few) hU.tbs hU.gens hV.tbs hV.gens
  unfold stV at hSS
  have HSS := hide hSS
  have a0 := hY10.cell 0 rfl 0 rfl
  have a1 := hY10.cell 0 rfl 1 rfl
  have a2 := hY10.cell 1 rfl 0 rfl
  have b0 := hX10.cell 0 rfl 0 rfl
  have b1 := hX10.cell 0 rfl 1 rfl
  have b2 := hX10.cell 1 rfl 0 rfl
  rw [Nat.add_zero] at a0 a1 b0 b1
  clear y0 y1 y2 y3 x0 x1 x2 x3 s0 s1 hY10 hU hV hSS hX10 hbx hN9 hb9 hw10 hw10' hbNb hNb hSNb hb8910 HL8 HB8 HT8 HU8 HX8 HW8 HA2
  go_upto_region 8 with fail
  rw [unhide HW10]
  go_wp2_with (go_at_call 23; refine (unhide HSS).mono ?_; rintro e w11 ⟨rfl, hb11⟩; have HLE := hide ((unhide HL10).trans (hb11.mono (unhide HL10).size)); clear hb11)
  go_ret
  exact ⟨rfl, unhide HLE⟩
theorem order_law (A : Option Addr) (cap : Nat) (G : Option Addr) (gcap : Nat) (X : Wd) (s t : SysI) (w : World) (hn0 : X.rows.length ≤ 9223372036854775807) (hX : WldAt w A cap G gcap X) (hA : ActsAt w s.A s.len s.a) (hB : ActsAt w t.A t.len t.a) :
    Calls Try.prog 7 #[wldV A cap G gcap X, sysI s, sysI t] w fun e w' => e = .returned (.bool true) ∧ Below w.heap.size w w' := by
  by_cases h : (wrongW X).1 = 0
  · have hr := (right_iff X).1 h
    by_cases h1 : (wrF s.m s.al s.no s.a s.len).1 = 0
    · by_cases h2 : (wrF t.m t.al t.no t.a t.len).1 = 0
      · cases h3 : clB s.al s.a s.len t.al t.a t.len
        · exact order_main A cap G gcap X s t w hX hr hA hB h1 h2 h3
        · exact order_clash A cap G gcap X s t w hX hr hA hB h1 h2 h3
      · exact order_t A cap G gcap X s t w hX hr hA hB h1 h2
    · exact order_s A cap G gcap X s t w hX hr hA hB h1
  · exact order_wrong A cap G gcap X s t w hn0 hX h
end Go.Proofs.Ytnbleebilmghcab
