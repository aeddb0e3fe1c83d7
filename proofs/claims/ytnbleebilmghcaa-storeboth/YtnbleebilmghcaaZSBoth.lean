/- The law StoreBoth. -/
import Derived.Test.YtnbleebilmghcaaQP
set_option linter.all false
namespace Go.Proofs.Ytnbleebilmghcaa
open Go Go.RowKit
attribute [local go_sem ↓] Go.wp_at_zero Go.wp_at_succ
set_option maxRecDepth 8000 in
set_option maxHeartbeats 4000000 in
theorem both_wrong (A : Option Addr) (cap : Nat) (G : Option Addr) (gcap : Nat) (X : Wd) (i g p fa fn : Int) (w : World) (hn0 : X.rows.length ≤ 9223372036854775807) (hX : WldAt w A cap G gcap X) (hw0 : (wrongW X).1 ≠ 0) :
    Calls Try.prog 10 #[wldV A cap G gcap X, beingV i g, .int .i64 p, .agg #[.int .i64 fa, .int .i64 fn]] w fun e w' => e = .returned (.bool true) ∧ Below w.heap.size w w' := by
  have hOF := fun W (hb : Below w.heap.size w W) => of_wrong A cap G gcap X W hn0 (hX.below hb) hw0
  have hP := fun W (hb : Below w.heap.size w W) => pwrong_any A X.rows.length cap G X.gens.length gcap (fun j => X.rows.getD j dR) (fun j => X.gens.getD j 0) W (by omega) (hX.below hb).rows (hX.below hb).gens
  have eW : plainF (fun j => X.rows.getD j dR) X.rows.length X.gens.length (fun j => X.gens.getD j 0) = wrongW X := rfl
  rw [eW] at hP
  unfold faultP worldV at hP
  unfold wldV worldV stV at hOF
  generalize (wrongW X).2 = wa at *
  generalize (wrongW X).1 = we at *
  have HOF := hide hOF
  have HP := hide hP
  clear hOF hP eW
  have hB0 := Bxs.start w [([.slice A X.rows.length cap, .slice G X.gens.length gcap], 38), ([.int .i64 i, .int .i64 g], 40), ([.int .i64 fa, .int .i64 fn], 32)]
  have hb0 := allocs_below [([.slice A X.rows.length cap, .slice G X.gens.length gcap], 38), ([.int .i64 i, .int .i64 g], 40), ([.int .i64 fa, .int .i64 fn], 32)] w
  obtain ⟨W0, hW0⟩ : ∃ W0, W0 = allocs w [([.slice A X.rows.length cap, .slice G X.gens.length gcap], 38), ([.int .i64 i, .int .i64 g], 40), ([.int .i64 fa, .int .i64 fn], 32)] := ⟨_, rfl⟩
  rw [← hW0] at hB0 hb0
  have hW0' : ((w.alloc (.cells #[.slice A X.rows.length cap, .slice G X.gens.length gcap] 38)).alloc (.cells #[.int .i64 i, .int .i64 g] 40)).alloc (.cells #[.int .i64 fa, .int .i64 fn] 32) = W0 := hW0.symm
  have HW0 := hide hW0'
  have HB0 := hide hB0
  have HL0 := hide hb0
  have HX := hide hX
  clear hW0 hW0' hB0 hb0 hX
  unfold wldV worldV beingV
  go_enter Try.func10, Try.ntmps10
  go_wp2_with fail
  go_at_call 66
  rw [unhide HW0]
  refine (alive3_any W0).mono ?_
  rintro e w1 ⟨rfl, hb1⟩
  have hB1 := (unhide HB0).below hb1
  have hL1 := (unhide HL0).trans (hb1.mono (unhide HL0).size)
  have c0 := hB1.cell 0 rfl 0 rfl
  have c1 := hB1.cell 0 rfl 1 rfl
  rw [Nat.add_zero] at c0 c1
  have HB1 := hide hB1
  have HL1 := hide hL1
  clear hB1 hL1 hb1 HW0 HB0 HL0
  go_wp2_with fail
  go_at_call 60
  refine (unhide HOF _ (unhide HL1)).mono ?_
  rintro e w2 ⟨rfl, hb2⟩
  have hB2 := Bxs.start w2 [([.slice none 0 0, .slice none 0 0], 71), ([.int .i64 we, .int .i64 wa], 43)]
  have hb3 := allocs_below [([.slice none 0 0, .slice none 0 0], 71), ([.int .i64 we, .int .i64 wa], 43)] w2
  obtain ⟨W3, hW3⟩ : ∃ W3, W3 = allocs w2 [([.slice none 0 0, .slice none 0 0], 71), ([.int .i64 we, .int .i64 wa], 43)] := ⟨_, rfl⟩
  rw [← hW3] at hB2 hb3
  have hL2 := (unhide HL1).trans (hb2.mono (unhide HL1).size)
  have HL3 := hide (hL2.trans (hb3.mono hL2.size))
  have HB3 := hide (((unhide HB1).below hb2).below hb3)
  have HC3 := hide hB2
  have hW3' : (w2.alloc (.cells #[.slice none 0 0, .slice none 0 0] 71)).alloc (.cells #[.int .i64 we, .int .i64 wa] 43) = W3 := hW3.symm
  have HW3 := hide hW3'
  clear c0 c1 hB2 hb3 hb2 hL2 hW3 hW3' HB1 HL1 HOF
  go_wp2_with fail
  rw [unhide HW3]
  have h0 : Below W3.heap.size W3 W3.drew := (Below.refl _ _).drew
  refine wp_region_gho (fun (γ : Unit) ix v => (([fun v => v = .agg #[.slice A X.rows.length cap, .slice G X.gens.length gcap], fun v => v = .agg #[.int .i64 we, .int .i64 wa], fun v => v = .agg #[.int .i64 we, .int .i64 wa], fun v => v = .bool true, fun v => v = .bool true] : List (Value → Prop)).getD ix (fun _ => True)) v) (fun (_ : Unit) (_ : Nat → Bool) W => Below W3.heap.size W3 W) (()) (by kernel_rfl) (by kernel_rfl) (by kernel_rfl) h0 ?hstep ?hend
  case hstep =>
    intro γ ix o ho L ac w1 hD hL hed hcl hout hv
    match ix, ho with
    | 0, ho =>
      simp at ho
      subst ho
      have e4 : ac.tmps.getD 4 undef = .pointer (some ⟨w.heap.size, 0, none⟩) := hout 4 (by decide +kernel)
      have bb := (unhide HB3).below hD
      have c0 := bb.cell 0 rfl 0 rfl
      have c1 := bb.cell 0 rfl 1 rfl
      rw [Nat.add_zero] at c0 c1
      exact .inl ⟨rfl, gho_reads γ (.agg #[.slice A X.rows.length cap, .slice G X.gens.length gcap]) (by simp [go_sem, Act.eval, -Array.getD_eq_getD_getElem?, e4, c0, c1]) rfl (hD) (fun _ _ _ _ h => h)⟩
    | 1, ho =>
      simp at ho
      subst ho
      have e25 : ac.tmps.getD 25 undef = .agg #[.slice A X.rows.length cap, .slice G X.gens.length gcap] := hv 0 25 rfl (by kernel_rfl)
      refine .inl ⟨rfl, gho_enters 34 #[.agg #[.slice A X.rows.length cap, .slice G X.gens.length gcap]] (by simp [go_sem, Act.eval, -Array.getD_eq_getD_getElem?, e25]) ?_⟩
      refine (unhide HP _ ((unhide HL3).trans (hD.mono (unhide HL3).size))).mono ?_
      rintro e w6 ⟨rfl, hb6⟩
      exact ⟨_, γ, rfl, rfl, hD.trans (hb6.mono hD.size), fun _ _ _ _ h => h⟩
    | 2, ho =>
      simp at ho
      subst ho
      have e10 : ac.tmps.getD 10 undef = .pointer (some ⟨w2.heap.size + 1, 0, none⟩) := hout 10 (by decide +kernel)
      have bb := (unhide HC3).below hD
      have c0 := bb.cell 1 rfl 0 rfl
      have c1 := bb.cell 1 rfl 1 rfl
      exact .inl ⟨rfl, gho_reads γ (.agg #[.int .i64 we, .int .i64 wa]) (by simp [go_sem, Act.eval, -Array.getD_eq_getD_getElem?, e10, c0, c1]) rfl (hD) (fun _ _ _ _ h => h)⟩
    | 3, ho =>
      simp at ho
      subst ho
      have e26 : ac.tmps.getD 26 undef = .agg #[.int .i64 we, .int .i64 wa] := hv 1 26 rfl (by kernel_rfl)
      have e27 : ac.tmps.getD 27 undef = .agg #[.int .i64 we, .int .i64 wa] := hv 2 27 rfl (by kernel_rfl)
      exact .inl ⟨rfl, gho_reads γ (.bool true) (by simp [go_sem, Act.eval, -Array.getD_eq_getD_getElem?, e26, e27]) rfl (hD) (fun _ _ _ _ h => h)⟩
    | 4, ho =>
      simp at ho
      subst ho
      have e28 : ac.tmps.getD 28 undef = .bool true := hv 3 28 rfl (by kernel_rfl)
      exact .inl ⟨rfl, gho_reads γ (.bool true) (by simp [go_sem, Act.eval, -Array.getD_eq_getD_getElem?, e28]) rfl (hD) (fun _ _ _ _ h => h)⟩
    | ix + 5, ho => simp at ho
  case hend =>
    intro γ v L w9 hD hall hv
    have v4 : v 4 = .bool true := hv 4 8 rfl
    have HD := hide hD
    clear hv hall hD h0
    simp only [putOps, List.getElem?_cons_zero, List.getElem?_cons_succ, Option.bind_some, List.length_cons, List.length_nil, Nat.reduceAdd, v4]
    clear v4
    go_frame
    go_wp2
    go_ret
    exact ⟨rfl, (unhide HL3).trans ((unhide HD).mono (unhide HL3).size)⟩
set_option maxRecDepth 8000 in
set_option maxHeartbeats 4000000 in
theorem both_nota (A : Option Addr) (cap : Nat) (G : Option Addr) (gcap : Nat) (X : Wd) (i g p fa fn : Int) (w : World) (hX : WldAt w A cap G gcap X) (hr : RightW X) (ha : setB fa = false) :
    Calls Try.prog 10 #[wldV A cap G gcap X, beingV i g, .int .i64 p, .agg #[.int .i64 fa, .int .i64 fn]] w fun e w' => e = .returned (.bool true) ∧ Below w.heap.size w w' := by
  obtain ⟨hl, hgl, _⟩ := right_hr ((right_iff X).2 hr)
  have hOF := fun W (hb : Below w.heap.size w W) => of_right A cap G gcap X W (hX.below hb) hr
  unfold wldV worldV stV at hOF
  have HOF := hide hOF
  have hSA := rset_any fa
  rw [ha] at hSA
  have HSA := hide hSA
  clear hOF hSA ha hr
  have hB0 := Bxs.start w [([.slice A X.rows.length cap, .slice G X.gens.length gcap], 38), ([.int .i64 i, .int .i64 g], 40), ([.int .i64 fa, .int .i64 fn], 32)]
  have hb0 := allocs_below [([.slice A X.rows.length cap, .slice G X.gens.length gcap], 38), ([.int .i64 i, .int .i64 g], 40), ([.int .i64 fa, .int .i64 fn], 32)] w
  obtain ⟨W0, hW0⟩ : ∃ W0, W0 = allocs w [([.slice A X.rows.length cap, .slice G X.gens.length gcap], 38), ([.int .i64 i, .int .i64 g], 40), ([.int .i64 fa, .int .i64 fn], 32)] := ⟨_, rfl⟩
  rw [← hW0] at hB0 hb0
  have hW0' : ((w.alloc (.cells #[.slice A X.rows.length cap, .slice G X.gens.length gcap] 38)).alloc (.cells #[.int .i64 i, .int .i64 g] 40)).alloc (.cells #[.int .i64 fa, .int .i64 fn] 32) = W0 := hW0.symm
  have HW0 := hide hW0'
  have HB0 := hide hB0
  have HL0 := hide hb0
  have HX := hide hX
  clear hW0 hW0' hB0 hb0 hX
  unfold wldV worldV beingV
  go_enter Try.func10, Try.ntmps10
  go_wp2_with fail
  go_at_call 66
  rw [unhide HW0]
  refine (alive3_any W0).mono ?_
  rintro e w1 ⟨rfl, hb1⟩
  have hB1 := (unhide HB0).below hb1
  have hL1 := (unhide HL0).trans (hb1.mono (unhide HL0).size)
  have c0 := hB1.cell 0 rfl 0 rfl
  have c1 := hB1.cell 0 rfl 1 rfl
  rw [Nat.add_zero] at c0 c1
  have HB1 := hide hB1
  have HL1 := hide hL1
  clear hB1 hL1 hb1 HW0 HB0 HL0
  go_wp2_with fail
  go_at_call 60
  refine (unhide HOF _ (unhide HL1)).mono ?_
  rintro e w2 ⟨T2, tc2, G2, gc2, rfl, hN2, hb2⟩
  have hB2 := Bxs.start w2 [([.slice T2 (tabsW X).length tc2, .slice G2 X.gens.length gc2], 71), ([.int .i64 0, .int .i64 0], 43)]
  have hb3 := allocs_below [([.slice T2 (tabsW X).length tc2, .slice G2 X.gens.length gc2], 71), ([.int .i64 0, .int .i64 0], 43)] w2
  obtain ⟨W3, hW3⟩ : ∃ W3, W3 = allocs w2 [([.slice T2 (tabsW X).length tc2, .slice G2 X.gens.length gc2], 71), ([.int .i64 0, .int .i64 0], 43)] := ⟨_, rfl⟩
  rw [← hW3] at hB2 hb3
  have hL2 := (unhide HL1).trans (hb2.mono (unhide HL1).size)
  have HL3 := hide (hL2.trans (hb3.mono hL2.size))
  have HB3 := hide (((unhide HB1).below hb2).below hb3)
  have HC3 := hide hB2
  have HT3 := hide (hN2.below hb3).st
  have HX3 := hide ((unhide HX).below (hL2.trans (hb3.mono hL2.size)))
  have hW3' : (w2.alloc (.cells #[.slice T2 (tabsW X).length tc2, .slice G2 X.gens.length gc2] 71)).alloc (.cells #[.int .i64 0, .int .i64 0] 43) = W3 := hW3.symm
  have HW3 := hide hW3'
  clear c0 c1 hB2 hb3 hb2 hL2 hW3 hW3' hN2 HB1 HL1 HOF HX
  go_wp2_with fail
  rw [unhide HW3]
  have h0 : Below W3.heap.size W3 W3.drew ∧ ((fun (_ : Nat) => false) 6 = true → ∃ A' c' G' gc', undef = .agg #[.slice A' X.rows.length c', .slice G' X.gens.length gc'] ∧ WldAt W3.drew A' c' G' gc' X) := ⟨(Below.refl _ _).drew, fun e => by cases e⟩
  refine wp_region_gho (fun (γ : Value) ix v => if ix = 6 then v = γ else (([fun v => v = .agg #[.slice T2 (tabsW X).length tc2, .slice G2 X.gens.length gc2], fun v => v = .agg #[.int .i64 0, .int .i64 0], fun v => v = .int .i64 0, fun v => v = .bool false, fun v => v = .bool false, fun v => v = .agg #[.slice T2 (tabsW X).length tc2, .slice G2 X.gens.length gc2], fun _ => True, fun v => v = .agg #[.slice A X.rows.length cap, .slice G X.gens.length gcap], fun v => v = .bool true, fun v => v = .bool false, fun v => v = .bool false] : List (Value → Prop)).getD ix (fun _ => True)) v) (fun (γ : Value) L W => Below W3.heap.size W3 W ∧ (L 6 = true → ∃ A' c' G' gc', γ = .agg #[.slice A' X.rows.length c', .slice G' X.gens.length gc'] ∧ WldAt W A' c' G' gc' X)) (undef) (by kernel_rfl) (by kernel_rfl) (by kernel_rfl) h0 ?hstep ?hend
  case hstep =>
    intro γ ix o ho L ac w1 hD hL hed hcl hout hv
    match ix, ho with
    | 0, ho =>
      simp at ho
      subst ho
      have e9 : ac.tmps.getD 9 undef = .pointer (some ⟨w2.heap.size, 0, none⟩) := hout 9 (by decide +kernel)
      have bb := (unhide HC3).below hD.1
      have c0 := bb.cell 0 rfl 0 rfl
      have c1 := bb.cell 0 rfl 1 rfl
      rw [Nat.add_zero] at c0 c1
      exact .inl ⟨rfl, gho_reads γ (.agg #[.slice T2 (tabsW X).length tc2, .slice G2 X.gens.length gc2]) (by simp [go_sem, Act.eval, -Array.getD_eq_getD_getElem?, e9, c0, c1]) rfl (⟨hD.1, by rw [upd_ne (by decide)]; exact hD.2⟩) (fun _ _ _ _ h => h)⟩
    | 1, ho =>
      simp at ho
      subst ho
      have e29 : ac.tmps.getD 29 undef = .agg #[.slice T2 (tabsW X).length tc2, .slice G2 X.gens.length gc2] := hv 0 29 rfl (by kernel_rfl)
      refine .inl ⟨rfl, gho_enters 54 #[.agg #[.slice T2 (tabsW X).length tc2, .slice G2 X.gens.length gc2]] (by simp [go_sem, Act.eval, -Array.getD_eq_getD_getElem?, e29]) ?_⟩
      refine (swrong_any T2 tc2 G2 gc2 (tabsW X) X w1 ((unhide HT3).below hD.1)).mono ?_
      rintro e w6 ⟨rfl, hb6⟩
      exact ⟨_, γ, rfl, rfl, ⟨hD.1.trans (hb6.mono hD.1.size), fun e => (by obtain ⟨A1, c1, G1, gc1, a, b⟩ := hD.2 (by rwa [upd_ne (by decide)] at e); exact ⟨A1, c1, G1, gc1, a, b.below hb6⟩)⟩, fun _ _ _ _ h => h⟩
    | 2, ho =>
      simp at ho
      subst ho
      have e30 : ac.tmps.getD 30 undef = .agg #[.int .i64 0, .int .i64 0] := hv 1 30 rfl (by kernel_rfl)
      have hf := run_field43 (.int .i64 0) (.int .i64 0) w1
      exact .inl ⟨rfl, gho_reads γ (.int .i64 0) (by simp [go_sem, Act.eval, -Array.getD_eq_getD_getElem?, e30, hf]) rfl (⟨hD.1, by rw [upd_ne (by decide)]; exact hD.2⟩) (fun _ _ _ _ h => h)⟩
    | 3, ho =>
      simp at ho
      subst ho
      have e31 : ac.tmps.getD 31 undef = .int .i64 0 := hv 2 31 rfl (by kernel_rfl)
      exact .inl ⟨rfl, gho_reads γ (.bool false) (by simp [go_sem, Act.eval, -Array.getD_eq_getD_getElem?, e31]) rfl (⟨hD.1, by rw [upd_ne (by decide)]; exact hD.2⟩) (fun _ _ _ _ h => h)⟩
    | 4, ho =>
      simp at ho
      subst ho
      have e32 : ac.tmps.getD 32 undef = .bool false := hv 3 32 rfl (by kernel_rfl)
      exact .inl ⟨rfl, gho_reads γ (.bool false) (by simp [go_sem, Act.eval, -Array.getD_eq_getD_getElem?, e32]) rfl (⟨hD.1, by rw [upd_ne (by decide)]; exact hD.2⟩) (fun _ _ _ _ h => h)⟩
    | 5, ho =>
      simp at ho
      subst ho
      have eg : ac.tmps.getD 33 undef = .bool false := hv 4 33 rfl (by kernel_rfl)
      have e9 : ac.tmps.getD 9 undef = .pointer (some ⟨w2.heap.size, 0, none⟩) := hout 9 (by decide +kernel)
      have bb := (unhide HC3).below hD.1
      have c0 := bb.cell 0 rfl 0 rfl
      have c1 := bb.cell 0 rfl 1 rfl
      rw [Nat.add_zero] at c0 c1
      exact .inl ⟨wanted_of rfl rfl eg, gho_reads γ (.agg #[.slice T2 (tabsW X).length tc2, .slice G2 X.gens.length gc2]) (by simp [go_sem, Act.eval, -Array.getD_eq_getD_getElem?, e9, c0, c1]) rfl (⟨hD.1, by rw [upd_ne (by decide)]; exact hD.2⟩) (fun _ _ _ _ h => h)⟩
    | 6, ho =>
      simp at ho
      subst ho
      have eg : ac.tmps.getD 33 undef = .bool false := hv 4 33 rfl (by kernel_rfl)
      have e34 : ac.tmps.getD 34 undef = .agg #[.slice T2 (tabsW X).length tc2, .slice G2 X.gens.length gc2] := hv 5 34 rfl (by kernel_rfl)
      refine .inl ⟨wanted_of rfl rfl eg, gho_enters 58 #[.agg #[.slice T2 (tabsW X).length tc2, .slice G2 X.gens.length gc2]] (by simp [go_sem, Act.eval, -Array.getD_eq_getD_getElem?, e34]) ?_⟩
      refine (sworld_any T2 tc2 G2 gc2 (tabsW X) X w1 ((unhide HT3).below hD.1)).mono ?_
      rintro e w6 ⟨A6, c6, G6, gc6, rfl, hN6, hb6⟩
      exact ⟨_, wldV A6 c6 G6 gc6 X, rfl, rfl, ⟨hD.1.trans (hb6.mono hD.1.size), fun _ => ⟨A6, c6, G6, gc6, rfl, hN6.toWldAt⟩⟩, fun j u hj hLj h => by simpa [hj] using h⟩
    | 7, ho =>
      simp at ho
      subst ho
      have eg : ac.tmps.getD 33 undef = .bool false := hv 4 33 rfl (by kernel_rfl)
      have e4 : ac.tmps.getD 4 undef = .pointer (some ⟨w.heap.size, 0, none⟩) := hout 4 (by decide +kernel)
      have bb := (unhide HB3).below hD.1
      have c0 := bb.cell 0 rfl 0 rfl
      have c1 := bb.cell 0 rfl 1 rfl
      rw [Nat.add_zero] at c0 c1
      exact .inl ⟨wanted_of rfl rfl eg, gho_reads γ (.agg #[.slice A X.rows.length cap, .slice G X.gens.length gcap]) (by simp [go_sem, Act.eval, -Array.getD_eq_getD_getElem?, e4, c0, c1]) rfl (⟨hD.1, by rw [upd_ne (by decide)]; exact hD.2⟩) (fun _ _ _ _ h => h)⟩
    | 8, ho =>
      simp at ho
      subst ho
      have eg : ac.tmps.getD 33 undef = .bool false := hv 4 33 rfl (by kernel_rfl)
      have e35 : ac.tmps.getD 35 undef = γ := hv 6 35 rfl (by kernel_rfl)
      have e36 : ac.tmps.getD 36 undef = .agg #[.slice A X.rows.length cap, .slice G X.gens.length gcap] := hv 7 36 rfl (by kernel_rfl)
      obtain ⟨A1, c1, G1, gc1, hγ, hX1⟩ := hD.2 (hed 6 (by kernel_rfl))
      rw [hγ] at e35
      refine .inl ⟨wanted_of rfl rfl eg, gho_enters 36 #[.agg #[.slice A1 X.rows.length c1, .slice G1 X.gens.length gc1], .agg #[.slice A X.rows.length cap, .slice G X.gens.length gcap]] (by simp [go_sem, Act.eval, -Array.getD_eq_getD_getElem?, e35, e36]) ?_⟩
      refine (same_ws hl hgl w1 A1 c1 G1 gc1 A cap G gcap hX1 ((unhide HX3).below hD.1)).mono ?_
      rintro e w6 ⟨rfl, hb6⟩
      exact ⟨_, γ, rfl, rfl, ⟨hD.1.trans (hb6.mono hD.1.size), fun _ => ⟨A1, c1, G1, gc1, hγ, hX1.below hb6⟩⟩, fun _ _ _ _ h => h⟩
    | 9, ho =>
      simp at ho
      subst ho
      have eg : ac.tmps.getD 33 undef = .bool false := hv 4 33 rfl (by kernel_rfl)
      have e37 : ac.tmps.getD 37 undef = .bool true := hv 8 37 rfl (by kernel_rfl)
      exact .inl ⟨wanted_of rfl rfl eg, gho_reads γ (.bool false) (by simp [go_sem, Act.eval, -Array.getD_eq_getD_getElem?, e37]) rfl (⟨hD.1, by rw [upd_ne (by decide)]; exact hD.2⟩) (fun _ _ _ _ h => h)⟩
    | 10, ho =>
      simp at ho
      subst ho
      have e33 : ac.tmps.getD 33 undef = .bool false := hv 4 33 rfl (by kernel_rfl)
      have e38 : ac.tmps.getD 38 undef = .bool false := hv 9 38 rfl (by kernel_rfl)
      exact .inl ⟨rfl, gho_reads γ (.bool false) (by simp [go_sem, Act.eval, -Array.getD_eq_getD_getElem?, e33, e38]) rfl (⟨hD.1, by rw [upd_ne (by decide)]; exact hD.2⟩) (fun _ _ _ _ h => h)⟩
    | ix + 11, ho => simp at ho
  case hend =>
    intro γ v L w4 hD hall hv
    have v10 : v 10 = .bool false := hv 10 39 rfl
    have hb4 := hD.1
    clear hv hall hD h0
    simp only [putOps, List.getElem?_cons_zero, List.getElem?_cons_succ, Option.bind_some, List.length_cons, List.length_nil, Nat.reduceAdd, v10]
    clear v10
    go_frame
    have hB4 := (unhide HB3).below hb4
    have hC4 := (unhide HC3).below hb4
    have HL4 := hide ((unhide HL3).trans (hb4.mono (unhide HL3).size))
    have HT4 := hide ((unhide HT3).below hb4)
    have HX4 := hide ((unhide HX3).below hb4)
    have s0 := hC4.cell 0 rfl 0 rfl
    have s1 := hC4.cell 0 rfl 1 rfl
    have b0 := hB4.cell 1 rfl 0 rfl
    have b1 := hB4.cell 1 rfl 1 rfl
    rw [Nat.add_zero] at s0 s1
    have HB4 := hide hB4
    have HC4 := hide hC4
    clear hB4 hC4 hb4 HB3 HC3 HL3 HT3 HX3 HW3
    go_wp2_with fail
    go_at_call 67
    refine (sget_any T2 tc2 G2 gc2 (tabsW X) X i g p w4 (unhide HT4)).mono ?_
    rintro e w5 ⟨rfl, hb5⟩
    have hB5 := (unhide HB4).below hb5
    have HC5 := hide ((unhide HC4).below hb5)
    have HL5 := hide ((unhide HL4).trans (hb5.mono (unhide HL4).size))
    have HT5 := hide ((unhide HT4).below hb5)
    have HX5 := hide ((unhide HX4).below hb5)
    clear s0 s1 b0 b1
    have s0 := hB5.cell 0 rfl 0 rfl
    have s1 := hB5.cell 0 rfl 1 rfl
    have b0 := hB5.cell 1 rfl 0 rfl
    have b1 := hB5.cell 1 rfl 1 rfl
    rw [Nat.add_zero] at s0 s1
    have HB5 := hide hB5
    clear hB5 hb5 HB4 HC4 HL4 HT4 HX4
    go_wp2_with fail
    go_at_call 48
    refine (get_us X hl i g p w5 A cap G gcap (unhide HX5)).mono ?_
    rintro e w7 ⟨rfl, hb7⟩
    rw [show getI (fun j => X.rows.getD j dR) X.rows.length i g p = getW X i g p from rfl]
    obtain ⟨gv, hgv⟩ : ∃ gv, gv = (getW X i g p).1 := ⟨_, rfl⟩
    obtain ⟨gb, hgb⟩ : ∃ gb, gb = (getW X i g p).2 := ⟨_, rfl⟩
    rw [← hgv, ← hgb]
    have HB7 := hide ((unhide HB5).below hb7)
    have HC7 := hide ((unhide HC5).below hb7)
    have HL7 := hide ((unhide HL5).trans (hb7.mono (unhide HL5).size))
    have HT7 := hide ((unhide HT5).below hb7)
    have HX7 := hide ((unhide HX5).below hb7)
    clear s0 s1 b0 b1 hb7 HB5 HC5 HL5 HT5 HX5 hgv hgb
    go_wp2_with fail
    have h0 : Below w7.heap.size w7 w7.drew ∧ True := ⟨(Below.refl _ _).drew, trivial⟩
    refine wp_region_gho (fun (γ : Value × Value) ix v => (([fun v => v = .int .i64 gv, fun v => v = .int .i64 gv, fun v => v = .bool true, fun v => v = .bool true, fun v => v = .bool gb, fun v => v = .bool gb, fun v => v = .bool true, fun v => v = .bool true, fun v => v = .bool true, fun v => v = .pointer (some ⟨w.heap.size + 2, 0, none⟩), fun v => v = .int .i64 fa, fun v => v = .bool false, fun v => v = .bool true, fun v => v = .bool true, fun v => v = undef, fun v => v = undef, fun v => v = undef, fun v => v = undef, fun v => v = .bool true, fun v => v = .bool true, fun v => v = undef, fun v => v = undef, fun v => v = undef, fun v => v = undef, fun v => v = undef, fun v => v = undef, fun v => v = undef, fun v => v = .bool true, fun v => v = .bool true, fun v => v = .bool true] : List (Value → Prop)).getD ix (fun _ => True)) v) (fun (γ : Value × Value) (L : Nat → Bool) W => Below w7.heap.size w7 W ∧ True) ((undef, undef)) (by kernel_rfl) (by kernel_rfl) (by kernel_rfl) h0 ?hstep ?hend2
    case hstep =>
      intro γ ix o ho L ac w1 hD hL hed hcl hout hv
      match ix, ho with
      | 0, ho =>
        simp at ho
        subst ho
        have e11 : ac.tmps.getD 11 undef = .int .i64 gv := hout 11 (by decide +kernel)
        exact .inl ⟨rfl, gho_reads γ (.int .i64 gv) (by simp [go_sem, Act.eval, -Array.getD_eq_getD_getElem?, e11]) rfl (⟨hD.1, trivial⟩) (fun _ _ _ _ h => h)⟩
      | 1, ho =>
        simp at ho
        subst ho
        have e13 : ac.tmps.getD 13 undef = .int .i64 gv := hout 13 (by decide +kernel)
        exact .inl ⟨rfl, gho_reads γ (.int .i64 gv) (by simp [go_sem, Act.eval, -Array.getD_eq_getD_getElem?, e13]) rfl (⟨hD.1, trivial⟩) (fun _ _ _ _ h => h)⟩
      | 2, ho =>
        simp at ho
        subst ho
        have e54 : ac.tmps.getD 54 undef = .int .i64 gv := hv 0 54 rfl (by kernel_rfl)
        have e55 : ac.tmps.getD 55 undef = .int .i64 gv := hv 1 55 rfl (by kernel_rfl)
        exact .inl ⟨rfl, gho_reads γ (.bool true) (by simp [go_sem, Act.eval, -Array.getD_eq_getD_getElem?, e54, e55]) rfl (⟨hD.1, trivial⟩) (fun _ _ _ _ h => h)⟩
      | 3, ho =>
        simp at ho
        subst ho
        have e56 : ac.tmps.getD 56 undef = .bool true := hv 2 56 rfl (by kernel_rfl)
        exact .inl ⟨rfl, gho_reads γ (.bool true) (by simp [go_sem, Act.eval, -Array.getD_eq_getD_getElem?, e56]) rfl (⟨hD.1, trivial⟩) (fun _ _ _ _ h => h)⟩
      | 4, ho =>
        simp at ho
        subst ho
        have eg : ac.tmps.getD 57 undef = .bool true := hv 3 57 rfl (by kernel_rfl)
        have e12 : ac.tmps.getD 12 undef = .bool gb := hout 12 (by decide +kernel)
        exact .inl ⟨wanted_of rfl rfl eg, gho_reads γ (.bool gb) (by simp [go_sem, Act.eval, -Array.getD_eq_getD_getElem?, e12]) rfl (⟨hD.1, trivial⟩) (fun _ _ _ _ h => h)⟩
      | 5, ho =>
        simp at ho
        subst ho
        have eg : ac.tmps.getD 57 undef = .bool true := hv 3 57 rfl (by kernel_rfl)
        have e14 : ac.tmps.getD 14 undef = .bool gb := hout 14 (by decide +kernel)
        exact .inl ⟨wanted_of rfl rfl eg, gho_reads γ (.bool gb) (by simp [go_sem, Act.eval, -Array.getD_eq_getD_getElem?, e14]) rfl (⟨hD.1, trivial⟩) (fun _ _ _ _ h => h)⟩
      | 6, ho =>
        simp at ho
        subst ho
        have eg : ac.tmps.getD 57 undef = .bool true := hv 3 57 rfl (by kernel_rfl)
        have e58 : ac.tmps.getD 58 undef = .bool gb := hv 4 58 rfl (by kernel_rfl)
        have e59 : ac.tmps.getD 59 undef = .bool gb := hv 5 59 rfl (by kernel_rfl)
        exact .inl ⟨wanted_of rfl rfl eg, gho_reads γ (.bool true) (by simp [go_sem, Act.eval, -Array.getD_eq_getD_getElem?, e58, e59]) rfl (⟨hD.1, trivial⟩) (fun _ _ _ _ h => h)⟩
      | 7, ho =>
        simp at ho
        subst ho
        have e57 : ac.tmps.getD 57 undef = .bool true := hv 3 57 rfl (by kernel_rfl)
        have e60 : ac.tmps.getD 60 undef = .bool true := hv 6 60 rfl (by kernel_rfl)
        exact .inl ⟨rfl, gho_reads γ (.bool true) (by simp [go_sem, Act.eval, -Array.getD_eq_getD_getElem?, e57, e60]) rfl (⟨hD.1, trivial⟩) (fun _ _ _ _ h => h)⟩
      | 8, ho =>
        simp at ho
        subst ho
        have e61 : ac.tmps.getD 61 undef = .bool true := hv 7 61 rfl (by kernel_rfl)
        exact .inl ⟨rfl, gho_reads γ (.bool true) (by simp [go_sem, Act.eval, -Array.getD_eq_getD_getElem?, e61]) rfl (⟨hD.1, trivial⟩) (fun _ _ _ _ h => h)⟩
      | 9, ho =>
        simp at ho
        subst ho
        have eg : ac.tmps.getD 62 undef = .bool true := hv 8 62 rfl (by kernel_rfl)
        have e7 : ac.tmps.getD 7 undef = .pointer (some ⟨w.heap.size + 2, 0, none⟩) := hout 7 (by decide +kernel)
        exact .inl ⟨wanted_of rfl rfl eg, gho_reads γ (.pointer (some ⟨w.heap.size + 2, 0, none⟩)) (by simp [go_sem, Act.eval, -Array.getD_eq_getD_getElem?, e7]) rfl (⟨hD.1, trivial⟩) (fun _ _ _ _ h => h)⟩
      | 10, ho =>
        simp at ho
        subst ho
        have eg : ac.tmps.getD 62 undef = .bool true := hv 8 62 rfl (by kernel_rfl)
        have e63 : ac.tmps.getD 63 undef = .pointer (some ⟨w.heap.size + 2, 0, none⟩) := hv 9 63 rfl (by kernel_rfl)
        have bb := (unhide HB7).below hD.1
        have c0 := bb.cell 2 rfl 0 rfl
        exact .inl ⟨wanted_of rfl rfl eg, gho_reads γ (.int .i64 fa) (by simp [go_sem, Act.eval, -Array.getD_eq_getD_getElem?, e63, c0]) rfl (⟨hD.1, trivial⟩) (fun _ _ _ _ h => h)⟩
      | 11, ho =>
        simp at ho
        subst ho
        have eg : ac.tmps.getD 62 undef = .bool true := hv 8 62 rfl (by kernel_rfl)
        have e64 : ac.tmps.getD 64 undef = .int .i64 fa := hv 10 64 rfl (by kernel_rfl)
        refine .inl ⟨wanted_of rfl rfl eg, gho_enters 16 #[.int .i64 fa] (by simp [go_sem, Act.eval, -Array.getD_eq_getD_getElem?, e64]) ?_⟩
        refine (unhide HSA w1).mono ?_
        rintro e w6 ⟨rfl, hw6⟩
        obtain rfl := hw6.symm
        exact ⟨_, γ, rfl, rfl, ⟨hD.1, trivial⟩, fun _ _ _ _ h => h⟩
      | 12, ho =>
        simp at ho
        subst ho
        have eg : ac.tmps.getD 62 undef = .bool true := hv 8 62 rfl (by kernel_rfl)
        have e65 : ac.tmps.getD 65 undef = .bool false := hv 11 65 rfl (by kernel_rfl)
        exact .inl ⟨wanted_of rfl rfl eg, gho_reads γ (.bool true) (by simp [go_sem, Act.eval, -Array.getD_eq_getD_getElem?, e65]) rfl (⟨hD.1, trivial⟩) (fun _ _ _ _ h => h)⟩
      | 13, ho =>
        simp at ho
        subst ho
        have eg : ac.tmps.getD 62 undef = .bool true := hv 8 62 rfl (by kernel_rfl)
        have e66 : ac.tmps.getD 66 undef = .bool true := hv 12 66 rfl (by kernel_rfl)
        exact .inl ⟨wanted_of rfl rfl eg, gho_reads γ (.bool true) (by simp [go_sem, Act.eval, -Array.getD_eq_getD_getElem?, e66]) rfl (⟨hD.1, trivial⟩) (fun _ _ _ _ h => h)⟩
      | 14, ho =>
        simp at ho
        subst ho
        have eg : ac.tmps.getD 67 undef = .bool !false := hv 13 67 rfl (by kernel_rfl)
        exact .inr ⟨unwanted_of rfl rfl eg, rfl, ⟨hD.1, trivial⟩⟩
      | 15, ho =>
        simp at ho
        subst ho
        have eg : ac.tmps.getD 67 undef = .bool !false := hv 13 67 rfl (by kernel_rfl)
        exact .inr ⟨unwanted_of rfl rfl eg, rfl, ⟨hD.1, trivial⟩⟩
      | 16, ho =>
        simp at ho
        subst ho
        have eg : ac.tmps.getD 67 undef = .bool !false := hv 13 67 rfl (by kernel_rfl)
        exact .inr ⟨unwanted_of rfl rfl eg, rfl, ⟨hD.1, trivial⟩⟩
      | 17, ho =>
        simp at ho
        subst ho
        have eg : ac.tmps.getD 67 undef = .bool !false := hv 13 67 rfl (by kernel_rfl)
        exact .inr ⟨unwanted_of rfl rfl eg, rfl, ⟨hD.1, trivial⟩⟩
      | 18, ho =>
        simp at ho
        subst ho
        have eg : ac.tmps.getD 62 undef = .bool true := hv 8 62 rfl (by kernel_rfl)
        have e67 : ac.tmps.getD 67 undef = .bool true := hv 13 67 rfl (by kernel_rfl)
        exact .inl ⟨wanted_of rfl rfl eg, gho_reads γ (.bool true) (by simp [go_sem, Act.eval, -Array.getD_eq_getD_getElem?, e67]) rfl (⟨hD.1, trivial⟩) (fun _ _ _ _ h => h)⟩
      | 19, ho =>
        simp at ho
        subst ho
        have eg : ac.tmps.getD 62 undef = .bool true := hv 8 62 rfl (by kernel_rfl)
        have e72 : ac.tmps.getD 72 undef = .bool true := hv 18 72 rfl (by kernel_rfl)
        exact .inl ⟨wanted_of rfl rfl eg, gho_reads γ (.bool true) (by simp [go_sem, Act.eval, -Array.getD_eq_getD_getElem?, e72]) rfl (⟨hD.1, trivial⟩) (fun _ _ _ _ h => h)⟩
      | 20, ho =>
        simp at ho
        subst ho
        have eg : ac.tmps.getD 73 undef = .bool !false := hv 19 73 rfl (by kernel_rfl)
        exact .inr ⟨unwanted_of rfl rfl eg, rfl, ⟨hD.1, trivial⟩⟩
      | 21, ho =>
        simp at ho
        subst ho
        have eg : ac.tmps.getD 73 undef = .bool !false := hv 19 73 rfl (by kernel_rfl)
        exact .inr ⟨unwanted_of rfl rfl eg, rfl, ⟨hD.1, trivial⟩⟩
      | 22, ho =>
        simp at ho
        subst ho
        have eg : ac.tmps.getD 73 undef = .bool !false := hv 19 73 rfl (by kernel_rfl)
        exact .inr ⟨unwanted_of rfl rfl eg, rfl, ⟨hD.1, trivial⟩⟩
      | 23, ho =>
        simp at ho
        subst ho
        have eg : ac.tmps.getD 73 undef = .bool !false := hv 19 73 rfl (by kernel_rfl)
        exact .inr ⟨unwanted_of rfl rfl eg, rfl, ⟨hD.1, trivial⟩⟩
      | 24, ho =>
        simp at ho
        subst ho
        have eg : ac.tmps.getD 73 undef = .bool !false := hv 19 73 rfl (by kernel_rfl)
        exact .inr ⟨unwanted_of rfl rfl eg, rfl, ⟨hD.1, trivial⟩⟩
      | 25, ho =>
        simp at ho
        subst ho
        have eg : ac.tmps.getD 73 undef = .bool !false := hv 19 73 rfl (by kernel_rfl)
        exact .inr ⟨unwanted_of rfl rfl eg, rfl, ⟨hD.1, trivial⟩⟩
      | 26, ho =>
        simp at ho
        subst ho
        have eg : ac.tmps.getD 73 undef = .bool !false := hv 19 73 rfl (by kernel_rfl)
        exact .inr ⟨unwanted_of rfl rfl eg, rfl, ⟨hD.1, trivial⟩⟩
      | 27, ho =>
        simp at ho
        subst ho
        have eg : ac.tmps.getD 62 undef = .bool true := hv 8 62 rfl (by kernel_rfl)
        have e73 : ac.tmps.getD 73 undef = .bool true := hv 19 73 rfl (by kernel_rfl)
        exact .inl ⟨wanted_of rfl rfl eg, gho_reads γ (.bool true) (by simp [go_sem, Act.eval, -Array.getD_eq_getD_getElem?, e73]) rfl (⟨hD.1, trivial⟩) (fun _ _ _ _ h => h)⟩
      | 28, ho =>
        simp at ho
        subst ho
        have e62 : ac.tmps.getD 62 undef = .bool true := hv 8 62 rfl (by kernel_rfl)
        have e81 : ac.tmps.getD 81 undef = .bool true := hv 27 81 rfl (by kernel_rfl)
        exact .inl ⟨rfl, gho_reads γ (.bool true) (by simp [go_sem, Act.eval, -Array.getD_eq_getD_getElem?, e62, e81]) rfl (⟨hD.1, trivial⟩) (fun _ _ _ _ h => h)⟩
      | 29, ho =>
        simp at ho
        subst ho
        have e82 : ac.tmps.getD 82 undef = .bool true := hv 28 82 rfl (by kernel_rfl)
        exact .inl ⟨rfl, gho_reads γ (.bool true) (by simp [go_sem, Act.eval, -Array.getD_eq_getD_getElem?, e82]) rfl (⟨hD.1, trivial⟩) (fun _ _ _ _ h => h)⟩
      | ix + 30, ho => simp at ho
    case hend2 =>
      intro γ v L w9 hD hall hv
      have v29 : v 29 = .bool true := hv 29 8 rfl
      have HD := hide hD.1
      clear hv hall hD h0
      simp only [putOps, List.getElem?_cons_zero, List.getElem?_cons_succ, Option.bind_some, List.length_cons, List.length_nil, Nat.reduceAdd, v29]
      clear v29
      go_frame
      go_wp2
      go_ret
      exact ⟨rfl, (unhide HL7).trans ((unhide HD).mono (unhide HL7).size)⟩
set_option maxRecDepth 8000 in
set_option maxHeartbeats 4000000 in
theorem both_notn (A : Option Addr) (cap : Nat) (G : Option Addr) (gcap : Nat) (X : Wd) (i g p fa fn : Int) (w : World) (hX : WldAt w A cap G gcap X) (hr : RightW X) (ha : setB fa = true) (hn : setB fn = false) :
    Calls Try.prog 10 #[wldV A cap G gcap X, beingV i g, .int .i64 p, .agg #[.int .i64 fa, .int .i64 fn]] w fun e w' => e = .returned (.bool true) ∧ Below w.heap.size w w' := by
  obtain ⟨hl, hgl, _⟩ := right_hr ((right_iff X).2 hr)
  have hOF := fun W (hb : Below w.heap.size w W) => of_right A cap G gcap X W (hX.below hb) hr
  unfold wldV worldV stV at hOF
  have HOF := hide hOF
  have hSA := rset_any fa
  rw [ha] at hSA
  have HSA := hide hSA
  have hSN := rset_any fn
  rw [hn] at hSN
  have HSN := hide hSN
  clear hSN hn
  clear hOF hSA ha hr
  have hB0 := Bxs.start w [([.slice A X.rows.length cap, .slice G X.gens.length gcap], 38), ([.int .i64 i, .int .i64 g], 40), ([.int .i64 fa, .int .i64 fn], 32)]
  have hb0 := allocs_below [([.slice A X.rows.length cap, .slice G X.gens.length gcap], 38), ([.int .i64 i, .int .i64 g], 40), ([.int .i64 fa, .int .i64 fn], 32)] w
  obtain ⟨W0, hW0⟩ : ∃ W0, W0 = allocs w [([.slice A X.rows.length cap, .slice G X.gens.length gcap], 38), ([.int .i64 i, .int .i64 g], 40), ([.int .i64 fa, .int .i64 fn], 32)] := ⟨_, rfl⟩
  rw [← hW0] at hB0 hb0
  have hW0' : ((w.alloc (.cells #[.slice A X.rows.length cap, .slice G X.gens.length gcap] 38)).alloc (.cells #[.int .i64 i, .int .i64 g] 40)).alloc (.cells #[.int .i64 fa, .int .i64 fn] 32) = W0 := hW0.symm
  have HW0 := hide hW0'
  have HB0 := hide hB0
  have HL0 := hide hb0
  have HX := hide hX
  clear hW0 hW0' hB0 hb0 hX
  unfold wldV worldV beingV
  go_enter Try.func10, Try.ntmps10
  go_wp2_with fail
  go_at_call 66
  rw [unhide HW0]
  refine (alive3_any W0).mono ?_
  rintro e w1 ⟨rfl, hb1⟩
  have hB1 := (unhide HB0).below hb1
  have hL1 := (unhide HL0).trans (hb1.mono (unhide HL0).size)
  have c0 := hB1.cell 0 rfl 0 rfl
  have c1 := hB1.cell 0 rfl 1 rfl
  rw [Nat.add_zero] at c0 c1
  have HB1 := hide hB1
  have HL1 := hide hL1
  clear hB1 hL1 hb1 HW0 HB0 HL0
  go_wp2_with fail
  go_at_call 60
  refine (unhide HOF _ (unhide HL1)).mono ?_
  rintro e w2 ⟨T2, tc2, G2, gc2, rfl, hN2, hb2⟩
  have hB2 := Bxs.start w2 [([.slice T2 (tabsW X).length tc2, .slice G2 X.gens.length gc2], 71), ([.int .i64 0, .int .i64 0], 43)]
  have hb3 := allocs_below [([.slice T2 (tabsW X).length tc2, .slice G2 X.gens.length gc2], 71), ([.int .i64 0, .int .i64 0], 43)] w2
  obtain ⟨W3, hW3⟩ : ∃ W3, W3 = allocs w2 [([.slice T2 (tabsW X).length tc2, .slice G2 X.gens.length gc2], 71), ([.int .i64 0, .int .i64 0], 43)] := ⟨_, rfl⟩
  rw [← hW3] at hB2 hb3
  have hL2 := (unhide HL1).trans (hb2.mono (unhide HL1).size)
  have HL3 := hide (hL2.trans (hb3.mono hL2.size))
  have HB3 := hide (((unhide HB1).below hb2).below hb3)
  have HC3 := hide hB2
  have HT3 := hide (hN2.below hb3).st
  have HX3 := hide ((unhide HX).below (hL2.trans (hb3.mono hL2.size)))
  have hW3' : (w2.alloc (.cells #[.slice T2 (tabsW X).length tc2, .slice G2 X.gens.length gc2] 71)).alloc (.cells #[.int .i64 0, .int .i64 0] 43) = W3 := hW3.symm
  have HW3 := hide hW3'
  clear c0 c1 hB2 hb3 hb2 hL2 hW3 hW3' hN2 HB1 HL1 HOF HX
  go_wp2_with fail
  rw [unhide HW3]
  have h0 : Below W3.heap.size W3 W3.drew ∧ ((fun (_ : Nat) => false) 6 = true → ∃ A' c' G' gc', undef = .agg #[.slice A' X.rows.length c', .slice G' X.gens.length gc'] ∧ WldAt W3.drew A' c' G' gc' X) := ⟨(Below.refl _ _).drew, fun e => by cases e⟩
  refine wp_region_gho (fun (γ : Value) ix v => if ix = 6 then v = γ else (([fun v => v = .agg #[.slice T2 (tabsW X).length tc2, .slice G2 X.gens.length gc2], fun v => v = .agg #[.int .i64 0, .int .i64 0], fun v => v = .int .i64 0, fun v => v = .bool false, fun v => v = .bool false, fun v => v = .agg #[.slice T2 (tabsW X).length tc2, .slice G2 X.gens.length gc2], fun _ => True, fun v => v = .agg #[.slice A X.rows.length cap, .slice G X.gens.length gcap], fun v => v = .bool true, fun v => v = .bool false, fun v => v = .bool false] : List (Value → Prop)).getD ix (fun _ => True)) v) (fun (γ : Value) L W => Below W3.heap.size W3 W ∧ (L 6 = true → ∃ A' c' G' gc', γ = .agg #[.slice A' X.rows.length c', .slice G' X.gens.length gc'] ∧ WldAt W A' c' G' gc' X)) (undef) (by kernel_rfl) (by kernel_rfl) (by kernel_rfl) h0 ?hstep ?hend
  case hstep =>
    intro γ ix o ho L ac w1 hD hL hed hcl hout hv
    match ix, ho with
    | 0, ho =>
      simp at ho
      subst ho
      have e9 : ac.tmps.getD 9 undef = .pointer (some ⟨w2.heap.size, 0, none⟩) := hout 9 (by decide +kernel)
      have bb := (unhide HC3).below hD.1
      have c0 := bb.cell 0 rfl 0 rfl
      have c1 := bb.cell 0 rfl 1 rfl
      rw [Nat.add_zero] at c0 c1
      exact .inl ⟨rfl, gho_reads γ (.agg #[.slice T2 (tabsW X).length tc2, .slice G2 X.gens.length gc2]) (by simp [go_sem, Act.eval, -Array.getD_eq_getD_getElem?, e9, c0, c1]) rfl (⟨hD.1, by rw [upd_ne (by decide)]; exact hD.2⟩) (fun _ _ _ _ h => h)⟩
    | 1, ho =>
      simp at ho
      subst ho
      have e29 : ac.tmps.getD 29 undef = .agg #[.slice T2 (tabsW X).length tc2, .slice G2 X.gens.length gc2] := hv 0 29 rfl (by kernel_rfl)
      refine .inl ⟨rfl, gho_enters 54 #[.agg #[.slice T2 (tabsW X).length tc2, .slice G2 X.gens.length gc2]] (by simp [go_sem, Act.eval, -Array.getD_eq_getD_getElem?, e29]) ?_⟩
      refine (swrong_any T2 tc2 G2 gc2 (tabsW X) X w1 ((unhide HT3).below hD.1)).mono ?_
      rintro e w6 ⟨rfl, hb6⟩
      exact ⟨_, γ, rfl, rfl, ⟨hD.1.trans (hb6.mono hD.1.size), fun e => (by obtain ⟨A1, c1, G1, gc1, a, b⟩ := hD.2 (by rwa [upd_ne (by decide)] at e); exact ⟨A1, c1, G1, gc1, a, b.below hb6⟩)⟩, fun _ _ _ _ h => h⟩
    | 2, ho =>
      simp at ho
      subst ho
      have e30 : ac.tmps.getD 30 undef = .agg #[.int .i64 0, .int .i64 0] := hv 1 30 rfl (by kernel_rfl)
      have hf := run_field43 (.int .i64 0) (.int .i64 0) w1
      exact .inl ⟨rfl, gho_reads γ (.int .i64 0) (by simp [go_sem, Act.eval, -Array.getD_eq_getD_getElem?, e30, hf]) rfl (⟨hD.1, by rw [upd_ne (by decide)]; exact hD.2⟩) (fun _ _ _ _ h => h)⟩
    | 3, ho =>
      simp at ho
      subst ho
      have e31 : ac.tmps.getD 31 undef = .int .i64 0 := hv 2 31 rfl (by kernel_rfl)
      exact .inl ⟨rfl, gho_reads γ (.bool false) (by simp [go_sem, Act.eval, -Array.getD_eq_getD_getElem?, e31]) rfl (⟨hD.1, by rw [upd_ne (by decide)]; exact hD.2⟩) (fun _ _ _ _ h => h)⟩
    | 4, ho =>
      simp at ho
      subst ho
      have e32 : ac.tmps.getD 32 undef = .bool false := hv 3 32 rfl (by kernel_rfl)
      exact .inl ⟨rfl, gho_reads γ (.bool false) (by simp [go_sem, Act.eval, -Array.getD_eq_getD_getElem?, e32]) rfl (⟨hD.1, by rw [upd_ne (by decide)]; exact hD.2⟩) (fun _ _ _ _ h => h)⟩
    | 5, ho =>
      simp at ho
      subst ho
      have eg : ac.tmps.getD 33 undef = .bool false := hv 4 33 rfl (by kernel_rfl)
      have e9 : ac.tmps.getD 9 undef = .pointer (some ⟨w2.heap.size, 0, none⟩) := hout 9 (by decide +kernel)
      have bb := (unhide HC3).below hD.1
      have c0 := bb.cell 0 rfl 0 rfl
      have c1 := bb.cell 0 rfl 1 rfl
      rw [Nat.add_zero] at c0 c1
      exact .inl ⟨wanted_of rfl rfl eg, gho_reads γ (.agg #[.slice T2 (tabsW X).length tc2, .slice G2 X.gens.length gc2]) (by simp [go_sem, Act.eval, -Array.getD_eq_getD_getElem?, e9, c0, c1]) rfl (⟨hD.1, by rw [upd_ne (by decide)]; exact hD.2⟩) (fun _ _ _ _ h => h)⟩
    | 6, ho =>
      simp at ho
      subst ho
      have eg : ac.tmps.getD 33 undef = .bool false := hv 4 33 rfl (by kernel_rfl)
      have e34 : ac.tmps.getD 34 undef = .agg #[.slice T2 (tabsW X).length tc2, .slice G2 X.gens.length gc2] := hv 5 34 rfl (by kernel_rfl)
      refine .inl ⟨wanted_of rfl rfl eg, gho_enters 58 #[.agg #[.slice T2 (tabsW X).length tc2, .slice G2 X.gens.length gc2]] (by simp [go_sem, Act.eval, -Array.getD_eq_getD_getElem?, e34]) ?_⟩
      refine (sworld_any T2 tc2 G2 gc2 (tabsW X) X w1 ((unhide HT3).below hD.1)).mono ?_
      rintro e w6 ⟨A6, c6, G6, gc6, rfl, hN6, hb6⟩
      exact ⟨_, wldV A6 c6 G6 gc6 X, rfl, rfl, ⟨hD.1.trans (hb6.mono hD.1.size), fun _ => ⟨A6, c6, G6, gc6, rfl, hN6.toWldAt⟩⟩, fun j u hj hLj h => by simpa [hj] using h⟩
    | 7, ho =>
      simp at ho
      subst ho
      have eg : ac.tmps.getD 33 undef = .bool false := hv 4 33 rfl (by kernel_rfl)
      have e4 : ac.tmps.getD 4 undef = .pointer (some ⟨w.heap.size, 0, none⟩) := hout 4 (by decide +kernel)
      have bb := (unhide HB3).below hD.1
      have c0 := bb.cell 0 rfl 0 rfl
      have c1 := bb.cell 0 rfl 1 rfl
      rw [Nat.add_zero] at c0 c1
      exact .inl ⟨wanted_of rfl rfl eg, gho_reads γ (.agg #[.slice A X.rows.length cap, .slice G X.gens.length gcap]) (by simp [go_sem, Act.eval, -Array.getD_eq_getD_getElem?, e4, c0, c1]) rfl (⟨hD.1, by rw [upd_ne (by decide)]; exact hD.2⟩) (fun _ _ _ _ h => h)⟩
    | 8, ho =>
      simp at ho
      subst ho
      have eg : ac.tmps.getD 33 undef = .bool false := hv 4 33 rfl (by kernel_rfl)
      have e35 : ac.tmps.getD 35 undef = γ := hv 6 35 rfl (by kernel_rfl)
      have e36 : ac.tmps.getD 36 undef = .agg #[.slice A X.rows.length cap, .slice G X.gens.length gcap] := hv 7 36 rfl (by kernel_rfl)
      obtain ⟨A1, c1, G1, gc1, hγ, hX1⟩ := hD.2 (hed 6 (by kernel_rfl))
      rw [hγ] at e35
      refine .inl ⟨wanted_of rfl rfl eg, gho_enters 36 #[.agg #[.slice A1 X.rows.length c1, .slice G1 X.gens.length gc1], .agg #[.slice A X.rows.length cap, .slice G X.gens.length gcap]] (by simp [go_sem, Act.eval, -Array.getD_eq_getD_getElem?, e35, e36]) ?_⟩
      refine (same_ws hl hgl w1 A1 c1 G1 gc1 A cap G gcap hX1 ((unhide HX3).below hD.1)).mono ?_
      rintro e w6 ⟨rfl, hb6⟩
      exact ⟨_, γ, rfl, rfl, ⟨hD.1.trans (hb6.mono hD.1.size), fun _ => ⟨A1, c1, G1, gc1, hγ, hX1.below hb6⟩⟩, fun _ _ _ _ h => h⟩
    | 9, ho =>
      simp at ho
      subst ho
      have eg : ac.tmps.getD 33 undef = .bool false := hv 4 33 rfl (by kernel_rfl)
      have e37 : ac.tmps.getD 37 undef = .bool true := hv 8 37 rfl (by kernel_rfl)
      exact .inl ⟨wanted_of rfl rfl eg, gho_reads γ (.bool false) (by simp [go_sem, Act.eval, -Array.getD_eq_getD_getElem?, e37]) rfl (⟨hD.1, by rw [upd_ne (by decide)]; exact hD.2⟩) (fun _ _ _ _ h => h)⟩
    | 10, ho =>
      simp at ho
      subst ho
      have e33 : ac.tmps.getD 33 undef = .bool false := hv 4 33 rfl (by kernel_rfl)
      have e38 : ac.tmps.getD 38 undef = .bool false := hv 9 38 rfl (by kernel_rfl)
      exact .inl ⟨rfl, gho_reads γ (.bool false) (by simp [go_sem, Act.eval, -Array.getD_eq_getD_getElem?, e33, e38]) rfl (⟨hD.1, by rw [upd_ne (by decide)]; exact hD.2⟩) (fun _ _ _ _ h => h)⟩
    | ix + 11, ho => simp at ho
  case hend =>
    intro γ v L w4 hD hall hv
    have v10 : v 10 = .bool false := hv 10 39 rfl
    have hb4 := hD.1
    clear hv hall hD h0
    simp only [putOps, List.getElem?_cons_zero, List.getElem?_cons_succ, Option.bind_some, List.length_cons, List.length_nil, Nat.reduceAdd, v10]
    clear v10
    go_frame
    have hB4 := (unhide HB3).below hb4
    have hC4 := (unhide HC3).below hb4
    have HL4 := hide ((unhide HL3).trans (hb4.mono (unhide HL3).size))
    have HT4 := hide ((unhide HT3).below hb4)
    have HX4 := hide ((unhide HX3).below hb4)
    have s0 := hC4.cell 0 rfl 0 rfl
    have s1 := hC4.cell 0 rfl 1 rfl
    have b0 := hB4.cell 1 rfl 0 rfl
    have b1 := hB4.cell 1 rfl 1 rfl
    rw [Nat.add_zero] at s0 s1
    have HB4 := hide hB4
    have HC4 := hide hC4
    clear hB4 hC4 hb4 HB3 HC3 HL3 HT3 HX3 HW3
    go_wp2_with fail
    go_at_call 67
    refine (sget_any T2 tc2 G2 gc2 (tabsW X) X i g p w4 (unhide HT4)).mono ?_
    rintro e w5 ⟨rfl, hb5⟩
    have hB5 := (unhide HB4).below hb5
    have HC5 := hide ((unhide HC4).below hb5)
    have HL5 := hide ((unhide HL4).trans (hb5.mono (unhide HL4).size))
    have HT5 := hide ((unhide HT4).below hb5)
    have HX5 := hide ((unhide HX4).below hb5)
    clear s0 s1 b0 b1
    have s0 := hB5.cell 0 rfl 0 rfl
    have s1 := hB5.cell 0 rfl 1 rfl
    have b0 := hB5.cell 1 rfl 0 rfl
    have b1 := hB5.cell 1 rfl 1 rfl
    rw [Nat.add_zero] at s0 s1
    have HB5 := hide hB5
    clear hB5 hb5 HB4 HC4 HL4 HT4 HX4
    go_wp2_with fail
    go_at_call 48
    refine (get_us X hl i g p w5 A cap G gcap (unhide HX5)).mono ?_
    rintro e w7 ⟨rfl, hb7⟩
    rw [show getI (fun j => X.rows.getD j dR) X.rows.length i g p = getW X i g p from rfl]
    obtain ⟨gv, hgv⟩ : ∃ gv, gv = (getW X i g p).1 := ⟨_, rfl⟩
    obtain ⟨gb, hgb⟩ : ∃ gb, gb = (getW X i g p).2 := ⟨_, rfl⟩
    rw [← hgv, ← hgb]
    have HB7 := hide ((unhide HB5).below hb7)
    have HC7 := hide ((unhide HC5).below hb7)
    have HL7 := hide ((unhide HL5).trans (hb7.mono (unhide HL5).size))
    have HT7 := hide ((unhide HT5).below hb7)
    have HX7 := hide ((unhide HX5).below hb7)
    clear s0 s1 b0 b1 hb7 HB5 HC5 HL5 HT5 HX5 hgv hgb
    go_wp2_with fail
    have h0 : Below w7.heap.size w7 w7.drew ∧ True := ⟨(Below.refl _ _).drew, trivial⟩
    refine wp_region_gho (fun (γ : Value × Value) ix v => (([fun v => v = .int .i64 gv, fun v => v = .int .i64 gv, fun v => v = .bool true, fun v => v = .bool true, fun v => v = .bool gb, fun v => v = .bool gb, fun v => v = .bool true, fun v => v = .bool true, fun v => v = .bool true, fun v => v = .pointer (some ⟨w.heap.size + 2, 0, none⟩), fun v => v = .int .i64 fa, fun v => v = .bool true, fun v => v = .bool false, fun v => v = .bool false, fun v => v = .pointer (some ⟨w.heap.size + 2, 1, none⟩), fun v => v = .int .i64 fn, fun v => v = .bool false, fun v => v = .bool true, fun v => v = .bool true, fun v => v = .bool true, fun v => v = undef, fun v => v = undef, fun v => v = undef, fun v => v = undef, fun v => v = undef, fun v => v = undef, fun v => v = undef, fun v => v = .bool true, fun v => v = .bool true, fun v => v = .bool true] : List (Value → Prop)).getD ix (fun _ => True)) v) (fun (γ : Value × Value) (L : Nat → Bool) W => Below w7.heap.size w7 W ∧ True) ((undef, undef)) (by kernel_rfl) (by kernel_rfl) (by kernel_rfl) h0 ?hstep ?hend2
    case hstep =>
      intro γ ix o ho L ac w1 hD hL hed hcl hout hv
      match ix, ho with
      | 0, ho =>
        simp at ho
        subst ho
        have e11 : ac.tmps.getD 11 undef = .int .i64 gv := hout 11 (by decide +kernel)
        exact .inl ⟨rfl, gho_reads γ (.int .i64 gv) (by simp [go_sem, Act.eval, -Array.getD_eq_getD_getElem?, e11]) rfl (⟨hD.1, trivial⟩) (fun _ _ _ _ h => h)⟩
      | 1, ho =>
        simp at ho
        subst ho
        have e13 : ac.tmps.getD 13 undef = .int .i64 gv := hout 13 (by decide +kernel)
        exact .inl ⟨rfl, gho_reads γ (.int .i64 gv) (by simp [go_sem, Act.eval, -Array.getD_eq_getD_getElem?, e13]) rfl (⟨hD.1, trivial⟩) (fun _ _ _ _ h => h)⟩
      | 2, ho =>
        simp at ho
        subst ho
        have e54 : ac.tmps.getD 54 undef = .int .i64 gv := hv 0 54 rfl (by kernel_rfl)
        have e55 : ac.tmps.getD 55 undef = .int .i64 gv := hv 1 55 rfl (by kernel_rfl)
        exact .inl ⟨rfl, gho_reads γ (.bool true) (by simp [go_sem, Act.eval, -Array.getD_eq_getD_getElem?, e54, e55]) rfl (⟨hD.1, trivial⟩) (fun _ _ _ _ h => h)⟩
      | 3, ho =>
        simp at ho
        subst ho
        have e56 : ac.tmps.getD 56 undef = .bool true := hv 2 56 rfl (by kernel_rfl)
        exact .inl ⟨rfl, gho_reads γ (.bool true) (by simp [go_sem, Act.eval, -Array.getD_eq_getD_getElem?, e56]) rfl (⟨hD.1, trivial⟩) (fun _ _ _ _ h => h)⟩
      | 4, ho =>
        simp at ho
        subst ho
        have eg : ac.tmps.getD 57 undef = .bool true := hv 3 57 rfl (by kernel_rfl)
        have e12 : ac.tmps.getD 12 undef = .bool gb := hout 12 (by decide +kernel)
        exact .inl ⟨wanted_of rfl rfl eg, gho_reads γ (.bool gb) (by simp [go_sem, Act.eval, -Array.getD_eq_getD_getElem?, e12]) rfl (⟨hD.1, trivial⟩) (fun _ _ _ _ h => h)⟩
      | 5, ho =>
        simp at ho
        subst ho
        have eg : ac.tmps.getD 57 undef = .bool true := hv 3 57 rfl (by kernel_rfl)
        have e14 : ac.tmps.getD 14 undef = .bool gb := hout 14 (by decide +kernel)
        exact .inl ⟨wanted_of rfl rfl eg, gho_reads γ (.bool gb) (by simp [go_sem, Act.eval, -Array.getD_eq_getD_getElem?, e14]) rfl (⟨hD.1, trivial⟩) (fun _ _ _ _ h => h)⟩
      | 6, ho =>
        simp at ho
        subst ho
        have eg : ac.tmps.getD 57 undef = .bool true := hv 3 57 rfl (by kernel_rfl)
        have e58 : ac.tmps.getD 58 undef = .bool gb := hv 4 58 rfl (by kernel_rfl)
        have e59 : ac.tmps.getD 59 undef = .bool gb := hv 5 59 rfl (by kernel_rfl)
        exact .inl ⟨wanted_of rfl rfl eg, gho_reads γ (.bool true) (by simp [go_sem, Act.eval, -Array.getD_eq_getD_getElem?, e58, e59]) rfl (⟨hD.1, trivial⟩) (fun _ _ _ _ h => h)⟩
      | 7, ho =>
        simp at ho
        subst ho
        have e57 : ac.tmps.getD 57 undef = .bool true := hv 3 57 rfl (by kernel_rfl)
        have e60 : ac.tmps.getD 60 undef = .bool true := hv 6 60 rfl (by kernel_rfl)
        exact .inl ⟨rfl, gho_reads γ (.bool true) (by simp [go_sem, Act.eval, -Array.getD_eq_getD_getElem?, e57, e60]) rfl (⟨hD.1, trivial⟩) (fun _ _ _ _ h => h)⟩
      | 8, ho =>
        simp at ho
        subst ho
        have e61 : ac.tmps.getD 61 undef = .bool true := hv 7 61 rfl (by kernel_rfl)
        exact .inl ⟨rfl, gho_reads γ (.bool true) (by simp [go_sem, Act.eval, -Array.getD_eq_getD_getElem?, e61]) rfl (⟨hD.1, trivial⟩) (fun _ _ _ _ h => h)⟩
      | 9, ho =>
        simp at ho
        subst ho
        have eg : ac.tmps.getD 62 undef = .bool true := hv 8 62 rfl (by kernel_rfl)
        have e7 : ac.tmps.getD 7 undef = .pointer (some ⟨w.heap.size + 2, 0, none⟩) := hout 7 (by decide +kernel)
        exact .inl ⟨wanted_of rfl rfl eg, gho_reads γ (.pointer (some ⟨w.heap.size + 2, 0, none⟩)) (by simp [go_sem, Act.eval, -Array.getD_eq_getD_getElem?, e7]) rfl (⟨hD.1, trivial⟩) (fun _ _ _ _ h => h)⟩
      | 10, ho =>
        simp at ho
        subst ho
        have eg : ac.tmps.getD 62 undef = .bool true := hv 8 62 rfl (by kernel_rfl)
        have e63 : ac.tmps.getD 63 undef = .pointer (some ⟨w.heap.size + 2, 0, none⟩) := hv 9 63 rfl (by kernel_rfl)
        have bb := (unhide HB7).below hD.1
        have c0 := bb.cell 2 rfl 0 rfl
        exact .inl ⟨wanted_of rfl rfl eg, gho_reads γ (.int .i64 fa) (by simp [go_sem, Act.eval, -Array.getD_eq_getD_getElem?, e63, c0]) rfl (⟨hD.1, trivial⟩) (fun _ _ _ _ h => h)⟩
      | 11, ho =>
        simp at ho
        subst ho
        have eg : ac.tmps.getD 62 undef = .bool true := hv 8 62 rfl (by kernel_rfl)
        have e64 : ac.tmps.getD 64 undef = .int .i64 fa := hv 10 64 rfl (by kernel_rfl)
        refine .inl ⟨wanted_of rfl rfl eg, gho_enters 16 #[.int .i64 fa] (by simp [go_sem, Act.eval, -Array.getD_eq_getD_getElem?, e64]) ?_⟩
        refine (unhide HSA w1).mono ?_
        rintro e w6 ⟨rfl, hw6⟩
        obtain rfl := hw6.symm
        exact ⟨_, γ, rfl, rfl, ⟨hD.1, trivial⟩, fun _ _ _ _ h => h⟩
      | 12, ho =>
        simp at ho
        subst ho
        have eg : ac.tmps.getD 62 undef = .bool true := hv 8 62 rfl (by kernel_rfl)
        have e65 : ac.tmps.getD 65 undef = .bool true := hv 11 65 rfl (by kernel_rfl)
        exact .inl ⟨wanted_of rfl rfl eg, gho_reads γ (.bool false) (by simp [go_sem, Act.eval, -Array.getD_eq_getD_getElem?, e65]) rfl (⟨hD.1, trivial⟩) (fun _ _ _ _ h => h)⟩
      | 13, ho =>
        simp at ho
        subst ho
        have eg : ac.tmps.getD 62 undef = .bool true := hv 8 62 rfl (by kernel_rfl)
        have e66 : ac.tmps.getD 66 undef = .bool false := hv 12 66 rfl (by kernel_rfl)
        exact .inl ⟨wanted_of rfl rfl eg, gho_reads γ (.bool false) (by simp [go_sem, Act.eval, -Array.getD_eq_getD_getElem?, e66]) rfl (⟨hD.1, trivial⟩) (fun _ _ _ _ h => h)⟩
      | 14, ho =>
        simp at ho
        subst ho
        have eg : ac.tmps.getD 67 undef = .bool false := hv 13 67 rfl (by kernel_rfl)
        have e7 : ac.tmps.getD 7 undef = .pointer (some ⟨w.heap.size + 2, 0, none⟩) := hout 7 (by decide +kernel)
        exact .inl ⟨wanted_of rfl rfl eg, gho_reads γ (.pointer (some ⟨w.heap.size + 2, 1, none⟩)) (by simp [go_sem, Act.eval, -Array.getD_eq_getD_getElem?, e7]) rfl (⟨hD.1, trivial⟩) (fun _ _ _ _ h => h)⟩
      | 15, ho =>
        simp at ho
        subst ho
        have eg : ac.tmps.getD 67 undef = .bool false := hv 13 67 rfl (by kernel_rfl)
        have e68 : ac.tmps.getD 68 undef = .pointer (some ⟨w.heap.size + 2, 1, none⟩) := hv 14 68 rfl (by kernel_rfl)
        have bb := (unhide HB7).below hD.1
        have c0 := bb.cell 2 rfl 1 rfl
        exact .inl ⟨wanted_of rfl rfl eg, gho_reads γ (.int .i64 fn) (by simp [go_sem, Act.eval, -Array.getD_eq_getD_getElem?, e68, c0]) rfl (⟨hD.1, trivial⟩) (fun _ _ _ _ h => h)⟩
      | 16, ho =>
        simp at ho
        subst ho
        have eg : ac.tmps.getD 67 undef = .bool false := hv 13 67 rfl (by kernel_rfl)
        have e69 : ac.tmps.getD 69 undef = .int .i64 fn := hv 15 69 rfl (by kernel_rfl)
        refine .inl ⟨wanted_of rfl rfl eg, gho_enters 16 #[.int .i64 fn] (by simp [go_sem, Act.eval, -Array.getD_eq_getD_getElem?, e69]) ?_⟩
        refine (unhide HSN w1).mono ?_
        rintro e w6 ⟨rfl, hw6⟩
        obtain rfl := hw6.symm
        exact ⟨_, γ, rfl, rfl, ⟨hD.1, trivial⟩, fun _ _ _ _ h => h⟩
      | 17, ho =>
        simp at ho
        subst ho
        have eg : ac.tmps.getD 67 undef = .bool false := hv 13 67 rfl (by kernel_rfl)
        have e70 : ac.tmps.getD 70 undef = .bool false := hv 16 70 rfl (by kernel_rfl)
        exact .inl ⟨wanted_of rfl rfl eg, gho_reads γ (.bool true) (by simp [go_sem, Act.eval, -Array.getD_eq_getD_getElem?, e70]) rfl (⟨hD.1, trivial⟩) (fun _ _ _ _ h => h)⟩
      | 18, ho =>
        simp at ho
        subst ho
        have eg : ac.tmps.getD 62 undef = .bool true := hv 8 62 rfl (by kernel_rfl)
        have e67 : ac.tmps.getD 67 undef = .bool false := hv 13 67 rfl (by kernel_rfl)
        have e71 : ac.tmps.getD 71 undef = .bool true := hv 17 71 rfl (by kernel_rfl)
        exact .inl ⟨wanted_of rfl rfl eg, gho_reads γ (.bool true) (by simp [go_sem, Act.eval, -Array.getD_eq_getD_getElem?, e67, e71]) rfl (⟨hD.1, trivial⟩) (fun _ _ _ _ h => h)⟩
      | 19, ho =>
        simp at ho
        subst ho
        have eg : ac.tmps.getD 62 undef = .bool true := hv 8 62 rfl (by kernel_rfl)
        have e72 : ac.tmps.getD 72 undef = .bool true := hv 18 72 rfl (by kernel_rfl)
        exact .inl ⟨wanted_of rfl rfl eg, gho_reads γ (.bool true) (by simp [go_sem, Act.eval, -Array.getD_eq_getD_getElem?, e72]) rfl (⟨hD.1, trivial⟩) (fun _ _ _ _ h => h)⟩
      | 20, ho =>
        simp at ho
        subst ho
        have eg : ac.tmps.getD 73 undef = .bool !false := hv 19 73 rfl (by kernel_rfl)
        exact .inr ⟨unwanted_of rfl rfl eg, rfl, ⟨hD.1, trivial⟩⟩
      | 21, ho =>
        simp at ho
        subst ho
        have eg : ac.tmps.getD 73 undef = .bool !false := hv 19 73 rfl (by kernel_rfl)
        exact .inr ⟨unwanted_of rfl rfl eg, rfl, ⟨hD.1, trivial⟩⟩
      | 22, ho =>
        simp at ho
        subst ho
        have eg : ac.tmps.getD 73 undef = .bool !false := hv 19 73 rfl (by kernel_rfl)
        exact .inr ⟨unwanted_of rfl rfl eg, rfl, ⟨hD.1, trivial⟩⟩
      | 23, ho =>
        simp at ho
        subst ho
        have eg : ac.tmps.getD 73 undef = .bool !false := hv 19 73 rfl (by kernel_rfl)
        exact .inr ⟨unwanted_of rfl rfl eg, rfl, ⟨hD.1, trivial⟩⟩
      | 24, ho =>
        simp at ho
        subst ho
        have eg : ac.tmps.getD 73 undef = .bool !false := hv 19 73 rfl (by kernel_rfl)
        exact .inr ⟨unwanted_of rfl rfl eg, rfl, ⟨hD.1, trivial⟩⟩
      | 25, ho =>
        simp at ho
        subst ho
        have eg : ac.tmps.getD 73 undef = .bool !false := hv 19 73 rfl (by kernel_rfl)
        exact .inr ⟨unwanted_of rfl rfl eg, rfl, ⟨hD.1, trivial⟩⟩
      | 26, ho =>
        simp at ho
        subst ho
        have eg : ac.tmps.getD 73 undef = .bool !false := hv 19 73 rfl (by kernel_rfl)
        exact .inr ⟨unwanted_of rfl rfl eg, rfl, ⟨hD.1, trivial⟩⟩
      | 27, ho =>
        simp at ho
        subst ho
        have eg : ac.tmps.getD 62 undef = .bool true := hv 8 62 rfl (by kernel_rfl)
        have e73 : ac.tmps.getD 73 undef = .bool true := hv 19 73 rfl (by kernel_rfl)
        exact .inl ⟨wanted_of rfl rfl eg, gho_reads γ (.bool true) (by simp [go_sem, Act.eval, -Array.getD_eq_getD_getElem?, e73]) rfl (⟨hD.1, trivial⟩) (fun _ _ _ _ h => h)⟩
      | 28, ho =>
        simp at ho
        subst ho
        have e62 : ac.tmps.getD 62 undef = .bool true := hv 8 62 rfl (by kernel_rfl)
        have e81 : ac.tmps.getD 81 undef = .bool true := hv 27 81 rfl (by kernel_rfl)
        exact .inl ⟨rfl, gho_reads γ (.bool true) (by simp [go_sem, Act.eval, -Array.getD_eq_getD_getElem?, e62, e81]) rfl (⟨hD.1, trivial⟩) (fun _ _ _ _ h => h)⟩
      | 29, ho =>
        simp at ho
        subst ho
        have e82 : ac.tmps.getD 82 undef = .bool true := hv 28 82 rfl (by kernel_rfl)
        exact .inl ⟨rfl, gho_reads γ (.bool true) (by simp [go_sem, Act.eval, -Array.getD_eq_getD_getElem?, e82]) rfl (⟨hD.1, trivial⟩) (fun _ _ _ _ h => h)⟩
      | ix + 30, ho => simp at ho
    case hend2 =>
      intro γ v L w9 hD hall hv
      have v29 : v 29 = .bool true := hv 29 8 rfl
      have HD := hide hD.1
      clear hv hall hD h0
      simp only [putOps, List.getElem?_cons_zero, List.getElem?_cons_succ, Option.bind_some, List.length_cons, List.length_nil, Nat.reduceAdd, v29]
      clear v29
      go_frame
      go_wp2
      go_ret
      exact ⟨rfl, (unhide HL7).trans ((unhide HD).mono (unhide HL7).size)⟩
set_option maxRecDepth 8000 in
set_option maxHeartbeats 4000000 in
theorem both_sets (A : Option Addr) (cap : Nat) (G : Option Addr) (gcap : Nat) (X : Wd) (i g p fa fn : Int) (w : World) (hX : WldAt w A cap G gcap X) (hr : RightW X) (ha : setB fa = true) (hn : setB fn = true) :
    Calls Try.prog 10 #[wldV A cap G gcap X, beingV i g, .int .i64 p, .agg #[.int .i64 fa, .int .i64 fn]] w fun e w' => e = .returned (.bool true) ∧ Below w.heap.size w w' := by
  obtain ⟨hl, hgl, _⟩ := right_hr ((right_iff X).2 hr)
  have hOF := fun W (hb : Below w.heap.size w W) => of_right A cap G gcap X W (hX.below hb) hr
  unfold wldV worldV stV at hOF
  have HOF := hide hOF
  have hSA := rset_any fa
  rw [ha] at hSA
  have HSA := hide hSA
  have hSN := rset_any fn
  rw [hn] at hSN
  have HSN := hide hSN
  clear hSN hn
  clear hOF hSA ha hr
  have hB0 := Bxs.start w [([.slice A X.rows.length cap, .slice G X.gens.length gcap], 38), ([.int .i64 i, .int .i64 g], 40), ([.int .i64 fa, .int .i64 fn], 32)]
  have hb0 := allocs_below [([.slice A X.rows.length cap, .slice G X.gens.length gcap], 38), ([.int .i64 i, .int .i64 g], 40), ([.int .i64 fa, .int .i64 fn], 32)] w
  obtain ⟨W0, hW0⟩ : ∃ W0, W0 = allocs w [([.slice A X.rows.length cap, .slice G X.gens.length gcap], 38), ([.int .i64 i, .int .i64 g], 40), ([.int .i64 fa, .int .i64 fn], 32)] := ⟨_, rfl⟩
  rw [← hW0] at hB0 hb0
  have hW0' : ((w.alloc (.cells #[.slice A X.rows.length cap, .slice G X.gens.length gcap] 38)).alloc (.cells #[.int .i64 i, .int .i64 g] 40)).alloc (.cells #[.int .i64 fa, .int .i64 fn] 32) = W0 := hW0.symm
  have HW0 := hide hW0'
  have HB0 := hide hB0
  have HL0 := hide hb0
  have HX := hide hX
  clear hW0 hW0' hB0 hb0 hX
  unfold wldV worldV beingV
  go_enter Try.func10, Try.ntmps10
  go_wp2_with fail
  go_at_call 66
  rw [unhide HW0]
  refine (alive3_any W0).mono ?_
  rintro e w1 ⟨rfl, hb1⟩
  have hB1 := (unhide HB0).below hb1
  have hL1 := (unhide HL0).trans (hb1.mono (unhide HL0).size)
  have c0 := hB1.cell 0 rfl 0 rfl
  have c1 := hB1.cell 0 rfl 1 rfl
  rw [Nat.add_zero] at c0 c1
  have HB1 := hide hB1
  have HL1 := hide hL1
  clear hB1 hL1 hb1 HW0 HB0 HL0
  go_wp2_with fail
  go_at_call 60
  refine (unhide HOF _ (unhide HL1)).mono ?_
  rintro e w2 ⟨T2, tc2, G2, gc2, rfl, hN2, hb2⟩
  have hB2 := Bxs.start w2 [([.slice T2 (tabsW X).length tc2, .slice G2 X.gens.length gc2], 71), ([.int .i64 0, .int .i64 0], 43)]
  have hb3 := allocs_below [([.slice T2 (tabsW X).length tc2, .slice G2 X.gens.length gc2], 71), ([.int .i64 0, .int .i64 0], 43)] w2
  obtain ⟨W3, hW3⟩ : ∃ W3, W3 = allocs w2 [([.slice T2 (tabsW X).length tc2, .slice G2 X.gens.length gc2], 71), ([.int .i64 0, .int .i64 0], 43)] := ⟨_, rfl⟩
  rw [← hW3] at hB2 hb3
  have hL2 := (unhide HL1).trans (hb2.mono (unhide HL1).size)
  have HL3 := hide (hL2.trans (hb3.mono hL2.size))
  have HB3 := hide (((unhide HB1).below hb2).below hb3)
  have HC3 := hide hB2
  have HT3 := hide (hN2.below hb3).st
  have HX3 := hide ((unhide HX).below (hL2.trans (hb3.mono hL2.size)))
  have hW3' : (w2.alloc (.cells #[.slice T2 (tabsW X).length tc2, .slice G2 X.gens.length gc2] 71)).alloc (.cells #[.int .i64 0, .int .i64 0] 43) = W3 := hW3.symm
  have HW3 := hide hW3'
  clear c0 c1 hB2 hb3 hb2 hL2 hW3 hW3' hN2 HB1 HL1 HOF HX
  go_wp2_with fail
  rw [unhide HW3]
  have h0 : Below W3.heap.size W3 W3.drew ∧ ((fun (_ : Nat) => false) 6 = true → ∃ A' c' G' gc', undef = .agg #[.slice A' X.rows.length c', .slice G' X.gens.length gc'] ∧ WldAt W3.drew A' c' G' gc' X) := ⟨(Below.refl _ _).drew, fun e => by cases e⟩
  refine wp_region_gho (fun (γ : Value) ix v => if ix = 6 then v = γ else (([fun v => v = .agg #[.slice T2 (tabsW X).length tc2, .slice G2 X.gens.length gc2], fun v => v = .agg #[.int .i64 0, .int .i64 0], fun v => v = .int .i64 0, fun v => v = .bool false, fun v => v = .bool false, fun v => v = .agg #[.slice T2 (tabsW X).length tc2, .slice G2 X.gens.length gc2], fun _ => True, fun v => v = .agg #[.slice A X.rows.length cap, .slice G X.gens.length gcap], fun v => v = .bool true, fun v => v = .bool false, fun v => v = .bool false] : List (Value → Prop)).getD ix (fun _ => True)) v) (fun (γ : Value) L W => Below W3.heap.size W3 W ∧ (L 6 = true → ∃ A' c' G' gc', γ = .agg #[.slice A' X.rows.length c', .slice G' X.gens.length gc'] ∧ WldAt W A' c' G' gc' X)) (undef) (by kernel_rfl) (by kernel_rfl) (by kernel_rfl) h0 ?hstep ?hend
  case hstep =>
    intro γ ix o ho L ac w1 hD hL hed hcl hout hv
    match ix, ho with
    | 0, ho =>
      simp at ho
      subst ho
      have e9 : ac.tmps.getD 9 undef = .pointer (some ⟨w2.heap.size, 0, none⟩) := hout 9 (by decide +kernel)
      have bb := (unhide HC3).below hD.1
      have c0 := bb.cell 0 rfl 0 rfl
      have c1 := bb.cell 0 rfl 1 rfl
      rw [Nat.add_zero] at c0 c1
      exact .inl ⟨rfl, gho_reads γ (.agg #[.slice T2 (tabsW X).length tc2, .slice G2 X.gens.length gc2]) (by simp [go_sem, Act.eval, -Array.getD_eq_getD_getElem?, e9, c0, c1]) rfl (⟨hD.1, by rw [upd_ne (by decide)]; exact hD.2⟩) (fun _ _ _ _ h => h)⟩
    | 1, ho =>
      simp at ho
      subst ho
      have e29 : ac.tmps.getD 29 undef = .agg #[.slice T2 (tabsW X).length tc2, .slice G2 X.gens.length gc2] := hv 0 29 rfl (by kernel_rfl)
      refine .inl ⟨rfl, gho_enters 54 #[.agg #[.slice T2 (tabsW X).length tc2, .slice G2 X.gens.length gc2]] (by simp [go_sem, Act.eval, -Array.getD_eq_getD_getElem?, e29]) ?_⟩
      refine (swrong_any T2 tc2 G2 gc2 (tabsW X) X w1 ((unhide HT3).below hD.1)).mono ?_
      rintro e w6 ⟨rfl, hb6⟩
      exact ⟨_, γ, rfl, rfl, ⟨hD.1.trans (hb6.mono hD.1.size), fun e => (by obtain ⟨A1, c1, G1, gc1, a, b⟩ := hD.2 (by rwa [upd_ne (by decide)] at e); exact ⟨A1, c1, G1, gc1, a, b.below hb6⟩)⟩, fun _ _ _ _ h => h⟩
    | 2, ho =>
      simp at ho
      subst ho
      have e30 : ac.tmps.getD 30 undef = .agg #[.int .i64 0, .int .i64 0] := hv 1 30 rfl (by kernel_rfl)
      have hf := run_field43 (.int .i64 0) (.int .i64 0) w1
      exact .inl ⟨rfl, gho_reads γ (.int .i64 0) (by simp [go_sem, Act.eval, -Array.getD_eq_getD_getElem?, e30, hf]) rfl (⟨hD.1, by rw [upd_ne (by decide)]; exact hD.2⟩) (fun _ _ _ _ h => h)⟩
    | 3, ho =>
      simp at ho
      subst ho
      have e31 : ac.tmps.getD 31 undef = .int .i64 0 := hv 2 31 rfl (by kernel_rfl)
      exact .inl ⟨rfl, gho_reads γ (.bool false) (by simp [go_sem, Act.eval, -Array.getD_eq_getD_getElem?, e31]) rfl (⟨hD.1, by rw [upd_ne (by decide)]; exact hD.2⟩) (fun _ _ _ _ h => h)⟩
    | 4, ho =>
      simp at ho
      subst ho
      have e32 : ac.tmps.getD 32 undef = .bool false := hv 3 32 rfl (by kernel_rfl)
      exact .inl ⟨rfl, gho_reads γ (.bool false) (by simp [go_sem, Act.eval, -Array.getD_eq_getD_getElem?, e32]) rfl (⟨hD.1, by rw [upd_ne (by decide)]; exact hD.2⟩) (fun _ _ _ _ h => h)⟩
    | 5, ho =>
      simp at ho
      subst ho
      have eg : ac.tmps.getD 33 undef = .bool false := hv 4 33 rfl (by kernel_rfl)
      have e9 : ac.tmps.getD 9 undef = .pointer (some ⟨w2.heap.size, 0, none⟩) := hout 9 (by decide +kernel)
      have bb := (unhide HC3).below hD.1
      have c0 := bb.cell 0 rfl 0 rfl
      have c1 := bb.cell 0 rfl 1 rfl
      rw [Nat.add_zero] at c0 c1
      exact .inl ⟨wanted_of rfl rfl eg, gho_reads γ (.agg #[.slice T2 (tabsW X).length tc2, .slice G2 X.gens.length gc2]) (by simp [go_sem, Act.eval, -Array.getD_eq_getD_getElem?, e9, c0, c1]) rfl (⟨hD.1, by rw [upd_ne (by decide)]; exact hD.2⟩) (fun _ _ _ _ h => h)⟩
    | 6, ho =>
      simp at ho
      subst ho
      have eg : ac.tmps.getD 33 undef = .bool false := hv 4 33 rfl (by kernel_rfl)
      have e34 : ac.tmps.getD 34 undef = .agg #[.slice T2 (tabsW X).length tc2, .slice G2 X.gens.length gc2] := hv 5 34 rfl (by kernel_rfl)
      refine .inl ⟨wanted_of rfl rfl eg, gho_enters 58 #[.agg #[.slice T2 (tabsW X).length tc2, .slice G2 X.gens.length gc2]] (by simp [go_sem, Act.eval, -Array.getD_eq_getD_getElem?, e34]) ?_⟩
      refine (sworld_any T2 tc2 G2 gc2 (tabsW X) X w1 ((unhide HT3).below hD.1)).mono ?_
      rintro e w6 ⟨A6, c6, G6, gc6, rfl, hN6, hb6⟩
      exact ⟨_, wldV A6 c6 G6 gc6 X, rfl, rfl, ⟨hD.1.trans (hb6.mono hD.1.size), fun _ => ⟨A6, c6, G6, gc6, rfl, hN6.toWldAt⟩⟩, fun j u hj hLj h => by simpa [hj] using h⟩
    | 7, ho =>
      simp at ho
      subst ho
      have eg : ac.tmps.getD 33 undef = .bool false := hv 4 33 rfl (by kernel_rfl)
      have e4 : ac.tmps.getD 4 undef = .pointer (some ⟨w.heap.size, 0, none⟩) := hout 4 (by decide +kernel)
      have bb := (unhide HB3).below hD.1
      have c0 := bb.cell 0 rfl 0 rfl
      have c1 := bb.cell 0 rfl 1 rfl
      rw [Nat.add_zero] at c0 c1
      exact .inl ⟨wanted_of rfl rfl eg, gho_reads γ (.agg #[.slice A X.rows.length cap, .slice G X.gens.length gcap]) (by simp [go_sem, Act.eval, -Array.getD_eq_getD_getElem?, e4, c0, c1]) rfl (⟨hD.1, by rw [upd_ne (by decide)]; exact hD.2⟩) (fun _ _ _ _ h => h)⟩
    | 8, ho =>
      simp at ho
      subst ho
      have eg : ac.tmps.getD 33 undef = .bool false := hv 4 33 rfl (by kernel_rfl)
      have e35 : ac.tmps.getD 35 undef = γ := hv 6 35 rfl (by kernel_rfl)
      have e36 : ac.tmps.getD 36 undef = .agg #[.slice A X.rows.length cap, .slice G X.gens.length gcap] := hv 7 36 rfl (by kernel_rfl)
      obtain ⟨A1, c1, G1, gc1, hγ, hX1⟩ := hD.2 (hed 6 (by kernel_rfl))
      rw [hγ] at e35
      refine .inl ⟨wanted_of rfl rfl eg, gho_enters 36 #[.agg #[.slice A1 X.rows.length c1, .slice G1 X.gens.length gc1], .agg #[.slice A X.rows.length cap, .slice G X.gens.length gcap]] (by simp [go_sem, Act.eval, -Array.getD_eq_getD_getElem?, e35, e36]) ?_⟩
      refine (same_ws hl hgl w1 A1 c1 G1 gc1 A cap G gcap hX1 ((unhide HX3).below hD.1)).mono ?_
      rintro e w6 ⟨rfl, hb6⟩
      exact ⟨_, γ, rfl, rfl, ⟨hD.1.trans (hb6.mono hD.1.size), fun _ => ⟨A1, c1, G1, gc1, hγ, hX1.below hb6⟩⟩, fun _ _ _ _ h => h⟩
    | 9, ho =>
      simp at ho
      subst ho
      have eg : ac.tmps.getD 33 undef = .bool false := hv 4 33 rfl (by kernel_rfl)
      have e37 : ac.tmps.getD 37 undef = .bool true := hv 8 37 rfl (by kernel_rfl)
      exact .inl ⟨wanted_of rfl rfl eg, gho_reads γ (.bool false) (by simp [go_sem, Act.eval, -Array.getD_eq_getD_getElem?, e37]) rfl (⟨hD.1, by rw [upd_ne (by decide)]; exact hD.2⟩) (fun _ _ _ _ h => h)⟩
    | 10, ho =>
      simp at ho
      subst ho
      have e33 : ac.tmps.getD 33 undef = .bool false := hv 4 33 rfl (by kernel_rfl)
      have e38 : ac.tmps.getD 38 undef = .bool false := hv 9 38 rfl (by kernel_rfl)
      exact .inl ⟨rfl, gho_reads γ (.bool false) (by simp [go_sem, Act.eval, -Array.getD_eq_getD_getElem?, e33, e38]) rfl (⟨hD.1, by rw [upd_ne (by decide)]; exact hD.2⟩) (fun _ _ _ _ h => h)⟩
    | ix + 11, ho => simp at ho
  case hend =>
    intro γ v L w4 hD hall hv
    have v10 : v 10 = .bool false := hv 10 39 rfl
    have hb4 := hD.1
    clear hv hall hD h0
    simp only [putOps, List.getElem?_cons_zero, List.getElem?_cons_succ, Option.bind_some, List.length_cons, List.length_nil, Nat.reduceAdd, v10]
    clear v10
    go_frame
    have hB4 := (unhide HB3).below hb4
    have hC4 := (unhide HC3).below hb4
    have HL4 := hide ((unhide HL3).trans (hb4.mono (unhide HL3).size))
    have HT4 := hide ((unhide HT3).below hb4)
    have HX4 := hide ((unhide HX3).below hb4)
    have s0 := hC4.cell 0 rfl 0 rfl
    have s1 := hC4.cell 0 rfl 1 rfl
    have b0 := hB4.cell 1 rfl 0 rfl
    have b1 := hB4.cell 1 rfl 1 rfl
    rw [Nat.add_zero] at s0 s1
    have HB4 := hide hB4
    have HC4 := hide hC4
    clear hB4 hC4 hb4 HB3 HC3 HL3 HT3 HX3 HW3
    go_wp2_with fail
    go_at_call 67
    refine (sget_any T2 tc2 G2 gc2 (tabsW X) X i g p w4 (unhide HT4)).mono ?_
    rintro e w5 ⟨rfl, hb5⟩
    have hB5 := (unhide HB4).below hb5
    have HC5 := hide ((unhide HC4).below hb5)
    have HL5 := hide ((unhide HL4).trans (hb5.mono (unhide HL4).size))
    have HT5 := hide ((unhide HT4).below hb5)
    have HX5 := hide ((unhide HX4).below hb5)
    clear s0 s1 b0 b1
    have s0 := hB5.cell 0 rfl 0 rfl
    have s1 := hB5.cell 0 rfl 1 rfl
    have b0 := hB5.cell 1 rfl 0 rfl
    have b1 := hB5.cell 1 rfl 1 rfl
    rw [Nat.add_zero] at s0 s1
    have HB5 := hide hB5
    clear hB5 hb5 HB4 HC4 HL4 HT4 HX4
    go_wp2_with fail
    go_at_call 48
    refine (get_us X hl i g p w5 A cap G gcap (unhide HX5)).mono ?_
    rintro e w7 ⟨rfl, hb7⟩
    rw [show getI (fun j => X.rows.getD j dR) X.rows.length i g p = getW X i g p from rfl]
    obtain ⟨gv, hgv⟩ : ∃ gv, gv = (getW X i g p).1 := ⟨_, rfl⟩
    obtain ⟨gb, hgb⟩ : ∃ gb, gb = (getW X i g p).2 := ⟨_, rfl⟩
    rw [← hgv, ← hgb]
    have HB7 := hide ((unhide HB5).below hb7)
    have HC7 := hide ((unhide HC5).below hb7)
    have HL7 := hide ((unhide HL5).trans (hb7.mono (unhide HL5).size))
    have HT7 := hide ((unhide HT5).below hb7)
    have HX7 := hide ((unhide HX5).below hb7)
    clear s0 s1 b0 b1 hb7 HB5 HC5 HL5 HT5 HX5 hgv hgb
    go_wp2_with fail
    have h0 : Below w7.heap.size w7 w7.drew ∧ ((fun (_ : Nat) => false) 22 = true → ∃ A1 c1, ((undef, undef) : Value × Value).1 = .slice A1 (bsTo X fa fn X.rows.length).length c1 ∧ BsAt w7.drew A1 (bsTo X fa fn X.rows.length)) ∧ ((fun (_ : Nat) => false) 25 = true → ∃ A1 c1, ((undef, undef) : Value × Value).2 = .slice A1 (bsTo X fa fn X.rows.length).length c1 ∧ BsAt w7.drew A1 (bsTo X fa fn X.rows.length)) := ⟨(Below.refl _ _).drew, fun e => (by cases e), fun e => by cases e⟩
    refine wp_region_gho (fun (γ : Value × Value) ix v => if ix = 22 then v = γ.1 else if ix = 25 then v = γ.2 else (([fun v => v = .int .i64 gv, fun v => v = .int .i64 gv, fun v => v = .bool true, fun v => v = .bool true, fun v => v = .bool gb, fun v => v = .bool gb, fun v => v = .bool true, fun v => v = .bool true, fun v => v = .bool true, fun v => v = .pointer (some ⟨w.heap.size + 2, 0, none⟩), fun v => v = .int .i64 fa, fun v => v = .bool true, fun v => v = .bool false, fun v => v = .bool false, fun v => v = .pointer (some ⟨w.heap.size + 2, 1, none⟩), fun v => v = .int .i64 fn, fun v => v = .bool true, fun v => v = .bool false, fun v => v = .bool false, fun v => v = .bool false, fun v => v = .agg #[.slice T2 (tabsW X).length tc2, .slice G2 X.gens.length gc2], fun v => v = .agg #[.int .i64 fa, .int .i64 fn], fun _ => True, fun v => v = .agg #[.slice A X.rows.length cap, .slice G X.gens.length gcap], fun v => v = .agg #[.int .i64 fa, .int .i64 fn], fun _ => True, fun v => v = .bool true, fun v => v = .bool true, fun v => v = .bool true, fun v => v = .bool true] : List (Value → Prop)).getD ix (fun _ => True)) v) (fun (γ : Value × Value) L W => Below w7.heap.size w7 W ∧ (L 22 = true → ∃ A1 c1, γ.1 = .slice A1 (bsTo X fa fn X.rows.length).length c1 ∧ BsAt W A1 (bsTo X fa fn X.rows.length)) ∧ (L 25 = true → ∃ A1 c1, γ.2 = .slice A1 (bsTo X fa fn X.rows.length).length c1 ∧ BsAt W A1 (bsTo X fa fn X.rows.length))) ((undef, undef)) (by kernel_rfl) (by kernel_rfl) (by kernel_rfl) h0 ?hstep ?hend2
    case hstep =>
      intro γ ix o ho L ac w1 hD hL hed hcl hout hv
      match ix, ho with
      | 0, ho =>
        simp at ho
        subst ho
        have e11 : ac.tmps.getD 11 undef = .int .i64 gv := hout 11 (by decide +kernel)
        exact .inl ⟨rfl, gho_reads γ (.int .i64 gv) (by simp [go_sem, Act.eval, -Array.getD_eq_getD_getElem?, e11]) rfl (⟨hD.1, by rw [upd_ne (by decide)]; exact hD.2.1, by rw [upd_ne (by decide)]; exact hD.2.2⟩) (fun _ _ _ _ h => h)⟩
      | 1, ho =>
        simp at ho
        subst ho
        have e13 : ac.tmps.getD 13 undef = .int .i64 gv := hout 13 (by decide +kernel)
        exact .inl ⟨rfl, gho_reads γ (.int .i64 gv) (by simp [go_sem, Act.eval, -Array.getD_eq_getD_getElem?, e13]) rfl (⟨hD.1, by rw [upd_ne (by decide)]; exact hD.2.1, by rw [upd_ne (by decide)]; exact hD.2.2⟩) (fun _ _ _ _ h => h)⟩
      | 2, ho =>
        simp at ho
        subst ho
        have e54 : ac.tmps.getD 54 undef = .int .i64 gv := hv 0 54 rfl (by kernel_rfl)
        have e55 : ac.tmps.getD 55 undef = .int .i64 gv := hv 1 55 rfl (by kernel_rfl)
        exact .inl ⟨rfl, gho_reads γ (.bool true) (by simp [go_sem, Act.eval, -Array.getD_eq_getD_getElem?, e54, e55]) rfl (⟨hD.1, by rw [upd_ne (by decide)]; exact hD.2.1, by rw [upd_ne (by decide)]; exact hD.2.2⟩) (fun _ _ _ _ h => h)⟩
      | 3, ho =>
        simp at ho
        subst ho
        have e56 : ac.tmps.getD 56 undef = .bool true := hv 2 56 rfl (by kernel_rfl)
        exact .inl ⟨rfl, gho_reads γ (.bool true) (by simp [go_sem, Act.eval, -Array.getD_eq_getD_getElem?, e56]) rfl (⟨hD.1, by rw [upd_ne (by decide)]; exact hD.2.1, by rw [upd_ne (by decide)]; exact hD.2.2⟩) (fun _ _ _ _ h => h)⟩
      | 4, ho =>
        simp at ho
        subst ho
        have eg : ac.tmps.getD 57 undef = .bool true := hv 3 57 rfl (by kernel_rfl)
        have e12 : ac.tmps.getD 12 undef = .bool gb := hout 12 (by decide +kernel)
        exact .inl ⟨wanted_of rfl rfl eg, gho_reads γ (.bool gb) (by simp [go_sem, Act.eval, -Array.getD_eq_getD_getElem?, e12]) rfl (⟨hD.1, by rw [upd_ne (by decide)]; exact hD.2.1, by rw [upd_ne (by decide)]; exact hD.2.2⟩) (fun _ _ _ _ h => h)⟩
      | 5, ho =>
        simp at ho
        subst ho
        have eg : ac.tmps.getD 57 undef = .bool true := hv 3 57 rfl (by kernel_rfl)
        have e14 : ac.tmps.getD 14 undef = .bool gb := hout 14 (by decide +kernel)
        exact .inl ⟨wanted_of rfl rfl eg, gho_reads γ (.bool gb) (by simp [go_sem, Act.eval, -Array.getD_eq_getD_getElem?, e14]) rfl (⟨hD.1, by rw [upd_ne (by decide)]; exact hD.2.1, by rw [upd_ne (by decide)]; exact hD.2.2⟩) (fun _ _ _ _ h => h)⟩
      | 6, ho =>
        simp at ho
        subst ho
        have eg : ac.tmps.getD 57 undef = .bool true := hv 3 57 rfl (by kernel_rfl)
        have e58 : ac.tmps.getD 58 undef = .bool gb := hv 4 58 rfl (by kernel_rfl)
        have e59 : ac.tmps.getD 59 undef = .bool gb := hv 5 59 rfl (by kernel_rfl)
        exact .inl ⟨wanted_of rfl rfl eg, gho_reads γ (.bool true) (by simp [go_sem, Act.eval, -Array.getD_eq_getD_getElem?, e58, e59]) rfl (⟨hD.1, by rw [upd_ne (by decide)]; exact hD.2.1, by rw [upd_ne (by decide)]; exact hD.2.2⟩) (fun _ _ _ _ h => h)⟩
      | 7, ho =>
        simp at ho
        subst ho
        have e57 : ac.tmps.getD 57 undef = .bool true := hv 3 57 rfl (by kernel_rfl)
        have e60 : ac.tmps.getD 60 undef = .bool true := hv 6 60 rfl (by kernel_rfl)
        exact .inl ⟨rfl, gho_reads γ (.bool true) (by simp [go_sem, Act.eval, -Array.getD_eq_getD_getElem?, e57, e60]) rfl (⟨hD.1, by rw [upd_ne (by decide)]; exact hD.2.1, by rw [upd_ne (by decide)]; exact hD.2.2⟩) (fun _ _ _ _ h => h)⟩
      | 8, ho =>
        simp at ho
        subst ho
        have e61 : ac.tmps.getD 61 undef = .bool true := hv 7 61 rfl (by kernel_rfl)
        exact .inl ⟨rfl, gho_reads γ (.bool true) (by simp [go_sem, Act.eval, -Array.getD_eq_getD_getElem?, e61]) rfl (⟨hD.1, by rw [upd_ne (by decide)]; exact hD.2.1, by rw [upd_ne (by decide)]; exact hD.2.2⟩) (fun _ _ _ _ h => h)⟩
      | 9, ho =>
        simp at ho
        subst ho
        have eg : ac.tmps.getD 62 undef = .bool true := hv 8 62 rfl (by kernel_rfl)
        have e7 : ac.tmps.getD 7 undef = .pointer (some ⟨w.heap.size + 2, 0, none⟩) := hout 7 (by decide +kernel)
        exact .inl ⟨wanted_of rfl rfl eg, gho_reads γ (.pointer (some ⟨w.heap.size + 2, 0, none⟩)) (by simp [go_sem, Act.eval, -Array.getD_eq_getD_getElem?, e7]) rfl (⟨hD.1, by rw [upd_ne (by decide)]; exact hD.2.1, by rw [upd_ne (by decide)]; exact hD.2.2⟩) (fun _ _ _ _ h => h)⟩
      | 10, ho =>
        simp at ho
        subst ho
        have eg : ac.tmps.getD 62 undef = .bool true := hv 8 62 rfl (by kernel_rfl)
        have e63 : ac.tmps.getD 63 undef = .pointer (some ⟨w.heap.size + 2, 0, none⟩) := hv 9 63 rfl (by kernel_rfl)
        have bb := (unhide HB7).below hD.1
        have c0 := bb.cell 2 rfl 0 rfl
        exact .inl ⟨wanted_of rfl rfl eg, gho_reads γ (.int .i64 fa) (by simp [go_sem, Act.eval, -Array.getD_eq_getD_getElem?, e63, c0]) rfl (⟨hD.1, by rw [upd_ne (by decide)]; exact hD.2.1, by rw [upd_ne (by decide)]; exact hD.2.2⟩) (fun _ _ _ _ h => h)⟩
      | 11, ho =>
        simp at ho
        subst ho
        have eg : ac.tmps.getD 62 undef = .bool true := hv 8 62 rfl (by kernel_rfl)
        have e64 : ac.tmps.getD 64 undef = .int .i64 fa := hv 10 64 rfl (by kernel_rfl)
        refine .inl ⟨wanted_of rfl rfl eg, gho_enters 16 #[.int .i64 fa] (by simp [go_sem, Act.eval, -Array.getD_eq_getD_getElem?, e64]) ?_⟩
        refine (unhide HSA w1).mono ?_
        rintro e w6 ⟨rfl, hw6⟩
        obtain rfl := hw6.symm
        exact ⟨_, γ, rfl, rfl, ⟨hD.1, by rw [upd_ne (by decide)]; exact hD.2.1, by rw [upd_ne (by decide)]; exact hD.2.2⟩, fun _ _ _ _ h => h⟩
      | 12, ho =>
        simp at ho
        subst ho
        have eg : ac.tmps.getD 62 undef = .bool true := hv 8 62 rfl (by kernel_rfl)
        have e65 : ac.tmps.getD 65 undef = .bool true := hv 11 65 rfl (by kernel_rfl)
        exact .inl ⟨wanted_of rfl rfl eg, gho_reads γ (.bool false) (by simp [go_sem, Act.eval, -Array.getD_eq_getD_getElem?, e65]) rfl (⟨hD.1, by rw [upd_ne (by decide)]; exact hD.2.1, by rw [upd_ne (by decide)]; exact hD.2.2⟩) (fun _ _ _ _ h => h)⟩
      | 13, ho =>
        simp at ho
        subst ho
        have eg : ac.tmps.getD 62 undef = .bool true := hv 8 62 rfl (by kernel_rfl)
        have e66 : ac.tmps.getD 66 undef = .bool false := hv 12 66 rfl (by kernel_rfl)
        exact .inl ⟨wanted_of rfl rfl eg, gho_reads γ (.bool false) (by simp [go_sem, Act.eval, -Array.getD_eq_getD_getElem?, e66]) rfl (⟨hD.1, by rw [upd_ne (by decide)]; exact hD.2.1, by rw [upd_ne (by decide)]; exact hD.2.2⟩) (fun _ _ _ _ h => h)⟩
      | 14, ho =>
        simp at ho
        subst ho
        have eg : ac.tmps.getD 67 undef = .bool false := hv 13 67 rfl (by kernel_rfl)
        have e7 : ac.tmps.getD 7 undef = .pointer (some ⟨w.heap.size + 2, 0, none⟩) := hout 7 (by decide +kernel)
        exact .inl ⟨wanted_of rfl rfl eg, gho_reads γ (.pointer (some ⟨w.heap.size + 2, 1, none⟩)) (by simp [go_sem, Act.eval, -Array.getD_eq_getD_getElem?, e7]) rfl (⟨hD.1, by rw [upd_ne (by decide)]; exact hD.2.1, by rw [upd_ne (by decide)]; exact hD.2.2⟩) (fun _ _ _ _ h => h)⟩
      | 15, ho =>
        simp at ho
        subst ho
        have eg : ac.tmps.getD 67 undef = .bool false := hv 13 67 rfl (by kernel_rfl)
        have e68 : ac.tmps.getD 68 undef = .pointer (some ⟨w.heap.size + 2, 1, none⟩) := hv 14 68 rfl (by kernel_rfl)
        have bb := (unhide HB7).below hD.1
        have c0 := bb.cell 2 rfl 1 rfl
        exact .inl ⟨wanted_of rfl rfl eg, gho_reads γ (.int .i64 fn) (by simp [go_sem, Act.eval, -Array.getD_eq_getD_getElem?, e68, c0]) rfl (⟨hD.1, by rw [upd_ne (by decide)]; exact hD.2.1, by rw [upd_ne (by decide)]; exact hD.2.2⟩) (fun _ _ _ _ h => h)⟩
      | 16, ho =>
        simp at ho
        subst ho
        have eg : ac.tmps.getD 67 undef = .bool false := hv 13 67 rfl (by kernel_rfl)
        have e69 : ac.tmps.getD 69 undef = .int .i64 fn := hv 15 69 rfl (by kernel_rfl)
        refine .inl ⟨wanted_of rfl rfl eg, gho_enters 16 #[.int .i64 fn] (by simp [go_sem, Act.eval, -Array.getD_eq_getD_getElem?, e69]) ?_⟩
        refine (unhide HSN w1).mono ?_
        rintro e w6 ⟨rfl, hw6⟩
        obtain rfl := hw6.symm
        exact ⟨_, γ, rfl, rfl, ⟨hD.1, by rw [upd_ne (by decide)]; exact hD.2.1, by rw [upd_ne (by decide)]; exact hD.2.2⟩, fun _ _ _ _ h => h⟩
      | 17, ho =>
        simp at ho
        subst ho
        have eg : ac.tmps.getD 67 undef = .bool false := hv 13 67 rfl (by kernel_rfl)
        have e70 : ac.tmps.getD 70 undef = .bool true := hv 16 70 rfl (by kernel_rfl)
        exact .inl ⟨wanted_of rfl rfl eg, gho_reads γ (.bool false) (by simp [go_sem, Act.eval, -Array.getD_eq_getD_getElem?, e70]) rfl (⟨hD.1, by rw [upd_ne (by decide)]; exact hD.2.1, by rw [upd_ne (by decide)]; exact hD.2.2⟩) (fun _ _ _ _ h => h)⟩
      | 18, ho =>
        simp at ho
        subst ho
        have eg : ac.tmps.getD 62 undef = .bool true := hv 8 62 rfl (by kernel_rfl)
        have e67 : ac.tmps.getD 67 undef = .bool false := hv 13 67 rfl (by kernel_rfl)
        have e71 : ac.tmps.getD 71 undef = .bool false := hv 17 71 rfl (by kernel_rfl)
        exact .inl ⟨wanted_of rfl rfl eg, gho_reads γ (.bool false) (by simp [go_sem, Act.eval, -Array.getD_eq_getD_getElem?, e67, e71]) rfl (⟨hD.1, by rw [upd_ne (by decide)]; exact hD.2.1, by rw [upd_ne (by decide)]; exact hD.2.2⟩) (fun _ _ _ _ h => h)⟩
      | 19, ho =>
        simp at ho
        subst ho
        have eg : ac.tmps.getD 62 undef = .bool true := hv 8 62 rfl (by kernel_rfl)
        have e72 : ac.tmps.getD 72 undef = .bool false := hv 18 72 rfl (by kernel_rfl)
        exact .inl ⟨wanted_of rfl rfl eg, gho_reads γ (.bool false) (by simp [go_sem, Act.eval, -Array.getD_eq_getD_getElem?, e72]) rfl (⟨hD.1, by rw [upd_ne (by decide)]; exact hD.2.1, by rw [upd_ne (by decide)]; exact hD.2.2⟩) (fun _ _ _ _ h => h)⟩
      | 20, ho =>
        simp at ho
        subst ho
        have eg : ac.tmps.getD 73 undef = .bool false := hv 19 73 rfl (by kernel_rfl)
        have e9 : ac.tmps.getD 9 undef = .pointer (some ⟨w2.heap.size, 0, none⟩) := hout 9 (by decide +kernel)
        have bb := (unhide HC7).below hD.1
        have c0 := bb.cell 0 rfl 0 rfl
        have c1 := bb.cell 0 rfl 1 rfl
        rw [Nat.add_zero] at c0 c1
        exact .inl ⟨wanted_of rfl rfl eg, gho_reads γ (.agg #[.slice T2 (tabsW X).length tc2, .slice G2 X.gens.length gc2]) (by simp [go_sem, Act.eval, -Array.getD_eq_getD_getElem?, e9, c0, c1]) rfl (⟨hD.1, by rw [upd_ne (by decide)]; exact hD.2.1, by rw [upd_ne (by decide)]; exact hD.2.2⟩) (fun _ _ _ _ h => h)⟩
      | 21, ho =>
        simp at ho
        subst ho
        have eg : ac.tmps.getD 73 undef = .bool false := hv 19 73 rfl (by kernel_rfl)
        have e7 : ac.tmps.getD 7 undef = .pointer (some ⟨w.heap.size + 2, 0, none⟩) := hout 7 (by decide +kernel)
        have bb := (unhide HB7).below hD.1
        have c0 := bb.cell 2 rfl 0 rfl
        have c1 := bb.cell 2 rfl 1 rfl
        exact .inl ⟨wanted_of rfl rfl eg, gho_reads γ (.agg #[.int .i64 fa, .int .i64 fn]) (by simp [go_sem, Act.eval, -Array.getD_eq_getD_getElem?, e7, c0, c1]) rfl (⟨hD.1, by rw [upd_ne (by decide)]; exact hD.2.1, by rw [upd_ne (by decide)]; exact hD.2.2⟩) (fun _ _ _ _ h => h)⟩
      | 22, ho =>
        simp at ho
        subst ho
        have eg : ac.tmps.getD 73 undef = .bool false := hv 19 73 rfl (by kernel_rfl)
        have e74 : ac.tmps.getD 74 undef = .agg #[.slice T2 (tabsW X).length tc2, .slice G2 X.gens.length gc2] := hv 20 74 rfl (by kernel_rfl)
        have e75 : ac.tmps.getD 75 undef = .agg #[.int .i64 fa, .int .i64 fn] := hv 21 75 rfl (by kernel_rfl)
        refine .inl ⟨wanted_of rfl rfl eg, gho_enters 68 #[.agg #[.slice T2 (tabsW X).length tc2, .slice G2 X.gens.length gc2], .agg #[.int .i64 fa, .int .i64 fn]] (by simp [go_sem, Act.eval, -Array.getD_eq_getD_getElem?, e74, e75]) ?_⟩
        refine (smatch_any T2 tc2 G2 gc2 (tabsW X) X fa fn w1 ((unhide HT7).below hD.1)).mono ?_
        rintro e w6 ⟨A6, c6, rfl, hB6, hb6⟩
        exact ⟨_, (.slice A6 (bsTo X fa fn X.rows.length).length c6, γ.2), rfl, rfl, ⟨hD.1.trans (hb6.mono hD.1.size), fun _ => ⟨A6, c6, rfl, hB6⟩, fun e => (by obtain ⟨A1, c1, a, b⟩ := hD.2.2 (by rwa [upd_ne (by decide)] at e); exact ⟨A1, c1, a, b.below hb6⟩)⟩, fun j u hj hLj h => by simpa [hj] using h⟩
      | 23, ho =>
        simp at ho
        subst ho
        have eg : ac.tmps.getD 73 undef = .bool false := hv 19 73 rfl (by kernel_rfl)
        have e4 : ac.tmps.getD 4 undef = .pointer (some ⟨w.heap.size, 0, none⟩) := hout 4 (by decide +kernel)
        have bb := (unhide HB7).below hD.1
        have c0 := bb.cell 0 rfl 0 rfl
        have c1 := bb.cell 0 rfl 1 rfl
        rw [Nat.add_zero] at c0 c1
        exact .inl ⟨wanted_of rfl rfl eg, gho_reads γ (.agg #[.slice A X.rows.length cap, .slice G X.gens.length gcap]) (by simp [go_sem, Act.eval, -Array.getD_eq_getD_getElem?, e4, c0, c1]) rfl (⟨hD.1, by rw [upd_ne (by decide)]; exact hD.2.1, by rw [upd_ne (by decide)]; exact hD.2.2⟩) (fun _ _ _ _ h => h)⟩
      | 24, ho =>
        simp at ho
        subst ho
        have eg : ac.tmps.getD 73 undef = .bool false := hv 19 73 rfl (by kernel_rfl)
        have e7 : ac.tmps.getD 7 undef = .pointer (some ⟨w.heap.size + 2, 0, none⟩) := hout 7 (by decide +kernel)
        have bb := (unhide HB7).below hD.1
        have c0 := bb.cell 2 rfl 0 rfl
        have c1 := bb.cell 2 rfl 1 rfl
        exact .inl ⟨wanted_of rfl rfl eg, gho_reads γ (.agg #[.int .i64 fa, .int .i64 fn]) (by simp [go_sem, Act.eval, -Array.getD_eq_getD_getElem?, e7, c0, c1]) rfl (⟨hD.1, by rw [upd_ne (by decide)]; exact hD.2.1, by rw [upd_ne (by decide)]; exact hD.2.2⟩) (fun _ _ _ _ h => h)⟩
      | 25, ho =>
        simp at ho
        subst ho
        have eg : ac.tmps.getD 73 undef = .bool false := hv 19 73 rfl (by kernel_rfl)
        have e77 : ac.tmps.getD 77 undef = .agg #[.slice A X.rows.length cap, .slice G X.gens.length gcap] := hv 23 77 rfl (by kernel_rfl)
        have e78 : ac.tmps.getD 78 undef = .agg #[.int .i64 fa, .int .i64 fn] := hv 24 78 rfl (by kernel_rfl)
        refine .inl ⟨wanted_of rfl rfl eg, gho_enters 51 #[.agg #[.slice A X.rows.length cap, .slice G X.gens.length gcap], .agg #[.int .i64 fa, .int .i64 fn]] (by simp [go_sem, Act.eval, -Array.getD_eq_getD_getElem?, e77, e78]) ?_⟩
        refine (match_any A cap G gcap X fa fn w1 (by omega) ((unhide HX7).below hD.1)).mono ?_
        rintro e w6 ⟨v6, rfl, ho6, hb6⟩
        obtain ⟨A6, c6, rfl, hB6⟩ := bs_own ho6
        exact ⟨_, (γ.1, .slice A6 (bsTo X fa fn X.rows.length).length c6), rfl, rfl, ⟨hD.1.trans (hb6.mono hD.1.size), fun e => (by obtain ⟨A1, c1, a, b⟩ := hD.2.1 (by rwa [upd_ne (by decide)] at e); exact ⟨A1, c1, a, b.below hb6⟩), fun _ => ⟨A6, c6, rfl, hB6⟩⟩, fun j u hj hLj h => by simpa [hj] using h⟩
      | 26, ho =>
        simp at ho
        subst ho
        have eg : ac.tmps.getD 73 undef = .bool false := hv 19 73 rfl (by kernel_rfl)
        have e76 : ac.tmps.getD 76 undef = γ.1 := hv 22 76 rfl (by kernel_rfl)
        have e79 : ac.tmps.getD 79 undef = γ.2 := hv 25 79 rfl (by kernel_rfl)
        obtain ⟨A1, c1, hγ, hX1⟩ := hD.2.1 (hed 22 (by kernel_rfl))
        obtain ⟨A3, c3, hγ3, hX3⟩ := hD.2.2 (hed 25 (by kernel_rfl))
        rw [hγ] at e76
        rw [hγ3] at e79
        refine .inl ⟨wanted_of rfl rfl eg, gho_enters 50 #[.slice A1 (bsTo X fa fn X.rows.length).length c1, .slice A3 (bsTo X fa fn X.rows.length).length c3] (by simp [go_sem, Act.eval, -Array.getD_eq_getD_getElem?, e76, e79]) ?_⟩
        refine (samebs_true A1 c1 A3 c3 (bsTo X fa fn X.rows.length) w1 (by have := bsTo_len X fa fn X.rows.length; omega) hX1 hX3).mono ?_
        rintro e w6 ⟨rfl, hb6⟩
        exact ⟨_, γ, rfl, rfl, ⟨hD.1.trans (hb6.mono hD.1.size), fun e => (by obtain ⟨A1, c1, a, b⟩ := hD.2.1 (by rwa [upd_ne (by decide)] at e); exact ⟨A1, c1, a, b.below hb6⟩), fun e => (by obtain ⟨A1, c1, a, b⟩ := hD.2.2 (by rwa [upd_ne (by decide)] at e); exact ⟨A1, c1, a, b.below hb6⟩)⟩, fun _ _ _ _ h => h⟩
      | 27, ho =>
        simp at ho
        subst ho
        have eg : ac.tmps.getD 62 undef = .bool true := hv 8 62 rfl (by kernel_rfl)
        have e73 : ac.tmps.getD 73 undef = .bool false := hv 19 73 rfl (by kernel_rfl)
        have e80 : ac.tmps.getD 80 undef = .bool true := hv 26 80 rfl (by kernel_rfl)
        exact .inl ⟨wanted_of rfl rfl eg, gho_reads γ (.bool true) (by simp [go_sem, Act.eval, -Array.getD_eq_getD_getElem?, e73, e80]) rfl (⟨hD.1, by rw [upd_ne (by decide)]; exact hD.2.1, by rw [upd_ne (by decide)]; exact hD.2.2⟩) (fun _ _ _ _ h => h)⟩
      | 28, ho =>
        simp at ho
        subst ho
        have e62 : ac.tmps.getD 62 undef = .bool true := hv 8 62 rfl (by kernel_rfl)
        have e81 : ac.tmps.getD 81 undef = .bool true := hv 27 81 rfl (by kernel_rfl)
        exact .inl ⟨rfl, gho_reads γ (.bool true) (by simp [go_sem, Act.eval, -Array.getD_eq_getD_getElem?, e62, e81]) rfl (⟨hD.1, by rw [upd_ne (by decide)]; exact hD.2.1, by rw [upd_ne (by decide)]; exact hD.2.2⟩) (fun _ _ _ _ h => h)⟩
      | 29, ho =>
        simp at ho
        subst ho
        have e82 : ac.tmps.getD 82 undef = .bool true := hv 28 82 rfl (by kernel_rfl)
        exact .inl ⟨rfl, gho_reads γ (.bool true) (by simp [go_sem, Act.eval, -Array.getD_eq_getD_getElem?, e82]) rfl (⟨hD.1, by rw [upd_ne (by decide)]; exact hD.2.1, by rw [upd_ne (by decide)]; exact hD.2.2⟩) (fun _ _ _ _ h => h)⟩
      | ix + 30, ho => simp at ho
    case hend2 =>
      intro γ v L w9 hD hall hv
      have v29 : v 29 = .bool true := hv 29 8 rfl
      have HD := hide hD.1
      clear hv hall hD h0
      simp only [putOps, List.getElem?_cons_zero, List.getElem?_cons_succ, Option.bind_some, List.length_cons, List.length_nil, Nat.reduceAdd, v29]
      clear v29
      go_frame
      go_wp2
      go_ret
      exact ⟨rfl, (unhide HL7).trans ((unhide HD).mono (unhide HL7).size)⟩
theorem both_law (A : Option Addr) (cap : Nat) (G : Option Addr) (gcap : Nat) (X : Wd) (i g p fa fn : Int) (w : World) (hn0 : X.rows.length ≤ 9223372036854775807) (hgn0 : X.gens.length ≤ 9223372036854775807) (hX : WldAt w A cap G gcap X) :
    Calls Try.prog 10 #[wldV A cap G gcap X, beingV i g, .int .i64 p, .agg #[.int .i64 fa, .int .i64 fn]] w fun e w' => e = .returned (.bool true) ∧ Below w.heap.size w w' := by
  by_cases h : (wrongW X).1 = 0
  · have hr := (right_iff X).1 h
    cases ha : setB fa
    · exact both_nota A cap G gcap X i g p fa fn w hX hr ha
    · cases hn : setB fn
      · exact both_notn A cap G gcap X i g p fa fn w hX hr ha hn
      · exact both_sets A cap G gcap X i g p fa fn w hX hr ha hn
  · exact both_wrong A cap G gcap X i g p fa fn w hn0 hX h
end Go.Proofs.Ytnbleebilmghcaa
