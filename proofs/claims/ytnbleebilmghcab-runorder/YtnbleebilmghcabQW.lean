/- RnTurn, RnOn -/
import Derived.Test.YtnbleebilmghcabQV
set_option linter.all false
namespace Go.Proofs.Ytnbleebilmghcab
open Go Go.RowKit
attribute [local go_sem ↓] Go.wp_at_zero Go.wp_at_succ
structure TB (w : World) (A G : Option Addr) (X : Wd) (i g : Int) (Ac : Option Addr) (cc : Nat) (Gc : Option Addr) (gcc : Nat) (Xc : Wd) (W : World) : Prop where
  bx : Bxs w.heap.size [([.slice Ac Xc.rows.length cc, .slice Gc Xc.gens.length gcc], 40), ([.int .i64 i, .int .i64 g], 50), ([.slice none 0 0, .slice none 0 0], 40)] W
  bel : Below w.heap.size w W
  wf : WF (w.heap.size + 3) A G X W Ac cc Gc gcc Xc
theorem TB.below {w : World} {A G : Option Addr} {X : Wd} {i g : Int} {Ac : Option Addr} {cc : Nat} {Gc : Option Addr} {gcc : Nat} {Xc : Wd} {W W1 : World} (h : TB w A G X i g Ac cc Gc gcc Xc W) (hb : Below W.heap.size W W1) : TB w A G X i g Ac cc Gc gcc Xc W1 :=
  ⟨h.bx.below hb, h.bel.trans (hb.mono h.bel.size), h.wf.below hb⟩
theorem TB.sz {w : World} {A G : Option Addr} {X : Wd} {i g : Int} {Ac : Option Addr} {cc : Nat} {Gc : Option Addr} {gcc : Nat} {Xc : Wd} {W : World} (h : TB w A G X i g Ac cc Gc gcc Xc W) : w.heap.size + 3 ≤ W.heap.size := by
  have := h.bx.sz (by simp)
  simpa using this
theorem turn_step (i g : Int) (a : Nat → ActI) (len j : Nat) (X : Wd) (h : j < len) : turnTo i g a (len - j) j X = if (actF X i g (a j)).1 ≠ 0 then ((actF X i g (a j)).1, emptyW) else if (a j).k = 6 then (0, (actF X i g (a j)).2) else turnTo i g a (len - (j + 1)) (j + 1) (actF X i g (a j)).2 := by
  rw [show len - j = (len - (j + 1)) + 1 by omega, turnTo]
set_option maxRecDepth 8000 in
set_option maxHeartbeats 4000000 in
theorem turn_any (A : Option Addr) (cap : Nat) (G : Option Addr) (gcap : Nat) (X : Wd) (i g : Int) (A1 : Option Addr) (len acap : Nat) (a : Nat → ActI) (w : World) (hn0 : X.rows.length ≤ 9223372036854775807) (hX : WldAt w A cap G gcap X) (hr : RightW X) (hlen : len ≤ 8) (hA : ActsAt w A1 len a) :
    Calls Try.prog 73 #[wldV A cap G gcap X, beingV i g, .slice A1 len acap] w fun e w' => ∃ A' c' G' gc', e = .returned (.tuple #[wldV A' c' G' gc' (turnTo i g a len 0 X).2, .int .i64 (turnTo i g a len 0 X).1]) ∧ WF w.heap.size A G X w' A' c' G' gc' (turnTo i g a len 0 X).2 ∧ Below w.heap.size w w' := by
  have hB0 := Bxs.start w [([.slice A X.rows.length cap, .slice G X.gens.length gcap], 40), ([.int .i64 i, .int .i64 g], 50), ([.slice none 0 0, .slice none 0 0], 40)]
  have hb0 := allocs_below [([.slice A X.rows.length cap, .slice G X.gens.length gcap], 40), ([.int .i64 i, .int .i64 g], 50), ([.slice none 0 0, .slice none 0 0], 40)] w
  obtain ⟨W0, hW0⟩ : ∃ W0, W0 = allocs w [([.slice A X.rows.length cap, .slice G X.gens.length gcap], 40), ([.int .i64 i, .int .i64 g], 50), ([.slice none 0 0, .slice none 0 0], 40)] := ⟨_, rfl⟩
  rw [← hW0] at hB0 hb0
  have hW0' : ((w.alloc (.cells #[.slice A X.rows.length cap, .slice G X.gens.length gcap] 40)).alloc (.cells #[.int .i64 i, .int .i64 g] 50)).alloc (.cells #[.slice none 0 0, .slice none 0 0] 40) = W0 := hW0.symm
  have HNB : Hid (∀ k, ¬ Blk A G X (w.heap.size + k)) := hide (fun k hb => by have := blk_lt hX hb; omega)
  have hT0 : TB w A G X i g A cap G gcap X W0 := ⟨hB0, hb0, WF.refl (hX.below hb0)⟩
  have HT0 := hide hT0
  have HW0 := hide hW0'
  have HA := hide hA
  have HR := hide hr
  clear hW0 hW0' hB0 hb0 hX hA hT0 hr
  obtain ⟨R, hR⟩ : ∃ R, R = turnTo i g a len 0 X := ⟨_, rfl⟩
  rw [← hR]
  have HRR := hide hR
  clear hR
  unfold wldV worldV beingV
  go_enter Try.func73, Try.ntmps73
  go_upto_region 1 with fail
  rw [unhide HW0]
  go_wp2_with fail
  go_loopw [14] (fun x wr => ∃ j : Nat, j ≤ len ∧ x = .int .i64 (j : Int) ∧ ∃ Ac cc Gc gcc Xc, TB w A G X i g Ac cc Gc gcc Xc wr ∧ RightW Xc ∧ R = turnTo i g a (len - j) j Xc) (fun x _ => len - (intOf x).toNat)
  case atStart => exact ⟨0, Nat.zero_le _, rfl, A, cap, G, gcap, X, unhide HT0, unhide HR, unhide HRR⟩
  case round =>
    clear HT0 HRR HR
    obtain ⟨j, hj, rfl, Ac, cc, Gc, gcc, Xc, hT, hrc, hRc⟩ := hrel
    have hxl := (right_hr ((right_iff Xc).2 hrc)).1
    by_cases hlt : j < len
    · have j0 : (0 : Int) ≤ (j : Int) := by omega
      have j1 : (j : Int) < (len : Int) := by omega
      rw [turn_step i g a len j Xc hlt] at hRc
      obtain ⟨b, off, hAe, c0, c1, c2, c3⟩ := (unhide HA).below hT.bel j hlt
      obtain ⟨y, hy⟩ : ∃ y, y = a j := ⟨_, rfl⟩
      rw [← hy] at c0 c1 c2 c3 hRc
      obtain ⟨W4, hW4⟩ : ∃ W4, W4 = wr.alloc (.cells #[.int .i64 y.k, .int .i64 y.p, .int .i64 y.f, .int .i64 y.n] 76) := ⟨_, rfl⟩
      have hb4 : Below wr.heap.size wr W4 := by rw [hW4]; exact bel1 _ _
      have hT4 := hT.below hb4
      have hAC := act_any Ac cc Gc gcc Xc i g y W4 (by omega) hT4.wf.at_
      have hAN := fun h => act_no (X := Xc) (i := i) (g := g) (y := y) h
      have hAR := fun h => act_right hrc (i := i) (g := g) (y := y) h
      obtain ⟨Y, hY⟩ : ∃ Y, Y = (actF Xc i g y).2 := ⟨_, rfl⟩
      obtain ⟨err, herr⟩ : ∃ err, err = (actF Xc i g y).1 := ⟨_, rfl⟩
      rw [← hY, ← herr] at hAC hAN hAR hRc
      unfold wldV worldV beingV actV at hAC
      have w0 := hT4.bx.cell 0 rfl 0 rfl
      have w1 := hT4.bx.cell 0 rfl 1 rfl
      rw [Nat.add_zero] at w0 w1
      have b0 := hT4.bx.cell 1 rfl 0 rfl
      have b1 := hT4.bx.cell 1 rfl 1 rfl
      have hW4' : wr.alloc (.cells #[.int .i64 y.k, .int .i64 y.p, .int .i64 y.f, .int .i64 y.n] 76) = W4 := hW4.symm
      have HY4 : Hid (W4.cell? ⟨wr.heap.size, 0, none⟩ = some (.int .i64 y.k)) := hide (by rw [hW4]; simp)
      have a0 := unhide HY4
      have a1 : W4.cell? ⟨wr.heap.size, 1, none⟩ = some (.int .i64 y.p) := by rw [hW4]; simp
      have a2 : W4.cell? ⟨wr.heap.size, 2, none⟩ = some (.int .i64 y.f) := by rw [hW4]; simp
      have a3 : W4.cell? ⟨wr.heap.size, 3, none⟩ = some (.int .i64 y.n) := by rw [hW4]; simp
      have HW4 := hide hW4'
      have HAC := hide hAC
      have HAN := hide hAN
      have HAR := hide hAR
      have HT4 := hide hT4
      have HZR : Hid (w.heap.size + 3 ≤ wr.heap.size) := hide hT.sz
      have HRC := hide hRc
      clear hT hT4 hb4 hAC hAN hAR hY herr hW4 hW4' hRc hrc hy
      subst hAe
      go_upto_region 4 with fail
      rw [unhide HW4]
      clear c0 c1 c2 c3
      go_wp2_with fail
      go_at_call 97
      refine (unhide HAC).mono ?_
      rintro e w5 ⟨A4, c4, G4, gc4, rfl, hF5, hb5⟩
      have h5 := (unhide HT4).below hb5
      have h6 := h5.below (bel1 w5 (.cells #[.slice A4 Y.rows.length c4, .slice G4 Y.gens.length gc4] 40))
      have hF6 : WF (w.heap.size + 3) A G X (w5.alloc (.cells #[.slice A4 Y.rows.length c4, .slice G4 Y.gens.length gc4] 40)) A4 c4 G4 gc4 Y := ((unhide HT4).wf.trans hF5 (unhide HT4).sz).below (bel1 _ _)
      have k0 := keep_below (bel1 w5 (.cells #[.slice A4 Y.rows.length c4, .slice G4 Y.gens.length gc4] 40)) (keep_below hb5 (unhide HY4))
      have n0 : (w5.alloc (.cells #[.slice A4 Y.rows.length c4, .slice G4 Y.gens.length gc4] 40)).cell? ⟨w5.heap.size, 0, none⟩ = some (.slice A4 Y.rows.length c4) := by simp
      have n1 : (w5.alloc (.cells #[.slice A4 Y.rows.length c4, .slice G4 Y.gens.length gc4] 40)).cell? ⟨w5.heap.size, 1, none⟩ = some (.slice G4 Y.gens.length gc4) := by simp
      have lw : w5.heap.size ≠ w.heap.size := by have := h5.sz; omega
      obtain ⟨W6, hW6⟩ : ∃ W6, W6 = w5.alloc (.cells #[.slice A4 Y.rows.length c4, .slice G4 Y.gens.length gc4] 40) := ⟨_, rfl⟩
      rw [← hW6] at h6 hF6 k0 n0 n1
      have hW6' : w5.alloc (.cells #[.slice A4 Y.rows.length c4, .slice G4 Y.gens.length gc4] 40) = W6 := hW6.symm
      have HW6 := hide hW6'
      have HB6 := hide h6.bx
      have HL6 := hide h6.bel
      have HF6 := hide hF6
      clear hF5 hb5 h5 h6 hF6 hW6 hW6' HAC HT4 HY4 w0 w1 b0 b1 a0 a1 a2 a3
      by_cases he : err = 0
      · subst he
        have HRY := hide (unhide HAR rfl)
        clear HAN HAR
        by_cases hk6 : y.k = 6
        · go_upto_region 5 with fail
          rw [unhide HW6]
          go_wp2_with (first
            | (refine wpList_putN rfl 40 (.tmp 3) (.tmp 29) rfl (w.heap.size + 0) 0 [.slice A4 Y.rows.length c4, .slice G4 Y.gens.length gc4] rfl rfl (by simp [Value.oneCell']) size38 ((unhide HB6).there 0 rfl 2 rfl) ?_; intro W7 hW; have q1 := (unhide HB6).give 0 rfl [.slice A4 Y.rows.length c4, .slice G4 Y.gens.length gc4] rfl; have q3 := below_setCells (w.heap.size + 0) (by omega) [.slice A4 Y.rows.length c4, .slice G4 Y.gens.length gc4] 0 _ (unhide HL6); have q4 := wf_puts0 (k := 0) (o := 0) (vs := [.slice A4 Y.rows.length c4, .slice G4 Y.gens.length gc4]) (unhide HF6) (unhide HNB) (by omega); have q5 := (setcs_other (b := w.heap.size + 0) (o := 0) (vs := [.slice A4 Y.rows.length c4, .slice G4 Y.gens.length gc4]) (p := ⟨wr.heap.size, 0, none⟩) (by have := unhide HZR; simp only [ne_eq]; omega)).trans k0; rw [← hW] at q1 q3 q4 q5; have HB7 := hide q1; have HL7 := hide q3; have HF7 := hide q4; have k5 := q5; have w0 := (unhide HB7).cell 0 rfl 0 rfl; have w1 := (unhide HB7).cell 0 rfl 1 rfl; rw [Nat.add_zero] at w0 w1; clear hW q1 q3 q4 q5)
            | (refine wpList_putN rfl 40 (.tmp 6) (.tmp 34) rfl (w.heap.size + 2) 0 [.slice A4 Y.rows.length c4, .slice G4 Y.gens.length gc4] rfl rfl (by simp [Value.oneCell']) size38 ((unhide HB7).there 2 rfl 2 rfl) ?_; intro W8 hW; have q1 := (unhide HB7).give 2 rfl [.slice A4 Y.rows.length c4, .slice G4 Y.gens.length gc4] rfl; have q3 := below_setCells (w.heap.size + 2) (by omega) [.slice A4 Y.rows.length c4, .slice G4 Y.gens.length gc4] 0 _ (unhide HL7); have q4 := wf_puts0 (k := 2) (o := 0) (vs := [.slice A4 Y.rows.length c4, .slice G4 Y.gens.length gc4]) (unhide HF7) (unhide HNB) (by omega); rw [← hW] at q1 q3 q4; have HB8 := hide q1; have HL8 := hide q3; have HF8 := hide q4; clear hW q1 q3 q4))
          have hR2 := unhide HRC
          rw [if_neg (by simp), if_pos hk6] at hR2
          have t0 := (unhide HB8).cell 2 rfl 0 rfl
          have t1 := (unhide HB8).cell 2 rfl 1 rfl
          refine bodyPost_ret (v := .tuple #[.agg #[.slice A4 Y.rows.length c4, .slice G4 Y.gens.length gc4], .int .i64 0]) (by simp [results, Try.results73, go_sem, t0, t1]) rfl ?_
          rw [hR2]
          exact ⟨A4, c4, G4, gc4, rfl, (unhide HF8).le (by omega), unhide HL8⟩
        · go_upto_region 5 with fail
          rw [unhide HW6]
          go_wp2_with (refine wpList_putN rfl 40 (.tmp 3) (.tmp 29) rfl (w.heap.size + 0) 0 [.slice A4 Y.rows.length c4, .slice G4 Y.gens.length gc4] rfl rfl (by simp [Value.oneCell']) size38 ((unhide HB6).there 0 rfl 2 rfl) ?_; intro W7 hW; have q1 := (unhide HB6).give 0 rfl [.slice A4 Y.rows.length c4, .slice G4 Y.gens.length gc4] rfl; have q3 := below_setCells (w.heap.size + 0) (by omega) [.slice A4 Y.rows.length c4, .slice G4 Y.gens.length gc4] 0 _ (unhide HL6); have q4 := wf_puts0 (k := 0) (o := 0) (vs := [.slice A4 Y.rows.length c4, .slice G4 Y.gens.length gc4]) (unhide HF6) (unhide HNB) (by omega); have q5 := (setcs_other (b := w.heap.size + 0) (o := 0) (vs := [.slice A4 Y.rows.length c4, .slice G4 Y.gens.length gc4]) (p := ⟨wr.heap.size, 0, none⟩) (by have := unhide HZR; simp only [ne_eq]; omega)).trans k0; rw [← hW] at q1 q3 q4 q5; have HB7 := hide q1; have HL7 := hide q3; have HF7 := hide q4; have k5 := q5; have w0 := (unhide HB7).cell 0 rfl 0 rfl; have w1 := (unhide HB7).cell 0 rfl 1 rfl; rw [Nat.add_zero] at w0 w1; clear hW q1 q3 q4 q5)
          have hR2 := unhide HRC
          rw [if_neg (by simp), if_neg hk6] at hR2
          have HR2 := hide hR2
          clear hR2
          go_roundw
          case rel => exact ⟨j + 1, by omega, by go_num, A4, c4, G4, gc4, Y, ⟨unhide HB7, unhide HL7, unhide HF7⟩, unhide HRY, unhide HR2⟩
          case measure => simp [intOf]; omega
      · skip
        have hR2 := unhide HRC
        rw [if_pos he] at hR2
        have HR2 := hide hR2
        clear hR2 HAN HAR HRC
        have hne : (err == 0) = false := by simpa using he
        go_upto_region 5 with fail
        rw [unhide HW6]
        go_wp2_with (refine wpList_putN rfl 40 (.tmp 6) (.tmp 27) rfl (w.heap.size + 2) 0 [.slice none 0 0, .slice none 0 0] rfl rfl (by simp [Value.oneCell']) size38 ((unhide HB6).there 2 rfl 2 rfl) ?_; intro W8 hW; have q1 := (unhide HB6).give 2 rfl [.slice none 0 0, .slice none 0 0] rfl; have q3 := below_setCells (w.heap.size + 2) (by omega) [.slice none 0 0, .slice none 0 0] 0 _ (unhide HL6); rw [← hW] at q1 q3; have HB8 := hide q1; have HL8 := hide q3; clear hW q1 q3)
        have t0 := (unhide HB8).cell 2 rfl 0 rfl
        have t1 := (unhide HB8).cell 2 rfl 1 rfl
        refine bodyPost_ret (v := .tuple #[.agg #[.slice none 0 0, .slice none 0 0], .int .i64 err]) (by simp [results, Try.results73, go_sem, t0, t1]) rfl ?_
        rw [unhide HR2]
        exact ⟨none, 0, none, 0, rfl, WF.empty _ _ _ _ _, unhide HL8⟩
    · obtain rfl : j = len := by omega
      have w0 := hT.bx.cell 0 rfl 0 rfl
      have w1 := hT.bx.cell 0 rfl 1 rfl
      rw [Nat.add_zero] at w0 w1
      have HB7 := hide hT.bx
      have HL7 := hide hT.bel
      have HF7 := hide hT.wf
      have hR2 := hRc
      rw [Nat.sub_self, turnTo] at hR2
      have HR2 := hide hR2
      clear hT hRc hR2
      go_wp2_with (refine wpList_putN rfl 40 (.tmp 6) (.tmp 34) rfl (w.heap.size + 2) 0 [.slice Ac Xc.rows.length cc, .slice Gc Xc.gens.length gcc] rfl rfl (by simp [Value.oneCell']) size38 ((unhide HB7).there 2 rfl 2 rfl) ?_; intro W8 hW; have q1 := (unhide HB7).give 2 rfl [.slice Ac Xc.rows.length cc, .slice Gc Xc.gens.length gcc] rfl; have q3 := below_setCells (w.heap.size + 2) (by omega) [.slice Ac Xc.rows.length cc, .slice Gc Xc.gens.length gcc] 0 _ (unhide HL7); have q4 := wf_puts0 (k := 2) (o := 0) (vs := [.slice Ac Xc.rows.length cc, .slice Gc Xc.gens.length gcc]) (unhide HF7) (unhide HNB) (by omega); rw [← hW] at q1 q3 q4; have HB8 := hide q1; have HL8 := hide q3; have HF8 := hide q4; clear hW q1 q3 q4)
      have t0 := (unhide HB8).cell 2 rfl 0 rfl
      have t1 := (unhide HB8).cell 2 rfl 1 rfl
      refine bodyPost_ret (v := .tuple #[.agg #[.slice Ac Xc.rows.length cc, .slice Gc Xc.gens.length gcc], .int .i64 0]) (by simp [results, Try.results73, go_sem, t0, t1]) rfl ?_
      rw [unhide HR2]
      exact ⟨Ac, cc, Gc, gcc, rfl, (unhide HF8).le (by omega), unhide HL8⟩
end Go.Proofs.Ytnbleebilmghcab
namespace Go.Proofs.Ytnbleebilmghcab
open Go Go.RowKit
attribute [local go_sem ↓] Go.wp_at_zero Go.wp_at_succ
theorem wr_len {m al no : Int} {a : Nat → ActI} {len : Nat} (h : (wrF m al no a len).1 = 0) : len ≤ 8 := ((right_spec m al no a len).1 h).2.1
theorem runTo_step (a : Nat → ActI) (len : Nat) (l : List (Int × Int)) (j : Nat) (X : Wd) (h : j < l.length) : runTo a len (l.drop j) X = if (turnTo (l.getD j (0, 0)).1 (l.getD j (0, 0)).2 a len 0 X).1 ≠ 0 then ((turnTo (l.getD j (0, 0)).1 (l.getD j (0, 0)).2 a len 0 X).1, emptyW) else runTo a len (l.drop (j + 1)) (turnTo (l.getD j (0, 0)).1 (l.getD j (0, 0)).2 a len 0 X).2 := by
  rw [List.drop_eq_getElem_cons h, runTo, List.getD_eq_getElem?_getD, List.getElem?_eq_getElem h]
  rfl
theorem bs_puts {W : World} {A : Option Addr} {l : List (Int × Int)} (h : BsAt W A l) {b o : Nat} {vs : List Value} (hb : ∀ o', A = some ⟨b, o', none⟩ → l.length = 0) : BsAt (W.setCells b o vs) A l := fun j hj => by
  obtain ⟨b', off, e, h1, h2⟩ := h j hj
  have hne : b' ≠ b := fun e' => by
    have := hb off (by rw [e, e'])
    omega
  exact ⟨b', off, e, (setcs_other hne).trans h1, (setcs_other hne).trans h2⟩
structure OB (w : World) (A G : Option Addr) (X : Wd) (m al no : Int) (sl : Value) (Ac : Option Addr) (cc : Nat) (Gc : Option Addr) (gcc : Nat) (Xc : Wd) (W : World) : Prop where
  bx : Bxs w.heap.size [([.slice Ac Xc.rows.length cc, .slice Gc Xc.gens.length gcc], 40), ([.int .i64 m, .int .i64 al, .int .i64 no, sl], 26), ([.slice none 0 0, .slice none 0 0], 40)] W
  bel : Below w.heap.size w W
  wf : WF (w.heap.size + 3) A G X W Ac cc Gc gcc Xc
section
variable {w : World} {A G : Option Addr} {X : Wd} {m al no : Int} {sl : Value} {Ac : Option Addr} {cc : Nat} {Gc : Option Addr} {gcc : Nat} {Xc : Wd} {W W1 : World}
theorem OB.below (h : OB w A G X m al no sl Ac cc Gc gcc Xc W) (hb : Below W.heap.size W W1) : OB w A G X m al no sl Ac cc Gc gcc Xc W1 :=
  ⟨h.bx.below hb, h.bel.trans (hb.mono h.bel.size), h.wf.below hb⟩
theorem OB.sz (h : OB w A G X m al no sl Ac cc Gc gcc Xc W) : w.heap.size + 3 ≤ W.heap.size := by
  have := h.bx.sz (by simp)
  simpa using this
end
set_option maxRecDepth 8000 in
set_option maxHeartbeats 4000000 in
theorem runon_wrong (A : Option Addr) (cap : Nat) (G : Option Addr) (gcap : Nat) (X : Wd) (m al no : Int) (A1 : Option Addr) (len acap : Nat) (a : Nat → ActI) (w : World) (hX : WldAt w A cap G gcap X) (hr : RightW X) (hA : ActsAt w A1 len a) (hw : (wrF m al no a len).1 ≠ 0) :
    Calls Try.prog 47 #[wldV A cap G gcap X, sysV m al no A1 len acap] w fun e w' => e = .returned (.tuple #[wldV none 0 none 0 emptyW, .int .i64 (wrF m al no a len).1]) ∧ Below w.heap.size w w' := by
  have hB0 := Bxs.start w [([.slice A X.rows.length cap, .slice G X.gens.length gcap], 40), ([.int .i64 m, .int .i64 al, .int .i64 no, .slice A1 len acap], 26), ([.slice none 0 0, .slice none 0 0], 40)]
  have hb0 := allocs_below [([.slice A X.rows.length cap, .slice G X.gens.length gcap], 40), ([.int .i64 m, .int .i64 al, .int .i64 no, .slice A1 len acap], 26), ([.slice none 0 0, .slice none 0 0], 40)] w
  obtain ⟨W0, hW0⟩ : ∃ W0, W0 = allocs w [([.slice A X.rows.length cap, .slice G X.gens.length gcap], 40), ([.int .i64 m, .int .i64 al, .int .i64 no, .slice A1 len acap], 26), ([.slice none 0 0, .slice none 0 0], 40)] := ⟨_, rfl⟩
  rw [← hW0] at hB0 hb0
  have hW0' : ((w.alloc (.cells #[.slice A X.rows.length cap, .slice G X.gens.length gcap] 40)).alloc (.cells #[.int .i64 m, .int .i64 al, .int .i64 no, .slice A1 len acap] 26)).alloc (.cells #[.slice none 0 0, .slice none 0 0] 40) = W0 := hW0.symm
  have HNB : Hid (∀ k, ¬ Blk A G X (w.heap.size + k)) := hide (fun k hb => by have := blk_lt hX hb; omega)
  have hO0 : OB w A G X m al no (.slice A1 len acap) A cap G gcap X W0 := ⟨hB0, hb0, WF.refl (hX.below hb0)⟩
  have hWR := wrong_any m al no A1 len acap a W0 (hA.below hb0)
  unfold sysV faultV at hWR
  have s0 := hB0.cell 1 rfl 0 rfl
  have s1 := hB0.cell 1 rfl 1 rfl
  have s2 := hB0.cell 1 rfl 2 rfl
  have s3 := hB0.cell 1 rfl 3 rfl
  have HO0 := hide hO0
  have HW0 := hide hW0'
  have HA := hide hA
  clear hW0 hW0' hB0 hb0 hX hA hO0
  generalize (wrF m al no a len).2 = wa at *
  generalize (wrF m al no a len).1 = we at *
  have HWR := hide hWR
  clear hWR
  unfold wldV worldV sysV emptyW
  go_enter Try.func47, Try.ntmps47
  go_upto_region 1 with fail
  rw [unhide HW0]
  go_wp2_with ((go_at_call 12; refine (unhide HWR).mono ?_; rintro e w5 ⟨rfl, hb5⟩; have h5 := (unhide HO0).below hb5; have HZ5 := hide h5.sz; have HO6 := hide (h5.below (bel1 w5 (.cells #[.int .i64 we, .int .i64 wa] 30))); clear hb5 h5 s0 s1 s2 s3))
  have h0 : Bxs w.heap.size [([.slice A X.rows.length cap, .slice G X.gens.length gcap], 40), ([.int .i64 m, .int .i64 al, .int .i64 no, .slice A1 len acap], 26), ([.slice none 0 0, .slice none 0 0], 40)] (w5.alloc (.cells #[.int .i64 we, .int .i64 wa] 30)).drew ∧ Below w.heap.size w (w5.alloc (.cells #[.int .i64 we, .int .i64 wa] 30)).drew ∧ (w5.alloc (.cells #[.int .i64 we, .int .i64 wa] 30)).drew.cell? ⟨w5.heap.size, 0, none⟩ = some (.int .i64 we) := ⟨(unhide HO6).bx.below (Below.refl _ _).drew, (unhide HO6).bel.drew, by show (w5.alloc _).cell? _ = _; simp⟩
  refine wp_region_gho (fun (γ : Unit) ix v => (([fun v => v = .agg #[.slice none 0 0, .slice none 0 0], fun v => v = .pointer (some ⟨w5.heap.size, 0, none⟩), fun v => v = .int .i64 we, fun _ => True, fun v => v = .int .i64 we] : List (Value → Prop)).getD ix (fun _ => True)) v) (fun (_ : Unit) (_ : Nat → Bool) W => Bxs w.heap.size [([.slice A X.rows.length cap, .slice G X.gens.length gcap], 40), ([.int .i64 m, .int .i64 al, .int .i64 no, .slice A1 len acap], 26), ([.slice none 0 0, .slice none 0 0], 40)] W ∧ Below w.heap.size w W ∧ W.cell? ⟨w5.heap.size, 0, none⟩ = some (.int .i64 we)) (()) (by kernel_rfl) (by kernel_rfl) (by kernel_rfl) h0 ?hstep ?hend
  case hstep =>
    intro γ ix o ho L ac w1 hD hL hed hcl hout hv
    match ix, ho with
    | 0, ho =>
      simp at ho
      subst ho
      exact .inl ⟨rfl, gho_reads γ (.agg #[.slice none 0 0, .slice none 0 0]) (by simp [go_sem, Act.eval, -Array.getD_eq_getD_getElem?, ]) rfl (hD) (fun _ _ _ _ h => h)⟩
    | 1, ho =>
      simp at ho
      subst ho
      have e6 : ac.tmps.getD 6 undef = .pointer (some ⟨w5.heap.size, 0, none⟩) := hout 6 (by decide +kernel)
      exact .inl ⟨rfl, gho_reads γ (.pointer (some ⟨w5.heap.size, 0, none⟩)) (by simp [go_sem, Act.eval, -Array.getD_eq_getD_getElem?, e6]) rfl (hD) (fun _ _ _ _ h => h)⟩
    | 2, ho =>
      simp at ho
      subst ho
      have e17 : ac.tmps.getD 17 undef = .pointer (some ⟨w5.heap.size, 0, none⟩) := hv 1 17 rfl (by kernel_rfl)
      have c0 := hD.2.2
      exact .inl ⟨rfl, gho_reads γ (.int .i64 we) (by simp [go_sem, Act.eval, -Array.getD_eq_getD_getElem?, e17, c0]) rfl (hD) (fun _ _ _ _ h => h)⟩
    | 3, ho =>
      simp at ho
      subst ho
      have e4 : ac.tmps.getD 4 undef = .pointer (some ⟨w.heap.size + 2, 0, none⟩) := hout 4 (by decide +kernel)
      have e16 : ac.tmps.getD 16 undef = .agg #[.slice none 0 0, .slice none 0 0] := hv 0 16 rfl (by kernel_rfl)
      have hg := hD.1.give 2 rfl [.slice none 0 0, .slice none 0 0] rfl
      exact .inl ⟨rfl, gho_putN γ 40 (.tmp 4) (.tmp 16) rfl (w.heap.size + 2) 0 [.slice none 0 0, .slice none 0 0] (by simp [Act.eval, -Array.getD_eq_getD_getElem?, e4]) (by simp [Act.eval, -Array.getD_eq_getD_getElem?, e16]) (by simp [Value.oneCell']) size38 (hD.1.there 2 rfl 2 rfl) trivial ⟨hg, below_setCells (w.heap.size + 2) (by omega) _ 0 _ hD.2.1, (setcs_other (by have := unhide HZ5; simp only [ne_eq]; omega)).trans hD.2.2⟩ (fun _ _ _ _ h => h)⟩
    | 4, ho =>
      simp at ho
      subst ho
      have e18 : ac.tmps.getD 18 undef = .int .i64 we := hv 2 18 rfl (by kernel_rfl)
      exact .inl ⟨rfl, gho_reads γ (.int .i64 we) (by simp [go_sem, Act.eval, -Array.getD_eq_getD_getElem?, e18]) rfl (hD) (fun _ _ _ _ h => h)⟩
    | ix + 5, ho => simp at ho
  case hend =>
    intro γ v L w9 hD hall hv
    have v4 : v 4 = .int .i64 we := hv 4 5 rfl
    have HD := hide hD
    clear hv hall hD h0
    simp only [putOps, List.getElem?_cons_zero, List.getElem?_cons_succ, Option.bind_some, List.length_cons, List.length_nil, Nat.reduceAdd, v4]
    clear v4
    go_frame
    go_wp2
    have t0 := (unhide HD).1.cell 2 rfl 0 rfl
    have t1 := (unhide HD).1.cell 2 rfl 1 rfl
    refine bodyPost_ret (v := .tuple #[.agg #[.slice none 0 0, .slice none 0 0], .int .i64 we]) (by simp [results, Try.results47, go_sem, t0, t1]) rfl ⟨rfl, (unhide HD).2.1⟩
set_option maxRecDepth 8000 in
set_option maxHeartbeats 4000000 in
theorem runon_right (A : Option Addr) (cap : Nat) (G : Option Addr) (gcap : Nat) (X : Wd) (m al no : Int) (A1 : Option Addr) (len acap : Nat) (a : Nat → ActI) (w : World) (hX : WldAt w A cap G gcap X) (hr : RightW X) (hA : ActsAt w A1 len a) (hw : (wrF m al no a len).1 = 0) :
    Calls Try.prog 47 #[wldV A cap G gcap X, sysV m al no A1 len acap] w fun e w' => ∃ A' c' G' gc', e = .returned (.tuple #[wldV A' c' G' gc' (runTo a len (bsTo X al no X.rows.length) X).2, .int .i64 (runTo a len (bsTo X al no X.rows.length) X).1]) ∧ WF w.heap.size A G X w' A' c' G' gc' (runTo a len (bsTo X al no X.rows.length) X).2 ∧ Below w.heap.size w w' := by
  have hl60 := (right_hr ((right_iff X).2 hr)).1
  have hlen := wr_len hw
  have hB0 := Bxs.start w [([.slice A X.rows.length cap, .slice G X.gens.length gcap], 40), ([.int .i64 m, .int .i64 al, .int .i64 no, .slice A1 len acap], 26), ([.slice none 0 0, .slice none 0 0], 40)]
  have hb0 := allocs_below [([.slice A X.rows.length cap, .slice G X.gens.length gcap], 40), ([.int .i64 m, .int .i64 al, .int .i64 no, .slice A1 len acap], 26), ([.slice none 0 0, .slice none 0 0], 40)] w
  obtain ⟨W0, hW0⟩ : ∃ W0, W0 = allocs w [([.slice A X.rows.length cap, .slice G X.gens.length gcap], 40), ([.int .i64 m, .int .i64 al, .int .i64 no, .slice A1 len acap], 26), ([.slice none 0 0, .slice none 0 0], 40)] := ⟨_, rfl⟩
  rw [← hW0] at hB0 hb0
  have hW0' : ((w.alloc (.cells #[.slice A X.rows.length cap, .slice G X.gens.length gcap] 40)).alloc (.cells #[.int .i64 m, .int .i64 al, .int .i64 no, .slice A1 len acap] 26)).alloc (.cells #[.slice none 0 0, .slice none 0 0] 40) = W0 := hW0.symm
  have HNB : Hid (∀ k, ¬ Blk A G X (w.heap.size + k)) := hide (fun k hb => by have := blk_lt hX hb; omega)
  have hO0 : OB w A G X m al no (.slice A1 len acap) A cap G gcap X W0 := ⟨hB0, hb0, WF.refl (hX.below hb0)⟩
  have hWR := wrong_any m al no A1 len acap a W0 (hA.below hb0)
  unfold sysV faultV at hWR
  have s0 := hB0.cell 1 rfl 0 rfl
  have s1 := hB0.cell 1 rfl 1 rfl
  have s2 := hB0.cell 1 rfl 2 rfl
  have s3 := hB0.cell 1 rfl 3 rfl
  have HO0 := hide hO0
  have HW0 := hide hW0'
  have HA := hide hA
  clear hW0 hW0' hB0 hb0 hX hA hO0
  rw [hw] at hWR
  generalize (wrF m al no a len).2 = wa at *
  have HWR := hide hWR
  have HR := hide hr
  have hMA := fun W (hW : WldAt W A cap G gcap X) => match_any A cap G gcap X al no W (by omega) hW
  unfold wldV worldV at hMA
  have HMA := hide hMA
  have hbl := bsTo_len X al no X.rows.length
  clear hWR hr hMA hw
  obtain ⟨bs, hbs⟩ : ∃ bs, bs = bsTo X al no X.rows.length := ⟨_, rfl⟩
  rw [← hbs] at HMA hbl ⊢
  clear hbs
  obtain ⟨R, hR⟩ : ∃ R, R = runTo a len bs X := ⟨_, rfl⟩
  rw [← hR]
  have HRR := hide hR
  clear hR
  unfold wldV worldV sysV
  go_enter Try.func47, Try.ntmps47
  go_upto_region 1 with fail
  rw [unhide HW0]
  go_wp2_with ((go_at_call 12; refine (unhide HWR).mono ?_; rintro e w5 ⟨rfl, hb5⟩; have h6 := (((unhide HO0).below hb5).below (bel1 w5 (.cells #[.int .i64 0, .int .i64 wa] 30))); have x0 := h6.bx.cell 0 rfl 0 rfl; have x1 := h6.bx.cell 0 rfl 1 rfl; rw [Nat.add_zero] at x0 x1; have x2 := h6.bx.cell 1 rfl 1 rfl; have x3 := h6.bx.cell 1 rfl 2 rfl; have HO6 := hide h6; clear hb5 h6 s0 s1 s2 s3))
  go_at_call 49
  refine (unhide HMA _ (unhide HO6).wf.at_).mono ?_
  rintro e w7 ⟨v7, rfl, ho7, hb7⟩
  obtain ⟨Ab, cb, rfl, hBs⟩ := bs_own ho7
  have HO7 := hide ((unhide HO6).below hb7)
  have HBS := hide hBs
  have HBB : Hid (∀ o', Ab = some ⟨w.heap.size + 0, o', none⟩ → bs.length = 0) := hide (fun o' e => by
    rcases Nat.eq_zero_or_pos bs.length with h | h
    · exact h
    · have h1 := (ho7.lt (w.heap.size + 0) (by rw [e]; rfl)).1
      have h2 := (unhide HO6).sz
      omega)
  clear ho7 hb7 hBs x0 x1 x2 x3 HO6
  go_wp2_with fail
  go_loopw [24] (fun x wr => ∃ j : Nat, j ≤ bs.length ∧ x = .int .i64 (j : Int) ∧ ∃ Ac cc Gc gcc Xc, OB w A G X m al no (.slice A1 len acap) Ac cc Gc gcc Xc wr ∧ BsAt wr Ab bs ∧ RightW Xc ∧ R = runTo a len (bs.drop j) Xc) (fun x _ => bs.length - (intOf x).toNat)
  case atStart => exact ⟨0, Nat.zero_le _, rfl, A, cap, G, gcap, X, unhide HO7, unhide HBS, unhide HR, unhide HRR⟩
  case round =>
    clear HO7 HBS HRR HR
    obtain ⟨j, hj, rfl, Ac, cc, Gc, gcc, Xc, hO, hB, hrc, hRc⟩ := hrel
    have hxl := (right_hr ((right_iff Xc).2 hrc)).1
    by_cases hlt : j < bs.length
    · have j0 : (0 : Int) ≤ (j : Int) := by omega
      have j1 : (j : Int) < (bs.length : Int) := by omega
      rw [runTo_step a len bs j Xc hlt] at hRc
      obtain ⟨b, off, hAe, c0, c1⟩ := hB j hlt
      obtain ⟨i, hi⟩ : ∃ i, i = (bs.getD j (0, 0)).1 := ⟨_, rfl⟩
      obtain ⟨g, hg⟩ : ∃ g, g = (bs.getD j (0, 0)).2 := ⟨_, rfl⟩
      rw [← hi, ← hg] at hRc
      rw [← hi] at c0
      rw [← hg] at c1
      obtain ⟨W4, hW4⟩ : ∃ W4, W4 = wr.alloc (.cells #[.int .i64 i, .int .i64 g] 50) := ⟨_, rfl⟩
      have hb4 : Below wr.heap.size wr W4 := by rw [hW4]; exact bel1 _ _
      have hO4 := hO.below hb4
      have hTU := turn_any Ac cc Gc gcc Xc i g A1 len acap a W4 (by omega) hO4.wf.at_ hrc hlen ((unhide HA).below hO4.bel)
      have hTN := fun h => turn_no i g a len 0 Xc h
      have hTR := fun h => turn_right i g a len 0 Xc hrc h
      obtain ⟨Y, hY⟩ : ∃ Y, Y = (turnTo i g a len 0 Xc).2 := ⟨_, rfl⟩
      obtain ⟨err, herr⟩ : ∃ err, err = (turnTo i g a len 0 Xc).1 := ⟨_, rfl⟩
      rw [← hY, ← herr] at hTU hTN hTR hRc
      unfold wldV worldV beingV at hTU
      have w0 := hO4.bx.cell 0 rfl 0 rfl
      have w1 := hO4.bx.cell 0 rfl 1 rfl
      rw [Nat.add_zero] at w0 w1
      have s3 := hO4.bx.cell 1 rfl 3 rfl
      have b0 : W4.cell? ⟨wr.heap.size, 0, none⟩ = some (.int .i64 i) := by rw [hW4]; simp
      have b1 : W4.cell? ⟨wr.heap.size, 1, none⟩ = some (.int .i64 g) := by rw [hW4]; simp
      have hW4' : wr.alloc (.cells #[.int .i64 i, .int .i64 g] 50) = W4 := hW4.symm
      have HW4 := hide hW4'
      have HTU := hide hTU
      have HTN := hide hTN
      have HTR := hide hTR
      have HO4 := hide hO4
      have HB4 := hide (hB.below hb4)
      have HRC := hide hRc
      have HAL : Hid (0 < bs.length → Ab = some ⟨b, off, none⟩) := hide (fun _ => hAe)
      clear hO hO4 hb4 hTU hTN hTR hY herr hW4 hW4' hRc hrc hi hg hB
      subst hAe
      go_upto_region 7 with fail
      rw [unhide HW4]
      clear c0 c1
      go_wp2_with fail
      go_at_call 73
      refine (unhide HTU).mono ?_
      rintro e w5 ⟨A4, c4, G4, gc4, rfl, hF5, hb5⟩
      have h5 := (unhide HO4).below hb5
      have h6 := h5.below (bel1 w5 (.cells #[.slice A4 Y.rows.length c4, .slice G4 Y.gens.length gc4] 40))
      have hF6 : WF (w.heap.size + 3) A G X (w5.alloc (.cells #[.slice A4 Y.rows.length c4, .slice G4 Y.gens.length gc4] 40)) A4 c4 G4 gc4 Y := ((unhide HO4).wf.trans hF5 (unhide HO4).sz).below (bel1 _ _)
      have hB6 := ((unhide HB4).below hb5).below (bel1 w5 (.cells #[.slice A4 Y.rows.length c4, .slice G4 Y.gens.length gc4] 40))
      have n0 : (w5.alloc (.cells #[.slice A4 Y.rows.length c4, .slice G4 Y.gens.length gc4] 40)).cell? ⟨w5.heap.size, 0, none⟩ = some (.slice A4 Y.rows.length c4) := by simp
      have n1 : (w5.alloc (.cells #[.slice A4 Y.rows.length c4, .slice G4 Y.gens.length gc4] 40)).cell? ⟨w5.heap.size, 1, none⟩ = some (.slice G4 Y.gens.length gc4) := by simp
      obtain ⟨W6, hW6⟩ : ∃ W6, W6 = w5.alloc (.cells #[.slice A4 Y.rows.length c4, .slice G4 Y.gens.length gc4] 40) := ⟨_, rfl⟩
      rw [← hW6] at h6 hF6 n0 n1 hB6
      have hW6' : w5.alloc (.cells #[.slice A4 Y.rows.length c4, .slice G4 Y.gens.length gc4] 40) = W6 := hW6.symm
      have HW6 := hide hW6'
      have HB6 := hide h6.bx
      have HL6 := hide h6.bel
      have HF6 := hide hF6
      have HBS6 := hide hB6
      clear hF5 hb5 h5 h6 hF6 hB6 hW6 hW6' HTU HO4 HB4 w0 w1 b0 b1 s3
      by_cases he : err = 0
      · subst he
        have HRY := hide (unhide HTR rfl)
        clear HTN HTR
        go_upto_region 8 with fail
        rw [unhide HW6]
        go_wp2_with (refine wpList_putN rfl 40 (.tmp 2) (.tmp 40) rfl (w.heap.size + 0) 0 [.slice A4 Y.rows.length c4, .slice G4 Y.gens.length gc4] rfl rfl (by simp [Value.oneCell']) size38 ((unhide HB6).there 0 rfl 2 rfl) ?_; intro W7 hW; have q1 := (unhide HB6).give 0 rfl [.slice A4 Y.rows.length c4, .slice G4 Y.gens.length gc4] rfl; have q3 := below_setCells (w.heap.size + 0) (by omega) [.slice A4 Y.rows.length c4, .slice G4 Y.gens.length gc4] 0 _ (unhide HL6); have q4 := wf_puts0 (k := 0) (o := 0) (vs := [.slice A4 Y.rows.length c4, .slice G4 Y.gens.length gc4]) (unhide HF6) (unhide HNB) (by omega); have q5 := bs_puts (unhide HBS6) (b := w.heap.size + 0) (o := 0) (vs := [.slice A4 Y.rows.length c4, .slice G4 Y.gens.length gc4]) (unhide HBB); rw [← hW] at q1 q3 q4 q5; have HB7 := hide q1; have HL7 := hide q3; have HF7 := hide q4; have HBS7 := hide q5; clear hW q1 q3 q4 q5)
        have hR2 := unhide HRC
        rw [if_neg (by simp)] at hR2
        have HR2 := hide hR2
        clear hR2
        go_roundw
        case rel => exact ⟨j + 1, by omega, by go_num, A4, c4, G4, gc4, Y, ⟨unhide HB7, unhide HL7, unhide HF7⟩, unhide HBS7, unhide HRY, unhide HR2⟩
        case measure => simp [intOf]; omega
      · skip
        have hR2 := unhide HRC
        rw [if_pos he] at hR2
        have HR2 := hide hR2
        clear hR2 HTN HTR HRC
        have hne : (err == 0) = false := by simpa using he
        go_upto_region 8 with fail
        rw [unhide HW6]
        go_wp2_with (refine wpList_putN rfl 40 (.tmp 4) (.tmp 38) rfl (w.heap.size + 2) 0 [.slice none 0 0, .slice none 0 0] rfl rfl (by simp [Value.oneCell']) size38 ((unhide HB6).there 2 rfl 2 rfl) ?_; intro W8 hW; have q1 := (unhide HB6).give 2 rfl [.slice none 0 0, .slice none 0 0] rfl; have q3 := below_setCells (w.heap.size + 2) (by omega) [.slice none 0 0, .slice none 0 0] 0 _ (unhide HL6); rw [← hW] at q1 q3; have HB8 := hide q1; have HL8 := hide q3; clear hW q1 q3)
        have t0 := (unhide HB8).cell 2 rfl 0 rfl
        have t1 := (unhide HB8).cell 2 rfl 1 rfl
        refine bodyPost_ret (v := .tuple #[.agg #[.slice none 0 0, .slice none 0 0], .int .i64 err]) (by simp [results, Try.results47, go_sem, t0, t1]) rfl ?_
        rw [unhide HR2]
        exact ⟨none, 0, none, 0, rfl, WF.empty _ _ _ _ _, unhide HL8⟩
    · obtain rfl : j = bs.length := by omega
      have w0 := hO.bx.cell 0 rfl 0 rfl
      have w1 := hO.bx.cell 0 rfl 1 rfl
      rw [Nat.add_zero] at w0 w1
      have HB7 := hide hO.bx
      have HL7 := hide hO.bel
      have HF7 := hide hO.wf
      have hR2 := hRc
      rw [List.drop_length, runTo] at hR2
      have HR2 := hide hR2
      clear hO hRc hR2 hB
      go_wp2_with (refine wpList_putN rfl 40 (.tmp 4) (.tmp 42) rfl (w.heap.size + 2) 0 [.slice Ac Xc.rows.length cc, .slice Gc Xc.gens.length gcc] rfl rfl (by simp [Value.oneCell']) size38 ((unhide HB7).there 2 rfl 2 rfl) ?_; intro W8 hW; have q1 := (unhide HB7).give 2 rfl [.slice Ac Xc.rows.length cc, .slice Gc Xc.gens.length gcc] rfl; have q3 := below_setCells (w.heap.size + 2) (by omega) [.slice Ac Xc.rows.length cc, .slice Gc Xc.gens.length gcc] 0 _ (unhide HL7); have q4 := wf_puts0 (k := 2) (o := 0) (vs := [.slice Ac Xc.rows.length cc, .slice Gc Xc.gens.length gcc]) (unhide HF7) (unhide HNB) (by omega); rw [← hW] at q1 q3 q4; have HB8 := hide q1; have HL8 := hide q3; have HF8 := hide q4; clear hW q1 q3 q4)
      have t0 := (unhide HB8).cell 2 rfl 0 rfl
      have t1 := (unhide HB8).cell 2 rfl 1 rfl
      refine bodyPost_ret (v := .tuple #[.agg #[.slice Ac Xc.rows.length cc, .slice Gc Xc.gens.length gcc], .int .i64 0]) (by simp [results, Try.results47, go_sem, t0, t1]) rfl ?_
      rw [unhide HR2]
      exact ⟨Ac, cc, Gc, gcc, rfl, (unhide HF8).le (by omega), unhide HL8⟩
theorem runon_any (A : Option Addr) (cap : Nat) (G : Option Addr) (gcap : Nat) (X : Wd) (m al no : Int) (A1 : Option Addr) (len acap : Nat) (a : Nat → ActI) (w : World) (hX : WldAt w A cap G gcap X) (hr : RightW X) (hA : ActsAt w A1 len a) :
    Calls Try.prog 47 #[wldV A cap G gcap X, sysV m al no A1 len acap] w fun e w' => ∃ A' c' G' gc', e = .returned (.tuple #[wldV A' c' G' gc' (runF X m al no a len).2, .int .i64 (runF X m al no a len).1]) ∧ WF w.heap.size A G X w' A' c' G' gc' (runF X m al no a len).2 ∧ Below w.heap.size w w' := by
  unfold runF
  by_cases h : (wrF m al no a len).1 = 0
  · rw [if_neg (by simpa using h)]
    exact runon_right A cap G gcap X m al no A1 len acap a w hX hr hA h
  · rw [if_pos h]
    exact (runon_wrong A cap G gcap X m al no A1 len acap a w hX hr hA h).mono fun e w' ⟨he, hb⟩ => ⟨none, 0, none, 0, he, WF.empty _ _ _ _ _, hb⟩
end Go.Proofs.Ytnbleebilmghcab
