/- The document's Wrong, of a world. -/
import Derived.Test.YtnbleebilmghcaaLPRNext
set_option linter.unusedVariables false
set_option linter.unusedSimpArgs false
set_option linter.unnecessarySimpa false
namespace Go.Proofs.Ytnbleebilmghcaa
open Go Go.RowKit
attribute [local go_sem ↓] Go.wp_at_zero Go.wp_at_succ

theorem size43 : (Try.prog.info? 43).map (·.size) = some 2 := by kernel_rfl
theorem VB.ab {w W : World} {A : Option Addr} {n cap : Nat} {G : Option Addr} {gn gcap : Nat} (h : VB w A n cap G gn gcap W) : AB w (w.heap.size + 1) (.int .i64 0) (.int .i64 0) W := ⟨h.bel, by omega, h.t0, h.t1, h.f⟩
theorem run_ix59 (x : RowI) (k : Nat) (w : World) (hk : k < 8) :
    Sem.run Try.prog (Instr.index 59 (.agg #[.int .i64 (x.v 0), .int .i64 (x.v 1), .int .i64 (x.v 2), .int .i64 (x.v 3), .int .i64 (x.v 4), .int .i64 (x.v 5), .int .i64 (x.v 6), .int .i64 (x.v 7)]) (.int .i64 (k : Int))) w = .ok (.int .i64 (x.v k)) w := by
  rcases (by omega : k = 0 ∨ k = 1 ∨ k = 2 ∨ k = 3 ∨ k = 4 ∨ k = 5 ∨ k = 6 ∨ k = 7) with rfl | rfl | rfl | rfl | rfl | rfl | rfl | rfl
  all_goals simp [Instr.index, go_sem]
theorem okVs_next (x : RowI) (k : Nat) : okVs x (k + 1) = (okVs x k && okV x k) := by
  unfold okVs
  rw [List.range_succ, List.all_append]; simp
theorem okVs_not (x : RowI) (k : Nat) (hk : k < 8) (h : okV x k = false) : okVs x 8 = false := by
  unfold okVs
  rw [List.all_eq_false]
  exact ⟨k, List.mem_range.2 hk, by simp [h]⟩

set_option maxRecDepth 8000 in
set_option maxHeartbeats 1000000 in
theorem bad_any (e j : Int) (b : Nat) (w : World) (h : w.cell? ⟨b, 0, none⟩ = some (.int .i64 j)) :
    Calls Try.prog 81 #[.int .i64 e, .pointer (some ⟨b, 0, none⟩)] w fun r w' => r = .returned (.agg #[.int .i64 e, .int .i64 j]) ∧ Below w.heap.size w w' := by
  have hl := World.block_lt_of_cell? w _ h
  go_enter Try.func81, Try.ntmps81
  go_wp2
  refine bodyPost_ret (v := .agg #[.int .i64 e, .int .i64 j]) (by simp [results, Try.results81, go_sem]) rfl ⟨rfl, ?_⟩
  go_grown

set_option maxRecDepth 8000 in
set_option maxHeartbeats 8000000 in
theorem rpwrong_any (A : Option Addr) (n cap : Nat) (G : Option Addr) (gn gcap : Nat) (R : Nat → RowI) (f : Nat → Int) (w : World) (hn : n ≤ 9223372036854775807) (hR : RowsAt w A n R) (hG : IntsAt w G gn f) :
    Calls Try.prog 35 #[worldV A n cap G gn gcap] w fun e w' => e = .returned (faultP (plainF R n gn f)) ∧ Below w.heap.size w w' := by
  have HV := hide (VB.start w A n cap G gn gcap)
  have r0 := (unhide HV).r0
  have r1 := (unhide HV).r1
  unfold plainF faultP worldV
  by_cases h60 : 60 < gn
  · have h60' : (60 : Int) < (gn : Int) := by omega
    rw [if_pos h60]
    clear r0 r1
    go_enter Try.func35, Try.ntmps35
    go_wp2
    refine bodyPost_ret (v := .agg #[.int .i64 4, .int .i64 0]) (by simp [results, Try.results35, go_sem]) rfl ⟨rfl, ?_⟩
    go_grown
  · have h60' : ¬ (60 : Int) < (gn : Int) := by omega
    rw [if_neg h60]
    have HR := hide hR
    have HG := hide hG
    clear hR hG
    obtain ⟨PV, hPV⟩ : ∃ v, v = gTo f (rTo R gn f n 0) gn 0 := ⟨_, rfl⟩
    have HPV := hide hPV
    rw [← hPV]
    clear hPV
    go_enter Try.func35, Try.ntmps35
    go_wp2
    go_loopw [19] (fun i wr => ∃ j : Nat, j ≤ gn ∧ i = .int .i64 j ∧ PV = gTo f (rTo R gn f n 0) (gn - j) j ∧ VB w A n cap G gn gcap wr) (fun i _ => gn - (intOf i).toNat)
    case atStart => exact ⟨0, Nat.zero_le _, rfl, unhide HPV, unhide HV⟩
    case round =>
      clear r0 r1 HV HPV
      obtain ⟨j, hj, rfl, hF, hV⟩ := hrel
      by_cases hlt : j < gn
      · have j0 : (0 : Int) ≤ (j : Int) := by omega
        have j1 : (j : Int) < (gn : Int) := by omega
        obtain ⟨b, off, rfl, hg⟩ := unhide HG j hlt
        have hg := keep_below hV.bel hg
        have HS := hide (hF.trans (gTo_step f (rTo R gn f n 0) gn j hlt))
        have HV := hide hV
        clear hV hF HG HR
        generalize f j = gj at *
        by_cases g1 : gj < 1
        · go_wp2_with (first
            | (refine wpList_putN rfl 43 (.tmp 2) (.tmp 31) rfl (w.heap.size + 1) 0 [.int .i64 3, .int .i64 (j : Int)] rfl rfl (by simp [Value.oneCell']) size43 (unhide HV).ab.there ?_; intro W9 hW9; have hA9 := (unhide HV).ab.give (.int .i64 3) (.int .i64 (j : Int)); rw [← hW9] at hA9; have HA9 := hide hA9; clear hW9 hA9))
          have t0 := (unhide HA9).t0
          have t1 := (unhide HA9).t1
          have hv := (unhide HS).trans (if_pos (.inl g1))
          refine bodyPost_ret (v := .agg #[.int .i64 3, .int .i64 (j : Int)]) (by simp [results, Try.results35, go_sem, t0, t1]) rfl ⟨by rw [hv], (unhide HA9).bel⟩
        · by_cases g2 : 1000 < gj
          · go_wp2_with (first
              | (refine wpList_putN rfl 43 (.tmp 2) (.tmp 31) rfl (w.heap.size + 1) 0 [.int .i64 3, .int .i64 (j : Int)] rfl rfl (by simp [Value.oneCell']) size43 (unhide HV).ab.there ?_; intro W9 hW9; have hA9 := (unhide HV).ab.give (.int .i64 3) (.int .i64 (j : Int)); rw [← hW9] at hA9; have HA9 := hide hA9; clear hW9 hA9))
            have t0 := (unhide HA9).t0
            have t1 := (unhide HA9).t1
            have hv := (unhide HS).trans (if_pos (.inr g2))
            refine bodyPost_ret (v := .agg #[.int .i64 3, .int .i64 (j : Int)]) (by simp [results, Try.results35, go_sem, t0, t1]) rfl ⟨by rw [hv], (unhide HA9).bel⟩
          · go_wp2
            go_roundw
            case rel => exact ⟨j + 1, by omega, by go_num, (unhide HS).trans (if_neg (by omega)), unhide HV⟩
            case measure => simp [intOf]; omega
      · obtain rfl : j = gn := by omega
        have hF2 : PV = rTo R j f n 0 := by rw [hF, Nat.sub_self]; rfl
        have r0 := hV.r0
        have r1 := hV.r1
        have HF2 := hide hF2
        have HV := hide hV
        clear hF hF2 hV
        go_wp2
        clear r0 r1
        go_loopw [36] (fun i wr => ∃ k : Nat, k ≤ n ∧ i = .int .i64 k ∧ PV = rTo R j f (n - k) k ∧ VB w A n cap G j gcap wr) (fun i _ => n - (intOf i).toNat)
        case atStart => exact ⟨0, Nat.zero_le _, rfl, unhide HF2, unhide HV⟩
        case round =>
          clear HF2 HV
          obtain ⟨k, hk, rfl, hF, hV⟩ := hrel
          obtain ⟨W0, hW0⟩ : ∃ W, W = wr := ⟨_, rfl⟩
          subst hW0
          by_cases hlt : k < n
          · have k0 : (0 : Int) ≤ (k : Int) := by omega
            have k1 : (k : Int) < (n : Int) := by omega
            obtain ⟨b, off, hA, hrow⟩ := unhide HR k hlt
            have hrow := hrow.below hV.bel
            have c0 := hrow.c0
            have c1 := hrow.c1
            have c2 := hrow.c2
            have c3 := hrow.v 0 (by omega)
            have c4 := hrow.v 1 (by omega)
            have c5 := hrow.v 2 (by omega)
            have c6 := hrow.v 3 (by omega)
            have c7 := hrow.v 4 (by omega)
            have c8 := hrow.v 5 (by omega)
            have c9 := hrow.v 6 (by omega)
            have c10 := hrow.v 7 (by omega)
            simp only [Nat.add_assoc, Nat.reduceAdd] at c3 c4 c5 c6 c7 c8 c9 c10
            simp only [← Nat.add_assoc] at c3 c4 c5 c6 c7 c8 c9 c10
            have HS := hide (hF.trans (rTo_step R j f n k hlt))
            have HV := hide hV
            have HST := hide (fun W => rset_any (R k).has W)
            have HPR : Hid (0 < k → ∃ o', A = some ⟨b, o', none⟩ ∧ W0.cell? ⟨b, o' + (k - 1) * 11, none⟩ = some (.int .i64 (R (k - 1)).ix)) := fun hk0 => by
              obtain ⟨b', off', hA', hrow'⟩ := unhide HR (k - 1) (by omega)
              rw [hA] at hA'
              injection hA' with hA'
              injection hA' with e1 e2
              subst e1 e2
              exact ⟨off, hA, (hrow'.below (unhide HV).bel).c0⟩
            subst hA
            have HW : Hid (wrowI R j f k = if rvB (R k) = false ∨ (R k).ix < 0 ∨ (j : Int) ≤ (R k).ix then 3 else if 0 < k ∧ (R k).ix ≤ (R (k - 1)).ix then 2 else if (R k).gen = f (R k).ix.toNat then 0 else 7) := rfl
            generalize wrowI R j f k = wi at *
            clear hF hV hrow HR
            generalize (R (k - 1)).ix = pix at *
            obtain ⟨x, hx⟩ : ∃ x, x = R k := ⟨_, rfl⟩
            rw [← hx] at c0 c1 c2 c3 c4 c5 c6 c7 c8 c9 c10 HST HW
            clear hx
            by_cases hset : setB x.has = true
            · have hsb := set_bd hset
              rw [hset] at HST
              go_wp2_with (first
                | (go_at_call 16; refine (unhide HST _).mono ?_; rintro e w5 ⟨rfl, hw5⟩; subst hw5))
              clear HST c0 c1 c2 c3 c4 c5 c6 c7 c8 c9 c10
              go_loopw [50] (fun i wr => ∃ q : Nat, q ≤ 8 ∧ i = .int .i64 q ∧ okVs x q = true ∧ VB w (some ⟨b, off, none⟩) n cap G j gcap wr ∧ wr.cell? ⟨W0.heap.size, 0, none⟩ = some (.int .i64 (k : Int)) ∧ wr.cell? ⟨W0.heap.size + 1, 0, none⟩ = some (.int .i64 x.ix) ∧ wr.cell? ⟨W0.heap.size + 1, 1, none⟩ = some (.int .i64 x.gen) ∧ wr.cell? ⟨W0.heap.size + 1, 2, none⟩ = some (.int .i64 x.has) ∧ Below W0.heap.size W0 wr) (fun i _ => 8 - (intOf i).toNat)
              case atStart => exact ⟨0, Nat.zero_le _, rfl, rfl, (unhide HV).below (bel2 _ _ _), by simp [go_sem], by simp [go_sem], by simp [go_sem], by simp [go_sem], bel2 _ _ _⟩
              case round =>
                clear HV
                obtain ⟨q, hq, rfl, hok, hV, d0, d1, d2, d3, hbw⟩ := hrel
                by_cases hq8 : q < 8
                · have q0 : (0 : Int) ≤ (q : Int) := by omega
                  have q1 : (q : Int) < 8 := by omega
                  have hix := fun W => run_ix59 x q W hq8
                  have HVA := hide (fun W => rvalue_any (x.v q) W)
                  have hHA := fun W => rhas_any x.has (q : Int) W hsb.1 hsb.2
                  rw [← has_hasB x.has (q : Int) hsb.1 hsb.2] at hHA
                  have e1 : (bits .and .i64 x.has (bitI (q : Int)) != 0) = hasI x.has (q : Int) := rfl
                  rw [e1] at hHA
                  have HHA := hide hHA
                  have hokv : okV x q = (valB (x.v q) && (x.v q == 0 || hasI x.has (q : Int))) := rfl
                  have HOK := hide (okVs_next x q)
                  have HNO := hide (okVs_not x q hq8)
                  have HV := hide hV
                  have HBW := hide hbw
                  have HW2 := hide (fun (h : okVs x 8 = false) => (unhide HW).trans (if_pos (.inl (by unfold rvB; rw [hset, h]; rfl))))
                  clear hV hbw HW HPR hHA e1
                  generalize okV x q = ok at *
                  generalize hasI x.has (q : Int) = ha at *
                  generalize hvq : x.v q = vq at *
                  clear hvq
                  generalize valB vq = va at *
                  cases va
                  · have hno : ok = false := by rw [hokv]; rfl
                    clear hokv
                    subst hno
                    have hw3 : wi = 3 := unhide HW2 (unhide HNO rfl)
                    subst hw3
                    go_wp2_with (first
                      | (go_at_call 19; refine (unhide HVA _).mono ?_; rintro e w5 ⟨rfl, hw5⟩; subst hw5)
                      | (go_at_call 81; refine (bad_any 3 (k : Int) W0.heap.size _ d0).mono ?_; rintro e w6 ⟨rfl, hb6⟩; have HA6 := hide ((unhide HV).below hb6).ab; clear hb6)
                      | (refine wpList_putN rfl 43 (.tmp 2) (.tmp 69) rfl (w.heap.size + 1) 0 [.int .i64 3, .int .i64 (k : Int)] rfl rfl (by simp [Value.oneCell']) size43 (unhide HA6).there ?_; intro W9 hW9; have hA9 := (unhide HA6).give (.int .i64 3) (.int .i64 (k : Int)); rw [← hW9] at hA9; have HA9 := hide hA9; clear hW9 hA9))
                    have t0 := (unhide HA9).t0
                    have t1 := (unhide HA9).t1
                    have hv := (unhide HS).trans (if_neg (by decide))
                    refine bodyPost_ret (v := .agg #[.int .i64 3, .int .i64 (k : Int)]) (by simp [results, Try.results35, go_sem, t0, t1]) rfl ⟨by rw [hv], (unhide HA9).bel⟩
                  · by_cases hv0 : vq = 0
                    · have hno : ok = true := by rw [hokv, hv0]; rfl
                      clear hokv
                      subst hno
                      subst hv0
                      go_wp2_with (first
                        | (go_at_call 19; refine (unhide HVA _).mono ?_; rintro e w5 ⟨rfl, hw5⟩; subst hw5))
                      go_roundw
                      case rel => exact ⟨q + 1, by omega, by go_num, by rw [unhide HOK, hok]; rfl, unhide HV, d0, d1, d2, d3, unhide HBW⟩
                      case measure => simp [intOf]; omega
                    · have hv1 : (vq == 0) = false := by simpa using hv0
                      rw [hv1] at hokv
                      cases ha
                      · have hno : ok = false := by rw [hokv]; rfl
                        clear hokv
                        subst hno
                        have hw3 : wi = 3 := unhide HW2 (unhide HNO rfl)
                        subst hw3
                        go_wp2_with (first
                          | (go_at_call 19; refine (unhide HVA _).mono ?_; rintro e w5 ⟨rfl, hw5⟩; subst hw5)
                          | (go_at_call 26; refine (unhide HHA _).mono ?_; rintro e w5 ⟨rfl, hb5⟩; replace d0 := keep_below hb5 d0; have HV5 := hide ((unhide HV).below hb5); clear hb5)
                          | (go_at_call 81; refine (bad_any 3 (k : Int) W0.heap.size _ d0).mono ?_; rintro e w6 ⟨rfl, hb6⟩; have HA6 := hide ((unhide HV5).below hb6).ab; clear hb6)
                          | (refine wpList_putN rfl 43 (.tmp 2) (.tmp 69) rfl (w.heap.size + 1) 0 [.int .i64 3, .int .i64 (k : Int)] rfl rfl (by simp [Value.oneCell']) size43 (unhide HA6).there ?_; intro W9 hW9; have hA9 := (unhide HA6).give (.int .i64 3) (.int .i64 (k : Int)); rw [← hW9] at hA9; have HA9 := hide hA9; clear hW9 hA9))
                        have t0 := (unhide HA9).t0
                        have t1 := (unhide HA9).t1
                        have hv := (unhide HS).trans (if_neg (by decide))
                        refine bodyPost_ret (v := .agg #[.int .i64 3, .int .i64 (k : Int)]) (by simp [results, Try.results35, go_sem, t0, t1]) rfl ⟨by rw [hv], (unhide HA9).bel⟩
                      · have hno : ok = true := by rw [hokv]; rfl
                        clear hokv
                        subst hno
                        go_wp2_with (first
                          | (go_at_call 19; refine (unhide HVA _).mono ?_; rintro e w5 ⟨rfl, hw5⟩; subst hw5)
                          | (go_at_call 26; refine (unhide HHA _).mono ?_; rintro e w5 ⟨rfl, hb5⟩; replace d0 := keep_below hb5 d0; replace d1 := keep_below hb5 d1; replace d2 := keep_below hb5 d2; replace d3 := keep_below hb5 d3; have HV5 := hide ((unhide HV).below hb5); have HBW5 := hide ((unhide HBW).trans (hb5.mono (unhide HBW).size)); clear hb5))
                        go_roundw
                        case rel => exact ⟨q + 1, by omega, by go_num, by rw [unhide HOK, hok]; rfl, unhide HV5, d0, d1, d2, d3, unhide HBW5⟩
                        case measure => simp [intOf]; omega
                · obtain rfl : q = 8 := by omega
                  have hrv : rvB x = true := by unfold rvB; rw [hset, hok]; rfl
                  have r0 := hV.r0
                  have r1 := hV.r1
                  have HV := hide hV
                  rw [hrv] at HW
                  have hW := unhide HW
                  have hpr : 0 < k → ∃ o', (some ⟨b, off, none⟩ : Option Addr) = some ⟨b, o', none⟩ ∧ wr.cell? ⟨b, o' + (k - 1) * 11, none⟩ = some (.int .i64 pix) := fun h => by
                    obtain ⟨o', h1, h2⟩ := unhide HPR h
                    exact ⟨o', h1, keep_below hbw h2⟩
                  clear hV HW HPR hok hset hsb hrv
                  obtain ⟨ix, gen, has, v⟩ := x
                  dsimp only at *
                  by_cases i0 : ix < 0
                  · have hw3 : wi = 3 := hW.trans (if_pos (.inr (.inl i0)))
                    subst hw3
                    clear hW hpr hbw
                    go_wp2_with (first
                      | (go_at_call 81; refine (bad_any 3 (k : Int) W0.heap.size _ d0).mono ?_; rintro e w6 ⟨rfl, hb6⟩; have HA6 := hide ((unhide HV).below hb6).ab; clear hb6)
                      | (refine wpList_putN rfl 43 (.tmp 2) (.tmp 84) rfl (w.heap.size + 1) 0 [.int .i64 3, .int .i64 (k : Int)] rfl rfl (by simp [Value.oneCell']) size43 (unhide HA6).there ?_; intro W9 hW9; have hA9 := (unhide HA6).give (.int .i64 3) (.int .i64 (k : Int)); rw [← hW9] at hA9; have HA9 := hide hA9; clear hW9 hA9))
                    have t0 := (unhide HA9).t0
                    have t1 := (unhide HA9).t1
                    have hv := (unhide HS).trans (if_neg (by decide))
                    refine bodyPost_ret (v := .agg #[.int .i64 3, .int .i64 (k : Int)]) (by simp [results, Try.results35, go_sem, t0, t1]) rfl ⟨by rw [hv], (unhide HA9).bel⟩
                  · by_cases i1 : (j : Int) ≤ ix
                    · have hw3 : wi = 3 := hW.trans (if_pos (.inr (.inr i1)))
                      subst hw3
                      clear hW hpr hbw
                      go_wp2_with (first
                        | (go_at_call 81; refine (bad_any 3 (k : Int) W0.heap.size _ d0).mono ?_; rintro e w6 ⟨rfl, hb6⟩; have HA6 := hide ((unhide HV).below hb6).ab; clear hb6)
                        | (refine wpList_putN rfl 43 (.tmp 2) (.tmp 84) rfl (w.heap.size + 1) 0 [.int .i64 3, .int .i64 (k : Int)] rfl rfl (by simp [Value.oneCell']) size43 (unhide HA6).there ?_; intro W9 hW9; have hA9 := (unhide HA6).give (.int .i64 3) (.int .i64 (k : Int)); rw [← hW9] at hA9; have HA9 := hide hA9; clear hW9 hA9))
                      have t0 := (unhide HA9).t0
                      have t1 := (unhide HA9).t1
                      have hv := (unhide HS).trans (if_neg (by decide))
                      refine bodyPost_ret (v := .agg #[.int .i64 3, .int .i64 (k : Int)]) (by simp [results, Try.results35, go_sem, t0, t1]) rfl ⟨by rw [hv], (unhide HA9).bel⟩
                    · obtain ⟨m, rfl⟩ : ∃ m : Nat, ix = (m : Int) := ⟨ix.toNat, by omega⟩
                      have hmj : m < j := by omega
                      have m1 : (m : Int) < (j : Int) := by omega
                      have m0 : (0 : Int) ≤ (m : Int) := by omega
                      rw [if_neg (by rintro (h | h | h); cases h; omega; omega), Int.toNat_natCast] at hW
                      obtain ⟨bg, og, rfl, hgc⟩ := unhide HG m hmj
                      have hgc := keep_below (unhide HV).bel hgc
                      clear HG
                      generalize f m = fm at *
                      have hkc : k = 0 ∨ ∃ k', k = k' + 1 := by
                        rcases k with _ | k'
                        · exact .inl rfl
                        · exact .inr ⟨k', rfl⟩
                      rcases hkc with hk0 | ⟨k', rfl⟩
                      · have hgt : ¬ (0 : Int) < (k : Int) := by omega
                        rw [if_neg (by omega)] at hW
                        clear hpr hbw hk0
                        by_cases hgg : gen = fm
                        · have hw0 : wi = 0 := hW.trans (if_pos hgg)
                          subst hgg hw0
                          clear hW
                          go_wp2
                          go_quiet (fail)
                          go_wp2
                          go_roundw
                          case rel => exact ⟨k + 1, by omega, by go_num, (unhide HS).trans (if_pos trivial), (unhide HV).below (bel_drewN' (Below.refl _ _) _)⟩
                          case measure => simp [intOf]; omega
                        · have hw7 : wi = 7 := hW.trans (if_neg hgg)
                          have hgg' : ¬ fm = gen := fun h => hgg h.symm
                          subst hw7
                          clear hW
                          have HD0 := hide d0
                          go_wp2
                          go_quiet (fail)
                          go_wp2_with (first
                            | (go_at_call 81; refine (bad_any 7 (k : Int) W0.heap.size _ (keep_below (bel_drewN' (Below.refl _ _) _) (unhide HD0))).mono ?_; rintro e w6 ⟨rfl, hb6⟩; have HA6 := hide (((unhide HV).below (bel_drewN' (Below.refl _ _) _)).below hb6).ab; clear hb6)
                            | (refine wpList_putN rfl 43 (.tmp 2) (.tmp 111) rfl (w.heap.size + 1) 0 [.int .i64 7, .int .i64 (k : Int)] rfl rfl (by simp [Value.oneCell']) size43 (unhide HA6).there ?_; intro W9 hW9; have hA9 := (unhide HA6).give (.int .i64 7) (.int .i64 (k : Int)); rw [← hW9] at hA9; have HA9 := hide hA9; clear hW9 hA9))
                          have t0 := (unhide HA9).t0
                          have t1 := (unhide HA9).t1
                          have hv := (unhide HS).trans (if_neg (by decide))
                          refine bodyPost_ret (v := .agg #[.int .i64 7, .int .i64 (k : Int)]) (by simp [results, Try.results35, go_sem, t0, t1]) rfl ⟨by rw [hv], (unhide HA9).bel⟩
                      · obtain ⟨o', ho', hcp⟩ := hpr (by omega)
                        injection ho' with ho'
                        injection ho' with _ ho'
                        subst ho'
                        rw [Nat.add_sub_cancel] at hcp
                        have hgt : (0 : Int) < ((k' : Int) + 1) := by omega
                        have kk0 : (0 : Int) ≤ (k' : Int) := by omega
                        have kk1 : (k' : Int) < (n : Int) := by omega
                        have d0' : wr.cell? ⟨W0.heap.size, 0, none⟩ = some (.int .i64 ((k' : Int) + 1)) := by rw [d0]; simp
                        clear hpr hbw
                        by_cases hor : (m : Int) ≤ pix
                        · have hw2 : wi = 2 := hW.trans (if_pos ⟨by omega, hor⟩)
                          subst hw2
                          clear hW
                          have HD0 := hide d0
                          clear d0
                          go_wp2_with (first
                            | (go_at_call 81; refine (bad_any 2 ((k' + 1 : Nat) : Int) W0.heap.size _ (unhide HD0)).mono ?_; rintro e w6 ⟨rfl, hb6⟩; have HA6 := hide ((unhide HV).below hb6).ab; clear hb6)
                            | (refine wpList_putN rfl 43 (.tmp 2) (.tmp 100) rfl (w.heap.size + 1) 0 [.int .i64 2, .int .i64 ((k' + 1 : Nat) : Int)] rfl rfl (by simp [Value.oneCell']) size43 (unhide HA6).there ?_; intro W9 hW9; have hA9 := (unhide HA6).give (.int .i64 2) (.int .i64 ((k' + 1 : Nat) : Int)); rw [← hW9] at hA9; have HA9 := hide hA9; clear hW9 hA9))
                          have t0 := (unhide HA9).t0
                          have t1 := (unhide HA9).t1
                          have hv := (unhide HS).trans (if_neg (by decide))
                          refine bodyPost_ret (v := .agg #[.int .i64 2, .int .i64 ((k' + 1 : Nat) : Int)]) (by simp [results, Try.results35, go_sem, t0, t1]) rfl ⟨by rw [hv], (unhide HA9).bel⟩
                        · rw [if_neg (fun h => hor h.2)] at hW
                          by_cases hgg : gen = fm
                          · have hw0 : wi = 0 := hW.trans (if_pos hgg)
                            subst hgg hw0
                            clear hW d0
                            go_wp2
                            go_quiet (fail)
                            go_wp2
                            go_roundw
                            case rel => exact ⟨k' + 1 + 1, by omega, by go_num, (unhide HS).trans (if_pos trivial), (unhide HV).below (bel_drewN' (Below.refl _ _) _)⟩
                            case measure => simp [intOf]; omega
                          · have hw7 : wi = 7 := hW.trans (if_neg hgg)
                            have hgg' : ¬ fm = gen := fun h => hgg h.symm
                            subst hw7
                            clear hW
                            have HD0 := hide d0
                            clear d0
                            go_wp2
                            go_quiet (fail)
                            go_wp2_with (first
                              | (go_at_call 81; refine (bad_any 7 ((k' + 1 : Nat) : Int) W0.heap.size _ (keep_below (bel_drewN' (Below.refl _ _) _) (unhide HD0))).mono ?_; rintro e w6 ⟨rfl, hb6⟩; have HA6 := hide (((unhide HV).below (bel_drewN' (Below.refl _ _) _)).below hb6).ab; clear hb6)
                              | (refine wpList_putN rfl 43 (.tmp 2) (.tmp 111) rfl (w.heap.size + 1) 0 [.int .i64 7, .int .i64 ((k' + 1 : Nat) : Int)] rfl rfl (by simp [Value.oneCell']) size43 (unhide HA6).there ?_; intro W9 hW9; have hA9 := (unhide HA6).give (.int .i64 7) (.int .i64 ((k' + 1 : Nat) : Int)); rw [← hW9] at hA9; have HA9 := hide hA9; clear hW9 hA9))
                            have t0 := (unhide HA9).t0
                            have t1 := (unhide HA9).t1
                            have hv := (unhide HS).trans (if_neg (by decide))
                            refine bodyPost_ret (v := .agg #[.int .i64 7, .int .i64 ((k' + 1 : Nat) : Int)]) (by simp [results, Try.results35, go_sem, t0, t1]) rfl ⟨by rw [hv], (unhide HA9).bel⟩
            · have hset' : setB x.has = false := by simpa using hset
              have hrv : rvB x = false := by unfold rvB; rw [hset']; rfl
              have hw3 : wi = 3 := (unhide HW).trans (if_pos (.inl hrv))
              subst hw3
              rw [hset'] at HST
              clear HW HPR
              go_wp2_with (first
                | (go_at_call 16; refine (unhide HST _).mono ?_; rintro e w5 ⟨rfl, hw5⟩; subst hw5)
                | (go_at_call 81; refine (bad_any 3 (k : Int) W0.heap.size _ (by simp [go_sem])).mono ?_; rintro e w6 ⟨rfl, hb6⟩; have HA6 := hide ((unhide HV).below (below_two _ _ _ hb6)).ab; clear hb6)
                | (refine wpList_putN rfl 43 (.tmp 2) (.tmp 47) rfl (w.heap.size + 1) 0 [.int .i64 3, .int .i64 (k : Int)] rfl rfl (by simp [Value.oneCell']) size43 (unhide HA6).there ?_; intro W9 hW9; have hA9 := (unhide HA6).give (.int .i64 3) (.int .i64 (k : Int)); rw [← hW9] at hA9; have HA9 := hide hA9; clear hW9 hA9))
              have t0 := (unhide HA9).t0
              have t1 := (unhide HA9).t1
              have hv := (unhide HS).trans (if_neg (by decide))
              refine bodyPost_ret (v := .agg #[.int .i64 3, .int .i64 (k : Int)]) (by simp [results, Try.results35, go_sem, t0, t1]) rfl ⟨by rw [hv], (unhide HA9).bel⟩
          · obtain rfl : k = n := by omega
            have hF2 : PV = (0, 0) := by rw [hF, Nat.sub_self]; rfl
            have HA6 := hide hV.ab
            clear hF hV HR
            go_wp2_with (first
              | (refine wpList_putN rfl 43 (.tmp 2) (.tmp 113) rfl (w.heap.size + 1) 0 [.int .i64 0, .int .i64 0] rfl rfl (by simp [Value.oneCell']) size43 (unhide HA6).there ?_; intro W9 hW9; have hA9 := (unhide HA6).give (.int .i64 0) (.int .i64 0); rw [← hW9] at hA9; have HA9 := hide hA9; clear hW9 hA9))
            have t0 := (unhide HA9).t0
            have t1 := (unhide HA9).t1
            have hv := hF2
            refine bodyPost_ret (v := .agg #[.int .i64 0, .int .i64 0]) (by simp [results, Try.results35, go_sem, t0, t1]) rfl ⟨by rw [hv], (unhide HA9).bel⟩
end Go.Proofs.Ytnbleebilmghcaa
