/- The document's Batches. -/
import Derived.Test.YtnbleebilmghcabBBT1
set_option linter.unusedVariables false
set_option linter.unusedSimpArgs false
set_option linter.unnecessarySimpa false
namespace Go.Proofs.Ytnbleebilmghcab
open Go.RowKit
attribute [local go_sem ↓] Go.wp_at_zero Go.wp_at_succ

/-- The batches' numbers as far as they are told: of the first j all, of system j from the first k. -/
def atN (cl : Nat → Nat → Bool) (j k t : Nat) : Nat := if t < j then lev cl t else if t = j then atTo cl j k else 0
def atL (cl : Nat → Nat → Bool) (n j k : Nat) : List Value := (List.range n).map fun t => Value.int .i64 ((atN cl j k t : Nat) : Int)
theorem atL_len (cl : Nat → Nat → Bool) (n j k : Nat) : (atL cl n j k).length = n := by simp [atL]
theorem atL_at (cl : Nat → Nat → Bool) (n j k t : Nat) (h : t < n) : (atL cl n j k)[t]? = some (.int .i64 ((atN cl j k t : Nat) : Int)) := by unfold atL; rw [List.getElem?_map, List.getElem?_range h]; rfl
theorem atL_start (cl : Nat → Nat → Bool) (n : Nat) : (madeCells (Value.int .i64 0).cells (n * 1)).toList = atL cl n 0 0 := by
  apply List.ext_getElem?
  intro i
  by_cases hi : i < n
  · rw [atL_at _ _ _ _ _ hi]
    have : atN cl 0 0 i = 0 := by unfold atN; simp [atTo]
    rw [this]
    simp [madeCells, hi, Value.cells, Nat.mod_one]
  · rw [List.getElem?_eq_none (by simp [madeCells]; omega), List.getElem?_eq_none (by rw [atL_len]; omega)]
theorem atL_skip (cl : Nat → Nat → Bool) (n j k : Nat) (h : ¬ (cl k j = true ∧ atTo cl j k < lev cl k + 1)) : atL cl n j (k + 1) = atL cl n j k := by
  have e : atTo cl j (k + 1) = atTo cl j k := by
    show (if cl k j = true ∧ atTo cl j k < lev cl k + 1 then lev cl k + 1 else atTo cl j k) = _
    rw [if_neg h]
  unfold atL atN
  rw [e]
theorem atL_set (cl : Nat → Nat → Bool) (n j k : Nat) (hj : j < n) (h : cl k j = true ∧ atTo cl j k < lev cl k + 1) : atL cl n j (k + 1) = (atL cl n j k).set j (.int .i64 (((lev cl k + 1 : Nat)) : Int)) := by
  have e : atTo cl j (k + 1) = lev cl k + 1 := by
    show (if cl k j = true ∧ atTo cl j k < lev cl k + 1 then lev cl k + 1 else atTo cl j k) = _
    rw [if_pos h]
  apply List.ext_getElem?
  intro i
  by_cases hi : i < n
  · by_cases hij : j = i
    · subst hij
      rw [List.getElem?_set_self (by rw [atL_len]; exact hi), atL_at _ _ _ _ _ hi]
      unfold atN
      rw [if_neg (by omega), if_pos rfl, e]
    · rw [List.getElem?_set_ne hij, atL_at _ _ _ _ _ hi, atL_at _ _ _ _ _ hi]
      unfold atN
      split
      · rfl
      · rw [if_neg (by omega), if_neg (by omega)]
  · rw [List.getElem?_eq_none (by rw [atL_len]; omega), List.getElem?_eq_none (by rw [List.length_set, atL_len]; omega)]
theorem atL_next (cl : Nat → Nat → Bool) (n j : Nat) : atL cl n j j = atL cl n (j + 1) 0 := by
  unfold atL
  refine List.map_congr_left fun t _ => ?_
  have : atN cl j j t = atN cl (j + 1) 0 t := by
    unfold atN
    by_cases h1 : t < j
    · rw [if_pos h1, if_pos (by omega)]
    · by_cases h2 : t = j
      · rw [if_neg h1, if_pos h2, if_pos (by omega), h2, atTo_all]
      · rw [if_neg h1, if_neg h2, if_neg (by omega)]
        split <;> rfl
  rw [this]
theorem head_al {m al no : Int} (h : headB m al no = true) : setB al = true := by
  unfold headB at h
  rw [Bool.and_eq_true, Bool.and_eq_true] at h
  exact h.1.2
theorem WX.sz {w wr : World} (h : WX w wr) : w.heap.size + 1 ≤ wr.heap.size := World.block_lt_of_cell? wr _ h.t0
theorem WX.keep {w wr w1 : World} (h : WX w wr) (hb : Below (w.heap.size + 1) wr w1) : WX w w1 :=
  ⟨h.bel.trans (hb.mono (by omega)), (hb.cell (p := ⟨w.heap.size, 0, none⟩) (by simp)).trans h.t0, (hb.cell (p := ⟨w.heap.size, 1, none⟩) (by simp)).trans h.t1, fun i => (hb.frozen (p := ⟨w.heap.size, i, none⟩) (by simp)).trans (h.f i)⟩
/-- So many empty lists. -/
theorem OB.made {W : World} {base g m : Nat} (h : W.ownsRow base 38 1 (.slice (some ⟨g, 0, none⟩) m m) m (List.replicate m nilV)) : OB W base (.slice (some ⟨g, 0, none⟩) m m) (List.replicate m []) (List.replicate m nilV) := by
  have e1 : ∀ k, k < m → (List.replicate m nilV).getD k nilV = nilV := fun k hk => by rw [List.getD_eq_getElem?_getD, List.getElem?_replicate, if_pos hk]; rfl
  have e2 : ∀ k, k < m → (List.replicate m ([] : List Nat)).getD k [] = [] := fun k hk => by rw [List.getD_eq_getElem?_getD, List.getElem?_replicate, if_pos hk]; rfl
  refine ⟨by simpa using h, fun k hk => ?_, fun k k' hk hk' hne y hy => ?_⟩
  · rw [List.length_replicate] at hk
    rw [e1 k hk, e2 k hk]
    exact World.ownsRow_nil _ _ _ _
  · rw [List.length_replicate] at hk
    rw [e1 k hk] at hy
    cases hy
theorem made_nils (m : Nat) : (madeCells (Value.slice none 0 0).cells (m * 1)).toList = List.replicate m nilV := by
  apply List.ext_getElem?
  intro i
  by_cases hi : i < m
  · rw [List.getElem?_replicate, if_pos hi]
    simp [madeCells, hi, Value.cells, Nat.mod_one, nilV]
  · rw [List.getElem?_eq_none (by simp [madeCells]; omega), List.getElem?_eq_none (by simp; omega)]

set_option maxRecDepth 8000 in
set_option maxHeartbeats 1000000 in
theorem rbatches_wrong (L : Option Addr) (n cap : Nat) (S : Nat → SysI) (w : World) (hL : SyssAt w L n S) (hw : (bwF S n).1 ≠ 0) :
    Calls Try.prog 26 #[.slice L n cap] w fun e w' => e = .returned (.tuple #[.slice none 0 0, faultV (bwF S n)]) ∧ Below w.heap.size w w' := by
  have hM := WX.start w
  have hC := rbwrong_any L n cap S _ (hL.below hM.bel)
  have HM := hide hM
  clear hM hL
  generalize bwF S n = x at *
  obtain ⟨ej, aj⟩ := x
  unfold faultV at *
  have HC := hide hC
  clear hC
  dsimp only at *
  go_enter Try.func26, Try.ntmps26
  go_wp2_with (first
    | (go_at_call 28; refine (unhide HC).mono ?_; rintro e w5 ⟨rfl, hb5⟩; have hM5 := (unhide HM).below hb5; have hM6 := hM5.below ((Below.refl _ _).alloc (Nat.le_refl _) (.cells #[.int .i64 ej, .int .i64 aj] 30)); have t0 := hM6.t0; have t1 := hM6.t1; have f0 := hM6.f 0; have f1 := hM6.f 1; have HM6 := hide hM6; clear hb5 hM5 hM6))
  go_region
  all_goals (try go_wp2)
  all_goals
    refine bodyPost_ret (v := .tuple #[.slice none 0 0, .agg #[.int .i64 ej, .int .i64 aj]]) (by simp [results, Try.results26, go_sem, t0, t1]) rfl ⟨rfl, ?_⟩
    exact below_setCells w.heap.size (by omega) [.int .i64 ej, .int .i64 aj] 0 _ (bel_drewN (unhide HM6).bel 1)

set_option maxRecDepth 8000 in
set_option maxHeartbeats 4000000 in
theorem rbatches_right (L : Option Addr) (n cap : Nat) (S : Nat → SysI) (w : World) (hL : SyssAt w L n S) (hw : (bwF S n).1 = 0) :
    Calls Try.prog 26 #[.slice L n cap] w fun e w' => ∃ B cap', e = .returned (.tuple #[.slice B (mkB (clS S) n).length cap', faultV (0, 0)]) ∧ BatsAt w' B (mkB (clS S) n) ∧ Below w.heap.size w w' := by
  obtain ⟨hn, hsw, hz⟩ := bw_right S n hw
  have hsp : ∀ j, j < n → _ := fun j hj => (right_spec _ _ _ _ _).1 (hsw j hj)
  have hM := WX.start w
  have hC := rbwrong_any L n cap S _ (hL.below hM.bel)
  rw [hz] at hC
  unfold faultV at *
  have HM := hide hM
  have HC := hide hC
  have HL := hide hL
  have HSP := hide hsp
  clear hC hM hL hw hsw hz hsp
  obtain ⟨i38, hi38, hz38, hs38, hb38⟩ := info_parts info38
  obtain ⟨i3, hi3, hz3, hs3, hb3⟩ := info_parts info3
  have HI38 := hide hi38
  have HZ38 := hide hz38
  have HS38 := hide hs38
  have HB38 := hide hb38
  have HI3 := hide hi3
  have HZ3 := hide hz3
  have HS3 := hide hs3
  have HB3 := hide hb3
  have hbb : i3.bytes * n ≤ 281474976710656 := by rw [hb3]; omega
  have HBB := hide hbb
  have HST := hide (atL_start (clS S) n)
  clear hi38 hz38 hs38 hb38 hi3 hz3 hs3 hb3 hbb
  go_enter Try.func26, Try.ntmps26
  go_wp2_with (first
    | (go_at_call 28; refine (unhide HC).mono ?_; rintro e w5 ⟨rfl, hb5⟩; have hM5 := (unhide HM).below hb5; have hM6 := hM5.below ((Below.refl _ _).alloc (Nat.le_refl _) (.cells #[.int .i64 0, .int .i64 0] 30)); have HM6 := hide hM6; clear hb5 hM5 hM6)
    | (at_make; refine wpList_make_full _ rfl (.tmp 19) (.tmp 19) 38 rfl (w.heap.size + 1) 3 i3 (.int .i64 0) 1 Try.underlying38 (unhide HI3) (unhide HZ3) (unhide HS3) .i64 .i64 (n : Int) (n : Int) n rfl rfl rfl rfl (unhide HBB) (by unfold maxLen; omega) (unhide HM6).sz ?_; intro w7 ho7 hg7; have hM7 := (unhide HM6).keep (grown_below hg7 (fun k hk => by cases hk) (unhide HM6).sz); rw [unhide HST] at ho7; have HO7 := hide ho7; have HM7 := hide hM7; clear ho7 hg7 hM7 HM6))
  clear HC HM
  have ho7 : w7.ownsRow (w.heap.size + 1) 3 1 (.slice (some ⟨w5.heap.size + 1, 0, none⟩) n n) n (atL (clS S) n 0 0) := by simpa using unhide HO7
  have HO8 := hide ho7
  clear ho7 HO7 HST
  obtain ⟨u, hu⟩ : ∃ u, u = w5.heap.size + 1 := ⟨_, rfl⟩
  rw [← hu] at HO8 ⊢
  clear hu
  go_loopw [6, 23] (fun m i wr => ∃ j : Nat, j ≤ n ∧ i = .int .i64 j ∧ m = .int .i64 ((nTo (clS S) j : Nat) : Int) ∧ WX w wr ∧ wr.ownsRow (w.heap.size + 1) 3 1 (.slice (some ⟨u, 0, none⟩) n n) n (atL (clS S) n j 0)) (fun _ i _ => n - (intOf i).toNat)
  case atStart => exact ⟨0, Nat.zero_le _, rfl, rfl, unhide HM7, unhide HO8⟩
  case round =>
    clear HM7 HO8
    obtain ⟨j, hj, rfl, rfl, hN, hO⟩ := hrel
    by_cases hlt : j < n
    · have j0 : (0 : Int) ≤ (j : Int) := by omega
      have j1 : (j : Int) < (n : Int) := by omega
      have HN := hide hN
      have HO := hide hO
      clear hN hO
      go_wp2
      go_loopw [27] (fun i wr => ∃ k : Nat, k ≤ j ∧ i = .int .i64 k ∧ WX w wr ∧ wr.ownsRow (w.heap.size + 1) 3 1 (.slice (some ⟨u, 0, none⟩) n n) n (atL (clS S) n j k)) (fun i _ => j - (intOf i).toNat)
      case atStart => exact ⟨0, Nat.zero_le _, rfl, unhide HN, unhide HO⟩
      case round =>
        clear HN HO
        obtain ⟨k, hk, rfl, hN, hO⟩ := hrel
        by_cases hkj : k < j
        · have k0 : (0 : Int) ≤ (k : Int) := by omega
          have k1 : (k : Int) < (j : Int) := by omega
          have k2 : (k : Int) < (n : Int) := by omega
          have HN := hide hN
          have HO := hide hO
          clear hN hO
          go_wp2
          have hN := unhide HN
          have hO := unhide HO
          have hne : Nonempty (Sub wr) := ⟨⟨wr, Below.refl _ _⟩⟩
          obtain ⟨b, off, hLe, hs⟩ := unhide HL k (by omega)
          obtain ⟨b', off', hLe', hs'⟩ := unhide HL j hlt
          rw [hLe] at hLe'
          injection hLe' with hLe'
          injection hLe' with e1 e2
          subst e1 e2 hLe
          have hs := hs.below hN.bel
          have hs' := hs'.below hN.bel
          have s0 := sub_cell hs.c0
          have s1 := sub_cell hs.c1
          have s2 := sub_cell hs.c2
          have s3 := sub_cell hs.c3
          have r0 := sub_cell hs'.c0
          have r1 := sub_cell hs'.c1
          have r2 := sub_cell hs'.c2
          have r3 := sub_cell hs'.c3
          have ek : atN (clS S) j k k = lev (clS S) k := by unfold atN; rw [if_pos hkj]
          have ej : atN (clS S) j k j = atTo (clS S) j k := by unfold atN; rw [if_neg (by omega), if_pos rfl]
          have hd0 := own_cell hO (atL_at (clS S) n j k k (by omega))
          have hd1 := own_cell hO (atL_at (clS S) n j k j hlt)
          rw [ek] at hd0
          rw [ej] at hd1
          have d0 := sub_cell hd0
          have d1 := sub_cell hd1
          obtain ⟨p1, p2, p3⟩ := unhide HSP k (by omega)
          obtain ⟨p1', p2', p3'⟩ := unhide HSP j hlt
          have hE : ∀ x : Sub wr, Calls Try.prog 52 #[sysV (S k).m (S k).al (S k).no (S k).A (S k).len (S k).cap, sysV (S j).m (S j).al (S j).no (S j).A (S j).len (S j).cap] x.val fun e w' => e = .returned (.bool (clS S k j)) ∧ Below x.val.heap.size x.val w' := fun x =>
            rclash_any (S k).m (S k).al (S k).no (S k).A (S k).len (S k).cap (S k).a (S j).m (S j).al (S j).no (S j).A (S j).len (S j).cap (S j).a x.val p2 p2' (head_al p1) (head_al p1') p3 p3' (hs.acts.below x.bel) (hs'.acts.below x.bel)
          unfold sysV at hE
          have hlk : lev (clS S) k ≤ 12 := by have := lev_le (clS S) k; have := mkB_len (clS S) k; omega
          have hlj : atTo (clS S) j k ≤ 12 := by have := atTo_le (clS S) j k (by omega); have := lev_le (clS S) j; have := mkB_len (clS S) j; omega
          have HSK := hide (atL_skip (clS S) n j k)
          have HSE := hide (atL_set (clS S) n j k hlt)
          have HFR := hide (fun (W : World) (h : W.ownsRow (w.heap.size + 1) 3 1 (.slice (some ⟨u, 0, none⟩) n n) n (atL (clS S) n j k)) => own_free h j)
          have HD0 := hide hd0
          have HD1 := hide hd1
          have HLO := hide (hO.lt u rfl).1
          clear hN hO hs hs' hd0 hd1 p1 p2 p3 p1' p2' p3' ek ej HSP
          generalize clS S k j = cl at *
          generalize lev (clS S) k = a at *
          generalize atTo (clS S) j k = t at *
          generalize S k = sk at *
          generalize S j = sj at *
          obtain ⟨m1, al1, no1, A1, len1, cap1, a1⟩ := sk
          obtain ⟨m2, al2, no2, A2, len2, cap2, a2⟩ := sj
          dsimp only at *
          have HE := hide hE
          clear hE
          cases cl
          · have HEQ := hide (unhide HSK (fun h => by cases h.1))
            refine wp_region_sub (by kernel_rfl) (by kernel_rfl) ?_
            repeat (go_big_quiet_step ((first
              | (go_at_call 52; exact sub_bel (unhide HE _)))))
            refine wpQuiet_nil ?_
            rintro w4 ⟨xs, hxs⟩
            have hb4 := xs.bel
            rw [← hxs] at hb4
            have HN4 := hide ((unhide HN).below hb4)
            have HO4 := hide (own_kept (unhide HO) hb4)
            clear hxs xs hb4 hne s0 s1 s2 s3 r0 r1 r2 r3 d0 d1 HE HL HN HO
            go_wp2
            go_roundw
            case rel => exact ⟨k + 1, by omega, by go_num, unhide HN4, by rw [unhide HEQ]; exact unhide HO4⟩
            case measure => simp [intOf]; omega
          · by_cases hc : t < a + 1
            · have hc' : (t : Int) < (a : Int) + 1 := by omega
              have HEQ := hide (unhide HSE ⟨rfl, hc⟩)
              refine wp_region_sub (by kernel_rfl) (by kernel_rfl) ?_
              repeat (go_big_quiet_step ((first
                | (go_at_call 52; exact sub_bel (unhide HE _)))))
              refine wpQuiet_nil ?_
              rintro w4 ⟨xs, hxs⟩
              have hb4 := xs.bel
              rw [← hxs] at hb4
              have HN4 := hide ((unhide HN).below hb4)
              have HO4 := hide (own_kept (unhide HO) hb4)
              have q0 := keep_below hb4 (unhide HD0)
              have q1 := keep_below hb4 (unhide HD1)
              have q2 := unhide HFR _ (unhide HO4)
              clear hxs xs hb4 hne s0 s1 s2 s3 r0 r1 r2 r3 d0 d1 HE HL HN HO
              go_wp2
              go_roundw
              case rel =>
                refine ⟨k + 1, by omega, by go_num, (unhide HN4).keep ((Below.refl _ _).setCell (p := ⟨u, j, none⟩) (unhide HLO) _), ?_⟩
                rw [unhide HEQ]
                have := own_set (unhide HO4) (j := j) (by rw [atL_len]; exact hlt) (.int .i64 (((a + 1 : Nat)) : Int))
                simpa using this
              case measure => simp [intOf]; omega
            · have hc' : ¬ (t : Int) < (a : Int) + 1 := by omega
              have HEQ := hide (unhide HSK (fun h => hc h.2))
              refine wp_region_sub (by kernel_rfl) (by kernel_rfl) ?_
              repeat (go_big_quiet_step ((first
                | (go_at_call 52; exact sub_bel (unhide HE _)))))
              refine wpQuiet_nil ?_
              rintro w4 ⟨xs, hxs⟩
              have hb4 := xs.bel
              rw [← hxs] at hb4
              have HN4 := hide ((unhide HN).below hb4)
              have HO4 := hide (own_kept (unhide HO) hb4)
              clear hxs xs hb4 hne s0 s1 s2 s3 r0 r1 r2 r3 d0 d1 HE HL HN HO
              go_wp2
              go_roundw
              case rel => exact ⟨k + 1, by omega, by go_num, unhide HN4, by rw [unhide HEQ]; exact unhide HO4⟩
              case measure => simp [intOf]; omega
        · obtain rfl : k = j := by omega
          have ek : atN (clS S) k k k = lev (clS S) k := by unfold atN; rw [if_neg (by omega), if_pos rfl, atTo_all]
          have hd0 := own_cell hO (atL_at (clS S) n k k k (by omega))
          rw [ek] at hd0
          rw [atL_next] at hO
          have hlk : lev (clS S) k ≤ 12 := by have := lev_le (clS S) k; have := mkB_len (clS S) k; omega
          have hnk : nTo (clS S) k ≤ 12 := by have := nTo_le (clS S) k; omega
          have HNS : Hid (nTo (clS S) (k + 1) = if nTo (clS S) k < lev (clS S) k + 1 then lev (clS S) k + 1 else nTo (clS S) k) := rfl
          have HN := hide hN
          have HO := hide hO
          clear hN hO HL HSP ek
          generalize nTo (clS S) k = m at *
          generalize lev (clS S) k = a at *
          by_cases hc : m < a + 1
          · have hc' : (m : Int) < (a : Int) + 1 := by omega
            have HEQ := hide ((unhide HNS).trans (if_pos hc))
            go_wp2
            go_roundw
            case rel => exact ⟨k + 1, by omega, by go_num, by rw [unhide HEQ]; go_num, unhide HN, unhide HO⟩
            case measure => simp [intOf]; omega
          · have hc' : ¬ (m : Int) < (a : Int) + 1 := by omega
            have HEQ := hide ((unhide HNS).trans (if_neg hc))
            go_wp2
            go_roundw
            case rel => exact ⟨k + 1, by omega, by go_num, by rw [unhide HEQ], unhide HN, unhide HO⟩
            case measure => simp [intOf]; omega
    · obtain rfl : j = n := by omega
      obtain ⟨W0, hW0⟩ : ∃ W, W = wr := ⟨_, rfl⟩
      subst hW0
      have hATS : ∀ t, t < j → W0.cell? ⟨u, t, none⟩ = some (.int .i64 ((lev (clS S) t : Nat) : Int)) := fun t ht => by
        have h1 := own_cell hO (atL_at (clS S) j j 0 t ht)
        have h2 : atN (clS S) j 0 t = lev (clS S) t := by unfold atN; rw [if_pos ht]
        rwa [h2] at h1
      have hMO : ∀ t, t < j → lev (clS S) t < nTo (clS S) j := fun t ht => nTo_mono (clS S) t j ht
      have hOZ := outTo_zero (clS S) (nTo (clS S) j)
      have hOS : ∀ t, t < j → outTo (clS S) (nTo (clS S) j) (t + 1) = (outTo (clS S) (nTo (clS S) j) t).set (lev (clS S) t) ((outTo (clS S) (nTo (clS S) j) t).getD (lev (clS S) t) [] ++ [t]) := fun t ht => outTo_succ (clS S) (nTo (clS S) j) t (hMO t ht)
      have hOA := outTo_all (clS S) j
      have hOL := fun t => outTo_len (clS S) (nTo (clS S) j) t
      have hOX : ∀ t, t < j → ∀ k, k < nTo (clS S) j → ((outTo (clS S) (nTo (clS S) j) t).getD k []).length ≤ 12 := fun t ht k hk => by
        rw [outTo_get _ _ _ _ hk]
        have := List.length_filter_le (fun i => lev (clS S) i == k) (List.range t)
        rw [List.length_range] at this
        omega
      have hnm : nTo (clS S) j ≤ 12 := by have := nTo_le (clS S) j; omega
      have hbb8 : i38.bytes * nTo (clS S) j ≤ 281474976710656 := by rw [unhide HB38]; omega
      generalize nTo (clS S) j = m at *
      have HBB8 := hide hbb8
      have HATS := hide hATS
      have HMO := hide hMO
      have HOZ := hide hOZ
      have HOS := hide hOS
      have HOA := hide hOA
      have HOL := hide hOL
      have HOX := hide hOX
      have HN := hide hN
      have HNI := hide (made_nils m)
      clear hN hO HL HSP hbb8 hATS hMO hOZ hOS hOA hOL hOX
      go_wp2_with (first
        | (at_make; refine wpList_make_full _ rfl (.tmp 73) (.tmp 73) 66 rfl W0.heap.size 38 i38 (.slice none 0 0) 1 Try.underlying66 (unhide HI38) (unhide HZ38) (unhide HS38) .i64 .i64 (m : Int) (m : Int) m rfl rfl rfl rfl (unhide HBB8) (by unfold maxLen; omega) (Nat.le_refl _) ?_; intro w8 ho8 hg8; have HB8 := hide (grown_below hg8 (fun k hk => by cases hk) (Nat.le_refl _)); rw [unhide HNI] at ho8; have HO8 := hide (OB.made ho8); clear ho8 hg8))
      go_loopw [77] (fun i w1 => ∃ t : Nat, t ≤ j ∧ i = .int .i64 t ∧ Below W0.heap.size W0 w1 ∧ ∃ xs, OB w1 W0.heap.size (.slice (some ⟨W0.heap.size, 0, none⟩) m m) (outTo (clS S) m t) xs) (fun i _ => j - (intOf i).toNat)
      case atStart => exact ⟨0, Nat.zero_le _, rfl, unhide HB8, _, by rw [unhide HOZ]; exact unhide HO8⟩
      case round =>
        clear HB8 HO8
        obtain ⟨t, ht, rfl, hb, xs, hO⟩ := hrel
        by_cases hlt : t < j
        · have t0 : (0 : Int) ≤ (t : Int) := by omega
          have t1 : (t : Int) < (j : Int) := by omega
          have c0 := keep_below hb (unhide HATS t hlt)
          have hal := unhide HMO t hlt
          have HST := hide (unhide HOS t hlt)
          have hlens := unhide HOX t hlt
          have hbl := unhide HOL t
          have HSZ := hide hb.size
          have HB := hide hb
          have HW := hide ((unhide HN).below hb)
          clear hb HOS HMO HATS HOX HOL HOA HOZ HNI HBB8
          generalize lev (clS S) t = a at *
          generalize outTo (clS S) m t = bs at *
          subst hbl
          have a0 : (0 : Int) ≤ (a : Int) := by omega
          have a1 : (a : Int) < (bs.length : Int) := by omega
          obtain ⟨v, hv⟩ : ∃ v, v = xs.getD a nilV := ⟨_, rfl⟩
          obtain ⟨l, hl⟩ : ∃ l, l = bs.getD a [] := ⟨_, rfl⟩
          have hl12 : l.length ≤ 12 := by rw [hl]; exact hlens a hal
          have HU := hide hv
          have HLL := hide hl
          have HO1 := hide hO
          have c5 : wr.cell? ⟨W0.heap.size, a, none⟩ = some v := by rw [hv]; exact hO.cell hal
          have HOU := hide (show wr.ownsRow W0.heap.size 3 1 v l.length (intsOf l) by rw [hv, hl]; exact hO.each a hal)
          have HCF := hide (fun (W W' : World) (h : OB W W0.heap.size (.slice (some ⟨W0.heap.size, 0, none⟩) bs.length bs.length) bs xs) (hg : W.grownBy W' v.ownBlock) => show W'.cell? ⟨W0.heap.size, a, none⟩ = some v ∧ W'.frozen? ⟨W0.heap.size, a, none⟩ = false by rw [hv] at hg ⊢; exact h.cellAt hal hg)
          clear hv hl hO hlens
          go_wp2_with (first
            | (at_builtin; refine wpList_append1 _ rfl (.tmp 87) (.tmp 89) 38 rfl W0.heap.size 3 i3 (.int .i64 0) 1 8 Try.underlying38 (unhide HI3) (unhide HZ3) (unhide HS3) (unhide HB3) rfl (by decide) v l.length (intsOf l) rfl ((unhide HOU).alloc _) ⟨wr.heap.size, 0, none⟩ 1 1 [.int .i64 (t : Int)] rfl rfl (cell_new _ _ _) (one1 _ rfl) (by unfold maxLen; omega) (by omega) (le_alloc (unhide HSZ) _) (by omega) ?_; intro g2 cap2 w9 ho9 hg9 hw9; have hcf := unhide HCF _ _ ((unhide HO1).below ((Below.refl _ _).alloc (Nat.le_refl _) _)) hg9; have c9 := hcf.1; have f9 := hcf.2; have HG9 := hide hg9; have HH9 := hide ho9; have HW9 := hide hw9; clear ho9 hg9 hw9 hcf))
          have hO8 := (unhide HO1).below ((Below.refl _ _).alloc (Nat.le_refl _) (.cells #[.int .i64 (t : Int)] 3))
          have hlo := hO8.lo
          have hg9 := unhide HG9
          have ho9 := unhide HH9
          have hw9 := unhide HW9
          rw [unhide HU] at hg9 hw9
          rw [unhide HLL] at ho9
          have h2 := ((unhide HB).alloc (unhide HSZ) (.cells #[.int .i64 (t : Int)] 3)).trans (grown_below hg9 (fun k hk => hO8.blk hal k hk) (le_alloc (unhide HSZ) _))
          have hf := OB.add hO8 hal (x := t) ho9 hg9 (hw9.imp id (fun h => Nat.le_of_eq h.symm))
          rw [← unhide HST, ← unhide HLL] at hf
          have hl2 : bs.length = bs.length := rfl
          have HF := hide hf
          have HH2 := hide h2
          clear hO8 hg9 ho9 hw9 hf h2
          go_roundw
          case rel => exact ⟨t + 1, by omega, by go_num, (unhide HH2).trans ((Below.refl _ _).setCell (p := ⟨W0.heap.size, a, none⟩) hlo _), _, unhide HF⟩
          case measure => simp [intOf]; omega
        · obtain rfl : t = j := by omega
          have hW := (unhide HN).below hb
          have t0 := hW.t0
          have t1 := hW.t1
          have f0 := hW.f 0
          have f1 := hW.f 1
          have HW := hide hW
          rw [unhide HOA] at hO
          have hml : m = (mkB (clS S) t).length := by have := unhide HOL t; rw [unhide HOA] at this; exact this.symm
          subst hml
          have HO := hide hO
          clear hW hO hb HATS HMO HOZ HOS HOA HOL HOX HNI HBB8
          go_wp2
          have hsz := (unhide HN).sz
          refine bodyPost_ret (v := .tuple #[.slice (some ⟨W0.heap.size, 0, none⟩) (mkB (clS S) t).length (mkB (clS S) t).length, .agg #[.int .i64 0, .int .i64 0]]) (by simp [results, Try.results26, go_sem, t0, t1]) rfl ⟨some ⟨W0.heap.size, 0, none⟩, (mkB (clS S) t).length, rfl, ?_, ?_⟩
          · obtain ⟨B', cap', hv, hB'⟩ := ((unhide HO).setsBelow (b := w.heap.size) (by omega) [.int .i64 0, .int .i64 0] 0).bats
            simp only [Value.slice.injEq] at hv
            obtain ⟨rfl, _, rfl⟩ := hv
            exact hB'
          · exact below_setCells w.heap.size (by omega) [.int .i64 0, .int .i64 0] 0 _ (unhide HW).bel
end Go.Proofs.Ytnbleebilmghcab
