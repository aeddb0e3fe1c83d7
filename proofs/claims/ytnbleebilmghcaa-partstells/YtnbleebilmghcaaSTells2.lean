/- The statement PartsTells, its walk where the two sets are right. -/
import Derived.Test.YtnbleebilmghcaaSTells
set_option maxRecDepth 100000
set_option linter.unnecessarySimpa false
set_option linter.unusedSimpArgs false
set_option linter.unusedVariables false
namespace Go.Proofs.Ytnbleebilmghcaa
open Go.RowKit
attribute [local go_sem ↓] Go.wp_at_zero Go.wp_at_succ

theorem set_true (a : Int) (k : Nat) (a0 : 0 ≤ a) (a1 : a ≤ 255) (hk : k < 8) : ∃ x0 x1 x2 x3 x4 x5 x6 x7 : Bool, [Value.bool (tb a 0), .bool (tb a 1), .bool (tb a 2), .bool (tb a 3), .bool (tb a 4), .bool (tb a 5), .bool (tb a 6), .bool (tb a 7)].set k (.bool true) = [.bool x0, .bool x1, .bool x2, .bool x3, .bool x4, .bool x5, .bool x6, .bool x7] ∧
    numL [x0, x1, x2, x3, x4, x5, x6, x7] = bits .or .i64 a (bitI (k : Int)) := by
  obtain ⟨m, rfl⟩ := fin_of a a0 a1
  have h := with_fin m ⟨k, hk⟩
  rcases (by omega : k = 0 ∨ k = 1 ∨ k = 2 ∨ k = 3 ∨ k = 4 ∨ k = 5 ∨ k = 6 ∨ k = 7) with rfl | rfl | rfl | rfl | rfl | rfl | rfl | rfl
  all_goals exact ⟨_, _, _, _, _, _, _, _, rfl, h⟩
theorem set_false (a : Int) (k : Nat) (a0 : 0 ≤ a) (a1 : a ≤ 255) (hk : k < 8) : ∃ y0 y1 y2 y3 y4 y5 y6 y7 : Bool, [Value.bool (tb a 0), .bool (tb a 1), .bool (tb a 2), .bool (tb a 3), .bool (tb a 4), .bool (tb a 5), .bool (tb a 6), .bool (tb a 7)].set k (.bool false) = [.bool y0, .bool y1, .bool y2, .bool y3, .bool y4, .bool y5, .bool y6, .bool y7] ∧
    numL [y0, y1, y2, y3, y4, y5, y6, y7] = bits .andNot .i64 a (bitI (k : Int)) := by
  obtain ⟨m, rfl⟩ := fin_of a a0 a1
  have h := without_fin m ⟨k, hk⟩
  rcases (by omega : k = 0 ∨ k = 1 ∨ k = 2 ∨ k = 3 ∨ k = 4 ∨ k = 5 ∨ k = 6 ∨ k = 7) with rfl | rfl | rfl | rfl | rfl | rfl | rfl | rfl
  all_goals exact ⟨_, _, _, _, _, _, _, _, rfl, h⟩
theorem set_none (a k : Int) (a0 : 0 ≤ a) (a1 : a ≤ 255) (hk : ¬ (0 ≤ k ∧ k < 8)) : numL [tb a 0, tb a 1, tb a 2, tb a 3, tb a 4, tb a 5, tb a 6, tb a 7] = a ∧ bits .or .i64 a (bitI k) = a ∧ bits .andNot .i64 a (bitI k) = a := by
  obtain ⟨m, rfl⟩ := fin_of a a0 a1
  have h := num_fin m
  have e : bitI k = 0 := by unfold bitI; rw [if_neg hk]
  rw [e]
  exact ⟨h.1, h.2.1, h.2.2.1⟩
theorem range_new (w : World) (X : List Value) (t : TypeId) : (w.alloc (.cells X.toArray t)).rangeAt w.heap.size 0 X := by
  have := World.rangeAt_of_block (w := w.alloc (.cells X.toArray t)) (b := w.heap.size) (C := X.toArray) (t := t) (fr := (0, 0)) (heap_alloc_new w _) 0 X.length
  simpa using this
theorem two_arrays (w1 W : World) (X Y : List Value) (h : W = (w1.alloc (.cells X.toArray 24)).alloc (.cells Y.toArray 24)) : W.rangeAt w1.heap.size 0 X ∧ W.rangeAt (w1.heap.size + 1) 0 Y ∧ w1.heap.size + 2 ≤ W.heap.size ∧ Below w1.heap.size w1 W := by
  subst h
  refine ⟨World.rangeAt_alloc (range_new _ _ _) _, ?_, by simp, by go_grown⟩
  have := range_new (w1.alloc (.cells X.toArray 24)) Y 24
  simpa using this

theorem range_keep {W w1 : World} (hb : Below W.heap.size W w1) {g o : Nat} {cs : List Value} (h : W.rangeAt g o cs) : w1.rangeAt g o cs := fun j v hv => below_keep hb (h j v hv)
theorem bel_drewN {B : Nat} {a w : World} (h : Below B a w) (n : Nat) : Below B a (w.drewN n) := ⟨h.os, h.tape, h.output, h.size, h.block⟩
theorem meets_bel (a n h : Int) (w : World) :
    Calls Try.prog 31 #[.agg #[.int .i64 a, .int .i64 n], .int .i64 h] w fun e w' => e = .returned (.bool (meetsB a n h)) ∧ Below w.heap.size w w' := by
  refine (meets_any a n h w).mono ?_
  rintro e w' ⟨rfl, rfl⟩
  exact ⟨rfl, by go_grown⟩
theorem num_bel (b0 b1 b2 b3 b4 b5 b6 b7 : Bool) (w : World) :
    Calls Try.prog 28 #[.agg #[.bool b0, .bool b1, .bool b2, .bool b3, .bool b4, .bool b5, .bool b6, .bool b7]] w fun e w' => e = .returned (.int .i64 (numL [b0, b1, b2, b3, b4, b5, b6, b7])) ∧ Below w.heap.size w w' := by
  refine (num_any b0 b1 b2 b3 b4 b5 b6 b7 w).mono ?_
  rintro e w' ⟨rfl, rfl⟩
  exact ⟨rfl, by go_grown⟩

set_option maxRecDepth 100000 in
set_option maxHeartbeats 1000000 in
theorem tells_in (a b k n : Int) (w : World) (ha : setB a = true) (hb : setB b = true) (k0 : 0 ≤ k) (k1 : k < 8) :
    Calls Try.prog 3 #[.int .i64 a, .int .i64 b, .int .i64 k, .int .i64 n] w fun e w' => e = .returned (.bool true) ∧ Below w.heap.size w w' := by
  have hp : partB k = (decide (0 ≤ k) && decide (k < 8)) := by simp [partB]
  have ra : 0 ≤ a ∧ a ≤ 255 := of_decide_eq_true ha
  have rb : 0 ≤ b ∧ b ≤ 255 := of_decide_eq_true hb
  simp only [k0, k1, decide_true, Bool.true_and] at hp
  go_enter Try.func3, Try.ntmps3
  go_wp2_with (first
    | (go_at_call 15; refine (set_any _ _).mono ?_; rintro e w1 ⟨rfl, hw⟩; obtain rfl := hw.symm)
    | (go_at_call 16; refine (rset_any _ _).mono ?_; rintro e w1 ⟨rfl, hw⟩; obtain rfl := hw.symm)
    | (go_at_call 17; refine (part_any _ _).mono ?_; rintro e w1 ⟨rfl, hw⟩; obtain rfl := hw.symm)
    | (go_at_call 18; refine (value_any _ _).mono ?_; rintro e w1 ⟨rfl, hw⟩; obtain rfl := hw.symm)
    | (go_at_call 19; refine (rvalue_any _ _).mono ?_; rintro e w1 ⟨rfl, hw⟩; obtain rfl := hw.symm)
    | (go_at_call 20; refine (clip_any _ _).mono ?_; rintro e w1 ⟨rfl, hw⟩; obtain rfl := hw.symm)
    | (go_at_call 21; refine (rclip_any _ _).mono ?_; rintro e w1 ⟨rfl, hw⟩; obtain rfl := hw.symm)
    | (go_at_call 22; refine (bits_bel _ _ ra.1 ra.2).mono ?_; rintro e w1 ⟨rfl, hbel, hz⟩))
  obtain ⟨x0, x1, x2, x3, x4, x5, x6, x7, hx, hnx⟩ := set_true a k.toNat ra.1 ra.2 (by omega)
  obtain ⟨y0, y1, y2, y3, y4, y5, y6, y7, hy, hny⟩ := set_false a k.toNat ra.1 ra.2 (by omega)
  rw [Int.toNat_of_nonneg k0] at hnx hny
  rw [hx, hy]
  clear hx hy
  have hB : Below w.heap.size w w1 := Below.trans (by assumption) (hbel.mono (by omega))
  have hz1 : w1.heap.size = w.heap.size + 2 + 2 := by omega
  obtain ⟨W7, hW7⟩ : ∃ W, W = (w1.alloc (.cells #[.bool x0, .bool x1, .bool x2, .bool x3, .bool x4, .bool x5, .bool x6, .bool x7] 24)).alloc (.cells #[.bool y0, .bool y1, .bool y2, .bool y3, .bool y4, .bool y5, .bool y6, .bool y7] 24) := ⟨_, rfl⟩
  rw [← hW7]
  obtain ⟨r9, r10, hz7, hb7⟩ := two_arrays w1 W7 [.bool x0, .bool x1, .bool x2, .bool x3, .bool x4, .bool x5, .bool x6, .bool x7] [.bool y0, .bool y1, .bool y2, .bool y3, .bool y4, .bool y5, .bool y6, .bool y7] hW7
  have hB7 : Below w.heap.size w W7 := hB.trans (hb7.mono (by omega))
  rw [hz1] at r9 r10
  clear hW7 hb7 hB hbel hz hz7 hz1
  generalize w.heap.size + 2 + 2 + 1 = g10 at *
  generalize w.heap.size + 2 + 2 = g9 at *
  refine (list_two _ _ ra.1 ra.2).mono ?_
  rintro e w2 ⟨ao, cap, rfl, hb2, hc2, hl2⟩
  have HL2 := hide hl2
  have r9 := range_keep hb2 r9
  have r10 := range_keep hb2 r10
  have hB2 : Below w.heap.size w w2 := hB7.trans (hb2.mono hB7.size)
  clear hl2 hb2 hB7
  go_wp2_with fail
  refine (rlist_two _ _ ra.1 ra.2).mono ?_
  rintro e w3 ⟨ao3, cap3, rfl, hb3, hc3, hl3⟩
  have HL3 := hide hl3
  have HK := hide (fun (p : Addr) (v : Value) (h : w2.cell? p = some v) => below_keep hb3 h)
  have r9 := range_keep hb3 r9
  have r10 := range_keep hb3 r10
  have hB3 : Below w.heap.size w w3 := hB2.trans (hb3.mono hB2.size)
  clear hl3 hb3 hB2
  go_wp2_with fail
  have c90 : w3.cell? ⟨g9, 0, none⟩ = some (.bool x0) := by simpa using r9 0 _ rfl
  have c100 : w3.cell? ⟨g10, 0, none⟩ = some (.bool y0) := by simpa using r10 0 _ rfl
  have c91 : w3.cell? ⟨g9, 1, none⟩ = some (.bool x1) := by simpa using r9 1 _ rfl
  have c101 : w3.cell? ⟨g10, 1, none⟩ = some (.bool y1) := by simpa using r10 1 _ rfl
  have c92 : w3.cell? ⟨g9, 2, none⟩ = some (.bool x2) := by simpa using r9 2 _ rfl
  have c102 : w3.cell? ⟨g10, 2, none⟩ = some (.bool y2) := by simpa using r10 2 _ rfl
  have c93 : w3.cell? ⟨g9, 3, none⟩ = some (.bool x3) := by simpa using r9 3 _ rfl
  have c103 : w3.cell? ⟨g10, 3, none⟩ = some (.bool y3) := by simpa using r10 3 _ rfl
  have c94 : w3.cell? ⟨g9, 4, none⟩ = some (.bool x4) := by simpa using r9 4 _ rfl
  have c104 : w3.cell? ⟨g10, 4, none⟩ = some (.bool y4) := by simpa using r10 4 _ rfl
  have c95 : w3.cell? ⟨g9, 5, none⟩ = some (.bool x5) := by simpa using r9 5 _ rfl
  have c105 : w3.cell? ⟨g10, 5, none⟩ = some (.bool y5) := by simpa using r10 5 _ rfl
  have c96 : w3.cell? ⟨g9, 6, none⟩ = some (.bool x6) := by simpa using r9 6 _ rfl
  have c106 : w3.cell? ⟨g10, 6, none⟩ = some (.bool y6) := by simpa using r10 6 _ rfl
  have c97 : w3.cell? ⟨g9, 7, none⟩ = some (.bool x7) := by simpa using r9 7 _ rfl
  have c107 : w3.cell? ⟨g10, 7, none⟩ = some (.bool y7) := by simpa using r10 7 _ rfl
  clear r9 r10
  have hne : Nonempty (Sub w3) := ⟨⟨w3, Below.refl _ _⟩⟩
  have s90 := sub_cell c90
  have s100 := sub_cell c100
  have s91 := sub_cell c91
  have s101 := sub_cell c101
  have s92 := sub_cell c92
  have s102 := sub_cell c102
  have s93 := sub_cell c93
  have s103 := sub_cell c103
  have s94 := sub_cell c94
  have s104 := sub_cell c104
  have s95 := sub_cell c95
  have s105 := sub_cell c105
  have s96 := sub_cell c96
  have s106 := sub_cell c106
  have s97 := sub_cell c97
  have s107 := sub_cell c107
  clear c90 c100 c91 c101 c92 c102 c93 c103 c94 c104 c95 c105 c96 c106 c97 c107
  refine wp_region_sub (by kernel_rfl) (by kernel_rfl) ?_
  repeat (go_big_quiet_step ((first
      | (go_at_call 25; exact sub_same (has_same _ _ _ ra.1 ra.2))
      | (go_at_call 26; exact sub_bel (rhas_any _ _ _ ra.1 ra.2))
      | (go_at_call 27; exact sub_same (with_any _ _ _))
      | (go_at_call 28; exact sub_bel (num_bel _ _ _ _ _ _ _ _ _))
      | (go_at_call 29; exact sub_same (without_any _ _ _))
      | (go_at_call 30; exact sub_same (count_any _ _ ra.1 ra.2)))))
  refine wpQuiet_nil ?_
  rintro w4 ⟨xs, hxs⟩
  have hb4 := xs.bel
  rw [← hxs] at hb4
  clear hxs xs
  clear s90 s100 s91 s101 s92 s102 s93 s103 s94 s104 s95 s105 s96 s106 s97 s107 hne hnx hny hp
  have hl8 := lst_len a 8
  have hB4 : Below w.heap.size w w4 := hB3.trans (hb4.mono hB3.size)
  have L2 : ∀ j, j < (lstTo a 8).length → ∃ g, ao = some ⟨g, 0, none⟩ ∧ w4.cell? ⟨g, j, none⟩ = some (.int .i64 ((lstTo a 8).getD j 0)) := fun j hj => by
    obtain ⟨g, h1, h2⟩ := unhide HL2 j hj
    exact ⟨g, h1, below_keep hb4 (unhide HK _ _ h2)⟩
  have L3 : ∀ j, j < (lstTo a 8).length → ∃ g, ao3 = some ⟨g, 0, none⟩ ∧ w4.cell? ⟨g, j, none⟩ = some (.int .i64 ((lstTo a 8).getD j 0)) := fun j hj => by
    obtain ⟨g, h1, h2⟩ := unhide HL3 j hj
    exact ⟨g, h1, below_keep hb4 h2⟩
  have HL2 := hide L2
  have HL3 := hide L3
  have HB4 := hide hB4
  clear L2 L3 hB4 hB3 hb4 HK
  generalize (lstTo a 8).length = N at *
  go_wp2_with fail
  go_loopw [111] (fun i wr => ∃ j : Nat, j ≤ N ∧ i = .int .i64 j ∧ Below w4.heap.size w4 wr) (fun i _ => N - (intOf i).toNat)
  case atStart => exact ⟨0, Nat.zero_le _, rfl, Below.refl _ _⟩
  case round =>
    obtain ⟨j, hj, rfl, hbr⟩ := hrel
    by_cases hlt : j < N
    · obtain ⟨g2, rfl, d2⟩ := unhide HL2 j hlt
      obtain ⟨g3, rfl, d3⟩ := unhide HL3 j hlt
      have d2 := below_keep hbr d2
      have d3 := below_keep hbr d3
      have j0 : (0 : Int) ≤ (j : Int) := by omega
      have j1 : (j : Int) < (N : Int) := by omega
      have HBR := hide hbr
      clear hbr HL2 HL3
      go_wp2_with fail
      go_quiet (fail)
      go_wp2_with fail
      go_roundw
      case rel => exact ⟨j + 1, by omega, by go_num, bel_drewN (unhide HBR) _⟩
      case measure => simp [intOf]; omega
    · obtain rfl : j = N := by omega
      have hBr : Below w.heap.size w wr := (unhide HB4).trans (hbr.mono (unhide HB4).size)
      clear HL2 HL3 HB4 hbr
      go_wp2_with fail
      obtain ⟨wf, hwf⟩ : ∃ W, W = wr.alloc (.cells #[.int .i64 a, .int .i64 b] 32) := ⟨_, rfl⟩
      rw [← hwf]
      have f0 : wf.cell? ⟨wr.heap.size, 0, none⟩ = some (.int .i64 a) := by rw [hwf]; simp
      have f1 : wf.cell? ⟨wr.heap.size, 1, none⟩ = some (.int .i64 b) := by rw [hwf]; simp
      have hBf : Below w.heap.size w wf := by rw [hwf]; exact hBr.alloc hBr.size _
      have HBF := hide hBf
      clear hwf hBr hBf
      generalize wr.heap.size = gf at *
      go_loopw [127] (fun i wq => ∃ h : Nat, h ≤ 256 ∧ i = .int .i64 h ∧ Below wf.heap.size wf wq) (fun i _ => 256 - (intOf i).toNat)
      case atStart => exact ⟨0, Nat.zero_le _, rfl, Below.refl _ _⟩
      case round =>
        obtain ⟨h, hh, rfl, hbq⟩ := hrel
        by_cases hlt2 : h < 256
        · have f0 := below_keep hbq f0
          have f1 := below_keep hbq f1
          have hm := meets_ok a b (h : Int) ra.1 ra.2 rb.1 rb.2 (by omega)
          have HBQ := hide hbq
          clear hbq
          go_wp2_with fail
          have hne2 : Nonempty (Sub wr) := ⟨⟨wr, Below.refl _ _⟩⟩
          have f0 := sub_cell f0
          have f1 := sub_cell f1
          refine wp_region_sub (by kernel_rfl) (by kernel_rfl) ?_
          repeat (go_big_quiet_step ((first
            | (go_at_call 31; exact sub_bel (meets_bel _ _ _ _))
            | (go_at_call 32; exact sub_bel (rmeets_any _ _ _ _ ra.1 ra.2 rb.1 rb.2 (by omega) (by omega))))))
          refine wpQuiet_nil ?_
          rintro w6 ⟨xs, hxs⟩
          have hb6 := xs.bel
          rw [← hxs] at hb6
          have hb6 : Below wf.heap.size wf w6 := (unhide HBQ).trans (hb6.mono (unhide HBQ).size)
          have HB6 := hide hb6
          clear hxs xs hb6 f0 f1 hne2 HBQ
          go_wp2_with fail
          go_roundw
          case rel => exact ⟨h + 1, by omega, by go_num, unhide HB6⟩
          case measure => simp [intOf]; omega
        · obtain rfl : h = 256 := by omega
          have hfin : Below w.heap.size w _ := (unhide HBF).trans (hbq.mono (unhide HBF).size)
          have HF := hide hfin
          clear hfin hbq f0 f1
          go_wp2_with fail
          go_ret
          exact ⟨rfl, unhide HF⟩

set_option maxRecDepth 100000 in
set_option maxHeartbeats 1000000 in
theorem tells_lo (a b k n : Int) (w : World) (ha : setB a = true) (hb : setB b = true) (k0 : ¬ 0 ≤ k) (_ : k < 8) :
    Calls Try.prog 3 #[.int .i64 a, .int .i64 b, .int .i64 k, .int .i64 n] w fun e w' => e = .returned (.bool true) ∧ Below w.heap.size w w' := by
  have hp : partB k = (decide (0 ≤ k) && decide (k < 8)) := by simp [partB]
  have ra : 0 ≤ a ∧ a ≤ 255 := of_decide_eq_true ha
  have rb : 0 ≤ b ∧ b ≤ 255 := of_decide_eq_true hb
  simp only [k0, decide_false, Bool.false_and] at hp
  go_enter Try.func3, Try.ntmps3
  go_wp2_with (first
    | (go_at_call 15; refine (set_any _ _).mono ?_; rintro e w1 ⟨rfl, hw⟩; obtain rfl := hw.symm)
    | (go_at_call 16; refine (rset_any _ _).mono ?_; rintro e w1 ⟨rfl, hw⟩; obtain rfl := hw.symm)
    | (go_at_call 17; refine (part_any _ _).mono ?_; rintro e w1 ⟨rfl, hw⟩; obtain rfl := hw.symm)
    | (go_at_call 18; refine (value_any _ _).mono ?_; rintro e w1 ⟨rfl, hw⟩; obtain rfl := hw.symm)
    | (go_at_call 19; refine (rvalue_any _ _).mono ?_; rintro e w1 ⟨rfl, hw⟩; obtain rfl := hw.symm)
    | (go_at_call 20; refine (clip_any _ _).mono ?_; rintro e w1 ⟨rfl, hw⟩; obtain rfl := hw.symm)
    | (go_at_call 21; refine (rclip_any _ _).mono ?_; rintro e w1 ⟨rfl, hw⟩; obtain rfl := hw.symm)
    | (go_at_call 22; refine (bits_bel _ _ ra.1 ra.2).mono ?_; rintro e w1 ⟨rfl, hbel, hz⟩))
  obtain ⟨hno, hnor, hnand⟩ := set_none a k ra.1 ra.2 (by omega)
  have hB : Below w.heap.size w w1 := Below.trans (by assumption) (hbel.mono (by omega))
  have hz1 : w1.heap.size = w.heap.size + 2 + 2 := by omega
  obtain ⟨W7, hW7⟩ : ∃ W, W = (w1.alloc (.cells #[.bool (tb a 0), .bool (tb a 1), .bool (tb a 2), .bool (tb a 3), .bool (tb a 4), .bool (tb a 5), .bool (tb a 6), .bool (tb a 7)] 24)).alloc (.cells #[.bool (tb a 0), .bool (tb a 1), .bool (tb a 2), .bool (tb a 3), .bool (tb a 4), .bool (tb a 5), .bool (tb a 6), .bool (tb a 7)] 24) := ⟨_, rfl⟩
  rw [← hW7]
  obtain ⟨r9, r10, hz7, hb7⟩ := two_arrays w1 W7 [.bool (tb a 0), .bool (tb a 1), .bool (tb a 2), .bool (tb a 3), .bool (tb a 4), .bool (tb a 5), .bool (tb a 6), .bool (tb a 7)] [.bool (tb a 0), .bool (tb a 1), .bool (tb a 2), .bool (tb a 3), .bool (tb a 4), .bool (tb a 5), .bool (tb a 6), .bool (tb a 7)] hW7
  have hB7 : Below w.heap.size w W7 := hB.trans (hb7.mono (by omega))
  rw [hz1] at r9 r10
  clear hW7 hb7 hB hbel hz hz7 hz1
  generalize w.heap.size + 2 + 2 + 1 = g10 at *
  generalize w.heap.size + 2 + 2 = g9 at *
  refine (list_two _ _ ra.1 ra.2).mono ?_
  rintro e w2 ⟨ao, cap, rfl, hb2, hc2, hl2⟩
  have HL2 := hide hl2
  have r9 := range_keep hb2 r9
  have r10 := range_keep hb2 r10
  have hB2 : Below w.heap.size w w2 := hB7.trans (hb2.mono hB7.size)
  clear hl2 hb2 hB7
  go_wp2_with fail
  refine (rlist_two _ _ ra.1 ra.2).mono ?_
  rintro e w3 ⟨ao3, cap3, rfl, hb3, hc3, hl3⟩
  have HL3 := hide hl3
  have HK := hide (fun (p : Addr) (v : Value) (h : w2.cell? p = some v) => below_keep hb3 h)
  have r9 := range_keep hb3 r9
  have r10 := range_keep hb3 r10
  have hB3 : Below w.heap.size w w3 := hB2.trans (hb3.mono hB2.size)
  clear hl3 hb3 hB2
  go_wp2_with fail
  have c90 : w3.cell? ⟨g9, 0, none⟩ = some (.bool (tb a 0)) := by simpa using r9 0 _ rfl
  have c100 : w3.cell? ⟨g10, 0, none⟩ = some (.bool (tb a 0)) := by simpa using r10 0 _ rfl
  have c91 : w3.cell? ⟨g9, 1, none⟩ = some (.bool (tb a 1)) := by simpa using r9 1 _ rfl
  have c101 : w3.cell? ⟨g10, 1, none⟩ = some (.bool (tb a 1)) := by simpa using r10 1 _ rfl
  have c92 : w3.cell? ⟨g9, 2, none⟩ = some (.bool (tb a 2)) := by simpa using r9 2 _ rfl
  have c102 : w3.cell? ⟨g10, 2, none⟩ = some (.bool (tb a 2)) := by simpa using r10 2 _ rfl
  have c93 : w3.cell? ⟨g9, 3, none⟩ = some (.bool (tb a 3)) := by simpa using r9 3 _ rfl
  have c103 : w3.cell? ⟨g10, 3, none⟩ = some (.bool (tb a 3)) := by simpa using r10 3 _ rfl
  have c94 : w3.cell? ⟨g9, 4, none⟩ = some (.bool (tb a 4)) := by simpa using r9 4 _ rfl
  have c104 : w3.cell? ⟨g10, 4, none⟩ = some (.bool (tb a 4)) := by simpa using r10 4 _ rfl
  have c95 : w3.cell? ⟨g9, 5, none⟩ = some (.bool (tb a 5)) := by simpa using r9 5 _ rfl
  have c105 : w3.cell? ⟨g10, 5, none⟩ = some (.bool (tb a 5)) := by simpa using r10 5 _ rfl
  have c96 : w3.cell? ⟨g9, 6, none⟩ = some (.bool (tb a 6)) := by simpa using r9 6 _ rfl
  have c106 : w3.cell? ⟨g10, 6, none⟩ = some (.bool (tb a 6)) := by simpa using r10 6 _ rfl
  have c97 : w3.cell? ⟨g9, 7, none⟩ = some (.bool (tb a 7)) := by simpa using r9 7 _ rfl
  have c107 : w3.cell? ⟨g10, 7, none⟩ = some (.bool (tb a 7)) := by simpa using r10 7 _ rfl
  clear r9 r10
  have hne : Nonempty (Sub w3) := ⟨⟨w3, Below.refl _ _⟩⟩
  have s90 := sub_cell c90
  have s100 := sub_cell c100
  have s91 := sub_cell c91
  have s101 := sub_cell c101
  have s92 := sub_cell c92
  have s102 := sub_cell c102
  have s93 := sub_cell c93
  have s103 := sub_cell c103
  have s94 := sub_cell c94
  have s104 := sub_cell c104
  have s95 := sub_cell c95
  have s105 := sub_cell c105
  have s96 := sub_cell c96
  have s106 := sub_cell c106
  have s97 := sub_cell c97
  have s107 := sub_cell c107
  clear c90 c100 c91 c101 c92 c102 c93 c103 c94 c104 c95 c105 c96 c106 c97 c107
  refine wp_region_sub (by kernel_rfl) (by kernel_rfl) ?_
  repeat (go_big_quiet_step ((first
      | (go_at_call 25; exact sub_same (has_same _ _ _ ra.1 ra.2))
      | (go_at_call 26; exact sub_bel (rhas_any _ _ _ ra.1 ra.2))
      | (go_at_call 27; exact sub_same (with_any _ _ _))
      | (go_at_call 28; exact sub_bel (num_bel _ _ _ _ _ _ _ _ _))
      | (go_at_call 29; exact sub_same (without_any _ _ _))
      | (go_at_call 30; exact sub_same (count_any _ _ ra.1 ra.2)))))
  refine wpQuiet_nil ?_
  rintro w4 ⟨xs, hxs⟩
  have hb4 := xs.bel
  rw [← hxs] at hb4
  clear hxs xs
  clear s90 s100 s91 s101 s92 s102 s93 s103 s94 s104 s95 s105 s96 s106 s97 s107 hne hno hnor hnand hp
  have hl8 := lst_len a 8
  have hB4 : Below w.heap.size w w4 := hB3.trans (hb4.mono hB3.size)
  have L2 : ∀ j, j < (lstTo a 8).length → ∃ g, ao = some ⟨g, 0, none⟩ ∧ w4.cell? ⟨g, j, none⟩ = some (.int .i64 ((lstTo a 8).getD j 0)) := fun j hj => by
    obtain ⟨g, h1, h2⟩ := unhide HL2 j hj
    exact ⟨g, h1, below_keep hb4 (unhide HK _ _ h2)⟩
  have L3 : ∀ j, j < (lstTo a 8).length → ∃ g, ao3 = some ⟨g, 0, none⟩ ∧ w4.cell? ⟨g, j, none⟩ = some (.int .i64 ((lstTo a 8).getD j 0)) := fun j hj => by
    obtain ⟨g, h1, h2⟩ := unhide HL3 j hj
    exact ⟨g, h1, below_keep hb4 h2⟩
  have HL2 := hide L2
  have HL3 := hide L3
  have HB4 := hide hB4
  clear L2 L3 hB4 hB3 hb4 HK
  generalize (lstTo a 8).length = N at *
  go_wp2_with fail
  go_loopw [111] (fun i wr => ∃ j : Nat, j ≤ N ∧ i = .int .i64 j ∧ Below w4.heap.size w4 wr) (fun i _ => N - (intOf i).toNat)
  case atStart => exact ⟨0, Nat.zero_le _, rfl, Below.refl _ _⟩
  case round =>
    obtain ⟨j, hj, rfl, hbr⟩ := hrel
    by_cases hlt : j < N
    · obtain ⟨g2, rfl, d2⟩ := unhide HL2 j hlt
      obtain ⟨g3, rfl, d3⟩ := unhide HL3 j hlt
      have d2 := below_keep hbr d2
      have d3 := below_keep hbr d3
      have j0 : (0 : Int) ≤ (j : Int) := by omega
      have j1 : (j : Int) < (N : Int) := by omega
      have HBR := hide hbr
      clear hbr HL2 HL3
      go_wp2_with fail
      go_quiet (fail)
      go_wp2_with fail
      go_roundw
      case rel => exact ⟨j + 1, by omega, by go_num, bel_drewN (unhide HBR) _⟩
      case measure => simp [intOf]; omega
    · obtain rfl : j = N := by omega
      have hBr : Below w.heap.size w wr := (unhide HB4).trans (hbr.mono (unhide HB4).size)
      clear HL2 HL3 HB4 hbr
      go_wp2_with fail
      obtain ⟨wf, hwf⟩ : ∃ W, W = wr.alloc (.cells #[.int .i64 a, .int .i64 b] 32) := ⟨_, rfl⟩
      rw [← hwf]
      have f0 : wf.cell? ⟨wr.heap.size, 0, none⟩ = some (.int .i64 a) := by rw [hwf]; simp
      have f1 : wf.cell? ⟨wr.heap.size, 1, none⟩ = some (.int .i64 b) := by rw [hwf]; simp
      have hBf : Below w.heap.size w wf := by rw [hwf]; exact hBr.alloc hBr.size _
      have HBF := hide hBf
      clear hwf hBr hBf
      generalize wr.heap.size = gf at *
      go_loopw [127] (fun i wq => ∃ h : Nat, h ≤ 256 ∧ i = .int .i64 h ∧ Below wf.heap.size wf wq) (fun i _ => 256 - (intOf i).toNat)
      case atStart => exact ⟨0, Nat.zero_le _, rfl, Below.refl _ _⟩
      case round =>
        obtain ⟨h, hh, rfl, hbq⟩ := hrel
        by_cases hlt2 : h < 256
        · have f0 := below_keep hbq f0
          have f1 := below_keep hbq f1
          have hm := meets_ok a b (h : Int) ra.1 ra.2 rb.1 rb.2 (by omega)
          have HBQ := hide hbq
          clear hbq
          go_wp2_with fail
          have hne2 : Nonempty (Sub wr) := ⟨⟨wr, Below.refl _ _⟩⟩
          have f0 := sub_cell f0
          have f1 := sub_cell f1
          refine wp_region_sub (by kernel_rfl) (by kernel_rfl) ?_
          repeat (go_big_quiet_step ((first
            | (go_at_call 31; exact sub_bel (meets_bel _ _ _ _))
            | (go_at_call 32; exact sub_bel (rmeets_any _ _ _ _ ra.1 ra.2 rb.1 rb.2 (by omega) (by omega))))))
          refine wpQuiet_nil ?_
          rintro w6 ⟨xs, hxs⟩
          have hb6 := xs.bel
          rw [← hxs] at hb6
          have hb6 : Below wf.heap.size wf w6 := (unhide HBQ).trans (hb6.mono (unhide HBQ).size)
          have HB6 := hide hb6
          clear hxs xs hb6 f0 f1 hne2 HBQ
          go_wp2_with fail
          go_roundw
          case rel => exact ⟨h + 1, by omega, by go_num, unhide HB6⟩
          case measure => simp [intOf]; omega
        · obtain rfl : h = 256 := by omega
          have hfin : Below w.heap.size w _ := (unhide HBF).trans (hbq.mono (unhide HBF).size)
          have HF := hide hfin
          clear hfin hbq f0 f1
          go_wp2_with fail
          go_ret
          exact ⟨rfl, unhide HF⟩

set_option maxRecDepth 100000 in
set_option maxHeartbeats 1000000 in
theorem tells_hi (a b k n : Int) (w : World) (ha : setB a = true) (hb : setB b = true) (k0 : 0 ≤ k) (k1 : ¬ k < 8) :
    Calls Try.prog 3 #[.int .i64 a, .int .i64 b, .int .i64 k, .int .i64 n] w fun e w' => e = .returned (.bool true) ∧ Below w.heap.size w w' := by
  have hp : partB k = (decide (0 ≤ k) && decide (k < 8)) := by simp [partB]
  have ra : 0 ≤ a ∧ a ≤ 255 := of_decide_eq_true ha
  have rb : 0 ≤ b ∧ b ≤ 255 := of_decide_eq_true hb
  simp only [k1, decide_false, Bool.and_false] at hp
  go_enter Try.func3, Try.ntmps3
  go_wp2_with (first
    | (go_at_call 15; refine (set_any _ _).mono ?_; rintro e w1 ⟨rfl, hw⟩; obtain rfl := hw.symm)
    | (go_at_call 16; refine (rset_any _ _).mono ?_; rintro e w1 ⟨rfl, hw⟩; obtain rfl := hw.symm)
    | (go_at_call 17; refine (part_any _ _).mono ?_; rintro e w1 ⟨rfl, hw⟩; obtain rfl := hw.symm)
    | (go_at_call 18; refine (value_any _ _).mono ?_; rintro e w1 ⟨rfl, hw⟩; obtain rfl := hw.symm)
    | (go_at_call 19; refine (rvalue_any _ _).mono ?_; rintro e w1 ⟨rfl, hw⟩; obtain rfl := hw.symm)
    | (go_at_call 20; refine (clip_any _ _).mono ?_; rintro e w1 ⟨rfl, hw⟩; obtain rfl := hw.symm)
    | (go_at_call 21; refine (rclip_any _ _).mono ?_; rintro e w1 ⟨rfl, hw⟩; obtain rfl := hw.symm)
    | (go_at_call 22; refine (bits_bel _ _ ra.1 ra.2).mono ?_; rintro e w1 ⟨rfl, hbel, hz⟩))
  obtain ⟨hno, hnor, hnand⟩ := set_none a k ra.1 ra.2 (by omega)
  have hB : Below w.heap.size w w1 := Below.trans (by assumption) (hbel.mono (by omega))
  have hz1 : w1.heap.size = w.heap.size + 2 + 2 := by omega
  obtain ⟨W7, hW7⟩ : ∃ W, W = (w1.alloc (.cells #[.bool (tb a 0), .bool (tb a 1), .bool (tb a 2), .bool (tb a 3), .bool (tb a 4), .bool (tb a 5), .bool (tb a 6), .bool (tb a 7)] 24)).alloc (.cells #[.bool (tb a 0), .bool (tb a 1), .bool (tb a 2), .bool (tb a 3), .bool (tb a 4), .bool (tb a 5), .bool (tb a 6), .bool (tb a 7)] 24) := ⟨_, rfl⟩
  rw [← hW7]
  obtain ⟨r9, r10, hz7, hb7⟩ := two_arrays w1 W7 [.bool (tb a 0), .bool (tb a 1), .bool (tb a 2), .bool (tb a 3), .bool (tb a 4), .bool (tb a 5), .bool (tb a 6), .bool (tb a 7)] [.bool (tb a 0), .bool (tb a 1), .bool (tb a 2), .bool (tb a 3), .bool (tb a 4), .bool (tb a 5), .bool (tb a 6), .bool (tb a 7)] hW7
  have hB7 : Below w.heap.size w W7 := hB.trans (hb7.mono (by omega))
  rw [hz1] at r9 r10
  clear hW7 hb7 hB hbel hz hz7 hz1
  generalize w.heap.size + 2 + 2 + 1 = g10 at *
  generalize w.heap.size + 2 + 2 = g9 at *
  refine (list_two _ _ ra.1 ra.2).mono ?_
  rintro e w2 ⟨ao, cap, rfl, hb2, hc2, hl2⟩
  have HL2 := hide hl2
  have r9 := range_keep hb2 r9
  have r10 := range_keep hb2 r10
  have hB2 : Below w.heap.size w w2 := hB7.trans (hb2.mono hB7.size)
  clear hl2 hb2 hB7
  go_wp2_with fail
  refine (rlist_two _ _ ra.1 ra.2).mono ?_
  rintro e w3 ⟨ao3, cap3, rfl, hb3, hc3, hl3⟩
  have HL3 := hide hl3
  have HK := hide (fun (p : Addr) (v : Value) (h : w2.cell? p = some v) => below_keep hb3 h)
  have r9 := range_keep hb3 r9
  have r10 := range_keep hb3 r10
  have hB3 : Below w.heap.size w w3 := hB2.trans (hb3.mono hB2.size)
  clear hl3 hb3 hB2
  go_wp2_with fail
  have c90 : w3.cell? ⟨g9, 0, none⟩ = some (.bool (tb a 0)) := by simpa using r9 0 _ rfl
  have c100 : w3.cell? ⟨g10, 0, none⟩ = some (.bool (tb a 0)) := by simpa using r10 0 _ rfl
  have c91 : w3.cell? ⟨g9, 1, none⟩ = some (.bool (tb a 1)) := by simpa using r9 1 _ rfl
  have c101 : w3.cell? ⟨g10, 1, none⟩ = some (.bool (tb a 1)) := by simpa using r10 1 _ rfl
  have c92 : w3.cell? ⟨g9, 2, none⟩ = some (.bool (tb a 2)) := by simpa using r9 2 _ rfl
  have c102 : w3.cell? ⟨g10, 2, none⟩ = some (.bool (tb a 2)) := by simpa using r10 2 _ rfl
  have c93 : w3.cell? ⟨g9, 3, none⟩ = some (.bool (tb a 3)) := by simpa using r9 3 _ rfl
  have c103 : w3.cell? ⟨g10, 3, none⟩ = some (.bool (tb a 3)) := by simpa using r10 3 _ rfl
  have c94 : w3.cell? ⟨g9, 4, none⟩ = some (.bool (tb a 4)) := by simpa using r9 4 _ rfl
  have c104 : w3.cell? ⟨g10, 4, none⟩ = some (.bool (tb a 4)) := by simpa using r10 4 _ rfl
  have c95 : w3.cell? ⟨g9, 5, none⟩ = some (.bool (tb a 5)) := by simpa using r9 5 _ rfl
  have c105 : w3.cell? ⟨g10, 5, none⟩ = some (.bool (tb a 5)) := by simpa using r10 5 _ rfl
  have c96 : w3.cell? ⟨g9, 6, none⟩ = some (.bool (tb a 6)) := by simpa using r9 6 _ rfl
  have c106 : w3.cell? ⟨g10, 6, none⟩ = some (.bool (tb a 6)) := by simpa using r10 6 _ rfl
  have c97 : w3.cell? ⟨g9, 7, none⟩ = some (.bool (tb a 7)) := by simpa using r9 7 _ rfl
  have c107 : w3.cell? ⟨g10, 7, none⟩ = some (.bool (tb a 7)) := by simpa using r10 7 _ rfl
  clear r9 r10
  have hne : Nonempty (Sub w3) := ⟨⟨w3, Below.refl _ _⟩⟩
  have s90 := sub_cell c90
  have s100 := sub_cell c100
  have s91 := sub_cell c91
  have s101 := sub_cell c101
  have s92 := sub_cell c92
  have s102 := sub_cell c102
  have s93 := sub_cell c93
  have s103 := sub_cell c103
  have s94 := sub_cell c94
  have s104 := sub_cell c104
  have s95 := sub_cell c95
  have s105 := sub_cell c105
  have s96 := sub_cell c96
  have s106 := sub_cell c106
  have s97 := sub_cell c97
  have s107 := sub_cell c107
  clear c90 c100 c91 c101 c92 c102 c93 c103 c94 c104 c95 c105 c96 c106 c97 c107
  refine wp_region_sub (by kernel_rfl) (by kernel_rfl) ?_
  repeat (go_big_quiet_step ((first
      | (go_at_call 25; exact sub_same (has_same _ _ _ ra.1 ra.2))
      | (go_at_call 26; exact sub_bel (rhas_any _ _ _ ra.1 ra.2))
      | (go_at_call 27; exact sub_same (with_any _ _ _))
      | (go_at_call 28; exact sub_bel (num_bel _ _ _ _ _ _ _ _ _))
      | (go_at_call 29; exact sub_same (without_any _ _ _))
      | (go_at_call 30; exact sub_same (count_any _ _ ra.1 ra.2)))))
  refine wpQuiet_nil ?_
  rintro w4 ⟨xs, hxs⟩
  have hb4 := xs.bel
  rw [← hxs] at hb4
  clear hxs xs
  clear s90 s100 s91 s101 s92 s102 s93 s103 s94 s104 s95 s105 s96 s106 s97 s107 hne hno hnor hnand hp
  have hl8 := lst_len a 8
  have hB4 : Below w.heap.size w w4 := hB3.trans (hb4.mono hB3.size)
  have L2 : ∀ j, j < (lstTo a 8).length → ∃ g, ao = some ⟨g, 0, none⟩ ∧ w4.cell? ⟨g, j, none⟩ = some (.int .i64 ((lstTo a 8).getD j 0)) := fun j hj => by
    obtain ⟨g, h1, h2⟩ := unhide HL2 j hj
    exact ⟨g, h1, below_keep hb4 (unhide HK _ _ h2)⟩
  have L3 : ∀ j, j < (lstTo a 8).length → ∃ g, ao3 = some ⟨g, 0, none⟩ ∧ w4.cell? ⟨g, j, none⟩ = some (.int .i64 ((lstTo a 8).getD j 0)) := fun j hj => by
    obtain ⟨g, h1, h2⟩ := unhide HL3 j hj
    exact ⟨g, h1, below_keep hb4 h2⟩
  have HL2 := hide L2
  have HL3 := hide L3
  have HB4 := hide hB4
  clear L2 L3 hB4 hB3 hb4 HK
  generalize (lstTo a 8).length = N at *
  go_wp2_with fail
  go_loopw [111] (fun i wr => ∃ j : Nat, j ≤ N ∧ i = .int .i64 j ∧ Below w4.heap.size w4 wr) (fun i _ => N - (intOf i).toNat)
  case atStart => exact ⟨0, Nat.zero_le _, rfl, Below.refl _ _⟩
  case round =>
    obtain ⟨j, hj, rfl, hbr⟩ := hrel
    by_cases hlt : j < N
    · obtain ⟨g2, rfl, d2⟩ := unhide HL2 j hlt
      obtain ⟨g3, rfl, d3⟩ := unhide HL3 j hlt
      have d2 := below_keep hbr d2
      have d3 := below_keep hbr d3
      have j0 : (0 : Int) ≤ (j : Int) := by omega
      have j1 : (j : Int) < (N : Int) := by omega
      have HBR := hide hbr
      clear hbr HL2 HL3
      go_wp2_with fail
      go_quiet (fail)
      go_wp2_with fail
      go_roundw
      case rel => exact ⟨j + 1, by omega, by go_num, bel_drewN (unhide HBR) _⟩
      case measure => simp [intOf]; omega
    · obtain rfl : j = N := by omega
      have hBr : Below w.heap.size w wr := (unhide HB4).trans (hbr.mono (unhide HB4).size)
      clear HL2 HL3 HB4 hbr
      go_wp2_with fail
      obtain ⟨wf, hwf⟩ : ∃ W, W = wr.alloc (.cells #[.int .i64 a, .int .i64 b] 32) := ⟨_, rfl⟩
      rw [← hwf]
      have f0 : wf.cell? ⟨wr.heap.size, 0, none⟩ = some (.int .i64 a) := by rw [hwf]; simp
      have f1 : wf.cell? ⟨wr.heap.size, 1, none⟩ = some (.int .i64 b) := by rw [hwf]; simp
      have hBf : Below w.heap.size w wf := by rw [hwf]; exact hBr.alloc hBr.size _
      have HBF := hide hBf
      clear hwf hBr hBf
      generalize wr.heap.size = gf at *
      go_loopw [127] (fun i wq => ∃ h : Nat, h ≤ 256 ∧ i = .int .i64 h ∧ Below wf.heap.size wf wq) (fun i _ => 256 - (intOf i).toNat)
      case atStart => exact ⟨0, Nat.zero_le _, rfl, Below.refl _ _⟩
      case round =>
        obtain ⟨h, hh, rfl, hbq⟩ := hrel
        by_cases hlt2 : h < 256
        · have f0 := below_keep hbq f0
          have f1 := below_keep hbq f1
          have hm := meets_ok a b (h : Int) ra.1 ra.2 rb.1 rb.2 (by omega)
          have HBQ := hide hbq
          clear hbq
          go_wp2_with fail
          have hne2 : Nonempty (Sub wr) := ⟨⟨wr, Below.refl _ _⟩⟩
          have f0 := sub_cell f0
          have f1 := sub_cell f1
          refine wp_region_sub (by kernel_rfl) (by kernel_rfl) ?_
          repeat (go_big_quiet_step ((first
            | (go_at_call 31; exact sub_bel (meets_bel _ _ _ _))
            | (go_at_call 32; exact sub_bel (rmeets_any _ _ _ _ ra.1 ra.2 rb.1 rb.2 (by omega) (by omega))))))
          refine wpQuiet_nil ?_
          rintro w6 ⟨xs, hxs⟩
          have hb6 := xs.bel
          rw [← hxs] at hb6
          have hb6 : Below wf.heap.size wf w6 := (unhide HBQ).trans (hb6.mono (unhide HBQ).size)
          have HB6 := hide hb6
          clear hxs xs hb6 f0 f1 hne2 HBQ
          go_wp2_with fail
          go_roundw
          case rel => exact ⟨h + 1, by omega, by go_num, unhide HB6⟩
          case measure => simp [intOf]; omega
        · obtain rfl : h = 256 := by omega
          have hfin : Below w.heap.size w _ := (unhide HBF).trans (hbq.mono (unhide HBF).size)
          have HF := hide hfin
          clear hfin hbq f0 f1
          go_wp2_with fail
          go_ret
          exact ⟨rfl, unhide HF⟩

end Go.Proofs.Ytnbleebilmghcaa
