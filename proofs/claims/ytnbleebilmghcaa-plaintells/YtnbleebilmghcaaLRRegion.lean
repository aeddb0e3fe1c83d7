/- The document's Meets answers, for right sets, part by part. -/
import Derived.Test.YtnbleebilmghcaaLRMeets
set_option linter.unusedVariables false
set_option linter.unusedSimpArgs false
set_option linter.unnecessarySimpa false
namespace Go.Proofs.Ytnbleebilmghcaa
open Go.RowKit

def lists (a n h : Int) : Nat → List Value := fun k => if k = 0 then (arr a).toList else if k = 1 then (arr n).toList else (arr h).toList

def MI (w0 : World) (a n h : Int) (L : Nat → Bool) (ac : Act) (w : World) : Prop :=
  ∃ (v : Nat → Value) (g : Nat → Nat) (x9 x10 x11 x12 x13 x14 x15 x16 : Value),
    ac = ⟨(.agg #[.int .i64 a, .int .i64 n] :: .int .i64 h :: .pointer (some ⟨w0.heap.size, 0, none⟩) :: undef :: .bool false :: v 0 :: v 1 :: v 2 :: undef :: x9 :: x10 :: x11 :: x12 :: x13 :: x14 :: x15 :: x16 ::
      undef :: undef :: undef :: undef :: undef :: undef :: undef :: undef :: undef :: undef :: undef :: undef :: undef :: undef :: undef :: undef :: undef :: undef :: undef :: undef :: undef :: undef :: undef :: []).toArray, []⟩ ∧
    (L 0 = true → x9 = .pointer (some ⟨w0.heap.size, 0, none⟩)) ∧ (L 1 = true → x10 = .int .i64 a) ∧ (L 2 = true → x11 = .agg (arr a)) ∧
    (L 3 = true → x12 = .pointer (some ⟨w0.heap.size, 1, none⟩)) ∧ (L 4 = true → x13 = .int .i64 n) ∧ (L 5 = true → x14 = .agg (arr n)) ∧
    (L 6 = true → x15 = .int .i64 h) ∧ (L 7 = true → x16 = .agg (arr h)) ∧
    MW w0 (lists a n h) a n (fun k => L (8 + k)) (fun k => L (11 + k)) v g w

theorem upd_same (L : Nat → Bool) (m k j : Nat) : upd L (m + k) (m + j) = if j = k then true else L (m + j) := by
  unfold upd; simp only [Nat.add_left_cancel_iff]
theorem Try.info24 : (Try.prog.info? 24).map (·.size) = some 8 := by kernel_rfl
theorem arr_one (n : Int) : (arr n).all (·.oneCell') = true := by simp [arr, Value.oneCell']
theorem arr_at (n : Int) (k : Nat) (hk : k < 8) : (arr n).toList[k]? = some (.bool (tb n k)) := by
  rcases (by omega : k = 0 ∨ k = 1 ∨ k = 2 ∨ k = 3 ∨ k = 4 ∨ k = 5 ∨ k = 6 ∨ k = 7) with rfl | rfl | rfl | rfl | rfl | rfl | rfl | rfl <;> rfl
theorem okTo_succ (a n h : Int) (k : Nat) : okTo a n h (k + 1) = (okTo a n h k && okAt a n h k) := by
  unfold okTo; rw [List.range_succ, List.all_append]; simp
theorem okTo_false (a n h : Int) (k m : Nat) (hk : k < m) (e : okAt a n h k = false) : okTo a n h m = false := by
  unfold okTo
  rw [List.all_eq_false]
  exact ⟨k, List.mem_range.2 hk, by simp [e]⟩

set_option maxRecDepth 8000 in
set_option maxHeartbeats 1000000 in
theorem rmeets_any (a n h : Int) (w : World) (a0 : 0 ≤ a) (a1 : a ≤ 255) (n0 : 0 ≤ n) (n1 : n ≤ 255) (h0 : 0 ≤ h) (h1 : h ≤ 255) :
    Calls Try.prog 32 #[.agg #[.int .i64 a, .int .i64 n], .int .i64 h] w fun e w' => e = .returned (.bool (okTo a n h 8)) ∧ Below w.heap.size w w' := by
  go_enter Try.func32, Try.ntmps32
  go_wp2
  rename_i Q1 K1 hK1
  refine wp_region_inv (by kernel_rfl) (MI w a n h) (by kernel_rfl) ?start ?step ?fin
  case start =>
    refine ⟨fun _ => undef, fun _ => 0, _, _, _, _, _, _, _, _, rfl, by simp, by simp, by simp, by simp, by simp, by simp, by simp, by simp, ?_⟩
    have c0 : (w.alloc (.cells #[.int .i64 a, .int .i64 n] 32)).cell? ⟨w.heap.size, 0, none⟩ = some (.int .i64 a) := by simp
    have c1 : (w.alloc (.cells #[.int .i64 a, .int .i64 n] 32)).cell? ⟨w.heap.size, 1, none⟩ = some (.int .i64 n) := by simp
    exact ⟨((Below.refl _ _).alloc (Nat.le_refl _) _).drew, c0, c1, by simp, by simp, by simp⟩
  case step =>
    clear hK1
    rintro L ac w1 i o ⟨v, g, x9, x10, x11, x12, x13, x14, x15, x16, rfl, f0, f1, f2, f3, f4, f5, f6, f7, hw⟩ ho hL he
    match i, ho with
    | 0, ho =>
      have ho' := ho
      simp at ho'
      subst ho'
      refine wpOp_of ho rfl ?_
      simp [go_sem]
      exact ⟨v, g, _, _, _, _, _, _, _, _, rfl, by first | (intro _; rfl) | (simpa [upd] using f0), by first | (intro _; rfl) | (simpa [upd] using f1), by first | (intro _; rfl) | (simpa [upd] using f2), by first | (intro _; rfl) | (simpa [upd] using f3), by first | (intro _; rfl) | (simpa [upd] using f4), by first | (intro _; rfl) | (simpa [upd] using f5), by first | (intro _; rfl) | (simpa [upd] using f6), by first | (intro _; rfl) | (simpa [upd] using f7), hw.congr (fun k _ => upd_ne (by omega)) (fun k _ => upd_ne (by omega)) (fun _ _ => rfl)⟩
    | 1, ho =>
      have ho' := ho
      simp at ho'
      subst ho'
      obtain rfl := f0 (he ⟨0, .data⟩ (by simp) rfl)
      have c0 := hw.c0
      refine wpOp_of ho rfl ?_
      simp [go_sem, c0]
      exact ⟨v, g, _, _, _, _, _, _, _, _, rfl, by first | (intro _; rfl) | (simpa [upd] using f0), by first | (intro _; rfl) | (simpa [upd] using f1), by first | (intro _; rfl) | (simpa [upd] using f2), by first | (intro _; rfl) | (simpa [upd] using f3), by first | (intro _; rfl) | (simpa [upd] using f4), by first | (intro _; rfl) | (simpa [upd] using f5), by first | (intro _; rfl) | (simpa [upd] using f6), by first | (intro _; rfl) | (simpa [upd] using f7), hw.congr (fun k _ => upd_ne (by omega)) (fun k _ => upd_ne (by omega)) (fun _ _ => rfl)⟩
    | 3, ho =>
      have ho' := ho
      simp at ho'
      subst ho'
      refine wpOp_of ho rfl ?_
      simp [go_sem]
      exact ⟨v, g, _, _, _, _, _, _, _, _, rfl, by first | (intro _; rfl) | (simpa [upd] using f0), by first | (intro _; rfl) | (simpa [upd] using f1), by first | (intro _; rfl) | (simpa [upd] using f2), by first | (intro _; rfl) | (simpa [upd] using f3), by first | (intro _; rfl) | (simpa [upd] using f4), by first | (intro _; rfl) | (simpa [upd] using f5), by first | (intro _; rfl) | (simpa [upd] using f6), by first | (intro _; rfl) | (simpa [upd] using f7), hw.congr (fun k _ => upd_ne (by omega)) (fun k _ => upd_ne (by omega)) (fun _ _ => rfl)⟩
    | 4, ho =>
      have ho' := ho
      simp at ho'
      subst ho'
      obtain rfl := f3 (he ⟨3, .data⟩ (by simp) rfl)
      have c1 := hw.c1
      refine wpOp_of ho rfl ?_
      simp [go_sem, c1]
      exact ⟨v, g, _, _, _, _, _, _, _, _, rfl, by first | (intro _; rfl) | (simpa [upd] using f0), by first | (intro _; rfl) | (simpa [upd] using f1), by first | (intro _; rfl) | (simpa [upd] using f2), by first | (intro _; rfl) | (simpa [upd] using f3), by first | (intro _; rfl) | (simpa [upd] using f4), by first | (intro _; rfl) | (simpa [upd] using f5), by first | (intro _; rfl) | (simpa [upd] using f6), by first | (intro _; rfl) | (simpa [upd] using f7), hw.congr (fun k _ => upd_ne (by omega)) (fun k _ => upd_ne (by omega)) (fun _ _ => rfl)⟩
    | 6, ho =>
      have ho' := ho
      simp at ho'
      subst ho'
      refine wpOp_of ho rfl ?_
      simp [go_sem]
      exact ⟨v, g, _, _, _, _, _, _, _, _, rfl, by first | (intro _; rfl) | (simpa [upd] using f0), by first | (intro _; rfl) | (simpa [upd] using f1), by first | (intro _; rfl) | (simpa [upd] using f2), by first | (intro _; rfl) | (simpa [upd] using f3), by first | (intro _; rfl) | (simpa [upd] using f4), by first | (intro _; rfl) | (simpa [upd] using f5), by first | (intro _; rfl) | (simpa [upd] using f6), by first | (intro _; rfl) | (simpa [upd] using f7), hw.congr (fun k _ => upd_ne (by omega)) (fun k _ => upd_ne (by omega)) (fun _ _ => rfl)⟩
    | 2, ho =>
      have ho' := ho
      simp at ho'
      subst ho'
      obtain rfl := f1 (he ⟨1, .data⟩ (by simp) rfl)
      refine wpOp_of ho rfl ?_
      simp [go_sem]
      refine (bits_any a w1 a0 a1).mono ?_
      rintro e w2 ⟨rfl, rfl⟩
      have hb2 : Below w1.heap.size w1 ((w1.alloc (.cells (arr a) 24)).alloc (.cells (arr a) 24)) := by go_grown
      exact ⟨v, g, _, _, _, _, _, _, _, _, rfl, by first | (intro _; rfl) | (simpa [upd] using f0), by first | (intro _; rfl) | (simpa [upd] using f1), by first | (intro _; rfl) | (simpa [upd] using f2), by first | (intro _; rfl) | (simpa [upd] using f3), by first | (intro _; rfl) | (simpa [upd] using f4), by first | (intro _; rfl) | (simpa [upd] using f5), by first | (intro _; rfl) | (simpa [upd] using f6), by first | (intro _; rfl) | (simpa [upd] using f7), (hw.below hb2).congr (fun k _ => upd_ne (by omega)) (fun k _ => upd_ne (by omega)) (fun _ _ => rfl)⟩
    | 5, ho =>
      have ho' := ho
      simp at ho'
      subst ho'
      obtain rfl := f4 (he ⟨4, .data⟩ (by simp) rfl)
      refine wpOp_of ho rfl ?_
      simp [go_sem]
      refine (bits_any n w1 n0 n1).mono ?_
      rintro e w2 ⟨rfl, rfl⟩
      have hb2 : Below w1.heap.size w1 ((w1.alloc (.cells (arr n) 24)).alloc (.cells (arr n) 24)) := by go_grown
      exact ⟨v, g, _, _, _, _, _, _, _, _, rfl, by first | (intro _; rfl) | (simpa [upd] using f0), by first | (intro _; rfl) | (simpa [upd] using f1), by first | (intro _; rfl) | (simpa [upd] using f2), by first | (intro _; rfl) | (simpa [upd] using f3), by first | (intro _; rfl) | (simpa [upd] using f4), by first | (intro _; rfl) | (simpa [upd] using f5), by first | (intro _; rfl) | (simpa [upd] using f6), by first | (intro _; rfl) | (simpa [upd] using f7), (hw.below hb2).congr (fun k _ => upd_ne (by omega)) (fun k _ => upd_ne (by omega)) (fun _ _ => rfl)⟩
    | 7, ho =>
      have ho' := ho
      simp at ho'
      subst ho'
      obtain rfl := f6 (he ⟨6, .data⟩ (by simp) rfl)
      refine wpOp_of ho rfl ?_
      simp [go_sem]
      refine (bits_any h w1 h0 h1).mono ?_
      rintro e w2 ⟨rfl, rfl⟩
      have hb2 : Below w1.heap.size w1 ((w1.alloc (.cells (arr h) 24)).alloc (.cells (arr h) 24)) := by go_grown
      exact ⟨v, g, _, _, _, _, _, _, _, _, rfl, by first | (intro _; rfl) | (simpa [upd] using f0), by first | (intro _; rfl) | (simpa [upd] using f1), by first | (intro _; rfl) | (simpa [upd] using f2), by first | (intro _; rfl) | (simpa [upd] using f3), by first | (intro _; rfl) | (simpa [upd] using f4), by first | (intro _; rfl) | (simpa [upd] using f5), by first | (intro _; rfl) | (simpa [upd] using f6), by first | (intro _; rfl) | (simpa [upd] using f7), (hw.below hb2).congr (fun k _ => upd_ne (by omega)) (fun k _ => upd_ne (by omega)) (fun _ _ => rfl)⟩
    | 8, ho =>
      have ho' := ho
      simp at ho'
      subst ho'
      refine wpOp_of ho rfl ?_
      simp [go_sem]
      have hm := hw.alloc 0 hL 24
      exact ⟨(fun j => if j = 0 then .pointer (some ⟨w1.heap.size, 0, none⟩) else v j), (fun j => if j = 0 then w1.heap.size else g j), _, _, _, _, _, _, _, _, rfl, by first | (intro _; rfl) | (simpa [upd] using f0), by first | (intro _; rfl) | (simpa [upd] using f1), by first | (intro _; rfl) | (simpa [upd] using f2), by first | (intro _; rfl) | (simpa [upd] using f3), by first | (intro _; rfl) | (simpa [upd] using f4), by first | (intro _; rfl) | (simpa [upd] using f5), by first | (intro _; rfl) | (simpa [upd] using f6), by first | (intro _; rfl) | (simpa [upd] using f7), hm.congr (fun j _ => upd_same L 8 0 j) (fun j _ => upd_ne (by omega)) (fun _ _ => rfl)⟩
    | 9, ho =>
      have ho' := ho
      simp at ho'
      subst ho'
      refine wpOp_of ho rfl ?_
      simp [go_sem]
      have hm := hw.alloc 1 hL 24
      exact ⟨(fun j => if j = 1 then .pointer (some ⟨w1.heap.size, 0, none⟩) else v j), (fun j => if j = 1 then w1.heap.size else g j), _, _, _, _, _, _, _, _, rfl, by first | (intro _; rfl) | (simpa [upd] using f0), by first | (intro _; rfl) | (simpa [upd] using f1), by first | (intro _; rfl) | (simpa [upd] using f2), by first | (intro _; rfl) | (simpa [upd] using f3), by first | (intro _; rfl) | (simpa [upd] using f4), by first | (intro _; rfl) | (simpa [upd] using f5), by first | (intro _; rfl) | (simpa [upd] using f6), by first | (intro _; rfl) | (simpa [upd] using f7), hm.congr (fun j _ => upd_same L 8 1 j) (fun j _ => upd_ne (by omega)) (fun _ _ => rfl)⟩
    | 10, ho =>
      have ho' := ho
      simp at ho'
      subst ho'
      refine wpOp_of ho rfl ?_
      simp [go_sem]
      have hm := hw.alloc 2 hL 24
      exact ⟨(fun j => if j = 2 then .pointer (some ⟨w1.heap.size, 0, none⟩) else v j), (fun j => if j = 2 then w1.heap.size else g j), _, _, _, _, _, _, _, _, rfl, by first | (intro _; rfl) | (simpa [upd] using f0), by first | (intro _; rfl) | (simpa [upd] using f1), by first | (intro _; rfl) | (simpa [upd] using f2), by first | (intro _; rfl) | (simpa [upd] using f3), by first | (intro _; rfl) | (simpa [upd] using f4), by first | (intro _; rfl) | (simpa [upd] using f5), by first | (intro _; rfl) | (simpa [upd] using f6), by first | (intro _; rfl) | (simpa [upd] using f7), hm.congr (fun j _ => upd_same L 8 2 j) (fun j _ => upd_ne (by omega)) (fun _ _ => rfl)⟩
    | 11, ho =>
      have ho' := ho
      simp at ho'
      subst ho'
      have hx := f2 (he ⟨2, .data⟩ (by simp) rfl)
      have hl := (he ⟨8, .data⟩ (by simp) rfl)
      obtain ⟨p1, p2, p3, p4⟩ := hw.own 0 (by omega) hl
      refine wpOp_of ho rfl ?_
      refine wp_store_mid 24 _ _ rfl (g 0) 0 (arr a) p1 hx p4 Try.info24 (arr_one _) ?_
      have hm := hw.store 0 (by omega) hl rfl
      exact ⟨v, g, _, _, _, _, _, _, _, _, rfl, by first | (intro _; rfl) | (simpa [upd] using f0), by first | (intro _; rfl) | (simpa [upd] using f1), by first | (intro _; rfl) | (simpa [upd] using f2), by first | (intro _; rfl) | (simpa [upd] using f3), by first | (intro _; rfl) | (simpa [upd] using f4), by first | (intro _; rfl) | (simpa [upd] using f5), by first | (intro _; rfl) | (simpa [upd] using f6), by first | (intro _; rfl) | (simpa [upd] using f7), hm.congr (fun j _ => upd_ne (by omega)) (fun j _ => upd_same L 11 0 j) (fun _ _ => rfl)⟩
    | 12, ho =>
      have ho' := ho
      simp at ho'
      subst ho'
      have hx := f5 (he ⟨5, .data⟩ (by simp) rfl)
      have hl := (he ⟨9, .data⟩ (by simp) rfl)
      obtain ⟨p1, p2, p3, p4⟩ := hw.own 1 (by omega) hl
      refine wpOp_of ho rfl ?_
      refine wp_store_mid 24 _ _ rfl (g 1) 0 (arr n) p1 hx p4 Try.info24 (arr_one _) ?_
      have hm := hw.store 1 (by omega) hl rfl
      exact ⟨v, g, _, _, _, _, _, _, _, _, rfl, by first | (intro _; rfl) | (simpa [upd] using f0), by first | (intro _; rfl) | (simpa [upd] using f1), by first | (intro _; rfl) | (simpa [upd] using f2), by first | (intro _; rfl) | (simpa [upd] using f3), by first | (intro _; rfl) | (simpa [upd] using f4), by first | (intro _; rfl) | (simpa [upd] using f5), by first | (intro _; rfl) | (simpa [upd] using f6), by first | (intro _; rfl) | (simpa [upd] using f7), hm.congr (fun j _ => upd_ne (by omega)) (fun j _ => upd_same L 11 1 j) (fun _ _ => rfl)⟩
    | 13, ho =>
      have ho' := ho
      simp at ho'
      subst ho'
      have hx := f7 (he ⟨7, .data⟩ (by simp) rfl)
      have hl := (he ⟨10, .data⟩ (by simp) rfl)
      obtain ⟨p1, p2, p3, p4⟩ := hw.own 2 (by omega) hl
      refine wpOp_of ho rfl ?_
      refine wp_store_mid 24 _ _ rfl (g 2) 0 (arr h) p1 hx p4 Try.info24 (arr_one _) ?_
      have hm := hw.store 2 (by omega) hl rfl
      exact ⟨v, g, _, _, _, _, _, _, _, _, rfl, by first | (intro _; rfl) | (simpa [upd] using f0), by first | (intro _; rfl) | (simpa [upd] using f1), by first | (intro _; rfl) | (simpa [upd] using f2), by first | (intro _; rfl) | (simpa [upd] using f3), by first | (intro _; rfl) | (simpa [upd] using f4), by first | (intro _; rfl) | (simpa [upd] using f5), by first | (intro _; rfl) | (simpa [upd] using f6), by first | (intro _; rfl) | (simpa [upd] using f7), hm.congr (fun j _ => upd_ne (by omega)) (fun j _ => upd_same L 11 2 j) (fun _ _ => rfl)⟩
    | j + 14, ho => simp at ho
  case fin =>
    rintro L ac w1 ⟨v, g, x9, x10, x11, x12, x13, x14, x15, x16, rfl, f0, f1, f2, f3, f4, f5, f6, f7, hw⟩ hall
    clear f0 f1 f2 f3 f4 f5 f6 f7
    have hL : ∀ j, j < 14 → L j = true := fun j hj => hall j (by simpa using hj)
    have e0 := (hw.own 0 (by omega) (hL 8 (by omega))).1
    have e1 := (hw.own 1 (by omega) (hL 9 (by omega))).1
    have e2 := (hw.own 2 (by omega) (hL 10 (by omega))).1
    have r0 := (hw.has 0 (by omega) (hL 11 (by omega))).2
    have r1 := (hw.has 1 (by omega) (hL 12 (by omega))).2
    have r2 := (hw.has 2 (by omega) (hL 13 (by omega))).2
    have hbel := hw.bel
    rw [e0, e1, e2]
    clear e0 e1 e2 hw hall hL
    generalize g 0 = g0 at *
    generalize g 1 = g1 at *
    generalize g 2 = g2 at *
    have r0 : ∀ k, k < 8 → w1.cell? ⟨g0, k, none⟩ = some (.bool (tb a k)) := fun k hk => by simpa using r0 k _ (arr_at a k hk)
    have r1 : ∀ k, k < 8 → w1.cell? ⟨g1, k, none⟩ = some (.bool (tb n k)) := fun k hk => by simpa using r1 k _ (arr_at n k hk)
    have r2 : ∀ k, k < 8 → w1.cell? ⟨g2, k, none⟩ = some (.bool (tb h k)) := fun k hk => by simpa using r2 k _ (arr_at h k hk)
    have R0 := hide r0
    have R1 := hide r1
    have R2 := hide r2
    have HB := hide hbel
    clear r0 r1 r2 hbel v g
    refine hK1 _ _ ?_
    clear hK1
    go_wp2
    go_loop [17] (fun i => ∃ k : Nat, k ≤ 8 ∧ i = .int .i64 k ∧ okTo a n h k = true) (fun i => 8 - (intOf i).toNat)
    case atStart => exact ⟨0, by omega, rfl, rfl⟩
    case round =>
      obtain ⟨k, hk, rfl, hok⟩ := hrel
      have HO := hide hok
      clear hok
      by_cases hlt : k < 8
      · have k0 : (0 : Int) ≤ (k : Int) := by omega
        have k1 : (k : Int) < 8 := by omega
        have c0 := unhide R0 k hlt
        have c1 := unhide R1 k hlt
        have c2 := unhide R2 k hlt
        have HS := hide (okTo_succ a n h k)
        have HF := hide (okTo_false a n h k 8 hlt)
        have hA : okAt a n h k = !(tb a k && !tb h k || tb n k && tb h k) := rfl
        have HA := hide hA
        clear hA
        clear R0 R1 R2
        generalize tb a k = ba at *
        generalize tb n k = bn at *
        generalize tb h k = bh at *
        cases ba <;> cases bn <;> cases bh
        all_goals
          go_wp2
          first
          | (go_ret
             exact ⟨by rw [unhide HF (unhide HA)]; rfl, unhide HB⟩)
          | (go_round
             case rel => exact ⟨k + 1, by omega, by go_num, by rw [unhide HS, unhide HO, unhide HA]; rfl⟩
             case measure => simp [intOf]; omega)
      · obtain rfl : k = 8 := by omega
        go_wp2
        go_ret
        exact ⟨by rw [unhide HO]; rfl, unhide HB⟩
end Go.Proofs.Ytnbleebilmghcaa
