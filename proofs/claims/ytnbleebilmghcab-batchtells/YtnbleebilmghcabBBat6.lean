/- slices.Concat and batch.Order. -/
import Derived.Test.YtnbleebilmghcabBBat5
import Derived.Shelf.Spec.SlicesGrow
set_option linter.unnecessarySimpa false
set_option linter.unusedVariables false
set_option linter.unusedSimpArgs false
namespace Go.Proofs.Ytnbleebilmghcab
open Go.Shelf
def growI_ren : Go.Shelf.Ren := ⟨fun | 4 => 79 | n => n, fun | 22 => 38 | 25 => 3 | 3 => 3 | 4 => 4 | 9 => 9 | 20 => 20 | 0 => 0 | n => n, fun | n => n⟩
theorem growI : Go.Proofs.Lays8.n4 Try.prog growI_ren := {
  mixed := by kernel_rfl
  f4 := ⟨Try.f79.name, by decide, Try.func79.trans (congrArg some (by kernel_rfl))⟩
  t0 := Try.underlying0
  a0 := Try.isAgg0
  z0 := Try.sizeOf0
  v0 := Try.zeroValue0
  t3 := Try.underlying3
  a3 := Try.isAgg3
  z3 := Try.sizeOf3
  v3 := Try.zeroValue3
  t4 := Try.underlying4
  a4 := Try.isAgg4
  z4 := Try.sizeOf4
  v4 := Try.zeroValue4
  t9 := Try.underlying9
  a9 := Try.isAgg9
  z9 := Try.sizeOf9
  v9 := Try.zeroValue9
  t20 := Try.underlying20
  a20 := Try.isAgg20
  z20 := Try.sizeOf20
  v20 := Try.zeroValue20
  t22 := Try.underlying38
  a22 := Try.isAgg38
  z22 := Try.sizeOf38
  v22 := Try.zeroValue38 }
end Go.Proofs.Ytnbleebilmghcab
namespace Go.Proofs.Ytnbleebilmghcab
open Go Go.RowKit
attribute [local go_sem ↓] Go.wp_at_zero Go.wp_at_succ

theorem grow_zero (w : World) : Calls Try.prog 79 #[.slice none 0 0, .int .i64 0] w fun e w' => e = .returned (.slice none 0 0) ∧ w' = w :=
  Any8.slices_Grow_room growI none 0 0 0 w (Nat.le_refl _) (by decide) (by decide) (by decide)
theorem grow_some (n : Nat) (w : World) (h0 : 0 < n) (h : n ≤ 100000) : Calls Try.prog 79 #[.slice none 0 0, .int .i64 (n : Int)] w fun e w' => ∃ cap, e = .returned (.slice (some ⟨w.heap.size, 0, none⟩) 0 cap) ∧ w'.ownsRow w.heap.size 3 1 (.slice (some ⟨w.heap.size, 0, none⟩) 0 cap) 0 [] ∧ Below w.heap.size w w' := by
  obtain ⟨i3, hi3, hz3, hs3, hb3⟩ := info_parts info3
  have h1 := Any8.slices_Grow_grow growI i3 (.int .i64 0) hi3 hz3 (by rw [hs3]; decide) none 0 0 n [] w (Nat.le_refl _) (by omega) (by rw [hb3]; omega) (by omega) (by rw [hs3]; rfl) (fun _ => rfl) (fun a h => by cases h)
  refine Calls.mono h1 ?_
  rintro e w' ⟨rfl, rfl⟩
  refine ⟨_, rfl, ?_, ((Below.refl _ _).drew).alloc (Nat.le_refl _) _⟩
  have hcm := grownCap_le_maxLen w (0 + n) 0 3 (by unfold maxLen; omega)
  refine World.ownsRow_made w.drew _ _ (Nat.le_refl _) hcm ?_
  have hge := grownCap_ge w (0 + n) 0 3
  have ht : growI_ren.t 25 = 3 := rfl
  rw [ht]
  simp only [Array.size_append, size_zeroCells, List.size_toArray, List.length_nil]
  simp only [show (Value.int IntKind.i64 0).cells.size = 1 from rfl]
  omega
theorem grow_any (n : Nat) (w : World) (h : n ≤ 100000) : Calls Try.prog 79 #[.slice none 0 0, .int .i64 (n : Int)] w fun e w' => ∃ A cap, e = .returned (.slice A 0 cap) ∧ w'.ownsRow w.heap.size 3 1 (.slice A 0 cap) 0 [] ∧ Below w.heap.size w w' := by
  cases n with
  | zero =>
    refine Calls.mono (grow_zero w) ?_
    rintro e w' ⟨rfl, rfl⟩
    exact ⟨none, 0, rfl, World.ownsRow_nil _ _ _ _, Below.refl _ _⟩
  | succ n =>
    refine Calls.mono (grow_some (n + 1) w (by omega) h) ?_
    rintro e w' ⟨cap, rfl, h1, h2⟩
    exact ⟨_, cap, rfl, h1, h2⟩

def flatTo (bs : List (List Nat)) (k : Nat) : List Nat := (bs.take k).flatten
theorem flatTo_succ (bs : List (List Nat)) (k : Nat) (h : k < bs.length) : flatTo bs (k + 1) = flatTo bs k ++ bs.getD k [] := by
  unfold flatTo
  rw [List.take_succ_eq_append_getElem h, List.flatten_append, List.getD_eq_getElem?_getD, List.getElem?_eq_getElem h]; simp
theorem flatTo_len (bs : List (List Nat)) (m : Nat) (h : ∀ k, k < bs.length → (bs.getD k []).length ≤ m) : ∀ k, k ≤ bs.length → (flatTo bs k).length ≤ k * m
  | 0, _ => by simp [flatTo]
  | k + 1, hk => by
    have := flatTo_len bs m h k (by omega)
    have := h k (by omega)
    rw [flatTo_succ bs k (by omega), List.length_append, Nat.succ_mul]; omega
theorem flatTo_all (bs : List (List Nat)) : flatTo bs bs.length = bs.flatten := by unfold flatTo; rw [List.take_length]
theorem intsOf_app (a b : List Nat) : intsOf (a ++ b) = intsOf a ++ intsOf b := by unfold intsOf; simp
theorem intsOf_one (l : List Nat) : ∀ u ∈ intsOf l, u.oneCell' = true := fun u hu => by
  unfold intsOf at hu
  obtain ⟨x, _, rfl⟩ := List.mem_map.1 hu
  rfl
theorem nums_cells {w : World} {b off : Nat} {l : List Nat} (h : NumsAt w (some ⟨b, off, none⟩) l) : ∀ j u, (intsOf l)[j]? = some u → w.cell? ((⟨b, off, none⟩ : Addr).add j) = some u := by
  intro j u hj
  unfold intsOf at hj
  rw [List.getElem?_map] at hj
  have hl : j < l.length := by
    by_cases h1 : j < l.length
    · exact h1
    · rw [List.getElem?_eq_none (by omega)] at hj; cases hj
  obtain ⟨b', off', e, hc⟩ := h j hl
  simp only [Option.some.injEq, Addr.mk.injEq, and_true] at e
  obtain ⟨rfl, rfl⟩ := e
  rw [List.getElem?_eq_getElem hl] at hj
  simp only [Option.map_some, Option.some.injEq] at hj
  rw [List.getD_eq_getElem?_getD, List.getElem?_eq_getElem hl] at hc
  have hadd : (⟨b, off, none⟩ : Addr).add j = ⟨b, off + j, none⟩ := by unfold Addr.add; split <;> simp_all
  rw [hadd, hc, ← hj]
  rfl

set_option maxRecDepth 8000 in
set_option maxHeartbeats 2000000 in
theorem concat_any (B : Option Addr) (bs : List (List Nat)) (cap : Nat) (w : World) (hl : bs.length ≤ 100) (hl2 : ∀ k, k < bs.length → (bs.getD k []).length ≤ 100) (hne : ∀ k, k < bs.length → 0 < (bs.getD k []).length) (hB : BatsAt w B bs) :
    Calls Try.prog 54 #[.slice B bs.length cap] w fun e w' => ∃ A cap', e = .returned (.slice A bs.flatten.length cap') ∧ NumsAt w' A bs.flatten ∧ Below w.heap.size w w' := by
  have hfl := flatTo_len bs 100 hl2
  obtain ⟨i3, hi3, hz3, hs3, hb3⟩ := info_parts info3
  have HI3 := hide hi3
  have HZ3 := hide hz3
  have HS3 := hide hs3
  have HB3 := hide hb3
  clear hi3 hz3 hs3 hb3
  have HB := hide hB
  have HFL := hide hfl
  have HL2 := hide hl2
  have HNE := hide hne
  clear hB hfl hl2 hne
  go_enter Try.func54, Try.ntmps54
  go_wp2
  go_loop [3, 11] (fun t i => ∃ k : Nat, k ≤ bs.length ∧ i = .int .i64 k ∧ t = .int .i64 ((flatTo bs k).length : Nat)) (fun _ i => bs.length - (intOf i).toNat)
  case atStart => exact ⟨0, Nat.zero_le _, rfl, rfl⟩
  case round =>
    obtain ⟨k, hk, rfl, rfl⟩ := hrel
    have hfk := unhide HFL k hk
    have hk100 : k * 100 ≤ 10000 := by omega
    by_cases hlt : k < bs.length
    · have k0 : (0 : Int) ≤ (k : Int) := by omega
      have k1 : (k : Int) < (bs.length : Int) := by omega
      obtain ⟨b, off, A, c, rfl, hc, hn⟩ := unhide HB k hlt
      have h100 := unhide HL2 k hlt
      have HS : Hid ((flatTo bs (k + 1)).length = (flatTo bs k).length + (bs.getD k []).length) := by rw [flatTo_succ bs k hlt, List.length_append]; exact hide rfl
      clear hn HB HFL HL2 HNE
      generalize (bs.getD k []).length = m at *
      generalize (flatTo bs k).length = t at *
      have ht0 : ¬ ((t : Int) + (m : Int) < 0) := by omega
      go_wp2
      go_round
      case rel => exact ⟨k + 1, by omega, by go_num, by rw [unhide HS]; go_num⟩
      case measure => simp [intOf]; omega
    · obtain rfl : k = bs.length := by omega
      have HC1 := hide (grow_any (flatTo bs bs.length).length w (by omega))
      have HFA := hide (flatTo_all bs)
      generalize (flatTo bs bs.length).length = t at *
      go_wp2_with (first
        | (go_at_call 79; refine (unhide HC1).mono ?_; rintro e w5 ⟨A5, cap5, rfl, ho5, hb5⟩; have HO5 := hide ho5; have HB5 := hide hb5; clear ho5 hb5))
      clear HC1
      go_loopw [6, 27] (fun v i wr => ∃ k : Nat, k ≤ bs.length ∧ i = .int .i64 k ∧ wr.ownsRow w.heap.size 3 1 v (flatTo bs k).length (intsOf (flatTo bs k)) ∧ Below w.heap.size w wr) (fun _ i _ => bs.length - (intOf i).toNat)
      case atStart => exact ⟨0, Nat.zero_le _, rfl, unhide HO5, unhide HB5⟩
      case round =>
        clear HO5 HB5
        obtain ⟨k, hk', rfl, ho, hb⟩ := hrel
        have hfk := unhide HFL k hk'
        have hk100 : k * 100 ≤ 10000 := by omega
        by_cases hlt2 : k < bs.length
        · have k0 : (0 : Int) ≤ (k : Int) := by omega
          have k1 : (k : Int) < (bs.length : Int) := by omega
          obtain ⟨b, off, A, c, rfl, hc, hn⟩ := unhide HB k hlt2
          have h100 := unhide HL2 k hlt2
          have hpos := unhide HNE k hlt2
          obtain ⟨b2, off2, rfl, _⟩ := hn 0 hpos
          have hc := keep_below hb hc
          have HN := hide (nums_cells (hn.below hb))
          have HS := hide (flatTo_succ bs k hlt2)
          have HO := hide ho
          have HBW := hide hb
          have hsz := hb.size
          clear hn HB HFL HL2 HNE ho hb
          generalize bs.getD k [] = l at *
          generalize flatTo bs k = fl at *
          go_wp2_with (first
            | (at_builtin; refine wpList_append1 _ rfl (.tmp 31) (.tmp 32) 38 rfl w.heap.size 3 i3 (.int .i64 0) 1 8 Try.underlying38 (unhide HI3) (unhide HZ3) (unhide HS3) (unhide HB3) rfl (by decide) _ fl.length (intsOf fl) rfl (unhide HO) ⟨b2, off2, none⟩ l.length c (intsOf l) rfl (by simp [intsOf]) (unhide HN) (intsOf_one l) (by unfold maxLen; omega) (by omega) hsz hpos ?_; intro g capg w7 ho7 hg7 hw7; have HO7 := hide ho7; have HG7 := hide hg7; clear ho7 hg7 hw7))
          go_roundw
          case rel => exact ⟨k + 1, by omega, by go_num, by rw [unhide HS, intsOf_app, List.length_append]; exact unhide HO7, (unhide HBW).grown (unhide HG7) hsz (fun j hj => ((unhide HO).lt j hj).1)⟩
          case measure => simp [intOf]; omega
        · obtain rfl : k = bs.length := by omega
          have ho' := ho
          rw [unhide HFA] at ho'
          obtain ⟨A, c, rfl, hn⟩ := numsAt_own ho'
          have HN := hide hn
          have HBW := hide hb
          clear ho ho' hn hb HB HFL HL2 HNE
          go_wp2
          go_ret
          exact ⟨A, c, rfl, unhide HN, unhide HBW⟩

set_option maxRecDepth 8000 in
set_option maxHeartbeats 400000 in
theorem order_any (B : Option Addr) (bs : List (List Nat)) (cap : Nat) (w : World) (hl : bs.length ≤ 100) (hl2 : ∀ k, k < bs.length → (bs.getD k []).length ≤ 100) (hne : ∀ k, k < bs.length → 0 < (bs.getD k []).length) (hB : BatsAt w B bs) :
    Calls Try.prog 30 #[.slice B bs.length cap] w fun e w' => ∃ A cap', e = .returned (.slice A bs.flatten.length cap') ∧ NumsAt w' A bs.flatten ∧ Below w.heap.size w w' := by
  have HC := hide (concat_any B bs cap w hl hl2 hne hB)
  clear hl2 hne hB
  generalize bs.flatten.length = m at *
  go_enter Try.func30, Try.ntmps30
  go_wp2_with (first
    | (go_at_call 54; refine (unhide HC).mono ?_; rintro e w5 ⟨A, c, rfl, hn, hb5⟩; have HN := hide hn; have HB5 := hide hb5; clear hb5 hn))
  go_ret
  exact ⟨A, c, rfl, unhide HN, unhide HB5⟩
end Go.Proofs.Ytnbleebilmghcab
