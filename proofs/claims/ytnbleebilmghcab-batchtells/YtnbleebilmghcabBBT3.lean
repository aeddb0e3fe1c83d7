/- The statement BatchTells' function. -/
import Derived.Test.YtnbleebilmghcabBBT2
set_option linter.unusedVariables false
set_option linter.unusedSimpArgs false
set_option linter.unnecessarySimpa false
namespace Go.Proofs.Ytnbleebilmghcab
open Go.RowKit
attribute [local go_sem ↓] Go.wp_at_zero Go.wp_at_succ

theorem box30 (w1 : World) (u0 u1 : Value) (s : TypeId) {w2 : World} (h : Below (w1.alloc (.cells #[u0, u1] s)).heap.size (w1.alloc (.cells #[u0, u1] s)) w2) :
    w2.cell? ⟨w1.heap.size, 0, none⟩ = some u0 ∧ w2.cell? ⟨w1.heap.size, 1, none⟩ = some u1 ∧ Below w1.heap.size w1 w2 := by
  have h1 := (Below.refl w1.heap.size w1).alloc (Nat.le_refl _) (.cells #[u0, u1] s)
  exact ⟨keep_below h (by simp [go_sem]), keep_below h (by simp [go_sem]), h1.trans (h.mono h1.size)⟩
theorem bats_one {W : World} {b : Nat} {A : Option Addr} {c : Nat} {l : List Nat} (h : W.cell? ⟨b, 0, none⟩ = some (.slice A l.length c)) (hn : NumsAt W A l) : BatsAt W (some ⟨b, 0, none⟩) [l] := fun k hk => by
  obtain rfl : k = 0 := by simp at hk; omega
  exact ⟨b, 0, A, c, rfl, h, hn⟩

theorem two_one (w8 : World) (A8 : Option Addr) (c8 : Nat) (A : Option Addr) (c : Nat) (fl : List Nat) (h8 : NumsAt w8 A8 fl) (h9 : NumsAt w8 A fl) :
    BatsAt ((w8.alloc (.cells #[.slice A8 fl.length c8] 38)).alloc (.cells #[.slice A fl.length c] 38)) (some ⟨w8.heap.size, 0, none⟩) [fl] ∧ BatsAt ((w8.alloc (.cells #[.slice A8 fl.length c8] 38)).alloc (.cells #[.slice A fl.length c] 38)) (some ⟨w8.heap.size + 1, 0, none⟩) [fl] ∧ Below w8.heap.size w8 ((w8.alloc (.cells #[.slice A8 fl.length c8] 38)).alloc (.cells #[.slice A fl.length c] 38)) := by
  have h1 := (Below.refl w8.heap.size w8).alloc (Nat.le_refl _) (.cells #[.slice A8 fl.length c8] 38)
  have h2 := h1.alloc h1.size (.cells #[.slice A fl.length c] 38)
  exact ⟨bats_one (A := A8) (c := c8) (by simp [go_sem]) (h8.below h2), bats_one (A := A) (c := c) (by simp [go_sem]) (h9.below h2), h2⟩

set_option maxRecDepth 8000 in
set_option maxHeartbeats 4000000 in
theorem tells_bs (L : Option Addr) (n cap : Nat) (bs : List (List Nat)) (ej aj : Int) (w : World) (hl : bs.length ≤ 12) (hl2 : ∀ k, k < bs.length → (bs.getD k []).length ≤ 12) (hne : ∀ k, k < bs.length → 0 < (bs.getD k []).length)
    (hM : ∀ W, Below w.heap.size w W → Calls Try.prog 25 #[.slice L n cap] W fun e w' => ∃ B c, e = .returned (.tuple #[.slice B bs.length c, .agg #[.int .i64 ej, .int .i64 aj]]) ∧ BatsAt w' B bs ∧ Below W.heap.size W w')
    (hR : ∀ W, Below w.heap.size w W → Calls Try.prog 26 #[.slice L n cap] W fun e w' => ∃ B c, e = .returned (.tuple #[.slice B bs.length c, .agg #[.int .i64 ej, .int .i64 aj]]) ∧ BatsAt w' B bs ∧ Below W.heap.size W w')
    (hW : ∀ W, Below w.heap.size w W → Calls Try.prog 27 #[.slice L n cap] W fun e w' => e = .returned (.agg #[.int .i64 ej, .int .i64 aj]) ∧ Below W.heap.size W w')
    (hV : ∀ W, Below w.heap.size w W → Calls Try.prog 28 #[.slice L n cap] W fun e w' => e = .returned (.agg #[.int .i64 ej, .int .i64 aj]) ∧ Below W.heap.size W w') :
    Calls Try.prog 9 #[.slice L n cap] w fun e w' => e = .returned (.bool true) ∧ Below w.heap.size w w' := by
  have hfl := flatTo_len bs 12 hl2
  obtain ⟨i3, hi3, hz3, hs3, hb3⟩ := info_parts info3
  have HI3 := hide hi3
  have HZ3 := hide hz3
  have HS3 := hide hs3
  have HB3 := hide hb3
  clear hi3 hz3 hs3 hb3
  have HSL := hide (fun W B c B' c' (h : BatsAt W B bs) (h' : BatsAt W B' bs) => samel_true B c B' c' bs W (by omega) (fun k hk => by have := hl2 k hk; omega) h h')
  have HOR := hide (fun W B c (h : BatsAt W B bs) => order_any B bs c W (by omega) (fun k hk => by have := hl2 k hk; omega) hne h)
  have hlen := hfl bs.length (Nat.le_refl _)
  have hfa := flatTo_all bs
  have HFA := hide hfa
  rw [hfa] at hlen
  have HS1 := hide (fun W b b' (h : BatsAt W (some ⟨b, 0, none⟩) [bs.flatten]) (h' : BatsAt W (some ⟨b', 0, none⟩) [bs.flatten]) => samel_true (some ⟨b, 0, none⟩) 1 (some ⟨b', 0, none⟩) 1 [bs.flatten] W (by simp) (fun k hk => by
    obtain rfl : k = 0 := by simp at hk; omega
    show bs.flatten.length ≤ 1000000
    omega) h h')
  have HM := hide hM
  have HR := hide hR
  have HW := hide hW
  have HV := hide hV
  have HFL := hide hfl
  have HL2 := hide hl2
  have HNE := hide hne
  clear hM hR hW hV hfl hl2 hne hfa
  go_enter Try.func9, Try.ntmps9
  go_wp2_with (first
    | (go_at_call 25; refine (unhide HM _ (Below.refl _ _)).mono ?_; rintro e w1 ⟨B1, c1, rfl, hb1, hB1⟩; have HA1 := hide hb1; have HB1 := hide hB1; clear hb1 hB1 HM)
    | (go_at_call 26; refine (unhide HR _ ((unhide HB1).alloc (unhide HB1).size _)).mono ?_; rintro e w2 ⟨B2, c2, rfl, hb2, hB2⟩; obtain ⟨p0, p1, hB2'⟩ := box30 _ _ _ _ hB2; have l0 := World.block_lt_of_cell? w2 _ p0; have HA2 := hide ((unhide HA1).below hB2'); have HC2 := hide hb2; have HB2 := hide ((unhide HB1).trans (hB2'.mono (unhide HB1).size)); clear hb2 hB2 hB2' HR HA1 HB1)
    | (go_at_call 27; refine (unhide HW _ ((unhide HB2).alloc (unhide HB2).size _)).mono ?_; rintro e w3 ⟨rfl, hB3⟩; obtain ⟨_, _, hB3'⟩ := box30 _ _ _ _ hB3; have HA3 := hide ((unhide HA2).below hB3'); have HC3 := hide ((unhide HC2).below hB3'); have HB4 := hide ((unhide HB2).trans (hB3'.mono (unhide HB2).size)); clear hB3 hB3' HW HA2 HC2 HB2 p0 p1 l0)
    | (go_at_call 28; refine (unhide HV _ (unhide HB4)).mono ?_; rintro e w4 ⟨rfl, hB5⟩; have HA4 := hide ((unhide HA3).below hB5); have HC4 := hide ((unhide HC3).below hB5); have HB5 := hide ((unhide HB4).trans (hB5.mono (unhide HB4).size)); clear hB5 HV HA3 HC3 HB4)
    | (go_at_call 29; refine (unhide HSL _ _ _ _ _ (unhide HA4) (unhide HC4)).mono ?_; rintro e w5 ⟨rfl, hB6⟩; have HC5 := hide ((unhide HC4).below hB6); have HB6 := hide ((unhide HB5).trans (hB6.mono (unhide HB5).size)); clear hB6 HSL HA4 HC4 HB5))
  clear HFL
  have hfl := flatTo_len bs 12 (unhide HL2)
  have HFL := hide hfl
  clear hfl
  go_loopw [7, 38] (fun v i wr => ∃ k : Nat, k ≤ bs.length ∧ i = .int .i64 k ∧ wr.ownsRow w5.heap.size 3 1 v (flatTo bs k).length (intsOf (flatTo bs k)) ∧ Below w5.heap.size w5 wr) (fun _ i _ => bs.length - (intOf i).toNat)
  case atStart => exact ⟨0, Nat.zero_le _, rfl, World.ownsRow_nil _ _ _ _, Below.refl _ _⟩
  case round =>
    obtain ⟨k, hk, rfl, ho, hb⟩ := hrel
    have hfk := unhide HFL k hk
    have hk12 : k * 12 ≤ 144 := by omega
    by_cases hlt : k < bs.length
    · have k0 : (0 : Int) ≤ (k : Int) := by omega
      have k1 : (k : Int) < (bs.length : Int) := by omega
      obtain ⟨b, off, A, c, rfl, hc, hn⟩ := unhide HC5 k hlt
      have h12 := unhide HL2 k hlt
      have hpos := unhide HNE k hlt
      obtain ⟨b2, off2, rfl, _⟩ := hn 0 hpos
      have hc := keep_below hb hc
      have HN := hide (nums_cells (hn.below hb))
      have HS := hide (flatTo_succ bs k hlt)
      have HO := hide ho
      have HBW := hide hb
      have hsz := hb.size
      clear hn HC5 HFL HL2 HNE ho hb HOR HS1 HFA
      generalize bs.getD k [] = l at *
      generalize flatTo bs k = fl at *
      go_wp2_with (first
        | (at_builtin; refine wpList_append1 _ rfl (.tmp 42) (.tmp 43) 38 rfl w5.heap.size 3 i3 (.int .i64 0) 1 8 Try.underlying38 (unhide HI3) (unhide HZ3) (unhide HS3) (unhide HB3) rfl (by decide) _ fl.length (intsOf fl) rfl (unhide HO) ⟨b2, off2, none⟩ l.length c (intsOf l) rfl (by simp [intsOf]) (unhide HN) (intsOf_one l) (by unfold maxLen; omega) (by omega) hsz hpos ?_; intro g capg w7 ho7 hg7 hw7; have HO7 := hide ho7; have HG7 := hide hg7; clear ho7 hg7 hw7))
      go_roundw
      case rel => exact ⟨k + 1, by omega, by go_num, by rw [unhide HS, intsOf_app, List.length_append]; exact unhide HO7, (unhide HBW).grown (unhide HG7) hsz (fun j hj => ((unhide HO).lt j hj).1)⟩
      case measure => simp [intOf]; omega
    · obtain rfl : k = bs.length := by omega
      rw [unhide HFA] at ho
      obtain ⟨A, c, rfl, hn⟩ := numsAt_own ho
      have HN := hide hn
      have HBW := hide ((unhide HB6).trans (hb.mono (unhide HB6).size))
      have HC6 := hide ((unhide HC5).below hb)
      clear ho hn hb HFL HL2 HNE HC5 HB6 HFA
      generalize bs.flatten = fl at *
      go_wp2_with (first
        | (go_at_call 30; refine (unhide HOR _ _ _ (unhide HC6)).mono ?_; rintro e w8 ⟨A8, c8, rfl, hn8, hb8⟩; have HT := hide (two_one w8 A8 c8 A c _ hn8 ((unhide HN).below hb8)); have HB8 := hide ((unhide HBW).trans (hb8.mono (unhide HBW).size)); clear hn8 hb8 HC6 HN HBW)
        | (go_at_call 29; refine (unhide HS1 _ _ _ (unhide HT).1 (unhide HT).2.1).mono ?_; rintro e w9 ⟨rfl, hb9⟩; have HB9 := hide (((unhide HB8).trans ((unhide HT).2.2.mono (unhide HB8).size)).trans (hb9.mono ((unhide HB8).trans ((unhide HT).2.2.mono (unhide HB8).size)).size)); clear hb9))
      go_ret
      exact ⟨rfl, unhide HB9⟩
theorem tells_any (L : Option Addr) (n cap : Nat) (S : Nat → SysI) (w : World) (hL : SyssAt w L n S) :
    Calls Try.prog 9 #[.slice L n cap] w fun e w' => e = .returned (.bool true) ∧ Below w.heap.size w w' := by
  by_cases h : (bwF S n).1 = 0
  · obtain ⟨hn, _, hz⟩ := bw_right S n h
    refine tells_bs L n cap (mkB (clS S) n) 0 0 w (by have := mkB_len (clS S) n; omega) (fun k hk => by have := mkB_lens (clS S) n k hk; omega) (fun k hk => ?_)
      (fun W hW => make_right L n cap S W (hL.below hW) h) (fun W hW => rbatches_right L n cap S W (hL.below hW) h) (fun W hW => ?_) (fun W hW => ?_)
    · have := mkB_ne (clS S) n k hk
      exact List.length_pos_iff.2 this
    · have := bwrong_any L n cap S W (hL.below hW)
      rw [hz] at this
      exact this
    · have := rbwrong_any L n cap S W (hL.below hW)
      rw [hz] at this
      exact this
  · refine tells_bs L n cap [] (bwF S n).1 (bwF S n).2 w (by simp) (fun k hk => by simp at hk) (fun k hk => by simp at hk)
      (fun W hW => (make_wrong L n cap S W (hL.below hW) h).mono fun e w' ⟨he, hb⟩ => ⟨none, 0, he, fun k hk => by simp at hk, hb⟩)
      (fun W hW => (rbatches_wrong L n cap S W (hL.below hW) h).mono fun e w' ⟨he, hb⟩ => ⟨none, 0, he, fun k hk => by simp at hk, hb⟩)
      (fun W hW => bwrong_any L n cap S W (hL.below hW)) (fun W hW => rbwrong_any L n cap S W (hL.below hW))
end Go.Proofs.Ytnbleebilmghcab
