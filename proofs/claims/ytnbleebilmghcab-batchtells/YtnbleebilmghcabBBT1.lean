/- The document's WrongSystems and SameLists. -/
import Derived.Test.YtnbleebilmghcabBRClash
import Derived.Test.YtnbleebilmghcabBBat6
import Derived.Test.YtnbleebilmghcabBBTMath
set_option linter.unusedVariables false
set_option linter.unusedSimpArgs false
set_option linter.unnecessarySimpa false
namespace Go.Proofs.Ytnbleebilmghcab
open Go.RowKit
attribute [local go_sem ↓] Go.wp_at_zero Go.wp_at_succ

set_option maxRecDepth 8000 in
set_option maxHeartbeats 2000000 in
theorem rbwrong_any (L : Option Addr) (n cap : Nat) (S : Nat → SysI) (w : World) (hL : SyssAt w L n S) :
    Calls Try.prog 28 #[.slice L n cap] w fun e w' => e = .returned (faultV (bwF S n)) ∧ Below w.heap.size w w' := by
  unfold bwF
  by_cases hg : 12 < n
  · have hg' : (12 : Int) < (n : Int) := by omega
    simp only [hg, if_true]
    go_enter Try.func28, Try.ntmps28
    go_wp2
    refine bodyPost_ret (v := faultV (4, 0)) (by simp [results, Try.results28, go_sem, faultV]) rfl ⟨rfl, ?_⟩
    go_grown
  · have hg' : ¬ (12 : Int) < (n : Int) := by omega
    simp only [hg, if_false]
    have HX := hide (WX.start w)
    have HL := hide hL
    clear hL
    go_enter Try.func28, Try.ntmps28
    go_wp2
    go_loopw [12] (fun i wr => ∃ j : Nat, j ≤ n ∧ i = .int .i64 j ∧ bwTo S n 0 = bwTo S (n - j) j ∧ WX w wr) (fun i _ => n - (intOf i).toNat)
    case atStart => exact ⟨0, Nat.zero_le _, rfl, rfl, unhide HX⟩
    case round =>
      clear HX
      obtain ⟨j, hj, rfl, hF, hN⟩ := hrel
      have HF := hide hF
      clear hF
      by_cases hlt : j < n
      · have j0 : (0 : Int) ≤ (j : Int) := by omega
        have j1 : (j : Int) < (n : Int) := by omega
        obtain ⟨b, off, rfl, hs⟩ := unhide HL j hlt
        have hs := hs.below hN.bel
        have q0 := hs.c0
        have q1 := hs.c1
        have q2 := hs.c2
        have q3 := hs.c3
        have HS := hide (bwTo_step S n j hlt)
        have hC := rwrong_any (S j).m (S j).al (S j).no (S j).A (S j).len (S j).cap (S j).a _ (hs.acts.below ((Below.refl wr.heap.size wr).alloc (Nat.le_refl _) (.cells #[.int .i64 (S j).m, .int .i64 (S j).al, .int .i64 (S j).no, .slice (S j).A (S j).len (S j).cap] 26)))
        have e : wrF (S j).m (S j).al (S j).no (S j).a (S j).len = sw (S j) := rfl
        rw [e] at hC
        unfold faultV sysV at hC
        have HC := hide hC
        have HN := hide hN
        clear hN hC e HL hs
        generalize sw (S j) = x at *
        obtain ⟨ej, aj⟩ := x
        dsimp only at *
        generalize S j = s at *
        obtain ⟨m, al, no, A, len, cap, a⟩ := s
        dsimp only at *
        by_cases he : ej = 0
        · subst he
          go_wp2_with (first
            | (go_at_call 53; refine (unhide HC).mono ?_; rintro e w5 ⟨rfl, hb5⟩; have hN5 := (unhide HN).below (Below.trans ((Below.refl _ _).alloc (Nat.le_refl _) _) (hb5.mono (by simp))); have HN5 := hide hN5; clear hb5 hN5))
          go_roundw
          case rel => exact ⟨j + 1, by omega, by go_num, (unhide HF).trans ((unhide HS).trans (by simp)), (unhide HN5).below ((Below.refl _ _).alloc (Nat.le_refl _) _)⟩
          case measure => simp [intOf]; omega
        · go_wp2_with (first
            | (go_at_call 53; refine (unhide HC).mono ?_; rintro e w5 ⟨rfl, hb5⟩; have hN5 := (unhide HN).below (Below.trans ((Below.refl _ _).alloc (Nat.le_refl _) _) (hb5.mono (by simp))); have hN6 := hN5.below ((Below.refl _ _).alloc (Nat.le_refl _) (.cells #[.int .i64 ej, .int .i64 aj] 30)); have t0 := hN6.t0; have t1 := hN6.t1; have f0 := hN6.f 0; have f1 := hN6.f 1; have HN6 := hide hN6; clear hb5 hN5 hN6))
          have hv := (unhide HF).trans ((unhide HS).trans (if_neg he))
          refine bodyPost_ret (v := faultV (ej, (j : Int))) (by simp [results, Try.results28, go_sem, faultV, t0, t1]) rfl ⟨by rw [hv], ?_⟩
          exact below_setCells w.heap.size (by omega) [.int .i64 ej, .int .i64 (j : Int)] 0 _ (unhide HN6).bel
      · obtain rfl : j = n := by omega
        have hv : bwTo S j 0 = (0, 0) := by rw [unhide HF, Nat.sub_self]; rfl
        have t0 := hN.t0
        have t1 := hN.t1
        have f0 := hN.f 0
        have f1 := hN.f 1
        have HB := hide hN.bel
        clear hN HL
        go_wp2
        refine bodyPost_ret (v := faultV (0, 0)) (by simp [results, Try.results28, go_sem, faultV, t0, t1]) rfl ⟨by rw [hv], ?_⟩
        exact below_setCells w.heap.size (by omega) [.int .i64 0, .int .i64 0] 0 wr (unhide HB)

set_option maxRecDepth 8000 in
set_option maxHeartbeats 4000000 in
theorem samel_true (B : Option Addr) (c : Nat) (B' : Option Addr) (c' : Nat) (bs : List (List Nat)) (w : World) (hl : bs.length ≤ 1000000) (hl2 : ∀ k, k < bs.length → (bs.getD k []).length ≤ 1000000) (hB : BatsAt w B bs) (hB' : BatsAt w B' bs) :
    Calls Try.prog 29 #[.slice B bs.length c, .slice B' bs.length c'] w fun e w' => e = .returned (.bool true) ∧ Below w.heap.size w w' := by
  have HB := hide hB
  have HB' := hide hB'
  have HL2 := hide hl2
  clear hB hB' hl2
  go_enter Try.func29, Try.ntmps29
  go_wp2
  go_loopw [14] (fun x wr => ∃ j : Nat, j ≤ bs.length ∧ x = .int .i64 j ∧ Below w.heap.size w wr) (fun x _ => bs.length - (intOf x).toNat)
  case atStart => exact ⟨0, Nat.zero_le _, rfl, Below.refl _ _⟩
  case round =>
    obtain ⟨j, hj, rfl, hbr⟩ := hrel
    by_cases hlt : j < bs.length
    · have j0 : (0 : Int) ≤ (j : Int) := by omega
      have j1 : (j : Int) < (bs.length : Int) := by omega
      obtain ⟨b, off, A, ca, rfl, hc, hA⟩ := unhide HB j hlt
      obtain ⟨b', off', A', ca', rfl, hc', hA'⟩ := unhide HB' j hlt
      have hll := unhide HL2 j hlt
      have c0 := keep_below hbr hc
      have c1 := keep_below hbr hc'
      have HA := hide hA
      have HA' := hide hA'
      have HC0 := hide hc
      have HC1 := hide hc'
      have HBR := hide hbr
      clear hc hc' hA hA' hbr HB HB' HL2
      generalize bs.getD j [] = l at *
      go_wp2
      go_quiet (fail)
      go_wp2
      clear c0 c1
      go_loopw [33] (fun x wr => ∃ i : Nat, i ≤ l.length ∧ x = .int .i64 i ∧ Below w.heap.size w wr) (fun x _ => l.length - (intOf x).toNat)
      case atStart => exact ⟨0, Nat.zero_le _, rfl, bel_drewN (unhide HBR) _⟩
      case round =>
        clear HBR
        obtain ⟨i, hi, rfl, hbr⟩ := hrel
        have c0 := keep_below hbr (unhide HC0)
        have c1 := keep_below hbr (unhide HC1)
        by_cases hil : i < l.length
        · have i0 : (0 : Int) ≤ (i : Int) := by omega
          have i1 : (i : Int) < (l.length : Int) := by omega
          obtain ⟨b2, o2, rfl, h2⟩ := unhide HA i hil
          obtain ⟨b3, o3, rfl, h3⟩ := unhide HA' i hil
          have d0 := keep_below hbr h2
          have d1 := keep_below hbr h3
          have HBR := hide hbr
          clear h2 h3 hbr HA HA' HC0 HC1
          go_wp2
          go_quiet (fail)
          go_wp2
          go_roundw
          case rel => exact ⟨i + 1, by omega, by go_num, bel_drewN (unhide HBR) _⟩
          case measure => simp [intOf]; omega
        · obtain rfl : i = l.length := by omega
          have HBR := hide hbr
          clear hbr HA HA' HC0 HC1 c0 c1
          go_wp2
          go_roundw
          case rel => exact ⟨j + 1, by omega, by go_num, unhide HBR⟩
          case measure => simp [intOf]; omega
    · obtain rfl : j = bs.length := by omega
      have HBR := hide hbr
      clear hbr HB HB' HL2
      go_wp2
      go_ret
      exact ⟨rfl, unhide HBR⟩
end Go.Proofs.Ytnbleebilmghcab
