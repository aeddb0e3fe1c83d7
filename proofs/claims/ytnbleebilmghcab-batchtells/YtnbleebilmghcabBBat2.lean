/- slices.IndexFunc and ContainsFunc at Make's closure; batch.behind. -/
import Derived.Test.YtnbleebilmghcabBBat1
set_option linter.unnecessarySimpa false
set_option linter.unusedVariables false
set_option linter.unusedSimpArgs false
namespace Go.Proofs.Ytnbleebilmghcab
open Go.RowKit
attribute [local go_sem ↓] Go.wp_at_zero Go.wp_at_succ

/-- The closure answers p, in whatever world comes of this one. -/
def CloAt (w : World) (b1 b7 n : Nat) (p : Nat → Bool) : Prop := ∀ W, Below w.heap.size w W → ∀ o, o < n → Calls Try.prog 50 #[.int .i64 (o : Int), .pointer (some ⟨b1, 0, none⟩), .pointer (some ⟨b7, 0, none⟩)] W fun e w' => e = .returned (.bool (p o)) ∧ Below W.heap.size W w'
theorem CloAt.below {w w1 : World} {b1 b7 n : Nat} {p : Nat → Bool} (h : CloAt w b1 b7 n p) (hb : Below w.heap.size w w1) : CloAt w1 b1 b7 n p := fun W hW o ho => h W (hb.trans (hW.mono hb.size)) o ho
def NumsAt (w : World) (A : Option Addr) (l : List Nat) : Prop := ∀ j, j < l.length → ∃ b off, A = some ⟨b, off, none⟩ ∧ w.cell? ⟨b, off + j, none⟩ = some (.int .i64 ((l.getD j 0 : Nat) : Int))
theorem NumsAt.below {w w1 : World} {A : Option Addr} {l : List Nat} (h : NumsAt w A l) (hb : Below w.heap.size w w1) : NumsAt w1 A l := fun j hj => by
  obtain ⟨b, off, h0, h1⟩ := h j hj
  exact ⟨b, off, h0, keep_below hb h1⟩
theorem getD_mem (l : List Nat) (j : Nat) (h : j < l.length) : l.getD j 0 ∈ l := by
  rw [List.getD_eq_getElem?_getD, List.getElem?_eq_getElem h]; exact List.getElem_mem h
theorem take_any (l : List Nat) (p : Nat → Bool) (j : Nat) (h : j < l.length) : (l.take (j + 1)).any p = ((l.take j).any p || p (l.getD j 0)) := by
  rw [List.take_succ_eq_append_getElem h, List.any_append, List.getD_eq_getElem?_getD, List.getElem?_eq_getElem h]; simp

set_option maxRecDepth 8000 in
set_option maxHeartbeats 1000000 in
theorem indexNum_any (A : Option Addr) (l : List Nat) (cap n b1 b7 : Nat) (p : Nat → Bool) (w : World) (hl : l.length ≤ 140737488355328) (hn : ∀ x ∈ l, x < n) (hA : NumsAt w A l) (hc : CloAt w b1 b7 n p) :
    Calls Try.prog 98 #[.slice A l.length cap, .func (.func 50) #[] #[.pointer (some ⟨b1, 0, none⟩), .pointer (some ⟨b7, 0, none⟩)]] w fun e w' => ∃ r : Int, e = .returned (.int .i64 r) ∧ decide (0 ≤ r) = l.any p ∧ Below w.heap.size w w' := by
  have HA := hide hA
  have HK := hide hc
  have HM := hide hn
  clear hA hc hn
  go_enter Try.func98, Try.ntmps98
  go_wp2
  go_loopw [8] (fun x wr => ∃ j : Nat, j ≤ l.length ∧ x = .int .i64 j ∧ (l.take j).any p = false ∧ Below w.heap.size w wr) (fun x _ => l.length - (intOf x).toNat)
  case atStart => exact ⟨0, Nat.zero_le _, rfl, rfl, Below.refl _ _⟩
  case round =>
    obtain ⟨j, hj, rfl, hF, hbr⟩ := hrel
    have HF := hide hF
    clear hF
    by_cases hlt : j < l.length
    · have j0 : (0 : Int) ≤ (j : Int) := by omega
      have j1 : (j : Int) < (l.length : Int) := by omega
      obtain ⟨b, off, rfl, hcell⟩ := unhide HA j hlt
      have hcell := keep_below hbr hcell
      have HT := hide (take_any l p j hlt)
      have HME := hide (getD_mem l j hlt)
      have hC := unhide HK wr hbr (l.getD j 0) (unhide HM _ (getD_mem l j hlt))
      have HP : Hid (∀ q, p (l.getD j 0) = q → (p (l.getD j 0)) = q) := fun _ h => h
      have HBR := hide hbr
      have HC := hide hC
      clear hC hbr HK HA HM
      generalize hx : l.getD j 0 = x at *
      clear hx HP
      generalize hpx : p x = px at *
      have HPX := hide hpx
      clear hpx
      cases px
      all_goals
        go_wp2_with (first
          | (go_at_call 50; refine (unhide HC).mono ?_; rintro e w5 ⟨rfl, hb5⟩; have HB5 := hide ((unhide HBR).trans (hb5.mono (unhide HBR).size)); clear hb5))
        first
        | (go_ret
           refine ⟨(j : Int), rfl, ?_, unhide HB5⟩
           have ha : l.any p = true := List.any_eq_true.2 ⟨x, unhide HME, unhide HPX⟩
           rw [ha]; simp)
        | (go_roundw
           case rel => exact ⟨j + 1, by omega, by go_num, by rw [unhide HT, unhide HF]; rfl, unhide HB5⟩
           case measure => simp [intOf]; omega)
    · obtain rfl : j = l.length := by omega
      have ha : l.any p = false := by simpa using unhide HF
      have HB := hide hbr
      have HAN := hide ha
      clear hbr HA HK HM ha HF
      go_wp2
      go_ret
      refine ⟨-1, rfl, ?_, unhide HB⟩
      rw [unhide HAN]; rfl

set_option maxRecDepth 8000 in
set_option maxHeartbeats 400000 in
theorem containsNum_any (A : Option Addr) (l : List Nat) (cap n b1 b7 : Nat) (p : Nat → Bool) (w : World) (hl : l.length ≤ 140737488355328) (hn : ∀ x ∈ l, x < n) (hA : NumsAt w A l) (hc : CloAt w b1 b7 n p) :
    Calls Try.prog 75 #[.slice A l.length cap, .func (.func 50) #[] #[.pointer (some ⟨b1, 0, none⟩), .pointer (some ⟨b7, 0, none⟩)]] w fun e w' => e = .returned (.bool (l.any p)) ∧ Below w.heap.size w w' := by
  have HC := hide (indexNum_any A l cap n b1 b7 p w hl hn hA hc)
  clear hn hA hc
  go_enter Try.func75, Try.ntmps75
  go_wp2_with (first
    | (go_at_call 98; refine (unhide HC).mono ?_; rintro e w5 ⟨r, rfl, hr, hb5⟩; have HB5 := hide hb5; have HR := hide hr; clear hb5 hr))
  all_goals
    go_ret
    refine ⟨?_, unhide HB5⟩
    rw [← unhide HR]
    simp [*]

/-- The batches lie in memory. -/
def BatsAt (w : World) (B : Option Addr) (bs : List (List Nat)) : Prop := ∀ k, k < bs.length → ∃ b off A cap, B = some ⟨b, off, none⟩ ∧ w.cell? ⟨b, off + k, none⟩ = some (.slice A (bs.getD k []).length cap) ∧ NumsAt w A (bs.getD k [])
theorem BatsAt.below {w w1 : World} {B : Option Addr} {bs : List (List Nat)} (h : BatsAt w B bs) (hb : Below w.heap.size w w1) : BatsAt w1 B bs := fun k hk => by
  obtain ⟨b, off, A, cap, h0, h1, h2⟩ := h k hk
  exact ⟨b, off, A, cap, h0, keep_below hb h1, h2.below hb⟩
theorem bhd_step (p : Nat → Bool) (B : List (List Nat)) (a : Nat) : bhd p B (a + 1) = if (B.getD a []).any p then a + 1 else bhd p B a := rfl

set_option maxRecDepth 8000 in
set_option maxHeartbeats 1000000 in
theorem behind_any (B : Option Addr) (bs : List (List Nat)) (cap n b1 b7 : Nat) (p : Nat → Bool) (w : World) (hl : bs.length ≤ 100) (hl2 : ∀ k, k < bs.length → (bs.getD k []).length ≤ 100) (hn : ∀ k, k < bs.length → ∀ x ∈ bs.getD k [], x < n) (hB : BatsAt w B bs) (hc : CloAt w b1 b7 n p) :
    Calls Try.prog 51 #[.slice B bs.length cap, .func (.func 50) #[] #[.pointer (some ⟨b1, 0, none⟩), .pointer (some ⟨b7, 0, none⟩)]] w fun e w' => e = .returned (.int .i64 (bhd p bs bs.length : Nat)) ∧ Below w.heap.size w w' := by
  have HBT := hide hB
  have HK := hide hc
  have HM := hide hn
  have HL2 := hide hl2
  clear hB hc hn hl2
  go_enter Try.func51, Try.ntmps51
  go_wp2
  go_loopw [5] (fun x wr => ∃ a : Nat, a ≤ bs.length ∧ x = .int .i64 a ∧ bhd p bs bs.length = bhd p bs a ∧ Below w.heap.size w wr) (fun x _ => (intOf x).toNat)
  case atStart => exact ⟨bs.length, Nat.le_refl _, rfl, rfl, Below.refl _ _⟩
  case round =>
    obtain ⟨a, ha, rfl, hF, hbr⟩ := hrel
    have HF := hide hF
    clear hF
    cases a with
    | zero =>
      have hv : bhd p bs bs.length = 0 := unhide HF
      have HB := hide hbr
      have HV := hide hv
      clear hbr hv HBT HK HM HF
      go_wp2
      go_ret
      exact ⟨by rw [unhide HV]; rfl, unhide HB⟩
    | succ a =>
      have a0 : (0 : Int) ≤ (a : Int) := by omega
      have a1 : (a : Int) < (bs.length : Int) := by omega
      have a2 : (0 : Int) < (a : Int) + 1 := by omega
      obtain ⟨b, off, A, cap', rfl, hcell, hnums⟩ := unhide HBT a (by omega)
      have hcell := keep_below hbr hcell
      have HC := hide (containsNum_any A (bs.getD a []) cap' n b1 b7 p wr (by have := unhide HL2 a (by omega); omega) (unhide HM a (by omega)) (hnums.below hbr) ((unhide HK).below hbr))
      have HS := hide (bhd_step p bs a)
      have HBR := hide hbr
      clear hbr HK HBT HM hnums HL2
      generalize (bs.getD a []).any p = any at *
      generalize (bs.getD a []).length = len at *
      cases any
      all_goals
        go_wp2_with (first
          | (go_at_call 75; refine (unhide HC).mono ?_; rintro e w5 ⟨rfl, hb5⟩; have HB5 := hide ((unhide HBR).trans (hb5.mono (unhide HBR).size)); clear hb5))
        first
        | (go_ret
           exact ⟨by rw [unhide HF, unhide HS]; simp, unhide HB5⟩)
        | (go_roundw
           case rel => exact ⟨a, by omega, by go_num, (unhide HF).trans ((unhide HS).trans (by simp)), unhide HB5⟩
           case measure => simp [intOf])
end Go.Proofs.Ytnbleebilmghcab
