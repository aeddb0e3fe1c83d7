/- What plain.Get answers, whatever the world. -/
import Derived.Test.YtmbjghjpofcdpaaPRows
set_option linter.unnecessarySimpa false
set_option linter.unusedSimpArgs false
set_option linter.unusedVariables false
namespace Go.Proofs.Ytmbjghjpofcdpaa
open Go.RowKit
attribute [local go_sem ↓] Go.wp_at_zero Go.wp_at_succ

def worldV (A : Option Addr) (n cap : Nat) (G : Option Addr) (gn gcap : Nat) : Value := .agg #[.slice A n cap, .slice G gn gcap]
def hasI (h p : Int) : Bool := bits .and .i64 h (bitI p) != 0
/-- What Get tells. -/
def getI (R : Nat → RowI) (n : Nat) (i g p : Int) : Int × Bool :=
  if fIx R i g n 0 < 0 then (0, false) else if hasI (R (fIx R i g n 0).toNat).has p then ((R (fIx R i g n 0).toNat).v p.toNat, true) else (0, false)
theorem has_part (h p : Int) (hh : hasI h p = true) : ∃ k : Nat, k < 8 ∧ p = (k : Int) := by
  by_cases hp : partB p = true
  · have := of_decide_eq_true hp
    exact ⟨p.toNat, by omega, by omega⟩
  · exfalso
    have e : bitI p = 0 := by unfold bitI; rw [if_neg]; simpa [partB] using hp
    unfold hasI at hh
    rw [e] at hh
    have e2 : bits .and .i64 h 0 = 0 := by
      have e3 : bits .and .i64 h 0 = IntKind.i64.wrap (((BitVec.ofInt 64 h &&& BitVec.ofInt 64 0).toNat : Nat) : Int) := rfl
      rw [e3]; simp [IntKind.wrap_i64]
    rw [e2] at hh
    simp at hh

structure GW (w : World) (A : Option Addr) (n cap : Nat) (W : World) : Prop where
  bel : Below w.heap.size w W
  r : W.cell? ⟨w.heap.size, 0, none⟩ = some (.slice A n cap)

set_option maxRecDepth 8000 in
set_option maxHeartbeats 1000000 in
theorem get_any (A : Option Addr) (n cap : Nat) (G : Option Addr) (gn gcap : Nat) (R : Nat → RowI) (i g p : Int) (w : World) (hn : n ≤ 9223372036854775807) (hR : RowsAt w A n R) :
    Calls Try.prog 48 #[worldV A n cap G gn gcap, beingV i g, .int .i64 p] w fun e w' => e = .returned (.tuple #[.int .i64 (getI R n i g p).1, .bool (getI R n i g p).2]) ∧ Below w.heap.size w w' := by
  have hb : Below w.heap.size w ((w.alloc (.cells #[.slice A n cap, .slice G gn gcap] 38)).alloc (.cells #[.int .i64 i, .int .i64 g] 40)) := by go_grown
  have HC := hide (find_any A n cap R i g _ hn (hR.below hb))
  have hG : GW w A n cap ((w.alloc (.cells #[.slice A n cap, .slice G gn gcap] 38)).alloc (.cells #[.int .i64 i, .int .i64 g] 40)) := ⟨hb, by simp [go_sem]⟩
  have HG := hide hG
  have HR := hide hR
  clear hb hR hG
  unfold worldV getI
  unfold beingV at *
  rcases fIx_spec R i g n 0 with hf | ⟨k, _, hk, hf, hi⟩
  · rw [hf] at HC
    have e : (if fIx R i g n 0 < 0 then ((0 : Int), false) else if hasI (R (fIx R i g n 0).toNat).has p then ((R (fIx R i g n 0).toNat).v p.toNat, true) else (0, false)) = (0, false) := by rw [if_pos (by omega)]
    rw [e]
    clear e hf
    go_enter Try.func48, Try.ntmps48
    go_wp2_with (first
      | (go_at_call 91; refine (unhide HC).mono ?_; rintro e w5 ⟨rfl, hb5⟩; have HB5 := hide ((unhide HG).bel.trans (hb5.mono (unhide HG).bel.size)); clear hb5))
    go_ret2
    exact ⟨rfl, unhide HB5⟩
  · rw [hf] at HC
    have hkn : k < n := by omega
    have e : (if fIx R i g n 0 < 0 then ((0 : Int), false) else if hasI (R (fIx R i g n 0).toNat).has p then ((R (fIx R i g n 0).toNat).v p.toNat, true) else (0, false)) = if hasI (R k).has p then ((R k).v p.toNat, true) else (0, false) := by
      rw [if_neg (by omega), hf]; rfl
    rw [e]
    clear e
    obtain ⟨b, off, rfl, hrow⟩ := unhide HR k hkn
    have HROW := hide hrow
    have kk0 : (0 : Int) ≤ (k : Int) := by omega
    have kk1 : (k : Int) < (n : Int) := by omega
    have kk2 : ¬ (k : Int) < 0 := by omega
    have HH := hide (fun W => has_any (R k).has p W)
    have HPQ := hide (has_part (R k).has p)
    clear hrow HR hf hi
    unfold hasI at *
    generalize (bits .and .i64 (R k).has (bitI p) != 0) = hb at *
    cases hb
    · go_enter Try.func48, Try.ntmps48
      go_wp2_with (first
        | (go_at_call 91; refine (unhide HC).mono ?_; rintro e w5 ⟨rfl, hb5⟩; have HB5 := hide ((unhide HG).bel.trans (hb5.mono (unhide HG).bel.size)); have r0 := keep_below hb5 (unhide HG).r; have c2 := ((unhide HROW).below (unhide HB5)).c2; clear hb5)
        | (go_at_call 25; refine (unhide HH _).mono ?_; rintro e w6 ⟨rfl, hw⟩; obtain rfl := hw.symm))
      go_ret2
      exact ⟨rfl, unhide HB5⟩
    · obtain ⟨q, hq, rfl⟩ := unhide HPQ rfl
      have qq0 : (0 : Int) ≤ (q : Int) := by omega
      have qq1 : (q : Int) < 8 := by omega
      go_enter Try.func48, Try.ntmps48
      go_wp2_with (first
        | (go_at_call 91; refine (unhide HC).mono ?_; rintro e w5 ⟨rfl, hb5⟩; have HB5 := hide ((unhide HG).bel.trans (hb5.mono (unhide HG).bel.size)); have r0 := keep_below hb5 (unhide HG).r; have c2 := ((unhide HROW).below (unhide HB5)).c2; have cv := ((unhide HROW).below (unhide HB5)).v q hq; clear hb5)
        | (go_at_call 25; refine (unhide HH _).mono ?_; rintro e w6 ⟨rfl, hw⟩; obtain rfl := hw.symm))
      go_ret2
      exact ⟨rfl, unhide HB5⟩
end Go.Proofs.Ytmbjghjpofcdpaa
