/- plain.Wrong, whatever the world. -/
import Derived.Test.YtmbjghjpofcdpaaPWrong
set_option linter.unnecessarySimpa false
set_option linter.unusedSimpArgs false
set_option linter.unusedVariables false
namespace Go.Proofs.Ytmbjghjpofcdpaa
open Go.RowKit
attribute [local go_sem ↓] Go.wp_at_zero Go.wp_at_succ

def gTo (f : Nat → Int) (r : Int × Int) : Nat → Nat → Int × Int
  | 0, _ => r
  | m + 1, j => if f j < 1 ∨ 1000 < f j then (3, (j : Int)) else gTo f r m (j + 1)
def rTo (R : Nat → RowI) (gn : Nat) (f : Nat → Int) : Nat → Nat → Int × Int
  | 0, _ => (0, 0)
  | m + 1, j => if wrowI R gn f j = 0 then rTo R gn f m (j + 1) else (wrowI R gn f j, (j : Int))
/-- What plain.Wrong tells. -/
def plainF (R : Nat → RowI) (n gn : Nat) (f : Nat → Int) : Int × Int := if 60 < gn then (4, 0) else gTo f (rTo R gn f n 0) gn 0
def faultP (x : Int × Int) : Value := .agg #[.int .i64 x.1, .int .i64 x.2]
theorem gTo_step (f : Nat → Int) (r : Int × Int) (n j : Nat) (h : j < n) : gTo f r (n - j) j = if f j < 1 ∨ 1000 < f j then (3, (j : Int)) else gTo f r (n - (j + 1)) (j + 1) := by
  rw [show n - j = (n - (j + 1)) + 1 by omega, gTo]
theorem rTo_step (R : Nat → RowI) (gn : Nat) (f : Nat → Int) (n j : Nat) (h : j < n) : rTo R gn f (n - j) j = if wrowI R gn f j = 0 then rTo R gn f (n - (j + 1)) (j + 1) else (wrowI R gn f j, (j : Int)) := by
  rw [show n - j = (n - (j + 1)) + 1 by omega, rTo]

structure VB (w : World) (A : Option Addr) (n cap : Nat) (G : Option Addr) (gn gcap : Nat) (W : World) : Prop where
  bel : Below w.heap.size w W
  r0 : W.cell? ⟨w.heap.size, 0, none⟩ = some (.slice A n cap)
  r1 : W.cell? ⟨w.heap.size, 1, none⟩ = some (.slice G gn gcap)
  t0 : W.cell? ⟨w.heap.size + 1, 0, none⟩ = some (.int .i64 0)
  t1 : W.cell? ⟨w.heap.size + 1, 1, none⟩ = some (.int .i64 0)
  f : ∀ i, W.frozen? ⟨w.heap.size + 1, i, none⟩ = false
theorem VB.below {w : World} {A : Option Addr} {n cap : Nat} {G : Option Addr} {gn gcap : Nat} {W W1 : World} (h : VB w A n cap G gn gcap W) (hb : Below W.heap.size W W1) : VB w A n cap G gn gcap W1 := by
  have z := World.block_lt_of_cell? W _ h.t0
  exact ⟨h.bel.trans (hb.mono h.bel.size), keep_below hb h.r0, keep_below hb h.r1, keep_below hb h.t0, keep_below hb h.t1, fun i => (hb.frozen (p := ⟨w.heap.size + 1, i, none⟩) z).trans (h.f i)⟩
theorem VB.start (w : World) (A : Option Addr) (n cap : Nat) (G : Option Addr) (gn gcap : Nat) : VB w A n cap G gn gcap ((w.alloc (.cells #[.slice A n cap, .slice G gn gcap] 38)).alloc (.cells #[.int .i64 0, .int .i64 0] 43)) := by
  obtain ⟨w1, h1⟩ : ∃ W, W = w.alloc (.cells #[.slice A n cap, .slice G gn gcap] 38) := ⟨_, rfl⟩
  have z1 : w1.heap.size = w.heap.size + 1 := by rw [h1]; simp
  have b1 : Below w.heap.size w w1 := by rw [h1]; exact (Below.refl _ _).alloc (Nat.le_refl _) _
  have e0 : w1.cell? ⟨w.heap.size, 0, none⟩ = some (.slice A n cap) := by rw [h1]; simp
  have e1 : w1.cell? ⟨w.heap.size, 1, none⟩ = some (.slice G gn gcap) := by rw [h1]; simp
  rw [← h1]
  clear h1
  have b2 : Below w1.heap.size w1 (w1.alloc (.cells #[.int .i64 0, .int .i64 0] 43)) := (Below.refl _ _).alloc (Nat.le_refl _) _
  refine ⟨b1.trans (b2.mono b1.size), keep_below b2 e0, keep_below b2 e1, ?_, ?_, fun i => ?_⟩ <;> rw [← z1] <;> simp [go_sem]

set_option maxRecDepth 8000 in
set_option maxHeartbeats 2000000 in
theorem pwrong_any (A : Option Addr) (n cap : Nat) (G : Option Addr) (gn gcap : Nat) (R : Nat → RowI) (f : Nat → Int) (w : World) (hn : n ≤ 9223372036854775807) (hR : RowsAt w A n R) (hG : IntsAt w G gn f) :
    Calls Try.prog 34 #[worldV A n cap G gn gcap] w fun e w' => e = .returned (faultP (plainF R n gn f)) ∧ Below w.heap.size w w' := by
  have hV := VB.start w A n cap G gn gcap
  have HV := hide hV
  have HRW := hide (fun (W : World) (hb : Below w.heap.size w W) (j : Nat) (hj : j < n) => wrongRow_any A n cap G gn gcap R f j W hj hn (hR.below hb) (hG.below hb))
  have HG := hide hG
  clear hV hR hG
  unfold plainF
  unfold worldV at *
  by_cases hg : 60 < gn
  · have hg' : (60 : Int) < (gn : Int) := by omega
    simp only [hg, if_true]
    go_enter Try.func34, Try.ntmps34
    go_wp2
    refine bodyPost_ret (v := faultP (4, 0)) (by simp [results, Try.results34, go_sem, faultP]) rfl ⟨rfl, ?_⟩
    go_grown
  · have hg' : ¬ (60 : Int) < (gn : Int) := by omega
    simp only [hg, if_false]
    go_enter Try.func34, Try.ntmps34
    go_wp2
    obtain ⟨W, hW⟩ : ∃ W, W = (w.alloc (.cells #[.slice A n cap, .slice G gn gcap] 38)).alloc (.cells #[.int .i64 0, .int .i64 0] 43) := ⟨_, rfl⟩
    have hV := unhide HV
    rw [← hW] at hV ⊢
    clear hW HV
    have HV := hide hV
    clear hV
    go_loop [15] (fun i => ∃ j : Nat, j ≤ gn ∧ i = .int .i64 j ∧ gTo f (rTo R gn f n 0) gn 0 = gTo f (rTo R gn f n 0) (gn - j) j) (fun i => gn - (intOf i).toNat)
    case atStart => exact ⟨0, Nat.zero_le _, rfl, rfl⟩
    case round =>
      obtain ⟨j, hj, rfl, hF⟩ := hrel
      have HF := hide hF
      clear hF
      by_cases hlt : j < gn
      · have j0 : (0 : Int) ≤ (j : Int) := by omega
        have j1 : (j : Int) < (gn : Int) := by omega
        obtain ⟨b, off, rfl, cg⟩ := unhide HG j hlt
        have cg := keep_below (unhide HV).bel cg
        have HS := hide (gTo_step f (rTo R gn f n 0) gn j hlt)
        clear HG HRW
        generalize f j = fj at *
        have hc : fj < 1 ∨ (¬ fj < 1 ∧ 1000 < fj) ∨ (¬ fj < 1 ∧ ¬ 1000 < fj) := by omega
        rcases hc with h1 | ⟨h1, h2⟩ | ⟨h1, h2⟩
        · have t0 := (unhide HV).t0
          have t1 := (unhide HV).t1
          have f0 := (unhide HV).f 0
          have f1 := (unhide HV).f 1
          go_wp2
          have hv := (unhide HF).trans ((unhide HS).trans (if_pos (.inl h1)))
          refine bodyPost_ret (v := faultP (3, (j : Int))) (by simp [results, Try.results34, go_sem, faultP, t0, t1]) rfl ⟨by rw [hv], ?_⟩
          exact below_setCells (w.heap.size + 1) (by omega) [.int .i64 3, .int .i64 (j : Int)] 0 W (unhide HV).bel
        · have t0 := (unhide HV).t0
          have t1 := (unhide HV).t1
          have f0 := (unhide HV).f 0
          have f1 := (unhide HV).f 1
          go_wp2
          have hv := (unhide HF).trans ((unhide HS).trans (if_pos (.inr h2)))
          refine bodyPost_ret (v := faultP (3, (j : Int))) (by simp [results, Try.results34, go_sem, faultP, t0, t1]) rfl ⟨by rw [hv], ?_⟩
          exact below_setCells (w.heap.size + 1) (by omega) [.int .i64 3, .int .i64 (j : Int)] 0 W (unhide HV).bel
        · go_wp2
          go_round
          case rel => exact ⟨j + 1, by omega, by go_num, (unhide HF).trans ((unhide HS).trans (if_neg (by omega)))⟩
          case measure => simp [intOf]; omega
      · obtain rfl : j = gn := by omega
        have hv : gTo f (rTo R j f n 0) j 0 = rTo R j f n 0 := by rw [unhide HF, Nat.sub_self]; rfl
        have HVV := hide hv
        have r0 := (unhide HV).r0
        have r1 := (unhide HV).r1
        clear HG hv HF
        go_wp2
        go_loopw [32] (fun i wr => ∃ k : Nat, k ≤ n ∧ i = .int .i64 k ∧ rTo R j f n 0 = rTo R j f (n - k) k ∧ VB w A n cap G j gcap wr) (fun i _ => n - (intOf i).toNat)
        case atStart => exact ⟨0, Nat.zero_le _, rfl, rfl, unhide HV⟩
        case round =>
          clear HV r0 r1
          obtain ⟨k, hk, rfl, hF, hN⟩ := hrel
          have HF := hide hF
          clear hF
          by_cases hlt2 : k < n
          · have k0 : (0 : Int) ≤ (k : Int) := by omega
            have k1 : (k : Int) < (n : Int) := by omega
            have HC := hide (unhide HRW wr hN.bel k hlt2)
            have HS := hide (rTo_step R j f n k hlt2)
            have r0 := hN.r0
            have r1 := hN.r1
            have HN := hide hN
            clear hN HRW
            generalize wrowI R j f k = ej at *
            by_cases he : ej = 0
            · subst he
              go_wp2_with (first
                | (go_at_call 80; refine (unhide HC).mono ?_; rintro e w5 ⟨rfl, hb5⟩; have HN5 := hide ((unhide HN).below hb5); clear hb5))
              go_roundw
              case rel => exact ⟨k + 1, by omega, by go_num, (unhide HF).trans ((unhide HS).trans (by simp)), unhide HN5⟩
              case measure => simp [intOf]; omega
            · go_wp2_with (first
                | (go_at_call 80; refine (unhide HC).mono ?_; rintro e w5 ⟨rfl, hb5⟩; have hN5 := (unhide HN).below hb5; have t0 := hN5.t0; have t1 := hN5.t1; have f0 := hN5.f 0; have f1 := hN5.f 1; clear hb5))
              have hv := (unhide HVV).trans ((unhide HF).trans ((unhide HS).trans (if_neg he)))
              refine bodyPost_ret (v := faultP (ej, (k : Int))) (by simp [results, Try.results34, go_sem, faultP, t0, t1]) rfl ⟨by rw [hv], ?_⟩
              exact below_setCells (w.heap.size + 1) (by omega) [.int .i64 ej, .int .i64 (k : Int)] 0 w5 hN5.bel
          · obtain rfl : k = n := by omega
            have hv : gTo f (rTo R j f k 0) j 0 = (0, 0) := by rw [unhide HVV, unhide HF, Nat.sub_self]; rfl
            have t0 := hN.t0
            have t1 := hN.t1
            have f0 := hN.f 0
            have f1 := hN.f 1
            have HB := hide hN.bel
            clear hN HRW
            go_wp2
            refine bodyPost_ret (v := faultP (0, 0)) (by simp [results, Try.results34, go_sem, faultP, t0, t1]) rfl ⟨by rw [hv], ?_⟩
            exact below_setCells (w.heap.size + 1) (by omega) [.int .i64 0, .int .i64 0] 0 wr (unhide HB)
end Go.Proofs.Ytmbjghjpofcdpaa
