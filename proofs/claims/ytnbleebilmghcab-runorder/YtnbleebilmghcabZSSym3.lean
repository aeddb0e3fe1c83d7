/- slices.symMergeCmpFunc over rows. -/
import Derived.Test.YtnbleebilmghcabZSSym2
set_option linter.all false
namespace Go.Proofs.Ytnbleebilmghcab
open Go Go.RowKit
attribute [local go_sem ↓] Go.wp_at_zero Go.wp_at_succ
set_option maxRecDepth 8000 in
set_option maxHeartbeats 16000000 in
theorem sym_lo (g cap n d a m b : Nat) (R : Nat → RowI) (s : Nat → Nat) (W0 : World) (hn : n ≤ 1000) (IH : ∀ (a m b : Nat) (s : Nat → Nat) (W0 : World), b - a ≤ d → a < m → m < b → b ≤ n → DL g cap W0 (plst R s n) W0 → Halves (fun p => (R p).ix) s a m b → Calls Try.prog 111 #[.slice (some ⟨g, 0, none⟩) n cap, .int .i64 (a : Int), .int .i64 (m : Int), .int .i64 (b : Int), cmpV] W0 fun e w' => e = .returned (.tuple #[]) ∧ ∃ t, DL g cap W0 (plst R t n) w' ∧ SP s t a b ∧ Srt (fun p => (R p).ix) t a b)
    (hd : b - a ≤ d + 1) (am1 : a + 1 < m) (mb1 : m + 1 < b) (hbn : b ≤ n) (h : DL g cap W0 (plst R s n) W0) (hH : Halves (fun p => (R p).ix) s a m b) (mid : Nat) (hmid : mid = (a + b) / 2) (hmm : ¬ mid < m) :
    Calls Try.prog 111 #[.slice (some ⟨g, 0, none⟩) n cap, .int .i64 (a : Int), .int .i64 (m : Int), .int .i64 (b : Int), cmpV] W0 fun e w' => e = .returned (.tuple #[]) ∧ ∃ t, DL g cap W0 (plst R t n) w' ∧ SP s t a b ∧ Srt (fun p => (R p).ix) t a b := by
  have am : a < m := by omega
  have mb : m < b := by omega
  obtain ⟨q, hq⟩ : ∃ q : Nat, (mid : Int) + (m : Int) = (q : Int) := ⟨mid + m, by omega⟩
  have hmi : ((a : Int) + (b : Int)) / 2 = (mid : Int) := by omega
  have d1 : ¬ (m : Int) - (a : Int) = 1 := by omega
  have d2 : ¬ (b : Int) - (m : Int) = 1 := by omega
  obtain ⟨lo, hlo⟩ : ∃ lo : Nat, lo = a := ⟨_, rfl⟩
  obtain ⟨hi, hhi⟩ : ∃ hi : Nat, hi = m := ⟨_, rfl⟩
  have HF : Hid (q = mid + m ∧ a ≤ lo ∧ q ≤ b + lo ∧ hi ≤ m ∧ hi ≤ mid ∧ (lo = a ∨ q = b + lo) ∧ (hi = m ∨ hi = mid)) := hide (by omega)
  have HLH : Hid (lo ≤ hi) := hide (by omega)
  have HMID := hide hmid
  have HIH := hide IH
  have H := hide h
  have HH := hide hH
  have HLO := hide hlo
  have HHI := hide hhi
  have g1 : decide ((mid : Int) < (m : Int)) = false := by simp; omega
  have g2 : decide (mid < m) = false := by simp; omega
  clear IH h hH hmid hlo hhi
  go_enter Try.func111, Try.ntmps111
  go_wp2
  go_loopw [20, 21] (fun t u wr => ∃ (st r : Nat), t = .int .i64 (st : Int) ∧ u = .int .i64 (r : Int) ∧ lo ≤ st ∧ st ≤ r ∧ r ≤ hi ∧ DL g cap W0 (plst R s n) wr ∧ (st = lo ∨ ¬ (R (s (q - st))).ix < (R (s (st - 1))).ix) ∧ (r = hi ∨ (R (s (q - r - 1))).ix < (R (s r)).ix)) (fun t u _ => (intOf u).toNat - (intOf t).toNat)
  case atStart => exact ⟨lo, hi, by rw [unhide HLO], by rw [unhide HHI], Nat.le_refl _, unhide HLH, Nat.le_refl _, unhide H, .inl rfl, .inl rfl⟩
  case round =>
    clear H
    obtain ⟨st, r, rfl, rfl, hst, hsr, hrh, hDL, hbe, hab⟩ := hrel
    obtain ⟨f1, f2, f3, f4, f5, f6, f7⟩ := unhide HF
    by_cases hlt : st < r
    · have i1 : (st : Int) < (r : Int) := by omega
      have h0 : DL g cap W0 (plst R s n) wr.drew := hDL.below ((Below.refl _ _).drew)
      obtain ⟨c, hc⟩ : ∃ c : Nat, ((st : Int) + (r : Int)) / 2 = (c : Int) := ⟨(st + r) / 2, by omega⟩
      obtain ⟨x, hx⟩ : ∃ x : Nat, x = q - 1 - c := ⟨_, rfl⟩
      have c0 : (0 : Int) ≤ (c : Int) := by omega
      have c1 : (c : Int) < (n : Int) := by omega
      have x0 : (0 : Int) ≤ (x : Int) := by omega
      have x1 : (x : Int) < (n : Int) := by omega
      have hwx : IntKind.i64.wrap ((q : Int) - 1 - (c : Int)) = (x : Int) := by rw [i64_id (by omega) (by omega)]; omega
      have HCC : Hid (st ≤ c ∧ c < r) := hide (by omega)
      have HXX := hide hx
      have HBE := hide hbe
      have HAB := hide hab
      clear hDL hbe hab hx f1 f2 f3 f4 f5 f6 f7
      by_cases hcmp : (R (s x)).ix < (R (s c)).ix
      · have HCM := hide hcmp
        go_wp2
        refine wp_region_gen (fun ix v => (([fun v => v = cmpV, fun v => v = .slice (some ⟨g, 0, none⟩) n cap, fun v => v = .int .i64 ((q : Int) - 1), fun v => v = .int .i64 (c : Int), fun v => v = .int .i64 (x : Int), fun v => v = .pointer (some ⟨g, x * 11, none⟩), fun v => v = rowV (R (s x)), fun v => v = .slice (some ⟨g, 0, none⟩) n cap, fun v => v = .int .i64 (c : Int), fun v => v = .pointer (some ⟨g, c * 11, none⟩), fun v => v = rowV (R (s c)), fun v => v = .int .i64 (cmpI (R (s x)).ix (R (s c)).ix), fun v => v = .bool true, fun v => v = .bool false] : List (Value → Prop)).getD ix (fun _ => True)) v) (fun _ W => DL g cap W0 (plst R s n) W) (by kernel_rfl) (by kernel_rfl) (by kernel_rfl) h0 ?hstep ?hend
        case hstep =>
          intro ix o ho L ac w1 hD hL hed hcl hout hv
          match ix, ho with
          | 0, ho =>
            simp at ho
            subst ho
            have e4 : ac.tmps.getD 4 undef = cmpV := hout 4 (by decide +kernel)
            exact .inl ⟨rfl, gen_reads (cmpV) (by simp [go_sem, Act.eval, -Array.getD_eq_getD_getElem?, e4]) rfl (hD)⟩
          | 1, ho =>
            simp at ho
            subst ho
            have e0 : ac.tmps.getD 0 undef = .slice (some ⟨g, 0, none⟩) n cap := hout 0 (by decide +kernel)
            exact .inl ⟨rfl, gen_reads (.slice (some ⟨g, 0, none⟩) n cap) (by simp [go_sem, Act.eval, -Array.getD_eq_getD_getElem?, e0]) rfl (hD)⟩
          | 2, ho =>
            simp at ho
            subst ho
            have e22 : ac.tmps.getD 22 undef = .int .i64 ((q : Int) - 1) := hout 22 (by decide +kernel)
            exact .inl ⟨rfl, gen_reads (.int .i64 ((q : Int) - 1)) (by simp [go_sem, Act.eval, -Array.getD_eq_getD_getElem?, e22]) rfl (hD)⟩
          | 3, ho =>
            simp at ho
            subst ho
            have e23 : ac.tmps.getD 23 undef = .int .i64 (c : Int) := hout 23 (by decide +kernel)
            exact .inl ⟨rfl, gen_reads (.int .i64 (c : Int)) (by simp [go_sem, Act.eval, -Array.getD_eq_getD_getElem?, e23]) rfl (hD)⟩
          | 4, ho =>
            simp at ho
            subst ho
            have e160 : ac.tmps.getD 160 undef = .int .i64 ((q : Int) - 1) := hv 2 160 rfl (by kernel_rfl)
            have e161 : ac.tmps.getD 161 undef = .int .i64 (c : Int) := hv 3 161 rfl (by kernel_rfl)
            exact .inl ⟨rfl, gen_reads (.int .i64 (x : Int)) (by simp [go_sem, Act.eval, -Array.getD_eq_getD_getElem?, e160, e161, hwx]) rfl (hD)⟩
          | 5, ho =>
            simp at ho
            subst ho
            have e159 : ac.tmps.getD 159 undef = .slice (some ⟨g, 0, none⟩) n cap := hv 1 159 rfl (by kernel_rfl)
            have e162 : ac.tmps.getD 162 undef = .int .i64 (x : Int) := hv 4 162 rfl (by kernel_rfl)
            exact .inl ⟨rfl, gen_reads (.pointer (some ⟨g, x * 11, none⟩)) (by simp [go_sem, Act.eval, -Array.getD_eq_getD_getElem?, e159, e162, x0, x1]) rfl (hD)⟩
          | 6, ho =>
            simp at ho
            subst ho
            have e163 : ac.tmps.getD 163 undef = .pointer (some ⟨g, x * 11, none⟩) := hv 5 163 rfl (by kernel_rfl)
            obtain ⟨c0, c1, c2, c3, c4, c5, c6, c7, c8, c9, c10⟩ := rowAt_all (hD.row x (by rw [plst_len]; omega))
            rw [plst_get R s n x (by omega)] at c0 c1 c2 c3 c4 c5 c6 c7 c8 c9 c10
            exact .inl ⟨rfl, gen_reads (rowV (R (s x))) (by simp [go_sem, Act.eval, -Array.getD_eq_getD_getElem?, e163, c0, c1, c2, c3, c4, c5, c6, c7, c8, c9, c10, rowV]) rfl (hD)⟩
          | 7, ho =>
            simp at ho
            subst ho
            have e0 : ac.tmps.getD 0 undef = .slice (some ⟨g, 0, none⟩) n cap := hout 0 (by decide +kernel)
            exact .inl ⟨rfl, gen_reads (.slice (some ⟨g, 0, none⟩) n cap) (by simp [go_sem, Act.eval, -Array.getD_eq_getD_getElem?, e0]) rfl (hD)⟩
          | 8, ho =>
            simp at ho
            subst ho
            have e23 : ac.tmps.getD 23 undef = .int .i64 (c : Int) := hout 23 (by decide +kernel)
            exact .inl ⟨rfl, gen_reads (.int .i64 (c : Int)) (by simp [go_sem, Act.eval, -Array.getD_eq_getD_getElem?, e23]) rfl (hD)⟩
          | 9, ho =>
            simp at ho
            subst ho
            have e165 : ac.tmps.getD 165 undef = .slice (some ⟨g, 0, none⟩) n cap := hv 7 165 rfl (by kernel_rfl)
            have e166 : ac.tmps.getD 166 undef = .int .i64 (c : Int) := hv 8 166 rfl (by kernel_rfl)
            exact .inl ⟨rfl, gen_reads (.pointer (some ⟨g, c * 11, none⟩)) (by simp [go_sem, Act.eval, -Array.getD_eq_getD_getElem?, e165, e166, c0, c1]) rfl (hD)⟩
          | 10, ho =>
            simp at ho
            subst ho
            have e167 : ac.tmps.getD 167 undef = .pointer (some ⟨g, c * 11, none⟩) := hv 9 167 rfl (by kernel_rfl)
            obtain ⟨c0, c1, c2, c3, c4, c5, c6, c7, c8, c9, c10⟩ := rowAt_all (hD.row c (by rw [plst_len]; omega))
            rw [plst_get R s n c (by omega)] at c0 c1 c2 c3 c4 c5 c6 c7 c8 c9 c10
            exact .inl ⟨rfl, gen_reads (rowV (R (s c))) (by simp [go_sem, Act.eval, -Array.getD_eq_getD_getElem?, e167, c0, c1, c2, c3, c4, c5, c6, c7, c8, c9, c10, rowV]) rfl (hD)⟩
          | 11, ho =>
            simp at ho
            subst ho
            have e158 : ac.tmps.getD 158 undef = cmpV := hv 0 158 rfl (by kernel_rfl)
            have e164 : ac.tmps.getD 164 undef = rowV (R (s x)) := hv 6 164 rfl (by kernel_rfl)
            have e168 : ac.tmps.getD 168 undef = rowV (R (s c)) := hv 10 168 rfl (by kernel_rfl)
            refine .inl ⟨rfl, gen_enters 71 #[rowV (R (s x)), rowV (R (s c))] (by simp [go_sem, Act.eval, -Array.getD_eq_getD_getElem?, cmpV, e158, e164, e168]) ?_⟩
            refine (cmprow_any _ _ _).mono ?_
            rintro e w2 ⟨rfl, hb2⟩
            exact ⟨_, rfl, rfl, hD.below hb2⟩
          | 12, ho =>
            simp at ho
            subst ho
            have e169 : ac.tmps.getD 169 undef = .int .i64 (cmpI (R (s x)).ix (R (s c)).ix) := hv 11 169 rfl (by kernel_rfl)
            exact .inl ⟨rfl, gen_reads (.bool true) (by simp [go_sem, Act.eval, -Array.getD_eq_getD_getElem?, e169, cmpI_neg, hcmp]) rfl (hD)⟩
          | 13, ho =>
            simp at ho
            subst ho
            have e170 : ac.tmps.getD 170 undef = .bool true := hv 12 170 rfl (by kernel_rfl)
            exact .inl ⟨rfl, gen_reads (.bool false) (by simp [go_sem, Act.eval, -Array.getD_eq_getD_getElem?, e170]) rfl (hD)⟩
          | ix + 14, ho => simp at ho
        case hend =>
          intro v L w1 hD hall hv
          have h13 : v 13 = .bool false := hv 13 171 rfl
          have HE := hide hD
          clear hv hall hD h0
          simp only [putOps, List.getElem?_cons_zero, List.getElem?_cons_succ, Option.bind_some, List.length_cons, List.length_nil, Nat.reduceAdd, h13]
          clear h13 hc hwx
          go_frame
          go_wp2
          go_roundw
          case rel =>
            obtain ⟨q1, q2⟩ := unhide HCC
            have q3 := unhide HCM
            rw [unhide HXX, show q - 1 - c = q - c - 1 by omega] at q3
            exact ⟨st, rfl, c, rfl, hst, q1, by omega, unhide HE, unhide HBE, .inr q3⟩
          case measure => have := unhide HCC; simp [intOf]; omega
      · have HCM := hide hcmp
        go_wp2
        refine wp_region_gen (fun ix v => (([fun v => v = cmpV, fun v => v = .slice (some ⟨g, 0, none⟩) n cap, fun v => v = .int .i64 ((q : Int) - 1), fun v => v = .int .i64 (c : Int), fun v => v = .int .i64 (x : Int), fun v => v = .pointer (some ⟨g, x * 11, none⟩), fun v => v = rowV (R (s x)), fun v => v = .slice (some ⟨g, 0, none⟩) n cap, fun v => v = .int .i64 (c : Int), fun v => v = .pointer (some ⟨g, c * 11, none⟩), fun v => v = rowV (R (s c)), fun v => v = .int .i64 (cmpI (R (s x)).ix (R (s c)).ix), fun v => v = .bool false, fun v => v = .bool true] : List (Value → Prop)).getD ix (fun _ => True)) v) (fun _ W => DL g cap W0 (plst R s n) W) (by kernel_rfl) (by kernel_rfl) (by kernel_rfl) h0 ?hstep ?hend
        case hstep =>
          intro ix o ho L ac w1 hD hL hed hcl hout hv
          match ix, ho with
          | 0, ho =>
            simp at ho
            subst ho
            have e4 : ac.tmps.getD 4 undef = cmpV := hout 4 (by decide +kernel)
            exact .inl ⟨rfl, gen_reads (cmpV) (by simp [go_sem, Act.eval, -Array.getD_eq_getD_getElem?, e4]) rfl (hD)⟩
          | 1, ho =>
            simp at ho
            subst ho
            have e0 : ac.tmps.getD 0 undef = .slice (some ⟨g, 0, none⟩) n cap := hout 0 (by decide +kernel)
            exact .inl ⟨rfl, gen_reads (.slice (some ⟨g, 0, none⟩) n cap) (by simp [go_sem, Act.eval, -Array.getD_eq_getD_getElem?, e0]) rfl (hD)⟩
          | 2, ho =>
            simp at ho
            subst ho
            have e22 : ac.tmps.getD 22 undef = .int .i64 ((q : Int) - 1) := hout 22 (by decide +kernel)
            exact .inl ⟨rfl, gen_reads (.int .i64 ((q : Int) - 1)) (by simp [go_sem, Act.eval, -Array.getD_eq_getD_getElem?, e22]) rfl (hD)⟩
          | 3, ho =>
            simp at ho
            subst ho
            have e23 : ac.tmps.getD 23 undef = .int .i64 (c : Int) := hout 23 (by decide +kernel)
            exact .inl ⟨rfl, gen_reads (.int .i64 (c : Int)) (by simp [go_sem, Act.eval, -Array.getD_eq_getD_getElem?, e23]) rfl (hD)⟩
          | 4, ho =>
            simp at ho
            subst ho
            have e160 : ac.tmps.getD 160 undef = .int .i64 ((q : Int) - 1) := hv 2 160 rfl (by kernel_rfl)
            have e161 : ac.tmps.getD 161 undef = .int .i64 (c : Int) := hv 3 161 rfl (by kernel_rfl)
            exact .inl ⟨rfl, gen_reads (.int .i64 (x : Int)) (by simp [go_sem, Act.eval, -Array.getD_eq_getD_getElem?, e160, e161, hwx]) rfl (hD)⟩
          | 5, ho =>
            simp at ho
            subst ho
            have e159 : ac.tmps.getD 159 undef = .slice (some ⟨g, 0, none⟩) n cap := hv 1 159 rfl (by kernel_rfl)
            have e162 : ac.tmps.getD 162 undef = .int .i64 (x : Int) := hv 4 162 rfl (by kernel_rfl)
            exact .inl ⟨rfl, gen_reads (.pointer (some ⟨g, x * 11, none⟩)) (by simp [go_sem, Act.eval, -Array.getD_eq_getD_getElem?, e159, e162, x0, x1]) rfl (hD)⟩
          | 6, ho =>
            simp at ho
            subst ho
            have e163 : ac.tmps.getD 163 undef = .pointer (some ⟨g, x * 11, none⟩) := hv 5 163 rfl (by kernel_rfl)
            obtain ⟨c0, c1, c2, c3, c4, c5, c6, c7, c8, c9, c10⟩ := rowAt_all (hD.row x (by rw [plst_len]; omega))
            rw [plst_get R s n x (by omega)] at c0 c1 c2 c3 c4 c5 c6 c7 c8 c9 c10
            exact .inl ⟨rfl, gen_reads (rowV (R (s x))) (by simp [go_sem, Act.eval, -Array.getD_eq_getD_getElem?, e163, c0, c1, c2, c3, c4, c5, c6, c7, c8, c9, c10, rowV]) rfl (hD)⟩
          | 7, ho =>
            simp at ho
            subst ho
            have e0 : ac.tmps.getD 0 undef = .slice (some ⟨g, 0, none⟩) n cap := hout 0 (by decide +kernel)
            exact .inl ⟨rfl, gen_reads (.slice (some ⟨g, 0, none⟩) n cap) (by simp [go_sem, Act.eval, -Array.getD_eq_getD_getElem?, e0]) rfl (hD)⟩
          | 8, ho =>
            simp at ho
            subst ho
            have e23 : ac.tmps.getD 23 undef = .int .i64 (c : Int) := hout 23 (by decide +kernel)
            exact .inl ⟨rfl, gen_reads (.int .i64 (c : Int)) (by simp [go_sem, Act.eval, -Array.getD_eq_getD_getElem?, e23]) rfl (hD)⟩
          | 9, ho =>
            simp at ho
            subst ho
            have e165 : ac.tmps.getD 165 undef = .slice (some ⟨g, 0, none⟩) n cap := hv 7 165 rfl (by kernel_rfl)
            have e166 : ac.tmps.getD 166 undef = .int .i64 (c : Int) := hv 8 166 rfl (by kernel_rfl)
            exact .inl ⟨rfl, gen_reads (.pointer (some ⟨g, c * 11, none⟩)) (by simp [go_sem, Act.eval, -Array.getD_eq_getD_getElem?, e165, e166, c0, c1]) rfl (hD)⟩
          | 10, ho =>
            simp at ho
            subst ho
            have e167 : ac.tmps.getD 167 undef = .pointer (some ⟨g, c * 11, none⟩) := hv 9 167 rfl (by kernel_rfl)
            obtain ⟨c0, c1, c2, c3, c4, c5, c6, c7, c8, c9, c10⟩ := rowAt_all (hD.row c (by rw [plst_len]; omega))
            rw [plst_get R s n c (by omega)] at c0 c1 c2 c3 c4 c5 c6 c7 c8 c9 c10
            exact .inl ⟨rfl, gen_reads (rowV (R (s c))) (by simp [go_sem, Act.eval, -Array.getD_eq_getD_getElem?, e167, c0, c1, c2, c3, c4, c5, c6, c7, c8, c9, c10, rowV]) rfl (hD)⟩
          | 11, ho =>
            simp at ho
            subst ho
            have e158 : ac.tmps.getD 158 undef = cmpV := hv 0 158 rfl (by kernel_rfl)
            have e164 : ac.tmps.getD 164 undef = rowV (R (s x)) := hv 6 164 rfl (by kernel_rfl)
            have e168 : ac.tmps.getD 168 undef = rowV (R (s c)) := hv 10 168 rfl (by kernel_rfl)
            refine .inl ⟨rfl, gen_enters 71 #[rowV (R (s x)), rowV (R (s c))] (by simp [go_sem, Act.eval, -Array.getD_eq_getD_getElem?, cmpV, e158, e164, e168]) ?_⟩
            refine (cmprow_any _ _ _).mono ?_
            rintro e w2 ⟨rfl, hb2⟩
            exact ⟨_, rfl, rfl, hD.below hb2⟩
          | 12, ho =>
            simp at ho
            subst ho
            have e169 : ac.tmps.getD 169 undef = .int .i64 (cmpI (R (s x)).ix (R (s c)).ix) := hv 11 169 rfl (by kernel_rfl)
            exact .inl ⟨rfl, gen_reads (.bool false) (by simp [go_sem, Act.eval, -Array.getD_eq_getD_getElem?, e169, cmpI_neg, hcmp]) rfl (hD)⟩
          | 13, ho =>
            simp at ho
            subst ho
            have e170 : ac.tmps.getD 170 undef = .bool false := hv 12 170 rfl (by kernel_rfl)
            exact .inl ⟨rfl, gen_reads (.bool true) (by simp [go_sem, Act.eval, -Array.getD_eq_getD_getElem?, e170]) rfl (hD)⟩
          | ix + 14, ho => simp at ho
        case hend =>
          intro v L w1 hD hall hv
          have h13 : v 13 = .bool true := hv 13 171 rfl
          have HE := hide hD
          clear hv hall hD h0
          simp only [putOps, List.getElem?_cons_zero, List.getElem?_cons_succ, Option.bind_some, List.length_cons, List.length_nil, Nat.reduceAdd, h13]
          clear h13 hc hwx
          go_frame
          go_wp2
          go_roundw
          case rel =>
            obtain ⟨q1, q2⟩ := unhide HCC
            have q3 := unhide HCM
            rw [unhide HXX, show q - 1 - c = q - (c + 1) by omega] at q3
            exact ⟨c + 1, by go_num, r, rfl, by omega, by omega, hrh, unhide HE, .inr (by rw [show c + 1 - 1 = c by omega]; omega), unhide HAB⟩
          case measure => have := unhide HCC; simp [intOf]; omega
    · obtain rfl : st = r := by omega
      have i1 : ¬ (st : Int) < (st : Int) := by omega
      have hCut : Cut (fun p => (R p).ix) s a m b mid st := ⟨am, mb, unhide HMID, by omega, by omega, by omega, by omega, fun p1 p2 => by
        rw [show mid + m = q by omega] at p2 ⊢
        rcases hbe with hbe | hbe
        · omega
        · exact hbe, fun p1 p2 => by
        rw [show mid + m = q by omega] at p2 ⊢
        rcases hab with hab | hab
        · omega
        · exact hab⟩
      obtain ⟨hu, hH1, hH2⟩ := cut_low (unhide HH) hCut
      have hL := cut_left (unhide HH) hCut
      have hR := cut_right (unhide HH) hCut
      have hUs : SP s (rot s st m (mid + m - st)) a b := (rot_sp s st m (mid + m - st) (by omega) (by omega)).wide (by omega) (by omega)
      obtain ⟨e, he⟩ : ∃ e : Nat, (q : Int) - (st : Int) = (e : Int) := ⟨q - st, by omega⟩
      have hee : mid + m - st = e := by omega
      rw [hee] at hu hH1 hH2 hL hR hUs
      have hROT : st < m → m < e → Calls Try.prog 122 #[.slice (some ⟨g, 0, none⟩) n cap, .int .i64 (st : Int), .int .i64 (m : Int), .int .i64 (e : Int), cmpV] wr fun e' w' => e' = .returned (.tuple #[]) ∧ DL g cap W0 (plst R (rot s st m e) n) w' := fun p1 p2 => (rotate_any g cap n st m e R s wr p1 p2 (by omega) hn hDL.self).mono fun e' w' ⟨he', hd⟩ => ⟨he', hDL.trans hd⟩
      have hU0 : ¬ (st < m ∧ m < e) → rot s st m e = s := fun hne => by
        rcases (by omega : st = m ∨ e = m) with h | h
        · rw [h, rot_nil_l]
        · rw [h, rot_nil_r]
      have hDU : ¬ (st < m ∧ m < e) → DL g cap W0 (plst R (rot s st m e) n) wr := fun hne => by rw [hU0 hne]; exact hDL
      generalize rot s st m e = U at *
      have hI1 : a < st → st < mid → ∀ W, DL g cap W0 (plst R U n) W → Calls Try.prog 111 #[.slice (some ⟨g, 0, none⟩) n cap, .int .i64 (a : Int), .int .i64 (st : Int), .int .i64 (mid : Int), cmpV] W fun e' w' => e' = .returned (.tuple #[]) ∧ ∃ t, DL g cap W0 (plst R t n) w' ∧ SP U t a mid ∧ Srt (fun p => (R p).ix) t a mid := fun p1 p2 W hW => (unhide HIH a st mid U W (by omega) p1 p2 (by omega) hW.self (hH1 p1 p2)).mono fun e' w' ⟨he', t, k1, k2, k3⟩ => ⟨he', t, hW.trans k1, k2, k3⟩
      have hI2 : mid < e → e < b → ∀ v W, SP U v a mid → DL g cap W0 (plst R v n) W → Calls Try.prog 111 #[.slice (some ⟨g, 0, none⟩) n cap, .int .i64 (mid : Int), .int .i64 (e : Int), .int .i64 (b : Int), cmpV] W fun e' w' => e' = .returned (.tuple #[]) ∧ ∃ t, DL g cap W0 (plst R t n) w' ∧ SP v t mid b ∧ Srt (fun p => (R p).ix) t mid b := fun p1 p2 v W hv hW => (unhide HIH mid e b v W (by omega) p1 p2 (by omega) hW.self ((hH2 p1 p2).congr (fun k z1 z2 => hv.out (by omega)) (by omega) (by omega))).mono fun e' w' ⟨he', t, k1, k2, k3⟩ => ⟨he', t, hW.trans k1, k2, k3⟩
      have hfin : ∀ v t W, SP U v a mid → Srt (fun p => (R p).ix) v a mid → SP v t mid b → Srt (fun p => (R p).ix) t mid b → DL g cap W0 (plst R t n) W → ∃ t, DL g cap W0 (plst R t n) W ∧ SP s t a b ∧ Srt (fun p => (R p).ix) t a b := fun v t W z1 z2 z3 z4 z5 => ⟨t, z5, (hUs.trans (z1.wide (Nat.le_refl _) (by omega))).trans (z3.wide (by omega) (Nat.le_refl _)), srt_join hu z1 z2 z3 z4⟩
      have hRc : ∀ v, ¬ (mid < e ∧ e < b) → SP U v a mid → Srt (fun p => (R p).ix) v mid b := fun v hne hv x y z1 z2 z3 => by
        rw [hv.out (k := x) (by omega), hv.out (k := y) (by omega)]
        exact hR (by omega) x y z1 z2 z3
      have HFIN := hide hfin
      have HRC := hide hRc
      have HLC := hide hL
      have HDU := hide hDU
      have HROT := hide hROT
      have HI1 := hide hI1
      have HI2 := hide hI2
      have o1 : mid ≤ e := by omega
      have o2 : e ≤ b := by omega
      have o3 : a ≤ st := by omega
      have o4 : st ≤ mid := by omega
      have o5 : st ≤ m := by omega
      clear hfin hRc hL hDU hROT hI1 hI2 hu hH1 hH2 hR hUs hU0 hDL hCut hbe hab f1 f2 f3 f4 f5 f6 f7
      by_cases b1 : st < m ∧ m < e
      · obtain ⟨b11, b12⟩ := b1
        have HRO := hide (unhide HROT b11 b12)
        by_cases b2 : a < st ∧ st < mid
        · obtain ⟨b21, b22⟩ := b2
          have HJ1 := hide (unhide HI1 b21 b22)
          by_cases b3 : mid < e ∧ e < b
          · obtain ⟨b31, b32⟩ := b3
            have HJ2 := hide (unhide HI2 b31 b32)
            have u1 : (st : Int) < (m : Int) := by omega
            have u2 : (m : Int) < (e : Int) := by omega
            have w1 : (a : Int) < (st : Int) := by omega
            have w2 : (st : Int) < (mid : Int) := by omega
            have z1 : (mid : Int) < (e : Int) := by omega
            have z2 : (e : Int) < (b : Int) := by omega
            have HB : Hid (True) := trivial
            go_wp2_with (first
                          | (go_at_call 122; refine (unhide HRO).mono ?_; rintro e1 w2 ⟨rfl, hd2⟩; have HU := hide hd2; clear hd2 HRO)
                          | (go_at_call 111; refine (unhide HJ1 _ (unhide HU)).mono ?_; rintro e2 w3 ⟨rfl, v3, hd3, hp3, hs3⟩; have HV := hide hd3; have HP3 := hide hp3; have HS3 := hide hs3; clear hd3 hp3 hs3 HJ1)
                          | (go_at_call 111; refine (unhide HJ2 _ _ (unhide HP3) (unhide HV)).mono ?_; rintro e3 w4 ⟨rfl, t4, hd4, hp4, hs4⟩; have HT := hide hd4; have HP4 := hide hp4; have HS4 := hide hs4; clear hd4 hp4 hs4 HJ2))
            exact bodyPost_end (v := .tuple #[]) (by simp [results, Try.results111, go_sem]) rfl ⟨rfl, unhide HFIN v3 t4 _ (unhide HP3) (unhide HS3) (unhide HP4) (unhide HS4) (unhide HT)⟩
          · have u1 : (st : Int) < (m : Int) := by omega
            have u2 : (m : Int) < (e : Int) := by omega
            have w1 : (a : Int) < (st : Int) := by omega
            have w2 : (st : Int) < (mid : Int) := by omega
            by_cases s0 : mid < e
            · have s0a : (mid : Int) < (e : Int) := by omega
              have s0b : decide ((e : Int) < (b : Int)) = false := by simp; omega
              have s0c : decide (e < b) = false := by simp; omega
              have HB : Hid (True) := trivial
              go_wp2_with (first
                            | (go_at_call 122; refine (unhide HRO).mono ?_; rintro e1 w2 ⟨rfl, hd2⟩; have HU := hide hd2; clear hd2 HRO)
                            | (go_at_call 111; refine (unhide HJ1 _ (unhide HU)).mono ?_; rintro e2 w3 ⟨rfl, v3, hd3, hp3, hs3⟩; have HV := hide hd3; have HP3 := hide hp3; have HS3 := hide hs3; clear hd3 hp3 hs3 HJ1))
              exact bodyPost_end (v := .tuple #[]) (by simp [results, Try.results111, go_sem]) rfl ⟨rfl, unhide HFIN v3 v3 _ (unhide HP3) (unhide HS3) (SP.refl v3 mid b) (unhide HRC v3 b3 (unhide HP3)) (unhide HV)⟩
            · have s0a : decide ((mid : Int) < (e : Int)) = false := by simp; omega
              have s0b : decide (mid < e) = false := by simp; omega
              have HB : Hid (True) := trivial
              go_wp2_with (first
                            | (go_at_call 122; refine (unhide HRO).mono ?_; rintro e1 w2 ⟨rfl, hd2⟩; have HU := hide hd2; clear hd2 HRO)
                            | (go_at_call 111; refine (unhide HJ1 _ (unhide HU)).mono ?_; rintro e2 w3 ⟨rfl, v3, hd3, hp3, hs3⟩; have HV := hide hd3; have HP3 := hide hp3; have HS3 := hide hs3; clear hd3 hp3 hs3 HJ1))
              exact bodyPost_end (v := .tuple #[]) (by simp [results, Try.results111, go_sem]) rfl ⟨rfl, unhide HFIN v3 v3 _ (unhide HP3) (unhide HS3) (SP.refl v3 mid b) (unhide HRC v3 b3 (unhide HP3)) (unhide HV)⟩
        · by_cases b3 : mid < e ∧ e < b
          · obtain ⟨b31, b32⟩ := b3
            have HJ2 := hide (unhide HI2 b31 b32)
            have u1 : (st : Int) < (m : Int) := by omega
            have u2 : (m : Int) < (e : Int) := by omega
            have z1 : (mid : Int) < (e : Int) := by omega
            have z2 : (e : Int) < (b : Int) := by omega
            by_cases s0 : a < st
            · have s0a : (a : Int) < (st : Int) := by omega
              have s0b : decide ((st : Int) < (mid : Int)) = false := by simp; omega
              have s0c : decide (st < mid) = false := by simp; omega
              have HB : Hid (True) := trivial
              go_wp2_with (first
                            | (go_at_call 122; refine (unhide HRO).mono ?_; rintro e1 w2 ⟨rfl, hd2⟩; have HU := hide hd2; clear hd2 HRO)
                            | (go_at_call 111; refine (unhide HJ2 _ _ (SP.refl U a mid) (unhide HU)).mono ?_; rintro e3 w4 ⟨rfl, t4, hd4, hp4, hs4⟩; have HT := hide hd4; have HP4 := hide hp4; have HS4 := hide hs4; clear hd4 hp4 hs4 HJ2))
              exact bodyPost_end (v := .tuple #[]) (by simp [results, Try.results111, go_sem]) rfl ⟨rfl, unhide HFIN U t4 _ (SP.refl U a mid) (unhide HLC (by omega)) (unhide HP4) (unhide HS4) (unhide HT)⟩
            · have s0a : decide ((a : Int) < (st : Int)) = false := by simp; omega
              have s0b : decide (a < st) = false := by simp; omega
              have HB : Hid (True) := trivial
              go_wp2_with (first
                            | (go_at_call 122; refine (unhide HRO).mono ?_; rintro e1 w2 ⟨rfl, hd2⟩; have HU := hide hd2; clear hd2 HRO)
                            | (go_at_call 111; refine (unhide HJ2 _ _ (SP.refl U a mid) (unhide HU)).mono ?_; rintro e3 w4 ⟨rfl, t4, hd4, hp4, hs4⟩; have HT := hide hd4; have HP4 := hide hp4; have HS4 := hide hs4; clear hd4 hp4 hs4 HJ2))
              exact bodyPost_end (v := .tuple #[]) (by simp [results, Try.results111, go_sem]) rfl ⟨rfl, unhide HFIN U t4 _ (SP.refl U a mid) (unhide HLC (by omega)) (unhide HP4) (unhide HS4) (unhide HT)⟩
          · have u1 : (st : Int) < (m : Int) := by omega
            have u2 : (m : Int) < (e : Int) := by omega
            by_cases s0 : a < st
            · have s0a : (a : Int) < (st : Int) := by omega
              have s0b : decide ((st : Int) < (mid : Int)) = false := by simp; omega
              have s0c : decide (st < mid) = false := by simp; omega
              by_cases s1 : mid < e
              · have s1a : (mid : Int) < (e : Int) := by omega
                have s1b : decide ((e : Int) < (b : Int)) = false := by simp; omega
                have s1c : decide (e < b) = false := by simp; omega
                have HB : Hid (True) := trivial
                go_wp2_with (first
                              | (go_at_call 122; refine (unhide HRO).mono ?_; rintro e1 w2 ⟨rfl, hd2⟩; have HU := hide hd2; clear hd2 HRO))
                exact bodyPost_end (v := .tuple #[]) (by simp [results, Try.results111, go_sem]) rfl ⟨rfl, unhide HFIN U U _ (SP.refl U a mid) (unhide HLC (by omega)) (SP.refl U mid b) (unhide HRC U b3 (SP.refl U a mid)) (unhide HU)⟩
              · have s1a : decide ((mid : Int) < (e : Int)) = false := by simp; omega
                have s1b : decide (mid < e) = false := by simp; omega
                have HB : Hid (True) := trivial
                go_wp2_with (first
                              | (go_at_call 122; refine (unhide HRO).mono ?_; rintro e1 w2 ⟨rfl, hd2⟩; have HU := hide hd2; clear hd2 HRO))
                exact bodyPost_end (v := .tuple #[]) (by simp [results, Try.results111, go_sem]) rfl ⟨rfl, unhide HFIN U U _ (SP.refl U a mid) (unhide HLC (by omega)) (SP.refl U mid b) (unhide HRC U b3 (SP.refl U a mid)) (unhide HU)⟩
            · have s0a : decide ((a : Int) < (st : Int)) = false := by simp; omega
              have s0b : decide (a < st) = false := by simp; omega
              by_cases s1 : mid < e
              · have s1a : (mid : Int) < (e : Int) := by omega
                have s1b : decide ((e : Int) < (b : Int)) = false := by simp; omega
                have s1c : decide (e < b) = false := by simp; omega
                have HB : Hid (True) := trivial
                go_wp2_with (first
                              | (go_at_call 122; refine (unhide HRO).mono ?_; rintro e1 w2 ⟨rfl, hd2⟩; have HU := hide hd2; clear hd2 HRO))
                exact bodyPost_end (v := .tuple #[]) (by simp [results, Try.results111, go_sem]) rfl ⟨rfl, unhide HFIN U U _ (SP.refl U a mid) (unhide HLC (by omega)) (SP.refl U mid b) (unhide HRC U b3 (SP.refl U a mid)) (unhide HU)⟩
              · have s1a : decide ((mid : Int) < (e : Int)) = false := by simp; omega
                have s1b : decide (mid < e) = false := by simp; omega
                have HB : Hid (True) := trivial
                go_wp2_with (first
                              | (go_at_call 122; refine (unhide HRO).mono ?_; rintro e1 w2 ⟨rfl, hd2⟩; have HU := hide hd2; clear hd2 HRO))
                exact bodyPost_end (v := .tuple #[]) (by simp [results, Try.results111, go_sem]) rfl ⟨rfl, unhide HFIN U U _ (SP.refl U a mid) (unhide HLC (by omega)) (SP.refl U mid b) (unhide HRC U b3 (SP.refl U a mid)) (unhide HU)⟩
      · have HU := hide (unhide HDU b1)
        by_cases b2 : a < st ∧ st < mid
        · obtain ⟨b21, b22⟩ := b2
          have HJ1 := hide (unhide HI1 b21 b22)
          by_cases b3 : mid < e ∧ e < b
          · obtain ⟨b31, b32⟩ := b3
            have HJ2 := hide (unhide HI2 b31 b32)
            have w1 : (a : Int) < (st : Int) := by omega
            have w2 : (st : Int) < (mid : Int) := by omega
            have z1 : (mid : Int) < (e : Int) := by omega
            have z2 : (e : Int) < (b : Int) := by omega
            by_cases s0 : st < m
            · have s0a : (st : Int) < (m : Int) := by omega
              have s0b : decide ((m : Int) < (e : Int)) = false := by simp; omega
              have s0c : decide (m < e) = false := by simp; omega
              have HB : Hid (True) := trivial
              go_wp2_with (first
                            | (go_at_call 111; refine (unhide HJ1 _ (unhide HU)).mono ?_; rintro e2 w3 ⟨rfl, v3, hd3, hp3, hs3⟩; have HV := hide hd3; have HP3 := hide hp3; have HS3 := hide hs3; clear hd3 hp3 hs3 HJ1)
                            | (go_at_call 111; refine (unhide HJ2 _ _ (unhide HP3) (unhide HV)).mono ?_; rintro e3 w4 ⟨rfl, t4, hd4, hp4, hs4⟩; have HT := hide hd4; have HP4 := hide hp4; have HS4 := hide hs4; clear hd4 hp4 hs4 HJ2))
              exact bodyPost_end (v := .tuple #[]) (by simp [results, Try.results111, go_sem]) rfl ⟨rfl, unhide HFIN v3 t4 _ (unhide HP3) (unhide HS3) (unhide HP4) (unhide HS4) (unhide HT)⟩
            · have s0a : decide ((st : Int) < (m : Int)) = false := by simp; omega
              have s0b : decide (st < m) = false := by simp; omega
              have HB : Hid (True) := trivial
              go_wp2_with (first
                            | (go_at_call 111; refine (unhide HJ1 _ (unhide HU)).mono ?_; rintro e2 w3 ⟨rfl, v3, hd3, hp3, hs3⟩; have HV := hide hd3; have HP3 := hide hp3; have HS3 := hide hs3; clear hd3 hp3 hs3 HJ1)
                            | (go_at_call 111; refine (unhide HJ2 _ _ (unhide HP3) (unhide HV)).mono ?_; rintro e3 w4 ⟨rfl, t4, hd4, hp4, hs4⟩; have HT := hide hd4; have HP4 := hide hp4; have HS4 := hide hs4; clear hd4 hp4 hs4 HJ2))
              exact bodyPost_end (v := .tuple #[]) (by simp [results, Try.results111, go_sem]) rfl ⟨rfl, unhide HFIN v3 t4 _ (unhide HP3) (unhide HS3) (unhide HP4) (unhide HS4) (unhide HT)⟩
          · have w1 : (a : Int) < (st : Int) := by omega
            have w2 : (st : Int) < (mid : Int) := by omega
            by_cases s0 : st < m
            · have s0a : (st : Int) < (m : Int) := by omega
              have s0b : decide ((m : Int) < (e : Int)) = false := by simp; omega
              have s0c : decide (m < e) = false := by simp; omega
              by_cases s1 : mid < e
              · have s1a : (mid : Int) < (e : Int) := by omega
                have s1b : decide ((e : Int) < (b : Int)) = false := by simp; omega
                have s1c : decide (e < b) = false := by simp; omega
                have HB : Hid (True) := trivial
                go_wp2_with (first
                              | (go_at_call 111; refine (unhide HJ1 _ (unhide HU)).mono ?_; rintro e2 w3 ⟨rfl, v3, hd3, hp3, hs3⟩; have HV := hide hd3; have HP3 := hide hp3; have HS3 := hide hs3; clear hd3 hp3 hs3 HJ1))
                exact bodyPost_end (v := .tuple #[]) (by simp [results, Try.results111, go_sem]) rfl ⟨rfl, unhide HFIN v3 v3 _ (unhide HP3) (unhide HS3) (SP.refl v3 mid b) (unhide HRC v3 b3 (unhide HP3)) (unhide HV)⟩
              · have s1a : decide ((mid : Int) < (e : Int)) = false := by simp; omega
                have s1b : decide (mid < e) = false := by simp; omega
                have HB : Hid (True) := trivial
                go_wp2_with (first
                              | (go_at_call 111; refine (unhide HJ1 _ (unhide HU)).mono ?_; rintro e2 w3 ⟨rfl, v3, hd3, hp3, hs3⟩; have HV := hide hd3; have HP3 := hide hp3; have HS3 := hide hs3; clear hd3 hp3 hs3 HJ1))
                exact bodyPost_end (v := .tuple #[]) (by simp [results, Try.results111, go_sem]) rfl ⟨rfl, unhide HFIN v3 v3 _ (unhide HP3) (unhide HS3) (SP.refl v3 mid b) (unhide HRC v3 b3 (unhide HP3)) (unhide HV)⟩
            · have s0a : decide ((st : Int) < (m : Int)) = false := by simp; omega
              have s0b : decide (st < m) = false := by simp; omega
              by_cases s1 : mid < e
              · have s1a : (mid : Int) < (e : Int) := by omega
                have s1b : decide ((e : Int) < (b : Int)) = false := by simp; omega
                have s1c : decide (e < b) = false := by simp; omega
                have HB : Hid (True) := trivial
                go_wp2_with (first
                              | (go_at_call 111; refine (unhide HJ1 _ (unhide HU)).mono ?_; rintro e2 w3 ⟨rfl, v3, hd3, hp3, hs3⟩; have HV := hide hd3; have HP3 := hide hp3; have HS3 := hide hs3; clear hd3 hp3 hs3 HJ1))
                exact bodyPost_end (v := .tuple #[]) (by simp [results, Try.results111, go_sem]) rfl ⟨rfl, unhide HFIN v3 v3 _ (unhide HP3) (unhide HS3) (SP.refl v3 mid b) (unhide HRC v3 b3 (unhide HP3)) (unhide HV)⟩
              · have s1a : decide ((mid : Int) < (e : Int)) = false := by simp; omega
                have s1b : decide (mid < e) = false := by simp; omega
                have HB : Hid (True) := trivial
                go_wp2_with (first
                              | (go_at_call 111; refine (unhide HJ1 _ (unhide HU)).mono ?_; rintro e2 w3 ⟨rfl, v3, hd3, hp3, hs3⟩; have HV := hide hd3; have HP3 := hide hp3; have HS3 := hide hs3; clear hd3 hp3 hs3 HJ1))
                exact bodyPost_end (v := .tuple #[]) (by simp [results, Try.results111, go_sem]) rfl ⟨rfl, unhide HFIN v3 v3 _ (unhide HP3) (unhide HS3) (SP.refl v3 mid b) (unhide HRC v3 b3 (unhide HP3)) (unhide HV)⟩
        · by_cases b3 : mid < e ∧ e < b
          · obtain ⟨b31, b32⟩ := b3
            have HJ2 := hide (unhide HI2 b31 b32)
            have z1 : (mid : Int) < (e : Int) := by omega
            have z2 : (e : Int) < (b : Int) := by omega
            by_cases s0 : st < m
            · have s0a : (st : Int) < (m : Int) := by omega
              have s0b : decide ((m : Int) < (e : Int)) = false := by simp; omega
              have s0c : decide (m < e) = false := by simp; omega
              by_cases s1 : a < st
              · have s1a : (a : Int) < (st : Int) := by omega
                have s1b : decide ((st : Int) < (mid : Int)) = false := by simp; omega
                have s1c : decide (st < mid) = false := by simp; omega
                have HB : Hid (True) := trivial
                go_wp2_with (first
                              | (go_at_call 111; refine (unhide HJ2 _ _ (SP.refl U a mid) (unhide HU)).mono ?_; rintro e3 w4 ⟨rfl, t4, hd4, hp4, hs4⟩; have HT := hide hd4; have HP4 := hide hp4; have HS4 := hide hs4; clear hd4 hp4 hs4 HJ2))
                exact bodyPost_end (v := .tuple #[]) (by simp [results, Try.results111, go_sem]) rfl ⟨rfl, unhide HFIN U t4 _ (SP.refl U a mid) (unhide HLC (by omega)) (unhide HP4) (unhide HS4) (unhide HT)⟩
              · have s1a : decide ((a : Int) < (st : Int)) = false := by simp; omega
                have s1b : decide (a < st) = false := by simp; omega
                have HB : Hid (True) := trivial
                go_wp2_with (first
                              | (go_at_call 111; refine (unhide HJ2 _ _ (SP.refl U a mid) (unhide HU)).mono ?_; rintro e3 w4 ⟨rfl, t4, hd4, hp4, hs4⟩; have HT := hide hd4; have HP4 := hide hp4; have HS4 := hide hs4; clear hd4 hp4 hs4 HJ2))
                exact bodyPost_end (v := .tuple #[]) (by simp [results, Try.results111, go_sem]) rfl ⟨rfl, unhide HFIN U t4 _ (SP.refl U a mid) (unhide HLC (by omega)) (unhide HP4) (unhide HS4) (unhide HT)⟩
            · have s0a : decide ((st : Int) < (m : Int)) = false := by simp; omega
              have s0b : decide (st < m) = false := by simp; omega
              by_cases s1 : a < st
              · have s1a : (a : Int) < (st : Int) := by omega
                have s1b : decide ((st : Int) < (mid : Int)) = false := by simp; omega
                have s1c : decide (st < mid) = false := by simp; omega
                have HB : Hid (True) := trivial
                go_wp2_with (first
                              | (go_at_call 111; refine (unhide HJ2 _ _ (SP.refl U a mid) (unhide HU)).mono ?_; rintro e3 w4 ⟨rfl, t4, hd4, hp4, hs4⟩; have HT := hide hd4; have HP4 := hide hp4; have HS4 := hide hs4; clear hd4 hp4 hs4 HJ2))
                exact bodyPost_end (v := .tuple #[]) (by simp [results, Try.results111, go_sem]) rfl ⟨rfl, unhide HFIN U t4 _ (SP.refl U a mid) (unhide HLC (by omega)) (unhide HP4) (unhide HS4) (unhide HT)⟩
              · have s1a : decide ((a : Int) < (st : Int)) = false := by simp; omega
                have s1b : decide (a < st) = false := by simp; omega
                have HB : Hid (True) := trivial
                go_wp2_with (first
                              | (go_at_call 111; refine (unhide HJ2 _ _ (SP.refl U a mid) (unhide HU)).mono ?_; rintro e3 w4 ⟨rfl, t4, hd4, hp4, hs4⟩; have HT := hide hd4; have HP4 := hide hp4; have HS4 := hide hs4; clear hd4 hp4 hs4 HJ2))
                exact bodyPost_end (v := .tuple #[]) (by simp [results, Try.results111, go_sem]) rfl ⟨rfl, unhide HFIN U t4 _ (SP.refl U a mid) (unhide HLC (by omega)) (unhide HP4) (unhide HS4) (unhide HT)⟩
          · by_cases s0 : st < m
            · have s0a : (st : Int) < (m : Int) := by omega
              have s0b : decide ((m : Int) < (e : Int)) = false := by simp; omega
              have s0c : decide (m < e) = false := by simp; omega
              by_cases s1 : a < st
              · have s1a : (a : Int) < (st : Int) := by omega
                have s1b : decide ((st : Int) < (mid : Int)) = false := by simp; omega
                have s1c : decide (st < mid) = false := by simp; omega
                by_cases s2 : mid < e
                · have s2a : (mid : Int) < (e : Int) := by omega
                  have s2b : decide ((e : Int) < (b : Int)) = false := by simp; omega
                  have s2c : decide (e < b) = false := by simp; omega
                  have HB : Hid (True) := trivial
                  go_wp2
                  exact bodyPost_end (v := .tuple #[]) (by simp [results, Try.results111, go_sem]) rfl ⟨rfl, unhide HFIN U U _ (SP.refl U a mid) (unhide HLC (by omega)) (SP.refl U mid b) (unhide HRC U b3 (SP.refl U a mid)) (unhide HU)⟩
                · have s2a : decide ((mid : Int) < (e : Int)) = false := by simp; omega
                  have s2b : decide (mid < e) = false := by simp; omega
                  have HB : Hid (True) := trivial
                  go_wp2
                  exact bodyPost_end (v := .tuple #[]) (by simp [results, Try.results111, go_sem]) rfl ⟨rfl, unhide HFIN U U _ (SP.refl U a mid) (unhide HLC (by omega)) (SP.refl U mid b) (unhide HRC U b3 (SP.refl U a mid)) (unhide HU)⟩
              · have s1a : decide ((a : Int) < (st : Int)) = false := by simp; omega
                have s1b : decide (a < st) = false := by simp; omega
                by_cases s2 : mid < e
                · have s2a : (mid : Int) < (e : Int) := by omega
                  have s2b : decide ((e : Int) < (b : Int)) = false := by simp; omega
                  have s2c : decide (e < b) = false := by simp; omega
                  have HB : Hid (True) := trivial
                  go_wp2
                  exact bodyPost_end (v := .tuple #[]) (by simp [results, Try.results111, go_sem]) rfl ⟨rfl, unhide HFIN U U _ (SP.refl U a mid) (unhide HLC (by omega)) (SP.refl U mid b) (unhide HRC U b3 (SP.refl U a mid)) (unhide HU)⟩
                · have s2a : decide ((mid : Int) < (e : Int)) = false := by simp; omega
                  have s2b : decide (mid < e) = false := by simp; omega
                  have HB : Hid (True) := trivial
                  go_wp2
                  exact bodyPost_end (v := .tuple #[]) (by simp [results, Try.results111, go_sem]) rfl ⟨rfl, unhide HFIN U U _ (SP.refl U a mid) (unhide HLC (by omega)) (SP.refl U mid b) (unhide HRC U b3 (SP.refl U a mid)) (unhide HU)⟩
            · have s0a : decide ((st : Int) < (m : Int)) = false := by simp; omega
              have s0b : decide (st < m) = false := by simp; omega
              by_cases s1 : a < st
              · have s1a : (a : Int) < (st : Int) := by omega
                have s1b : decide ((st : Int) < (mid : Int)) = false := by simp; omega
                have s1c : decide (st < mid) = false := by simp; omega
                by_cases s2 : mid < e
                · have s2a : (mid : Int) < (e : Int) := by omega
                  have s2b : decide ((e : Int) < (b : Int)) = false := by simp; omega
                  have s2c : decide (e < b) = false := by simp; omega
                  have HB : Hid (True) := trivial
                  go_wp2
                  exact bodyPost_end (v := .tuple #[]) (by simp [results, Try.results111, go_sem]) rfl ⟨rfl, unhide HFIN U U _ (SP.refl U a mid) (unhide HLC (by omega)) (SP.refl U mid b) (unhide HRC U b3 (SP.refl U a mid)) (unhide HU)⟩
                · have s2a : decide ((mid : Int) < (e : Int)) = false := by simp; omega
                  have s2b : decide (mid < e) = false := by simp; omega
                  have HB : Hid (True) := trivial
                  go_wp2
                  exact bodyPost_end (v := .tuple #[]) (by simp [results, Try.results111, go_sem]) rfl ⟨rfl, unhide HFIN U U _ (SP.refl U a mid) (unhide HLC (by omega)) (SP.refl U mid b) (unhide HRC U b3 (SP.refl U a mid)) (unhide HU)⟩
              · have s1a : decide ((a : Int) < (st : Int)) = false := by simp; omega
                have s1b : decide (a < st) = false := by simp; omega
                by_cases s2 : mid < e
                · have s2a : (mid : Int) < (e : Int) := by omega
                  have s2b : decide ((e : Int) < (b : Int)) = false := by simp; omega
                  have s2c : decide (e < b) = false := by simp; omega
                  have HB : Hid (True) := trivial
                  go_wp2
                  exact bodyPost_end (v := .tuple #[]) (by simp [results, Try.results111, go_sem]) rfl ⟨rfl, unhide HFIN U U _ (SP.refl U a mid) (unhide HLC (by omega)) (SP.refl U mid b) (unhide HRC U b3 (SP.refl U a mid)) (unhide HU)⟩
                · have s2a : decide ((mid : Int) < (e : Int)) = false := by simp; omega
                  have s2b : decide (mid < e) = false := by simp; omega
                  have HB : Hid (True) := trivial
                  go_wp2
                  exact bodyPost_end (v := .tuple #[]) (by simp [results, Try.results111, go_sem]) rfl ⟨rfl, unhide HFIN U U _ (SP.refl U a mid) (unhide HLC (by omega)) (SP.refl U mid b) (unhide HRC U b3 (SP.refl U a mid)) (unhide HU)⟩
end Go.Proofs.Ytnbleebilmghcab
