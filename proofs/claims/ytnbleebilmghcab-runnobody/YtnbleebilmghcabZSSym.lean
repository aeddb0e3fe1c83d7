/- slices.symMergeCmpFunc over rows: one on the left, one on the right. -/
import Derived.Test.YtnbleebilmghcabQI
set_option linter.all false
namespace Go.Proofs.Ytnbleebilmghcab
open Go Go.RowKit
attribute [local go_sem ↓] Go.wp_at_zero Go.wp_at_succ
theorem rot_self (s : Nat → Nat) (a : Nat) : rot s a (a + 1) (a + 1) = s := by
  funext k
  unfold rot
  rw [if_neg (by omega)]
  split
  · congr 1; omega
  · rfl
theorem rot_self' (s : Nat → Nat) (m : Nat) : rot s m m (m + 1) = s := by
  funext k
  unfold rot
  split
  · congr 1; omega
  · split
    · exfalso; omega
    · rfl
theorem rot_push (s : Nat → Nat) (a k : Nat) (h : a ≤ k) : swr (rot s a (a + 1) (k + 1)) k (k + 1) 1 = rot s a (a + 1) (k + 2) := by
  funext x
  unfold swr
  by_cases h1 : x = k
  · subst h1
    rw [if_pos (by omega), rot_out s a (a + 1) (x + 1) _ (by omega) (.inr (by omega)) (by omega), rot_lo s a (a + 1) (x + 2) x h (by omega)]
    congr 1; omega
  · by_cases h2 : x = k + 1
    · subst h2
      rw [if_neg (by omega), if_pos (by omega), rot_hi s a (a + 1) (k + 1) _ (by omega) (by omega), rot_hi s a (a + 1) (k + 2) _ (by omega) (by omega)]
      congr 1; omega
    · rw [if_neg (by omega), if_neg (by omega)]
      by_cases h3 : a ≤ x ∧ x < k
      · rw [rot_lo s a (a + 1) (k + 1) x h3.1 (by omega), rot_lo s a (a + 1) (k + 2) x h3.1 (by omega)]
      · rw [rot_out s a (a + 1) (k + 1) x (by omega) (by omega) (by omega), rot_out s a (a + 1) (k + 2) x (by omega) (by omega) (by omega)]
theorem rot_pull (s : Nat → Nat) (m k : Nat) (h : k < m) : swr (rot s (k + 1) m (m + 1)) k (k + 1) 1 = rot s k m (m + 1) := by
  funext x
  unfold swr
  by_cases h1 : x = k
  · subst h1
    rw [if_pos (by omega), rot_lo s (x + 1) m (m + 1) _ (by omega) (by omega), rot_lo s x m (m + 1) x (Nat.le_refl _) (by omega)]
    congr 1; omega
  · by_cases h2 : x = k + 1
    · subst h2
      rw [if_neg (by omega), if_pos (by omega), rot_out s (k + 1) m (m + 1) _ (by omega) (.inl (by omega)) (by omega), rot_hi s k m (m + 1) _ (by omega) (by omega)]
      congr 1; omega
    · rw [if_neg (by omega), if_neg (by omega)]
      by_cases h3 : k + 1 < x ∧ x < m + 1
      · rw [rot_hi s (k + 1) m (m + 1) x (by omega) h3.2, rot_hi s k m (m + 1) x (by omega) h3.2]
      · rw [rot_out s (k + 1) m (m + 1) x (by omega) (by omega) (by omega), rot_out s k m (m + 1) x (by omega) (by omega) (by omega)]
theorem tl_key {key : Nat → Int} {p q : Nat} (h : tl key p q) : key p ≤ key q := by unfold tl at h; omega
set_option maxRecDepth 8000 in
set_option maxHeartbeats 8000000 in
theorem sym_one (g cap n a b : Nat) (R : Nat → RowI) (s : Nat → Nat) (W0 : World) (h1 : a + 1 < b) (h3 : b ≤ n) (hn : n ≤ 1000) (h : DL g cap W0 (plst R s n) W0) (hH : Halves (fun p => (R p).ix) s a (a + 1) b) :
    Calls Try.prog 111 #[.slice (some ⟨g, 0, none⟩) n cap, .int .i64 (a : Int), .int .i64 ((a : Int) + 1), .int .i64 (b : Int), cmpV] W0 fun e w' => e = .returned (.tuple #[]) ∧ ∃ t, DL g cap W0 (plst R t n) w' ∧ SP s t a b ∧ Srt (fun p => (R p).ix) t a b := by
  have H := hide h
  have HH := hide hH
  clear h hH
  have a0 : (0 : Int) ≤ (a : Int) := by omega
  have a1 : (a : Int) < (n : Int) := by omega
  go_enter Try.func111, Try.ntmps111
  go_wp2
  go_loopw [10, 11] (fun t u wr => ∃ (i j : Nat), t = .int .i64 (i : Int) ∧ u = .int .i64 (j : Int) ∧ a + 1 ≤ i ∧ i ≤ j ∧ j ≤ b ∧ DL g cap W0 (plst R s n) wr ∧ (∀ x, a + 1 ≤ x → x < i → (R (s x)).ix < (R (s a)).ix) ∧ (∀ x, j ≤ x → x < b → ¬ (R (s x)).ix < (R (s a)).ix)) (fun t u _ => (intOf u).toNat - (intOf t).toNat)
  case atStart => exact ⟨a + 1, b, by go_num, rfl, Nat.le_refl _, by omega, Nat.le_refl _, unhide H, fun x h1 h2 => by omega, fun x h1 h2 => by omega⟩
  case round =>
    clear H
    obtain ⟨i, j, rfl, rfl, hi, hij, hjb, hDL, hlo, hhi⟩ := hrel
    by_cases hlt : i < j
    · have i1 : (i : Int) < (j : Int) := by omega
      have h0 : DL g cap W0 (plst R s n) wr.drew := hDL.below ((Below.refl _ _).drew)
      obtain ⟨c, hc⟩ : ∃ c : Nat, ((i : Int) + (j : Int)) / 2 = (c : Int) := ⟨(i + j) / 2, by omega⟩
      have c0 : (0 : Int) ≤ (c : Int) := by omega
      have c1 : (c : Int) < (n : Int) := by omega
      have HCC : Hid (i ≤ c ∧ c < j) := hide (by omega)
      have HLO := hide hlo
      have HHI := hide hhi
      clear hDL hlo hhi
      by_cases hcmp : (R (s c)).ix < (R (s a)).ix
      · have HCM := hide hcmp
        go_wp2
        refine wp_region_gen (fun ix v => (([fun v => v = cmpV, fun v => v = .slice (some ⟨g, 0, none⟩) n cap, fun v => v = .int .i64 (c : Int), fun v => v = .pointer (some ⟨g, c * 11, none⟩), fun v => v = rowV (R (s c)), fun v => v = .slice (some ⟨g, 0, none⟩) n cap, fun v => v = .int .i64 (a : Int), fun v => v = .pointer (some ⟨g, a * 11, none⟩), fun v => v = rowV (R (s a)), fun v => v = .int .i64 (cmpI (R (s c)).ix (R (s a)).ix), fun v => v = .bool true] : List (Value → Prop)).getD ix (fun _ => True)) v) (fun _ W => DL g cap W0 (plst R s n) W) (by kernel_rfl) (by kernel_rfl) (by kernel_rfl) h0 ?hstep ?hend
        case hstep =>
          intro ix o ho L ac w1 hD hL hed hcl hout hv
          match ix, ho with
          | 0, ho =>
            simp at ho
            subst ho
            have e4 : ac.tmps.getD 4 undef = cmpV := hout 4 (by decide +kernel)
            exact .inl ⟨rfl, gen_reads (cmpV) (by simp [go_sem, Act.eval, -Array.getD_eq_getD_getElem?, e4]) rfl (hD)⟩
          | 1, ho =>
            simp at ho
            subst ho
            have e0 : ac.tmps.getD 0 undef = .slice (some ⟨g, 0, none⟩) n cap := hout 0 (by decide +kernel)
            exact .inl ⟨rfl, gen_reads (.slice (some ⟨g, 0, none⟩) n cap) (by simp [go_sem, Act.eval, -Array.getD_eq_getD_getElem?, e0]) rfl (hD)⟩
          | 2, ho =>
            simp at ho
            subst ho
            have e12 : ac.tmps.getD 12 undef = .int .i64 (c : Int) := hout 12 (by decide +kernel)
            exact .inl ⟨rfl, gen_reads (.int .i64 (c : Int)) (by simp [go_sem, Act.eval, -Array.getD_eq_getD_getElem?, e12]) rfl (hD)⟩
          | 3, ho =>
            simp at ho
            subst ho
            have e41 : ac.tmps.getD 41 undef = .slice (some ⟨g, 0, none⟩) n cap := hv 1 41 rfl (by kernel_rfl)
            have e42 : ac.tmps.getD 42 undef = .int .i64 (c : Int) := hv 2 42 rfl (by kernel_rfl)
            exact .inl ⟨rfl, gen_reads (.pointer (some ⟨g, c * 11, none⟩)) (by simp [go_sem, Act.eval, -Array.getD_eq_getD_getElem?, e41, e42, c0, c1]) rfl (hD)⟩
          | 4, ho =>
            simp at ho
            subst ho
            have e43 : ac.tmps.getD 43 undef = .pointer (some ⟨g, c * 11, none⟩) := hv 3 43 rfl (by kernel_rfl)
            obtain ⟨c0, c1, c2, c3, c4, c5, c6, c7, c8, c9, c10⟩ := rowAt_all (hD.row c (by rw [plst_len]; omega))
            rw [plst_get R s n c (by omega)] at c0 c1 c2 c3 c4 c5 c6 c7 c8 c9 c10
            exact .inl ⟨rfl, gen_reads (rowV (R (s c))) (by simp [go_sem, Act.eval, -Array.getD_eq_getD_getElem?, e43, c0, c1, c2, c3, c4, c5, c6, c7, c8, c9, c10, rowV]) rfl (hD)⟩
          | 5, ho =>
            simp at ho
            subst ho
            have e0 : ac.tmps.getD 0 undef = .slice (some ⟨g, 0, none⟩) n cap := hout 0 (by decide +kernel)
            exact .inl ⟨rfl, gen_reads (.slice (some ⟨g, 0, none⟩) n cap) (by simp [go_sem, Act.eval, -Array.getD_eq_getD_getElem?, e0]) rfl (hD)⟩
          | 6, ho =>
            simp at ho
            subst ho
            have e1 : ac.tmps.getD 1 undef = .int .i64 (a : Int) := hout 1 (by decide +kernel)
            exact .inl ⟨rfl, gen_reads (.int .i64 (a : Int)) (by simp [go_sem, Act.eval, -Array.getD_eq_getD_getElem?, e1]) rfl (hD)⟩
          | 7, ho =>
            simp at ho
            subst ho
            have e45 : ac.tmps.getD 45 undef = .slice (some ⟨g, 0, none⟩) n cap := hv 5 45 rfl (by kernel_rfl)
            have e46 : ac.tmps.getD 46 undef = .int .i64 (a : Int) := hv 6 46 rfl (by kernel_rfl)
            exact .inl ⟨rfl, gen_reads (.pointer (some ⟨g, a * 11, none⟩)) (by simp [go_sem, Act.eval, -Array.getD_eq_getD_getElem?, e45, e46, a0, a1]) rfl (hD)⟩
          | 8, ho =>
            simp at ho
            subst ho
            have e47 : ac.tmps.getD 47 undef = .pointer (some ⟨g, a * 11, none⟩) := hv 7 47 rfl (by kernel_rfl)
            obtain ⟨c0, c1, c2, c3, c4, c5, c6, c7, c8, c9, c10⟩ := rowAt_all (hD.row a (by rw [plst_len]; omega))
            rw [plst_get R s n a (by omega)] at c0 c1 c2 c3 c4 c5 c6 c7 c8 c9 c10
            exact .inl ⟨rfl, gen_reads (rowV (R (s a))) (by simp [go_sem, Act.eval, -Array.getD_eq_getD_getElem?, e47, c0, c1, c2, c3, c4, c5, c6, c7, c8, c9, c10, rowV]) rfl (hD)⟩
          | 9, ho =>
            simp at ho
            subst ho
            have e40 : ac.tmps.getD 40 undef = cmpV := hv 0 40 rfl (by kernel_rfl)
            have e44 : ac.tmps.getD 44 undef = rowV (R (s c)) := hv 4 44 rfl (by kernel_rfl)
            have e48 : ac.tmps.getD 48 undef = rowV (R (s a)) := hv 8 48 rfl (by kernel_rfl)
            refine .inl ⟨rfl, gen_enters 71 #[rowV (R (s c)), rowV (R (s a))] (by simp [go_sem, Act.eval, -Array.getD_eq_getD_getElem?, cmpV, e40, e44, e48]) ?_⟩
            refine (cmprow_any _ _ _).mono ?_
            rintro e w2 ⟨rfl, hb2⟩
            exact ⟨_, rfl, rfl, hD.below hb2⟩
          | 10, ho =>
            simp at ho
            subst ho
            have e49 : ac.tmps.getD 49 undef = .int .i64 (cmpI (R (s c)).ix (R (s a)).ix) := hv 9 49 rfl (by kernel_rfl)
            exact .inl ⟨rfl, gen_reads (.bool true) (by simp [go_sem, Act.eval, -Array.getD_eq_getD_getElem?, e49, cmpI_neg, hcmp]) rfl (hD)⟩
          | ix + 11, ho => simp at ho
        case hend =>
          intro v L w1 hD hall hv
          have h10 : v 10 = .bool true := hv 10 50 rfl
          have HE := hide hD
          clear hv hall hD h0
          simp only [putOps, List.getElem?_cons_zero, List.getElem?_cons_succ, Option.bind_some, List.length_cons, List.length_nil, Nat.reduceAdd, h10]
          clear h10 hc
          go_frame
          go_wp2
          go_roundw
          case rel =>
            obtain ⟨q1, q2⟩ := unhide HCC
            exact ⟨c + 1, by go_num, j, rfl, by omega, by omega, hjb, unhide HE, fun x h1 h2 => by
              rcases Nat.lt_or_ge x c with hx | hx
              · have q3 : (R (s x)).ix ≤ (R (s c)).ix := tl_key ((unhide HH).r x c h1 hx (by omega))
                have q4 := unhide HCM
                omega
              · rw [show x = c by omega]; exact unhide HCM, unhide HHI⟩
          case measure => have := unhide HCC; simp [intOf]; omega
      · have HCM := hide hcmp
        go_wp2
        refine wp_region_gen (fun ix v => (([fun v => v = cmpV, fun v => v = .slice (some ⟨g, 0, none⟩) n cap, fun v => v = .int .i64 (c : Int), fun v => v = .pointer (some ⟨g, c * 11, none⟩), fun v => v = rowV (R (s c)), fun v => v = .slice (some ⟨g, 0, none⟩) n cap, fun v => v = .int .i64 (a : Int), fun v => v = .pointer (some ⟨g, a * 11, none⟩), fun v => v = rowV (R (s a)), fun v => v = .int .i64 (cmpI (R (s c)).ix (R (s a)).ix), fun v => v = .bool false] : List (Value → Prop)).getD ix (fun _ => True)) v) (fun _ W => DL g cap W0 (plst R s n) W) (by kernel_rfl) (by kernel_rfl) (by kernel_rfl) h0 ?hstep ?hend
        case hstep =>
          intro ix o ho L ac w1 hD hL hed hcl hout hv
          match ix, ho with
          | 0, ho =>
            simp at ho
            subst ho
            have e4 : ac.tmps.getD 4 undef = cmpV := hout 4 (by decide +kernel)
            exact .inl ⟨rfl, gen_reads (cmpV) (by simp [go_sem, Act.eval, -Array.getD_eq_getD_getElem?, e4]) rfl (hD)⟩
          | 1, ho =>
            simp at ho
            subst ho
            have e0 : ac.tmps.getD 0 undef = .slice (some ⟨g, 0, none⟩) n cap := hout 0 (by decide +kernel)
            exact .inl ⟨rfl, gen_reads (.slice (some ⟨g, 0, none⟩) n cap) (by simp [go_sem, Act.eval, -Array.getD_eq_getD_getElem?, e0]) rfl (hD)⟩
          | 2, ho =>
            simp at ho
            subst ho
            have e12 : ac.tmps.getD 12 undef = .int .i64 (c : Int) := hout 12 (by decide +kernel)
            exact .inl ⟨rfl, gen_reads (.int .i64 (c : Int)) (by simp [go_sem, Act.eval, -Array.getD_eq_getD_getElem?, e12]) rfl (hD)⟩
          | 3, ho =>
            simp at ho
            subst ho
            have e41 : ac.tmps.getD 41 undef = .slice (some ⟨g, 0, none⟩) n cap := hv 1 41 rfl (by kernel_rfl)
            have e42 : ac.tmps.getD 42 undef = .int .i64 (c : Int) := hv 2 42 rfl (by kernel_rfl)
            exact .inl ⟨rfl, gen_reads (.pointer (some ⟨g, c * 11, none⟩)) (by simp [go_sem, Act.eval, -Array.getD_eq_getD_getElem?, e41, e42, c0, c1]) rfl (hD)⟩
          | 4, ho =>
            simp at ho
            subst ho
            have e43 : ac.tmps.getD 43 undef = .pointer (some ⟨g, c * 11, none⟩) := hv 3 43 rfl (by kernel_rfl)
            obtain ⟨c0, c1, c2, c3, c4, c5, c6, c7, c8, c9, c10⟩ := rowAt_all (hD.row c (by rw [plst_len]; omega))
            rw [plst_get R s n c (by omega)] at c0 c1 c2 c3 c4 c5 c6 c7 c8 c9 c10
            exact .inl ⟨rfl, gen_reads (rowV (R (s c))) (by simp [go_sem, Act.eval, -Array.getD_eq_getD_getElem?, e43, c0, c1, c2, c3, c4, c5, c6, c7, c8, c9, c10, rowV]) rfl (hD)⟩
          | 5, ho =>
            simp at ho
            subst ho
            have e0 : ac.tmps.getD 0 undef = .slice (some ⟨g, 0, none⟩) n cap := hout 0 (by decide +kernel)
            exact .inl ⟨rfl, gen_reads (.slice (some ⟨g, 0, none⟩) n cap) (by simp [go_sem, Act.eval, -Array.getD_eq_getD_getElem?, e0]) rfl (hD)⟩
          | 6, ho =>
            simp at ho
            subst ho
            have e1 : ac.tmps.getD 1 undef = .int .i64 (a : Int) := hout 1 (by decide +kernel)
            exact .inl ⟨rfl, gen_reads (.int .i64 (a : Int)) (by simp [go_sem, Act.eval, -Array.getD_eq_getD_getElem?, e1]) rfl (hD)⟩
          | 7, ho =>
            simp at ho
            subst ho
            have e45 : ac.tmps.getD 45 undef = .slice (some ⟨g, 0, none⟩) n cap := hv 5 45 rfl (by kernel_rfl)
            have e46 : ac.tmps.getD 46 undef = .int .i64 (a : Int) := hv 6 46 rfl (by kernel_rfl)
            exact .inl ⟨rfl, gen_reads (.pointer (some ⟨g, a * 11, none⟩)) (by simp [go_sem, Act.eval, -Array.getD_eq_getD_getElem?, e45, e46, a0, a1]) rfl (hD)⟩
          | 8, ho =>
            simp at ho
            subst ho
            have e47 : ac.tmps.getD 47 undef = .pointer (some ⟨g, a * 11, none⟩) := hv 7 47 rfl (by kernel_rfl)
            obtain ⟨c0, c1, c2, c3, c4, c5, c6, c7, c8, c9, c10⟩ := rowAt_all (hD.row a (by rw [plst_len]; omega))
            rw [plst_get R s n a (by omega)] at c0 c1 c2 c3 c4 c5 c6 c7 c8 c9 c10
            exact .inl ⟨rfl, gen_reads (rowV (R (s a))) (by simp [go_sem, Act.eval, -Array.getD_eq_getD_getElem?, e47, c0, c1, c2, c3, c4, c5, c6, c7, c8, c9, c10, rowV]) rfl (hD)⟩
          | 9, ho =>
            simp at ho
            subst ho
            have e40 : ac.tmps.getD 40 undef = cmpV := hv 0 40 rfl (by kernel_rfl)
            have e44 : ac.tmps.getD 44 undef = rowV (R (s c)) := hv 4 44 rfl (by kernel_rfl)
            have e48 : ac.tmps.getD 48 undef = rowV (R (s a)) := hv 8 48 rfl (by kernel_rfl)
            refine .inl ⟨rfl, gen_enters 71 #[rowV (R (s c)), rowV (R (s a))] (by simp [go_sem, Act.eval, -Array.getD_eq_getD_getElem?, cmpV, e40, e44, e48]) ?_⟩
            refine (cmprow_any _ _ _).mono ?_
            rintro e w2 ⟨rfl, hb2⟩
            exact ⟨_, rfl, rfl, hD.below hb2⟩
          | 10, ho =>
            simp at ho
            subst ho
            have e49 : ac.tmps.getD 49 undef = .int .i64 (cmpI (R (s c)).ix (R (s a)).ix) := hv 9 49 rfl (by kernel_rfl)
            exact .inl ⟨rfl, gen_reads (.bool false) (by simp [go_sem, Act.eval, -Array.getD_eq_getD_getElem?, e49, cmpI_neg, hcmp]) rfl (hD)⟩
          | ix + 11, ho => simp at ho
        case hend =>
          intro v L w1 hD hall hv
          have h10 : v 10 = .bool false := hv 10 50 rfl
          have HE := hide hD
          clear hv hall hD h0
          simp only [putOps, List.getElem?_cons_zero, List.getElem?_cons_succ, Option.bind_some, List.length_cons, List.length_nil, Nat.reduceAdd, h10]
          clear h10 hc
          go_frame
          go_wp2
          go_roundw
          case rel =>
            obtain ⟨q1, q2⟩ := unhide HCC
            exact ⟨i, rfl, c, rfl, hi, q1, by omega, unhide HE, unhide HLO, fun x h1 h2 => by
              rcases Nat.lt_or_ge c x with hx | hx
              · have q3 : (R (s c)).ix ≤ (R (s x)).ix := tl_key ((unhide HH).r c x (by omega) hx h2)
                have q4 := unhide HCM
                omega
              · rw [show x = c by omega]; have q4 := unhide HCM; omega⟩
          case measure => have := unhide HCC; simp [intOf]; omega
    · obtain rfl : i = j := by omega
      have i1 : ¬ (i : Int) < (i : Int) := by omega
      have HR := hide (merge_one (unhide HH) hi hjb hlo hhi)
      have HS := hide hDL
      clear hlo hhi hDL HH
      go_wp2
      go_loopw [13] (fun t wr => ∃ k : Nat, t = .int .i64 (k : Int) ∧ a ≤ k ∧ k + 1 ≤ i ∧ DL g cap W0 (plst R (rot s a (a + 1) (k + 1)) n) wr) (fun t _ => i - (intOf t).toNat)
      case atStart => exact ⟨a, rfl, Nat.le_refl _, hi, by rw [rot_self]; exact unhide HS⟩
      case round =>
        clear HS
        obtain ⟨k, rfl, hk1, hk2, hDL⟩ := hrel
        by_cases hlt2 : k + 1 < i
        · have HSW := hide (rot_push s a k hk1)
          generalize rot s a (a + 1) (k + 1) = u at *
          have h0 : DL g cap W0 (plst R u n) wr.drew := hDL.below ((Below.refl _ _).drew)
          obtain ⟨y, hy⟩ : ∃ y, y = k + 1 := ⟨_, rfl⟩
          rw [← hy] at HSW
          have hwy : IntKind.i64.wrap ((k : Int) + 1) = (y : Int) := by rw [i64_id (by omega) (by omega)]; omega
          have k0 : (0 : Int) ≤ (k : Int) := by omega
          have k1 : (k : Int) < (n : Int) := by omega
          have y0 : (0 : Int) ≤ (y : Int) := by omega
          have y1 : (y : Int) < (n : Int) := by omega
          have kk : (k : Int) < (i : Int) - 1 := by omega
          have HKY : Hid (k < y) := hide (by omega)
          have HY := hide hy
          clear hDL hy
          go_wp2
          refine wp_region_gen (fun ix v => (([fun v => v = .slice (some ⟨g, 0, none⟩) n cap, fun v => v = .int .i64 (k : Int), fun v => v = .slice (some ⟨g, 0, none⟩) n cap, fun v => v = .int .i64 (k : Int), fun v => v = .int .i64 (y : Int), fun v => v = .slice (some ⟨g, 0, none⟩) n cap, fun v => v = .int .i64 (k : Int), fun v => v = .int .i64 (y : Int), fun v => v = .pointer (some ⟨g, y * 11, none⟩), fun v => v = rowV (R (u y)), fun v => v = .slice (some ⟨g, 0, none⟩) n cap, fun v => v = .int .i64 (k : Int), fun v => v = .pointer (some ⟨g, k * 11, none⟩), fun v => v = rowV (R (u k)), fun v => v = .pointer (some ⟨g, k * 11, none⟩), fun _ => True, fun v => v = .pointer (some ⟨g, y * 11, none⟩), fun _ => True] : List (Value → Prop)).getD ix (fun _ => True)) v) (fun L W => DL g cap W0 (if L 15 = true then (if L 17 = true then ((plst R u n).set k (R (u y))).set y (R (u k)) else (plst R u n).set k (R (u y))) else plst R u n) W) (by kernel_rfl) (by kernel_rfl) (by kernel_rfl) (by simpa using h0) ?hstep ?hend
          case hstep =>
            intro ix o ho L ac w1 hD hL hed hcl hout hv
            match ix, ho with
            | 0, ho =>
              simp at ho
              subst ho
              have e0 : ac.tmps.getD 0 undef = .slice (some ⟨g, 0, none⟩) n cap := hout 0 (by decide +kernel)
              exact .inl ⟨rfl, gen_reads (.slice (some ⟨g, 0, none⟩) n cap) (by simp [go_sem, Act.eval, -Array.getD_eq_getD_getElem?, e0]) rfl (by simpa [upd] using hD)⟩
            | 1, ho =>
              simp at ho
              subst ho
              have e13 : ac.tmps.getD 13 undef = .int .i64 (k : Int) := hout 13 (by decide +kernel)
              exact .inl ⟨rfl, gen_reads (.int .i64 (k : Int)) (by simp [go_sem, Act.eval, -Array.getD_eq_getD_getElem?, e13]) rfl (by simpa [upd] using hD)⟩
            | 2, ho =>
              simp at ho
              subst ho
              have e0 : ac.tmps.getD 0 undef = .slice (some ⟨g, 0, none⟩) n cap := hout 0 (by decide +kernel)
              exact .inl ⟨rfl, gen_reads (.slice (some ⟨g, 0, none⟩) n cap) (by simp [go_sem, Act.eval, -Array.getD_eq_getD_getElem?, e0]) rfl (by simpa [upd] using hD)⟩
            | 3, ho =>
              simp at ho
              subst ho
              have e13 : ac.tmps.getD 13 undef = .int .i64 (k : Int) := hout 13 (by decide +kernel)
              exact .inl ⟨rfl, gen_reads (.int .i64 (k : Int)) (by simp [go_sem, Act.eval, -Array.getD_eq_getD_getElem?, e13]) rfl (by simpa [upd] using hD)⟩
            | 4, ho =>
              simp at ho
              subst ho
              have e64 : ac.tmps.getD 64 undef = .int .i64 (k : Int) := hv 3 64 rfl (by kernel_rfl)
              exact .inl ⟨rfl, gen_reads (.int .i64 (y : Int)) (by simp [go_sem, Act.eval, -Array.getD_eq_getD_getElem?, e64, hwy]) rfl (by simpa [upd] using hD)⟩
            | 5, ho =>
              simp at ho
              subst ho
              have e0 : ac.tmps.getD 0 undef = .slice (some ⟨g, 0, none⟩) n cap := hout 0 (by decide +kernel)
              exact .inl ⟨rfl, gen_reads (.slice (some ⟨g, 0, none⟩) n cap) (by simp [go_sem, Act.eval, -Array.getD_eq_getD_getElem?, e0]) rfl (by simpa [upd] using hD)⟩
            | 6, ho =>
              simp at ho
              subst ho
              have e13 : ac.tmps.getD 13 undef = .int .i64 (k : Int) := hout 13 (by decide +kernel)
              exact .inl ⟨rfl, gen_reads (.int .i64 (k : Int)) (by simp [go_sem, Act.eval, -Array.getD_eq_getD_getElem?, e13]) rfl (by simpa [upd] using hD)⟩
            | 7, ho =>
              simp at ho
              subst ho
              have e67 : ac.tmps.getD 67 undef = .int .i64 (k : Int) := hv 6 67 rfl (by kernel_rfl)
              exact .inl ⟨rfl, gen_reads (.int .i64 (y : Int)) (by simp [go_sem, Act.eval, -Array.getD_eq_getD_getElem?, e67, hwy]) rfl (by simpa [upd] using hD)⟩
            | 8, ho =>
              simp at ho
              subst ho
              have e66 : ac.tmps.getD 66 undef = .slice (some ⟨g, 0, none⟩) n cap := hv 5 66 rfl (by kernel_rfl)
              have e68 : ac.tmps.getD 68 undef = .int .i64 (y : Int) := hv 7 68 rfl (by kernel_rfl)
              exact .inl ⟨rfl, gen_reads (.pointer (some ⟨g, y * 11, none⟩)) (by simp [go_sem, Act.eval, -Array.getD_eq_getD_getElem?, e66, e68, y0, y1]) rfl (by simpa [upd] using hD)⟩
            | 9, ho =>
              simp at ho
              subst ho
              have e69 : ac.tmps.getD 69 undef = .pointer (some ⟨g, y * 11, none⟩) := hv 8 69 rfl (by kernel_rfl)
              have hp : L 15 = false := by
                cases h : L 15
                · rfl
                · exact absurd (hcl 15 _ rfl h 9 (by kernel_rfl)) (by rw [hL]; decide)
              have hD' := hD
              rw [hp] at hD'
              simp only [Bool.false_eq_true, if_false] at hD'
              obtain ⟨c0, c1, c2, c3, c4, c5, c6, c7, c8, c9, c10⟩ := rowAt_all (hD'.row y (by rw [plst_len]; omega))
              rw [plst_get R u n y (by omega)] at c0 c1 c2 c3 c4 c5 c6 c7 c8 c9 c10
              exact .inl ⟨rfl, gen_reads (rowV (R (u y))) (by simp [go_sem, Act.eval, -Array.getD_eq_getD_getElem?, e69, c0, c1, c2, c3, c4, c5, c6, c7, c8, c9, c10, rowV]) rfl (by simpa [upd] using hD)⟩
            | 10, ho =>
              simp at ho
              subst ho
              have e0 : ac.tmps.getD 0 undef = .slice (some ⟨g, 0, none⟩) n cap := hout 0 (by decide +kernel)
              exact .inl ⟨rfl, gen_reads (.slice (some ⟨g, 0, none⟩) n cap) (by simp [go_sem, Act.eval, -Array.getD_eq_getD_getElem?, e0]) rfl (by simpa [upd] using hD)⟩
            | 11, ho =>
              simp at ho
              subst ho
              have e13 : ac.tmps.getD 13 undef = .int .i64 (k : Int) := hout 13 (by decide +kernel)
              exact .inl ⟨rfl, gen_reads (.int .i64 (k : Int)) (by simp [go_sem, Act.eval, -Array.getD_eq_getD_getElem?, e13]) rfl (by simpa [upd] using hD)⟩
            | 12, ho =>
              simp at ho
              subst ho
              have e71 : ac.tmps.getD 71 undef = .slice (some ⟨g, 0, none⟩) n cap := hv 10 71 rfl (by kernel_rfl)
              have e72 : ac.tmps.getD 72 undef = .int .i64 (k : Int) := hv 11 72 rfl (by kernel_rfl)
              exact .inl ⟨rfl, gen_reads (.pointer (some ⟨g, k * 11, none⟩)) (by simp [go_sem, Act.eval, -Array.getD_eq_getD_getElem?, e71, e72, k0, k1]) rfl (by simpa [upd] using hD)⟩
            | 13, ho =>
              simp at ho
              subst ho
              have e73 : ac.tmps.getD 73 undef = .pointer (some ⟨g, k * 11, none⟩) := hv 12 73 rfl (by kernel_rfl)
              have hp : L 15 = false := by
                cases h : L 15
                · rfl
                · exact absurd (hcl 15 _ rfl h 13 (by kernel_rfl)) (by rw [hL]; decide)
              have hD' := hD
              rw [hp] at hD'
              simp only [Bool.false_eq_true, if_false] at hD'
              obtain ⟨c0, c1, c2, c3, c4, c5, c6, c7, c8, c9, c10⟩ := rowAt_all (hD'.row k (by rw [plst_len]; omega))
              rw [plst_get R u n k (by omega)] at c0 c1 c2 c3 c4 c5 c6 c7 c8 c9 c10
              exact .inl ⟨rfl, gen_reads (rowV (R (u k))) (by simp [go_sem, Act.eval, -Array.getD_eq_getD_getElem?, e73, c0, c1, c2, c3, c4, c5, c6, c7, c8, c9, c10, rowV]) rfl (by simpa [upd] using hD)⟩
            | 14, ho =>
              simp at ho
              subst ho
              have e61 : ac.tmps.getD 61 undef = .slice (some ⟨g, 0, none⟩) n cap := hv 0 61 rfl (by kernel_rfl)
              have e62 : ac.tmps.getD 62 undef = .int .i64 (k : Int) := hv 1 62 rfl (by kernel_rfl)
              exact .inl ⟨rfl, gen_reads (.pointer (some ⟨g, k * 11, none⟩)) (by simp [go_sem, Act.eval, -Array.getD_eq_getD_getElem?, e61, e62, k0, k1]) rfl (by simpa [upd] using hD)⟩
            | 15, ho =>
              simp at ho
              subst ho
              have e75 : ac.tmps.getD 75 undef = .pointer (some ⟨g, k * 11, none⟩) := hv 14 75 rfl (by kernel_rfl)
              have e70 : ac.tmps.getD 70 undef = rowV (R (u y)) := hv 9 70 rfl (by kernel_rfl)
              have hq : L 17 = false := by
                cases h : L 17
                · rfl
                · exact absurd (hcl 17 _ rfl h 15 (by kernel_rfl)) (by rw [hL]; decide)
              have hD' := hD
              rw [hL] at hD'
              simp only [Bool.false_eq_true, if_false] at hD'
              refine .inl ⟨rfl, wp_store_mid 53 (.tmp 75) (.tmp 70) rfl g (k * 11) (rowCells (R (u y))).toArray (by simp [Act.eval, -Array.getD_eq_getD_getElem?, e75]) (by simp only [Act.eval, e70]; rfl) (by rw [List.size_toArray, rowCells_len]; exact hD'.there k (by simp only [List.length_set, plst_len]; omega)) size61a (all_oneCell_toArray (rowCells_one _)) ⟨undef, rfl, trivial, ?_⟩⟩
              have := hD'.set k (by simp only [List.length_set, plst_len]; omega) (R (u y))
              simpa [upd, hq] using this
            | 16, ho =>
              simp at ho
              subst ho
              have e63 : ac.tmps.getD 63 undef = .slice (some ⟨g, 0, none⟩) n cap := hv 2 63 rfl (by kernel_rfl)
              have e65 : ac.tmps.getD 65 undef = .int .i64 (y : Int) := hv 4 65 rfl (by kernel_rfl)
              exact .inl ⟨rfl, gen_reads (.pointer (some ⟨g, y * 11, none⟩)) (by simp [go_sem, Act.eval, -Array.getD_eq_getD_getElem?, e63, e65, y0, y1]) rfl (by simpa [upd] using hD)⟩
            | 17, ho =>
              simp at ho
              subst ho
              have e76 : ac.tmps.getD 76 undef = .pointer (some ⟨g, y * 11, none⟩) := hv 16 76 rfl (by kernel_rfl)
              have e74 : ac.tmps.getD 74 undef = rowV (R (u k)) := hv 13 74 rfl (by kernel_rfl)
              have hq : L 15 = true := hed 15 (by kernel_rfl)
              have hD' := hD
              rw [hq, hL] at hD'
              simp only [Bool.false_eq_true, if_false, if_true] at hD'
              refine .inl ⟨rfl, wp_store_mid 53 (.tmp 76) (.tmp 74) rfl g (y * 11) (rowCells (R (u k))).toArray (by simp [Act.eval, -Array.getD_eq_getD_getElem?, e76]) (by simp only [Act.eval, e74]; rfl) (by rw [List.size_toArray, rowCells_len]; exact hD'.there y (by simp only [List.length_set, plst_len]; omega)) size61a (all_oneCell_toArray (rowCells_one _)) ⟨undef, rfl, trivial, ?_⟩⟩
              have := hD'.set y (by simp only [List.length_set, plst_len]; omega) (R (u k))
              simpa [upd, hq] using this
            | ix + 18, ho => simp at ho
          case hend =>
            intro v2 L2 w2 hD2 hall2 hv2
            have hE : DL g cap W0 (((plst R u n).set k (R (u y))).set y (R (u k))) w2 := by
              have := hD2
              rw [hall2 15 (by decide), hall2 17 (by decide)] at this
              simpa using this
            rw [plst_swap R u n k y (unhide HKY) (by omega)] at hE
            have HE := hide hE
            clear hv2 hall2 hD2 hE
            simp only [putOps, List.getElem?_cons_zero, List.getElem?_cons_succ, Option.bind_some, List.length_cons, List.length_nil, Nat.reduceAdd]
            go_frame
            clear h0
            go_wp2
            go_roundw
            case rel => have hy := unhide HY; subst hy; exact ⟨k + 1, by go_num, by omega, by omega, by rw [← unhide HSW]; exact unhide HE⟩
            case measure => have hy := unhide HY; simp [intOf]; omega
        · have kk : ¬ (k : Int) < (i : Int) - 1 := by omega
          have HE : Hid (∃ t, DL g cap W0 (plst R t n) wr ∧ SP s t a b ∧ Srt (fun p => (R p).ix) t a b) := hide ⟨rot s a (a + 1) i, by rw [show i = k + 1 by omega]; exact hDL, (rot_sp s a (a + 1) i (by omega) hi).wide (Nat.le_refl _) hjb, unhide HR⟩
          clear hDL
          go_wp2
          exact bodyPost_ret (v := .tuple #[]) (by simp [results, Try.results111, go_sem]) rfl ⟨rfl, unhide HE⟩
set_option maxRecDepth 8000 in
set_option maxHeartbeats 8000000 in
theorem sym_last (g cap n a m : Nat) (R : Nat → RowI) (s : Nat → Nat) (W0 : World) (h1 : a + 1 < m) (h3 : m + 1 ≤ n) (hn : n ≤ 1000) (h : DL g cap W0 (plst R s n) W0) (hH : Halves (fun p => (R p).ix) s a m (m + 1)) :
    Calls Try.prog 111 #[.slice (some ⟨g, 0, none⟩) n cap, .int .i64 (a : Int), .int .i64 (m : Int), .int .i64 ((m : Int) + 1), cmpV] W0 fun e w' => e = .returned (.tuple #[]) ∧ ∃ t, DL g cap W0 (plst R t n) w' ∧ SP s t a (m + 1) ∧ Srt (fun p => (R p).ix) t a (m + 1) := by
  have H := hide h
  have HH := hide hH
  clear h hH
  have m0 : (0 : Int) ≤ (m : Int) := by omega
  have m1 : (m : Int) < (n : Int) := by omega
  have d1 : ¬ (m : Int) - (a : Int) = 1 := by omega
  go_enter Try.func111, Try.ntmps111
  go_wp2
  go_loopw [14, 15] (fun t u wr => ∃ (i j : Nat), t = .int .i64 (i : Int) ∧ u = .int .i64 (j : Int) ∧ a ≤ i ∧ i ≤ j ∧ j ≤ m ∧ DL g cap W0 (plst R s n) wr ∧ (∀ x, a ≤ x → x < i → ¬ (R (s m)).ix < (R (s x)).ix) ∧ (∀ x, j ≤ x → x < m → (R (s m)).ix < (R (s x)).ix)) (fun t u _ => (intOf u).toNat - (intOf t).toNat)
  case atStart => exact ⟨a, m, rfl, rfl, Nat.le_refl _, by omega, Nat.le_refl _, unhide H, fun x h1 h2 => by omega, fun x h1 h2 => by omega⟩
  case round =>
    clear H
    obtain ⟨i, j, rfl, rfl, hi, hij, hjb, hDL, hlo, hhi⟩ := hrel
    by_cases hlt : i < j
    · have i1 : (i : Int) < (j : Int) := by omega
      have h0 : DL g cap W0 (plst R s n) wr.drew := hDL.below ((Below.refl _ _).drew)
      obtain ⟨c, hc⟩ : ∃ c : Nat, ((i : Int) + (j : Int)) / 2 = (c : Int) := ⟨(i + j) / 2, by omega⟩
      have c0 : (0 : Int) ≤ (c : Int) := by omega
      have c1 : (c : Int) < (n : Int) := by omega
      have HCC : Hid (i ≤ c ∧ c < j) := hide (by omega)
      have HLO := hide hlo
      have HHI := hide hhi
      clear hDL hlo hhi
      by_cases hcmp : (R (s m)).ix < (R (s c)).ix
      · have HCM := hide hcmp
        go_wp2
        refine wp_region_gen (fun ix v => (([fun v => v = cmpV, fun v => v = .slice (some ⟨g, 0, none⟩) n cap, fun v => v = .int .i64 (m : Int), fun v => v = .pointer (some ⟨g, m * 11, none⟩), fun v => v = rowV (R (s m)), fun v => v = .slice (some ⟨g, 0, none⟩) n cap, fun v => v = .int .i64 (c : Int), fun v => v = .pointer (some ⟨g, c * 11, none⟩), fun v => v = rowV (R (s c)), fun v => v = .int .i64 (cmpI (R (s m)).ix (R (s c)).ix), fun v => v = .bool true, fun v => v = .bool false] : List (Value → Prop)).getD ix (fun _ => True)) v) (fun _ W => DL g cap W0 (plst R s n) W) (by kernel_rfl) (by kernel_rfl) (by kernel_rfl) h0 ?hstep ?hend
        case hstep =>
          intro ix o ho L ac w1 hD hL hed hcl hout hv
          match ix, ho with
          | 0, ho =>
            simp at ho
            subst ho
            have e4 : ac.tmps.getD 4 undef = cmpV := hout 4 (by decide +kernel)
            exact .inl ⟨rfl, gen_reads (cmpV) (by simp [go_sem, Act.eval, -Array.getD_eq_getD_getElem?, e4]) rfl (hD)⟩
          | 1, ho =>
            simp at ho
            subst ho
            have e0 : ac.tmps.getD 0 undef = .slice (some ⟨g, 0, none⟩) n cap := hout 0 (by decide +kernel)
            exact .inl ⟨rfl, gen_reads (.slice (some ⟨g, 0, none⟩) n cap) (by simp [go_sem, Act.eval, -Array.getD_eq_getD_getElem?, e0]) rfl (hD)⟩
          | 2, ho =>
            simp at ho
            subst ho
            have e2 : ac.tmps.getD 2 undef = .int .i64 (m : Int) := hout 2 (by decide +kernel)
            exact .inl ⟨rfl, gen_reads (.int .i64 (m : Int)) (by simp [go_sem, Act.eval, -Array.getD_eq_getD_getElem?, e2]) rfl (hD)⟩
          | 3, ho =>
            simp at ho
            subst ho
            have e93 : ac.tmps.getD 93 undef = .slice (some ⟨g, 0, none⟩) n cap := hv 1 93 rfl (by kernel_rfl)
            have e94 : ac.tmps.getD 94 undef = .int .i64 (m : Int) := hv 2 94 rfl (by kernel_rfl)
            exact .inl ⟨rfl, gen_reads (.pointer (some ⟨g, m * 11, none⟩)) (by simp [go_sem, Act.eval, -Array.getD_eq_getD_getElem?, e93, e94, m0, m1]) rfl (hD)⟩
          | 4, ho =>
            simp at ho
            subst ho
            have e95 : ac.tmps.getD 95 undef = .pointer (some ⟨g, m * 11, none⟩) := hv 3 95 rfl (by kernel_rfl)
            obtain ⟨c0, c1, c2, c3, c4, c5, c6, c7, c8, c9, c10⟩ := rowAt_all (hD.row m (by rw [plst_len]; omega))
            rw [plst_get R s n m (by omega)] at c0 c1 c2 c3 c4 c5 c6 c7 c8 c9 c10
            exact .inl ⟨rfl, gen_reads (rowV (R (s m))) (by simp [go_sem, Act.eval, -Array.getD_eq_getD_getElem?, e95, c0, c1, c2, c3, c4, c5, c6, c7, c8, c9, c10, rowV]) rfl (hD)⟩
          | 5, ho =>
            simp at ho
            subst ho
            have e0 : ac.tmps.getD 0 undef = .slice (some ⟨g, 0, none⟩) n cap := hout 0 (by decide +kernel)
            exact .inl ⟨rfl, gen_reads (.slice (some ⟨g, 0, none⟩) n cap) (by simp [go_sem, Act.eval, -Array.getD_eq_getD_getElem?, e0]) rfl (hD)⟩
          | 6, ho =>
            simp at ho
            subst ho
            have e16 : ac.tmps.getD 16 undef = .int .i64 (c : Int) := hout 16 (by decide +kernel)
            exact .inl ⟨rfl, gen_reads (.int .i64 (c : Int)) (by simp [go_sem, Act.eval, -Array.getD_eq_getD_getElem?, e16]) rfl (hD)⟩
          | 7, ho =>
            simp at ho
            subst ho
            have e97 : ac.tmps.getD 97 undef = .slice (some ⟨g, 0, none⟩) n cap := hv 5 97 rfl (by kernel_rfl)
            have e98 : ac.tmps.getD 98 undef = .int .i64 (c : Int) := hv 6 98 rfl (by kernel_rfl)
            exact .inl ⟨rfl, gen_reads (.pointer (some ⟨g, c * 11, none⟩)) (by simp [go_sem, Act.eval, -Array.getD_eq_getD_getElem?, e97, e98, c0, c1]) rfl (hD)⟩
          | 8, ho =>
            simp at ho
            subst ho
            have e99 : ac.tmps.getD 99 undef = .pointer (some ⟨g, c * 11, none⟩) := hv 7 99 rfl (by kernel_rfl)
            obtain ⟨c0, c1, c2, c3, c4, c5, c6, c7, c8, c9, c10⟩ := rowAt_all (hD.row c (by rw [plst_len]; omega))
            rw [plst_get R s n c (by omega)] at c0 c1 c2 c3 c4 c5 c6 c7 c8 c9 c10
            exact .inl ⟨rfl, gen_reads (rowV (R (s c))) (by simp [go_sem, Act.eval, -Array.getD_eq_getD_getElem?, e99, c0, c1, c2, c3, c4, c5, c6, c7, c8, c9, c10, rowV]) rfl (hD)⟩
          | 9, ho =>
            simp at ho
            subst ho
            have e92 : ac.tmps.getD 92 undef = cmpV := hv 0 92 rfl (by kernel_rfl)
            have e96 : ac.tmps.getD 96 undef = rowV (R (s m)) := hv 4 96 rfl (by kernel_rfl)
            have e100 : ac.tmps.getD 100 undef = rowV (R (s c)) := hv 8 100 rfl (by kernel_rfl)
            refine .inl ⟨rfl, gen_enters 71 #[rowV (R (s m)), rowV (R (s c))] (by simp [go_sem, Act.eval, -Array.getD_eq_getD_getElem?, cmpV, e92, e96, e100]) ?_⟩
            refine (cmprow_any _ _ _).mono ?_
            rintro e w2 ⟨rfl, hb2⟩
            exact ⟨_, rfl, rfl, hD.below hb2⟩
          | 10, ho =>
            simp at ho
            subst ho
            have e101 : ac.tmps.getD 101 undef = .int .i64 (cmpI (R (s m)).ix (R (s c)).ix) := hv 9 101 rfl (by kernel_rfl)
            exact .inl ⟨rfl, gen_reads (.bool true) (by simp [go_sem, Act.eval, -Array.getD_eq_getD_getElem?, e101, cmpI_neg, hcmp]) rfl (hD)⟩
          | 11, ho =>
            simp at ho
            subst ho
            have e102 : ac.tmps.getD 102 undef = .bool true := hv 10 102 rfl (by kernel_rfl)
            exact .inl ⟨rfl, gen_reads (.bool false) (by simp [go_sem, Act.eval, -Array.getD_eq_getD_getElem?, e102]) rfl (hD)⟩
          | ix + 12, ho => simp at ho
        case hend =>
          intro v L w1 hD hall hv
          have h11 : v 11 = .bool false := hv 11 103 rfl
          have HE := hide hD
          clear hv hall hD h0
          simp only [putOps, List.getElem?_cons_zero, List.getElem?_cons_succ, Option.bind_some, List.length_cons, List.length_nil, Nat.reduceAdd, h11]
          clear h11 hc
          go_frame
          go_wp2
          go_roundw
          case rel =>
            obtain ⟨q1, q2⟩ := unhide HCC
            exact ⟨i, rfl, c, rfl, hi, q1, by omega, unhide HE, unhide HLO, fun x h1 h2 => by
              rcases Nat.lt_or_ge c x with hx | hx
              · have q3 : (R (s c)).ix ≤ (R (s x)).ix := tl_key ((unhide HH).l c x (by omega) hx h2)
                have q4 := unhide HCM
                omega
              · rw [show x = c by omega]; exact unhide HCM⟩
          case measure => have := unhide HCC; simp [intOf]; omega
      · have HCM := hide hcmp
        go_wp2
        refine wp_region_gen (fun ix v => (([fun v => v = cmpV, fun v => v = .slice (some ⟨g, 0, none⟩) n cap, fun v => v = .int .i64 (m : Int), fun v => v = .pointer (some ⟨g, m * 11, none⟩), fun v => v = rowV (R (s m)), fun v => v = .slice (some ⟨g, 0, none⟩) n cap, fun v => v = .int .i64 (c : Int), fun v => v = .pointer (some ⟨g, c * 11, none⟩), fun v => v = rowV (R (s c)), fun v => v = .int .i64 (cmpI (R (s m)).ix (R (s c)).ix), fun v => v = .bool false, fun v => v = .bool true] : List (Value → Prop)).getD ix (fun _ => True)) v) (fun _ W => DL g cap W0 (plst R s n) W) (by kernel_rfl) (by kernel_rfl) (by kernel_rfl) h0 ?hstep ?hend
        case hstep =>
          intro ix o ho L ac w1 hD hL hed hcl hout hv
          match ix, ho with
          | 0, ho =>
            simp at ho
            subst ho
            have e4 : ac.tmps.getD 4 undef = cmpV := hout 4 (by decide +kernel)
            exact .inl ⟨rfl, gen_reads (cmpV) (by simp [go_sem, Act.eval, -Array.getD_eq_getD_getElem?, e4]) rfl (hD)⟩
          | 1, ho =>
            simp at ho
            subst ho
            have e0 : ac.tmps.getD 0 undef = .slice (some ⟨g, 0, none⟩) n cap := hout 0 (by decide +kernel)
            exact .inl ⟨rfl, gen_reads (.slice (some ⟨g, 0, none⟩) n cap) (by simp [go_sem, Act.eval, -Array.getD_eq_getD_getElem?, e0]) rfl (hD)⟩
          | 2, ho =>
            simp at ho
            subst ho
            have e2 : ac.tmps.getD 2 undef = .int .i64 (m : Int) := hout 2 (by decide +kernel)
            exact .inl ⟨rfl, gen_reads (.int .i64 (m : Int)) (by simp [go_sem, Act.eval, -Array.getD_eq_getD_getElem?, e2]) rfl (hD)⟩
          | 3, ho =>
            simp at ho
            subst ho
            have e93 : ac.tmps.getD 93 undef = .slice (some ⟨g, 0, none⟩) n cap := hv 1 93 rfl (by kernel_rfl)
            have e94 : ac.tmps.getD 94 undef = .int .i64 (m : Int) := hv 2 94 rfl (by kernel_rfl)
            exact .inl ⟨rfl, gen_reads (.pointer (some ⟨g, m * 11, none⟩)) (by simp [go_sem, Act.eval, -Array.getD_eq_getD_getElem?, e93, e94, m0, m1]) rfl (hD)⟩
          | 4, ho =>
            simp at ho
            subst ho
            have e95 : ac.tmps.getD 95 undef = .pointer (some ⟨g, m * 11, none⟩) := hv 3 95 rfl (by kernel_rfl)
            obtain ⟨c0, c1, c2, c3, c4, c5, c6, c7, c8, c9, c10⟩ := rowAt_all (hD.row m (by rw [plst_len]; omega))
            rw [plst_get R s n m (by omega)] at c0 c1 c2 c3 c4 c5 c6 c7 c8 c9 c10
            exact .inl ⟨rfl, gen_reads (rowV (R (s m))) (by simp [go_sem, Act.eval, -Array.getD_eq_getD_getElem?, e95, c0, c1, c2, c3, c4, c5, c6, c7, c8, c9, c10, rowV]) rfl (hD)⟩
          | 5, ho =>
            simp at ho
            subst ho
            have e0 : ac.tmps.getD 0 undef = .slice (some ⟨g, 0, none⟩) n cap := hout 0 (by decide +kernel)
            exact .inl ⟨rfl, gen_reads (.slice (some ⟨g, 0, none⟩) n cap) (by simp [go_sem, Act.eval, -Array.getD_eq_getD_getElem?, e0]) rfl (hD)⟩
          | 6, ho =>
            simp at ho
            subst ho
            have e16 : ac.tmps.getD 16 undef = .int .i64 (c : Int) := hout 16 (by decide +kernel)
            exact .inl ⟨rfl, gen_reads (.int .i64 (c : Int)) (by simp [go_sem, Act.eval, -Array.getD_eq_getD_getElem?, e16]) rfl (hD)⟩
          | 7, ho =>
            simp at ho
            subst ho
            have e97 : ac.tmps.getD 97 undef = .slice (some ⟨g, 0, none⟩) n cap := hv 5 97 rfl (by kernel_rfl)
            have e98 : ac.tmps.getD 98 undef = .int .i64 (c : Int) := hv 6 98 rfl (by kernel_rfl)
            exact .inl ⟨rfl, gen_reads (.pointer (some ⟨g, c * 11, none⟩)) (by simp [go_sem, Act.eval, -Array.getD_eq_getD_getElem?, e97, e98, c0, c1]) rfl (hD)⟩
          | 8, ho =>
            simp at ho
            subst ho
            have e99 : ac.tmps.getD 99 undef = .pointer (some ⟨g, c * 11, none⟩) := hv 7 99 rfl (by kernel_rfl)
            obtain ⟨c0, c1, c2, c3, c4, c5, c6, c7, c8, c9, c10⟩ := rowAt_all (hD.row c (by rw [plst_len]; omega))
            rw [plst_get R s n c (by omega)] at c0 c1 c2 c3 c4 c5 c6 c7 c8 c9 c10
            exact .inl ⟨rfl, gen_reads (rowV (R (s c))) (by simp [go_sem, Act.eval, -Array.getD_eq_getD_getElem?, e99, c0, c1, c2, c3, c4, c5, c6, c7, c8, c9, c10, rowV]) rfl (hD)⟩
          | 9, ho =>
            simp at ho
            subst ho
            have e92 : ac.tmps.getD 92 undef = cmpV := hv 0 92 rfl (by kernel_rfl)
            have e96 : ac.tmps.getD 96 undef = rowV (R (s m)) := hv 4 96 rfl (by kernel_rfl)
            have e100 : ac.tmps.getD 100 undef = rowV (R (s c)) := hv 8 100 rfl (by kernel_rfl)
            refine .inl ⟨rfl, gen_enters 71 #[rowV (R (s m)), rowV (R (s c))] (by simp [go_sem, Act.eval, -Array.getD_eq_getD_getElem?, cmpV, e92, e96, e100]) ?_⟩
            refine (cmprow_any _ _ _).mono ?_
            rintro e w2 ⟨rfl, hb2⟩
            exact ⟨_, rfl, rfl, hD.below hb2⟩
          | 10, ho =>
            simp at ho
            subst ho
            have e101 : ac.tmps.getD 101 undef = .int .i64 (cmpI (R (s m)).ix (R (s c)).ix) := hv 9 101 rfl (by kernel_rfl)
            exact .inl ⟨rfl, gen_reads (.bool false) (by simp [go_sem, Act.eval, -Array.getD_eq_getD_getElem?, e101, cmpI_neg, hcmp]) rfl (hD)⟩
          | 11, ho =>
            simp at ho
            subst ho
            have e102 : ac.tmps.getD 102 undef = .bool false := hv 10 102 rfl (by kernel_rfl)
            exact .inl ⟨rfl, gen_reads (.bool true) (by simp [go_sem, Act.eval, -Array.getD_eq_getD_getElem?, e102]) rfl (hD)⟩
          | ix + 12, ho => simp at ho
        case hend =>
          intro v L w1 hD hall hv
          have h11 : v 11 = .bool true := hv 11 103 rfl
          have HE := hide hD
          clear hv hall hD h0
          simp only [putOps, List.getElem?_cons_zero, List.getElem?_cons_succ, Option.bind_some, List.length_cons, List.length_nil, Nat.reduceAdd, h11]
          clear h11 hc
          go_frame
          go_wp2
          go_roundw
          case rel =>
            obtain ⟨q1, q2⟩ := unhide HCC
            exact ⟨c + 1, by go_num, j, rfl, by omega, by omega, hjb, unhide HE, fun x h1 h2 => by
              rcases Nat.lt_or_ge x c with hx | hx
              · have q3 : (R (s x)).ix ≤ (R (s c)).ix := tl_key ((unhide HH).l x c h1 hx (by omega))
                have q4 := unhide HCM
                omega
              · rw [show x = c by omega]; have q4 := unhide HCM; omega, unhide HHI⟩
          case measure => have := unhide HCC; simp [intOf]; omega
    · obtain rfl : i = j := by omega
      have i1 : ¬ (i : Int) < (i : Int) := by omega
      have HR := hide (merge_last (unhide HH) hi hjb hlo hhi)
      have HS := hide hDL
      clear hlo hhi hDL HH
      go_wp2
      go_loopw [17] (fun t wr => ∃ y : Nat, t = .int .i64 (y : Int) ∧ i ≤ y ∧ y ≤ m ∧ DL g cap W0 (plst R (rot s y m (m + 1)) n) wr) (fun t _ => (intOf t).toNat)
      case atStart => exact ⟨m, rfl, hjb, Nat.le_refl _, by rw [rot_self']; exact unhide HS⟩
      case round =>
        clear HS
        obtain ⟨y, rfl, hk1, hk2, hDL⟩ := hrel
        by_cases hlt2 : i < y
        · obtain ⟨k, hy⟩ : ∃ k, y = k + 1 := ⟨y - 1, by omega⟩
          have HSW := hide (rot_pull s m k (by omega))
          rw [← hy] at HSW
          generalize rot s y m (m + 1) = u at *
          have h0 : DL g cap W0 (plst R u n) wr.drew := hDL.below ((Below.refl _ _).drew)
          have hwk : IntKind.i64.wrap ((y : Int) - 1) = (k : Int) := by rw [i64_id (by omega) (by omega)]; omega
          have k0 : (0 : Int) ≤ (k : Int) := by omega
          have k1 : (k : Int) < (n : Int) := by omega
          have y0 : (0 : Int) ≤ (y : Int) := by omega
          have y1 : (y : Int) < (n : Int) := by omega
          have kk : (i : Int) < (y : Int) := by omega
          have HKY : Hid (k < y) := hide (by omega)
          have HY := hide hy
          clear hDL hy
          go_wp2
          refine wp_region_gen (fun ix v => (([fun v => v = .slice (some ⟨g, 0, none⟩) n cap, fun v => v = .int .i64 (y : Int), fun v => v = .slice (some ⟨g, 0, none⟩) n cap, fun v => v = .int .i64 (y : Int), fun v => v = .int .i64 (k : Int), fun v => v = .slice (some ⟨g, 0, none⟩) n cap, fun v => v = .int .i64 (y : Int), fun v => v = .int .i64 (k : Int), fun v => v = .pointer (some ⟨g, k * 11, none⟩), fun v => v = rowV (R (u k)), fun v => v = .slice (some ⟨g, 0, none⟩) n cap, fun v => v = .int .i64 (y : Int), fun v => v = .pointer (some ⟨g, y * 11, none⟩), fun v => v = rowV (R (u y)), fun v => v = .pointer (some ⟨g, y * 11, none⟩), fun _ => True, fun v => v = .pointer (some ⟨g, k * 11, none⟩), fun _ => True] : List (Value → Prop)).getD ix (fun _ => True)) v) (fun L W => DL g cap W0 (if L 15 = true then (if L 17 = true then ((plst R u n).set y (R (u k))).set k (R (u y)) else (plst R u n).set y (R (u k))) else plst R u n) W) (by kernel_rfl) (by kernel_rfl) (by kernel_rfl) (by simpa using h0) ?hstep ?hend
          case hstep =>
            intro ix o ho L ac w1 hD hL hed hcl hout hv
            match ix, ho with
            | 0, ho =>
              simp at ho
              subst ho
              have e0 : ac.tmps.getD 0 undef = .slice (some ⟨g, 0, none⟩) n cap := hout 0 (by decide +kernel)
              exact .inl ⟨rfl, gen_reads (.slice (some ⟨g, 0, none⟩) n cap) (by simp [go_sem, Act.eval, -Array.getD_eq_getD_getElem?, e0]) rfl (by simpa [upd] using hD)⟩
            | 1, ho =>
              simp at ho
              subst ho
              have e17 : ac.tmps.getD 17 undef = .int .i64 (y : Int) := hout 17 (by decide +kernel)
              exact .inl ⟨rfl, gen_reads (.int .i64 (y : Int)) (by simp [go_sem, Act.eval, -Array.getD_eq_getD_getElem?, e17]) rfl (by simpa [upd] using hD)⟩
            | 2, ho =>
              simp at ho
              subst ho
              have e0 : ac.tmps.getD 0 undef = .slice (some ⟨g, 0, none⟩) n cap := hout 0 (by decide +kernel)
              exact .inl ⟨rfl, gen_reads (.slice (some ⟨g, 0, none⟩) n cap) (by simp [go_sem, Act.eval, -Array.getD_eq_getD_getElem?, e0]) rfl (by simpa [upd] using hD)⟩
            | 3, ho =>
              simp at ho
              subst ho
              have e17 : ac.tmps.getD 17 undef = .int .i64 (y : Int) := hout 17 (by decide +kernel)
              exact .inl ⟨rfl, gen_reads (.int .i64 (y : Int)) (by simp [go_sem, Act.eval, -Array.getD_eq_getD_getElem?, e17]) rfl (by simpa [upd] using hD)⟩
            | 4, ho =>
              simp at ho
              subst ho
              have e116 : ac.tmps.getD 116 undef = .int .i64 (y : Int) := hv 3 116 rfl (by kernel_rfl)
              exact .inl ⟨rfl, gen_reads (.int .i64 (k : Int)) (by simp [go_sem, Act.eval, -Array.getD_eq_getD_getElem?, e116, hwk]) rfl (by simpa [upd] using hD)⟩
            | 5, ho =>
              simp at ho
              subst ho
              have e0 : ac.tmps.getD 0 undef = .slice (some ⟨g, 0, none⟩) n cap := hout 0 (by decide +kernel)
              exact .inl ⟨rfl, gen_reads (.slice (some ⟨g, 0, none⟩) n cap) (by simp [go_sem, Act.eval, -Array.getD_eq_getD_getElem?, e0]) rfl (by simpa [upd] using hD)⟩
            | 6, ho =>
              simp at ho
              subst ho
              have e17 : ac.tmps.getD 17 undef = .int .i64 (y : Int) := hout 17 (by decide +kernel)
              exact .inl ⟨rfl, gen_reads (.int .i64 (y : Int)) (by simp [go_sem, Act.eval, -Array.getD_eq_getD_getElem?, e17]) rfl (by simpa [upd] using hD)⟩
            | 7, ho =>
              simp at ho
              subst ho
              have e119 : ac.tmps.getD 119 undef = .int .i64 (y : Int) := hv 6 119 rfl (by kernel_rfl)
              exact .inl ⟨rfl, gen_reads (.int .i64 (k : Int)) (by simp [go_sem, Act.eval, -Array.getD_eq_getD_getElem?, e119, hwk]) rfl (by simpa [upd] using hD)⟩
            | 8, ho =>
              simp at ho
              subst ho
              have e118 : ac.tmps.getD 118 undef = .slice (some ⟨g, 0, none⟩) n cap := hv 5 118 rfl (by kernel_rfl)
              have e120 : ac.tmps.getD 120 undef = .int .i64 (k : Int) := hv 7 120 rfl (by kernel_rfl)
              exact .inl ⟨rfl, gen_reads (.pointer (some ⟨g, k * 11, none⟩)) (by simp [go_sem, Act.eval, -Array.getD_eq_getD_getElem?, e118, e120, k0, k1]) rfl (by simpa [upd] using hD)⟩
            | 9, ho =>
              simp at ho
              subst ho
              have e121 : ac.tmps.getD 121 undef = .pointer (some ⟨g, k * 11, none⟩) := hv 8 121 rfl (by kernel_rfl)
              have hp : L 15 = false := by
                cases h : L 15
                · rfl
                · exact absurd (hcl 15 _ rfl h 9 (by kernel_rfl)) (by rw [hL]; decide)
              have hD' := hD
              rw [hp] at hD'
              simp only [Bool.false_eq_true, if_false] at hD'
              obtain ⟨c0, c1, c2, c3, c4, c5, c6, c7, c8, c9, c10⟩ := rowAt_all (hD'.row k (by rw [plst_len]; omega))
              rw [plst_get R u n k (by omega)] at c0 c1 c2 c3 c4 c5 c6 c7 c8 c9 c10
              exact .inl ⟨rfl, gen_reads (rowV (R (u k))) (by simp [go_sem, Act.eval, -Array.getD_eq_getD_getElem?, e121, c0, c1, c2, c3, c4, c5, c6, c7, c8, c9, c10, rowV]) rfl (by simpa [upd] using hD)⟩
            | 10, ho =>
              simp at ho
              subst ho
              have e0 : ac.tmps.getD 0 undef = .slice (some ⟨g, 0, none⟩) n cap := hout 0 (by decide +kernel)
              exact .inl ⟨rfl, gen_reads (.slice (some ⟨g, 0, none⟩) n cap) (by simp [go_sem, Act.eval, -Array.getD_eq_getD_getElem?, e0]) rfl (by simpa [upd] using hD)⟩
            | 11, ho =>
              simp at ho
              subst ho
              have e17 : ac.tmps.getD 17 undef = .int .i64 (y : Int) := hout 17 (by decide +kernel)
              exact .inl ⟨rfl, gen_reads (.int .i64 (y : Int)) (by simp [go_sem, Act.eval, -Array.getD_eq_getD_getElem?, e17]) rfl (by simpa [upd] using hD)⟩
            | 12, ho =>
              simp at ho
              subst ho
              have e123 : ac.tmps.getD 123 undef = .slice (some ⟨g, 0, none⟩) n cap := hv 10 123 rfl (by kernel_rfl)
              have e124 : ac.tmps.getD 124 undef = .int .i64 (y : Int) := hv 11 124 rfl (by kernel_rfl)
              exact .inl ⟨rfl, gen_reads (.pointer (some ⟨g, y * 11, none⟩)) (by simp [go_sem, Act.eval, -Array.getD_eq_getD_getElem?, e123, e124, y0, y1]) rfl (by simpa [upd] using hD)⟩
            | 13, ho =>
              simp at ho
              subst ho
              have e125 : ac.tmps.getD 125 undef = .pointer (some ⟨g, y * 11, none⟩) := hv 12 125 rfl (by kernel_rfl)
              have hp : L 15 = false := by
                cases h : L 15
                · rfl
                · exact absurd (hcl 15 _ rfl h 13 (by kernel_rfl)) (by rw [hL]; decide)
              have hD' := hD
              rw [hp] at hD'
              simp only [Bool.false_eq_true, if_false] at hD'
              obtain ⟨c0, c1, c2, c3, c4, c5, c6, c7, c8, c9, c10⟩ := rowAt_all (hD'.row y (by rw [plst_len]; omega))
              rw [plst_get R u n y (by omega)] at c0 c1 c2 c3 c4 c5 c6 c7 c8 c9 c10
              exact .inl ⟨rfl, gen_reads (rowV (R (u y))) (by simp [go_sem, Act.eval, -Array.getD_eq_getD_getElem?, e125, c0, c1, c2, c3, c4, c5, c6, c7, c8, c9, c10, rowV]) rfl (by simpa [upd] using hD)⟩
            | 14, ho =>
              simp at ho
              subst ho
              have e113 : ac.tmps.getD 113 undef = .slice (some ⟨g, 0, none⟩) n cap := hv 0 113 rfl (by kernel_rfl)
              have e114 : ac.tmps.getD 114 undef = .int .i64 (y : Int) := hv 1 114 rfl (by kernel_rfl)
              exact .inl ⟨rfl, gen_reads (.pointer (some ⟨g, y * 11, none⟩)) (by simp [go_sem, Act.eval, -Array.getD_eq_getD_getElem?, e113, e114, y0, y1]) rfl (by simpa [upd] using hD)⟩
            | 15, ho =>
              simp at ho
              subst ho
              have e127 : ac.tmps.getD 127 undef = .pointer (some ⟨g, y * 11, none⟩) := hv 14 127 rfl (by kernel_rfl)
              have e122 : ac.tmps.getD 122 undef = rowV (R (u k)) := hv 9 122 rfl (by kernel_rfl)
              have hq : L 17 = false := by
                cases h : L 17
                · rfl
                · exact absurd (hcl 17 _ rfl h 15 (by kernel_rfl)) (by rw [hL]; decide)
              have hD' := hD
              rw [hL] at hD'
              simp only [Bool.false_eq_true, if_false] at hD'
              refine .inl ⟨rfl, wp_store_mid 53 (.tmp 127) (.tmp 122) rfl g (y * 11) (rowCells (R (u k))).toArray (by simp [Act.eval, -Array.getD_eq_getD_getElem?, e127]) (by simp only [Act.eval, e122]; rfl) (by rw [List.size_toArray, rowCells_len]; exact hD'.there y (by simp only [List.length_set, plst_len]; omega)) size61a (all_oneCell_toArray (rowCells_one _)) ⟨undef, rfl, trivial, ?_⟩⟩
              have := hD'.set y (by simp only [List.length_set, plst_len]; omega) (R (u k))
              simpa [upd, hq] using this
            | 16, ho =>
              simp at ho
              subst ho
              have e115 : ac.tmps.getD 115 undef = .slice (some ⟨g, 0, none⟩) n cap := hv 2 115 rfl (by kernel_rfl)
              have e117 : ac.tmps.getD 117 undef = .int .i64 (k : Int) := hv 4 117 rfl (by kernel_rfl)
              exact .inl ⟨rfl, gen_reads (.pointer (some ⟨g, k * 11, none⟩)) (by simp [go_sem, Act.eval, -Array.getD_eq_getD_getElem?, e115, e117, k0, k1]) rfl (by simpa [upd] using hD)⟩
            | 17, ho =>
              simp at ho
              subst ho
              have e128 : ac.tmps.getD 128 undef = .pointer (some ⟨g, k * 11, none⟩) := hv 16 128 rfl (by kernel_rfl)
              have e126 : ac.tmps.getD 126 undef = rowV (R (u y)) := hv 13 126 rfl (by kernel_rfl)
              have hq : L 15 = true := hed 15 (by kernel_rfl)
              have hD' := hD
              rw [hq, hL] at hD'
              simp only [Bool.false_eq_true, if_false, if_true] at hD'
              refine .inl ⟨rfl, wp_store_mid 53 (.tmp 128) (.tmp 126) rfl g (k * 11) (rowCells (R (u y))).toArray (by simp [Act.eval, -Array.getD_eq_getD_getElem?, e128]) (by simp only [Act.eval, e126]; rfl) (by rw [List.size_toArray, rowCells_len]; exact hD'.there k (by simp only [List.length_set, plst_len]; omega)) size61a (all_oneCell_toArray (rowCells_one _)) ⟨undef, rfl, trivial, ?_⟩⟩
              have := hD'.set k (by simp only [List.length_set, plst_len]; omega) (R (u y))
              simpa [upd, hq] using this
            | ix + 18, ho => simp at ho
          case hend =>
            intro v2 L2 w2 hD2 hall2 hv2
            have hE : DL g cap W0 (((plst R u n).set y (R (u k))).set k (R (u y))) w2 := by
              have := hD2
              rw [hall2 15 (by decide), hall2 17 (by decide)] at this
              simpa using this
            rw [plst_swap' R u n k y (unhide HKY) (by omega)] at hE
            have HE := hide hE
            clear hv2 hall2 hD2 hE
            simp only [putOps, List.getElem?_cons_zero, List.getElem?_cons_succ, Option.bind_some, List.length_cons, List.length_nil, Nat.reduceAdd]
            go_frame
            clear h0
            go_wp2
            go_roundw
            case rel => have hy := unhide HY; exact ⟨k, rfl, by omega, by omega, by rw [← unhide HSW]; exact unhide HE⟩
            case measure => have hy := unhide HY; simp [intOf]; omega
        · have kk : ¬ (i : Int) < (y : Int) := by omega
          have HE : Hid (∃ t, DL g cap W0 (plst R t n) wr ∧ SP s t a (m + 1) ∧ Srt (fun p => (R p).ix) t a (m + 1)) := hide ⟨rot s i m (m + 1), by rw [show i = y by omega]; exact hDL, (rot_sp s i m (m + 1) (by omega) (by omega)).wide hi (Nat.le_refl _), unhide HR⟩
          clear hDL
          go_wp2
          exact bodyPost_ret (v := .tuple #[]) (by simp [results, Try.results111, go_sem]) rfl ⟨rfl, unhide HE⟩
end Go.Proofs.Ytnbleebilmghcab
