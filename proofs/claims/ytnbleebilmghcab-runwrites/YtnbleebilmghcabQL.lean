/- SStable, STog0, STog, STog2, SAsk, SBin -/
import Derived.Test.YtnbleebilmghcabQK
import Derived.Test.YtnbleebilmghcabZSSym3
set_option linter.all false
namespace Go.Proofs.Ytnbleebilmghcab
open Go Go.RowKit
attribute [local go_sem ↓] Go.wp_at_zero Go.wp_at_succ
theorem sym_any (g cap n : Nat) (R : Nat → RowI) (hn : n ≤ 1000) : ∀ (d a m b : Nat) (s : Nat → Nat) (W0 : World), b - a ≤ d → a < m → m < b → b ≤ n → DL g cap W0 (plst R s n) W0 → Halves (fun p => (R p).ix) s a m b →
    Calls Try.prog 111 #[.slice (some ⟨g, 0, none⟩) n cap, .int .i64 (a : Int), .int .i64 (m : Int), .int .i64 (b : Int), cmpV] W0 fun e w' => e = .returned (.tuple #[]) ∧ ∃ t, DL g cap W0 (plst R t n) w' ∧ SP s t a b ∧ Srt (fun p => (R p).ix) t a b
  | 0, a, m, b, s, W0, hd, am, mb, hbn, h, hH => by omega
  | d + 1, a, m, b, s, W0, hd, am, mb, hbn, h, hH => by
    by_cases e1 : m = a + 1
    · subst e1
      have := sym_one g cap n a b R s W0 mb hbn hn h hH
      rw [show ((a : Int) + 1) = ((a + 1 : Nat) : Int) by omega] at this
      exact this
    · by_cases e2 : b = m + 1
      · subst e2
        have := sym_last g cap n a m R s W0 (by omega) hbn hn h hH
        rw [show ((m : Int) + 1) = ((m + 1 : Nat) : Int) by omega] at this
        exact this
      · by_cases e3 : (a + b) / 2 < m
        · exact sym_hi g cap n d a m b R s W0 hn (fun a m b s W0 => sym_any g cap n R hn d a m b s W0) hd (by omega) (by omega) hbn h hH _ rfl e3
        · exact sym_lo g cap n d a m b R s W0 hn (fun a m b s W0 => sym_any g cap n R hn d a m b s W0) hd (by omega) (by omega) hbn h hH _ rfl e3
def Inb (s : Nat → Nat) (a b : Nat) : Prop := ∀ x, a ≤ x → x < b → a ≤ s x ∧ s x < b
section
variable {key : Nat → Int} {s t : Nat → Nat} {a b a' b' m n c : Nat}
theorem blk_new (hid : ∀ x, c ≤ x → x < n → s x = x) (h : SP s t a b) (h1 : c ≤ a) (h2 : b ≤ n) : Inb t a b := fun x x1 x2 => by
  obtain ⟨j, j1, j2, e⟩ := h.mem x1 x2
  rw [e, hid j (by omega) (by omega)]
  exact ⟨j1, j2⟩
theorem blk_eq (h : SP s t a b) (hd : b' ≤ a ∨ b ≤ a') : ∀ x, a' ≤ x → x < b' → t x = s x := fun x x1 x2 => h.out (by omega)
theorem blk_in (h : SP s t a b) (hd : b' ≤ a ∨ b ≤ a') (hi : Inb s a' b') : Inb t a' b' := fun x x1 x2 => by rw [blk_eq h hd x x1 x2]; exact hi x x1 x2
theorem blk_srt (h : SP s t a b) (hd : b' ≤ a ∨ b ≤ a') (hs : Srt key s a' b') : Srt key t a' b' := fun x y x1 x2 x3 => by rw [blk_eq h hd x x1 (by omega), blk_eq h hd y (by omega) x3]; exact hs x y x1 x2 x3
theorem blk_id (hid : ∀ x, c ≤ x → x < n → s x = x) (h : SP s t a b) (h1 : c ≤ a) (h2 : a ≤ b) : ∀ x, b ≤ x → x < n → t x = x := fun x x1 x2 => by rw [h.out (by omega)]; exact hid x (by omega) x2
theorem halves_of (h1 : Srt key s a m) (h2 : Srt key s m b) (h3 : Inb s a m) (h4 : Inb s m b) : Halves key s a m b := ⟨h1, h2, fun i j i1 i2 j1 j2 => by have := h3 i i1 i2; have := h4 j j1 j2; omega⟩
theorem blk_join (h : SP s t a b) (h3 : Inb s a m) (h4 : Inb s m b) (h1 : a ≤ m) (h2 : m ≤ b) : Inb t a b := fun x x1 x2 => by
  obtain ⟨j, j1, j2, e⟩ := h.mem x1 x2
  rw [e]
  rcases Nat.lt_or_ge j m with hj | hj
  · have := h3 j j1 hj; omega
  · have := h4 j hj j2; omega
end
theorem ins_at {g cap n : Nat} {R : Nat → RowI} {W0 : World} (hn : n ≤ 1000) (a b : Nat) (x y : Int) (hx : x = (a : Int)) (hy : y = (b : Int)) (s : Nat → Nat) (W : World) (hab : a ≤ b) (hbn : b ≤ n) (hid : ∀ x, a ≤ x → x < n → s x = x) (h : DL g cap W0 (plst R s n) W) :
    Calls Try.prog 110 #[.slice (some ⟨g, 0, none⟩) n cap, .int .i64 x, .int .i64 y, cmpV] W fun e w' => e = .returned (.tuple #[]) ∧ ∃ t, DL g cap W0 (plst R t n) w' ∧ SP s t a b ∧ Srt (fun p => (R p).ix) t a b := by
  subst hx hy
  exact (inssort_any g cap n a b R s W hab hbn hn (fun x x1 x2 => hid x x1 (by omega)) h.self).mono fun e w' ⟨he, t, k1, k2, k3⟩ => ⟨he, t, h.trans k1, k2, k3⟩
theorem sym_at {g cap n : Nat} {R : Nat → RowI} {W0 : World} (hn : n ≤ 1000) (a m b : Nat) (x y z : Int) (hx : x = (a : Int)) (hy : y = (m : Int)) (hz : z = (b : Int)) (s : Nat → Nat) (W : World) (am : a < m) (mb : m < b) (hbn : b ≤ n) (hH : Halves (fun p => (R p).ix) s a m b) (h : DL g cap W0 (plst R s n) W) :
    Calls Try.prog 111 #[.slice (some ⟨g, 0, none⟩) n cap, .int .i64 x, .int .i64 y, .int .i64 z, cmpV] W fun e w' => e = .returned (.tuple #[]) ∧ ∃ t, DL g cap W0 (plst R t n) w' ∧ SP s t a b ∧ Srt (fun p => (R p).ix) t a b := by
  subst hx hy hz
  exact (sym_any g cap n R hn (b - a) a m b s W (Nat.le_refl _) am mb hbn h.self hH).mono fun e w' ⟨he, t, k1, k2, k3⟩ => ⟨he, t, h.trans k1, k2, k3⟩
set_option maxRecDepth 8000 in
set_option maxHeartbeats 8000000 in
theorem st_a (g cap n : Nat) (R : Nat → RowI) (W0 : World) (h1 : n < 20) (h : DL g cap W0 (plst R id n) W0) :
    Calls Try.prog 95 #[.slice (some ⟨g, 0, none⟩) n cap, .int .i64 (n : Int), cmpV] W0 fun e w' => e = .returned (.tuple #[]) ∧ ∃ t, DL g cap W0 (plst R t n) w' ∧ SP id t 0 n ∧ Srt (fun p => (R p).ix) t 0 n := by
  have hn : n ≤ 1000 := by omega
  have HD0 := hide h
  have HP0 : Hid (SP id id 0 n) := hide (SP.refl _ _ _)
  have HI0 : Hid (∀ x, 0 ≤ x → x < n → id x = x) := hide (fun x _ _ => rfl)
  have x20a : decide ((20 : Int) ≤ (n : Int)) = false := by simp; omega
  have x20b : decide (20 ≤ n) = false := by simp; omega
  have v20a : decide ((20 : Int) < (n : Int)) = false := by simp; omega
  have v20b : decide (20 < n) = false := by simp; omega
  clear h
  go_enter Try.func95, Try.ntmps95
  go_wp2_with (first
    | (go_at_call 110; refine (ins_at hn 0 n _ _ (by first | rfl | omega) (by first | rfl | omega) _ _ (by omega) (by omega) (unhide HI0) (unhide HD0)).mono ?_; rintro e1 w1 ⟨rfl, t1, hd, hp, hs⟩; have HP1 := hide ((unhide HP0).trans (hp.wide (by omega) (by omega))); have HI1 := hide (blk_id (unhide HI0) hp (by omega) (by omega)); have HB1_0 := hide (blk_new (unhide HI0) hp (by omega) (by omega)); have HS1_0 := hide hs; have HD1 := hide hd; clear hd hp hs HD0))
  repeat (first | (rw [rounds_succ]; go_wp2_with (first
      | (go_at_call 110; refine (ins_at hn 0 n _ _ (by first | rfl | omega) (by first | rfl | omega) _ _ (by omega) (by omega) (unhide HI0) (unhide HD0)).mono ?_; rintro e1 w1 ⟨rfl, t1, hd, hp, hs⟩; have HP1 := hide ((unhide HP0).trans (hp.wide (by omega) (by omega))); have HI1 := hide (blk_id (unhide HI0) hp (by omega) (by omega)); have HB1_0 := hide (blk_new (unhide HI0) hp (by omega) (by omega)); have HS1_0 := hide hs; have HD1 := hide hd; clear hd hp hs HD0))) | (refine wp_loop_rounds 6 ?_))
  exact bodyPost_end (v := .tuple #[]) (by simp [results, Try.results95, go_sem]) rfl ⟨rfl, t1, unhide HD1, unhide HP1, fun x y q1 q2 q3 => unhide HS1_0 x y q1 q2 (by omega)⟩
set_option maxRecDepth 8000 in
set_option maxHeartbeats 8000000 in
theorem st_b (g cap n : Nat) (R : Nat → RowI) (W0 : World) (h1 : 20 ≤ n) (h2 : n ≤ 20) (h : DL g cap W0 (plst R id n) W0) :
    Calls Try.prog 95 #[.slice (some ⟨g, 0, none⟩) n cap, .int .i64 (n : Int), cmpV] W0 fun e w' => e = .returned (.tuple #[]) ∧ ∃ t, DL g cap W0 (plst R t n) w' ∧ SP id t 0 n ∧ Srt (fun p => (R p).ix) t 0 n := by
  have hn : n ≤ 1000 := by omega
  have HD0 := hide h
  have HP0 : Hid (SP id id 0 n) := hide (SP.refl _ _ _)
  have HI0 : Hid (∀ x, 0 ≤ x → x < n → id x = x) := hide (fun x _ _ => rfl)
  have y20 : (20 : Int) ≤ (n : Int) := by omega
  have x40a : decide ((40 : Int) ≤ (n : Int)) = false := by simp; omega
  have x40b : decide (40 ≤ n) = false := by simp; omega
  have v20a : decide ((20 : Int) < (n : Int)) = false := by simp; omega
  have v20b : decide (20 < n) = false := by simp; omega
  clear h
  go_enter Try.func95, Try.ntmps95
  go_wp2_with (first
    | (go_at_call 110; refine (ins_at hn 0 20 _ _ (by first | rfl | omega) (by first | rfl | omega) _ _ (by omega) (by omega) (unhide HI0) (unhide HD0)).mono ?_; rintro e1 w1 ⟨rfl, t1, hd, hp, hs⟩; have HP1 := hide ((unhide HP0).trans (hp.wide (by omega) (by omega))); have HI1 := hide (blk_id (unhide HI0) hp (by omega) (by omega)); have HB1_0 := hide (blk_new (unhide HI0) hp (by omega) (by omega)); have HS1_0 := hide hs; have HD1 := hide hd; clear hd hp hs HD0)
    | (go_at_call 110; refine (ins_at hn 20 n _ _ (by first | rfl | omega) (by first | rfl | omega) _ _ (by omega) (by omega) (unhide HI1) (unhide HD1)).mono ?_; rintro e2 w2 ⟨rfl, t2, hd, hp, hs⟩; have HP2 := hide ((unhide HP1).trans (hp.wide (by omega) (by omega))); have HI2 := hide (blk_id (unhide HI1) hp (by omega) (by omega)); have HB2_0 := hide (blk_in hp (by omega) (unhide HB1_0)); have HS2_0 := hide (blk_srt hp (by omega) (unhide HS1_0)); have HB2_20 := hide (blk_new (unhide HI1) hp (by omega) (by omega)); have HS2_20 := hide hs; have HD2 := hide hd; clear hd hp hs HD1))
  repeat (first | (rw [rounds_succ]; go_wp2_with (first
      | (go_at_call 110; refine (ins_at hn 0 20 _ _ (by first | rfl | omega) (by first | rfl | omega) _ _ (by omega) (by omega) (unhide HI0) (unhide HD0)).mono ?_; rintro e1 w1 ⟨rfl, t1, hd, hp, hs⟩; have HP1 := hide ((unhide HP0).trans (hp.wide (by omega) (by omega))); have HI1 := hide (blk_id (unhide HI0) hp (by omega) (by omega)); have HB1_0 := hide (blk_new (unhide HI0) hp (by omega) (by omega)); have HS1_0 := hide hs; have HD1 := hide hd; clear hd hp hs HD0)
      | (go_at_call 110; refine (ins_at hn 20 n _ _ (by first | rfl | omega) (by first | rfl | omega) _ _ (by omega) (by omega) (unhide HI1) (unhide HD1)).mono ?_; rintro e2 w2 ⟨rfl, t2, hd, hp, hs⟩; have HP2 := hide ((unhide HP1).trans (hp.wide (by omega) (by omega))); have HI2 := hide (blk_id (unhide HI1) hp (by omega) (by omega)); have HB2_0 := hide (blk_in hp (by omega) (unhide HB1_0)); have HS2_0 := hide (blk_srt hp (by omega) (unhide HS1_0)); have HB2_20 := hide (blk_new (unhide HI1) hp (by omega) (by omega)); have HS2_20 := hide hs; have HD2 := hide hd; clear hd hp hs HD1))) | (refine wp_loop_rounds 6 ?_))
  exact bodyPost_end (v := .tuple #[]) (by simp [results, Try.results95, go_sem]) rfl ⟨rfl, t2, unhide HD2, unhide HP2, fun x y q1 q2 q3 => unhide HS2_0 x y q1 q2 (by omega)⟩
set_option maxRecDepth 8000 in
set_option maxHeartbeats 8000000 in
theorem st_c (g cap n : Nat) (R : Nat → RowI) (W0 : World) (h1 : 20 < n) (h2 : n < 40) (h : DL g cap W0 (plst R id n) W0) :
    Calls Try.prog 95 #[.slice (some ⟨g, 0, none⟩) n cap, .int .i64 (n : Int), cmpV] W0 fun e w' => e = .returned (.tuple #[]) ∧ ∃ t, DL g cap W0 (plst R t n) w' ∧ SP id t 0 n ∧ Srt (fun p => (R p).ix) t 0 n := by
  have hn : n ≤ 1000 := by omega
  have HD0 := hide h
  have HP0 : Hid (SP id id 0 n) := hide (SP.refl _ _ _)
  have HI0 : Hid (∀ x, 0 ≤ x → x < n → id x = x) := hide (fun x _ _ => rfl)
  have y20 : (20 : Int) ≤ (n : Int) := by omega
  have z20 : (20 : Int) < (n : Int) := by omega
  have x40a : decide ((40 : Int) ≤ (n : Int)) = false := by simp; omega
  have x40b : decide (40 ≤ n) = false := by simp; omega
  have v40a : decide ((40 : Int) < (n : Int)) = false := by simp; omega
  have v40b : decide (40 < n) = false := by simp; omega
  clear h
  go_enter Try.func95, Try.ntmps95
  go_wp2_with (first
    | (go_at_call 110; refine (ins_at hn 0 20 _ _ (by first | rfl | omega) (by first | rfl | omega) _ _ (by omega) (by omega) (unhide HI0) (unhide HD0)).mono ?_; rintro e1 w1 ⟨rfl, t1, hd, hp, hs⟩; have HP1 := hide ((unhide HP0).trans (hp.wide (by omega) (by omega))); have HI1 := hide (blk_id (unhide HI0) hp (by omega) (by omega)); have HB1_0 := hide (blk_new (unhide HI0) hp (by omega) (by omega)); have HS1_0 := hide hs; have HD1 := hide hd; clear hd hp hs HD0)
    | (go_at_call 110; refine (ins_at hn 20 n _ _ (by first | rfl | omega) (by first | rfl | omega) _ _ (by omega) (by omega) (unhide HI1) (unhide HD1)).mono ?_; rintro e2 w2 ⟨rfl, t2, hd, hp, hs⟩; have HP2 := hide ((unhide HP1).trans (hp.wide (by omega) (by omega))); have HI2 := hide (blk_id (unhide HI1) hp (by omega) (by omega)); have HB2_0 := hide (blk_in hp (by omega) (unhide HB1_0)); have HS2_0 := hide (blk_srt hp (by omega) (unhide HS1_0)); have HB2_20 := hide (blk_new (unhide HI1) hp (by omega) (by omega)); have HS2_20 := hide hs; have HD2 := hide hd; clear hd hp hs HD1)
    | (go_at_call 111; refine (sym_at hn 0 20 n _ _ _ (by first | rfl | omega) (by first | rfl | omega) (by first | rfl | omega) _ _ (by omega) (by omega) (by omega) (halves_of (unhide HS2_0) (unhide HS2_20) (unhide HB2_0) (unhide HB2_20)) (unhide HD2)).mono ?_; rintro e3 w3 ⟨rfl, t3, hd, hp, hs⟩; have HP3 := hide ((unhide HP2).trans (hp.wide (by omega) (by omega))); have HB3_0 := hide (blk_join hp (unhide HB2_0) (unhide HB2_20) (by omega) (by omega)); have HS3_0 := hide hs; have HD3 := hide hd; clear hd hp hs HD2))
  repeat (first | (rw [rounds_succ]; go_wp2_with (first
      | (go_at_call 110; refine (ins_at hn 0 20 _ _ (by first | rfl | omega) (by first | rfl | omega) _ _ (by omega) (by omega) (unhide HI0) (unhide HD0)).mono ?_; rintro e1 w1 ⟨rfl, t1, hd, hp, hs⟩; have HP1 := hide ((unhide HP0).trans (hp.wide (by omega) (by omega))); have HI1 := hide (blk_id (unhide HI0) hp (by omega) (by omega)); have HB1_0 := hide (blk_new (unhide HI0) hp (by omega) (by omega)); have HS1_0 := hide hs; have HD1 := hide hd; clear hd hp hs HD0)
      | (go_at_call 110; refine (ins_at hn 20 n _ _ (by first | rfl | omega) (by first | rfl | omega) _ _ (by omega) (by omega) (unhide HI1) (unhide HD1)).mono ?_; rintro e2 w2 ⟨rfl, t2, hd, hp, hs⟩; have HP2 := hide ((unhide HP1).trans (hp.wide (by omega) (by omega))); have HI2 := hide (blk_id (unhide HI1) hp (by omega) (by omega)); have HB2_0 := hide (blk_in hp (by omega) (unhide HB1_0)); have HS2_0 := hide (blk_srt hp (by omega) (unhide HS1_0)); have HB2_20 := hide (blk_new (unhide HI1) hp (by omega) (by omega)); have HS2_20 := hide hs; have HD2 := hide hd; clear hd hp hs HD1)
      | (go_at_call 111; refine (sym_at hn 0 20 n _ _ _ (by first | rfl | omega) (by first | rfl | omega) (by first | rfl | omega) _ _ (by omega) (by omega) (by omega) (halves_of (unhide HS2_0) (unhide HS2_20) (unhide HB2_0) (unhide HB2_20)) (unhide HD2)).mono ?_; rintro e3 w3 ⟨rfl, t3, hd, hp, hs⟩; have HP3 := hide ((unhide HP2).trans (hp.wide (by omega) (by omega))); have HB3_0 := hide (blk_join hp (unhide HB2_0) (unhide HB2_20) (by omega) (by omega)); have HS3_0 := hide hs; have HD3 := hide hd; clear hd hp hs HD2))) | (refine wp_loop_rounds 6 ?_))
  exact bodyPost_end (v := .tuple #[]) (by simp [results, Try.results95, go_sem]) rfl ⟨rfl, t3, unhide HD3, unhide HP3, fun x y q1 q2 q3 => unhide HS3_0 x y q1 q2 (by omega)⟩
set_option maxRecDepth 8000 in
set_option maxHeartbeats 8000000 in
theorem st_d (g cap n : Nat) (R : Nat → RowI) (W0 : World) (h1 : 40 ≤ n) (h2 : n ≤ 40) (h : DL g cap W0 (plst R id n) W0) :
    Calls Try.prog 95 #[.slice (some ⟨g, 0, none⟩) n cap, .int .i64 (n : Int), cmpV] W0 fun e w' => e = .returned (.tuple #[]) ∧ ∃ t, DL g cap W0 (plst R t n) w' ∧ SP id t 0 n ∧ Srt (fun p => (R p).ix) t 0 n := by
  have hn : n ≤ 1000 := by omega
  have HD0 := hide h
  have HP0 : Hid (SP id id 0 n) := hide (SP.refl _ _ _)
  have HI0 : Hid (∀ x, 0 ≤ x → x < n → id x = x) := hide (fun x _ _ => rfl)
  have y20 : (20 : Int) ≤ (n : Int) := by omega
  have y40 : (40 : Int) ≤ (n : Int) := by omega
  have z20 : (20 : Int) < (n : Int) := by omega
  have x60a : decide ((60 : Int) ≤ (n : Int)) = false := by simp; omega
  have x60b : decide (60 ≤ n) = false := by simp; omega
  have x80a : decide ((80 : Int) ≤ (n : Int)) = false := by simp; omega
  have x80b : decide (80 ≤ n) = false := by simp; omega
  have v60a : decide ((60 : Int) < (n : Int)) = false := by simp; omega
  have v60b : decide (60 < n) = false := by simp; omega
  have v40a : decide ((40 : Int) < (n : Int)) = false := by simp; omega
  have v40b : decide (40 < n) = false := by simp; omega
  clear h
  go_enter Try.func95, Try.ntmps95
  go_wp2_with (first
    | (go_at_call 110; refine (ins_at hn 0 20 _ _ (by first | rfl | omega) (by first | rfl | omega) _ _ (by omega) (by omega) (unhide HI0) (unhide HD0)).mono ?_; rintro e1 w1 ⟨rfl, t1, hd, hp, hs⟩; have HP1 := hide ((unhide HP0).trans (hp.wide (by omega) (by omega))); have HI1 := hide (blk_id (unhide HI0) hp (by omega) (by omega)); have HB1_0 := hide (blk_new (unhide HI0) hp (by omega) (by omega)); have HS1_0 := hide hs; have HD1 := hide hd; clear hd hp hs HD0)
    | (go_at_call 110; refine (ins_at hn 20 40 _ _ (by first | rfl | omega) (by first | rfl | omega) _ _ (by omega) (by omega) (unhide HI1) (unhide HD1)).mono ?_; rintro e2 w2 ⟨rfl, t2, hd, hp, hs⟩; have HP2 := hide ((unhide HP1).trans (hp.wide (by omega) (by omega))); have HI2 := hide (blk_id (unhide HI1) hp (by omega) (by omega)); have HB2_0 := hide (blk_in hp (by omega) (unhide HB1_0)); have HS2_0 := hide (blk_srt hp (by omega) (unhide HS1_0)); have HB2_20 := hide (blk_new (unhide HI1) hp (by omega) (by omega)); have HS2_20 := hide hs; have HD2 := hide hd; clear hd hp hs HD1)
    | (go_at_call 110; refine (ins_at hn 40 n _ _ (by first | rfl | omega) (by first | rfl | omega) _ _ (by omega) (by omega) (unhide HI2) (unhide HD2)).mono ?_; rintro e3 w3 ⟨rfl, t3, hd, hp, hs⟩; have HP3 := hide ((unhide HP2).trans (hp.wide (by omega) (by omega))); have HI3 := hide (blk_id (unhide HI2) hp (by omega) (by omega)); have HB3_0 := hide (blk_in hp (by omega) (unhide HB2_0)); have HS3_0 := hide (blk_srt hp (by omega) (unhide HS2_0)); have HB3_20 := hide (blk_in hp (by omega) (unhide HB2_20)); have HS3_20 := hide (blk_srt hp (by omega) (unhide HS2_20)); have HB3_40 := hide (blk_new (unhide HI2) hp (by omega) (by omega)); have HS3_40 := hide hs; have HD3 := hide hd; clear hd hp hs HD2)
    | (go_at_call 111; refine (sym_at hn 0 20 40 _ _ _ (by first | rfl | omega) (by first | rfl | omega) (by first | rfl | omega) _ _ (by omega) (by omega) (by omega) (halves_of (unhide HS3_0) (unhide HS3_20) (unhide HB3_0) (unhide HB3_20)) (unhide HD3)).mono ?_; rintro e4 w4 ⟨rfl, t4, hd, hp, hs⟩; have HP4 := hide ((unhide HP3).trans (hp.wide (by omega) (by omega))); have HB4_40 := hide (blk_in hp (by omega) (unhide HB3_40)); have HS4_40 := hide (blk_srt hp (by omega) (unhide HS3_40)); have HB4_0 := hide (blk_join hp (unhide HB3_0) (unhide HB3_20) (by omega) (by omega)); have HS4_0 := hide hs; have HD4 := hide hd; clear hd hp hs HD3))
  repeat (first | (rw [rounds_succ]; go_wp2_with (first
      | (go_at_call 110; refine (ins_at hn 0 20 _ _ (by first | rfl | omega) (by first | rfl | omega) _ _ (by omega) (by omega) (unhide HI0) (unhide HD0)).mono ?_; rintro e1 w1 ⟨rfl, t1, hd, hp, hs⟩; have HP1 := hide ((unhide HP0).trans (hp.wide (by omega) (by omega))); have HI1 := hide (blk_id (unhide HI0) hp (by omega) (by omega)); have HB1_0 := hide (blk_new (unhide HI0) hp (by omega) (by omega)); have HS1_0 := hide hs; have HD1 := hide hd; clear hd hp hs HD0)
      | (go_at_call 110; refine (ins_at hn 20 40 _ _ (by first | rfl | omega) (by first | rfl | omega) _ _ (by omega) (by omega) (unhide HI1) (unhide HD1)).mono ?_; rintro e2 w2 ⟨rfl, t2, hd, hp, hs⟩; have HP2 := hide ((unhide HP1).trans (hp.wide (by omega) (by omega))); have HI2 := hide (blk_id (unhide HI1) hp (by omega) (by omega)); have HB2_0 := hide (blk_in hp (by omega) (unhide HB1_0)); have HS2_0 := hide (blk_srt hp (by omega) (unhide HS1_0)); have HB2_20 := hide (blk_new (unhide HI1) hp (by omega) (by omega)); have HS2_20 := hide hs; have HD2 := hide hd; clear hd hp hs HD1)
      | (go_at_call 110; refine (ins_at hn 40 n _ _ (by first | rfl | omega) (by first | rfl | omega) _ _ (by omega) (by omega) (unhide HI2) (unhide HD2)).mono ?_; rintro e3 w3 ⟨rfl, t3, hd, hp, hs⟩; have HP3 := hide ((unhide HP2).trans (hp.wide (by omega) (by omega))); have HI3 := hide (blk_id (unhide HI2) hp (by omega) (by omega)); have HB3_0 := hide (blk_in hp (by omega) (unhide HB2_0)); have HS3_0 := hide (blk_srt hp (by omega) (unhide HS2_0)); have HB3_20 := hide (blk_in hp (by omega) (unhide HB2_20)); have HS3_20 := hide (blk_srt hp (by omega) (unhide HS2_20)); have HB3_40 := hide (blk_new (unhide HI2) hp (by omega) (by omega)); have HS3_40 := hide hs; have HD3 := hide hd; clear hd hp hs HD2)
      | (go_at_call 111; refine (sym_at hn 0 20 40 _ _ _ (by first | rfl | omega) (by first | rfl | omega) (by first | rfl | omega) _ _ (by omega) (by omega) (by omega) (halves_of (unhide HS3_0) (unhide HS3_20) (unhide HB3_0) (unhide HB3_20)) (unhide HD3)).mono ?_; rintro e4 w4 ⟨rfl, t4, hd, hp, hs⟩; have HP4 := hide ((unhide HP3).trans (hp.wide (by omega) (by omega))); have HB4_40 := hide (blk_in hp (by omega) (unhide HB3_40)); have HS4_40 := hide (blk_srt hp (by omega) (unhide HS3_40)); have HB4_0 := hide (blk_join hp (unhide HB3_0) (unhide HB3_20) (by omega) (by omega)); have HS4_0 := hide hs; have HD4 := hide hd; clear hd hp hs HD3))) | (refine wp_loop_rounds 6 ?_))
  exact bodyPost_end (v := .tuple #[]) (by simp [results, Try.results95, go_sem]) rfl ⟨rfl, t4, unhide HD4, unhide HP4, fun x y q1 q2 q3 => unhide HS4_0 x y q1 q2 (by omega)⟩
set_option maxRecDepth 8000 in
set_option maxHeartbeats 8000000 in
theorem st_e (g cap n : Nat) (R : Nat → RowI) (W0 : World) (h1 : 40 < n) (h2 : n < 60) (h : DL g cap W0 (plst R id n) W0) :
    Calls Try.prog 95 #[.slice (some ⟨g, 0, none⟩) n cap, .int .i64 (n : Int), cmpV] W0 fun e w' => e = .returned (.tuple #[]) ∧ ∃ t, DL g cap W0 (plst R t n) w' ∧ SP id t 0 n ∧ Srt (fun p => (R p).ix) t 0 n := by
  have hn : n ≤ 1000 := by omega
  have HD0 := hide h
  have HP0 : Hid (SP id id 0 n) := hide (SP.refl _ _ _)
  have HI0 : Hid (∀ x, 0 ≤ x → x < n → id x = x) := hide (fun x _ _ => rfl)
  have y20 : (20 : Int) ≤ (n : Int) := by omega
  have y40 : (40 : Int) ≤ (n : Int) := by omega
  have z20 : (20 : Int) < (n : Int) := by omega
  have z40 : (40 : Int) < (n : Int) := by omega
  have x60a : decide ((60 : Int) ≤ (n : Int)) = false := by simp; omega
  have x60b : decide (60 ≤ n) = false := by simp; omega
  have x80a : decide ((80 : Int) ≤ (n : Int)) = false := by simp; omega
  have x80b : decide (80 ≤ n) = false := by simp; omega
  have v60a : decide ((60 : Int) < (n : Int)) = false := by simp; omega
  have v60b : decide (60 < n) = false := by simp; omega
  have v80a : decide ((80 : Int) < (n : Int)) = false := by simp; omega
  have v80b : decide (80 < n) = false := by simp; omega
  clear h
  go_enter Try.func95, Try.ntmps95
  go_wp2_with (first
    | (go_at_call 110; refine (ins_at hn 0 20 _ _ (by first | rfl | omega) (by first | rfl | omega) _ _ (by omega) (by omega) (unhide HI0) (unhide HD0)).mono ?_; rintro e1 w1 ⟨rfl, t1, hd, hp, hs⟩; have HP1 := hide ((unhide HP0).trans (hp.wide (by omega) (by omega))); have HI1 := hide (blk_id (unhide HI0) hp (by omega) (by omega)); have HB1_0 := hide (blk_new (unhide HI0) hp (by omega) (by omega)); have HS1_0 := hide hs; have HD1 := hide hd; clear hd hp hs HD0)
    | (go_at_call 110; refine (ins_at hn 20 40 _ _ (by first | rfl | omega) (by first | rfl | omega) _ _ (by omega) (by omega) (unhide HI1) (unhide HD1)).mono ?_; rintro e2 w2 ⟨rfl, t2, hd, hp, hs⟩; have HP2 := hide ((unhide HP1).trans (hp.wide (by omega) (by omega))); have HI2 := hide (blk_id (unhide HI1) hp (by omega) (by omega)); have HB2_0 := hide (blk_in hp (by omega) (unhide HB1_0)); have HS2_0 := hide (blk_srt hp (by omega) (unhide HS1_0)); have HB2_20 := hide (blk_new (unhide HI1) hp (by omega) (by omega)); have HS2_20 := hide hs; have HD2 := hide hd; clear hd hp hs HD1)
    | (go_at_call 110; refine (ins_at hn 40 n _ _ (by first | rfl | omega) (by first | rfl | omega) _ _ (by omega) (by omega) (unhide HI2) (unhide HD2)).mono ?_; rintro e3 w3 ⟨rfl, t3, hd, hp, hs⟩; have HP3 := hide ((unhide HP2).trans (hp.wide (by omega) (by omega))); have HI3 := hide (blk_id (unhide HI2) hp (by omega) (by omega)); have HB3_0 := hide (blk_in hp (by omega) (unhide HB2_0)); have HS3_0 := hide (blk_srt hp (by omega) (unhide HS2_0)); have HB3_20 := hide (blk_in hp (by omega) (unhide HB2_20)); have HS3_20 := hide (blk_srt hp (by omega) (unhide HS2_20)); have HB3_40 := hide (blk_new (unhide HI2) hp (by omega) (by omega)); have HS3_40 := hide hs; have HD3 := hide hd; clear hd hp hs HD2)
    | (go_at_call 111; refine (sym_at hn 0 20 40 _ _ _ (by first | rfl | omega) (by first | rfl | omega) (by first | rfl | omega) _ _ (by omega) (by omega) (by omega) (halves_of (unhide HS3_0) (unhide HS3_20) (unhide HB3_0) (unhide HB3_20)) (unhide HD3)).mono ?_; rintro e4 w4 ⟨rfl, t4, hd, hp, hs⟩; have HP4 := hide ((unhide HP3).trans (hp.wide (by omega) (by omega))); have HB4_40 := hide (blk_in hp (by omega) (unhide HB3_40)); have HS4_40 := hide (blk_srt hp (by omega) (unhide HS3_40)); have HB4_0 := hide (blk_join hp (unhide HB3_0) (unhide HB3_20) (by omega) (by omega)); have HS4_0 := hide hs; have HD4 := hide hd; clear hd hp hs HD3)
    | (go_at_call 111; refine (sym_at hn 0 40 n _ _ _ (by first | rfl | omega) (by first | rfl | omega) (by first | rfl | omega) _ _ (by omega) (by omega) (by omega) (halves_of (unhide HS4_0) (unhide HS4_40) (unhide HB4_0) (unhide HB4_40)) (unhide HD4)).mono ?_; rintro e5 w5 ⟨rfl, t5, hd, hp, hs⟩; have HP5 := hide ((unhide HP4).trans (hp.wide (by omega) (by omega))); have HB5_0 := hide (blk_join hp (unhide HB4_0) (unhide HB4_40) (by omega) (by omega)); have HS5_0 := hide hs; have HD5 := hide hd; clear hd hp hs HD4))
  repeat (first | (rw [rounds_succ]; go_wp2_with (first
      | (go_at_call 110; refine (ins_at hn 0 20 _ _ (by first | rfl | omega) (by first | rfl | omega) _ _ (by omega) (by omega) (unhide HI0) (unhide HD0)).mono ?_; rintro e1 w1 ⟨rfl, t1, hd, hp, hs⟩; have HP1 := hide ((unhide HP0).trans (hp.wide (by omega) (by omega))); have HI1 := hide (blk_id (unhide HI0) hp (by omega) (by omega)); have HB1_0 := hide (blk_new (unhide HI0) hp (by omega) (by omega)); have HS1_0 := hide hs; have HD1 := hide hd; clear hd hp hs HD0)
      | (go_at_call 110; refine (ins_at hn 20 40 _ _ (by first | rfl | omega) (by first | rfl | omega) _ _ (by omega) (by omega) (unhide HI1) (unhide HD1)).mono ?_; rintro e2 w2 ⟨rfl, t2, hd, hp, hs⟩; have HP2 := hide ((unhide HP1).trans (hp.wide (by omega) (by omega))); have HI2 := hide (blk_id (unhide HI1) hp (by omega) (by omega)); have HB2_0 := hide (blk_in hp (by omega) (unhide HB1_0)); have HS2_0 := hide (blk_srt hp (by omega) (unhide HS1_0)); have HB2_20 := hide (blk_new (unhide HI1) hp (by omega) (by omega)); have HS2_20 := hide hs; have HD2 := hide hd; clear hd hp hs HD1)
      | (go_at_call 110; refine (ins_at hn 40 n _ _ (by first | rfl | omega) (by first | rfl | omega) _ _ (by omega) (by omega) (unhide HI2) (unhide HD2)).mono ?_; rintro e3 w3 ⟨rfl, t3, hd, hp, hs⟩; have HP3 := hide ((unhide HP2).trans (hp.wide (by omega) (by omega))); have HI3 := hide (blk_id (unhide HI2) hp (by omega) (by omega)); have HB3_0 := hide (blk_in hp (by omega) (unhide HB2_0)); have HS3_0 := hide (blk_srt hp (by omega) (unhide HS2_0)); have HB3_20 := hide (blk_in hp (by omega) (unhide HB2_20)); have HS3_20 := hide (blk_srt hp (by omega) (unhide HS2_20)); have HB3_40 := hide (blk_new (unhide HI2) hp (by omega) (by omega)); have HS3_40 := hide hs; have HD3 := hide hd; clear hd hp hs HD2)
      | (go_at_call 111; refine (sym_at hn 0 20 40 _ _ _ (by first | rfl | omega) (by first | rfl | omega) (by first | rfl | omega) _ _ (by omega) (by omega) (by omega) (halves_of (unhide HS3_0) (unhide HS3_20) (unhide HB3_0) (unhide HB3_20)) (unhide HD3)).mono ?_; rintro e4 w4 ⟨rfl, t4, hd, hp, hs⟩; have HP4 := hide ((unhide HP3).trans (hp.wide (by omega) (by omega))); have HB4_40 := hide (blk_in hp (by omega) (unhide HB3_40)); have HS4_40 := hide (blk_srt hp (by omega) (unhide HS3_40)); have HB4_0 := hide (blk_join hp (unhide HB3_0) (unhide HB3_20) (by omega) (by omega)); have HS4_0 := hide hs; have HD4 := hide hd; clear hd hp hs HD3)
      | (go_at_call 111; refine (sym_at hn 0 40 n _ _ _ (by first | rfl | omega) (by first | rfl | omega) (by first | rfl | omega) _ _ (by omega) (by omega) (by omega) (halves_of (unhide HS4_0) (unhide HS4_40) (unhide HB4_0) (unhide HB4_40)) (unhide HD4)).mono ?_; rintro e5 w5 ⟨rfl, t5, hd, hp, hs⟩; have HP5 := hide ((unhide HP4).trans (hp.wide (by omega) (by omega))); have HB5_0 := hide (blk_join hp (unhide HB4_0) (unhide HB4_40) (by omega) (by omega)); have HS5_0 := hide hs; have HD5 := hide hd; clear hd hp hs HD4))) | (refine wp_loop_rounds 6 ?_))
  exact bodyPost_end (v := .tuple #[]) (by simp [results, Try.results95, go_sem]) rfl ⟨rfl, t5, unhide HD5, unhide HP5, fun x y q1 q2 q3 => unhide HS5_0 x y q1 q2 (by omega)⟩
set_option maxRecDepth 8000 in
set_option maxHeartbeats 8000000 in
theorem st_f (g cap n : Nat) (R : Nat → RowI) (W0 : World) (h1 : 60 ≤ n) (h2 : n ≤ 60) (h : DL g cap W0 (plst R id n) W0) :
    Calls Try.prog 95 #[.slice (some ⟨g, 0, none⟩) n cap, .int .i64 (n : Int), cmpV] W0 fun e w' => e = .returned (.tuple #[]) ∧ ∃ t, DL g cap W0 (plst R t n) w' ∧ SP id t 0 n ∧ Srt (fun p => (R p).ix) t 0 n := by
  have hn : n ≤ 1000 := by omega
  have HD0 := hide h
  have HP0 : Hid (SP id id 0 n) := hide (SP.refl _ _ _)
  have HI0 : Hid (∀ x, 0 ≤ x → x < n → id x = x) := hide (fun x _ _ => rfl)
  have y20 : (20 : Int) ≤ (n : Int) := by omega
  have y40 : (40 : Int) ≤ (n : Int) := by omega
  have y60 : (60 : Int) ≤ (n : Int) := by omega
  have z20 : (20 : Int) < (n : Int) := by omega
  have z40 : (40 : Int) < (n : Int) := by omega
  have x80a : decide ((80 : Int) ≤ (n : Int)) = false := by simp; omega
  have x80b : decide (80 ≤ n) = false := by simp; omega
  have v60a : decide ((60 : Int) < (n : Int)) = false := by simp; omega
  have v60b : decide (60 < n) = false := by simp; omega
  have v80a : decide ((80 : Int) < (n : Int)) = false := by simp; omega
  have v80b : decide (80 < n) = false := by simp; omega
  clear h
  go_enter Try.func95, Try.ntmps95
  go_wp2_with (first
    | (go_at_call 110; refine (ins_at hn 0 20 _ _ (by first | rfl | omega) (by first | rfl | omega) _ _ (by omega) (by omega) (unhide HI0) (unhide HD0)).mono ?_; rintro e1 w1 ⟨rfl, t1, hd, hp, hs⟩; have HP1 := hide ((unhide HP0).trans (hp.wide (by omega) (by omega))); have HI1 := hide (blk_id (unhide HI0) hp (by omega) (by omega)); have HB1_0 := hide (blk_new (unhide HI0) hp (by omega) (by omega)); have HS1_0 := hide hs; have HD1 := hide hd; clear hd hp hs HD0)
    | (go_at_call 110; refine (ins_at hn 20 40 _ _ (by first | rfl | omega) (by first | rfl | omega) _ _ (by omega) (by omega) (unhide HI1) (unhide HD1)).mono ?_; rintro e2 w2 ⟨rfl, t2, hd, hp, hs⟩; have HP2 := hide ((unhide HP1).trans (hp.wide (by omega) (by omega))); have HI2 := hide (blk_id (unhide HI1) hp (by omega) (by omega)); have HB2_0 := hide (blk_in hp (by omega) (unhide HB1_0)); have HS2_0 := hide (blk_srt hp (by omega) (unhide HS1_0)); have HB2_20 := hide (blk_new (unhide HI1) hp (by omega) (by omega)); have HS2_20 := hide hs; have HD2 := hide hd; clear hd hp hs HD1)
    | (go_at_call 110; refine (ins_at hn 40 60 _ _ (by first | rfl | omega) (by first | rfl | omega) _ _ (by omega) (by omega) (unhide HI2) (unhide HD2)).mono ?_; rintro e3 w3 ⟨rfl, t3, hd, hp, hs⟩; have HP3 := hide ((unhide HP2).trans (hp.wide (by omega) (by omega))); have HI3 := hide (blk_id (unhide HI2) hp (by omega) (by omega)); have HB3_0 := hide (blk_in hp (by omega) (unhide HB2_0)); have HS3_0 := hide (blk_srt hp (by omega) (unhide HS2_0)); have HB3_20 := hide (blk_in hp (by omega) (unhide HB2_20)); have HS3_20 := hide (blk_srt hp (by omega) (unhide HS2_20)); have HB3_40 := hide (blk_new (unhide HI2) hp (by omega) (by omega)); have HS3_40 := hide hs; have HD3 := hide hd; clear hd hp hs HD2)
    | (go_at_call 110; refine (ins_at hn 60 n _ _ (by first | rfl | omega) (by first | rfl | omega) _ _ (by omega) (by omega) (unhide HI3) (unhide HD3)).mono ?_; rintro e4 w4 ⟨rfl, t4, hd, hp, hs⟩; have HP4 := hide ((unhide HP3).trans (hp.wide (by omega) (by omega))); have HI4 := hide (blk_id (unhide HI3) hp (by omega) (by omega)); have HB4_0 := hide (blk_in hp (by omega) (unhide HB3_0)); have HS4_0 := hide (blk_srt hp (by omega) (unhide HS3_0)); have HB4_20 := hide (blk_in hp (by omega) (unhide HB3_20)); have HS4_20 := hide (blk_srt hp (by omega) (unhide HS3_20)); have HB4_40 := hide (blk_in hp (by omega) (unhide HB3_40)); have HS4_40 := hide (blk_srt hp (by omega) (unhide HS3_40)); have HB4_60 := hide (blk_new (unhide HI3) hp (by omega) (by omega)); have HS4_60 := hide hs; have HD4 := hide hd; clear hd hp hs HD3)
    | (go_at_call 111; refine (sym_at hn 0 20 40 _ _ _ (by first | rfl | omega) (by first | rfl | omega) (by first | rfl | omega) _ _ (by omega) (by omega) (by omega) (halves_of (unhide HS4_0) (unhide HS4_20) (unhide HB4_0) (unhide HB4_20)) (unhide HD4)).mono ?_; rintro e5 w5 ⟨rfl, t5, hd, hp, hs⟩; have HP5 := hide ((unhide HP4).trans (hp.wide (by omega) (by omega))); have HB5_40 := hide (blk_in hp (by omega) (unhide HB4_40)); have HS5_40 := hide (blk_srt hp (by omega) (unhide HS4_40)); have HB5_60 := hide (blk_in hp (by omega) (unhide HB4_60)); have HS5_60 := hide (blk_srt hp (by omega) (unhide HS4_60)); have HB5_0 := hide (blk_join hp (unhide HB4_0) (unhide HB4_20) (by omega) (by omega)); have HS5_0 := hide hs; have HD5 := hide hd; clear hd hp hs HD4)
    | (go_at_call 111; refine (sym_at hn 0 40 60 _ _ _ (by first | rfl | omega) (by first | rfl | omega) (by first | rfl | omega) _ _ (by omega) (by omega) (by omega) (halves_of (unhide HS5_0) (unhide HS5_40) (unhide HB5_0) (unhide HB5_40)) (unhide HD5)).mono ?_; rintro e6 w6 ⟨rfl, t6, hd, hp, hs⟩; have HP6 := hide ((unhide HP5).trans (hp.wide (by omega) (by omega))); have HB6_60 := hide (blk_in hp (by omega) (unhide HB5_60)); have HS6_60 := hide (blk_srt hp (by omega) (unhide HS5_60)); have HB6_0 := hide (blk_join hp (unhide HB5_0) (unhide HB5_40) (by omega) (by omega)); have HS6_0 := hide hs; have HD6 := hide hd; clear hd hp hs HD5))
  repeat (first | (rw [rounds_succ]; go_wp2_with (first
      | (go_at_call 110; refine (ins_at hn 0 20 _ _ (by first | rfl | omega) (by first | rfl | omega) _ _ (by omega) (by omega) (unhide HI0) (unhide HD0)).mono ?_; rintro e1 w1 ⟨rfl, t1, hd, hp, hs⟩; have HP1 := hide ((unhide HP0).trans (hp.wide (by omega) (by omega))); have HI1 := hide (blk_id (unhide HI0) hp (by omega) (by omega)); have HB1_0 := hide (blk_new (unhide HI0) hp (by omega) (by omega)); have HS1_0 := hide hs; have HD1 := hide hd; clear hd hp hs HD0)
      | (go_at_call 110; refine (ins_at hn 20 40 _ _ (by first | rfl | omega) (by first | rfl | omega) _ _ (by omega) (by omega) (unhide HI1) (unhide HD1)).mono ?_; rintro e2 w2 ⟨rfl, t2, hd, hp, hs⟩; have HP2 := hide ((unhide HP1).trans (hp.wide (by omega) (by omega))); have HI2 := hide (blk_id (unhide HI1) hp (by omega) (by omega)); have HB2_0 := hide (blk_in hp (by omega) (unhide HB1_0)); have HS2_0 := hide (blk_srt hp (by omega) (unhide HS1_0)); have HB2_20 := hide (blk_new (unhide HI1) hp (by omega) (by omega)); have HS2_20 := hide hs; have HD2 := hide hd; clear hd hp hs HD1)
      | (go_at_call 110; refine (ins_at hn 40 60 _ _ (by first | rfl | omega) (by first | rfl | omega) _ _ (by omega) (by omega) (unhide HI2) (unhide HD2)).mono ?_; rintro e3 w3 ⟨rfl, t3, hd, hp, hs⟩; have HP3 := hide ((unhide HP2).trans (hp.wide (by omega) (by omega))); have HI3 := hide (blk_id (unhide HI2) hp (by omega) (by omega)); have HB3_0 := hide (blk_in hp (by omega) (unhide HB2_0)); have HS3_0 := hide (blk_srt hp (by omega) (unhide HS2_0)); have HB3_20 := hide (blk_in hp (by omega) (unhide HB2_20)); have HS3_20 := hide (blk_srt hp (by omega) (unhide HS2_20)); have HB3_40 := hide (blk_new (unhide HI2) hp (by omega) (by omega)); have HS3_40 := hide hs; have HD3 := hide hd; clear hd hp hs HD2)
      | (go_at_call 110; refine (ins_at hn 60 n _ _ (by first | rfl | omega) (by first | rfl | omega) _ _ (by omega) (by omega) (unhide HI3) (unhide HD3)).mono ?_; rintro e4 w4 ⟨rfl, t4, hd, hp, hs⟩; have HP4 := hide ((unhide HP3).trans (hp.wide (by omega) (by omega))); have HI4 := hide (blk_id (unhide HI3) hp (by omega) (by omega)); have HB4_0 := hide (blk_in hp (by omega) (unhide HB3_0)); have HS4_0 := hide (blk_srt hp (by omega) (unhide HS3_0)); have HB4_20 := hide (blk_in hp (by omega) (unhide HB3_20)); have HS4_20 := hide (blk_srt hp (by omega) (unhide HS3_20)); have HB4_40 := hide (blk_in hp (by omega) (unhide HB3_40)); have HS4_40 := hide (blk_srt hp (by omega) (unhide HS3_40)); have HB4_60 := hide (blk_new (unhide HI3) hp (by omega) (by omega)); have HS4_60 := hide hs; have HD4 := hide hd; clear hd hp hs HD3)
      | (go_at_call 111; refine (sym_at hn 0 20 40 _ _ _ (by first | rfl | omega) (by first | rfl | omega) (by first | rfl | omega) _ _ (by omega) (by omega) (by omega) (halves_of (unhide HS4_0) (unhide HS4_20) (unhide HB4_0) (unhide HB4_20)) (unhide HD4)).mono ?_; rintro e5 w5 ⟨rfl, t5, hd, hp, hs⟩; have HP5 := hide ((unhide HP4).trans (hp.wide (by omega) (by omega))); have HB5_40 := hide (blk_in hp (by omega) (unhide HB4_40)); have HS5_40 := hide (blk_srt hp (by omega) (unhide HS4_40)); have HB5_60 := hide (blk_in hp (by omega) (unhide HB4_60)); have HS5_60 := hide (blk_srt hp (by omega) (unhide HS4_60)); have HB5_0 := hide (blk_join hp (unhide HB4_0) (unhide HB4_20) (by omega) (by omega)); have HS5_0 := hide hs; have HD5 := hide hd; clear hd hp hs HD4)
      | (go_at_call 111; refine (sym_at hn 0 40 60 _ _ _ (by first | rfl | omega) (by first | rfl | omega) (by first | rfl | omega) _ _ (by omega) (by omega) (by omega) (halves_of (unhide HS5_0) (unhide HS5_40) (unhide HB5_0) (unhide HB5_40)) (unhide HD5)).mono ?_; rintro e6 w6 ⟨rfl, t6, hd, hp, hs⟩; have HP6 := hide ((unhide HP5).trans (hp.wide (by omega) (by omega))); have HB6_60 := hide (blk_in hp (by omega) (unhide HB5_60)); have HS6_60 := hide (blk_srt hp (by omega) (unhide HS5_60)); have HB6_0 := hide (blk_join hp (unhide HB5_0) (unhide HB5_40) (by omega) (by omega)); have HS6_0 := hide hs; have HD6 := hide hd; clear hd hp hs HD5))) | (refine wp_loop_rounds 6 ?_))
  exact bodyPost_end (v := .tuple #[]) (by simp [results, Try.results95, go_sem]) rfl ⟨rfl, t6, unhide HD6, unhide HP6, fun x y q1 q2 q3 => unhide HS6_0 x y q1 q2 (by omega)⟩
theorem stable_any (g cap n : Nat) (R : Nat → RowI) (W0 : World) (hn : n ≤ 60) (h : DL g cap W0 (plst R id n) W0) :
    Calls Try.prog 95 #[.slice (some ⟨g, 0, none⟩) n cap, .int .i64 (n : Int), cmpV] W0 fun e w' => e = .returned (.tuple #[]) ∧ ∃ t, DL g cap W0 (plst R t n) w' ∧ SP id t 0 n ∧ Srt (fun p => (R p).ix) t 0 n := by
  rcases (by omega : n < 20 ∨ (20 ≤ n ∧ n ≤ 20) ∨ (20 < n ∧ n < 40) ∨ (40 ≤ n ∧ n ≤ 40) ∨ (40 < n ∧ n < 60) ∨ (60 ≤ n ∧ n ≤ 60)) with q | ⟨q, r⟩ | ⟨q, r⟩ | ⟨q, r⟩ | ⟨q, r⟩ | ⟨q, r⟩
  · exact st_a g cap n R W0 q h
  · exact st_b g cap n R W0 q r h
  · exact st_c g cap n R W0 q r h
  · exact st_d g cap n R W0 q r h
  · exact st_e g cap n R W0 q r h
  · exact st_f g cap n R W0 q r h
set_option maxRecDepth 8000 in
set_option maxHeartbeats 400000 in
theorem sort_any (g cap n : Nat) (R : Nat → RowI) (W0 : World) (hn : n ≤ 60) (h : DL g cap W0 (plst R id n) W0) :
    Calls Try.prog 70 #[.slice (some ⟨g, 0, none⟩) n cap, cmpV] W0 fun e w' => e = .returned (.tuple #[]) ∧ ∃ t, DL g cap W0 (plst R t n) w' ∧ SP id t 0 n ∧ Srt (fun p => (R p).ix) t 0 n := by
  have HC := hide (stable_any g cap n R W0 hn h)
  clear h
  go_enter Try.func70, Try.ntmps70
  go_wp2_with ((go_at_call 95; refine (unhide HC).mono ?_; rintro e w1 ⟨rfl, hd⟩; have HD := hide hd; clear hd))
  exact bodyPost_end (v := .tuple #[]) (by simp [results, Try.results70, go_sem]) rfl ⟨rfl, unhide HD⟩
end Go.Proofs.Ytnbleebilmghcab
namespace Go.Proofs.Ytnbleebilmghcab
open Go Go.RowKit
attribute [local go_sem ↓] Go.wp_at_zero Go.wp_at_succ
theorem getD_row' (rows : List RowI) (j : Nat) (h : j < rows.length) : rows.getD j dR = rows[j] := by rw [List.getD_eq_getElem?_getD, List.getElem?_eq_getElem h]; rfl
theorem sorted_unique (f : RowI → Int) : ∀ (l1 l2 : List RowI), l1.Pairwise (fun a b => f a < f b) → l2.Pairwise (fun a b => f a < f b) → (∀ x, x ∈ l1 ↔ x ∈ l2) → l1 = l2
  | [], [], _, _, _ => rfl
  | [], b :: l2, _, _, h => by have := (h b).2 (by simp); simp at this
  | a :: l1, [], _, _, h => by have := (h a).1 (by simp); simp at this
  | a :: l1, b :: l2, h1, h2, h => by
    rw [List.pairwise_cons] at h1 h2
    have hab : a = b := by
      have ha := (h a).1 (by simp)
      have hb := (h b).2 (by simp)
      rw [List.mem_cons] at ha hb
      rcases ha with ha | ha
      · exact ha
      · rcases hb with hb | hb
        · exact hb.symm
        · have := h2.1 a ha
          have := h1.1 b hb
          omega
    subst hab
    rw [sorted_unique f l1 l2 h1.2 h2.2 fun x => ?_]
    have hx := h x
    rw [List.mem_cons, List.mem_cons] at hx
    constructor
    · intro m
      rcases hx.1 (.inr m) with e | e
      · have := h1.1 x m; rw [e] at this; omega
      · exact e
    · intro m
      rcases hx.2 (.inr m) with e | e
      · have := h2.1 x m; rw [e] at this; omega
      · exact e
theorem right_sorted {X : Wd} (hr : RightW X) : X.rows.Pairwise (fun a b => a.ix < b.ix) := by
  rw [List.pairwise_iff_getElem]
  intro i j hi hj hij
  have := hr.lt' hij hj
  unfold rowOf at this
  rw [getD_row' _ _ hi, getD_row' _ _ hj] at this
  exact this
theorem sort_eq {X : Wd} (hr : RightW X) {all : List RowI} (hp : all.Perm X.rows) {t : Nat → Nat} (hsp : SP id t 0 all.length) (hs : Srt (fun p => ((fun k => all.getD k dR) p).ix) t 0 all.length) : plst (fun k => all.getD k dR) t all.length = X.rows := by
  have hg : ∀ k, k < all.length → all.getD k dR ∈ all := fun k hk => by rw [getD_row' _ _ hk]; exact List.getElem_mem hk
  have hnd : all.Pairwise (fun a b => a.ix ≠ b.ix) := by
    refine (hp.pairwise_iff (fun h => h.symm)).2 ?_
    exact (right_sorted hr).imp fun h => by omega
  refine sorted_unique (fun r => r.ix) _ _ ?_ (right_sorted hr) fun x => ?_
  · rw [List.pairwise_iff_getElem]
    intro i j hi hj hij
    rw [plst_len] at hi hj
    have h1 := hs i j (Nat.zero_le _) hij hj
    obtain ⟨p, _, p2, ep⟩ := hsp.mem (Nat.zero_le i) hi
    obtain ⟨q, _, q2, eq⟩ := hsp.mem (Nat.zero_le j) hj
    simp only [plst, List.getElem_map, List.getElem_range]
    have hne : t i ≠ t j := fun e => by
      rcases h1 with h1 | h1
      · rw [e] at h1; simp at h1
      · omega
    have e1 : t i < all.length := by rw [ep]; exact p2
    have e2 : t j < all.length := by rw [eq]; exact q2
    have hix : (all.getD (t i) dR).ix ≠ (all.getD (t j) dR).ix := by
      rw [getD_row' _ _ e1, getD_row' _ _ e2]
      rw [List.pairwise_iff_getElem] at hnd
      rcases Nat.lt_or_gt_of_ne hne with h | h
      · exact hnd _ _ e1 e2 h
      · exact (hnd _ _ e2 e1 h).symm
    have := tl_key h1
    dsimp only at this
    omega
  · rw [← hp.mem_iff]
    unfold plst
    rw [List.mem_map]
    constructor
    · rintro ⟨k, hk, rfl⟩
      obtain ⟨p, _, p2, ep⟩ := hsp.mem (Nat.zero_le k) (List.mem_range.1 hk)
      rw [ep]
      exact hg _ p2
    · intro hx
      obtain ⟨k, hk, rfl⟩ := List.getElem_of_mem hx
      obtain ⟨p, _, p2, ep⟩ := hsp.symm.mem (Nat.zero_le k) hk
      refine ⟨p, List.mem_range.2 p2, ?_⟩
      rw [← ep]
      exact getD_row' _ _ hk
theorem plst_id (l : List RowI) : plst (fun k => l.getD k dR) id l.length = l := by
  refine List.ext_getElem (by rw [plst_len]) fun k h1 h2 => ?_
  simp only [plst, List.getElem_map, List.getElem_range]
  exact getD_row' _ _ h2
set_option maxRecDepth 8000 in
set_option maxHeartbeats 1000000 in
theorem copied_any (G : Option Addr) (gcap : Nat) (l : List Int) (w : World) (hl : l.length ≤ 1000) (hG : IntsL w G l) :
    Calls Try.prog 66 #[.slice G l.length gcap] w fun e w' => ∃ A c, e = .returned (.slice A l.length c) ∧ w'.ownsRow w.heap.size 3 1 (.slice A l.length c) l.length (cellsOfInts l) ∧ Below w.heap.size w w' := by
  obtain ⟨i3, hi3, hz3, hs3, hb3⟩ := info_parts info3
  have HI := hide hi3
  have HZ := hide hz3
  have HS := hide hs3
  have HB := hide hb3
  have HG := hide hG.copies
  clear hi3 hz3 hs3 hb3 hG
  go_enter Try.func66, Try.ntmps66
  go_wp2_with ((at_builtin; refine wpList_plain rfl fun _ hK => wp_append_copy w _ _ 38 rfl w.heap.size 3 i3 _ 1 8 Try.underlying38 (unhide HI) (unhide HZ) (unhide HS) (unhide HB) rfl (by decide) rfl G l.length gcap (cellsOfInts l) rfl (unhide HG) (by unfold maxLen; omega) (by omega) (Nat.le_refl _) fun v' w' h1 h2 => hK _ _ ?_; have HO := hide h1; have HGR := hide h2; clear h1 h2))
  go_ret
  obtain ⟨A, c, rfl⟩ := own_one (unhide HO)
  exact ⟨A, c, rfl, unhide HO, grown_below (unhide HGR) (fun k e => by cases e) (Nat.le_refl _)⟩
end Go.Proofs.Ytnbleebilmghcab
namespace Go.Proofs.Ytnbleebilmghcab
open Go Go.RowKit
attribute [local go_sem ↓] Go.wp_at_zero Go.wp_at_succ
theorem size43t : (Try.prog.info? 30).map (·.size) = some 2 := by kernel_rfl
set_option maxRecDepth 8000 in
set_option maxHeartbeats 1000000 in
theorem ins_nil (w : World) : Calls Try.prog 110 #[.slice none 0 0, .int .i64 0, .int .i64 0, cmpV] w fun e w' => e = .returned (.tuple #[]) ∧ w' = w := by
  go_enter Try.func110, Try.ntmps110
  go_wp2
  refine wp_loop_rounds 1 ?_
  rw [rounds_succ]
  go_wp2
  exact bodyPost_end (v := .tuple #[]) (by simp [results, Try.results110, go_sem]) rfl ⟨rfl, rfl⟩
set_option maxRecDepth 8000 in
set_option maxHeartbeats 1000000 in
theorem stable_nil (w : World) : Calls Try.prog 95 #[.slice none 0 0, .int .i64 0, cmpV] w fun e w' => e = .returned (.tuple #[]) ∧ w' = w := by
  have HC := hide ins_nil
  go_enter Try.func95, Try.ntmps95
  go_wp2
  refine wp_loop_rounds 1 ?_
  rw [rounds_succ]
  go_wp2_with ((go_at_call 110; refine (unhide HC _).mono ?_; rintro e w1 ⟨rfl, hw⟩; obtain rfl := hw.symm))
  refine wp_loop_rounds 1 ?_
  rw [rounds_succ]
  go_wp2
  exact bodyPost_end (v := .tuple #[]) (by simp [results, Try.results95, go_sem]) rfl ⟨rfl, rfl⟩
set_option maxRecDepth 8000 in
set_option maxHeartbeats 1000000 in
theorem sort_nil (w : World) : Calls Try.prog 70 #[.slice none 0 0, cmpV] w fun e w' => e = .returned (.tuple #[]) ∧ w' = w := by
  have HC := hide stable_nil
  go_enter Try.func70, Try.ntmps70
  go_wp2_with ((go_at_call 95; refine (unhide HC _).mono ?_; rintro e w1 ⟨rfl, hw⟩; obtain rfl := hw.symm))
  exact bodyPost_end (v := .tuple #[]) (by simp [results, Try.results70, go_sem]) rfl ⟨rfl, rfl⟩
theorem sort_rows {X : Wd} (hr : RightW X) {all : List RowI} (hp : all.Perm X.rows) (hl : all.length ≤ 60) {base : Nat} (v : Value) (W : World) (hv : W.ownsRow base 53 11 v all.length (cellsOfRows all)) (hb : base ≤ W.heap.size) :
    Calls Try.prog 70 #[v, .func (.func 71) #[] #[]] W fun e w' => e = .returned (.tuple #[]) ∧ w'.ownsRow base 53 11 v X.rows.length (cellsOfRows X.rows) ∧ Below base W w' := by
  have hlen := hp.length_eq
  rcases hv.2 with ⟨rfl, h0⟩ | ⟨g, cap, cur, rfl, hg, hrest⟩
  · have e1 : all = [] := List.eq_nil_of_length_eq_zero h0
    have e2 : X.rows = [] := List.eq_nil_of_length_eq_zero (by omega)
    refine (sort_nil W).mono fun e w' ⟨he, hw⟩ => ⟨he, ?_, ?_⟩
    · rw [e2, hw]; exact World.ownsRow_nil _ _ _ _
    · rw [hw]; exact Below.refl _ _
  · have hD : DL g cap W (plst (fun k => all.getD k dR) id all.length) W := by
      rw [plst_id]
      exact ⟨⟨hv.1, .inr ⟨g, cap, cur, rfl, Nat.le_refl _, hrest⟩⟩, World.grownBy.refl _ _⟩
    refine (sort_any g cap all.length (fun k => all.getD k dR) W hl hD).mono fun e w' ⟨he, t, h1, h2, h3⟩ => ⟨he, ?_, grown_below h1.gr (fun k e => by simp only [Option.some.injEq] at e; omega) hb⟩
    have ho := h1.own
    rw [sort_eq hr hp h2 h3, ← hlen] at ho
    rw [← hlen]
    exact own_le ho hg
theorem SB.start71 (w : World) (u0 u1 : Value) : SB w u0 u1 (.slice none 0 0) (.slice none 0 0) (.int .i64 0) (.int .i64 0) (((w.alloc (.cells #[u0, u1] 43)).alloc (.cells #[.slice none 0 0, .slice none 0 0] 40)).alloc (.cells #[.int .i64 0, .int .i64 0] 30)) := by
  obtain ⟨a0, a1, af, ab⟩ := new_box (W := w) (u0 := u0) (u1 := u1) (t := 43) rfl
  have z1 : (w.alloc (.cells #[u0, u1] 43)).heap.size = w.heap.size + 1 := by simp
  generalize w.alloc (.cells #[u0, u1] 43) = W1 at *
  obtain ⟨b0, b1, bf, bb⟩ := new_box (W := W1) (u0 := .slice none 0 0) (u1 := .slice none 0 0) (t := 40) z1
  have z2 : (W1.alloc (.cells #[.slice none 0 0, .slice none 0 0] 40)).heap.size = w.heap.size + 2 := by simp; omega
  generalize W1.alloc (.cells #[.slice none 0 0, .slice none 0 0] 40) = W2 at *
  obtain ⟨c0, c1, cf, cb⟩ := new_box (W := W2) (u0 := .int .i64 0) (u1 := .int .i64 0) (t := 30) z2
  exact ⟨(ab.trans (bb.mono ab.size)).trans (cb.mono (by omega)), by simp; omega, keep_below cb (keep_below bb a0), keep_below cb (keep_below bb a1), keep_below cb b0, keep_below cb b1, c0, c1, fun i => (cb.frozen (p := ⟨w.heap.size + 1, i, none⟩) (by show w.heap.size + 1 < W2.heap.size; omega)).trans (bf i), cf⟩
structure TG (w : World) (u0 u1 v : Value) (rows : List RowI) (W : World) : Prop where
  sb : SB w u0 u1 (.slice none 0 0) (.slice none 0 0) (.int .i64 0) (.int .i64 0) W
  own : W.ownsRow (w.heap.size + 3) 53 11 v rows.length (cellsOfRows rows)
theorem TG.below {w W W1 : World} {u0 u1 v : Value} {rows : List RowI} (h : TG w u0 u1 v rows W) (hb : Below W.heap.size W W1) : TG w u0 u1 v rows W1 := ⟨h.sb.below hb, own_kept h.own hb⟩
def rowsTo (l : List TabI) (i : Nat) : List RowI := (l.take i).flatMap (·.rows)
theorem rowsTo_succ (l : List TabI) (i : Nat) (h : i < l.length) : rowsTo l (i + 1) = rowsTo l i ++ l[i].rows := by
  unfold rowsTo
  rw [List.take_succ_eq_append_getElem h, List.flatMap_append]
  simp
theorem rowsTo_len (l : List TabI) (i : Nat) : (rowsTo l i).length ≤ (l.flatMap (·.rows)).length := by
  unfold rowsTo
  conv => rhs; rw [← List.take_append_drop i l]
  rw [List.flatMap_append, List.length_append]
  omega
structure StAt (w : World) (T : Option Addr) (G : Option Addr) (tabs : List TabI) (X : Wd) : Prop where
  tbs : TabsAt w T tabs
  gens : IntsL w G X.gens
  right : RightW X
  each : ∀ t ∈ tabs, TabRight t
  up : ∀ j (h : j + 1 < tabs.length), (tabs[j]'(by omega)).has < tabs[j + 1].has
  perm : (tabs.flatMap (·.rows)).Perm X.rows
  few : tabs.length ≤ 1000
theorem StAt.below {w w1 : World} {T G : Option Addr} {tabs : List TabI} {X : Wd} (h : StAt w T G tabs X) (hb : Below w.heap.size w w1) : StAt w1 T G tabs X := ⟨h.tbs.below hb, h.gens.below hb, h.right, h.each, h.up, h.perm, h.few⟩
theorem StAt.wrong {w : World} {T G : Option Addr} {tabs : List TabI} {X : Wd} (h : StAt w T G tabs X) {i : Nat} (hi : i < tabs.length) (tb tf tcap : Nat) (hT : T = some ⟨tb, tf, none⟩) (W : World) (hb : Below w.heap.size w W) :
    Calls Try.prog 68 #[.slice (some ⟨tb, tf, none⟩) tabs.length tcap, .int .i64 (i : Int)] W fun e w' => e = .returned (.int .i64 0) ∧ Below W.heap.size W w' := by
  subst hT
  obtain ⟨b, o, e, A, c, C, cc, ht⟩ := h.tbs.below hb i hi
  simp only [Option.some.injEq, Addr.mk.injEq, and_true] at e
  obtain ⟨rfl, rfl⟩ := e
  have hr := h.each _ (List.getElem_mem hi)
  by_cases h0 : i = 0
  · exact wrongtable_first tb tf tabs.length tcap i _ A c C cc W h.few hi ht hr h0
  · obtain ⟨j, rfl⟩ : ∃ j, i = j + 1 := ⟨i - 1, by omega⟩
    obtain ⟨b', o', e', A', c', C', cc', ht'⟩ := h.tbs.below hb j (by omega)
    simp only [Option.some.injEq, Addr.mk.injEq, and_true] at e'
    obtain ⟨rfl, rfl⟩ := e'
    exact wrongtable_next tb tf tabs.length tcap (j + 1) _ A c C cc W h.few hi ht hr j rfl _ ht'.c0 (h.up j hi)
end Go.Proofs.Ytnbleebilmghcab
namespace Go.Proofs.Ytnbleebilmghcab
open Go Go.RowKit
attribute [local go_sem ↓] Go.wp_at_zero Go.wp_at_succ
theorem wldnew_putc {W : World} {B : Nat} {A : Option Addr} {c : Nat} {G : Option Addr} {gc : Nat} {Y : Wd} (h : WldNew B W A c G gc Y) {b o : Nat} {vs : List Value} (hb : b < B) : WldNew B (W.setCells b o vs) A c G gc Y := by
  refine ⟨⟨fun j hj => ?_, fun j hj => ?_⟩, h.fa, h.fg⟩
  · obtain ⟨b', off, e, hr⟩ := h.rows j hj
    exact ⟨b', off, e, rowAt_others (by have := h.fa b' off e; omega) hr⟩
  · obtain ⟨b', off, e, hr⟩ := h.gens j hj
    exact ⟨b', off, e, (setcs_other (by have := h.fg b' off e; simp only [ne_eq]; omega)).trans hr⟩
theorem wldnew_le {W : World} {B B' : Nat} {A : Option Addr} {c : Nat} {G : Option Addr} {gc : Nat} {Y : Wd} (h : WldNew B W A c G gc Y) (hb : B' ≤ B) : WldNew B' W A c G gc Y := ⟨h.toWldAt, fun c o e => Nat.le_trans hb (h.fa c o e), fun c o e => Nat.le_trans hb (h.fg c o e)⟩
def stV (T : Option Addr) (tn tcap : Nat) (G : Option Addr) (gn gcap : Nat) : Value := .agg #[.slice T tn tcap, .slice G gn gcap]
set_option maxRecDepth 8000 in
set_option maxHeartbeats 8000000 in
theorem together_any (T : Option Addr) (tcap : Nat) (G : Option Addr) (gcap : Nat) (tabs : List TabI) (X : Wd) (w : World) (h : StAt w T G tabs X) :
    Calls Try.prog 44 #[stV T tabs.length tcap G X.gens.length gcap] w fun e w' => ∃ A' c' G' gc', e = .returned (.tuple #[wldV A' c' G' gc' X, .agg #[.int .i64 0, .int .i64 0]]) ∧ WldNew w.heap.size w' A' c' G' gc' X ∧ Below w.heap.size w w' := by
  have hw0 := (right_iff X).2 h.right
  obtain ⟨hl, hgl, _⟩ := right_hr hw0
  have hpl := h.perm.length_eq
  have hSO := fun v W (hv : W.ownsRow (w.heap.size + 3) 53 11 v (tabs.flatMap (·.rows)).length (cellsOfRows (tabs.flatMap (·.rows)))) (hb : w.heap.size + 3 ≤ W.heap.size) => sort_rows h.right h.perm (by omega) v W hv hb
  have hCP := fun W (hb : Below w.heap.size w W) => copied_any G gcap X.gens W (by omega) (h.gens.below hb)
  have hP := fun A' c' G' gc' W (hW : WldAt W A' c' G' gc' X) => pwrong_any A' X.rows.length c' G' X.gens.length gc' (fun j => X.rows.getD j dR) (fun j => X.gens.getD j 0) W (by omega) hW.rows hW.gens
  have eW : plainF (fun j => X.rows.getD j dR) X.rows.length X.gens.length (fun j => X.gens.getD j 0) = wrongW X := rfl
  rw [eW] at hP
  unfold faultP worldV at hP
  rw [hw0] at hP
  generalize (wrongW X).2 = wa at *
  have htf := h.few
  have hrl := fun i => rowsTo_len tabs i
  have hend : rowsTo tabs tabs.length = tabs.flatMap (·.rows) := by unfold rowsTo; rw [List.take_length]
  have HEND := hide hend
  have HRL := hide hrl
  have HSO := hide hSO
  have HCP := hide hCP
  have HP := hide hP
  have HST := hide h
  have hTG : TG w (.slice T tabs.length tcap) (.slice G X.gens.length gcap) (.slice none 0 0) [] (((w.alloc (.cells #[.slice T tabs.length tcap, .slice G X.gens.length gcap] 43)).alloc (.cells #[.slice none 0 0, .slice none 0 0] 40)).alloc (.cells #[.int .i64 0, .int .i64 0] 30)) := ⟨SB.start71 w _ _, World.ownsRow_nil _ _ _ _⟩
  have HTG := hide hTG
  clear hSO hCP hP h eW hrl hend hTG
  unfold stV wldV worldV
  go_enter Try.func44, Try.ntmps44
  go_wp2
  go_loopw [4, 13] (fun x y wr => ∃ i : Nat, i ≤ tabs.length ∧ y = .int .i64 i ∧ TG w (.slice T tabs.length tcap) (.slice G X.gens.length gcap) x (rowsTo tabs i) wr) (fun _ y _ => tabs.length - (intOf y).toNat)
  case atStart => exact ⟨0, Nat.zero_le _, rfl, by simpa [rowsTo] using unhide HTG⟩
  case round =>
    clear HTG
    obtain ⟨i, hi, rfl, hT⟩ := hrel
    by_cases hlt : i < tabs.length
    · have i0 : (0 : Int) ≤ (i : Int) := by omega
      have i1 : (i : Int) < (tabs.length : Int) := by omega
      obtain ⟨tb, tf, hTe, A, c, C, cc, hta⟩ := (unhide HST).tbs i hlt
      have hWT := fun W hb => (unhide HST).wrong hlt tb tf tcap hTe W hb
      have hrt := (unhide HST).each _ (List.getElem_mem hlt)
      have HSU := hide (rowsTo_succ tabs i hlt)
      generalize tabs[i] = t at *
      have hAD := fun v W (hv : TG w (.slice T tabs.length tcap) (.slice G X.gens.length gcap) v (rowsTo tabs i) W) => addrows_any v (rowsTo tabs i) t A c C cc w W (w.heap.size + 3) hv.own hv.sb.sz hv.sb.bel (by omega) hta.bs hta.cols hrt (by have := unhide HRL i; omega)
      have d0 := keep_below hT.sb.bel hta.c0
      have d1 := keep_below hT.sb.bel hta.c1
      have d2 := keep_below hT.sb.bel hta.c2
      have r0 := hT.sb.r0
      have ls : w.heap.size < wr.heap.size := by have := hT.sb.sz; omega
      have HT := hide hT
      have HWT := hide hWT
      have HAD := hide hAD
      have HHT := hide hta
      subst hTe
      clear hT hWT hAD hta hrt
      go_wp2_with (first
        | (go_at_call 68; refine (unhide HWT _ ((unhide HT).sb.bel.trans ((bel1 wr (.cells #[.int .i64 t.has, .slice A t.rows.length c, .slice C (lstTo t.has 8).length cc] 98)).mono (unhide HT).sb.bel.size))).mono ?_; rintro e w1 ⟨rfl, hb1⟩; have hs := WT.start wr (.int .i64 t.has) (.slice A t.rows.length c) (.slice C (lstTo t.has 8).length cc) 98; have x0 := keep_below hb1 hs.b0; have x1 := keep_below hb1 hs.b1; have x2 := keep_below hb1 hs.b2; have HT1 := hide (((unhide HT).below (bel1 _ _)).below hb1); clear hb1 hs d0 d1 d2 r0)
        | (go_at_call 69; refine (unhide HAD _ _ (unhide HT1)).mono ?_; rintro e w2 ⟨v2, rfl, ho2, hb2⟩; have HT2 : Hid (TG w (.slice (some ⟨tb, tf, none⟩) tabs.length tcap) (.slice G X.gens.length gcap) v2 (rowsTo tabs i ++ t.rows) w2) := hide ⟨(unhide HT1).sb.keep hb2, ho2⟩; clear ho2 hb2 x0 x1 x2))
      go_roundw
      case rel => exact ⟨i + 1, by omega, by go_num, by rw [unhide HSU]; exact unhide HT2⟩
      case measure => simp [intOf]; omega
    · obtain rfl : i = tabs.length := by omega
      rw [unhide HEND] at hT
      have r1 := hT.sb.r1
      have HT := hide hT
      clear hT
      go_wp2_with (first
        | (go_at_call 70; refine (unhide HSO _ _ (unhide HT).own (unhide HT).sb.sz).mono ?_; rintro e w1 ⟨rfl, ho1, hb1⟩; obtain ⟨Av, cv, rfl⟩ := own_one ho1; have hs1 := (unhide HT).sb.keep hb1; clear r1; have r1 := hs1.r1; have HO1 := hide ho1; have HS1 := hide hs1; clear hb1 ho1 hs1 HT)
        | (go_at_call 66; refine (unhide HCP _ (unhide HS1).bel).mono ?_; rintro e w2 ⟨Ag, cg, rfl, ho2, hb2⟩; have hN : WldNew (w.heap.size + 3) w2 Av cv Ag cg X := ⟨⟨own_rows (own_kept (unhide HO1) hb2), own_ints ho2⟩, own_fresh (unhide HO1) (Nat.le_refl _), own_fresh ho2 (unhide HS1).sz⟩; have HN2 := hide (hN.below (bel1 w2 (.cells #[.slice Av X.rows.length cv, .slice Ag X.gens.length cg] 40))); have HS2 := hide (((unhide HS1).below hb2).below (bel1 w2 (.cells #[.slice Av X.rows.length cv, .slice Ag X.gens.length cg] 40))); clear hN ho2 hb2 r1)
        | (go_at_call 42; refine (unhide HP _ _ _ _ _ (unhide HN2).toWldAt).mono ?_; rintro e w3 ⟨rfl, hb3⟩; obtain ⟨e0, e1, _, _⟩ := new_box (W := w2) (u0 := .slice Av X.rows.length cv) (u1 := .slice Ag X.gens.length cg) (t := 40) rfl; have y0 := keep_below hb3 e0; have y1 := keep_below hb3 e1; have ly := World.block_lt_of_cell? w3 _ y0; have HN4 := hide (((unhide HN2).below hb3).below (bel1 w3 (.cells #[.int .i64 0, .int .i64 wa] 30))); have HS4 := hide (((unhide HS2).below hb3).below (bel1 w3 (.cells #[.int .i64 0, .int .i64 wa] 30))); clear hb3 e0 e1 HN2 HS2)
        | (refine wpList_putN rfl 40 (.tmp 2) (.tmp 48) rfl (w.heap.size + 1) 0 [.slice Av X.rows.length cv, .slice Ag X.gens.length cg] rfl rfl (by simp [Value.oneCell']) size38 (unhide HS4).thereA ?_; intro W5 hW5; have hs5 := (unhide HS4).giveA (.slice Av X.rows.length cv) (.slice Ag X.gens.length cg); have hn5 := wldnew_putc (unhide HN4) (b := w.heap.size + 1) (o := 0) (vs := [.slice Av X.rows.length cv, .slice Ag X.gens.length cg]) (by omega); rw [← hW5] at hs5 hn5; have HS5 := hide hs5; have HN5 := hide hn5; clear hW5 hs5 hn5 HS4 HN4)
        | (refine wpList_putN rfl 30 (.tmp 3) (.tmp 49) rfl (w.heap.size + 2) 0 [.int .i64 0, .int .i64 0] rfl rfl (by simp [Value.oneCell']) size43t (unhide HS5).thereB ?_; intro W6 hW6; have hs6 := (unhide HS5).giveB (.int .i64 0) (.int .i64 0); have hn6 := wldnew_putc (unhide HN5) (b := w.heap.size + 2) (o := 0) (vs := [.int .i64 0, .int .i64 0]) (by omega); rw [← hW6] at hs6 hn6; have HS6 := hide hs6; have HN6 := hide hn6; clear hW6 hs6 hn6 HS5 HN5))
      have t0 := (unhide HS6).t0
      have t1 := (unhide HS6).t1
      have s0 := (unhide HS6).s0
      have s1 := (unhide HS6).s1
      refine bodyPost_ret (v := .tuple #[.agg #[.slice Av X.rows.length cv, .slice Ag X.gens.length cg], .agg #[.int .i64 0, .int .i64 0]]) (by simp [results, Try.results44, go_sem, t0, t1, s0, s1]) rfl ⟨Av, cv, Ag, cg, rfl, wldnew_le (unhide HN6) (by omega), (unhide HS6).bel⟩
end Go.Proofs.Ytnbleebilmghcab
namespace Go.Proofs.Ytnbleebilmghcab
open Go Go.RowKit
attribute [local go_sem ↓] Go.wp_at_zero Go.wp_at_succ
structure BB (w : World) (u0 u1 y0 y1 : Value) (W : World) : Prop where
  bel : Below w.heap.size w W
  sz : w.heap.size + 2 ≤ W.heap.size
  r : B13 w.heap.size u0 u1 W
  s : B13 (w.heap.size + 1) y0 y1 W
theorem BB.below {w W W1 : World} {u0 u1 y0 y1 : Value} (h : BB w u0 u1 y0 y1 W) (hb : Below W.heap.size W W1) : BB w u0 u1 y0 y1 W1 :=
  ⟨h.bel.trans (hb.mono h.bel.size), Nat.le_trans h.sz hb.size, h.r.keep (hb.mono (by have := h.sz; omega)), h.s.keep (hb.mono h.sz)⟩
theorem BB.start (w : World) (u0 u1 y0 y1 : Value) (s t : TypeId) : BB w u0 u1 y0 y1 ((w.alloc (.cells #[u0, u1] s)).alloc (.cells #[y0, y1] t)) := by
  obtain ⟨a0, a1, af, ab⟩ := new_box (W := w) (u0 := u0) (u1 := u1) (t := s) rfl
  have z1 : (w.alloc (.cells #[u0, u1] s)).heap.size = w.heap.size + 1 := by simp
  generalize w.alloc (.cells #[u0, u1] s) = W1 at *
  obtain ⟨c0, c1, cf, cb⟩ := new_box (W := W1) (u0 := y0) (u1 := y1) (t := t) z1
  exact ⟨ab.trans (cb.mono ab.size), by simp; omega, B13.keep ⟨a0, a1, af⟩ (cb.mono (by omega)), ⟨c0, c1, cf⟩⟩
theorem b13_there {b : Nat} {u v : Value} {W : World} (h : B13 b u v W) : W.there b 0 2 := fun j hj => by
  rcases (by omega : j = 0 ∨ j = 1) with rfl | rfl
  · exact ⟨by rw [Nat.zero_add, h.e0]; rfl, h.f _⟩
  · exact ⟨by rw [Nat.zero_add, h.e1]; rfl, h.f _⟩
theorem b13_give {b : Nat} {u v : Value} {W : World} (h : B13 b u v W) (u' v' : Value) : B13 b u' v' (W.setCells b 0 [u', v']) := by
  have s := fun j hj => World.cell?_setCells_in b [u', v'] 0 W (fun j hj => (b13_there h j hj).1) j hj
  exact ⟨s 0 (by simp), s 1 (by simp), fun i => by rw [World.frozen?_setCells]; exact h.f i⟩
theorem BB.give {w W : World} {u0 u1 y0 y1 : Value} (h : BB w u0 u1 y0 y1 W) (z0 z1 : Value) : BB w u0 u1 z0 z1 (W.setCells (w.heap.size + 1) 0 [z0, z1]) := by
  have hb : Below (w.heap.size + 1) W (W.setCells (w.heap.size + 1) 0 [z0, z1]) := below_setCells (w.heap.size + 1) (Nat.le_refl _) [z0, z1] 0 W (Below.refl _ _)
  exact ⟨h.bel.trans (hb.mono (by omega)), Nat.le_trans h.sz hb.size, h.r.keep hb, b13_give h.s z0 z1⟩
set_option maxRecDepth 8000 in
set_option maxHeartbeats 4000000 in
theorem swrong_any (T : Option Addr) (tcap : Nat) (G : Option Addr) (gcap : Nat) (tabs : List TabI) (X : Wd) (w : World) (h : StAt w T G tabs X) :
    Calls Try.prog 46 #[stV T tabs.length tcap G X.gens.length gcap] w fun e w' => e = .returned (.agg #[.int .i64 0, .int .i64 0]) ∧ Below w.heap.size w w' := by
  have hTO := fun W (hb : Below w.heap.size w W) => together_any T tcap G gcap tabs X W (h.below hb)
  have hBB := BB.start w (.slice T tabs.length tcap) (.slice G X.gens.length gcap) (.int .i64 0) (.int .i64 0) 43 30
  unfold stV wldV worldV at hTO
  have HTO := hide hTO
  have HBB := hide hBB
  clear hTO hBB h
  unfold stV
  go_enter Try.func46, Try.ntmps46
  go_wp2_with (first
    | (go_at_call 44; refine (unhide HTO _ (unhide HBB).bel).mono ?_; rintro e w1 ⟨A1, c1, G1, gc1, rfl, hN, hb1⟩; have HB1 := hide (((unhide HBB).below hb1).below (bel2 w1 (.cells #[.slice A1 X.rows.length c1, .slice G1 X.gens.length gc1] 40) (.cells #[.int .i64 0, .int .i64 0] 30))); clear hN hb1)
    | (refine wpList_putN rfl 30 (.tmp 2) (.tmp 10) rfl (w.heap.size + 1) 0 [.int .i64 0, .int .i64 0] rfl rfl (by simp [Value.oneCell']) size43t (b13_there (unhide HB1).s) ?_; intro W3 hW3; have hC := (unhide HB1).give (.int .i64 0) (.int .i64 0); rw [← hW3] at hC; have HC := hide hC; clear hW3 hC))
  have t0 := (unhide HC).s.e0
  have t1 := (unhide HC).s.e1
  refine bodyPost_ret (v := .agg #[.int .i64 0, .int .i64 0]) (by simp [results, Try.results46, go_sem, t0, t1]) rfl ⟨rfl, (unhide HC).bel⟩
set_option maxRecDepth 8000 in
set_option maxHeartbeats 4000000 in
theorem sworld_any (T : Option Addr) (tcap : Nat) (G : Option Addr) (gcap : Nat) (tabs : List TabI) (X : Wd) (w : World) (h : StAt w T G tabs X) :
    Calls Try.prog 18 #[stV T tabs.length tcap G X.gens.length gcap] w fun e w' => ∃ A' c' G' gc', e = .returned (wldV A' c' G' gc' X) ∧ WldNew w.heap.size w' A' c' G' gc' X ∧ Below w.heap.size w w' := by
  have hTO := fun W (hb : Below w.heap.size w W) => together_any T tcap G gcap tabs X W (h.below hb)
  have hBB := BB.start w (.slice T tabs.length tcap) (.slice G X.gens.length gcap) (.slice none 0 0) (.slice none 0 0) 43 40
  unfold stV wldV worldV at hTO
  have HTO := hide hTO
  have HBB := hide hBB
  clear hTO hBB h
  unfold stV wldV worldV
  go_enter Try.func18, Try.ntmps18
  go_wp2_with (first
    | (go_at_call 44; refine (unhide HTO _ (unhide HBB).bel).mono ?_; rintro e w1 ⟨A1, c1, G1, gc1, rfl, hN, hb1⟩; have HB1 := hide (((unhide HBB).below hb1).below (bel2 w1 (.cells #[.slice A1 X.rows.length c1, .slice G1 X.gens.length gc1] 40) (.cells #[.int .i64 0, .int .i64 0] 30))); have HN := hide ((hN.below (bel2 w1 (.cells #[.slice A1 X.rows.length c1, .slice G1 X.gens.length gc1] 40) (.cells #[.int .i64 0, .int .i64 0] 30)))); clear hN hb1)
    | (refine wpList_putN rfl 40 (.tmp 2) (.tmp 10) rfl (w.heap.size + 1) 0 [.slice A1 X.rows.length c1, .slice G1 X.gens.length gc1] rfl rfl (by simp [Value.oneCell']) size38 (b13_there (unhide HB1).s) ?_; intro W3 hW3; have hC := (unhide HB1).give (.slice A1 X.rows.length c1) (.slice G1 X.gens.length gc1); have hM := wldnew_putc (unhide HN) (b := w.heap.size + 1) (o := 0) (vs := [.slice A1 X.rows.length c1, .slice G1 X.gens.length gc1]) (by have := (unhide HBB).sz; omega); rw [← hW3] at hC hM; have HC := hide hC; have HM := hide hM; clear hW3 hC hM))
  have t0 := (unhide HC).s.e0
  have t1 := (unhide HC).s.e1
  refine bodyPost_ret (v := .agg #[.slice A1 X.rows.length c1, .slice G1 X.gens.length gc1]) (by simp [results, Try.results18, go_sem, t0, t1]) rfl ⟨A1, c1, G1, gc1, rfl, wldnew_le (unhide HM) (unhide HBB).bel.size, (unhide HC).bel⟩
end Go.Proofs.Ytnbleebilmghcab
namespace Go.Proofs.Ytnbleebilmghcab
open Go Go.RowKit
attribute [local go_sem ↓] Go.wp_at_zero Go.wp_at_succ
def TC (w : World) (T : Option Addr) (n : Nat) (H : Nat → Int) (u1 u2 : Nat → Value) : Prop := ∀ j, j < n → ∃ b o, T = some ⟨b, o, none⟩ ∧ w.cell? ⟨b, o + j * 3, none⟩ = some (.int .i64 (H j)) ∧ w.cell? ⟨b, o + j * 3 + 1, none⟩ = some (u1 j) ∧ w.cell? ⟨b, o + j * 3 + 2, none⟩ = some (u2 j)
theorem TC.below {w w1 : World} {T : Option Addr} {n : Nat} {H : Nat → Int} {u1 u2 : Nat → Value} (h : TC w T n H u1 u2) (hb : Below w.heap.size w w1) : TC w1 T n H u1 u2 := fun j hj => by
  obtain ⟨b, o, e, h1, h2, h3⟩ := h j hj
  exact ⟨b, o, e, keep_below hb h1, keep_below hb h2, keep_below hb h3⟩
set_option maxRecDepth 8000 in
set_option maxHeartbeats 1000000 in
theorem cmptab_any (h a : Int) (x y : Value) (w : World) : Calls Try.prog 107 #[.agg #[.int .i64 h, x, y], .int .i64 a] w fun e w' => e = .returned (.int .i64 (cmpI h a)) ∧ Below w.heap.size w w' := by
  have HC := hide (compare_any h a)
  go_enter Try.func107, Try.ntmps107
  go_wp2_with ((go_at_call 72; refine (unhide HC _).mono ?_; rintro e w1 ⟨rfl, hw⟩; obtain rfl := hw.symm))
  go_ret
  exact ⟨rfl, bel1 _ _⟩
set_option maxRecDepth 8000 in
set_option maxHeartbeats 4000000 in
theorem bsearch_any (T : Option Addr) (tcap n : Nat) (H : Nat → Int) (u1 u2 : Nat → Value) (a : Int) (w : World) (hn : n ≤ 1000) (hT : TC w T n H u1 u2) (hup : ∀ i j, i < j → j < n → H i < H j) :
    Calls Try.prog 106 #[.slice T n tcap, .int .i64 a, .func (.func 107) #[] #[]] w fun e w' => ∃ i : Nat, i ≤ n ∧ e = .returned (.tuple #[.int .i64 (i : Int), .bool (decide (i < n ∧ H i = a))]) ∧ (∀ x, x < i → H x < a) ∧ (∀ x, i ≤ x → x < n → a ≤ H x) ∧ Below w.heap.size w w' := by
  have HT := hide hT
  have HUP := hide hup
  have HCM := hide cmptab_any
  clear hT hup
  go_enter Try.func106, Try.ntmps106
  go_wp2
  go_loopw [9, 10] (fun t u wr => ∃ (i j : Nat), t = .int .i64 (i : Int) ∧ u = .int .i64 (j : Int) ∧ i ≤ j ∧ j ≤ n ∧ Below w.heap.size w wr ∧ (∀ x, x < i → H x < a) ∧ (∀ x, j ≤ x → x < n → a ≤ H x)) (fun t u _ => (intOf u).toNat - (intOf t).toNat)
  case atStart => exact ⟨0, n, rfl, rfl, Nat.zero_le _, Nat.le_refl _, Below.refl _ _, fun x h => by omega, fun x h1 h2 => by omega⟩
  case round =>
    obtain ⟨i, j, rfl, rfl, hij, hjn, hb, hlo, hhi⟩ := hrel
    by_cases hlt : i < j
    · have i1 : (i : Int) < (j : Int) := by omega
      obtain ⟨c, hc⟩ : ∃ c : Nat, ((i : Int) + (j : Int)) / 2 = (c : Int) := ⟨(i + j) / 2, by omega⟩
      have c0 : (0 : Int) ≤ (c : Int) := by omega
      have c1 : (c : Int) < (n : Int) := by omega
      have HCC : Hid (i ≤ c ∧ c < j) := hide (by omega)
      obtain ⟨b, o, rfl, d0, d1, d2⟩ := (unhide HT).below hb c (by omega)
      have HB := hide hb
      have HLO := hide hlo
      have HHI := hide hhi
      clear hb hlo hhi
      by_cases hcmp : H c < a
      · have HCP := hide hcmp
        have hlt0 : cmpI (H c) a < 0 := (cmpI_neg _ _).2 hcmp
        go_wp2_with ((go_at_call 107; refine (unhide HCM _ _ _ _ _).mono ?_; rintro e w1 ⟨rfl, hb1⟩; have HB1 := hide ((unhide HB).trans (hb1.mono (unhide HB).size)); clear hb1))
        go_roundw
        case rel =>
          obtain ⟨q1, q2⟩ := unhide HCC
          exact ⟨c + 1, j, by go_num, rfl, by omega, hjn, unhide HB1, fun x hx => by
            rcases Nat.lt_or_ge x c with h | h
            · have := unhide HUP x c h (by omega)
              have := unhide HCP
              omega
            · rw [show x = c by omega]; exact unhide HCP, unhide HHI⟩
        case measure => have := unhide HCC; simp [intOf]; omega
      · have HCP := hide hcmp
        have hlt0 : ¬ cmpI (H c) a < 0 := fun h => hcmp ((cmpI_neg _ _).1 h)
        go_wp2_with ((go_at_call 107; refine (unhide HCM _ _ _ _ _).mono ?_; rintro e w1 ⟨rfl, hb1⟩; have HB1 := hide ((unhide HB).trans (hb1.mono (unhide HB).size)); clear hb1))
        go_roundw
        case rel =>
          obtain ⟨q1, q2⟩ := unhide HCC
          exact ⟨i, c, rfl, rfl, q1, by omega, unhide HB1, unhide HLO, fun x h1 h2 => by
            have q3 := unhide HCP
            rcases Nat.lt_or_ge c x with h | h
            · have := unhide HUP c x h h2
              omega
            · rw [show x = c by omega]; omega⟩
        case measure => have := unhide HCC; simp [intOf]; omega
    · obtain rfl : i = j := by omega
      have i1 : ¬ (i : Int) < (i : Int) := by omega
      have HLO := hide hlo
      have HHI := hide hhi
      by_cases hin : i < n
      · have n1 : (i : Int) < (n : Int) := by omega
        have n0 : (0 : Int) ≤ (i : Int) := by omega
        obtain ⟨b, o, rfl, d0, d1, d2⟩ := (unhide HT).below hb i hin
        have HB := hide hb
        clear hb hlo hhi
        have hge := unhide HHI i (Nat.le_refl _) hin
        by_cases heq : H i = a
        · have HEQ := hide heq
          have h0 : cmpI (H i) a = 0 := by unfold cmpI; rw [if_neg (by omega), if_neg (by omega)]
          clear heq hge
          go_wp2_with ((go_at_call 107; refine (unhide HCM _ _ _ _ _).mono ?_; rintro e w1 ⟨rfl, hb1⟩; have HB1 := hide ((unhide HB).trans (hb1.mono (unhide HB).size)); clear hb1))
          go_ret2
          exact ⟨i, by omega, by simp [hin, unhide HEQ], unhide HLO, unhide HHI, unhide HB1⟩
        · have HEQ := hide heq
          have h0 : cmpI (H i) a = 1 := by unfold cmpI; rw [if_neg (by omega), if_pos (by omega)]
          clear heq hge
          go_wp2_with ((go_at_call 107; refine (unhide HCM _ _ _ _ _).mono ?_; rintro e w1 ⟨rfl, hb1⟩; have HB1 := hide ((unhide HB).trans (hb1.mono (unhide HB).size)); clear hb1))
          go_ret2
          exact ⟨i, by omega, by simp [unhide HEQ], unhide HLO, unhide HHI, unhide HB1⟩
      · have n1 : ¬ (i : Int) < (n : Int) := by omega
        have HB := hide hb
        clear hb hlo hhi
        go_wp2
        go_ret2
        exact ⟨i, by omega, by simp [hin], unhide HLO, unhide HHI, unhide HB⟩
end Go.Proofs.Ytnbleebilmghcab
