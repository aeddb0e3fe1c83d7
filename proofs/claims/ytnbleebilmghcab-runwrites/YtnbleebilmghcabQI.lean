/- SMath, SData, SIns, SRot -/
import Derived.Test.YtnbleebilmghcabQA
import Derived.Test.YtnbleebilmghcabQG
set_option linter.all false
namespace Go.Proofs.Ytnbleebilmghcab
def tl (key : Nat → Int) (p q : Nat) : Prop := key p < key q ∨ (key p = key q ∧ p < q)
theorem tl_trans {key : Nat → Int} {p q r : Nat} (h1 : tl key p q) (h2 : tl key q r) : tl key p r := by unfold tl at *; omega
theorem tl_irrefl {key : Nat → Int} {p : Nat} : ¬ tl key p p := by unfold tl; omega
theorem tl_total {key : Nat → Int} {p q : Nat} (h : p ≠ q) : tl key p q ∨ tl key q p := by unfold tl; omega
def Srt (key : Nat → Int) (s : Nat → Nat) (a b : Nat) : Prop := ∀ i j, a ≤ i → i < j → j < b → tl key (s i) (s j)
def SP (s t : Nat → Nat) (a b : Nat) : Prop := ∃ f g : Nat → Nat, (∀ k, f (g k) = k) ∧ (∀ k, g (f k) = k) ∧ (∀ k, ¬ (a ≤ k ∧ k < b) → f k = k) ∧ ∀ k, t k = s (f k)
theorem SP.refl (s : Nat → Nat) (a b : Nat) : SP s s a b := ⟨id, id, fun _ => rfl, fun _ => rfl, fun _ _ => rfl, fun _ => rfl⟩
theorem SP.trans {s t u : Nat → Nat} {a b : Nat} (h1 : SP s t a b) (h2 : SP t u a b) : SP s u a b := by
  obtain ⟨f, g, h11, h12, h13, h14⟩ := h1
  obtain ⟨f', g', h21, h22, h23, h24⟩ := h2
  exact ⟨fun k => f (f' k), fun k => g' (g k), fun k => by simp [h21, h11], fun k => by simp [h12, h22], fun k hk => by simp only; rw [h23 k hk, h13 k hk], fun k => by rw [h24, h14]⟩
theorem SP.wide {s t : Nat → Nat} {a b a' b' : Nat} (h : SP s t a b) (h1 : a' ≤ a) (h2 : b ≤ b') : SP s t a' b' := by
  obtain ⟨f, g, h11, h12, h13, h14⟩ := h
  exact ⟨f, g, h11, h12, fun k hk => h13 k (by omega), h14⟩
theorem SP.out {s t : Nat → Nat} {a b k : Nat} (h : SP s t a b) (hk : ¬ (a ≤ k ∧ k < b)) : t k = s k := by
  obtain ⟨f, g, _, _, h13, h14⟩ := h
  rw [h14, h13 k hk]
theorem SP.mem {s t : Nat → Nat} {a b k : Nat} (h : SP s t a b) (h1 : a ≤ k) (h2 : k < b) : ∃ j, a ≤ j ∧ j < b ∧ t k = s j := by
  obtain ⟨f, g, h11, h12, h13, h14⟩ := h
  refine ⟨f k, ?_⟩
  by_cases hin : a ≤ f k ∧ f k < b
  · exact ⟨hin.1, hin.2, h14 k⟩
  · exfalso
    have h3 := h13 (f k) hin
    have h4 := congrArg g h3
    rw [h12, h12] at h4
    omega
theorem SP.symm {s t : Nat → Nat} {a b : Nat} (h : SP s t a b) : SP t s a b := by
  obtain ⟨f, g, h11, h12, h13, h14⟩ := h
  refine ⟨g, f, h12, h11, fun k hk => ?_, fun k => by rw [h14, h11]⟩
  have := h13 k hk
  have h4 := congrArg g this
  rw [h12] at h4
  exact h4.symm
def swr (s : Nat → Nat) (p q n : Nat) : Nat → Nat := fun k => if p ≤ k ∧ k < p + n then s (k + (q - p)) else if q ≤ k ∧ k < q + n then s (k - (q - p)) else s k
def rot (s : Nat → Nat) (l m r : Nat) : Nat → Nat := fun k => if l ≤ k ∧ k < l + (r - m) then s (k + (m - l)) else if l + (r - m) ≤ k ∧ k < r then s (k - (r - m)) else s k
theorem swr_zero (s : Nat → Nat) (p q : Nat) : swr s p q 0 = s := by
  funext k; unfold swr; rw [if_neg (by omega), if_neg (by omega)]
theorem rot_even (s : Nat → Nat) (l m i : Nat) (h : m = l + i) : rot s l m (m + i) = swr s l m i := by
  funext k; unfold rot swr
  rw [show m + i - m = i by omega]
  by_cases h1 : l ≤ k ∧ k < l + i
  · rw [if_pos h1, if_pos h1]
  · rw [if_neg h1, if_neg h1]
    by_cases h2 : m ≤ k ∧ k < m + i
    · rw [if_pos (by omega : l + i ≤ k ∧ k < m + i), if_pos h2]; congr 1; omega
    · rw [if_neg (by omega : ¬ (l + i ≤ k ∧ k < m + i)), if_neg h2]
theorem rot_left (s : Nat → Nat) (m i j : Nat) (hi : i ≤ m) (h : j < i) : rot (swr s (m - i) m j) (m - i + j) m (m + j) = rot s (m - i) m (m + j) := by
  funext k
  unfold rot swr
  by_cases h0 : m - i ≤ k ∧ k < m - i + j
  · rw [if_neg (by omega), if_neg (by omega), if_pos (by omega), if_pos (by omega)]
  · by_cases h1 : m - i + j ≤ k ∧ k < m - i + j + j
    · rw [if_pos (by omega)]
      rw [if_neg (by omega : ¬ (m - i ≤ k ∧ k < m - i + (m + j - m))), if_pos (by omega : m - i + (m + j - m) ≤ k ∧ k < m + j)]
      by_cases h2 : k + (m - (m - i + j)) < m
      · rw [if_neg (by omega), if_neg (by omega)]; exfalso; omega
      · rw [if_neg (by omega), if_pos (by omega)]; congr 1; omega
    · by_cases h3 : m - i + j + j ≤ k ∧ k < m + j
      · rw [if_neg (by omega), if_pos (by omega)]
        rw [if_neg (by omega : ¬ (m - i ≤ k ∧ k < m - i + (m + j - m))), if_pos (by omega : m - i + (m + j - m) ≤ k ∧ k < m + j)]
        rw [if_neg (by omega), if_neg (by omega)]
      · rw [if_neg (by omega), if_neg (by omega), if_neg (by omega), if_neg (by omega), if_neg (by omega), if_neg (by omega)]
theorem rot_right (s : Nat → Nat) (m i j : Nat) (hi : i ≤ m) (h : i < j) : rot (swr s (m - i) (m + j - i) i) (m - i) m (m + j - i) = rot s (m - i) m (m + j) := by
  funext k
  unfold rot swr
  by_cases h0 : m + j - i ≤ k ∧ k < m + j
  · rw [if_neg (by omega), if_neg (by omega), if_neg (by omega), if_pos (by omega), if_neg (by omega), if_pos (by omega)]; congr 1; omega
  · by_cases h1 : m - i ≤ k ∧ k < m - i + (j - i)
    · rw [if_pos (by omega), if_neg (by omega), if_pos (by omega : m - i ≤ k ∧ k < m - i + (m + j - m))]
      by_cases h2 : m + j - i ≤ k + (m - (m - i))
      · exfalso; omega
      · rw [if_neg (by omega)]
    · by_cases h3 : m - i + (j - i) ≤ k ∧ k < m + j - i
      · rw [if_neg (by omega), if_pos (by omega), if_pos (by omega), if_pos (by omega)]; congr 1; omega
      · rw [if_neg (by omega), if_neg (by omega), if_neg (by omega), if_neg (by omega), if_neg (by omega), if_neg (by omega)]
theorem rot_sp (s : Nat → Nat) (l m r : Nat) (h1 : l ≤ m) (h2 : m ≤ r) : SP s (rot s l m r) l r := by
  refine ⟨fun k => if l ≤ k ∧ k < l + (r - m) then k + (m - l) else if l + (r - m) ≤ k ∧ k < r then k - (r - m) else k, fun k => if l ≤ k ∧ k < m then k + (r - m) else if m ≤ k ∧ k < r then k - (m - l) else k, fun k => ?_, fun k => ?_, fun k hk => ?_, fun k => ?_⟩
  · dsimp only
    by_cases a : l ≤ k ∧ k < m
    · rw [if_pos a, if_neg (by omega), if_pos (by omega)]; omega
    · rw [if_neg a]
      by_cases b : m ≤ k ∧ k < r
      · rw [if_pos b, if_pos (by omega)]; omega
      · rw [if_neg b, if_neg (by omega), if_neg (by omega)]
  · dsimp only
    by_cases a : l ≤ k ∧ k < l + (r - m)
    · rw [if_pos a, if_neg (by omega), if_pos (by omega)]; omega
    · rw [if_neg a]
      by_cases b : l + (r - m) ≤ k ∧ k < r
      · rw [if_pos b, if_pos (by omega)]; omega
      · rw [if_neg b, if_neg (by omega), if_neg (by omega)]
  · dsimp only; rw [if_neg (by omega), if_neg (by omega)]
  · unfold rot
    dsimp only
    by_cases a : l ≤ k ∧ k < l + (r - m)
    · rw [if_pos a, if_pos a]
    · rw [if_neg a, if_neg a]
      by_cases b : l + (r - m) ≤ k ∧ k < r
      · rw [if_pos b, if_pos b]
      · rw [if_neg b, if_neg b]
theorem rot_lo (s : Nat → Nat) (l m r k : Nat) (h1 : l ≤ k) (h2 : k < l + (r - m)) : rot s l m r k = s (k + (m - l)) := by unfold rot; rw [if_pos ⟨h1, h2⟩]
theorem rot_hi (s : Nat → Nat) (l m r k : Nat) (h1 : l + (r - m) ≤ k) (h2 : k < r) : rot s l m r k = s (k - (r - m)) := by unfold rot; rw [if_neg (by omega), if_pos ⟨h1, h2⟩]
theorem rot_out (s : Nat → Nat) (l m r k : Nat) (hm : l ≤ m) (h : k < l ∨ r ≤ k) (hr : m ≤ r) : rot s l m r k = s k := by unfold rot; rw [if_neg (by omega), if_neg (by omega)]
structure Halves (key : Nat → Int) (s : Nat → Nat) (a m b : Nat) : Prop where
  l : Srt key s a m
  r : Srt key s m b
  tag : ∀ i j, a ≤ i → i < m → m ≤ j → j < b → s i < s j
theorem Halves.cmp {key : Nat → Int} {s : Nat → Nat} {a m b : Nat} (h : Halves key s a m b) {i j : Nat} (h1 : a ≤ i) (h2 : i < m) (h3 : m ≤ j) (h4 : j < b) : key (s j) < key (s i) ↔ tl key (s j) (s i) := by
  have := h.tag i j h1 h2 h3 h4
  unfold tl; omega
theorem Halves.cmpn {key : Nat → Int} {s : Nat → Nat} {a m b : Nat} (h : Halves key s a m b) {i j : Nat} (h1 : a ≤ i) (h2 : i < m) (h3 : m ≤ j) (h4 : j < b) : ¬ key (s j) < key (s i) ↔ tl key (s i) (s j) := by
  have := h.tag i j h1 h2 h3 h4
  unfold tl; omega
theorem merge_one {key : Nat → Int} {s : Nat → Nat} {a b i : Nat} (h : Halves key s a (a + 1) b) (h1 : a + 1 ≤ i) (h2 : i ≤ b) (hlo : ∀ j, a + 1 ≤ j → j < i → key (s j) < key (s a)) (hhi : ∀ j, i ≤ j → j < b → ¬ key (s j) < key (s a)) :
    Srt key (rot s a (a + 1) i) a b := by
  intro x y hx hxy hy
  by_cases y1 : i ≤ y
  · rw [rot_out s a (a + 1) i y (by omega) (.inr y1) h1]
    by_cases x1 : i ≤ x
    · rw [rot_out s a (a + 1) i x (by omega) (.inr x1) h1]; exact h.r x y (by omega) hxy hy
    · by_cases x2 : x < i - 1
      · rw [rot_lo s a (a + 1) i x hx (by omega)]; exact h.r _ y (by omega) (by omega) hy
      · rw [rot_hi s a (a + 1) i x (by omega) (by omega), show x - (i - (a + 1)) = a by omega]
        exact (h.cmpn (Nat.le_refl _) (by omega) (by omega) hy).1 (hhi y y1 hy)
  · by_cases y2 : y < i - 1
    · rw [rot_lo s a (a + 1) i x hx (by omega), rot_lo s a (a + 1) i y (by omega) (by omega)]; exact h.r _ _ (by omega) (by omega) (by omega)
    · rw [rot_hi s a (a + 1) i y (by omega) (by omega), show y - (i - (a + 1)) = a by omega, rot_lo s a (a + 1) i x hx (by omega)]
      exact (h.cmp (Nat.le_refl _) (by omega) (by omega) (by omega)).1 (hlo _ (by omega) (by omega))
theorem merge_last {key : Nat → Int} {s : Nat → Nat} {a m i : Nat} (h : Halves key s a m (m + 1)) (h1 : a ≤ i) (h2 : i ≤ m) (hlo : ∀ j, a ≤ j → j < i → ¬ key (s m) < key (s j)) (hhi : ∀ j, i ≤ j → j < m → key (s m) < key (s j)) :
    Srt key (rot s i m (m + 1)) a (m + 1) := by
  intro x y hx hxy hy
  by_cases x1 : x < i
  · rw [rot_out s i m (m + 1) x (by omega) (.inl x1) (by omega)]
    by_cases y1 : y < i
    · rw [rot_out s i m (m + 1) y (by omega) (.inl y1) (by omega)]; exact h.l x y hx hxy (by omega)
    · by_cases y2 : y = i
      · rw [rot_lo s i m (m + 1) y (by omega) (by omega), show y + (m - i) = m by omega]
        exact (h.cmpn hx (by omega) (Nat.le_refl _) (by omega)).1 (hlo x hx x1)
      · rw [rot_hi s i m (m + 1) y (by omega) (by omega)]; exact h.l x _ hx (by omega) (by omega)
  · by_cases x2 : x = i
    · rw [rot_lo s i m (m + 1) x (by omega) (by omega), show x + (m - i) = m by omega, rot_hi s i m (m + 1) y (by omega) (by omega)]
      exact (h.cmp (by omega) (by omega) (Nat.le_refl _) (by omega)).1 (hhi _ (by omega) (by omega))
    · rw [rot_hi s i m (m + 1) x (by omega) (by omega), rot_hi s i m (m + 1) y (by omega) (by omega)]; exact h.l _ _ (by omega) (by omega) (by omega)
structure Cut (key : Nat → Int) (s : Nat → Nat) (a m b mid st : Nat) : Prop where
  am : a < m
  mb : m < b
  hmid : mid = (a + b) / 2
  lo : a ≤ st
  hi : st ≤ m
  lo2 : mid + m ≤ b + st
  hi2 : st ≤ mid
  below : a < st → mid + m - st < b → ¬ key (s (mid + m - st)) < key (s (st - 1))
  above : st < m → m < mid + m - st → key (s (mid + m - st - 1)) < key (s st)
theorem cut_low {key : Nat → Int} {s : Nat → Nat} {a m b mid st : Nat} (h : Halves key s a m b) (c : Cut key s a m b mid st) :
    let u := rot s st m (mid + m - st)
    (∀ x y, a ≤ x → x < mid → mid ≤ y → y < b → tl key (u x) (u y)) ∧ (a < st → st < mid → Halves key u a st mid) ∧ (mid < mid + m - st → mid + m - st < b → Halves key u mid (mid + m - st) b) := by
  obtain ⟨am, mb, hmid, lo, hi, lo2, hi2, below, above⟩ := c
  intro u
  have he : mid + m - st ≤ b := by omega
  have he2 : m ≤ mid + m - st := by omega
  have U1 : ∀ k, k < st → u k = s k := fun k hk => rot_out s st m _ k hi (.inl hk) he2
  have U2 : ∀ k, st ≤ k → k < mid → u k = s (k + (m - st)) := fun k h1 h2 => rot_lo s st m _ k h1 (by omega)
  have U3 : ∀ k, mid ≤ k → k < mid + m - st → u k = s (k - (mid - st)) := fun k h1 h2 => by
    show rot s st m _ k = _
    rw [rot_hi s st m _ k (by omega) h2]; congr 1; omega
  have U4 : ∀ k, mid + m - st ≤ k → u k = s k := fun k hk => rot_out s st m _ k hi (.inr hk) he2
  have LR : ∀ i j, a ≤ i → i < st → mid + m - st ≤ j → j < b → tl key (s i) (s j) := fun i j h1 h2 h3 h4 => by
    have hb := (h.cmpn (i := st - 1) (j := mid + m - st) (by omega) (by omega) (by omega) (by omega)).1 (below (by omega) (by omega))
    have e1 : i = st - 1 ∨ tl key (s i) (s (st - 1)) := by
      by_cases e : i = st - 1
      · exact .inl e
      · exact .inr (h.l i (st - 1) h1 (by omega) (by omega))
    have e2 : j = mid + m - st ∨ tl key (s (mid + m - st)) (s j) := by
      by_cases e : j = mid + m - st
      · exact .inl e
      · exact .inr (h.r (mid + m - st) j (by omega) (by omega) h4)
    rcases e1 with rfl | e1 <;> rcases e2 with rfl | e2
    · exact hb
    · exact tl_trans hb e2
    · exact tl_trans e1 hb
    · exact tl_trans e1 (tl_trans hb e2)
  have RL : ∀ i j, m ≤ i → i < mid + m - st → st ≤ j → j < m → tl key (s i) (s j) := fun i j h1 h2 h3 h4 => by
    have hb := (h.cmp (i := st) (j := mid + m - st - 1) lo (by omega) (by omega) (by omega)).1 (above (by omega) (by omega))
    have e1 : i = mid + m - st - 1 ∨ tl key (s i) (s (mid + m - st - 1)) := by
      by_cases e : i = mid + m - st - 1
      · exact .inl e
      · exact .inr (h.r i (mid + m - st - 1) h1 (by omega) (by omega))
    have e2 : j = st ∨ tl key (s st) (s j) := by
      by_cases e : j = st
      · exact .inl e
      · exact .inr (h.l st j lo (by omega) h4)
    rcases e1 with rfl | e1 <;> rcases e2 with rfl | e2
    · exact hb
    · exact tl_trans hb e2
    · exact tl_trans e1 hb
    · exact tl_trans e1 (tl_trans hb e2)
  refine ⟨fun x y x0 x1 y0 y1 => ?_, fun h1 h2 => ⟨fun i j i0 ij j1 => ?_, fun i j i0 ij j1 => ?_, fun i j i0 i1 j0 j1 => ?_⟩, fun h1 h2 => ⟨fun i j i0 ij j1 => ?_, fun i j i0 ij j1 => ?_, fun i j i0 i1 j0 j1 => ?_⟩⟩
  · by_cases x2 : x < st
    · rw [U1 x x2]
      by_cases y2 : y < mid + m - st
      · rw [U3 y y0 y2]; exact h.l _ _ x0 (by omega) (by omega)
      · rw [U4 y (by omega)]; exact LR x y x0 x2 (by omega) y1
    · rw [U2 x (by omega) x1]
      by_cases y2 : y < mid + m - st
      · rw [U3 y y0 y2]; exact RL _ _ (by omega) (by omega) (by omega) (by omega)
      · rw [U4 y (by omega)]; exact h.r _ _ (by omega) (by omega) y1
  · rw [U1 i (by omega), U1 j (by omega)]; exact h.l _ _ i0 ij (by omega)
  · rw [U2 i (by omega) (by omega), U2 j (by omega) (by omega)]; exact h.r _ _ (by omega) (by omega) (by omega)
  · rw [U1 i (by omega), U2 j (by omega) (by omega)]; exact h.tag _ _ i0 (by omega) (by omega) (by omega)
  · rw [U3 i (by omega) (by omega), U3 j (by omega) (by omega)]; exact h.l _ _ (by omega) (by omega) (by omega)
  · rw [U4 i (by omega), U4 j (by omega)]; exact h.r _ _ (by omega) ij j1
  · rw [U3 i (by omega) (by omega), U4 j (by omega)]; exact h.tag _ _ (by omega) (by omega) (by omega) j1
theorem srt_join {key : Nat → Int} {u v : Nat → Nat} {a mid b : Nat} (hu : ∀ x y, a ≤ x → x < mid → mid ≤ y → y < b → tl key (u x) (u y)) (hp1 : SP u v a mid) (hs1 : Srt key v a mid) {t : Nat → Nat} (hp2 : SP v t mid b) (hs2 : Srt key t mid b) : Srt key t a b := by
  intro x y hx hxy hy
  by_cases h1 : y < mid
  · rw [hp2.out (by omega), hp2.out (by omega)]; exact hs1 x y hx hxy h1
  · by_cases h2 : mid ≤ x
    · exact hs2 x y h2 hxy hy
    · rw [hp2.out (k := x) (by omega)]
      obtain ⟨j, j0, j1, ej⟩ := hp2.mem (k := y) (by omega) hy
      obtain ⟨i, i0, i1, ei⟩ := hp1.mem (k := x) hx (by omega)
      rw [ej, ei, hp1.out (k := j) (by omega)]
      exact hu i j i0 i1 j0 j1
theorem srt_unique {key : Nat → Int} {s t u : Nat → Nat} {n : Nat} (h1 : SP s t 0 n) (h2 : SP s u 0 n) (ht : Srt key t 0 n) (hu : Srt key u 0 n) : ∀ k, k < n → u k = t k := by
  obtain ⟨f, g, fg, gf, fo, fe⟩ := h1.symm.trans h2
  have fin : ∀ k, k < n → f k < n := fun k hk => by
    by_cases h : f k < n
    · exact h
    · exfalso
      have h3 := fo (f k) (by omega)
      have h4 := congrArg g h3
      rw [gf, gf] at h4
      omega
  have mono : ∀ i j, i < j → j < n → f i < f j := fun i j hij hj => by
    have h3 := hu i j (by omega) hij hj
    rw [fe, fe] at h3
    rcases Nat.lt_trichotomy (f i) (f j) with h | h | h
    · exact h
    · rw [h] at h3; exact absurd h3 tl_irrefl
    · exact absurd (tl_trans h3 (ht (f j) (f i) (by omega) h (fin i (by omega)))) tl_irrefl
  have ge : ∀ k, k < n → k ≤ f k := fun k => by
    induction k with
    | zero => intro _; omega
    | succ k ih => intro hk; have := ih (by omega); have := mono k (k + 1) (by omega) hk; omega
  have le : ∀ d k, k < n → n - 1 - k = d → f k ≤ k := fun d => by
    induction d with
    | zero => intro k hk hd; have := fin k hk; omega
    | succ d ih => intro k hk hd; have := ih (k + 1) (by omega) (by omega); have := mono k (k + 1) (by omega) (by omega); omega
  intro k hk
  have := ge k hk
  have := le _ k hk rfl
  rw [fe, show f k = k by omega]
structure Ins (key : Nat → Int) (s : Nat → Nat) (a i j : Nat) : Prop where
  h0 : a ≤ j
  h1 : j ≤ i
  lo : Srt key s a j
  hi : Srt key s (j + 1) (i + 1)
  mix : ∀ x y, a ≤ x → x < j → j + 1 ≤ y → y < i + 1 → tl key (s x) (s y)
  x : ∀ y, j + 1 ≤ y → y < i + 1 → tl key (s j) (s y)
  tag : ∀ y, a ≤ y → y < j → s y < s j
def sw2 (s : Nat → Nat) (j : Nat) : Nat → Nat := swr s (j - 1) j 1
theorem sw2_at (s : Nat → Nat) (j : Nat) (h : 0 < j) : sw2 s j (j - 1) = s j ∧ sw2 s j j = s (j - 1) ∧ ∀ k, k ≠ j - 1 → k ≠ j → sw2 s j k = s k := by
  unfold sw2 swr
  refine ⟨?_, ?_, fun k h1 h2 => ?_⟩
  · rw [if_pos (by omega)]; congr 1; omega
  · rw [if_neg (by omega), if_pos (by omega)]; congr 1; omega
  · rw [if_neg (by omega), if_neg (by omega)]
theorem Ins.step {key : Nat → Int} {s : Nat → Nat} {a i j : Nat} (h : Ins key s a i j) (hj : a < j) (hc : key (s j) < key (s (j - 1))) : Ins key (sw2 s j) a i (j - 1) := by
  obtain ⟨e1, e2, e3⟩ := sw2_at s j (by omega)
  have hI := h.h1
  refine ⟨by omega, by omega, fun x y hx hxy hy => ?_, fun x y hx hxy hy => ?_, fun x y x0 x1 y0 y1 => ?_, fun y y0 y1 => ?_, fun y y0 y1 => ?_⟩
  · rw [e3 x (by omega) (by omega), e3 y (by omega) (by omega)]; exact h.lo x y hx hxy (by omega)
  · by_cases hx2 : x = j
    · subst hx2; rw [e2, e3 y (by omega) (by omega)]; exact h.mix _ _ (by omega) (by omega) (by omega) (by omega)
    · rw [e3 x (by omega) (by omega), e3 y (by omega) (by omega)]; exact h.hi x y (by omega) hxy hy
  · rw [e3 x (by omega) (by omega)]
    by_cases hy2 : y = j
    · subst hy2; rw [e2]; exact h.lo _ _ x0 (by omega) (by omega)
    · rw [e3 y (by omega) (by omega)]; exact h.mix x y x0 (by omega) (by omega) y1
  · rw [e1]
    by_cases hy2 : y = j
    · subst hy2; rw [e2]; exact .inl hc
    · rw [e3 y (by omega) (by omega)]; exact h.x y (by omega) y1
  · rw [e1, e3 y (by omega) (by omega)]; exact h.tag y y0 (by omega)
theorem Ins.done {key : Nat → Int} {s : Nat → Nat} {a i j : Nat} (h : Ins key s a i j) (hc : j = a ∨ ¬ key (s j) < key (s (j - 1))) : Srt key s a (i + 1) := by
  intro x y hx hxy hy
  have h0 := h.h0
  have low : ∀ x, a ≤ x → x < j → tl key (s x) (s j) := fun x hx hxj => by
    rcases hc with hc | hc
    · omega
    · have ht := h.tag (j - 1) (by omega) (by omega)
      have h1 : tl key (s (j - 1)) (s j) := by unfold tl; omega
      by_cases e : x = j - 1
      · subst e; exact h1
      · exact tl_trans (h.lo x (j - 1) hx (by omega) (by omega)) h1
  rcases Nat.lt_trichotomy y j with h2 | h2 | h2
  · exact h.lo x y hx hxy h2
  · subst h2; exact low x hx hxy
  · rcases Nat.lt_trichotomy x j with h3 | h3 | h3
    · exact h.mix x y hx h3 (by omega) hy
    · subst h3; exact h.x y (by omega) hy
    · exact h.hi x y (by omega) hxy hy
theorem Ins.start {key : Nat → Int} {s : Nat → Nat} {a i : Nat} (h : a ≤ i) (hs : Srt key s a i) (ht : ∀ y, a ≤ y → y < i → s y < s i) : Ins key s a i i :=
  ⟨h, Nat.le_refl _, hs, fun x y hx hxy hy => by omega, fun x y _ _ y0 y1 => by omega, fun y y0 y1 => by omega, ht⟩
theorem swr_sp (s : Nat → Nat) (p q n : Nat) (h : p + n ≤ q) : SP s (swr s p q n) p (q + n) := by
  refine ⟨fun k => if p ≤ k ∧ k < p + n then k + (q - p) else if q ≤ k ∧ k < q + n then k - (q - p) else k, fun k => if p ≤ k ∧ k < p + n then k + (q - p) else if q ≤ k ∧ k < q + n then k - (q - p) else k, fun k => ?_, fun k => ?_, fun k hk => ?_, fun k => ?_⟩
  · dsimp only
    by_cases a : p ≤ k ∧ k < p + n
    · rw [if_pos a, if_neg (by omega), if_pos (by omega)]; omega
    · rw [if_neg a]
      by_cases b : q ≤ k ∧ k < q + n
      · rw [if_pos b, if_pos (by omega)]; omega
      · rw [if_neg b, if_neg (by omega), if_neg (by omega)]
  · dsimp only
    by_cases a : p ≤ k ∧ k < p + n
    · rw [if_pos a, if_neg (by omega), if_pos (by omega)]; omega
    · rw [if_neg a]
      by_cases b : q ≤ k ∧ k < q + n
      · rw [if_pos b, if_pos (by omega)]; omega
      · rw [if_neg b, if_neg (by omega), if_neg (by omega)]
  · dsimp only; rw [if_neg (by omega), if_neg (by omega)]
  · unfold swr
    dsimp only
    by_cases a : p ≤ k ∧ k < p + n
    · rw [if_pos a, if_pos a]
    · rw [if_neg a, if_neg a]
      by_cases b : q ≤ k ∧ k < q + n
      · rw [if_pos b, if_pos b]
      · rw [if_neg b, if_neg b]
end Go.Proofs.Ytnbleebilmghcab
namespace Go.Proofs.Ytnbleebilmghcab
open Go Go.RowKit
theorem grown_trans {w w1 w2 : World} {g : Option Nat} (h : w.grownBy w1 g) (k : w1.grownBy w2 g) : w.grownBy w2 g :=
  ⟨k.os.trans h.os, k.tape.trans h.tape, k.output.trans h.output, Nat.le_trans h.size k.size, fun i hi hne => (k.block i (Nat.lt_of_lt_of_le hi h.size) hne).trans (h.block i hi hne)⟩
theorem grown_of_below {w w1 : World} {g : Option Nat} (h : Below w.heap.size w w1) : w.grownBy w1 g := ⟨h.os, h.tape, h.output, h.size, fun i hi _ => h.block i hi⟩
theorem grown_setsG (g : Nat) : ∀ (vs : List Value) (o : Nat) (W : World), W.grownBy (W.setCells g o vs) (some g)
  | [], _, W => World.grownBy.refl _ _
  | v :: r, o, W => grown_trans (grown_setc W g o v) (grown_setsG g r (o + 1) _)
structure DL (g cap : Nat) (W0 : World) (l : List RowI) (W : World) : Prop where
  own : W.ownsRow g 53 11 (.slice (some ⟨g, 0, none⟩) l.length cap) l.length (cellsOfRows l)
  gr : W0.grownBy W (some g)
section
variable {g cap : Nat} {W0 W W1 : World} {l : List RowI}
theorem DL.lt (h : DL g cap W0 l W) : g < W.heap.size := (h.own.lt g rfl).2
theorem DL.below (h : DL g cap W0 l W) (hb : Below W.heap.size W W1) : DL g cap W0 l W1 := ⟨own_kept h.own hb, grown_trans h.gr (grown_of_below hb)⟩
theorem DL.row (h : DL g cap W0 l W) (k : Nat) (hk : k < l.length) : RowAt W g (k * 11) (l.getD k dR) := by
  have := own_rows h.own k hk
  obtain ⟨b, off, e, hr⟩ := this
  simp only [Option.some.injEq, Addr.mk.injEq, and_true] at e
  obtain ⟨rfl, rfl⟩ := e
  rwa [Nat.zero_add] at hr
theorem DL.there (h : DL g cap W0 l W) (k : Nat) (hk : k < l.length) : W.there g (k * 11) 11 := own_there h.own (k * 11) 11 (by rw [cellsOfRows_len]; omega)
theorem DL.set (h : DL g cap W0 l W) (k : Nat) (hk : k < l.length) (r : RowI) : DL g cap W0 (l.set k r) (W.setCells g (k * 11) (rowCells r)) := by
  refine ⟨?_, grown_trans h.gr (grown_setsG g _ _ _)⟩
  have := own_sets (rowCells r) (k * 11) W (cellsOfRows l) h.own (by rw [cellsOfRows_len, rowCells_len]; omega)
  rw [setsL_rows l k r hk] at this
  rw [List.length_set]
  exact this
theorem DL.trans {l' : List RowI} (h : DL g cap W0 l W) (h' : DL g cap W l' W1) : DL g cap W0 l' W1 := ⟨h'.own, grown_trans h.gr h'.gr⟩
theorem DL.self (h : DL g cap W0 l W) : DL g cap W l W := ⟨h.own, World.grownBy.refl _ _⟩
end
def plst (R : Nat → RowI) (s : Nat → Nat) (n : Nat) : List RowI := (List.range n).map fun k => R (s k)
theorem plst_len (R : Nat → RowI) (s : Nat → Nat) (n : Nat) : (plst R s n).length = n := by simp [plst]
theorem plst_get (R : Nat → RowI) (s : Nat → Nat) (n k : Nat) (h : k < n) : (plst R s n).getD k dR = R (s k) := by
  unfold plst
  rw [List.getD_eq_getElem?_getD, List.getElem?_eq_getElem (by simpa using h)]
  simp
theorem plst_congr (R : Nat → RowI) (s t : Nat → Nat) (n : Nat) (h : ∀ k, k < n → s k = t k) : plst R s n = plst R t n := by
  unfold plst
  apply List.map_congr_left
  intro k hk
  rw [h k (List.mem_range.1 hk)]
theorem plst_swap (R : Nat → RowI) (s : Nat → Nat) (n i j : Nat) (hij : i < j) (hj : j < n) : ((plst R s n).set i (R (s j))).set j (R (s i)) = plst R (swr s i j 1) n := by
  refine List.ext_getElem (by simp [plst]) fun k h1 h2 => ?_
  rw [List.getElem_set, List.getElem_set]
  simp only [plst, List.getElem_map, List.getElem_range, swr]
  by_cases e1 : j = k
  · subst e1
    rw [if_pos rfl, if_neg (by omega), if_pos (by omega), show j - (j - i) = i by omega]
  · rw [if_neg e1]
    by_cases e2 : i = k
    · subst e2
      rw [if_pos rfl, if_pos (by omega), show i + (j - i) = j by omega]
    · rw [if_neg e2, if_neg (by omega), if_neg (by omega)]
theorem plst_swap' (R : Nat → RowI) (s : Nat → Nat) (n i j : Nat) (hij : i < j) (hj : j < n) : ((plst R s n).set j (R (s i))).set i (R (s j)) = plst R (swr s i j 1) n := by
  rw [List.set_comm _ _ (by omega)]
  exact plst_swap R s n i j hij hj
def cmpI (a b : Int) : Int := if a < b then -1 else if b < a then 1 else 0
theorem cmpI_neg (a b : Int) : (cmpI a b < 0) ↔ a < b := by unfold cmpI; split <;> (try split) <;> omega
set_option maxRecDepth 8000 in
set_option maxHeartbeats 400000 in
theorem isnan_any (a : Int) (w : World) : Calls Try.prog 96 #[.int .i64 a] w fun e w' => e = .returned (.bool false) ∧ w' = w := by
  go_enter Try.func96, Try.ntmps96
  go_wp2
  go_ret
  exact ⟨rfl, rfl⟩
set_option maxRecDepth 8000 in
set_option maxHeartbeats 400000 in
theorem compare_any (a b : Int) (w : World) : Calls Try.prog 72 #[.int .i64 a, .int .i64 b] w fun e w' => e = .returned (.int .i64 (cmpI a b)) ∧ w' = w := by
  by_cases h1 : a < b
  · have e : cmpI a b = -1 := by unfold cmpI; rw [if_pos h1]
    rw [e]
    clear e
    go_enter Try.func72, Try.ntmps72
    go_wp2_with ((go_at_call 96; refine (isnan_any _ _).mono ?_; rintro e w1 ⟨rfl, hw⟩; obtain rfl := hw.symm))
    go_ret
    exact ⟨rfl, rfl⟩
  · by_cases h2 : b < a
    · have e : cmpI a b = 1 := by unfold cmpI; rw [if_neg h1, if_pos h2]
      rw [e]
      clear e
      go_enter Try.func72, Try.ntmps72
      go_wp2_with ((go_at_call 96; refine (isnan_any _ _).mono ?_; rintro e w1 ⟨rfl, hw⟩; obtain rfl := hw.symm))
      go_ret
      exact ⟨rfl, rfl⟩
    · have e : cmpI a b = 0 := by unfold cmpI; rw [if_neg h1, if_neg h2]
      rw [e]
      clear e
      go_enter Try.func72, Try.ntmps72
      go_wp2_with ((go_at_call 96; refine (isnan_any _ _).mono ?_; rintro e w1 ⟨rfl, hw⟩; obtain rfl := hw.symm))
      go_ret
      exact ⟨rfl, rfl⟩
set_option maxRecDepth 8000 in
set_option maxHeartbeats 400000 in
theorem cmprow_any (x y : RowI) (w : World) : Calls Try.prog 71 #[rowV x, rowV y] w fun e w' => e = .returned (.int .i64 (cmpI x.ix y.ix)) ∧ Below w.heap.size w w' := by
  have HC := hide (compare_any x.ix y.ix)
  unfold rowV
  go_enter Try.func71, Try.ntmps71
  go_wp2_with ((go_at_call 72; refine (unhide HC _).mono ?_; rintro e w1 ⟨rfl, hw⟩; obtain rfl := hw.symm))
  go_ret
  exact ⟨rfl, bel2 _ _ _⟩
end Go.Proofs.Ytnbleebilmghcab
namespace Go.Proofs.Ytnbleebilmghcab
open Go Go.RowKit
attribute [local go_sem ↓] Go.wp_at_zero Go.wp_at_succ
theorem rowAt_all {W : World} {b o : Nat} {y : RowI} (h : RowAt W b o y) : W.cell? ⟨b, o, none⟩ = some (.int .i64 y.ix) ∧ W.cell? ⟨b, o + 1, none⟩ = some (.int .i64 y.gen) ∧ W.cell? ⟨b, o + 2, none⟩ = some (.int .i64 y.has) ∧ W.cell? ⟨b, o + 3, none⟩ = some (.int .i64 (y.v 0)) ∧ W.cell? ⟨b, o + 4, none⟩ = some (.int .i64 (y.v 1)) ∧ W.cell? ⟨b, o + 5, none⟩ = some (.int .i64 (y.v 2)) ∧ W.cell? ⟨b, o + 6, none⟩ = some (.int .i64 (y.v 3)) ∧ W.cell? ⟨b, o + 7, none⟩ = some (.int .i64 (y.v 4)) ∧ W.cell? ⟨b, o + 8, none⟩ = some (.int .i64 (y.v 5)) ∧ W.cell? ⟨b, o + 9, none⟩ = some (.int .i64 (y.v 6)) ∧ W.cell? ⟨b, o + 10, none⟩ = some (.int .i64 (y.v 7)) :=
  ⟨h.c0, h.c1, h.c2, h.v 0 (by omega), h.v 1 (by omega), h.v 2 (by omega), h.v 3 (by omega), h.v 4 (by omega), h.v 5 (by omega), h.v 6 (by omega), h.v 7 (by omega)⟩
theorem i64_id {x : Int} (h0 : -9223372036854775808 ≤ x) (h1 : x ≤ 9223372036854775807) : IntKind.i64.wrap x = x := IntWalk.i64_in x ⟨h0, h1⟩
def cmpV : Value := .func (.func 71) #[] #[]
theorem size61a {x : RowI} : (Try.prog.info? 53).map (·.size) = some (rowCells x).toArray.size := by
  have : (Try.prog.info? 53).map (·.size) = some 11 := by kernel_rfl
  rw [this]; simp [rowCells_len]
set_option maxRecDepth 8000 in
set_option maxHeartbeats 8000000 in
theorem inssort_any (g cap n a b : Nat) (R : Nat → RowI) (s0 : Nat → Nat) (W0 : World) (hab : a ≤ b) (hbn : b ≤ n) (hn : n ≤ 1000) (hid : ∀ x, a ≤ x → x < b → s0 x = x) (h : DL g cap W0 (plst R s0 n) W0) :
    Calls Try.prog 110 #[.slice (some ⟨g, 0, none⟩) n cap, .int .i64 (a : Int), .int .i64 (b : Int), cmpV] W0 fun e w' => e = .returned (.tuple #[]) ∧ ∃ t, DL g cap W0 (plst R t n) w' ∧ SP s0 t a b ∧ Srt (fun p => (R p).ix) t a b := by
  have H := hide h
  have HID := hide hid
  clear h hid
  go_enter Try.func110, Try.ntmps110
  go_wp2
  go_loopw [8] (fun t wr => ∃ (i : Nat) (s : Nat → Nat), t = .int .i64 (i : Int) ∧ a + 1 ≤ i ∧ (i ≤ b ∨ (i = a + 1 ∧ a = b)) ∧ DL g cap W0 (plst R s n) wr ∧ SP s0 s a b ∧ Srt (fun p => (R p).ix) s a i ∧ (∀ y, a ≤ y → y < i → y < b → s y < i) ∧ (∀ x, i ≤ x → x < b → s x = x)) (fun t _ => b - (intOf t).toNat)
  case atStart => exact ⟨a + 1, s0, by go_num, Nat.le_refl _, by omega, unhide H, SP.refl _ _ _, fun i j h1 h2 h3 => by omega, fun y h1 h2 h3 => by have := unhide HID y h1 h3; omega, fun x h1 h2 => unhide HID x (by omega) h2⟩
  case round =>
    clear H HID
    obtain ⟨i, s, rfl, hi1, hi2, hDL, hSP, hSrt, hlo, hhi⟩ := hrel
    by_cases hlt : i < b
    · have i1 : (i : Int) < (b : Int) := by omega
      have HD := hide hDL
      have HSP := hide hSP
      have HIN := hide (Ins.start (by omega : a ≤ i) hSrt (fun y h1 h2 => by rw [hhi i (Nat.le_refl _) hlt]; exact hlo y h1 h2 (by omega)))
      have HLO : Hid (∀ y, a ≤ y → y ≤ i → s y ≤ i) := hide (fun y h1 h2 => by
        rcases Nat.lt_or_ge y i with h3 | h3
        · exact Nat.le_of_lt (hlo y h1 h3 (by omega))
        · rw [show y = i by omega, hhi i (Nat.le_refl _) hlt]; exact Nat.le_refl _)
      have HHI : Hid (∀ x, i < x → x < b → s x = x) := hide (fun x h1 h2 => hhi x (by omega) h2)
      clear hDL hSP hSrt hlo hhi
      go_wp2
      go_loopw [9] (fun t wr => ∃ (j : Nat) (s : Nat → Nat), t = .int .i64 (j : Int) ∧ a ≤ j ∧ j ≤ i ∧ DL g cap W0 (plst R s n) wr ∧ SP s0 s a b ∧ Ins (fun p => (R p).ix) s a i j ∧ (∀ y, a ≤ y → y ≤ i → s y ≤ i) ∧ (∀ x, i < x → x < b → s x = x)) (fun t _ => (intOf t).toNat)
      case atStart => exact ⟨i, s, rfl, by omega, Nat.le_refl _, unhide HD, unhide HSP, unhide HIN, unhide HLO, unhide HHI⟩
      case round =>
        clear HD HSP HIN HLO HHI
        clear s
        obtain ⟨j, s, rfl, hj1, hj2, hDL, hSP, hIns, hlo, hhi⟩ := hrel
        have HD := hide hDL
        have HSP := hide hSP
        have HIN := hide hIns
        have HLO := hide hlo
        have HHI := hide hhi
        have h0 : DL g cap W0 (plst R s n) wr.drew := hDL.below ((Below.refl _ _).drew)
        clear hDL hSP hIns hlo hhi
        by_cases hja : a < j
        · have j0 : (0 : Int) ≤ (j : Int) := by omega
          have j1 : (j : Int) < (n : Int) := by omega
          have j2 : (0 : Int) ≤ ((j - 1 : Nat) : Int) := by omega
          have j3 : ((j - 1 : Nat) : Int) < (n : Int) := by omega
          have hw1 : IntKind.i64.wrap ((j : Int) - 1) = ((j - 1 : Nat) : Int) := by rw [i64_id (by omega) (by omega)]; omega
          by_cases hc : (R (s j)).ix < (R (s (j - 1))).ix
          · go_wp2
            refine wp_region_gen (fun k v => (([fun v => v = .int .i64 (j : Int), fun v => v = .int .i64 (a : Int), fun v => v = .bool true, fun v => v = .bool true, fun v => v = cmpV, fun v => v = .slice (some ⟨g, 0, none⟩) n cap, fun v => v = .int .i64 (j : Int), fun v => v = .pointer (some ⟨g, j * 11, none⟩), fun v => v = rowV (R (s j)), fun v => v = .slice (some ⟨g, 0, none⟩) n cap, fun v => v = .int .i64 (j : Int), fun v => v = .int .i64 ((j - 1 : Nat) : Int), fun v => v = .pointer (some ⟨g, (j - 1) * 11, none⟩), fun v => v = rowV (R (s (j - 1))), fun v => v = .int .i64 (cmpI (R (s j)).ix (R (s (j - 1))).ix), fun v => v = .bool true, fun v => v = .bool true] : List (Value → Prop)).getD k (fun _ => True)) v) (fun _ W => DL g cap W0 (plst R s n) W) (by kernel_rfl) (by kernel_rfl) (by kernel_rfl) h0 ?hstep ?hend
            case hstep =>
              intro k o ho L ac w1 hD hL hed hcl hout hv
              match k, ho with
              | 0, ho =>
                simp at ho
                subst ho
                have e9 : ac.tmps.getD 9 undef = .int .i64 (j : Int) := hout 9 (by decide +kernel)
                exact .inl ⟨rfl, gen_reads (.int .i64 (j : Int)) (by simp [go_sem, Act.eval, -Array.getD_eq_getD_getElem?, e9]) rfl (hD)⟩
              | 1, ho =>
                simp at ho
                subst ho
                have e1 : ac.tmps.getD 1 undef = .int .i64 (a : Int) := hout 1 (by decide +kernel)
                exact .inl ⟨rfl, gen_reads (.int .i64 (a : Int)) (by simp [go_sem, Act.eval, -Array.getD_eq_getD_getElem?, e1]) rfl (hD)⟩
              | 2, ho =>
                simp at ho
                subst ho
                have e18 : ac.tmps.getD 18 undef = .int .i64 (j : Int) := hv 0 18 rfl (by kernel_rfl)
                have e19 : ac.tmps.getD 19 undef = .int .i64 (a : Int) := hv 1 19 rfl (by kernel_rfl)
                exact .inl ⟨rfl, gen_reads (.bool true) (by simp [go_sem, Act.eval, -Array.getD_eq_getD_getElem?, e18, e19, hja]) rfl (hD)⟩
              | 3, ho =>
                simp at ho
                subst ho
                have e20 : ac.tmps.getD 20 undef = .bool true := hv 2 20 rfl (by kernel_rfl)
                exact .inl ⟨rfl, gen_reads (.bool true) (by simp [go_sem, Act.eval, -Array.getD_eq_getD_getElem?, e20]) rfl (hD)⟩
              | 4, ho =>
                simp at ho
                subst ho
                have eg : ac.tmps.getD 21 undef = .bool true := hv 3 21 rfl (by kernel_rfl)
                have e3 : ac.tmps.getD 3 undef = cmpV := hout 3 (by decide +kernel)
                exact .inl ⟨wanted_of rfl rfl eg, gen_reads (cmpV) (by simp [go_sem, Act.eval, -Array.getD_eq_getD_getElem?, e3]) rfl (hD)⟩
              | 5, ho =>
                simp at ho
                subst ho
                have eg : ac.tmps.getD 21 undef = .bool true := hv 3 21 rfl (by kernel_rfl)
                have e0 : ac.tmps.getD 0 undef = .slice (some ⟨g, 0, none⟩) n cap := hout 0 (by decide +kernel)
                exact .inl ⟨wanted_of rfl rfl eg, gen_reads (.slice (some ⟨g, 0, none⟩) n cap) (by simp [go_sem, Act.eval, -Array.getD_eq_getD_getElem?, e0]) rfl (hD)⟩
              | 6, ho =>
                simp at ho
                subst ho
                have eg : ac.tmps.getD 21 undef = .bool true := hv 3 21 rfl (by kernel_rfl)
                have e9 : ac.tmps.getD 9 undef = .int .i64 (j : Int) := hout 9 (by decide +kernel)
                exact .inl ⟨wanted_of rfl rfl eg, gen_reads (.int .i64 (j : Int)) (by simp [go_sem, Act.eval, -Array.getD_eq_getD_getElem?, e9]) rfl (hD)⟩
              | 7, ho =>
                simp at ho
                subst ho
                have eg : ac.tmps.getD 21 undef = .bool true := hv 3 21 rfl (by kernel_rfl)
                have e23 : ac.tmps.getD 23 undef = .slice (some ⟨g, 0, none⟩) n cap := hv 5 23 rfl (by kernel_rfl)
                have e24 : ac.tmps.getD 24 undef = .int .i64 (j : Int) := hv 6 24 rfl (by kernel_rfl)
                exact .inl ⟨wanted_of rfl rfl eg, gen_reads (.pointer (some ⟨g, j * 11, none⟩)) (by simp [go_sem, Act.eval, -Array.getD_eq_getD_getElem?, e23, e24, j0, j1]) rfl (hD)⟩
              | 8, ho =>
                simp at ho
                subst ho
                have eg : ac.tmps.getD 21 undef = .bool true := hv 3 21 rfl (by kernel_rfl)
                have e25 : ac.tmps.getD 25 undef = .pointer (some ⟨g, j * 11, none⟩) := hv 7 25 rfl (by kernel_rfl)
                obtain ⟨c0, c1, c2, c3, c4, c5, c6, c7, c8, c9, c10⟩ := rowAt_all (hD.row j (by rw [plst_len]; omega))
                rw [plst_get R s n j (by omega)] at c0 c1 c2 c3 c4 c5 c6 c7 c8 c9 c10
                exact .inl ⟨wanted_of rfl rfl eg, gen_reads (rowV (R (s j))) (by simp [go_sem, Act.eval, -Array.getD_eq_getD_getElem?, e25, c0, c1, c2, c3, c4, c5, c6, c7, c8, c9, c10, rowV]) rfl (hD)⟩
              | 9, ho =>
                simp at ho
                subst ho
                have eg : ac.tmps.getD 21 undef = .bool true := hv 3 21 rfl (by kernel_rfl)
                have e0 : ac.tmps.getD 0 undef = .slice (some ⟨g, 0, none⟩) n cap := hout 0 (by decide +kernel)
                exact .inl ⟨wanted_of rfl rfl eg, gen_reads (.slice (some ⟨g, 0, none⟩) n cap) (by simp [go_sem, Act.eval, -Array.getD_eq_getD_getElem?, e0]) rfl (hD)⟩
              | 10, ho =>
                simp at ho
                subst ho
                have eg : ac.tmps.getD 21 undef = .bool true := hv 3 21 rfl (by kernel_rfl)
                have e9 : ac.tmps.getD 9 undef = .int .i64 (j : Int) := hout 9 (by decide +kernel)
                exact .inl ⟨wanted_of rfl rfl eg, gen_reads (.int .i64 (j : Int)) (by simp [go_sem, Act.eval, -Array.getD_eq_getD_getElem?, e9]) rfl (hD)⟩
              | 11, ho =>
                simp at ho
                subst ho
                have eg : ac.tmps.getD 21 undef = .bool true := hv 3 21 rfl (by kernel_rfl)
                have e28 : ac.tmps.getD 28 undef = .int .i64 (j : Int) := hv 10 28 rfl (by kernel_rfl)
                exact .inl ⟨wanted_of rfl rfl eg, gen_reads (.int .i64 ((j - 1 : Nat) : Int)) (by simp [go_sem, Act.eval, -Array.getD_eq_getD_getElem?, e28, hw1]) rfl (hD)⟩
              | 12, ho =>
                simp at ho
                subst ho
                have eg : ac.tmps.getD 21 undef = .bool true := hv 3 21 rfl (by kernel_rfl)
                have e27 : ac.tmps.getD 27 undef = .slice (some ⟨g, 0, none⟩) n cap := hv 9 27 rfl (by kernel_rfl)
                have e29 : ac.tmps.getD 29 undef = .int .i64 ((j - 1 : Nat) : Int) := hv 11 29 rfl (by kernel_rfl)
                exact .inl ⟨wanted_of rfl rfl eg, gen_reads (.pointer (some ⟨g, (j - 1) * 11, none⟩)) (by simp [go_sem, Act.eval, -Array.getD_eq_getD_getElem?, e27, e29, j2, j3]) rfl (hD)⟩
              | 13, ho =>
                simp at ho
                subst ho
                have eg : ac.tmps.getD 21 undef = .bool true := hv 3 21 rfl (by kernel_rfl)
                have e30 : ac.tmps.getD 30 undef = .pointer (some ⟨g, (j - 1) * 11, none⟩) := hv 12 30 rfl (by kernel_rfl)
                obtain ⟨c0, c1, c2, c3, c4, c5, c6, c7, c8, c9, c10⟩ := rowAt_all (hD.row (j - 1) (by rw [plst_len]; omega))
                rw [plst_get R s n (j - 1) (by omega)] at c0 c1 c2 c3 c4 c5 c6 c7 c8 c9 c10
                exact .inl ⟨wanted_of rfl rfl eg, gen_reads (rowV (R (s (j - 1)))) (by simp [go_sem, Act.eval, -Array.getD_eq_getD_getElem?, e30, c0, c1, c2, c3, c4, c5, c6, c7, c8, c9, c10, rowV]) rfl (hD)⟩
              | 14, ho =>
                simp at ho
                subst ho
                have eg : ac.tmps.getD 21 undef = .bool true := hv 3 21 rfl (by kernel_rfl)
                have e22 : ac.tmps.getD 22 undef = cmpV := hv 4 22 rfl (by kernel_rfl)
                have e26 : ac.tmps.getD 26 undef = rowV (R (s j)) := hv 8 26 rfl (by kernel_rfl)
                have e31 : ac.tmps.getD 31 undef = rowV (R (s (j - 1))) := hv 13 31 rfl (by kernel_rfl)
                refine .inl ⟨wanted_of rfl rfl eg, gen_enters 71 #[rowV (R (s j)), rowV (R (s (j - 1)))] (by simp [go_sem, Act.eval, -Array.getD_eq_getD_getElem?, cmpV, e22, e26, e31]) ?_⟩
                refine (cmprow_any _ _ _).mono ?_
                rintro e w2 ⟨rfl, hb2⟩
                exact ⟨_, rfl, rfl, hD.below hb2⟩
              | 15, ho =>
                simp at ho
                subst ho
                have eg : ac.tmps.getD 21 undef = .bool true := hv 3 21 rfl (by kernel_rfl)
                have e32 : ac.tmps.getD 32 undef = .int .i64 (cmpI (R (s j)).ix (R (s (j - 1))).ix) := hv 14 32 rfl (by kernel_rfl)
                exact .inl ⟨wanted_of rfl rfl eg, gen_reads (.bool true) (by simp [go_sem, Act.eval, -Array.getD_eq_getD_getElem?, e32, cmpI_neg, hc]) rfl (hD)⟩
              | 16, ho =>
                simp at ho
                subst ho
                have e21 : ac.tmps.getD 21 undef = .bool true := hv 3 21 rfl (by kernel_rfl)
                have e33 : ac.tmps.getD 33 undef = .bool true := hv 15 33 rfl (by kernel_rfl)
                exact .inl ⟨rfl, gen_reads (.bool true) (by simp [go_sem, Act.eval, -Array.getD_eq_getD_getElem?, e21, e33]) rfl (hD)⟩
              | k + 17, ho => simp at ho
            case hend =>
              intro v L w1 hD hall hv
              have h16 : v 16 = .bool true := hv 16 34 rfl
              have h1 : DL g cap W0 (plst R s n) w1.drew := hD.below ((Below.refl _ _).drew)
              clear hv hall hD h0
              simp only [putOps, List.getElem?_cons_zero, List.getElem?_cons_succ, Option.bind_some, List.length_cons, List.length_nil, Nat.reduceAdd, h16]
              clear h16
              go_frame
              go_wp2
              refine wp_region_gen (fun k v => (([fun v => v = .slice (some ⟨g, 0, none⟩) n cap, fun v => v = .int .i64 (j : Int), fun v => v = .slice (some ⟨g, 0, none⟩) n cap, fun v => v = .int .i64 (j : Int), fun v => v = .int .i64 ((j - 1 : Nat) : Int), fun v => v = .slice (some ⟨g, 0, none⟩) n cap, fun v => v = .int .i64 (j : Int), fun v => v = .int .i64 ((j - 1 : Nat) : Int), fun v => v = .pointer (some ⟨g, (j - 1) * 11, none⟩), fun v => v = rowV (R (s (j - 1))), fun v => v = .slice (some ⟨g, 0, none⟩) n cap, fun v => v = .int .i64 (j : Int), fun v => v = .pointer (some ⟨g, j * 11, none⟩), fun v => v = rowV (R (s j)), fun v => v = .pointer (some ⟨g, j * 11, none⟩), fun _ => True, fun v => v = .pointer (some ⟨g, (j - 1) * 11, none⟩), fun _ => True] : List (Value → Prop)).getD k (fun _ => True)) v) (fun L W => DL g cap W0 (if L 15 = true then (if L 17 = true then ((plst R s n).set j (R (s (j - 1)))).set (j - 1) (R (s j)) else (plst R s n).set j (R (s (j - 1)))) else plst R s n) W) (by kernel_rfl) (by kernel_rfl) (by kernel_rfl) (by simpa using h1) ?hstep ?hend
              case hstep =>
                intro k o ho L ac w1 hD hL hed hcl hout hv
                match k, ho with
                | 0, ho =>
                  simp at ho
                  subst ho
                  have e0 : ac.tmps.getD 0 undef = .slice (some ⟨g, 0, none⟩) n cap := hout 0 (by decide +kernel)
                  exact .inl ⟨rfl, gen_reads (.slice (some ⟨g, 0, none⟩) n cap) (by simp [go_sem, Act.eval, -Array.getD_eq_getD_getElem?, e0]) rfl (by simpa [upd] using hD)⟩
                | 1, ho =>
                  simp at ho
                  subst ho
                  have e9 : ac.tmps.getD 9 undef = .int .i64 (j : Int) := hout 9 (by decide +kernel)
                  exact .inl ⟨rfl, gen_reads (.int .i64 (j : Int)) (by simp [go_sem, Act.eval, -Array.getD_eq_getD_getElem?, e9]) rfl (by simpa [upd] using hD)⟩
                | 2, ho =>
                  simp at ho
                  subst ho
                  have e0 : ac.tmps.getD 0 undef = .slice (some ⟨g, 0, none⟩) n cap := hout 0 (by decide +kernel)
                  exact .inl ⟨rfl, gen_reads (.slice (some ⟨g, 0, none⟩) n cap) (by simp [go_sem, Act.eval, -Array.getD_eq_getD_getElem?, e0]) rfl (by simpa [upd] using hD)⟩
                | 3, ho =>
                  simp at ho
                  subst ho
                  have e9 : ac.tmps.getD 9 undef = .int .i64 (j : Int) := hout 9 (by decide +kernel)
                  exact .inl ⟨rfl, gen_reads (.int .i64 (j : Int)) (by simp [go_sem, Act.eval, -Array.getD_eq_getD_getElem?, e9]) rfl (by simpa [upd] using hD)⟩
                | 4, ho =>
                  simp at ho
                  subst ho
                  have e40 : ac.tmps.getD 40 undef = .int .i64 (j : Int) := hv 3 40 rfl (by kernel_rfl)
                  exact .inl ⟨rfl, gen_reads (.int .i64 ((j - 1 : Nat) : Int)) (by simp [go_sem, Act.eval, -Array.getD_eq_getD_getElem?, e40, hw1]) rfl (by simpa [upd] using hD)⟩
                | 5, ho =>
                  simp at ho
                  subst ho
                  have e0 : ac.tmps.getD 0 undef = .slice (some ⟨g, 0, none⟩) n cap := hout 0 (by decide +kernel)
                  exact .inl ⟨rfl, gen_reads (.slice (some ⟨g, 0, none⟩) n cap) (by simp [go_sem, Act.eval, -Array.getD_eq_getD_getElem?, e0]) rfl (by simpa [upd] using hD)⟩
                | 6, ho =>
                  simp at ho
                  subst ho
                  have e9 : ac.tmps.getD 9 undef = .int .i64 (j : Int) := hout 9 (by decide +kernel)
                  exact .inl ⟨rfl, gen_reads (.int .i64 (j : Int)) (by simp [go_sem, Act.eval, -Array.getD_eq_getD_getElem?, e9]) rfl (by simpa [upd] using hD)⟩
                | 7, ho =>
                  simp at ho
                  subst ho
                  have e43 : ac.tmps.getD 43 undef = .int .i64 (j : Int) := hv 6 43 rfl (by kernel_rfl)
                  exact .inl ⟨rfl, gen_reads (.int .i64 ((j - 1 : Nat) : Int)) (by simp [go_sem, Act.eval, -Array.getD_eq_getD_getElem?, e43, hw1]) rfl (by simpa [upd] using hD)⟩
                | 8, ho =>
                  simp at ho
                  subst ho
                  have e42 : ac.tmps.getD 42 undef = .slice (some ⟨g, 0, none⟩) n cap := hv 5 42 rfl (by kernel_rfl)
                  have e44 : ac.tmps.getD 44 undef = .int .i64 ((j - 1 : Nat) : Int) := hv 7 44 rfl (by kernel_rfl)
                  exact .inl ⟨rfl, gen_reads (.pointer (some ⟨g, (j - 1) * 11, none⟩)) (by simp [go_sem, Act.eval, -Array.getD_eq_getD_getElem?, e42, e44, j2, j3]) rfl (by simpa [upd] using hD)⟩
                | 9, ho =>
                  simp at ho
                  subst ho
                  have e45 : ac.tmps.getD 45 undef = .pointer (some ⟨g, (j - 1) * 11, none⟩) := hv 8 45 rfl (by kernel_rfl)
                  have h15 : L 15 = false := by
                    cases h : L 15
                    · rfl
                    · exact absurd (hcl 15 _ rfl h 9 (by kernel_rfl)) (by rw [hL]; decide)
                  have hD' := hD
                  rw [h15] at hD'
                  simp only [Bool.false_eq_true, if_false] at hD'
                  obtain ⟨c0, c1, c2, c3, c4, c5, c6, c7, c8, c9, c10⟩ := rowAt_all (hD'.row (j - 1) (by rw [plst_len]; omega))
                  rw [plst_get R s n (j - 1) (by omega)] at c0 c1 c2 c3 c4 c5 c6 c7 c8 c9 c10
                  exact .inl ⟨rfl, gen_reads (rowV (R (s (j - 1)))) (by simp [go_sem, Act.eval, -Array.getD_eq_getD_getElem?, e45, c0, c1, c2, c3, c4, c5, c6, c7, c8, c9, c10, rowV]) rfl (by simpa [upd] using hD)⟩
                | 10, ho =>
                  simp at ho
                  subst ho
                  have e0 : ac.tmps.getD 0 undef = .slice (some ⟨g, 0, none⟩) n cap := hout 0 (by decide +kernel)
                  exact .inl ⟨rfl, gen_reads (.slice (some ⟨g, 0, none⟩) n cap) (by simp [go_sem, Act.eval, -Array.getD_eq_getD_getElem?, e0]) rfl (by simpa [upd] using hD)⟩
                | 11, ho =>
                  simp at ho
                  subst ho
                  have e9 : ac.tmps.getD 9 undef = .int .i64 (j : Int) := hout 9 (by decide +kernel)
                  exact .inl ⟨rfl, gen_reads (.int .i64 (j : Int)) (by simp [go_sem, Act.eval, -Array.getD_eq_getD_getElem?, e9]) rfl (by simpa [upd] using hD)⟩
                | 12, ho =>
                  simp at ho
                  subst ho
                  have e47 : ac.tmps.getD 47 undef = .slice (some ⟨g, 0, none⟩) n cap := hv 10 47 rfl (by kernel_rfl)
                  have e48 : ac.tmps.getD 48 undef = .int .i64 (j : Int) := hv 11 48 rfl (by kernel_rfl)
                  exact .inl ⟨rfl, gen_reads (.pointer (some ⟨g, j * 11, none⟩)) (by simp [go_sem, Act.eval, -Array.getD_eq_getD_getElem?, e47, e48, j0, j1]) rfl (by simpa [upd] using hD)⟩
                | 13, ho =>
                  simp at ho
                  subst ho
                  have e49 : ac.tmps.getD 49 undef = .pointer (some ⟨g, j * 11, none⟩) := hv 12 49 rfl (by kernel_rfl)
                  have h15 : L 15 = false := by
                    cases h : L 15
                    · rfl
                    · exact absurd (hcl 15 _ rfl h 13 (by kernel_rfl)) (by rw [hL]; decide)
                  have hD' := hD
                  rw [h15] at hD'
                  simp only [Bool.false_eq_true, if_false] at hD'
                  obtain ⟨c0, c1, c2, c3, c4, c5, c6, c7, c8, c9, c10⟩ := rowAt_all (hD'.row j (by rw [plst_len]; omega))
                  rw [plst_get R s n j (by omega)] at c0 c1 c2 c3 c4 c5 c6 c7 c8 c9 c10
                  exact .inl ⟨rfl, gen_reads (rowV (R (s j))) (by simp [go_sem, Act.eval, -Array.getD_eq_getD_getElem?, e49, c0, c1, c2, c3, c4, c5, c6, c7, c8, c9, c10, rowV]) rfl (by simpa [upd] using hD)⟩
                | 14, ho =>
                  simp at ho
                  subst ho
                  have e37 : ac.tmps.getD 37 undef = .slice (some ⟨g, 0, none⟩) n cap := hv 0 37 rfl (by kernel_rfl)
                  have e38 : ac.tmps.getD 38 undef = .int .i64 (j : Int) := hv 1 38 rfl (by kernel_rfl)
                  exact .inl ⟨rfl, gen_reads (.pointer (some ⟨g, j * 11, none⟩)) (by simp [go_sem, Act.eval, -Array.getD_eq_getD_getElem?, e37, e38, j0, j1]) rfl (by simpa [upd] using hD)⟩
                | 15, ho =>
                  simp at ho
                  subst ho
                  have e51 : ac.tmps.getD 51 undef = .pointer (some ⟨g, j * 11, none⟩) := hv 14 51 rfl (by kernel_rfl)
                  have e46 : ac.tmps.getD 46 undef = rowV (R (s (j - 1))) := hv 9 46 rfl (by kernel_rfl)
                  have h17 : L 17 = false := by
                    cases h : L 17
                    · rfl
                    · exact absurd (hcl 17 _ rfl h 15 (by kernel_rfl)) (by rw [hL]; decide)
                  have hD' := hD
                  rw [hL] at hD'
                  simp only [Bool.false_eq_true, if_false] at hD'
                  refine .inl ⟨rfl, wp_store_mid 53 (.tmp 51) (.tmp 46) rfl g (j * 11) (rowCells (R (s (j - 1)))).toArray (by simp [Act.eval, -Array.getD_eq_getD_getElem?, e51]) (by simp only [Act.eval, e46]; rfl) (by rw [List.size_toArray, rowCells_len]; exact hD'.there j (by simp only [List.length_set, plst_len]; omega)) size61a (all_oneCell_toArray (rowCells_one _)) ⟨undef, rfl, trivial, ?_⟩⟩
                  have := hD'.set j (by simp only [List.length_set, plst_len]; omega) (R (s (j - 1)))
                  simpa [upd, h17] using this
                | 16, ho =>
                  simp at ho
                  subst ho
                  have e39 : ac.tmps.getD 39 undef = .slice (some ⟨g, 0, none⟩) n cap := hv 2 39 rfl (by kernel_rfl)
                  have e41 : ac.tmps.getD 41 undef = .int .i64 ((j - 1 : Nat) : Int) := hv 4 41 rfl (by kernel_rfl)
                  exact .inl ⟨rfl, gen_reads (.pointer (some ⟨g, (j - 1) * 11, none⟩)) (by simp [go_sem, Act.eval, -Array.getD_eq_getD_getElem?, e39, e41, j2, j3]) rfl (by simpa [upd] using hD)⟩
                | 17, ho =>
                  simp at ho
                  subst ho
                  have e52 : ac.tmps.getD 52 undef = .pointer (some ⟨g, (j - 1) * 11, none⟩) := hv 16 52 rfl (by kernel_rfl)
                  have e50 : ac.tmps.getD 50 undef = rowV (R (s j)) := hv 13 50 rfl (by kernel_rfl)
                  have h15 : L 15 = true := hed 15 (by kernel_rfl)
                  have hD' := hD
                  rw [h15, hL] at hD'
                  simp only [Bool.false_eq_true, if_false, if_true] at hD'
                  refine .inl ⟨rfl, wp_store_mid 53 (.tmp 52) (.tmp 50) rfl g ((j - 1) * 11) (rowCells (R (s j))).toArray (by simp [Act.eval, -Array.getD_eq_getD_getElem?, e52]) (by simp only [Act.eval, e50]; rfl) (by rw [List.size_toArray, rowCells_len]; exact hD'.there (j - 1) (by simp only [List.length_set, plst_len]; omega)) size61a (all_oneCell_toArray (rowCells_one _)) ⟨undef, rfl, trivial, ?_⟩⟩
                  have := hD'.set (j - 1) (by simp only [List.length_set, plst_len]; omega) (R (s j))
                  simpa [upd, h15] using this
                | k + 18, ho => simp at ho
              case hend =>
                intro v2 L2 w2 hD2 hall2 hv2
                have hE : DL g cap W0 (((plst R s n).set j (R (s (j - 1)))).set (j - 1) (R (s j))) w2 := by
                  have := hD2
                  rw [hall2 15 (by decide), hall2 17 (by decide)] at this
                  simpa using this
                rw [plst_swap' R s n (j - 1) j (by omega) (by omega)] at hE
                have HE := hide hE
                clear hv2 hall2 hD2 hE h1
                simp only [putOps, List.getElem?_cons_zero, List.getElem?_cons_succ, Option.bind_some, List.length_cons, List.length_nil, Nat.reduceAdd]
                go_frame
                go_wp2
                go_roundw
                case rel =>
                  refine ⟨j - 1, swr s (j - 1) j 1, by go_num, by omega, by omega, unhide HE, (unhide HSP).trans ((swr_sp s (j - 1) j 1 (by omega)).wide (by omega) (by omega)), Ins.step (unhide HIN) hja hc, fun y h1 h2 => ?_, fun x h1 h2 => ?_⟩
                  · unfold swr
                    split
                    · exact unhide HLO _ (by omega) (by omega)
                    · split
                      · exact unhide HLO _ (by omega) (by omega)
                      · exact unhide HLO y h1 h2
                  · unfold swr
                    rw [if_neg (by omega), if_neg (by omega)]
                    exact unhide HHI x h1 h2
                case measure => simp [intOf]; omega
          · go_wp2
            refine wp_region_gen (fun k v => (([fun v => v = .int .i64 (j : Int), fun v => v = .int .i64 (a : Int), fun v => v = .bool true, fun v => v = .bool true, fun v => v = cmpV, fun v => v = .slice (some ⟨g, 0, none⟩) n cap, fun v => v = .int .i64 (j : Int), fun v => v = .pointer (some ⟨g, j * 11, none⟩), fun v => v = rowV (R (s j)), fun v => v = .slice (some ⟨g, 0, none⟩) n cap, fun v => v = .int .i64 (j : Int), fun v => v = .int .i64 ((j - 1 : Nat) : Int), fun v => v = .pointer (some ⟨g, (j - 1) * 11, none⟩), fun v => v = rowV (R (s (j - 1))), fun v => v = .int .i64 (cmpI (R (s j)).ix (R (s (j - 1))).ix), fun v => v = .bool false, fun v => v = .bool false] : List (Value → Prop)).getD k (fun _ => True)) v) (fun _ W => DL g cap W0 (plst R s n) W) (by kernel_rfl) (by kernel_rfl) (by kernel_rfl) h0 ?hstep ?hend
            case hstep =>
              intro k o ho L ac w1 hD hL hed hcl hout hv
              match k, ho with
              | 0, ho =>
                simp at ho
                subst ho
                have e9 : ac.tmps.getD 9 undef = .int .i64 (j : Int) := hout 9 (by decide +kernel)
                exact .inl ⟨rfl, gen_reads (.int .i64 (j : Int)) (by simp [go_sem, Act.eval, -Array.getD_eq_getD_getElem?, e9]) rfl (hD)⟩
              | 1, ho =>
                simp at ho
                subst ho
                have e1 : ac.tmps.getD 1 undef = .int .i64 (a : Int) := hout 1 (by decide +kernel)
                exact .inl ⟨rfl, gen_reads (.int .i64 (a : Int)) (by simp [go_sem, Act.eval, -Array.getD_eq_getD_getElem?, e1]) rfl (hD)⟩
              | 2, ho =>
                simp at ho
                subst ho
                have e18 : ac.tmps.getD 18 undef = .int .i64 (j : Int) := hv 0 18 rfl (by kernel_rfl)
                have e19 : ac.tmps.getD 19 undef = .int .i64 (a : Int) := hv 1 19 rfl (by kernel_rfl)
                exact .inl ⟨rfl, gen_reads (.bool true) (by simp [go_sem, Act.eval, -Array.getD_eq_getD_getElem?, e18, e19, hja]) rfl (hD)⟩
              | 3, ho =>
                simp at ho
                subst ho
                have e20 : ac.tmps.getD 20 undef = .bool true := hv 2 20 rfl (by kernel_rfl)
                exact .inl ⟨rfl, gen_reads (.bool true) (by simp [go_sem, Act.eval, -Array.getD_eq_getD_getElem?, e20]) rfl (hD)⟩
              | 4, ho =>
                simp at ho
                subst ho
                have eg : ac.tmps.getD 21 undef = .bool true := hv 3 21 rfl (by kernel_rfl)
                have e3 : ac.tmps.getD 3 undef = cmpV := hout 3 (by decide +kernel)
                exact .inl ⟨wanted_of rfl rfl eg, gen_reads (cmpV) (by simp [go_sem, Act.eval, -Array.getD_eq_getD_getElem?, e3]) rfl (hD)⟩
              | 5, ho =>
                simp at ho
                subst ho
                have eg : ac.tmps.getD 21 undef = .bool true := hv 3 21 rfl (by kernel_rfl)
                have e0 : ac.tmps.getD 0 undef = .slice (some ⟨g, 0, none⟩) n cap := hout 0 (by decide +kernel)
                exact .inl ⟨wanted_of rfl rfl eg, gen_reads (.slice (some ⟨g, 0, none⟩) n cap) (by simp [go_sem, Act.eval, -Array.getD_eq_getD_getElem?, e0]) rfl (hD)⟩
              | 6, ho =>
                simp at ho
                subst ho
                have eg : ac.tmps.getD 21 undef = .bool true := hv 3 21 rfl (by kernel_rfl)
                have e9 : ac.tmps.getD 9 undef = .int .i64 (j : Int) := hout 9 (by decide +kernel)
                exact .inl ⟨wanted_of rfl rfl eg, gen_reads (.int .i64 (j : Int)) (by simp [go_sem, Act.eval, -Array.getD_eq_getD_getElem?, e9]) rfl (hD)⟩
              | 7, ho =>
                simp at ho
                subst ho
                have eg : ac.tmps.getD 21 undef = .bool true := hv 3 21 rfl (by kernel_rfl)
                have e23 : ac.tmps.getD 23 undef = .slice (some ⟨g, 0, none⟩) n cap := hv 5 23 rfl (by kernel_rfl)
                have e24 : ac.tmps.getD 24 undef = .int .i64 (j : Int) := hv 6 24 rfl (by kernel_rfl)
                exact .inl ⟨wanted_of rfl rfl eg, gen_reads (.pointer (some ⟨g, j * 11, none⟩)) (by simp [go_sem, Act.eval, -Array.getD_eq_getD_getElem?, e23, e24, j0, j1]) rfl (hD)⟩
              | 8, ho =>
                simp at ho
                subst ho
                have eg : ac.tmps.getD 21 undef = .bool true := hv 3 21 rfl (by kernel_rfl)
                have e25 : ac.tmps.getD 25 undef = .pointer (some ⟨g, j * 11, none⟩) := hv 7 25 rfl (by kernel_rfl)
                obtain ⟨c0, c1, c2, c3, c4, c5, c6, c7, c8, c9, c10⟩ := rowAt_all (hD.row j (by rw [plst_len]; omega))
                rw [plst_get R s n j (by omega)] at c0 c1 c2 c3 c4 c5 c6 c7 c8 c9 c10
                exact .inl ⟨wanted_of rfl rfl eg, gen_reads (rowV (R (s j))) (by simp [go_sem, Act.eval, -Array.getD_eq_getD_getElem?, e25, c0, c1, c2, c3, c4, c5, c6, c7, c8, c9, c10, rowV]) rfl (hD)⟩
              | 9, ho =>
                simp at ho
                subst ho
                have eg : ac.tmps.getD 21 undef = .bool true := hv 3 21 rfl (by kernel_rfl)
                have e0 : ac.tmps.getD 0 undef = .slice (some ⟨g, 0, none⟩) n cap := hout 0 (by decide +kernel)
                exact .inl ⟨wanted_of rfl rfl eg, gen_reads (.slice (some ⟨g, 0, none⟩) n cap) (by simp [go_sem, Act.eval, -Array.getD_eq_getD_getElem?, e0]) rfl (hD)⟩
              | 10, ho =>
                simp at ho
                subst ho
                have eg : ac.tmps.getD 21 undef = .bool true := hv 3 21 rfl (by kernel_rfl)
                have e9 : ac.tmps.getD 9 undef = .int .i64 (j : Int) := hout 9 (by decide +kernel)
                exact .inl ⟨wanted_of rfl rfl eg, gen_reads (.int .i64 (j : Int)) (by simp [go_sem, Act.eval, -Array.getD_eq_getD_getElem?, e9]) rfl (hD)⟩
              | 11, ho =>
                simp at ho
                subst ho
                have eg : ac.tmps.getD 21 undef = .bool true := hv 3 21 rfl (by kernel_rfl)
                have e28 : ac.tmps.getD 28 undef = .int .i64 (j : Int) := hv 10 28 rfl (by kernel_rfl)
                exact .inl ⟨wanted_of rfl rfl eg, gen_reads (.int .i64 ((j - 1 : Nat) : Int)) (by simp [go_sem, Act.eval, -Array.getD_eq_getD_getElem?, e28, hw1]) rfl (hD)⟩
              | 12, ho =>
                simp at ho
                subst ho
                have eg : ac.tmps.getD 21 undef = .bool true := hv 3 21 rfl (by kernel_rfl)
                have e27 : ac.tmps.getD 27 undef = .slice (some ⟨g, 0, none⟩) n cap := hv 9 27 rfl (by kernel_rfl)
                have e29 : ac.tmps.getD 29 undef = .int .i64 ((j - 1 : Nat) : Int) := hv 11 29 rfl (by kernel_rfl)
                exact .inl ⟨wanted_of rfl rfl eg, gen_reads (.pointer (some ⟨g, (j - 1) * 11, none⟩)) (by simp [go_sem, Act.eval, -Array.getD_eq_getD_getElem?, e27, e29, j2, j3]) rfl (hD)⟩
              | 13, ho =>
                simp at ho
                subst ho
                have eg : ac.tmps.getD 21 undef = .bool true := hv 3 21 rfl (by kernel_rfl)
                have e30 : ac.tmps.getD 30 undef = .pointer (some ⟨g, (j - 1) * 11, none⟩) := hv 12 30 rfl (by kernel_rfl)
                obtain ⟨c0, c1, c2, c3, c4, c5, c6, c7, c8, c9, c10⟩ := rowAt_all (hD.row (j - 1) (by rw [plst_len]; omega))
                rw [plst_get R s n (j - 1) (by omega)] at c0 c1 c2 c3 c4 c5 c6 c7 c8 c9 c10
                exact .inl ⟨wanted_of rfl rfl eg, gen_reads (rowV (R (s (j - 1)))) (by simp [go_sem, Act.eval, -Array.getD_eq_getD_getElem?, e30, c0, c1, c2, c3, c4, c5, c6, c7, c8, c9, c10, rowV]) rfl (hD)⟩
              | 14, ho =>
                simp at ho
                subst ho
                have eg : ac.tmps.getD 21 undef = .bool true := hv 3 21 rfl (by kernel_rfl)
                have e22 : ac.tmps.getD 22 undef = cmpV := hv 4 22 rfl (by kernel_rfl)
                have e26 : ac.tmps.getD 26 undef = rowV (R (s j)) := hv 8 26 rfl (by kernel_rfl)
                have e31 : ac.tmps.getD 31 undef = rowV (R (s (j - 1))) := hv 13 31 rfl (by kernel_rfl)
                refine .inl ⟨wanted_of rfl rfl eg, gen_enters 71 #[rowV (R (s j)), rowV (R (s (j - 1)))] (by simp [go_sem, Act.eval, -Array.getD_eq_getD_getElem?, cmpV, e22, e26, e31]) ?_⟩
                refine (cmprow_any _ _ _).mono ?_
                rintro e w2 ⟨rfl, hb2⟩
                exact ⟨_, rfl, rfl, hD.below hb2⟩
              | 15, ho =>
                simp at ho
                subst ho
                have eg : ac.tmps.getD 21 undef = .bool true := hv 3 21 rfl (by kernel_rfl)
                have e32 : ac.tmps.getD 32 undef = .int .i64 (cmpI (R (s j)).ix (R (s (j - 1))).ix) := hv 14 32 rfl (by kernel_rfl)
                exact .inl ⟨wanted_of rfl rfl eg, gen_reads (.bool false) (by simp [go_sem, Act.eval, -Array.getD_eq_getD_getElem?, e32, cmpI_neg, hc]) rfl (hD)⟩
              | 16, ho =>
                simp at ho
                subst ho
                have e21 : ac.tmps.getD 21 undef = .bool true := hv 3 21 rfl (by kernel_rfl)
                have e33 : ac.tmps.getD 33 undef = .bool false := hv 15 33 rfl (by kernel_rfl)
                exact .inl ⟨rfl, gen_reads (.bool false) (by simp [go_sem, Act.eval, -Array.getD_eq_getD_getElem?, e21, e33]) rfl (hD)⟩
              | k + 17, ho => simp at ho
            case hend =>
              intro v L w1 hD hall hv
              have h16 : v 16 = .bool false := hv 16 34 rfl
              have HE := hide hD
              clear hv hall hD h0
              simp only [putOps, List.getElem?_cons_zero, List.getElem?_cons_succ, Option.bind_some, List.length_cons, List.length_nil, Nat.reduceAdd, h16]
              clear h16
              go_frame
              go_wp2
              go_roundw
              case rel =>
                have hs := Ins.done (unhide HIN) (.inr (by omega))
                exact ⟨i + 1, s, by go_num, by omega, by omega, unhide HE, unhide HSP, hs, fun y h1 h2 h3 => by have := unhide HLO y h1 (by omega); omega, fun x h1 h2 => unhide HHI x (by omega) h2⟩
              case measure => simp [intOf]; omega
        · obtain rfl : a = j := by omega
          have hja' : ¬ (a : Int) < (a : Int) := by omega
          go_wp2
          refine wp_region_gen (fun k v => (([fun v => v = .int .i64 (a : Int), fun v => v = .int .i64 (a : Int), fun v => v = .bool false, fun v => v = .bool false, fun _ => True, fun _ => True, fun _ => True, fun _ => True, fun _ => True, fun _ => True, fun _ => True, fun _ => True, fun _ => True, fun _ => True, fun _ => True, fun _ => True, fun v => v = .bool false] : List (Value → Prop)).getD k (fun _ => True)) v) (fun _ W => DL g cap W0 (plst R s n) W) (by kernel_rfl) (by kernel_rfl) (by kernel_rfl) h0 ?hstep ?hend
          case hstep =>
            intro k o ho L ac w1 hD hL hed hcl hout hv
            match k, ho with
            | 0, ho =>
              simp at ho
              subst ho
              have e9 : ac.tmps.getD 9 undef = .int .i64 (a : Int) := hout 9 (by decide +kernel)
              exact .inl ⟨rfl, gen_reads (.int .i64 (a : Int)) (by simp [go_sem, Act.eval, -Array.getD_eq_getD_getElem?, e9]) rfl (hD)⟩
            | 1, ho =>
              simp at ho
              subst ho
              have e1 : ac.tmps.getD 1 undef = .int .i64 (a : Int) := hout 1 (by decide +kernel)
              exact .inl ⟨rfl, gen_reads (.int .i64 (a : Int)) (by simp [go_sem, Act.eval, -Array.getD_eq_getD_getElem?, e1]) rfl (hD)⟩
            | 2, ho =>
              simp at ho
              subst ho
              have e18 : ac.tmps.getD 18 undef = .int .i64 (a : Int) := hv 0 18 rfl (by kernel_rfl)
              have e19 : ac.tmps.getD 19 undef = .int .i64 (a : Int) := hv 1 19 rfl (by kernel_rfl)
              exact .inl ⟨rfl, gen_reads (.bool false) (by simp [go_sem, Act.eval, -Array.getD_eq_getD_getElem?, e18, e19, hja']) rfl (hD)⟩
            | 3, ho =>
              simp at ho
              subst ho
              have e20 : ac.tmps.getD 20 undef = .bool false := hv 2 20 rfl (by kernel_rfl)
              exact .inl ⟨rfl, gen_reads (.bool false) (by simp [go_sem, Act.eval, -Array.getD_eq_getD_getElem?, e20]) rfl (hD)⟩
            | 4, ho =>
              simp at ho
              subst ho
              have eg : ac.tmps.getD 21 undef = .bool !true := hv 3 21 rfl (by kernel_rfl)
              exact .inr ⟨unwanted_of rfl rfl eg, trivial, hD⟩
            | 5, ho =>
              simp at ho
              subst ho
              have eg : ac.tmps.getD 21 undef = .bool !true := hv 3 21 rfl (by kernel_rfl)
              exact .inr ⟨unwanted_of rfl rfl eg, trivial, hD⟩
            | 6, ho =>
              simp at ho
              subst ho
              have eg : ac.tmps.getD 21 undef = .bool !true := hv 3 21 rfl (by kernel_rfl)
              exact .inr ⟨unwanted_of rfl rfl eg, trivial, hD⟩
            | 7, ho =>
              simp at ho
              subst ho
              have eg : ac.tmps.getD 21 undef = .bool !true := hv 3 21 rfl (by kernel_rfl)
              exact .inr ⟨unwanted_of rfl rfl eg, trivial, hD⟩
            | 8, ho =>
              simp at ho
              subst ho
              have eg : ac.tmps.getD 21 undef = .bool !true := hv 3 21 rfl (by kernel_rfl)
              exact .inr ⟨unwanted_of rfl rfl eg, trivial, hD⟩
            | 9, ho =>
              simp at ho
              subst ho
              have eg : ac.tmps.getD 21 undef = .bool !true := hv 3 21 rfl (by kernel_rfl)
              exact .inr ⟨unwanted_of rfl rfl eg, trivial, hD⟩
            | 10, ho =>
              simp at ho
              subst ho
              have eg : ac.tmps.getD 21 undef = .bool !true := hv 3 21 rfl (by kernel_rfl)
              exact .inr ⟨unwanted_of rfl rfl eg, trivial, hD⟩
            | 11, ho =>
              simp at ho
              subst ho
              have eg : ac.tmps.getD 21 undef = .bool !true := hv 3 21 rfl (by kernel_rfl)
              exact .inr ⟨unwanted_of rfl rfl eg, trivial, hD⟩
            | 12, ho =>
              simp at ho
              subst ho
              have eg : ac.tmps.getD 21 undef = .bool !true := hv 3 21 rfl (by kernel_rfl)
              exact .inr ⟨unwanted_of rfl rfl eg, trivial, hD⟩
            | 13, ho =>
              simp at ho
              subst ho
              have eg : ac.tmps.getD 21 undef = .bool !true := hv 3 21 rfl (by kernel_rfl)
              exact .inr ⟨unwanted_of rfl rfl eg, trivial, hD⟩
            | 14, ho =>
              simp at ho
              subst ho
              have eg : ac.tmps.getD 21 undef = .bool !true := hv 3 21 rfl (by kernel_rfl)
              exact .inr ⟨unwanted_of rfl rfl eg, trivial, hD⟩
            | 15, ho =>
              simp at ho
              subst ho
              have eg : ac.tmps.getD 21 undef = .bool !true := hv 3 21 rfl (by kernel_rfl)
              exact .inr ⟨unwanted_of rfl rfl eg, trivial, hD⟩
            | 16, ho =>
              simp at ho
              subst ho
              have e21 : ac.tmps.getD 21 undef = .bool false := hv 3 21 rfl (by kernel_rfl)
              exact .inl ⟨rfl, gen_reads (.bool false) (by simp [go_sem, Act.eval, -Array.getD_eq_getD_getElem?, e21]) rfl (hD)⟩
            | k + 17, ho => simp at ho
          case hend =>
            intro v L w1 hD hall hv
            have h16 : v 16 = .bool false := hv 16 34 rfl
            have HE := hide hD
            clear hv hall hD h0
            simp only [putOps, List.getElem?_cons_zero, List.getElem?_cons_succ, Option.bind_some, List.length_cons, List.length_nil, Nat.reduceAdd, h16]
            clear h16
            go_frame
            go_wp2
            go_roundw
            case rel =>
              have hs := Ins.done (unhide HIN) (.inl rfl)
              exact ⟨i + 1, s, by go_num, by omega, by omega, unhide HE, unhide HSP, hs, fun y h1 h2 h3 => by have := unhide HLO y h1 (by omega); omega, fun x h1 h2 => unhide HHI x (by omega) h2⟩
            case measure => simp [intOf]; omega
    · have i1 : ¬ (i : Int) < (b : Int) := by omega
      have HE : Hid (∃ t, DL g cap W0 (plst R t n) wr ∧ SP s0 t a b ∧ Srt (fun p => (R p).ix) t a b) := hide ⟨s, hDL, hSP, fun x y h1 h2 h3 => hSrt x y h1 h2 (by omega)⟩
      clear hDL hSP hSrt hlo hhi
      go_wp2
      exact bodyPost_end (v := .tuple #[]) (by simp [results, Try.results110, go_sem]) rfl ⟨rfl, unhide HE⟩
end Go.Proofs.Ytnbleebilmghcab
namespace Go.Proofs.Ytnbleebilmghcab
open Go Go.RowKit
attribute [local go_sem ↓] Go.wp_at_zero Go.wp_at_succ
theorem swr_succ (s : Nat → Nat) (a b i : Nat) (h : a + i + 1 ≤ b) : swr (swr s a b i) (a + i) (b + i) 1 = swr s a b (i + 1) := by
  funext k
  unfold swr
  by_cases h1 : a ≤ k ∧ k < a + i
  · have e : ¬ (a + i ≤ k ∧ k < a + i + 1) := by omega
    have e2 : ¬ (b + i ≤ k ∧ k < b + i + 1) := by omega
    have e3 : a ≤ k ∧ k < a + (i + 1) := by omega
    simp only [h1, e, e2, e3, if_true, if_false, and_self]
  · by_cases h2 : k = a + i
    · subst h2
      have e : a + i ≤ a + i ∧ a + i < a + i + 1 := by omega
      have e3 : a ≤ a + i ∧ a + i < a + (i + 1) := by omega
      have e4 : ¬ (a ≤ a + i + (b + i - (a + i)) ∧ a + i + (b + i - (a + i)) < a + i) := by omega
      have e5 : ¬ (b ≤ a + i + (b + i - (a + i)) ∧ a + i + (b + i - (a + i)) < b + i) := by omega
      rw [if_pos e, if_pos e3, if_neg e4, if_neg e5]
      congr 1; omega
    · by_cases h3 : b ≤ k ∧ k < b + i
      · have e1 : ¬ (a + i ≤ k ∧ k < a + i + 1) := by omega
        have e2 : ¬ (b + i ≤ k ∧ k < b + i + 1) := by omega
        have e3 : ¬ (a ≤ k ∧ k < a + (i + 1)) := by omega
        have e4 : b ≤ k ∧ k < b + (i + 1) := by omega
        rw [if_neg e1, if_neg e2, if_neg h1, if_pos h3, if_neg e3, if_pos e4]
      · by_cases h4 : k = b + i
        · subst h4
          have e1 : ¬ (a + i ≤ b + i ∧ b + i < a + i + 1) := by omega
          have e2 : b + i ≤ b + i ∧ b + i < b + i + 1 := by omega
          have e3 : ¬ (a ≤ b + i ∧ b + i < a + (i + 1)) := by omega
          have e4 : b ≤ b + i ∧ b + i < b + (i + 1) := by omega
          have e5 : ¬ (a ≤ b + i - (b + i - (a + i)) ∧ b + i - (b + i - (a + i)) < a + i) := by omega
          have e6 : ¬ (b ≤ b + i - (b + i - (a + i)) ∧ b + i - (b + i - (a + i)) < b + i) := by omega
          rw [if_neg e1, if_pos e2, if_neg e3, if_pos e4, if_neg e5, if_neg e6]
          congr 1; omega
        · have e1 : ¬ (a + i ≤ k ∧ k < a + i + 1) := by omega
          have e2 : ¬ (b + i ≤ k ∧ k < b + i + 1) := by omega
          have e3 : ¬ (a ≤ k ∧ k < a + (i + 1)) := by omega
          have e4 : ¬ (b ≤ k ∧ k < b + (i + 1)) := by omega
          rw [if_neg e1, if_neg e2, if_neg h1, if_neg h3, if_neg e3, if_neg e4]
set_option maxRecDepth 8000 in
set_option maxHeartbeats 8000000 in
theorem swaprange_any (g cap n a b m : Nat) (R : Nat → RowI) (s0 : Nat → Nat) (W0 : World) (h1 : a + m ≤ b) (h2 : b + m ≤ n) (hn : n ≤ 1000) (h : DL g cap W0 (plst R s0 n) W0) :
    Calls Try.prog 130 #[.slice (some ⟨g, 0, none⟩) n cap, .int .i64 (a : Int), .int .i64 (b : Int), .int .i64 (m : Int), cmpV] W0 fun e w' => e = .returned (.tuple #[]) ∧ DL g cap W0 (plst R (swr s0 a b m) n) w' := by
  have H := hide h
  clear h
  go_enter Try.func130, Try.ntmps130
  go_wp2
  go_loopw [10] (fun t wr => ∃ i : Nat, t = .int .i64 (i : Int) ∧ i ≤ m ∧ DL g cap W0 (plst R (swr s0 a b i) n) wr) (fun t _ => m - (intOf t).toNat)
  case atStart => exact ⟨0, rfl, Nat.zero_le _, by rw [swr_zero]; exact unhide H⟩
  case round =>
    clear H
    obtain ⟨i, rfl, hi, hDL⟩ := hrel
    by_cases hlt : i < m
    · have i1 : (i : Int) < (m : Int) := by omega
      have HSW := hide (swr_succ s0 a b i (by omega))
      generalize swr s0 a b i = s at *
      have h0 : DL g cap W0 (plst R s n) wr.drew := hDL.below ((Below.refl _ _).drew)
      obtain ⟨x, hx⟩ : ∃ x, x = a + i := ⟨_, rfl⟩
      obtain ⟨y, hy⟩ : ∃ y, y = b + i := ⟨_, rfl⟩
      rw [← hx, ← hy] at HSW
      have hwx : IntKind.i64.wrap ((a : Int) + (i : Int)) = (x : Int) := by rw [i64_id (by omega) (by omega)]; omega
      have hwy : IntKind.i64.wrap ((b : Int) + (i : Int)) = (y : Int) := by rw [i64_id (by omega) (by omega)]; omega
      have x0 : (0 : Int) ≤ (x : Int) := by omega
      have x1 : (x : Int) < (n : Int) := by omega
      have y0 : (0 : Int) ≤ (y : Int) := by omega
      have y1 : (y : Int) < (n : Int) := by omega
      have hxy : x < y := by omega
      have HXY := hide hxy
      clear hDL hx hy hxy
      go_wp2
      refine wp_region_gen (fun k v => (([fun v => v = .slice (some ⟨g, 0, none⟩) n cap, fun v => v = .int .i64 (a : Int), fun v => v = .int .i64 (i : Int), fun v => v = .int .i64 (x : Int), fun v => v = .slice (some ⟨g, 0, none⟩) n cap, fun v => v = .int .i64 (b : Int), fun v => v = .int .i64 (i : Int), fun v => v = .int .i64 (y : Int), fun v => v = .slice (some ⟨g, 0, none⟩) n cap, fun v => v = .int .i64 (b : Int), fun v => v = .int .i64 (i : Int), fun v => v = .int .i64 (y : Int), fun v => v = .pointer (some ⟨g, y * 11, none⟩), fun v => v = rowV (R (s y)), fun v => v = .slice (some ⟨g, 0, none⟩) n cap, fun v => v = .int .i64 (a : Int), fun v => v = .int .i64 (i : Int), fun v => v = .int .i64 (x : Int), fun v => v = .pointer (some ⟨g, x * 11, none⟩), fun v => v = rowV (R (s x)), fun v => v = .pointer (some ⟨g, x * 11, none⟩), fun _ => True, fun v => v = .pointer (some ⟨g, y * 11, none⟩), fun _ => True] : List (Value → Prop)).getD k (fun _ => True)) v) (fun L W => DL g cap W0 (if L 21 = true then (if L 23 = true then ((plst R s n).set x (R (s y))).set y (R (s x)) else (plst R s n).set x (R (s y))) else plst R s n) W) (by kernel_rfl) (by kernel_rfl) (by kernel_rfl) (by simpa using h0) ?hstep ?hend
      case hstep =>
        intro k o ho L ac w1 hD hL hed hcl hout hv
        match k, ho with
        | 0, ho =>
          simp at ho
          subst ho
          have e0 : ac.tmps.getD 0 undef = .slice (some ⟨g, 0, none⟩) n cap := hout 0 (by decide +kernel)
          exact .inl ⟨rfl, gen_reads (.slice (some ⟨g, 0, none⟩) n cap) (by simp [go_sem, Act.eval, -Array.getD_eq_getD_getElem?, e0]) rfl (by simpa [upd] using hD)⟩
        | 1, ho =>
          simp at ho
          subst ho
          have e1 : ac.tmps.getD 1 undef = .int .i64 (a : Int) := hout 1 (by decide +kernel)
          exact .inl ⟨rfl, gen_reads (.int .i64 (a : Int)) (by simp [go_sem, Act.eval, -Array.getD_eq_getD_getElem?, e1]) rfl (by simpa [upd] using hD)⟩
        | 2, ho =>
          simp at ho
          subst ho
          have e10 : ac.tmps.getD 10 undef = .int .i64 (i : Int) := hout 10 (by decide +kernel)
          exact .inl ⟨rfl, gen_reads (.int .i64 (i : Int)) (by simp [go_sem, Act.eval, -Array.getD_eq_getD_getElem?, e10]) rfl (by simpa [upd] using hD)⟩
        | 3, ho =>
          simp at ho
          subst ho
          have e17 : ac.tmps.getD 17 undef = .int .i64 (a : Int) := hv 1 17 rfl (by kernel_rfl)
          have e18 : ac.tmps.getD 18 undef = .int .i64 (i : Int) := hv 2 18 rfl (by kernel_rfl)
          exact .inl ⟨rfl, gen_reads (.int .i64 (x : Int)) (by simp [go_sem, Act.eval, -Array.getD_eq_getD_getElem?, e17, e18, hwx]) rfl (by simpa [upd] using hD)⟩
        | 4, ho =>
          simp at ho
          subst ho
          have e0 : ac.tmps.getD 0 undef = .slice (some ⟨g, 0, none⟩) n cap := hout 0 (by decide +kernel)
          exact .inl ⟨rfl, gen_reads (.slice (some ⟨g, 0, none⟩) n cap) (by simp [go_sem, Act.eval, -Array.getD_eq_getD_getElem?, e0]) rfl (by simpa [upd] using hD)⟩
        | 5, ho =>
          simp at ho
          subst ho
          have e2 : ac.tmps.getD 2 undef = .int .i64 (b : Int) := hout 2 (by decide +kernel)
          exact .inl ⟨rfl, gen_reads (.int .i64 (b : Int)) (by simp [go_sem, Act.eval, -Array.getD_eq_getD_getElem?, e2]) rfl (by simpa [upd] using hD)⟩
        | 6, ho =>
          simp at ho
          subst ho
          have e10 : ac.tmps.getD 10 undef = .int .i64 (i : Int) := hout 10 (by decide +kernel)
          exact .inl ⟨rfl, gen_reads (.int .i64 (i : Int)) (by simp [go_sem, Act.eval, -Array.getD_eq_getD_getElem?, e10]) rfl (by simpa [upd] using hD)⟩
        | 7, ho =>
          simp at ho
          subst ho
          have e21 : ac.tmps.getD 21 undef = .int .i64 (b : Int) := hv 5 21 rfl (by kernel_rfl)
          have e22 : ac.tmps.getD 22 undef = .int .i64 (i : Int) := hv 6 22 rfl (by kernel_rfl)
          exact .inl ⟨rfl, gen_reads (.int .i64 (y : Int)) (by simp [go_sem, Act.eval, -Array.getD_eq_getD_getElem?, e21, e22, hwy]) rfl (by simpa [upd] using hD)⟩
        | 8, ho =>
          simp at ho
          subst ho
          have e0 : ac.tmps.getD 0 undef = .slice (some ⟨g, 0, none⟩) n cap := hout 0 (by decide +kernel)
          exact .inl ⟨rfl, gen_reads (.slice (some ⟨g, 0, none⟩) n cap) (by simp [go_sem, Act.eval, -Array.getD_eq_getD_getElem?, e0]) rfl (by simpa [upd] using hD)⟩
        | 9, ho =>
          simp at ho
          subst ho
          have e2 : ac.tmps.getD 2 undef = .int .i64 (b : Int) := hout 2 (by decide +kernel)
          exact .inl ⟨rfl, gen_reads (.int .i64 (b : Int)) (by simp [go_sem, Act.eval, -Array.getD_eq_getD_getElem?, e2]) rfl (by simpa [upd] using hD)⟩
        | 10, ho =>
          simp at ho
          subst ho
          have e10 : ac.tmps.getD 10 undef = .int .i64 (i : Int) := hout 10 (by decide +kernel)
          exact .inl ⟨rfl, gen_reads (.int .i64 (i : Int)) (by simp [go_sem, Act.eval, -Array.getD_eq_getD_getElem?, e10]) rfl (by simpa [upd] using hD)⟩
        | 11, ho =>
          simp at ho
          subst ho
          have e25 : ac.tmps.getD 25 undef = .int .i64 (b : Int) := hv 9 25 rfl (by kernel_rfl)
          have e26 : ac.tmps.getD 26 undef = .int .i64 (i : Int) := hv 10 26 rfl (by kernel_rfl)
          exact .inl ⟨rfl, gen_reads (.int .i64 (y : Int)) (by simp [go_sem, Act.eval, -Array.getD_eq_getD_getElem?, e25, e26, hwy]) rfl (by simpa [upd] using hD)⟩
        | 12, ho =>
          simp at ho
          subst ho
          have e24 : ac.tmps.getD 24 undef = .slice (some ⟨g, 0, none⟩) n cap := hv 8 24 rfl (by kernel_rfl)
          have e27 : ac.tmps.getD 27 undef = .int .i64 (y : Int) := hv 11 27 rfl (by kernel_rfl)
          exact .inl ⟨rfl, gen_reads (.pointer (some ⟨g, y * 11, none⟩)) (by simp [go_sem, Act.eval, -Array.getD_eq_getD_getElem?, e24, e27, y0, y1]) rfl (by simpa [upd] using hD)⟩
        | 13, ho =>
          simp at ho
          subst ho
          have e28 : ac.tmps.getD 28 undef = .pointer (some ⟨g, y * 11, none⟩) := hv 12 28 rfl (by kernel_rfl)
          have hp : L 21 = false := by
            cases h : L 21
            · rfl
            · exact absurd (hcl 21 _ rfl h 13 (by kernel_rfl)) (by rw [hL]; decide)
          have hD' := hD
          rw [hp] at hD'
          simp only [Bool.false_eq_true, if_false] at hD'
          obtain ⟨c0, c1, c2, c3, c4, c5, c6, c7, c8, c9, c10⟩ := rowAt_all (hD'.row y (by rw [plst_len]; omega))
          rw [plst_get R s n y (by omega)] at c0 c1 c2 c3 c4 c5 c6 c7 c8 c9 c10
          exact .inl ⟨rfl, gen_reads (rowV (R (s y))) (by simp [go_sem, Act.eval, -Array.getD_eq_getD_getElem?, e28, c0, c1, c2, c3, c4, c5, c6, c7, c8, c9, c10, rowV]) rfl (by simpa [upd] using hD)⟩
        | 14, ho =>
          simp at ho
          subst ho
          have e0 : ac.tmps.getD 0 undef = .slice (some ⟨g, 0, none⟩) n cap := hout 0 (by decide +kernel)
          exact .inl ⟨rfl, gen_reads (.slice (some ⟨g, 0, none⟩) n cap) (by simp [go_sem, Act.eval, -Array.getD_eq_getD_getElem?, e0]) rfl (by simpa [upd] using hD)⟩
        | 15, ho =>
          simp at ho
          subst ho
          have e1 : ac.tmps.getD 1 undef = .int .i64 (a : Int) := hout 1 (by decide +kernel)
          exact .inl ⟨rfl, gen_reads (.int .i64 (a : Int)) (by simp [go_sem, Act.eval, -Array.getD_eq_getD_getElem?, e1]) rfl (by simpa [upd] using hD)⟩
        | 16, ho =>
          simp at ho
          subst ho
          have e10 : ac.tmps.getD 10 undef = .int .i64 (i : Int) := hout 10 (by decide +kernel)
          exact .inl ⟨rfl, gen_reads (.int .i64 (i : Int)) (by simp [go_sem, Act.eval, -Array.getD_eq_getD_getElem?, e10]) rfl (by simpa [upd] using hD)⟩
        | 17, ho =>
          simp at ho
          subst ho
          have e31 : ac.tmps.getD 31 undef = .int .i64 (a : Int) := hv 15 31 rfl (by kernel_rfl)
          have e32 : ac.tmps.getD 32 undef = .int .i64 (i : Int) := hv 16 32 rfl (by kernel_rfl)
          exact .inl ⟨rfl, gen_reads (.int .i64 (x : Int)) (by simp [go_sem, Act.eval, -Array.getD_eq_getD_getElem?, e31, e32, hwx]) rfl (by simpa [upd] using hD)⟩
        | 18, ho =>
          simp at ho
          subst ho
          have e30 : ac.tmps.getD 30 undef = .slice (some ⟨g, 0, none⟩) n cap := hv 14 30 rfl (by kernel_rfl)
          have e33 : ac.tmps.getD 33 undef = .int .i64 (x : Int) := hv 17 33 rfl (by kernel_rfl)
          exact .inl ⟨rfl, gen_reads (.pointer (some ⟨g, x * 11, none⟩)) (by simp [go_sem, Act.eval, -Array.getD_eq_getD_getElem?, e30, e33, x0, x1]) rfl (by simpa [upd] using hD)⟩
        | 19, ho =>
          simp at ho
          subst ho
          have e34 : ac.tmps.getD 34 undef = .pointer (some ⟨g, x * 11, none⟩) := hv 18 34 rfl (by kernel_rfl)
          have hp : L 21 = false := by
            cases h : L 21
            · rfl
            · exact absurd (hcl 21 _ rfl h 19 (by kernel_rfl)) (by rw [hL]; decide)
          have hD' := hD
          rw [hp] at hD'
          simp only [Bool.false_eq_true, if_false] at hD'
          obtain ⟨c0, c1, c2, c3, c4, c5, c6, c7, c8, c9, c10⟩ := rowAt_all (hD'.row x (by rw [plst_len]; omega))
          rw [plst_get R s n x (by omega)] at c0 c1 c2 c3 c4 c5 c6 c7 c8 c9 c10
          exact .inl ⟨rfl, gen_reads (rowV (R (s x))) (by simp [go_sem, Act.eval, -Array.getD_eq_getD_getElem?, e34, c0, c1, c2, c3, c4, c5, c6, c7, c8, c9, c10, rowV]) rfl (by simpa [upd] using hD)⟩
        | 20, ho =>
          simp at ho
          subst ho
          have e16 : ac.tmps.getD 16 undef = .slice (some ⟨g, 0, none⟩) n cap := hv 0 16 rfl (by kernel_rfl)
          have e19 : ac.tmps.getD 19 undef = .int .i64 (x : Int) := hv 3 19 rfl (by kernel_rfl)
          exact .inl ⟨rfl, gen_reads (.pointer (some ⟨g, x * 11, none⟩)) (by simp [go_sem, Act.eval, -Array.getD_eq_getD_getElem?, e16, e19, x0, x1]) rfl (by simpa [upd] using hD)⟩
        | 21, ho =>
          simp at ho
          subst ho
          have e36 : ac.tmps.getD 36 undef = .pointer (some ⟨g, x * 11, none⟩) := hv 20 36 rfl (by kernel_rfl)
          have e29 : ac.tmps.getD 29 undef = rowV (R (s y)) := hv 13 29 rfl (by kernel_rfl)
          have hq : L 23 = false := by
            cases h : L 23
            · rfl
            · exact absurd (hcl 23 _ rfl h 21 (by kernel_rfl)) (by rw [hL]; decide)
          have hD' := hD
          rw [hL] at hD'
          simp only [Bool.false_eq_true, if_false] at hD'
          refine .inl ⟨rfl, wp_store_mid 53 (.tmp 36) (.tmp 29) rfl g (x * 11) (rowCells (R (s y))).toArray (by simp [Act.eval, -Array.getD_eq_getD_getElem?, e36]) (by simp only [Act.eval, e29]; rfl) (by rw [List.size_toArray, rowCells_len]; exact hD'.there x (by simp only [List.length_set, plst_len]; omega)) size61a (all_oneCell_toArray (rowCells_one _)) ⟨undef, rfl, trivial, ?_⟩⟩
          have := hD'.set x (by simp only [List.length_set, plst_len]; omega) (R (s y))
          simpa [upd, hq] using this
        | 22, ho =>
          simp at ho
          subst ho
          have e20 : ac.tmps.getD 20 undef = .slice (some ⟨g, 0, none⟩) n cap := hv 4 20 rfl (by kernel_rfl)
          have e23 : ac.tmps.getD 23 undef = .int .i64 (y : Int) := hv 7 23 rfl (by kernel_rfl)
          exact .inl ⟨rfl, gen_reads (.pointer (some ⟨g, y * 11, none⟩)) (by simp [go_sem, Act.eval, -Array.getD_eq_getD_getElem?, e20, e23, y0, y1]) rfl (by simpa [upd] using hD)⟩
        | 23, ho =>
          simp at ho
          subst ho
          have e37 : ac.tmps.getD 37 undef = .pointer (some ⟨g, y * 11, none⟩) := hv 22 37 rfl (by kernel_rfl)
          have e35 : ac.tmps.getD 35 undef = rowV (R (s x)) := hv 19 35 rfl (by kernel_rfl)
          have hq : L 21 = true := hed 21 (by kernel_rfl)
          have hD' := hD
          rw [hq, hL] at hD'
          simp only [Bool.false_eq_true, if_false, if_true] at hD'
          refine .inl ⟨rfl, wp_store_mid 53 (.tmp 37) (.tmp 35) rfl g (y * 11) (rowCells (R (s x))).toArray (by simp [Act.eval, -Array.getD_eq_getD_getElem?, e37]) (by simp only [Act.eval, e35]; rfl) (by rw [List.size_toArray, rowCells_len]; exact hD'.there y (by simp only [List.length_set, plst_len]; omega)) size61a (all_oneCell_toArray (rowCells_one _)) ⟨undef, rfl, trivial, ?_⟩⟩
          have := hD'.set y (by simp only [List.length_set, plst_len]; omega) (R (s x))
          simpa [upd, hq] using this
        | k + 24, ho => simp at ho
      case hend =>
        intro v2 L2 w2 hD2 hall2 hv2
        have hE : DL g cap W0 (((plst R s n).set x (R (s y))).set y (R (s x))) w2 := by
          have := hD2
          rw [hall2 21 (by decide), hall2 23 (by decide)] at this
          simpa using this
        rw [plst_swap R s n x y (unhide HXY) (by omega)] at hE
        have HE := hide hE
        clear hv2 hall2 hD2 hE
        simp only [putOps, List.getElem?_cons_zero, List.getElem?_cons_succ, Option.bind_some, List.length_cons, List.length_nil, Nat.reduceAdd]
        go_frame
        clear h0
        go_wp2
        go_roundw
        case rel => exact ⟨i + 1, by go_num, by omega, by rw [← unhide HSW]; exact unhide HE⟩
        case measure => simp [intOf]; omega
    · obtain rfl : i = m := by omega
      have HE := hide hDL
      clear hDL
      go_wp2
      exact bodyPost_end (v := .tuple #[]) (by simp [results, Try.results130, go_sem]) rfl ⟨rfl, unhide HE⟩
set_option maxRecDepth 8000 in
set_option maxHeartbeats 4000000 in
theorem rotate_any (g cap n a m b : Nat) (R : Nat → RowI) (s0 : Nat → Nat) (W0 : World) (h1 : a < m) (h2 : m < b) (h3 : b ≤ n) (hn : n ≤ 1000) (h : DL g cap W0 (plst R s0 n) W0) :
    Calls Try.prog 122 #[.slice (some ⟨g, 0, none⟩) n cap, .int .i64 (a : Int), .int .i64 (m : Int), .int .i64 (b : Int), cmpV] W0 fun e w' => e = .returned (.tuple #[]) ∧ DL g cap W0 (plst R (rot s0 a m b) n) w' := by
  have hSR : ∀ (s : Nat → Nat) (W : World) (x y c : Nat), DL g cap W0 (plst R s n) W → x + c ≤ y → y + c ≤ n → Calls Try.prog 130 #[.slice (some ⟨g, 0, none⟩) n cap, .int .i64 (x : Int), .int .i64 (y : Int), .int .i64 (c : Int), cmpV] W fun e w' => e = .returned (.tuple #[]) ∧ DL g cap W0 (plst R (swr s x y c) n) w' := fun s W x y c hD hx hy =>
    (swaprange_any g cap n x y c R s W hx hy hn hD.self).mono fun e w' ⟨he, hd⟩ => ⟨he, hD.trans hd⟩
  have HSR := hide hSR
  have H := hide h
  clear hSR h
  go_enter Try.func122, Try.ntmps122
  go_wp2
  go_loopw [10, 11] (fun t u wr => ∃ (i j : Nat) (s : Nat → Nat), t = .int .i64 (i : Int) ∧ u = .int .i64 (j : Int) ∧ 1 ≤ i ∧ 1 ≤ j ∧ i ≤ m ∧ m + j ≤ n ∧ DL g cap W0 (plst R s n) wr ∧ rot s (m - i) m (m + j) = rot s0 a m b) (fun t u _ => (intOf t).toNat + (intOf u).toNat)
  case atStart => exact ⟨m - a, b - m, s0, by go_num, by go_num, by omega, by omega, by omega, by omega, unhide H, by rw [show m - (m - a) = a by omega, show m + (b - m) = b by omega]⟩
  case round =>
    clear H
    obtain ⟨i, j, s, rfl, rfl, hi, hj, him, hjn, hDL, hrot⟩ := hrel
    have HR := hide hrot
    have HD := hide hDL
    clear hrot hDL
    rcases Nat.lt_trichotomy i j with hij | hij | hij
    · have c1 := unhide HSR s wr (m - i) (m + j - i) i (unhide HD) (by omega) (by omega)
      rw [show ((m - i : Nat) : Int) = (m : Int) - (i : Int) by omega, show ((m + j - i : Nat) : Int) = (m : Int) + (j : Int) - (i : Int) by omega] at c1
      have HC := hide c1
      have HQ := hide (rot_right s m i j him hij)
      have n1 : ¬ (i : Int) = (j : Int) := by omega
      have n2 : ¬ (j : Int) < (i : Int) := by omega
      clear c1
      go_wp2_with ((go_at_call 130; refine (unhide HC).mono ?_; rintro e w2 ⟨rfl, hd2⟩; have HE := hide hd2; clear hd2))
      go_roundw
      case rel => exact ⟨i, j - i, swr s (m - i) (m + j - i) i, rfl, by go_num, hi, by omega, him, by omega, unhide HE, by rw [show m + (j - i) = m + j - i by omega]; exact (unhide HQ).trans (unhide HR)⟩
      case measure => simp [intOf]; omega
    · subst hij
      have c1 := unhide HSR s wr (m - i) m i (unhide HD) (by omega) (by omega)
      rw [show ((m - i : Nat) : Int) = (m : Int) - (i : Int) by omega] at c1
      have HC := hide c1
      have HQ := hide (rot_even s (m - i) m i (by omega))
      clear c1
      go_wp2_with ((go_at_call 130; refine (unhide HC).mono ?_; rintro e w2 ⟨rfl, hd2⟩; have HE := hide hd2; clear hd2))
      refine bodyPost_end (v := .tuple #[]) (by simp [results, Try.results122, go_sem]) rfl ⟨rfl, ?_⟩
      rw [← unhide HR, unhide HQ]
      exact unhide HE
    · have c1 := unhide HSR s wr (m - i) m j (unhide HD) (by omega) (by omega)
      rw [show ((m - i : Nat) : Int) = (m : Int) - (i : Int) by omega] at c1
      have HC := hide c1
      have HQ := hide (rot_left s m i j him hij)
      have n1 : ¬ (i : Int) = (j : Int) := by omega
      have n2 : (j : Int) < (i : Int) := by omega
      clear c1
      go_wp2_with ((go_at_call 130; refine (unhide HC).mono ?_; rintro e w2 ⟨rfl, hd2⟩; have HE := hide hd2; clear hd2))
      go_roundw
      case rel => exact ⟨i - j, j, swr s (m - i) m j, by go_num, rfl, by omega, hj, by omega, hjn, unhide HE, by rw [show m - (i - j) = m - i + j by omega]; exact (unhide HQ).trans (unhide HR)⟩
      case measure => simp [intOf]; omega
end Go.Proofs.Ytnbleebilmghcab
