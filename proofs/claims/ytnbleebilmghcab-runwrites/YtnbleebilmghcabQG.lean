/- PMath, PMath2, PAlive, PEq, PRow -/
import Derived.Test.YtnbleebilmghcabQF
set_option linter.all false
namespace Go.Proofs.Ytnbleebilmghcab
open Go Go.RowKit
theorem isB_iff (x : RowI) (i g : Int) : isB x i g = true ↔ x.ix = i ∧ x.gen = g := by unfold isB; simp
theorem find_cases (X : Wd) (i g : Int) : findW X i g = -1 ∨ ∃ k : Nat, k < X.rows.length ∧ findW X i g = (k : Int) ∧ (rowOf X k).ix = i ∧ (rowOf X k).gen = g := by
  rcases fIx_spec (fun j => X.rows.getD j dR) i g X.rows.length 0 with h | ⟨k, _, h1, h2, h3⟩
  · exact .inl h
  · exact .inr ⟨k, by omega, h2, (isB_iff _ _ _).1 h3⟩
theorem fIx_no (R : Nat → RowI) (i g : Int) : ∀ n j, fIx R i g n j = -1 → ∀ t, j ≤ t → t < j + n → isB (R t) i g = false
  | 0, j, _, t, h1, h2 => by omega
  | n + 1, j, h, t, h1, h2 => by
    unfold fIx at h
    split at h
    · omega
    · rename_i hc
      by_cases e : t = j
      · subst e; simpa using hc
      · exact fIx_no R i g n (j + 1) h t (by omega) (by omega)
theorem find_no {X : Wd} {i g : Int} (h : findW X i g = -1) {j : Nat} (hj : j < X.rows.length) : ¬ ((rowOf X j).ix = i ∧ (rowOf X j).gen = g) := by
  intro e
  have := fIx_no _ i g X.rows.length 0 h j (Nat.zero_le _) (by omega)
  have h2 : isB (X.rows.getD j dR) i g = true := (isB_iff _ _ _).2 e
  rw [h2] at this; cases this
theorem find_none {X : Wd} {i g : Int} (h : ∀ j, j < X.rows.length → ¬ ((rowOf X j).ix = i ∧ (rowOf X j).gen = g)) : findW X i g = -1 := by
  rcases find_cases X i g with h1 | ⟨k, h1, _, h3⟩
  · exact h1
  · exact absurd h3 (h k h1)
theorem find_at {X : Wd} (hr : RightW X) {j : Nat} (hj : j < X.rows.length) : findW X (rowOf X j).ix (rowOf X j).gen = (j : Int) := by
  rcases find_cases X (rowOf X j).ix (rowOf X j).gen with h1 | ⟨k, h1, h2, h3, h4⟩
  · exact absurd ⟨rfl, rfl⟩ (find_no h1 hj)
  · rw [h2, hr.one h1 hj h3]
theorem rowOf_set (X : Wd) (k : Nat) (r : RowI) (G : List Int) (j : Nat) (hj : j < X.rows.length) : rowOf ⟨X.rows.set k r, G⟩ j = if j = k then r else rowOf X j := getD_setR X.rows k j r hj
theorem right_set {X : Wd} (h : RightW X) {k : Nat} (hk : k < X.rows.length) {r : RowI} (h1 : r.ix = (rowOf X k).ix) (h2 : r.gen = (rowOf X k).gen) (h3 : rvB r = true) : RightW ⟨X.rows.set k r, X.gens⟩ := by
  have e := fun j (hj : j < X.rows.length) => rowOf_set X k r X.gens j hj
  have ei : ∀ j, j < X.rows.length → (rowOf ⟨X.rows.set k r, X.gens⟩ j).ix = (rowOf X j).ix := fun j hj => by
    rw [e j hj]; split
    · rename_i h; rw [h, h1]
    · rfl
  have eg : ∀ j, j < X.rows.length → (rowOf ⟨X.rows.set k r, X.gens⟩ j).gen = (rowOf X j).gen := fun j hj => by
    rw [e j hj]; split
    · rename_i h; rw [h, h2]
    · rfl
  have hl : (X.rows.set k r).length = X.rows.length := List.length_set
  refine ⟨h.gl, h.gv, fun j hj => ?_, fun j hj => ?_, fun j hj => ?_, fun j hj => ?_, fun j hj => ?_⟩ <;> simp only [hl] at hj
  · rw [e j hj]; split
    · exact h3
    · exact h.rv j hj
  · rw [ei j hj]; exact h.i0 j hj
  · rw [ei j hj]; exact h.il j hj
  · rw [ei j (by omega), ei (j + 1) hj]; exact h.up j hj
  · rw [ei j hj, eg j hj]; exact h.ge j hj
theorem rowOf_erase (X : Wd) (k : Nat) (G : List Int) (j : Nat) : rowOf ⟨X.rows.eraseIdx k, G⟩ j = if j < k then rowOf X j else rowOf X (j + 1) := by
  unfold rowOf
  simp only [List.getD_eq_getElem?_getD, List.getElem?_eraseIdx]
  split <;> rfl
theorem right_erase {X : Wd} (h : RightW X) {k : Nat} (hk : k < X.rows.length) : RightW ⟨X.rows.eraseIdx k, X.gens⟩ := by
  have e := rowOf_erase X k X.gens
  have hl : (X.rows.eraseIdx k).length + 1 = X.rows.length := by rw [List.length_eraseIdx, if_pos hk]; omega
  have key : ∀ j, j < (X.rows.eraseIdx k).length → ∃ t, t < X.rows.length ∧ rowOf ⟨X.rows.eraseIdx k, X.gens⟩ j = rowOf X t := fun j hj => by
    rw [e j]
    split
    · exact ⟨j, by omega, rfl⟩
    · exact ⟨j + 1, by omega, rfl⟩
  refine ⟨h.gl, h.gv, fun j hj => ?_, fun j hj => ?_, fun j hj => ?_, fun j hj => ?_, fun j hj => ?_⟩
  · obtain ⟨t, ht, et⟩ := key j hj; rw [et]; exact h.rv t ht
  · obtain ⟨t, ht, et⟩ := key j hj; rw [et]; exact h.i0 t ht
  · obtain ⟨t, ht, et⟩ := key j hj; rw [et]; exact h.il t ht
  · rw [e j, e (j + 1)]
    have hj' : j + 1 < (X.rows.eraseIdx k).length := hj
    split <;> split
    · exact h.up j (by omega)
    · exact h.lt' (by omega) (by omega)
    · omega
    · exact h.up (j + 1) (by omega)
  · obtain ⟨t, ht, et⟩ := key j hj; rw [et]; exact h.ge t ht
theorem rowOf_ins (X : Wd) (k : Nat) (hk : k ≤ X.rows.length) (r : RowI) (G : List Int) (j : Nat) : rowOf ⟨insR X.rows k r, G⟩ j = if j < k then rowOf X j else if j = k then r else rowOf X (j - 1) := by
  unfold rowOf insR
  simp only [List.getD_eq_getElem?_getD]
  have hl : (X.rows.take k).length = k := by rw [List.length_take]; omega
  split
  · rename_i h
    rw [List.getElem?_append_left (by omega), List.getElem?_take, if_pos h]
  · rename_i h
    rw [List.getElem?_append_right (by omega), hl]
    split
    · rename_i h2; subst h2; simp
    · rename_i h2
      obtain ⟨t, ht⟩ : ∃ t, j - k = t + 1 := ⟨j - k - 1, by omega⟩
      rw [ht, List.getElem?_cons_succ, List.getElem?_drop, show k + t = j - 1 by omega]
theorem gtIx_first (R : Nat → RowI) (i : Int) : ∀ n j, ∀ t, j ≤ t → t < j + n → (gtIx R i n j = -1 ∨ (t : Int) < gtIx R i n j) → (R t).ix ≤ i
  | 0, j, t, h1, h2, _ => by omega
  | n + 1, j, t, h1, h2, h3 => by
    unfold gtIx at h3
    split at h3
    · rename_i hc
      rcases h3 with h3 | h3 <;> omega
    · rename_i hc
      by_cases e : t = j
      · subst e; omega
      · exact gtIx_first R i n (j + 1) t (by omega) (by omega) h3
theorem place_spec {X : Wd} (h : RightW X) (i : Int) : placeN X.rows i ≤ X.rows.length ∧ (∀ t, t < placeN X.rows i → (rowOf X t).ix ≤ i) ∧ ∀ t, placeN X.rows i ≤ t → t < X.rows.length → i < (rowOf X t).ix := by
  refine ⟨place_le _ _, ?_⟩
  unfold placeN
  rcases gtIx_spec (fun j => X.rows.getD j dR) i X.rows.length 0 with e | ⟨k, _, hk, e, hi⟩
  · rw [if_pos (by omega)]
    exact ⟨fun t ht => gtIx_first _ i X.rows.length 0 t (Nat.zero_le _) (by omega) (.inl e), fun t h1 h2 => by omega⟩
  · rw [if_neg (by omega), e, Int.toNat_natCast]
    refine ⟨fun t ht => gtIx_first (fun j => X.rows.getD j dR) i X.rows.length 0 t (Nat.zero_le _) (by omega) (.inr (by rw [e]; omega)), fun t h1 h2 => ?_⟩
    rcases Nat.eq_or_lt_of_le h1 with h3 | h3
    · subst h3; exact hi
    · exact Int.lt_trans hi (h.lt' h3 h2)
theorem getD_gensF (gens : List Int) (k : Nat) (g : Int) (hk : k ≤ gens.length) (j : Nat) : (gensF gens (k : Int) g).getD j 0 = if j = k then g else gens.getD j 0 := by
  unfold gensF
  simp only [List.getD_eq_getElem?_getD]
  by_cases h : k = gens.length
  · rw [if_pos (by omega)]
    by_cases h2 : j < k
    · rw [List.getElem?_append_left (by omega), if_neg (by omega)]
    · rw [List.getElem?_append_right (by omega)]
      split
      · rename_i h3; rw [h3, h]; simp
      · rename_i h3
        obtain ⟨t, ht⟩ : ∃ t, j - gens.length = t + 1 := ⟨j - gens.length - 1, by omega⟩
        rw [ht, List.getElem?_eq_none (l := gens) (by omega)]; simp
  · rw [if_neg (by omega), Int.toNat_natCast, List.getElem?_set]
    split
    · rename_i h2; subst h2; simp [show k < gens.length by omega]
    · rename_i h2; rw [if_neg (Ne.symm h2)]
theorem len_gensF (gens : List Int) (k : Nat) (g : Int) (hk : k ≤ gens.length) : (gensF gens (k : Int) g).length = if k = gens.length then gens.length + 1 else gens.length := by
  unfold gensF
  by_cases h : k = gens.length
  · rw [if_pos (by omega), if_pos h]; simp
  · rw [if_neg (by omega), if_neg h]; simp
theorem right_ins {X : Wd} (h : RightW X) {k : Nat} (hk : k ≤ X.gens.length) (h60 : k < 60) (hu : ∀ j, j < X.rows.length → (rowOf X j).ix ≠ (k : Int)) {r : RowI} (h1 : r.ix = (k : Int)) (h3 : rvB r = true) (hg : 1 ≤ r.gen ∧ r.gen ≤ 1000) :
    RightW ⟨insR X.rows (placeN X.rows (k : Int)) r, gensF X.gens (k : Int) r.gen⟩ := by
  obtain ⟨p1, p2, p3⟩ := place_spec h (k : Int)
  generalize placeN X.rows (k : Int) = p at *
  have e := rowOf_ins X p p1 r (gensF X.gens (k : Int) r.gen)
  have hl : (insR X.rows p r).length = X.rows.length + 1 := insR_len _ _ _ p1
  have hgl := len_gensF X.gens k r.gen hk
  have hgg := getD_gensF X.gens k r.gen hk
  have key : ∀ j, j < X.rows.length + 1 → rowOf ⟨insR X.rows p r, gensF X.gens (k : Int) r.gen⟩ j = r ∨ ∃ t, t < X.rows.length ∧ rowOf ⟨insR X.rows p r, gensF X.gens (k : Int) r.gen⟩ j = rowOf X t := fun j hj => by
    rw [e j]
    split
    · exact .inr ⟨j, by omega, rfl⟩
    · split
      · exact .inl rfl
      · exact .inr ⟨j - 1, by omega, rfl⟩
  have hle : X.gens.length ≤ (gensF X.gens (k : Int) r.gen).length ∧ k < (gensF X.gens (k : Int) r.gen).length ∧ (gensF X.gens (k : Int) r.gen).length ≤ 60 := by
    have := h.gl
    rw [hgl]; split <;> omega
  have hnn : ∀ t, t < X.rows.length → (rowOf X t).ix.toNat ≠ k := fun t ht e => hu t ht (by have := h.i0 t ht; omega)
  refine ⟨hle.2.2, fun j hj => ?_, fun j hj => ?_, fun j hj => ?_, fun j hj => ?_, fun j hj => ?_, fun j hj => ?_⟩
  · show 1 ≤ (gensF X.gens (k : Int) r.gen).getD j 0 ∧ (gensF X.gens (k : Int) r.gen).getD j 0 ≤ 1000
    rw [hgg j]
    split
    · exact hg
    · exact h.gv j (by
        have hj' : j < (gensF X.gens (k : Int) r.gen).length := hj
        rw [hgl] at hj'
        split at hj' <;> omega)
  · rcases key j (by rw [← hl]; exact hj) with e1 | ⟨t, ht, e1⟩
    · rw [e1]; exact h3
    · rw [e1]; exact h.rv t ht
  · rcases key j (by rw [← hl]; exact hj) with e1 | ⟨t, ht, e1⟩
    · rw [e1, h1]; omega
    · rw [e1]; exact h.i0 t ht
  · show (rowOf _ j).ix < ((gensF X.gens (k : Int) r.gen).length : Int)
    rcases key j (by rw [← hl]; exact hj) with e1 | ⟨t, ht, e1⟩
    · rw [e1, h1]; omega
    · rw [e1]; have := h.il t ht; omega
  · have hj' : j + 1 < X.rows.length + 1 := by rw [← hl]; exact hj
    rw [e j, e (j + 1)]
    by_cases a : j + 1 < p
    · rw [if_pos (by omega), if_pos a]; exact h.up j (by omega)
    · by_cases b : j + 1 = p
      · rw [if_pos (by omega), if_neg a, if_pos b, h1]
        have := p2 j (by omega)
        have := hu j (by omega)
        omega
      · by_cases c : j = p
        · rw [if_neg (by omega), if_pos c, if_neg a, if_neg b, h1]
          exact p3 _ (by omega) (by omega)
        · rw [if_neg (by omega), if_neg c, if_neg a, if_neg b]
          exact h.lt' (by omega) (by omega)
  · show (rowOf _ j).gen = (gensF X.gens (k : Int) r.gen).getD (rowOf _ j).ix.toNat 0
    rcases key j (by rw [← hl]; exact hj) with e1 | ⟨t, ht, e1⟩
    · rw [e1, h1, Int.toNat_natCast, hgg k, if_pos rfl]
    · rw [e1, hgg, if_neg (hnn t ht)]; exact h.ge t ht
theorem used_iff (rows : List RowI) (i : Nat) : usedB rows rows.length i = false ↔ ∀ j, j < rows.length → (rows.getD j dR).ix ≠ (i : Int) := by
  unfold usedB
  rw [List.take_length, List.any_eq_false]
  constructor
  · intro h j hj
    have := h (rows.getD j dR) (by rw [List.getD_eq_getElem?_getD, List.getElem?_eq_getElem hj]; simp)
    simpa using this
  · intro h x hx
    obtain ⟨j, hj, rfl⟩ := List.getElem_of_mem hx
    have := h j hj
    rw [List.getD_eq_getElem?_getD, List.getElem?_eq_getElem hj] at this
    simpa using this
theorem nxTo_spec (X : Wd) : ∀ m j, m + j = X.gens.length → (nxTo X m j).2 = 0 → ∃ k : Nat, (nxTo X m j).1.1 = (k : Int) ∧ ((k < X.gens.length ∧ (∀ t, t < X.rows.length → (rowOf X t).ix ≠ (k : Int)) ∧ X.gens.getD k 0 < 1000 ∧ (nxTo X m j).1.2 = X.gens.getD k 0 + 1) ∨ (k = X.gens.length ∧ X.gens.length < 60 ∧ (nxTo X m j).1.2 = 1))
  | 0, j, h, h0 => by
    unfold nxTo at h0 ⊢
    split at h0
    · simp at h0
    · rename_i hc
      rw [if_neg hc]
      exact ⟨X.gens.length, rfl, .inr ⟨rfl, by omega, rfl⟩⟩
  | m + 1, j, h, h0 => by
    unfold nxTo at h0 ⊢
    split at h0
    · rename_i hc
      rw [if_pos hc]
      exact ⟨j, rfl, .inl ⟨by omega, (used_iff _ _).1 hc.1, hc.2, rfl⟩⟩
    · rename_i hc
      rw [if_neg hc]
      exact nxTo_spec X m (j + 1) (by omega) h0
theorem or_fin : ∀ m : Fin 256, ∀ p : Fin 8, ∀ k : Fin 8, 0 ≤ bits .or .i64 (m.val : Int) (bitI (p.val : Int)) ∧ bits .or .i64 (m.val : Int) (bitI (p.val : Int)) ≤ 255 ∧ (bits .and .i64 (bits .or .i64 (m.val : Int) (bitI (p.val : Int))) (bitI (k.val : Int)) != 0) = (decide (k = p) || bits .and .i64 (m.val : Int) (bitI (k.val : Int)) != 0) := by decide +kernel
theorem an_fin : ∀ m : Fin 256, ∀ p : Fin 8, ∀ k : Fin 8, 0 ≤ bits .andNot .i64 (m.val : Int) (bitI (p.val : Int)) ∧ bits .andNot .i64 (m.val : Int) (bitI (p.val : Int)) ≤ 255 ∧ (bits .and .i64 (bits .andNot .i64 (m.val : Int) (bitI (p.val : Int))) (bitI (k.val : Int)) != 0) = (!decide (k = p) && bits .and .i64 (m.val : Int) (bitI (k.val : Int)) != 0) := by decide +kernel
theorem oo_fin : ∀ m : Fin 256, ∀ p : Fin 8, bits .or .i64 (bits .or .i64 (m.val : Int) (bitI (p.val : Int))) (bitI (p.val : Int)) = bits .or .i64 (m.val : Int) (bitI (p.val : Int)) ∧ ((bits .and .i64 (m.val : Int) (bitI (p.val : Int)) != 0) = false → bits .andNot .i64 (bits .or .i64 (m.val : Int) (bitI (p.val : Int))) (bitI (p.val : Int)) = (m.val : Int)) := by decide +kernel
theorem set_bd {h : Int} (hs : setB h = true) : 0 ≤ h ∧ h ≤ 255 := by unfold setB at hs; simpa using hs
theorem rv_parts {x : RowI} (h : rvB x = true) : (0 ≤ x.has ∧ x.has ≤ 255) ∧ ∀ k, k < 8 → valB (x.v k) = true ∧ (x.v k = 0 ∨ hasI x.has (k : Int) = true) := by
  unfold rvB at h
  rw [Bool.and_eq_true] at h
  refine ⟨set_bd h.1, fun k hk => ?_⟩
  have := List.all_eq_true.1 h.2 k (List.mem_range.2 hk)
  unfold okV at this
  rw [Bool.and_eq_true, Bool.or_eq_true] at this
  exact ⟨this.1, this.2.imp (by simp) id⟩
theorem rv_of {x : RowI} (h1 : 0 ≤ x.has ∧ x.has ≤ 255) (h2 : ∀ k, k < 8 → valB (x.v k) = true ∧ (x.v k = 0 ∨ hasI x.has (k : Int) = true)) : rvB x = true := by
  unfold rvB okVs
  rw [Bool.and_eq_true]
  refine ⟨by unfold setB; simpa using h1, List.all_eq_true.2 fun k hk => ?_⟩
  have := h2 k (List.mem_range.1 hk)
  unfold okV
  rw [Bool.and_eq_true, Bool.or_eq_true]
  exact ⟨this.1, this.2.imp (by simp) id⟩
theorem val0 : valB 0 = true := by decide
theorem part_nat {p : Int} (h : partB p = true) : ∃ k : Nat, k < 8 ∧ p = (k : Int) := by
  unfold partB at h
  have := of_decide_eq_true h
  exact ⟨p.toNat, by omega, by omega⟩
theorem or_facts (h : Int) (h0 : 0 ≤ h ∧ h ≤ 255) (p : Nat) (hp : p < 8) : (0 ≤ bits .or .i64 h (bitI (p : Int)) ∧ bits .or .i64 h (bitI (p : Int)) ≤ 255) ∧ ∀ k : Nat, k < 8 → hasI (bits .or .i64 h (bitI (p : Int))) (k : Int) = (decide (k = p) || hasI h (k : Int)) := by
  obtain ⟨m, rfl⟩ := fin_of h h0.1 h0.2
  have f := fun k : Fin 8 => or_fin m ⟨p, hp⟩ k
  refine ⟨⟨(f ⟨0, by decide⟩).1, (f ⟨0, by decide⟩).2.1⟩, fun k hk => ?_⟩
  have := (f ⟨k, hk⟩).2.2
  simpa [hasI, Fin.ext_iff] using this
theorem an_facts (h : Int) (h0 : 0 ≤ h ∧ h ≤ 255) (p : Nat) (hp : p < 8) : (0 ≤ bits .andNot .i64 h (bitI (p : Int)) ∧ bits .andNot .i64 h (bitI (p : Int)) ≤ 255) ∧ ∀ k : Nat, k < 8 → hasI (bits .andNot .i64 h (bitI (p : Int))) (k : Int) = (!decide (k = p) && hasI h (k : Int)) := by
  obtain ⟨m, rfl⟩ := fin_of h h0.1 h0.2
  have f := fun k : Fin 8 => an_fin m ⟨p, hp⟩ k
  refine ⟨⟨(f ⟨0, by decide⟩).1, (f ⟨0, by decide⟩).2.1⟩, fun k hk => ?_⟩
  have := (f ⟨k, hk⟩).2.2
  simpa [hasI, Fin.ext_iff] using this
theorem rv_put {x : RowI} (h : rvB x = true) {p n : Int} (hp : partB p = true) (hn : valB n = true) : rvB (putR x p n) = true := by
  obtain ⟨q, hq, rfl⟩ := part_nat hp
  obtain ⟨h1, h2⟩ := rv_parts h
  obtain ⟨f1, f2⟩ := or_facts x.has h1 q hq
  refine rv_of f1 fun k hk => ?_
  show valB (if k = ((q : Nat) : Int).toNat then n else x.v k) = true ∧ ((if k = ((q : Nat) : Int).toNat then n else x.v k) = 0 ∨ hasI (bits .or .i64 x.has (bitI (q : Int))) (k : Int) = true)
  rw [f2 k hk, Int.toNat_natCast]
  by_cases e : k = q
  · simp [e, hn]
  · simpa [e] using h2 k hk
theorem rv_drop {x : RowI} (h : rvB x = true) {p : Int} (hp : hasI x.has p = true) : rvB (dropR x p) = true := by
  obtain ⟨q, hq, rfl⟩ := has_part _ _ hp
  obtain ⟨h1, h2⟩ := rv_parts h
  obtain ⟨f1, f2⟩ := an_facts x.has h1 q hq
  refine rv_of f1 fun k hk => ?_
  show valB (if k = ((q : Nat) : Int).toNat then 0 else x.v k) = true ∧ ((if k = ((q : Nat) : Int).toNat then 0 else x.v k) = 0 ∨ hasI (bits .andNot .i64 x.has (bitI (q : Int))) (k : Int) = true)
  rw [f2 k hk, Int.toNat_natCast]
  by_cases e : k = q
  · simp [e, val0]
  · simpa [e] using h2 k hk
theorem rv_new (i g : Int) {has n : Int} (hs : setB has = true) (hn : valB n = true) : rvB (newR i g has n) = true := by
  have hb := set_bd hs
  refine rv_of hb fun k hk => ?_
  show valB (if k < 8 ∧ tb has k = true then n else 0) = true ∧ ((if k < 8 ∧ tb has k = true then n else 0) = 0 ∨ hasI has (k : Int) = true)
  have e : hasI has (k : Int) = tb has k := has_tb has k hb.1 hb.2 hk
  rw [e]
  cases h : tb has k <;> simp [hk, hn, val0]
end Go.Proofs.Ytnbleebilmghcab
namespace Go.Proofs.Ytnbleebilmghcab
open Go Go.RowKit
theorem chF_zero {X : Wd} {i g : Int} {C : RowI → RowI × Bool × Int} (h : (chF X i g C).1 = 0) :
    RightW X ∧ ∃ k : Nat, k < X.rows.length ∧ findW X i g = (k : Int) ∧ (rowOf X k).ix = i ∧ (rowOf X k).gen = g ∧ (C (rowOf X k)).2.2 = 0 ∧ (chF X i g C).2 = ⟨X.rows.set k (C (rowOf X k)).1, X.gens⟩ := by
  unfold chF at h ⊢
  by_cases c1 : (wrongW X).1 ≠ 0
  · rw [if_pos c1] at h; exact absurd h c1
  · rw [if_neg c1] at h ⊢
    have c1' : (wrongW X).1 = 0 := Decidable.not_not.1 c1
    refine ⟨(right_iff X).1 c1', ?_⟩
    rcases find_cases X i g with hf | ⟨k, hk, hf, h1, h2⟩
    · rw [if_pos (by omega)] at h; cases h
    · rw [if_neg (by omega), hf, Int.toNat_natCast] at h ⊢
      have er : X.rows.getD k dR = rowOf X k := rfl
      rw [er] at h ⊢
      by_cases c2 : (C (rowOf X k)).2.2 ≠ 0
      · rw [if_pos c2] at h; exact absurd h c2
      · rw [if_neg c2]
        exact ⟨k, hk, rfl, h1, h2, Decidable.not_not.1 c2, rfl⟩
theorem chF_at {X : Wd} (hr : RightW X) {i g : Int} {k : Nat} (hf : findW X i g = (k : Int)) (C : RowI → RowI × Bool × Int) :
    chF X i g C = if (C (rowOf X k)).2.2 ≠ 0 then ((C (rowOf X k)).2.2, emptyW) else (0, ⟨X.rows.set k (C (rowOf X k)).1, X.gens⟩) := by
  unfold chF
  rw [if_neg (by have := (right_iff X).2 hr; omega), if_neg (by omega), hf, Int.toNat_natCast]
  rfl
theorem killF_zero {X : Wd} {i g : Int} (h : (killF X i g).1 = 0) :
    RightW X ∧ ∃ k : Nat, k < X.rows.length ∧ findW X i g = (k : Int) ∧ (rowOf X k).ix = i ∧ (rowOf X k).gen = g ∧ (killF X i g).2 = ⟨X.rows.eraseIdx k, X.gens⟩ := by
  unfold killF at h ⊢
  by_cases c1 : (wrongW X).1 ≠ 0
  · rw [if_pos c1] at h; exact absurd h c1
  · rw [if_neg c1] at h ⊢
    have c1' : (wrongW X).1 = 0 := Decidable.not_not.1 c1
    refine ⟨(right_iff X).1 c1', ?_⟩
    rcases find_cases X i g with hf | ⟨k, hk, hf, h1, h2⟩
    · rw [if_pos (by omega)] at h; cases h
    · rw [if_neg (by omega), hf, Int.toNat_natCast]
      exact ⟨k, hk, rfl, h1, h2, rfl⟩
theorem killF_at {X : Wd} (hr : RightW X) {i g : Int} {k : Nat} (hf : findW X i g = (k : Int)) : killF X i g = (0, ⟨X.rows.eraseIdx k, X.gens⟩) := by
  unfold killF
  rw [if_neg (by have := (right_iff X).2 hr; omega), if_neg (by omega), hf, Int.toNat_natCast]
theorem spawn_spec {X : Wd} {has n : Int} (h : (spawnF X has n).1 = 0) :
    RightW X ∧ ∃ (k : Nat) (g : Int), (spawnF X has n).2.1 = ((k : Int), g) ∧ (spawnF X has n).2.2 = ⟨insR X.rows (placeN X.rows (k : Int)) (newR (k : Int) g has n), gensF X.gens (k : Int) g⟩ ∧ k ≤ X.gens.length ∧
      (∀ j, j < X.rows.length → (rowOf X j).ix ≠ (k : Int)) ∧ (k < X.gens.length → g = X.gens.getD k 0 + 1) ∧ RightW (spawnF X has n).2.2 := by
  unfold spawnF at h ⊢
  by_cases c1 : (wrongW X).1 ≠ 0
  · rw [if_pos c1] at h; exact absurd h c1
  · rw [if_neg c1] at h ⊢
    have hr := (right_iff X).1 (Decidable.not_not.1 c1)
    refine ⟨hr, ?_⟩
    by_cases c2 : (setB has && valB n) = false
    · rw [if_pos c2] at h; cases h
    · rw [if_neg c2] at h ⊢
      have c2' : setB has = true ∧ valB n = true := by simpa using c2
      by_cases c3 : (nextF X).2 ≠ 0
      · rw [if_pos c3] at h; exact absurd h c3
      · rw [if_neg c3]
        obtain ⟨k, hk, hc⟩ := nxTo_spec X X.gens.length 0 (by omega) (Decidable.not_not.1 c3)
        have hk' : (nextF X).1.1 = (k : Int) := hk
        have hu : ∀ j, j < X.rows.length → (rowOf X j).ix ≠ (k : Int) := fun j hj e => by
          rcases hc with ⟨_, hu, _⟩ | ⟨e2, _⟩
          · exact hu j hj e
          · have := hr.il j hj; omega
        have hg : 1 ≤ (nextF X).1.2 ∧ (nextF X).1.2 ≤ 1000 := by
          show 1 ≤ (nxTo X X.gens.length 0).1.2 ∧ (nxTo X X.gens.length 0).1.2 ≤ 1000
          rcases hc with ⟨h1, _, h2, h3⟩ | ⟨_, _, h3⟩
          · have := hr.gv k h1; omega
          · omega
        have h60 : k < 60 := by
          have := hr.gl
          rcases hc with ⟨h1, _⟩ | ⟨h1, h2, _⟩ <;> omega
        have hkl : k ≤ X.gens.length := by rcases hc with ⟨h1, _⟩ | ⟨h1, _⟩ <;> omega
        rw [hk']
        refine ⟨k, (nextF X).1.2, Prod.ext hk' rfl, rfl, hkl, hu, fun hlt => ?_, ?_⟩
        · rcases hc with ⟨_, _, _, h3⟩ | ⟨h1, _⟩
          · exact h3
          · omega
        · exact right_ins hr hkl h60 hu (r := newR (k : Int) (nextF X).1.2 has n) rfl (rv_new _ _ c2'.1 c2'.2) hg
theorem ins_old (X : Wd) (p : Nat) (hp : p ≤ X.rows.length) (r : RowI) (G : List Int) (j : Nat) (hj : j < X.rows.length) : ∃ j', j' < (insR X.rows p r).length ∧ rowOf ⟨insR X.rows p r, G⟩ j' = rowOf X j := by
  have hl : (insR X.rows p r).length = X.rows.length + 1 := insR_len _ _ _ hp
  by_cases h : j < p
  · exact ⟨j, by omega, by rw [rowOf_ins X p hp, if_pos h]⟩
  · exact ⟨j + 1, by omega, by rw [rowOf_ins X p hp, if_neg (by omega), if_neg (by omega)]; rfl⟩
theorem ins_new (X : Wd) (p : Nat) (hp : p ≤ X.rows.length) (r : RowI) (G : List Int) : p < (insR X.rows p r).length ∧ rowOf ⟨insR X.rows p r, G⟩ p = r := by
  have hl : (insR X.rows p r).length = X.rows.length + 1 := insR_len _ _ _ hp
  exact ⟨by omega, by rw [rowOf_ins X p hp, if_neg (by omega), if_pos rfl]⟩
theorem ins_from (X : Wd) (p : Nat) (hp : p ≤ X.rows.length) (r : RowI) (G : List Int) (j : Nat) (hj : j < (insR X.rows p r).length) : rowOf ⟨insR X.rows p r, G⟩ j = r ∨ ∃ t, t < X.rows.length ∧ rowOf ⟨insR X.rows p r, G⟩ j = rowOf X t := by
  have hl : (insR X.rows p r).length = X.rows.length + 1 := insR_len _ _ _ hp
  rw [rowOf_ins X p hp]
  by_cases h : j < p
  · exact .inr ⟨j, by omega, by rw [if_pos h]⟩
  · by_cases h2 : j = p
    · exact .inl (by rw [if_neg h, if_pos h2])
    · exact .inr ⟨j - 1, by omega, by rw [if_neg h, if_neg h2]⟩
theorem erase_from (X : Wd) (k : Nat) (hk : k < X.rows.length) (G : List Int) (j : Nat) (hj : j < (X.rows.eraseIdx k).length) : ∃ t, t < X.rows.length ∧ t ≠ k ∧ rowOf ⟨X.rows.eraseIdx k, G⟩ j = rowOf X t := by
  have hl : (X.rows.eraseIdx k).length + 1 = X.rows.length := by rw [List.length_eraseIdx, if_pos hk]; omega
  rw [rowOf_erase]
  by_cases h : j < k
  · exact ⟨j, by omega, by omega, by rw [if_pos h]⟩
  · exact ⟨j + 1, by omega, by omega, by rw [if_neg h]⟩
theorem erase_old (X : Wd) (k : Nat) (hk : k < X.rows.length) (G : List Int) (j : Nat) (hj : j < X.rows.length) (hne : j ≠ k) : ∃ j', j' < (X.rows.eraseIdx k).length ∧ rowOf ⟨X.rows.eraseIdx k, G⟩ j' = rowOf X j := by
  have hl : (X.rows.eraseIdx k).length + 1 = X.rows.length := by rw [List.length_eraseIdx, if_pos hk]; omega
  by_cases h : j < k
  · exact ⟨j, by omega, by rw [rowOf_erase, if_pos h]⟩
  · exact ⟨j - 1, by omega, by rw [rowOf_erase, if_neg (by omega), show j - 1 + 1 = j by omega]⟩
def Keeps (X Y : Wd) (i g : Int) : Prop := ∀ k : Nat, k < X.rows.length → findW X i g = (k : Int) → ∃ j : Nat, j < Y.rows.length ∧ findW Y i g = (j : Int) ∧ rowOf Y j = rowOf X k
theorem keeps_of {X Y : Wd} {i g : Int} (hX : RightW X) (hY : RightW Y) (h : ∀ k, k < X.rows.length → (rowOf X k).ix = i → (rowOf X k).gen = g → ∃ j, j < Y.rows.length ∧ rowOf Y j = rowOf X k) : Keeps X Y i g := fun k hk hf => by
  rcases find_cases X i g with e | ⟨k', hk', e, h1, h2⟩
  · omega
  · have : k' = k := by omega
    subst this
    obtain ⟨j, hj, ej⟩ := h k' hk h1 h2
    refine ⟨j, hj, ?_, ej⟩
    have := find_at hY hj
    rwa [ej, h1, h2] at this
theorem spawn_keeps {X : Wd} {has n : Int} (h : (spawnF X has n).1 = 0) (i g : Int) : RightW (spawnF X has n).2.2 ∧ Keeps X (spawnF X has n).2.2 i g := by
  obtain ⟨hr, k, g', _, e, hk, hu, _, hr'⟩ := spawn_spec h
  refine ⟨hr', keeps_of hr hr' fun j hj _ _ => ?_⟩
  rw [e]
  exact ins_old X _ (place_le _ _) _ _ j hj
theorem kill_keeps {X : Wd} {i g : Int} (h : (killF X i g).1 = 0) : RightW (killF X i g).2 ∧ ∀ i' g', (i', g') ≠ (i, g) → Keeps X (killF X i g).2 i' g' := by
  obtain ⟨hr, k, hk, hf, h1, h2, e⟩ := killF_zero h
  have hr' : RightW (killF X i g).2 := by rw [e]; exact right_erase hr hk
  refine ⟨hr', fun i' g' hne => keeps_of hr hr' fun j hj e1 e2 => ?_⟩
  rw [e]
  refine erase_old X k hk _ j hj fun ejk => hne ?_
  subst ejk
  rw [← e1, ← e2, h1, h2]
theorem set_keeps {X : Wd} (hr : RightW X) {i g : Int} {k : Nat} (hk : k < X.rows.length) (h1 : (rowOf X k).ix = i) (h2 : (rowOf X k).gen = g) {r : RowI} (hr' : RightW ⟨X.rows.set k r, X.gens⟩) : ∀ i' g', (i', g') ≠ (i, g) → Keeps X ⟨X.rows.set k r, X.gens⟩ i' g' := fun i' g' hne => by
  refine keeps_of hr hr' fun j hj e1 e2 => ⟨j, by simpa using hj, ?_⟩
  rw [rowOf_set X k r X.gens j hj, if_neg fun ejk => hne ?_]
  subst ejk
  rw [← e1, ← e2, h1, h2]
theorem putC_zero {x : RowI} {p n : Int} (h : (putC x p n).2.2 = 0) : partB p = true ∧ valB n = true ∧ (putC x p n).1 = putR x p n := by
  unfold putC at h ⊢
  cases c : (partB p && valB n)
  · rw [c] at h; simp at h
  · simpa using c
theorem dropC_zero {x : RowI} {p : Int} (h : (dropC x p).2.2 = 0) : hasI x.has p = true ∧ (dropC x p).1 = dropR x p := by
  unfold dropC at h ⊢
  cases c : hasI x.has p
  · rw [c] at h; simp at h
  · simp
theorem put_spec {X : Wd} {i g p n : Int} (h : (putF X i g p n).1 = 0) :
    RightW X ∧ partB p = true ∧ valB n = true ∧ ∃ k : Nat, k < X.rows.length ∧ findW X i g = (k : Int) ∧ (rowOf X k).ix = i ∧ (rowOf X k).gen = g ∧ (putF X i g p n).2 = ⟨X.rows.set k (putR (rowOf X k) p n), X.gens⟩ ∧ RightW (putF X i g p n).2 := by
  obtain ⟨hr, k, hk, hf, h1, h2, hC, e⟩ := chF_zero h
  obtain ⟨hp, hn, eC⟩ := putC_zero hC
  have e' : (putF X i g p n).2 = ⟨X.rows.set k (putR (rowOf X k) p n), X.gens⟩ := by rw [← eC]; exact e
  refine ⟨hr, hp, hn, k, hk, hf, h1, h2, e', ?_⟩
  rw [e']
  exact right_set hr hk rfl rfl (rv_put (hr.rv k hk) hp hn)
theorem drop_spec {X : Wd} {i g p : Int} (h : (dropF X i g p).1 = 0) :
    RightW X ∧ ∃ k : Nat, k < X.rows.length ∧ findW X i g = (k : Int) ∧ (rowOf X k).ix = i ∧ (rowOf X k).gen = g ∧ hasI (rowOf X k).has p = true ∧ (dropF X i g p).2 = ⟨X.rows.set k (dropR (rowOf X k) p), X.gens⟩ ∧ RightW (dropF X i g p).2 := by
  obtain ⟨hr, k, hk, hf, h1, h2, hC, e⟩ := chF_zero h
  obtain ⟨hp, eC⟩ := dropC_zero hC
  have e' : (dropF X i g p).2 = ⟨X.rows.set k (dropR (rowOf X k) p), X.gens⟩ := by rw [← eC]; exact e
  refine ⟨hr, k, hk, hf, h1, h2, hp, e', ?_⟩
  rw [e']
  exact right_set hr hk rfl rfl (rv_drop (hr.rv k hk) hp)
theorem put_keeps {X : Wd} {i g p n : Int} (h : (putF X i g p n).1 = 0) : RightW (putF X i g p n).2 ∧ ∀ i' g', (i', g') ≠ (i, g) → Keeps X (putF X i g p n).2 i' g' := by
  obtain ⟨hr, _, _, k, hk, hf, h1, h2, e, hr'⟩ := put_spec h
  refine ⟨hr', ?_⟩
  rw [e] at hr' ⊢
  exact set_keeps hr hk h1 h2 hr'
theorem drop_keeps {X : Wd} {i g p : Int} (h : (dropF X i g p).1 = 0) : RightW (dropF X i g p).2 ∧ ∀ i' g', (i', g') ≠ (i, g) → Keeps X (dropF X i g p).2 i' g' := by
  obtain ⟨hr, k, hk, hf, h1, h2, _, e, hr'⟩ := drop_spec h
  refine ⟨hr', ?_⟩
  rw [e] at hr' ⊢
  exact set_keeps hr hk h1 h2 hr'
theorem spawn_no {X : Wd} {has n : Int} (h : (spawnF X has n).1 ≠ 0) : (spawnF X has n).2.2 = emptyW := by
  unfold spawnF at h ⊢
  split at h
  · rw [if_pos ‹_›]
  · rename_i c1
    rw [if_neg c1]
    split at h
    · rw [if_pos ‹_›]
    · rename_i c2
      rw [if_neg c2]
      split at h
      · rw [if_pos ‹_›]
      · exact absurd rfl h
theorem kill_no {X : Wd} {i g : Int} (h : (killF X i g).1 ≠ 0) : (killF X i g).2 = emptyW := by
  unfold killF at h ⊢
  split at h
  · rw [if_pos ‹_›]
  · rename_i c1
    rw [if_neg c1]
    split at h
    · rw [if_pos ‹_›]
    · exact absurd rfl h
theorem ch_no {X : Wd} {i g : Int} {C : RowI → RowI × Bool × Int} (h : (chF X i g C).1 ≠ 0) : (chF X i g C).2 = emptyW := by
  unfold chF at h ⊢
  split at h
  · rw [if_pos ‹_›]
  · rename_i c1
    rw [if_neg c1]
    split at h
    · rw [if_pos ‹_›]
    · rename_i c2
      rw [if_neg c2]
      split at h
      · rw [if_pos ‹_›]
      · exact absurd rfl h
theorem new_facts {X : Wd} {has n : Int} (h : (spawnF X has n).1 = 0) : ∃ i g : Int, (spawnF X has n).2.1 = (i, g) ∧ RightW X ∧ RightW (spawnF X has n).2.2 ∧ findW X i g = -1 ∧ (∃ j : Nat, j < (spawnF X has n).2.2.rows.length ∧ findW (spawnF X has n).2.2 i g = (j : Int)) ∧
    (spawnF X has n).2.2.rows.length = X.rows.length + 1 ∧ (killF (spawnF X has n).2.2 i g).1 = 0 ∧ RightW (killF (spawnF X has n).2.2 i g).2 ∧
    ((spawnF (killF (spawnF X has n).2.2 i g).2 has n).1 = 0 → (spawnF (killF (spawnF X has n).2.2 i g).2 has n).2.1 ≠ (i, g) ∧ findW (spawnF (killF (spawnF X has n).2.2 i g).2 has n).2.2 i g = -1 ∧ RightW (spawnF (killF (spawnF X has n).2.2 i g).2 has n).2.2) := by
  obtain ⟨hr, k, g, eb, eX, hk, hu, hg, hr'⟩ := spawn_spec h
  generalize (spawnF X has n).2.2 = X' at eX hr' ⊢
  obtain ⟨hp, hpr⟩ := ins_new X (placeN X.rows (k : Int)) (place_le _ _) (newR (k : Int) g has n) (gensF X.gens (k : Int) g)
  rw [← eX] at hpr
  have hp' : placeN X.rows (k : Int) < X'.rows.length := by rw [eX]; exact hp
  have hfind : findW X' (k : Int) g = ((placeN X.rows (k : Int) : Nat) : Int) := by
    have := find_at hr' hp'
    rwa [hpr] at this
  have hkill := killF_at hr' hfind
  have hkr := right_erase hr' hp'
  refine ⟨(k : Int), g, eb, hr, hr', find_none fun j hj e => hu j hj e.1, ⟨_, hp', hfind⟩, by rw [eX]; exact insR_len _ _ _ (place_le _ _), by rw [hkill], by rw [hkill]; exact hkr, ?_⟩
  rw [hkill]
  have hgl : (k : Nat) < X'.gens.length ∧ X'.gens.getD k 0 = g := by
    rw [eX]
    refine ⟨?_, by rw [getD_gensF _ _ _ hk, if_pos rfl]⟩
    show k < (gensF X.gens (k : Int) g).length
    rw [len_gensF _ _ _ hk]
    split <;> omega
  have hnoY : ∀ t, t < (X'.rows.eraseIdx (placeN X.rows (k : Int))).length → ¬ ((rowOf ⟨X'.rows.eraseIdx (placeN X.rows (k : Int)), X'.gens⟩ t).ix = (k : Int)) := fun t ht e => by
    obtain ⟨s, hs, hne, es⟩ := erase_from X' _ hp' X'.gens t ht
    rw [es] at e
    exact hne (hr'.one hs hp' (by rw [e, hpr]; rfl))
  intro hz
  obtain ⟨_, k2, g2, eb2, eZ, hk2, hu2, hg2, hrZ⟩ := spawn_spec hz
  have hne : ((k2 : Int), g2) ≠ ((k : Int), g) := fun e => by
    have e1 : (k2 : Int) = (k : Int) := congrArg Prod.fst e
    have e2 : g2 = g := congrArg Prod.snd e
    have e3 : k2 = k := by omega
    subst e3
    have := hg2 hgl.1
    have h4 : (Wd.gens ⟨X'.rows.eraseIdx (placeN X.rows (k2 : Int)), X'.gens⟩).getD k2 0 = g := hgl.2
    rw [h4] at this
    omega
  refine ⟨by rw [eb2]; exact hne, find_none fun j hj e => ?_, hrZ⟩
  rw [eZ] at hj e
  rcases ins_from _ _ (place_le _ _) _ _ j hj with e1 | ⟨t, ht, e1⟩
  · rw [e1] at e
    exact hne (Prod.ext e.1 e.2)
  · rw [e1] at e
    exact hnoY t ht e.1
theorem put_put (x : RowI) (h : rvB x = true) {p : Int} (hp : partB p = true) (n m : Int) : putR (putR x p n) p m = putR x p m := by
  obtain ⟨q, hq, rfl⟩ := part_nat hp
  obtain ⟨h1, _⟩ := rv_parts h
  obtain ⟨f, ef⟩ := fin_of x.has h1.1 h1.2
  have := (oo_fin f ⟨q, hq⟩).1
  unfold putR
  simp only [RowI.mk.injEq, true_and]
  refine ⟨by rw [ef]; exact this, ?_⟩
  funext k
  split <;> rfl
theorem drop_put (x : RowI) (h : rvB x = true) {p : Int} (hp : partB p = true) (hno : hasI x.has p = false) (n : Int) : dropR (putR x p n) p = x := by
  obtain ⟨q, hq, rfl⟩ := part_nat hp
  obtain ⟨h1, h2⟩ := rv_parts h
  obtain ⟨f, ef⟩ := fin_of x.has h1.1 h1.2
  have e1 := (oo_fin f ⟨q, hq⟩).2 (by unfold hasI at hno; rw [ef] at hno; exact hno)
  have e2 : x.v q = 0 := by
    rcases (h2 q hq).2 with e | e
    · exact e
    · rw [hno] at e; cases e
  obtain ⟨ix, gen, has, v⟩ := x
  simp only at ef e1 e2 hno
  unfold dropR putR
  simp only [RowI.mk.injEq, true_and]
  refine ⟨by rw [ef]; exact e1, ?_⟩
  funext k
  rw [Int.toNat_natCast]
  split
  · rename_i h; rw [h, e2]
  · rfl
theorem set_self (X : Wd) (k : Nat) : X.rows.set k (rowOf X k) = X.rows := by
  unfold rowOf
  refine List.ext_getElem? fun j => ?_
  rw [List.getElem?_set]
  split
  · rename_i h; subst h
    split
    · rename_i h2; rw [List.getD_eq_getElem?_getD, List.getElem?_eq_getElem h2]; simp
    · rename_i h2; rw [List.getElem?_eq_none (by omega)]
  · rfl
theorem get_at {X : Wd} {i g : Int} {k : Nat} (hf : findW X i g = (k : Int)) (p : Int) : getI (fun j => X.rows.getD j dR) X.rows.length i g p = if hasI (rowOf X k).has p = true then ((rowOf X k).v p.toNat, true) else (0, false) := by
  have e : fIx (fun j => X.rows.getD j dR) i g X.rows.length 0 = (k : Int) := hf
  unfold getI
  rw [e, if_neg (by omega), Int.toNat_natCast]
  rfl
theorem put_facts {X : Wd} {i g p n : Int} (m : Int) (h : (putF X i g p n).1 = 0) : RightW X ∧ RightW (putF X i g p n).2 ∧ getI (fun j => (putF X i g p n).2.rows.getD j dR) (putF X i g p n).2.rows.length i g p = (n, true) ∧
    putF (putF X i g p n).2 i g p m = putF X i g p m ∧ (dropF (putF X i g p n).2 i g p).1 = 0 ∧ RightW (dropF (putF X i g p n).2 i g p).2 ∧
    (getI (fun j => (dropF (putF X i g p n).2 i g p).2.rows.getD j dR) (dropF (putF X i g p n).2 i g p).2.rows.length i g p).2 = false ∧
    ((getI (fun j => X.rows.getD j dR) X.rows.length i g p).2 = false → (dropF (putF X i g p n).2 i g p).2 = X) := by
  obtain ⟨hr, hp, hn, k, hk, hf, h1, h2, e, hr'⟩ := put_spec h
  generalize hX' : (putF X i g p n).2 = X' at e hr' ⊢
  have hk' : k < X'.rows.length := by rw [e]; simpa using hk
  have hrow : rowOf X' k = putR (rowOf X k) p n := by rw [e, rowOf_set X k _ _ k hk, if_pos rfl]
  have hf' : findW X' i g = (k : Int) := by
    have := find_at hr' hk'
    rw [hrow] at this
    rw [← this, ← h1, ← h2]; rfl
  obtain ⟨q, hq, hpq⟩ := part_nat hp
  obtain ⟨hb, hvs⟩ := rv_parts (hr.rv k hk)
  have hhas : hasI (rowOf X' k).has p = true := by
    rw [hrow, hpq]
    have := (or_facts (rowOf X k).has hb q hq).2 q hq
    simpa [putR] using this
  have hrv : rvB (rowOf X' k) = true := hr'.rv k hk'
  have hdrop : dropF X' i g p = (0, ⟨X'.rows.set k (dropR (rowOf X' k) p), X'.gens⟩) := by
    unfold dropF
    rw [chF_at hr' hf']
    unfold dropC
    rw [if_pos hhas]
    simp
  have hrD : RightW ⟨X'.rows.set k (dropR (rowOf X' k) p), X'.gens⟩ := right_set hr' hk' rfl rfl (rv_drop hrv hhas)
  refine ⟨hr, hr', ?_, ?_, by rw [hdrop], by rw [hdrop]; exact hrD, ?_, fun hno => ?_⟩
  · rw [get_at hf', if_pos hhas, hrow]
    show ((if p.toNat = p.toNat then n else _), true) = _
    rw [if_pos rfl]
  · unfold putF
    rw [chF_at hr' hf', chF_at hr hf]
    unfold putC
    rw [hp, hrow]
    cases hm : valB m
    · simp
    · simp only [Bool.and_self, if_true, ne_eq, not_true_eq_false, if_false]
      rw [put_put _ (hr.rv k hk) hp, e]
      simp [List.set_set]
  · rw [hdrop]
    have hkD : k < (Wd.rows ⟨X'.rows.set k (dropR (rowOf X' k) p), X'.gens⟩).length := by simpa using hk'
    have hrowD : rowOf ⟨X'.rows.set k (dropR (rowOf X' k) p), X'.gens⟩ k = dropR (rowOf X' k) p := by rw [rowOf_set X' k _ _ k hk', if_pos rfl]
    have hfD : findW ⟨X'.rows.set k (dropR (rowOf X' k) p), X'.gens⟩ i g = (k : Int) := by
      have := find_at hrD hkD
      rw [hrowD] at this
      have e1 : (dropR (rowOf X' k) p).ix = i := by rw [← h1, hrow]; rfl
      have e2 : (dropR (rowOf X' k) p).gen = g := by rw [← h2, hrow]; rfl
      rwa [e1, e2] at this
    rw [get_at hfD, hrowD]
    obtain ⟨hb', _⟩ := rv_parts hrv
    have := (an_facts (rowOf X' k).has hb' q hq).2 q hq
    rw [← hpq] at this
    have e4 : hasI (dropR (rowOf X' k) p).has p = false := by simpa [dropR] using this
    rw [e4]
    rfl
  · rw [hdrop]
    rw [get_at hf] at hno
    have hno' : hasI (rowOf X k).has p = false := by
      cases c : hasI (rowOf X k).has p
      · rfl
      · rw [c] at hno; simp at hno
    rw [hrow, drop_put _ (hr.rv k hk) hp hno', e]
    show (⟨(X.rows.set k _).set k (rowOf X k), X.gens⟩ : Wd) = X
    rw [List.set_set, set_self]
end Go.Proofs.Ytnbleebilmghcab
namespace Go.Proofs.Ytnbleebilmghcab
open Go Go.RowKit
attribute [local go_sem ↓] Go.wp_at_zero Go.wp_at_succ
theorem below_one (w1 : World) (o : Obj) {w2 : World} (h : Below (w1.alloc o).heap.size (w1.alloc o) w2) : Below w1.heap.size w1 w2 := by
  have h1 := (Below.refl w1.heap.size w1).alloc (Nat.le_refl _) o
  exact h1.trans (h.mono h1.size)
theorem below_two (w1 : World) (o p : Obj) {w2 : World} (h : Below ((w1.alloc o).alloc p).heap.size ((w1.alloc o).alloc p) w2) : Below w1.heap.size w1 w2 := below_one w1 o (below_one _ p h)
theorem box_one (w1 : World) (u0 u1 : Value) (s : TypeId) {w2 : World} (h : Below (w1.alloc (.cells #[u0, u1] s)).heap.size (w1.alloc (.cells #[u0, u1] s)) w2) :
    w2.cell? ⟨w1.heap.size, 0, none⟩ = some u0 ∧ w2.cell? ⟨w1.heap.size, 1, none⟩ = some u1 :=
  ⟨keep_below h (by simp [go_sem]), keep_below h (by simp [go_sem])⟩
theorem box_two (w1 : World) (u0 u1 v0 v1 : Value) (s t : TypeId) {w2 : World} (h : Below ((w1.alloc (.cells #[u0, u1] s)).alloc (.cells #[v0, v1] t)).heap.size ((w1.alloc (.cells #[u0, u1] s)).alloc (.cells #[v0, v1] t)) w2) :
    w2.cell? ⟨w1.heap.size, 0, none⟩ = some u0 ∧ w2.cell? ⟨w1.heap.size, 1, none⟩ = some u1 ∧ w2.cell? ⟨w1.heap.size + 1, 0, none⟩ = some v0 ∧ w2.cell? ⟨w1.heap.size + 1, 1, none⟩ = some v1 :=
  ⟨keep_below h (by simp [go_sem]), keep_below h (by simp [go_sem]), keep_below h (by simp [go_sem]), keep_below h (by simp [go_sem])⟩
theorem bel1 (w1 : World) (o : Obj) : Below w1.heap.size w1 (w1.alloc o) := (Below.refl _ _).alloc (Nat.le_refl _) o
theorem bel2 (w1 : World) (o p : Obj) : Below w1.heap.size w1 ((w1.alloc o).alloc p) := below_one w1 o (bel1 _ p)
theorem run_field (x y : Value) (w : World) : Sem.run Try.prog (Instr.field 30 (.agg #[x, y]) 0) w = .ok x w := by
  simp [Instr.field, asAgg, go_sem]
def alX : Wd := (spawnF emptyW 5 7).2.2
def alY : Wd := (killF alX 0 1).2
theorem al1 : (spawnF emptyW 5 7).1 = 0 ∧ (spawnF emptyW 5 7).2.1 = (0, 1) := by decide +kernel
theorem al2 : getI (fun j => alX.rows.getD j dR) alX.rows.length 0 1 2 = (7, true) := by decide +kernel
theorem al3 : (killF alX 0 1).1 = 0 := by decide +kernel
theorem al4 : (spawnF alY 0 0).1 = 0 ∧ (spawnF alY 0 0).2.1 = (0, 2) := by decide +kernel
theorem al5 : wrongW alX = (0, 0) := by decide +kernel
theorem al6 : alX.rows.length = 1 ∧ alX.gens.length = 1 ∧ alY.rows.length = 0 ∧ alY.gens.length = 1 := by decide +kernel
end Go.Proofs.Ytnbleebilmghcab
namespace Go.Proofs.Ytnbleebilmghcab
open Go Go.RowKit
set_option maxHeartbeats 1000000 in
theorem eq59 (a0 a1 a2 a3 a4 a5 a6 a7 : Int) (w : World) : (Op.equalIn 9999 51 (.agg #[.int .i64 a0, .int .i64 a1, .int .i64 a2, .int .i64 a3, .int .i64 a4, .int .i64 a5, .int .i64 a6, .int .i64 a7]) (.agg #[.int .i64 a0, .int .i64 a1, .int .i64 a2, .int .i64 a3, .int .i64 a4, .int .i64 a5, .int .i64 a6, .int .i64 a7])).run Try.prog w = .ok true w := by
  have u3 := Try.underlying3
  have a3 := Try.isAgg3
  have z3 := Try.sizeOf3
  rw [show (9999 : Nat) = 9998 + 1 from rfl, Op.equalIn]
  simp only [Sem.run_bind, run_underlying Try.underlying51, Result.andThen_ok]
  simp only [Std.Legacy.Range.forIn_eq_forIn_range', Std.Legacy.Range.size, Nat.sub_zero, Nat.add_sub_cancel, Nat.div_one, List.range'_succ, List.range'_zero, List.forIn_cons, List.forIn_nil]
  go_simp
set_option maxHeartbeats 1000000 in
theorem eq61 (b0 b1 b2 a0 a1 a2 a3 a4 a5 a6 a7 : Int) (w : World) : (Op.equalIn 10000 53 (.agg #[.int .i64 b0, .int .i64 b1, .int .i64 b2, .int .i64 a0, .int .i64 a1, .int .i64 a2, .int .i64 a3, .int .i64 a4, .int .i64 a5, .int .i64 a6, .int .i64 a7]) (.agg #[.int .i64 b0, .int .i64 b1, .int .i64 b2, .int .i64 a0, .int .i64 a1, .int .i64 a2, .int .i64 a3, .int .i64 a4, .int .i64 a5, .int .i64 a6, .int .i64 a7])).run Try.prog w = .ok true w := by
  have hS : Try.prog.underlying 53 = some (.struct (Try.prog.fieldsOf 53)) := by kernel_rfl
  have e59 := eq59 a0 a1 a2 a3 a4 a5 a6 a7 w
  rw [show (10000 : Nat) = 9999 + 1 from rfl, run_equalIn_agg w 9999 53 _ _ hS (by kernel_rfl)]
  simp only [Program.fieldsOf, Try.underlying53]
  go_simp
theorem neq61 (b0 b1 b2 a0 a1 a2 a3 a4 a5 a6 a7 : Int) (w : World) : (binOp .neq 53 (.agg #[.int .i64 b0, .int .i64 b1, .int .i64 b2, .int .i64 a0, .int .i64 a1, .int .i64 a2, .int .i64 a3, .int .i64 a4, .int .i64 a5, .int .i64 a6, .int .i64 a7]) (.agg #[.int .i64 b0, .int .i64 b1, .int .i64 b2, .int .i64 a0, .int .i64 a1, .int .i64 a2, .int .i64 a3, .int .i64 a4, .int .i64 a5, .int .i64 a6, .int .i64 a7])).run Try.prog w = .ok (.bool false) w := by
  rw [run_neq_struct, eq61]; rfl
end Go.Proofs.Ytnbleebilmghcab
namespace Go.Proofs.Ytnbleebilmghcab
open Go Go.RowKit
attribute [local go_sem ↓] Go.wp_at_zero Go.wp_at_succ neq61
structure RX (w : World) (u0 u1 y0 y1 : Value) (W : World) : Prop where
  bel : Below w.heap.size w W
  r0 : W.cell? ⟨w.heap.size, 0, none⟩ = some u0
  r1 : W.cell? ⟨w.heap.size, 1, none⟩ = some u1
  d0 : W.cell? ⟨w.heap.size + 1, 0, none⟩ = some y0
  d1 : W.cell? ⟨w.heap.size + 1, 1, none⟩ = some y1
theorem RX.below {w W W1 : World} {u0 u1 y0 y1 : Value} (h : RX w u0 u1 y0 y1 W) (hb : Below W.heap.size W W1) : RX w u0 u1 y0 y1 W1 :=
  ⟨h.bel.trans (hb.mono h.bel.size), keep_below hb h.r0, keep_below hb h.r1, keep_below hb h.d0, keep_below hb h.d1⟩
theorem RX.start (w : World) (u0 u1 y0 y1 : Value) (s t : TypeId) : RX w u0 u1 y0 y1 ((w.alloc (.cells #[u0, u1] s)).alloc (.cells #[y0, y1] t)) := by
  obtain ⟨a0, a1, af, ab⟩ := new_box (W := w) (u0 := u0) (u1 := u1) (t := s) rfl
  have z1 : (w.alloc (.cells #[u0, u1] s)).heap.size = w.heap.size + 1 := by simp
  obtain ⟨c0, c1, cf, cb⟩ := new_box (W := w.alloc (.cells #[u0, u1] s)) (u0 := y0) (u1 := y1) (t := t) z1
  exact ⟨ab.trans (cb.mono ab.size), keep_below cb a0, keep_below cb a1, c0, c1⟩
set_option maxRecDepth 8000 in
set_option maxHeartbeats 2000000 in
theorem row_any (A : Option Addr) (n cap : Nat) (G : Option Addr) (gn gcap : Nat) (R : Nat → RowI) (i g : Int) (w : World) (hn : n ≤ 140737488355328) (hR : RowsAt w A n R) :
    Calls Try.prog 19 #[worldV A n cap G gn gcap, beingV i g] w fun e w' => (∃ p, e = .returned (.pointer p) ∧ ((fIx R i g n 0 = -1 ∧ p = none) ∨ ∃ (k b off : Nat), k < n ∧ fIx R i g n 0 = (k : Int) ∧ A = some ⟨b, off, none⟩ ∧ p = some ⟨b, off + k * 11, none⟩)) ∧ Below w.heap.size w w' := by
  have hx := RX.start w (.slice A n cap) (.slice G gn gcap) (.int .i64 i) (.int .i64 g) 40 50
  have r0 := hx.r0
  have HR := hide hR
  have HX := hide hx
  clear hR hx
  unfold worldV beingV
  go_enter Try.func19, Try.ntmps19
  go_wp2
  go_loopw [9] (fun x wr => ∃ j : Nat, j ≤ n ∧ x = .int .i64 j ∧ fIx R i g n 0 = fIx R i g (n - j) j ∧ RX w (.slice A n cap) (.slice G gn gcap) (.int .i64 i) (.int .i64 g) wr) (fun x _ => n - (intOf x).toNat)
  case atStart => exact ⟨0, Nat.zero_le _, rfl, rfl, unhide HX⟩
  case round =>
    clear r0
    obtain ⟨j, hj, rfl, hF, hbr⟩ := hrel
    have HF := hide hF
    clear hF
    by_cases hlt : j < n
    · have j0 : (0 : Int) ≤ (j : Int) := by omega
      have j1 : (j : Int) < (n : Int) := by omega
      obtain ⟨b', off, rfl, hrow⟩ := unhide HR j hlt
      have hrow := hrow.below hbr.bel
      have c0 := hrow.c0
      have c1 := hrow.c1
      have r0 := hbr.r0
      have d0 := hbr.d0
      have d1 := hbr.d1
      have HS := hide (fIx_step R i g n j hlt)
      unfold isB at HS
      have HBR := hide hbr
      clear hrow hbr HR HX
      by_cases h1 : (R j).ix = i <;> by_cases h2 : (R j).gen = g
      all_goals
        have e1 : ((R j).ix == i && (R j).gen == g) = (decide ((R j).ix = i) && decide ((R j).gen = g)) := by simp [Bool.beq_eq_decide_eq]
        rw [e1] at HS
        simp only [h1, h2, decide_true, decide_false, Bool.and_true, Bool.and_false, Bool.true_and, Bool.false_and, if_true, if_false, Bool.false_eq_true] at HS
        go_wp2
        go_quiet (fail)
        go_wp2
        first
        | (go_ret
           exact ⟨⟨_, rfl, .inr ⟨j, b', off, hlt, (unhide HF).trans (unhide HS), rfl, rfl⟩⟩, bel_drewN' (unhide HBR).bel _⟩)
        | (go_roundw
           case rel => exact ⟨j + 1, by omega, by go_num, (unhide HF).trans (unhide HS), (unhide HBR).below (bel_drewN' (Below.refl _ _) _)⟩
           case measure => simp [intOf]; omega)
    · obtain rfl : j = n := by omega
      have hv : fIx R i g j 0 = -1 := by rw [unhide HF, Nat.sub_self]; rfl
      have HB := hide hbr.bel
      clear hbr HR HX
      go_wp2
      go_ret
      exact ⟨⟨none, rfl, .inl ⟨hv, rfl⟩⟩, unhide HB⟩
theorem RowsAt.congr {w : World} {A : Option Addr} {n : Nat} {R R' : Nat → RowI} (h : RowsAt w A n R) (e : ∀ j, j < n → rowCells (R j) = rowCells (R' j)) : RowsAt w A n R' := fun j hj => by
  obtain ⟨b, off, h0, h1⟩ := h j hj
  refine ⟨b, off, h0, ?_⟩
  rw [rowAt_iff] at h1 ⊢
  rw [← e j hj]; exact h1
theorem IntsAt.congr {w : World} {G : Option Addr} {n : Nat} {f f' : Nat → Int} (h : IntsAt w G n f) (e : ∀ j, j < n → f j = f' j) : IntsAt w G n f' := fun j hj => by
  obtain ⟨b, off, h0, h1⟩ := h j hj
  exact ⟨b, off, h0, by rw [← e j hj]; exact h1⟩
end Go.Proofs.Ytnbleebilmghcab
