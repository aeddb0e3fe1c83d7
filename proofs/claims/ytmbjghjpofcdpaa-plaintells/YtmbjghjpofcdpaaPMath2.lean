/- What comes of right worlds. -/
import Derived.Test.YtmbjghjpofcdpaaPMath
set_option linter.unusedVariables false
set_option linter.unusedSimpArgs false
set_option linter.unnecessarySimpa false
namespace Go.Proofs.Ytmbjghjpofcdpaa
open Go Go.RowKit

theorem chF_zero {X : Wd} {i g : Int} {C : RowI → RowI × Bool × Int} (h : (chF X i g C).1 = 0) :
    RightW X ∧ ∃ k : Nat, k < X.rows.length ∧ findW X i g = (k : Int) ∧ (rowOf X k).ix = i ∧ (rowOf X k).gen = g ∧ (C (rowOf X k)).2.2 = 0 ∧ (chF X i g C).2 = ⟨X.rows.set k (C (rowOf X k)).1, X.gens⟩ := by
  unfold chF at h ⊢
  by_cases c1 : (wrongW X).1 ≠ 0
  · rw [if_pos c1] at h; exact absurd h c1
  · rw [if_neg c1] at h ⊢
    have c1' : (wrongW X).1 = 0 := Decidable.not_not.1 c1
    refine ⟨(right_iff X).1 c1', ?_⟩
    rcases find_cases X i g with hf | ⟨k, hk, hf, h1, h2⟩
    · rw [if_pos (by omega)] at h; cases h
    · rw [if_neg (by omega), hf, Int.toNat_natCast] at h ⊢
      have er : X.rows.getD k dR = rowOf X k := rfl
      rw [er] at h ⊢
      by_cases c2 : (C (rowOf X k)).2.2 ≠ 0
      · rw [if_pos c2] at h; exact absurd h c2
      · rw [if_neg c2]
        exact ⟨k, hk, rfl, h1, h2, Decidable.not_not.1 c2, rfl⟩
theorem chF_at {X : Wd} (hr : RightW X) {i g : Int} {k : Nat} (hf : findW X i g = (k : Int)) (C : RowI → RowI × Bool × Int) :
    chF X i g C = if (C (rowOf X k)).2.2 ≠ 0 then ((C (rowOf X k)).2.2, emptyW) else (0, ⟨X.rows.set k (C (rowOf X k)).1, X.gens⟩) := by
  unfold chF
  rw [if_neg (by have := (right_iff X).2 hr; omega), if_neg (by omega), hf, Int.toNat_natCast]
  rfl
theorem killF_zero {X : Wd} {i g : Int} (h : (killF X i g).1 = 0) :
    RightW X ∧ ∃ k : Nat, k < X.rows.length ∧ findW X i g = (k : Int) ∧ (rowOf X k).ix = i ∧ (rowOf X k).gen = g ∧ (killF X i g).2 = ⟨X.rows.eraseIdx k, X.gens⟩ := by
  unfold killF at h ⊢
  by_cases c1 : (wrongW X).1 ≠ 0
  · rw [if_pos c1] at h; exact absurd h c1
  · rw [if_neg c1] at h ⊢
    have c1' : (wrongW X).1 = 0 := Decidable.not_not.1 c1
    refine ⟨(right_iff X).1 c1', ?_⟩
    rcases find_cases X i g with hf | ⟨k, hk, hf, h1, h2⟩
    · rw [if_pos (by omega)] at h; cases h
    · rw [if_neg (by omega), hf, Int.toNat_natCast]
      exact ⟨k, hk, rfl, h1, h2, rfl⟩
theorem killF_at {X : Wd} (hr : RightW X) {i g : Int} {k : Nat} (hf : findW X i g = (k : Int)) : killF X i g = (0, ⟨X.rows.eraseIdx k, X.gens⟩) := by
  unfold killF
  rw [if_neg (by have := (right_iff X).2 hr; omega), if_neg (by omega), hf, Int.toNat_natCast]
theorem spawn_spec {X : Wd} {has n : Int} (h : (spawnF X has n).1 = 0) :
    RightW X ∧ ∃ (k : Nat) (g : Int), (spawnF X has n).2.1 = ((k : Int), g) ∧ (spawnF X has n).2.2 = ⟨insR X.rows (placeN X.rows (k : Int)) (newR (k : Int) g has n), gensF X.gens (k : Int) g⟩ ∧ k ≤ X.gens.length ∧
      (∀ j, j < X.rows.length → (rowOf X j).ix ≠ (k : Int)) ∧ (k < X.gens.length → g = X.gens.getD k 0 + 1) ∧ RightW (spawnF X has n).2.2 := by
  unfold spawnF at h ⊢
  by_cases c1 : (wrongW X).1 ≠ 0
  · rw [if_pos c1] at h; exact absurd h c1
  · rw [if_neg c1] at h ⊢
    have hr := (right_iff X).1 (Decidable.not_not.1 c1)
    refine ⟨hr, ?_⟩
    by_cases c2 : (setB has && valB n) = false
    · rw [if_pos c2] at h; cases h
    · rw [if_neg c2] at h ⊢
      have c2' : setB has = true ∧ valB n = true := by simpa using c2
      by_cases c3 : (nextF X).2 ≠ 0
      · rw [if_pos c3] at h; exact absurd h c3
      · rw [if_neg c3]
        obtain ⟨k, hk, hc⟩ := nxTo_spec X X.gens.length 0 (by omega) (Decidable.not_not.1 c3)
        have hk' : (nextF X).1.1 = (k : Int) := hk
        have hu : ∀ j, j < X.rows.length → (rowOf X j).ix ≠ (k : Int) := fun j hj e => by
          rcases hc with ⟨_, hu, _⟩ | ⟨e2, _⟩
          · exact hu j hj e
          · have := hr.il j hj; omega
        have hg : 1 ≤ (nextF X).1.2 ∧ (nextF X).1.2 ≤ 1000 := by
          show 1 ≤ (nxTo X X.gens.length 0).1.2 ∧ (nxTo X X.gens.length 0).1.2 ≤ 1000
          rcases hc with ⟨h1, _, h2, h3⟩ | ⟨_, _, h3⟩
          · have := hr.gv k h1; omega
          · omega
        have h60 : k < 60 := by
          have := hr.gl
          rcases hc with ⟨h1, _⟩ | ⟨h1, h2, _⟩ <;> omega
        have hkl : k ≤ X.gens.length := by rcases hc with ⟨h1, _⟩ | ⟨h1, _⟩ <;> omega
        rw [hk']
        refine ⟨k, (nextF X).1.2, Prod.ext hk' rfl, rfl, hkl, hu, fun hlt => ?_, ?_⟩
        · rcases hc with ⟨_, _, _, h3⟩ | ⟨h1, _⟩
          · exact h3
          · omega
        · exact right_ins hr hkl h60 hu (r := newR (k : Int) (nextF X).1.2 has n) rfl (rv_new _ _ c2'.1 c2'.2) hg

theorem ins_old (X : Wd) (p : Nat) (hp : p ≤ X.rows.length) (r : RowI) (G : List Int) (j : Nat) (hj : j < X.rows.length) : ∃ j', j' < (insR X.rows p r).length ∧ rowOf ⟨insR X.rows p r, G⟩ j' = rowOf X j := by
  have hl : (insR X.rows p r).length = X.rows.length + 1 := insR_len _ _ _ hp
  by_cases h : j < p
  · exact ⟨j, by omega, by rw [rowOf_ins X p hp, if_pos h]⟩
  · exact ⟨j + 1, by omega, by rw [rowOf_ins X p hp, if_neg (by omega), if_neg (by omega)]; rfl⟩
theorem ins_new (X : Wd) (p : Nat) (hp : p ≤ X.rows.length) (r : RowI) (G : List Int) : p < (insR X.rows p r).length ∧ rowOf ⟨insR X.rows p r, G⟩ p = r := by
  have hl : (insR X.rows p r).length = X.rows.length + 1 := insR_len _ _ _ hp
  exact ⟨by omega, by rw [rowOf_ins X p hp, if_neg (by omega), if_pos rfl]⟩
theorem ins_from (X : Wd) (p : Nat) (hp : p ≤ X.rows.length) (r : RowI) (G : List Int) (j : Nat) (hj : j < (insR X.rows p r).length) : rowOf ⟨insR X.rows p r, G⟩ j = r ∨ ∃ t, t < X.rows.length ∧ rowOf ⟨insR X.rows p r, G⟩ j = rowOf X t := by
  have hl : (insR X.rows p r).length = X.rows.length + 1 := insR_len _ _ _ hp
  rw [rowOf_ins X p hp]
  by_cases h : j < p
  · exact .inr ⟨j, by omega, by rw [if_pos h]⟩
  · by_cases h2 : j = p
    · exact .inl (by rw [if_neg h, if_pos h2])
    · exact .inr ⟨j - 1, by omega, by rw [if_neg h, if_neg h2]⟩
theorem erase_from (X : Wd) (k : Nat) (hk : k < X.rows.length) (G : List Int) (j : Nat) (hj : j < (X.rows.eraseIdx k).length) : ∃ t, t < X.rows.length ∧ t ≠ k ∧ rowOf ⟨X.rows.eraseIdx k, G⟩ j = rowOf X t := by
  have hl : (X.rows.eraseIdx k).length + 1 = X.rows.length := by rw [List.length_eraseIdx, if_pos hk]; omega
  rw [rowOf_erase]
  by_cases h : j < k
  · exact ⟨j, by omega, by omega, by rw [if_pos h]⟩
  · exact ⟨j + 1, by omega, by omega, by rw [if_neg h]⟩
theorem erase_old (X : Wd) (k : Nat) (hk : k < X.rows.length) (G : List Int) (j : Nat) (hj : j < X.rows.length) (hne : j ≠ k) : ∃ j', j' < (X.rows.eraseIdx k).length ∧ rowOf ⟨X.rows.eraseIdx k, G⟩ j' = rowOf X j := by
  have hl : (X.rows.eraseIdx k).length + 1 = X.rows.length := by rw [List.length_eraseIdx, if_pos hk]; omega
  by_cases h : j < k
  · exact ⟨j, by omega, by rw [rowOf_erase, if_pos h]⟩
  · exact ⟨j - 1, by omega, by rw [rowOf_erase, if_neg (by omega), show j - 1 + 1 = j by omega]⟩

/-- A being that was there is there as it was. -/
def Keeps (X Y : Wd) (i g : Int) : Prop := ∀ k : Nat, k < X.rows.length → findW X i g = (k : Int) → ∃ j : Nat, j < Y.rows.length ∧ findW Y i g = (j : Int) ∧ rowOf Y j = rowOf X k
theorem keeps_of {X Y : Wd} {i g : Int} (hX : RightW X) (hY : RightW Y) (h : ∀ k, k < X.rows.length → (rowOf X k).ix = i → (rowOf X k).gen = g → ∃ j, j < Y.rows.length ∧ rowOf Y j = rowOf X k) : Keeps X Y i g := fun k hk hf => by
  rcases find_cases X i g with e | ⟨k', hk', e, h1, h2⟩
  · omega
  · have : k' = k := by omega
    subst this
    obtain ⟨j, hj, ej⟩ := h k' hk h1 h2
    refine ⟨j, hj, ?_, ej⟩
    have := find_at hY hj
    rwa [ej, h1, h2] at this
theorem spawn_keeps {X : Wd} {has n : Int} (h : (spawnF X has n).1 = 0) (i g : Int) : RightW (spawnF X has n).2.2 ∧ Keeps X (spawnF X has n).2.2 i g := by
  obtain ⟨hr, k, g', _, e, hk, hu, _, hr'⟩ := spawn_spec h
  refine ⟨hr', keeps_of hr hr' fun j hj _ _ => ?_⟩
  rw [e]
  exact ins_old X _ (place_le _ _) _ _ j hj
theorem kill_keeps {X : Wd} {i g : Int} (h : (killF X i g).1 = 0) : RightW (killF X i g).2 ∧ ∀ i' g', (i', g') ≠ (i, g) → Keeps X (killF X i g).2 i' g' := by
  obtain ⟨hr, k, hk, hf, h1, h2, e⟩ := killF_zero h
  have hr' : RightW (killF X i g).2 := by rw [e]; exact right_erase hr hk
  refine ⟨hr', fun i' g' hne => keeps_of hr hr' fun j hj e1 e2 => ?_⟩
  rw [e]
  refine erase_old X k hk _ j hj fun ejk => hne ?_
  subst ejk
  rw [← e1, ← e2, h1, h2]
theorem set_keeps {X : Wd} (hr : RightW X) {i g : Int} {k : Nat} (hk : k < X.rows.length) (h1 : (rowOf X k).ix = i) (h2 : (rowOf X k).gen = g) {r : RowI} (hr' : RightW ⟨X.rows.set k r, X.gens⟩) : ∀ i' g', (i', g') ≠ (i, g) → Keeps X ⟨X.rows.set k r, X.gens⟩ i' g' := fun i' g' hne => by
  refine keeps_of hr hr' fun j hj e1 e2 => ⟨j, by simpa using hj, ?_⟩
  rw [rowOf_set X k r X.gens j hj, if_neg fun ejk => hne ?_]
  subst ejk
  rw [← e1, ← e2, h1, h2]
theorem putC_zero {x : RowI} {p n : Int} (h : (putC x p n).2.2 = 0) : partB p = true ∧ valB n = true ∧ (putC x p n).1 = putR x p n := by
  unfold putC at h ⊢
  cases c : (partB p && valB n)
  · rw [c] at h; simp at h
  · simpa using c
theorem dropC_zero {x : RowI} {p : Int} (h : (dropC x p).2.2 = 0) : hasI x.has p = true ∧ (dropC x p).1 = dropR x p := by
  unfold dropC at h ⊢
  cases c : hasI x.has p
  · rw [c] at h; simp at h
  · simp
theorem put_spec {X : Wd} {i g p n : Int} (h : (putF X i g p n).1 = 0) :
    RightW X ∧ partB p = true ∧ valB n = true ∧ ∃ k : Nat, k < X.rows.length ∧ findW X i g = (k : Int) ∧ (rowOf X k).ix = i ∧ (rowOf X k).gen = g ∧ (putF X i g p n).2 = ⟨X.rows.set k (putR (rowOf X k) p n), X.gens⟩ ∧ RightW (putF X i g p n).2 := by
  obtain ⟨hr, k, hk, hf, h1, h2, hC, e⟩ := chF_zero h
  obtain ⟨hp, hn, eC⟩ := putC_zero hC
  have e' : (putF X i g p n).2 = ⟨X.rows.set k (putR (rowOf X k) p n), X.gens⟩ := by rw [← eC]; exact e
  refine ⟨hr, hp, hn, k, hk, hf, h1, h2, e', ?_⟩
  rw [e']
  exact right_set hr hk rfl rfl (rv_put (hr.rv k hk) hp hn)
theorem drop_spec {X : Wd} {i g p : Int} (h : (dropF X i g p).1 = 0) :
    RightW X ∧ ∃ k : Nat, k < X.rows.length ∧ findW X i g = (k : Int) ∧ (rowOf X k).ix = i ∧ (rowOf X k).gen = g ∧ hasI (rowOf X k).has p = true ∧ (dropF X i g p).2 = ⟨X.rows.set k (dropR (rowOf X k) p), X.gens⟩ ∧ RightW (dropF X i g p).2 := by
  obtain ⟨hr, k, hk, hf, h1, h2, hC, e⟩ := chF_zero h
  obtain ⟨hp, eC⟩ := dropC_zero hC
  have e' : (dropF X i g p).2 = ⟨X.rows.set k (dropR (rowOf X k) p), X.gens⟩ := by rw [← eC]; exact e
  refine ⟨hr, k, hk, hf, h1, h2, hp, e', ?_⟩
  rw [e']
  exact right_set hr hk rfl rfl (rv_drop (hr.rv k hk) hp)
theorem put_keeps {X : Wd} {i g p n : Int} (h : (putF X i g p n).1 = 0) : RightW (putF X i g p n).2 ∧ ∀ i' g', (i', g') ≠ (i, g) → Keeps X (putF X i g p n).2 i' g' := by
  obtain ⟨hr, _, _, k, hk, hf, h1, h2, e, hr'⟩ := put_spec h
  refine ⟨hr', ?_⟩
  rw [e] at hr' ⊢
  exact set_keeps hr hk h1 h2 hr'
theorem drop_keeps {X : Wd} {i g p : Int} (h : (dropF X i g p).1 = 0) : RightW (dropF X i g p).2 ∧ ∀ i' g', (i', g') ≠ (i, g) → Keeps X (dropF X i g p).2 i' g' := by
  obtain ⟨hr, k, hk, hf, h1, h2, _, e, hr'⟩ := drop_spec h
  refine ⟨hr', ?_⟩
  rw [e] at hr' ⊢
  exact set_keeps hr hk h1 h2 hr'
/-- What is refused is empty. -/
theorem spawn_no {X : Wd} {has n : Int} (h : (spawnF X has n).1 ≠ 0) : (spawnF X has n).2.2 = emptyW := by
  unfold spawnF at h ⊢
  split at h
  · rw [if_pos ‹_›]
  · rename_i c1
    rw [if_neg c1]
    split at h
    · rw [if_pos ‹_›]
    · rename_i c2
      rw [if_neg c2]
      split at h
      · rw [if_pos ‹_›]
      · exact absurd rfl h
theorem kill_no {X : Wd} {i g : Int} (h : (killF X i g).1 ≠ 0) : (killF X i g).2 = emptyW := by
  unfold killF at h ⊢
  split at h
  · rw [if_pos ‹_›]
  · rename_i c1
    rw [if_neg c1]
    split at h
    · rw [if_pos ‹_›]
    · exact absurd rfl h
theorem ch_no {X : Wd} {i g : Int} {C : RowI → RowI × Bool × Int} (h : (chF X i g C).1 ≠ 0) : (chF X i g C).2 = emptyW := by
  unfold chF at h ⊢
  split at h
  · rw [if_pos ‹_›]
  · rename_i c1
    rw [if_neg c1]
    split at h
    · rw [if_pos ‹_›]
    · rename_i c2
      rw [if_neg c2]
      split at h
      · rw [if_pos ‹_›]
      · exact absurd rfl h

/- PlainNew. -/
theorem new_facts {X : Wd} {has n : Int} (h : (spawnF X has n).1 = 0) : ∃ i g : Int, (spawnF X has n).2.1 = (i, g) ∧ RightW X ∧ RightW (spawnF X has n).2.2 ∧ findW X i g = -1 ∧ (∃ j : Nat, j < (spawnF X has n).2.2.rows.length ∧ findW (spawnF X has n).2.2 i g = (j : Int)) ∧
    (spawnF X has n).2.2.rows.length = X.rows.length + 1 ∧ (killF (spawnF X has n).2.2 i g).1 = 0 ∧ RightW (killF (spawnF X has n).2.2 i g).2 ∧
    ((spawnF (killF (spawnF X has n).2.2 i g).2 has n).1 = 0 → (spawnF (killF (spawnF X has n).2.2 i g).2 has n).2.1 ≠ (i, g) ∧ findW (spawnF (killF (spawnF X has n).2.2 i g).2 has n).2.2 i g = -1 ∧ RightW (spawnF (killF (spawnF X has n).2.2 i g).2 has n).2.2) := by
  obtain ⟨hr, k, g, eb, eX, hk, hu, hg, hr'⟩ := spawn_spec h
  generalize (spawnF X has n).2.2 = X' at eX hr' ⊢
  obtain ⟨hp, hpr⟩ := ins_new X (placeN X.rows (k : Int)) (place_le _ _) (newR (k : Int) g has n) (gensF X.gens (k : Int) g)
  rw [← eX] at hpr
  have hp' : placeN X.rows (k : Int) < X'.rows.length := by rw [eX]; exact hp
  have hfind : findW X' (k : Int) g = ((placeN X.rows (k : Int) : Nat) : Int) := by
    have := find_at hr' hp'
    rwa [hpr] at this
  have hkill := killF_at hr' hfind
  have hkr := right_erase hr' hp'
  refine ⟨(k : Int), g, eb, hr, hr', find_none fun j hj e => hu j hj e.1, ⟨_, hp', hfind⟩, by rw [eX]; exact insR_len _ _ _ (place_le _ _), by rw [hkill], by rw [hkill]; exact hkr, ?_⟩
  rw [hkill]
  have hgl : (k : Nat) < X'.gens.length ∧ X'.gens.getD k 0 = g := by
    rw [eX]
    refine ⟨?_, by rw [getD_gensF _ _ _ hk, if_pos rfl]⟩
    show k < (gensF X.gens (k : Int) g).length
    rw [len_gensF _ _ _ hk]
    split <;> omega
  have hnoY : ∀ t, t < (X'.rows.eraseIdx (placeN X.rows (k : Int))).length → ¬ ((rowOf ⟨X'.rows.eraseIdx (placeN X.rows (k : Int)), X'.gens⟩ t).ix = (k : Int)) := fun t ht e => by
    obtain ⟨s, hs, hne, es⟩ := erase_from X' _ hp' X'.gens t ht
    rw [es] at e
    exact hne (hr'.one hs hp' (by rw [e, hpr]; rfl))
  intro hz
  obtain ⟨_, k2, g2, eb2, eZ, hk2, hu2, hg2, hrZ⟩ := spawn_spec hz
  have hne : ((k2 : Int), g2) ≠ ((k : Int), g) := fun e => by
    have e1 : (k2 : Int) = (k : Int) := congrArg Prod.fst e
    have e2 : g2 = g := congrArg Prod.snd e
    have e3 : k2 = k := by omega
    subst e3
    have := hg2 hgl.1
    have h4 : (Wd.gens ⟨X'.rows.eraseIdx (placeN X.rows (k2 : Int)), X'.gens⟩).getD k2 0 = g := hgl.2
    rw [h4] at this
    omega
  refine ⟨by rw [eb2]; exact hne, find_none fun j hj e => ?_, hrZ⟩
  rw [eZ] at hj e
  rcases ins_from _ _ (place_le _ _) _ _ j hj with e1 | ⟨t, ht, e1⟩
  · rw [e1] at e
    exact hne (Prod.ext e.1 e.2)
  · rw [e1] at e
    exact hnoY t ht e.1

/- PlainPut. -/
theorem put_put (x : RowI) (h : rvB x = true) {p : Int} (hp : partB p = true) (n m : Int) : putR (putR x p n) p m = putR x p m := by
  obtain ⟨q, hq, rfl⟩ := part_nat hp
  obtain ⟨h1, _⟩ := rv_parts h
  obtain ⟨f, ef⟩ := fin_of x.has h1.1 h1.2
  have := (oo_fin f ⟨q, hq⟩).1
  unfold putR
  simp only [RowI.mk.injEq, true_and]
  refine ⟨by rw [ef]; exact this, ?_⟩
  funext k
  split <;> rfl
theorem drop_put (x : RowI) (h : rvB x = true) {p : Int} (hp : partB p = true) (hno : hasI x.has p = false) (n : Int) : dropR (putR x p n) p = x := by
  obtain ⟨q, hq, rfl⟩ := part_nat hp
  obtain ⟨h1, h2⟩ := rv_parts h
  obtain ⟨f, ef⟩ := fin_of x.has h1.1 h1.2
  have e1 := (oo_fin f ⟨q, hq⟩).2 (by unfold hasI at hno; rw [ef] at hno; exact hno)
  have e2 : x.v q = 0 := by
    rcases (h2 q hq).2 with e | e
    · exact e
    · rw [hno] at e; cases e
  obtain ⟨ix, gen, has, v⟩ := x
  simp only at ef e1 e2 hno
  unfold dropR putR
  simp only [RowI.mk.injEq, true_and]
  refine ⟨by rw [ef]; exact e1, ?_⟩
  funext k
  rw [Int.toNat_natCast]
  split
  · rename_i h; rw [h, e2]
  · rfl
theorem set_self (X : Wd) (k : Nat) : X.rows.set k (rowOf X k) = X.rows := by
  unfold rowOf
  refine List.ext_getElem? fun j => ?_
  rw [List.getElem?_set]
  split
  · rename_i h; subst h
    split
    · rename_i h2; rw [List.getD_eq_getElem?_getD, List.getElem?_eq_getElem h2]; simp
    · rename_i h2; rw [List.getElem?_eq_none (by omega)]
  · rfl
theorem get_at {X : Wd} {i g : Int} {k : Nat} (hf : findW X i g = (k : Int)) (p : Int) : getI (fun j => X.rows.getD j dR) X.rows.length i g p = if hasI (rowOf X k).has p = true then ((rowOf X k).v p.toNat, true) else (0, false) := by
  have e : fIx (fun j => X.rows.getD j dR) i g X.rows.length 0 = (k : Int) := hf
  unfold getI
  rw [e, if_neg (by omega), Int.toNat_natCast]
  rfl
theorem put_facts {X : Wd} {i g p n : Int} (m : Int) (h : (putF X i g p n).1 = 0) : RightW X ∧ RightW (putF X i g p n).2 ∧ getI (fun j => (putF X i g p n).2.rows.getD j dR) (putF X i g p n).2.rows.length i g p = (n, true) ∧
    putF (putF X i g p n).2 i g p m = putF X i g p m ∧ (dropF (putF X i g p n).2 i g p).1 = 0 ∧ RightW (dropF (putF X i g p n).2 i g p).2 ∧
    (getI (fun j => (dropF (putF X i g p n).2 i g p).2.rows.getD j dR) (dropF (putF X i g p n).2 i g p).2.rows.length i g p).2 = false ∧
    ((getI (fun j => X.rows.getD j dR) X.rows.length i g p).2 = false → (dropF (putF X i g p n).2 i g p).2 = X) := by
  obtain ⟨hr, hp, hn, k, hk, hf, h1, h2, e, hr'⟩ := put_spec h
  generalize hX' : (putF X i g p n).2 = X' at e hr' ⊢
  have hk' : k < X'.rows.length := by rw [e]; simpa using hk
  have hrow : rowOf X' k = putR (rowOf X k) p n := by rw [e, rowOf_set X k _ _ k hk, if_pos rfl]
  have hf' : findW X' i g = (k : Int) := by
    have := find_at hr' hk'
    rw [hrow] at this
    rw [← this, ← h1, ← h2]; rfl
  obtain ⟨q, hq, hpq⟩ := part_nat hp
  obtain ⟨hb, hvs⟩ := rv_parts (hr.rv k hk)
  have hhas : hasI (rowOf X' k).has p = true := by
    rw [hrow, hpq]
    have := (or_facts (rowOf X k).has hb q hq).2 q hq
    simpa [putR] using this
  have hrv : rvB (rowOf X' k) = true := hr'.rv k hk'
  have hdrop : dropF X' i g p = (0, ⟨X'.rows.set k (dropR (rowOf X' k) p), X'.gens⟩) := by
    unfold dropF
    rw [chF_at hr' hf']
    unfold dropC
    rw [if_pos hhas]
    simp
  have hrD : RightW ⟨X'.rows.set k (dropR (rowOf X' k) p), X'.gens⟩ := right_set hr' hk' rfl rfl (rv_drop hrv hhas)
  refine ⟨hr, hr', ?_, ?_, by rw [hdrop], by rw [hdrop]; exact hrD, ?_, fun hno => ?_⟩
  · rw [get_at hf', if_pos hhas, hrow]
    show ((if p.toNat = p.toNat then n else _), true) = _
    rw [if_pos rfl]
  · unfold putF
    rw [chF_at hr' hf', chF_at hr hf]
    unfold putC
    rw [hp, hrow]
    cases hm : valB m
    · simp
    · simp only [Bool.and_self, if_true, ne_eq, not_true_eq_false, if_false]
      rw [put_put _ (hr.rv k hk) hp, e]
      simp [List.set_set]
  · rw [hdrop]
    have hkD : k < (Wd.rows ⟨X'.rows.set k (dropR (rowOf X' k) p), X'.gens⟩).length := by simpa using hk'
    have hrowD : rowOf ⟨X'.rows.set k (dropR (rowOf X' k) p), X'.gens⟩ k = dropR (rowOf X' k) p := by rw [rowOf_set X' k _ _ k hk', if_pos rfl]
    have hfD : findW ⟨X'.rows.set k (dropR (rowOf X' k) p), X'.gens⟩ i g = (k : Int) := by
      have := find_at hrD hkD
      rw [hrowD] at this
      have e1 : (dropR (rowOf X' k) p).ix = i := by rw [← h1, hrow]; rfl
      have e2 : (dropR (rowOf X' k) p).gen = g := by rw [← h2, hrow]; rfl
      rwa [e1, e2] at this
    rw [get_at hfD, hrowD]
    obtain ⟨hb', _⟩ := rv_parts hrv
    have := (an_facts (rowOf X' k).has hb' q hq).2 q hq
    rw [← hpq] at this
    have e4 : hasI (dropR (rowOf X' k) p).has p = false := by simpa [dropR] using this
    rw [e4]
    rfl
  · rw [hdrop]
    rw [get_at hf] at hno
    have hno' : hasI (rowOf X k).has p = false := by
      cases c : hasI (rowOf X k).has p
      · rfl
      · rw [c] at hno; simp at hno
    rw [hrow, drop_put _ (hr.rv k hk) hp hno', e]
    show (⟨(X.rows.set k _).set k (rowOf X k), X.gens⟩ : Wd) = X
    rw [List.set_set, set_self]
end Go.Proofs.Ytmbjghjpofcdpaa
