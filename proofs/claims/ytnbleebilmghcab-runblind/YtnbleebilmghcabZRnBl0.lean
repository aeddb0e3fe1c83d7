/- Worlds alike but for values of a part; what comes of them. -/
import Derived.Test.YtnbleebilmghcabZRnOrd
set_option linter.all false
namespace Go.Proofs.Ytnbleebilmghcab
open Go Go.RowKit
def zp (pt : Nat) (r : RowI) : RowI := ⟨r.ix, r.gen, r.has, fun k => if k = pt then 0 else r.v k⟩
theorem zp_iff {pt : Nat} {r r' : RowI} : zp pt r = zp pt r' ↔ r.ix = r'.ix ∧ r.gen = r'.gen ∧ r.has = r'.has ∧ ∀ k, k ≠ pt → r.v k = r'.v k := by
  constructor
  · intro h
    unfold zp at h
    injection h with h1 h2 h3 h4
    exact ⟨h1, h2, h3, fun k hk => by have := congrFun h4 k; simpa [hk] using this⟩
  · rintro ⟨h1, h2, h3, h4⟩
    unfold zp
    rw [h1, h2, h3]
    congr 1
    funext k
    by_cases e : k = pt
    · simp [e]
    · simp [e, h4 k e]
structure LK (pt : Nat) (X U : Wd) : Prop where
  gens : X.gens = U.gens
  rows : X.rows.map (zp pt) = U.rows.map (zp pt)
section
variable {pt : Nat} {X U : Wd}
theorem LK.refl (pt : Nat) (X : Wd) : LK pt X X := ⟨rfl, rfl⟩
theorem LK.len (h : LK pt X U) : X.rows.length = U.rows.length := by
  have := congrArg List.length h.rows
  simpa using this
theorem LK.row (h : LK pt X U) (j : Nat) : zp pt (X.rows.getD j dR) = zp pt (U.rows.getD j dR) := by
  have := congrArg (fun l => l[j]?) h.rows
  simp only [List.getElem?_map] at this
  rw [List.getD_eq_getElem?_getD, List.getD_eq_getElem?_getD]
  cases e : X.rows[j]? <;> cases e2 : U.rows[j]? <;> simp_all
theorem fIx_congr {R R' : Nat → RowI} (i g : Int) (h : ∀ j, isB (R j) i g = isB (R' j) i g) : ∀ n j, fIx R i g n j = fIx R' i g n j
  | 0, _ => rfl
  | n + 1, j => by
    unfold fIx
    rw [h j, fIx_congr i g h n (j + 1)]
theorem gtIx_congr {R R' : Nat → RowI} (i : Int) (h : ∀ j, (R j).ix = (R' j).ix) : ∀ n j, gtIx R i n j = gtIx R' i n j
  | 0, _ => rfl
  | n + 1, j => by
    unfold gtIx
    rw [h j, gtIx_congr i h n (j + 1)]
theorem LK.fIx (h : LK pt X U) (i g : Int) : fIx (fun j => X.rows.getD j dR) i g X.rows.length 0 = fIx (fun j => U.rows.getD j dR) i g U.rows.length 0 := by
  rw [h.len]
  refine fIx_congr i g (fun j => ?_) _ _
  obtain ⟨h1, h2, _, _⟩ := zp_iff.1 (h.row j)
  unfold isB
  rw [h1, h2]
theorem LK.find (h : LK pt X U) (i g : Int) : findW X i g = findW U i g := h.fIx i g
theorem LK.has (h : LK pt X U) (i g p : Int) : (getW X i g p).2 = (getW U i g p).2 := by
  unfold getW getI
  rw [h.fIx]
  split
  · rfl
  · obtain ⟨_, _, h3, _⟩ := zp_iff.1 (h.row (Go.Proofs.Ytnbleebilmghcab.fIx (fun j => U.rows.getD j dR) i g U.rows.length 0).toNat)
    rw [h3]
    split <;> rfl
theorem LK.get (h : LK pt X U) (i g : Int) {p : Int} (hp : p.toNat ≠ pt) : (getW X i g p).1 = (getW U i g p).1 := by
  unfold getW getI
  rw [h.fIx]
  split
  · rfl
  · obtain ⟨_, _, h3, h4⟩ := zp_iff.1 (h.row (Go.Proofs.Ytnbleebilmghcab.fIx (fun j => U.rows.getD j dR) i g U.rows.length 0).toNat)
    rw [h3, h4 _ hp]
theorem used_zp (rows : List RowI) (j i : Nat) : usedB (rows.map (zp pt)) j i = usedB rows j i := by
  unfold usedB
  rw [← List.map_take, List.any_map]
  rfl
theorem LK.next (h : LK pt X U) : nextF X = nextF U := by
  have key : ∀ m j, nxTo X m j = nxTo U m j := by
    intro m
    induction m with
    | zero => intro j; unfold nxTo; rw [h.gens]
    | succ m ih =>
      intro j
      unfold nxTo
      rw [← used_zp (pt := pt) X.rows, ← used_zp (pt := pt) U.rows, h.rows, h.len, h.gens, ih]
  unfold nextF
  rw [key, h.gens]
theorem LK.place (h : LK pt X U) (i : Int) : placeN X.rows i = placeN U.rows i := by
  unfold placeN
  rw [h.len, gtIx_congr i (fun j => (zp_iff.1 (h.row j)).1)]
theorem LK.bs (h : LK pt X U) (a n : Int) (j : Nat) : bsTo X a n j = bsTo U a n j := by
  have key : ∀ rows : List RowI, ((rows.take j).filter fun r => meetsB a n r.has).map (fun r => (r.ix, r.gen)) = (((rows.map (zp pt)).take j).filter fun r => meetsB a n r.has).map (fun r => (r.ix, r.gen)) := fun rows => by
    rw [← List.map_take, List.filter_map, List.map_map]
    rfl
  unfold bsTo
  rw [key X.rows, h.rows]
  exact (key U.rows).symm
theorem map_erase (f : RowI → RowI) : ∀ (l : List RowI) (k : Nat), (l.eraseIdx k).map f = (l.map f).eraseIdx k
  | [], _ => rfl
  | a :: l, 0 => rfl
  | a :: l, k + 1 => by simp [List.eraseIdx, map_erase f l k]
theorem LK.erase (h : LK pt X U) (k : Nat) : LK pt ⟨X.rows.eraseIdx k, X.gens⟩ ⟨U.rows.eraseIdx k, U.gens⟩ := ⟨h.gens, by rw [map_erase, map_erase, h.rows]⟩
theorem LK.set (h : LK pt X U) (k : Nat) {r r' : RowI} (e : zp pt r = zp pt r') : LK pt ⟨X.rows.set k r, X.gens⟩ ⟨U.rows.set k r', U.gens⟩ := ⟨h.gens, by rw [List.map_set, List.map_set, h.rows, e]⟩
theorem LK.ins (h : LK pt X U) (k : Nat) (r : RowI) (G : List Int) : LK pt ⟨insR X.rows k r, G⟩ ⟨insR U.rows k r, G⟩ := ⟨rfl, by
  unfold insR
  rw [List.map_append, List.map_append, List.map_cons, List.map_cons, List.map_take, List.map_take, List.map_drop, List.map_drop, h.rows]⟩
theorem zp_put {r r' : RowI} (h : zp pt r = zp pt r') (p n : Int) : zp pt (putR r p n) = zp pt (putR r' p n) := by
  obtain ⟨h1, h2, h3, h4⟩ := zp_iff.1 h
  refine zp_iff.2 ⟨h1, h2, ?_, fun k hk => ?_⟩
  · show bits .or .i64 r.has _ = bits .or .i64 r'.has _
    rw [h3]
  · show (if k = p.toNat then n else r.v k) = if k = p.toNat then n else r'.v k
    rw [h4 k hk]
theorem zp_drop {r r' : RowI} (h : zp pt r = zp pt r') (p : Int) : zp pt (dropR r p) = zp pt (dropR r' p) := by
  obtain ⟨h1, h2, h3, h4⟩ := zp_iff.1 h
  refine zp_iff.2 ⟨h1, h2, ?_, fun k hk => ?_⟩
  · show bits .andNot .i64 r.has _ = bits .andNot .i64 r'.has _
    rw [h3]
  · show (if k = p.toNat then 0 else r.v k) = if k = p.toNat then 0 else r'.v k
    rw [h4 k hk]
def Two (pt : Nat) (a b : Int × Wd) : Prop := a.1 = b.1 ∧ LK pt a.2 b.2
theorem ch_right (hX : RightW X) (i g : Int) (C : RowI → RowI × Bool × Int) : chF X i g C = if findW X i g < 0 then (5, emptyW) else if (C (X.rows.getD (findW X i g).toNat dR)).2.2 ≠ 0 then ((C (X.rows.getD (findW X i g).toNat dR)).2.2, emptyW) else (0, ⟨X.rows.set (findW X i g).toNat (C (X.rows.getD (findW X i g).toNat dR)).1, X.gens⟩) := by
  unfold chF
  exact if_neg (by rw [(right_iff X).2 hX]; simp)
theorem kill_right (hX : RightW X) (i g : Int) : killF X i g = if findW X i g < 0 then (5, emptyW) else (0, ⟨X.rows.eraseIdx (findW X i g).toNat, X.gens⟩) := by
  unfold killF
  exact if_neg (by rw [(right_iff X).2 hX]; simp)
theorem spawn_right (hX : RightW X) (has n : Int) : spawnF X has n = if (setB has && valB n) = false then (3, (0, 0), emptyW) else if (nextF X).2 ≠ 0 then ((nextF X).2, (0, 0), emptyW) else (0, (nextF X).1, ⟨insR X.rows (placeN X.rows (nextF X).1.1) (newR (nextF X).1.1 (nextF X).1.2 has n), gensF X.gens (nextF X).1.1 (nextF X).1.2⟩) := by
  unfold spawnF
  exact if_neg (by rw [(right_iff X).2 hX]; simp)
theorem ch_two (h : LK pt X U) (hX : RightW X) (hU : RightW U) (i g : Int) (C : RowI → RowI × Bool × Int) (hC : ∀ r r', zp pt r = zp pt r' → (C r).2.2 = (C r').2.2 ∧ ((C r).2.2 = 0 → zp pt (C r).1 = zp pt (C r').1)) : Two pt (chF X i g C) (chF U i g C) := by
  rw [ch_right hX, ch_right hU, ← h.find i g]
  by_cases c : findW X i g < 0
  · rw [if_pos c, if_pos c]
    exact ⟨rfl, LK.refl _ _⟩
  · rw [if_neg c, if_neg c]
    obtain ⟨e1, e2⟩ := hC _ _ (h.row (findW X i g).toNat)
    by_cases e : (C (X.rows.getD (findW X i g).toNat dR)).2.2 = 0
    · have e' : (C (U.rows.getD (findW X i g).toNat dR)).2.2 = 0 := e1 ▸ e
      rw [if_neg (Decidable.not_not.2 e), if_neg (Decidable.not_not.2 e')]
      exact ⟨rfl, h.set _ (e2 e)⟩
    · have e' : (C (U.rows.getD (findW X i g).toNat dR)).2.2 ≠ 0 := e1 ▸ e
      rw [if_pos e, if_pos e']
      exact ⟨e1, LK.refl _ _⟩
def blindY (pt : Nat) (y : ActI) : Prop := (y.k = 2 ∨ y.k = 3 → y.f.toNat ≠ pt) ∧ (y.k = 3 ∨ y.k = 4 → y.p.toNat ≠ pt)
theorem LK.amt (h : LK pt X U) (i g : Int) {y : ActI} (hy : blindY pt y) : amtF X i g y = amtF U i g y := by
  unfold amtF
  split
  · rename_i e; exact h.get i g (hy.1 (.inl e))
  · split
    · rename_i e; rw [h.get i g (hy.2 (.inl e)), h.get i g (hy.1 (.inr e))]
    · split
      · rename_i e; rw [h.get i g (hy.2 (.inr e))]
      · rfl
theorem act_two (h : LK pt X U) (hX : RightW X) (hU : RightW U) (i g : Int) {y : ActI} (hy : blindY pt y) : Two pt (actF X i g y) (actF U i g y) := by
  unfold actF
  by_cases k6 : y.k = 6
  · rw [if_pos k6, if_pos k6, kill_right hX, kill_right hU, ← h.find i g]
    by_cases c : findW X i g < 0
    · rw [if_pos c, if_pos c]
      exact ⟨rfl, LK.refl _ _⟩
    · rw [if_neg c, if_neg c]
      exact ⟨rfl, h.erase _⟩
  · rw [if_neg k6, if_neg k6]
    by_cases k7 : y.k = 7
    · rw [if_pos k7, if_pos k7, spawn_right hX, spawn_right hU, ← h.next, ← h.place, ← h.gens]
      by_cases c : (setB y.p && valB y.n) = false
      · rw [if_pos c, if_pos c]
        exact ⟨rfl, LK.refl _ _⟩
      · rw [if_neg c, if_neg c]
        by_cases c2 : (nextF X).2 = 0
        · rw [if_neg (Decidable.not_not.2 c2), if_neg (Decidable.not_not.2 c2)]
          exact ⟨rfl, h.ins _ _ _⟩
        · rw [if_pos c2, if_pos c2]
          exact ⟨rfl, LK.refl _ _⟩
    · rw [if_neg k7, if_neg k7]
      by_cases k5 : y.k = 5
      · rw [if_pos k5, if_pos k5, ← h.has i g y.p]
        by_cases c : (getW X i g y.p).2 = true
        · rw [if_pos c, if_pos c]
          refine ch_two h hX hU i g _ fun r r' e => ?_
          have h3 := (zp_iff.1 e).2.2.1
          unfold dropC
          rw [h3]
          by_cases c2 : hasI r'.has y.p = true
          · rw [if_pos c2, if_pos c2]
            exact ⟨rfl, fun _ => zp_drop e _⟩
          · rw [if_neg c2, if_neg c2]
            exact ⟨rfl, fun _ => rfl⟩
        · rw [if_neg c, if_neg c]
          exact ⟨rfl, h⟩
      · rw [if_neg k5, if_neg k5, ← h.amt i g hy]
        refine ch_two h hX hU i g _ fun r r' e => ?_
        unfold putC
        by_cases c2 : (partB y.p && valB (clipI (amtF X i g y))) = true
        · rw [if_pos c2, if_pos c2]
          exact ⟨rfl, fun _ => zp_put e _ _⟩
        · rw [if_neg c2, if_neg c2]
          exact ⟨rfl, fun _ => rfl⟩
end
theorem turn_two {pt : Nat} (i g : Int) (a : Nat → ActI) (N : Nat) (ha : ∀ j, j < N → blindY pt (a j)) : ∀ n j X U, j + n ≤ N → LK pt X U → RightW X → RightW U → Two pt (turnTo i g a n j X) (turnTo i g a n j U)
  | 0, _, X, U, _, h, _, _ => ⟨rfl, h⟩
  | n + 1, j, X, U, hN, h, hX, hU => by
    obtain ⟨e1, e2⟩ := act_two h hX hU i g (ha j (by omega))
    unfold turnTo
    by_cases e : (actF X i g (a j)).1 = 0
    · have e' : (actF U i g (a j)).1 = 0 := by rw [← e1]; exact e
      rw [if_neg (Decidable.not_not.2 e), if_neg (show ¬ ((actF U i g (a j)).1 ≠ 0) from Decidable.not_not.2 e')]
      by_cases k6 : (a j).k = 6
      · rw [if_pos k6, if_pos k6]
        exact ⟨rfl, e2⟩
      · rw [if_neg k6, if_neg k6]
        exact turn_two i g a N ha n (j + 1) _ _ (by omega) e2 (act_right hX e) (act_right hU e')
    · have e' : (actF U i g (a j)).1 ≠ 0 := e1 ▸ e
      rw [if_pos e, if_pos e']
      exact ⟨e1, LK.refl _ _⟩
theorem runTo_two {pt : Nat} (a : Nat → ActI) (len : Nat) (ha : ∀ j, j < len → blindY pt (a j)) : ∀ l X U, LK pt X U → RightW X → RightW U → Two pt (runTo a len l X) (runTo a len l U)
  | [], X, U, h, _, _ => ⟨rfl, h⟩
  | b :: l, X, U, h, hX, hU => by
    obtain ⟨e1, e2⟩ := turn_two b.1 b.2 a len ha len 0 X U (by omega) h hX hU
    rw [runTo_cons, runTo_cons]
    by_cases e : (turnTo b.1 b.2 a len 0 X).1 = 0
    · have e' : (turnTo b.1 b.2 a len 0 U).1 = 0 := by rw [← e1]; exact e
      rw [if_neg (Decidable.not_not.2 e), if_neg (show ¬ ((turnTo b.1 b.2 a len 0 U).1 ≠ 0) from Decidable.not_not.2 e')]
      exact runTo_two a len ha l _ _ e2 (turn_right _ _ _ _ _ _ hX e) (turn_right _ _ _ _ _ _ hU e')
    · have e' : (turnTo b.1 b.2 a len 0 U).1 ≠ 0 := e1 ▸ e
      rw [if_pos e, if_pos e']
      exact ⟨e1, LK.refl _ _⟩
theorem blind_of {pt : Nat} {m al no : Int} {a : Nat → ActI} {len : Nat} (hw : (wrF m al no a len).1 = 0) (hb : bt (rdTo a len) pt = false) {j : Nat} (hj : j < len) : blindY pt (a j) := by
  obtain ⟨_, _, hok⟩ := (right_spec m al no a len).1 hw
  obtain ⟨hg, h1, h8⟩ := wa_range _ _ _ _ _ (hok j hj)
  refine ⟨fun h e => ?_, fun h e => ?_⟩
  · have hf : partB (a j).f = true := by
      unfold rgB at hg
      rw [if_neg (by omega), if_pos h] at hg
      exact (Bool.and_eq_true _ _ ▸ hg).2
    have hf8 : 0 ≤ (a j).f ∧ (a j).f < 8 := by unfold partB at hf; exact of_decide_eq_true hf
    have : bt (rdTo a len) (a j).f.toNat = true := rd_mem a len j hj (by
      unfold rdI
      rcases h with h | h
      · rw [if_pos h, bt_or, bt_bit hf (by omega)]; simp
      · rw [if_neg (by omega), if_pos h, bt_or, bt_or, bt_bit hf (by omega)]; simp)
    rw [e, hb] at this
    cases this
  · have hp : partB (a j).p = true := rg_part hg (by omega) (by omega) h1 h8
    have hp8 : 0 ≤ (a j).p ∧ (a j).p < 8 := by unfold partB at hp; exact of_decide_eq_true hp
    have : bt (rdTo a len) (a j).p.toNat = true := rd_mem a len j hj (by
      unfold rdI
      rw [if_neg (by omega)]
      split
      · rw [bt_or, bt_bit hp (by omega)]; simp
      · rw [if_pos (by omega), bt_or, bt_bit hp (by omega)]; simp)
    rw [e, hb] at this
    cases this
theorem blind {pt : Nat} {X U : Wd} (h : LK pt X U) (hX : RightW X) (hU : RightW U) {s : SysI} (hw : (wrF s.m s.al s.no s.a s.len).1 = 0) (hb : bt (rdTo s.a s.len) pt = false) : Two pt (runS X s) (runS U s) := by
  unfold runS runF
  rw [if_neg (Decidable.not_not.2 hw), if_neg (Decidable.not_not.2 hw), h.bs, h.len]
  exact runTo_two s.a s.len (fun j hj => blind_of hw hb hj) _ _ _ h hX hU
end Go.Proofs.Ytnbleebilmghcab
