/- Of two systems that don't clash it is no matter which runs first. -/
import Derived.Test.YtnbleebilmghcabZRnWr
import Derived.Test.YtnbleebilmghcabQX
set_option linter.all false
namespace Go.Proofs.Ytnbleebilmghcab
open Go Go.RowKit
def gR (r : RowI) (p : Int) : Int := if hasI r.has p = true then r.v p.toNat else 0
def amR (r : RowI) (y : ActI) : Int := if y.k = 2 then gR r y.f else if y.k = 3 then IntKind.i64.wrap (gR r y.p + gR r y.f) else if y.k = 4 then IntKind.i64.wrap (gR r y.p + y.n) else y.n
def stR (r : RowI) (y : ActI) : RowI := putR r y.p (clipI (amR r y))
def stTo (a : Nat → ActI) : Nat → Nat → RowI → RowI
  | 0, _, r => r
  | n + 1, j, r => stTo a n (j + 1) (stR r (a j))
theorem getw_at {X : Wd} {i g p : Int} {k : Nat} (hf : findW X i g = (k : Int)) : (getW X i g p).1 = gR (rowOf X k) p := by
  have hf' : fIx (fun j => X.rows.getD j dR) i g X.rows.length 0 = (k : Int) := hf
  unfold getW getI gR
  rw [hf', if_neg (by omega), Int.toNat_natCast]
  show (if hasI (rowOf X k).has p then ((rowOf X k).v p.toNat, true) else (0, false)).1 = _
  split <;> rfl
theorem amt_at {X : Wd} {i g : Int} {k : Nat} (hf : findW X i g = (k : Int)) (y : ActI) : amtF X i g y = amR (rowOf X k) y := by
  unfold amtF amR
  simp only [getw_at hf]
theorem val_clip (n : Int) : valB (clipI n) = true := by
  unfold valB clipI
  refine decide_eq_true ?_
  split
  · omega
  · split <;> omega
def putsY (y : ActI) : Prop := y.k ≠ 5 ∧ y.k ≠ 6 ∧ y.k ≠ 7 ∧ partB y.p = true
theorem act_row {X : Wd} (hr : RightW X) {i g : Int} {k : Nat} (hf : findW X i g = (k : Int)) {y : ActI} (hy : putsY y) : actF X i g y = (0, ⟨X.rows.set k (stR (rowOf X k) y), X.gens⟩) := by
  unfold actF
  rw [if_neg hy.2.1, if_neg hy.2.2.1, if_neg hy.1, amt_at hf]
  unfold putF chF
  rw [hf, Int.toNat_natCast]
  have e : putC (rowOf X k) y.p (clipI (amR (rowOf X k) y)) = (putR (rowOf X k) y.p (clipI (amR (rowOf X k) y)), true, 0) := by unfold putC; rw [hy.2.2.2, val_clip]; rfl
  rw [if_neg (by rw [(right_iff X).2 hr]; simp), if_neg (by omega)]
  have e2 : ¬ ((putC (rowOf X k) y.p (clipI (amR (rowOf X k) y))).2.2 ≠ 0) := by rw [e]; simp
  refine (if_neg e2).trans ?_
  show (0, (⟨X.rows.set k (putC (rowOf X k) y.p (clipI (amR (rowOf X k) y))).1, X.gens⟩ : Wd)) = _
  rw [e]
  rfl
theorem set_row (X : Wd) {k : Nat} (hk : k < X.rows.length) : X.rows.set k (rowOf X k) = X.rows := by
  unfold rowOf
  rw [List.getD_eq_getElem?_getD, List.getElem?_eq_getElem hk, Option.getD_some, List.set_getElem_self]
theorem turn_row (i g : Int) (a : Nat → ActI) (N : Nat) (ha : ∀ j, j < N → putsY (a j)) {k : Nat} : ∀ n j X, j + n ≤ N → RightW X → k < X.rows.length → findW X i g = (k : Int) → turnTo i g a n j X = (0, ⟨X.rows.set k (stTo a n j (rowOf X k)), X.gens⟩)
  | 0, j, X, _, _, hk, _ => by
    unfold turnTo stTo
    rw [set_row X hk]
  | n + 1, j, X, hN, hr, hk, hf => by
    have hy := ha j (by omega)
    have e := act_row hr hf hy
    have h0 : (actF X i g (a j)).1 = 0 := by rw [e]
    have hr' := act_right hr h0
    obtain ⟨hf1, hf2⟩ : (rowOf X k).ix = i ∧ (rowOf X k).gen = g := by
      rcases find_cases X i g with e | ⟨k', _, e, h1, h2⟩
      · omega
      · have : k' = k := by omega
        subst this; exact ⟨h1, h2⟩
    rw [e] at hr'
    have hf' := set_find hr hk hf1 hf2 hr' hf1 hf2
    unfold turnTo
    rw [h0, if_neg (by simp), if_neg hy.2.1, e, turn_row i g a N ha n (j + 1) _ (by omega) hr' (by simpa using hk) hf']
    rw [rowOf_set X k _ _ k hk, if_pos rfl, List.set_set]
    rfl
theorem runTo_cons (a : Nat → ActI) (len : Nat) (b : Int × Int) (l : List (Int × Int)) (X : Wd) : runTo a len (b :: l) X = if (turnTo b.1 b.2 a len 0 X).1 ≠ 0 then ((turnTo b.1 b.2 a len 0 X).1, emptyW) else runTo a len l (turnTo b.1 b.2 a len 0 X).2 := rfl
theorem runTo_append (a : Nat → ActI) (len : Nat) : ∀ l1 l2 X, (runTo a len l1 X).1 = 0 → runTo a len (l1 ++ l2) X = runTo a len l2 (runTo a len l1 X).2
  | [], l2, X, _ => rfl
  | b :: l1, l2, X, h => by
    rw [List.cons_append, runTo_cons a len b (l1 ++ l2), runTo_cons a len b l1]
    rw [runTo_cons a len b l1] at h
    by_cases e : (turnTo b.1 b.2 a len 0 X).1 = 0
    · rw [if_neg (by simpa using e)] at h ⊢
      rw [if_neg (by simpa using e)]
      exact runTo_append a len l1 l2 _ h
    · rw [if_pos e] at h; exact absurd h e
def rowF (al no : Int) (a : Nat → ActI) (len : Nat) (r : RowI) : RowI := if meetsB al no r.has = true then stTo a len 0 r else r
structure Rowed (X Z : Wd) (F : RowI → RowI) (j : Nat) : Prop where
  right : RightW Z
  gens : Z.gens = X.gens
  len : Z.rows.length = X.rows.length
  row : ∀ t, t < X.rows.length → rowOf Z t = if t < j then F (rowOf X t) else rowOf X t
theorem run_rows {X : Wd} (hr : RightW X) (al no : Int) (a : Nat → ActI) (len : Nat) (ha : ∀ j, j < len → putsY (a j)) : ∀ j, j ≤ X.rows.length → ∃ Z, runTo a len (bsTo X al no j) X = (0, Z) ∧ Rowed X Z (rowF al no a len) j
  | 0, _ => ⟨X, by unfold bsTo; simp [runTo], hr, rfl, rfl, fun t _ => by rw [if_neg (by omega)]⟩
  | j + 1, hj => by
    obtain ⟨Z, hZ, hR⟩ := run_rows hr al no a len ha j (by omega)
    have hrow := hR.row j (by omega)
    rw [if_neg (by omega)] at hrow
    have ej : X.rows.getD j dR = rowOf X j := rfl
    rw [bsTo_succ X al no j (by omega), ej]
    by_cases hm : meetsB al no (rowOf X j).has = true
    · rw [if_pos hm, runTo_append a len _ _ X (by rw [hZ]), hZ]
      have hjZ : j < Z.rows.length := by rw [hR.len]; omega
      have hf := find_at hR.right hjZ
      rw [hrow] at hf
      have ht := turn_row (rowOf X j).ix (rowOf X j).gen a len ha len 0 Z (by omega) hR.right hjZ hf
      have hr2 := turn_right _ _ _ _ _ _ hR.right (show (turnTo (rowOf X j).ix (rowOf X j).gen a len 0 Z).1 = 0 by rw [ht])
      refine ⟨⟨Z.rows.set j (stTo a len 0 (rowOf Z j)), Z.gens⟩, ?_, by rw [ht] at hr2; exact hr2, hR.gens, by simpa using hR.len, fun t ht' => ?_⟩
      · unfold runTo runTo
        dsimp only
        rw [ht, if_neg (by simp)]
      · rw [rowOf_set Z j _ _ t (by rw [hR.len]; exact ht')]
        by_cases e : t = j
        · subst e
          rw [if_pos rfl, if_pos (by omega), hrow]
          unfold rowF
          rw [if_pos hm]
        · rw [if_neg e, hR.row t ht']
          by_cases e2 : t < j
          · rw [if_pos e2, if_pos (by omega)]
          · rw [if_neg e2, if_neg (by omega)]
    · rw [if_neg hm]
      refine ⟨Z, hZ, hR.right, hR.gens, hR.len, fun t ht' => ?_⟩
      rw [hR.row t ht']
      by_cases e2 : t < j
      · rw [if_pos e2, if_pos (by omega)]
      · by_cases e : t = j
        · subst e
          rw [if_neg e2, if_pos (by omega)]
          unfold rowF
          rw [if_neg hm]
        · rw [if_neg e2, if_neg (by omega)]
structure Calm (al ws rd : Int) (y : ActI) : Prop where
  put : putsY y
  al : bt al y.p.toNat = true
  wr : bt ws y.p.toNat = true
  rf : y.k = 2 ∨ y.k = 3 → bt rd y.f.toNat = true
  rp : y.k = 3 ∨ y.k = 4 → bt rd y.p.toNat = true
theorem rd_mem (a : Nat → ActI) {k : Nat} : ∀ n j, j < n → bt (rdI (a j).k (a j).p (a j).f) k = true → bt (rdTo a n) k = true
  | 0, j, h, _ => by omega
  | n + 1, j, h, hb => by
    unfold rdTo
    rw [bt_or, Bool.or_eq_true]
    by_cases e : j = n
    · subst e; exact .inr hb
    · exact .inl (rd_mem a n j (by omega) hb)
theorem calm_of {m al no : Int} {a : Nat → ActI} {len : Nat} (hw : (wrF m al no a len).1 = 0) (hm : mvTo al a len = false) (hl : lfTo a len = false) {j : Nat} (hj : j < len) : Calm al (wrTo a len) (rdTo a len) (a j) := by
  obtain ⟨hh, _, hok⟩ := (right_spec m al no a len).1 hw
  have hal : setB al = true := by
    unfold headB at hh
    rw [Bool.and_eq_true, Bool.and_eq_true] at hh
    exact hh.1.2
  have hwa : waI (a j).k (a j).p (a j).f (a j).n (rbTo al a j) = 0 := hok j hj
  obtain ⟨hg, h1, h8⟩ := wa_range _ _ _ _ _ hwa
  have hrd : inB (rdI (a j).k (a j).p (a j).f) (rbTo al a j) = true := by
    unfold waI at hwa
    rw [if_neg (by omega), if_neg (by rw [hg]; simp)] at hwa
    split at hwa
    · exact absurd hwa (by decide)
    · rename_i e; simpa using e
  have h6 : (a j).k ≠ 6 := fun e => by rw [lf_mem a len j hj (.inl e)] at hl; cases hl
  have h7 : (a j).k ≠ 7 := fun e => by rw [lf_mem a len j hj (.inr e)] at hl; cases hl
  have hmv : mvB (a j).k (a j).p al = false := by
    cases e : mvB (a j).k (a j).p al with
    | false => rfl
    | true => rw [mv_mem al a len j hj e] at hm; cases hm
  have h5 : (a j).k ≠ 5 := fun e => by unfold mvB at hmv; rw [if_neg (by omega)] at hmv; simp [e] at hmv
  have hp := rg_part hg h6 h7 h1 h8
  have hp8 : 0 ≤ (a j).p ∧ (a j).p < 8 := by unfold partB at hp; exact of_decide_eq_true hp
  have hrp : (a j).k = 3 ∨ (a j).k = 4 → bt (rdI (a j).k (a j).p (a j).f) (a j).p.toNat = true := fun h => by
    unfold rdI
    rw [if_neg (by omega)]
    split
    · rw [bt_or, bt_bit hp (by omega)]; simp
    · rw [if_pos (by omega), bt_or, bt_bit hp (by omega)]; simp
  refine ⟨⟨h5, h6, h7, hp⟩, ?_, wr_mem a len j hj (bt_wrI (by omega) hp), fun h => rd_mem a len j hj ?_, fun h => rd_mem a len j hj (hrp h)⟩
  · by_cases h12 : (a j).k = 1 ∨ (a j).k = 2
    · unfold mvB at hmv
      rw [if_pos h12] at hmv
      exact and_bit hal hp (by simpa using hmv)
    · exact rb_al al a j _ (inB_bt hrd (by omega) (hrp (by omega)))
  · have hf : partB (a j).f = true := by
      unfold rgB at hg
      rw [if_neg (by omega), if_pos h] at hg
      exact (Bool.and_eq_true _ _ ▸ hg).2
    have hf8 : 0 ≤ (a j).f ∧ (a j).f < 8 := by unfold partB at hf; exact of_decide_eq_true hf
    unfold rdI
    rcases h with h | h
    · rw [if_pos h, bt_or, bt_bit hf (by omega)]; simp
    · rw [if_neg (by omega), if_pos h, bt_or, bt_or, bt_bit hf (by omega)]; simp
section
variable {al ws rd : Int} {a : Nat → ActI} {N : Nat}
theorem stR_has {r : RowI} {y : ActI} (hy : Calm al ws rd y) (hs : setB r.has = true) (hq : ∀ k, k < 8 → bt al k = true → bt r.has k = true) : (stR r y).has = r.has := by
  have hp := hy.put.2.2.2
  have hp8 : 0 ≤ y.p ∧ y.p < 8 := by unfold partB at hp; exact of_decide_eq_true hp
  exact or_self hs hp (hq _ (by omega) hy.al)
theorem st_has (ha : ∀ j, j < N → Calm al ws rd (a j)) : ∀ n j r, j + n ≤ N → setB r.has = true → (∀ k, k < 8 → bt al k = true → bt r.has k = true) → (stTo a n j r).has = r.has
  | 0, _, r, _, _, _ => rfl
  | n + 1, j, r, hN, hs, hq => by
    have e := stR_has (ha j (by omega)) hs hq
    unfold stTo
    rw [st_has ha n (j + 1) _ (by omega) (by rw [e]; exact hs) (by rw [e]; exact hq), e]
theorem st_out (ha : ∀ j, j < N → Calm al ws rd (a j)) {k : Nat} (hk : bt ws k = false) : ∀ n j r, j + n ≤ N → (stTo a n j r).v k = r.v k
  | 0, _, r, _ => rfl
  | n + 1, j, r, hN => by
    unfold stTo
    rw [st_out ha hk n (j + 1) _ (by omega)]
    show (if k = (a j).p.toNat then _ else r.v k) = _
    rw [if_neg]
    intro e
    have := (ha j (by omega)).wr
    rw [← e, hk] at this
    cases this
theorem st_id (a : Nat → ActI) : ∀ n j r, (stTo a n j r).ix = r.ix ∧ (stTo a n j r).gen = r.gen
  | 0, _, r => ⟨rfl, rfl⟩
  | n + 1, j, r => by
    unfold stTo
    exact st_id a n (j + 1) _
def AlikeR (ws rd : Int) (r r' : RowI) : Prop := r.has = r'.has ∧ ∀ k, bt ws k = true ∨ bt rd k = true → r.v k = r'.v k
theorem gR_same {r r' : RowI} (h : AlikeR ws rd r r') {p : Int} (hp : bt rd p.toNat = true) : gR r p = gR r' p := by
  unfold gR
  rw [h.1, h.2 _ (.inr hp)]
theorem stR_same {r r' : RowI} {y : ActI} (hy : Calm al ws rd y) (h : AlikeR ws rd r r') : AlikeR ws rd (stR r y) (stR r' y) := by
  have e : amR r y = amR r' y := by
    unfold amR
    split
    · rename_i e; exact gR_same h (hy.rf (.inl e))
    · split
      · rename_i e; rw [gR_same h (hy.rp (.inl e)), gR_same h (hy.rf (.inr e))]
      · split
        · rename_i e; rw [gR_same h (hy.rp (.inr e))]
        · rfl
  refine ⟨?_, fun k hk => ?_⟩
  · show bits .or .i64 r.has _ = bits .or .i64 r'.has _
    rw [h.1]
  · show (if k = y.p.toNat then clipI (amR r y) else r.v k) = (if k = y.p.toNat then clipI (amR r' y) else r'.v k)
    rw [e, h.2 k hk]
theorem st_same (ha : ∀ j, j < N → Calm al ws rd (a j)) : ∀ n j r r', j + n ≤ N → AlikeR ws rd r r' → AlikeR ws rd (stTo a n j r) (stTo a n j r')
  | 0, _, r, r', _, h => h
  | n + 1, j, r, r', hN, h => by
    unfold stTo
    exact st_same ha n (j + 1) _ _ (by omega) (stR_same (ha j (by omega)) h)
end
theorem row_ext {r r' : RowI} (h1 : r.ix = r'.ix) (h2 : r.gen = r'.gen) (h3 : r.has = r'.has) (h4 : ∀ k, r.v k = r'.v k) : r = r' := by
  cases r; cases r'
  simp only at h1 h2 h3 h4
  subst h1 h2 h3
  have : _ = _ := funext h4
  rw [this]
section
variable {al ws rd al' ws' rd' no no' : Int} {a a' : Nat → ActI} {N N' : Nat}
theorem rowF_comm (ha : ∀ j, j < N → Calm al ws rd (a j)) (ha' : ∀ j, j < N' → Calm al' ws' rd' (a' j)) (hd : ∀ k, bt ws k = true → bt ws' k = false ∧ bt rd' k = false) (hd' : ∀ k, bt ws' k = true → bt ws k = false ∧ bt rd k = false) {r : RowI} (hs : setB r.has = true) :
    rowF al' no' a' N' (rowF al no a N r) = rowF al no a N (rowF al' no' a' N' r) := by
  have hq : meetsB al no r.has = true → ∀ k, k < 8 → bt al k = true → bt r.has k = true := fun h k hk => meets_bt h (by omega)
  have hq' : meetsB al' no' r.has = true → ∀ k, k < 8 → bt al' k = true → bt r.has k = true := fun h k hk => meets_bt h (by omega)
  unfold rowF
  by_cases h1 : meetsB al no r.has = true <;> by_cases h2 : meetsB al' no' r.has = true
  · have e1 := st_has ha N 0 r (by omega) hs (hq h1)
    have e2 := st_has ha' N' 0 r (by omega) hs (hq' h2)
    have e3 := st_has ha' N' 0 (stTo a N 0 r) (by omega) (by rw [e1]; exact hs) (by rw [e1]; exact hq' h2)
    have e4 := st_has ha N 0 (stTo a' N' 0 r) (by omega) (by rw [e2]; exact hs) (by rw [e2]; exact hq h1)
    rw [if_pos h1, if_pos h2, e1, e2, if_pos h1, if_pos h2]
    refine row_ext ?_ ?_ (by rw [e3, e4, e1, e2]) fun k => ?_
    · rw [(st_id a' N' 0 _).1, (st_id a N 0 _).1, (st_id a N 0 _).1, (st_id a' N' 0 _).1]
    · rw [(st_id a' N' 0 _).2, (st_id a N 0 _).2, (st_id a N 0 _).2, (st_id a' N' 0 _).2]
    · have s1 : AlikeR ws rd r (stTo a' N' 0 r) := ⟨e2.symm, fun q hq => by
        refine (st_out ha' ?_ N' 0 r (by omega)).symm
        cases e : bt ws' q with
        | false => rfl
        | true => have := hd' q e; rcases hq with h | h <;> simp_all⟩
      have s2 : AlikeR ws' rd' r (stTo a N 0 r) := ⟨e1.symm, fun q hq => by
        refine (st_out ha ?_ N 0 r (by omega)).symm
        cases e : bt ws q with
        | false => rfl
        | true => have := hd q e; rcases hq with h | h <;> simp_all⟩
      cases f1 : bt ws k with
      | true =>
        rw [st_out ha' (hd k f1).1 N' 0 _ (by omega)]
        exact (st_same ha N 0 _ _ (by omega) s1).2 k (.inl f1)
      | false =>
        rw [st_out ha f1 N 0 _ (by omega)]
        cases f2 : bt ws' k with
        | true => exact ((st_same ha' N' 0 _ _ (by omega) s2).2 k (.inl f2)).symm
        | false => rw [st_out ha' f2 N' 0 _ (by omega), st_out ha' f2 N' 0 _ (by omega), st_out ha f1 N 0 _ (by omega)]
  · have e1 := st_has ha N 0 r (by omega) hs (hq h1)
    rw [if_pos h1, if_neg h2, e1, if_neg h2, if_pos h1]
  · have e2 := st_has ha' N' 0 r (by omega) hs (hq' h2)
    rw [if_neg h1, if_pos h2, e2, if_neg h1]
  · rw [if_neg h1, if_neg h2, if_neg h1]
end
theorem ds_bt {u r v : Int} (h : dsB u r v = false) {k : Nat} (hk : bt u k = true) : bt r k = false ∧ bt v k = false := by
  unfold dsB at h
  have h : bits .and .i64 u (bits .or .i64 r v) = 0 := by simpa using h
  have e : bt (bits .and .i64 u (bits .or .i64 r v)) k = false := by rw [h]; exact bt_zero k
  rw [bt_and, bt_or, hk, Bool.true_and, Bool.or_eq_false_iff] at e
  exact e
theorem wd_ext {X Y : Wd} (hg : X.gens = Y.gens) (hl : X.rows.length = Y.rows.length) (h : ∀ t, t < X.rows.length → rowOf X t = rowOf Y t) : X = Y := by
  cases X with | mk xr xg => cases Y with | mk yr yg =>
  simp only at hg hl
  subst hg
  congr 1
  refine List.ext_getElem hl fun t h1 h2 => ?_
  have := h t h1
  unfold rowOf at this
  simpa [List.getD_eq_getElem?_getD, List.getElem?_eq_getElem h1, List.getElem?_eq_getElem h2] using this
theorem run_rowed {X : Wd} (hr : RightW X) {s : SysI} (hw : (wrF s.m s.al s.no s.a s.len).1 = 0) (ha : ∀ j, j < s.len → putsY (s.a j)) : ∃ Z, runS X s = (0, Z) ∧ Rowed X Z (rowF s.al s.no s.a s.len) X.rows.length := by
  obtain ⟨Z, h1, h2⟩ := run_rows hr s.al s.no s.a s.len ha X.rows.length (Nat.le_refl _)
  refine ⟨Z, ?_, h2⟩
  unfold runS runF
  rw [if_neg (by simpa using hw), h1]
theorem order {X : Wd} (hr : RightW X) {s t : SysI} (hs : (wrF s.m s.al s.no s.a s.len).1 = 0) (ht : (wrF t.m t.al t.no t.a t.len).1 = 0) (hc : clB s.al s.a s.len t.al t.a t.len = false) :
    ∃ Z, allTo (fun j => if j = 0 then s else t) 2 0 X = ((0, 0), Z) ∧ allTo (fun j => if j = 0 then t else s) 2 0 X = ((0, 0), Z) ∧ RightW Z := by
  unfold clB clN at hc
  simp only [Bool.or_eq_false_iff] at hc
  obtain ⟨m1, m2, l1, l2, d1, d2⟩ := hc
  have ca := fun j (hj : j < s.len) => calm_of hs m1 l1 hj
  have cb := fun j (hj : j < t.len) => calm_of ht m2 l2 hj
  have main : ∀ {s t : SysI}, (wrF s.m s.al s.no s.a s.len).1 = 0 → (wrF t.m t.al t.no t.a t.len).1 = 0 → (∀ j, j < s.len → putsY (s.a j)) → (∀ j, j < t.len → putsY (t.a j)) → ∃ Z, allTo (fun j => if j = 0 then s else t) 2 0 X = ((0, 0), Z) ∧ RightW Z ∧ Z.gens = X.gens ∧ Z.rows.length = X.rows.length ∧ ∀ q, q < X.rows.length → rowOf Z q = rowF t.al t.no t.a t.len (rowF s.al s.no s.a s.len (rowOf X q)) := by
    intro s t hs ht ca cb
    obtain ⟨Z1, h1, r1⟩ := run_rowed hr hs ca
    obtain ⟨Z2, h2, r2⟩ := run_rowed r1.right ht cb
    refine ⟨Z2, ?_, r2.right, r2.gens.trans r1.gens, r2.len.trans r1.len, fun q hq => ?_⟩
    · unfold allTo allTo allTo
      simp only [if_true, Nat.zero_add, Nat.succ_ne_zero, if_false, Nat.one_ne_zero, h1, h2, ne_eq, not_true_eq_false]
    · rw [r2.row q (by rw [r1.len]; exact hq), if_pos (by rw [r1.len]; exact hq), r1.row q hq, if_pos hq]
  obtain ⟨Z, e1, hZ, g1, n1, w1⟩ := main hs ht (fun j hj => (ca j hj).put) (fun j hj => (cb j hj).put)
  obtain ⟨Z', e2, _, g2, n2, w2⟩ := main ht hs (fun j hj => (cb j hj).put) (fun j hj => (ca j hj).put)
  have : Z' = Z := wd_ext (g2.trans g1.symm) (n2.trans n1.symm) fun q hq => by
    have hq : q < X.rows.length := by omega
    rw [w1 q hq, w2 q hq]
    exact (rowF_comm ca cb (fun k hk => (ds_bt d1 hk).symm) (fun k hk => (ds_bt d2 hk).symm) (rv_set (hr.rv q hq))).symm
  exact ⟨Z, e1, by rw [e2, this], hZ⟩
end Go.Proofs.Ytnbleebilmghcab
