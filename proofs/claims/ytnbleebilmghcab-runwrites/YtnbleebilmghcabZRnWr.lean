/- What a system does not write is as it was. -/
import Derived.Test.YtnbleebilmghcabQY
set_option linter.all false
namespace Go.Proofs.Ytnbleebilmghcab
open Go Go.RowKit
def bt (x : Int) (k : Nat) : Bool := (BitVec.ofInt 64 x).getLsbD k
theorem bt_or (x y : Int) (k : Nat) : bt (bits .or .i64 x y) k = (bt x k || bt y k) := by
  unfold bt; rw [of_or, BitVec.getLsbD_or]
theorem of_and (x y : Int) : BitVec.ofInt 64 (bits .and .i64 x y) = BitVec.ofInt 64 x &&& BitVec.ofInt 64 y := ofwrap _
theorem of_andNot (x y : Int) : BitVec.ofInt 64 (bits .andNot .i64 x y) = BitVec.ofInt 64 x &&& ~~~BitVec.ofInt 64 y := ofwrap _
theorem bt_and (x y : Int) (k : Nat) : bt (bits .and .i64 x y) k = (bt x k && bt y k) := by
  unfold bt; rw [of_and, BitVec.getLsbD_and]
theorem bt_andNot (x y : Int) (k : Nat) (h : k < 64) : bt (bits .andNot .i64 x y) k = (bt x k && !bt y k) := by
  unfold bt; rw [of_andNot, BitVec.getLsbD_and, BitVec.getLsbD_not]; simp [h]
theorem bt_zero (k : Nat) : bt 0 k = false := by unfold bt; simp
theorem bt_bitF : ∀ p : Fin 8, ∀ k : Fin 8, bt (bitI ((p.val : Nat) : Int)) k.val = decide (k.val = p.val) := by decide +kernel
theorem bt_bit {p : Int} (h : partB p = true) {k : Nat} (hk : k < 8) : bt (bitI p) k = decide (k = p.toNat) := by
  unfold partB at h
  have h := of_decide_eq_true h
  have := bt_bitF ⟨p.toNat, by omega⟩ ⟨k, hk⟩
  simp only [Int.toNat_of_nonneg h.1] at this
  exact this
theorem tb_btF : ∀ m : Fin 256, ∀ k : Fin 8, tb (m.val : Int) k.val = bt (m.val : Int) k.val := by decide +kernel
theorem tb_bt {x : Int} (h : setB x = true) {k : Nat} (hk : k < 8) : tb x k = bt x k := by
  unfold setB at h
  have h := of_decide_eq_true h
  obtain ⟨m, rfl⟩ := fin_of x h.1 h.2
  exact tb_btF m ⟨k, hk⟩
theorem or_selfF : ∀ m : Fin 256, ∀ k : Fin 8, bt (m.val : Int) k.val = true → bits .or .i64 (m.val : Int) (bitI ((k.val : Nat) : Int)) = (m.val : Int) := by decide +kernel
theorem or_self {x p : Int} (h : setB x = true) (hp : partB p = true) (hb : bt x p.toNat = true) : bits .or .i64 x (bitI p) = x := by
  unfold setB at h
  unfold partB at hp
  have h := of_decide_eq_true h
  have hp := of_decide_eq_true hp
  obtain ⟨m, rfl⟩ := fin_of x h.1 h.2
  have := or_selfF m ⟨p.toNat, by omega⟩ hb
  simp only [Int.toNat_of_nonneg hp.1] at this
  exact this
theorem and_bitF : ∀ m : Fin 256, ∀ k : Fin 8, bits .and .i64 (m.val : Int) (bitI ((k.val : Nat) : Int)) ≠ 0 → bt (m.val : Int) k.val = true := by decide +kernel
theorem and_bit {x p : Int} (h : setB x = true) (hp : partB p = true) (hb : bits .and .i64 x (bitI p) ≠ 0) : bt x p.toNat = true := by
  unfold setB at h
  unfold partB at hp
  have h := of_decide_eq_true h
  have hp := of_decide_eq_true hp
  obtain ⟨m, rfl⟩ := fin_of x h.1 h.2
  refine and_bitF m ⟨p.toNat, by omega⟩ ?_
  simp only [Int.toNat_of_nonneg hp.1]
  exact hb
theorem inB_bt {x y : Int} (h : inB x y = true) {k : Nat} (hk : k < 64) (hb : bt x k = true) : bt y k = true := by
  unfold inB at h
  have h := (andNotz x y).1 (by simpa using h)
  have e : (BitVec.ofInt 64 x &&& ~~~BitVec.ofInt 64 y).getLsbD k = false := by rw [h]; simp
  rw [BitVec.getLsbD_and, BitVec.getLsbD_not] at e
  unfold bt at hb ⊢
  rw [hb] at e
  simpa [hk] using e
theorem meets_bt {a n h : Int} (hm : meetsB a n h = true) {k : Nat} (hk : k < 64) (hb : bt a k = true) : bt h k = true := by
  unfold meetsB at hm
  rw [Bool.and_eq_true] at hm
  exact inB_bt (x := a) (y := h) hm.1 hk hb
theorem rb_al (al : Int) (a : Nat → ActI) : ∀ j k, bt (rbTo al a j) k = true → bt al k = true
  | 0, k, h => h
  | j + 1, k, h => by
    unfold rbTo at h
    rw [bt_and, Bool.and_eq_true] at h
    exact h.2
theorem wr_mem (a : Nat → ActI) {k : Nat} : ∀ n j, j < n → bt (wrI (a j).k (a j).p) k = true → bt (wrTo a n) k = true
  | 0, j, h, _ => by omega
  | n + 1, j, h, hb => by
    unfold wrTo
    rw [bt_or, Bool.or_eq_true]
    by_cases e : j = n
    · subst e; exact .inr hb
    · exact .inl (wr_mem a n j (by omega) hb)
theorem mv_mem (al : Int) (a : Nat → ActI) : ∀ n j, j < n → mvB (a j).k (a j).p al = true → mvTo al a n = true
  | 0, j, h, _ => by omega
  | n + 1, j, h, hb => by
    unfold mvTo
    rw [Bool.or_eq_true]
    by_cases e : j = n
    · subst e; exact .inr hb
    · exact .inl (mv_mem al a n j (by omega) hb)
theorem lf_mem (a : Nat → ActI) : ∀ n j, j < n → (a j).k = 6 ∨ (a j).k = 7 → lfTo a n = true
  | 0, j, h, _ => by omega
  | n + 1, j, h, hb => by
    unfold lfTo
    rw [Bool.or_eq_true]
    by_cases e : j = n
    · subst e; exact .inr (by simpa using hb)
    · exact .inl (lf_mem a n j (by omega) hb)
def AsW (al ws : Int) (mv : Bool) (r r' : RowI) : Prop := (∀ k : Nat, k < 8 → bt ws k = false → r'.v k = r.v k ∧ bt r'.has k = bt r.has k) ∧ (mv = false → (∀ k, k < 8 → bt al k = true → bt r.has k = true) → r'.has = r.has)
theorem AsW.refl (al ws : Int) (mv : Bool) (r : RowI) : AsW al ws mv r r := ⟨fun _ _ _ => ⟨rfl, rfl⟩, fun _ _ => rfl⟩
theorem AsW.trans (al ws : Int) (mv : Bool) (a b c : RowI) (h : AsW al ws mv a b) (h2 : AsW al ws mv b c) : AsW al ws mv a c :=
  ⟨fun k hk hw => ⟨(h2.1 k hk hw).1.trans (h.1 k hk hw).1, (h2.1 k hk hw).2.trans (h.1 k hk hw).2⟩, fun hm hq => by
    have e := h.2 hm hq
    rw [← e]
    exact h2.2 hm (by rw [e]; exact hq)⟩
theorem rg_part {k p f n : Int} (h : rgB k p f n = true) (h6 : k ≠ 6) (h7 : k ≠ 7) (h1 : 1 ≤ k) (h8 : k ≤ 7) : partB p = true := by
  unfold rgB at h
  split at h
  · exact (Bool.and_eq_true _ _ ▸ h).1
  · split at h
    · exact (Bool.and_eq_true _ _ ▸ h).1
    · split at h
      · exact h
      · omega
theorem bt_wrI {k p : Int} (hk : k = 1 ∨ k = 2 ∨ k = 3 ∨ k = 4 ∨ k = 5) (hp : partB p = true) : bt (wrI k p) p.toNat = true := by
  unfold wrI
  rw [if_pos hk, bt_or, bt_zero, Bool.false_or]
  unfold partB at hp
  have h := of_decide_eq_true hp
  rw [bt_bit (by unfold partB; exact hp) (by omega)]
  simp
theorem rv_set {x : RowI} (h : rvB x = true) : setB x.has = true := by
  unfold rvB at h
  rw [Bool.and_eq_true] at h
  exact h.1
theorem act_AsW {al no m : Int} {a : Nat → ActI} {len j : Nat} (hw : (wrF m al no a len).1 = 0) (hj : j < len) (h6 : (a j).k ≠ 6) {X : Wd} {i g : Int} {k : Nat} (hr : RightW X) (hk : k < X.rows.length) : AsW al (wrTo a len) (mvTo al a len) (rowOf X k) (rowA X i g (a j) (rowOf X k)) := by
  obtain ⟨hh, _, hok⟩ := (right_spec m al no a len).1 hw
  have hal : setB al = true := by
    unfold headB at hh
    rw [Bool.and_eq_true, Bool.and_eq_true] at hh
    exact hh.1.2
  have hwa : waI (a j).k (a j).p (a j).f (a j).n (rbTo al a j) = 0 := hok j hj
  obtain ⟨hg, h1, h8⟩ := wa_range _ _ _ _ _ hwa
  have hrd : inB (rdI (a j).k (a j).p (a j).f) (rbTo al a j) = true := by
    unfold waI at hwa
    rw [if_neg (by omega), if_neg (by rw [hg]; simp)] at hwa
    split at hwa
    · exact absurd hwa (by decide)
    · rename_i e; simpa using e
  have hset : setB (rowOf X k).has = true := rv_set (hr.rv k hk)
  unfold rowA
  by_cases h7 : (a j).k = 7
  · rw [if_pos h7]; exact AsW.refl _ _ _ _
  · rw [if_neg h7]
    have hp := rg_part hg h6 h7 h1 h8
    have hp8 : 0 ≤ (a j).p ∧ (a j).p < 8 := by unfold partB at hp; exact of_decide_eq_true hp
    have hwm : bt (wrTo a len) (a j).p.toNat = true := wr_mem a len j hj (bt_wrI (by omega) hp)
    have hne : ∀ q : Nat, q < 8 → bt (wrTo a len) q = false → q ≠ (a j).p.toNat := fun q _ hq e => by rw [e, hwm] at hq; cases hq
    by_cases h5 : (a j).k = 5
    · rw [if_pos h5]
      split
      · refine ⟨fun q hq hb => ⟨by show (if q = (a j).p.toNat then (0 : Int) else _) = _; rw [if_neg (hne q hq hb)], ?_⟩, fun hm _ => ?_⟩
        · show bt (bits .andNot .i64 (rowOf X k).has (bitI (a j).p)) q = _
          rw [bt_andNot _ _ _ (by omega), bt_bit hp hq]
          simp [hne q hq hb]
        · have := mv_mem al a len j hj (by unfold mvB; rw [if_neg (by omega)]; simpa using h5)
          rw [hm] at this; cases this
      · exact AsW.refl _ _ _ _
    · rw [if_neg h5]
      refine ⟨fun q hq hb => ⟨by show (if q = (a j).p.toNat then _ else _) = _; rw [if_neg (hne q hq hb)], ?_⟩, fun hm hq => ?_⟩
      · show bt (bits .or .i64 (rowOf X k).has (bitI (a j).p)) q = _
        rw [bt_or, bt_bit hp hq]
        simp [hne q hq hb]
      · show bits .or .i64 (rowOf X k).has (bitI (a j).p) = _
        refine or_self hset hp (hq _ (by have := hp8.2; omega) ?_)
        by_cases h12 : (a j).k = 1 ∨ (a j).k = 2
        · have hmv : mvB (a j).k (a j).p al = false := by
            cases e : mvB (a j).k (a j).p al with
            | false => rfl
            | true => rw [mv_mem al a len j hj e] at hm; cases hm
          unfold mvB at hmv
          rw [if_pos h12] at hmv
          exact and_bit hal hp (by simpa using hmv)
        · refine rb_al al a j _ (inB_bt hrd (by have := hp8.2; omega) ?_)
          unfold rdI
          rw [if_neg (by omega)]
          split
          · rw [bt_or, bt_bit hp (by have := hp8.2; omega)]; simp
          · rw [if_pos (by omega), bt_or, bt_bit hp (by have := hp8.2; omega)]; simp
theorem runTo_gone (a : Nat → ActI) (len : Nat) (i g : Int) : ∀ l X, RightW X → (runTo a len l X).1 = 0 → Gone X i g → Gone (runTo a len l X).2 i g
  | [], X, _, _, h => h
  | b :: l, X, hr, h, hG => by
    unfold runTo at h ⊢
    by_cases e : (turnTo b.1 b.2 a len 0 X).1 = 0
    · rw [if_neg (by simpa using e)] at h ⊢
      exact runTo_gone a len i g l _ (turn_right _ _ _ _ _ _ hr e) h (turn_gone _ _ _ _ _ _ _ _ hr e hG)
    · rw [if_pos e] at h; exact absurd h e
theorem runTo_stays {al no m : Int} {a : Nat → ActI} {len : Nat} (hw : (wrF m al no a len).1 = 0) (i g : Int) : ∀ l X, RightW X → (runTo a len l X).1 = 0 → Stays (AsW al (wrTo a len) (mvTo al a len)) (lfTo a len = true) X (runTo a len l X).2 i g
  | [], X, _, _ => (Keeps.refl' _ _ _).stays (AsW.refl _ _ _)
  | b :: l, X, hr, h => by
    unfold runTo at h ⊢
    by_cases e : (turnTo b.1 b.2 a len 0 X).1 = 0
    · rw [if_neg (by simpa using e)] at h ⊢
      have hr' := turn_right _ _ _ _ _ _ hr e
      refine Stays.trans (AsW.trans _ _ _) ?_ (runTo_stays hw i g l _ hr' h) (fun hG => runTo_gone a len i g l _ hr' h hG)
      by_cases hb : (i, g) = b
      · subst hb
        exact turn_stays (AsW.refl _ _ _) (AsW.trans _ _ _) i g a len (fun j hj h6 => lf_mem a len j hj (.inl h6)) (fun j hj h6 X k hr hk _ _ => act_AsW hw hj h6 hr hk) len 0 X (by omega) hr e
      · exact (turn_keeps b.1 b.2 a i g hb len 0 X hr e).stays (AsW.refl _ _ _)
    · rw [if_pos e] at h; exact absurd h e
theorem act_len {X : Wd} {i g : Int} {y : ActI} (h : (actF X i g y).1 = 0) (h6 : y.k ≠ 6) (h7 : y.k ≠ 7) : (actF X i g y).2.rows.length = X.rows.length := by
  unfold actF at h ⊢
  rw [if_neg h6, if_neg h7] at h ⊢
  split
  · rename_i e; rw [if_pos e] at h
    split
    · rename_i e; rw [if_pos e] at h
      obtain ⟨_, k, _, _, _, _, _, e2, _⟩ := drop_spec h
      rw [e2]; simp
    · rfl
  · rename_i e; rw [if_neg e] at h
    obtain ⟨_, _, _, k, _, _, _, _, e2, _⟩ := put_spec h
    rw [e2]; simp
theorem turn_len (i g : Int) (a : Nat → ActI) (N : Nat) (hlf : lfTo a N = false) : ∀ n j X, j + n ≤ N → (turnTo i g a n j X).1 = 0 → (turnTo i g a n j X).2.rows.length = X.rows.length
  | 0, _, X, _, _ => rfl
  | n + 1, j, X, hN, h => by
    have hk : (a j).k ≠ 6 ∧ (a j).k ≠ 7 := by
      constructor <;> intro e
      · rw [lf_mem a N j (by omega) (.inl e)] at hlf; cases hlf
      · rw [lf_mem a N j (by omega) (.inr e)] at hlf; cases hlf
    unfold turnTo at h ⊢
    by_cases e : (actF X i g (a j)).1 = 0
    · rw [if_neg (by simpa using e), if_neg hk.1] at h ⊢
      exact (turn_len i g a N hlf n (j + 1) _ (by omega) h).trans (act_len e hk.1 hk.2)
    · rw [if_pos e] at h; exact absurd h e
theorem runTo_len (a : Nat → ActI) (len : Nat) (hlf : lfTo a len = false) : ∀ l X, (runTo a len l X).1 = 0 → (runTo a len l X).2.rows.length = X.rows.length
  | [], X, _ => rfl
  | b :: l, X, h => by
    unfold runTo at h ⊢
    by_cases e : (turnTo b.1 b.2 a len 0 X).1 = 0
    · rw [if_neg (by simpa using e)] at h ⊢
      exact (runTo_len a len hlf l _ h).trans (turn_len _ _ a len hlf len 0 X (by omega) e)
    · rw [if_pos e] at h; exact absurd h e
theorem mem_bs {X : Wd} {a n : Int} {i g : Int} (h : (i, g) ∈ bsTo X a n X.rows.length) : ∃ k : Nat, k < X.rows.length ∧ (rowOf X k).ix = i ∧ (rowOf X k).gen = g ∧ meetsB a n (rowOf X k).has = true := by
  unfold bsTo at h
  rw [List.take_length] at h
  obtain ⟨r, hr, e⟩ := List.mem_map.1 h
  obtain ⟨h1, h2⟩ := List.mem_filter.1 hr
  obtain ⟨k, hk, e2⟩ := List.getElem_of_mem h1
  have e3 : rowOf X k = r := by unfold rowOf; rw [List.getD_eq_getElem?_getD, List.getElem?_eq_getElem hk, Option.getD_some, e2]
  simp only [Prod.mk.injEq] at e
  exact ⟨k, hk, by rw [e3]; exact e.1, by rw [e3]; exact e.2, by rw [e3]; exact h2⟩
theorem writes {X : Wd} (hr : RightW X) {m al no : Int} {a : Nat → ActI} {len : Nat} (h : (runF X m al no a len).1 = 0) {j : Nat} (hj : j < X.rows.length) :
    (lfTo a len = true ∧ findW (runF X m al no a len).2 (rowOf X j).ix (rowOf X j).gen = -1) ∨ ∃ q : Nat, q < (runF X m al no a len).2.rows.length ∧ findW (runF X m al no a len).2 (rowOf X j).ix (rowOf X j).gen = (q : Int) ∧ (mvTo al a len = false → (rowOf (runF X m al no a len).2 q).has = (rowOf X j).has) ∧ ∀ k : Nat, k < 8 → bt (wrTo a len) k = false → (rowOf (runF X m al no a len).2 q).v k = (rowOf X j).v k ∧ bt (rowOf (runF X m al no a len).2 q).has k = bt (rowOf X j).has k := by
  by_cases hm : ((rowOf X j).ix, (rowOf X j).gen) ∈ bsTo X al no X.rows.length
  · obtain ⟨k, hk, e1, e2, hme⟩ := mem_bs hm
    have : k = j := hr.one hk hj e1
    subst this
    have hs : Stays (AsW al (wrTo a len) (mvTo al a len)) (lfTo a len = true) X (runF X m al no a len).2 (rowOf X k).ix (rowOf X k).gen := by
      unfold runF at h ⊢
      by_cases e : (wrF m al no a len).1 = 0
      · rw [if_neg (by simpa using e)] at h ⊢
        exact runTo_stays e _ _ _ X hr h
      · rw [if_pos e] at h; exact absurd h e
    rcases hs k hk (find_at hr hk) with ⟨h1, h2⟩ | ⟨q, hq, h3, h4⟩
    · exact .inl ⟨h1, h2.1⟩
    · exact .inr ⟨q, hq, h3, fun hm => h4.2 hm (fun b hb hbb => meets_bt hme (by omega) hbb), h4.1⟩
  · obtain ⟨q, hq, h3, h4⟩ := nobody hr h hj hm
    exact .inr ⟨q, hq, h3, fun _ => by rw [h4], fun k _ _ => by rw [h4]; exact ⟨rfl, rfl⟩⟩
theorem writes_len {X : Wd} {m al no : Int} {a : Nat → ActI} {len : Nat} (h : (runF X m al no a len).1 = 0) (hlf : lfTo a len = false) : (runF X m al no a len).2.rows.length = X.rows.length := by
  unfold runF at h ⊢
  by_cases e : (wrF m al no a len).1 = 0
  · rw [if_neg (by simpa using e)] at h ⊢
    exact runTo_len a len hlf _ X h
  · rw [if_pos e] at h; exact absurd h e
end Go.Proofs.Ytnbleebilmghcab
