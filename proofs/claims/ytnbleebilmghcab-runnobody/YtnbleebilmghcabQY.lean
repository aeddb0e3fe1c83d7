/- RnPure, RnRow -/
import Derived.Test.YtnbleebilmghcabQG
import Derived.Test.YtnbleebilmghcabQP
import Derived.Test.YtnbleebilmghcabQV
set_option linter.all false
namespace Go.Proofs.Ytnbleebilmghcab
open Go Go.RowKit
theorem Keeps.refl' (X : Wd) (i g : Int) : Keeps X X i g := fun k hk hf => ⟨k, hk, hf, rfl⟩
theorem Keeps.trans' {X Y Z : Wd} {i g : Int} (h : Keeps X Y i g) (h2 : Keeps Y Z i g) : Keeps X Z i g := fun k hk hf => by
  obtain ⟨j, hj, h3, h4⟩ := h k hk hf
  obtain ⟨l, hl, h5, h6⟩ := h2 j hj h3
  exact ⟨l, hl, h5, h6.trans h4⟩
theorem act_keeps {X : Wd} (hr : RightW X) {i g : Int} {y : ActI} (h : (actF X i g y).1 = 0) (i' g' : Int) (hne : (i', g') ≠ (i, g)) : Keeps X (actF X i g y).2 i' g' := by
  unfold actF at h ⊢
  split
  · rename_i e; rw [if_pos e] at h; exact (kill_keeps h).2 i' g' hne
  · rename_i e; rw [if_neg e] at h
    split
    · rename_i e; rw [if_pos e] at h; exact (spawn_keeps h i' g').2
    · rename_i e; rw [if_neg e] at h
      split
      · rename_i e; rw [if_pos e] at h
        split
        · rename_i e; rw [if_pos e] at h; exact (drop_keeps h).2 i' g' hne
        · exact Keeps.refl' _ _ _
      · rename_i e; rw [if_neg e] at h; exact (put_keeps h).2 i' g' hne
theorem turn_keeps (i g : Int) (a : Nat → ActI) (i' g' : Int) (hne : (i', g') ≠ (i, g)) : ∀ n j X, RightW X → (turnTo i g a n j X).1 = 0 → Keeps X (turnTo i g a n j X).2 i' g'
  | 0, _, X, _, _ => Keeps.refl' _ _ _
  | n + 1, j, X, hr, h => by
    unfold turnTo at h ⊢
    by_cases e : (actF X i g (a j)).1 = 0
    · rw [if_neg (by simpa using e)] at h ⊢
      split
      · exact act_keeps hr e i' g' hne
      · rename_i e2; rw [if_neg e2] at h
        exact (act_keeps hr e i' g' hne).trans' (turn_keeps i g a i' g' hne n (j + 1) _ (act_right hr e) h)
    · rw [if_pos e] at h; exact absurd h e
theorem runTo_keeps (a : Nat → ActI) (len : Nat) (i' g' : Int) : ∀ l X, RightW X → (i', g') ∉ l → (runTo a len l X).1 = 0 → Keeps X (runTo a len l X).2 i' g'
  | [], X, _, _, _ => Keeps.refl' _ _ _
  | b :: l, X, hr, hm, h => by
    rw [List.mem_cons, not_or] at hm
    unfold runTo at h ⊢
    by_cases e : (turnTo b.1 b.2 a len 0 X).1 = 0
    · rw [if_neg (by simpa using e)] at h ⊢
      exact (turn_keeps b.1 b.2 a i' g' hm.1 len 0 X hr e).trans' (runTo_keeps a len i' g' l _ (turn_right _ _ _ _ _ _ hr e) hm.2 h)
    · rw [if_pos e] at h; exact absurd h e
theorem find_row {X : Wd} (hr : RightW X) {j : Nat} (hj : j < X.rows.length) : findW X (rowOf X j).ix (rowOf X j).gen = (j : Int) := find_at hr hj
theorem nobody {X : Wd} (hr : RightW X) {m al no : Int} {a : Nat → ActI} {len : Nat} (h : (runF X m al no a len).1 = 0) {j : Nat} (hj : j < X.rows.length) (hn : ((rowOf X j).ix, (rowOf X j).gen) ∉ bsTo X al no X.rows.length) :
    ∃ k : Nat, k < (runF X m al no a len).2.rows.length ∧ findW (runF X m al no a len).2 (rowOf X j).ix (rowOf X j).gen = (k : Int) ∧ rowOf (runF X m al no a len).2 k = rowOf X j := by
  have key : Keeps X (runF X m al no a len).2 (rowOf X j).ix (rowOf X j).gen := by
    unfold runF at h ⊢
    by_cases e : (wrF m al no a len).1 = 0
    · rw [if_neg (by simpa using e)] at h ⊢
      exact runTo_keeps a len _ _ _ X hr hn h
    · rw [if_pos e] at h; exact absurd h e
  exact key j hj (find_at hr hj)
theorem nobody_same {X : Wd} {m al no : Int} {a : Nat → ActI} {len : Nat} (h : (runF X m al no a len).1 = 0) (hn : bsTo X al no X.rows.length = []) : (runF X m al no a len).2 = X := by
  unfold runF at h ⊢
  by_cases e : (wrF m al no a len).1 = 0
  · rw [if_neg (by simpa using e), hn]; rfl
  · rw [if_pos e] at h; exact absurd h e
def Gone (X : Wd) (i g : Int) : Prop := findW X i g = -1 ∧ ∃ k : Nat, i = (k : Int) ∧ k < X.gens.length ∧ g ≤ X.gens.getD k 0
theorem gone_same {X Y : Wd} {i g : Int} (h : Gone X i g) (hf : findW Y i g = -1) (hg : ∀ k : Nat, k < X.gens.length → k < Y.gens.length ∧ X.gens.getD k 0 ≤ Y.gens.getD k 0) : Gone Y i g := by
  obtain ⟨_, k, e, hk, hle⟩ := h
  exact ⟨hf, k, e, (hg k hk).1, Int.le_trans hle (hg k hk).2⟩
theorem act_gone {X : Wd} (hr : RightW X) {i g : Int} {y : ActI} (h : (actF X i g y).1 = 0) {i' g' : Int} (hG : Gone X i' g') : Gone (actF X i g y).2 i' g' := by
  have hno := fun j hj => find_no hG.1 (j := j) hj
  unfold actF at h ⊢
  split
  · rename_i e; rw [if_pos e] at h
    obtain ⟨_, k, hk, _, _, _, e2⟩ := killF_zero h
    rw [e2]
    refine gone_same hG (find_none fun j hj => ?_) (fun k hk => ⟨hk, Int.le_refl _⟩)
    obtain ⟨t, ht, _, e3⟩ := erase_from X k hk X.gens j hj
    rw [e3]; exact hno t ht
  · rename_i e; rw [if_neg e] at h
    split
    · rename_i e; rw [if_pos e] at h
      obtain ⟨_, k, gn, _, e2, hk, hu, hg, _⟩ := spawn_spec h
      have hp := (place_spec hr (k : Int)).1
      rw [e2]
      obtain ⟨_, q, eq, hq, hle⟩ := hG
      have hgl : q < (gensF X.gens (k : Int) gn).length ∧ X.gens.getD q 0 ≤ (gensF X.gens (k : Int) gn).getD q 0 := by
        refine ⟨by rw [len_gensF _ _ _ hk]; split <;> omega, ?_⟩
        rw [getD_gensF _ _ _ hk]
        by_cases e3 : q = k
        · rw [if_pos e3, hg (by omega), e3]; omega
        · rw [if_neg e3]; exact Int.le_refl _
      refine ⟨find_none fun j hj => ?_, q, eq, hgl.1, Int.le_trans hle hgl.2⟩
      rcases ins_from X (placeN X.rows (k : Int)) hp (newR (k : Int) gn y.p y.n) (gensF X.gens (k : Int) gn) j hj with e3 | ⟨t, ht, e3⟩
      · rw [e3]
        rintro ⟨h1, h2⟩
        have h1 : (k : Int) = i' := h1
        have h2 : gn = g' := h2
        have hkq : k = q := by omega
        subst hkq
        have := hg hq
        omega
      · rw [e3]; exact hno t ht
    · rename_i e; rw [if_neg e] at h
      split
      · rename_i e; rw [if_pos e] at h
        split
        · rename_i e; rw [if_pos e] at h
          obtain ⟨_, k, hk, _, h1, h2, _, e2, _⟩ := drop_spec h
          rw [e2]
          refine gone_same hG (find_none fun j hj => ?_) (fun k hk => ⟨hk, Int.le_refl _⟩)
          have hj' : j < X.rows.length := by simpa using hj
          rw [rowOf_set X k _ _ j hj']
          split
          · rename_i e3; intro hh; exact hno k hk hh
          · exact hno j hj'
        · exact hG
      · rename_i e; rw [if_neg e] at h
        obtain ⟨_, _, _, k, hk, _, h1, h2, e2, _⟩ := put_spec h
        rw [e2]
        refine gone_same hG (find_none fun j hj => ?_) (fun k hk => ⟨hk, Int.le_refl _⟩)
        have hj' : j < X.rows.length := by simpa using hj
        rw [rowOf_set X k _ _ j hj']
        split
        · rename_i e3; intro hh; exact hno k hk hh
        · exact hno j hj'
def Stays (P : RowI → RowI → Prop) (lf : Prop) (X Y : Wd) (i g : Int) : Prop := ∀ k : Nat, k < X.rows.length → findW X i g = (k : Int) → (lf ∧ Gone Y i g) ∨ ∃ j : Nat, j < Y.rows.length ∧ findW Y i g = (j : Int) ∧ P (rowOf X k) (rowOf Y j)
theorem Stays.trans {P : RowI → RowI → Prop} {lf : Prop} (hP : ∀ a b c, P a b → P b c → P a c) {X Y Z : Wd} {i g : Int} (h : Stays P lf X Y i g) (h2 : Stays P lf Y Z i g) (hG : Gone Y i g → Gone Z i g) : Stays P lf X Z i g := fun k hk hf => by
  rcases h k hk hf with ⟨h3, h4⟩ | ⟨j, hj, h3, h4⟩
  · exact .inl ⟨h3, hG h4⟩
  · rcases h2 j hj h3 with h5 | ⟨l, hl, h5, h6⟩
    · exact .inl h5
    · exact .inr ⟨l, hl, h5, hP _ _ _ h4 h6⟩
theorem Keeps.stays {P : RowI → RowI → Prop} {lf : Prop} (hP : ∀ a, P a a) {X Y : Wd} {i g : Int} (h : Keeps X Y i g) : Stays P lf X Y i g := fun k hk hf => by
  obtain ⟨j, hj, h3, h4⟩ := h k hk hf
  exact .inr ⟨j, hj, h3, by rw [h4]; exact hP _⟩
def rowA (X : Wd) (i g : Int) (y : ActI) (r : RowI) : RowI := if y.k = 7 then r else if y.k = 5 then (if (getW X i g y.p).2 = true then dropR r y.p else r) else putR r y.p (clipI (amtF X i g y))
theorem set_find {X : Wd} (hr : RightW X) {k : Nat} (hk : k < X.rows.length) {i g : Int} (h1 : (rowOf X k).ix = i) (h2 : (rowOf X k).gen = g) {r : RowI} (hr' : RightW ⟨X.rows.set k r, X.gens⟩) (e1 : r.ix = i) (e2 : r.gen = g) : findW ⟨X.rows.set k r, X.gens⟩ i g = (k : Int) := by
  have hk' : k < (⟨X.rows.set k r, X.gens⟩ : Wd).rows.length := by simpa using hk
  have e : rowOf ⟨X.rows.set k r, X.gens⟩ k = r := by rw [rowOf_set X k r X.gens k hk, if_pos rfl]
  have := find_at hr' hk'
  rw [e, e1, e2] at this
  exact this
theorem act_self {X : Wd} (hr : RightW X) {i g : Int} {y : ActI} (h : (actF X i g y).1 = 0) {k : Nat} (hk : k < X.rows.length) (hf : findW X i g = (k : Int)) :
    (y.k = 6 ∧ Gone (actF X i g y).2 i g) ∨ (y.k ≠ 6 ∧ ∃ j : Nat, j < (actF X i g y).2.rows.length ∧ findW (actF X i g y).2 i g = (j : Int) ∧ rowOf (actF X i g y).2 j = rowA X i g y (rowOf X k)) := by
  have hik : (rowOf X k).ix = i ∧ (rowOf X k).gen = g := by
    rcases find_cases X i g with e | ⟨k', _, e, h1, h2⟩
    · omega
    · have : k' = k := by omega
      subst this; exact ⟨h1, h2⟩
  unfold actF at h ⊢
  unfold rowA
  split
  · rename_i e; rw [if_pos e] at h
    left
    refine ⟨e, ?_⟩
    obtain ⟨_, k', hk', hf', h1, h2, e2⟩ := killF_zero h
    have : k' = k := by omega
    subst this
    rw [e2]
    have hi0 := hr.i0 k' hk
    have hil := hr.il k' hk
    have hge := hr.ge k' hk
    rw [hik.1] at hi0 hil hge
    refine ⟨find_none fun j hj => ?_, i.toNat, by omega, by show i.toNat < X.gens.length; omega, by rw [hik.2] at hge; exact Int.le_of_eq hge⟩
    obtain ⟨t, ht, hne, e3⟩ := erase_from X k' hk X.gens j hj
    rw [e3]
    rintro ⟨q1, q2⟩
    exact hne (hr.one ht hk (by rw [q1, hik.1]))
  · rename_i e6; rw [if_neg e6] at h
    right
    refine ⟨e6, ?_⟩
    split
    · rename_i e; rw [if_pos e] at h
      obtain ⟨j, hj, h3, h4⟩ := (spawn_keeps h i g).2 k hk hf
      exact ⟨j, hj, h3, h4⟩
    · rename_i e; rw [if_neg e] at h
      split
      · rename_i e; rw [if_pos e] at h
        split
        · rename_i e; rw [if_pos e] at h
          obtain ⟨_, k', hk', hf', h1, h2, _, e2, hr2⟩ := drop_spec h
          have : k' = k := by omega
          subst this
          rw [e2] at hr2 ⊢
          exact ⟨k', by simpa using hk, set_find hr hk h1 h2 hr2 h1 h2, by rw [rowOf_set X k' _ _ k' hk, if_pos rfl]⟩
        · exact ⟨k, hk, hf, rfl⟩
      · rename_i e; rw [if_neg e] at h
        obtain ⟨_, _, _, k', hk', hf', h1, h2, e2, hr2⟩ := put_spec h
        have : k' = k := by omega
        subst this
        rw [e2] at hr2 ⊢
        exact ⟨k', by simpa using hk, set_find hr hk h1 h2 hr2 h1 h2, by rw [rowOf_set X k' _ _ k' hk, if_pos rfl]⟩
theorem turn_gone (i g : Int) (a : Nat → ActI) (i' g' : Int) : ∀ n j X, RightW X → (turnTo i g a n j X).1 = 0 → Gone X i' g' → Gone (turnTo i g a n j X).2 i' g'
  | 0, _, X, _, _, h => h
  | n + 1, j, X, hr, h, hG => by
    unfold turnTo at h ⊢
    by_cases e : (actF X i g (a j)).1 = 0
    · rw [if_neg (by simpa using e)] at h ⊢
      split
      · exact act_gone hr e hG
      · rename_i e2; rw [if_neg e2] at h
        exact turn_gone i g a i' g' n (j + 1) _ (act_right hr e) h (act_gone hr e hG)
    · rw [if_pos e] at h; exact absurd h e
theorem turn_stays {P : RowI → RowI → Prop} {lf : Prop} (hP0 : ∀ a, P a a) (hP : ∀ a b c, P a b → P b c → P a c) (i g : Int) (a : Nat → ActI) (N : Nat) (hlf : ∀ j, j < N → (a j).k = 6 → lf) (hrow : ∀ j, j < N → (a j).k ≠ 6 → ∀ (X : Wd) (k : Nat), RightW X → k < X.rows.length → findW X i g = (k : Int) → (actF X i g (a j)).1 = 0 → P (rowOf X k) (rowA X i g (a j) (rowOf X k))) : ∀ n j X, j + n ≤ N → RightW X → (turnTo i g a n j X).1 = 0 → Stays P lf X (turnTo i g a n j X).2 i g
  | 0, _, X, _, _, _ => (Keeps.refl' _ _ _).stays hP0
  | n + 1, j, X, hN, hr, h => by
    unfold turnTo at h ⊢
    by_cases e : (actF X i g (a j)).1 = 0
    · rw [if_neg (by simpa using e)] at h ⊢
      have hs : Stays P lf X (actF X i g (a j)).2 i g := fun k hk hf => by
        rcases act_self hr e hk hf with ⟨h6, hG⟩ | ⟨h6, q, hq, h3, h4⟩
        · exact .inl ⟨hlf j (by omega) h6, hG⟩
        · exact .inr ⟨q, hq, h3, by rw [h4]; exact hrow j (by omega) h6 X k hr hk hf e⟩
      split
      · exact hs
      · rename_i e2; rw [if_neg e2] at h
        exact hs.trans hP (turn_stays hP0 hP i g a N hlf hrow n (j + 1) _ (by omega) (act_right hr e) h) (fun hG => turn_gone i g a i g n (j + 1) _ (act_right hr e) h hG)
    · rw [if_pos e] at h; exact absurd h e
end Go.Proofs.Ytnbleebilmghcab
namespace Go.Proofs.Ytnbleebilmghcab
open Go Go.RowKit
attribute [local go_sem ↓] Go.wp_at_zero Go.wp_at_succ
theorem row_none {X : Wd} {i g : Int} (h : findW X i g = -1) (hl : X.rows.length ≤ 60) (A : Option Addr) (c : Nat) (G : Option Addr) (gc : Nat) (W : World) (hX : WldAt W A c G gc X) :
    Calls Try.prog 19 #[.agg #[.slice A X.rows.length c, .slice G X.gens.length gc], .agg #[.int .i64 i, .int .i64 g]] W fun e w' => e = .returned (.pointer none) ∧ Below W.heap.size W w' := by
  refine (row_any A X.rows.length c G X.gens.length gc (fun j => X.rows.getD j dR) i g W (by omega) hX.rows).mono fun e w' ⟨⟨p, he, hp⟩, hb⟩ => ⟨?_, hb⟩
  have hf : fIx (fun j => X.rows.getD j dR) i g X.rows.length 0 = -1 := h
  rcases hp with ⟨_, rfl⟩ | ⟨k, b, off, _, e2, _⟩
  · exact he
  · omega
theorem row_ptr (X : Wd) (hl : X.rows.length ≤ 60) (i g : Int) (A : Option Addr) (c : Nat) (G : Option Addr) (gc : Nat) (W : World) (hX : WldAt W A c G gc X) :
    ∃ p : Option Addr, (∀ W', Below W.heap.size W W' → Calls Try.prog 19 #[.agg #[.slice A X.rows.length c, .slice G X.gens.length gc], .agg #[.int .i64 i, .int .i64 g]] W' fun e w' => e = .returned (.pointer p) ∧ Below W'.heap.size W' w') ∧
      ((p = none ∧ findW X i g = -1) ∨ ∃ (k b o : Nat), p = some ⟨b, o, none⟩ ∧ k < X.rows.length ∧ findW X i g = (k : Int) ∧ RowAt W b o (rowOf X k)) := by
  rcases find_cases X i g with hf | ⟨k, hk, hf, _, _⟩
  · exact ⟨none, fun W' hb => row_none hf hl A c G gc W' (hX.below hb), .inl ⟨rfl, hf⟩⟩
  · obtain ⟨b, off, hA, hr⟩ := hX.rows k hk
    refine ⟨some ⟨b, off + k * 11, none⟩, fun W' hb => ?_, .inr ⟨k, b, _, rfl, hk, hf, hr⟩⟩
    refine (row_any A X.rows.length c G X.gens.length gc (fun j => X.rows.getD j dR) i g W' (by omega) (hX.below hb).rows).mono fun e w' ⟨⟨p, he, hp⟩, hb⟩ => ⟨?_, hb⟩
    have hf' : fIx (fun j => X.rows.getD j dR) i g X.rows.length 0 = (k : Int) := hf
    rcases hp with ⟨e1, _⟩ | ⟨k', b', off', _, e2, hA', rfl⟩
    · omega
    · have : k' = k := by omega
      subst this
      rw [hA] at hA'
      injection hA' with hA'
      injection hA' with h1 h2
      subst h1 h2
      exact he
set_option maxRecDepth 8000 in
set_option maxHeartbeats 400000 in
theorem rhas_any (a k : Int) (w : World) (h0 : 0 ≤ a) (h1 : a ≤ 255) :
    Calls Try.prog 20 #[.int .i64 a, .int .i64 k] w fun e w' => e = .returned (.bool (hasB a k)) ∧ Below w.heap.size w w' := by
  by_cases k0 : 0 ≤ k
  · by_cases k1 : k < 8
    · obtain ⟨j, rfl⟩ := Int.eq_ofNat_of_zero_le k0
      have hix := run_ix a j
      have hj : j < 8 := by omega
      go_enter Try.func20, Try.ntmps20
      go_wp2_with (first | (go_at_call 45; refine (bits_any _ _ h0 h1).mono ?_; rintro e w1 ⟨rfl, rfl⟩))
      go_ret
      exact ⟨by simp [hasB, k1], by go_grown⟩
    · go_enter Try.func20, Try.ntmps20
      go_wp2
      go_ret
      exact ⟨by simp [hasB]; omega, by go_grown⟩
  · go_enter Try.func20, Try.ntmps20
    go_wp2
    go_ret
    exact ⟨by simp [hasB]; omega, by go_grown⟩
theorem unwanted_un {ops : Array Oper} {o : Oper} {ac : Act} {j d : Nat} {b : Bool} (hg : o.guard = some (j, b)) (hd : (ops[j]?).bind (·.dst) = some d) (hv : ac.tmps.getD d undef = undef) : Region.wanted o (yielded ops ac.tmps) = false := by
  unfold Region.wanted
  simp only [hg, yielded, hd, Option.bind_some]
  rw [Array.getD_eq_getD_getElem?] at hv
  cases hc : ac.tmps[d]? with
  | none => rfl
  | some x =>
    rw [hc] at hv
    rw [show x = undef from hv]
    rfl
end Go.Proofs.Ytnbleebilmghcab
