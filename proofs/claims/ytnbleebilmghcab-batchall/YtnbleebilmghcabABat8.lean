/- All numbers are in the batches, each once; a map of numbers that the call makes. -/
import Derived.Test.YtnbleebilmghcabABat7
import Derived.Maps.OwnSet
import Derived.Maps.OwnOps
set_option linter.unnecessarySimpa false
set_option linter.unusedVariables false
set_option linter.unusedSimpArgs false
namespace Go.Proofs.Ytnbleebilmghcab
open Go Go.RowKit Go.WideMaps Go.Maps

theorem flat_set : ∀ (B : List (List Nat)) (a x : Nat), a < B.length → (B.set a (B.getD a [] ++ [x])).flatten.Perm (B.flatten ++ [x])
  | [], a, _, h => by simp at h
  | l :: r, 0, x, _ => by
    simp only [List.set_cons_zero, List.getD_cons_zero, List.flatten_cons, List.append_assoc]
    exact List.Perm.append_left l List.perm_append_comm
  | l :: r, a + 1, x, h => by
    have := flat_set r a x (by simpa using h)
    simp only [List.set_cons_succ, List.getD_cons_succ, List.flatten_cons, List.append_assoc]
    exact List.Perm.append_left l this
theorem putB_perm (B : List (List Nat)) (a x : Nat) (h : a ≤ B.length) : (putB B a x).flatten.Perm (B.flatten ++ [x]) := by
  unfold putB
  by_cases e : a = B.length
  · rw [if_pos e, List.flatten_append]; simp
  · rw [if_neg e]; exact flat_set B a x (by omega)
theorem mkB_perm (cl : Nat → Nat → Bool) : ∀ n, (mkB cl n).flatten.Perm (List.range n)
  | 0 => by simp [mkB]
  | n + 1 => by
    have h := putB_perm (mkB cl n) (lev cl n) n (bhd_le _ _ _)
    rw [List.range_succ]
    exact h.trans (List.Perm.append_right [n] (mkB_perm cl n))
theorem flat_mem (bs : List (List Nat)) (k x : Nat) (hk : k ≤ bs.length) : x ∈ flatTo bs k ↔ ∃ j, j < k ∧ x ∈ bs.getD j [] := by
  unfold flatTo
  rw [List.mem_flatten]
  constructor
  · rintro ⟨l, hl, hx⟩
    obtain ⟨j, hj, rfl⟩ := List.getElem_of_mem hl
    simp at hj
    refine ⟨j, by omega, ?_⟩
    rw [List.getD_eq_getElem?_getD, List.getElem?_eq_getElem (by omega)]
    simpa using hx
  · rintro ⟨j, hj, hx⟩
    refine ⟨bs.getD j [], ?_, hx⟩
    rw [List.getD_eq_getElem?_getD, List.getElem?_eq_getElem (by omega)]
    exact List.mem_take_iff_getElem.2 ⟨j, by omega, rfl⟩
theorem take_getD_not (l : List Nat) (hn : l.Nodup) (j : Nat) (hj : j < l.length) : l.getD j 0 ∉ l.take j := by
  intro h
  rw [List.getD_eq_getElem?_getD, List.getElem?_eq_getElem hj] at h
  obtain ⟨i, hi, e⟩ := List.mem_take_iff_getElem.1 h
  have := (List.getElem_inj (h₀ := by omega) (h₁ := hj) hn).1 e
  omega
theorem next_new (cl : Nat → Nat → Bool) (n k j : Nat) (hk : k < (mkB cl n).length) (hj : j < ((mkB cl n).getD k []).length) :
    ((mkB cl n).getD k []).getD j 0 ∉ flatTo (mkB cl n) k ++ ((mkB cl n).getD k []).take j ∧ ((mkB cl n).getD k []).getD j 0 < n ∧ lev cl (((mkB cl n).getD k []).getD j 0) = k := by
  have hm := (mem_lev cl n k _ hk).1 (getD_mem _ j hj)
  refine ⟨?_, hm.1, hm.2⟩
  rw [List.mem_append]
  rintro (h | h)
  · obtain ⟨i, hi, hx⟩ := (flat_mem _ k _ (by omega)).1 h
    have := ((mem_lev cl n i _ (by omega)).1 hx).2
    omega
  · refine take_getD_not _ ?_ j hj h
    rw [(binv cl n).at_ k hk]
    exact List.Pairwise.filter _ List.nodup_range

theorem key3 : Keyed Try.prog 3 := int_keyed Try.underlying3
theorem zero3 (w : World) : (zeroValue 3).run Try.prog w = .ok (.int .i64 0) w := by kernel_rfl
theorem small_wf (i : Nat) (h : i ≤ 100) : (Lit.int .i64 (i : Int)).wf = true := WalkArith.wf_i64 (by omega)
theorem keyN (i : Nat) (h : i ≤ 100) : keyOf Try.prog 3 (.int .i64 (i : Int)) = some (.int .i64 (i : Int)) := keyOf_int_mk Try.underlying3 (small_wf i h)
/-- The map holds val of just those numbers. -/
structure MpAt (W : World) (M : Nat) (done : List Nat) (val : Nat → Nat) (D : DataW Unit) : Prop where
  own : W.ownsMap Try.prog 3 (plainElem Try.prog 3) M done.length D
  has : ∀ i : Nat, i ≤ 100 → Maps.has D (.int .i64 (i : Int)) = decide (i ∈ done)
  val : ∀ i : Nat, i ≤ 100 → i ∈ done → D.atKey (.int .i64 (i : Int)) (.lit (.int .i64 0)) = .lit (.int .i64 ((val i : Nat) : Int))
  size : Maps.size D = done.length
theorem MpAt.made (w : World) (val : Nat → Nat) : MpAt (w.alloc (.map #[] 0)) w.heap.size [] val (.map []) :=
  ⟨World.ownsMap_made _ _ _ _, fun i _ => by simp [Maps.has], fun i _ h => by simp at h, rfl⟩
theorem MpAt.below {W W1 : World} {M : Nat} {done : List Nat} {val : Nat → Nat} {D : DataW Unit} (h : MpAt W M done val D) (hb : Below W.heap.size W W1) : MpAt W1 M done val D := by
  refine ⟨?_, h.has, h.val, h.size⟩
  refine h.own.kept (row := none) ⟨hb.os, hb.tape, hb.output, hb.size, fun k hk _ => hb.block k hk⟩ (by simp)
theorem MpAt.look {W : World} {M : Nat} {done : List Nat} {val : Nat → Nat} {D : DataW Unit} (h : MpAt W M done val D) (i : Nat) (hi : i ≤ 100) (hm : i ∈ done) : (Instr.lookup 73 (.map (some M)) (.int .i64 (i : Int)) false).run Try.prog W = .ok (.int .i64 ((val i : Nat) : Int)) W := by
  obtain ⟨c, hr, hc, _⟩ := h.own.lookup_int key3 Try.underlying73 Try.underlying3 (zero3 W) (keyN i hi)
  rw [h.val i hi hm] at hc
  simp only [DataW.lit.injEq, Lit.int.injEq, true_and] at hc
  rw [hr, ← hc]
theorem MpAt.look_ok {W : World} {M : Nat} {done : List Nat} {val : Nat → Nat} {D : DataW Unit} (h : MpAt W M done val D) (i : Nat) (hi : i ≤ 100) (hm : i ∉ done) : ∃ v : Value, (Instr.lookup 73 (.map (some M)) (.int .i64 (i : Int)) true).run Try.prog W = .ok (.tuple #[v, .bool false]) W := by
  obtain ⟨v, ps, hr, _⟩ := h.own.look_ok key3 Try.underlying73 (zero3 W) (plainElem_int Try.underlying3 (by decide)) (keyN i hi)
  refine ⟨v, ?_⟩
  rw [hr, h.has i hi]
  simp [hm]
theorem MpAt.put {W W' : World} {M : Nat} {done : List Nat} {val : Nat → Nat} {D : DataW Unit} (h : MpAt W M done val D) (i : Nat) (hi : i ≤ 100) (hm : i ∉ done)
    (ho : W'.ownsMap Try.prog 3 (plainElem Try.prog 3) M (done.length + 1) (D.put (.int .i64 (i : Int)) (.lit (.int .i64 ((val i : Nat) : Int))))) : MpAt W' M (done ++ [i]) val (D.put (.int .i64 (i : Int)) (.lit (.int .i64 ((val i : Nat) : Int)))) := by
  have hkl : WideAt.IsKeyLit (Lit.int .i64 (i : Int)) := by simp [WideAt.IsKeyLit]
  refine ⟨by simpa using ho, fun j hj => ?_, fun j hj hjm => ?_, ?_⟩
  · by_cases e : j = i
    · subst e; rw [has_put_same h.own.isMap hkl]; simp
    · rw [has_put_other (by simp; omega), h.has j hj]; simp [e]
  · by_cases e : j = i
    · subst e; rw [atKey_put_same h.own.isMap hkl]
    · rw [atKey_put_other (by simp; omega)]
      exact h.val j hj (by simpa [e] using hjm)
  · rw [size_put (h.own.tidy key3), h.has i hi, h.size]
    simp [hm]
end Go.Proofs.Ytnbleebilmghcab
