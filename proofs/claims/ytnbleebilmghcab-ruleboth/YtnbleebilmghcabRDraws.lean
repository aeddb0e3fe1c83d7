/- A rule for statements whose order Go leaves open: what is kept by each operation that may come up next holds when all have come up, whatever the order. -/
import Derived.Deep.MidRow
import Derived.WalkKit
import Derived.BigQuiet
set_option maxRecDepth 100000
set_option linter.unnecessarySimpa false
set_option linter.unusedSimpArgs false
set_option linter.unusedVariables false
namespace Go.Proofs.Ytnbleebilmghcab
open Go

theorem cnt_set (l : Array Bool) (i : Nat) (h : l.getD i true = false) :
    i < l.size ∧ 0 < l.toList.countP (fun b => !b) ∧ (l.setIfInBounds i true).toList.countP (fun b => !b) + 1 = l.toList.countP (fun b => !b) := by
  have hi : i < l.size := by
    rcases Nat.lt_or_ge i l.size with hlt | hge
    · exact hlt
    · simp [Array.getD, Nat.not_lt.2 hge] at h
  have hv : l[i] = false := by simpa [Array.getD, hi] using h
  have hpos : 0 < l.toList.countP (fun b => !b) := by
    rw [List.countP_pos_iff]
    exact ⟨l[i], by simp, by simp [hv]⟩
  refine ⟨hi, hpos, ?_⟩
  have e : (l.toList[i]'(by simpa using hi)) = false := by simpa using hv
  rw [Array.toList_setIfInBounds, List.countP_set (by simpa using hi), e]
  simp only [Bool.not_false, if_true, Bool.not_true, Bool.false_eq_true, if_false]
  omega

theorem wpAny_inv {P : Program} {ops : Array Oper} {Q : Exit → Act → World → Prop} {md : Region.Mode} (I : Array Bool → Act → World → Prop)
    (hstep : ∀ listed a w i, I listed a w → i ∈ Region.ready md ops listed → wpOp P ops Q i (I (listed.setIfInBounds i true)) a w)
    (hend : ∀ listed a w, I listed a w → Region.ready md ops listed = [] → Q .normal a w) :
    ∀ fuel listed a w, I listed a w → listed.toList.countP (fun b => !b) ≤ fuel → wpAny P md ops Q fuel listed a w := by
  intro fuel
  induction fuel with
  | zero =>
    intro listed a w h hc
    have hr : Region.ready md ops listed = [] := by
      rw [List.eq_nil_iff_forall_not_mem]
      intro i hi
      have := (cnt_set listed i (mem_ready.1 hi).1).2.1
      omega
    exact ⟨hr, hend _ _ _ h hr⟩
  | succ fuel ih =>
    intro listed a w h hc
    refine ⟨hend _ _ _ h, fun i hi => wpOp_mono (fun a' w' h' => ih _ a' w' h' ?_) (hstep _ _ _ _ h hi)⟩
    have := (cnt_set listed i (mem_ready.1 hi).1).2.2
    omega

/-- What has come up, with one more. -/
def upd (L : Nat → Bool) (i : Nat) : Nat → Bool := fun j => if j = i then true else L j

/-- Each operation waits for earlier ones alone. -/
def backB (ops : Array Oper) : Bool := (List.range ops.size).all fun j => match ops[j]? with
  | some o => o.after.all fun e => decide (e.on < j)
  | none => true

theorem all_listed {md : Region.Mode} {ops : Array Oper} (hb : backB ops = true) (listed : Array Bool) (hs : listed.size = ops.size) (hr : Region.ready md ops listed = []) :
    ∀ j, j < ops.size → listed.getD j false = true := by
  intro j
  induction j using Nat.strongRecOn with
  | ind j ih =>
    intro hj
    cases hl : listed.getD j false with
    | true => rfl
    | false =>
      exfalso
      have ho : ops[j]? = some ops[j] := by simp [hj]
      have hm : j ∈ Region.ready md ops listed := by
        rw [mem_ready]
        refine ⟨by simpa [Array.getD, hs, hj] using hl, ops[j], ho, fun e he _ => ?_⟩
        have h1 := List.all_eq_true.1 hb j (List.mem_range.2 hj)
        simp only [ho] at h1
        have h2 := Array.all_eq_true_iff_forall_mem.1 h1 e he
        have h3 : e.on < j := by simpa using h2
        exact ih e.on h3 (by omega)
      rw [hr] at hm
      exact absurd hm (by simp)

theorem wp_region_inv {P : Program} {ops : Array Oper} {Q : Exit → Act → World → Prop} {id : Nat} {a : Act} {w : World} (hm : P.follows .mixedOrders = true)
    (I : (Nat → Bool) → Act → World → Prop) (hb : backB ops = true)
    (hstart : I (fun _ => false) a { w with drawn := w.drawn + 1 })
    (hstep : ∀ L a w i o, I L a w → ops[i]? = some o → L i = false → (∀ e ∈ o.after, Region.binds .any e = true → L e.on = true) → wpOp P ops Q i (I (upd L i)) a w)
    (hend : ∀ L a w, I L a w → (∀ j, j < ops.size → L j = true) → Q .normal a w) : (Code.region id ops true).wp P Q a w := by
  refine wp_region_any hm (wpAny_inv (fun l a w => l.size = ops.size ∧ I (fun j => l.getD j false) a w) ?_ ?_ _ _ _ _ ?_ ?_)
  · rintro l a w i ⟨hs, hI⟩ hi
    obtain ⟨h1, o, ho, h2⟩ := mem_ready.1 hi
    have hi' := (cnt_set l i h1).1
    refine wpOp_mono (fun a' w' h' => ⟨by simpa using hs, ?_⟩) (hstep _ a w i o hI ho (by simpa [Array.getD, hi'] using h1) h2)
    have e : (fun j => (l.setIfInBounds i true).getD j false) = upd (fun j => l.getD j false) i := by
      funext j
      unfold upd
      by_cases hj : j = i
      · subst hj; simp [Array.getD, hi']
      · rw [if_neg hj, getD_set_ne _ (Ne.symm hj)]
    show I (fun j => (l.setIfInBounds i true).getD j false) a' w'
    rw [e]; exact h'
  · rintro l a w ⟨hs, hI⟩ hr
    exact hend _ a w hI (all_listed hb l hs hr)
  · refine ⟨by simp, ?_⟩
    have e : (fun j => (Array.replicate ops.size false).getD j false) = fun _ => false := by
      funext j
      simp [Array.getD]
    rw [e]; exact hstart
  · simpa using List.countP_le_length (p := fun b => !b) (l := List.replicate ops.size false)

/-- An operation without a guard. -/
theorem wpOp_of {P : Program} {ops : Array Oper} {Q : Exit → Act → World → Prop} {i : Nat} {o : Oper} {a : Act} {w : World} {K : Act → World → Prop} (ho : ops[i]? = some o) (hg : o.guard = none)
    (h : o.wp P a w K Q) : wpOp P ops Q i K a w := by
  unfold wpOp
  simp only [ho]
  rw [if_pos (by unfold Region.wanted; rw [hg])]
  exact .inl h

/-- A world in which nothing that was in W has turned. -/
structure Sub (W : World) where
  val : World
  bel : Go.RowKit.Below W.heap.size W val

/-- A region whose operations read what was there, and whose callees make memory of their own at most: one walk serves every order. -/
theorem wp_region_sub {P : Program} {id : Nat} {Q : Exit → Act → World → Prop} {a : Act} {w : World} {l : List Oper} (hm : P.follows .mixedOrders = true) (hB : Region.lexB .any l.toArray = true)
    (h : wpQuiet P l.toArray (fun w' => ∃ x : Sub w, w' = x.val) (fun a' => ∀ w', (∃ x : Sub w, w' = x.val) → Q .normal a' w') l a) : (Code.region id l.toArray true).wp P Q a w :=
  wp_region_quiet (C := fun w' => ∃ x : Sub w, w' = x.val) hm hB ⟨⟨_, (Go.RowKit.Below.refl _ _).drew⟩, rfl⟩ (by simpa using h)

theorem sub_bel {P : Program} {W : World} {x : Sub W} {f : FuncId} {args : Array Value} {v : Value} (h : Calls P f args x.val fun e w' => e = .returned v ∧ Go.RowKit.Below x.val.heap.size x.val w') :
    Calls P f args x.val fun e w'' => e = .returned v ∧ ∃ y : Sub W, w'' = y.val :=
  h.mono fun _ w' ⟨he, hb⟩ => ⟨he, ⟨w', x.bel.trans (hb.mono x.bel.size)⟩, rfl⟩
theorem sub_same {P : Program} {W : World} {x : Sub W} {f : FuncId} {args : Array Value} {v : Value} (h : Calls P f args x.val fun e w' => e = .returned v ∧ w' = x.val) :
    Calls P f args x.val fun e w'' => e = .returned v ∧ ∃ y : Sub W, w'' = y.val :=
  h.mono fun _ _ ⟨he, hb⟩ => ⟨he, x, hb⟩
theorem sub_cell {W : World} {p : Addr} {v : Value} (h : W.cell? p = some v) (x : Sub W) : x.val.cell? p = some v :=
  (x.bel.cell (World.block_lt_of_cell? W p h)).trans h
end Go.Proofs.Ytnbleebilmghcab
