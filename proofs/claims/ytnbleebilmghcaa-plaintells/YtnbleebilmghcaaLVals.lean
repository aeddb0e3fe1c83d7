/- A rule for statements whose order Go leaves open, of operations that read and of calls that make memory at most: what is known of each one's value holds whatever the order; guards that let pass are allowed. -/
import Derived.Test.YtnbleebilmghcaaLA
set_option linter.unusedVariables false
set_option linter.unusedSimpArgs false
set_option linter.unnecessarySimpa false
namespace Go.Proofs.Ytnbleebilmghcaa
open Go Go.RowKit

def dstOf (ops : List Oper) (i : Nat) : Tmp := ((ops[i]?).bind (·.dst)).getD 0
def valsB (ops : List Oper) (sz : Nat) : Bool :=
  (ops.all fun o => o.dst.isSome) && ((List.range ops.length).all fun i => decide (dstOf ops i < sz)) && ((List.range ops.length).all fun j => (List.range j).all fun i => dstOf ops i != dstOf ops j)
theorem dst_of {ops : List Oper} {sz : Nat} (h : valsB ops sz = true) {i : Nat} {o : Oper} (ho : ops[i]? = some o) : o.dst = some (dstOf ops i) := by
  unfold valsB at h
  simp only [Bool.and_eq_true] at h
  have h1 := List.all_eq_true.1 h.1.1 o (List.mem_of_getElem? ho)
  obtain ⟨d, hd⟩ := Option.isSome_iff_exists.1 h1
  simp [dstOf, ho, hd]
theorem dst_lt {ops : List Oper} {sz : Nat} (h : valsB ops sz = true) {i : Nat} (hi : i < ops.length) : dstOf ops i < sz := by
  unfold valsB at h
  simp only [Bool.and_eq_true] at h
  exact of_decide_eq_true (List.all_eq_true.1 h.1.2 i (List.mem_range.2 hi))
theorem dst_ne {ops : List Oper} {sz : Nat} (h : valsB ops sz = true) {i j : Nat} (hi : i < ops.length) (hj : j < ops.length) (hij : i ≠ j) : dstOf ops i ≠ dstOf ops j := by
  unfold valsB at h
  simp only [Bool.and_eq_true] at h
  have key : ∀ i j, i < j → j < ops.length → dstOf ops i ≠ dstOf ops j := fun i j h1 h2 => by
    have := List.all_eq_true.1 (List.all_eq_true.1 h.2 j (List.mem_range.2 h2)) i (List.mem_range.2 h1)
    simpa using this
  rcases Nat.lt_or_gt_of_ne hij with h1 | h1
  · exact key i j h1 hj
  · exact (key j i h1 hi).symm

theorem wp_region_vals {P : Program} {id : Nat} {Q : Exit → Act → World → Prop} {a : Act} {w : World} {ops : List Oper} (V : Nat → Value → World → Prop) (D : World → Prop)
    (hm : P.follows .mixedOrders = true) (hb : backB ops.toArray = true) (hv : valsB ops a.tmps.size = true)
    (hV : ∀ i v w1 (x : Sub w1), V i v w1 → V i v x.val) (hD : ∀ w1 (x : Sub w1), D w1 → D x.val) (hD0 : D w)
    (hstep : ∀ i o, ops[i]? = some o → ∀ ac w1, D w1 → (∀ t, (∀ o ∈ ops, o.dst ≠ some t) → ac.tmps.getD t undef = a.tmps.getD t undef) → ac.tmps.size = a.tmps.size →
      (∀ j, (o.after.any fun e => e.on == j && Region.binds .any e) = true → V j (ac.tmps.getD (dstOf ops j) undef) w1) →
      (Region.wanted o (yielded ops.toArray ac.tmps) = true ∧ o.wp P ac w1 (fun ac' w' => ∃ v, ac' = ac.put o.dst v ∧ V i v w' ∧ Below w1.heap.size w1 w') Q) ∨ (Region.wanted o (yielded ops.toArray ac.tmps) = false ∧ V i undef w1))
    (hend : ∀ (v : Nat → Value) w1, D w1 → (∀ i, i < ops.length → V i (v i) w1) → Below w.heap.size w w1 → Q .normal (putAll (dstOf ops) v a ops.length) w1) : (Code.region id ops.toArray true).wp P Q a w := by
  refine wp_region_inv hm (fun L ac w1 => ac.tmps.size = a.tmps.size ∧ ac.defers = a.defers ∧ (∀ t, (∀ o ∈ ops, o.dst ≠ some t) → ac.tmps.getD t undef = a.tmps.getD t undef) ∧ (∀ i, i < ops.length → L i = true → V i (ac.tmps.getD (dstOf ops i) undef) w1) ∧ D w1 ∧ Below w.heap.size w w1) hb ?_ ?_ ?_
  · exact ⟨rfl, rfl, fun _ _ => rfl, fun _ _ h => (by cases h), hD w ⟨_, (Below.refl _ _).drew⟩ hD0, (Below.refl _ _).drew⟩
  · rintro L ac w1 i o ⟨h1, h2, h3, h4, h5, h6⟩ ho hL he
    have ho' : ops[i]? = some o := by simpa using ho
    have hi : i < ops.length := (List.getElem?_eq_some_iff.1 ho').1
    have hdst := dst_of hv ho'
    have hlen : ∀ e ∈ o.after, Region.binds .any e = true → e.on < ops.length := fun e hm hbd => by
      have h1 := List.all_eq_true.1 hb i (List.mem_range.2 (by simpa using hi))
      simp only [ho] at h1
      have h2 := Array.all_eq_true_iff_forall_mem.1 h1 e hm
      have h3 : e.on < i := by simpa using h2
      omega
    have fin : ∀ w' v, V i v w' → Below w1.heap.size w1 w' → (ac.put o.dst v).tmps.size = a.tmps.size ∧ (ac.put o.dst v).defers = a.defers ∧ (∀ t, (∀ o ∈ ops, o.dst ≠ some t) → (ac.put o.dst v).tmps.getD t undef = a.tmps.getD t undef) ∧ (∀ j, j < ops.length → upd L i j = true → V j ((ac.put o.dst v).tmps.getD (dstOf ops j) undef) w') ∧ D w' ∧ Below w.heap.size w w' := fun w' v hVv hbl => by
      rw [hdst]
      refine ⟨by rw [put_size]; exact h1, by rw [put_defs]; exact h2, fun t ht => ?_, fun j hj hLj => ?_, hD w1 ⟨w', hbl⟩ h5, h6.trans (hbl.mono h6.size)⟩
      · rw [put_get, if_neg (fun e => ht o (List.mem_of_getElem? ho') (by rw [hdst, e.1]))]
        exact h3 t ht
      · by_cases e : j = i
        · subst e
          rw [put_get, if_pos ⟨rfl, by rw [h1]; exact dst_lt hv hj⟩]
          exact hVv
        · rw [put_get, if_neg (fun e' => dst_ne hv hi hj (Ne.symm e) e'.1)]
          refine hV j _ w1 ⟨w', hbl⟩ (h4 j hj ?_)
          unfold upd at hLj
          rwa [if_neg e] at hLj
    unfold wpOp
    simp only [ho]
    rcases hstep i o ho' ac w1 h5 h3 h1 (fun j hj => by
      obtain ⟨k, hk, hp⟩ := Array.any_eq_true.1 hj
      rw [Bool.and_eq_true, beq_iff_eq] at hp
      have hm := Array.getElem_mem hk
      rw [← hp.1]
      exact h4 _ (hlen _ hm hp.2) (he _ hm hp.2)) with ⟨hw, hop⟩ | ⟨hw, hvu⟩
    · rw [if_pos hw]
      refine .inl (Oper.wp_mono ?_ hop)
      rintro ac' w' ⟨v, rfl, hVv, hbl⟩
      exact fin w' v hVv hbl
    · rw [if_neg (by rw [hw]; decide)]
      exact fin w1 undef hvu (Below.refl _ _)
  · rintro L ac w1 ⟨h1, h2, h3, h4, h5, h6⟩ hall
    have hall' : ∀ j, j < ops.length → L j = true := fun j hj => hall j (by simpa using hj)
    have e : ac = putAll (dstOf ops) (fun i => ac.tmps.getD (dstOf ops i) undef) a ops.length := by
      refine act_ext (by rw [putAll_size]; exact h1) (by rw [putAll_defs]; exact h2) fun t => ?_
      by_cases ht : ∃ k, k < ops.length ∧ dstOf ops k = t
      · obtain ⟨k, hk, rfl⟩ := ht
        rw [putAll_in (dstOf ops) _ a k (dst_lt hv hk) ops.length hk (fun i j hi hj hij => dst_ne hv hi hj hij)]
      · rw [putAll_out (dstOf ops) _ a t ops.length (fun k hk e => ht ⟨k, hk, e⟩)]
        refine h3 t fun o ho hd => ?_
        obtain ⟨k, hk, hko⟩ := List.getElem_of_mem ho
        have := dst_of hv (i := k) (o := o) (by rw [List.getElem?_eq_getElem hk, hko])
        rw [this] at hd
        exact ht ⟨k, hk, by simpa using hd⟩
    have := hend (fun i => ac.tmps.getD (dstOf ops i) undef) w1 h5 (fun i hi => h4 i hi (hall' i hi)) h6
    rw [← e] at this
    exact this

theorem wanted_of {ops : Array Oper} {o : Oper} {ac : Act} {j d : Nat} {b : Bool} (hg : o.guard = some (j, b)) (hd : (ops[j]?).bind (·.dst) = some d) (hv : ac.tmps.getD d undef = .bool b) : Region.wanted o (yielded ops ac.tmps) = true := by
  have h : ac.tmps[d]? = some (.bool b) := by
    rw [Array.getD_eq_getD_getElem?] at hv
    cases hc : ac.tmps[d]? with
    | none => rw [hc] at hv; cases hv
    | some x => rw [hc] at hv; rw [show x = Value.bool b from hv]
  unfold Region.wanted
  simp [hg, yielded, hd, h]
theorem unwanted_of {ops : Array Oper} {o : Oper} {ac : Act} {j d : Nat} {b : Bool} (hg : o.guard = some (j, b)) (hd : (ops[j]?).bind (·.dst) = some d) (hv : ac.tmps.getD d undef = .bool !b) : Region.wanted o (yielded ops ac.tmps) = false := by
  have h : ac.tmps[d]? = some (.bool !b) := by
    rw [Array.getD_eq_getD_getElem?] at hv
    cases hc : ac.tmps[d]? with
    | none => rw [hc] at hv; cases hv
    | some x => rw [hc] at hv; rw [show x = Value.bool !b from hv]
  unfold Region.wanted
  cases b <;> simp [hg, yielded, hd, h]
theorem wp_reads {P : Program} {o : Oper} {ac : Act} {w1 : World} {V : Value → World → Prop} {Q : Exit → Act → World → Prop} (v : Value) (hr : (execOp ac.eval o).run P w1 = .ok (.value v) w1) (hV : V v w1) :
    o.wp P ac w1 (fun ac' w' => ∃ v, ac' = ac.put o.dst v ∧ V v w' ∧ Below w1.heap.size w1 w') Q := by
  unfold Oper.wp
  rw [hr]
  exact ⟨v, rfl, hV, Below.refl _ _⟩
theorem wp_enters {P : Program} {o : Oper} {ac : Act} {w1 : World} {V : Value → World → Prop} {Q : Exit → Act → World → Prop} (f : FuncId) (args : Array Value) (hr : (execOp ac.eval o).run P w1 = .ok (.enter f args) w1)
    (hc : Calls P f args w1 fun e w' => ∃ v, e = .returned v ∧ V v w' ∧ Below w1.heap.size w1 w') : o.wp P ac w1 (fun ac' w' => ∃ v, ac' = ac.put o.dst v ∧ V v w' ∧ Below w1.heap.size w1 w') Q := by
  unfold Oper.wp
  rw [hr]
  refine Calls.mono hc fun e w' h => ?_
  obtain ⟨v, rfl, hv, hb⟩ := h
  exact ⟨v, rfl, hv, hb⟩
end Go.Proofs.Ytnbleebilmghcaa
