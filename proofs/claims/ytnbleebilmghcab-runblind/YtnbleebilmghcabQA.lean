/- Draws, Last, Vars, Mix, Vals, Gen -/
import Derived.Deep.MidRow
import Derived.WalkKit
import Derived.BigQuiet
set_option linter.all false
namespace Go.Proofs.Ytnbleebilmghcab
open Go
theorem cnt_set (l : Array Bool) (i : Nat) (h : l.getD i true = false) :
    i < l.size ∧ 0 < l.toList.countP (fun b => !b) ∧ (l.setIfInBounds i true).toList.countP (fun b => !b) + 1 = l.toList.countP (fun b => !b) := by
  have hi : i < l.size := by
    rcases Nat.lt_or_ge i l.size with hlt | hge
    · exact hlt
    · simp [Array.getD, Nat.not_lt.2 hge] at h
  have hv : l[i] = false := by simpa [Array.getD, hi] using h
  have hpos : 0 < l.toList.countP (fun b => !b) := by
    rw [List.countP_pos_iff]
    exact ⟨l[i], by simp, by simp [hv]⟩
  refine ⟨hi, hpos, ?_⟩
  have e : (l.toList[i]'(by simpa using hi)) = false := by simpa using hv
  rw [Array.toList_setIfInBounds, List.countP_set (by simpa using hi), e]
  simp only [Bool.not_false, if_true, Bool.not_true, Bool.false_eq_true, if_false]
  omega
theorem wpAny_inv {P : Program} {ops : Array Oper} {Q : Exit → Act → World → Prop} {md : Region.Mode} (I : Array Bool → Act → World → Prop)
    (hstep : ∀ listed a w i, I listed a w → i ∈ Region.ready md ops listed → wpOp P ops Q i (I (listed.setIfInBounds i true)) a w)
    (hend : ∀ listed a w, I listed a w → Region.ready md ops listed = [] → Q .normal a w) :
    ∀ fuel listed a w, I listed a w → listed.toList.countP (fun b => !b) ≤ fuel → wpAny P md ops Q fuel listed a w := by
  intro fuel
  induction fuel with
  | zero =>
    intro listed a w h hc
    have hr : Region.ready md ops listed = [] := by
      rw [List.eq_nil_iff_forall_not_mem]
      intro i hi
      have := (cnt_set listed i (mem_ready.1 hi).1).2.1
      omega
    exact ⟨hr, hend _ _ _ h hr⟩
  | succ fuel ih =>
    intro listed a w h hc
    refine ⟨hend _ _ _ h, fun i hi => wpOp_mono (fun a' w' h' => ih _ a' w' h' ?_) (hstep _ _ _ _ h hi)⟩
    have := (cnt_set listed i (mem_ready.1 hi).1).2.2
    omega
def upd (L : Nat → Bool) (i : Nat) : Nat → Bool := fun j => if j = i then true else L j
def backB (ops : Array Oper) : Bool := (List.range ops.size).all fun j => match ops[j]? with
  | some o => o.after.all fun e => decide (e.on < j)
  | none => true
theorem all_listed {md : Region.Mode} {ops : Array Oper} (hb : backB ops = true) (listed : Array Bool) (hs : listed.size = ops.size) (hr : Region.ready md ops listed = []) :
    ∀ j, j < ops.size → listed.getD j false = true := by
  intro j
  induction j using Nat.strongRecOn with
  | ind j ih =>
    intro hj
    cases hl : listed.getD j false with
    | true => rfl
    | false =>
      exfalso
      have ho : ops[j]? = some ops[j] := by simp [hj]
      have hm : j ∈ Region.ready md ops listed := by
        rw [mem_ready]
        refine ⟨by simpa [Array.getD, hs, hj] using hl, ops[j], ho, fun e he _ => ?_⟩
        have h1 := List.all_eq_true.1 hb j (List.mem_range.2 hj)
        simp only [ho] at h1
        have h2 := Array.all_eq_true_iff_forall_mem.1 h1 e he
        have h3 : e.on < j := by simpa using h2
        exact ih e.on h3 (by omega)
      rw [hr] at hm
      exact absurd hm (by simp)
theorem wp_region_inv {P : Program} {ops : Array Oper} {Q : Exit → Act → World → Prop} {id : Nat} {a : Act} {w : World} (hm : P.follows .mixedOrders = true)
    (I : (Nat → Bool) → Act → World → Prop) (hb : backB ops = true)
    (hstart : I (fun _ => false) a { w with drawn := w.drawn + 1 })
    (hstep : ∀ L a w i o, I L a w → ops[i]? = some o → L i = false → (∀ e ∈ o.after, Region.binds .any e = true → L e.on = true) → wpOp P ops Q i (I (upd L i)) a w)
    (hend : ∀ L a w, I L a w → (∀ j, j < ops.size → L j = true) → Q .normal a w) : (Code.region id ops true).wp P Q a w := by
  refine wp_region_any hm (wpAny_inv (fun l a w => l.size = ops.size ∧ I (fun j => l.getD j false) a w) ?_ ?_ _ _ _ _ ?_ ?_)
  · rintro l a w i ⟨hs, hI⟩ hi
    obtain ⟨h1, o, ho, h2⟩ := mem_ready.1 hi
    have hi' := (cnt_set l i h1).1
    refine wpOp_mono (fun a' w' h' => ⟨by simpa using hs, ?_⟩) (hstep _ a w i o hI ho (by simpa [Array.getD, hi'] using h1) h2)
    have e : (fun j => (l.setIfInBounds i true).getD j false) = upd (fun j => l.getD j false) i := by
      funext j
      unfold upd
      by_cases hj : j = i
      · subst hj; simp [Array.getD, hi']
      · rw [if_neg hj, getD_set_ne _ (Ne.symm hj)]
    show I (fun j => (l.setIfInBounds i true).getD j false) a' w'
    rw [e]; exact h'
  · rintro l a w ⟨hs, hI⟩ hr
    exact hend _ a w hI (all_listed hb l hs hr)
  · refine ⟨by simp, ?_⟩
    have e : (fun j => (Array.replicate ops.size false).getD j false) = fun _ => false := by
      funext j
      simp [Array.getD]
    rw [e]; exact hstart
  · simpa using List.countP_le_length (p := fun b => !b) (l := List.replicate ops.size false)
theorem wpOp_of {P : Program} {ops : Array Oper} {Q : Exit → Act → World → Prop} {i : Nat} {o : Oper} {a : Act} {w : World} {K : Act → World → Prop} (ho : ops[i]? = some o) (hg : o.guard = none)
    (h : o.wp P a w K Q) : wpOp P ops Q i K a w := by
  unfold wpOp
  simp only [ho]
  rw [if_pos (by unfold Region.wanted; rw [hg])]
  exact .inl h
structure Sub (W : World) where
  val : World
  bel : Go.RowKit.Below W.heap.size W val
theorem wp_region_sub {P : Program} {id : Nat} {Q : Exit → Act → World → Prop} {a : Act} {w : World} {l : List Oper} (hm : P.follows .mixedOrders = true) (hB : Region.lexB .any l.toArray = true)
    (h : wpQuiet P l.toArray (fun w' => ∃ x : Sub w, w' = x.val) (fun a' => ∀ w', (∃ x : Sub w, w' = x.val) → Q .normal a' w') l a) : (Code.region id l.toArray true).wp P Q a w :=
  wp_region_quiet (C := fun w' => ∃ x : Sub w, w' = x.val) hm hB ⟨⟨_, (Go.RowKit.Below.refl _ _).drew⟩, rfl⟩ (by simpa using h)
theorem sub_bel {P : Program} {W : World} {x : Sub W} {f : FuncId} {args : Array Value} {v : Value} (h : Calls P f args x.val fun e w' => e = .returned v ∧ Go.RowKit.Below x.val.heap.size x.val w') :
    Calls P f args x.val fun e w'' => e = .returned v ∧ ∃ y : Sub W, w'' = y.val :=
  h.mono fun _ w' ⟨he, hb⟩ => ⟨he, ⟨w', x.bel.trans (hb.mono x.bel.size)⟩, rfl⟩
theorem sub_same {P : Program} {W : World} {x : Sub W} {f : FuncId} {args : Array Value} {v : Value} (h : Calls P f args x.val fun e w' => e = .returned v ∧ w' = x.val) :
    Calls P f args x.val fun e w'' => e = .returned v ∧ ∃ y : Sub W, w'' = y.val :=
  h.mono fun _ _ ⟨he, hb⟩ => ⟨he, x, hb⟩
theorem sub_cell {W : World} {p : Addr} {v : Value} (h : W.cell? p = some v) (x : Sub W) : x.val.cell? p = some v :=
  (x.bel.cell (World.block_lt_of_cell? W p h)).trans h
end Go.Proofs.Ytnbleebilmghcab
namespace Go.Proofs.Ytnbleebilmghcab
open Go
def sinkB (ops : Array Oper) : Bool := (List.range (ops.size - 1)).all fun j => (List.range ops.size).any fun k => decide (j < k) && (match ops[k]? with
  | some o => o.after.any fun e => decide (e.on = j) && Region.binds .any e
  | none => false)
theorem sink_spec {ops : Array Oper} (h : sinkB ops = true) (j : Nat) (hj : j + 1 < ops.size) : ∃ k o, j < k ∧ ops[k]? = some o ∧ ∃ e ∈ o.after, e.on = j ∧ Region.binds .any e = true := by
  have h1 := List.all_eq_true.1 h j (List.mem_range.2 (by omega))
  obtain ⟨k, _, h2⟩ := List.any_eq_true.1 h1
  rw [Bool.and_eq_true] at h2
  obtain ⟨h3, h4⟩ := h2
  cases ho : ops[k]? with
  | none => rw [ho] at h4; cases h4
  | some o =>
    rw [ho] at h4
    obtain ⟨i, hi, he⟩ := Array.any_eq_true.1 h4
    rw [Bool.and_eq_true] at he
    exact ⟨k, o, of_decide_eq_true h3, ho, o.after[i], by simp, of_decide_eq_true he.1, he.2⟩
def Closed (ops : Array Oper) (listed : Array Bool) : Prop := ∀ j o, ops[j]? = some o → listed.getD j false = true → ∀ e ∈ o.after, Region.binds .any e = true → listed.getD e.on false = true
theorem closed_all {ops : Array Oper} (hs : sinkB ops = true) {listed : Array Bool} (hc : Closed ops listed) (n : Nat) (hn : ops.size = n + 1) (hr : n ∈ Region.ready .any ops listed) :
    ∀ d j, j + d + 1 = n → listed.getD j false = true := by
  intro d
  induction d using Nat.strongRecOn with
  | ind d ih =>
    intro j hj
    obtain ⟨k, o, hk, ho, e, he, hej, heb⟩ := sink_spec hs j (by omega)
    have hkn : k < ops.size := (Array.getElem?_eq_some_iff.1 ho).1
    by_cases h : k = n
    · subst h
      obtain ⟨_, o', ho', hall⟩ := mem_ready.1 hr
      rw [ho] at ho'
      obtain rfl := Option.some.inj ho'
      rw [← hej]; exact hall e he heb
    · have := ih (n - 1 - k) (by omega) k (by omega)
      rw [← hej]; exact hc k o ho this e he heb
theorem wpAny_done {P : Program} {md : Region.Mode} {ops : Array Oper} {Q : Exit → Act → World → Prop} {listed : Array Bool} {a : Act} {w : World} (hr : Region.ready md ops listed = []) (h : Q .normal a w) :
    ∀ fuel, wpAny P md ops Q fuel listed a w
  | 0 => ⟨hr, h⟩
  | _ + 1 => ⟨fun _ => h, fun i hi => by rw [hr] at hi; cases hi⟩
theorem push_get (l : Array Bool) (i : Nat) (d : Bool) (h : i < l.size) : (l.push false).getD i d = l.getD i d := by
  simp [Array.getElem?_push, Nat.ne_of_lt h]
theorem push_set (l : Array Bool) (i : Nat) (h : i < l.size) : (l.push false).setIfInBounds i true = (l.setIfInBounds i true).push false := by
  apply Array.ext_getElem?
  intro j
  simp only [Array.getElem?_setIfInBounds, Array.getElem?_push, Array.size_push, Array.size_setIfInBounds]
  by_cases hij : i = j
  · subst hij; simp [Nat.ne_of_lt h, h]; omega
  · simp [hij]
theorem closed_set {ops : Array Oper} {listed : Array Bool} (hc : Closed ops listed) {i : Nat} (hr : i ∈ Region.ready .any ops listed) : Closed ops (listed.setIfInBounds i true) := by
  intro j o ho hj e he heb
  by_cases hij : i = j
  · subst hij
    obtain ⟨_, o', ho', hall⟩ := mem_ready.1 hr
    rw [ho] at ho'
    obtain rfl := Option.some.inj ho'
    exact getD_set_true (hall e he heb)
  · rw [getD_set_ne false hij] at hj
    exact getD_set_true (hc j o ho hj e he heb)
section
variable {P : Program} {C : World → Prop} {Q : Exit → Act → World → Prop} {Qq : Act → Prop} {l : List Oper} {o : Oper}
theorem wpAny_last (hg : ∀ x ∈ l ++ [o], x.guard = none) (hb : backB (l ++ [o]).toArray = true) (hs : sinkB (l ++ [o]).toArray = true)
    (hQ : ∀ a w, C w → Qq a → o.wp P a w (fun a' w' => Q .normal a' w') Q) :
    ∀ fuel listed a w, listed.size = l.length → Closed (l ++ [o]).toArray (listed.push false) → C w → wpAnyQ P .any l.toArray C Qq fuel listed a →
      wpAny P .any (l ++ [o]).toArray Q (fuel + 1) (listed.push false) a w := by
  intro fuel
  induction fuel with
  | zero =>
    intro listed a w hsz hc hw h
    refine ⟨fun h0 => ?_, fun i hi => ?_⟩
    · exfalso
      have := all_listed hb _ (by simp [hsz]) h0 l.length (by simp)
      simp [← hsz] at this
    · obtain ⟨hi1, oi, hoi, hi2⟩ := mem_ready.1 hi
      have hlt : i < l.length + 1 := by have := (Array.getElem?_eq_some_iff.1 hoi).1; simpa using this
      by_cases hin : i = l.length
      · subst hin
        have e : oi = o := by simpa using hoi.symm
        subst e
        refine wpOp_of hoi (hg _ (by simp)) ?_
        refine Oper.wp_mono (fun a' w' hq => wpAny_done ?_ hq _) (hQ a w hw h.2)
        rw [List.eq_nil_iff_forall_not_mem]
        intro k hk
        obtain ⟨hk1, ok, hok, _⟩ := mem_ready.1 hk
        have hkl : k < l.length + 1 := by have := (Array.getElem?_eq_some_iff.1 hok).1; simpa using this
        by_cases hkn : k = l.length
        · subst hkn; simp [← hsz] at hk1
        · have := closed_all hs hc l.length (by simp) hi (l.length - 1 - k) k (by omega)
          rw [getD_set_ne true (by omega)] at hk1
          rw [push_get _ _ _ (by omega)] at this hk1
          simp [Array.getD, show k < listed.size by omega] at this hk1
          rw [this] at hk1; cases hk1
      · exfalso
        have hi' : i ∈ Region.ready .any l.toArray listed := by
          rw [mem_ready]
          refine ⟨by rw [push_get _ _ _ (by omega)] at hi1; exact hi1, oi, ?_, fun e he heb => ?_⟩
          · have : i < l.length := by omega
            simpa [List.getElem?_append_left this] using hoi
          · have h2 := hi2 e he heb
            have h3 := List.all_eq_true.1 hb i (List.mem_range.2 (by simpa using hlt))
            simp only [hoi] at h3
            have h4 : e.on < i := by simpa using Array.all_eq_true_iff_forall_mem.1 h3 e he
            rwa [push_get _ _ _ (by omega)] at h2
        rw [h.1] at hi'
        cases hi'
  | succ fuel ih =>
    intro listed a w hsz hc hw h
    refine ⟨fun h0 => ?_, fun i hi => ?_⟩
    · exfalso
      have := all_listed hb _ (by simp [hsz]) h0 l.length (by simp)
      simp [← hsz] at this
    · obtain ⟨hi1, oi, hoi, hi2⟩ := mem_ready.1 hi
      have hlt : i < l.length + 1 := by have := (Array.getElem?_eq_some_iff.1 hoi).1; simpa using this
      by_cases hin : i = l.length
      · subst hin
        have e : oi = o := by simpa using hoi.symm
        subst e
        have hall : ∀ k, k < l.length → listed.getD k false = true := fun k hk => by
          have := closed_all hs hc l.length (by simp) hi (l.length - 1 - k) k (by omega)
          rwa [push_get _ _ _ (by omega)] at this
        have hnil : Region.ready .any l.toArray listed = [] := by
          rw [List.eq_nil_iff_forall_not_mem]
          intro k hk
          obtain ⟨hk1, ok, hok, _⟩ := mem_ready.1 hk
          have hkl : k < l.length := by have := (Array.getElem?_eq_some_iff.1 hok).1; simpa using this
          have := hall k hkl
          simp [Array.getD, show k < listed.size by omega] at this hk1
          rw [this] at hk1; cases hk1
        refine wpOp_of hoi (hg _ (by simp)) ?_
        refine Oper.wp_mono (fun a' w' hq => wpAny_done ?_ hq _) (hQ a w hw (h.1 hnil))
        rw [List.eq_nil_iff_forall_not_mem]
        intro k hk
        obtain ⟨hk1, ok, hok, _⟩ := mem_ready.1 hk
        have hkl : k < l.length + 1 := by have := (Array.getElem?_eq_some_iff.1 hok).1; simpa using this
        by_cases hkn : k = l.length
        · subst hkn; simp [← hsz] at hk1
        · have := hall k (by omega)
          rw [getD_set_ne true (by omega)] at hk1
          rw [push_get _ _ _ (by omega)] at hk1
          simp [Array.getD, show k < listed.size by omega] at this hk1
          rw [this] at hk1; cases hk1
      · have hol : l.toArray[i]? = some oi := by
          have : i < l.length := by omega
          simpa [List.getElem?_append_left this] using hoi
        have hi' : i ∈ Region.ready .any l.toArray listed := by
          rw [mem_ready]
          refine ⟨by rw [push_get _ _ _ (by omega)] at hi1; exact hi1, oi, hol, fun e he heb => ?_⟩
          have h2 := hi2 e he heb
          have h3 := List.all_eq_true.1 hb i (List.mem_range.2 (by simpa using hlt))
          simp only [hoi] at h3
          have h4 : e.on < i := by simpa using Array.all_eq_true_iff_forall_mem.1 h3 e he
          rwa [push_get _ _ _ (by omega)] at h2
        have hq := h.2 i hi'
        unfold qOp at hq
        simp only [hol] at hq
        have hmem : oi ∈ l ++ [o] := by
          have := List.mem_of_getElem? (show (l ++ [o])[i]? = some oi by simpa using hoi)
          exact this
        have hgi := hg oi hmem
        rw [if_pos (by unfold Region.wanted; rw [hgi])] at hq
        refine wpOp_of hoi hgi ?_
        refine Oper.wp_of_quiet hw (fun a' w' hw' h' => ?_) hq
        rw [push_set _ _ (by omega)]
        exact ih _ a' w' (by simpa using hsz) (by rw [← push_set _ _ (by omega)]; exact closed_set hc hi) hw' h'
theorem wp_region_last {id : Nat} {a : Act} {w : World} (hm : P.follows .mixedOrders = true) (hg : ∀ x ∈ l ++ [o], x.guard = none) (hb : backB (l ++ [o]).toArray = true) (hs : sinkB (l ++ [o]).toArray = true)
    (hB : Region.lexB .any l.toArray = true)
    (h : wpQuiet P l.toArray (fun w' => ∃ x : Sub w, w' = x.val) (fun a' => ∀ w', (∃ x : Sub w, w' = x.val) → o.wp P a' w' (fun a' w' => Q .normal a' w') Q) l a) : (Code.region id (l ++ [o]).toArray true).wp P Q a w := by
  simp only [Region.lexB, Bool.and_eq_true] at hB
  refine wp_region_any hm ?_
  have h1 := wpAnyQ_lex (P := P) (C := fun w' => ∃ x : Sub w, w' = x.val) (md := .any) hB.1 l 0 (Array.replicate l.length false) a (by simp) (by simpa using hB.2) h
  have h2 := wpAny_last (C := fun w' => ∃ x : Sub w, w' = x.val) (Q := Q) hg hb hs (fun a w hw h => h w hw) l.length (Array.replicate l.length false) a { w with drawn := w.drawn + 1 } (by simp)
    (by
      intro j oj _ hj
      exfalso
      have e : (Array.replicate l.length false).push false = Array.replicate (l.length + 1) false := by simp [Array.replicate_succ]
      rw [e] at hj
      simp [Array.getD] at hj)
    ⟨⟨_, (Go.RowKit.Below.refl _ _).drew⟩, rfl⟩ h1
  have e : (Array.replicate l.length false).push false = Array.replicate (l.length + 1) false := by simp [Array.replicate_succ]
  rw [e] at h2
  simpa using h2
theorem wp_region_last_at {ops : List Oper} {id : Nat} {a : Act} {w : World} (n : Nat) (o : Oper) (ho : ops[n]? = some o) (hn : ops.length = n + 1) (hm : P.follows .mixedOrders = true) (hg : ops.all (fun o => o.guard.isNone) = true)
    (hb : backB ops.toArray = true) (hs : sinkB ops.toArray = true) (hB : Region.lexB .any (ops.take n).toArray = true)
    (h : ∀ l, l = ops.take n → wpQuiet P l.toArray (fun w' => ∃ x : Sub w, w' = x.val) (fun a' => ∀ w', (∃ x : Sub w, w' = x.val) → o.wp P a' w' (fun a' w' => Q .normal a' w') Q) l a) : (Code.region id ops.toArray true).wp P Q a w := by
  have e : ops = ops.take n ++ [o] := by
    have h1 : n < ops.length := by omega
    have h2 : ops.drop n = [o] := by
      rw [List.drop_eq_getElem_cons h1, List.drop_eq_nil_of_le (by omega)]
      simpa [List.getElem?_eq_getElem h1] using ho
    rw [← h2, List.take_append_drop]
  have h' := h _ rfl
  rw [e] at hg hb hs ⊢
  exact wp_region_last hm (fun x hx => by simpa using List.all_eq_true.1 hg x hx) hb hs (by simpa [hn] using hB) (by simpa [hn] using h')
end
end Go.Proofs.Ytnbleebilmghcab
namespace Go.Proofs.Ytnbleebilmghcab
open Go Go.RowKit
theorem keep_below {W w1 : World} (hb : Below W.heap.size W w1) {p : Addr} {v : Value} (h : W.cell? p = some v) : w1.cell? p = some v :=
  (hb.cell (World.block_lt_of_cell? W p h)).trans h
theorem there_below {W w1 : World} (hb : Below W.heap.size W w1) {g o n : Nat} (hg : g < W.heap.size) (h : W.there g o n) : w1.there g o n := fun j hj => by
  rw [hb.cell (p := ⟨g, o + j, none⟩) hg, hb.frozen (p := ⟨g, o + j, none⟩) hg]; exact h j hj
theorem range_below {W w1 : World} (hb : Below W.heap.size W w1) {g o : Nat} {cs : List Value} (hg : g < W.heap.size) (h : W.rangeAt g o cs) : w1.rangeAt g o cs := fun j v hv => by
  rw [hb.cell (p := ⟨g, o + j, none⟩) hg]; exact h j v hv
theorem below_setCells {B : Nat} {w0 : World} (b : Nat) (hb : B ≤ b) : ∀ (vs : List Value) (o : Nat) (w : World), Below B w0 w → Below B w0 (w.setCells b o vs)
  | [], _, _, h => h
  | v :: r, o, _, h => below_setCells b hb r (o + 1) _ (h.setCell (p := ⟨b, o, none⟩) hb v)
theorem size_setCells (b : Nat) : ∀ (vs : List Value) (o : Nat) (w : World), (w.setCells b o vs).heap.size = w.heap.size
  | [], _, _ => rfl
  | v :: r, o, w => by show ((w.setCell _ v).setCells b (o + 1) r).heap.size = _; rw [size_setCells b r]; simp
structure VW (w0 : World) (m : Nat) (sz : Nat → Nat) (cs : Nat → List Value) (l st : Nat → Bool) (v : Nat → Value) (g : Nat → Nat) (w : World) : Prop where
  bel : Below w0.heap.size w0 w
  own : ∀ k, k < m → l k = true → v k = .pointer (some ⟨g k, 0, none⟩) ∧ w0.heap.size ≤ g k ∧ g k < w.heap.size ∧ w.there (g k) 0 (sz k)
  ne : ∀ j k, j < m → k < m → l j = true → l k = true → j ≠ k → g j ≠ g k
  has : ∀ k, k < m → st k = true → l k = true ∧ w.rangeAt (g k) 0 (cs k)
section
variable {w0 : World} {m : Nat} {sz : Nat → Nat} {cs : Nat → List Value} {l st l' st' : Nat → Bool} {v v' : Nat → Value} {g : Nat → Nat} {w w1 : World}
theorem VW.congr (h : VW w0 m sz cs l st v g w) (hl : ∀ k, k < m → l' k = l k) (hst : ∀ k, k < m → st' k = st k) (hv : ∀ k, k < m → v' k = v k) : VW w0 m sz cs l' st' v' g w :=
  ⟨h.bel, fun k hk e => by rw [hv k hk]; exact h.own k hk (by rw [← hl k hk]; exact e),
    fun j k hj hk e1 e2 => h.ne j k hj hk (by rw [← hl j hj]; exact e1) (by rw [← hl k hk]; exact e2), fun k hk e => by rw [hl k hk]; exact h.has k hk (by rw [← hst k hk]; exact e)⟩
theorem VW.below (h : VW w0 m sz cs l st v g w) (hb : Below w.heap.size w w1) : VW w0 m sz cs l st v g w1 :=
  ⟨h.bel.trans (hb.mono h.bel.size),
    fun k hk e => by obtain ⟨h1, h2, h3, h4⟩ := h.own k hk e; exact ⟨h1, h2, Nat.lt_of_lt_of_le h3 hb.size, there_below hb h3 h4⟩,
    h.ne, fun k hk e => ⟨(h.has k hk e).1, range_below hb (h.own k hk (h.has k hk e).1).2.2.1 (h.has k hk e).2⟩⟩
theorem VW.alloc (h : VW w0 m sz cs l st v g w) (k : Nat) (hl : l k = false) (o : Obj) (ho : (w.alloc o).there w.heap.size 0 (sz k)) :
    VW w0 m sz cs (fun j => if j = k then true else l j) st (fun j => if j = k then .pointer (some ⟨w.heap.size, 0, none⟩) else v j) (fun j => if j = k then w.heap.size else g j) (w.alloc o) := by
  have hb : Below w.heap.size w (w.alloc o) := (Below.refl _ _).alloc (Nat.le_refl _) _
  refine ⟨h.bel.trans (hb.mono h.bel.size), fun j hj e => ?_, fun i j hi hj e1 e2 hne => ?_, fun j hj e => ?_⟩
  · by_cases hk : j = k
    · subst hk
      simp only [if_true]
      exact ⟨trivial, h.bel.size, by simp, ho⟩
    · simp only [hk, if_false] at e ⊢
      obtain ⟨h1, h2, h3, h4⟩ := h.own j hj e
      exact ⟨h1, h2, by simp; omega, there_below hb h3 h4⟩
  · by_cases hik : i = k <;> by_cases hjk : j = k
    · omega
    · simp only [hik, hjk, if_true, if_false] at e2 ⊢
      have := (h.own j hj e2).2.2.1; omega
    · simp only [hik, hjk, if_true, if_false] at e1 ⊢
      have := (h.own i hi e1).2.2.1; omega
    · simp only [hik, hjk, if_false] at e1 e2 ⊢
      exact h.ne i j hi hj e1 e2 hne
  · have h1 := h.has j hj e
    have hjk : j ≠ k := fun e' => by rw [e', hl] at h1; exact absurd h1.1 (by simp)
    simp only [hjk, if_false]
    exact ⟨h1.1, range_below hb (h.own j hj h1.1).2.2.1 h1.2⟩
theorem VW.store (h : VW w0 m sz cs l st v g w) (k : Nat) (hk : k < m) (hl : l k = true) (hlen : (cs k).length = sz k) :
    VW w0 m sz cs l (fun j => if j = k then true else st j) v g (w.setCells (g k) 0 (cs k)) := by
  obtain ⟨p1, p2, p3, p4⟩ := h.own k hk hl
  refine ⟨below_setCells _ (by omega) _ _ _ h.bel, fun j hj e => ?_, h.ne, fun j hj e => ?_⟩
  · obtain ⟨h1, h2, h3, h4⟩ := h.own j hj e
    exact ⟨h1, h2, by rw [size_setCells]; exact h3, World.there_setCells h4 _ _ _⟩
  · by_cases hjk : j = k
    · subst hjk
      exact ⟨hl, World.rangeAt_setCells_same _ _ _ _ (by rw [hlen]; exact p4)⟩
    · simp only [hjk, if_false] at e
      have h1 := h.has j hj e
      exact ⟨h1.1, World.rangeAt_setCells_apart h1.2 _ _ _ (.inl (h.ne j k hj hk h1.1 hl hjk))⟩
end
def tmpsOf (o : Oper) : List Tmp := o.op.operands.toList.filterMap fun | .tmp t => some t | _ => none
def ssaB (ops : List Oper) : Bool := (List.range ops.length).all fun j => match ops[j]? with
  | none => true
  | some o => (tmpsOf o).all fun t => (List.range ops.length).all fun i => match ops[i]? with
    | none => true
    | some p => p.dst != some t || (decide (i < j) && o.after.any fun e => decide (e.on = i) && Region.binds .any e)
def dstB (ops : List Oper) : Bool := (List.range ops.length).all fun j => (List.range j).all fun i => match ops[i]?, ops[j]? with
  | some p, some q => p.dst.isNone || p.dst != q.dst
  | _, _ => true
theorem ssa_spec {ops : List Oper} (h : ssaB ops = true) {i j : Nat} {o p : Oper} (hj : ops[j]? = some o) (hi : ops[i]? = some p) {t : Tmp} (ht : .tmp t ∈ o.op.operands) (hp : p.dst = some t) :
    i < j ∧ ∃ e ∈ o.after, e.on = i ∧ Region.binds .any e = true := by
  have hjl : j < ops.length := (List.getElem?_eq_some_iff.1 hj).1
  have hil : i < ops.length := (List.getElem?_eq_some_iff.1 hi).1
  have h1 := List.all_eq_true.1 h j (List.mem_range.2 hjl)
  simp only [hj] at h1
  have h2 := List.all_eq_true.1 h1 t (List.mem_filterMap.2 ⟨.tmp t, by simpa using ht, rfl⟩)
  have h3 := List.all_eq_true.1 h2 i (List.mem_range.2 hil)
  simp only [hi, hp, bne_self_eq_false, Bool.false_or, Bool.and_eq_true, decide_eq_true_eq] at h3
  obtain ⟨k, hk, he⟩ := Array.any_eq_true.1 h3.2
  rw [Bool.and_eq_true] at he
  exact ⟨h3.1, o.after[k], by simp, of_decide_eq_true he.1, he.2⟩
theorem dst_spec {ops : List Oper} (h : dstB ops = true) {i j : Nat} {o p : Oper} (hij : i ≠ j) (hi : ops[i]? = some p) (hj : ops[j]? = some o) {d : Tmp} (hp : p.dst = some d) : o.dst ≠ some d := by
  have key : ∀ {i j : Nat} {o p : Oper}, i < j → ops[i]? = some p → ops[j]? = some o → ∀ d, p.dst = some d → o.dst ≠ some d := by
    intro i j o p hij hi hj d hp ho
    have h1 := List.all_eq_true.1 h j (List.mem_range.2 (List.getElem?_eq_some_iff.1 hj).1)
    have h2 := List.all_eq_true.1 h1 i (List.mem_range.2 hij)
    simp [hi, hj, hp, ho] at h2
  rcases Nat.lt_or_gt_of_ne hij with h1 | h1
  · exact key h1 hi hj d hp
  · intro ho; exact key h1 hj hi d ho hp
theorem put_get (a : Act) (d t : Tmp) (v : Value) : (a.put (some d) v).tmps.getD t undef = if d = t ∧ d < a.tmps.size then v else a.tmps.getD t undef := by
  simp only [Act.put, Array.getD_eq_getD_getElem?, Array.getElem?_setIfInBounds]
  by_cases h : d = t
  · subst h
    by_cases h2 : d < a.tmps.size
    · simp [h2]
    · simp [h2]
  · simp [h]
theorem put_size (a : Act) (x : Option Tmp) (v : Value) : (a.put x v).tmps.size = a.tmps.size := by cases x <;> simp [Act.put]
theorem put_defs (a : Act) (x : Option Tmp) (v : Value) : (a.put x v).defers = a.defers := by cases x <;> rfl
theorem quiet_keep {P : Program} {ops : Array Oper} {C : World → Prop} {af : Act} : ∀ (l : List Oper) (a : Act), (∀ o ∈ l, o.guard = none) → wpQuiet P ops C (fun a' => a' = af) l a →
    a.tmps.size = af.tmps.size ∧ a.defers = af.defers ∧ ∀ t, (∀ o ∈ l, o.dst ≠ some t) → a.tmps.getD t undef = af.tmps.getD t undef
  | [], a, _, h => by obtain rfl : a = af := h; exact ⟨rfl, rfl, fun _ _ => rfl⟩
  | o :: l, a, hg, h => by
    unfold wpQuiet at h
    rw [if_pos (by unfold Region.wanted; rw [hg o (by simp)])] at h
    obtain ⟨v, _, h2⟩ := h
    obtain ⟨h3, h4, h5⟩ := quiet_keep l _ (fun x hx => hg x (by simp [hx])) h2
    rw [put_size] at h3
    rw [put_defs] at h4
    refine ⟨h3, h4, fun t ht => ?_⟩
    rw [← h5 t (fun x hx => ht x (by simp [hx]))]
    cases hd : o.dst with
    | none => rfl
    | some d =>
      have : d ≠ t := fun e => ht o (by simp) (by rw [hd, e])
      rw [put_get, if_neg (fun e => this e.1)]
theorem quiet_ssa {P : Program} {ops : Array Oper} {C : World → Prop} {af : Act} (hC : ∃ w, C w) : ∀ (l : List Oper) (a : Act), (∀ o ∈ l, o.guard = none) → (∀ o ∈ l, ∀ cs b, o.op ≠ .select cs b) → wpQuiet P ops C (fun a' => a' = af) l a →
    (∀ (i j : Nat) (o p : Oper), l[i]? = some p → l[j]? = some o → ∀ t : Tmp, Operand.tmp t ∈ o.op.operands → p.dst = some t → i < j) →
    (∀ (i j : Nat) (o p : Oper), i ≠ j → l[i]? = some p → l[j]? = some o → ∀ d, p.dst = some d → o.dst ≠ some d) →
    ∀ (j : Nat) (o : Oper), l[j]? = some o → ∃ v, (∀ w, C w → o.quietAt P af C w v) ∧ ∀ d, o.dst = some d → d < af.tmps.size → af.tmps.getD d undef = v
  | [], _, _, _, _, _, _, j, o, hj => by simp at hj
  | o :: l, a, hg, hsel, h, hs, hd, j, q, hj => by
    have hk := quiet_keep (o :: l) a hg h
    unfold wpQuiet at h
    rw [if_pos (by unfold Region.wanted; rw [hg o (by simp)])] at h
    obtain ⟨v, h1, h2⟩ := h
    cases j with
    | zero =>
      obtain rfl : o = q := by simpa using hj
      refine ⟨v, fun w hw => ?_, fun d hdd hlt => ?_⟩
      · have := h1 w hw
        unfold Oper.quietAt at this ⊢
        rwa [execOp_congr (ρ := af.eval) (ρ' := a.eval) o (hsel o (by simp)) (fun x hx => ?_)]
        cases x with
        | tmp t =>
          show af.tmps.getD t undef = a.tmps.getD t undef
          refine (hk.2.2 t (fun p hp hpd => ?_)).symm
          obtain ⟨i, hi⟩ := List.getElem?_of_mem hp
          exact absurd (hs i 0 o p hi (by simp) t hx hpd) (by omega)
        | _ => rfl
      · obtain ⟨h3, _, h5⟩ := quiet_keep l _ (fun x hx => hg x (by simp [hx])) h2
        rw [← h5 d (fun p hp hpd => ?_), hdd, put_get, if_pos ⟨rfl, by rw [put_size] at h3; rw [h3]; exact hlt⟩]
        obtain ⟨i, hi⟩ := List.getElem?_of_mem hp
        exact hd 0 (i + 1) p o (by omega) (by simp) (by simpa using hi) d hdd hpd
    | succ j =>
      exact quiet_ssa hC l _ (fun x hx => hg x (by simp [hx])) (fun x hx => hsel x (by simp [hx])) h2 (fun i j o p hi hj t ht hp => by
        have := hs (i + 1) (j + 1) o p (by simpa using hi) (by simpa using hj) t ht hp
        omega) (fun i j o p hij hi hj d hp => hd (i + 1) (j + 1) o p (by omega) (by simpa using hi) (by simpa using hj) d hp) j q (by simpa using hj)
def putAll (s : Nat → Tmp) (v : Nat → Value) (a : Act) : Nat → Act
  | 0 => a
  | m + 1 => (putAll s v a m).put (some (s m)) (v m)
theorem putAll_size (s : Nat → Tmp) (v : Nat → Value) (a : Act) : ∀ m, (putAll s v a m).tmps.size = a.tmps.size
  | 0 => rfl
  | m + 1 => by show ((putAll s v a m).put _ _).tmps.size = _; rw [put_size, putAll_size s v a m]
theorem putAll_defs (s : Nat → Tmp) (v : Nat → Value) (a : Act) : ∀ m, (putAll s v a m).defers = a.defers
  | 0 => rfl
  | m + 1 => by show ((putAll s v a m).put _ _).defers = _; rw [put_defs, putAll_defs s v a m]
theorem putAll_out (s : Nat → Tmp) (v : Nat → Value) (a : Act) (t : Tmp) : ∀ m, (∀ k, k < m → s k ≠ t) → (putAll s v a m).tmps.getD t undef = a.tmps.getD t undef
  | 0, _ => rfl
  | m + 1, h => by
    show ((putAll s v a m).put _ _).tmps.getD t undef = _
    rw [put_get, if_neg (fun e => h m (by omega) e.1)]
    exact putAll_out s v a t m (fun k hk => h k (by omega))
theorem putAll_in (s : Nat → Tmp) (v : Nat → Value) (a : Act) (k : Nat) (hlt : s k < a.tmps.size) : ∀ m, k < m → (∀ i j, i < m → j < m → i ≠ j → s i ≠ s j) → (putAll s v a m).tmps.getD (s k) undef = v k
  | m + 1, hk, h => by
    show ((putAll s v a m).put _ _).tmps.getD (s k) undef = _
    by_cases e : k = m
    · subst e; rw [put_get, if_pos ⟨rfl, by rw [putAll_size]; exact hlt⟩]
    · rw [put_get, if_neg (fun e' => h m k (by omega) (by omega) (Ne.symm e) e'.1)]
      exact putAll_in s v a k hlt m (by omega) (fun i j hi hj => h i j (by omega) (by omega))
structure VarsForm (P : Program) (ops : List Oper) (n m : Nat) (s : Nat → Tmp) (T : Nat → TypeId) (y : Nat → Operand) (z : Nat → Array Value) (sz : Nat → Nat) : Prop where
  len : ops.length = n + m + m
  al : ∀ k, k < m → ∃ o, ops[n + k]? = some o ∧ o.op = .alloc (T k) ∧ o.dst = some (s k)
  st : ∀ k, k < m → ∃ o, ops[n + m + k]? = some o ∧ o.op = .store (T k) (.tmp (s k)) (y k) ∧ o.dst = none
  run : ∀ k, k < m → ∀ o : Oper, o.op = .alloc (T k) → ∀ (a : Act) (w : World) (K : Act → World → Prop) (Q : Exit → Act → World → Prop), K (a.put o.dst (.pointer (some ⟨w.heap.size, 0, none⟩))) (w.alloc (.cells (z k) (T k))) → o.wp P a w K Q
  size : ∀ k, k < m → (z k).size = sz k
  info : ∀ k, k < m → (P.info? (T k)).map (·.size) = some (sz k)
theorem there_cells (w : World) (z : Array Value) (t : TypeId) : (w.alloc (.cells z t)).there w.heap.size 0 z.size := fun j hj => by
  simp [go_sem, hj]
structure FI (ops : List Oper) (n m : Nat) (s : Nat → Tmp) (af : Act) (L : Nat → Bool) (v : Nat → Value) (ac : Act) : Prop where
  size : ac.tmps.size = af.tmps.size
  defs : ac.defers = af.defers
  out : ∀ t, (∀ o ∈ ops, o.dst ≠ some t) → ac.tmps.getD t undef = af.tmps.getD t undef
  qs : ∀ (i : Nat) (o : Oper) (d : Tmp), i < n → ops[i]? = some o → L i = true → o.dst = some d → ac.tmps.getD d undef = af.tmps.getD d undef
  vs : ∀ k, k < m → L (n + k) = true → ac.tmps.getD (s k) undef = v k
theorem FI.eval {ops : List Oper} {n m : Nat} {s : Nat → Tmp} {T : Nat → TypeId} {y : Nat → Operand} {z : Nat → Array Value} {sz : Nat → Nat} {P : Program} (hf : VarsForm P ops n m s T y z sz) {af : Act} {L : Nat → Bool} {v : Nat → Value} {ac : Act}
    (h : FI ops n m s af L v ac) (hssa : ssaB ops = true) {j : Nat} {o : Oper} (hj : ops[j]? = some o) (he : ∀ e ∈ o.after, Region.binds .any e = true → L e.on = true)
    {x : Operand} (hx : x ∈ o.op.operands) (hxs : ∀ k, k < m → x ≠ .tmp (s k)) : ac.eval x = af.eval x := by
  cases x with
  | tmp t =>
    show ac.tmps.getD t undef = af.tmps.getD t undef
    by_cases hex : ∃ p ∈ ops, p.dst = some t
    · obtain ⟨p, hp, hpd⟩ := hex
      obtain ⟨i, hi⟩ := List.getElem?_of_mem hp
      obtain ⟨hij, e, hea, hei, heb⟩ := ssa_spec hssa hj hi hx hpd
      have hli : L i = true := by rw [← hei]; exact he e hea heb
      have hil : i < ops.length := (List.getElem?_eq_some_iff.1 hi).1
      rw [hf.len] at hil
      by_cases hin : i < n
      · exact h.qs i p t hin hi hli hpd
      · exfalso
        by_cases him : i < n + m
        · obtain ⟨q, hq, _, hqd⟩ := hf.al (i - n) (by omega)
          rw [show n + (i - n) = i by omega, hi] at hq
          obtain rfl := Option.some.inj hq
          rw [hpd] at hqd
          exact hxs (i - n) (by omega) (by rw [Option.some.inj hqd])
        · obtain ⟨q, hq, _, hqd⟩ := hf.st (i - (n + m)) (by omega)
          rw [show n + m + (i - (n + m)) = i by omega, hi] at hq
          obtain rfl := Option.some.inj hq
          rw [hpd] at hqd
          cases hqd
    · exact h.out t (fun o ho hd => hex ⟨o, ho, hd⟩)
  | _ => rfl
theorem FI.put {ops : List Oper} {n m : Nat} {s : Nat → Tmp} {T : Nat → TypeId} {y : Nat → Operand} {z : Nat → Array Value} {sz : Nat → Nat} {P : Program} (hf : VarsForm P ops n m s T y z sz) {af : Act} {L : Nat → Bool} {v : Nat → Value} {ac : Act}
    (h : FI ops n m s af L v ac) (hdst : dstB ops = true) {j : Nat} {o : Oper} (hj : ops[j]? = some o) (u : Value) (v' : Nat → Value)
    (hq : ∀ d, j < n → o.dst = some d → d < af.tmps.size → af.tmps.getD d undef = u)
    (hv : ∀ k, k < m → j ≠ n + k → v' k = v k) (hv2 : ∀ k, k < m → j = n + k → v' k = u ∧ s k < af.tmps.size) : FI ops n m s af (upd L j) v' (ac.put o.dst u) := by
  refine ⟨by rw [put_size]; exact h.size, by rw [put_defs]; exact h.defs, fun t ht => ?_, fun i p d hi hp hL hd => ?_, fun k hk hL => ?_⟩
  · rw [← h.out t ht]
    cases ho : o.dst with
    | none => rfl
    | some d =>
      have : d ≠ t := fun e => ht o (List.mem_of_getElem? hj) (by rw [ho, e])
      rw [put_get, if_neg (fun e => this e.1)]
  · by_cases hij : i = j
    · subst hij
      rw [hp] at hj
      obtain rfl := Option.some.inj hj
      rw [hd, put_get]
      by_cases hlt : d < af.tmps.size
      · rw [if_pos ⟨rfl, by rw [h.size]; exact hlt⟩, hq d hi hd hlt]
      · rw [if_neg (fun e => hlt (by rw [← h.size]; exact e.2))]
        simp [Array.getD, hlt, h.size]
    · rw [← h.qs i p d hi hp (by unfold upd at hL; rwa [if_neg hij] at hL) hd]
      cases ho : o.dst with
      | none => rfl
      | some d' =>
        have : d' ≠ d := fun e => dst_spec hdst hij hp hj hd (by rw [ho, e])
        rw [put_get, if_neg (fun e => this e.1)]
  · obtain ⟨q, hq1, _, hq3⟩ := hf.al k hk
    by_cases hij : j = n + k
    · subst hij
      rw [hj] at hq1
      obtain rfl := Option.some.inj hq1
      obtain ⟨e1, e2⟩ := hv2 k hk rfl
      rw [hq3, put_get, if_pos ⟨rfl, by rw [h.size]; exact e2⟩, e1]
    · rw [hv k hk hij, ← h.vs k hk (by unfold upd at hL; rwa [if_neg (Ne.symm hij)] at hL)]
      cases ho : o.dst with
      | none => rfl
      | some d' =>
        have : d' ≠ s k := fun e => dst_spec hdst hij hj hq1 ho (by rw [hq3, e])
        rw [put_get, if_neg (fun e => this e.1)]
theorem wp_region_vars {P : Program} {id : Nat} {Q : Exit → Act → World → Prop} {a : Act} {w : World} {ops : List Oper} (n m : Nat) {s : Nat → Tmp} {T : Nat → TypeId} {y : Nat → Operand} {z : Nat → Array Value} {sz : Nat → Nat} (cs : Nat → List Value)
    (hf : VarsForm P ops n m s T y z sz) (hm : P.follows .mixedOrders = true) (hb : backB ops.toArray = true) (hssa : ssaB ops = true) (hdst : dstB ops = true) (hgd : ops.all (fun o => o.guard.isNone) = true)
    (hsel : Region.noSelect ops.toArray = true) (hy : ∀ k, k < m → ∀ k', k' < m → y k ≠ .tmp (s k')) (hsb : ∀ k, k < m → s k < a.tmps.size) (af : Act)
    (hq : ∀ w1, Below w.heap.size w w1 → wpQuiet P ops.toArray (fun w' => ∃ x : Sub w1, w' = x.val) (fun a' => a' = af) (ops.take n) a)
    (hcs : ∀ k, k < m → af.eval (y k) = .agg (cs k).toArray ∧ (cs k).length = sz k ∧ (cs k).toArray.all (·.oneCell') = true)
    (hend : ∀ v g w1, VW w m sz cs (fun _ => true) (fun _ => true) v g w1 → Q .normal (putAll s v af m) w1) : (Code.region id ops.toArray true).wp P Q a w := by
  have hgn : ∀ o ∈ ops, o.guard = none := fun o ho => by simpa using List.all_eq_true.1 hgd o ho
  have hk0 := quiet_keep (ops.take n) a (fun o ho => hgn o (List.mem_of_mem_take ho)) (hq w (Below.refl _ _))
  have hsb' : ∀ k, k < m → s k < af.tmps.size := fun k hk => by rw [← hk0.1]; exact hsb k hk
  have hlen := hf.len
  refine wp_region_inv hm (fun L ac w1 => ∃ v g, FI ops n m s af L v ac ∧ VW w m sz cs (fun k => L (n + k)) (fun k => L (n + m + k)) v g w1) hb ?_ ?_ ?_
  · refine ⟨fun _ => undef, fun _ => 0, ⟨hk0.1, hk0.2.1, fun t ht => hk0.2.2 t (fun o ho => ht o (List.mem_of_mem_take ho)), ?_, ?_⟩, ⟨(Below.refl _ _).drew, ?_, ?_, ?_⟩⟩ <;> (intros; simp_all)
  · rintro L ac w1 i o ⟨v, g, hF, hW⟩ ho0 hL he
    have ho : ops[i]? = some o := by simpa using ho0
    have hil : i < ops.length := (List.getElem?_eq_some_iff.1 ho).1
    have hmem := List.mem_of_getElem? ho
    refine wpOp_of ho0 (hgn o hmem) ?_
    by_cases hin : i < n
    · have hoi : (ops.take n)[i]? = some o := by rw [List.getElem?_take, if_pos hin]; exact ho
      obtain ⟨u, hu1, hu2⟩ := quiet_ssa (P := P) (ops := ops.toArray) (C := fun w' => ∃ x : Sub w1, w' = x.val) (af := af) ⟨w1, ⟨w1, Below.refl _ _⟩, rfl⟩ (ops.take n) a (fun o ho => hgn o (List.mem_of_mem_take ho))
        (fun o ho cs b => by
          obtain ⟨j, hj⟩ := List.getElem?_of_mem (List.mem_of_mem_take ho)
          exact Region.noSelect_spec hsel j o cs b (by simpa using hj)) (hq w1 hW.bel)
        (fun i j o p hi hj t ht hp => by
          rw [List.getElem?_take] at hi hj
          split at hi <;> split at hj <;> simp_all
          exact (ssa_spec hssa hj hi (by simpa using ht) hp).1)
        (fun i j o p hij hi hj d hp => by
          rw [List.getElem?_take] at hi hj
          split at hi <;> split at hj <;> simp_all
          exact dst_spec hdst hij hi hj hp) i o hoi
      have hqt : o.quiet P ac (fun w' => ∃ x : Sub w1, w' = x.val) (fun a' => a' = ac.put o.dst u) := by
        refine ⟨u, fun w2 hw2 => ?_, rfl⟩
        have := hu1 w2 hw2
        unfold Oper.quietAt at this ⊢
        rwa [execOp_congr (ρ := ac.eval) (ρ' := af.eval) o (fun cs b => Region.noSelect_spec hsel i o cs b ho0) (fun x hx => ?_)]
        refine hF.eval hf hssa ho he hx (fun k hk hxk => ?_)
        subst hxk
        obtain ⟨q, hq1, _, hq3⟩ := hf.al k hk
        have := (ssa_spec hssa ho hq1 hx hq3).1
        omega
      refine Oper.wp_of_quiet (C := fun w' => ∃ x : Sub w1, w' = x.val) ⟨⟨w1, Below.refl _ _⟩, rfl⟩ (fun a' w2 hw2 ha' => ?_) hqt
      obtain ⟨x, rfl⟩ := hw2
      subst ha'
      refine ⟨v, g, hF.put hf hdst ho u v (fun d _ hd hlt => hu2 d hd hlt) (fun _ _ _ => rfl) (fun k _ h => by omega), (hW.below x.bel).congr (fun k _ => if_neg (by omega)) (fun k _ => if_neg (by omega)) (fun _ _ => rfl)⟩
    · by_cases him : i < n + m
      · obtain ⟨k, rfl⟩ : ∃ k, i = n + k := ⟨i - n, by omega⟩
        obtain ⟨q, hq1, hq2, hq3⟩ := hf.al k (by omega)
        rw [ho] at hq1
        obtain rfl := Option.some.inj hq1
        refine hf.run k (by omega) o hq2 ac w1 _ _ ?_
        have hA := hW.alloc k hL (.cells (z k) (T k)) (by rw [← hf.size k (by omega)]; exact there_cells _ _ _)
        refine ⟨_, _, hF.put hf hdst ho _ (fun j => if j = k then .pointer (some ⟨w1.heap.size, 0, none⟩) else v j) (fun d h => by omega) (fun j _ h => if_neg (by omega)) (fun j hj h => ?_), hA.congr (fun j _ => ?_) (fun j _ => if_neg (by omega)) (fun _ _ => rfl)⟩
        · obtain rfl : j = k := by omega
          exact ⟨if_pos rfl, hsb' j hj⟩
        · simp only [upd, Nat.add_left_cancel_iff]
      · obtain ⟨k, rfl⟩ : ∃ k, i = n + m + k := ⟨i - (n + m), by omega⟩
        have hkm : k < m := by omega
        obtain ⟨q, hq1, hq2, hq3⟩ := hf.st k hkm
        rw [ho] at hq1
        obtain rfl := Option.some.inj hq1
        obtain ⟨c1, c2, c3⟩ := hcs k hkm
        obtain ⟨qa, ha1, _, ha3⟩ := hf.al k hkm
        have hla : L (n + k) = true := by
          obtain ⟨_, e, hea, hei, heb⟩ := ssa_spec hssa ho ha1 (by rw [hq2]; simp [Op.operands]) ha3
          rw [← hei]; exact he e hea heb
        obtain ⟨p1, p2, p3, p4⟩ := hW.own k hkm hla
        refine wp_store_mid (T k) (.tmp (s k)) (y k) hq2 (g k) 0 (cs k).toArray ?_ ?_ (by simpa [c2] using p4) (by rw [hf.info k hkm]; simp [c2]) c3 ?_
        · show ac.tmps.getD (s k) undef = _
          rw [hF.vs k hkm hla, p1]
        · rw [hF.eval hf hssa ho he (by rw [hq2]; simp [Op.operands]) (fun k' hk' => hy k hkm k' hk'), c1]
        · refine ⟨v, g, hF.put hf hdst ho _ v (fun d h => by omega) (fun _ _ _ => rfl) (fun j _ h => by omega), ?_⟩
          have hS := hW.store k hkm hla c2
          refine VW.congr (l := fun j => L (n + j)) (st := fun j => if j = k then true else L (n + m + j)) (v := v) hS (fun j _ => if_neg (by omega)) (fun j _ => ?_) (fun _ _ => rfl)
          simp only [upd, Nat.add_left_cancel_iff]
  · rintro L ac w1 ⟨v, g, hF, hW⟩ hall
    have hL : ∀ j, j < n + m + m → L j = true := fun j hj => hall j (by simpa [hlen] using hj)
    have e : ac = putAll s v af m := by
      have hget : ∀ t, ac.tmps.getD t undef = (putAll s v af m).tmps.getD t undef := fun t => by
        by_cases hex : ∃ k, k < m ∧ s k = t
        · obtain ⟨k, hk, rfl⟩ := hex
          rw [hF.vs k hk (hL _ (by omega)), putAll_in s v af k (hsb' k hk) m hk (fun i j hi hj hij e => ?_)]
          obtain ⟨q, hq1, _, hq3⟩ := hf.al i hi
          obtain ⟨r, hr1, _, hr3⟩ := hf.al j hj
          exact dst_spec hdst (show n + i ≠ n + j by omega) hq1 hr1 hq3 (by rw [hr3, e])
        · rw [putAll_out s v af t m (fun k hk e => hex ⟨k, hk, e⟩)]
          by_cases hop : ∃ p ∈ ops, p.dst = some t
          · obtain ⟨p, hp, hpd⟩ := hop
            obtain ⟨i, hi⟩ := List.getElem?_of_mem hp
            have hil : i < ops.length := (List.getElem?_eq_some_iff.1 hi).1
            by_cases hin : i < n
            · exact hF.qs i p t hin hi (hL _ (by omega)) hpd
            · exfalso
              by_cases him : i < n + m
              · obtain ⟨q, hq1, _, hq3⟩ := hf.al (i - n) (by omega)
                rw [show n + (i - n) = i by omega, hi] at hq1
                obtain rfl := Option.some.inj hq1
                rw [hpd] at hq3
                exact hex ⟨i - n, by omega, (Option.some.inj hq3).symm⟩
              · obtain ⟨q, hq1, _, hq3⟩ := hf.st (i - (n + m)) (by omega)
                rw [show n + m + (i - (n + m)) = i by omega, hi] at hq1
                obtain rfl := Option.some.inj hq1
                rw [hpd] at hq3
                cases hq3
          · exact hF.out t (fun o ho hd => hop ⟨o, ho, hd⟩)
      have hsz : ac.tmps.size = (putAll s v af m).tmps.size := by rw [putAll_size]; exact hF.size
      have htm : ac.tmps = (putAll s v af m).tmps := by
        apply Array.ext hsz
        intro i h1 h2
        have := hget i
        simpa [Array.getD, h1, h2] using this
      have hdf : ac.defers = (putAll s v af m).defers := by rw [putAll_defs]; exact hF.defs
      cases ac
      cases hp : putAll s v af m
      simp_all
    rw [e]
    exact hend v g w1 (hW.congr (fun k hk => (hL _ (by omega)).symm) (fun k hk => (hL _ (by omega)).symm) (fun _ _ => rfl))
end Go.Proofs.Ytnbleebilmghcab
namespace Go.Proofs.Ytnbleebilmghcab
open Go Go.RowKit
def backB2 (ops : Array Oper) : Bool := (List.range ops.size).all fun j => match ops[j]? with
  | some o => o.after.all fun e => decide (e.on < j) || !Region.binds .any e
  | none => true
theorem all_listed2 {ops : Array Oper} (hb : backB2 ops = true) (listed : Array Bool) (hs : listed.size = ops.size) (hr : Region.ready .any ops listed = []) :
    ∀ j, j < ops.size → listed.getD j false = true := by
  intro j
  induction j using Nat.strongRecOn with
  | ind j ih =>
    intro hj
    cases hl : listed.getD j false with
    | true => rfl
    | false =>
      exfalso
      have ho : ops[j]? = some ops[j] := by simp [hj]
      have hm : j ∈ Region.ready .any ops listed := by
        rw [mem_ready]
        refine ⟨by simpa [Array.getD, hs, hj] using hl, ops[j], ho, fun e he heb => ?_⟩
        have h1 := List.all_eq_true.1 hb j (List.mem_range.2 hj)
        simp only [ho] at h1
        have h2 := Array.all_eq_true_iff_forall_mem.1 h1 e he
        have h3 : e.on < j := by simpa [heb] using h2
        exact ih e.on h3 (by omega)
      rw [hr] at hm
      exact absurd hm (by simp)
theorem wp_region_inv2 {P : Program} {ops : Array Oper} {Q : Exit → Act → World → Prop} {id : Nat} {a : Act} {w : World} (hm : P.follows .mixedOrders = true)
    (I : (Nat → Bool) → Act → World → Prop) (hb : backB2 ops = true)
    (hstart : I (fun _ => false) a { w with drawn := w.drawn + 1 })
    (hstep : ∀ L a w i o, I L a w → ops[i]? = some o → L i = false → (∀ e ∈ o.after, Region.binds .any e = true → L e.on = true) → wpOp P ops Q i (I (upd L i)) a w)
    (hend : ∀ L a w, I L a w → (∀ j, j < ops.size → L j = true) → Q .normal a w) : (Code.region id ops true).wp P Q a w := by
  refine wp_region_any hm (wpAny_inv (fun l a w => l.size = ops.size ∧ I (fun j => l.getD j false) a w) ?_ ?_ _ _ _ _ ?_ ?_)
  · rintro l a w i ⟨hs, hI⟩ hi
    obtain ⟨h1, o, ho, h2⟩ := mem_ready.1 hi
    have hi' := (cnt_set l i h1).1
    refine wpOp_mono (fun a' w' h' => ⟨by simpa using hs, ?_⟩) (hstep _ a w i o hI ho (by simpa [Array.getD, hi'] using h1) h2)
    have e : (fun j => (l.setIfInBounds i true).getD j false) = upd (fun j => l.getD j false) i := by
      funext j
      unfold upd
      by_cases hj : j = i
      · subst hj; simp [Array.getD, hi']
      · rw [if_neg hj, getD_set_ne _ (Ne.symm hj)]
    show I (fun j => (l.setIfInBounds i true).getD j false) a' w'
    rw [e]; exact h'
  · rintro l a w ⟨hs, hI⟩ hr
    exact hend _ a w hI (all_listed2 hb l hs hr)
  · refine ⟨by simp, ?_⟩
    have e : (fun j => (Array.replicate ops.size false).getD j false) = fun _ => false := by
      funext j
      simp [Array.getD]
    rw [e]; exact hstart
  · simpa using List.countP_le_length (p := fun b => !b) (l := List.replicate ops.size false)
def LPost (K : Act → World → Prop) (e : Exit) (a : Act) (w : World) : Prop := e = .normal ∧ K a w
theorem lpost_congr {K : Act → World → Prop} {e : Exit} {a a' : Act} {w w' : World} (ha : a = a') (hw : w = w') : LPost K e a w = LPost K e a' w' := by rw [ha, hw]
theorem lpost_intro {K : Act → World → Prop} {a : Act} {w : World} (h : K a w) : LPost K .normal a w := ⟨rfl, h⟩
def wpLoud (P : Program) (ops : Array Oper) (D : World → Prop) (R : Act → World → Prop) : Nat → List Oper → Act → World → Prop
  | _, [], a, w => R a w
  | m, o :: rest, a, w => wpList P ops (LPost fun a' w' => ∀ x : Sub w', (0 < m → D x.val) ∧ wpLoud P ops D R (m - 1) rest a' x.val) [o] a w
theorem upon_frame {P : Program} {o : Oper} {a b : Act} {N N' : Act → World → Prop} {Q Q' : Exit → Act → World → Prop} (hQ : ∀ ch a w, ¬ Q' (.panic ch) a w) (hL : ¬ LetsOut Q')
    (hN : ∀ v w', N (b.put o.dst v) w' → N' (a.put o.dst v) w') (hd : ∀ d w', N (({ b with defers := d :: b.defers } : Act).put o.dst undef) w' → N' (({ a with defers := d :: a.defers } : Act).put o.dst undef) w') :
    ∀ r, o.upon P b N Q' r → o.upon P a N' Q r
  | .ok (.value v) w', h => hN _ _ h
  | .ok .skip w', h => hN _ _ h
  | .ok (.defer d) w', h => hd _ _ h
  | .ok (.enter f args) w', h => Calls.mono h fun e w'' he => by
      cases e with
      | returned v => exact hN _ _ he
      | panicked ch => exact absurd he (hQ _ _ _)
      | outgrown => exact absurd he hL
  | .ok (.row row args) w', h => Rows.mono h fun v w'' hv => hN _ _ hv
  | .halt (.panic v) w', h => absurd h (hQ _ _ _)
def incB (l : List Nat) : Bool := (List.range l.length).all fun j => (List.range j).all fun i => decide (l.getD i 0 < l.getD j 0)
theorem inc_spec {l : List Nat} (h : incB l = true) {i j x y : Nat} (hi : l[i]? = some x) (hj : l[j]? = some y) (hij : i < j) : x < y := by
  have h1 := List.all_eq_true.1 h j (List.mem_range.2 (List.getElem?_eq_some_iff.1 hj).1)
  have h2 := of_decide_eq_true (List.all_eq_true.1 h1 i (List.mem_range.2 hij))
  simpa [hi, hj] using h2
def mixB (m : Nat) (an ps qs ls : List Nat) (ops : List Oper) : Bool :=
  (qs.all fun i => ps.contains i || (decide (m < ls.length) && an.contains i) || decide (ls.length ≤ m)) && (ps.all fun i => qs.contains i) && incB ps &&
  (an.all fun i => ls[m]? == some i || an.any fun k => decide (i < k) && decide (k < ops.length) && match ops[k]? with
    | none => false
    | some o => o.after.any fun e => decide (e.on = i) && Region.binds .any e) &&
  ((List.range ops.length).all fun i => qs.contains i != ls.contains i) && (qs.all fun i => decide (i < ops.length)) && (ls.all fun i => decide (i < ops.length)) && incB qs && incB ls &&
  (qs.all fun q => match ops[q]? with
    | none => true
    | some o => (tmpsOf o).all fun t => ls.all fun l => match ops[l]? with
      | none => true
      | some p => p.dst != some t) &&
  ((List.range ls.length).all fun k => decide (k = 0) || match ls[k]?, ls[k - 1]? with
    | some i, some j => (match ops[i]? with
      | none => false
      | some o => o.after.any fun e => decide (e.on = j) && Region.binds .any e)
    | _, _ => true)
structure MixS (m : Nat) (an ps qs ls : List Nat) (ops : List Oper) : Prop where
  cov : ∀ i ∈ qs, i ∈ ps ∨ (m < ls.length ∧ i ∈ an) ∨ ls.length ≤ m
  pq : ∀ i ∈ ps, i ∈ qs
  pi : ∀ i j x y : Nat, ps[i]? = some x → ps[j]? = some y → i < j → x < y
  up : ∀ i ∈ an, ls[m]? = some i ∨ ∃ k o, k ∈ an ∧ i < k ∧ k < ops.length ∧ ops[k]? = some o ∧ ∃ e ∈ o.after, e.on = i ∧ Region.binds .any e = true
  one : ∀ i, i < ops.length → (i ∈ qs ∧ i ∉ ls) ∨ (i ∉ qs ∧ i ∈ ls)
  q : ∀ i ∈ qs, i < ops.length
  l : ∀ i ∈ ls, i < ops.length
  qi : ∀ i j x y : Nat, qs[i]? = some x → qs[j]? = some y → i < j → x < y
  li : ∀ i j x y : Nat, ls[i]? = some x → ls[j]? = some y → i < j → x < y
  sep : ∀ (i : Nat) (o : Oper), i ∈ qs → ops[i]? = some o → ∀ t : Tmp, Operand.tmp t ∈ o.op.operands → ∀ (j : Nat) (p : Oper), j ∈ ls → ops[j]? = some p → p.dst ≠ some t
  ch : ∀ k i j : Nat, ls[k + 1]? = some i → ls[k]? = some j → ∀ o, ops[i]? = some o → ∃ e ∈ o.after, e.on = j ∧ Region.binds .any e = true
theorem mix_spec {m : Nat} {an ps qs ls : List Nat} {ops : List Oper} (h : mixB m an ps qs ls ops = true) : MixS m an ps qs ls ops := by
  unfold mixB at h
  rw [Bool.and_eq_true, Bool.and_eq_true, Bool.and_eq_true, Bool.and_eq_true, Bool.and_eq_true, Bool.and_eq_true, Bool.and_eq_true, Bool.and_eq_true, Bool.and_eq_true, Bool.and_eq_true] at h
  obtain ⟨⟨⟨⟨⟨⟨⟨⟨⟨⟨g1, g2⟩, g3⟩, g4⟩, h1⟩, h2⟩, h3⟩, h4⟩, h5⟩, h6⟩, h7⟩ := h
  refine ⟨fun i hi => ?_, fun i hi => by simpa using List.all_eq_true.1 g2 i hi, fun i j x y a b c => inc_spec g3 a b c, fun i hi => ?_, fun i hi => ?_, fun i hi => of_decide_eq_true (List.all_eq_true.1 h2 i hi), fun i hi => of_decide_eq_true (List.all_eq_true.1 h3 i hi), fun i j x y a b c => inc_spec h4 a b c, fun i j x y a b c => inc_spec h5 a b c, ?_, ?_⟩
  · have := List.all_eq_true.1 g1 i hi
    simp only [Bool.or_eq_true, Bool.and_eq_true, decide_eq_true_eq, List.contains_iff_mem] at this
    rcases this with (h | h) | h
    · exact .inl h
    · exact .inr (.inl h)
    · exact .inr (.inr h)
  · have := List.all_eq_true.1 g4 i hi
    simp only [Bool.or_eq_true, beq_iff_eq] at this
    rcases this with h | h
    · exact .inl h
    · obtain ⟨k, hk, h⟩ := List.any_eq_true.1 h
      rw [Bool.and_eq_true, Bool.and_eq_true] at h
      obtain ⟨⟨h8, h9⟩, h10⟩ := h
      cases ho : ops[k]? with
      | none => rw [ho] at h10; cases h10
      | some o =>
        rw [ho] at h10
        obtain ⟨n, hn, he⟩ := Array.any_eq_true.1 h10
        rw [Bool.and_eq_true] at he
        exact .inr ⟨k, o, hk, of_decide_eq_true h8, of_decide_eq_true h9, ho, o.after[n], by simp, of_decide_eq_true he.1, he.2⟩
  · have := List.all_eq_true.1 h1 i (List.mem_range.2 hi)
    by_cases a : i ∈ qs <;> by_cases b : i ∈ ls <;> simp_all
  · intro i o hi ho t ht j p hj hp
    have := List.all_eq_true.1 h6 i hi
    simp only [ho] at this
    have := List.all_eq_true.1 this t (List.mem_filterMap.2 ⟨.tmp t, by simpa using ht, rfl⟩)
    have := List.all_eq_true.1 this j hj
    simpa [hp] using this
  · intro k i j hi hj o ho
    have := List.all_eq_true.1 h7 (k + 1) (List.mem_range.2 (List.getElem?_eq_some_iff.1 hi).1)
    simp only [Nat.add_sub_cancel, hi, hj, ho, Bool.or_eq_true, decide_eq_true_eq] at this
    rcases this with h | h
    · omega
    · obtain ⟨n, hn, he⟩ := Array.any_eq_true.1 h
      rw [Bool.and_eq_true] at he
      exact ⟨o.after[n], by simp, of_decide_eq_true he.1, he.2⟩
theorem fm_get (ops : List Oper) : ∀ (qs : List Nat), (∀ q ∈ qs, q < ops.length) → ∀ j : Nat, (qs.filterMap (ops[·]?))[j]? = qs[j]?.bind (ops[·]?)
  | [], _, j => by simp
  | q :: qs, h, j => by
    have e : ops[q]? = some (ops[q]'(h q (by simp))) := by simp [h q (by simp)]
    rw [List.filterMap_cons_some e]
    cases j with
    | zero => simp [e]
    | succ j => simpa using fm_get ops qs (fun x hx => h x (by simp [hx])) j
def pickL (ops : List Oper) : List Nat → List Oper
  | [] => []
  | i :: r => (ops[i]?).toList ++ pickL ops r
theorem pickL_eq (ops : List Oper) : ∀ l : List Nat, pickL ops l = l.filterMap (ops[·]?)
  | [] => rfl
  | i :: r => by
    unfold pickL
    rw [pickL_eq ops r, List.filterMap_cons]
    cases ops[i]? <;> simp
structure FM (ops : List Oper) (qs : List Nat) (L : Nat → Bool) (b ac : Act) : Prop where
  size : ac.tmps.size = b.tmps.size
  defs : ac.defers = b.defers
  at_ : ∀ t, (∀ (i : Nat) (o : Oper), i ∈ qs → ops[i]? = some o → L i = false → o.dst ≠ some t) → ac.tmps.getD t undef = b.tmps.getD t undef
theorem act_ext {a b : Act} (h1 : a.tmps.size = b.tmps.size) (h2 : a.defers = b.defers) (h : ∀ t, a.tmps.getD t undef = b.tmps.getD t undef) : a = b := by
  have htm : a.tmps = b.tmps := by
    apply Array.ext h1
    intro i i1 i2
    have := h i
    simpa [Array.getD, i1, i2] using this
  cases a
  cases b
  simp_all
theorem wp_region_mix {P : Program} {id : Nat} {Q : Exit → Act → World → Prop} {a : Act} {w : World} {ops : List Oper} (m : Nat) (an ps qs ls : List Nat) (D : World → Prop)
    (hm : P.follows .mixedOrders = true) (hgd : ops.all (fun o => o.guard.isNone) = true) (hb : backB2 ops.toArray = true) (hssa : ssaB ops = true) (hdst : dstB ops = true)
    (hsel : Region.noSelect ops.toArray = true) (hmix : mixB m an ps qs ls ops = true) (hD : ∀ w1 (x : Sub w1), D w1 → D x.val) (hD0 : D w) (hall : ∃ af : Act,
    ( ∀ l w1, l = pickL ops qs → D w1 → wpQuiet P ops.toArray (fun w' => ∃ x : Sub w1, w' = x.val) (fun a' => a' = af) l a) ∧
    (∀ l w1, l = pickL ops ps → wpQuiet P ops.toArray (fun w' => ∃ x : Sub w1, w' = x.val) (fun a' => a' = af) l af) ∧
    (∀ l, l = pickL ops ls → ∀ x : Sub w, wpLoud P ops.toArray D (Q .normal) m l af x.val)) : (Code.region id ops.toArray true).wp P Q a w := by
  obtain ⟨af, hq, hp, hl⟩ := hall
  simp only [pickL_eq] at hq hp hl
  have hgn : ∀ o ∈ ops, o.guard = none := fun o ho => by simpa using List.all_eq_true.1 hgd o ho
  have M := mix_spec hmix
  have hfm : ∀ l : List Nat, ∀ o ∈ l.filterMap (ops[·]?), o ∈ ops := fun l o ho => by
    obtain ⟨i, _, hi⟩ := List.mem_filterMap.1 ho
    exact List.mem_of_getElem? hi
  have hk0 := quiet_keep (qs.filterMap (ops[·]?)) a (fun o ho => hgn o (hfm _ o ho)) (hq _ w rfl hD0)
  have hss : ∀ (l : List Nat) (a0 : Act), (∀ i ∈ l, i < ops.length) → (∀ i j x y : Nat, l[i]? = some x → l[j]? = some y → i < j → x < y) → ∀ (w1 : World), wpQuiet P ops.toArray (fun w' => ∃ x : Sub w1, w' = x.val) (fun a' => a' = af) (l.filterMap (ops[·]?)) a0 → ∀ (i : Nat) (o : Oper), i ∈ l → ops[i]? = some o → ∃ u, (∀ w2, (∃ x : Sub w1, w2 = x.val) → o.quietAt P af (fun w' => ∃ x : Sub w1, w' = x.val) w2 u) ∧ ∀ d, o.dst = some d → d < af.tmps.size → af.tmps.getD d undef = u := by
    intro l a0 hlr hli w1 hwq i o hi ho
    have hqget := fm_get ops l hlr
    obtain ⟨j, hj⟩ := List.getElem?_of_mem hi
    refine quiet_ssa (P := P) (ops := ops.toArray) (C := fun w' => ∃ x : Sub w1, w' = x.val) (af := af) ⟨w1, ⟨w1, Below.refl _ _⟩, rfl⟩ (l.filterMap (ops[·]?)) a0 (fun o ho => hgn o (hfm _ o ho))
      (fun o ho cs b => by
        obtain ⟨j, hj⟩ := List.getElem?_of_mem (hfm _ o ho)
        exact Region.noSelect_spec hsel j o cs b (by simpa using hj)) hwq ?_ ?_ j o (by rw [hqget, hj]; exact ho)
    · intro i j o p hi hj t ht hp
      rw [hqget] at hi hj
      obtain ⟨x, hx, hx2⟩ := Option.bind_eq_some_iff.1 hi
      obtain ⟨y, hy, hy2⟩ := Option.bind_eq_some_iff.1 hj
      have h3 := (ssa_spec hssa hy2 hx2 ht hp).1
      rcases Nat.lt_trichotomy i j with h | h | h
      · exact h
      · subst h; rw [hx] at hy; obtain rfl := Option.some.inj hy; omega
      · have := hli j i y x hy hx h; omega
    · intro i j o p hij hi hj d hp
      rw [hqget] at hi hj
      obtain ⟨x, hx, hx2⟩ := Option.bind_eq_some_iff.1 hi
      obtain ⟨y, hy, hy2⟩ := Option.bind_eq_some_iff.1 hj
      refine dst_spec hdst (fun e => ?_) hx2 hy2 hp
      subst e
      rcases Nat.lt_or_gt_of_ne hij with h | h
      · have := hli i j x x hx hy h; omega
      · have := hli j i x x hy hx h; omega
  refine wp_region_inv2 hm (fun L ac w1 => ∃ k b, FM ops qs L b ac ∧ b.tmps.size = af.tmps.size ∧ (∀ t, (∀ (i : Nat) (o : Oper), i ∈ ls → ops[i]? = some o → o.dst ≠ some t) → b.tmps.getD t undef = af.tmps.getD t undef) ∧
    k ≤ ls.length ∧ (∀ j i : Nat, ls[j]? = some i → (L i = true ↔ j < k)) ∧ (k ≤ m → D w1) ∧ (∀ (i : Nat) (o : Oper), ops[i]? = some o → L i = true → ∀ e ∈ o.after, Region.binds .any e = true → L e.on = true) ∧ ∀ x : Sub w1, wpLoud P ops.toArray D (Q .normal) (m - k) ((ls.drop k).filterMap (ops[·]?)) b x.val) hb ?_ ?_ ?_
  · have hx0 : Below w.heap.size w { w with drawn := w.drawn + 1 } := (Below.refl _ _).drew
    refine ⟨0, af, ⟨hk0.1, hk0.2.1, fun t ht => hk0.2.2 t (fun o ho => ?_)⟩, rfl, fun _ _ => rfl, Nat.zero_le _, fun j i _ => by simp, fun _ => hD w ⟨_, hx0⟩ hD0, fun i o _ h => (by cases h), fun x => hl _ rfl ⟨x.val, hx0.trans x.bel⟩⟩
    obtain ⟨i, hi, hi2⟩ := List.mem_filterMap.1 ho
    exact ht i o hi hi2 rfl
  · rintro L ac w1 i o ⟨k, b, hF, hbs, hba, hk, hlk, hDw, hcl, hlo⟩ ho0 hL he
    have ho : ops[i]? = some o := by simpa using ho0
    have hil : i < ops.length := (List.getElem?_eq_some_iff.1 ho).1
    have hmem := List.mem_of_getElem? ho
    have hev : ∀ x ∈ o.op.operands, ac.eval x = b.eval x := by
      intro x hx
      cases x with
      | tmp t =>
        refine hF.at_ t (fun j p hj hp hLj hpd => ?_)
        obtain ⟨_, e, hea, hei, heb⟩ := ssa_spec hssa ho hp hx hpd
        have := he e hea heb
        rw [hei, hLj] at this; cases this
      | _ => rfl
    have hcl2 : ∀ (i' : Nat) (o' : Oper), ops[i']? = some o' → upd L i i' = true → ∀ e ∈ o'.after, Region.binds .any e = true → upd L i e.on = true := by
      intro i' o' ho' hL' e hea heb
      unfold upd at hL' ⊢
      by_cases h : e.on = i
      · rw [if_pos h]
      · rw [if_neg h]
        by_cases h2 : i' = i
        · subst h2; rw [ho] at ho'; obtain rfl := Option.some.inj ho'; exact he e hea heb
        · rw [if_neg h2] at hL'; exact hcl i' o' ho' hL' e hea heb
    refine wpOp_of ho0 (hgn o hmem) ?_
    rcases M.one i hil with ⟨hiq, hinl⟩ | ⟨hinq, hil2⟩
    · have hu : ∃ u, (∀ w2, (∃ x : Sub w1, w2 = x.val) → o.quietAt P af (fun w' => ∃ x : Sub w1, w' = x.val) w2 u) ∧ ∀ d, o.dst = some d → d < af.tmps.size → af.tmps.getD d undef = u := by
        by_cases hip : i ∈ ps
        · exact hss ps af (fun i hi => M.q i (M.pq i hi)) M.pi w1 (hp _ w1 rfl) i o hip ho
        · refine hss qs a M.q M.qi w1 (hq _ w1 rfl (hDw ?_)) i o hiq ho
          rcases M.cov i hiq with h | ⟨h1, h2⟩ | h
          · exact absurd h hip
          · rcases Nat.lt_or_ge m k with h | h
            · exfalso
              have hlm : ls[m]? = some ls[m] := by simp [h1]
              have hLm := (hlk m _ hlm).2 h
              have hall : ∀ d i', i' + d = ops.length → i' ∈ an → L i' = true := by
                intro d
                induction d using Nat.strongRecOn with
                | ind d ih =>
                  intro i' hd hi'
                  rcases M.up i' hi' with h | ⟨k', o', hk', hik, hkl, hok, e, hea, hei, heb⟩
                  · rw [hlm] at h; obtain rfl := Option.some.inj h; exact hLm
                  · have := ih (ops.length - k') (by omega) k' (by omega) hk'
                    rw [← hei]; exact hcl k' o' hok this e hea heb
              rw [hall (ops.length - i) i (by omega) h2] at hL; cases hL
            · exact h
          · omega
      obtain ⟨u, hu1, hu2⟩ := hu
      have hqt : o.quiet P ac (fun w' => ∃ x : Sub w1, w' = x.val) (fun a' => a' = ac.put o.dst u) := by
        refine ⟨u, fun w2 hw2 => ?_, rfl⟩
        have := hu1 w2 hw2
        unfold Oper.quietAt at this ⊢
        rwa [execOp_congr (ρ := ac.eval) (ρ' := af.eval) o (fun cs b => Region.noSelect_spec hsel i o cs b ho0) (fun x hx => ?_)]
        rw [hev x hx]
        cases x with
        | tmp t => exact hba t (fun j p hj hp => M.sep i o hiq ho t hx j p hj hp)
        | _ => rfl
      refine Oper.wp_of_quiet (C := fun w' => ∃ x : Sub w1, w' = x.val) ⟨⟨w1, Below.refl _ _⟩, rfl⟩ (fun a' w2 hw2 ha' => ?_) hqt
      obtain ⟨x, rfl⟩ := hw2
      subst ha'
      refine ⟨k, b, ⟨by rw [put_size]; exact hF.size, by rw [put_defs]; exact hF.defs, fun t ht => ?_⟩, hbs, hba, hk, fun j i' hj => ?_, fun h => hD w1 x (hDw h), hcl2, fun y => hlo ⟨y.val, x.bel.trans (y.bel.mono x.bel.size)⟩⟩
      · cases hod : o.dst with
        | none =>
          refine hF.at_ t (fun j p hj hp hLj => ?_)
          by_cases hji : j = i
          · subst hji; rw [ho] at hp; obtain rfl := Option.some.inj hp; rw [hod]; simp
          · exact ht j p hj hp (by unfold upd; rw [if_neg hji]; exact hLj)
        | some d =>
          rw [put_get]
          by_cases hdt : d = t
          · subst hdt
            by_cases hlt : d < ac.tmps.size
            · rw [if_pos ⟨rfl, hlt⟩, hba d (fun j p hj hp => ?_), hu2 d hod (by rw [← hbs, ← hF.size]; exact hlt)]
              refine dst_spec hdst (fun e => ?_) ho hp hod
              subst e
              exact hinl hj
            · rw [if_neg (fun e => hlt e.2)]
              have h2 : ¬ d < b.tmps.size := by rw [← hF.size]; exact hlt
              simp [Array.getD, hlt, h2]
          · rw [if_neg (fun e => hdt e.1)]
            refine hF.at_ t (fun j p hj hp hLj => ?_)
            by_cases hji : j = i
            · subst hji; rw [ho] at hp; obtain rfl := Option.some.inj hp; rw [hod]; simpa using hdt
            · exact ht j p hj hp (by unfold upd; rw [if_neg hji]; exact hLj)
      · have : i' ≠ i := fun e => hinl (by rw [← e]; exact List.mem_of_getElem? hj)
        unfold upd
        rw [if_neg this]
        exact hlk j i' hj
    · obtain ⟨j, hj⟩ := List.getElem?_of_mem hil2
      have hjk : j = k := by
        have h1 : ¬ j < k := fun h => by rw [(hlk j i hj).2 h] at hL; cases hL
        rcases Nat.lt_or_ge k j with h | h
        · exfalso
          obtain ⟨j', rfl⟩ : ∃ j', j = j' + 1 := ⟨j - 1, by omega⟩
          have hlt : j' < ls.length := by have := (List.getElem?_eq_some_iff.1 hj).1; omega
          have hj' : ls[j']? = some ls[j'] := by simp [hlt]
          obtain ⟨e, hea, hei, heb⟩ := M.ch j' i _ hj hj' o ho
          have h2 := he e hea heb
          rw [hei] at h2
          have := (hlk j' _ hj').1 h2
          omega
        · omega
      subst hjk
      have hjl : j < ls.length := (List.getElem?_eq_some_iff.1 hj).1
      have hji : ls[j] = i := by simpa [hjl] using hj
      have h0 := hlo ⟨w1, Below.refl _ _⟩
      rw [List.drop_eq_getElem_cons hjl, hji, List.filterMap_cons_some ho] at h0
      unfold wpLoud wpList at h0
      rw [if_pos (by unfold Region.wanted; rw [hgn o hmem])] at h0
      have hLo : ¬ LetsOut (LPost fun (a' : Act) (w' : World) => ∀ x : Sub w', (0 < m - j → D x.val) ∧ wpLoud P ops.toArray D (Q .normal) (m - j - 1) ((ls.drop (j + 1)).filterMap (ops[·]?)) a' x.val) := by
        rintro ⟨_, _, h, _⟩; cases h
      rcases h0 with h0 | h0
      · unfold Oper.wp at h0 ⊢
        rw [execOp_congr (ρ := ac.eval) (ρ' := b.eval) o (fun cs b => Region.noSelect_spec hsel i o cs b ho0) hev]
        have key : ∀ (b' ac' : Act) v w2, b'.tmps = b.tmps → ac'.tmps = ac.tmps → ac'.defers = b'.defers → wpList P ops.toArray (LPost fun (a' : Act) (w' : World) => ∀ x : Sub w', (0 < m - j → D x.val) ∧ wpLoud P ops.toArray D (Q .normal) (m - j - 1) ((ls.drop (j + 1)).filterMap (ops[·]?)) a' x.val) [] (b'.put o.dst v) w2 →
            ∃ k b, FM ops qs (upd L i) b (ac'.put o.dst v) ∧ b.tmps.size = af.tmps.size ∧ (∀ t, (∀ (i : Nat) (o : Oper), i ∈ ls → ops[i]? = some o → o.dst ≠ some t) → b.tmps.getD t undef = af.tmps.getD t undef) ∧
              k ≤ ls.length ∧ (∀ j i_1 : Nat, ls[j]? = some i_1 → (upd L i i_1 = true ↔ j < k)) ∧ (k ≤ m → D w2) ∧ (∀ (i' : Nat) (o' : Oper), ops[i']? = some o' → upd L i i' = true → ∀ e ∈ o'.after, Region.binds .any e = true → upd L i e.on = true) ∧ ∀ x : Sub w2, wpLoud P ops.toArray D (Q .normal) (m - k) ((ls.drop k).filterMap (ops[·]?)) b x.val := by
          intro b' ac' v w2 e1 e2 e3 h2
          unfold wpList at h2
          obtain ⟨_, h2⟩ := h2
          refine ⟨j + 1, b'.put o.dst v, ⟨by rw [put_size, put_size, e1, e2]; exact hF.size, by rw [put_defs, put_defs]; exact e3, fun t ht => ?_⟩, by rw [put_size, e1]; exact hbs, fun t ht => ?_, hjl, fun j' i' hj' => ?_, fun h => (h2 ⟨w2, Below.refl _ _⟩).1 (by omega), hcl2, fun x => by rw [show m - (j + 1) = m - j - 1 by omega]; exact (h2 x).2⟩
          · have hat := hF.at_ t (fun j' p hj' hp hLj => ht j' p hj' hp (by
              unfold upd
              rw [if_neg (fun e => hinq (by rw [← e]; exact hj'))]; exact hLj))
            cases hod : o.dst with
            | none => show ac'.tmps.getD t undef = b'.tmps.getD t undef; rw [e1, e2]; exact hat
            | some d =>
              rw [put_get, put_get, e1, e2, hF.size, hat]
          · rw [← hba t ht]
            cases hod : o.dst with
            | none => show b'.tmps.getD t undef = _; rw [e1]
            | some d =>
              rw [put_get, if_neg (fun e => ht i o hil2 ho (by rw [hod, e.1])), e1]
          · by_cases hjj : j' = j
            · subst hjj
              rw [hj] at hj'
              obtain rfl := Option.some.inj hj'
              simp [upd]
            · have hne : i' ≠ i := by
                intro e
                subst e
                rcases Nat.lt_or_gt_of_ne hjj with h | h
                · have := M.li j' j i' i' hj' hj h; omega
                · have := M.li j j' i' i' hj hj' h; omega
              unfold upd
              rw [if_neg hne, hlk j' i' hj']
              omega
        exact upon_frame (fun ch a w h => by cases h.1) hLo (fun v w2 h2 => key b ac v w2 rfl rfl hF.defs h2)
          (fun d w2 h2 => key { b with defers := d :: b.defers } { ac with defers := d :: ac.defers } undef w2 rfl rfl (by show d :: ac.defers = d :: b.defers; rw [hF.defs]) h2) _ h0
      · exact absurd h0.2 hLo
  · rintro L ac w1 ⟨k, b, hF, hbs, hba, hk, hlk, hDw, hcl, hlo⟩ hall
    have hL : ∀ j, j < ops.length → L j = true := fun j hj => hall j (by simpa using hj)
    have hkl : k = ls.length := by
      rcases Nat.lt_or_ge k ls.length with h | h
      · exfalso
        have hj : ls[k]? = some ls[k] := by simp [h]
        have := (hlk k _ hj).1 (hL _ (M.l _ (List.mem_of_getElem? hj)))
        omega
      · omega
    subst hkl
    have e : ac = b := act_ext hF.size hF.defs (fun t => hF.at_ t (fun i o hi ho hLi => by
      rw [hL i (M.q i hi)] at hLi; cases hLi))
    subst e
    have := hlo ⟨w1, Below.refl _ _⟩
    rw [List.drop_length] at this
    exact this
def putsB (qs ls : List Nat) (ops : List Oper) : Bool :=
  ((List.range ops.length).all fun i => qs.contains i != ls.contains i) && (qs.all fun i => decide (i < ops.length)) && (ls.all fun i => decide (i < ops.length)) && incB qs &&
  (ls.all fun l => match ops[l]? with
    | none => true
    | some o => o.dst.isNone)
structure PutsS (qs ls : List Nat) (ops : List Oper) : Prop where
  one : ∀ i, i < ops.length → (i ∈ qs ∧ i ∉ ls) ∨ (i ∉ qs ∧ i ∈ ls)
  q : ∀ i ∈ qs, i < ops.length
  l : ∀ i ∈ ls, i < ops.length
  qi : ∀ i j x y : Nat, qs[i]? = some x → qs[j]? = some y → i < j → x < y
  no : ∀ i ∈ ls, ∀ o, ops[i]? = some o → o.dst = none
theorem puts_spec {qs ls : List Nat} {ops : List Oper} (h : putsB qs ls ops = true) : PutsS qs ls ops := by
  unfold putsB at h
  simp only [Bool.and_eq_true] at h
  obtain ⟨⟨⟨⟨h1, h2⟩, h3⟩, h4⟩, h5⟩ := h
  refine ⟨fun i hi => ?_, fun i hi => of_decide_eq_true (List.all_eq_true.1 h2 i hi), fun i hi => of_decide_eq_true (List.all_eq_true.1 h3 i hi), fun i j x y a b c => inc_spec h4 a b c, fun i hi o ho => ?_⟩
  · have := List.all_eq_true.1 h1 i (List.mem_range.2 hi)
    by_cases a : i ∈ qs <;> by_cases b : i ∈ ls <;> simp_all
  · have := List.all_eq_true.1 h5 i hi
    simpa [ho] using this
theorem wp_region_puts {P : Program} {id : Nat} {Q : Exit → Act → World → Prop} {a : Act} {w : World} {ops : List Oper} (qs ls : List Nat) (I : (Nat → Bool) → World → Prop)
    (hm : P.follows .mixedOrders = true) (hgd : ops.all (fun o => o.guard.isNone) = true) (hb : backB2 ops.toArray = true) (hssa : ssaB ops = true) (hdst : dstB ops = true)
    (hsel : Region.noSelect ops.toArray = true) (hmix : putsB qs ls ops = true) (hD : ∀ L w1 (x : Sub w1), I L w1 → I L x.val) (hc : ∀ L L' w1, (∀ i ∈ ls, L' i = L i) → I L w1 → I L' w1) (hD0 : I (fun _ => false) w) (hall : ∃ af : Act,
    ( ∀ l L w1, l = pickL ops qs → I L w1 → wpQuiet P ops.toArray (fun w' => ∃ x : Sub w1, w' = x.val) (fun a' => a' = af) l a) ∧
    (∀ i o, i ∈ ls → ops[i]? = some o → ∀ L w1, I L w1 → L i = false → wpList P ops.toArray (fun e a' w' => e = .normal ∧ a'.defers = af.defers ∧ I (upd L i) w') [o] af w1) ∧
    (∀ L w1, I L w1 → (∀ i ∈ ls, L i = true) → Q .normal af w1)) : (Code.region id ops.toArray true).wp P Q a w := by
  obtain ⟨af, hq, hl, hend⟩ := hall
  simp only [pickL_eq] at hq
  have hgn : ∀ o ∈ ops, o.guard = none := fun o ho => by simpa using List.all_eq_true.1 hgd o ho
  have M := puts_spec hmix
  have hfm : ∀ l : List Nat, ∀ o ∈ l.filterMap (ops[·]?), o ∈ ops := fun l o ho => by
    obtain ⟨i, _, hi⟩ := List.mem_filterMap.1 ho
    exact List.mem_of_getElem? hi
  have hk0 := quiet_keep (qs.filterMap (ops[·]?)) a (fun o ho => hgn o (hfm _ o ho)) (hq _ _ w rfl hD0)
  refine wp_region_inv2 hm (fun L ac w1 => FM ops qs L af ac ∧ I L w1) hb ?_ ?_ ?_
  · have hx0 : Below w.heap.size w { w with drawn := w.drawn + 1 } := (Below.refl _ _).drew
    refine ⟨⟨hk0.1, hk0.2.1, fun t ht => hk0.2.2 t (fun o ho => ?_)⟩, hD _ w ⟨_, hx0⟩ hD0⟩
    obtain ⟨i, hi, hi2⟩ := List.mem_filterMap.1 ho
    exact ht i o hi hi2 rfl
  · rintro L ac w1 i o ⟨hF, hI⟩ ho0 hL he
    have ho : ops[i]? = some o := by simpa using ho0
    have hil : i < ops.length := (List.getElem?_eq_some_iff.1 ho).1
    have hmem := List.mem_of_getElem? ho
    have hev : ∀ x ∈ o.op.operands, ac.eval x = af.eval x := by
      intro x hx
      cases x with
      | tmp t =>
        refine hF.at_ t (fun j p hj hp hLj hpd => ?_)
        obtain ⟨_, e, hea, hei, heb⟩ := ssa_spec hssa ho hp hx hpd
        have := he e hea heb
        rw [hei, hLj] at this; cases this
      | _ => rfl
    refine wpOp_of ho0 (hgn o hmem) ?_
    rcases M.one i hil with ⟨hiq, hinl⟩ | ⟨hinq, hil2⟩
    · have hqget := fm_get ops qs M.q
      obtain ⟨j, hj⟩ := List.getElem?_of_mem hiq
      obtain ⟨u, hu1, hu2⟩ := quiet_ssa (P := P) (ops := ops.toArray) (C := fun w' => ∃ x : Sub w1, w' = x.val) (af := af) ⟨w1, ⟨w1, Below.refl _ _⟩, rfl⟩ (qs.filterMap (ops[·]?)) a (fun o ho => hgn o (hfm _ o ho))
        (fun o ho cs b => by
          obtain ⟨j, hj⟩ := List.getElem?_of_mem (hfm _ o ho)
          exact Region.noSelect_spec hsel j o cs b (by simpa using hj)) (hq _ _ w1 rfl hI)
        (by
          intro i j o p hi hj t ht hp
          rw [hqget] at hi hj
          obtain ⟨x, hx, hx2⟩ := Option.bind_eq_some_iff.1 hi
          obtain ⟨y, hy, hy2⟩ := Option.bind_eq_some_iff.1 hj
          have h3 := (ssa_spec hssa hy2 hx2 ht hp).1
          rcases Nat.lt_trichotomy i j with h | h | h
          · exact h
          · subst h; rw [hx] at hy; obtain rfl := Option.some.inj hy; omega
          · have := M.qi j i y x hy hx h; omega)
        (by
          intro i j o p hij hi hj d hp
          rw [hqget] at hi hj
          obtain ⟨x, hx, hx2⟩ := Option.bind_eq_some_iff.1 hi
          obtain ⟨y, hy, hy2⟩ := Option.bind_eq_some_iff.1 hj
          refine dst_spec hdst (fun e => ?_) hx2 hy2 hp
          subst e
          rcases Nat.lt_or_gt_of_ne hij with h | h
          · have := M.qi i j x x hx hy h; omega
          · have := M.qi j i x x hy hx h; omega) j o (by rw [hqget, hj]; exact ho)
      have hqt : o.quiet P ac (fun w' => ∃ x : Sub w1, w' = x.val) (fun a' => a' = ac.put o.dst u) := by
        refine ⟨u, fun w2 hw2 => ?_, rfl⟩
        have := hu1 w2 hw2
        unfold Oper.quietAt at this ⊢
        rwa [execOp_congr (ρ := ac.eval) (ρ' := af.eval) o (fun cs b => Region.noSelect_spec hsel i o cs b ho0) hev]
      refine Oper.wp_of_quiet (C := fun w' => ∃ x : Sub w1, w' = x.val) ⟨⟨w1, Below.refl _ _⟩, rfl⟩ (fun a' w2 hw2 ha' => ?_) hqt
      obtain ⟨x, rfl⟩ := hw2
      subst ha'
      refine ⟨⟨by rw [put_size]; exact hF.size, by rw [put_defs]; exact hF.defs, fun t ht => ?_⟩, hc L _ _ (fun k hk => ?_) (hD L w1 x hI)⟩
      · cases hod : o.dst with
        | none =>
          refine hF.at_ t (fun j p hj hp hLj => ?_)
          by_cases hji : j = i
          · subst hji; rw [ho] at hp; obtain rfl := Option.some.inj hp; rw [hod]; simp
          · exact ht j p hj hp (by unfold upd; rw [if_neg hji]; exact hLj)
        | some d =>
          rw [put_get]
          by_cases hdt : d = t
          · subst hdt
            by_cases hlt : d < ac.tmps.size
            · rw [if_pos ⟨rfl, hlt⟩, hu2 d hod (by rw [← hF.size]; exact hlt)]
            · rw [if_neg (fun e => hlt e.2)]
              have h2 : ¬ d < af.tmps.size := by rw [← hF.size]; exact hlt
              simp [Array.getD, hlt, h2]
          · rw [if_neg (fun e => hdt e.1)]
            refine hF.at_ t (fun j p hj hp hLj => ?_)
            by_cases hji : j = i
            · subst hji; rw [ho] at hp; obtain rfl := Option.some.inj hp; rw [hod]; simpa using hdt
            · exact ht j p hj hp (by unfold upd; rw [if_neg hji]; exact hLj)
      · unfold upd
        rw [if_neg (fun e => hinl (by rw [← e]; exact hk))]
    · have h0 := hl i o hil2 ho L w1 hI hL
      unfold wpList at h0
      rw [if_pos (by unfold Region.wanted; rw [hgn o hmem])] at h0
      have hLo : ¬ LetsOut (fun (e : Exit) (a' : Act) (w' : World) => e = .normal ∧ a'.defers = af.defers ∧ I (upd L i) w') := by
        rintro ⟨_, _, h, _⟩; cases h
      rcases h0 with h0 | h0
      · unfold Oper.wp at h0 ⊢
        rw [execOp_congr (ρ := ac.eval) (ρ' := af.eval) o (fun cs b => Region.noSelect_spec hsel i o cs b ho0) hev]
        have hno := M.no i hil2 o ho
        have key : ∀ (ac' : Act) v w2, ac'.tmps = ac.tmps → (I (upd L i) w2) → ac'.defers = ac.defers → FM ops qs (upd L i) af (ac'.put o.dst v) ∧ I (upd L i) w2 := by
          intro ac' v w2 e1 h2 e3
          rw [hno]
          refine ⟨⟨by show ac'.tmps.size = _; rw [e1]; exact hF.size, by show ac'.defers = _; rw [e3]; exact hF.defs, fun t ht => ?_⟩, h2⟩
          show ac'.tmps.getD t undef = _
          rw [e1]
          exact hF.at_ t (fun j' p hj' hp hLj => ht j' p hj' hp (by
            unfold upd
            rw [if_neg (fun e => hinq (by rw [← e]; exact hj'))]; exact hLj))
        generalize (execOp af.eval o).run P w1 = r at h0 ⊢
        match r, h0 with
        | .ok (.value v) w', h => exact key ac v w' rfl (by unfold Oper.upon wpList at h; exact h.2.2) rfl
        | .ok .skip w', h => exact key ac undef w' rfl (by unfold Oper.upon wpList at h; exact h.2.2) rfl
        | .ok (.enter f args) w', h =>
          unfold Oper.upon at h ⊢
          refine Calls.mono h fun e w'' he => ?_
          cases e with
          | returned v => exact key ac v w'' rfl (by unfold wpList at he; exact he.2.2) rfl
          | panicked ch => exact absurd he.1 (by simp)
          | outgrown => exact absurd he hLo
        | .ok (.row row args) w', h =>
          unfold Oper.upon at h ⊢
          exact Rows.mono h fun v w'' hv => key ac v w'' rfl (by unfold wpList at hv; exact hv.2.2) rfl
        | .ok (.defer d) w', h =>
          exfalso
          unfold Oper.upon wpList at h
          have h3 := h.2.1
          rw [put_defs] at h3
          have := congrArg List.length h3
          simp at this
        | .halt (.panic v) w', h => exact absurd h.1 (by simp)
      · exact absurd h0.2 hLo
  · rintro L ac w1 ⟨hF, hI⟩ hall
    have hL : ∀ j, j < ops.length → L j = true := fun j hj => hall j (by simpa using hj)
    have e : ac = af := act_ext hF.size hF.defs (fun t => hF.at_ t (fun i o hi ho hLi => by
      rw [hL i (M.q i hi)] at hLi; cases hLi))
    subst e
    exact hend L w1 hI (fun i hi => hL i (M.l i hi))
end Go.Proofs.Ytnbleebilmghcab
namespace Go.Proofs.Ytnbleebilmghcab
open Go Go.RowKit
def dstOf (ops : List Oper) (i : Nat) : Tmp := ((ops[i]?).bind (·.dst)).getD 0
def valsB (ops : List Oper) (sz : Nat) : Bool :=
  (ops.all fun o => o.dst.isSome) && ((List.range ops.length).all fun i => decide (dstOf ops i < sz)) && ((List.range ops.length).all fun j => (List.range j).all fun i => dstOf ops i != dstOf ops j)
theorem dst_of {ops : List Oper} {sz : Nat} (h : valsB ops sz = true) {i : Nat} {o : Oper} (ho : ops[i]? = some o) : o.dst = some (dstOf ops i) := by
  unfold valsB at h
  simp only [Bool.and_eq_true] at h
  have h1 := List.all_eq_true.1 h.1.1 o (List.mem_of_getElem? ho)
  obtain ⟨d, hd⟩ := Option.isSome_iff_exists.1 h1
  simp [dstOf, ho, hd]
theorem dst_lt {ops : List Oper} {sz : Nat} (h : valsB ops sz = true) {i : Nat} (hi : i < ops.length) : dstOf ops i < sz := by
  unfold valsB at h
  simp only [Bool.and_eq_true] at h
  exact of_decide_eq_true (List.all_eq_true.1 h.1.2 i (List.mem_range.2 hi))
theorem dst_ne {ops : List Oper} {sz : Nat} (h : valsB ops sz = true) {i j : Nat} (hi : i < ops.length) (hj : j < ops.length) (hij : i ≠ j) : dstOf ops i ≠ dstOf ops j := by
  unfold valsB at h
  simp only [Bool.and_eq_true] at h
  have key : ∀ i j, i < j → j < ops.length → dstOf ops i ≠ dstOf ops j := fun i j h1 h2 => by
    have := List.all_eq_true.1 (List.all_eq_true.1 h.2 j (List.mem_range.2 h2)) i (List.mem_range.2 h1)
    simpa using this
  rcases Nat.lt_or_gt_of_ne hij with h1 | h1
  · exact key i j h1 hj
  · exact (key j i h1 hi).symm
theorem wp_region_vals {P : Program} {id : Nat} {Q : Exit → Act → World → Prop} {a : Act} {w : World} {ops : List Oper} (V : Nat → Value → World → Prop) (D : World → Prop)
    (hm : P.follows .mixedOrders = true) (hb : backB ops.toArray = true) (hv : valsB ops a.tmps.size = true)
    (hV : ∀ i v w1 (x : Sub w1), V i v w1 → V i v x.val) (hD : ∀ w1 (x : Sub w1), D w1 → D x.val) (hD0 : D w)
    (hstep : ∀ i o, ops[i]? = some o → ∀ ac w1, D w1 → (∀ t, (∀ o ∈ ops, o.dst ≠ some t) → ac.tmps.getD t undef = a.tmps.getD t undef) → ac.tmps.size = a.tmps.size →
      (∀ j, (o.after.any fun e => e.on == j && Region.binds .any e) = true → V j (ac.tmps.getD (dstOf ops j) undef) w1) →
      (Region.wanted o (yielded ops.toArray ac.tmps) = true ∧ o.wp P ac w1 (fun ac' w' => ∃ v, ac' = ac.put o.dst v ∧ V i v w' ∧ Below w1.heap.size w1 w') Q) ∨ (Region.wanted o (yielded ops.toArray ac.tmps) = false ∧ V i undef w1))
    (hend : ∀ (v : Nat → Value) w1, D w1 → (∀ i, i < ops.length → V i (v i) w1) → Below w.heap.size w w1 → Q .normal (putAll (dstOf ops) v a ops.length) w1) : (Code.region id ops.toArray true).wp P Q a w := by
  refine wp_region_inv hm (fun L ac w1 => ac.tmps.size = a.tmps.size ∧ ac.defers = a.defers ∧ (∀ t, (∀ o ∈ ops, o.dst ≠ some t) → ac.tmps.getD t undef = a.tmps.getD t undef) ∧ (∀ i, i < ops.length → L i = true → V i (ac.tmps.getD (dstOf ops i) undef) w1) ∧ D w1 ∧ Below w.heap.size w w1) hb ?_ ?_ ?_
  · exact ⟨rfl, rfl, fun _ _ => rfl, fun _ _ h => (by cases h), hD w ⟨_, (Below.refl _ _).drew⟩ hD0, (Below.refl _ _).drew⟩
  · rintro L ac w1 i o ⟨h1, h2, h3, h4, h5, h6⟩ ho hL he
    have ho' : ops[i]? = some o := by simpa using ho
    have hi : i < ops.length := (List.getElem?_eq_some_iff.1 ho').1
    have hdst := dst_of hv ho'
    have hlen : ∀ e ∈ o.after, Region.binds .any e = true → e.on < ops.length := fun e hm hbd => by
      have h1 := List.all_eq_true.1 hb i (List.mem_range.2 (by simpa using hi))
      simp only [ho] at h1
      have h2 := Array.all_eq_true_iff_forall_mem.1 h1 e hm
      have h3 : e.on < i := by simpa using h2
      omega
    have fin : ∀ w' v, V i v w' → Below w1.heap.size w1 w' → (ac.put o.dst v).tmps.size = a.tmps.size ∧ (ac.put o.dst v).defers = a.defers ∧ (∀ t, (∀ o ∈ ops, o.dst ≠ some t) → (ac.put o.dst v).tmps.getD t undef = a.tmps.getD t undef) ∧ (∀ j, j < ops.length → upd L i j = true → V j ((ac.put o.dst v).tmps.getD (dstOf ops j) undef) w') ∧ D w' ∧ Below w.heap.size w w' := fun w' v hVv hbl => by
      rw [hdst]
      refine ⟨by rw [put_size]; exact h1, by rw [put_defs]; exact h2, fun t ht => ?_, fun j hj hLj => ?_, hD w1 ⟨w', hbl⟩ h5, h6.trans (hbl.mono h6.size)⟩
      · rw [put_get, if_neg (fun e => ht o (List.mem_of_getElem? ho') (by rw [hdst, e.1]))]
        exact h3 t ht
      · by_cases e : j = i
        · subst e
          rw [put_get, if_pos ⟨rfl, by rw [h1]; exact dst_lt hv hj⟩]
          exact hVv
        · rw [put_get, if_neg (fun e' => dst_ne hv hi hj (Ne.symm e) e'.1)]
          refine hV j _ w1 ⟨w', hbl⟩ (h4 j hj ?_)
          unfold upd at hLj
          rwa [if_neg e] at hLj
    unfold wpOp
    simp only [ho]
    rcases hstep i o ho' ac w1 h5 h3 h1 (fun j hj => by
      obtain ⟨k, hk, hp⟩ := Array.any_eq_true.1 hj
      rw [Bool.and_eq_true, beq_iff_eq] at hp
      have hm := Array.getElem_mem hk
      rw [← hp.1]
      exact h4 _ (hlen _ hm hp.2) (he _ hm hp.2)) with ⟨hw, hop⟩ | ⟨hw, hvu⟩
    · rw [if_pos hw]
      refine .inl (Oper.wp_mono ?_ hop)
      rintro ac' w' ⟨v, rfl, hVv, hbl⟩
      exact fin w' v hVv hbl
    · rw [if_neg (by rw [hw]; decide)]
      exact fin w1 undef hvu (Below.refl _ _)
  · rintro L ac w1 ⟨h1, h2, h3, h4, h5, h6⟩ hall
    have hall' : ∀ j, j < ops.length → L j = true := fun j hj => hall j (by simpa using hj)
    have e : ac = putAll (dstOf ops) (fun i => ac.tmps.getD (dstOf ops i) undef) a ops.length := by
      refine act_ext (by rw [putAll_size]; exact h1) (by rw [putAll_defs]; exact h2) fun t => ?_
      by_cases ht : ∃ k, k < ops.length ∧ dstOf ops k = t
      · obtain ⟨k, hk, rfl⟩ := ht
        rw [putAll_in (dstOf ops) _ a k (dst_lt hv hk) ops.length hk (fun i j hi hj hij => dst_ne hv hi hj hij)]
      · rw [putAll_out (dstOf ops) _ a t ops.length (fun k hk e => ht ⟨k, hk, e⟩)]
        refine h3 t fun o ho hd => ?_
        obtain ⟨k, hk, hko⟩ := List.getElem_of_mem ho
        have := dst_of hv (i := k) (o := o) (by rw [List.getElem?_eq_getElem hk, hko])
        rw [this] at hd
        exact ht ⟨k, hk, by simpa using hd⟩
    have := hend (fun i => ac.tmps.getD (dstOf ops i) undef) w1 h5 (fun i hi => h4 i hi (hall' i hi)) h6
    rw [← e] at this
    exact this
theorem wanted_of {ops : Array Oper} {o : Oper} {ac : Act} {j d : Nat} {b : Bool} (hg : o.guard = some (j, b)) (hd : (ops[j]?).bind (·.dst) = some d) (hv : ac.tmps.getD d undef = .bool b) : Region.wanted o (yielded ops ac.tmps) = true := by
  have h : ac.tmps[d]? = some (.bool b) := by
    rw [Array.getD_eq_getD_getElem?] at hv
    cases hc : ac.tmps[d]? with
    | none => rw [hc] at hv; cases hv
    | some x => rw [hc] at hv; rw [show x = Value.bool b from hv]
  unfold Region.wanted
  simp [hg, yielded, hd, h]
theorem unwanted_of {ops : Array Oper} {o : Oper} {ac : Act} {j d : Nat} {b : Bool} (hg : o.guard = some (j, b)) (hd : (ops[j]?).bind (·.dst) = some d) (hv : ac.tmps.getD d undef = .bool !b) : Region.wanted o (yielded ops ac.tmps) = false := by
  have h : ac.tmps[d]? = some (.bool !b) := by
    rw [Array.getD_eq_getD_getElem?] at hv
    cases hc : ac.tmps[d]? with
    | none => rw [hc] at hv; cases hv
    | some x => rw [hc] at hv; rw [show x = Value.bool !b from hv]
  unfold Region.wanted
  cases b <;> simp [hg, yielded, hd, h]
theorem wp_reads {P : Program} {o : Oper} {ac : Act} {w1 : World} {V : Value → World → Prop} {Q : Exit → Act → World → Prop} (v : Value) (hr : (execOp ac.eval o).run P w1 = .ok (.value v) w1) (hV : V v w1) :
    o.wp P ac w1 (fun ac' w' => ∃ v, ac' = ac.put o.dst v ∧ V v w' ∧ Below w1.heap.size w1 w') Q := by
  unfold Oper.wp
  rw [hr]
  exact ⟨v, rfl, hV, Below.refl _ _⟩
theorem wp_enters {P : Program} {o : Oper} {ac : Act} {w1 : World} {V : Value → World → Prop} {Q : Exit → Act → World → Prop} (f : FuncId) (args : Array Value) (hr : (execOp ac.eval o).run P w1 = .ok (.enter f args) w1)
    (hc : Calls P f args w1 fun e w' => ∃ v, e = .returned v ∧ V v w' ∧ Below w1.heap.size w1 w') : o.wp P ac w1 (fun ac' w' => ∃ v, ac' = ac.put o.dst v ∧ V v w' ∧ Below w1.heap.size w1 w') Q := by
  unfold Oper.wp
  rw [hr]
  refine Calls.mono hc fun e w' h => ?_
  obtain ⟨v, rfl, hv, hb⟩ := h
  exact ⟨v, rfl, hv, hb⟩
end Go.Proofs.Ytnbleebilmghcab
namespace Go.Proofs.Ytnbleebilmghcab
open Go Go.RowKit
def putOps (ops : List Oper) (v : Nat → Value) (a : Act) : Nat → Act
  | 0 => a
  | m + 1 => (putOps ops v a m).put ((ops[m]?).bind (·.dst)) (v m)
theorem putOps_size (ops : List Oper) (v : Nat → Value) (a : Act) : ∀ m, (putOps ops v a m).tmps.size = a.tmps.size
  | 0 => rfl
  | m + 1 => by show ((putOps ops v a m).put _ _).tmps.size = _; rw [put_size, putOps_size ops v a m]
theorem putOps_defs (ops : List Oper) (v : Nat → Value) (a : Act) : ∀ m, (putOps ops v a m).defers = a.defers
  | 0 => rfl
  | m + 1 => by show ((putOps ops v a m).put _ _).defers = _; rw [put_defs, putOps_defs ops v a m]
theorem put_get' (a : Act) (d : Option Tmp) (t : Tmp) (v : Value) : (a.put d v).tmps.getD t undef = if d = some t ∧ t < a.tmps.size then v else a.tmps.getD t undef := by
  cases d with
  | none => simp [Act.put]
  | some d =>
    rw [put_get]
    by_cases e : d = t
    · subst e; simp
    · simp [e]
theorem putOps_out (ops : List Oper) (v : Nat → Value) (a : Act) (t : Tmp) : ∀ m, (∀ k, k < m → (ops[k]?).bind (·.dst) ≠ some t) → (putOps ops v a m).tmps.getD t undef = a.tmps.getD t undef
  | 0, _ => rfl
  | m + 1, h => by
    show ((putOps ops v a m).put _ _).tmps.getD t undef = _
    rw [put_get', if_neg (fun e => h m (by omega) e.1)]
    exact putOps_out ops v a t m (fun k hk => h k (by omega))
theorem putOps_in (ops : List Oper) (v : Nat → Value) (a : Act) (k : Nat) (t : Tmp) (hkt : (ops[k]?).bind (·.dst) = some t) (hlt : t < a.tmps.size) : ∀ m, k < m → (∀ j, j < m → j ≠ k → (ops[j]?).bind (·.dst) ≠ some t) → (putOps ops v a m).tmps.getD t undef = v k
  | m + 1, hk, h => by
    show ((putOps ops v a m).put _ _).tmps.getD t undef = _
    by_cases e : k = m
    · subst e; rw [put_get', if_pos ⟨hkt, by rw [putOps_size]; exact hlt⟩]
    · rw [put_get', if_neg (fun e' => h m (by omega) (Ne.symm e) e'.1)]
      exact putOps_in ops v a k t hkt hlt m (by omega) (fun j hj hne => h j (by omega) hne)
def slotsB (ops : List Oper) (sz : Nat) : Bool := (List.range ops.length).all fun j => match (ops[j]?).bind (·.dst) with
  | none => true
  | some t => decide (t < sz) && (List.range ops.length).all fun i => i == j || (ops[i]?).bind (·.dst) != some t
theorem slots_spec {ops : List Oper} {sz : Nat} (h : slotsB ops sz = true) {j : Nat} {t : Tmp} (hj : (ops[j]?).bind (·.dst) = some t) : t < sz ∧ ∀ i, i ≠ j → (ops[i]?).bind (·.dst) ≠ some t := by
  have hlt : j < ops.length := by
    rcases Nat.lt_or_ge j ops.length with h | h
    · exact h
    · rw [List.getElem?_eq_none h] at hj; cases hj
  have h1 := List.all_eq_true.1 h j (List.mem_range.2 hlt)
  simp only [hj, Bool.and_eq_true, decide_eq_true_eq] at h1
  refine ⟨h1.1, fun i hij e => ?_⟩
  have hi : i < ops.length := by
    rcases Nat.lt_or_ge i ops.length with h | h
    · exact h
    · rw [List.getElem?_eq_none h] at e; cases e
  have := List.all_eq_true.1 h1.2 i (List.mem_range.2 hi)
  simp [hij, e] at this
def edgeB (o : Oper) (j : Nat) : Bool := o.after.any fun e => e.on == j && Region.binds .any e
theorem wp_region_gen {P : Program} {id : Nat} {Q : Exit → Act → World → Prop} {a : Act} {w : World} {ops : List Oper} (V : Nat → Value → Prop) (D : (Nat → Bool) → World → Prop)
    (hm : P.follows .mixedOrders = true) (hb : backB2 ops.toArray = true) (hv : slotsB ops a.tmps.size = true) (hD0 : D (fun _ => false) w.drew)
    (hstep : ∀ i o, ops[i]? = some o → ∀ L ac w1, D L w1 → L i = false → (∀ j, edgeB o j = true → L j = true) → (∀ k o', ops[k]? = some o' → L k = true → ∀ j, edgeB o' j = true → L j = true) → (∀ t, (∀ o ∈ ops, o.dst ≠ some t) → ac.tmps.getD t undef = a.tmps.getD t undef) →
      (∀ j t, (ops[j]?).bind (·.dst) = some t → edgeB o j = true → V j (ac.tmps.getD t undef)) →
      (Region.wanted o (yielded ops.toArray ac.tmps) = true ∧ o.wp P ac w1 (fun ac' w' => ∃ v, ac' = ac.put o.dst v ∧ V i v ∧ D (upd L i) w') Q) ∨ (Region.wanted o (yielded ops.toArray ac.tmps) = false ∧ V i undef ∧ D (upd L i) w1))
    (hend : ∀ (v : Nat → Value) L w1, D L w1 → (∀ i, i < ops.length → L i = true) → (∀ i t, (ops[i]?).bind (·.dst) = some t → V i (v i)) → Q .normal (putOps ops v a ops.length) w1) : (Code.region id ops.toArray true).wp P Q a w := by
  refine wp_region_inv2 hm (fun L ac w1 => ac.tmps.size = a.tmps.size ∧ ac.defers = a.defers ∧ (∀ t, (∀ o ∈ ops, o.dst ≠ some t) → ac.tmps.getD t undef = a.tmps.getD t undef) ∧ (∀ i t, (ops[i]?).bind (·.dst) = some t → L i = true → V i (ac.tmps.getD t undef)) ∧ (∀ k o', ops[k]? = some o' → L k = true → ∀ j, edgeB o' j = true → L j = true) ∧ D L w1) hb ?_ ?_ ?_
  · exact ⟨rfl, rfl, fun _ _ => rfl, fun _ _ _ h => (by cases h), fun _ _ _ h => (by cases h), hD0⟩
  · rintro L ac w1 i o ⟨h1, h2, h3, h4, hcl, h5⟩ ho hL he
    have ho' : ops[i]? = some o := by simpa using ho
    have hi : i < ops.length := (List.getElem?_eq_some_iff.1 ho').1
    have hod : (ops[i]?).bind (·.dst) = o.dst := by rw [ho']; rfl
    have hed : ∀ j, edgeB o j = true → L j = true := fun j hj => by
      obtain ⟨k, hk, hp⟩ := Array.any_eq_true.1 hj
      rw [Bool.and_eq_true, beq_iff_eq] at hp
      rw [← hp.1]
      exact he _ (Array.getElem_mem hk) hp.2
    have fin : ∀ w' v, V i v → D (upd L i) w' → (ac.put o.dst v).tmps.size = a.tmps.size ∧ (ac.put o.dst v).defers = a.defers ∧ (∀ t, (∀ o ∈ ops, o.dst ≠ some t) → (ac.put o.dst v).tmps.getD t undef = a.tmps.getD t undef) ∧ (∀ j t, (ops[j]?).bind (·.dst) = some t → upd L i j = true → V j ((ac.put o.dst v).tmps.getD t undef)) ∧ (∀ k o', ops[k]? = some o' → upd L i k = true → ∀ j, edgeB o' j = true → upd L i j = true) ∧ D (upd L i) w' := fun w' v hVv hDw => by
      refine ⟨by rw [put_size]; exact h1, by rw [put_defs]; exact h2, fun t ht => ?_, fun j t hj hLj => ?_, fun k o' hk hLk j hj => ?_, hDw⟩
      rotate_left 2
      · have hup : ∀ j, L j = true → upd L i j = true := fun j h => by unfold upd; split <;> simp [h]
        by_cases e : k = i
        · subst e
          rw [ho'] at hk
          obtain rfl := Option.some.inj hk
          exact hup j (hed j hj)
        · refine hup j (hcl k o' hk ?_ j hj)
          unfold upd at hLk
          rwa [if_neg e] at hLk
      · rw [put_get', if_neg (fun e => ht o (List.mem_of_getElem? ho') e.1)]
        exact h3 t ht
      · obtain ⟨hlt, huni⟩ := slots_spec hv hj
        by_cases e : j = i
        · subst e
          rw [hod] at hj
          rw [put_get', if_pos ⟨hj, by rw [h1]; exact hlt⟩]
          exact hVv
        · rw [put_get', if_neg (fun e' => huni i (Ne.symm e) (by rw [hod]; exact e'.1))]
          refine h4 j t hj ?_
          unfold upd at hLj
          rwa [if_neg e] at hLj
    unfold wpOp
    simp only [ho]
    rcases hstep i o ho' L ac w1 h5 hL hed hcl h3 (fun j t hj hje => h4 j t hj (hed j hje)) with ⟨hw, hop⟩ | ⟨hw, hvu, hdu⟩
    · rw [if_pos hw]
      refine .inl (Oper.wp_mono ?_ hop)
      rintro ac' w' ⟨v, rfl, hVv, hDw⟩
      exact fin w' v hVv hDw
    · rw [if_neg (by rw [hw]; decide)]
      exact fin w1 undef hvu hdu
  · rintro L ac w1 ⟨h1, h2, h3, h4, _, h5⟩ hall
    have hall' : ∀ j, j < ops.length → L j = true := fun j hj => hall j (by simpa using hj)
    have hlt : ∀ i t, (ops[i]?).bind (·.dst) = some t → i < ops.length := fun i t hi => by
      rcases Nat.lt_or_ge i ops.length with h | h
      · exact h
      · rw [List.getElem?_eq_none h] at hi; cases hi
    have e : ac = putOps ops (fun i => ac.tmps.getD (dstOf ops i) undef) a ops.length := by
      refine act_ext (by rw [putOps_size]; exact h1) (by rw [putOps_defs]; exact h2) fun t => ?_
      by_cases ht : ∃ k : Nat, (ops[k]?).bind (·.dst) = some t
      · obtain ⟨k, hk⟩ := ht
        obtain ⟨hlt', huni⟩ := slots_spec hv hk
        rw [putOps_in ops _ a k t hk hlt' ops.length (hlt k t hk) (fun j _ hne => huni j hne)]
        simp [dstOf, hk]
      · rw [putOps_out ops _ a t ops.length (fun k _ e => ht ⟨k, e⟩)]
        refine h3 t fun o ho hd => ?_
        obtain ⟨k, hk, hko⟩ := List.getElem_of_mem ho
        exact ht ⟨k, by rw [List.getElem?_eq_getElem hk, hko]; exact hd⟩
    have := hend (fun i => ac.tmps.getD (dstOf ops i) undef) L w1 h5 hall' (fun i t hi => by
      have := h4 i t hi (hall' i (hlt i t hi))
      simpa [dstOf, hi] using this)
    rw [← e] at this
    exact this
theorem gen_reads {P : Program} {o : Oper} {ac : Act} {w1 : World} {V : Value → Prop} {D : World → Prop} {Q : Exit → Act → World → Prop} (v : Value) (hr : (execOp ac.eval o).run P w1 = .ok (.value v) w1) (hV : V v) (hD : D w1) :
    o.wp P ac w1 (fun ac' w' => ∃ v, ac' = ac.put o.dst v ∧ V v ∧ D w') Q := by
  unfold Oper.wp
  rw [hr]
  exact ⟨v, rfl, hV, hD⟩
theorem gen_enters {P : Program} {o : Oper} {ac : Act} {w1 : World} {V : Value → Prop} {D : World → Prop} {Q : Exit → Act → World → Prop} (f : FuncId) (args : Array Value) (hr : (execOp ac.eval o).run P w1 = .ok (.enter f args) w1)
    (hc : Calls P f args w1 fun e w' => ∃ v, e = .returned v ∧ V v ∧ D w') : o.wp P ac w1 (fun ac' w' => ∃ v, ac' = ac.put o.dst v ∧ V v ∧ D w') Q := by
  unfold Oper.wp
  rw [hr]
  refine Calls.mono hc fun e w' h => ?_
  obtain ⟨v, rfl, hv, hd⟩ := h
  exact ⟨v, rfl, hv, hd⟩
theorem gen_stores {P : Program} {o : Oper} {ac : Act} {w1 w2 : World} {V : Value → Prop} {D : World → Prop} {Q : Exit → Act → World → Prop} (hr : (execOp ac.eval o).run P w1 = .ok .skip w2) (hV : V undef) (hD : D w2) :
    o.wp P ac w1 (fun ac' w' => ∃ v, ac' = ac.put o.dst v ∧ V v ∧ D w') Q := by
  unfold Oper.wp
  rw [hr]
  exact ⟨undef, rfl, hV, hD⟩
end Go.Proofs.Ytnbleebilmghcab
