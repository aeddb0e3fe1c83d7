/- Two more rules for statements whose order Go leaves open: all operations but the last one only read or call, and the last one waits for all; and: each operation fills a place of its own. -/
import Derived.Test.YtnbleebilmghcabADraws
set_option linter.unnecessarySimpa false
set_option linter.unusedSimpArgs false
set_option linter.unusedVariables false
namespace Go.Proofs.Ytnbleebilmghcab
open Go

/-- Every operation but the last one is waited for by a later one. -/
def sinkB (ops : Array Oper) : Bool := (List.range (ops.size - 1)).all fun j => (List.range ops.size).any fun k => decide (j < k) && (match ops[k]? with
  | some o => o.after.any fun e => decide (e.on = j) && Region.binds .any e
  | none => false)

theorem sink_spec {ops : Array Oper} (h : sinkB ops = true) (j : Nat) (hj : j + 1 < ops.size) : ∃ k o, j < k ∧ ops[k]? = some o ∧ ∃ e ∈ o.after, e.on = j ∧ Region.binds .any e = true := by
  have h1 := List.all_eq_true.1 h j (List.mem_range.2 (by omega))
  obtain ⟨k, _, h2⟩ := List.any_eq_true.1 h1
  rw [Bool.and_eq_true] at h2
  obtain ⟨h3, h4⟩ := h2
  cases ho : ops[k]? with
  | none => rw [ho] at h4; cases h4
  | some o =>
    rw [ho] at h4
    obtain ⟨i, hi, he⟩ := Array.any_eq_true.1 h4
    rw [Bool.and_eq_true] at he
    exact ⟨k, o, of_decide_eq_true h3, ho, o.after[i], by simp, of_decide_eq_true he.1, he.2⟩

/-- What has come up has all that it waits for. -/
def Closed (ops : Array Oper) (listed : Array Bool) : Prop := ∀ j o, ops[j]? = some o → listed.getD j false = true → ∀ e ∈ o.after, Region.binds .any e = true → listed.getD e.on false = true

theorem closed_all {ops : Array Oper} (hs : sinkB ops = true) {listed : Array Bool} (hc : Closed ops listed) (n : Nat) (hn : ops.size = n + 1) (hr : n ∈ Region.ready .any ops listed) :
    ∀ d j, j + d + 1 = n → listed.getD j false = true := by
  intro d
  induction d using Nat.strongRecOn with
  | ind d ih =>
    intro j hj
    obtain ⟨k, o, hk, ho, e, he, hej, heb⟩ := sink_spec hs j (by omega)
    have hkn : k < ops.size := (Array.getElem?_eq_some_iff.1 ho).1
    by_cases h : k = n
    · subst h
      obtain ⟨_, o', ho', hall⟩ := mem_ready.1 hr
      rw [ho] at ho'
      obtain rfl := Option.some.inj ho'
      rw [← hej]; exact hall e he heb
    · have := ih (n - 1 - k) (by omega) k (by omega)
      rw [← hej]; exact hc k o ho this e he heb

theorem wpAny_done {P : Program} {md : Region.Mode} {ops : Array Oper} {Q : Exit → Act → World → Prop} {listed : Array Bool} {a : Act} {w : World} (hr : Region.ready md ops listed = []) (h : Q .normal a w) :
    ∀ fuel, wpAny P md ops Q fuel listed a w
  | 0 => ⟨hr, h⟩
  | _ + 1 => ⟨fun _ => h, fun i hi => by rw [hr] at hi; cases hi⟩

theorem push_get (l : Array Bool) (i : Nat) (d : Bool) (h : i < l.size) : (l.push false).getD i d = l.getD i d := by
  simp [Array.getElem?_push, Nat.ne_of_lt h]
theorem push_set (l : Array Bool) (i : Nat) (h : i < l.size) : (l.push false).setIfInBounds i true = (l.setIfInBounds i true).push false := by
  apply Array.ext_getElem?
  intro j
  simp only [Array.getElem?_setIfInBounds, Array.getElem?_push, Array.size_push, Array.size_setIfInBounds]
  by_cases hij : i = j
  · subst hij; simp [Nat.ne_of_lt h, h]; omega
  · simp [hij]

theorem closed_set {ops : Array Oper} {listed : Array Bool} (hc : Closed ops listed) {i : Nat} (hr : i ∈ Region.ready .any ops listed) : Closed ops (listed.setIfInBounds i true) := by
  intro j o ho hj e he heb
  by_cases hij : i = j
  · subst hij
    obtain ⟨_, o', ho', hall⟩ := mem_ready.1 hr
    rw [ho] at ho'
    obtain rfl := Option.some.inj ho'
    exact getD_set_true (hall e he heb)
  · rw [getD_set_ne false hij] at hj
    exact getD_set_true (hc j o ho hj e he heb)

section
variable {P : Program} {C : World → Prop} {Q : Exit → Act → World → Prop} {Qq : Act → Prop} {l : List Oper} {o : Oper}

theorem wpAny_last (hg : ∀ x ∈ l ++ [o], x.guard = none) (hb : backB (l ++ [o]).toArray = true) (hs : sinkB (l ++ [o]).toArray = true)
    (hQ : ∀ a w, C w → Qq a → o.wp P a w (fun a' w' => Q .normal a' w') Q) :
    ∀ fuel listed a w, listed.size = l.length → Closed (l ++ [o]).toArray (listed.push false) → C w → wpAnyQ P .any l.toArray C Qq fuel listed a →
      wpAny P .any (l ++ [o]).toArray Q (fuel + 1) (listed.push false) a w := by
  intro fuel
  induction fuel with
  | zero =>
    intro listed a w hsz hc hw h
    refine ⟨fun h0 => ?_, fun i hi => ?_⟩
    · exfalso
      have := all_listed hb _ (by simp [hsz]) h0 l.length (by simp)
      simp [← hsz] at this
    · obtain ⟨hi1, oi, hoi, hi2⟩ := mem_ready.1 hi
      have hlt : i < l.length + 1 := by have := (Array.getElem?_eq_some_iff.1 hoi).1; simpa using this
      by_cases hin : i = l.length
      · subst hin
        have e : oi = o := by simpa using hoi.symm
        subst e
        refine wpOp_of hoi (hg _ (by simp)) ?_
        refine Oper.wp_mono (fun a' w' hq => wpAny_done ?_ hq _) (hQ a w hw h.2)
        rw [List.eq_nil_iff_forall_not_mem]
        intro k hk
        obtain ⟨hk1, ok, hok, _⟩ := mem_ready.1 hk
        have hkl : k < l.length + 1 := by have := (Array.getElem?_eq_some_iff.1 hok).1; simpa using this
        by_cases hkn : k = l.length
        · subst hkn; simp [← hsz] at hk1
        · have := closed_all hs hc l.length (by simp) hi (l.length - 1 - k) k (by omega)
          rw [getD_set_ne true (by omega)] at hk1
          rw [push_get _ _ _ (by omega)] at this hk1
          simp [Array.getD, show k < listed.size by omega] at this hk1
          rw [this] at hk1; cases hk1
      · exfalso
        have hi' : i ∈ Region.ready .any l.toArray listed := by
          rw [mem_ready]
          refine ⟨by rw [push_get _ _ _ (by omega)] at hi1; exact hi1, oi, ?_, fun e he heb => ?_⟩
          · have : i < l.length := by omega
            simpa [List.getElem?_append_left this] using hoi
          · have h2 := hi2 e he heb
            have h3 := List.all_eq_true.1 hb i (List.mem_range.2 (by simpa using hlt))
            simp only [hoi] at h3
            have h4 : e.on < i := by simpa using Array.all_eq_true_iff_forall_mem.1 h3 e he
            rwa [push_get _ _ _ (by omega)] at h2
        rw [h.1] at hi'
        cases hi'
  | succ fuel ih =>
    intro listed a w hsz hc hw h
    refine ⟨fun h0 => ?_, fun i hi => ?_⟩
    · exfalso
      have := all_listed hb _ (by simp [hsz]) h0 l.length (by simp)
      simp [← hsz] at this
    · obtain ⟨hi1, oi, hoi, hi2⟩ := mem_ready.1 hi
      have hlt : i < l.length + 1 := by have := (Array.getElem?_eq_some_iff.1 hoi).1; simpa using this
      by_cases hin : i = l.length
      · subst hin
        have e : oi = o := by simpa using hoi.symm
        subst e
        have hall : ∀ k, k < l.length → listed.getD k false = true := fun k hk => by
          have := closed_all hs hc l.length (by simp) hi (l.length - 1 - k) k (by omega)
          rwa [push_get _ _ _ (by omega)] at this
        have hnil : Region.ready .any l.toArray listed = [] := by
          rw [List.eq_nil_iff_forall_not_mem]
          intro k hk
          obtain ⟨hk1, ok, hok, _⟩ := mem_ready.1 hk
          have hkl : k < l.length := by have := (Array.getElem?_eq_some_iff.1 hok).1; simpa using this
          have := hall k hkl
          simp [Array.getD, show k < listed.size by omega] at this hk1
          rw [this] at hk1; cases hk1
        refine wpOp_of hoi (hg _ (by simp)) ?_
        refine Oper.wp_mono (fun a' w' hq => wpAny_done ?_ hq _) (hQ a w hw (h.1 hnil))
        rw [List.eq_nil_iff_forall_not_mem]
        intro k hk
        obtain ⟨hk1, ok, hok, _⟩ := mem_ready.1 hk
        have hkl : k < l.length + 1 := by have := (Array.getElem?_eq_some_iff.1 hok).1; simpa using this
        by_cases hkn : k = l.length
        · subst hkn; simp [← hsz] at hk1
        · have := hall k (by omega)
          rw [getD_set_ne true (by omega)] at hk1
          rw [push_get _ _ _ (by omega)] at hk1
          simp [Array.getD, show k < listed.size by omega] at this hk1
          rw [this] at hk1; cases hk1
      · have hol : l.toArray[i]? = some oi := by
          have : i < l.length := by omega
          simpa [List.getElem?_append_left this] using hoi
        have hi' : i ∈ Region.ready .any l.toArray listed := by
          rw [mem_ready]
          refine ⟨by rw [push_get _ _ _ (by omega)] at hi1; exact hi1, oi, hol, fun e he heb => ?_⟩
          have h2 := hi2 e he heb
          have h3 := List.all_eq_true.1 hb i (List.mem_range.2 (by simpa using hlt))
          simp only [hoi] at h3
          have h4 : e.on < i := by simpa using Array.all_eq_true_iff_forall_mem.1 h3 e he
          rwa [push_get _ _ _ (by omega)] at h2
        have hq := h.2 i hi'
        unfold qOp at hq
        simp only [hol] at hq
        have hmem : oi ∈ l ++ [o] := by
          have := List.mem_of_getElem? (show (l ++ [o])[i]? = some oi by simpa using hoi)
          exact this
        have hgi := hg oi hmem
        rw [if_pos (by unfold Region.wanted; rw [hgi])] at hq
        refine wpOp_of hoi hgi ?_
        refine Oper.wp_of_quiet hw (fun a' w' hw' h' => ?_) hq
        rw [push_set _ _ (by omega)]
        exact ih _ a' w' (by simpa using hsz) (by rw [← push_set _ _ (by omega)]; exact closed_set hc hi) hw' h'

/-- ALL BUT THE LAST ONE ARE QUIET, AND THE LAST ONE WAITS FOR ALL: one walk serves every order. -/
theorem wp_region_last {id : Nat} {a : Act} {w : World} (hm : P.follows .mixedOrders = true) (hg : ∀ x ∈ l ++ [o], x.guard = none) (hb : backB (l ++ [o]).toArray = true) (hs : sinkB (l ++ [o]).toArray = true)
    (hB : Region.lexB .any l.toArray = true)
    (h : wpQuiet P l.toArray (fun w' => ∃ x : Sub w, w' = x.val) (fun a' => ∀ w', (∃ x : Sub w, w' = x.val) → o.wp P a' w' (fun a' w' => Q .normal a' w') Q) l a) : (Code.region id (l ++ [o]).toArray true).wp P Q a w := by
  simp only [Region.lexB, Bool.and_eq_true] at hB
  refine wp_region_any hm ?_
  have h1 := wpAnyQ_lex (P := P) (C := fun w' => ∃ x : Sub w, w' = x.val) (md := .any) hB.1 l 0 (Array.replicate l.length false) a (by simp) (by simpa using hB.2) h
  have h2 := wpAny_last (C := fun w' => ∃ x : Sub w, w' = x.val) (Q := Q) hg hb hs (fun a w hw h => h w hw) l.length (Array.replicate l.length false) a { w with drawn := w.drawn + 1 } (by simp)
    (by
      intro j oj _ hj
      exfalso
      have e : (Array.replicate l.length false).push false = Array.replicate (l.length + 1) false := by simp [Array.replicate_succ]
      rw [e] at hj
      simp [Array.getD] at hj)
    ⟨⟨_, (Go.RowKit.Below.refl _ _).drew⟩, rfl⟩ h1
  have e : (Array.replicate l.length false).push false = Array.replicate (l.length + 1) false := by simp [Array.replicate_succ]
  rw [e] at h2
  simpa using h2

/-- The same, as a walk meets it. -/
theorem wp_region_last_at {ops : List Oper} {id : Nat} {a : Act} {w : World} (n : Nat) (o : Oper) (ho : ops[n]? = some o) (hn : ops.length = n + 1) (hm : P.follows .mixedOrders = true) (hg : ops.all (fun o => o.guard.isNone) = true)
    (hb : backB ops.toArray = true) (hs : sinkB ops.toArray = true) (hB : Region.lexB .any (ops.take n).toArray = true)
    (h : ∀ l, l = ops.take n → wpQuiet P l.toArray (fun w' => ∃ x : Sub w, w' = x.val) (fun a' => ∀ w', (∃ x : Sub w, w' = x.val) → o.wp P a' w' (fun a' w' => Q .normal a' w') Q) l a) : (Code.region id ops.toArray true).wp P Q a w := by
  have e : ops = ops.take n ++ [o] := by
    have h1 : n < ops.length := by omega
    have h2 : ops.drop n = [o] := by
      rw [List.drop_eq_getElem_cons h1, List.drop_eq_nil_of_le (by omega)]
      simpa [List.getElem?_eq_getElem h1] using ho
    rw [← h2, List.take_append_drop]
  have h' := h _ rfl
  rw [e] at hg hb hs ⊢
  exact wp_region_last hm (fun x hx => by simpa using List.all_eq_true.1 hg x hx) hb hs (by simpa [hn] using hB) (by simpa [hn] using h')
end
end Go.Proofs.Ytnbleebilmghcab
