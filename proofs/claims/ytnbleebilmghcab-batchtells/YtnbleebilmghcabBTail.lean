/- One more rule for statements whose order Go leaves open: operations that read or call, in whatever order, and behind them all some more, one behind the other. -/
import Derived.Test.YtnbleebilmghcabBLast
set_option linter.unusedVariables false
set_option linter.unusedSimpArgs false
set_option linter.unnecessarySimpa false
namespace Go.Proofs.Ytnbleebilmghcab
open Go

theorem wpAny_more {P : Program} {md : Region.Mode} {ops : Array Oper} {Q : Exit → Act → World → Prop} : ∀ f listed a w, wpAny P md ops Q f listed a w → wpAny P md ops Q (f + 1) listed a w
  | 0, _, _, _, h => ⟨fun _ => h.2, fun i hi => by rw [h.1] at hi; cases hi⟩
  | f + 1, _, _, _, h => ⟨h.1, fun i hi => wpOp_mono (fun a' w' h' => wpAny_more f _ a' w' h') (h.2 i hi)⟩
theorem wpAny_add {P : Program} {md : Region.Mode} {ops : Array Oper} {Q : Exit → Act → World → Prop} {f : Nat} {listed : Array Bool} {a : Act} {w : World} (h : wpAny P md ops Q f listed a w) : ∀ k, wpAny P md ops Q (k + f) listed a w
  | 0 => by rw [Nat.zero_add]; exact h
  | k + 1 => by rw [show k + 1 + f = (k + f) + 1 by omega]; exact wpAny_more _ _ _ _ (wpAny_add h k)

/-- Those behind n come one behind the other. -/
def chainB (n : Nat) (ops : List Oper) : Bool := (List.range ops.length).all fun i => decide (i ≤ n) || (match ops[i]? with
  | some o => o.after.any fun e => decide (e.on + 1 = i) && Region.binds .any e
  | none => true)
/-- Each one ahead of n is waited for by one up to n. -/
def sinkAtB (n : Nat) (ops : List Oper) : Bool := (List.range n).all fun j => (List.range (n + 1)).any fun k => decide (j < k) && (match ops[k]? with
  | some o => o.after.any fun e => decide (e.on = j) && Region.binds .any e
  | none => false)
theorem chain_spec {n : Nat} {ops : List Oper} (h : chainB n ops = true) {i : Nat} {o : Oper} (hi : n < i) (ho : ops[i]? = some o) : ∃ e ∈ o.after, e.on + 1 = i ∧ Region.binds .any e = true := by
  have h1 := List.all_eq_true.1 h i (List.mem_range.2 (List.getElem?_eq_some_iff.1 ho).1)
  simp only [ho, Bool.or_eq_true, decide_eq_true_eq] at h1
  rcases h1 with h1 | h1
  · omega
  · obtain ⟨k, hk, he⟩ := Array.any_eq_true.1 h1
    rw [Bool.and_eq_true] at he
    exact ⟨o.after[k], by simp, of_decide_eq_true he.1, he.2⟩
theorem sinkAt_spec {n : Nat} {ops : List Oper} (h : sinkAtB n ops = true) (j : Nat) (hj : j < n) : ∃ k o, j < k ∧ k ≤ n ∧ ops[k]? = some o ∧ ∃ e ∈ o.after, e.on = j ∧ Region.binds .any e = true := by
  have h1 := List.all_eq_true.1 h j (List.mem_range.2 hj)
  obtain ⟨k, hk, h2⟩ := List.any_eq_true.1 h1
  rw [Bool.and_eq_true] at h2
  cases ho : ops[k]? with
  | none => rw [ho] at h2; cases h2.2
  | some o =>
    rw [ho] at h2
    obtain ⟨i, hi, he⟩ := Array.any_eq_true.1 h2.2
    rw [Bool.and_eq_true] at he
    exact ⟨k, o, of_decide_eq_true h2.1, by have := List.mem_range.1 hk; omega, ho, o.after[i], by simp, of_decide_eq_true he.1, he.2⟩

section
variable {P : Program} {C : World → Prop} {Q : Exit → Act → World → Prop} {Qq : Act → Prop} {ops : List Oper} {n : Nat}

theorem closed_pre (hs : sinkAtB n ops = true) {listed : Array Bool} (hc : Closed ops.toArray listed) (hr : n ∈ Region.ready .any ops.toArray listed) : ∀ d j, j + d + 1 = n → listed.getD j false = true := by
  intro d
  induction d using Nat.strongRecOn with
  | ind d ih =>
    intro j hj
    obtain ⟨k, o, hk, hkn, ho, e, he, hej, heb⟩ := sinkAt_spec hs j (by omega)
    by_cases h : k = n
    · subst h
      obtain ⟨_, o', ho', hall⟩ := mem_ready.1 hr
      have ho2 : ops.toArray[k]? = some o := by simpa using ho
      rw [ho2] at ho'
      obtain rfl := Option.some.inj ho'
      rw [← hej]; exact hall e he heb
    · have := ih (n - 1 - k) (by omega) k (by omega)
      rw [← hej]; exact hc k o (by simpa using ho) this e he heb

/-- Who is ready where not all that come first have come. -/
theorem ready_pre (hs : sinkAtB n ops = true) (hch : chainB n ops = true) {listed : Array Bool} (hc : Closed ops.toArray listed) (ht : ∀ i, n ≤ i → i < ops.length → listed.getD i false = false)
    (hnot : ∃ j, j < n ∧ listed.getD j false = false) {i : Nat} (hi : i ∈ Region.ready .any ops.toArray listed) : i < n := by
  rcases Nat.lt_or_ge i n with h | h
  · exact h
  · exfalso
    obtain ⟨_, o, ho, hall⟩ := mem_ready.1 hi
    have ho' : ops[i]? = some o := by simpa using ho
    by_cases hin : i = n
    · subst hin
      obtain ⟨j, hj, hjf⟩ := hnot
      have := closed_pre hs hc hi (i - 1 - j) j (by omega)
      rw [this] at hjf; cases hjf
    · obtain ⟨e, he, hei, heb⟩ := chain_spec hch (by omega) ho'
      have h1 := hall e he heb
      rw [ht e.on (by omega) (by have := (List.getElem?_eq_some_iff.1 ho').1; omega)] at h1
      cases h1

def listedAt (i N : Nat) : Array Bool := ((List.range N).map fun j => decide (j < i)).toArray
theorem listedAt_size (i N : Nat) : (listedAt i N).size = N := by simp [listedAt]
theorem listedAt_get (i N j : Nat) (d : Bool) (h : j < N) : (listedAt i N).getD j d = decide (j < i) := by simp [listedAt, Array.getD, h]
theorem listedAt_set (i N : Nat) : (listedAt i N).setIfInBounds i true = listedAt (i + 1) N := by
  apply Array.ext (by simp [listedAt])
  intro j h1 h2
  have hj : j < N := by simpa [listedAt] using h2
  rw [Array.getElem_setIfInBounds]
  · by_cases e : i = j
    · subst e; simp [listedAt]
    · have e2 : (j < i) ↔ (j < i + 1) := by omega
      simp [listedAt, e, e2]
  · simpa [listedAt] using hj

theorem wpAny_forced (hb : backB ops.toArray = true) (hch : chainB n ops = true) (hg : ∀ o ∈ ops, o.guard = none) : ∀ t i a w, n ≤ i → i + t = ops.length → wpList P ops.toArray Q (ops.drop i) a w → wpAny P .any ops.toArray Q t (listedAt i ops.length) a w := by
  intro t
  induction t with
  | zero =>
    intro i a w hn hi h
    rw [List.drop_eq_nil_of_le (by omega)] at h
    refine ⟨?_, h⟩
    rw [List.eq_nil_iff_forall_not_mem]
    intro k hk
    obtain ⟨h1, o, ho, _⟩ := mem_ready.1 hk
    have hk' : k < ops.length := by have := (Array.getElem?_eq_some_iff.1 ho).1; simpa using this
    rw [listedAt_get _ _ _ _ hk'] at h1
    have := of_decide_eq_false h1
    omega
  | succ t ih =>
    intro i a w hn hi h
    have hil : i < ops.length := by omega
    rw [List.drop_eq_getElem_cons hil] at h
    have hoi : ops.toArray[i]? = some ops[i] := by simp [hil]
    refine ⟨fun h0 => ?_, fun k hk => ?_⟩
    · exfalso
      have := all_listed hb _ (by simp [listedAt_size]) h0 i (by simpa using hil)
      rw [listedAt_get _ _ _ _ hil] at this
      simp at this
    · obtain ⟨h1, o, ho, hall⟩ := mem_ready.1 hk
      have ho' : ops[k]? = some o := by simpa using ho
      have hkl : k < ops.length := (List.getElem?_eq_some_iff.1 ho').1
      rw [listedAt_get _ _ _ _ hkl] at h1
      have hki := of_decide_eq_false h1
      have hk2 : k = i := by
        by_cases e : k = i
        · exact e
        · exfalso
          obtain ⟨e', he, hei, heb⟩ := chain_spec hch (by omega) ho'
          have h2 := hall e' he heb
          rw [listedAt_get _ _ _ _ (by omega)] at h2
          have := of_decide_eq_true h2
          omega
      subst hk2
      have hgk := hg ops[k] (by simp)
      unfold wpList at h
      rw [if_pos (by unfold Region.wanted; rw [hgk])] at h
      unfold wpOp
      simp only [hoi]
      rw [if_pos (by unfold Region.wanted; rw [hgk])]
      refine h.imp (Oper.wp_mono fun a' w' h' => ?_) id
      rw [listedAt_set _ _]
      exact ih (k + 1) a' w' (by omega) (by omega) h'

theorem app_get (l : Array Bool) (t i : Nat) (d : Bool) (h : i < l.size) : (l ++ Array.replicate t false).getD i d = l.getD i d := by
  simp [Array.getD, h, Array.getElem_append_left h, Nat.lt_of_lt_of_le h (Nat.le_add_right _ _)]
theorem app_tail (l : Array Bool) (t i : Nat) (h : l.size ≤ i) (h2 : i < l.size + t) : (l ++ Array.replicate t false).getD i false = false ∧ (l ++ Array.replicate t false).getD i true = false := by
  constructor <;> simp [Array.getD, h2, Array.getElem_append_right h]
theorem app_set (l : Array Bool) (t i : Nat) (h : i < l.size) : (l ++ Array.replicate t false).setIfInBounds i true = l.setIfInBounds i true ++ Array.replicate t false := by
  apply Array.ext_getElem?
  intro j
  simp only [Array.getElem?_setIfInBounds, Array.getElem?_append, Array.size_append, Array.size_replicate, Array.size_setIfInBounds]
  by_cases hij : i = j
  · subst hij; simp [h, Nat.lt_of_lt_of_le h (Nat.le_add_right _ _)]
  · simp [hij]
theorem app_all (l : Array Bool) (t : Nat) (h : ∀ j, j < l.size → l.getD j false = true) : l ++ Array.replicate t false = listedAt l.size (l.size + t) := by
  apply Array.ext (by simp [listedAt])
  intro j h1 h2
  by_cases hj : j < l.size
  · have := h j hj
    rw [Array.getElem_append_left hj]
    simp [Array.getD, hj] at this
    simp [listedAt, hj, this]
  · rw [Array.getElem_append_right (by omega)]
    simp [listedAt, hj]

theorem wpAny_pre (t : Nat) (hn : ops.length = n + t) (ht0 : 0 < t) (hb : backB ops.toArray = true) (hs : sinkAtB n ops = true) (hch : chainB n ops = true) (hg : ∀ o ∈ ops, o.guard = none)
    (hQ : ∀ a w, C w → Qq a → wpList P ops.toArray Q (ops.drop n) a w) :
    ∀ fuel listed a w, listed.size = n → Closed ops.toArray (listed ++ Array.replicate t false) → C w → wpAnyQ P .any (ops.take n).toArray C Qq fuel listed a →
      wpAny P .any ops.toArray Q (fuel + t) (listed ++ Array.replicate t false) a w := by
  have hlen : (ops.take n).length = n := by simp; omega
  intro fuel
  induction fuel with
  | zero =>
    intro listed a w hsz hc hw h
    have hall : ∀ j, j < listed.size → listed.getD j false = true := fun j hj => by
      have hb' : backB (ops.take n).toArray = true := by
        unfold backB
        rw [List.all_eq_true]
        intro i hi
        have hin : i < n := by have := List.mem_range.1 hi; simpa [hlen] using this
        have h1 := List.all_eq_true.1 hb i (List.mem_range.2 (by simp; omega))
        have e : (ops.take n).toArray[i]? = ops.toArray[i]? := by simp [hin]
        rw [e]; exact h1
      exact all_listed hb' listed (by simp [hsz]; omega) h.1 j (by simp; omega)
    rw [app_all _ _ hall, hsz]
    have := wpAny_forced (P := P) (Q := Q) hb hch hg t n a w (Nat.le_refl _) (by omega) (hQ a w hw h.2)
    rw [hn] at this
    exact wpAny_add this 0
  | succ fuel ih =>
    intro listed a w hsz hc hw h
    by_cases hall : ∀ j, j < listed.size → listed.getD j false = true
    · have hnil : Region.ready .any (ops.take n).toArray listed = [] := by
        rw [List.eq_nil_iff_forall_not_mem]
        intro k hk
        obtain ⟨hk1, ok, hok, _⟩ := mem_ready.1 hk
        have hkl : k < n := by have := (Array.getElem?_eq_some_iff.1 hok).1; simp at this; omega
        have := hall k (by omega)
        simp [Array.getD, show k < listed.size by omega] at this hk1
        rw [this] at hk1; cases hk1
      rw [app_all _ _ hall, hsz]
      have := wpAny_forced (P := P) (Q := Q) hb hch hg t n a w (Nat.le_refl _) (by omega) (hQ a w hw (h.1 hnil))
      rw [hn] at this
      exact wpAny_add this (fuel + 1)
    · have hnot : ∃ j, j < n ∧ (listed ++ Array.replicate t false).getD j false = false := by
        rcases Classical.not_forall.1 hall with ⟨j, hj⟩
        rcases Classical.not_imp.1 hj with ⟨h1, h2⟩
        exact ⟨j, by omega, by rw [app_get _ _ _ _ h1]; simpa using h2⟩
      rw [show fuel + 1 + t = (fuel + t) + 1 by omega]
      refine ⟨fun h0 => ?_, fun i hi => ?_⟩
      · exfalso
        have := all_listed hb _ (by simp [hsz, hn]) h0 n (by simp; omega)
        rw [(app_tail listed t n (by omega) (by omega)).1] at this
        cases this
      · have hin := ready_pre hs hch hc (fun i h1 h2 => (app_tail listed t i (by omega) (by omega)).1) hnot hi
        obtain ⟨hi1, oi, hoi, hi2⟩ := mem_ready.1 hi
        have hol : (ops.take n).toArray[i]? = some oi := by
          have : ops[i]? = some oi := by simpa using hoi
          simp [hin, this]
        have hi' : i ∈ Region.ready .any (ops.take n).toArray listed := by
          rw [mem_ready]
          refine ⟨by rw [app_get _ _ _ _ (by omega)] at hi1; exact hi1, oi, hol, fun e he heb => ?_⟩
          have h2 := hi2 e he heb
          have h3 := List.all_eq_true.1 hb i (List.mem_range.2 (by simp; omega))
          simp only [hoi] at h3
          have h4 : e.on < i := by simpa using Array.all_eq_true_iff_forall_mem.1 h3 e he
          rwa [app_get _ _ _ _ (by omega)] at h2
        have hq := h.2 i hi'
        unfold qOp at hq
        simp only [hol] at hq
        have hgi := hg oi (List.mem_of_getElem? (show ops[i]? = some oi by simpa using hoi))
        rw [if_pos (by unfold Region.wanted; rw [hgi])] at hq
        refine wpOp_of hoi hgi ?_
        refine Oper.wp_of_quiet hw (fun a' w' hw' h' => ?_) hq
        rw [app_set _ _ _ (by omega)]
        exact ih _ a' w' (by simpa using hsz) (by rw [← app_set _ _ _ (by omega)]; exact closed_set hc hi) hw' h'

/-- THE RULE. -/
theorem wp_region_tail {id : Nat} {a : Act} {w : World} (n : Nat) (hn : n < ops.length) (hm : P.follows .mixedOrders = true) (hg : ops.all (fun o => o.guard.isNone) = true)
    (hb : backB ops.toArray = true) (hs : sinkAtB n ops = true) (hch : chainB n ops = true) (hB : Region.lexB .any (ops.take n).toArray = true)
    (h : ∀ l r, l = ops.take n → r = ops.drop n → wpQuiet P l.toArray (fun w' => ∃ x : Sub w, w' = x.val) (fun a' => ∀ w', (∃ x : Sub w, w' = x.val) → wpList P ops.toArray Q r a' w') l a) : (Code.region id ops.toArray true).wp P Q a w := by
  simp only [Region.lexB, Bool.and_eq_true] at hB
  refine wp_region_any hm ?_
  have hlen : (ops.take n).length = n := by simp; omega
  have h1 := wpAnyQ_lex (P := P) (C := fun w' => ∃ x : Sub w, w' = x.val) (md := .any) hB.1 (ops.take n) 0 (Array.replicate n false) a (by simp) (by simpa [hlen] using hB.2) (h _ _ rfl rfl)
  rw [hlen] at h1
  have h2 := wpAny_pre (C := fun w' => ∃ x : Sub w, w' = x.val) (Q := Q) (ops.length - n) (by omega) (by omega) hb hs hch (fun x hx => by simpa using List.all_eq_true.1 hg x hx) (fun a w hw h => h w hw) n (Array.replicate n false) a { w with drawn := w.drawn + 1 } (by simp)
    (by
      intro j oj _ hj
      exfalso
      rw [Array.replicate_append_replicate] at hj
      simp [Array.getD] at hj)
    ⟨⟨_, (Go.RowKit.Below.refl _ _).drew⟩, rfl⟩ h1
  rw [Array.replicate_append_replicate, show n + (ops.length - n) = ops.length by omega] at h2
  simpa using h2
end
end Go.Proofs.Ytnbleebilmghcab
