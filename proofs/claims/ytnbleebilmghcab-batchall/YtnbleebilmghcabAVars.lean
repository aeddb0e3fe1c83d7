/- One more rule for statements whose order Go leaves open: 'x, y := f(..), g(..)', x and y variables that lie in memory: what is read and called, in the text's order; then the variables are there, each one by itself, and hold what was answered. -/
import Derived.Test.YtnbleebilmghcabALast
set_option linter.unnecessarySimpa false
set_option linter.unusedSimpArgs false
set_option linter.unusedVariables false
namespace Go.Proofs.Ytnbleebilmghcab
open Go Go.RowKit

theorem keep_below {W w1 : World} (hb : Below W.heap.size W w1) {p : Addr} {v : Value} (h : W.cell? p = some v) : w1.cell? p = some v :=
  (hb.cell (World.block_lt_of_cell? W p h)).trans h
theorem there_below {W w1 : World} (hb : Below W.heap.size W w1) {g o n : Nat} (hg : g < W.heap.size) (h : W.there g o n) : w1.there g o n := fun j hj => by
  rw [hb.cell (p := ⟨g, o + j, none⟩) hg, hb.frozen (p := ⟨g, o + j, none⟩) hg]; exact h j hj
theorem range_below {W w1 : World} (hb : Below W.heap.size W w1) {g o : Nat} {cs : List Value} (hg : g < W.heap.size) (h : W.rangeAt g o cs) : w1.rangeAt g o cs := fun j v hv => by
  rw [hb.cell (p := ⟨g, o + j, none⟩) hg]; exact h j v hv
theorem below_setCells {B : Nat} {w0 : World} (b : Nat) (hb : B ≤ b) : ∀ (vs : List Value) (o : Nat) (w : World), Below B w0 w → Below B w0 (w.setCells b o vs)
  | [], _, _, h => h
  | v :: r, o, _, h => below_setCells b hb r (o + 1) _ (h.setCell (p := ⟨b, o, none⟩) hb v)
theorem size_setCells (b : Nat) : ∀ (vs : List Value) (o : Nat) (w : World), (w.setCells b o vs).heap.size = w.heap.size
  | [], _, _ => rfl
  | v :: r, o, w => by show ((w.setCell _ v).setCells b (o + 1) r).heap.size = _; rw [size_setCells b r]; simp

/-- The variables that are made ('l') lie apart; those that are stored ('st') hold what is stored. -/
structure VW (w0 : World) (m : Nat) (sz : Nat → Nat) (cs : Nat → List Value) (l st : Nat → Bool) (v : Nat → Value) (g : Nat → Nat) (w : World) : Prop where
  bel : Below w0.heap.size w0 w
  own : ∀ k, k < m → l k = true → v k = .pointer (some ⟨g k, 0, none⟩) ∧ w0.heap.size ≤ g k ∧ g k < w.heap.size ∧ w.there (g k) 0 (sz k)
  ne : ∀ j k, j < m → k < m → l j = true → l k = true → j ≠ k → g j ≠ g k
  has : ∀ k, k < m → st k = true → l k = true ∧ w.rangeAt (g k) 0 (cs k)

section
variable {w0 : World} {m : Nat} {sz : Nat → Nat} {cs : Nat → List Value} {l st l' st' : Nat → Bool} {v v' : Nat → Value} {g : Nat → Nat} {w w1 : World}
theorem VW.congr (h : VW w0 m sz cs l st v g w) (hl : ∀ k, k < m → l' k = l k) (hst : ∀ k, k < m → st' k = st k) (hv : ∀ k, k < m → v' k = v k) : VW w0 m sz cs l' st' v' g w :=
  ⟨h.bel, fun k hk e => by rw [hv k hk]; exact h.own k hk (by rw [← hl k hk]; exact e),
    fun j k hj hk e1 e2 => h.ne j k hj hk (by rw [← hl j hj]; exact e1) (by rw [← hl k hk]; exact e2), fun k hk e => by rw [hl k hk]; exact h.has k hk (by rw [← hst k hk]; exact e)⟩
theorem VW.below (h : VW w0 m sz cs l st v g w) (hb : Below w.heap.size w w1) : VW w0 m sz cs l st v g w1 :=
  ⟨h.bel.trans (hb.mono h.bel.size),
    fun k hk e => by obtain ⟨h1, h2, h3, h4⟩ := h.own k hk e; exact ⟨h1, h2, Nat.lt_of_lt_of_le h3 hb.size, there_below hb h3 h4⟩,
    h.ne, fun k hk e => ⟨(h.has k hk e).1, range_below hb (h.own k hk (h.has k hk e).1).2.2.1 (h.has k hk e).2⟩⟩
theorem VW.alloc (h : VW w0 m sz cs l st v g w) (k : Nat) (hl : l k = false) (o : Obj) (ho : (w.alloc o).there w.heap.size 0 (sz k)) :
    VW w0 m sz cs (fun j => if j = k then true else l j) st (fun j => if j = k then .pointer (some ⟨w.heap.size, 0, none⟩) else v j) (fun j => if j = k then w.heap.size else g j) (w.alloc o) := by
  have hb : Below w.heap.size w (w.alloc o) := (Below.refl _ _).alloc (Nat.le_refl _) _
  refine ⟨h.bel.trans (hb.mono h.bel.size), fun j hj e => ?_, fun i j hi hj e1 e2 hne => ?_, fun j hj e => ?_⟩
  · by_cases hk : j = k
    · subst hk
      simp only [if_true]
      exact ⟨trivial, h.bel.size, by simp, ho⟩
    · simp only [hk, if_false] at e ⊢
      obtain ⟨h1, h2, h3, h4⟩ := h.own j hj e
      exact ⟨h1, h2, by simp; omega, there_below hb h3 h4⟩
  · by_cases hik : i = k <;> by_cases hjk : j = k
    · omega
    · simp only [hik, hjk, if_true, if_false] at e2 ⊢
      have := (h.own j hj e2).2.2.1; omega
    · simp only [hik, hjk, if_true, if_false] at e1 ⊢
      have := (h.own i hi e1).2.2.1; omega
    · simp only [hik, hjk, if_false] at e1 e2 ⊢
      exact h.ne i j hi hj e1 e2 hne
  · have h1 := h.has j hj e
    have hjk : j ≠ k := fun e' => by rw [e', hl] at h1; exact absurd h1.1 (by simp)
    simp only [hjk, if_false]
    exact ⟨h1.1, range_below hb (h.own j hj h1.1).2.2.1 h1.2⟩
theorem VW.store (h : VW w0 m sz cs l st v g w) (k : Nat) (hk : k < m) (hl : l k = true) (hlen : (cs k).length = sz k) :
    VW w0 m sz cs l (fun j => if j = k then true else st j) v g (w.setCells (g k) 0 (cs k)) := by
  obtain ⟨p1, p2, p3, p4⟩ := h.own k hk hl
  refine ⟨below_setCells _ (by omega) _ _ _ h.bel, fun j hj e => ?_, h.ne, fun j hj e => ?_⟩
  · obtain ⟨h1, h2, h3, h4⟩ := h.own j hj e
    exact ⟨h1, h2, by rw [size_setCells]; exact h3, World.there_setCells h4 _ _ _⟩
  · by_cases hjk : j = k
    · subst hjk
      exact ⟨hl, World.rangeAt_setCells_same _ _ _ _ (by rw [hlen]; exact p4)⟩
    · simp only [hjk, if_false] at e
      have h1 := h.has j hj e
      exact ⟨h1.1, World.rangeAt_setCells_apart h1.2 _ _ _ (.inl (h.ne j k hj hk h1.1 hl hjk))⟩
end

def tmpsOf (o : Oper) : List Tmp := o.op.operands.toList.filterMap fun | .tmp t => some t | _ => none
/-- An operation looks at what earlier ones that it waits for have left, or at what was there. -/
def ssaB (ops : List Oper) : Bool := (List.range ops.length).all fun j => match ops[j]? with
  | none => true
  | some o => (tmpsOf o).all fun t => (List.range ops.length).all fun i => match ops[i]? with
    | none => true
    | some p => p.dst != some t || (decide (i < j) && o.after.any fun e => decide (e.on = i) && Region.binds .any e)
def dstB (ops : List Oper) : Bool := (List.range ops.length).all fun j => (List.range j).all fun i => match ops[i]?, ops[j]? with
  | some p, some q => p.dst.isNone || p.dst != q.dst
  | _, _ => true
theorem ssa_spec {ops : List Oper} (h : ssaB ops = true) {i j : Nat} {o p : Oper} (hj : ops[j]? = some o) (hi : ops[i]? = some p) {t : Tmp} (ht : .tmp t ∈ o.op.operands) (hp : p.dst = some t) :
    i < j ∧ ∃ e ∈ o.after, e.on = i ∧ Region.binds .any e = true := by
  have hjl : j < ops.length := (List.getElem?_eq_some_iff.1 hj).1
  have hil : i < ops.length := (List.getElem?_eq_some_iff.1 hi).1
  have h1 := List.all_eq_true.1 h j (List.mem_range.2 hjl)
  simp only [hj] at h1
  have h2 := List.all_eq_true.1 h1 t (List.mem_filterMap.2 ⟨.tmp t, by simpa using ht, rfl⟩)
  have h3 := List.all_eq_true.1 h2 i (List.mem_range.2 hil)
  simp only [hi, hp, bne_self_eq_false, Bool.false_or, Bool.and_eq_true, decide_eq_true_eq] at h3
  obtain ⟨k, hk, he⟩ := Array.any_eq_true.1 h3.2
  rw [Bool.and_eq_true] at he
  exact ⟨h3.1, o.after[k], by simp, of_decide_eq_true he.1, he.2⟩
theorem dst_spec {ops : List Oper} (h : dstB ops = true) {i j : Nat} {o p : Oper} (hij : i ≠ j) (hi : ops[i]? = some p) (hj : ops[j]? = some o) {d : Tmp} (hp : p.dst = some d) : o.dst ≠ some d := by
  have key : ∀ {i j : Nat} {o p : Oper}, i < j → ops[i]? = some p → ops[j]? = some o → ∀ d, p.dst = some d → o.dst ≠ some d := by
    intro i j o p hij hi hj d hp ho
    have h1 := List.all_eq_true.1 h j (List.mem_range.2 (List.getElem?_eq_some_iff.1 hj).1)
    have h2 := List.all_eq_true.1 h1 i (List.mem_range.2 hij)
    simp [hi, hj, hp, ho] at h2
  rcases Nat.lt_or_gt_of_ne hij with h1 | h1
  · exact key h1 hi hj d hp
  · intro ho; exact key h1 hj hi d ho hp

theorem put_get (a : Act) (d t : Tmp) (v : Value) : (a.put (some d) v).tmps.getD t undef = if d = t ∧ d < a.tmps.size then v else a.tmps.getD t undef := by
  simp only [Act.put, Array.getD_eq_getD_getElem?, Array.getElem?_setIfInBounds]
  by_cases h : d = t
  · subst h
    by_cases h2 : d < a.tmps.size
    · simp [h2]
    · simp [h2]
  · simp [h]
theorem put_size (a : Act) (x : Option Tmp) (v : Value) : (a.put x v).tmps.size = a.tmps.size := by cases x <;> simp [Act.put]
theorem put_defs (a : Act) (x : Option Tmp) (v : Value) : (a.put x v).defers = a.defers := by cases x <;> rfl

/-- What the walk in the text's order leaves alone. -/
theorem quiet_keep {P : Program} {ops : Array Oper} {C : World → Prop} {af : Act} : ∀ (l : List Oper) (a : Act), (∀ o ∈ l, o.guard = none) → wpQuiet P ops C (fun a' => a' = af) l a →
    a.tmps.size = af.tmps.size ∧ a.defers = af.defers ∧ ∀ t, (∀ o ∈ l, o.dst ≠ some t) → a.tmps.getD t undef = af.tmps.getD t undef
  | [], a, _, h => by obtain rfl : a = af := h; exact ⟨rfl, rfl, fun _ _ => rfl⟩
  | o :: l, a, hg, h => by
    unfold wpQuiet at h
    rw [if_pos (by unfold Region.wanted; rw [hg o (by simp)])] at h
    obtain ⟨v, _, h2⟩ := h
    obtain ⟨h3, h4, h5⟩ := quiet_keep l _ (fun x hx => hg x (by simp [hx])) h2
    rw [put_size] at h3
    rw [put_defs] at h4
    refine ⟨h3, h4, fun t ht => ?_⟩
    rw [← h5 t (fun x hx => ht x (by simp [hx]))]
    cases hd : o.dst with
    | none => rfl
    | some d =>
      have : d ≠ t := fun e => ht o (by simp) (by rw [hd, e])
      rw [put_get, if_neg (fun e => this e.1)]

/-- What each operation of it answers, asked in the frame at the end. -/
theorem quiet_ssa {P : Program} {ops : Array Oper} {C : World → Prop} {af : Act} (hC : ∃ w, C w) : ∀ (l : List Oper) (a : Act), (∀ o ∈ l, o.guard = none) → (∀ o ∈ l, ∀ cs b, o.op ≠ .select cs b) → wpQuiet P ops C (fun a' => a' = af) l a →
    (∀ (i j : Nat) (o p : Oper), l[i]? = some p → l[j]? = some o → ∀ t : Tmp, Operand.tmp t ∈ o.op.operands → p.dst = some t → i < j) →
    (∀ (i j : Nat) (o p : Oper), i ≠ j → l[i]? = some p → l[j]? = some o → ∀ d, p.dst = some d → o.dst ≠ some d) →
    ∀ (j : Nat) (o : Oper), l[j]? = some o → ∃ v, (∀ w, C w → o.quietAt P af C w v) ∧ ∀ d, o.dst = some d → d < af.tmps.size → af.tmps.getD d undef = v
  | [], _, _, _, _, _, _, j, o, hj => by simp at hj
  | o :: l, a, hg, hsel, h, hs, hd, j, q, hj => by
    have hk := quiet_keep (o :: l) a hg h
    unfold wpQuiet at h
    rw [if_pos (by unfold Region.wanted; rw [hg o (by simp)])] at h
    obtain ⟨v, h1, h2⟩ := h
    cases j with
    | zero =>
      obtain rfl : o = q := by simpa using hj
      refine ⟨v, fun w hw => ?_, fun d hdd hlt => ?_⟩
      · have := h1 w hw
        unfold Oper.quietAt at this ⊢
        rwa [execOp_congr (ρ := af.eval) (ρ' := a.eval) o (hsel o (by simp)) (fun x hx => ?_)]
        cases x with
        | tmp t =>
          show af.tmps.getD t undef = a.tmps.getD t undef
          refine (hk.2.2 t (fun p hp hpd => ?_)).symm
          obtain ⟨i, hi⟩ := List.getElem?_of_mem hp
          exact absurd (hs i 0 o p hi (by simp) t hx hpd) (by omega)
        | _ => rfl
      · obtain ⟨h3, _, h5⟩ := quiet_keep l _ (fun x hx => hg x (by simp [hx])) h2
        rw [← h5 d (fun p hp hpd => ?_), hdd, put_get, if_pos ⟨rfl, by rw [put_size] at h3; rw [h3]; exact hlt⟩]
        obtain ⟨i, hi⟩ := List.getElem?_of_mem hp
        exact hd 0 (i + 1) p o (by omega) (by simp) (by simpa using hi) d hdd hpd
    | succ j =>
      exact quiet_ssa hC l _ (fun x hx => hg x (by simp [hx])) (fun x hx => hsel x (by simp [hx])) h2 (fun i j o p hi hj t ht hp => by
        have := hs (i + 1) (j + 1) o p (by simpa using hi) (by simpa using hj) t ht hp
        omega) (fun i j o p hij hi hj d hp => hd (i + 1) (j + 1) o p (by omega) (by simpa using hi) (by simpa using hj) d hp) j q (by simpa using hj)

/-- The frame, with the variables' places in it. -/
def putAll (s : Nat → Tmp) (v : Nat → Value) (a : Act) : Nat → Act
  | 0 => a
  | m + 1 => (putAll s v a m).put (some (s m)) (v m)
theorem putAll_size (s : Nat → Tmp) (v : Nat → Value) (a : Act) : ∀ m, (putAll s v a m).tmps.size = a.tmps.size
  | 0 => rfl
  | m + 1 => by show ((putAll s v a m).put _ _).tmps.size = _; rw [put_size, putAll_size s v a m]
theorem putAll_defs (s : Nat → Tmp) (v : Nat → Value) (a : Act) : ∀ m, (putAll s v a m).defers = a.defers
  | 0 => rfl
  | m + 1 => by show ((putAll s v a m).put _ _).defers = _; rw [put_defs, putAll_defs s v a m]
theorem putAll_out (s : Nat → Tmp) (v : Nat → Value) (a : Act) (t : Tmp) : ∀ m, (∀ k, k < m → s k ≠ t) → (putAll s v a m).tmps.getD t undef = a.tmps.getD t undef
  | 0, _ => rfl
  | m + 1, h => by
    show ((putAll s v a m).put _ _).tmps.getD t undef = _
    rw [put_get, if_neg (fun e => h m (by omega) e.1)]
    exact putAll_out s v a t m (fun k hk => h k (by omega))
theorem putAll_in (s : Nat → Tmp) (v : Nat → Value) (a : Act) (k : Nat) (hlt : s k < a.tmps.size) : ∀ m, k < m → (∀ i j, i < m → j < m → i ≠ j → s i ≠ s j) → (putAll s v a m).tmps.getD (s k) undef = v k
  | m + 1, hk, h => by
    show ((putAll s v a m).put _ _).tmps.getD (s k) undef = _
    by_cases e : k = m
    · subst e; rw [put_get, if_pos ⟨rfl, by rw [putAll_size]; exact hlt⟩]
    · rw [put_get, if_neg (fun e' => h m k (by omega) (by omega) (Ne.symm e) e'.1)]
      exact putAll_in s v a k hlt m (by omega) (fun i j hi hj => h i j (by omega) (by omega))

/-- The form of the operations behind those that read: the variables are made, then stored. -/
structure VarsForm (P : Program) (ops : List Oper) (n m : Nat) (s : Nat → Tmp) (T : Nat → TypeId) (y : Nat → Operand) (z : Nat → Array Value) (sz : Nat → Nat) : Prop where
  len : ops.length = n + m + m
  al : ∀ k, k < m → ∃ o, ops[n + k]? = some o ∧ o.op = .alloc (T k) ∧ o.dst = some (s k)
  st : ∀ k, k < m → ∃ o, ops[n + m + k]? = some o ∧ o.op = .store (T k) (.tmp (s k)) (y k) ∧ o.dst = none
  run : ∀ k, k < m → ∀ o : Oper, o.op = .alloc (T k) → ∀ (a : Act) (w : World) (K : Act → World → Prop) (Q : Exit → Act → World → Prop), K (a.put o.dst (.pointer (some ⟨w.heap.size, 0, none⟩))) (w.alloc (.cells (z k) (T k))) → o.wp P a w K Q
  size : ∀ k, k < m → (z k).size = sz k
  info : ∀ k, k < m → (P.info? (T k)).map (·.size) = some (sz k)

theorem there_cells (w : World) (z : Array Value) (t : TypeId) : (w.alloc (.cells z t)).there w.heap.size 0 z.size := fun j hj => by
  simp [go_sem, hj]

/-- The frame while the order is drawn. -/
structure FI (ops : List Oper) (n m : Nat) (s : Nat → Tmp) (af : Act) (L : Nat → Bool) (v : Nat → Value) (ac : Act) : Prop where
  size : ac.tmps.size = af.tmps.size
  defs : ac.defers = af.defers
  out : ∀ t, (∀ o ∈ ops, o.dst ≠ some t) → ac.tmps.getD t undef = af.tmps.getD t undef
  qs : ∀ (i : Nat) (o : Oper) (d : Tmp), i < n → ops[i]? = some o → L i = true → o.dst = some d → ac.tmps.getD d undef = af.tmps.getD d undef
  vs : ∀ k, k < m → L (n + k) = true → ac.tmps.getD (s k) undef = v k

theorem FI.eval {ops : List Oper} {n m : Nat} {s : Nat → Tmp} {T : Nat → TypeId} {y : Nat → Operand} {z : Nat → Array Value} {sz : Nat → Nat} {P : Program} (hf : VarsForm P ops n m s T y z sz) {af : Act} {L : Nat → Bool} {v : Nat → Value} {ac : Act}
    (h : FI ops n m s af L v ac) (hssa : ssaB ops = true) {j : Nat} {o : Oper} (hj : ops[j]? = some o) (he : ∀ e ∈ o.after, Region.binds .any e = true → L e.on = true)
    {x : Operand} (hx : x ∈ o.op.operands) (hxs : ∀ k, k < m → x ≠ .tmp (s k)) : ac.eval x = af.eval x := by
  cases x with
  | tmp t =>
    show ac.tmps.getD t undef = af.tmps.getD t undef
    by_cases hex : ∃ p ∈ ops, p.dst = some t
    · obtain ⟨p, hp, hpd⟩ := hex
      obtain ⟨i, hi⟩ := List.getElem?_of_mem hp
      obtain ⟨hij, e, hea, hei, heb⟩ := ssa_spec hssa hj hi hx hpd
      have hli : L i = true := by rw [← hei]; exact he e hea heb
      have hil : i < ops.length := (List.getElem?_eq_some_iff.1 hi).1
      rw [hf.len] at hil
      by_cases hin : i < n
      · exact h.qs i p t hin hi hli hpd
      · exfalso
        by_cases him : i < n + m
        · obtain ⟨q, hq, _, hqd⟩ := hf.al (i - n) (by omega)
          rw [show n + (i - n) = i by omega, hi] at hq
          obtain rfl := Option.some.inj hq
          rw [hpd] at hqd
          exact hxs (i - n) (by omega) (by rw [Option.some.inj hqd])
        · obtain ⟨q, hq, _, hqd⟩ := hf.st (i - (n + m)) (by omega)
          rw [show n + m + (i - (n + m)) = i by omega, hi] at hq
          obtain rfl := Option.some.inj hq
          rw [hpd] at hqd
          cases hqd
    · exact h.out t (fun o ho hd => hex ⟨o, ho, hd⟩)
  | _ => rfl

/-- A frame with one more value in it. -/
theorem FI.put {ops : List Oper} {n m : Nat} {s : Nat → Tmp} {T : Nat → TypeId} {y : Nat → Operand} {z : Nat → Array Value} {sz : Nat → Nat} {P : Program} (hf : VarsForm P ops n m s T y z sz) {af : Act} {L : Nat → Bool} {v : Nat → Value} {ac : Act}
    (h : FI ops n m s af L v ac) (hdst : dstB ops = true) {j : Nat} {o : Oper} (hj : ops[j]? = some o) (u : Value) (v' : Nat → Value)
    (hq : ∀ d, j < n → o.dst = some d → d < af.tmps.size → af.tmps.getD d undef = u)
    (hv : ∀ k, k < m → j ≠ n + k → v' k = v k) (hv2 : ∀ k, k < m → j = n + k → v' k = u ∧ s k < af.tmps.size) : FI ops n m s af (upd L j) v' (ac.put o.dst u) := by
  refine ⟨by rw [put_size]; exact h.size, by rw [put_defs]; exact h.defs, fun t ht => ?_, fun i p d hi hp hL hd => ?_, fun k hk hL => ?_⟩
  · rw [← h.out t ht]
    cases ho : o.dst with
    | none => rfl
    | some d =>
      have : d ≠ t := fun e => ht o (List.mem_of_getElem? hj) (by rw [ho, e])
      rw [put_get, if_neg (fun e => this e.1)]
  · by_cases hij : i = j
    · subst hij
      rw [hp] at hj
      obtain rfl := Option.some.inj hj
      rw [hd, put_get]
      by_cases hlt : d < af.tmps.size
      · rw [if_pos ⟨rfl, by rw [h.size]; exact hlt⟩, hq d hi hd hlt]
      · rw [if_neg (fun e => hlt (by rw [← h.size]; exact e.2))]
        simp [Array.getD, hlt, h.size]
    · rw [← h.qs i p d hi hp (by unfold upd at hL; rwa [if_neg hij] at hL) hd]
      cases ho : o.dst with
      | none => rfl
      | some d' =>
        have : d' ≠ d := fun e => dst_spec hdst hij hp hj hd (by rw [ho, e])
        rw [put_get, if_neg (fun e => this e.1)]
  · obtain ⟨q, hq1, _, hq3⟩ := hf.al k hk
    by_cases hij : j = n + k
    · subst hij
      rw [hj] at hq1
      obtain rfl := Option.some.inj hq1
      obtain ⟨e1, e2⟩ := hv2 k hk rfl
      rw [hq3, put_get, if_pos ⟨rfl, by rw [h.size]; exact e2⟩, e1]
    · rw [hv k hk hij, ← h.vs k hk (by unfold upd at hL; rwa [if_neg (Ne.symm hij)] at hL)]
      cases ho : o.dst with
      | none => rfl
      | some d' =>
        have : d' ≠ s k := fun e => dst_spec hdst hij hj hq1 ho (by rw [hq3, e])
        rw [put_get, if_neg (fun e => this e.1)]

/-- THE RULE. -/
theorem wp_region_vars {P : Program} {id : Nat} {Q : Exit → Act → World → Prop} {a : Act} {w : World} {ops : List Oper} (n m : Nat) {s : Nat → Tmp} {T : Nat → TypeId} {y : Nat → Operand} {z : Nat → Array Value} {sz : Nat → Nat} (cs : Nat → List Value)
    (hf : VarsForm P ops n m s T y z sz) (hm : P.follows .mixedOrders = true) (hb : backB ops.toArray = true) (hssa : ssaB ops = true) (hdst : dstB ops = true) (hgd : ops.all (fun o => o.guard.isNone) = true)
    (hsel : Region.noSelect ops.toArray = true) (hy : ∀ k, k < m → ∀ k', k' < m → y k ≠ .tmp (s k')) (hsb : ∀ k, k < m → s k < a.tmps.size) (af : Act)
    (hq : ∀ w1, Below w.heap.size w w1 → wpQuiet P ops.toArray (fun w' => ∃ x : Sub w1, w' = x.val) (fun a' => a' = af) (ops.take n) a)
    (hcs : ∀ k, k < m → af.eval (y k) = .agg (cs k).toArray ∧ (cs k).length = sz k ∧ (cs k).toArray.all (·.oneCell') = true)
    (hend : ∀ v g w1, VW w m sz cs (fun _ => true) (fun _ => true) v g w1 → Q .normal (putAll s v af m) w1) : (Code.region id ops.toArray true).wp P Q a w := by
  have hgn : ∀ o ∈ ops, o.guard = none := fun o ho => by simpa using List.all_eq_true.1 hgd o ho
  have hk0 := quiet_keep (ops.take n) a (fun o ho => hgn o (List.mem_of_mem_take ho)) (hq w (Below.refl _ _))
  have hsb' : ∀ k, k < m → s k < af.tmps.size := fun k hk => by rw [← hk0.1]; exact hsb k hk
  have hlen := hf.len
  refine wp_region_inv hm (fun L ac w1 => ∃ v g, FI ops n m s af L v ac ∧ VW w m sz cs (fun k => L (n + k)) (fun k => L (n + m + k)) v g w1) hb ?_ ?_ ?_
  · refine ⟨fun _ => undef, fun _ => 0, ⟨hk0.1, hk0.2.1, fun t ht => hk0.2.2 t (fun o ho => ht o (List.mem_of_mem_take ho)), ?_, ?_⟩, ⟨(Below.refl _ _).drew, ?_, ?_, ?_⟩⟩ <;> (intros; simp_all)
  · rintro L ac w1 i o ⟨v, g, hF, hW⟩ ho0 hL he
    have ho : ops[i]? = some o := by simpa using ho0
    have hil : i < ops.length := (List.getElem?_eq_some_iff.1 ho).1
    have hmem := List.mem_of_getElem? ho
    refine wpOp_of ho0 (hgn o hmem) ?_
    by_cases hin : i < n
    · have hoi : (ops.take n)[i]? = some o := by rw [List.getElem?_take, if_pos hin]; exact ho
      obtain ⟨u, hu1, hu2⟩ := quiet_ssa (P := P) (ops := ops.toArray) (C := fun w' => ∃ x : Sub w1, w' = x.val) (af := af) ⟨w1, ⟨w1, Below.refl _ _⟩, rfl⟩ (ops.take n) a (fun o ho => hgn o (List.mem_of_mem_take ho))
        (fun o ho cs b => by
          obtain ⟨j, hj⟩ := List.getElem?_of_mem (List.mem_of_mem_take ho)
          exact Region.noSelect_spec hsel j o cs b (by simpa using hj)) (hq w1 hW.bel)
        (fun i j o p hi hj t ht hp => by
          rw [List.getElem?_take] at hi hj
          split at hi <;> split at hj <;> simp_all
          exact (ssa_spec hssa hj hi (by simpa using ht) hp).1)
        (fun i j o p hij hi hj d hp => by
          rw [List.getElem?_take] at hi hj
          split at hi <;> split at hj <;> simp_all
          exact dst_spec hdst hij hi hj hp) i o hoi
      have hqt : o.quiet P ac (fun w' => ∃ x : Sub w1, w' = x.val) (fun a' => a' = ac.put o.dst u) := by
        refine ⟨u, fun w2 hw2 => ?_, rfl⟩
        have := hu1 w2 hw2
        unfold Oper.quietAt at this ⊢
        rwa [execOp_congr (ρ := ac.eval) (ρ' := af.eval) o (fun cs b => Region.noSelect_spec hsel i o cs b ho0) (fun x hx => ?_)]
        refine hF.eval hf hssa ho he hx (fun k hk hxk => ?_)
        subst hxk
        obtain ⟨q, hq1, _, hq3⟩ := hf.al k hk
        have := (ssa_spec hssa ho hq1 hx hq3).1
        omega
      refine Oper.wp_of_quiet (C := fun w' => ∃ x : Sub w1, w' = x.val) ⟨⟨w1, Below.refl _ _⟩, rfl⟩ (fun a' w2 hw2 ha' => ?_) hqt
      obtain ⟨x, rfl⟩ := hw2
      subst ha'
      refine ⟨v, g, hF.put hf hdst ho u v (fun d _ hd hlt => hu2 d hd hlt) (fun _ _ _ => rfl) (fun k _ h => by omega), (hW.below x.bel).congr (fun k _ => if_neg (by omega)) (fun k _ => if_neg (by omega)) (fun _ _ => rfl)⟩
    · by_cases him : i < n + m
      · obtain ⟨k, rfl⟩ : ∃ k, i = n + k := ⟨i - n, by omega⟩
        obtain ⟨q, hq1, hq2, hq3⟩ := hf.al k (by omega)
        rw [ho] at hq1
        obtain rfl := Option.some.inj hq1
        refine hf.run k (by omega) o hq2 ac w1 _ _ ?_
        have hA := hW.alloc k hL (.cells (z k) (T k)) (by rw [← hf.size k (by omega)]; exact there_cells _ _ _)
        refine ⟨_, _, hF.put hf hdst ho _ (fun j => if j = k then .pointer (some ⟨w1.heap.size, 0, none⟩) else v j) (fun d h => by omega) (fun j _ h => if_neg (by omega)) (fun j hj h => ?_), hA.congr (fun j _ => ?_) (fun j _ => if_neg (by omega)) (fun _ _ => rfl)⟩
        · obtain rfl : j = k := by omega
          exact ⟨if_pos rfl, hsb' j hj⟩
        · simp only [upd, Nat.add_left_cancel_iff]
      · obtain ⟨k, rfl⟩ : ∃ k, i = n + m + k := ⟨i - (n + m), by omega⟩
        have hkm : k < m := by omega
        obtain ⟨q, hq1, hq2, hq3⟩ := hf.st k hkm
        rw [ho] at hq1
        obtain rfl := Option.some.inj hq1
        obtain ⟨c1, c2, c3⟩ := hcs k hkm
        obtain ⟨qa, ha1, _, ha3⟩ := hf.al k hkm
        have hla : L (n + k) = true := by
          obtain ⟨_, e, hea, hei, heb⟩ := ssa_spec hssa ho ha1 (by rw [hq2]; simp [Op.operands]) ha3
          rw [← hei]; exact he e hea heb
        obtain ⟨p1, p2, p3, p4⟩ := hW.own k hkm hla
        refine wp_store_mid (T k) (.tmp (s k)) (y k) hq2 (g k) 0 (cs k).toArray ?_ ?_ (by simpa [c2] using p4) (by rw [hf.info k hkm]; simp [c2]) c3 ?_
        · show ac.tmps.getD (s k) undef = _
          rw [hF.vs k hkm hla, p1]
        · rw [hF.eval hf hssa ho he (by rw [hq2]; simp [Op.operands]) (fun k' hk' => hy k hkm k' hk'), c1]
        · refine ⟨v, g, hF.put hf hdst ho _ v (fun d h => by omega) (fun _ _ _ => rfl) (fun j _ h => by omega), ?_⟩
          have hS := hW.store k hkm hla c2
          refine VW.congr (l := fun j => L (n + j)) (st := fun j => if j = k then true else L (n + m + j)) (v := v) hS (fun j _ => if_neg (by omega)) (fun j _ => ?_) (fun _ _ => rfl)
          simp only [upd, Nat.add_left_cancel_iff]
  · rintro L ac w1 ⟨v, g, hF, hW⟩ hall
    have hL : ∀ j, j < n + m + m → L j = true := fun j hj => hall j (by simpa [hlen] using hj)
    have e : ac = putAll s v af m := by
      have hget : ∀ t, ac.tmps.getD t undef = (putAll s v af m).tmps.getD t undef := fun t => by
        by_cases hex : ∃ k, k < m ∧ s k = t
        · obtain ⟨k, hk, rfl⟩ := hex
          rw [hF.vs k hk (hL _ (by omega)), putAll_in s v af k (hsb' k hk) m hk (fun i j hi hj hij e => ?_)]
          obtain ⟨q, hq1, _, hq3⟩ := hf.al i hi
          obtain ⟨r, hr1, _, hr3⟩ := hf.al j hj
          exact dst_spec hdst (show n + i ≠ n + j by omega) hq1 hr1 hq3 (by rw [hr3, e])
        · rw [putAll_out s v af t m (fun k hk e => hex ⟨k, hk, e⟩)]
          by_cases hop : ∃ p ∈ ops, p.dst = some t
          · obtain ⟨p, hp, hpd⟩ := hop
            obtain ⟨i, hi⟩ := List.getElem?_of_mem hp
            have hil : i < ops.length := (List.getElem?_eq_some_iff.1 hi).1
            by_cases hin : i < n
            · exact hF.qs i p t hin hi (hL _ (by omega)) hpd
            · exfalso
              by_cases him : i < n + m
              · obtain ⟨q, hq1, _, hq3⟩ := hf.al (i - n) (by omega)
                rw [show n + (i - n) = i by omega, hi] at hq1
                obtain rfl := Option.some.inj hq1
                rw [hpd] at hq3
                exact hex ⟨i - n, by omega, (Option.some.inj hq3).symm⟩
              · obtain ⟨q, hq1, _, hq3⟩ := hf.st (i - (n + m)) (by omega)
                rw [show n + m + (i - (n + m)) = i by omega, hi] at hq1
                obtain rfl := Option.some.inj hq1
                rw [hpd] at hq3
                cases hq3
          · exact hF.out t (fun o ho hd => hop ⟨o, ho, hd⟩)
      have hsz : ac.tmps.size = (putAll s v af m).tmps.size := by rw [putAll_size]; exact hF.size
      have htm : ac.tmps = (putAll s v af m).tmps := by
        apply Array.ext hsz
        intro i h1 h2
        have := hget i
        simpa [Array.getD, h1, h2] using this
      have hdf : ac.defers = (putAll s v af m).defers := by rw [putAll_defs]; exact hF.defs
      cases ac
      cases hp : putAll s v af m
      simp_all
    rw [e]
    exact hend v g w1 (hW.congr (fun k hk => (hL _ (by omega)).symm) (fun k hk => (hL _ (by omega)).symm) (fun _ _ => rfl))
end Go.Proofs.Ytnbleebilmghcab
