/- Worlds as lists; a row stored into a row of one's own; what the closures of Put, Drop and Kill answer. -/
import Derived.Test.YtmbjghjpofcdpaaPBox
set_option linter.unusedVariables false
set_option linter.unusedSimpArgs false
set_option linter.unnecessarySimpa false
namespace Go.Proofs.Ytmbjghjpofcdpaa
open Go Go.RowKit
attribute [local go_sem ↓] Go.wp_at_zero Go.wp_at_succ

structure Wd where
  rows : List RowI
  gens : List Int
def emptyW : Wd := ⟨[], []⟩
def wrongW (X : Wd) : Int × Int := plainF (fun j => X.rows.getD j dR) X.rows.length X.gens.length (fun j => X.gens.getD j 0)
def findW (X : Wd) (i g : Int) : Int := fIx (fun j => X.rows.getD j dR) i g X.rows.length 0
/-- The value is this world. -/
structure WldAt (w : World) (A : Option Addr) (cap : Nat) (G : Option Addr) (gcap : Nat) (X : Wd) : Prop where
  rows : RowsL w A X.rows
  gens : IntsL w G X.gens
theorem WldAt.below {w w1 : World} {A : Option Addr} {cap : Nat} {G : Option Addr} {gcap : Nat} {X : Wd} (h : WldAt w A cap G gcap X) (hb : Below w.heap.size w w1) : WldAt w1 A cap G gcap X := ⟨h.rows.below hb, h.gens.below hb⟩
def wldV (A : Option Addr) (cap : Nat) (G : Option Addr) (gcap : Nat) (X : Wd) : Value := worldV A X.rows.length cap G X.gens.length gcap

/-- Cells stored one behind the other. -/
def setsL (xs : List Value) : Nat → List Value → List Value
  | _, [] => xs
  | o, v :: r => setsL (xs.set o v) (o + 1) r
theorem setsL_len : ∀ (vs : List Value) (xs : List Value) (o : Nat), (setsL xs o vs).length = xs.length
  | [], _, _ => rfl
  | v :: r, xs, o => by show (setsL (xs.set o v) (o + 1) r).length = _; rw [setsL_len r, List.length_set]
theorem setsL_get : ∀ (vs : List Value) (xs : List Value) (o i : Nat), (setsL xs o vs)[i]? = if o ≤ i ∧ i < o + vs.length ∧ i < xs.length then vs[i - o]? else xs[i]?
  | [], xs, o, i => by rw [if_neg (by simp; omega)]; rfl
  | v :: r, xs, o, i => by
    show (setsL (xs.set o v) (o + 1) r)[i]? = _
    rw [setsL_get r (xs.set o v) (o + 1) i, List.length_set]
    by_cases h1 : o + 1 ≤ i ∧ i < o + 1 + r.length ∧ i < xs.length
    · rw [if_pos h1, if_pos (by simp; omega), show i - o = (i - (o + 1)) + 1 by omega, List.getElem?_cons_succ]
    · rw [if_neg h1]
      by_cases h2 : o = i
      · subst h2
        by_cases h3 : o < xs.length
        · rw [List.getElem?_set_self h3, if_pos (by simp; omega), Nat.sub_self]; rfl
        · rw [if_neg (by omega), List.getElem?_eq_none (by simp; omega), List.getElem?_eq_none (by omega)]
      · rw [List.getElem?_set_ne h2, if_neg (by simp; omega)]
theorem own_sets {base : Nat} {e : TypeId} {size n g cap : Nat} : ∀ (vs : List Value) (o : Nat) (W : World) (xs : List Value), W.ownsRow base e size (.slice (some ⟨g, 0, none⟩) n cap) n xs → o + vs.length ≤ xs.length → (W.setCells g o vs).ownsRow base e size (.slice (some ⟨g, 0, none⟩) n cap) n (setsL xs o vs)
  | [], _, _, _, h, _ => h
  | v :: r, o, W, xs, h, hl => own_sets r (o + 1) _ _ (own_set h (by simp at hl; omega) v) (by rw [List.length_set]; simp at hl; omega)
theorem own_there {W : World} {base : Nat} {e : TypeId} {size n g cap : Nat} {xs : List Value} (h : W.ownsRow base e size (.slice (some ⟨g, 0, none⟩) n cap) n xs) (o k : Nat) (hk : o + k ≤ xs.length) : W.there g o k := fun j hj => by
  have hl : o + j < xs.length := by omega
  exact ⟨by rw [own_cell h (List.getElem?_eq_getElem hl)]; rfl, own_free h _⟩
theorem getD_setR (rows : List RowI) (k j : Nat) (r : RowI) (h : j < rows.length) : (rows.set k r).getD j dR = if j = k then r else rows.getD j dR := by
  by_cases e : j = k
  · subst e; rw [if_pos rfl, List.getD_eq_getElem?_getD, List.getElem?_set_self h]; rfl
  · rw [if_neg e, List.getD_eq_getElem?_getD, List.getElem?_set_ne (Ne.symm e), List.getD_eq_getElem?_getD]
theorem setsL_rows (rows : List RowI) (k : Nat) (r : RowI) (hk : k < rows.length) : setsL (cellsOfRows rows) (k * 11) (rowCells r) = cellsOfRows (rows.set k r) := by
  apply List.ext_getElem?
  intro i
  by_cases hi : i < rows.length * 11
  · have e : i = i / 11 * 11 + i % 11 := by omega
    rw [setsL_get, cellsOfRows_len]
    have h1 : (cellsOfRows (rows.set k r))[i]? = (rowCells ((rows.set k r).getD (i / 11) dR))[i % 11]? := by
      conv => lhs; rw [e]
      exact cellsOfRows_at _ _ _ (by rw [List.length_set]; omega) (by omega)
    have h2 : (cellsOfRows rows)[i]? = (rowCells (rows.getD (i / 11) dR))[i % 11]? := by
      conv => lhs; rw [e]
      exact cellsOfRows_at _ _ _ (by omega) (by omega)
    rw [h1, h2, getD_setR _ _ _ _ (by omega), rowCells_len]
    by_cases hh : i / 11 = k
    · rw [if_pos (by omega), if_pos hh]; congr 1; omega
    · rw [if_neg (by omega), if_neg hh]
  · rw [List.getElem?_eq_none (by rw [setsL_len, cellsOfRows_len]; omega), List.getElem?_eq_none (by rw [cellsOfRows_len, List.length_set]; omega)]

/-- A row with a part that is put; with one that is dropped. -/
def putR (x : RowI) (p n : Int) : RowI := ⟨x.ix, x.gen, bits .or .i64 x.has (bitI p), fun k => if k = p.toNat then n else x.v k⟩
def dropR (x : RowI) (p : Int) : RowI := ⟨x.ix, x.gen, bits .andNot .i64 x.has (bitI p), fun k => if k = p.toNat then 0 else x.v k⟩

set_option maxRecDepth 8000 in
set_option maxHeartbeats 400000 in
theorem kill1_any (x : RowI) (w : World) : Calls Try.prog 88 #[rowV x] w fun e w' => e = .returned (.tuple #[rowV dR, .bool false, .int .i64 0]) ∧ Below w.heap.size w w' := by
  unfold rowV dR
  go_enter Try.func88, Try.ntmps88
  go_wp2
  refine bodyPost_ret (v := .tuple #[.agg #[.int .i64 0, .int .i64 0, .int .i64 0, .int .i64 0, .int .i64 0, .int .i64 0, .int .i64 0, .int .i64 0, .int .i64 0, .int .i64 0, .int .i64 0], .bool false, .int .i64 0]) (by simp [results, Try.results88, go_sem]) rfl ⟨rfl, by go_grown⟩

theorem size3 : (Try.prog.info? 3).map (·.size) = some 1 := by kernel_rfl
theorem size61 : (Try.prog.info? 61).map (·.size) = some 11 := by kernel_rfl
theorem two_below (w : World) (o1 o2 : Obj) : Below w.heap.size w ((w.alloc o1).alloc o2) := ((Below.refl _ _).alloc (Nat.le_refl _) _).alloc (by simp) _
/-- What Put's closure answers. -/
def putC (x : RowI) (p n : Int) : RowI × Bool × Int := if partB p && valB n then (putR x p n, true, 0) else (dR, false, 3)
def dropC (x : RowI) (p : Int) : RowI × Bool × Int := if hasI x.has p then (dropR x p, true, 0) else (dR, false, 5)
def ansV (y : RowI × Bool × Int) : Value := .tuple #[rowV y.1, .bool y.2.1, .int .i64 y.2.2]

set_option maxRecDepth 100000 in
set_option maxHeartbeats 4000000 in
theorem put1_any (x : RowI) (p n : Int) (bp bn : Nat) (w : World) (h1 : w.cell? ⟨bp, 0, none⟩ = some (.int .i64 p)) (h2 : w.cell? ⟨bn, 0, none⟩ = some (.int .i64 n)) :
    Calls Try.prog 89 #[rowV x, .pointer (some ⟨bp, 0, none⟩), .pointer (some ⟨bn, 0, none⟩)] w fun e w' => e = .returned (ansV (putC x p n)) ∧ Below w.heap.size w w' := by
  have g1 : ∀ o1 o2 : Obj, ((w.alloc o1).alloc o2).cell? ⟨bp, 0, none⟩ = some (.int .i64 p) := fun o1 o2 => keep_below (two_below w o1 o2) h1
  have g2 : ∀ o1 o2 : Obj, ((w.alloc o1).alloc o2).cell? ⟨bn, 0, none⟩ = some (.int .i64 n) := fun o1 o2 => keep_below (two_below w o1 o2) h2
  have H1 := hide h1
  have H2 := hide h2
  clear h1 h2
  unfold putC ansV
  cases hp : partB p
  · unfold rowV dR
    simp only [Bool.false_and, Bool.false_eq_true, if_false]
    go_enter Try.func89, Try.ntmps89
    go_wp2_with (first
      | (go_at_call 17; refine (part_any _ _).mono ?_; rintro e w1 ⟨rfl, hw⟩; obtain rfl := hw.symm)
      | (go_at_call 18; refine (value_any _ _).mono ?_; rintro e w1 ⟨rfl, hw⟩; obtain rfl := hw.symm))
    refine bodyPost_ret (v := .tuple #[.agg #[.int .i64 0, .int .i64 0, .int .i64 0, .int .i64 0, .int .i64 0, .int .i64 0, .int .i64 0, .int .i64 0, .int .i64 0, .int .i64 0, .int .i64 0], .bool false, .int .i64 3]) (by simp [results, Try.results89, go_sem]) rfl ⟨rfl, by go_grown⟩
  · cases hv : valB n
    · unfold rowV dR
      simp only [Bool.true_and, Bool.false_eq_true, if_false]
      go_enter Try.func89, Try.ntmps89
      go_wp2_with (first
        | (go_at_call 17; refine (part_any _ _).mono ?_; rintro e w1 ⟨rfl, hw⟩; obtain rfl := hw.symm)
        | (go_at_call 18; refine (value_any _ _).mono ?_; rintro e w1 ⟨rfl, hw⟩; obtain rfl := hw.symm))
      refine bodyPost_ret (v := .tuple #[.agg #[.int .i64 0, .int .i64 0, .int .i64 0, .int .i64 0, .int .i64 0, .int .i64 0, .int .i64 0, .int .i64 0, .int .i64 0, .int .i64 0, .int .i64 0], .bool false, .int .i64 3]) (by simp [results, Try.results89, go_sem]) rfl ⟨rfl, by go_grown⟩
    · obtain ⟨k, hk, rfl⟩ : ∃ k : Nat, k < 8 ∧ p = (k : Int) := ⟨p.toNat, by have := of_decide_eq_true hp; omega, by have := of_decide_eq_true hp; omega⟩
      have HW := hide (with_any x.has (k : Int))
      simp only [Bool.true_and, if_true]
      have HR := hide (RB.start w x dR)
      have kk0 : (0 : Int) ≤ (k : Int) := by omega
      have kk1 : (k : Int) < 8 := by omega
      have e : putR x (k : Int) n = ⟨x.ix, x.gen, bits .or .i64 x.has (bitI (k : Int)), fun j => if j = k then n else x.v j⟩ := rfl
      generalize hz : putR x (k : Int) n = z at *
      have HE := hide e
      clear hz e
      generalize hq : bits .or .i64 x.has (bitI (k : Int)) = q at *
      clear hq
      unfold rowV
      unfold rowCells dR at HR
      go_enter Try.func89, Try.ntmps89
      go_wp2_with (first
        | (go_at_call 17; refine (part_any _ _).mono ?_; rintro e w1 ⟨rfl, hw⟩; obtain rfl := hw.symm)
        | (go_at_call 18; refine (value_any _ _).mono ?_; rintro e w1 ⟨rfl, hw⟩; obtain rfl := hw.symm)
        | (go_at_call 27; refine (unhide HW _).mono ?_; rintro e w1 ⟨rfl, hw⟩; obtain rfl := hw.symm)
        | (refine wpList_put1 rfl 3 (.tmp 20) (.tmp 19) rfl w.heap.size 2 (.int .i64 q) rfl rfl rfl size3 (there_of (unhide HR).r.c2 (unhide HR).fr) ?_; intro W1 hW1; have hR1 := (unhide HR).setHas q; rw [← hW1] at hR1; have HR1 := hide hR1; have p1 := keep_below hR1.bel (unhide H1); have p2 := keep_below hR1.bel (unhide H2); clear hR1 hW1 HR)
        | (refine wpList_put1 rfl 3 (.tmp 24) (.tmp 22) rfl w.heap.size (3 + k) (.int .i64 n) rfl rfl rfl size3 (there_of ((unhide HR1).r.v k hk) (unhide HR1).fr) ?_; intro W2 hW2; have hR2 := (unhide HR1).setV k hk n; rw [← hW2, ← unhide HE] at hR2; have HR2 := hide hR2; have c0 := hR2.r.c0; have c1 := hR2.r.c1; have c2 := hR2.r.c2; have c3 := hR2.r.v 0 (by decide); have c4 := hR2.r.v 1 (by decide); have c5 := hR2.r.v 2 (by decide); have c6 := hR2.r.v 3 (by decide); have c7 := hR2.r.v 4 (by decide); have c8 := hR2.r.v 5 (by decide); have c9 := hR2.r.v 6 (by decide); have c10 := hR2.r.v 7 (by decide); simp only [Nat.zero_add, Nat.reduceAdd] at c0 c1 c2 c3 c4 c5 c6 c7 c8 c9 c10; clear hR2 hW2 HR1 p1 p2)
        | (refine wpList_putN rfl 61 (.tmp 4) (.tmp 25) rfl (w.heap.size + 1) 0 (rowCells z) rfl rfl (rowCells_one z) size61 (rowAt_there (unhide HR2).s (unhide HR2).fs) ?_; intro W3 hW3; have hR3 := (unhide HR2).give z; rw [← hW3] at hR3; have HR3 := hide hR3; clear hW3 hR3 HR2 c0 c1 c2 c3 c4 c5 c6 c7 c8 c9 c10))
      have hR3 := unhide HR3
      have c0 := hR3.s.c0
      have c1 := hR3.s.c1
      have c2 := hR3.s.c2
      have c3 := hR3.s.v 0 (by decide)
      have c4 := hR3.s.v 1 (by decide)
      have c5 := hR3.s.v 2 (by decide)
      have c6 := hR3.s.v 3 (by decide)
      have c7 := hR3.s.v 4 (by decide)
      have c8 := hR3.s.v 5 (by decide)
      have c9 := hR3.s.v 6 (by decide)
      have c10 := hR3.s.v 7 (by decide)
      simp only [Nat.zero_add, Nat.reduceAdd] at c0 c1 c2 c3 c4 c5 c6 c7 c8 c9 c10
      refine bodyPost_ret (v := .tuple #[.agg #[.int .i64 z.ix, .int .i64 z.gen, .int .i64 z.has, .int .i64 (z.v 0), .int .i64 (z.v 1), .int .i64 (z.v 2), .int .i64 (z.v 3), .int .i64 (z.v 4), .int .i64 (z.v 5), .int .i64 (z.v 6), .int .i64 (z.v 7)], .bool true, .int .i64 0]) (by simp [results, Try.results89, go_sem, c0, c1, c2, c3, c4, c5, c6, c7, c8, c9, c10]) rfl ⟨rfl, hR3.bel⟩

set_option maxRecDepth 100000 in
set_option maxHeartbeats 4000000 in
theorem drop1_any (x : RowI) (p : Int) (bp : Nat) (w : World) (h1 : w.cell? ⟨bp, 0, none⟩ = some (.int .i64 p)) :
    Calls Try.prog 90 #[rowV x, .pointer (some ⟨bp, 0, none⟩)] w fun e w' => e = .returned (ansV (dropC x p)) ∧ Below w.heap.size w w' := by
  have g1 : ∀ o1 o2 : Obj, ((w.alloc o1).alloc o2).cell? ⟨bp, 0, none⟩ = some (.int .i64 p) := fun o1 o2 => keep_below (two_below w o1 o2) h1
  have H1 := hide h1
  clear h1
  have HH := hide (fun W => has_any x.has p W)
  have HP := hide (has_part x.has p)
  unfold dropC ansV
  unfold hasI at *
  generalize hb : (bits .and .i64 x.has (bitI p) != 0) = b at *
  clear hb
  cases b
  · unfold rowV dR
    simp only [Bool.false_eq_true, if_false]
    go_enter Try.func90, Try.ntmps90
    go_wp2_with (first
      | (go_at_call 25; refine (unhide HH _).mono ?_; rintro e w1 ⟨rfl, hw⟩; obtain rfl := hw.symm))
    refine bodyPost_ret (v := .tuple #[.agg #[.int .i64 0, .int .i64 0, .int .i64 0, .int .i64 0, .int .i64 0, .int .i64 0, .int .i64 0, .int .i64 0, .int .i64 0, .int .i64 0, .int .i64 0], .bool false, .int .i64 5]) (by simp [results, Try.results90, go_sem]) rfl ⟨rfl, by go_grown⟩
  · obtain ⟨k, hk, rfl⟩ := unhide HP rfl
    have HW := hide (without_any x.has (k : Int))
    simp only [if_true]
    have HR := hide (RB.start w x dR)
    have kk0 : (0 : Int) ≤ (k : Int) := by omega
    have kk1 : (k : Int) < 8 := by omega
    have e : dropR x (k : Int) = ⟨x.ix, x.gen, bits .andNot .i64 x.has (bitI (k : Int)), fun j => if j = k then 0 else x.v j⟩ := rfl
    generalize hz : dropR x (k : Int) = z at *
    have HE := hide e
    clear hz e
    generalize hq : bits .andNot .i64 x.has (bitI (k : Int)) = q at *
    clear hq
    unfold rowV
    unfold rowCells dR at HR
    go_enter Try.func90, Try.ntmps90
    go_wp2_with (first
      | (go_at_call 25; refine (unhide HH _).mono ?_; rintro e w1 ⟨rfl, hw⟩; obtain rfl := hw.symm)
      | (go_at_call 29; refine (unhide HW _).mono ?_; rintro e w1 ⟨rfl, hw⟩; obtain rfl := hw.symm)
      | (refine wpList_put1 rfl 3 (.tmp 16) (.tmp 15) rfl w.heap.size 2 (.int .i64 q) rfl rfl rfl size3 (there_of (unhide HR).r.c2 (unhide HR).fr) ?_; intro W1 hW1; have hR1 := (unhide HR).setHas q; rw [← hW1] at hR1; have HR1 := hide hR1; have p1 := keep_below hR1.bel (unhide H1); clear hR1 hW1 HR)
      | (refine wpList_put1 rfl 3 (.tmp 19) (.const (.int .i64 0)) rfl w.heap.size (3 + k) (.int .i64 0) rfl rfl rfl size3 (there_of ((unhide HR1).r.v k hk) (unhide HR1).fr) ?_; intro W2 hW2; have hR2 := (unhide HR1).setV k hk 0; rw [← hW2, ← unhide HE] at hR2; have HR2 := hide hR2; have c0 := hR2.r.c0; have c1 := hR2.r.c1; have c2 := hR2.r.c2; have c3 := hR2.r.v 0 (by decide); have c4 := hR2.r.v 1 (by decide); have c5 := hR2.r.v 2 (by decide); have c6 := hR2.r.v 3 (by decide); have c7 := hR2.r.v 4 (by decide); have c8 := hR2.r.v 5 (by decide); have c9 := hR2.r.v 6 (by decide); have c10 := hR2.r.v 7 (by decide); simp only [Nat.zero_add, Nat.reduceAdd] at c0 c1 c2 c3 c4 c5 c6 c7 c8 c9 c10; clear hR2 hW2 HR1 p1)
      | (refine wpList_putN rfl 61 (.tmp 3) (.tmp 20) rfl (w.heap.size + 1) 0 (rowCells z) rfl rfl (rowCells_one z) size61 (rowAt_there (unhide HR2).s (unhide HR2).fs) ?_; intro W3 hW3; have hR3 := (unhide HR2).give z; rw [← hW3] at hR3; have HR3 := hide hR3; clear hW3 hR3 HR2 c0 c1 c2 c3 c4 c5 c6 c7 c8 c9 c10))
    have hR3 := unhide HR3
    have c0 := hR3.s.c0
    have c1 := hR3.s.c1
    have c2 := hR3.s.c2
    have c3 := hR3.s.v 0 (by decide)
    have c4 := hR3.s.v 1 (by decide)
    have c5 := hR3.s.v 2 (by decide)
    have c6 := hR3.s.v 3 (by decide)
    have c7 := hR3.s.v 4 (by decide)
    have c8 := hR3.s.v 5 (by decide)
    have c9 := hR3.s.v 6 (by decide)
    have c10 := hR3.s.v 7 (by decide)
    simp only [Nat.zero_add, Nat.reduceAdd] at c0 c1 c2 c3 c4 c5 c6 c7 c8 c9 c10
    refine bodyPost_ret (v := .tuple #[.agg #[.int .i64 z.ix, .int .i64 z.gen, .int .i64 z.has, .int .i64 (z.v 0), .int .i64 (z.v 1), .int .i64 (z.v 2), .int .i64 (z.v 3), .int .i64 (z.v 4), .int .i64 (z.v 5), .int .i64 (z.v 6), .int .i64 (z.v 7)], .bool true, .int .i64 0]) (by simp [results, Try.results90, go_sem, c0, c1, c2, c3, c4, c5, c6, c7, c8, c9, c10]) rfl ⟨rfl, hR3.bel⟩
end Go.Proofs.Ytmbjghjpofcdpaa
