/- Acts, Needs, Wrong, Clash, May, Right -/
import Derived.Deep.RegionHeld3
import Derived.Deep.DrawnRows
import Derived.Deep.QuietTactic
import Derived.BigQuiet
import Derived.Deep.DeepCutAuto
import Derived.Test.YtnbleebilmghcabQA
import Derived.Test.YtnbleebilmghcabQB
set_option linter.all false
namespace Go.Proofs.Ytnbleebilmghcab
open Go.RowKit
attribute [local go_sem ↓] Go.wp_at_zero Go.wp_at_succ
def actV (k p f n : Int) : Value := .agg #[.int .i64 k, .int .i64 p, .int .i64 f, .int .i64 n]
def rdI (k p f : Int) : Int := if k = 2 then bits .or .i64 0 (bitI f) else if k = 3 then bits .or .i64 (bits .or .i64 0 (bitI f)) (bitI p) else if k = 4 then bits .or .i64 0 (bitI p) else 0
def wrI (k p : Int) : Int := if k = 1 ∨ k = 2 ∨ k = 3 ∨ k = 4 ∨ k = 5 then bits .or .i64 0 (bitI p) else if k = 7 then p else 0
def mvB (k p all : Int) : Bool := if k = 1 ∨ k = 2 then !(bits .and .i64 all (bitI p) != 0) else decide (k = 5)
def afI (k p r : Int) : Int := if k = 1 ∨ k = 2 then bits .or .i64 r (bitI p) else if k = 5 then bits .andNot .i64 r (bitI p) else r
def rgB (k p f n : Int) : Bool := if k = 1 ∨ k = 4 then partB p && valB n else if k = 2 ∨ k = 3 then partB p && partB f else if k = 5 then partB p else if k = 7 then setB p && valB n else true
def inB (x y : Int) : Bool := bits .andNot .i64 x y == 0
def waI (k p f n r : Int) : Int := if k < 1 ∨ 7 < k then 1 else if rgB k p f n = false then 3 else if inB (rdI k p f) r = false then 7 else 0
theorem bel_drewN {B : Nat} {a w : World} (h : Below B a w) (n : Nat) : Below B a (w.drewN n) := ⟨h.os, h.tape, h.output, h.size, h.block⟩
theorem within_any (x y : Int) (w : World) :
    Calls Try.prog 56 #[.int .i64 x, .int .i64 y] w fun e w' => e = .returned (.bool (inB x y)) ∧ w' = w := by
  go_enter Try.func56, Try.ntmps56
  go_wp2
  go_ret
  exact ⟨rfl, rfl⟩
set_option maxHeartbeats 400000 in
theorem reads_any (k p f n : Int) (w : World) :
    Calls Try.prog 37 #[actV k p f n] w fun e w' => e = .returned (.int .i64 (rdI k p f)) ∧ Below w.heap.size w w' := by
  by_cases h3 : k = 3
  · subst h3
    unfold actV
    go_enter Try.func37, Try.ntmps37
    go_wp2
    go_quiet ((first | (go_at_call 58; refine (with_any _ _ _).mono ?_; rintro e w' ⟨rfl, hw⟩; exact ⟨rfl, _, hw⟩)))
    go_wp2
    go_ret
    exact ⟨rfl, bel_drewN (by go_grown) _⟩
  · by_cases h2 : k = 2
    · subst h2
      unfold actV
      go_enter Try.func37, Try.ntmps37
      go_wp2_with (go_at_call 58; refine (with_any _ _ _).mono ?_; rintro e w' ⟨rfl, rfl⟩)
      go_ret
      exact ⟨rfl, by go_grown⟩
    · by_cases h4 : k = 4
      · subst h4
        unfold actV
        go_enter Try.func37, Try.ntmps37
        go_wp2_with (go_at_call 58; refine (with_any _ _ _).mono ?_; rintro e w' ⟨rfl, rfl⟩)
        go_ret
        exact ⟨rfl, by go_grown⟩
      · have e : rdI k p f = 0 := by simp [rdI, h2, h3, h4]
        rw [e]
        unfold actV
        go_enter Try.func37, Try.ntmps37
        go_wp2
        go_ret
        exact ⟨rfl, by go_grown⟩
theorem kinds (k : Int) : k < 1 ∨ k = 1 ∨ k = 2 ∨ k = 3 ∨ k = 4 ∨ k = 5 ∨ k = 6 ∨ k = 7 ∨ 7 < k := by omega
set_option maxHeartbeats 400000 in
theorem writes_any (k p f n : Int) (w : World) :
    Calls Try.prog 38 #[actV k p f n] w fun e w' => e = .returned (.int .i64 (wrI k p)) ∧ Below w.heap.size w w' := by
  have hk := kinds k
  unfold actV
  by_cases h : k = 1 ∨ k = 2 ∨ k = 3 ∨ k = 4 ∨ k = 5 ∨ k = 6 ∨ k = 7
  · clear hk
    rcases h with rfl | rfl | rfl | rfl | rfl | rfl | rfl
    all_goals
      go_enter Try.func38, Try.ntmps38
      go_wp2_with (go_at_call 58; refine (with_any _ _ _).mono ?_; rintro e w' ⟨rfl, rfl⟩)
      go_ret
      exact ⟨rfl, by go_grown⟩
  · have h1 : ¬ k = 1 := by omega
    have h2 : ¬ k = 2 := by omega
    have h3 : ¬ k = 3 := by omega
    have h4 : ¬ k = 4 := by omega
    have h5 : ¬ k = 5 := by omega
    have h7 : ¬ k = 7 := by omega
    have e : wrI k p = 0 := by simp [wrI, h1, h2, h3, h4, h5, h7]
    rw [e]
    clear h hk e
    go_enter Try.func38, Try.ntmps38
    go_wp2
    go_ret
    exact ⟨rfl, by go_grown⟩
set_option maxHeartbeats 400000 in
theorem moves_any (k p f n all : Int) (w : World) :
    Calls Try.prog 39 #[actV k p f n, .int .i64 all] w fun e w' => e = .returned (.bool (mvB k p all)) ∧ Below w.heap.size w w' := by
  unfold actV
  by_cases h : k = 1 ∨ k = 2 ∨ k = 5
  · rcases h with rfl | rfl | rfl
    all_goals
      go_enter Try.func39, Try.ntmps39
      go_wp2_with (go_at_call 60; refine (has_any _ _ _).mono ?_; rintro e w' ⟨rfl, rfl⟩)
      go_ret
      exact ⟨by simp [mvB], by go_grown⟩
  · have h1 : ¬ k = 1 := by omega
    have h2 : ¬ k = 2 := by omega
    have h5 : ¬ k = 5 := by omega
    have e : mvB k p all = false := by simp [mvB, h1, h2, h5]
    rw [e]
    clear h e
    go_enter Try.func39, Try.ntmps39
    go_wp2
    go_ret
    exact ⟨rfl, by go_grown⟩
set_option maxHeartbeats 400000 in
theorem after_any (k p f n r : Int) (w : World) :
    Calls Try.prog 35 #[actV k p f n, .int .i64 r] w fun e w' => e = .returned (.int .i64 (afI k p r)) ∧ Below w.heap.size w w' := by
  unfold actV
  by_cases h : k = 1 ∨ k = 2 ∨ k = 5
  · rcases h with rfl | rfl | rfl
    all_goals
      go_enter Try.func35, Try.ntmps35
      go_wp2_with (first
        | (go_at_call 58; refine (with_any _ _ _).mono ?_; rintro e w' ⟨rfl, rfl⟩)
        | (go_at_call 59; refine (without_any _ _ _).mono ?_; rintro e w' ⟨rfl, rfl⟩))
      go_ret
      exact ⟨by simp [afI], by go_grown⟩
  · have h1 : ¬ k = 1 := by omega
    have h2 : ¬ k = 2 := by omega
    have h5 : ¬ k = 5 := by omega
    have e : afI k p r = r := by simp [afI, h1, h2, h5]
    rw [e]
    clear h e
    go_enter Try.func35, Try.ntmps35
    go_wp2
    go_ret
    exact ⟨rfl, by go_grown⟩
set_option maxHeartbeats 400000 in
theorem range_any (k p f n : Int) (w : World) :
    Calls Try.prog 57 #[actV k p f n] w fun e w' => e = .returned (.bool (rgB k p f n)) ∧ Below w.heap.size w w' := by
  unfold actV
  by_cases h : k = 1 ∨ k = 2 ∨ k = 3 ∨ k = 4 ∨ k = 5 ∨ k = 7
  · rcases h with rfl | rfl | rfl | rfl | rfl | rfl
    all_goals
      cases hp : partB p
      all_goals
        cases hs : setB p
        all_goals
          go_enter Try.func57, Try.ntmps57
          go_wp2_with (first
            | (go_at_call 80; refine (part_any _ _).mono ?_; rintro e w' ⟨rfl, rfl⟩)
            | (go_at_call 33; refine (set_any _ _).mono ?_; rintro e w' ⟨rfl, rfl⟩)
            | (go_at_call 81; refine (value_any _ _).mono ?_; rintro e w' ⟨rfl, rfl⟩))
          go_ret
          exact ⟨by simp [rgB, hp, hs], by go_grown⟩
  · have h1 : ¬ k = 1 := by omega
    have h2 : ¬ k = 2 := by omega
    have h3 : ¬ k = 3 := by omega
    have h4 : ¬ k = 4 := by omega
    have h5 : ¬ k = 5 := by omega
    have h7 : ¬ k = 7 := by omega
    have e : rgB k p f n = true := by simp [rgB, h1, h2, h3, h4, h5, h7]
    rw [e]
    clear h e
    go_enter Try.func57, Try.ntmps57
    go_wp2
    go_ret
    exact ⟨rfl, by go_grown⟩
set_option maxHeartbeats 400000 in
theorem wrongAct_any (k p f n r : Int) (w : World) :
    Calls Try.prog 34 #[actV k p f n, .int .i64 r] w fun e w' => e = .returned (.int .i64 (waI k p f n r)) ∧ Below w.heap.size w w' := by
  by_cases hlo : k < 1
  · have e : waI k p f n r = 1 := by simp [waI, hlo]
    rw [e]
    clear e
    unfold actV
    go_enter Try.func34, Try.ntmps34
    go_wp2
    go_ret
    exact ⟨rfl, by go_grown⟩
  · by_cases hhi : 7 < k
    · have e : waI k p f n r = 1 := by simp [waI, hhi]
      rw [e]
      clear e
      unfold actV
      go_enter Try.func34, Try.ntmps34
      go_wp2
      go_ret
      exact ⟨rfl, by go_grown⟩
    · have e : waI k p f n r = if rgB k p f n = false then 3 else if inB (rdI k p f) r = false then 7 else 0 := by
        unfold waI; rw [if_neg (by omega)]
      rw [e]
      clear e
      have HR := range_any k p f n
      have HD := reads_any k p f n
      unfold actV at HR HD ⊢
      cases hr : rgB k p f n
      · rw [hr] at HR
        have HR := hide HR
        go_enter Try.func34, Try.ntmps34
        go_wp2_with (first
          | (go_at_call 57; refine (unhide HR _).mono ?_; rintro e w1 ⟨rfl, hb⟩))
        go_ret
        exact ⟨rfl, Below.trans (by go_grown) (hb.mono (by simp))⟩
      · rw [hr] at HR
        have HR := hide HR
        have HD := hide HD
        generalize rdI k p f = d at *
        cases hi : inB d r
        all_goals
          go_enter Try.func34, Try.ntmps34
          go_wp2_with (first
            | (go_at_call 57; refine (unhide HR _).mono ?_; rintro e w1 ⟨rfl, hb⟩; have c0 := keep_below hb (p := ⟨w.heap.size, 0, none⟩) (v := .int .i64 k) (by simp); have c1 := keep_below hb (p := ⟨w.heap.size, 1, none⟩) (v := .int .i64 p) (by simp); have c2 := keep_below hb (p := ⟨w.heap.size, 2, none⟩) (v := .int .i64 f) (by simp); have c3 := keep_below hb (p := ⟨w.heap.size, 3, none⟩) (v := .int .i64 n) (by simp))
            | (go_at_call 37; refine (unhide HD _).mono ?_; rintro e w2 ⟨rfl, hb2⟩)
            | (go_at_call 56; refine (within_any _ _ _).mono ?_; rintro e w3 ⟨rfl, hw⟩; obtain rfl := hw.symm))
          go_ret
          have B1 : Below w.heap.size w w1 := Below.trans (by go_grown) (hb.mono (by simp))
          exact ⟨rfl, B1.trans (hb2.mono B1.size)⟩
end Go.Proofs.Ytnbleebilmghcab
namespace Go.Proofs.Ytnbleebilmghcab
open Go.RowKit
attribute [local go_sem ↓] Go.wp_at_zero Go.wp_at_succ
structure ActI where
  k : Int
  p : Int
  f : Int
  n : Int
def sysV (m al no : Int) (A : Option Addr) (len cap : Nat) : Value := .agg #[.int .i64 m, .int .i64 al, .int .i64 no, .slice A len cap]
def ActsAt (w : World) (A : Option Addr) (len : Nat) (a : Nat → ActI) : Prop := ∀ j, j < len → ∃ b off, A = some ⟨b, off, none⟩ ∧
  w.cell? ⟨b, off + j * 4, none⟩ = some (.int .i64 (a j).k) ∧ w.cell? ⟨b, off + j * 4 + 1, none⟩ = some (.int .i64 (a j).p) ∧
  w.cell? ⟨b, off + j * 4 + 2, none⟩ = some (.int .i64 (a j).f) ∧ w.cell? ⟨b, off + j * 4 + 3, none⟩ = some (.int .i64 (a j).n)
theorem ActsAt.below {w w1 : World} {A : Option Addr} {len : Nat} {a : Nat → ActI} (h : ActsAt w A len a) (hb : Below w.heap.size w w1) : ActsAt w1 A len a := fun j hj => by
  obtain ⟨b, off, h0, h1, h2, h3, h4⟩ := h j hj
  exact ⟨b, off, h0, keep_below hb h1, keep_below hb h2, keep_below hb h3, keep_below hb h4⟩
def rdTo (a : Nat → ActI) : Nat → Int
  | 0 => 0
  | j + 1 => bits .or .i64 (rdTo a j) (rdI (a j).k (a j).p (a j).f)
def wrTo (a : Nat → ActI) : Nat → Int
  | 0 => 0
  | j + 1 => bits .or .i64 (wrTo a j) (wrI (a j).k (a j).p)
def mvTo (all : Int) (a : Nat → ActI) : Nat → Bool
  | 0 => false
  | j + 1 => mvTo all a j || mvB (a j).k (a j).p all
def lfTo (a : Nat → ActI) : Nat → Bool
  | 0 => false
  | j + 1 => lfTo a j || (decide ((a j).k = 6) || decide ((a j).k = 7))
theorem cell_same {w : World} {a : Addr} {v u : Value} (h : w.cell? a = some u) : (w.setCell a v).cell? a = some v := by
  first
  | exact World.cell?_setCell_same _ _ _ h
  | exact World.cell?_setCell_same h
theorem cell_other {w : World} {a b : Addr} {v u : Value} (hn : a ≠ b) (h : w.cell? b = some u) : (w.setCell a v).cell? b = some u := by
  rw [World.cell?_setCell_other]
  · exact h
  · exact hn
structure NB (w : World) (all r u : Int) (m l : Bool) (wr : World) : Prop where
  bel : Below w.heap.size w wr
  c0 : wr.cell? ⟨w.heap.size + 1 + 1, 0, none⟩ = some (.int .i64 r)
  c1 : wr.cell? ⟨w.heap.size + 1 + 1, 1, none⟩ = some (.int .i64 u)
  c2 : wr.cell? ⟨w.heap.size + 1 + 1, 2, none⟩ = some (.bool m)
  c3 : wr.cell? ⟨w.heap.size + 1 + 1, 3, none⟩ = some (.bool l)
  f : ∀ i, wr.frozen? ⟨w.heap.size + 1 + 1, i, none⟩ = false
  e1 : wr.cell? ⟨w.heap.size, 1, none⟩ = some (.int .i64 all)
  t : wr.there (w.heap.size + 1) 0 4
structure NW (w : World) (b5 : Nat) (x : ActI) (all r u : Int) (m l : Bool) (wr : World) : Prop extends NB w all r u m l wr where
  d0 : wr.cell? ⟨b5, 0, none⟩ = some (.int .i64 x.k)
  d1 : wr.cell? ⟨b5, 1, none⟩ = some (.int .i64 x.p)
  d2 : wr.cell? ⟨b5, 2, none⟩ = some (.int .i64 x.f)
  d3 : wr.cell? ⟨b5, 3, none⟩ = some (.int .i64 x.n)
  lt : w.heap.size + 2 < b5
section
variable {w : World} {b5 : Nat} {x : ActI} {all r u : Int} {m l : Bool} {wr w1 : World}
theorem NB.below (h : NB w all r u m l wr) (hb : Below wr.heap.size wr w1) : NB w all r u m l w1 := by
  have hz := World.block_lt_of_cell? wr _ h.c0
  exact ⟨h.bel.trans (hb.mono h.bel.size), keep_below hb h.c0, keep_below hb h.c1, keep_below hb h.c2, keep_below hb h.c3,
    fun i => (hb.frozen (p := ⟨w.heap.size + 1 + 1, i, none⟩) hz).trans (h.f i), keep_below hb h.e1, there_below hb (by simp at hz; omega) h.t⟩
theorem NW.below (h : NW w b5 x all r u m l wr) (hb : Below wr.heap.size wr w1) : NW w b5 x all r u m l w1 :=
  ⟨h.toNB.below hb, keep_below hb h.d0, keep_below hb h.d1, keep_below hb h.d2, keep_below hb h.d3, h.lt⟩
theorem NW.set0 (h : NW w b5 x all r u m l wr) (v : Int) : NW w b5 x all v u m l (wr.setCell ⟨w.heap.size + 1 + 1, 0, none⟩ (.int .i64 v)) := by
  have hlt := h.lt
  exact ⟨⟨h.bel.setCell (p := ⟨w.heap.size + 1 + 1, 0, none⟩) (by simp <;> omega) _, cell_same h.c0, cell_other (by simp) h.c1, cell_other (by simp) h.c2, cell_other (by simp) h.c3,
    fun i => by rw [World.frozen?_setCell]; exact h.f i, cell_other (by simp <;> omega) h.e1, World.there_setCells h.t (w.heap.size + 1 + 1) 0 [.int .i64 v]⟩, cell_other (by simp <;> omega) h.d0, cell_other (by simp <;> omega) h.d1, cell_other (by simp <;> omega) h.d2, cell_other (by simp <;> omega) h.d3, h.lt⟩
theorem NW.set1 (h : NW w b5 x all r u m l wr) (v : Int) : NW w b5 x all r v m l (wr.setCell ⟨w.heap.size + 1 + 1, 1, none⟩ (.int .i64 v)) := by
  have hlt := h.lt
  exact ⟨⟨h.bel.setCell (p := ⟨w.heap.size + 1 + 1, 1, none⟩) (by simp <;> omega) _, cell_other (by simp) h.c0, cell_same h.c1, cell_other (by simp) h.c2, cell_other (by simp) h.c3,
    fun i => by rw [World.frozen?_setCell]; exact h.f i, cell_other (by simp <;> omega) h.e1, World.there_setCells h.t (w.heap.size + 1 + 1) 1 [.int .i64 v]⟩, cell_other (by simp <;> omega) h.d0, cell_other (by simp <;> omega) h.d1, cell_other (by simp <;> omega) h.d2, cell_other (by simp <;> omega) h.d3, h.lt⟩
theorem NW.set2 (h : NW w b5 x all r u m l wr) (v : Bool) : NW w b5 x all r u v l (wr.setCell ⟨w.heap.size + 1 + 1, 2, none⟩ (.bool v)) := by
  have hlt := h.lt
  exact ⟨⟨h.bel.setCell (p := ⟨w.heap.size + 1 + 1, 2, none⟩) (by simp <;> omega) _, cell_other (by simp) h.c0, cell_other (by simp) h.c1, cell_same h.c2, cell_other (by simp) h.c3,
    fun i => by rw [World.frozen?_setCell]; exact h.f i, cell_other (by simp <;> omega) h.e1, World.there_setCells h.t (w.heap.size + 1 + 1) 2 [.bool v]⟩, cell_other (by simp <;> omega) h.d0, cell_other (by simp <;> omega) h.d1, cell_other (by simp <;> omega) h.d2, cell_other (by simp <;> omega) h.d3, h.lt⟩
theorem NW.set3 (h : NW w b5 x all r u m l wr) (v : Bool) : NW w b5 x all r u m v (wr.setCell ⟨w.heap.size + 1 + 1, 3, none⟩ (.bool v)) := by
  have hlt := h.lt
  exact ⟨⟨h.bel.setCell (p := ⟨w.heap.size + 1 + 1, 3, none⟩) (by simp <;> omega) _, cell_other (by simp) h.c0, cell_other (by simp) h.c1, cell_other (by simp) h.c2, cell_same h.c3,
    fun i => by rw [World.frozen?_setCell]; exact h.f i, cell_other (by simp <;> omega) h.e1, World.there_setCells h.t (w.heap.size + 1 + 1) 3 [.bool v]⟩, cell_other (by simp <;> omega) h.d0, cell_other (by simp <;> omega) h.d1, cell_other (by simp <;> omega) h.d2, cell_other (by simp <;> omega) h.d3, h.lt⟩
theorem NB.act (h : NB w all r u m l wr) (y : ActI) : NW w wr.heap.size y all r u m l (wr.alloc (.cells #[.int .i64 y.k, .int .i64 y.p, .int .i64 y.f, .int .i64 y.n] 76)) := by
  have hb : Below wr.heap.size wr (wr.alloc (.cells #[.int .i64 y.k, .int .i64 y.p, .int .i64 y.f, .int .i64 y.n] 76)) := (Below.refl _ _).alloc (Nat.le_refl _) _
  have hz := World.block_lt_of_cell? wr _ h.c0
  have h1 := h.below hb
  exact ⟨h1, by simp, by simp, by simp, by simp, by simpa using hz⟩
theorem NB.start (w : World) (m al no : Int) (A : Option Addr) (len cap : Nat) : NB w al 0 0 false false
    (((w.alloc (.cells #[.int .i64 m, .int .i64 al, .int .i64 no, .slice A len cap] 26)).alloc (.cells #[.int .i64 0, .int .i64 0, .bool false, .bool false] 34)).alloc (.cells #[.int .i64 0, .int .i64 0, .bool false, .bool false] 34)) := by
  obtain ⟨w1, h1⟩ : ∃ W, W = w.alloc (.cells #[.int .i64 m, .int .i64 al, .int .i64 no, .slice A len cap] 26) := ⟨_, rfl⟩
  have z1 : w1.heap.size = w.heap.size + 1 := by rw [h1]; simp
  have b1 : Below w.heap.size w w1 := by rw [h1]; exact (Below.refl _ _).alloc (Nat.le_refl _) _
  have e1 : w1.cell? ⟨w.heap.size, 1, none⟩ = some (.int .i64 al) := by rw [h1]; simp
  rw [← h1]
  clear h1
  obtain ⟨w2, h2⟩ : ∃ W, W = w1.alloc (.cells #[.int .i64 0, .int .i64 0, .bool false, .bool false] 34) := ⟨_, rfl⟩
  have z2 : w2.heap.size = w.heap.size + 1 + 1 := by rw [h2]; simp [z1]
  have b2 : Below w1.heap.size w1 w2 := by rw [h2]; exact (Below.refl _ _).alloc (Nat.le_refl _) _
  have t2 : w2.there (w.heap.size + 1) 0 4 := by rw [h2, ← z1]; exact there_cells w1 _ _
  rw [← h2]
  clear h2
  have b3 : Below w2.heap.size w2 (w2.alloc (.cells #[.int .i64 0, .int .i64 0, .bool false, .bool false] 34)) := (Below.refl _ _).alloc (Nat.le_refl _) _
  have b13 := b1.trans ((b2.trans (b3.mono b2.size)).mono b1.size)
  refine ⟨b13, ?_, ?_, ?_, ?_, fun i => ?_, keep_below b3 (keep_below b2 e1), there_below b3 (by omega) t2⟩ <;> rw [← z2] <;> simp [go_sem]
end
def needsV (all : Int) (a : Nat → ActI) (len : Nat) : Value := .agg #[.int .i64 (rdTo a len), .int .i64 (wrTo a len), .bool (mvTo all a len), .bool (lfTo a len)]
set_option maxRecDepth 8000 in
set_option maxHeartbeats 1000000 in
theorem needs_any (m al no : Int) (A : Option Addr) (len cap : Nat) (a : Nat → ActI) (w : World) (hl : len ≤ 8) (hA : ActsAt w A len a) :
    Calls Try.prog 14 #[sysV m al no A len cap] w fun e w' => e = .returned (needsV al a len) ∧ Below w.heap.size w w' := by
  have HA := hide hA
  clear hA
  unfold sysV
  go_enter Try.func14, Try.ntmps14
  go_wp2
  go_loopw [9] (fun i wr => ∃ j : Nat, j ≤ len ∧ i = .int .i64 j ∧ NB w al (rdTo a j) (wrTo a j) (mvTo al a j) (lfTo a j) wr) (fun i _ => len - (intOf i).toNat)
  case atStart =>
    exact ⟨0, Nat.zero_le _, rfl, NB.start w m al no A len cap⟩
  case round =>
    obtain ⟨j, hj, rfl, hN⟩ := hrel
    by_cases hlt : j < len
    · have j0 : (0 : Int) ≤ (j : Int) := by omega
      have j1 : (j : Int) < (len : Int) := by omega
      obtain ⟨b, off, rfl, q0, q1, q2, q3⟩ := unhide HA j hlt
      have q0 := keep_below hN.bel q0
      have q1 := keep_below hN.bel q1
      have q2 := keep_below hN.bel q2
      have q3 := keep_below hN.bel q3
      have HN := hide hN
      clear hN HA
      go_wp2
      have hN5 := (unhide HN).act (a j)
      obtain ⟨W5, hW5⟩ : ∃ W, W = wr.alloc (.cells #[.int .i64 (a j).k, .int .i64 (a j).p, .int .i64 (a j).f, .int .i64 (a j).n] 76) := ⟨_, rfl⟩
      rw [← hW5] at hN5 ⊢
      clear hW5 HN q0 q1 q2 q3
      generalize wr.heap.size = b9 at *
      have hne : Nonempty (Sub W5) := ⟨⟨W5, Below.refl _ _⟩⟩
      have s0 := sub_cell hN5.c0
      have t0 := sub_cell hN5.d0
      have t1 := sub_cell hN5.d1
      have t2 := sub_cell hN5.d2
      have t3 := sub_cell hN5.d3
      have HN := hide hN5
      clear hN5
      refine wp_region_last_at 6 _ rfl rfl (by kernel_rfl) (by kernel_rfl) (by kernel_rfl) (by kernel_rfl) (by kernel_rfl) ?_
      intro l hl
      simp only [List.take_succ_cons, List.take_zero] at hl
      subst hl
      repeat (go_big_quiet_step ((first
        | (go_at_call 37; exact sub_bel (reads_any _ _ _ _ _)))))
      refine wpQuiet_nil ?_
      rintro w6 ⟨xs, hxs⟩
      have hb6 := xs.bel
      rw [← hxs] at hb6
      have hN6 := (unhide HN).below hb6
      clear hxs xs hb6 s0 t0 t1 t2 t3 hne HN
      have c0 := hN6.c0
      have f0 := hN6.f 0
      have HN := hide hN6
      clear hN6
      simp [go_sem, c0, f0]
      have hN7 := (unhide HN).set0 (bits .or .i64 (rdTo a j) (rdI (a j).k (a j).p (a j).f))
      obtain ⟨W7, hW7⟩ : ∃ W, W = w6.setCell ⟨w.heap.size + 1 + 1, 0, none⟩ (.int .i64 (bits .or .i64 (rdTo a j) (rdI (a j).k (a j).p (a j).f))) := ⟨_, rfl⟩
      rw [← hW7] at hN7 ⊢
      clear hW7 HN c0 f0
      have HN := hide hN7
      clear hN7
      go_wp2_with fail
      have hne : Nonempty (Sub W7) := ⟨⟨W7, Below.refl _ _⟩⟩
      have s0 := sub_cell (unhide HN).c1
      have t0 := sub_cell (unhide HN).d0
      have t1 := sub_cell (unhide HN).d1
      have t2 := sub_cell (unhide HN).d2
      have t3 := sub_cell (unhide HN).d3
      refine wp_region_last_at 6 _ rfl rfl (by kernel_rfl) (by kernel_rfl) (by kernel_rfl) (by kernel_rfl) (by kernel_rfl) ?_
      intro l hl
      simp only [List.take_succ_cons, List.take_zero] at hl
      subst hl
      repeat (go_big_quiet_step ((first
        | (go_at_call 38; exact sub_bel (writes_any _ _ _ _ _)))))
      refine wpQuiet_nil ?_
      rintro w8 ⟨xs, hxs⟩
      have hb8 := xs.bel
      rw [← hxs] at hb8
      have hN8 := (unhide HN).below hb8
      clear hxs xs hb8 s0 t0 t1 t2 t3 hne HN
      have c1 := hN8.c1
      have f1 := hN8.f 1
      have HN := hide hN8
      clear hN8
      simp [go_sem, c1, f1]
      have hN9 := (unhide HN).set1 (bits .or .i64 (wrTo a j) (wrI (a j).k (a j).p))
      obtain ⟨W9, hW9⟩ : ∃ W, W = w8.setCell ⟨w.heap.size + 1 + 1, 1, none⟩ (.int .i64 (bits .or .i64 (wrTo a j) (wrI (a j).k (a j).p))) := ⟨_, rfl⟩
      rw [← hW9] at hN9 ⊢
      clear hW9 HN c1 f1
      have HN := hide hN9
      have HM : Hid (mvTo al a (j + 1) = (mvTo al a j || mvB (a j).k (a j).p al)) := rfl
      have HL : Hid (lfTo a (j + 1) = (lfTo a j || (decide ((a j).k = 6) || decide ((a j).k = 7)))) := rfl
      have c2 := hN9.c2
      have c3 := hN9.c3
      have f2 := hN9.f 2
      have f3 := hN9.f 3
      have e1 := hN9.e1
      have d0 := hN9.d0
      have d1 := hN9.d1
      have d2 := hN9.d2
      have d3 := hN9.d3
      have hlt9 := hN9.lt
      clear hN9
      have HR : Hid (rdTo a (j + 1) = bits .or .i64 (rdTo a j) (rdI (a j).k (a j).p (a j).f)) := rfl
      have HU : Hid (wrTo a (j + 1) = bits .or .i64 (wrTo a j) (wrI (a j).k (a j).p)) := rfl
      have hne1 : ¬ w.heap.size + 1 + 1 = b9 := by omega
      have hne2 : ¬ b9 = w.heap.size + 1 + 1 := by omega
      clear hlt9
      generalize a j = y at *
      obtain ⟨k, p, f, n⟩ := y
      dsimp only at *
      generalize mvTo al a j = mj at *
      generalize lfTo a j = lj at *
      generalize rdTo a j = rj at *
      generalize wrTo a j = uj at *
      have HMV := hide (moves_any k p f n al)
      have hk : k = 6 ∨ k = 7 ∨ ¬ (k = 6 ∨ k = 7) := by omega
      rcases hk with rfl | rfl | hk
      case' inr.inr =>
        have k6 : ¬ k = 6 := fun e => hk (.inl e)
        have k7 : ¬ k = 7 := fun e => hk (.inr e)
        clear hk
      all_goals
        cases mj
        all_goals
          cases lj
          all_goals
            go_wp2_with (first
              | (go_at_call 39; refine (unhide HMV _).mono ?_; rintro e w10 ⟨rfl, hb10⟩; have hN10 := (unhide HN).below hb10; clear HN c2 c3 f2 f3 e1 d0 d1 d2 d3; have c2 := hN10.c2; have c3 := hN10.c3; have f2 := hN10.f 2; have f3 := hN10.f 3; have d0 := hN10.d0; have HN := hide hN10; clear hN10 hb10))
            go_roundw
            case rel =>
              exact ⟨j + 1, by omega, by go_num, by
                rw [unhide HR, unhide HU, unhide HM, unhide HL]
                first
                | exact (((unhide HN).set2 _).set3 _).toNB
                | (simp only [k6, k7, decide_false, Bool.or_false, Bool.false_or, Bool.true_or]; exact (((unhide HN).set2 _).set3 _).toNB)⟩
            case measure => simp [intOf]; omega
    · obtain rfl : j = len := by omega
      have c0 := hN.c0
      have c1 := hN.c1
      have c2 := hN.c2
      have c3 := hN.c3
      have t0 := (hN.t 0 (by omega)).1
      have t1 := (hN.t 1 (by omega)).1
      have t2 := (hN.t 2 (by omega)).1
      have t3 := (hN.t 3 (by omega)).1
      have g0 := (hN.t 0 (by omega)).2
      have g1 := (hN.t 1 (by omega)).2
      have g2 := (hN.t 2 (by omega)).2
      have g3 := (hN.t 3 (by omega)).2
      simp only [Nat.zero_add] at t0 t1 t2 t3 g0 g1 g2 g3
      obtain ⟨y0, t0⟩ := Option.isSome_iff_exists.1 t0
      obtain ⟨y1, t1⟩ := Option.isSome_iff_exists.1 t1
      obtain ⟨y2, t2⟩ := Option.isSome_iff_exists.1 t2
      obtain ⟨y3, t3⟩ := Option.isSome_iff_exists.1 t3
      have HB := hide hN.bel
      clear hN HA
      go_wp2
      refine bodyPost_ret (v := needsV al a j) (by simp [results, Try.results14, go_sem, needsV, t0, t1, t2, t3]) rfl ⟨rfl, ?_⟩
      exact below_setCells (w.heap.size + 1) (by omega) [.int .i64 (rdTo a j), .int .i64 (wrTo a j), .bool (mvTo al a j), .bool (lfTo a j)] 0 wr (unhide HB)
end Go.Proofs.Ytnbleebilmghcab
namespace Go.Proofs.Ytnbleebilmghcab
open Go.RowKit
attribute [local go_sem ↓] Go.wp_at_zero Go.wp_at_succ
def rbTo (al : Int) (a : Nat → ActI) : Nat → Int
  | 0 => al
  | j + 1 => bits .and .i64 (afI (a j).k (a j).p (rbTo al a j)) al
def waAt (al : Int) (a : Nat → ActI) (j : Nat) : Int := waI (a j).k (a j).p (a j).f (a j).n (rbTo al a j)
def fbTo (al : Int) (a : Nat → ActI) : Nat → Nat → Int × Int
  | 0, _ => (0, 0)
  | n + 1, j => if waAt al a j = 0 then fbTo al a n (j + 1) else (waAt al a j, (j : Int))
def headB (m al no : Int) : Bool := decide (0 ≤ m ∧ m < 6) && setB al && setB no
def wrF (m al no : Int) (a : Nat → ActI) (len : Nat) : Int × Int := if headB m al no = false then (3, 0) else if 8 < len then (4, 0) else fbTo al a len 0
def faultV (x : Int × Int) : Value := .agg #[.int .i64 x.1, .int .i64 x.2]
structure WB (w : World) (al : Int) (wr : World) : Prop where
  bel : Below w.heap.size w wr
  e1 : wr.cell? ⟨w.heap.size, 1, none⟩ = some (.int .i64 al)
  t0 : wr.cell? ⟨w.heap.size + 1, 0, none⟩ = some (.int .i64 0)
  t1 : wr.cell? ⟨w.heap.size + 1, 1, none⟩ = some (.int .i64 0)
  f : ∀ i, wr.frozen? ⟨w.heap.size + 1, i, none⟩ = false
theorem WB.below {w wr w1 : World} {al : Int} (h : WB w al wr) (hb : Below wr.heap.size wr w1) : WB w al w1 :=
  ⟨h.bel.trans (hb.mono h.bel.size), keep_below hb h.e1, keep_below hb h.t0, keep_below hb h.t1, fun i => (hb.frozen (p := ⟨w.heap.size + 1, i, none⟩) (by have := World.block_lt_of_cell? wr _ h.t0; exact this)).trans (h.f i)⟩
theorem WB.start (w : World) (m al no : Int) (A : Option Addr) (len cap : Nat) : WB w al
    ((w.alloc (.cells #[.int .i64 m, .int .i64 al, .int .i64 no, .slice A len cap] 26)).alloc (.cells #[.int .i64 0, .int .i64 0] 30)) := by
  obtain ⟨w1, h1⟩ : ∃ W, W = w.alloc (.cells #[.int .i64 m, .int .i64 al, .int .i64 no, .slice A len cap] 26) := ⟨_, rfl⟩
  have z1 : w1.heap.size = w.heap.size + 1 := by rw [h1]; simp
  have b1 : Below w.heap.size w w1 := by rw [h1]; exact (Below.refl _ _).alloc (Nat.le_refl _) _
  have e1 : w1.cell? ⟨w.heap.size, 1, none⟩ = some (.int .i64 al) := by rw [h1]; simp
  rw [← h1]
  clear h1
  have b2 : Below w1.heap.size w1 (w1.alloc (.cells #[.int .i64 0, .int .i64 0] 30)) := (Below.refl _ _).alloc (Nat.le_refl _) _
  refine ⟨b1.trans (b2.mono b1.size), keep_below b2 e1, ?_, ?_, fun i => ?_⟩ <;> rw [← z1] <;> simp [go_sem]
set_option maxRecDepth 8000 in
set_option maxHeartbeats 1000000 in
theorem wrong_head (m al no : Int) (A : Option Addr) (len cap : Nat) (w : World) (h : headB m al no = false) :
    Calls Try.prog 12 #[sysV m al no A len cap] w fun e w' => e = .returned (faultV (3, 0)) ∧ Below w.heap.size w w' := by
  have hW := WB.start w m al no A len cap
  unfold headB at h
  unfold sysV
  have hc : m < 0 ∨ (¬ m < 0 ∧ 6 ≤ m) ∨ ((¬ m < 0 ∧ ¬ 6 ≤ m) ∧ setB al = false) ∨ ((¬ m < 0 ∧ ¬ 6 ≤ m) ∧ setB al = true ∧ setB no = false) := by
    cases h1 : setB al <;> cases h2 : setB no <;> simp [h1, h2] at h ⊢ <;> omega
  clear h
  have HW := hide hW
  clear hW
  rcases hc with h0 | ⟨h0, h1⟩ | ⟨⟨h0, h1⟩, h2⟩ | ⟨⟨h0, h1⟩, h2, h3⟩
  all_goals
    go_enter Try.func12, Try.ntmps12
    go_wp2_with (first
      | (go_at_call 33; refine (set_any _ _).mono ?_; rintro e w1 ⟨rfl, hw⟩; obtain rfl := hw.symm))
    refine bodyPost_ret (v := faultV (3, 0)) (by simp [results, Try.results12, go_sem, faultV]) rfl ⟨rfl, ?_⟩
    go_grown
set_option maxRecDepth 8000 in
set_option maxHeartbeats 1000000 in
theorem wrong_many (m al no : Int) (A : Option Addr) (len cap : Nat) (w : World) (h : headB m al no = true) (hl : 8 < len) :
    Calls Try.prog 12 #[sysV m al no A len cap] w fun e w' => e = .returned (faultV (4, 0)) ∧ Below w.heap.size w w' := by
  unfold headB at h
  unfold sysV
  simp only [Bool.and_eq_true, decide_eq_true_eq] at h
  obtain ⟨⟨⟨h0, h1⟩, h2⟩, h3⟩ := h
  have hl' : (8 : Int) < (len : Int) := by omega
  go_enter Try.func12, Try.ntmps12
  go_wp2_with (first
    | (go_at_call 33; refine (set_any _ _).mono ?_; rintro e w1 ⟨rfl, hw⟩; obtain rfl := hw.symm))
  refine bodyPost_ret (v := faultV (4, 0)) (by simp [results, Try.results12, go_sem, faultV]) rfl ⟨rfl, ?_⟩
  go_grown
theorem fb_step (al : Int) (a : Nat → ActI) (len j : Nat) (h : j < len) : fbTo al a (len - j) j = if waAt al a j = 0 then fbTo al a (len - (j + 1)) (j + 1) else (waAt al a j, (j : Int)) := by
  rw [show len - j = (len - (j + 1)) + 1 by omega, fbTo]
set_option maxRecDepth 8000 in
set_option maxHeartbeats 2000000 in
theorem wrong_body (m al no : Int) (A : Option Addr) (len cap : Nat) (a : Nat → ActI) (w : World) (h : headB m al no = true) (hl : len ≤ 8) (hA : ActsAt w A len a) :
    Calls Try.prog 12 #[sysV m al no A len cap] w fun e w' => e = .returned (faultV (fbTo al a len 0)) ∧ Below w.heap.size w w' := by
  have hW := WB.start w m al no A len cap
  unfold headB at h
  unfold sysV
  simp only [Bool.and_eq_true, decide_eq_true_eq] at h
  obtain ⟨⟨⟨h0, h1⟩, h2⟩, h3⟩ := h
  have hl' : ¬ (8 : Int) < (len : Int) := by omega
  have HW := hide hW
  have HA := hide hA
  clear hW hA
  go_enter Try.func12, Try.ntmps12
  go_wp2_with (first
    | (go_at_call 33; refine (set_any _ _).mono ?_; rintro e w1 ⟨rfl, hw⟩; obtain rfl := hw.symm))
  go_loopw [3, 41] (fun r i wr => ∃ j : Nat, j ≤ len ∧ i = .int .i64 j ∧ r = .int .i64 (rbTo al a j) ∧ fbTo al a len 0 = fbTo al a (len - j) j ∧ WB w al wr) (fun _ i _ => len - (intOf i).toNat)
  case atStart => exact ⟨0, Nat.zero_le _, rfl, rfl, rfl, unhide HW⟩
  case round =>
    clear HW
    obtain ⟨j, hj, rfl, rfl, hF, hN⟩ := hrel
    have HF := hide hF
    clear hF
    by_cases hlt : j < len
    · have j0 : (0 : Int) ≤ (j : Int) := by omega
      have j1 : (j : Int) < (len : Int) := by omega
      obtain ⟨b, off, rfl, q0, q1, q2, q3⟩ := unhide HA j hlt
      have q0 := keep_below hN.bel q0
      have q1 := keep_below hN.bel q1
      have q2 := keep_below hN.bel q2
      have q3 := keep_below hN.bel q3
      have HN := hide hN
      have HS := hide (fb_step al a len j hlt)
      have HR : Hid (rbTo al a (j + 1) = bits .and .i64 (afI (a j).k (a j).p (rbTo al a j)) al) := rfl
      have HE : Hid (waAt al a j = waI (a j).k (a j).p (a j).f (a j).n (rbTo al a j)) := rfl
      clear hN HA
      generalize waAt al a j = ej at *
      generalize rbTo al a j = rj at *
      generalize a j = y at *
      obtain ⟨k, p, f, n⟩ := y
      dsimp only at *
      have HC := wrongAct_any k p f n rj
      rw [← unhide HE] at HC
      have HC := hide HC
      clear HE
      by_cases he : ej = 0
      · subst he
        go_wp2_with (first
          | (go_at_call 34; refine (unhide HC _).mono ?_; rintro e w5 ⟨rfl, hb5⟩; have hN5 := (unhide HN).below (Below.trans ((Below.refl _ _).alloc (Nat.le_refl _) _) (hb5.mono (by simp))); have d0 := keep_below hb5 (p := ⟨wr.heap.size, 0, none⟩) (v := .int .i64 k) (by simp); have d1 := keep_below hb5 (p := ⟨wr.heap.size, 1, none⟩) (v := .int .i64 p) (by simp); have d2 := keep_below hb5 (p := ⟨wr.heap.size, 2, none⟩) (v := .int .i64 f) (by simp); have d3 := keep_below hb5 (p := ⟨wr.heap.size, 3, none⟩) (v := .int .i64 n) (by simp); clear hb5))
        clear HC HN q0 q1 q2 q3
        generalize wr.heap.size = b9 at *
        have hne : Nonempty (Sub w5) := ⟨⟨w5, Below.refl _ _⟩⟩
        have s1 := sub_cell hN5.e1
        have d0 := sub_cell d0
        have d1 := sub_cell d1
        have d2 := sub_cell d2
        have d3 := sub_cell d3
        have HN := hide hN5
        clear hN5
        refine wp_region_sub (by kernel_rfl) (by kernel_rfl) ?_
        repeat (go_big_quiet_step ((first
          | (go_at_call 35; exact sub_bel (after_any _ _ _ _ _ _)))))
        refine wpQuiet_nil ?_
        rintro w6 ⟨xs, hxs⟩
        have hb6 := xs.bel
        rw [← hxs] at hb6
        have hN6 := (unhide HN).below hb6
        clear hxs xs hb6 s1 d0 d1 d2 d3 hne HN
        have HN := hide hN6
        clear hN6
        go_wp2_with fail
        go_roundw
        case rel => exact ⟨j + 1, by omega, by go_num, by rw [unhide HR], (unhide HF).trans ((unhide HS).trans (by simp)), unhide HN⟩
        case measure => simp [intOf]; omega
      · go_wp2_with (first
          | (go_at_call 34; refine (unhide HC _).mono ?_; rintro e w5 ⟨rfl, hb5⟩; have hN5 := (unhide HN).below (Below.trans ((Below.refl _ _).alloc (Nat.le_refl _) _) (hb5.mono (by simp))); clear hb5; have t0 := hN5.t0; have t1 := hN5.t1; have f0 := hN5.f 0; have f1 := hN5.f 1))
        have hv : fbTo al a len 0 = (ej, (j : Int)) := by rw [unhide HF, unhide HS, if_neg he]
        refine bodyPost_ret (v := faultV (ej, (j : Int))) (by simp [results, Try.results12, go_sem, faultV, t0, t1]) rfl ⟨by rw [hv], ?_⟩
        exact below_setCells (w.heap.size + 1) (by omega) [.int .i64 ej, .int .i64 (j : Int)] 0 w5 hN5.bel
    · obtain rfl : j = len := by omega
      have hv : fbTo al a j 0 = (0, 0) := by rw [unhide HF, Nat.sub_self]; rfl
      have t0 := hN.t0
      have t1 := hN.t1
      have f0 := hN.f 0
      have f1 := hN.f 1
      have HB := hide hN.bel
      clear hN HA
      go_wp2
      refine bodyPost_ret (v := faultV (0, 0)) (by simp [results, Try.results12, go_sem, faultV, t0, t1]) rfl ⟨by rw [hv], ?_⟩
      exact below_setCells (w.heap.size + 1) (by omega) [.int .i64 0, .int .i64 0] 0 wr (unhide HB)
theorem wrong_any (m al no : Int) (A : Option Addr) (len cap : Nat) (a : Nat → ActI) (w : World) (hA : ActsAt w A len a) :
    Calls Try.prog 12 #[sysV m al no A len cap] w fun e w' => e = .returned (faultV (wrF m al no a len)) ∧ Below w.heap.size w w' := by
  unfold wrF
  cases h : headB m al no
  · exact wrong_head m al no A len cap w h
  · by_cases hl : 8 < len
    · simp only [Bool.true_eq_false, if_false, hl, if_true]
      exact wrong_many m al no A len cap w h hl
    · simp only [Bool.true_eq_false, if_false, hl]
      exact wrong_body m al no A len cap a w h (by omega) hA
end Go.Proofs.Ytnbleebilmghcab
namespace Go.Proofs.Ytnbleebilmghcab
open Go.RowKit
attribute [local go_sem ↓] Go.wp_at_zero Go.wp_at_succ
def dsB (u r v : Int) : Bool := bits .and .i64 u (bits .or .i64 r v) != 0
def nV (r u : Int) (m l : Bool) : Value := .agg #[.int .i64 r, .int .i64 u, .bool m, .bool l]
theorem disturbs_any (r u r' u' : Int) (m l m' l' : Bool) (w : World) :
    Calls Try.prog 36 #[nV r u m l, nV r' u' m' l'] w fun e w' => e = .returned (.bool (dsB u r' u')) ∧ Below w.heap.size w w' := by
  unfold nV
  go_enter Try.func36, Try.ntmps36
  go_wp2
  go_ret
  exact ⟨rfl, by go_grown⟩
theorem alloc34 (o : Oper) (ho : o.op = .alloc 34) (a : Act) (w : World) (K : Act → World → Prop) (Q : Exit → Act → World → Prop)
    (h : K (a.put o.dst (.pointer (some ⟨w.heap.size, 0, none⟩))) (w.alloc (.cells #[.int .i64 0, .int .i64 0, .bool false, .bool false] 34))) : o.wp Try.prog a w K Q := by
  obtain ⟨dst, op, ty, pos, after, guard⟩ := o
  dsimp only at ho
  subst ho
  simp [go_sem]
  exact h
theorem info34 : (Try.prog.info? 34).map (·.size) = some 4 := by kernel_rfl
structure TwoN (w : World) (g0 g1 : Nat) (r u : Int) (m l : Bool) (r' u' : Int) (m' l' : Bool) (w1 : World) : Prop where
  bel : Below w.heap.size w w1
  c0 : w1.cell? ⟨g0, 0, none⟩ = some (.int .i64 r)
  c1 : w1.cell? ⟨g0, 1, none⟩ = some (.int .i64 u)
  c2 : w1.cell? ⟨g0, 2, none⟩ = some (.bool m)
  c3 : w1.cell? ⟨g0, 3, none⟩ = some (.bool l)
  d0 : w1.cell? ⟨g1, 0, none⟩ = some (.int .i64 r')
  d1 : w1.cell? ⟨g1, 1, none⟩ = some (.int .i64 u')
  d2 : w1.cell? ⟨g1, 2, none⟩ = some (.bool m')
  d3 : w1.cell? ⟨g1, 3, none⟩ = some (.bool l')
theorem TwoN.below {w : World} {g0 g1 : Nat} {r u : Int} {m l : Bool} {r' u' : Int} {m' l' : Bool} {w1 w2 : World} (h : TwoN w g0 g1 r u m l r' u' m' l' w1) (hb : Below w1.heap.size w1 w2) : TwoN w g0 g1 r u m l r' u' m' l' w2 :=
  ⟨h.bel.trans (hb.mono h.bel.size), keep_below hb h.c0, keep_below hb h.c1, keep_below hb h.c2, keep_below hb h.c3, keep_below hb h.d0, keep_below hb h.d1, keep_below hb h.d2, keep_below hb h.d3⟩
def twoCs (r u : Int) (m l : Bool) (r' u' : Int) (m' l' : Bool) (k : Nat) : List Value := if k = 0 then [.int .i64 r, .int .i64 u, .bool m, .bool l] else [.int .i64 r', .int .i64 u', .bool m', .bool l']
theorem wp_two_needs {id : Nat} {Q : Exit → Act → World → Prop} {a : Act} {w : World} (o0 o1 o2 o3 o4 o5 o6 o7 : Oper) (y0 y1 s0 s1 : Tmp) (hy : y0 ≠ s0 ∧ y0 ≠ s1 ∧ y1 ≠ s0 ∧ y1 ≠ s1)
    (h4 : o4.op = .alloc 34 ∧ o4.dst = some s0) (h5 : o5.op = .alloc 34 ∧ o5.dst = some s1)
    (h6 : o6.op = .store 34 (.tmp s0) (.tmp y0) ∧ o6.dst = none) (h7 : o7.op = .store 34 (.tmp s1) (.tmp y1) ∧ o7.dst = none)
    (hb : backB #[o0, o1, o2, o3, o4, o5, o6, o7] = true) (hssa : ssaB [o0, o1, o2, o3, o4, o5, o6, o7] = true) (hdst : dstB [o0, o1, o2, o3, o4, o5, o6, o7] = true)
    (hgd : [o0, o1, o2, o3, o4, o5, o6, o7].all (fun o => o.guard.isNone) = true) (hsel : Region.noSelect #[o0, o1, o2, o3, o4, o5, o6, o7] = true) (hs0 : s0 < a.tmps.size) (hs1 : s1 < a.tmps.size)
    (r u : Int) (m l : Bool) (r' u' : Int) (m' l' : Bool) (x0 x1 : Tmp) (v0 v1 : Value) (af : Act) (haf : af = (((a.put (some x0) v0).put (some y0) (nV r u m l)).put (some x1) v1).put (some y1) (nV r' u' m' l'))
    (hx : x1 ≠ y0 ∧ y1 ≠ y0) (hy0 : y0 < a.tmps.size) (hy1 : y1 < a.tmps.size)
    (hq : ∀ w1, Below w.heap.size w w1 → wpQuiet Try.prog #[o0, o1, o2, o3, o4, o5, o6, o7] (fun w' => ∃ x : Sub w1, w' = x.val) (fun a' => a' = af) [o0, o1, o2, o3] a)
    (hend : ∀ g0 g1 w1, TwoN w g0 g1 r u m l r' u' m' l' w1 → Q .normal ((af.put (some s0) (.pointer (some ⟨g0, 0, none⟩))).put (some s1) (.pointer (some ⟨g1, 0, none⟩))) w1) :
    (Code.region id #[o0, o1, o2, o3, o4, o5, o6, o7] true).wp Try.prog Q a w := by
  have e0 : af.eval (.tmp y0) = nV r u m l := by
    show af.tmps.getD y0 undef = _
    rw [haf, put_get, if_neg (fun e => hx.2 e.1), put_get, if_neg (fun e => hx.1 e.1), put_get, if_pos ⟨rfl, by rw [put_size]; exact hy0⟩]
  have e1 : af.eval (.tmp y1) = nV r' u' m' l' := by
    show af.tmps.getD y1 undef = _
    rw [haf, put_get, if_pos ⟨rfl, by rw [put_size, put_size, put_size]; exact hy1⟩]
  refine wp_region_vars (ops := [o0, o1, o2, o3, o4, o5, o6, o7]) 4 2 (s := fun k => if k = 0 then s0 else s1) (T := fun _ => 34) (y := fun k => if k = 0 then .tmp y0 else .tmp y1)
    (z := fun _ => #[.int .i64 0, .int .i64 0, .bool false, .bool false]) (sz := fun _ => 4) (twoCs r u m l r' u' m' l') ?_ (by kernel_rfl) hb hssa hdst hgd hsel ?_ ?_ af hq ?_ ?_
  · refine ⟨rfl, fun k hk => ?_, fun k hk => ?_, fun k _ o ho => alloc34 o ho, fun _ _ => rfl, fun _ _ => info34⟩
    · rcases (by omega : k = 0 ∨ k = 1) with rfl | rfl
      · exact ⟨o4, rfl, h4.1, h4.2⟩
      · exact ⟨o5, rfl, h5.1, h5.2⟩
    · rcases (by omega : k = 0 ∨ k = 1) with rfl | rfl
      · exact ⟨o6, rfl, h6.1, h6.2⟩
      · exact ⟨o7, rfl, h7.1, h7.2⟩
  · intro k hk k' hk'
    rcases (by omega : k = 0 ∨ k = 1) with rfl | rfl <;> rcases (by omega : k' = 0 ∨ k' = 1) with rfl | rfl <;> simp <;> first | exact hy.1 | exact hy.2.1 | exact hy.2.2.1 | exact hy.2.2.2
  · intro k hk
    rcases (by omega : k = 0 ∨ k = 1) with rfl | rfl
    · exact hs0
    · exact hs1
  · intro k hk
    rcases (by omega : k = 0 ∨ k = 1) with rfl | rfl
    · exact ⟨e0, rfl, by simp [twoCs, Value.oneCell']⟩
    · exact ⟨e1, rfl, by simp [twoCs, Value.oneCell']⟩
  · intro v g w1 hv
    have p0 := (hv.own 0 (by omega) rfl).1
    have p1 := (hv.own 1 (by omega) rfl).1
    have R0 := (hv.has 0 (by omega) rfl).2
    have R1 := (hv.has 1 (by omega) rfl).2
    have := hend (g 0) (g 1) w1 ⟨hv.bel, by simpa using R0 0 _ rfl, by simpa using R0 1 _ rfl, by simpa using R0 2 _ rfl, by simpa using R0 3 _ rfl, by simpa using R1 0 _ rfl, by simpa using R1 1 _ rfl, by simpa using R1 2 _ rfl, by simpa using R1 3 _ rfl⟩
    simpa [putAll, p0, p1] using this
def clN (r u : Int) (m l : Bool) (r' u' : Int) (m' l' : Bool) : Bool := m || (m' || (l || (l' || (dsB u r' u' || dsB u' r u))))
def clB (al : Int) (a : Nat → ActI) (len : Nat) (al' : Int) (a' : Nat → ActI) (len' : Nat) : Bool :=
  clN (rdTo a len) (wrTo a len) (mvTo al a len) (lfTo a len) (rdTo a' len') (wrTo a' len') (mvTo al' a' len') (lfTo a' len')
set_option maxRecDepth 8000 in
set_option maxHeartbeats 2000000 in
theorem clash_any (m al no : Int) (A : Option Addr) (len cap : Nat) (a : Nat → ActI) (m' al' no' : Int) (A' : Option Addr) (len' cap' : Nat) (a' : Nat → ActI) (w : World) (hl : len ≤ 8) (hl' : len' ≤ 8) (hA : ActsAt w A len a) (hA' : ActsAt w A' len' a') :
    Calls Try.prog 13 #[sysV m al no A len cap, sysV m' al' no' A' len' cap'] w fun e w' => e = .returned (.bool (clB al a len al' a' len')) ∧ Below w.heap.size w w' := by
  have hnA : ∀ W1, Below w.heap.size w W1 → Calls Try.prog 14 #[sysV m al no A len cap] W1 fun e w' => e = .returned (needsV al a len) ∧ Below W1.heap.size W1 w' := fun W1 h => needs_any m al no A len cap a W1 hl (hA.below h)
  have hnB : ∀ W1, Below w.heap.size w W1 → Calls Try.prog 14 #[sysV m' al' no' A' len' cap'] W1 fun e w' => e = .returned (needsV al' a' len') ∧ Below W1.heap.size W1 w' := fun W1 h => needs_any m' al' no' A' len' cap' a' W1 hl' (hA'.below h)
  unfold clB
  unfold needsV sysV at *
  generalize rdTo a len = r at *
  generalize wrTo a len = u at *
  generalize mvTo al a len = mv at *
  generalize lfTo a len = lf at *
  generalize rdTo a' len' = r' at *
  generalize wrTo a' len' = u' at *
  generalize mvTo al' a' len' = mv' at *
  generalize lfTo a' len' = lf' at *
  have HA := hide hnA
  have HB := hide hnB
  clear hnA hnB hA hA'
  go_enter Try.func13, Try.ntmps13
  go_wp2
  obtain ⟨W, hW⟩ : ∃ W, W = (w.alloc (.cells #[.int .i64 m, .int .i64 al, .int .i64 no, .slice A len cap] 26)).alloc (.cells #[.int .i64 m', .int .i64 al', .int .i64 no', .slice A' len' cap'] 26) := ⟨_, rfl⟩
  have hB : Below w.heap.size w W := by rw [hW]; go_grown
  have p0 : W.cell? ⟨w.heap.size, 0, none⟩ = some (.int .i64 m) := by rw [hW]; simp [go_sem]
  have p1 : W.cell? ⟨w.heap.size, 1, none⟩ = some (.int .i64 al) := by rw [hW]; simp [go_sem]
  have p2 : W.cell? ⟨w.heap.size, 2, none⟩ = some (.int .i64 no) := by rw [hW]; simp [go_sem]
  have p3 : W.cell? ⟨w.heap.size, 3, none⟩ = some (.slice A len cap) := by rw [hW]; simp [go_sem]
  have q0 : W.cell? ⟨w.heap.size + 1, 0, none⟩ = some (.int .i64 m') := by rw [hW]; simp [go_sem]
  have q1 : W.cell? ⟨w.heap.size + 1, 1, none⟩ = some (.int .i64 al') := by rw [hW]; simp [go_sem]
  have q2 : W.cell? ⟨w.heap.size + 1, 2, none⟩ = some (.int .i64 no') := by rw [hW]; simp [go_sem]
  have q3 : W.cell? ⟨w.heap.size + 1, 3, none⟩ = some (.slice A' len' cap') := by rw [hW]; simp [go_sem]
  rw [← hW]
  clear hW
  rename_i K1 hK1
  have HK := hide hK1
  clear hK1
  refine wp_two_needs _ _ _ _ _ _ _ _ 8 10 5 6 (by decide) ⟨rfl, rfl⟩ ⟨rfl, rfl⟩ ⟨rfl, rfl⟩ ⟨rfl, rfl⟩ (by kernel_rfl) (by kernel_rfl) (by kernel_rfl) (by kernel_rfl) (by kernel_rfl) (by simp) (by simp) r u mv lf r' u' mv' lf' 7 9
    (.agg #[.int .i64 m, .int .i64 al, .int .i64 no, .slice A len cap]) (.agg #[.int .i64 m', .int .i64 al', .int .i64 no', .slice A' len' cap']) _ rfl (by decide) (by simp) (by simp) ?q ?fin
  case q =>
    intro w1 hw1
    have hne : Nonempty (Sub w1) := ⟨⟨w1, Below.refl _ _⟩⟩
    have p0 := sub_cell (keep_below hw1 p0)
    have p1 := sub_cell (keep_below hw1 p1)
    have p2 := sub_cell (keep_below hw1 p2)
    have p3 := sub_cell (keep_below hw1 p3)
    have q0 := sub_cell (keep_below hw1 q0)
    have q1 := sub_cell (keep_below hw1 q1)
    have q2 := sub_cell (keep_below hw1 q2)
    have q3 := sub_cell (keep_below hw1 q3)
    have HW1 := hide (hB.trans (hw1.mono hB.size))
    clear hw1
    have HCA := hide (fun x : Sub w1 => unhide HA x.val ((unhide HW1).trans (x.bel.mono (unhide HW1).size)))
    have HCB := hide (fun x : Sub w1 => unhide HB x.val ((unhide HW1).trans (x.bel.mono (unhide HW1).size)))
    go_big_quiet_step (fail)
    go_big_quiet_step ((go_at_call 14; exact sub_bel (unhide HCA _)))
    go_big_quiet_step (fail)
    go_big_quiet_step ((go_at_call 14; exact sub_bel (unhide HCB _)))
    exact wpQuiet_nil (by simp [Act.put, nV])
  case fin =>
    intro g0 g1 w1 hN
    have hB1 : Below w.heap.size w w1 := hB.trans (hN.bel.mono hB.size)
    clear p0 p1 p2 p3 q0 q1 q2 q3 HA HB hB
    simp [Act.put, nV]
    have hK := unhide HK
    clear HK
    have HN := hide hN
    have c0 := hN.c0
    have c1 := hN.c1
    have c2 := hN.c2
    have c3 := hN.c3
    have d0 := hN.d0
    have d1 := hN.d1
    have d2 := hN.d2
    have d3 := hN.d3
    clear hN
    have HD := hide (disturbs_any r u r' u' mv lf mv' lf')
    have HD2 := hide (disturbs_any r' u' r u mv' lf' mv lf)
    have HB1 := hide hB1
    clear hB1
    cases mv
    case' false => cases mv'
    case' false.false => cases lf
    case' false.false.false => cases lf'
    case' false.false.false.false => cases hd : dsB u r' u'
    all_goals
      go_wp2_with (first
        | (go_at_call 36; refine (unhide HD _).mono ?_; rintro e w2 ⟨rfl, hb2⟩; clear HD; have hN2 := (unhide HN).below hb2; clear c0 c1 c2 c3 d0 d1 d2 d3; have c0 := hN2.c0; have c1 := hN2.c1; have c2 := hN2.c2; have c3 := hN2.c3; have d0 := hN2.d0; have d1 := hN2.d1; have d2 := hN2.d2; have d3 := hN2.d3; have HB2 := hide ((unhide HB1).trans (hb2.mono (unhide HB1).size)); clear hN2 hb2 HB1)
        | (go_at_call 36; refine (unhide HD2 _).mono ?_; rintro e w3 ⟨rfl, hb3⟩; have HB3 := hide ((unhide HB2).trans (hb3.mono (unhide HB2).size)); clear hb3 HB2))
      go_ret
      first
      | exact ⟨by simp [clN], unhide HB1⟩
      | exact ⟨by simp [clN, hd], unhide HB2⟩
      | exact ⟨by simp [clN, hd], unhide HB3⟩
end Go.Proofs.Ytnbleebilmghcab
namespace Go.Proofs.Ytnbleebilmghcab
open Go.RowKit
attribute [local go_sem ↓] Go.wp_at_zero Go.wp_at_succ
def modV (r u : Int) (l : Bool) : Value := .agg #[.int .i64 r, .int .i64 u, .bool l]
def mayN (mr mu : Int) (ml : Bool) (al no r u : Int) (l : Bool) : Bool := inB (bits .or .i64 (bits .or .i64 r al) no) mr && (inB u mu && (ml || !l))
def mayB (mr mu : Int) (ml : Bool) (al no : Int) (a : Nat → ActI) (len : Nat) : Bool := mayN mr mu ml al no (rdTo a len) (wrTo a len) (lfTo a len)
theorem le_two (w : World) (o1 o2 : Obj) : w.heap.size ≤ ((w.alloc o1).alloc o2).heap.size := by
  have h1 : (w.alloc o1).heap.size = w.heap.size + 1 := by simp
  have h2 : ((w.alloc o1).alloc o2).heap.size = (w.alloc o1).heap.size + 1 := by simp
  omega
theorem may_after {w w1 : World} {mr mu m al no : Int} {ml : Bool} {A : Option Addr} {len cap : Nat}
    (hb : Below ((w.alloc (.cells #[.int .i64 mr, .int .i64 mu, .bool ml] 79)).alloc (.cells #[.int .i64 m, .int .i64 al, .int .i64 no, .slice A len cap] 26)).heap.size
      ((w.alloc (.cells #[.int .i64 mr, .int .i64 mu, .bool ml] 79)).alloc (.cells #[.int .i64 m, .int .i64 al, .int .i64 no, .slice A len cap] 26)) w1) :
    w1.cell? ⟨w.heap.size, 0, none⟩ = some (.int .i64 mr) ∧ w1.cell? ⟨w.heap.size, 1, none⟩ = some (.int .i64 mu) ∧ w1.cell? ⟨w.heap.size, 2, none⟩ = some (.bool ml) ∧
    w1.cell? ⟨w.heap.size + 1, 1, none⟩ = some (.int .i64 al) ∧ w1.cell? ⟨w.heap.size + 1, 2, none⟩ = some (.int .i64 no) ∧ w.heap.size + 1 < w1.heap.size ∧ w.heap.size < w1.heap.size ∧ Below w.heap.size w w1 := by
  have q1 := keep_below hb (p := ⟨w.heap.size + 1, 1, none⟩) (v := .int .i64 al) (by simp [go_sem])
  have hz1 := World.block_lt_of_cell? w1 _ q1
  dsimp only at hz1
  exact ⟨keep_below hb (by simp [go_sem]), keep_below hb (by simp [go_sem]), keep_below hb (by simp [go_sem]), q1, keep_below hb (by simp [go_sem]), hz1, by omega, Below.trans (by go_grown) (hb.mono (le_two _ _ _))⟩
set_option maxRecDepth 8000 in
set_option maxHeartbeats 1000000 in
theorem may_any (mr mu : Int) (ml : Bool) (m al no : Int) (A : Option Addr) (len cap : Nat) (a : Nat → ActI) (w : World) (hl : len ≤ 8) (hA : ActsAt w A len a) :
    Calls Try.prog 32 #[modV mr mu ml, sysV m al no A len cap] w fun e w' => e = .returned (.bool (mayB mr mu ml al no a len)) ∧ Below w.heap.size w w' := by
  have hnA : ∀ W1, Below w.heap.size w W1 → Calls Try.prog 14 #[sysV m al no A len cap] W1 fun e w' => e = .returned (needsV al a len) ∧ Below W1.heap.size W1 w' := fun W1 h => needs_any m al no A len cap a W1 hl (hA.below h)
  unfold mayB modV
  unfold needsV sysV at *
  generalize rdTo a len = r at *
  generalize wrTo a len = u at *
  generalize mvTo al a len = mv at *
  generalize lfTo a len = lf at *
  have HA := hide hnA
  clear hnA hA
  cases h1 : inB (bits .or .i64 (bits .or .i64 r al) no) mr
  case' true => cases h2 : inB u mu
  case' true.true => cases ml
  all_goals
    go_enter Try.func32, Try.ntmps32
    go_wp2_with (first
      | (go_at_call 14; refine (unhide HA _ (by go_grown)).mono ?_; rintro e w1 ⟨rfl, hb1⟩; obtain ⟨p0, p1, p2, q1, q2, hz1, hz0, hB1⟩ := may_after hb1; have HB1 := hide hB1; clear hb1 hB1)
      | (go_at_call 56; refine (within_any _ _ _).mono ?_; rintro e w2 ⟨rfl, hw⟩; obtain rfl := hw.symm))
    go_ret
    exact ⟨by first | (simp [mayN, h1]; done) | (simp [mayN, h1, h2]; done), (unhide HB1).alloc (unhide HB1).size _⟩
def actA : Nat → ActI := fun _ => ⟨3, 0, 1, 0⟩
theorem actA_needs : needsV 3 actA 1 = nV 3 1 false false := by
  have e1 : rdTo actA 1 = 3 := by decide +kernel
  have e2 : wrTo actA 1 = 1 := by decide +kernel
  have e3 : mvTo 3 actA 1 = false := by decide +kernel
  have e4 : lfTo actA 1 = false := by decide +kernel
  unfold needsV nV
  rw [e1, e2, e3, e4]
theorem actA_wrong : wrF 0 3 0 actA 1 = (0, 0) := by decide +kernel
theorem actA_may : mayB 3 1 false 3 0 actA 1 = true := by decide +kernel
theorem actA_mayn : mayB 1 1 false 3 0 actA 1 = false := by decide +kernel
theorem actA_clash : clB 3 actA 1 3 actA 1 = true := by decide +kernel
section
variable (b : Nat) (W : World)
theorem alive_needs (h : ActsAt W (some ⟨b, 0, none⟩) 1 actA) : Calls Try.prog 14 #[sysV 0 3 0 (some ⟨b, 0, none⟩) 1 1] W fun e w' => e = .returned (nV 3 1 false false) ∧ Below W.heap.size W w' := by
  have := needs_any 0 3 0 (some ⟨b, 0, none⟩) 1 1 actA W (by omega) h
  rwa [actA_needs] at this
theorem alive_wrong (h : ActsAt W (some ⟨b, 0, none⟩) 1 actA) : Calls Try.prog 12 #[sysV 0 3 0 (some ⟨b, 0, none⟩) 1 1] W fun e w' => e = .returned (.agg #[.int .i64 0, .int .i64 0]) ∧ Below W.heap.size W w' := by
  have := wrong_any 0 3 0 (some ⟨b, 0, none⟩) 1 1 actA W h
  rwa [actA_wrong] at this
theorem alive_may (h : ActsAt W (some ⟨b, 0, none⟩) 1 actA) : Calls Try.prog 32 #[modV 3 1 false, sysV 0 3 0 (some ⟨b, 0, none⟩) 1 1] W fun e w' => e = .returned (.bool true) ∧ Below W.heap.size W w' := by
  have := may_any 3 1 false 0 3 0 (some ⟨b, 0, none⟩) 1 1 actA W (by omega) h
  rwa [actA_may] at this
theorem alive_mayn (h : ActsAt W (some ⟨b, 0, none⟩) 1 actA) : Calls Try.prog 32 #[modV 1 1 false, sysV 0 3 0 (some ⟨b, 0, none⟩) 1 1] W fun e w' => e = .returned (.bool false) ∧ Below W.heap.size W w' := by
  have := may_any 1 1 false 0 3 0 (some ⟨b, 0, none⟩) 1 1 actA W (by omega) h
  rwa [actA_mayn] at this
theorem alive_clash (h : ActsAt W (some ⟨b, 0, none⟩) 1 actA) : Calls Try.prog 13 #[sysV 0 3 0 (some ⟨b, 0, none⟩) 1 1, sysV 0 3 0 (some ⟨b, 0, none⟩) 1 1] W fun e w' => e = .returned (.bool true) ∧ Below W.heap.size W w' := by
  have := clash_any 0 3 0 (some ⟨b, 0, none⟩) 1 1 actA 0 3 0 (some ⟨b, 0, none⟩) 1 1 actA W (by omega) (by omega) h h
  rwa [actA_clash] at this
end
theorem run_fieldM (x y : Value) (w : World) : Sem.run Try.prog (Instr.field 30 (.agg #[x, y]) 0) w = .ok x w := by
  simp [Instr.field, asAgg, go_sem]
structure AW (w W : World) : Prop where
  bel : Below w.heap.size w W
  acts : ActsAt W (some ⟨w.heap.size, 0, none⟩) 1 actA
  s0 : W.cell? ⟨w.heap.size + 1, 0, none⟩ = some (.int .i64 0)
  s1 : W.cell? ⟨w.heap.size + 1, 1, none⟩ = some (.int .i64 3)
  s2 : W.cell? ⟨w.heap.size + 1, 2, none⟩ = some (.int .i64 0)
  s3 : W.cell? ⟨w.heap.size + 1, 3, none⟩ = some (.slice (some ⟨w.heap.size, 0, none⟩) 1 1)
theorem AW.below {w W W1 : World} (h : AW w W) (hb : Below W.heap.size W W1) : AW w W1 :=
  ⟨h.bel.trans (hb.mono h.bel.size), h.acts.below hb, keep_below hb h.s0, keep_below hb h.s1, keep_below hb h.s2, keep_below hb h.s3⟩
theorem AW.start (w : World) : AW w ((w.alloc (.cells #[.int .i64 3, .int .i64 0, .int .i64 1, .int .i64 0] 76)).alloc (.cells #[.int .i64 0, .int .i64 3, .int .i64 0, .slice (some ⟨w.heap.size, 0, none⟩) 1 1] 26)) := by
  refine ⟨by go_grown, fun j hj => ?_, by simp [go_sem], by simp [go_sem], by simp [go_sem], by simp [go_sem]⟩
  obtain rfl : j = 0 := by omega
  exact ⟨w.heap.size, 0, rfl, by simp [go_sem, actA], by simp [go_sem, actA], by simp [go_sem, actA], by simp [go_sem, actA]⟩
structure AN (w : World) (b : Nat) (W : World) : Prop extends AW w W where
  n0 : W.cell? ⟨b, 0, none⟩ = some (.int .i64 3)
  n1 : W.cell? ⟨b, 1, none⟩ = some (.int .i64 1)
  n2 : W.cell? ⟨b, 2, none⟩ = some (.bool false)
theorem AN.below {w W W1 : World} {b : Nat} (h : AN w b W) (hb : Below W.heap.size W W1) : AN w b W1 := ⟨h.toAW.below hb, keep_below hb h.n0, keep_below hb h.n1, keep_below hb h.n2⟩
theorem AW.needs {w W : World} (h : AW w W) : AN w W.heap.size (W.alloc (.cells #[.int .i64 3, .int .i64 1, .bool false, .bool false] 34)) :=
  ⟨h.below ((Below.refl _ _).alloc (Nat.le_refl _) _), by simp, by simp, by simp⟩
set_option maxRecDepth 8000 in
set_option maxHeartbeats 1000000 in
theorem alive_any (w : World) : Calls Try.prog 11 #[] w fun e w' => e = .returned (.bool true) ∧ Below w.heap.size w w' := by
  have hS := AW.start w
  have HS := hide hS
  clear hS
  go_enter Try.func11, Try.ntmps11
  go_wp2_with fail
  obtain ⟨W, hW⟩ : ∃ W, W = (w.alloc (.cells #[.int .i64 3, .int .i64 0, .int .i64 1, .int .i64 0] 76)).alloc (.cells #[.int .i64 0, .int .i64 3, .int .i64 0, .slice (some ⟨w.heap.size, 0, none⟩) 1 1] 26) := ⟨_, rfl⟩
  have hS := unhide HS
  rw [← hW] at hS ⊢
  clear hW HS
  refine (alive_needs _ _ hS.acts).mono ?_
  rintro e w1 ⟨rfl, hb1⟩
  have hS1 := hS.below hb1
  have s0 := hS1.s0
  have s1 := hS1.s1
  have s2 := hS1.s2
  have s3 := hS1.s3
  have hz : w.heap.size + 1 < w1.heap.size := World.block_lt_of_cell? w1 _ s0
  have hN := hS1.needs
  have HN := hide hN
  clear hN hS1 hS hb1
  unfold nV
  go_wp2_with fail
  obtain ⟨W2, hW2⟩ : ∃ W, W = w1.alloc (.cells #[.int .i64 3, .int .i64 1, .bool false, .bool false] 34) := ⟨_, rfl⟩
  have hN := unhide HN
  rw [← hW2] at hN ⊢
  clear hW2 HN s0 s1 s2 s3 hz
  generalize w1.heap.size = b at *
  refine (alive_wrong _ _ hN.acts).mono ?_
  rintro e w3 ⟨rfl, hb3⟩
  have hN := hN.below hb3
  clear hb3
  have s0 := hN.s0
  have s1 := hN.s1
  have s2 := hN.s2
  have s3 := hN.s3
  have n0 := hN.n0
  have n1 := hN.n1
  have n2 := hN.n2
  have HN := hide hN
  clear hN
  have hfd := run_fieldM
  go_wp2_with fail
  clear hfd
  refine (alive_may _ _ (unhide HN).acts).mono ?_
  rintro e w4 ⟨rfl, hb4⟩
  have hN := (unhide HN).below hb4
  clear hb4 HN s0 s1 s2 s3 n0 n1 n2
  have s0 := hN.s0
  have s1 := hN.s1
  have s2 := hN.s2
  have s3 := hN.s3
  have HN := hide hN
  clear hN
  go_wp2_with fail
  refine (alive_mayn _ _ (unhide HN).acts).mono ?_
  rintro e w5 ⟨rfl, hb5⟩
  have hN := (unhide HN).below hb5
  clear hb5 HN s0 s1 s2 s3
  have s0 := hN.s0
  have s1 := hN.s1
  have s2 := hN.s2
  have s3 := hN.s3
  have HN := hide hN
  clear hN
  go_wp2_with fail
  refine (alive_clash _ _ (unhide HN).acts).mono ?_
  rintro e w6 ⟨rfl, hb6⟩
  have HB := hide ((unhide HN).bel.trans (hb6.mono (unhide HN).bel.size))
  clear hb6 HN s0 s1 s2 s3
  go_wp2_with fail
  go_ret
  exact ⟨rfl, unhide HB⟩
end Go.Proofs.Ytnbleebilmghcab
namespace Go.Proofs.Ytnbleebilmghcab
open Go.RowKit
theorem wrapz (r : BitVec 64) : IntKind.i64.wrap (r.toNat : Int) = 0 ↔ r = 0#64 := by
  rw [IntKind.wrap_i64]
  have := r.isLt
  constructor
  · intro h
    apply BitVec.eq_of_toNat_eq
    simp
    omega
  · rintro rfl; simp
theorem ofwrap (r : BitVec 64) : BitVec.ofInt 64 (IntKind.i64.wrap (r.toNat : Int)) = r := by
  rw [IntKind.wrap_i64]
  have := r.isLt
  apply BitVec.eq_of_toNat_eq
  rw [BitVec.toNat_ofInt]
  simp
  omega
theorem andz (x y : Int) : bits .and .i64 x y = 0 ↔ BitVec.ofInt 64 x &&& BitVec.ofInt 64 y = 0#64 := wrapz _
theorem andNotz (x y : Int) : bits .andNot .i64 x y = 0 ↔ BitVec.ofInt 64 x &&& ~~~BitVec.ofInt 64 y = 0#64 := wrapz _
theorem of_or (x y : Int) : BitVec.ofInt 64 (bits .or .i64 x y) = BitVec.ofInt 64 x ||| BitVec.ofInt 64 y := ofwrap _
theorem small (n : Nat) (h : n < 256) : IntKind.i64.wrap (n : Int) = (n : Int) := by rw [IntKind.wrap_i64]; omega
theorem or_set (x y : Int) (hx : setB x = true) (hy : setB y = true) : bits .or .i64 x y = ((x.toNat ||| y.toNat : Nat) : Int) ∧ setB (bits .or .i64 x y) = true := by
  have h1 := of_decide_eq_true hx
  have h2 := of_decide_eq_true hy
  obtain ⟨a, rfl⟩ := Int.eq_ofNat_of_zero_le h1.1
  obtain ⟨b, rfl⟩ := Int.eq_ofNat_of_zero_le h2.1
  have hlt : a ||| b < 2 ^ 8 := Nat.or_lt_two_pow (by omega) (by omega)
  have e : bits .or .i64 (a : Int) (b : Int) = ((a ||| b : Nat) : Int) := by
    have e1 : bits .or .i64 (a : Int) (b : Int) = IntKind.i64.wrap (((BitVec.ofInt 64 (a : Int) ||| BitVec.ofInt 64 (b : Int)).toNat : Nat) : Int) := rfl
    rw [e1, BitVec.ofInt_natCast, BitVec.ofInt_natCast, BitVec.toNat_or, BitVec.toNat_ofNat, BitVec.toNat_ofNat, Nat.mod_eq_of_lt (by omega), Nat.mod_eq_of_lt (by omega)]
    exact small _ (by omega)
  refine ⟨by simpa using e, ?_⟩
  rw [e]
  exact decide_eq_true ⟨by omega, by omega⟩
theorem bit_set (k : Int) : setB (bitI k) = true := by
  by_cases h : partB k = true
  · rcases bit_cases k h with rfl | rfl | rfl | rfl | rfl | rfl | rfl | rfl <;> decide
  · have e : bitI k = 0 := by unfold bitI; rw [if_neg]; simpa [partB] using h
    rw [e]; decide
theorem bit_pos (k : Int) (h : partB k = true) : bitI k ≠ 0 := by
  rcases bit_cases k h with rfl | rfl | rfl | rfl | rfl | rfl | rfl | rfl <;> decide
theorem or_zero (x y : Int) (hx : setB x = true) (hy : setB y = true) (h : bits .or .i64 x y = 0) : x = 0 ∧ y = 0 := by
  rw [(or_set x y hx hy).1] at h
  have h1 := of_decide_eq_true hx
  have h2 := of_decide_eq_true hy
  have h3 : x.toNat ||| y.toNat = 0 := by omega
  rw [Nat.or_eq_zero_iff] at h3
  omega
theorem or_left (x : Int) (hx : setB x = true) : bits .or .i64 0 x = x := by
  rw [(or_set 0 x (by decide) hx).1]
  have h1 := of_decide_eq_true hx
  simp; omega
def okN (al : Int) (a : Nat → ActI) (n : Nat) : Prop := ∀ j, j < n → waAt al a j = 0
theorem fb_zero (al : Int) (a : Nat → ActI) : ∀ n j, (fbTo al a n j).1 = 0 ↔ ∀ i, i < n → waAt al a (j + i) = 0
  | 0, j => by simp [fbTo]
  | n + 1, j => by
    unfold fbTo
    by_cases h : waAt al a j = 0
    · rw [if_pos h, fb_zero al a n (j + 1)]
      constructor
      · intro hh i hi
        cases i with
        | zero => exact h
        | succ i => have := hh i (by omega); rwa [show j + 1 + i = j + (i + 1) by omega] at this
      · intro hh i hi
        have := hh (i + 1) (by omega)
        rwa [show j + (i + 1) = j + 1 + i by omega] at this
    · rw [if_neg h]
      constructor
      · intro hh; exact absurd hh h
      · intro hh; exact absurd (hh 0 (by omega)) h
theorem right_spec (m al no : Int) (a : Nat → ActI) (len : Nat) : (wrF m al no a len).1 = 0 ↔ headB m al no = true ∧ len ≤ 8 ∧ okN al a len := by
  unfold wrF
  cases h : headB m al no
  · simp
  · by_cases hl : 8 < len
    · simp [hl]; intro h8; omega
    · simp only [Bool.true_eq_false, if_false, hl, fb_zero, Nat.zero_add, true_and]
      exact ⟨fun hh => ⟨by omega, hh⟩, fun hh => hh.2⟩
theorem wa_range (k p f n r : Int) (h : waI k p f n r = 0) : rgB k p f n = true ∧ 1 ≤ k ∧ k ≤ 7 := by
  unfold waI at h
  split at h
  · simp at h
  · split at h
    · simp at h
    · rename_i h1 h2
      exact ⟨by simpa using h2, by omega, by omega⟩
theorem rd_set (k p f : Int) : setB (rdI k p f) = true := by
  unfold rdI
  split
  · exact (or_set _ _ (by decide) (bit_set f)).2
  · split
    · exact (or_set _ _ (or_set _ _ (by decide) (bit_set f)).2 (bit_set p)).2
    · split
      · exact (or_set _ _ (by decide) (bit_set p)).2
      · decide
theorem wr_set (k p f n : Int) (h : rgB k p f n = true) : setB (wrI k p) = true := by
  unfold wrI
  split
  · exact (or_set _ _ (by decide) (bit_set p)).2
  · split
    · rename_i h1 h7
      subst h7
      have h2 : (setB p && valB n) = true := by simpa [rgB] using h
      rw [Bool.and_eq_true] at h2
      exact h2.1
    · decide
theorem rdTo_set (a : Nat → ActI) : ∀ j, setB (rdTo a j) = true
  | 0 => rfl
  | j + 1 => (or_set _ _ (rdTo_set a j) (rd_set _ _ _)).2
theorem wrTo_set (al : Int) (a : Nat → ActI) : ∀ j, okN al a j → setB (wrTo a j) = true
  | 0, _ => rfl
  | j + 1, h => (or_set _ _ (wrTo_set al a j (fun i hi => h i (by omega))) (wr_set _ _ _ _ (wa_range _ _ _ _ _ (h j (by omega))).1)).2
theorem moves_writes (al : Int) (a : Nat → ActI) : ∀ j, okN al a j → wrTo a j = 0 → mvTo al a j = false
  | 0, _, _ => rfl
  | j + 1, h, hw => by
    have hr := (wa_range _ _ _ _ _ (h j (by omega))).1
    obtain ⟨h1, h2⟩ := or_zero _ _ (wrTo_set al a j (fun i hi => h i (by omega))) (wr_set _ _ _ _ hr) hw
    have ih := moves_writes al a j (fun i hi => h i (by omega)) h1
    show (mvTo al a j || mvB (a j).k (a j).p al) = false
    rw [ih, Bool.false_or]
    generalize a j = y at *
    obtain ⟨k, p, f, n⟩ := y
    dsimp only at *
    have key : ∀ k : Int, (k = 1 ∨ k = 2 ∨ k = 5) → rgB k p f n = true → wrI k p = 0 → False := by
      rintro k (rfl | rfl | rfl) hr h2 <;> simp [wrI, or_left _ (bit_set p)] at h2 <;> simp [rgB] at hr
      · exact bit_pos p hr.1 h2
      · exact bit_pos p hr.1 h2
      · exact bit_pos p hr h2
    unfold mvB
    by_cases h12 : k = 1 ∨ k = 2
    · exact absurd (key k (by omega) hr h2) id
    · by_cases h5 : k = 5
      · exact absurd (key k (by omega) hr h2) id
      · rw [if_neg h12]; simp [h5]
theorem clN_comm (r u : Int) (m l : Bool) (r' u' : Int) (m' l' : Bool) : clN r u m l r' u' m' l' = clN r' u' m' l' r u m l := by
  unfold clN
  cases m <;> cases m' <;> cases l <;> cases l' <;> simp [Bool.or_comm]
theorem clB_comm (al : Int) (a : Nat → ActI) (len : Nat) (al' : Int) (a' : Nat → ActI) (len' : Nat) : clB al a len al' a' len' = clB al' a' len' al a len := clN_comm _ _ _ _ _ _ _ _
theorem ds_zero (r u : Int) : dsB 0 r u = false := by
  unfold dsB
  have : bits .and .i64 0 (bits .or .i64 r u) = 0 := by rw [andz]; simp
  simp [this]
end Go.Proofs.Ytnbleebilmghcab
