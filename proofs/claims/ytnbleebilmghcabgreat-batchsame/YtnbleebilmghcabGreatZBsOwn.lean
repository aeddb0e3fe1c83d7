/- Systems in memory of their own, one behind the other. -/
import Derived.Test.YtnbleebilmghcabGreatQO
import Derived.Test.YtnbleebilmghcabGreatZBat7
import Derived.Test.YtnbleebilmghcabGreatZBsMath
import Derived.Test.YtnbleebilmghcabGreatZRnSame
set_option linter.all false
namespace Go.Proofs.YtnbleebilmghcabGreat
open Go Go.RowKit
attribute [local go_sem ↓] Go.wp_at_zero Go.wp_at_succ
def sysCells (s : SysI) : List Value := [.int .i64 s.m, .int .i64 s.al, .int .i64 s.no, .slice s.A s.len s.cap]
def sysCellsL (l : List SysI) : List Value := l.flatMap sysCells
theorem sysCells_len (s : SysI) : (sysCells s).length = 4 := rfl
theorem sysCells_one (s : SysI) : ∀ u ∈ sysCells s, u.oneCell' = true := fun u hu => by
  simp only [sysCells, List.mem_cons, List.not_mem_nil, or_false] at hu
  rcases hu with rfl | rfl | rfl | rfl <;> rfl
theorem sysCellsL_snoc (l : List SysI) (s : SysI) : sysCellsL (l ++ [s]) = sysCellsL l ++ sysCells s := by simp [sysCellsL]
theorem sysCellsL_get : ∀ (l : List SysI) (j i : Nat), i < 4 → (sysCellsL l)[j * 4 + i]? = (l[j]?).bind (fun s => (sysCells s)[i]?)
  | [], j, i, _ => by simp [sysCellsL]
  | s :: l, 0, i, hi => by
    rw [Nat.zero_mul, Nat.zero_add]
    show ((sysCells s) ++ sysCellsL l)[i]? = _
    rw [List.getElem?_append_left (by rw [sysCells_len]; exact hi)]
    rfl
  | s :: l, j + 1, i, hi => by
    show ((sysCells s) ++ sysCellsL l)[(j + 1) * 4 + i]? = _
    rw [List.getElem?_append_right (by rw [sysCells_len]; omega), sysCells_len, show (j + 1) * 4 + i - 4 = j * 4 + i by omega, sysCellsL_get l j i hi]
    simp
theorem sysAt_new (W : World) (s : SysI) : ∀ j u, (sysCells s)[j]? = some u → (W.alloc (.cells #[.int .i64 s.m, .int .i64 s.al, .int .i64 s.no, .slice s.A s.len s.cap] 37)).cell? ((⟨W.heap.size, 0, none⟩ : Addr).add j) = some u := fun j u hj => by
  have h := Bxs.start W [(sysCells s, 37)]
  have := h.cell 0 rfl j hj
  rw [Nat.add_zero] at this
  rw [Addr.add_mid, Nat.zero_add]
  exact this
theorem syss_own {W : World} {base c : Nat} {A : Option Addr} {l : List SysI} (h : W.ownsRow base 37 4 (.slice A l.length c) l.length (sysCellsL l)) (ha : ∀ s ∈ l, ActsAt W s.A s.len s.a) (d : SysI) : SyssAt W A l.length (fun j => l.getD j d) := fun j hj => by
  obtain ⟨g, cap, e, _, _⟩ := own_pos h (by omega)
  injection e with e1 e2 e3
  subst e1
  have hs : l[j]? = some l[j] := List.getElem?_eq_getElem hj
  have hc := fun i (hi : i < 4) u hu => own_cell (e3 ▸ h) (j := j * 4 + i) (u := u) (by rw [sysCellsL_get l j i hi, hs]; exact hu)
  have hg : l.getD j d = l[j] := by rw [List.getD_eq_getElem?_getD, hs]; rfl
  refine ⟨g, 0, rfl, ?_⟩
  show SysAt W g (0 + j * 4) (l.getD j d)
  rw [hg, Nat.zero_add]
  exact ⟨hc 0 (by omega) _ rfl, hc 1 (by omega) _ rfl, hc 2 (by omega) _ rfl, hc 3 (by omega) _ rfl, ha _ (List.getElem_mem hj)⟩
theorem infoS : (Tryz.prog.info? 37).map (fun i => (i.zero, i.size, i.bytes)) = some (some (.agg #[.int .i64 0, .int .i64 0, .int .i64 0, .slice none 0 0]), 4, 48) := by kernel_rfl
theorem make_any (L : Option Addr) (n cap : Nat) (S : Nat → SysI) (w : World) (hL : SyssAt w L n S) :
    Calls Tryz.prog 14 #[.slice L n cap] w fun e w' => ∃ v f0 f1, e = .returned (.tuple #[v, .agg #[.int .i64 f0, .int .i64 f1]]) ∧ Below w.heap.size w w' := by
  by_cases h : (bwF S n).1 = 0
  · refine (make_right L n cap S w hL h).mono ?_
    rintro e w' ⟨B, cap', rfl, _, hb⟩
    exact ⟨_, _, _, rfl, hb⟩
  · refine (make_wrong L n cap S w hL h).mono ?_
    rintro e w' ⟨rfl, hb⟩
    exact ⟨_, _, _, rfl, hb⟩
def turned (t : Bool) (l : List Nat) : List Nat := if t then l.reverse else l
theorem turned_len (t : Bool) (l : List Nat) : (turned t l).length = l.length := by cases t <;> simp [turned]
theorem turned_get (t : Bool) (l : List Nat) (j : Nat) (hj : j < l.length) : (turned t l).getD j 0 = l.getD (if t then l.length - 1 - j else j) 0 := by
  cases t
  · rfl
  · have h1 : j < l.reverse.length := by simpa using hj
    have h2 : l.length - 1 - j < l.length := by omega
    show l.reverse.getD j 0 = l.getD (l.length - 1 - j) 0
    rw [List.getD_eq_getElem?_getD, List.getD_eq_getElem?_getD, List.getElem?_eq_getElem h1, List.getElem?_eq_getElem h2, List.getElem_reverse]
theorem flatR_succ (t : Bool) (bs : List (List Nat)) (k : Nat) (h : k < bs.length) : flatR t (bs.take (k + 1)) = flatR t (bs.take k) ++ turned t (bs.getD k []) := by
  have e : bs.take (k + 1) = bs.take k ++ [bs[k]] := List.take_succ_eq_append_getElem h
  unfold flatR turned
  rw [e, List.getD_eq_getElem?_getD, List.getElem?_eq_getElem h]
  simp only [List.map_append, List.flatten_append, List.map_cons, List.map_nil, List.flatten_cons, List.flatten_nil, List.append_nil]
  rfl
theorem take_one (l : List Nat) (j : Nat) (h : j < l.length) : l.take (j + 1) = l.take j ++ [l.getD j 0] := by
  rw [List.take_succ_eq_append_getElem h, List.getD_eq_getElem?_getD, List.getElem?_eq_getElem h]; rfl
theorem flatR_lt {t : Bool} {cl : Nat → Nat → Bool} {n : Nat} : ∀ x ∈ flatR t (mkB cl n), x < n := fun x hx => by
  have := ((flatR_perm t _).trans (mkB_perm cl n)).mem_iff.1 hx
  simpa using this
theorem flatR_len {t : Bool} {cl : Nat → Nat → Bool} {n : Nat} : (flatR t (mkB cl n)).length = n := by
  rw [((flatR_perm t _).trans (mkB_perm cl n)).length_eq, List.length_range]
theorem flatR_take_le (t : Bool) (bs : List (List Nat)) (k : Nat) : (flatR t (bs.take k)).length ≤ (flatR t bs).length := by
  rw [(flatR_perm t _).length_eq, (flatR_perm t _).length_eq]
  conv => rhs; rw [← List.take_append_drop k bs, List.flatten_append, List.length_append]
  omega
end Go.Proofs.YtnbleebilmghcabGreat
