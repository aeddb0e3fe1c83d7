/- Systems that come in. -/
import Derived.Test.YtnbleebilmghcabBBat1
import Derived.Test.YtnbleebilmghcabBOpen
set_option linter.unnecessarySimpa false
set_option linter.unusedVariables false
set_option linter.unusedSimpArgs false
namespace Go.Proofs.Ytnbleebilmghcab
open Go.ChangeShapes Go.WideShapes Go.ChangeAt Go.RowKit Go.Deep Go.Joins
set_option maxRecDepth 100000

theorem cells61 : Try.prog.cellsOf 61 = 1 := by kernel_rfl
section
variable {H : Type} {enc : TypeId × Value → H} {W : World} {base : Nat} {spare : Nat → Bool} {held : Bool}
theorem open_sysc {n : Nat} {cs : List Value} {x : DataW H × List MemPlace} (h : DataW.trod enc Try.prog W base spare held n 26 cs = some x) : ∃ s : SysI, cs = [.int .i64 s.m, .int .i64 s.al, .int .i64 s.no, .slice s.A s.len s.cap] ∧ ActsAt W s.A s.len s.a := by
  obtain ⟨y0, y1, y2, n', _, hl, h0, h1, h2⟩ := trod_struct3 Try.underlying26 h
  rw [cells26] at hl
  match cs, hl with
  | [c0, c1, c2, c3], _ =>
    simp [cells3, cells23, cells24] at h0 h1 h2
    obtain ⟨i0, e0, _⟩ := DataW.trod_int Try.underlying3 h0
    obtain ⟨z0, z1, n'', _, _, g0, g1⟩ := trod_struct2 Try.underlying23 h1
    simp [cells3] at g0 g1
    obtain ⟨i1, e1, _⟩ := DataW.trod_int Try.underlying3 g0
    obtain ⟨i2, e2, _⟩ := DataW.trod_int Try.underlying3 g1
    obtain ⟨A, len, cap, a, rfl, hlc, ha⟩ := open_acts h2
    simp only [List.cons.injEq, and_true] at e0 e1 e2
    subst e0 e1 e2
    exact ⟨⟨i0, i1, i2, A, len, cap, a⟩, rfl, ha⟩
theorem open_syss {n : Nat} {v : Value} {x : DataW H × List MemPlace} (h : DataW.trod enc Try.prog W base spare held n 61 [v] = some x) : ∃ L len cap S, v = .slice L len cap ∧ len ≤ cap ∧ SyssAt W L len S := by
  rcases open_slice Try.underlying61 h with ⟨hcs, _⟩ | ⟨ad, len, cap, m, n', D, Pl, hcs, _, hlc, _, hm, _, hel⟩
  · exact ⟨none, 0, 0, fun _ => ⟨0, 0, 0, none, 0, 0, fun _ => ⟨0, 0, 0, 0⟩⟩, by simpa using hcs, Nat.le_refl _, fun j hj => by omega⟩
  · have hlm : len ≤ m := by rw [hm]; split <;> omega
    have iI:Inhabited SysI:=⟨⟨0, 0, 0, none, 0, 0, fun _ => ⟨0, 0, 0, 0⟩⟩⟩
    obtain ⟨S, hS⟩ := choose_lt (α := SysI) (n := len) (p := fun i s => W.cells? base (ad.add (i * 4)) 4 = some [.int .i64 s.m, .int .i64 s.al, .int .i64 s.no, .slice s.A s.len s.cap] ∧ ActsAt W s.A s.len s.a) (fun i hi => by
      obtain ⟨cs', h1, h2⟩ := hel i (by omega)
      obtain ⟨s, rfl, ha⟩ := open_sysc h2
      rw [cells26] at h1
      exact ⟨s, h1, ha⟩)
    refine ⟨some ad, len, cap, S, by simpa using hcs, hlc, fun j hj => ?_⟩
    obtain ⟨_, _, hc⟩ := World.cells?_some (hS j hj).1
    obtain ⟨_, _, hc0⟩ := World.cells?_some (hS 0 (by omega)).1
    have hz := hc0 0 (by omega)
    obtain ⟨b, off, sp⟩ := ad
    have hsp : sp = none := by
      cases sp with
      | none => rfl
      | some s => simp [World.cell?, Addr.add] at hz; split at hz <;> simp at hz
    subst hsp
    refine ⟨b, off, rfl, ?_, ?_, ?_, ?_, (hS j hj).2⟩
    · have := hc 0 (by omega); rw [add4] at this; simpa using this
    · have := hc 1 (by omega); rw [add4] at this; simpa using this
    · have := hc 2 (by omega); rw [add4] at this; simpa using this
    · have := hc 3 (by omega); rw [add4] at this; simpa using this
end
end Go.Proofs.Ytnbleebilmghcab
