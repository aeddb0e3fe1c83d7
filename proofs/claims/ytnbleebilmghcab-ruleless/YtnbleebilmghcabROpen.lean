/- A system that comes in: what it is, and where its acts lie. -/
import Derived.Test.YtnbleebilmghcabRNeeds
import Derived.Deep.Slices
import Derived.Deep.Strs
import Derived.Lib.SmallJoins
import Derived.Carry
import Derived.ProofKit
import Derived.OpenShut
set_option maxRecDepth 100000
set_option linter.unnecessarySimpa false
set_option linter.unusedSimpArgs false
set_option linter.unusedVariables false
namespace Go.Proofs.Ytnbleebilmghcab
open Go.ChangeShapes Go.WideShapes Go.ChangeAt Go.RowKit Go.Deep Go.Joins

theorem laid : laidOutB Try.prog = true := by kernel_rfl
theorem cells3 : Try.prog.cellsOf 3 = 1 := by kernel_rfl
theorem cells4 : Try.prog.cellsOf 4 = 1 := by kernel_rfl
theorem cells23 : Try.prog.cellsOf 23 = 2 := by kernel_rfl
theorem cells24 : Try.prog.cellsOf 24 = 1 := by kernel_rfl
theorem cells26 : Try.prog.cellsOf 26 = 4 := by kernel_rfl
theorem cells38 : Try.prog.cellsOf 76 = 4 := by kernel_rfl

section
variable {H : Type} {enc : TypeId × Value → H} {W : World} {base : Nat} {spare : Nat → Bool} {held : Bool}

theorem open_act {n : Nat} {cs : List Value} {x : DataW H × List MemPlace} (h : DataW.trod enc Try.prog W base spare held n 76 cs = some x) : ∃ y : ActI, cs = [.int .i64 y.k, .int .i64 y.p, .int .i64 y.f, .int .i64 y.n] := by
  obtain ⟨y0, y1, y2, y3, n', _, hl, h0, h1, h2, h3⟩ := trod_struct4 Try.underlying76 h
  rw [cells38] at hl
  match cs, hl with
  | [c0, c1, c2, c3], _ =>
    simp [cells3] at h0 h1 h2 h3
    obtain ⟨i0, e0, _⟩ := DataW.trod_int Try.underlying3 h0
    obtain ⟨i1, e1, _⟩ := DataW.trod_int Try.underlying3 h1
    obtain ⟨i2, e2, _⟩ := DataW.trod_int Try.underlying3 h2
    obtain ⟨i3, e3, _⟩ := DataW.trod_int Try.underlying3 h3
    exact ⟨⟨i0, i1, i2, i3⟩, by simp_all⟩

theorem add4 (b off i j : Nat) : ((⟨b, off, none⟩ : Addr).add (i * 4)).add j = ⟨b, off + i * 4 + j, none⟩ := by
  rw [add_add, Addr.add_mid]; simp

theorem open_acts {n : Nat} {v : Value} {x : DataW H × List MemPlace} (h : DataW.trod enc Try.prog W base spare held n 24 [v] = some x) : ∃ A len cap a, v = .slice A len cap ∧ len ≤ cap ∧ ActsAt W A len a := by
  rcases open_slice Try.underlying24 h with ⟨hcs, _⟩ | ⟨ad, len, cap, m, n', D, Pl, hcs, _, hlc, _, hm, _, hel⟩
  · exact ⟨none, 0, 0, fun _ => ⟨0, 0, 0, 0⟩, by simpa using hcs, Nat.le_refl _, fun j hj => by omega⟩
  · have hlm : len ≤ m := by rw [hm]; split <;> omega
    have iI:Inhabited ActI:=⟨⟨0, 0, 0, 0⟩⟩
    obtain ⟨a, ha⟩ := choose_lt (α := ActI) (n := len) (p := fun i y => W.cells? base (ad.add (i * 4)) 4 = some [.int .i64 y.k, .int .i64 y.p, .int .i64 y.f, .int .i64 y.n]) (fun i hi => by
      obtain ⟨cs', h1, h2⟩ := hel i (by omega)
      obtain ⟨y, rfl⟩ := open_act h2
      rw [cells38] at h1
      exact ⟨y, h1⟩)
    refine ⟨some ad, len, cap, a, by simpa using hcs, hlc, fun j hj => ?_⟩
    obtain ⟨_, _, hc⟩ := World.cells?_some (ha j hj)
    obtain ⟨_, _, hc0⟩ := World.cells?_some (ha 0 (by omega))
    have hz := hc0 0 (by omega)
    obtain ⟨b, off, sp⟩ := ad
    have hsp : sp = none := by
      cases sp with
      | none => rfl
      | some s => simp [World.cell?, Addr.add] at hz; split at hz <;> simp at hz
    subst hsp
    refine ⟨b, off, rfl, ?_, ?_, ?_, ?_⟩
    · have := hc 0 (by omega); rw [add4] at this; simpa using this
    · have := hc 1 (by omega); rw [add4] at this; simpa using this
    · have := hc 2 (by omega); rw [add4] at this; simpa using this
    · have := hc 3 (by omega); rw [add4] at this; simpa using this

theorem open_sys {r : Reach} {b0 : Nat} {v : Value} {d : DataW H} {p : List MemPlace} (hv : Value.okWide Try.prog W r b0 26 v) (h : DataW.Trod enc Try.prog W base spare held 26 v d p) :
    ∃ m al no A len cap a, v = sysV m al no A len cap ∧ len ≤ cap ∧ ActsAt W A len a := by
  obtain ⟨cs, rfl, hsz⟩ := okWide_struct Try.underlying26 hv
  obtain ⟨c0, c1, c2, c3, rfl⟩ := array4 (hsz.trans cells26)
  obtain ⟨fuel, hf⟩ := h
  obtain ⟨y0, y1, y2, n, _, _, h0, h1, h2⟩ := trod_struct3 Try.underlying26 hf
  simp [Value.cells, cells3, cells23, cells24] at h0 h1 h2
  obtain ⟨i0, e0, _⟩ := DataW.trod_int Try.underlying3 h0
  obtain ⟨z0, z1, n', _, _, g0, g1⟩ := trod_struct2 Try.underlying23 h1
  simp [cells3] at g0 g1
  obtain ⟨i1, e1, _⟩ := DataW.trod_int Try.underlying3 g0
  obtain ⟨i2, e2, _⟩ := DataW.trod_int Try.underlying3 g1
  obtain ⟨A, len, cap, a, rfl, hlc, ha⟩ := open_acts h2
  simp only [List.cons.injEq, and_true] at e0 e1 e2
  subst e0 e1 e2
  exact ⟨i0, i1, i2, A, len, cap, a, rfl, hlc, ha⟩
end
end Go.Proofs.Ytnbleebilmghcab
