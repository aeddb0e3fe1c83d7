/- The statement BatchAll holds: each system is in one batch, no two in a batch clash, and none could stand earlier, for every input. -/
import Derived.Test.YtnbleebilmghcabABat9
import Derived.Test.YtnbleebilmghcabAOpen
import Derived.Test.YtnbleebilmghcabRows
import Derived.Test.YtnbleebilmghcabChecked
set_option linter.unnecessarySimpa false
set_option linter.unusedVariables false
set_option linter.unusedSimpArgs false
namespace Go.Proofs.Ytnbleebilmghcab
open Go.ChangeShapes Go.WideShapes Go.ChangeAt Go.RowKit Go.Deep Go.Joins
set_option maxRecDepth 100000

theorem cells61 : Try.prog.cellsOf 61 = 1 := by kernel_rfl
section
variable {H : Type} {enc : TypeId × Value → H} {W : World} {base : Nat} {spare : Nat → Bool} {held : Bool}
theorem open_sysc {n : Nat} {cs : List Value} {x : DataW H × List MemPlace} (h : DataW.trod enc Try.prog W base spare held n 26 cs = some x) : ∃ s : SysI, cs = [.int .i64 s.m, .int .i64 s.al, .int .i64 s.no, .slice s.A s.len s.cap] ∧ ActsAt W s.A s.len s.a := by
  obtain ⟨y0, y1, y2, n', _, hl, h0, h1, h2⟩ := trod_struct3 Try.underlying26 h
  rw [cells26] at hl
  match cs, hl with
  | [c0, c1, c2, c3], _ =>
    simp [cells3, cells23, cells24] at h0 h1 h2
    obtain ⟨i0, e0, _⟩ := DataW.trod_int Try.underlying3 h0
    obtain ⟨z0, z1, n'', _, _, g0, g1⟩ := trod_struct2 Try.underlying23 h1
    simp [cells3] at g0 g1
    obtain ⟨i1, e1, _⟩ := DataW.trod_int Try.underlying3 g0
    obtain ⟨i2, e2, _⟩ := DataW.trod_int Try.underlying3 g1
    obtain ⟨A, len, cap, a, rfl, hlc, ha⟩ := open_acts h2
    simp only [List.cons.injEq, and_true] at e0 e1 e2
    subst e0 e1 e2
    exact ⟨⟨i0, i1, i2, A, len, cap, a⟩, rfl, ha⟩
theorem open_syss {n : Nat} {v : Value} {x : DataW H × List MemPlace} (h : DataW.trod enc Try.prog W base spare held n 61 [v] = some x) : ∃ L len cap S, v = .slice L len cap ∧ len ≤ cap ∧ SyssAt W L len S := by
  rcases open_slice Try.underlying61 h with ⟨hcs, _⟩ | ⟨ad, len, cap, m, n', D, Pl, hcs, _, hlc, _, hm, _, hel⟩
  · exact ⟨none, 0, 0, fun _ => ⟨0, 0, 0, none, 0, 0, fun _ => ⟨0, 0, 0, 0⟩⟩, by simpa using hcs, Nat.le_refl _, fun j hj => by omega⟩
  · have hlm : len ≤ m := by rw [hm]; split <;> omega
    have iI:Inhabited SysI:=⟨⟨0, 0, 0, none, 0, 0, fun _ => ⟨0, 0, 0, 0⟩⟩⟩
    obtain ⟨S, hS⟩ := choose_lt (α := SysI) (n := len) (p := fun i s => W.cells? base (ad.add (i * 4)) 4 = some [.int .i64 s.m, .int .i64 s.al, .int .i64 s.no, .slice s.A s.len s.cap] ∧ ActsAt W s.A s.len s.a) (fun i hi => by
      obtain ⟨cs', h1, h2⟩ := hel i (by omega)
      obtain ⟨s, rfl, ha⟩ := open_sysc h2
      rw [cells26] at h1
      exact ⟨s, h1, ha⟩)
    refine ⟨some ad, len, cap, S, by simpa using hcs, hlc, fun j hj => ?_⟩
    obtain ⟨_, _, hc⟩ := World.cells?_some (hS j hj).1
    obtain ⟨_, _, hc0⟩ := World.cells?_some (hS 0 (by omega)).1
    have hz := hc0 0 (by omega)
    obtain ⟨b, off, sp⟩ := ad
    have hsp : sp = none := by
      cases sp with
      | none => rfl
      | some s => simp [World.cell?, Addr.add] at hz; split at hz <;> simp at hz
    subst hsp
    refine ⟨b, off, rfl, ?_, ?_, ?_, ?_, (hS j hj).2⟩
    · have := hc 0 (by omega); rw [add4] at this; simpa using this
    · have := hc 1 (by omega); rw [add4] at this; simpa using this
    · have := hc 2 (by omega); rw [add4] at this; simpa using this
    · have := hc 3 (by omega); rw [add4] at this; simpa using this
end
theorem all_any (L : Option Addr) (n cap : Nat) (S : Nat → SysI) (w : World) (hL : SyssAt w L n S) :
    Calls Try.prog 10 #[.slice L n cap] w fun e w' => e = .returned (.bool true) ∧ Below w.heap.size w w' := by
  by_cases h : (bwF S n).1 = 0
  · exact all_right L n cap S w hL h
  · exact all_wrong L n cap S w hL h
end Go.Proofs.Ytnbleebilmghcab
namespace Go.Proofs.Ytnbleebilmghcab.batchAll
open Go.ChangeShapes Go.WideShapes Go.ChangeAt Go.RowKit
set_option linter.unusedVariables false

theorem own : ownKnob Try.prog.godebug = none := by kernel_rfl

set_option maxRecDepth 100000 in
set_option maxHeartbeats 1000000 in
theorem lifted (os : Os) (started : os.Started) (H : Type) (enc : TypeId × Value → H) :
    ReturnsInHanded {} Try.checked os 10 .any (Rows.batchAllSpec.pre6 enc Try.prog Try.f10 Rows.batchAllRow.domain false) (Rows.batchAllSpec.post enc Try.prog Try.f10 false true false false) := by
  refine returnsInHanded_of_change (C := Try.checked) own started (by kernel_rfl) Try.func10
    (ChangeSpec.witness6 (enc := enc) (C := Try.checked) false ⟨#[], #[.slice none 0 0], []⟩ 8 (by kernel_rfl) (by kernel_rfl) (by kernel_rfl) (by kernel_rfl)) ?_
  intro W base args ds gs before hval0 hW hcnd _
  have hval : ∀ (j : Nat) t v, Try.f10.params[j]? = some t → args[j]? = some v → Value.okWide Try.prog W .any base t v := hval0
  have hW' := hW
  obtain ⟨p, q, hA0, hV, rfl, hfz, hnd⟩ := hW
  have hA : DataW.TrodAll enc Try.prog W 0 (fun _ => true) true Try.f10.params.toList args.toList ds p := hA0
  rw [Try.params10] at hA hval
  obtain ⟨v0, vs0, d0, ds0, p0, q0, hargs, rfl, rfl, h0, r0⟩ := trodAll_cons hA
  obtain ⟨rfl, rfl, rfl⟩ := trodAll_nil r0
  obtain rfl : args = #[v0] := by cases args; simp_all
  obtain ⟨rfl, rfl⟩ := trodVars_none hV
  obtain ⟨A', len', cap', rfl⟩ := okWide_slice Try.underlying61 (hval 0 61 v0 rfl rfl)
  obtain ⟨fuel, hf⟩ := h0
  obtain ⟨L, len, cap, S, hv, hlc, hS⟩ := open_syss (v := .slice A' len' cap') hf
  clear hA0 hval0
  simp only [List.append_nil] at hW'
  have hlt : ∀ x ∈ p0, x.block < W.heap.size := fun x hx => by simpa using hW'.lt x hx
  simp only [Value.slice.injEq] at hv
  obtain ⟨rfl, rfl, rfl⟩ := hv
  refine (all_any A' len' cap' S W hS).mono fun e W' ⟨he, hg⟩ => ?_
  subst he
  exact ⟨_, rfl, _, _, _, [], _, [], hW', trodAll_mk1 (shut_bool Try.underlying4 _), (trodAll_cons_mk (Below.trod laid (by kernel_rfl) (of_decide_eq_true (by kernel_rfl)) ⟨fuel, hf⟩ hg (fun x hx => hlt x hx)) trodAll_mk0), rfl, hg.frame _, fun h => by cases h⟩

theorem over : Rows.batchAllRow.holds Try.pinned (OpenSpec.ofChange Rows.batchAllSpec) :=
  OpenClaim.holds_of_wide 10 Try.f10 rfl rfl rfl rfl rfl rfl rfl ⟨rfl, rfl, rfl, rfl, rfl⟩ rfl rfl rfl rfl rfl (by kernel_rfl) Try.func10 (by kernel_rfl)
    (of_decide_eq_true (by kernel_rfl)) (by unfold Func.isWrapper; first | (rw [if_pos (by decide +kernel)]; kernel_rfl) | (rw [if_neg (by decide +kernel)]; exact ⟨rfl, rfl⟩))
    (fun os started H enc _ => lifted os started H enc)

/-- THE STATEMENT -/
theorem proved : Rows.BatchAllSaid :=
  over
end Go.Proofs.Ytnbleebilmghcab.batchAll
namespace Go.Proofs.Ytnbleebilmghcab
theorem batchAll_holds : Rows.BatchAllSaid := batchAll.proved
#print axioms batchAll_holds
end Go.Proofs.Ytnbleebilmghcab
