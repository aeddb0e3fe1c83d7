/- What comes in has so many bytes at most; a filter that comes in. -/
import Derived.SizedLaws
import Derived.Test.YtnbleebilmghcaaLPOpen
set_option linter.unusedVariables false
set_option linter.unusedSimpArgs false
set_option linter.unnecessarySimpa false
namespace Go.Proofs.Ytnbleebilmghcaa
open Go.ChangeShapes Go.WideShapes Go.ChangeAt Go.RowKit Go.Deep Go.Joins
set_option maxRecDepth 100000

theorem bytes61 : Try.prog.bytesOf 61 = 88 := by kernel_rfl
theorem bytes3 : Try.prog.bytesOf 3 = 8 := by kernel_rfl
section
variable {H : Type} {enc : TypeId × Value → H} {W : World} {base : Nat} {spare : Nat → Bool} {held : Bool}
theorem slice_sz {t e : TypeId} {k : Nat} (ht : Try.prog.underlying t = some (.slice e)) (hk : Try.prog.bytesOf e = k) {n len cap : Nat} {A : Option Addr} {x : DataW H × List MemPlace} (h : DataW.trod enc Try.prog W base spare held n t [.slice A len cap] = some x) (hs : ∀ y ∈ x.1.weights Try.prog t, y ≤ reachBytes) : len * k ≤ reachBytes := by
  rcases open_slice ht h with ⟨hcs, _⟩ | ⟨ad, len', cap', m, n', D, Pl, hcs, _, _, _, _, hx, _⟩
  · simp only [List.cons.injEq, Value.slice.injEq, and_true] at hcs
    rw [hcs.2.1]; simp
  · simp only [List.cons.injEq, Value.slice.injEq, and_true] at hcs
    have := hs ((len' + (m - len')) * Try.prog.bytesOf e) (by rw [hx]; simp [DataW.weights, ht])
    rw [hk] at this
    rw [hcs.2.1]
    exact Nat.le_trans (Nat.mul_le_mul_right k (Nat.le_add_right _ _)) this
theorem world_sz {A : Option Addr} {cap : Nat} {G : Option Addr} {gcap : Nat} {X : Wd} {d : DataW H} {p : List MemPlace} (h : DataW.Trod enc Try.prog W base spare held 38 (wldV A cap G gcap X) d p) (hs : ∀ y ∈ d.weights Try.prog 38, y ≤ reachBytes) : X.rows.length * 88 ≤ reachBytes ∧ X.gens.length * 8 ≤ reachBytes := by
  obtain ⟨fuel, hf⟩ := h
  obtain ⟨y0, y1, n, hx, _, h0, h1⟩ := trod_struct2 Try.underlying38 hf
  simp [wldV, worldV, Value.cells, cells36, cells26] at h0 h1
  have hd : d = .agg [y0.1, y1.1] := by have := congrArg Prod.fst hx; exact this
  refine ⟨slice_sz Try.underlying36 bytes61 h0 fun y hy => hs y ?_, slice_sz Try.underlying26 bytes3 h1 fun y hy => hs y ?_⟩
  · rw [hd]; simp [DataW.weights, DataW.weightsEach, Try.underlying38, hy]
  · rw [hd]; simp [DataW.weights, DataW.weightsEach, Try.underlying38, hy]
theorem gens_lo {A : Option Addr} {cap : Nat} {G : Option Addr} {gcap : Nat} {X : Wd} {d : DataW H} {p : List MemPlace} (h : DataW.Trod enc Try.prog W base spare held 38 (wldV A cap G gcap X) d p) (hX : WldAt W A cap G gcap X) : ∀ j, j < X.gens.length → -9223372036854775808 ≤ X.gens.getD j 0 := fun j hj => by
  obtain ⟨fuel, hf⟩ := h
  obtain ⟨y0, y1, n, hx, _, h0, h1⟩ := trod_struct2 Try.underlying38 hf
  simp [wldV, worldV, Value.cells, cells36, cells26] at h1
  obtain ⟨b, off, hG, hc⟩ := hX.gens j hj
  rcases open_slice1 Try.underlying26 cells3 h1 with ⟨hcs, _⟩ | ⟨ad, len, cap', m, n', V, D, Pl, hcs, _, hlc, hmx, hm, _, hel⟩
  · simp only [List.cons.injEq, Value.slice.injEq, and_true] at hcs
    omega
  · simp only [List.cons.injEq, Value.slice.injEq, and_true] at hcs
    have hlm : len ≤ m := by rw [hm]; split <;> omega
    obtain ⟨e1, e2⟩ := hel j (by omega)
    obtain ⟨k, e3, _, hwf⟩ := DataW.trod_int Try.underlying3 e2
    rw [hG] at hcs
    have had : ad = ⟨b, off, none⟩ := (Option.some.inj hcs.1).symm
    rw [had, Addr.add_mid, hc] at e1
    simp only [List.cons.injEq, and_true] at e3
    have e4 : X.gens.getD j 0 = k := by
      have := (Option.some.inj e1).trans e3
      simpa using this
    rw [e4]
    unfold Lit.wf at hwf
    rw [Bool.and_eq_true, decide_eq_true_eq] at hwf
    exact hwf.1
theorem open_filter {r : Reach} {b0 : Nat} {v : Value} {d : DataW H} {p : List MemPlace} (hv : Value.okWide Try.prog W r b0 32 v) (h : DataW.Trod enc Try.prog W base spare held 32 v d p) : ∃ i g, v = .agg #[.int .i64 i, .int .i64 g] := by
  obtain ⟨cs, rfl, hsz⟩ := okWide_struct Try.underlying32 hv
  obtain ⟨c0, c1, rfl⟩ := array2 (hsz.trans cells32)
  obtain ⟨fuel, hf⟩ := h
  obtain ⟨y0, y1, n', _, hl, h0, h1⟩ := trod_struct2 Try.underlying32 hf
  simp [cells3, Value.cells] at h0 h1
  obtain ⟨i0, e0, _⟩ := DataW.trod_int Try.underlying3 h0
  obtain ⟨i1, e1, _⟩ := DataW.trod_int Try.underlying3 h1
  exact ⟨i0, i1, by simp_all⟩
end
end Go.Proofs.Ytnbleebilmghcaa
