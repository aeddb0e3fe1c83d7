/- POpen, POpenS, RnOpen -/
import Derived.Deep.Slices
import Derived.Deep.Strs
import Derived.Lib.SmallJoins
import Derived.Carry
import Derived.ProofKit
import Derived.OpenShut
import Derived.SizedLaws
import Derived.Test.YtnbleebilmghcabQC
import Derived.Test.YtnbleebilmghcabQX
set_option linter.all false
namespace Go.Proofs.Ytnbleebilmghcab
open Go.ChangeShapes Go.WideShapes Go.ChangeAt Go.RowKit Go.Deep Go.Joins
set_option maxRecDepth 100000
theorem laid : laidOutB Try.prog = true := by kernel_rfl
theorem cells3 : Try.prog.cellsOf 3 = 1 := by kernel_rfl
theorem cells26 : Try.prog.cellsOf 38 = 1 := by kernel_rfl
theorem cells32 : Try.prog.cellsOf 23 = 2 := by kernel_rfl
theorem cells36 : Try.prog.cellsOf 37 = 1 := by kernel_rfl
theorem cells38 : Try.prog.cellsOf 40 = 2 := by kernel_rfl
theorem cells40 : Try.prog.cellsOf 50 = 2 := by kernel_rfl
theorem cells59 : Try.prog.cellsOf 51 = 8 := by kernel_rfl
theorem cells61 : Try.prog.cellsOf 53 = 11 := by kernel_rfl
theorem max_len : maxLen = 9223372036854775807 := rfl
section
variable {H : Type} {enc : TypeId × Value → H} {W : World} {base : Nat} {spare : Nat → Bool} {held : Bool}
theorem open_beingc {n : Nat} {cs : List Value} {x : DataW H × List MemPlace} (h : DataW.trod enc Try.prog W base spare held n 50 cs = some x) : ∃ i g : Int, cs = [.int .i64 i, .int .i64 g] := by
  obtain ⟨y0, y1, n', _, hl, h0, h1⟩ := trod_struct2 Try.underlying50 h
  rw [cells40] at hl
  match cs, hl with
  | [c0, c1], _ =>
    simp [cells3] at h0 h1
    obtain ⟨i0, e0, _⟩ := DataW.trod_int Try.underlying3 h0
    obtain ⟨i1, e1, _⟩ := DataW.trod_int Try.underlying3 h1
    exact ⟨i0, i1, by simp_all⟩
theorem open_eight {n : Nat} {cs : List Value} {x : DataW H × List MemPlace} (h : DataW.trod enc Try.prog W base spare held n 51 cs = some x) : ∃ v : Nat → Int, cs = [.int .i64 (v 0), .int .i64 (v 1), .int .i64 (v 2), .int .i64 (v 3), .int .i64 (v 4), .int .i64 (v 5), .int .i64 (v 6), .int .i64 (v 7)] := by
  obtain ⟨xs, m, _, _, hl, hn, hel⟩ := DataW.trod_array Try.underlying51 h
  rw [cells59] at hl
  rw [cells3] at hel
  have key : ∀ i, i < 8 → ∃ k : Int, (cs.drop i).take 1 = [.int .i64 k] := fun i hi => by
    have := hel i hi
    rw [Nat.mul_one, List.getElem?_eq_getElem (by omega)] at this
    obtain ⟨k, e, _⟩ := DataW.trod_int Try.underlying3 this
    exact ⟨k, e⟩
  obtain ⟨v, hv⟩ := choose_lt (α := Int) (n := 8) (p := fun i k => (cs.drop i).take 1 = [Value.int .i64 k]) key
  refine ⟨v, ?_⟩
  match cs, hl with
  | [c0, c1, c2, c3, c4, c5, c6, c7], _ =>
    have e0 := hv 0 (by omega); have e1 := hv 1 (by omega); have e2 := hv 2 (by omega); have e3 := hv 3 (by omega)
    have e4 := hv 4 (by omega); have e5 := hv 5 (by omega); have e6 := hv 6 (by omega); have e7 := hv 7 (by omega)
    simp at e0 e1 e2 e3 e4 e5 e6 e7
    simp [e0, e1, e2, e3, e4, e5, e6, e7]
theorem open_row {n : Nat} {cs : List Value} {x : DataW H × List MemPlace} (h : DataW.trod enc Try.prog W base spare held n 53 cs = some x) : ∃ r : RowI, cs = rowCells r := by
  obtain ⟨y0, y1, y2, n', _, hl, h0, h1, h2⟩ := trod_struct3 Try.underlying53 h
  rw [cells61] at hl
  match cs, hl with
  | [c0, c1, c2, c3, c4, c5, c6, c7, c8, c9, c10], _ =>
    simp [cells3, cells40, cells59] at h0 h1 h2
    obtain ⟨i, g, e0⟩ := open_beingc h0
    obtain ⟨b, e1, _⟩ := DataW.trod_int Try.underlying3 h1
    obtain ⟨v, e2⟩ := open_eight h2
    refine ⟨⟨i, g, b, v⟩, ?_⟩
    simp only [List.cons.injEq, and_true] at e0 e1 e2
    simp [rowCells, e0, e1, e2]
theorem add11 (b off i j : Nat) : ((⟨b, off, none⟩ : Addr).add (i * 11)).add j = ⟨b, off + i * 11 + j, none⟩ := by
  rw [add_add, Addr.add_mid]; simp
theorem open_rows {n : Nat} {v : Value} {x : DataW H × List MemPlace} (h : DataW.trod enc Try.prog W base spare held n 37 [v] = some x) : ∃ A cap rows, v = .slice A rows.length cap ∧ rows.length ≤ 9223372036854775807 ∧ RowsL W A rows := by
  rcases open_slice Try.underlying37 h with ⟨hcs, _⟩ | ⟨ad, len, cap, m, n', D, Pl, hcs, _, hlc, hmx, hm, _, hel⟩
  · exact ⟨none, 0, [], by simpa using hcs, Nat.zero_le _, fun j hj => by simp at hj⟩
  · have hlm : len ≤ m := by rw [hm]; split <;> omega
    haveI : Inhabited RowI := ⟨dR⟩
    obtain ⟨S, hS⟩ := choose_lt (α := RowI) (n := len) (p := fun i s => W.cells? base (ad.add (i * 11)) 11 = some (rowCells s)) (fun i hi => by
      obtain ⟨cs', h1, h2⟩ := hel i (by omega)
      obtain ⟨s, rfl⟩ := open_row h2
      rw [cells61] at h1
      exact ⟨s, h1⟩)
    have hlen : ((List.range len).map S).length = len := by simp
    refine ⟨some ad, cap, (List.range len).map S, by rw [hlen]; simpa using hcs, by rw [hlen, ← max_len]; omega, fun j hj => ?_⟩
    rw [hlen] at hj
    have hg : ((List.range len).map S).getD j dR = S j := by
      rw [List.getD_eq_getElem?_getD, List.getElem?_eq_getElem (by simpa using hj)]; simp
    simp only [hg]
    obtain ⟨_, _, hc⟩ := World.cells?_some (hS j hj)
    obtain ⟨_, _, hc0⟩ := World.cells?_some (hS 0 (by omega))
    have hz := hc0 0 (by omega)
    obtain ⟨b, off, sp⟩ := ad
    have hsp : sp = none := by
      cases sp with
      | none => rfl
      | some s => simp [World.cell?, Addr.add] at hz; split at hz <;> simp [rowCells] at hz
    subst hsp
    have hc' : ∀ t, t < 11 → W.cell? ⟨b, off + j * 11 + t, none⟩ = (rowCells (S j))[t]? := fun t ht => by
      have := hc t (by omega); rwa [add11] at this
    refine ⟨b, off, rfl, ?_⟩
    refine ⟨?_, ?_, ?_, ?_⟩
    · have := hc' 0 (by omega); simpa [rowCells] using this
    · have := hc' 1 (by omega); simpa [rowCells] using this
    · have := hc' 2 (by omega); simpa [rowCells] using this
    · intro t ht
      have := hc' (3 + t) (by omega)
      rcases (by omega : t = 0 ∨ t = 1 ∨ t = 2 ∨ t = 3 ∨ t = 4 ∨ t = 5 ∨ t = 6 ∨ t = 7) with rfl | rfl | rfl | rfl | rfl | rfl | rfl | rfl <;> simpa [rowCells, Nat.add_assoc] using this
theorem open_ints {n : Nat} {v : Value} {x : DataW H × List MemPlace} (h : DataW.trod enc Try.prog W base spare held n 38 [v] = some x) : ∃ G cap l, v = .slice G l.length cap ∧ l.length ≤ 9223372036854775807 ∧ IntsL W G l := by
  rcases open_slice1 Try.underlying38 cells3 h with ⟨hcs, _⟩ | ⟨ad, len, cap, m, n', V, D, Pl, hcs, _, hlc, hmx, hm, _, hel⟩
  · exact ⟨none, 0, [], by simpa using hcs, Nat.zero_le _, fun j hj => by simp at hj⟩
  · have hlm : len ≤ m := by rw [hm]; split <;> omega
    obtain ⟨S, hS⟩ := choose_lt (α := Int) (n := len) (p := fun i s => W.cell? (ad.add i) = some (.int .i64 s)) (fun i hi => by
      obtain ⟨h1, h2⟩ := hel i (by omega)
      obtain ⟨k, e, _⟩ := DataW.trod_int Try.underlying3 h2
      simp only [List.cons.injEq, and_true] at e
      exact ⟨k, by rw [h1, e]⟩)
    have hlen : ((List.range len).map S).length = len := by simp
    refine ⟨some ad, cap, (List.range len).map S, by rw [hlen]; simpa using hcs, by rw [hlen, ← max_len]; omega, fun j hj => ?_⟩
    rw [hlen] at hj
    have hg : ((List.range len).map S).getD j 0 = S j := by
      rw [List.getD_eq_getElem?_getD, List.getElem?_eq_getElem (by simpa using hj)]; simp
    simp only [hg]
    have hz := hS j hj
    have hz0 := hS 0 (by omega)
    obtain ⟨b, off, sp⟩ := ad
    have hsp : sp = none := by
      cases sp with
      | none => rfl
      | some s => simp [World.cell?, Addr.add] at hz0; split at hz0 <;> simp at hz0
    subst hsp
    exact ⟨b, off, rfl, by rw [Addr.add_mid] at hz; exact hz⟩
theorem open_world {r : Reach} {b0 : Nat} {v : Value} {d : DataW H} {p : List MemPlace} (hv : Value.okWide Try.prog W r b0 40 v) (h : DataW.Trod enc Try.prog W base spare held 40 v d p) :
    ∃ A cap G gcap X, v = wldV A cap G gcap X ∧ X.rows.length ≤ 9223372036854775807 ∧ X.gens.length ≤ 9223372036854775807 ∧ WldAt W A cap G gcap X := by
  obtain ⟨cs, rfl, hsz⟩ := okWide_struct Try.underlying40 hv
  obtain ⟨c0, c1, rfl⟩ := array2 (hsz.trans cells38)
  obtain ⟨fuel, hf⟩ := h
  obtain ⟨y0, y1, n, _, _, h0, h1⟩ := trod_struct2 Try.underlying40 hf
  simp [Value.cells, cells36, cells26] at h0 h1
  obtain ⟨A, cap, rows, rfl, hl, hA⟩ := open_rows h0
  obtain ⟨G, gcap, gens, rfl, hl2, hG⟩ := open_ints h1
  exact ⟨A, cap, G, gcap, ⟨rows, gens⟩, rfl, hl, hl2, hA, hG⟩
theorem open_being {r : Reach} {b0 : Nat} {v : Value} {d : DataW H} {p : List MemPlace} (hv : Value.okWide Try.prog W r b0 50 v) (h : DataW.Trod enc Try.prog W base spare held 50 v d p) : ∃ i g, v = beingV i g := by
  obtain ⟨cs, rfl, hsz⟩ := okWide_struct Try.underlying50 hv
  obtain ⟨c0, c1, rfl⟩ := array2 (hsz.trans cells40)
  obtain ⟨fuel, hf⟩ := h
  obtain ⟨i, g, e⟩ := open_beingc (cs := [c0, c1]) (by simpa [Value.cells] using hf)
  simp only [List.cons.injEq, and_true] at e
  exact ⟨i, g, by rw [e.1, e.2]; rfl⟩
end
end Go.Proofs.Ytnbleebilmghcab
namespace Go.Proofs.Ytnbleebilmghcab
open Go.ChangeShapes Go.WideShapes Go.ChangeAt Go.RowKit Go.Deep Go.Joins
set_option maxRecDepth 100000
theorem bytes61 : Try.prog.bytesOf 53 = 88 := by kernel_rfl
theorem bytes3 : Try.prog.bytesOf 3 = 8 := by kernel_rfl
section
variable {H : Type} {enc : TypeId × Value → H} {W : World} {base : Nat} {spare : Nat → Bool} {held : Bool}
theorem slice_sz {t e : TypeId} {k : Nat} (ht : Try.prog.underlying t = some (.slice e)) (hk : Try.prog.bytesOf e = k) {n len cap : Nat} {A : Option Addr} {x : DataW H × List MemPlace} (h : DataW.trod enc Try.prog W base spare held n t [.slice A len cap] = some x) (hs : ∀ y ∈ x.1.weights Try.prog t, y ≤ reachBytes) : len * k ≤ reachBytes := by
  rcases open_slice ht h with ⟨hcs, _⟩ | ⟨ad, len', cap', m, n', D, Pl, hcs, _, _, _, _, hx, _⟩
  · simp only [List.cons.injEq, Value.slice.injEq, and_true] at hcs
    rw [hcs.2.1]; simp
  · simp only [List.cons.injEq, Value.slice.injEq, and_true] at hcs
    have := hs ((len' + (m - len')) * Try.prog.bytesOf e) (by rw [hx]; simp [DataW.weights, ht])
    rw [hk] at this
    rw [hcs.2.1]
    exact Nat.le_trans (Nat.mul_le_mul_right k (Nat.le_add_right _ _)) this
theorem world_sz {A : Option Addr} {cap : Nat} {G : Option Addr} {gcap : Nat} {X : Wd} {d : DataW H} {p : List MemPlace} (h : DataW.Trod enc Try.prog W base spare held 40 (wldV A cap G gcap X) d p) (hs : ∀ y ∈ d.weights Try.prog 40, y ≤ reachBytes) : X.rows.length * 88 ≤ reachBytes ∧ X.gens.length * 8 ≤ reachBytes := by
  obtain ⟨fuel, hf⟩ := h
  obtain ⟨y0, y1, n, hx, _, h0, h1⟩ := trod_struct2 Try.underlying40 hf
  simp [wldV, worldV, Value.cells, cells36, cells26] at h0 h1
  have hd : d = .agg [y0.1, y1.1] := by have := congrArg Prod.fst hx; exact this
  refine ⟨slice_sz Try.underlying37 bytes61 h0 fun y hy => hs y ?_, slice_sz Try.underlying38 bytes3 h1 fun y hy => hs y ?_⟩
  · rw [hd]; simp [DataW.weights, DataW.weightsEach, Try.underlying40, hy]
  · rw [hd]; simp [DataW.weights, DataW.weightsEach, Try.underlying40, hy]
theorem gens_lo {A : Option Addr} {cap : Nat} {G : Option Addr} {gcap : Nat} {X : Wd} {d : DataW H} {p : List MemPlace} (h : DataW.Trod enc Try.prog W base spare held 40 (wldV A cap G gcap X) d p) (hX : WldAt W A cap G gcap X) : ∀ j, j < X.gens.length → -9223372036854775808 ≤ X.gens.getD j 0 := fun j hj => by
  obtain ⟨fuel, hf⟩ := h
  obtain ⟨y0, y1, n, hx, _, h0, h1⟩ := trod_struct2 Try.underlying40 hf
  simp [wldV, worldV, Value.cells, cells36, cells26] at h1
  obtain ⟨b, off, hG, hc⟩ := hX.gens j hj
  rcases open_slice1 Try.underlying38 cells3 h1 with ⟨hcs, _⟩ | ⟨ad, len, cap', m, n', V, D, Pl, hcs, _, hlc, hmx, hm, _, hel⟩
  · simp only [List.cons.injEq, Value.slice.injEq, and_true] at hcs
    omega
  · simp only [List.cons.injEq, Value.slice.injEq, and_true] at hcs
    have hlm : len ≤ m := by rw [hm]; split <;> omega
    obtain ⟨e1, e2⟩ := hel j (by omega)
    obtain ⟨k, e3, _, hwf⟩ := DataW.trod_int Try.underlying3 e2
    rw [hG] at hcs
    have had : ad = ⟨b, off, none⟩ := (Option.some.inj hcs.1).symm
    rw [had, Addr.add_mid, hc] at e1
    simp only [List.cons.injEq, and_true] at e3
    have e4 : X.gens.getD j 0 = k := by
      have := (Option.some.inj e1).trans e3
      simpa using this
    rw [e4]
    unfold Lit.wf at hwf
    rw [Bool.and_eq_true, decide_eq_true_eq] at hwf
    exact hwf.1
theorem open_filter {r : Reach} {b0 : Nat} {v : Value} {d : DataW H} {p : List MemPlace} (hv : Value.okWide Try.prog W r b0 23 v) (h : DataW.Trod enc Try.prog W base spare held 23 v d p) : ∃ i g, v = .agg #[.int .i64 i, .int .i64 g] := by
  obtain ⟨cs, rfl, hsz⟩ := okWide_struct Try.underlying23 hv
  obtain ⟨c0, c1, rfl⟩ := array2 (hsz.trans cells32)
  obtain ⟨fuel, hf⟩ := h
  obtain ⟨y0, y1, n', _, hl, h0, h1⟩ := trod_struct2 Try.underlying23 hf
  simp [cells3, Value.cells] at h0 h1
  obtain ⟨i0, e0, _⟩ := DataW.trod_int Try.underlying3 h0
  obtain ⟨i1, e1, _⟩ := DataW.trod_int Try.underlying3 h1
  exact ⟨i0, i1, by simp_all⟩
end
end Go.Proofs.Ytnbleebilmghcab
namespace Go.Proofs.Ytnbleebilmghcab
open Go.ChangeShapes Go.WideShapes Go.ChangeAt Go.RowKit Go.Deep Go.Joins
set_option maxRecDepth 100000
theorem cellsL : Try.prog.cellsOf 24 = 1 := by kernel_rfl
theorem cellsS : Try.prog.cellsOf 26 = 4 := by kernel_rfl
theorem cellsA : Try.prog.cellsOf 76 = 4 := by kernel_rfl
section
variable {H : Type} {enc : TypeId × Value → H} {W : World} {base : Nat} {spare : Nat → Bool} {held : Bool}
theorem open_act {n : Nat} {cs : List Value} {x : DataW H × List MemPlace} (h : DataW.trod enc Try.prog W base spare held n 76 cs = some x) : ∃ y : ActI, cs = [.int .i64 y.k, .int .i64 y.p, .int .i64 y.f, .int .i64 y.n] := by
  obtain ⟨y0, y1, y2, y3, n', _, hl, h0, h1, h2, h3⟩ := trod_struct4 Try.underlying76 h
  rw [cellsA] at hl
  match cs, hl with
  | [c0, c1, c2, c3], _ =>
    simp [cells3] at h0 h1 h2 h3
    obtain ⟨i0, e0, _⟩ := DataW.trod_int Try.underlying3 h0
    obtain ⟨i1, e1, _⟩ := DataW.trod_int Try.underlying3 h1
    obtain ⟨i2, e2, _⟩ := DataW.trod_int Try.underlying3 h2
    obtain ⟨i3, e3, _⟩ := DataW.trod_int Try.underlying3 h3
    exact ⟨⟨i0, i1, i2, i3⟩, by simp_all⟩
theorem add4 (b off i j : Nat) : ((⟨b, off, none⟩ : Addr).add (i * 4)).add j = ⟨b, off + i * 4 + j, none⟩ := by
  rw [add_add, Addr.add_mid]; simp
theorem open_acts {n : Nat} {v : Value} {x : DataW H × List MemPlace} (h : DataW.trod enc Try.prog W base spare held n 24 [v] = some x) : ∃ A len cap a, v = .slice A len cap ∧ len ≤ cap ∧ ActsAt W A len a := by
  rcases open_slice Try.underlying24 h with ⟨hcs, _⟩ | ⟨ad, len, cap, m, n', D, Pl, hcs, _, hlc, _, hm, _, hel⟩
  · exact ⟨none, 0, 0, fun _ => ⟨0, 0, 0, 0⟩, by simpa using hcs, Nat.le_refl _, fun j hj => by omega⟩
  · have hlm : len ≤ m := by rw [hm]; split <;> omega
    have iI:Inhabited ActI:=⟨⟨0, 0, 0, 0⟩⟩
    obtain ⟨a, ha⟩ := choose_lt (α := ActI) (n := len) (p := fun i y => W.cells? base (ad.add (i * 4)) 4 = some [.int .i64 y.k, .int .i64 y.p, .int .i64 y.f, .int .i64 y.n]) (fun i hi => by
      obtain ⟨cs', h1, h2⟩ := hel i (by omega)
      obtain ⟨y, rfl⟩ := open_act h2
      rw [cellsA] at h1
      exact ⟨y, h1⟩)
    refine ⟨some ad, len, cap, a, by simpa using hcs, hlc, fun j hj => ?_⟩
    obtain ⟨_, _, hc⟩ := World.cells?_some (ha j hj)
    obtain ⟨_, _, hc0⟩ := World.cells?_some (ha 0 (by omega))
    have hz := hc0 0 (by omega)
    obtain ⟨b, off, sp⟩ := ad
    have hsp : sp = none := by
      cases sp with
      | none => rfl
      | some s => simp [World.cell?, Addr.add] at hz; split at hz <;> simp at hz
    subst hsp
    refine ⟨b, off, rfl, ?_, ?_, ?_, ?_⟩
    · have := hc 0 (by omega); rw [add4] at this; simpa using this
    · have := hc 1 (by omega); rw [add4] at this; simpa using this
    · have := hc 2 (by omega); rw [add4] at this; simpa using this
    · have := hc 3 (by omega); rw [add4] at this; simpa using this
theorem open_sys {r : Reach} {b0 : Nat} {v : Value} {d : DataW H} {p : List MemPlace} (hv : Value.okWide Try.prog W r b0 26 v) (h : DataW.Trod enc Try.prog W base spare held 26 v d p) :
    ∃ m al no A len cap a, v = sysV m al no A len cap ∧ len ≤ cap ∧ ActsAt W A len a := by
  obtain ⟨cs, rfl, hsz⟩ := okWide_struct Try.underlying26 hv
  obtain ⟨c0, c1, c2, c3, rfl⟩ := array4 (hsz.trans cellsS)
  obtain ⟨fuel, hf⟩ := h
  obtain ⟨y0, y1, y2, n, _, _, h0, h1, h2⟩ := trod_struct3 Try.underlying26 hf
  simp [Value.cells, cells3, cells32, cellsL] at h0 h1 h2
  obtain ⟨i0, e0, _⟩ := DataW.trod_int Try.underlying3 h0
  obtain ⟨z0, z1, n', _, _, g0, g1⟩ := trod_struct2 Try.underlying23 h1
  simp [cells3] at g0 g1
  obtain ⟨i1, e1, _⟩ := DataW.trod_int Try.underlying3 g0
  obtain ⟨i2, e2, _⟩ := DataW.trod_int Try.underlying3 g1
  obtain ⟨A, len, cap, a, rfl, hlc, ha⟩ := open_acts h2
  simp only [List.cons.injEq, and_true] at e0 e1 e2
  subst e0 e1 e2
  exact ⟨i0, i1, i2, A, len, cap, a, rfl, hlc, ha⟩
theorem open_sysc {n : Nat} {cs : List Value} {x : DataW H × List MemPlace} (h : DataW.trod enc Try.prog W base spare held n 26 cs = some x) : ∃ s : SysI, cs = [.int .i64 s.m, .int .i64 s.al, .int .i64 s.no, .slice s.A s.len s.cap] ∧ ActsAt W s.A s.len s.a := by
  obtain ⟨y0, y1, y2, n', _, hl, h0, h1, h2⟩ := trod_struct3 Try.underlying26 h
  rw [cellsS] at hl
  match cs, hl with
  | [c0, c1, c2, c3], _ =>
    simp [cells3, cells32, cellsL] at h0 h1 h2
    obtain ⟨i0, e0, _⟩ := DataW.trod_int Try.underlying3 h0
    obtain ⟨z0, z1, n'', _, _, g0, g1⟩ := trod_struct2 Try.underlying23 h1
    simp [cells3] at g0 g1
    obtain ⟨i1, e1, _⟩ := DataW.trod_int Try.underlying3 g0
    obtain ⟨i2, e2, _⟩ := DataW.trod_int Try.underlying3 g1
    obtain ⟨A, len, cap, a, rfl, hlc, ha⟩ := open_acts h2
    simp only [List.cons.injEq, and_true] at e0 e1 e2
    subst e0 e1 e2
    exact ⟨⟨i0, i1, i2, A, len, cap, a⟩, rfl, ha⟩
theorem open_syss {n : Nat} {v : Value} {x : DataW H × List MemPlace} (h : DataW.trod enc Try.prog W base spare held n 61 [v] = some x) : ∃ L len cap S, v = .slice L len cap ∧ len ≤ cap ∧ SyssAt W L len S := by
  rcases open_slice Try.underlying61 h with ⟨hcs, _⟩ | ⟨ad, len, cap, m, n', D, Pl, hcs, _, hlc, _, hm, _, hel⟩
  · exact ⟨none, 0, 0, fun _ => ⟨0, 0, 0, none, 0, 0, fun _ => ⟨0, 0, 0, 0⟩⟩, by simpa using hcs, Nat.le_refl _, fun j hj => by omega⟩
  · have hlm : len ≤ m := by rw [hm]; split <;> omega
    have iI:Inhabited SysI:=⟨⟨0, 0, 0, none, 0, 0, fun _ => ⟨0, 0, 0, 0⟩⟩⟩
    obtain ⟨S, hS⟩ := choose_lt (α := SysI) (n := len) (p := fun i s => W.cells? base (ad.add (i * 4)) 4 = some [.int .i64 s.m, .int .i64 s.al, .int .i64 s.no, .slice s.A s.len s.cap] ∧ ActsAt W s.A s.len s.a) (fun i hi => by
      obtain ⟨cs', h1, h2⟩ := hel i (by omega)
      obtain ⟨s, rfl, ha⟩ := open_sysc h2
      rw [cellsS] at h1
      exact ⟨s, h1, ha⟩)
    refine ⟨some ad, len, cap, S, by simpa using hcs, hlc, fun j hj => ?_⟩
    obtain ⟨_, _, hc⟩ := World.cells?_some (hS j hj).1
    obtain ⟨_, _, hc0⟩ := World.cells?_some (hS 0 (by omega)).1
    have hz := hc0 0 (by omega)
    obtain ⟨b, off, sp⟩ := ad
    have hsp : sp = none := by
      cases sp with
      | none => rfl
      | some s => simp [World.cell?, Addr.add] at hz; split at hz <;> simp at hz
    subst hsp
    refine ⟨b, off, rfl, ?_, ?_, ?_, ?_, (hS j hj).2⟩
    · have := hc 0 (by omega); rw [add4] at this; simpa using this
    · have := hc 1 (by omega); rw [add4] at this; simpa using this
    · have := hc 2 (by omega); rw [add4] at this; simpa using this
    · have := hc 3 (by omega); rw [add4] at this; simpa using this
theorem open_sysI {r : Reach} {b0 : Nat} {v : Value} {d : DataW H} {p : List MemPlace} (hv : Value.okWide Try.prog W r b0 26 v) (h : DataW.Trod enc Try.prog W base spare held 26 v d p) : ∃ s : SysI, v = sysI s ∧ ActsAt W s.A s.len s.a := by
  obtain ⟨m, al, no, A, len, cap, a, rfl, _, ha⟩ := open_sys hv h
  exact ⟨⟨m, al, no, A, len, cap, a⟩, rfl, ha⟩
end
end Go.Proofs.Ytnbleebilmghcab
