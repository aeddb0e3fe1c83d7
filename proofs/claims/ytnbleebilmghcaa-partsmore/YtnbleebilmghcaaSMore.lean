/- The statement PartsMore holds: whoever meets a filter of all that are asked for meets it with a part more, whoever has none of those that are not asked for with a part less, for every input. -/
import Derived.Test.YtnbleebilmghcaaSAlive
import Derived.WalkKit
import Derived.ProofKit
import Derived.OpenShut
set_option maxRecDepth 100000
set_option linter.unnecessarySimpa false
set_option linter.unusedSimpArgs false
namespace Go.Proofs.Ytnbleebilmghcaa.partsMore
open Go.ChangeShapes Go.WideShapes Go.ChangeAt Go.RowKit
set_option linter.unusedVariables false

theorem wrap_nat_zero (r : BitVec 64) : IntKind.i64.wrap (r.toNat : Int) = 0 ↔ r = 0#64 := by
  rw [IntKind.wrap_i64]
  have := r.isLt
  constructor
  · intro h
    apply BitVec.eq_of_toNat_eq
    simp
    omega
  · rintro rfl; simp
theorem ofInt_wrap (r : BitVec 64) : BitVec.ofInt 64 (IntKind.i64.wrap (r.toNat : Int)) = r := by
  rw [IntKind.wrap_i64]
  have := r.isLt
  apply BitVec.eq_of_toNat_eq
  rw [BitVec.toNat_ofInt]
  simp
  omega
theorem and_zero (x y : Int) : bits .and .i64 x y = 0 ↔ BitVec.ofInt 64 x &&& BitVec.ofInt 64 y = 0#64 := wrap_nat_zero _
theorem andNot_zero (x y : Int) : bits .andNot .i64 x y = 0 ↔ BitVec.ofInt 64 x &&& ~~~BitVec.ofInt 64 y = 0#64 := wrap_nat_zero _
theorem of_or (x y : Int) : BitVec.ofInt 64 (bits .or .i64 x y) = BitVec.ofInt 64 x ||| BitVec.ofInt 64 y := ofInt_wrap _
theorem of_andNot (x y : Int) : BitVec.ofInt 64 (bits .andNot .i64 x y) = BitVec.ofInt 64 x &&& ~~~BitVec.ofInt 64 y := ofInt_wrap _
theorem bv1 (a h b : BitVec 64) (e : a &&& ~~~h = 0#64) : a &&& ~~~(h ||| b) = 0#64 := by
  ext i hi
  have := congrArg (fun v : BitVec 64 => v[i]) e
  simp at this ⊢
  intro p q
  simp_all
theorem bv2 (n h b : BitVec 64) (e : n &&& h = 0#64) : n &&& (h &&& ~~~b) = 0#64 := by
  ext i hi
  have := congrArg (fun v : BitVec 64 => v[i]) e
  simp at this ⊢
  intro p q
  simp_all
theorem zero_andNot (h : Int) : bits .andNot .i64 0 h = 0 := by rw [andNot_zero]; simp
theorem zero_and (h : Int) : bits .and .i64 0 h = 0 := by rw [and_zero]; simp
theorem more1 (a h b : Int) (e : meetsB a 0 h = true) : meetsB a 0 (bits .or .i64 h b) = true := by
  simp [meetsB, zero_and, andNot_zero, of_or] at e ⊢
  exact bv1 _ _ _ e
theorem more2 (n h b : Int) (e : meetsB 0 n h = true) : meetsB 0 n (bits .andNot .i64 h b) = true := by
  simp [meetsB, zero_andNot, and_zero, of_andNot] at e ⊢
  exact bv2 _ _ _ e
theorem both (a n h : Int) : meetsB a n h = (meetsB a 0 h && meetsB 0 n h) := by
  simp [meetsB, zero_andNot, zero_and]

theorem own : ownKnob Try.prog.godebug = none := by kernel_rfl

set_option maxHeartbeats 1000000 in
theorem walk (a0 : Int) (a1 : Int) (a2 : Int) (a3 : Int) (w0 : (Lit.int .i64 a0).wf = true) (w1 : (Lit.int .i64 a1).wf = true) (w2 : (Lit.int .i64 a2).wf = true) (w3 : (Lit.int .i64 a3).wf = true) (w : World) :
    Calls Try.prog 4 #[.int .i64 a0, .int .i64 a1, .int .i64 a2, .int .i64 a3] w fun e w' => e = .returned (.bool true) ∧ Below w.heap.size w w' := by
  clear w0 w1 w2 w3
  cases hs0 : setB a0
  · go_enter Try.func4, Try.ntmps4
    go_wp2_with (first
      | (go_at_call 33; refine (alive_any _).mono ?_; rintro e w2 ⟨rfl, hb⟩)
      | (go_at_call 15; refine (set_any _ _).mono ?_; rintro e w1 ⟨rfl, hw⟩; obtain rfl := hw.symm))
    go_ret
    exact ⟨rfl, hb⟩
  cases hs1 : setB a1
  · go_enter Try.func4, Try.ntmps4
    go_wp2_with (first
      | (go_at_call 33; refine (alive_any _).mono ?_; rintro e w2 ⟨rfl, hb⟩)
      | (go_at_call 15; refine (set_any _ _).mono ?_; rintro e w1 ⟨rfl, hw⟩; obtain rfl := hw.symm))
    go_ret
    exact ⟨rfl, hb⟩
  cases hs2 : setB a2
  · go_enter Try.func4, Try.ntmps4
    go_wp2_with (first
      | (go_at_call 33; refine (alive_any _).mono ?_; rintro e w2 ⟨rfl, hb⟩)
      | (go_at_call 15; refine (set_any _ _).mono ?_; rintro e w1 ⟨rfl, hw⟩; obtain rfl := hw.symm))
    go_ret
    exact ⟨rfl, hb⟩
  have hboth := both a0 a1 a2
  have hm1 := more1 a0 a2 (bitI a3)
  have hm2 := more2 a1 a2 (bitI a3)
  cases e1 : meetsB a0 0 a2 <;> cases e2 : meetsB 0 a1 a2
  all_goals
    simp only [e1, e2, Bool.and_true, Bool.and_false, Bool.false_eq_true, true_implies, false_implies] at hboth hm1 hm2
    go_enter Try.func4, Try.ntmps4
    go_wp2_with (first
      | (go_at_call 33; refine (alive_any _).mono ?_; rintro e w2 ⟨rfl, hb⟩)
      | (go_at_call 15; refine (set_any _ _).mono ?_; rintro e w1 ⟨rfl, hw⟩; obtain rfl := hw.symm)
      | (go_at_call 27; refine (with_any _ _ _).mono ?_; rintro e w1 ⟨rfl, hw⟩; obtain rfl := hw.symm)
      | (go_at_call 29; refine (without_any _ _ _).mono ?_; rintro e w1 ⟨rfl, hw⟩; obtain rfl := hw.symm)
      | (go_at_call 31; refine (meets_any _ _ _ _).mono ?_; rintro e w1 ⟨rfl, hw⟩; subst hw))
    go_ret
    have hz := hb.size
    exact ⟨rfl, by go_grown⟩

/-! ### THE ROW's STEP -/
set_option maxRecDepth 100000 in
theorem lifted (os : Os) (started : os.Started) (H : Type) (enc : TypeId × Value → H) :
    ReturnsInHanded {} Try.checked os 4 .any (Rows.partsMoreSpec.pre6 enc Try.prog Try.f4 Rows.partsMoreRow.domain false) (Rows.partsMoreSpec.post enc Try.prog Try.f4 false true false false) := by
  refine returnsInHanded_of_change (C := Try.checked) own started (by kernel_rfl) Try.func4
    (ChangeSpec.witness6 (enc := enc) (C := Try.checked) false ⟨#[], #[.int .i64 0, .int .i64 0, .int .i64 0, .int .i64 0], []⟩ 8 (by kernel_rfl) (by kernel_rfl) (by kernel_rfl) (by kernel_rfl)) ?_
  intro W base args ds gs before hval0 hW hcnd _
  have hval : ∀ (j : Nat) t v, Try.f4.params[j]? = some t → args[j]? = some v → Value.okWide Try.prog W .any base t v := hval0
  have hW' := hW
  obtain ⟨p, q, hA0, hV, rfl, hfz, hnd⟩ := hW
  have hA : DataW.TrodAll enc Try.prog W 0 (fun _ => true) true Try.f4.params.toList args.toList ds p := hA0
  rw [Try.params4] at hA hval
  obtain ⟨v0, vs0, d0, ds0, p0, q0, hargs, rfl, rfl, h0, r0⟩ := trodAll_cons hA
  obtain ⟨v1, vs1, d1, ds1, p1, q1, rfl, rfl, rfl, h1, r1⟩ := trodAll_cons r0
  obtain ⟨v2, vs2, d2, ds2, p2, q2, rfl, rfl, rfl, h2, r2⟩ := trodAll_cons r1
  obtain ⟨v3, vs3, d3, ds3, p3, q3, rfl, rfl, rfl, h3, r3⟩ := trodAll_cons r2
  obtain ⟨rfl, rfl, rfl⟩ := trodAll_nil r3
  obtain rfl : args = #[v0, v1, v2, v3] := by cases args; simp_all
  obtain ⟨rfl, rfl⟩ := trodVars_none hV
  obtain ⟨a0, rfl, rfl, rfl, w0⟩ := open_int Try.underlying3 (hval 0 3 v0 rfl rfl) h0
  obtain ⟨a1, rfl, rfl, rfl, w1⟩ := open_int Try.underlying3 (hval 1 3 v1 rfl rfl) h1
  obtain ⟨a2, rfl, rfl, rfl, w2⟩ := open_int Try.underlying3 (hval 2 3 v2 rfl rfl) h2
  obtain ⟨a3, rfl, rfl, rfl, w3⟩ := open_int Try.underlying3 (hval 3 3 v3 rfl rfl) h3
  clear hA0 hval0
  simp only [List.append_nil] at hW'
  refine (walk a0 a1 a2 a3 w0 w1 w2 w3 W).mono fun e W' ⟨he, hg⟩ => ?_
  subst he
  exact ⟨_, rfl, _, _, _, [], [], [], hW', trodAll_mk1 (shut_bool Try.underlying4 _), (trodAll_cons_mk (shut_int Try.underlying3 w0) (trodAll_cons_mk (shut_int Try.underlying3 w1) (trodAll_cons_mk (shut_int Try.underlying3 w2) (trodAll_cons_mk (shut_int Try.underlying3 w3) trodAll_mk0)))), rfl, hg.frame _, fun h => by cases h⟩

theorem over : Rows.partsMoreRow.holds Try.pinned (OpenSpec.ofChange Rows.partsMoreSpec) :=
  OpenClaim.holds_of_wide 4 Try.f4 rfl rfl rfl rfl rfl rfl rfl ⟨rfl, rfl, rfl, rfl, rfl⟩ rfl rfl rfl rfl rfl (by kernel_rfl) Try.func4 (by kernel_rfl)
    (of_decide_eq_true (by kernel_rfl)) (by unfold Func.isWrapper; first | (rw [if_pos (by decide +kernel)]; kernel_rfl) | (rw [if_neg (by decide +kernel)]; exact ⟨rfl, rfl⟩))
    (fun os started H enc _ => lifted os started H enc)

/-- THE STATEMENT -/
theorem proved : Rows.PartsMoreSaid :=
  over
end Go.Proofs.Ytnbleebilmghcaa.partsMore
namespace Go.Proofs.Ytnbleebilmghcaa
theorem partsMore_holds : Rows.PartsMoreSaid := partsMore.proved
#print axioms partsMore_holds
end Go.Proofs.Ytnbleebilmghcaa
