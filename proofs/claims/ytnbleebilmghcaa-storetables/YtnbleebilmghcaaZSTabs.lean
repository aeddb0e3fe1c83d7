/- The law StoreTables. -/
import Derived.Maps.OwnSet
import Derived.Test.YtnbleebilmghcaaQP
set_option linter.all false
namespace Go.Proofs.Ytnbleebilmghcaa
open Go Go.RowKit
attribute [local go_sem ↓] Go.wp_at_zero Go.wp_at_succ
theorem hsI_mem (x y : Int) : ∀ l : List Int, y ∈ hsI l x ↔ y = x ∨ y ∈ l
  | [] => by simp [hsI]
  | h :: l => by
    unfold hsI
    split
    · rw [List.mem_cons, hsI_mem x y l, List.mem_cons]
      constructor
      · rintro (h | h | h)
        · exact .inr (.inl h)
        · exact .inl h
        · exact .inr (.inr h)
      · rintro (h | h | h)
        · exact .inr (.inl h)
        · exact .inl h
        · exact .inr (.inr h)
    · split
      · rename_i e
        rw [List.mem_cons, e]
        constructor
        · rintro (h | h)
          · exact .inl h
          · exact .inr (.inr h)
        · rintro (h | h | h)
          · exact .inl h
          · exact .inl h
          · exact .inr h
      · rw [List.mem_cons]
theorem hsI_in (x : Int) : ∀ l : List Int, l.Pairwise (· < ·) → x ∈ l → hsI l x = l
  | [], _, h => by simp at h
  | h :: l, hp, hx => by
    rw [List.pairwise_cons] at hp
    unfold hsI
    rw [List.mem_cons] at hx
    split
    · rw [hsI_in x l hp.2 (by rcases hx with e | e; · omega
                              · exact e)]
    · split
      · rfl
      · rcases hx with e | e
        · omega
        · have := hp.1 x e; omega
theorem hsI_out (x : Int) : ∀ l : List Int, x ∉ l → (hsI l x).length = l.length + 1
  | [], _ => rfl
  | h :: l, hx => by
    rw [List.mem_cons, not_or] at hx
    unfold hsI
    split
    · rw [List.length_cons, hsI_out x l hx.2, List.length_cons]
    · split
      · rename_i e; exact absurd e.symm hx.1
      · simp
structure KM (D : DataW Unit) (hs : List Int) : Prop where
  tidy : Maps.Tidy D
  size : Maps.size D = hs.length
  at_ : ∀ h : Int, D.atKey (.int .i64 h) (.lit (.bool false)) = .lit (.bool (decide (h ∈ hs)))
  has_ : ∀ h : Int, Maps.has D (.int .i64 h) = decide (h ∈ hs)
theorem KM.start : KM (.map []) [] := ⟨Maps.tidy_empty, rfl, fun h => rfl, fun h => rfl⟩
theorem KM.put {D : DataW Unit} {hs : List Int} (h : KM D hs) (hp : hs.Pairwise (· < ·)) (x : Int) : KM (D.put (.int .i64 x) (.lit (.bool true))) (hsI hs x) := by
  have hk : WideAt.IsKeyLit (.int .i64 x) := trivial
  refine ⟨h.tidy.put hk _, ?_, fun y => ?_, fun y => ?_⟩
  · rw [Maps.size_put h.tidy, h.has_, h.size]
    by_cases hx : x ∈ hs
    · rw [hsI_in x hs hp hx]; simp [hx]
    · rw [hsI_out x hs hx]; simp [hx]
  · by_cases e : y = x
    · subst e
      rw [Maps.atKey_put_same h.tidy.isMap hk]
      have : y ∈ hsI hs y := (hsI_mem y y hs).2 (.inl rfl)
      simp [this]
    · rw [Maps.atKey_put_other (by simpa using e), h.at_]
      have : (y ∈ hs) ↔ (y ∈ hsI hs x) := by rw [hsI_mem]; simp [e]
      rw [decide_eq_decide.2 this]
  · by_cases e : y = x
    · subst e
      rw [Maps.has_put_same h.tidy.isMap hk]
      have : y ∈ hsI hs y := (hsI_mem y y hs).2 (.inl rfl)
      simp [this]
    · rw [Maps.has_put_other (by simpa using e), h.has_, decide_eq_decide, hsI_mem]
      simp [e]
set_option maxRecDepth 8000 in
theorem plainElem_bool_inv {v : Value} {x : Bool} {ps : List MemPlace} (h : plainElem (H := Unit) Try.prog 4 v = some (.lit (.bool x), ps)) : v = .bool x := by
  unfold plainElem at h
  rw [Try.underlying4] at h
  cases v <;> simp at h
  rw [h.1]
theorem zero4 (w : World) : (zeroValue 4).run Try.prog w = .ok (.bool false) w := by kernel_rfl
theorem wf_set {x : Int} (h0 : 0 ≤ x) (h1 : x ≤ 255) : (Lit.int .i64 x).wf = true := by
  exact WalkArith.wf_i64 (by omega)
theorem own_look {W : World} {b n : Nat} {D : DataW Unit} {hs : List Int} (h : W.ownsMap Try.prog 3 (plainElem Try.prog 4) b n D) (hk : KM D hs) (x : Int) (h0 : 0 ≤ x) (h1 : x ≤ 255) : (Instr.lookup 89 (.map (some b)) (.int .i64 x) false).run Try.prog W = .ok (.bool (decide (x ∈ hs))) W := by
  obtain ⟨v, ps, hrun, hv⟩ := h.lookup (Maps.int_keyed Try.underlying3) Try.underlying89 (zero4 W) (plainElem_bool Try.underlying4 false) (Maps.keyOf_int_mk Try.underlying3 (wf_set h0 h1))
  rw [hk.at_] at hv
  rw [hrun, plainElem_bool_inv hv]
theorem tabs_sorted {l : List TabI} {rs : List RowI} (h : Grp l rs) : (l.map (·.has)).Pairwise (· < ·) := by
  rw [List.pairwise_map]
  exact h.up
set_option maxRecDepth 8000 in
set_option maxHeartbeats 4000000 in
theorem tables_wrong (A : Option Addr) (cap : Nat) (G : Option Addr) (gcap : Nat) (X : Wd) (w : World) (hn0 : X.rows.length ≤ 9223372036854775807) (hX : WldAt w A cap G gcap X) (hw0 : (wrongW X).1 ≠ 0) :
    Calls Try.prog 12 #[wldV A cap G gcap X] w fun e w' => e = .returned (.bool true) ∧ Below w.heap.size w w' := by
  have hOF := fun W (hb : Below w.heap.size w W) => of_wrong A cap G gcap X W hn0 (hX.below hb) hw0
  unfold wldV worldV stV at hOF
  generalize (wrongW X).2 = wa at *
  generalize (wrongW X).1 = we at *
  have HOF := hide hOF
  clear hOF hX
  unfold wldV worldV
  go_enter Try.func12, Try.ntmps12
  go_wp2_with fail
  go_at_call 66
  refine (alive3_any _).mono ?_
  rintro e w1 ⟨rfl, hb1⟩
  have c0 := keep_below hb1 (p := ⟨w.heap.size, 0, none⟩) (v := .slice A X.rows.length cap) (by simp)
  have c1 := keep_below hb1 (p := ⟨w.heap.size, 1, none⟩) (v := .slice G X.gens.length gcap) (by simp)
  have hL1 := below_one w _ hb1
  have HL1 := hide hL1
  clear hb1 hL1
  go_wp2_with fail
  go_at_call 60
  refine (unhide HOF _ (unhide HL1)).mono ?_
  rintro e w2 ⟨rfl, hb2⟩
  have HL2 := hide ((unhide HL1).trans (hb2.mono (unhide HL1).size))
  clear c0 c1 hb2 HL1 HOF
  go_wp2
  go_ret
  exact ⟨rfl, (unhide HL2).trans ((bel2 _ _ _).mono (unhide HL2).size)⟩
set_option maxRecDepth 8000 in
set_option maxHeartbeats 8000000 in
theorem tables_right (A : Option Addr) (cap : Nat) (G : Option Addr) (gcap : Nat) (X : Wd) (w : World) (hX : WldAt w A cap G gcap X) (hr : RightW X) :
    Calls Try.prog 12 #[wldV A cap G gcap X] w fun e w' => e = .returned (.bool true) ∧ Below w.heap.size w w' := by
  obtain ⟨hl, hgl, _⟩ := right_hr ((right_iff X).2 hr)
  have hOF := fun W (hb : Below w.heap.size w W) => of_right A cap G gcap X W (hX.below hb) hr
  unfold wldV worldV stV at hOF
  have HOF := hide hOF
  have HX := hide hX
  have HR := hide hr
  clear hOF hX hr
  unfold wldV worldV
  go_enter Try.func12, Try.ntmps12
  go_wp2_with fail
  go_at_call 66
  refine (alive3_any _).mono ?_
  rintro e w1 ⟨rfl, hb1⟩
  have c0 := keep_below hb1 (p := ⟨w.heap.size, 0, none⟩) (v := .slice A X.rows.length cap) (by simp)
  have c1 := keep_below hb1 (p := ⟨w.heap.size, 1, none⟩) (v := .slice G X.gens.length gcap) (by simp)
  have HL1 := hide (below_one w _ hb1)
  have HC0 := hide c0
  clear hb1
  go_wp2_with fail
  go_at_call 60
  refine (unhide HOF _ (unhide HL1)).mono ?_
  rintro e w2 ⟨T2, tc2, G2, gc2, rfl, hN2, hb2⟩
  obtain ⟨W3, hW3⟩ : ∃ W3, W3 = allocs w2 [([.slice T2 (tabsW X).length tc2, .slice G2 X.gens.length gc2], 71), ([.int .i64 0, .int .i64 0], 43)] := ⟨_, rfl⟩
  have hB3 := Bxs.start w2 [([.slice T2 (tabsW X).length tc2, .slice G2 X.gens.length gc2], 71), ([.int .i64 0, .int .i64 0], 43)]
  have hb3 := allocs_below [([.slice T2 (tabsW X).length tc2, .slice G2 X.gens.length gc2], 71), ([.int .i64 0, .int .i64 0], 43)] w2
  rw [← hW3] at hB3 hb3
  have hL2 := (unhide HL1).trans (hb2.mono (unhide HL1).size)
  have HL3 := hide (hL2.trans (hb3.mono hL2.size))
  have HT3 := hide (hN2.below hb3).st
  have HX3 := hide ((unhide HX).below (hL2.trans (hb3.mono hL2.size)))
  have HC3 := hide hB3
  have HA3 := hide (keep_below hb3 (keep_below hb2 (unhide HC0)))
  have hW3' : (w2.alloc (.cells #[.slice T2 (tabsW X).length tc2, .slice G2 X.gens.length gc2] 71)).alloc (.cells #[.int .i64 0, .int .i64 0] 43) = W3 := hW3.symm
  have HW3 := hide hW3'
  clear c0 c1 hb2 hB3 hb3 hL2 hW3 hW3' hN2 HL1 HOF HX HC0
  go_upto_region 6 with fail
  rw [unhide HW3]
  have a0 := unhide HA3
  have lb := World.block_lt_of_cell? W3 _ a0
  have hmk := run_makeMap (P := Try.prog) 89 W3
  go_wp2_with fail
  clear a0 lb hmk
  go_loopw [25] (fun x wr => ∃ j : Nat, j ≤ X.rows.length ∧ x = .int .i64 (j : Int) ∧ Below W3.heap.size W3 wr ∧ ∃ D : DataW Unit, wr.ownsMap Try.prog 3 (plainElem Try.prog 4) W3.heap.size j D ∧ KM D ((tabsTo X.rows j).map (·.has))) (fun x _ => X.rows.length - (intOf x).toNat)
  case atStart => exact ⟨0, Nat.zero_le _, rfl, bel1 _ _, .map [], World.ownsMap_made W3 _ _ _, KM.start⟩
  case round =>
    obtain ⟨j, hj, rfl, hbr, D, hM, hK⟩ := hrel
    by_cases hlt : j < X.rows.length
    · have j0 : (0 : Int) ≤ (j : Int) := by omega
      have j1 : (j : Int) < (X.rows.length : Int) := by omega
      have hg := tabsTo_grp X.rows j hj
      have hsucc := tabsTo_succ X.rows j hlt
      have hrv := (unhide HR).rv j hlt
      unfold rowOf at hrv
      obtain ⟨b, off, hAe, hrow⟩ := ((unhide HX3).below hbr).rows j hlt
      dsimp only at hrow
      rw [getD_row' _ _ hlt] at hrow hrv
      obtain ⟨r, hrr⟩ : ∃ r, r = X.rows[j] := ⟨_, rfl⟩
      rw [← hrr] at hrow hrv hsucc
      have hset := (rv_parts hrv).1
      have hK2 := hK.put (tabs_sorted hg) r.has
      rw [← hsI_take, ← hsucc] at hK2
      obtain ⟨c0, c1, c2, c3, c4, c5, c6, c7, c8, c9, c10⟩ := rowAt_all hrow
      have HKY := hide (Maps.keyOf_int_mk Try.underlying3 (wf_set hset.1 hset.2))
      have HM := hide (hM.alloc (.cells (rowCells r).toArray 61))
      have HBR := hide (hbr.trans ((bel1 wr (.cells (rowCells r).toArray 61)).mono hbr.size))
      have HK2 := hide hK2
      clear hg hsucc hrv hrow hset hK hM hK2 hbr hrr
      subst hAe
      go_wp2_with ((at_mapUpdate; refine wpList_mapUpdate_own _ rfl _ _ _ 89 rfl 3 4 (Maps.int_keyed Try.underlying3) Try.underlying89 (plainElem Try.prog 4) W3.heap.size j D rfl (unhide HM) (by unfold maxLen; omega) _ _ (.int .i64 r.has) rfl rfl (unhide HKY) (.lit (.bool true)) [] (plainElem_bool Try.underlying4 true) ?_; intro w5 hown5 hgrow5; have HM5 := hide hown5; have HB5 := hide ((unhide HBR).trans (grown_below hgrow5 (fun k e => by simp only [Option.some.injEq] at e; omega) (unhide HBR).size)); clear hown5 hgrow5))
      go_roundw
      case rel => exact ⟨j + 1, by omega, by go_num, unhide HB5, _, unhide HM5, unhide HK2⟩
      case measure => simp [intOf]; omega
    · obtain rfl : j = X.rows.length := by omega
      have HM := hide hM
      have HK := hide hK
      have HBR := hide hbr
      have hB := (unhide HC3).below hbr
      have c0 := hB.cell 0 rfl 0 rfl
      rw [Nat.add_zero] at c0
      have HE : Hid (rowsTo (tabsW X) (tabsW X).length = (tabsW X).flatMap (·.rows)) := hide (by unfold rowsTo; rw [List.take_length])
      have HPL := hide (unhide HT3).perm.length_eq
      have HRL := hide (fun i => rowsTo_len (tabsW X) i)
      clear hM hK hbr hB
      go_wp2_with fail
      clear c0
      obtain ⟨wb, hwb⟩ : ∃ wb, wb = wr := ⟨_, rfl⟩
      rw [← hwb] at HM HBR ⊢
      clear hwb
      go_loopw [8, 36] (fun y x wr => ∃ i : Nat, i ≤ (tabsW X).length ∧ y = .int .i64 ((rowsTo (tabsW X) i).length : Int) ∧ x = .int .i64 (i : Int) ∧ Below wb.heap.size wb wr) (fun _ x _ => (tabsW X).length - (intOf x).toNat)
      case atStart => exact ⟨0, Nat.zero_le _, by simp [rowsTo], rfl, Below.refl _ _⟩
      case round =>
        obtain ⟨i, hi, rfl, rfl, hb5⟩ := hrel
        have hbw := (unhide HBR).trans (hb5.mono (unhide HBR).size)
        have hM5 : wr.ownsMap Try.prog 3 (plainElem Try.prog 4) W3.heap.size X.rows.length D := (unhide HM).kept ⟨hb5.os, hb5.tape, hb5.output, hb5.size, fun k hk _ => hb5.block k hk⟩ (row := none) (by simp)
        have hT5 := (unhide HT3).below hbw
        have hrl := unhide HRL i
        have hpl := unhide HPL
        by_cases hlt2 : i < (tabsW X).length
        · have i0 : (0 : Int) ≤ (i : Int) := by omega
          have i1 : (i : Int) < ((tabsW X).length : Int) := by omega
          obtain ⟨tb, tf, hTe, Aa, ca, C, cc, hta⟩ := hT5.tbs i hlt2
          have hrt := hT5.each _ (List.getElem_mem hlt2)
          have hsu := rowsTo_succ (tabsW X) i hlt2
          have hmem : (tabsW X)[i].has ∈ (tabsTo X.rows X.rows.length).map (·.has) := List.mem_map.2 ⟨_, List.getElem_mem hlt2, rfl⟩
          generalize (tabsW X)[i] = t at *
          have hone := hrt.one
          have hfew := hrt.few
          have hs0 := set_bd hrt.set
          have d0 := hta.c0
          have d1 := hta.c1
          have d2 := hta.c2
          have hlk := own_look (hM5.alloc (.cells #[.int .i64 t.has, .slice Aa t.rows.length ca, .slice C (lstTo t.has 8).length cc] 92)) (unhide HK) t.has hs0.1 hs0.2
          rw [decide_eq_true hmem] at hlk
          have hne : ((t.rows.length : Int) == 0) = false := by rw [beq_eq_false_iff_ne]; omega
          have hsum : IntKind.i64.wrap (((rowsTo (tabsW X) i).length : Int) + (t.rows.length : Int)) = ((rowsTo (tabsW X) (i + 1)).length : Int) := by
            rw [IntWalk.i64_in _ (by omega), hsu, List.length_append]
            simp
          have htf := hT5.few
          have HBX := hide hb5
          clear hb5 hbw hM5 hT5 hta hrt hsu hmem hs0 hrl hpl
          subst hTe
          go_wp2
          go_roundw
          case rel => exact ⟨i + 1, by omega, rfl, by go_num, (unhide HBX).trans ((bel1 _ _).mono (unhide HBX).size)⟩
          case measure => simp [intOf]; omega
        · obtain rfl : i = (tabsW X).length := by omega
          have hlen := fun ty => hM5.len Try.underlying89 ty
          rw [(unhide HK).size, List.length_map] at hlen
          have eq1 : (rowsTo (tabsW X) (tabsW X).length).length = X.rows.length := by rw [unhide HE]; exact hpl
          rw [eq1]
          have hB := (unhide HC3).below hbw
          have c0 := hB.cell 0 rfl 0 rfl
          rw [Nat.add_zero] at c0
          have a0 := keep_below hbw (unhide HA3)
          have HEN := hide ((unhide HL3).trans (hbw.mono (unhide HL3).size))
          have etw : (tabsTo X.rows X.rows.length).length = (tabsW X).length := rfl
          rw [etw] at hlen
          clear hbw hM5 hT5 hB hrl hpl eq1 etw hb5
          go_wp2
          go_ret
          exact ⟨rfl, unhide HEN⟩
theorem tables_law (A : Option Addr) (cap : Nat) (G : Option Addr) (gcap : Nat) (X : Wd) (w : World) (hn0 : X.rows.length ≤ 9223372036854775807) (hgn0 : X.gens.length ≤ 9223372036854775807) (hX : WldAt w A cap G gcap X) :
    Calls Try.prog 12 #[wldV A cap G gcap X] w fun e w' => e = .returned (.bool true) ∧ Below w.heap.size w w' := by
  by_cases h : (wrongW X).1 = 0
  · exact tables_right A cap G gcap X w hX ((right_iff X).1 h)
  · exact tables_wrong A cap G gcap X w hn0 hX h
end Go.Proofs.Ytnbleebilmghcaa
