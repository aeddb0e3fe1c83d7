/- plain.numbersInUse and plain.Next. -/
import Derived.Test.YtmbjghjpofcdpaaPIns2
import Derived.Test.YtmbjghjpofcdpaaLists
set_option linter.unusedVariables false
set_option linter.unusedSimpArgs false
set_option linter.unnecessarySimpa false
namespace Go.Proofs.Ytmbjghjpofcdpaa
open Go Go.RowKit
attribute [local go_sem ↓] Go.wp_at_zero Go.wp_at_succ

theorem info4 : (Try.prog.info? 4).map (fun i => (i.zero, i.size, i.bytes)) = some (some (.bool false), 1, 1) := by kernel_rfl
theorem size4 : (Try.prog.info? 4).map (·.size) = some 1 := by kernel_rfl
/-- Is the number in use among the first j rows? -/
def usedB (rows : List RowI) (j i : Nat) : Bool := (rows.take j).any fun x => x.ix == (i : Int)
def usedL (rows : List RowI) (gn j : Nat) : List Value := (List.range gn).map fun i => Value.bool (usedB rows j i)
theorem usedL_len (rows : List RowI) (gn j : Nat) : (usedL rows gn j).length = gn := by simp [usedL]
theorem usedB_succ (rows : List RowI) (j i : Nat) (h : j < rows.length) : usedB rows (j + 1) i = (usedB rows j i || (rows.getD j dR).ix == (i : Int)) := by
  unfold usedB
  rw [List.take_succ_eq_append_getElem h, List.any_append, List.getD_eq_getElem?_getD, List.getElem?_eq_getElem h]; simp
theorem usedL_skip (rows : List RowI) (gn j : Nat) (h : j < rows.length) (hx : (rows.getD j dR).ix < 0 ∨ (gn : Int) ≤ (rows.getD j dR).ix) : usedL rows gn (j + 1) = usedL rows gn j := by
  unfold usedL
  refine List.map_congr_left fun i hi => ?_
  rw [List.mem_range] at hi
  rw [usedB_succ rows j i h]
  have : ((rows.getD j dR).ix == (i : Int)) = false := by rw [beq_eq_false_iff_ne]; omega
  rw [this]; simp
theorem usedL_set (rows : List RowI) (gn j q : Nat) (h : j < rows.length) (hq : q < gn) (hx : (rows.getD j dR).ix = (q : Int)) : usedL rows gn (j + 1) = (usedL rows gn j).set q (.bool true) := by
  apply List.ext_getElem?
  intro i
  by_cases hi : i < gn
  · have e1 : (usedL rows gn (j + 1))[i]? = some (.bool (usedB rows (j + 1) i)) := by unfold usedL; rw [List.getElem?_map, List.getElem?_range hi]; rfl
    have e2 : (usedL rows gn j)[i]? = some (.bool (usedB rows j i)) := by unfold usedL; rw [List.getElem?_map, List.getElem?_range hi]; rfl
    rw [e1, usedB_succ rows j i h, hx]
    by_cases e : q = i
    · subst e
      rw [List.getElem?_set_self (by rw [usedL_len]; exact hq)]; simp
    · rw [List.getElem?_set_ne e, e2]
      have : ((q : Int) == (i : Int)) = false := by simp; omega
      rw [this]; simp
  · rw [List.getElem?_eq_none (by rw [usedL_len]; omega), List.getElem?_eq_none (by rw [List.length_set, usedL_len]; omega)]
theorem usedL_start (rows : List RowI) (gn : Nat) : (madeCells (Value.bool false).cells (gn * 1)).toList = usedL rows gn 0 := by
  apply List.ext_getElem?
  intro i
  unfold usedL usedB
  by_cases hi : i < gn
  · rw [List.getElem?_map, List.getElem?_range hi]
    simp [madeCells, hi, Value.cells, Nat.mod_one]
  · rw [List.getElem?_eq_none (by simp [madeCells]; omega), List.getElem?_eq_none (by simp; omega)]
theorem usedL_at (rows : List RowI) (gn j i : Nat) (h : i < gn) : (usedL rows gn j)[i]? = some (.bool (usedB rows j i)) := by unfold usedL; rw [List.getElem?_map, List.getElem?_range h]; rfl

/-- The world's box. -/
structure NW1 (w : World) (u0 u1 : Value) (W : World) : Prop where
  bel : Below w.heap.size w W
  sz : w.heap.size + 1 ≤ W.heap.size
  r0 : W.cell? ⟨w.heap.size, 0, none⟩ = some u0
  r1 : W.cell? ⟨w.heap.size, 1, none⟩ = some u1
theorem NW1.keep {w W W1 : World} {u0 u1 : Value} (h : NW1 w u0 u1 W) (hb : Below (w.heap.size + 1) W W1) : NW1 w u0 u1 W1 :=
  ⟨h.bel.trans (hb.mono (by omega)), Nat.le_trans h.sz hb.size, (hb.cell (p := ⟨w.heap.size, 0, none⟩) (by simp)).trans h.r0, (hb.cell (p := ⟨w.heap.size, 1, none⟩) (by simp)).trans h.r1⟩
theorem NW1.below {w W W1 : World} {u0 u1 : Value} (h : NW1 w u0 u1 W) (hb : Below W.heap.size W W1) : NW1 w u0 u1 W1 := h.keep (hb.mono h.sz)
theorem NW1.start (w : World) (u0 u1 : Value) : NW1 w u0 u1 (w.alloc (.cells #[u0, u1] 38)) := ⟨(Below.refl _ _).alloc (Nat.le_refl _) _, by simp, by simp, by simp⟩

set_option maxRecDepth 8000 in
set_option maxHeartbeats 2000000 in
theorem inUse_any (A : Option Addr) (cap : Nat) (G : Option Addr) (gcap : Nat) (X : Wd) (w : World) (hn : X.rows.length ≤ 140737488355328) (hgn : X.gens.length ≤ 140737488355328) (hX : WldAt w A cap G gcap X) :
    Calls Try.prog 82 #[wldV A cap G gcap X] w fun e w' => ∃ u, e = .returned (.slice (some ⟨u, 0, none⟩) X.gens.length X.gens.length) ∧ w'.ownsRow (w.heap.size + 1) 4 1 (.slice (some ⟨u, 0, none⟩) X.gens.length X.gens.length) X.gens.length (usedL X.rows X.gens.length X.rows.length) ∧ Below w.heap.size w w' := by
  obtain ⟨i4, hi4, hz4, hs4, hb4⟩ := info_parts info4
  have HI := hide hi4
  have HZ := hide hz4
  have HS := hide hs4
  have hbb : i4.bytes * X.gens.length ≤ 281474976710656 := by rw [hb4]; omega
  have HBB := hide hbb
  have HN := hide (NW1.start w (.slice A X.rows.length cap) (.slice G X.gens.length gcap))
  have HX := hide hX
  have HUS := hide (usedL_start X.rows X.gens.length)
  clear hi4 hz4 hs4 hb4 hbb hX
  unfold wldV worldV
  go_enter Try.func82, Try.ntmps82
  go_wp2_with (first
    | (at_make; refine wpList_make_full _ rfl (.tmp 8) (.tmp 8) 111 rfl (w.heap.size + 1) 4 i4 (.bool false) 1 Try.underlying111 (unhide HI) (unhide HZ) (unhide HS) .i64 .i64 (X.gens.length : Int) (X.gens.length : Int) X.gens.length rfl rfl rfl rfl (unhide HBB) (by unfold maxLen; omega) (unhide HN).sz ?_; intro w3 ho3 hg3; have hN3 := (unhide HN).keep (grown_below hg3 (fun k hk => by cases hk) (unhide HN).sz); rw [unhide HUS] at ho3; have HO3 := hide ho3; have r0 := hN3.r0; have r1 := hN3.r1; have HN3 := hide hN3; clear ho3 hg3 hN3 HN))
  clear r0 r1
  have ho3 : w3.ownsRow (w.heap.size + 1) 4 1 (.slice (some ⟨w.heap.size + 1, 0, none⟩) X.gens.length X.gens.length) X.gens.length (usedL X.rows X.gens.length 0) := by simpa using unhide HO3
  have HO4 := hide ho3
  clear ho3 HO3 HUS
  go_loopw [13] (fun i wr => ∃ j : Nat, j ≤ X.rows.length ∧ i = .int .i64 j ∧ wr.ownsRow (w.heap.size + 1) 4 1 (.slice (some ⟨w.heap.size + 1, 0, none⟩) X.gens.length X.gens.length) X.gens.length (usedL X.rows X.gens.length j) ∧ NW1 w (.slice A X.rows.length cap) (.slice G X.gens.length gcap) wr) (fun i _ => X.rows.length - (intOf i).toNat)
  case atStart => exact ⟨0, Nat.zero_le _, rfl, unhide HO4, unhide HN3⟩
  case round =>
    clear HO4 HN3
    obtain ⟨j, hj, rfl, ho, hN⟩ := hrel
    by_cases hlt : j < X.rows.length
    · have j0 : (0 : Int) ≤ (j : Int) := by omega
      have j1 : (j : Int) < (X.rows.length : Int) := by omega
      obtain ⟨b, off, hA, hrow⟩ := (unhide HX).rows j hlt
      have hrow : RowAt wr b (off + j * 11) (X.rows.getD j dR) := hrow.below hN.bel
      have c0 := hrow.c0
      have c1 := hrow.c1
      have c2 := hrow.c2
      have c3 := hrow.v 0 (by omega)
      have c4 := hrow.v 1 (by omega)
      have c5 := hrow.v 2 (by omega)
      have c6 := hrow.v 3 (by omega)
      have c7 := hrow.v 4 (by omega)
      have c8 := hrow.v 5 (by omega)
      have c9 := hrow.v 6 (by omega)
      have c10 := hrow.v 7 (by omega)
      simp only [Nat.add_assoc, Nat.reduceAdd] at c3 c4 c5 c6 c7 c8 c9 c10
      simp only [← Nat.add_assoc] at c3 c4 c5 c6 c7 c8 c9 c10
      have HSK := hide (usedL_skip X.rows X.gens.length j hlt)
      have HST := hide (fun q hq => usedL_set X.rows X.gens.length j q hlt hq)
      have HLN := hide (usedL_len X.rows X.gens.length j)
      subst hA
      have HO := hide ho
      have HN := hide hN
      clear ho hN hrow HX
      generalize X.rows.getD j dR = x at *
      have hc : x.ix < 0 ∨ (¬ x.ix < 0 ∧ (X.gens.length : Int) ≤ x.ix) ∨ ∃ q : Nat, q < X.gens.length ∧ x.ix = (q : Int) := by
        by_cases h1 : x.ix < 0
        · exact .inl h1
        · by_cases h2 : (X.gens.length : Int) ≤ x.ix
          · exact .inr (.inl ⟨h1, h2⟩)
          · exact .inr (.inr ⟨x.ix.toNat, by omega, by omega⟩)
      rcases hc with h1 | ⟨h1, h2⟩ | ⟨q, hq, hx⟩
      · have h1' : ¬ (0 : Int) ≤ x.ix := by omega
        go_wp2
        go_roundw
        case rel => exact ⟨j + 1, by omega, by go_num, by rw [unhide HSK (.inl h1)]; exact (unhide HO).alloc _, (unhide HN).below ((Below.refl _ _).alloc (Nat.le_refl _) _)⟩
        case measure => simp [intOf]; omega
      · have h1' : (0 : Int) ≤ x.ix := by omega
        have h2' : ¬ x.ix < (X.gens.length : Int) := by omega
        go_wp2
        go_roundw
        case rel => exact ⟨j + 1, by omega, by go_num, by rw [unhide HSK (.inr h2)]; exact (unhide HO).alloc _, (unhide HN).below ((Below.refl _ _).alloc (Nat.le_refl _) _)⟩
        case measure => simp [intOf]; omega
      · obtain ⟨ix, gen, has, v⟩ := x
        dsimp only at *
        subst hx
        have q0 : (0 : Int) ≤ (q : Int) := by omega
        have q1 : (q : Int) < (X.gens.length : Int) := by omega
        go_wp2_with (first
          | (refine wpList_put1 rfl 4 (.tmp 33) (.const (.bool true)) rfl (w.heap.size + 1) q (.bool true) rfl rfl rfl size4 (own_there ((unhide HO).alloc _) q 1 (by rw [unhide HLN]; omega)) ?_; intro W2 hW2; have HW2 := hide hW2; clear hW2))
        go_roundw
        case rel => exact ⟨j + 1, by omega, by go_num, by rw [unhide HST q hq rfl, unhide HW2]; exact own_set ((unhide HO).alloc _) (by rw [unhide HLN]; exact hq) _, by rw [unhide HW2]; exact ((unhide HN).below ((Below.refl _ _).alloc (Nat.le_refl _) _)).keep ((Below.refl _ _).setCell (p := ⟨w.heap.size + 1, q, none⟩) (Nat.le_refl _) _)⟩
        case measure => simp [intOf]; omega
    · obtain rfl : j = X.rows.length := by omega
      have HO := hide ho
      have HB := hide hN.bel
      clear ho hN HX
      go_wp2
      go_ret
      exact ⟨w.heap.size + 1, rfl, unhide HO, unhide HB⟩

/-- Who would come next. -/
def nxTo (X : Wd) : Nat → Nat → (Int × Int) × Int
  | 0, _ => if 60 ≤ X.gens.length then ((0, 0), 4) else ((((X.gens.length : Nat) : Int), 1), 0)
  | m + 1, j => if usedB X.rows X.rows.length j = false ∧ X.gens.getD j 0 < 1000 then ((((j : Nat) : Int), X.gens.getD j 0 + 1), 0) else nxTo X m (j + 1)
end Go.Proofs.Ytmbjghjpofcdpaa
