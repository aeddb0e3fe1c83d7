/- plain.Match, the document's Match and SameBeings. -/
import Derived.Test.YtnbleebilmghcabQG
set_option linter.all false
namespace Go.Proofs.Ytnbleebilmghcab
open Go Go.RowKit
attribute [local go_sem ↓] Go.wp_at_zero Go.wp_at_succ
theorem info40 : (Try.prog.info? 50).map (fun i => (i.zero, i.size, i.bytes)) = some (some (.agg #[.int .i64 0, .int .i64 0]), 2, 16) := by kernel_rfl
def cellsOfBs (l : List (Int × Int)) : List Value := l.flatMap fun b => [.int .i64 b.1, .int .i64 b.2]
theorem bs_len (l : List (Int × Int)) : (cellsOfBs l).length = l.length * 2 := by
  induction l with
  | nil => rfl
  | cons x l ih => simp only [cellsOfBs, List.flatMap_cons, List.length_append, List.length_cons, List.length_nil] at ih ⊢; omega
theorem bs_app (l m : List (Int × Int)) : cellsOfBs (l ++ m) = cellsOfBs l ++ cellsOfBs m := by simp [cellsOfBs]
def bsTo (X : Wd) (a n : Int) (j : Nat) : List (Int × Int) := ((X.rows.take j).filter fun r => meetsB a n r.has).map fun r => (r.ix, r.gen)
theorem bsTo_succ (X : Wd) (a n : Int) (j : Nat) (h : j < X.rows.length) : bsTo X a n (j + 1) = if meetsB a n (X.rows.getD j dR).has = true then bsTo X a n j ++ [((X.rows.getD j dR).ix, (X.rows.getD j dR).gen)] else bsTo X a n j := by
  unfold bsTo
  rw [List.take_succ_eq_append_getElem h, List.filter_append, List.map_append, List.getD_eq_getElem?_getD, List.getElem?_eq_getElem h, Option.getD_some]
  cases hm : meetsB a n X.rows[j].has <;> simp [hm]
theorem bsTo_len (X : Wd) (a n : Int) (j : Nat) : (bsTo X a n j).length ≤ j := by
  unfold bsTo
  rw [List.length_map]
  exact Nat.le_trans (List.length_filter_le _ _) (by rw [List.length_take]; omega)
structure MB (w : World) (a n : Int) (W : World) : Prop where
  bel : Below w.heap.size w W
  sz : w.heap.size + 2 ≤ W.heap.size
  f0 : W.cell? ⟨w.heap.size + 1, 0, none⟩ = some (.int .i64 a)
  f1 : W.cell? ⟨w.heap.size + 1, 1, none⟩ = some (.int .i64 n)
theorem MB.keep {w W W1 : World} {a n : Int} (h : MB w a n W) (hb : Below (w.heap.size + 2) W W1) : MB w a n W1 :=
  ⟨h.bel.trans (hb.mono (by omega)), Nat.le_trans h.sz hb.size, (hb.cell (p := ⟨w.heap.size + 1, 0, none⟩) (by simp)).trans h.f0, (hb.cell (p := ⟨w.heap.size + 1, 1, none⟩) (by simp)).trans h.f1⟩
theorem MB.below {w W W1 : World} {a n : Int} (h : MB w a n W) (hb : Below W.heap.size W W1) : MB w a n W1 := h.keep (hb.mono h.sz)
theorem MB.start (w : World) (u0 u1 : Value) (a n : Int) : MB w a n ((w.alloc (.cells #[u0, u1] 40)).alloc (.cells #[.int .i64 a, .int .i64 n] 23)) := by
  have hb := bel2 w (.cells #[u0, u1] 40) (.cells #[.int .i64 a, .int .i64 n] 23)
  exact ⟨hb, by simp, by simp [go_sem], by simp [go_sem]⟩
theorem new_two (w : World) (x y : Value) (t : TypeId) : ∀ j u, [x, y][j]? = some u → (w.alloc (.cells #[x, y] t)).cell? ((⟨w.heap.size, 0, none⟩ : Addr).add j) = some u := by
  intro j u hj
  match j, hj with
  | 0, hj => simp at hj; subst hj; simp [Addr.add]
  | 1, hj => simp at hj; subst hj; simp [Addr.add]
theorem one_two (x y : Int) : ∀ u ∈ [Value.int .i64 x, Value.int .i64 y], u.oneCell' = true := by
  intro u hu; simp at hu; rcases hu with rfl | rfl <;> rfl
set_option maxRecDepth 8000 in
set_option maxHeartbeats 4000000 in
theorem match_any (A : Option Addr) (cap : Nat) (G : Option Addr) (gcap : Nat) (X : Wd) (a n : Int) (w : World) (hn : X.rows.length ≤ 1000000) (hX : WldAt w A cap G gcap X) :
    Calls Try.prog 49 #[wldV A cap G gcap X, .agg #[.int .i64 a, .int .i64 n]] w fun e w' => ∃ v, e = .returned v ∧ w'.ownsRow (w.heap.size + 2) 50 2 v (bsTo X a n X.rows.length).length (cellsOfBs (bsTo X a n X.rows.length)) ∧ Below w.heap.size w w' := by
  obtain ⟨i40, hi, hz, hs, hb⟩ := info_parts info40
  have hME : ∀ j, j < X.rows.length → ∀ W, Calls Try.prog 74 #[.agg #[.int .i64 a, .int .i64 n], .int .i64 (X.rows.getD j dR).has] W fun e w' => e = .returned (.bool (meetsB a n (X.rows.getD j dR).has)) ∧ Below W.heap.size W w' := fun j hj W => (meets_any a n _ W).mono fun e w' ⟨he, hw⟩ => ⟨he, by rw [hw]; exact bel1 _ _⟩
  have HI := hide hi
  have HZ := hide hz
  have HS := hide hs
  have HB := hide hb
  have HM := hide (MB.start w (.slice A X.rows.length cap) (.slice G X.gens.length gcap) a n)
  have HX := hide hX
  have HME := hide hME
  clear hi hz hs hb hX hME
  unfold wldV worldV
  go_enter Try.func49, Try.ntmps49
  go_wp2
  go_loopw [5, 11] (fun v i wr => ∃ j : Nat, j ≤ X.rows.length ∧ i = .int .i64 j ∧ wr.ownsRow (w.heap.size + 2) 50 2 v (bsTo X a n j).length (cellsOfBs (bsTo X a n j)) ∧ MB w a n wr) (fun _ i _ => X.rows.length - (intOf i).toNat)
  case atStart => exact ⟨0, Nat.zero_le _, rfl, World.ownsRow_nil _ _ _ _, unhide HM⟩
  case round =>
    clear HM
    obtain ⟨j, hj, rfl, ho, hM⟩ := hrel
    by_cases hlt : j < X.rows.length
    · have j0 : (0 : Int) ≤ (j : Int) := by omega
      have j1 : (j : Int) < (X.rows.length : Int) := by omega
      obtain ⟨b, off, hA, hrow⟩ := (unhide HX).rows j hlt
      have hrow : RowAt wr b (off + j * 11) (X.rows.getD j dR) := hrow.below hM.bel
      have c0 := hrow.c0
      have c1 := hrow.c1
      have c2 := hrow.c2
      have c3 := hrow.v 0 (by omega)
      have c4 := hrow.v 1 (by omega)
      have c5 := hrow.v 2 (by omega)
      have c6 := hrow.v 3 (by omega)
      have c7 := hrow.v 4 (by omega)
      have c8 := hrow.v 5 (by omega)
      have c9 := hrow.v 6 (by omega)
      have c10 := hrow.v 7 (by omega)
      simp only [Nat.add_assoc, Nat.reduceAdd] at c3 c4 c5 c6 c7 c8 c9 c10
      simp only [← Nat.add_assoc] at c3 c4 c5 c6 c7 c8 c9 c10
      have f0 := hM.f0
      have f1 := hM.f1
      have lf := World.block_lt_of_cell? wr _ f0
      have lf2 := Nat.lt_of_succ_lt lf
      have HC := hide (unhide HME j hlt)
      have HST := hide (bsTo_succ X a n j hlt)
      have hbl := bsTo_len X a n j
      subst hA
      have HO := hide ho
      have HM := hide hM
      clear ho hM hrow HX HME
      generalize bsTo X a n j = bs at *
      generalize X.rows.getD j dR = x at *
      obtain ⟨ix, gen, has, v⟩ := x
      dsimp only at *
      generalize meetsB a n has = me at *
      cases me
      · have HEQ := hide ((unhide HST).trans (if_neg (by simp)))
        go_wp2_with (first
          | (go_at_call 74; refine (unhide HC _).mono ?_; rintro e w5 ⟨rfl, hb5⟩; have HB5 := hide (below_one _ _ hb5); clear hb5))
        go_roundw
        case rel => exact ⟨j + 1, by omega, by go_num, by rw [unhide HEQ]; exact own_kept (unhide HO) (unhide HB5), (unhide HM).below (unhide HB5)⟩
        case measure => simp [intOf]; omega
      · have HEQ := hide ((unhide HST).trans (if_pos rfl))
        go_wp2_with (first
          | (go_at_call 74; refine (unhide HC _).mono ?_; rintro e w5 ⟨rfl, hb5⟩; have d0 := keep_below hb5 (p := ⟨wr.heap.size, 0, none⟩) (v := .int .i64 ix) (by simp [go_sem]); have d1 := keep_below hb5 (p := ⟨wr.heap.size, 1, none⟩) (v := .int .i64 gen) (by simp [go_sem]); have HO5 := hide (own_kept (unhide HO) (below_one _ _ hb5)); have HM5 := hide ((unhide HM).below (below_one _ _ hb5)); clear hb5)
          | (at_builtin; refine wpList_append1 _ rfl (.tmp 19) (.tmp 22) 64 rfl (w.heap.size + 2) 50 i40 (.agg #[.int .i64 0, .int .i64 0]) 2 16 Try.underlying64 (unhide HI) (unhide HZ) (unhide HS) (unhide HB) rfl (by decide) _ bs.length (cellsOfBs bs) rfl ((unhide HO5).alloc _) ⟨w5.heap.size, 0, none⟩ 1 1 [.int .i64 ix, .int .i64 gen] rfl rfl (new_two _ _ _ _) (one_two _ _) (by unfold maxLen; omega) (by omega) (by simp; have := (unhide HM5).sz; omega) (by omega) ?_; intro g capg w7 ho7 hg7 hw7; have HO7 := hide ho7; have HG7 := hide hg7; clear ho7 hg7 hw7))
        go_roundw
        case rel =>
          refine ⟨j + 1, by omega, by go_num, ?_, ?_⟩
          · rw [unhide HEQ, bs_app, List.length_append]; exact unhide HO7
          · have h1 := (unhide HM5).below (bel1 w5 (.cells #[.int .i64 ix, .int .i64 gen] 50))
            exact h1.keep (grown_below (unhide HG7) (fun k hk => ((unhide HO5).lt k hk).1) h1.sz)
        case measure => simp [intOf]; omega
    · obtain rfl : j = X.rows.length := by omega
      have HO := hide ho
      have HBW := hide hM.bel
      clear ho hM HX HME
      go_wp2
      go_ret
      exact ⟨_, rfl, unhide HO, unhide HBW⟩
def BsAt (w : World) (A : Option Addr) (l : List (Int × Int)) : Prop := ∀ j, j < l.length → ∃ b off, A = some ⟨b, off, none⟩ ∧ w.cell? ⟨b, off + j * 2, none⟩ = some (.int .i64 (l.getD j (0, 0)).1) ∧ w.cell? ⟨b, off + j * 2 + 1, none⟩ = some (.int .i64 (l.getD j (0, 0)).2)
theorem BsAt.below {w w1 : World} {A : Option Addr} {l : List (Int × Int)} (h : BsAt w A l) (hb : Below w.heap.size w w1) : BsAt w1 A l := fun j hj => by
  obtain ⟨b, off, h0, h1, h2⟩ := h j hj
  exact ⟨b, off, h0, keep_below hb h1, keep_below hb h2⟩
theorem bs_get : ∀ (l : List (Int × Int)) (j : Nat), j < l.length → (cellsOfBs l)[j * 2]? = some (.int .i64 (l.getD j (0, 0)).1) ∧ (cellsOfBs l)[j * 2 + 1]? = some (.int .i64 (l.getD j (0, 0)).2)
  | [], j, h => by simp at h
  | x :: l, 0, _ => by simp [cellsOfBs]
  | x :: l, j + 1, h => by
    have := bs_get l j (by simpa using h)
    have e : cellsOfBs (x :: l) = .int .i64 x.1 :: .int .i64 x.2 :: cellsOfBs l := rfl
    rw [e, show (j + 1) * 2 = j * 2 + 1 + 1 by omega]
    simpa using this
theorem bs_own {W : World} {base : Nat} {v : Value} {l : List (Int × Int)} (h : W.ownsRow base 50 2 v l.length (cellsOfBs l)) : ∃ A cap, v = .slice A l.length cap ∧ BsAt W A l := by
  by_cases h0 : 0 < l.length
  · obtain ⟨g, cap, rfl, _, _⟩ := own_pos h h0
    refine ⟨some ⟨g, 0, none⟩, cap, rfl, fun j hj => ⟨g, 0, rfl, ?_, ?_⟩⟩
    · rw [Nat.zero_add]; exact own_cell h (bs_get l j hj).1
    · rw [Nat.zero_add]; exact own_cell h (bs_get l j hj).2
  · obtain rfl : l = [] := List.eq_nil_of_length_eq_zero (by omega)
    rcases h.2 with ⟨rfl, _⟩ | ⟨g, cap, cur, rfl, _⟩
    · exact ⟨none, 0, rfl, fun j hj => by simp at hj⟩
    · exact ⟨_, cap, rfl, fun j hj => by simp at hj⟩
set_option maxRecDepth 8000 in
set_option maxHeartbeats 2000000 in
theorem samebs_true (A : Option Addr) (c : Nat) (A' : Option Addr) (c' : Nat) (l : List (Int × Int)) (w : World) (hl : l.length ≤ 1000000) (hA : BsAt w A l) (hA' : BsAt w A' l) :
    Calls Try.prog 48 #[.slice A l.length c, .slice A' l.length c'] w fun e w' => e = .returned (.bool true) ∧ Below w.heap.size w w' := by
  have HA := hide hA
  have HA' := hide hA'
  clear hA hA'
  go_enter Try.func48, Try.ntmps48
  go_wp2
  go_loopw [13] (fun x wr => ∃ j : Nat, j ≤ l.length ∧ x = .int .i64 j ∧ Below w.heap.size w wr) (fun x _ => l.length - (intOf x).toNat)
  case atStart => exact ⟨0, Nat.zero_le _, rfl, Below.refl _ _⟩
  case round =>
    obtain ⟨j, hj, rfl, hbr⟩ := hrel
    by_cases hlt : j < l.length
    · have j0 : (0 : Int) ≤ (j : Int) := by omega
      have j1 : (j : Int) < (l.length : Int) := by omega
      obtain ⟨b, off, rfl, h1, h2⟩ := unhide HA j hlt
      obtain ⟨b', off', rfl, h3, h4⟩ := unhide HA' j hlt
      have c0 := keep_below hbr h1
      have c1 := keep_below hbr h2
      have d0 := keep_below hbr h3
      have d1 := keep_below hbr h4
      have HBR := hide hbr
      clear h1 h2 h3 h4 hbr HA HA'
      go_wp2
      go_quiet (fail)
      go_wp2
      go_roundw
      case rel => exact ⟨j + 1, by omega, by go_num, bel_drewN' (unhide HBR) _⟩
      case measure => simp [intOf]; omega
    · obtain rfl : j = l.length := by omega
      have HBR := hide hbr
      clear hbr HA HA'
      go_wp2
      go_ret
      exact ⟨rfl, unhide HBR⟩
end Go.Proofs.Ytnbleebilmghcab
