/- The document's Kill. -/
import Derived.Test.YtnbleebilmghcaaLPRWrong
set_option linter.unusedVariables false
set_option linter.unusedSimpArgs false
set_option linter.unnecessarySimpa false
namespace Go.Proofs.Ytnbleebilmghcaa
open Go Go.RowKit
attribute [local go_sem ↓] Go.wp_at_zero Go.wp_at_succ

structure WldDoc (B : Nat) (w : World) (G0 A : Option Addr) (cap : Nat) (G : Option Addr) (gcap : Nat) (X : Wd) : Prop extends WldAt w A cap G gcap X where
  fa : ∀ c o, A = some ⟨c, o, none⟩ → B ≤ c
  fg : G = G0 ∨ ∀ c o, G = some ⟨c, o, none⟩ → B ≤ c
theorem wldDoc_empty (B : Nat) (w : World) (G0 : Option Addr) : WldDoc B w G0 none 0 none 0 emptyW := ⟨wldAt_empty w, fun _ _ h => (by cases h), .inr fun _ _ h => (by cases h)⟩
structure OL (x : Nat) (v u1 : Value) (l : List RowI) (W : World) : Prop where
  box : B13 x v u1 W
  own : W.ownsRow (x + 1) 61 11 v l.length (cellsOfRows l)
theorem OL.lx {x : Nat} {v u1 : Value} {l : List RowI} {W : World} (h : OL x v u1 l W) : x < W.heap.size := World.block_lt_of_cell? W ⟨x, 0, none⟩ h.box.e0
theorem B13.keep {b : Nat} {u0 u1 : Value} {W W1 : World} (h : B13 b u0 u1 W) (hb : Below (b + 1) W W1) : B13 b u0 u1 W1 :=
  ⟨(hb.cell (p := ⟨b, 0, none⟩) (by simp)).trans h.e0, (hb.cell (p := ⟨b, 1, none⟩) (by simp)).trans h.e1, fun i => (hb.frozen (p := ⟨b, i, none⟩) (by simp)).trans (h.f i)⟩
theorem OL.below {x : Nat} {v u1 : Value} {l : List RowI} {W W1 : World} (h : OL x v u1 l W) (hb : Below W.heap.size W W1) : OL x v u1 l W1 := ⟨h.box.keep (hb.mono h.lx), own_kept h.own hb⟩
theorem OL.start (w : World) (u1 : Value) : OL w.heap.size (.slice none 0 0) u1 [] (w.alloc (.cells #[.slice none 0 0, u1] 38)) := ⟨B13.start w _ _, World.ownsRow_nil _ _ _ _⟩
theorem cells_one (r : RowI) : cellsOfRows [r] = rowCells r := by simp [cellsOfRows]
theorem OL.app {x g cap : Nat} {v u1 : Value} {l : List RowI} {W W1 : World} (h : OL x v u1 l W) (r : RowI) (ho : W1.ownsRow (x + 1) 61 11 (.slice (some ⟨g, 0, none⟩) (l.length + 1) cap) (l.length + 1) (cellsOfRows l ++ rowCells r)) (hg : W.grownBy W1 v.ownBlock) :
    OL x (.slice (some ⟨g, 0, none⟩) (l.length + 1) cap) u1 (l ++ [r]) (W1.setCell ⟨x, 0, none⟩ (.slice (some ⟨g, 0, none⟩) (l.length + 1) cap)) ∧ Below x W (W1.setCell ⟨x, 0, none⟩ (.slice (some ⟨g, 0, none⟩) (l.length + 1) cap)) := by
  have hb1 : Below (x + 1) W W1 := grown_below hg (fun k hk => (h.own.lt k hk).1) h.lx
  have hb0 : Below x W W1 := hb1.mono (Nat.le_succ x)
  refine ⟨⟨(h.box.keep hb1).set0 _, ?_⟩, hb0.setCell (p := ⟨x, 0, none⟩) (Nat.le_refl _) _⟩
  have hc : cellsOfRows (l ++ [r]) = cellsOfRows l ++ rowCells r := by rw [cells_app, cells_one]
  rw [hc, List.length_append, List.length_singleton]
  exact ownsRow_setCell_below ho (a := ⟨x, 0, none⟩) (by simp) _
theorem OL.there {x : Nat} {v u1 : Value} {l : List RowI} {W W1 : World} (h : OL x v u1 l W) (hb : Below (x + 1) W W1) : W1.there x 0 1 := there_of (h.box.keep hb).e0 (h.box.keep hb).f
theorem row_new (W : World) (r : RowI) : ∀ j u, (rowCells r)[j]? = some u → (W.alloc (.cells #[.int .i64 r.ix, .int .i64 r.gen, .int .i64 r.has, .int .i64 (r.v 0), .int .i64 (r.v 1), .int .i64 (r.v 2), .int .i64 (r.v 3), .int .i64 (r.v 4), .int .i64 (r.v 5), .int .i64 (r.v 6), .int .i64 (r.v 7)] 61)).cell? ((⟨W.heap.size, 0, none⟩ : Addr).add j) = some u := (vb1_new W r).src

theorem filter_erase {X : Wd} (hr : RightW X) {k : Nat} (hk : k < X.rows.length) {i g : Int} (h1 : (rowOf X k).ix = i) (h2 : (rowOf X k).gen = g) : X.rows.filter (fun r => !isB r i g) = X.rows.eraseIdx k := by
  have hB : ∀ j, j < X.rows.length → isB (rowOf X j) i g = decide (j = k) := fun j hj => by
    by_cases e : j = k
    · subst e
      rw [(isB_iff _ _ _).2 ⟨h1, h2⟩]; simp
    · have : isB (rowOf X j) i g = false := by
        rw [Bool.eq_false_iff]
        intro h
        exact e (hr.one hj hk (by rw [((isB_iff _ _ _).1 h).1, h1]))
      rw [this]; simp [e]
  have hg : ∀ j (hj : j < X.rows.length), X.rows[j] = rowOf X j := fun j hj => by unfold rowOf; rw [List.getD_eq_getElem?_getD, List.getElem?_eq_getElem hj]; rfl
  have e1 : X.rows = X.rows.take k ++ X.rows[k] :: X.rows.drop (k + 1) := by rw [List.getElem_cons_drop]; exact (List.take_append_drop k X.rows).symm
  have e2 : X.rows.eraseIdx k = X.rows.take k ++ X.rows.drop (k + 1) := List.eraseIdx_eq_take_drop_succ X.rows k
  rw [e2]
  conv => lhs; rw [e1]
  rw [List.filter_append, List.filter_cons]
  have hk' : (!isB X.rows[k] i g) = false := by rw [hg k hk, hB k hk]; simp
  rw [hk']
  have t1 : (X.rows.take k).filter (fun r => !isB r i g) = X.rows.take k := by
    rw [List.filter_eq_self]
    intro a ha
    obtain ⟨j, hj, rfl⟩ := List.getElem_of_mem ha
    rw [List.length_take] at hj
    rw [List.getElem_take, hg j (by omega), hB j (by omega)]
    simp; omega
  have t2 : (X.rows.drop (k + 1)).filter (fun r => !isB r i g) = X.rows.drop (k + 1) := by
    rw [List.filter_eq_self]
    intro a ha
    obtain ⟨j, hj, rfl⟩ := List.getElem_of_mem ha
    rw [List.length_drop] at hj
    rw [List.getElem_drop, hg (k + 1 + j) (by omega), hB (k + 1 + j) (by omega)]
    simp; omega
  rw [t1, t2]
  rfl
def keepTo (X : Wd) (i g : Int) (j : Nat) : List RowI := (X.rows.take j).filter fun r => !isB r i g
theorem keepTo_succ (X : Wd) (i g : Int) (j : Nat) (h : j < X.rows.length) : keepTo X i g (j + 1) = if isB (X.rows.getD j dR) i g = true then keepTo X i g j else keepTo X i g j ++ [X.rows.getD j dR] := by
  unfold keepTo
  rw [List.take_succ_eq_append_getElem h, List.filter_append, List.getD_eq_getElem?_getD, List.getElem?_eq_getElem h, Option.getD_some]
  cases hm : isB X.rows[j] i g <;> simp [hm]
theorem keepTo_len (X : Wd) (i g : Int) (j : Nat) : (keepTo X i g j).length ≤ j := by
  unfold keepTo
  exact Nat.le_trans (List.length_filter_le _ _) (by rw [List.length_take]; omega)

set_option maxRecDepth 8000 in
set_option maxHeartbeats 4000000 in
theorem rkill_any (A : Option Addr) (cap : Nat) (G : Option Addr) (gcap : Nat) (X : Wd) (i g : Int) (w : World) (hn0 : X.rows.length ≤ 9223372036854775807) (hX : WldAt w A cap G gcap X) :
    Calls Try.prog 43 #[wldV A cap G gcap X, beingV i g] w fun e w' => ∃ A' c' G' gc', e = .returned (.tuple #[wldV A' c' G' gc' (killF X i g).2, .int .i64 (killF X i g).1]) ∧ WldDoc w.heap.size w' G A' c' G' gc' (killF X i g).2 ∧ Below w.heap.size w w' := by
  have hCW := CW.start w (.slice A X.rows.length cap) (.slice G X.gens.length gcap) i g
  have hP := fun W (hb : Below w.heap.size w W) => rpwrong_any A X.rows.length cap G X.gens.length gcap (fun j => X.rows.getD j dR) (fun j => X.gens.getD j 0) W (by omega) (hX.rows.below hb) (hX.gens.below hb)
  have eW : plainF (fun j => X.rows.getD j dR) X.rows.length X.gens.length (fun j => X.gens.getD j 0) = wrongW X := rfl
  rw [eW] at hP
  unfold faultP worldV at hP
  have HP := hide hP
  have HX := hide hX
  have HCW := hide hCW
  clear hP hCW eW hX
  unfold killF
  by_cases hw0 : (wrongW X).1 = 0
  · rw [if_neg (by simpa using hw0)]
    obtain ⟨hl, hgl, _⟩ := right_hr hw0
    have hr := (right_iff X).1 hw0
    rw [hw0] at HP
    generalize (wrongW X).2 = wa at *
    rcases find_cases X i g with hf | ⟨k, hk, hf, h1, h2⟩
    · have hR := fun W (h : WldAt W A cap G gcap X) => row_none hf hl A cap G gcap W h
      rw [hf, if_pos (by decide)]
      have HR := hide hR
      clear hR hf hw0
      unfold wldV worldV beingV emptyW
      go_enter Try.func43, Try.ntmps43
      go_wp2_with (first
        | (go_at_call 35; refine (unhide HP _ (unhide HCW).bel).mono ?_; rintro e w5 ⟨rfl, hb5⟩; have hC5 := (unhide HCW).below hb5; have hC6 := hC5.below ((Below.refl _ _).alloc (Nat.le_refl _) (.cells #[.int .i64 0, .int .i64 wa] 43)); have r0 := hC6.r0; have r1 := hC6.r1; have s0 := hC6.s0; have s1 := hC6.s1; have HC6 := hide hC6; clear hb5 hC5 hC6)
        | (go_at_call 49; refine (unhide HR _ ((unhide HX).below (unhide HC6).bel)).mono ?_; rintro e w7 ⟨rfl, hb7⟩; have hC7 := (unhide HC6).below hb7; have HC7 := hide hC7; clear hb7 hC7 r0 r1 s0 s1)
        | (refine wpList_putN rfl 38 (.tmp 4) (.tmp 22) rfl (w.heap.size + 2) 0 [.slice none 0 0, .slice none 0 0] rfl rfl (by simp [Value.oneCell']) size38 (unhide HC7).there ?_; intro W3 hW3; have hC8 := (unhide HC7).give (.slice none 0 0) (.slice none 0 0); rw [← hW3] at hC8; have HC8 := hide hC8; clear hW3 hC8))
      have t0 := (unhide HC8).t0
      have t1 := (unhide HC8).t1
      refine bodyPost_ret (v := .tuple #[.agg #[.slice none 0 0, .slice none 0 0], .int .i64 5]) (by simp [results, Try.results43, go_sem, t0, t1]) rfl ⟨none, 0, none, 0, rfl, wldDoc_empty _ _ _, (unhide HC8).bel⟩
    · have hR := fun W (h : WldAt W A cap G gcap X) => row_some hf hl A cap G gcap W h
      rw [hf, if_neg (by omega), Int.toNat_natCast, ← filter_erase hr hk h1 h2]
      have hkt : X.rows.filter (fun r => !isB r i g) = keepTo X i g X.rows.length := by unfold keepTo; rw [List.take_length]
      rw [hkt]
      obtain ⟨i61, hi61, hz61, hs61, hb61⟩ := info_parts info61
      have HI := hide hi61
      have HZ := hide hz61
      have HS := hide hs61
      have HB := hide hb61
      have HR := hide hR
      clear hR hf hw0 hkt h1 h2 hk hr hi61 hz61 hs61 hb61
      unfold wldV worldV beingV
      go_enter Try.func43, Try.ntmps43
      go_wp2_with (first
        | (go_at_call 35; refine (unhide HP _ (unhide HCW).bel).mono ?_; rintro e w5 ⟨rfl, hb5⟩; have hC5 := (unhide HCW).below hb5; have hC6 := hC5.below ((Below.refl _ _).alloc (Nat.le_refl _) (.cells #[.int .i64 0, .int .i64 wa] 43)); have r0 := hC6.r0; have r1 := hC6.r1; have s0 := hC6.s0; have s1 := hC6.s1; have HC6 := hide hC6; clear hb5 hC5 hC6)
        | (go_at_call 49; refine (unhide HR _ ((unhide HX).below (unhide HC6).bel)).mono ?_; rintro e w7 ⟨b7, o7, rfl, _, hb7⟩; have hC7 := (unhide HC6).below hb7; clear r0 r1 s0 s1; have r0 := hC7.r0; have r1 := hC7.r1; have lr := World.block_lt_of_cell? w7 _ r0; have HC7 := hide hC7; clear hb7 hC7))
      have HOL := hide (OL.start w7 (.slice G X.gens.length gcap))
      have hx3 := (unhide HC7).sz
      clear r0 r1
      obtain ⟨x, hx⟩ : ∃ x, x = w7.heap.size := ⟨_, rfl⟩
      rw [← hx] at HOL hx3 ⊢
      have HC8 := hide ((unhide HC7).below (bel1 w7 (.cells #[.slice none 0 0, .slice G X.gens.length gcap] 38)))
      clear hx HC7
      go_loopw [29] (fun t wr => ∃ (j : Nat) (v : Value), j ≤ X.rows.length ∧ t = .int .i64 j ∧ CW w (.slice A X.rows.length cap) (.slice G X.gens.length gcap) i g (.slice none 0 0) (.slice none 0 0) wr ∧ OL x v (.slice G X.gens.length gcap) (keepTo X i g j) wr) (fun t _ => X.rows.length - (intOf t).toNat)
      case atStart => exact ⟨0, _, Nat.zero_le _, rfl, unhide HC8, unhide HOL⟩
      case round =>
        clear HC8 HOL
        obtain ⟨j, v, hj, rfl, hC, hO⟩ := hrel
        by_cases hlt : j < X.rows.length
        · have j0 : (0 : Int) ≤ (j : Int) := by omega
          have j1 : (j : Int) < (X.rows.length : Int) := by omega
          obtain ⟨b, off, hA, hrow⟩ := (unhide HX).rows j hlt
          have hrow : RowAt wr b (off + j * 11) (X.rows.getD j dR) := hrow.below hC.bel
          have c0 := hrow.c0
          have c1 := hrow.c1
          have c2 := hrow.c2
          have c3 := hrow.v 0 (by omega)
          have c4 := hrow.v 1 (by omega)
          have c5 := hrow.v 2 (by omega)
          have c6 := hrow.v 3 (by omega)
          have c7 := hrow.v 4 (by omega)
          have c8 := hrow.v 5 (by omega)
          have c9 := hrow.v 6 (by omega)
          have c10 := hrow.v 7 (by omega)
          simp only [Nat.add_assoc, Nat.reduceAdd] at c3 c4 c5 c6 c7 c8 c9 c10
          simp only [← Nat.add_assoc] at c3 c4 c5 c6 c7 c8 c9 c10
          have s0 := hC.s0
          have s1 := hC.s1
          have ls := World.block_lt_of_cell? wr _ s0
          have ls2 := Nat.lt_of_succ_lt ls
          have e0 := hO.box.e0
          have lx := hO.lx
          have HST := hide (keepTo_succ X i g j hlt)
          have hkl := keepTo_len X i g j
          have hib : isB (X.rows.getD j dR) i g = ((X.rows.getD j dR).ix == i && (X.rows.getD j dR).gen == g) := rfl
          subst hA
          have HO := hide hO
          have HC := hide hC
          clear hO hC hrow HX HP HR HCW
          generalize keepTo X i g j = l at *
          generalize X.rows.getD j dR = y at *
          by_cases hB : isB y i g = true
          · have HEQ := hide ((unhide HST).trans (if_pos hB))
            have hy := (isB_iff y i g).1 hB
            have hq : ∀ W, (binOp .neq 40 (.agg #[.int .i64 y.ix, .int .i64 y.gen]) (.agg #[.int .i64 i, .int .i64 g])).run Try.prog W = .ok (.bool false) W := fun W => by rw [neq40, ← hib, hB]; rfl
            clear hib hB hy
            go_wp2
            go_roundw
            case rel => exact ⟨j + 1, v, by omega, by go_num, (unhide HC).below (bel1 _ _), by rw [unhide HEQ]; exact (unhide HO).below (bel1 _ _)⟩
            case measure => simp [intOf]; omega
          · have HEQ := hide ((unhide HST).trans (if_neg hB))
            have hB' : isB y i g = false := by simpa using hB
            have hq : ∀ W, (binOp .neq 40 (.agg #[.int .i64 y.ix, .int .i64 y.gen]) (.agg #[.int .i64 i, .int .i64 g])).run Try.prog W = .ok (.bool true) W := fun W => by rw [neq40, ← hib, hB']; rfl
            clear hib hB hB'
            go_wp2_with (first
              | (at_builtin; refine wpList_append1 _ rfl (.tmp 38) (.tmp 40) 36 rfl (x + 1) 61 i61 _ 11 88 Try.underlying36 (unhide HI) (unhide HZ) (unhide HS) (unhide HB) rfl (by decide) v l.length (cellsOfRows l) rfl ((unhide HO).below (bel2 _ _ _)).own ⟨wr.heap.size + 1, 0, none⟩ 1 1 (rowCells y) rfl rfl (by have := row_new (wr.alloc (.cells #[.int .i64 y.ix, .int .i64 y.gen, .int .i64 y.has, .int .i64 (y.v 0), .int .i64 (y.v 1), .int .i64 (y.v 2), .int .i64 (y.v 3), .int .i64 (y.v 4), .int .i64 (y.v 5), .int .i64 (y.v 6), .int .i64 (y.v 7)] 61)) y; simpa using this) (rowCells_one y) (by unfold maxLen; omega) (by omega) (by simp; omega) (by omega) ?_; intro g5 capg w9 ho9 hg9 hw9; have HB9 := hide (grown_below hg9 (fun k hk => (((unhide HO).own).lt k hk).1) (by simp; omega)); have HF9 := hide (OL.app ((unhide HO).below (bel2 _ _ _)) y ho9 hg9); clear ho9 hg9 hw9)
              | (refine wpList_put1 rfl 36 (.tmp 42) (.tmp 41) rfl x 0 _ rfl rfl rfl size36 (((unhide HO).below (bel2 _ _ _)).there (unhide HB9)) ?_; intro W10 hW10; have HW10 := hide hW10; clear hW10))
            go_roundw
            case rel =>
              rw [unhide HW10]
              exact ⟨j + 1, _, by omega, by go_num, ((unhide HC).below (bel2 _ _ _)).keep ((unhide HF9).2.mono hx3), by rw [unhide HEQ]; exact (unhide HF9).1⟩
            case measure => simp [intOf]; omega
        · obtain rfl : j = X.rows.length := by omega
          obtain ⟨A', c', rfl, hR'⟩ := rowsL_own hO.own
          have e0 := hO.box.e0
          have e1 := hO.box.e1
          have HO := hide hO
          have HC := hide hC
          clear hO hC hR' HP HR HCW
          go_wp2_with (first
            | (refine wpList_putN rfl 38 (.tmp 4) (.tmp 44) rfl (w.heap.size + 2) 0 [.slice A' (keepTo X i g X.rows.length).length c', .slice G X.gens.length gcap] rfl rfl (by simp [Value.oneCell']) size38 (unhide HC).there ?_; intro W3 hW3; have hC8 := (unhide HC).give (.slice A' (keepTo X i g X.rows.length).length c') (.slice G X.gens.length gcap); have ho8 := own_setsBelow (b := w.heap.size + 2) (by omega) [.slice A' (keepTo X i g X.rows.length).length c', .slice G X.gens.length gcap] 0 _ (unhide HO).own; rw [← hW3] at hC8 ho8; have HC8 := hide hC8; have HO8 := hide ho8; clear hW3 hC8 ho8))
          have t0 := (unhide HC8).t0
          have t1 := (unhide HC8).t1
          obtain ⟨A2, c2, hv2, hR2⟩ := rowsL_own (unhide HO8)
          simp only [Value.slice.injEq, true_and] at hv2
          obtain ⟨rfl, rfl⟩ := hv2
          refine bodyPost_ret (v := .tuple #[.agg #[.slice A' (keepTo X i g X.rows.length).length c', .slice G X.gens.length gcap], .int .i64 0]) (by simp [results, Try.results43, go_sem, t0, t1]) rfl ⟨A', c', G, gcap, rfl, ⟨⟨hR2, ((unhide HX).below (unhide HC8).bel).gens⟩, own_fresh (unhide HO8) (by omega), .inl rfl⟩, (unhide HC8).bel⟩
  · rw [if_pos hw0]
    generalize (wrongW X).2 = wa at *
    generalize (wrongW X).1 = we at *
    unfold wldV worldV beingV emptyW
    go_enter Try.func43, Try.ntmps43
    go_wp2_with (first
      | (go_at_call 35; refine (unhide HP _ (unhide HCW).bel).mono ?_; rintro e w5 ⟨rfl, hb5⟩; have hC5 := (unhide HCW).below hb5; have hz : w.heap.size + 1 + 1 < w5.heap.size := hC5.sz; have t0 : w5.cell? ⟨w.heap.size + 1 + 1, 0, none⟩ = some (.slice none 0 0) := hC5.t0; have t1 : w5.cell? ⟨w.heap.size + 1 + 1, 1, none⟩ = some (.slice none 0 0) := hC5.t1; have f0 : w5.frozen? ⟨w.heap.size + 1 + 1, 0, none⟩ = false := hC5.f 0; have f1 : w5.frozen? ⟨w.heap.size + 1 + 1, 1, none⟩ = false := hC5.f 1; have HC5 := hide hC5; clear hb5 hC5))
    go_region
    all_goals (try go_wp2)
    all_goals
      refine bodyPost_ret (v := .tuple #[.agg #[.slice none 0 0, .slice none 0 0], .int .i64 we]) (by simp [results, Try.results43, go_sem, t0, t1, hz]) rfl ⟨none, 0, none, 0, rfl, wldDoc_empty _ _ _, ?_⟩
      exact bel_drewN' ((((unhide HC5).bel.setCell (p := ⟨w.heap.size + 1 + 1, 0, none⟩) (by simp; omega) _).setCell (p := ⟨w.heap.size + 1 + 1, 1, none⟩) (by simp; omega) _).alloc (by simpa using (unhide HC5).bel.size) _) 1
end Go.Proofs.Ytnbleebilmghcaa
