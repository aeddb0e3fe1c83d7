/- The document's With. -/
import Derived.Test.YtnbleebilmghcaaLPRKill
set_option linter.unusedVariables false
set_option linter.unusedSimpArgs false
set_option linter.unnecessarySimpa false
namespace Go.Proofs.Ytnbleebilmghcaa
open Go Go.RowKit
attribute [local go_sem ↓] Go.wp_at_zero Go.wp_at_succ

def wStep (r : RowI) (s : Bool × List RowI) (y : RowI) : Bool × List RowI :=
  (s.1 || decide (r.ix ≤ y.ix), (if s.1 = false ∧ r.ix ≤ y.ix then s.2 ++ [r] else s.2) ++ (if y.ix = r.ix then [] else [y]))
def withTo (rows : List RowI) (r : RowI) (j : Nat) : Bool × List RowI := (rows.take j).foldl (wStep r) (false, [])
def withF (rows : List RowI) (r : RowI) : List RowI := if (withTo rows r rows.length).1 = false then (withTo rows r rows.length).2 ++ [r] else (withTo rows r rows.length).2
theorem withTo_succ (rows : List RowI) (r : RowI) (j : Nat) (h : j < rows.length) : withTo rows r (j + 1) = wStep r (withTo rows r j) (rows.getD j dR) := by
  unfold withTo
  rw [List.take_succ_eq_append_getElem h, List.foldl_append, List.getD_eq_getElem?_getD, List.getElem?_eq_getElem h]; rfl
theorem withTo_len (rows : List RowI) (r : RowI) : ∀ j, j ≤ rows.length → (withTo rows r j).2.length ≤ 2 * j
  | 0, _ => by simp [withTo]
  | j + 1, h => by
    rw [withTo_succ rows r j (by omega)]
    have := withTo_len rows r j (by omega)
    unfold wStep
    simp only [List.length_append]
    split <;> split <;> simp <;> omega
theorem rowAt0 {W : World} {b : Nat} {y : RowI} (h : RowAt W b 0 y) : W.cell? ⟨b, 0, none⟩ = some (.int .i64 y.ix) ∧ W.cell? ⟨b, 1, none⟩ = some (.int .i64 y.gen) ∧ W.cell? ⟨b, 2, none⟩ = some (.int .i64 y.has) ∧ W.cell? ⟨b, 3, none⟩ = some (.int .i64 (y.v 0)) ∧ W.cell? ⟨b, 4, none⟩ = some (.int .i64 (y.v 1)) ∧ W.cell? ⟨b, 5, none⟩ = some (.int .i64 (y.v 2)) ∧ W.cell? ⟨b, 6, none⟩ = some (.int .i64 (y.v 3)) ∧ W.cell? ⟨b, 7, none⟩ = some (.int .i64 (y.v 4)) ∧ W.cell? ⟨b, 8, none⟩ = some (.int .i64 (y.v 5)) ∧ W.cell? ⟨b, 9, none⟩ = some (.int .i64 (y.v 6)) ∧ W.cell? ⟨b, 10, none⟩ = some (.int .i64 (y.v 7)) := by
  have h0 := h.c0
  have h1 := h.c1
  have h2 := h.c2
  refine ⟨by simpa using h0, by simpa using h1, by simpa using h2, ?_, ?_, ?_, ?_, ?_, ?_, ?_, ?_⟩
  · simpa using h.v 0 (by omega)
  · simpa using h.v 1 (by omega)
  · simpa using h.v 2 (by omega)
  · simpa using h.v 3 (by omega)
  · simpa using h.v 4 (by omega)
  · simpa using h.v 5 (by omega)
  · simpa using h.v 6 (by omega)
  · simpa using h.v 7 (by omega)
theorem rowAt_new (W : World) (y : RowI) : RowAt (W.alloc (.cells #[.int .i64 y.ix, .int .i64 y.gen, .int .i64 y.has, .int .i64 (y.v 0), .int .i64 (y.v 1), .int .i64 (y.v 2), .int .i64 (y.v 3), .int .i64 (y.v 4), .int .i64 (y.v 5), .int .i64 (y.v 6), .int .i64 (y.v 7)] 61)) W.heap.size 0 y := by
  refine (rowAt_iff _ _ _ _).2 fun i u hu => ?_
  have := row_new W y i u hu
  rwa [add_off] at this
theorem OL.row {x b : Nat} {v u1 : Value} {l : List RowI} {W W1 : World} {y : RowI} {z : Value} (h : OL x v u1 l W) (hg : W.grownBy W1 v.ownBlock) (hr : RowAt W b 0 y) (hx : b ≠ x) (hb : ∀ g', v.ownBlock = some g' → b ≠ g') : RowAt (W1.setCell ⟨x, 0, none⟩ z) b 0 y := by
  refine (rowAt_iff _ _ _ _).2 fun i u hu => ?_
  have h1 := (rowAt_iff _ _ _ _).1 hr i u hu
  have h2 : W1.cell? ⟨b, 0 + i, none⟩ = some u := hg.cell h1 (fun e => hb b e.symm rfl)
  exact setc_other (fun e => hx (congrArg Addr.block e).symm) h2
structure WB (w : World) (y0 y1 : Value) (r : RowI) (W : World) : Prop where
  bel : Below w.heap.size w W
  sz : w.heap.size + 3 ≤ W.heap.size
  r : RowAt W (w.heap.size + 1) 0 r
  t0 : W.cell? ⟨w.heap.size + 1 + 1, 0, none⟩ = some y0
  t1 : W.cell? ⟨w.heap.size + 1 + 1, 1, none⟩ = some y1
  f : ∀ i, W.frozen? ⟨w.heap.size + 1 + 1, i, none⟩ = false
section
variable {w W W1 : World} {y0 y1 : Value} {r : RowI}
theorem WB.keep (h : WB w y0 y1 r W) (hb : Below (w.heap.size + 3) W W1) : WB w y0 y1 r W1 :=
  ⟨h.bel.trans (hb.mono (by omega)), Nat.le_trans h.sz hb.size, (rowAt_iff _ _ _ _).2 fun i u hu => (hb.cell (p := ⟨w.heap.size + 1, 0 + i, none⟩) (by simp)).trans ((rowAt_iff _ _ _ _).1 h.r i u hu), (hb.cell (p := ⟨w.heap.size + 1 + 1, 0, none⟩) (by simp)).trans h.t0, (hb.cell (p := ⟨w.heap.size + 1 + 1, 1, none⟩) (by simp)).trans h.t1, fun i => (hb.frozen (p := ⟨w.heap.size + 1 + 1, i, none⟩) (by simp)).trans (h.f i)⟩
theorem WB.below (h : WB w y0 y1 r W) (hb : Below W.heap.size W W1) : WB w y0 y1 r W1 := h.keep (hb.mono h.sz)
theorem WB.there (h : WB w y0 y1 r W) : W.there (w.heap.size + 1 + 1) 0 2 := fun j hj => by
  rcases (by omega : j = 0 ∨ j = 1) with rfl | rfl
  · exact ⟨by rw [Nat.zero_add, h.t0]; rfl, h.f _⟩
  · exact ⟨by rw [Nat.zero_add, h.t1]; rfl, h.f _⟩
theorem WB.give (h : WB w y0 y1 r W) (z0 z1 : Value) : (W.setCells (w.heap.size + 1 + 1) 0 [z0, z1]).cell? ⟨w.heap.size + 1 + 1, 0, none⟩ = some z0 ∧ (W.setCells (w.heap.size + 1 + 1) 0 [z0, z1]).cell? ⟨w.heap.size + 1 + 1, 1, none⟩ = some z1 ∧ Below w.heap.size w (W.setCells (w.heap.size + 1 + 1) 0 [z0, z1]) := by
  have s := fun j hj => World.cell?_setCells_in (w.heap.size + 1 + 1) [z0, z1] 0 W (fun j hj => (h.there j hj).1) j hj
  exact ⟨s 0 (by simp), s 1 (by simp), below_setCells (w.heap.size + 1 + 1) (by omega) [z0, z1] 0 W h.bel⟩
end
theorem WB.start (w : World) (u0 u1 : Value) (r : RowI) : WB w (.slice none 0 0) (.slice none 0 0) r (((w.alloc (.cells #[u0, u1] 38)).alloc (.cells #[.int .i64 r.ix, .int .i64 r.gen, .int .i64 r.has, .int .i64 (r.v 0), .int .i64 (r.v 1), .int .i64 (r.v 2), .int .i64 (r.v 3), .int .i64 (r.v 4), .int .i64 (r.v 5), .int .i64 (r.v 6), .int .i64 (r.v 7)] 61)).alloc (.cells #[.slice none 0 0, .slice none 0 0] 38)) := by
  obtain ⟨w1, h1⟩ : ∃ W, W = w.alloc (.cells #[u0, u1] 38) := ⟨_, rfl⟩
  have z1 : w1.heap.size = w.heap.size + 1 := by rw [h1]; simp
  have b1 : Below w.heap.size w w1 := by rw [h1]; exact bel1 _ _
  rw [← h1]
  clear h1
  have hr := rowAt_new w1 r
  rw [z1] at hr
  obtain ⟨w2, h2⟩ : ∃ W, W = w1.alloc (.cells #[.int .i64 r.ix, .int .i64 r.gen, .int .i64 r.has, .int .i64 (r.v 0), .int .i64 (r.v 1), .int .i64 (r.v 2), .int .i64 (r.v 3), .int .i64 (r.v 4), .int .i64 (r.v 5), .int .i64 (r.v 6), .int .i64 (r.v 7)] 61) := ⟨_, rfl⟩
  have z2 : w2.heap.size = w.heap.size + 1 + 1 := by rw [h2]; simp; omega
  have b2 : Below w1.heap.size w1 w2 := by rw [h2]; exact bel1 _ _
  rw [← h2] at hr ⊢
  clear h2
  obtain ⟨d0, d1, df, db⟩ := new_box (W := w2) (u0 := .slice none 0 0) (u1 := .slice none 0 0) (t := 38) z2
  have b3 := b1.trans (b2.mono b1.size)
  exact ⟨b3.trans (db.mono b3.size), by simp; omega, hr.below db, d0, d1, df⟩

set_option maxRecDepth 8000 in
set_option maxHeartbeats 8000000 in
theorem rwith_any (A : Option Addr) (cap : Nat) (G : Option Addr) (gcap : Nat) (X : Wd) (r : RowI) (w : World) (hn : X.rows.length ≤ 1000000) (hX : WldAt w A cap G gcap X) :
    Calls Try.prog 86 #[wldV A cap G gcap X, rowV r] w fun e w' => ∃ A' c', e = .returned (.agg #[.slice A' (withF X.rows r).length c', .slice G X.gens.length gcap]) ∧ w'.ownsRow w.heap.size 61 11 (.slice A' (withF X.rows r).length c') (withF X.rows r).length (cellsOfRows (withF X.rows r)) ∧ Below w.heap.size w w' := by
  obtain ⟨i61, hi61, hz61, hs61, hb61⟩ := info_parts info61
  have HI := hide hi61
  have HZ := hide hz61
  have HS := hide hs61
  have HB := hide hb61
  have HX := hide hX
  have hWB := WB.start w (.slice A X.rows.length cap) (.slice G X.gens.length gcap) r
  have HWB := hide (hWB.below (bel1 _ (.cells #[.slice none 0 0, .slice G X.gens.length gcap] 38)))
  have hz3 : (((w.alloc (.cells #[.slice A X.rows.length cap, .slice G X.gens.length gcap] 38)).alloc (.cells #[.int .i64 r.ix, .int .i64 r.gen, .int .i64 r.has, .int .i64 (r.v 0), .int .i64 (r.v 1), .int .i64 (r.v 2), .int .i64 (r.v 3), .int .i64 (r.v 4), .int .i64 (r.v 5), .int .i64 (r.v 6), .int .i64 (r.v 7)] 61)).alloc (.cells #[.slice none 0 0, .slice none 0 0] 38)).heap.size = w.heap.size + 1 + 1 + 1 := by simp
  have HOL := hide (OL.start (((w.alloc (.cells #[.slice A X.rows.length cap, .slice G X.gens.length gcap] 38)).alloc (.cells #[.int .i64 r.ix, .int .i64 r.gen, .int .i64 r.has, .int .i64 (r.v 0), .int .i64 (r.v 1), .int .i64 (r.v 2), .int .i64 (r.v 3), .int .i64 (r.v 4), .int .i64 (r.v 5), .int .i64 (r.v 6), .int .i64 (r.v 7)] 61)).alloc (.cells #[.slice none 0 0, .slice none 0 0] 38)) (.slice G X.gens.length gcap))
  rw [hz3] at HOL
  clear hi61 hz61 hs61 hb61 hX hWB hz3
  unfold wldV worldV rowV
  go_enter Try.func86, Try.ntmps86
  go_wp2
  obtain ⟨x, hx⟩ : ∃ x, x = w.heap.size + 1 + 1 + 1 := ⟨_, rfl⟩
  rw [← hx] at HOL ⊢
  have hx3 : w.heap.size + 3 ≤ x := by omega
  clear hx
  go_loopw [6, 15] (fun d t wr => ∃ (j : Nat) (v : Value), j ≤ X.rows.length ∧ t = .int .i64 j ∧ d = .bool (withTo X.rows r j).1 ∧ WB w (.slice none 0 0) (.slice none 0 0) r wr ∧ OL x v (.slice G X.gens.length gcap) (withTo X.rows r j).2 wr) (fun _ t _ => X.rows.length - (intOf t).toNat)
  case atStart => exact ⟨0, _, Nat.zero_le _, rfl, rfl, unhide HWB, unhide HOL⟩
  case round =>
    clear HWB HOL
    obtain ⟨j, v, hj, rfl, rfl, hC, hO⟩ := hrel
    by_cases hlt : j < X.rows.length
    · have j0 : (0 : Int) ≤ (j : Int) := by omega
      have j1 : (j : Int) < (X.rows.length : Int) := by omega
      obtain ⟨b, off, hA, hrow⟩ := (unhide HX).rows j hlt
      have hrow : RowAt wr b (off + j * 11) (X.rows.getD j dR) := hrow.below hC.bel
      have c0 := hrow.c0
      have c1 := hrow.c1
      have c2 := hrow.c2
      have c3 := hrow.v 0 (by omega)
      have c4 := hrow.v 1 (by omega)
      have c5 := hrow.v 2 (by omega)
      have c6 := hrow.v 3 (by omega)
      have c7 := hrow.v 4 (by omega)
      have c8 := hrow.v 5 (by omega)
      have c9 := hrow.v 6 (by omega)
      have c10 := hrow.v 7 (by omega)
      simp only [Nat.add_assoc, Nat.reduceAdd] at c3 c4 c5 c6 c7 c8 c9 c10
      simp only [← Nat.add_assoc] at c3 c4 c5 c6 c7 c8 c9 c10
      obtain ⟨d0, d1, d2, d3, d4, d5, d6, d7, d8, d9, d10⟩ := rowAt0 hC.r
      have ls := World.block_lt_of_cell? wr _ d0
      have ls2 := Nat.lt_of_succ_lt ls
      have e0 := hO.box.e0
      have lx := hO.lx
      have HST := hide (withTo_succ X.rows r j hlt)
      have hkl := withTo_len X.rows r j (by omega)
      subst hA
      have HO := hide hO
      have HC := hide hC
      clear hO hC hrow HX
      generalize withTo X.rows r j = s at *
      obtain ⟨dn, l⟩ := s
      dsimp only at *
      generalize X.rows.getD j dR = y at *
      unfold wStep at HST
      dsimp only at HST
      have HLV := hide (fun g' (h : v.ownBlock = some g') => ((unhide HO).own.lt g' h).2)
      by_cases hne : y.ix = r.ix
      · have hle : r.ix ≤ y.ix := by omega
        have hb1 : (y.ix != r.ix) = false := by rw [hne]; simp
        have hb2 : (y.ix == r.ix) = true := by rw [hne]; simp
        have HNE := hide hne
        clear hne
        cases dn
        · have HEQ := hide (unhide HST)
          go_wp2_with (first
            | (at_builtin; refine wpList_append1 _ rfl (.tmp 31) (.tmp 33) 36 rfl (x + 1) 61 i61 _ 11 88 Try.underlying36 (unhide HI) (unhide HZ) (unhide HS) (unhide HB) rfl (by decide) v l.length (cellsOfRows l) rfl ((unhide HO).below (bel2 _ _ _)).own ⟨wr.heap.size + 1, 0, none⟩ 1 1 (rowCells r) rfl rfl (by have := row_new (wr.alloc (.cells #[.int .i64 y.ix, .int .i64 y.gen, .int .i64 y.has, .int .i64 (y.v 0), .int .i64 (y.v 1), .int .i64 (y.v 2), .int .i64 (y.v 3), .int .i64 (y.v 4), .int .i64 (y.v 5), .int .i64 (y.v 6), .int .i64 (y.v 7)] 61)) r; simpa using this) (rowCells_one r) (by unfold maxLen; (try simp only [List.length_append, List.length_singleton]); omega) (by (try simp only [List.length_append, List.length_singleton]); omega) (by simp; omega) (by omega) ?_; intro g9 cap9 w9 ho hg hw; have HB9 := hide (grown_below hg (fun k hk => ((unhide HO).own.lt k hk).1) (show x + 1 ≤ _ by simp; omega)); have HF9 := hide (OL.app ((unhide HO).below (bel2 _ _ _)) r ho hg); have HRY := hide (fun z => OL.row (z := z) ((unhide HO).below (bel2 _ _ _)) hg ((rowAt_new wr y).below (bel1 _ _)) (Nat.ne_of_gt (unhide HO).lx) (fun g' h => Nat.ne_of_gt (unhide HLV g' h))); clear ho hg hw)
            | (refine wpList_put1 rfl 36 (.tmp 35) (.tmp 34) rfl x 0 (.slice (some ⟨g9, 0, none⟩) (l.length + 1) cap9) rfl rfl rfl size36 (((unhide HO).below (bel2 _ _ _)).there (unhide HB9)) ?_; intro W10 hW10; have hF := unhide HF9; have hry := unhide HRY (.slice (some ⟨g9, 0, none⟩) (l.length + 1) cap9); have hwb := ((unhide HC).below (bel2 _ _ _)).keep (hF.2.mono hx3); rw [← hW10] at hF hry hwb; have e2 := hF.1.box.e0; obtain ⟨q0, q1, q2, q3, q4, q5, q6, q7, q8, q9, q10⟩ := rowAt0 hry; obtain ⟨p0, p1, p2, p3, p4, p5, p6, p7, p8, p9, p10⟩ := rowAt0 hwb.r; have HF10 := hide hF; have HC10 := hide hwb; have lx2 := hF.1.lx; clear hW10 hF hry hwb))
          go_roundw
          case rel => exact ⟨j + 1, _, by omega, by go_num, by rw [unhide HEQ]; simp [hle], unhide HC10, by rw [unhide HEQ]; simpa [hle, unhide HNE] using (unhide HF10).1⟩
          case measure => simp [intOf]; omega
        · have HEQ := hide (unhide HST)
          go_wp2
          go_roundw
          case rel => exact ⟨j + 1, v, by omega, by go_num, by rw [unhide HEQ]; simp, (unhide HC).below (bel1 _ _), by rw [unhide HEQ]; simpa [unhide HNE] using (unhide HO).below (bel1 _ _)⟩
          case measure => simp [intOf]; omega
      · cases dn
        · by_cases hle : r.ix ≤ y.ix
          · have HEQ := hide (unhide HST)
            go_wp2_with (first
              | (at_builtin; refine wpList_append1 _ rfl (.tmp 31) (.tmp 33) 36 rfl (x + 1) 61 i61 _ 11 88 Try.underlying36 (unhide HI) (unhide HZ) (unhide HS) (unhide HB) rfl (by decide) v l.length (cellsOfRows l) rfl ((unhide HO).below (bel2 _ _ _)).own ⟨wr.heap.size + 1, 0, none⟩ 1 1 (rowCells r) rfl rfl (by have := row_new (wr.alloc (.cells #[.int .i64 y.ix, .int .i64 y.gen, .int .i64 y.has, .int .i64 (y.v 0), .int .i64 (y.v 1), .int .i64 (y.v 2), .int .i64 (y.v 3), .int .i64 (y.v 4), .int .i64 (y.v 5), .int .i64 (y.v 6), .int .i64 (y.v 7)] 61)) r; simpa using this) (rowCells_one r) (by unfold maxLen; (try simp only [List.length_append, List.length_singleton]); omega) (by (try simp only [List.length_append, List.length_singleton]); omega) (by simp; omega) (by omega) ?_; intro g9 cap9 w9 ho hg hw; have HB9 := hide (grown_below hg (fun k hk => ((unhide HO).own.lt k hk).1) (show x + 1 ≤ _ by simp; omega)); have HF9 := hide (OL.app ((unhide HO).below (bel2 _ _ _)) r ho hg); have HRY := hide (fun z => OL.row (z := z) ((unhide HO).below (bel2 _ _ _)) hg ((rowAt_new wr y).below (bel1 _ _)) (Nat.ne_of_gt (unhide HO).lx) (fun g' h => Nat.ne_of_gt (unhide HLV g' h))); clear ho hg hw)
              | (refine wpList_put1 rfl 36 (.tmp 35) (.tmp 34) rfl x 0 (.slice (some ⟨g9, 0, none⟩) (l.length + 1) cap9) rfl rfl rfl size36 (((unhide HO).below (bel2 _ _ _)).there (unhide HB9)) ?_; intro W10 hW10; have hF := unhide HF9; have hry := unhide HRY (.slice (some ⟨g9, 0, none⟩) (l.length + 1) cap9); have hwb := ((unhide HC).below (bel2 _ _ _)).keep (hF.2.mono hx3); rw [← hW10] at hF hry hwb; have e2 := hF.1.box.e0; obtain ⟨q0, q1, q2, q3, q4, q5, q6, q7, q8, q9, q10⟩ := rowAt0 hry; obtain ⟨p0, p1, p2, p3, p4, p5, p6, p7, p8, p9, p10⟩ := rowAt0 hwb.r; have HF10 := hide hF; have HC10 := hide hwb; have lx2 := hF.1.lx; clear hW10 hF hry hwb)
              | (at_builtin; refine wpList_append1 _ rfl (.tmp 44) (.tmp 46) 36 rfl (x + 1) 61 i61 _ 11 88 Try.underlying36 (unhide HI) (unhide HZ) (unhide HS) (unhide HB) rfl (by decide) (.slice (some ⟨g9, 0, none⟩) (l.length + 1) cap9) (l ++ [r]).length (cellsOfRows (l ++ [r])) rfl ((unhide HF10).1.below (bel1 _ _)).own ⟨W10.heap.size, 0, none⟩ 1 1 (rowCells y) rfl rfl (by have := row_new W10 y; simpa using this) (rowCells_one y) (by unfold maxLen; (try simp only [List.length_append, List.length_singleton]); omega) (by (try simp only [List.length_append, List.length_singleton]); omega) (by simp; omega) (by omega) ?_; intro g8 cap8 w8 ho hg hw; have HB8 := hide (grown_below hg (fun k hk => ((unhide HF10).1.own.lt k hk).1) (show x + 1 ≤ _ by simp; omega)); have HF8 := hide (OL.app ((unhide HF10).1.below (bel1 _ _)) y ho hg);  clear ho hg hw)
              | (refine wpList_put1 rfl 36 (.tmp 48) (.tmp 47) rfl x 0 (.slice (some ⟨g8, 0, none⟩) (l.length + 1 + 1) cap8) rfl rfl rfl size36 (((unhide HF10).1.below (bel1 _ _)).there (unhide HB8)) ?_; intro W11 hW11; have hF := unhide HF8; simp only [List.length_append, List.length_singleton] at hF; have hwb := ((unhide HC10).below (bel1 _ _)).keep (hF.2.mono hx3); rw [← hW11] at hF hwb; have HF11 := hide hF; have HC11 := hide hwb; clear hW11 hF hwb))
            go_roundw
            case rel => exact ⟨j + 1, _, by omega, by go_num, by rw [unhide HEQ]; simp [hle], unhide HC11, by rw [unhide HEQ]; simpa [hle, hne] using (unhide HF11).1⟩
            case measure => simp [intOf]; omega
          · have HEQ := hide (unhide HST)
            go_wp2_with (first
              | (at_builtin; refine wpList_append1 _ rfl (.tmp 44) (.tmp 46) 36 rfl (x + 1) 61 i61 _ 11 88 Try.underlying36 (unhide HI) (unhide HZ) (unhide HS) (unhide HB) rfl (by decide) v l.length (cellsOfRows l) rfl ((unhide HO).below (bel2 _ _ _)).own ⟨wr.heap.size + 1, 0, none⟩ 1 1 (rowCells y) rfl rfl (by have := row_new (wr.alloc (.cells #[.int .i64 y.ix, .int .i64 y.gen, .int .i64 y.has, .int .i64 (y.v 0), .int .i64 (y.v 1), .int .i64 (y.v 2), .int .i64 (y.v 3), .int .i64 (y.v 4), .int .i64 (y.v 5), .int .i64 (y.v 6), .int .i64 (y.v 7)] 61)) y; simpa using this) (rowCells_one y) (by unfold maxLen; (try simp only [List.length_append, List.length_singleton]); omega) (by (try simp only [List.length_append, List.length_singleton]); omega) (by simp; omega) (by omega) ?_; intro g9 cap9 w9 ho hg hw; have HB9 := hide (grown_below hg (fun k hk => ((unhide HO).own.lt k hk).1) (show x + 1 ≤ _ by simp; omega)); have HF9 := hide (OL.app ((unhide HO).below (bel2 _ _ _)) y ho hg);  clear ho hg hw)
              | (refine wpList_put1 rfl 36 (.tmp 48) (.tmp 47) rfl x 0 (.slice (some ⟨g9, 0, none⟩) (l.length + 1) cap9) rfl rfl rfl size36 (((unhide HO).below (bel2 _ _ _)).there (unhide HB9)) ?_; intro W10 hW10; have hF := unhide HF9; have hwb := ((unhide HC).below (bel2 _ _ _)).keep (hF.2.mono hx3); rw [← hW10] at hF hwb; have HF10 := hide hF; have HC10 := hide hwb; clear hW10 hF hwb))
            go_roundw
            case rel => exact ⟨j + 1, _, by omega, by go_num, by rw [unhide HEQ]; simp [hle], unhide HC10, by rw [unhide HEQ]; simpa [hle, hne] using (unhide HF10).1⟩
            case measure => simp [intOf]; omega
        · have HEQ := hide (unhide HST)
          go_wp2_with (first
            | (at_builtin; refine wpList_append1 _ rfl (.tmp 44) (.tmp 46) 36 rfl (x + 1) 61 i61 _ 11 88 Try.underlying36 (unhide HI) (unhide HZ) (unhide HS) (unhide HB) rfl (by decide) v l.length (cellsOfRows l) rfl ((unhide HO).below (bel2 _ _ _)).own ⟨wr.heap.size + 1, 0, none⟩ 1 1 (rowCells y) rfl rfl (by have := row_new (wr.alloc (.cells #[.int .i64 y.ix, .int .i64 y.gen, .int .i64 y.has, .int .i64 (y.v 0), .int .i64 (y.v 1), .int .i64 (y.v 2), .int .i64 (y.v 3), .int .i64 (y.v 4), .int .i64 (y.v 5), .int .i64 (y.v 6), .int .i64 (y.v 7)] 61)) y; simpa using this) (rowCells_one y) (by unfold maxLen; (try simp only [List.length_append, List.length_singleton]); omega) (by (try simp only [List.length_append, List.length_singleton]); omega) (by simp; omega) (by omega) ?_; intro g9 cap9 w9 ho hg hw; have HB9 := hide (grown_below hg (fun k hk => ((unhide HO).own.lt k hk).1) (show x + 1 ≤ _ by simp; omega)); have HF9 := hide (OL.app ((unhide HO).below (bel2 _ _ _)) y ho hg);  clear ho hg hw)
            | (refine wpList_put1 rfl 36 (.tmp 48) (.tmp 47) rfl x 0 (.slice (some ⟨g9, 0, none⟩) (l.length + 1) cap9) rfl rfl rfl size36 (((unhide HO).below (bel2 _ _ _)).there (unhide HB9)) ?_; intro W10 hW10; have hF := unhide HF9; have hwb := ((unhide HC).below (bel2 _ _ _)).keep (hF.2.mono hx3); rw [← hW10] at hF hwb; have HF10 := hide hF; have HC10 := hide hwb; clear hW10 hF hwb))
          go_roundw
          case rel => exact ⟨j + 1, _, by omega, by go_num, by rw [unhide HEQ]; simp, unhide HC10, by rw [unhide HEQ]; simpa [hne] using (unhide HF10).1⟩
          case measure => simp [intOf]; omega
    · obtain rfl : j = X.rows.length := by omega
      have hkl := withTo_len X.rows r X.rows.length (Nat.le_refl _)
      obtain ⟨d0, d1, d2, d3, d4, d5, d6, d7, d8, d9, d10⟩ := rowAt0 hC.r
      have e0 := hO.box.e0
      have e1 := hO.box.e1
      have lx := hO.lx
      have HO := hide hO
      have HC := hide hC
      clear hO hC HX
      have HWF : Hid (withF X.rows r = if (withTo X.rows r X.rows.length).1 = false then (withTo X.rows r X.rows.length).2 ++ [r] else (withTo X.rows r X.rows.length).2) := rfl
      generalize withTo X.rows r X.rows.length = s at *
      obtain ⟨dn, l⟩ := s
      dsimp only at *
      cases dn
      · have HV := hide ((unhide HWF).trans (if_pos rfl))
        clear HWF
        go_wp2_with (first
          | (at_builtin; refine wpList_append1 _ rfl (.tmp 53) (.tmp 55) 36 rfl (x + 1) 61 i61 _ 11 88 Try.underlying36 (unhide HI) (unhide HZ) (unhide HS) (unhide HB) rfl (by decide) v l.length (cellsOfRows l) rfl ((unhide HO).below (bel1 _ _)).own ⟨wr.heap.size, 0, none⟩ 1 1 (rowCells r) rfl rfl (by have := row_new wr r; simpa using this) (rowCells_one r) (by unfold maxLen; (try simp only [List.length_append, List.length_singleton]); omega) (by (try simp only [List.length_append, List.length_singleton]); omega) (by simp; omega) (by omega) ?_; intro g9 cap9 w9 ho hg hw; have HB9 := hide (grown_below hg (fun k hk => ((unhide HO).own.lt k hk).1) (show x + 1 ≤ _ by simp; omega)); have HF9 := hide (OL.app ((unhide HO).below (bel1 _ _)) r ho hg);  clear ho hg hw)
          | (refine wpList_put1 rfl 36 (.tmp 57) (.tmp 56) rfl x 0 (.slice (some ⟨g9, 0, none⟩) (l.length + 1) cap9) rfl rfl rfl size36 (((unhide HO).below (bel1 _ _)).there (unhide HB9)) ?_; intro W10 hW10; have hF := unhide HF9; rw [← hW10] at hF; have e2 := hF.1.box.e0; have e3 := hF.1.box.e1; have HF10 := hide hF; clear hW10 hF e0 e1)
          | (refine wpList_putN rfl 38 (.tmp 4) (.tmp 58) rfl (w.heap.size + 1 + 1) 0 [.slice (some ⟨g9, 0, none⟩) (l.length + 1) cap9, .slice G X.gens.length gcap] rfl rfl (by simp [Value.oneCell']) size38 (((unhide HC).below (bel1 _ _)).keep ((unhide HF10).2.mono hx3)).there ?_; intro W3 hW3; have hG := (((unhide HC).below (bel1 _ _)).keep ((unhide HF10).2.mono hx3)).give (.slice (some ⟨g9, 0, none⟩) (l.length + 1) cap9) (.slice G X.gens.length gcap); have ho8 := own_setsBelow (b := w.heap.size + 1 + 1) (by omega) [.slice (some ⟨g9, 0, none⟩) (l.length + 1) cap9, .slice G X.gens.length gcap] 0 _ (unhide HF10).1.own; rw [← hW3] at hG ho8; have HG8 := hide hG; have HO8 := hide ho8; clear hW3 hG ho8))
        obtain ⟨t0, t1, hb8⟩ := unhide HG8
        obtain ⟨A2, c2, hv2, hR2⟩ := rowsL_own (unhide HO8)
        simp only [Value.slice.injEq] at hv2
        obtain ⟨rfl, _, rfl⟩ := hv2
        refine bodyPost_ret (v := .agg #[.slice (some ⟨g9, 0, none⟩) (l.length + 1) cap9, .slice G X.gens.length gcap]) (by simp [results, Try.results86, go_sem, t0, t1]) rfl ⟨some ⟨g9, 0, none⟩, cap9, by rw [unhide HV]; simp, by have := own_le (unhide HO8) (show w.heap.size ≤ x + 1 by omega); rw [unhide HV]; simp only [List.length_append, List.length_singleton] at this ⊢; exact this, hb8⟩
      · have HV := hide ((unhide HWF).trans (if_neg (by simp)))
        clear HWF
        obtain ⟨A', c', rfl, hR'⟩ := rowsL_own (unhide HO).own
        clear hR'
        go_wp2_with (first
          | (refine wpList_putN rfl 38 (.tmp 4) (.tmp 58) rfl (w.heap.size + 1 + 1) 0 [.slice A' l.length c', .slice G X.gens.length gcap] rfl rfl (by simp [Value.oneCell']) size38 (unhide HC).there ?_; intro W3 hW3; have hG := (unhide HC).give (.slice A' l.length c') (.slice G X.gens.length gcap); have ho8 := own_setsBelow (b := w.heap.size + 1 + 1) (by omega) [.slice A' l.length c', .slice G X.gens.length gcap] 0 _ (unhide HO).own; rw [← hW3] at hG ho8; have HG8 := hide hG; have HO8 := hide ho8; clear hW3 hG ho8))
        obtain ⟨t0, t1, hb8⟩ := unhide HG8
        obtain ⟨A2, c2, hv2, hR2⟩ := rowsL_own (unhide HO8)
        simp only [Value.slice.injEq, true_and] at hv2
        obtain ⟨rfl, rfl⟩ := hv2
        refine bodyPost_ret (v := .agg #[.slice A' l.length c', .slice G X.gens.length gcap]) (by simp [results, Try.results86, go_sem, t0, t1]) rfl ⟨A', c', by rw [unhide HV], by rw [unhide HV]; exact own_le (unhide HO8) (show w.heap.size ≤ x + 1 by omega), hb8⟩
end Go.Proofs.Ytnbleebilmghcaa
