/- plain.Own, whatever the world. -/
import Derived.Test.YtmbjghjpofcdpaaPList
set_option linter.unusedVariables false
set_option linter.unusedSimpArgs false
set_option linter.unnecessarySimpa false
namespace Go.Proofs.Ytmbjghjpofcdpaa
open Go Go.RowKit
attribute [local go_sem ↓] Go.wp_at_zero Go.wp_at_succ

theorem info61 : (Try.prog.info? 61).map (fun i => (i.zero, i.size, i.bytes)) = some (some (.agg #[.int .i64 0, .int .i64 0, .int .i64 0, .int .i64 0, .int .i64 0, .int .i64 0, .int .i64 0, .int .i64 0, .int .i64 0, .int .i64 0, .int .i64 0]), 11, 88) := by kernel_rfl
theorem info3 : (Try.prog.info? 3).map (fun i => (i.zero, i.size, i.bytes)) = some (some (.int .i64 0), 1, 8) := by kernel_rfl

theorem setc_same {w : World} {a : Addr} {v u : Value} (h : w.cell? a = some u) : (w.setCell a v).cell? a = some v := World.cell?_setCell_same w a v h
theorem setc_other {w : World} {a b : Addr} {v u : Value} (hn : a ≠ b) (h : w.cell? b = some u) : (w.setCell a v).cell? b = some u := (World.cell?_setCell_other w a b v hn).trans h
/-- The world's box, and the answer's. -/
structure OW (w : World) (A : Option Addr) (n cap : Nat) (G : Option Addr) (gn gcap : Nat) (W : World) : Prop where
  bel : Below w.heap.size w W
  sz : w.heap.size + 2 ≤ W.heap.size
  r0 : W.cell? ⟨w.heap.size, 0, none⟩ = some (.slice A n cap)
  r1 : W.cell? ⟨w.heap.size, 1, none⟩ = some (.slice G gn gcap)
  t0 : (W.cell? ⟨w.heap.size + 1, 0, none⟩).isSome = true
  t1 : (W.cell? ⟨w.heap.size + 1, 1, none⟩).isSome = true
  f : ∀ i, W.frozen? ⟨w.heap.size + 1, i, none⟩ = false
theorem OW.keep {w W W1 : World} {A : Option Addr} {n cap : Nat} {G : Option Addr} {gn gcap : Nat} (h : OW w A n cap G gn gcap W) (hb : Below (w.heap.size + 2) W W1) : OW w A n cap G gn gcap W1 :=
  ⟨h.bel.trans (hb.mono (by omega)), Nat.le_trans h.sz hb.size, (hb.cell (p := ⟨w.heap.size, 0, none⟩) (by simp)).trans h.r0, (hb.cell (p := ⟨w.heap.size, 1, none⟩) (by simp)).trans h.r1,
    by rw [hb.cell (p := ⟨w.heap.size + 1, 0, none⟩) (by simp)]; exact h.t0, by rw [hb.cell (p := ⟨w.heap.size + 1, 1, none⟩) (by simp)]; exact h.t1, fun i => (hb.frozen (p := ⟨w.heap.size + 1, i, none⟩) (by simp)).trans (h.f i)⟩
theorem OW.grown {w W W1 : World} {A : Option Addr} {n cap : Nat} {G : Option Addr} {gn gcap : Nat} (h : OW w A n cap G gn gcap W) (hg : W.grownBy W1 none) : OW w A n cap G gn gcap W1 :=
  h.keep ((Below.refl _ _).grown hg h.sz (fun k hk => by cases hk))
theorem OW.start (w : World) (A : Option Addr) (n cap : Nat) (G : Option Addr) (gn gcap : Nat) : OW w A n cap G gn gcap ((w.alloc (.cells #[.slice A n cap, .slice G gn gcap] 38)).alloc (.cells #[.slice none 0 0, .slice none 0 0] 38)) := by
  obtain ⟨w1, h1⟩ : ∃ W, W = w.alloc (.cells #[.slice A n cap, .slice G gn gcap] 38) := ⟨_, rfl⟩
  have z1 : w1.heap.size = w.heap.size + 1 := by rw [h1]; simp
  have b1 : Below w.heap.size w w1 := by rw [h1]; exact (Below.refl _ _).alloc (Nat.le_refl _) _
  have e0 : w1.cell? ⟨w.heap.size, 0, none⟩ = some (.slice A n cap) := by rw [h1]; simp
  have e1 : w1.cell? ⟨w.heap.size, 1, none⟩ = some (.slice G gn gcap) := by rw [h1]; simp
  rw [← h1]
  clear h1
  have b2 : Below w1.heap.size w1 (w1.alloc (.cells #[.slice none 0 0, .slice none 0 0] 38)) := (Below.refl _ _).alloc (Nat.le_refl _) _
  refine ⟨b1.trans (b2.mono b1.size), by simp; omega, keep_below b2 e0, keep_below b2 e1, ?_, ?_, fun i => ?_⟩ <;> rw [← z1] <;> simp [go_sem]

/-- What has come up came up in its order. -/
structure Dep (L : Nat → Bool) : Prop where
  d1 : L 1 = true → L 0 = true
  d2 : L 2 = true → L 1 = true
  d4 : L 4 = true → L 3 = true
  d5 : L 5 = true → L 4 = true
theorem upd_imp {L : Nat → Bool} {i j k : Nat} (h1 : L j = true → L k = true) (h2 : i = j → L k = true) : upd L i j = true → upd L i k = true := by
  intro h
  unfold upd at h ⊢
  by_cases hk : k = i
  · simp [hk]
  · by_cases hj : j = i
    · simp [hk, h2 hj.symm]
    · simp [hj] at h; simp [hk, h1 h]
theorem Dep.upd {L : Nat → Bool} (h : Dep L) (i : Nat) (h1 : i = 1 → L 0 = true) (h2 : i = 2 → L 1 = true) (h4 : i = 4 → L 3 = true) (h5 : i = 5 → L 4 = true) : Dep (upd L i) :=
  ⟨upd_imp h.d1 h1, upd_imp h.d2 h2, upd_imp h.d4 h4, upd_imp h.d5 h5⟩
/-- What holds while the order is drawn. -/
def OI (w : World) (A : Option Addr) (cap : Nat) (rows : List RowI) (G : Option Addr) (gcap : Nat) (gens : List Int) (L : Nat → Bool) (ac : Act) (w1 : World) : Prop :=
  ∃ x3 x4 x5 x6 x7 x8 x9 : Value, ac = ⟨#[.agg #[.slice A rows.length cap, .slice G gens.length gcap], .pointer (some ⟨w.heap.size, 0, none⟩), .pointer (some ⟨w.heap.size + 1, 0, none⟩), x3, x4, x5, x6, x7, x8, x9], []⟩ ∧
    (L 0 = true → x3 = .pointer (some ⟨w.heap.size, 0, none⟩)) ∧ (L 1 = true → x4 = .slice A rows.length cap) ∧ (L 2 = true → w1.ownsRow (w.heap.size + 2) 61 11 x5 rows.length (cellsOfRows rows)) ∧
    (L 3 = true → x6 = .pointer (some ⟨w.heap.size, 1, none⟩)) ∧ (L 4 = true → x7 = .slice G gens.length gcap) ∧ (L 5 = true → w1.ownsRow (w.heap.size + 2) 3 1 x8 gens.length (cellsOfInts gens)) ∧
    (L 6 = true → x9 = .agg #[x5, x8] ∧ L 2 = true ∧ L 5 = true) ∧
    (L 7 = true → w1.cell? ⟨w.heap.size + 1, 0, none⟩ = some x5 ∧ w1.cell? ⟨w.heap.size + 1, 1, none⟩ = some x8 ∧ ∀ j, j < 7 → L j = true) ∧
    OW w A rows.length cap G gens.length gcap w1 ∧ Dep L
theorem upd_ne {L : Nat → Bool} {i j : Nat} (h : j ≠ i) : upd L i j = L j := if_neg h
theorem upd_eq {L : Nat → Bool} {i : Nat} : upd L i i = true := if_pos rfl
theorem upd_no {L : Nat → Bool} {i j : Nat} (h : L j = false) (hi : j ≠ i) {P : Prop} : upd L i j = true → P := fun k => by rw [upd_ne hi, h] at k; cases k
theorem upd_of {L : Nat → Bool} {i j : Nat} (hi : j ≠ i) {P : Prop} (f : L j = true → P) : upd L i j = true → P := fun k => f (by rwa [upd_ne hi] at k)
theorem own_one {W : World} {base : Nat} {e : TypeId} {size n : Nat} {v : Value} {xs : List Value} (h : W.ownsRow base e size v n xs) : ∃ A c, v = .slice A n c := by
  rcases h.2 with ⟨rfl, rfl⟩ | ⟨g, cap, cur, rfl, _⟩
  · exact ⟨none, 0, rfl⟩
  · exact ⟨_, cap, rfl⟩
theorem own_setsBelow {base b : Nat} {e : TypeId} {size n : Nat} {v : Value} {xs : List Value} (hb : b < base) : ∀ (vs : List Value) (o : Nat) (W : World), W.ownsRow base e size v n xs → (W.setCells b o vs).ownsRow base e size v n xs
  | [], _, _, h => h
  | u :: r, o, _, h => own_setsBelow hb r (o + 1) _ (ownsRow_setCell_below h (a := ⟨b, o, none⟩) hb u)

set_option maxRecDepth 8000 in
set_option maxHeartbeats 2000000 in
theorem own_any (A : Option Addr) (cap : Nat) (rows : List RowI) (G : Option Addr) (gcap : Nat) (gens : List Int) (w : World) (hn : rows.length * 88 ≤ 140737488355328) (hgn : gens.length * 8 ≤ 140737488355328) (hR : RowsL w A rows) (hG : IntsL w G gens) :
    Calls Try.prog 37 #[worldV A rows.length cap G gens.length gcap] w fun e w' => ∃ v5 v8, e = .returned (.agg #[v5, v8]) ∧ w'.ownsRow (w.heap.size + 2) 61 11 v5 rows.length (cellsOfRows rows) ∧ w'.ownsRow (w.heap.size + 2) 3 1 v8 gens.length (cellsOfInts gens) ∧ Below w.heap.size w w' := by
  obtain ⟨i61, hi61, hz61, hs61, hb61⟩ := info_parts info61
  obtain ⟨i3, hi3, hz3, hs3, hb3⟩ := info_parts info3
  have hO := OW.start w A rows.length cap G gens.length gcap
  unfold worldV
  go_enter Try.func37, Try.ntmps37
  go_wp2
  rename_i Q1 K1 hK1
  refine wp_region_inv (by kernel_rfl) (OI w A cap rows G gcap gens) (by kernel_rfl) ?start ?step ?fin
  case start => exact ⟨_, _, _, _, _, _, _, rfl, by simp, by simp, by simp, by simp, by simp, by simp, by simp, by simp, hO.keep ((Below.refl _ _).drew), ⟨by simp, by simp, by simp, by simp⟩⟩
  case step =>
    clear hK1 hO
    rintro L ac w1 i o ⟨x3, x4, x5, x6, x7, x8, x9, rfl, f0, f1, f2, f3, f4, f5, f6, f7, hw, hd⟩ ho hL he
    have h7 : i ≠ 7 → L 7 = false := fun hi => by
      cases h : L 7
      · rfl
      · have hlt : i < 8 := by
          have := Array.getElem?_eq_some_iff.1 ho
          obtain ⟨h1, _⟩ := this
          simpa using h1
        rw [(f7 h).2.2 i (by omega)] at hL; cases hL
    have r0 := hw.r0
    have r1 := hw.r1
    match i, ho with
    | 0, ho =>
      have ho' := ho
      simp at ho'
      subst ho'
      refine wpOp_of ho rfl ?_
      simp [go_sem]
      exact ⟨_, _, _, _, _, _, _, rfl, fun _ => rfl, upd_of (by omega) f1, upd_of (by omega) f2, upd_of (by omega) f3, upd_of (by omega) f4, upd_of (by omega) f5, upd_of (by omega) (fun h => ⟨(f6 h).1, by rw [upd_ne (by omega)]; exact (f6 h).2.1, by rw [upd_ne (by omega)]; exact (f6 h).2.2⟩), upd_no (h7 (by omega)) (by omega), hw, hd.upd 0 (by omega) (by omega) (by omega) (by omega)⟩
    | 1, ho =>
      have ho' := ho
      simp at ho'
      subst ho'
      obtain rfl := f0 (he ⟨0, .data⟩ (by simp) rfl)
      refine wpOp_of ho rfl ?_
      simp [go_sem, r0]
      exact ⟨_, _, _, _, _, _, _, rfl, upd_of (by omega) f0, fun _ => rfl, upd_of (by omega) f2, upd_of (by omega) f3, upd_of (by omega) f4, upd_of (by omega) f5, upd_of (by omega) (fun h => ⟨(f6 h).1, by rw [upd_ne (by omega)]; exact (f6 h).2.1, by rw [upd_ne (by omega)]; exact (f6 h).2.2⟩), upd_no (h7 (by omega)) (by omega), hw, hd.upd 1 (fun _ => he ⟨0, .data⟩ (by simp) rfl) (by omega) (by omega) (by omega)⟩
    | 2, ho =>
      have ho' := ho
      simp at ho'
      subst ho'
      obtain rfl := f1 (he ⟨1, .data⟩ (by simp) rfl)
      refine wpOp_of ho rfl ?_
      refine wp_append_copy w1 _ _ 36 rfl (w.heap.size + 2) 61 i61 _ 11 88 Try.underlying36 hi61 hz61 hs61 hb61 rfl (by decide) rfl A rows.length cap (cellsOfRows rows) rfl (hR.below hw.bel).copies (by unfold maxLen; omega) hn hw.sz fun v' w' h1 h2 => ?_
      exact ⟨_, _, v', _, _, _, _, rfl, upd_of (by omega) f0, upd_of (by omega) f1, fun _ => h1, upd_of (by omega) f3, upd_of (by omega) f4, upd_of (by omega) (fun h => (f5 h).kept h2 (by cases x8.ownBlock <;> simp)), upd_of (by omega) (fun h => absurd ((f6 h).2.1.symm.trans hL) (by decide)), upd_no (h7 (by omega)) (by omega), hw.grown h2, hd.upd 2 (by omega) (fun _ => he ⟨1, .data⟩ (by simp) rfl) (by omega) (by omega)⟩
    | 3, ho =>
      have ho' := ho
      simp at ho'
      subst ho'
      refine wpOp_of ho rfl ?_
      simp [go_sem]
      exact ⟨_, _, _, _, _, _, _, rfl, upd_of (by omega) f0, upd_of (by omega) f1, upd_of (by omega) f2, fun _ => rfl, upd_of (by omega) f4, upd_of (by omega) f5, upd_of (by omega) (fun h => ⟨(f6 h).1, by rw [upd_ne (by omega)]; exact (f6 h).2.1, by rw [upd_ne (by omega)]; exact (f6 h).2.2⟩), upd_no (h7 (by omega)) (by omega), hw, hd.upd 3 (by omega) (by omega) (by omega) (by omega)⟩
    | 4, ho =>
      have ho' := ho
      simp at ho'
      subst ho'
      obtain rfl := f3 (he ⟨3, .data⟩ (by simp) rfl)
      refine wpOp_of ho rfl ?_
      simp [go_sem, r1]
      exact ⟨_, _, _, _, _, _, _, rfl, upd_of (by omega) f0, upd_of (by omega) f1, upd_of (by omega) f2, upd_of (by omega) f3, fun _ => rfl, upd_of (by omega) f5, upd_of (by omega) (fun h => ⟨(f6 h).1, by rw [upd_ne (by omega)]; exact (f6 h).2.1, by rw [upd_ne (by omega)]; exact (f6 h).2.2⟩), upd_no (h7 (by omega)) (by omega), hw, hd.upd 4 (by omega) (by omega) (fun _ => he ⟨3, .data⟩ (by simp) rfl) (by omega)⟩
    | 5, ho =>
      have ho' := ho
      simp at ho'
      subst ho'
      obtain rfl := f4 (he ⟨4, .data⟩ (by simp) rfl)
      refine wpOp_of ho rfl ?_
      refine wp_append_copy w1 _ _ 26 rfl (w.heap.size + 2) 3 i3 _ 1 8 Try.underlying26 hi3 hz3 hs3 hb3 rfl (by decide) rfl G gens.length gcap (cellsOfInts gens) rfl (hG.below hw.bel).copies (by unfold maxLen; omega) hgn hw.sz fun v' w' h1 h2 => ?_
      exact ⟨_, _, _, _, _, v', _, rfl, upd_of (by omega) f0, upd_of (by omega) f1, upd_of (by omega) (fun h => (f2 h).kept h2 (by cases x5.ownBlock <;> simp)), upd_of (by omega) f3, upd_of (by omega) f4, fun _ => h1, upd_of (by omega) (fun h => absurd ((f6 h).2.2.symm.trans hL) (by decide)), upd_no (h7 (by omega)) (by omega), hw.grown h2, hd.upd 5 (by omega) (by omega) (by omega) (fun _ => he ⟨4, .data⟩ (by simp) rfl)⟩
    | 6, ho =>
      have ho' := ho
      simp at ho'
      subst ho'
      have l2 := he ⟨2, .data⟩ (by simp) rfl
      have l5 := he ⟨5, .data⟩ (by simp) rfl
      obtain ⟨A5, c5, e5⟩ := own_one (f2 l2)
      obtain ⟨A8, c8, e8⟩ := own_one (f5 l5)
      refine wpOp_of ho rfl ?_
      subst e5
      subst e8
      simp [go_sem]
      exact ⟨_, _, _, _, _, _, _, rfl, upd_of (by omega) f0, upd_of (by omega) f1, upd_of (by omega) f2, upd_of (by omega) f3, upd_of (by omega) f4, upd_of (by omega) f5, fun _ => ⟨rfl, by rw [upd_ne (by omega)]; exact l2, by rw [upd_ne (by omega)]; exact l5⟩, upd_no (h7 (by omega)) (by omega), hw, hd.upd 6 (by omega) (by omega) (by omega) (by omega)⟩
    | 7, ho =>
      have ho' := ho
      simp at ho'
      subst ho'
      obtain ⟨rfl, l2, l5⟩ := f6 (he ⟨6, .data⟩ (by simp) rfl)
      obtain ⟨A5, c5, e5⟩ := own_one (f2 l2)
      obtain ⟨A8, c8, e8⟩ := own_one (f5 l5)
      subst e5
      subst e8
      have t0 := hw.t0
      have t1 := hw.t1
      have g0 := hw.f 0
      have g1 := hw.f 1
      obtain ⟨u0, t0⟩ := Option.isSome_iff_exists.1 t0
      obtain ⟨u1, t1⟩ := Option.isSome_iff_exists.1 t1
      refine wpOp_of ho rfl ?_
      simp [go_sem, t0, t1, g0, g1]
      have o2 := fun h => ownsRow_setCell_below (ownsRow_setCell_below (f2 h) (a := ⟨w.heap.size + 1, 0, none⟩) (by simp) (.slice A5 rows.length c5)) (a := ⟨w.heap.size + 1, 1, none⟩) (by simp) (.slice A8 gens.length c8)
      have o5 := fun h => ownsRow_setCell_below (ownsRow_setCell_below (f5 h) (a := ⟨w.heap.size + 1, 0, none⟩) (by simp) (.slice A5 rows.length c5)) (a := ⟨w.heap.size + 1, 1, none⟩) (by simp) (.slice A8 gens.length c8)
      have k0 : ((w1.setCell ⟨w.heap.size + 1, 0, none⟩ (.slice A5 rows.length c5)).setCell ⟨w.heap.size + 1, 1, none⟩ (.slice A8 gens.length c8)).cell? ⟨w.heap.size + 1, 0, none⟩ = some (.slice A5 rows.length c5) := by
        exact setc_other (by simp) (setc_same t0)
      have k1 : ((w1.setCell ⟨w.heap.size + 1, 0, none⟩ (.slice A5 rows.length c5)).setCell ⟨w.heap.size + 1, 1, none⟩ (.slice A8 gens.length c8)).cell? ⟨w.heap.size + 1, 1, none⟩ = some (.slice A8 gens.length c8) := by
        exact setc_same (setc_other (by simp) t1)
      have l6 := he ⟨6, .data⟩ (by simp) rfl
      have ll : ∀ j, j < 7 → L j = true := fun j hj => by
        rcases (by omega : j = 0 ∨ j = 1 ∨ j = 2 ∨ j = 3 ∨ j = 4 ∨ j = 5 ∨ j = 6) with rfl | rfl | rfl | rfl | rfl | rfl | rfl
        · exact hd.d1 (hd.d2 l2)
        · exact hd.d2 l2
        · exact l2
        · exact hd.d4 (hd.d5 l5)
        · exact hd.d5 l5
        · exact l5
        · exact l6
      refine ⟨_, _, _, _, _, _, _, rfl, upd_of (by omega) f0, upd_of (by omega) f1, upd_of (by omega) o2, upd_of (by omega) f3, upd_of (by omega) f4, upd_of (by omega) o5, upd_of (by omega) (fun h => ⟨rfl, by rw [upd_ne (by omega)]; exact l2, by rw [upd_ne (by omega)]; exact l5⟩), fun _ => ⟨k0, k1, fun j hj => by rw [upd_ne (by omega)]; exact ll j hj⟩, ?_, hd.upd 7 (by omega) (by omega) (by omega) (by omega)⟩
      refine ⟨(hw.bel.setCell (p := ⟨w.heap.size + 1, 0, none⟩) (by simp) _).setCell (p := ⟨w.heap.size + 1, 1, none⟩) (by simp) _, by simpa using hw.sz, ?_, ?_, by rw [k0]; rfl, by rw [k1]; rfl, fun i => by simpa using hw.f i⟩
      · exact setc_other (by simp) (setc_other (by simp) r0)
      · exact setc_other (by simp) (setc_other (by simp) r1)
  case fin =>
    rintro L ac w1 ⟨x3, x4, x5, x6, x7, x8, x9, rfl, f0, f1, f2, f3, f4, f5, f6, f7, hw, hd⟩ hall
    have h5 := f2 (hall 2 (by decide))
    have h8 := f5 (hall 5 (by decide))
    obtain ⟨c0, c1, _⟩ := f7 (hall 7 (by decide))
    have HB := hide hw.bel
    have H5 := hide h5
    have H8 := hide h8
    clear f0 f1 f2 f3 f4 f5 f6 f7 hw h5 h8 hall
    refine hK1 _ _ ?_
    go_wp2
    refine bodyPost_ret (v := .agg #[x5, x8]) (by simp [results, Try.results37, go_sem, c0, c1]) rfl ⟨x5, x8, rfl, unhide H5, unhide H8, unhide HB⟩
end Go.Proofs.Ytmbjghjpofcdpaa
