/- PChange, PPut, PDel -/
import Derived.Deep.RegionLaw
import Derived.Test.YtnbleebilmghcabQC
set_option linter.all false
namespace Go.Proofs.Ytnbleebilmghcab
open Go Go.RowKit
attribute [local go_sem ↓] Go.wp_at_zero Go.wp_at_succ
theorem size38 : (Try.prog.info? 40).map (·.size) = some 2 := by kernel_rfl
def chF (X : Wd) (i g : Int) (C : RowI → RowI × Bool × Int) : Int × Wd :=
  if (wrongW X).1 ≠ 0 then ((wrongW X).1, emptyW) else if findW X i g < 0 then (5, emptyW) else
    if (C (X.rows.getD (findW X i g).toNat dR)).2.2 ≠ 0 then ((C (X.rows.getD (findW X i g).toNat dR)).2.2, emptyW) else (0, ⟨X.rows.set (findW X i g).toNat (C (X.rows.getD (findW X i g).toNat dR)).1, X.gens⟩)
structure CW (w : World) (u0 u1 : Value) (i g : Int) (y0 y1 : Value) (W : World) : Prop where
  bel : Below w.heap.size w W
  sz : w.heap.size + 3 ≤ W.heap.size
  r0 : W.cell? ⟨w.heap.size, 0, none⟩ = some u0
  r1 : W.cell? ⟨w.heap.size, 1, none⟩ = some u1
  s0 : W.cell? ⟨w.heap.size + 1, 0, none⟩ = some (.int .i64 i)
  s1 : W.cell? ⟨w.heap.size + 1, 1, none⟩ = some (.int .i64 g)
  t0 : W.cell? ⟨w.heap.size + 2, 0, none⟩ = some y0
  t1 : W.cell? ⟨w.heap.size + 2, 1, none⟩ = some y1
  f : ∀ i, W.frozen? ⟨w.heap.size + 2, i, none⟩ = false
section
variable {w W W1 : World} {u0 u1 : Value} {i g : Int} {y0 y1 : Value}
theorem CW.keep (h : CW w u0 u1 i g y0 y1 W) (hb : Below (w.heap.size + 3) W W1) : CW w u0 u1 i g y0 y1 W1 :=
  ⟨h.bel.trans (hb.mono (by omega)), Nat.le_trans h.sz hb.size, (hb.cell (p := ⟨w.heap.size, 0, none⟩) (by simp)).trans h.r0, (hb.cell (p := ⟨w.heap.size, 1, none⟩) (by simp)).trans h.r1, (hb.cell (p := ⟨w.heap.size + 1, 0, none⟩) (by simp)).trans h.s0, (hb.cell (p := ⟨w.heap.size + 1, 1, none⟩) (by simp)).trans h.s1,
    (hb.cell (p := ⟨w.heap.size + 2, 0, none⟩) (by simp)).trans h.t0, (hb.cell (p := ⟨w.heap.size + 2, 1, none⟩) (by simp)).trans h.t1, fun i => (hb.frozen (p := ⟨w.heap.size + 2, i, none⟩) (by simp)).trans (h.f i)⟩
theorem CW.below (h : CW w u0 u1 i g y0 y1 W) (hb : Below W.heap.size W W1) : CW w u0 u1 i g y0 y1 W1 := h.keep (hb.mono h.sz)
theorem CW.there (h : CW w u0 u1 i g y0 y1 W) : W.there (w.heap.size + 2) 0 2 := fun j hj => by
  rcases (by omega : j = 0 ∨ j = 1) with rfl | rfl
  · exact ⟨by rw [Nat.zero_add, h.t0]; rfl, h.f _⟩
  · exact ⟨by rw [Nat.zero_add, h.t1]; rfl, h.f _⟩
theorem CW.give (h : CW w u0 u1 i g y0 y1 W) (z0 z1 : Value) : CW w u0 u1 i g z0 z1 (W.setCells (w.heap.size + 2) 0 [z0, z1]) := by
  have o : ∀ p : Addr, p.block ≠ w.heap.size + 2 → (W.setCells (w.heap.size + 2) 0 [z0, z1]).cell? p = W.cell? p := fun p hp => setcs_other hp
  have s := fun j hj => World.cell?_setCells_in (w.heap.size + 2) [z0, z1] 0 W (fun j hj => (h.there j hj).1) j hj
  refine ⟨below_setCells (w.heap.size + 2) (by omega) [z0, z1] 0 W h.bel, by rw [size_setCells]; exact h.sz, (o _ (by simp)).trans h.r0, (o _ (by simp)).trans h.r1, (o _ (by simp)).trans h.s0, (o _ (by simp)).trans h.s1, s 0 (by simp), s 1 (by simp), fun i => by rw [World.frozen?_setCells]; exact h.f i⟩
end
theorem CW.start (w : World) (u0 u1 : Value) (i g : Int) : CW w u0 u1 i g (.slice none 0 0) (.slice none 0 0) (((w.alloc (.cells #[u0, u1] 40)).alloc (.cells #[.int .i64 i, .int .i64 g] 50)).alloc (.cells #[.slice none 0 0, .slice none 0 0] 40)) := by
  obtain ⟨w1, h1⟩ : ∃ W, W = w.alloc (.cells #[u0, u1] 40) := ⟨_, rfl⟩
  have z1 : w1.heap.size = w.heap.size + 1 := by rw [h1]; simp
  have b1 : Below w.heap.size w w1 := by rw [h1]; exact (Below.refl _ _).alloc (Nat.le_refl _) _
  have e0 : w1.cell? ⟨w.heap.size, 0, none⟩ = some u0 := by rw [h1]; simp
  have e1 : w1.cell? ⟨w.heap.size, 1, none⟩ = some u1 := by rw [h1]; simp
  rw [← h1]
  clear h1
  obtain ⟨w2, h2⟩ : ∃ W, W = w1.alloc (.cells #[.int .i64 i, .int .i64 g] 50) := ⟨_, rfl⟩
  have z2 : w2.heap.size = w.heap.size + 2 := by rw [h2]; simp; omega
  have b2 : Below w1.heap.size w1 w2 := by rw [h2]; exact (Below.refl _ _).alloc (Nat.le_refl _) _
  have f0 : w2.cell? ⟨w.heap.size + 1, 0, none⟩ = some (.int .i64 i) := by rw [h2, ← z1]; simp
  have f1 : w2.cell? ⟨w.heap.size + 1, 1, none⟩ = some (.int .i64 g) := by rw [h2, ← z1]; simp
  rw [← h2]
  clear h2
  have b3 : Below w2.heap.size w2 (w2.alloc (.cells #[.slice none 0 0, .slice none 0 0] 40)) := (Below.refl _ _).alloc (Nat.le_refl _) _
  refine ⟨(b1.trans (b2.mono b1.size)).trans (b3.mono (Nat.le_trans b1.size b2.size)), by simp; omega, keep_below b3 (keep_below b2 e0), keep_below b3 (keep_below b2 e1), keep_below b3 f0, keep_below b3 f1, ?_, ?_, fun i => ?_⟩ <;> rw [← z2] <;> simp [go_sem]
theorem own_sl (A : Option Addr) (cap : Nat) (rows : List RowI) (G : Option Addr) (gcap : Nat) (gens : List Int) (w : World) (hn : rows.length * 88 ≤ 140737488355328) (hgn : gens.length * 8 ≤ 140737488355328) (hR : RowsL w A rows) (hG : IntsL w G gens) :
    Calls Try.prog 84 #[worldV A rows.length cap G gens.length gcap] w fun e w' => ∃ A5 c5 A8 c8, e = .returned (.agg #[.slice A5 rows.length c5, .slice A8 gens.length c8]) ∧ w'.ownsRow (w.heap.size + 2) 53 11 (.slice A5 rows.length c5) rows.length (cellsOfRows rows) ∧ w'.ownsRow (w.heap.size + 2) 3 1 (.slice A8 gens.length c8) gens.length (cellsOfInts gens) ∧ Below w.heap.size w w' :=
  (own_any A cap rows G gcap gens w hn hgn hR hG).mono fun e w' ⟨v5, v8, he, h5, h8, hb⟩ => by
    obtain ⟨A5, c5, rfl⟩ := own_one h5
    obtain ⟨A8, c8, rfl⟩ := own_one h8
    exact ⟨A5, c5, A8, c8, he, h5, h8, hb⟩
theorem own_some (k : Nat) (A : Option Addr) (cap : Nat) (rows : List RowI) (G : Option Addr) (gcap : Nat) (gens : List Int) (w : World) (hk : k < rows.length) (hn : rows.length * 88 ≤ 140737488355328) (hgn : gens.length * 8 ≤ 140737488355328) (hR : RowsL w A rows) (hG : IntsL w G gens) :
    Calls Try.prog 84 #[worldV A rows.length cap G gens.length gcap] w fun e w' => ∃ B g c5 A8 c8, w.heap.size ≤ B ∧ e = .returned (.agg #[.slice (some ⟨g, 0, none⟩) rows.length c5, .slice A8 gens.length c8]) ∧ w'.ownsRow B 53 11 (.slice (some ⟨g, 0, none⟩) rows.length c5) rows.length (cellsOfRows rows) ∧ w'.ownsRow B 3 1 (.slice A8 gens.length c8) gens.length (cellsOfInts gens) ∧ Below w.heap.size w w' :=
  (own_sl A cap rows G gcap gens w hn hgn hR hG).mono fun e w' ⟨A5, c5, A8, c8, he, h5, h8, hb⟩ => by
    obtain ⟨g, c, hv, _⟩ := own_pos h5 (by omega)
    simp only [Value.slice.injEq, true_and] at hv
    obtain ⟨rfl, rfl⟩ := hv
    exact ⟨w.heap.size + 2, g, c5, A8, c8, by omega, he, h5, h8, hb⟩
theorem box13 {w11 W13 : World} {g5 o : Nat} {vs : List Value} {u0 u1 : Value} {t : TypeId} (h : W13 = (w11.alloc (.cells #[u0, u1] t)).setCells g5 o vs) (hg : g5 < w11.heap.size) : W13.cell? ⟨w11.heap.size, 0, none⟩ = some u0 ∧ W13.cell? ⟨w11.heap.size, 1, none⟩ = some u1 := by
  subst h
  exact ⟨(setcs_other (by simp; omega)).trans (by simp), (setcs_other (by simp; omega)).trans (by simp)⟩
theorem cw13 {w W W1 : World} {u0 u1 y0 y1 : Value} {i g : Int} {g5 o : Nat} {vs : List Value} {B : Nat} (h : CW w u0 u1 i g y0 y1 W) (h1 : W1 = W.setCells g5 o vs) (hg : B ≤ g5) (hB : w.heap.size + 3 ≤ B) : CW w u0 u1 i g y0 y1 W1 := by
  subst h1
  exact h.keep (below_setCells g5 (by omega) vs o W (Below.refl _ _))
theorem own_setsOther {base b : Nat} {e : TypeId} {size n : Nat} {v : Value} {xs : List Value} (hb : v.ownBlock ≠ some b) : ∀ (vs : List Value) (o : Nat) (W : World), W.ownsRow base e size v n xs → (W.setCells b o vs).ownsRow base e size v n xs
  | [], _, _, h => h
  | u :: r, o, _, h => own_setsOther hb r (o + 1) _ (ownsRow_setCell_other h (a := ⟨b, o, none⟩) hb u)
theorem own_ne {v : Value} {g n c : Nat} (h : v.ownBlock = none ∨ v.ownBlock ≠ (Value.slice (some ⟨g, 0, none⟩) n c).ownBlock) : v.ownBlock ≠ some g := by
  rcases h with h | h
  · rw [h]; simp
  · exact h
structure WldNew (B : Nat) (w : World) (A : Option Addr) (cap : Nat) (G : Option Addr) (gcap : Nat) (X : Wd) : Prop extends WldAt w A cap G gcap X where
  fa : ∀ c o, A = some ⟨c, o, none⟩ → B ≤ c
  fg : ∀ c o, G = some ⟨c, o, none⟩ → B ≤ c
theorem wldAt_empty (w : World) : WldAt w none 0 none 0 emptyW := ⟨fun j hj => by simp [emptyW] at hj, fun j hj => by simp [emptyW] at hj⟩
theorem wldNew_empty (B : Nat) (w : World) : WldNew B w none 0 none 0 emptyW := ⟨wldAt_empty w, fun _ _ h => (by cases h), fun _ _ h => (by cases h)⟩
theorem own_fresh {W : World} {base B : Nat} {e : TypeId} {size n : Nat} {A : Option Addr} {c : Nat} {xs : List Value} (h : W.ownsRow base e size (.slice A n c) n xs) (hB : B ≤ base) : ∀ b o, A = some ⟨b, o, none⟩ → B ≤ b := fun b o e => by
  subst e
  exact Nat.le_trans hB (h.lt b rfl).1
theorem WldNew.below {B : Nat} {w w1 : World} {A : Option Addr} {cap : Nat} {G : Option Addr} {gcap : Nat} {X : Wd} (h : WldNew B w A cap G gcap X) (hb : Below w.heap.size w w1) : WldNew B w1 A cap G gcap X := ⟨h.toWldAt.below hb, h.fa, h.fg⟩
set_option maxRecDepth 8000 in
set_option maxHeartbeats 4000000 in
theorem change_put (A : Option Addr) (cap : Nat) (G : Option Addr) (gcap : Nat) (X : Wd) (i g : Int) (C : RowI → RowI × Bool × Int) (bp bn : Nat) (w : World) (hn0 : X.rows.length ≤ 9223372036854775807) (hX : WldAt w A cap G gcap X)
    (hC1 : ∀ x, (C x).2.1 = decide ((C x).2.2 = 0)) (hC : ∀ W, Below w.heap.size w W → ∀ x, Calls Try.prog 126 #[rowV x, .pointer (some ⟨bp, 0, none⟩), .pointer (some ⟨bn, 0, none⟩)] W fun e w' => e = .returned (ansV (C x)) ∧ Below W.heap.size W w') :
    Calls Try.prog 123 #[wldV A cap G gcap X, beingV i g, .func (.func 126) #[] #[.pointer (some ⟨bp, 0, none⟩), .pointer (some ⟨bn, 0, none⟩)]] w fun e w' => ∃ A' c' G' gc', e = .returned (.tuple #[wldV A' c' G' gc' (chF X i g C).2, .int .i64 (chF X i g C).1]) ∧ WldNew w.heap.size w' A' c' G' gc' (chF X i g C).2 ∧ Below w.heap.size w w' := by
  have hCW := CW.start w (.slice A X.rows.length cap) (.slice G X.gens.length gcap) i g
  have hP := fun W (hb : Below w.heap.size w W) => pwrong_any A X.rows.length cap G X.gens.length gcap (fun j => X.rows.getD j dR) (fun j => X.gens.getD j 0) W (by omega) (hX.rows.below hb) (hX.gens.below hb)
  have eW : plainF (fun j => X.rows.getD j dR) X.rows.length X.gens.length (fun j => X.gens.getD j 0) = wrongW X := rfl
  rw [eW] at hP
  unfold faultP worldV at hP
  have hF := fun W (hb : Below w.heap.size w W) => find_any A X.rows.length cap (fun j => X.rows.getD j dR) i g W (by omega) (hX.rows.below hb)
  have eF : fIx (fun j => X.rows.getD j dR) i g X.rows.length 0 = findW X i g := rfl
  rw [eF] at hF
  unfold beingV at hF
  have HP := hide hP
  have HF := hide hF
  have HX := hide hX
  have HCW := hide hCW
  have HCC := hide hC
  have HC1 := hide hC1
  clear hP hF hCW hC hC1 eW eF hX
  unfold chF
  unfold wldV worldV beingV
  by_cases hw0 : (wrongW X).1 = 0
  · rw [if_neg (by simpa using hw0)]
    obtain ⟨hn, hgn⟩ := right_fit hw0
    rw [hw0] at HP
    generalize (wrongW X).2 = wa at *
    rcases fIx_spec (fun j => X.rows.getD j dR) i g X.rows.length 0 with hf | ⟨k, _, hk, hf, hi⟩
    · have hf' : findW X i g = -1 := hf
      rw [hf'] at HF ⊢
      rw [if_pos (by decide)]
      unfold emptyW
      clear hf hf' hw0
      go_enter Try.func123, Try.ntmps123
      go_wp2_with (first
        | (go_at_call 42; refine (unhide HP _ (unhide HCW).bel).mono ?_; rintro e w5 ⟨rfl, hb5⟩; have hC5 := (unhide HCW).below hb5; have hC6 := hC5.below ((Below.refl _ _).alloc (Nat.le_refl _) (.cells #[.int .i64 0, .int .i64 wa] 30)); have r0 := hC6.r0; have r1 := hC6.r1; have s0 := hC6.s0; have s1 := hC6.s1; have HC6 := hide hC6; clear hb5 hC5 hC6)
        | (go_at_call 88; refine (unhide HF _ (unhide HC6).bel).mono ?_; rintro e w7 ⟨rfl, hb7⟩; have hC7 := (unhide HC6).below hb7; have HC7 := hide hC7; clear hb7 hC7 r0 r1 s0 s1)
        | (refine wpList_putN rfl 40 (.tmp 6) (.tmp 28) rfl (w.heap.size + 2) 0 [.slice none 0 0, .slice none 0 0] rfl rfl (by simp [Value.oneCell']) size38 (unhide HC7).there ?_; intro W3 hW3; have hC8 := (unhide HC7).give (.slice none 0 0) (.slice none 0 0); rw [← hW3] at hC8; have HC8 := hide hC8; clear hW3 hC8))
      have t0 := (unhide HC8).t0
      have t1 := (unhide HC8).t1
      refine bodyPost_ret (v := .tuple #[.agg #[.slice none 0 0, .slice none 0 0], .int .i64 5]) (by simp [results, Try.results123, go_sem, t0, t1]) rfl ⟨none, 0, none, 0, rfl, wldNew_empty _ _, (unhide HC8).bel⟩
    · have hf' : findW X i g = (k : Int) := hf
      have hkn : k < X.rows.length := by omega
      rw [hf'] at HF ⊢
      rw [if_neg (by omega : ¬ (k : Int) < 0), Int.toNat_natCast]
      have kk0 : (0 : Int) ≤ (k : Int) := by omega
      have kk1 : (k : Int) < (X.rows.length : Int) := by omega
      have kk2 : ¬ (k : Int) < 0 := by omega
      obtain ⟨b, off, hA, hrow⟩ := (unhide HX).rows k hkn
      subst hA
      have hrow : RowAt w b (off + k * 11) (X.rows.getD k dR) := hrow
      have HROW := hide hrow
      have HCX := hide (fun W hW => unhide HCC W hW (X.rows.getD k dR))
      have hc1 := unhide HC1 (X.rows.getD k dR)
      have HOWN := hide (fun W (hb : Below w.heap.size w W) => own_some k (some ⟨b, off, none⟩) cap X.rows G gcap X.gens W hkn hn hgn ((unhide HX).rows.below hb) ((unhide HX).gens.below hb))
      have HLEN := hide (cellsOfRows_len X.rows)
      have HSET := hide (setsL_rows X.rows k (C (X.rows.getD k dR)).1 hkn)
      clear hrow hf hf' hi hw0 HCC HC1 HX
      generalize X.rows.getD k dR = x at *
      unfold ansV at HCX
      unfold worldV at HOWN
      generalize C x = y at *
      obtain ⟨y, st, er⟩ := y
      dsimp only at *
      by_cases he : er = 0
      · have hst : st = true := by rw [hc1]; simpa using he
        clear hc1
        subst hst
        subst he
        rw [if_neg (by simp)]
        unfold rowV at *
        go_enter Try.func123, Try.ntmps123
        go_wp2_with (first
          | (go_at_call 42; refine (unhide HP _ (unhide HCW).bel).mono ?_; rintro e w5 ⟨rfl, hb5⟩; have hC5 := (unhide HCW).below hb5; have hC6 := hC5.below ((Below.refl _ _).alloc (Nat.le_refl _) (.cells #[.int .i64 0, .int .i64 wa] 30)); have r0 := hC6.r0; have r1 := hC6.r1; have s0 := hC6.s0; have s1 := hC6.s1; have HC6 := hide hC6; clear hb5 hC5 hC6)
          | (go_at_call 88; refine (unhide HF _ (unhide HC6).bel).mono ?_; rintro e w7 ⟨rfl, hb7⟩; have hC7 := (unhide HC6).below hb7; have hr7 := (unhide HROW).below hC7.bel; clear r0 r1 s0 s1; have r0 := hC7.r0; have r1 := hC7.r1; have c0 := hr7.c0; have c1 := hr7.c1; have c2 := hr7.c2; have c3 := hr7.v 0 (by omega); have c4 := hr7.v 1 (by omega); have c5 := hr7.v 2 (by omega); have c6 := hr7.v 3 (by omega); have c7 := hr7.v 4 (by omega); have c8 := hr7.v 5 (by omega); have c9 := hr7.v 6 (by omega); have c10 := hr7.v 7 (by omega); simp only [Nat.add_assoc, Nat.reduceAdd] at c3 c4 c5 c6 c7 c8 c9 c10; simp only [← Nat.add_assoc] at c3 c4 c5 c6 c7 c8 c9 c10; have HC7 := hide hC7; clear hb7 hC7 hr7)
          | (go_at_call 126; refine (unhide HCX _ (unhide HC7).bel).mono ?_; rintro e w9 ⟨rfl, hb9⟩; have hC9 := (unhide HC7).below hb9; have hC10 := hC9.below ((Below.refl _ _).alloc (Nat.le_refl _) (.cells #[.int .i64 y.ix, .int .i64 y.gen, .int .i64 y.has, .int .i64 (y.v 0), .int .i64 (y.v 1), .int .i64 (y.v 2), .int .i64 (y.v 3), .int .i64 (y.v 4), .int .i64 (y.v 5), .int .i64 (y.v 6), .int .i64 (y.v 7)] 53)); clear r0 r1 c0 c1 c2 c3 c4 c5 c6 c7 c8 c9 c10; have r0 := hC10.r0; have r1 := hC10.r1; have HC10 := hide hC10; clear hb9 hC9 hC10)
          | (go_at_call 84; refine (unhide HOWN _ (unhide HC10).bel).mono ?_; rintro e w11 ⟨B, g5, c5, A8, c8, hB, rfl, ho5, ho8, hb11⟩; have hB3 := Nat.le_trans (unhide HC10).sz hB; clear hB; clear r0 r1; have hy := (((box_row w9 y 53).1).below hb11).below ((Below.refl _ _).alloc (Nat.le_refl _) (.cells #[.slice (some ⟨g5, 0, none⟩) X.rows.length c5, .slice A8 X.gens.length c8] 40)); have d0 := hy.c0; have d1 := hy.c1; have d2 := hy.c2; have d3 := hy.v 0 (by omega); have d4 := hy.v 1 (by omega); have d5 := hy.v 2 (by omega); have d6 := hy.v 3 (by omega); have d7 := hy.v 4 (by omega); have d8 := hy.v 5 (by omega); have d9 := hy.v 6 (by omega); have d10 := hy.v 7 (by omega); simp only [Nat.zero_add, Nat.reduceAdd] at d0 d1 d2 d3 d4 d5 d6 d7 d8 d9 d10; have HO5 := hide ho5; have HO8 := hide ho8; have HC12 := hide (((unhide HC10).below hb11).below ((Below.refl _ _).alloc (Nat.le_refl _) (.cells #[.slice (some ⟨g5, 0, none⟩) X.rows.length c5, .slice A8 X.gens.length c8] 40))); clear ho5 ho8 hb11 hy)
          | (refine wpList_putN rfl 53 (.tmp 60) (.tmp 59) rfl g5 (k * 11) (rowCells y) rfl rfl (rowCells_one y) size61 (own_there ((unhide HO5).alloc _) (k * 11) 11 (by rw [unhide HLEN]; omega)) ?_; intro W13 hW13; have hb13 := box13 hW13 ((unhide HO5).lt g5 rfl).2; have e0 := hb13.1; have e1 := hb13.2; have HW13 := hide hW13; clear d0 d1 d2 d3 d4 d5 d6 d7 d8 d9 d10 hb13 hW13)
          | (refine wpList_putN rfl 40 (.tmp 6) (.tmp 61) rfl (w.heap.size + 2) 0 [.slice (some ⟨g5, 0, none⟩) X.rows.length c5, .slice A8 X.gens.length c8] rfl rfl (by simp [Value.oneCell']) size38 (cw13 (unhide HC12) (unhide HW13) ((unhide HO5).lt g5 rfl).1 hB3).there ?_; intro W14 hW14; have HW14 := hide hW14; clear hW14))
        have hlo := (unhide HO5).lt g5 rfl
        have hC14 := (cw13 (unhide HC12) (unhide HW13) hlo.1 hB3).give (.slice (some ⟨g5, 0, none⟩) X.rows.length c5) (.slice A8 X.gens.length c8)
        rw [← unhide HW14] at hC14
        have t0 := hC14.t0
        have t1 := hC14.t1
        have hlen : (X.rows.set k y).length = X.rows.length := List.length_set
        have ho5 : W14.ownsRow B 53 11 (.slice (some ⟨g5, 0, none⟩) (X.rows.set k y).length c5) (X.rows.set k y).length (cellsOfRows (X.rows.set k y)) := by
          rw [unhide HW14]
          refine own_setsBelow (by omega) _ _ _ ?_
          rw [unhide HW13, ← unhide HSET, hlen]
          exact own_sets (rowCells y) (k * 11) _ _ ((unhide HO5).alloc _) (by rw [unhide HLEN, rowCells_len]; omega)
        have ho8 : W14.ownsRow B 3 1 (.slice A8 X.gens.length c8) X.gens.length (cellsOfInts X.gens) := by
          rw [unhide HW14]
          refine own_setsBelow (by omega) _ _ _ ?_
          rw [unhide HW13]
          refine own_setsOther ?_ _ _ _ ((unhide HO8).alloc _)
          exact own_ne (own_apart (unhide HO8) (unhide HO5) (by decide))
        obtain ⟨A1, c1, hv1, hR1⟩ := rowsL_own ho5
        obtain ⟨A2, c2, hv2, hR2⟩ := intsL_own ho8
        simp only [Value.slice.injEq, true_and] at hv1 hv2
        obtain ⟨rfl, rfl⟩ := hv1
        obtain ⟨rfl, rfl⟩ := hv2
        refine bodyPost_ret (v := .tuple #[.agg #[.slice (some ⟨g5, 0, none⟩) X.rows.length c5, .slice A8 X.gens.length c8], .int .i64 0]) (by simp [results, Try.results123, go_sem, t0, t1]) rfl ⟨some ⟨g5, 0, none⟩, c5, A8, c8, by rw [hlen], ⟨⟨hR1, hR2⟩, own_fresh ho5 (by omega), own_fresh ho8 (by omega)⟩, hC14.bel⟩
      · have hst : st = false := by rw [hc1]; simpa using he
        clear hc1
        subst hst
        rw [if_pos (by simpa using he)]
        unfold rowV at *
        unfold emptyW
        go_enter Try.func123, Try.ntmps123
        go_wp2_with (first
          | (go_at_call 42; refine (unhide HP _ (unhide HCW).bel).mono ?_; rintro e w5 ⟨rfl, hb5⟩; have hC5 := (unhide HCW).below hb5; have hC6 := hC5.below ((Below.refl _ _).alloc (Nat.le_refl _) (.cells #[.int .i64 0, .int .i64 wa] 30)); have r0 := hC6.r0; have r1 := hC6.r1; have s0 := hC6.s0; have s1 := hC6.s1; have HC6 := hide hC6; clear hb5 hC5 hC6)
          | (go_at_call 88; refine (unhide HF _ (unhide HC6).bel).mono ?_; rintro e w7 ⟨rfl, hb7⟩; have hC7 := (unhide HC6).below hb7; have hr7 := (unhide HROW).below hC7.bel; clear r0 r1 s0 s1; have r0 := hC7.r0; have r1 := hC7.r1; have c0 := hr7.c0; have c1 := hr7.c1; have c2 := hr7.c2; have c3 := hr7.v 0 (by omega); have c4 := hr7.v 1 (by omega); have c5 := hr7.v 2 (by omega); have c6 := hr7.v 3 (by omega); have c7 := hr7.v 4 (by omega); have c8 := hr7.v 5 (by omega); have c9 := hr7.v 6 (by omega); have c10 := hr7.v 7 (by omega); simp only [Nat.add_assoc, Nat.reduceAdd] at c3 c4 c5 c6 c7 c8 c9 c10; simp only [← Nat.add_assoc] at c3 c4 c5 c6 c7 c8 c9 c10; have HC7 := hide hC7; clear hb7 hC7 hr7)
          | (go_at_call 126; refine (unhide HCX _ (unhide HC7).bel).mono ?_; rintro e w9 ⟨rfl, hb9⟩; have hC9 := (unhide HC7).below hb9; have hC10 := hC9.below ((Below.refl _ _).alloc (Nat.le_refl _) (.cells #[.int .i64 y.ix, .int .i64 y.gen, .int .i64 y.has, .int .i64 (y.v 0), .int .i64 (y.v 1), .int .i64 (y.v 2), .int .i64 (y.v 3), .int .i64 (y.v 4), .int .i64 (y.v 5), .int .i64 (y.v 6), .int .i64 (y.v 7)] 53)); clear r0 r1 c0 c1 c2 c3 c4 c5 c6 c7 c8 c9 c10; have HC10 := hide hC10; clear hb9 hC9 hC10)
          | (refine wpList_putN rfl 40 (.tmp 6) (.tmp 42) rfl (w.heap.size + 2) 0 [.slice none 0 0, .slice none 0 0] rfl rfl (by simp [Value.oneCell']) size38 (unhide HC10).there ?_; intro W3 hW3; have hC8 := (unhide HC10).give (.slice none 0 0) (.slice none 0 0); rw [← hW3] at hC8; have HC8 := hide hC8; clear hW3 hC8))
        have t0 := (unhide HC8).t0
        have t1 := (unhide HC8).t1
        refine bodyPost_ret (v := .tuple #[.agg #[.slice none 0 0, .slice none 0 0], .int .i64 er]) (by simp [results, Try.results123, go_sem, t0, t1]) rfl ⟨none, 0, none, 0, rfl, wldNew_empty _ _, (unhide HC8).bel⟩
  · rw [if_pos hw0]
    generalize (wrongW X).2 = wa at *
    generalize (wrongW X).1 = we at *
    unfold emptyW
    go_enter Try.func123, Try.ntmps123
    go_wp2_with (first
      | (go_at_call 42; refine (unhide HP _ (unhide HCW).bel).mono ?_; rintro e w5 ⟨rfl, hb5⟩; have hC5 := (unhide HCW).below hb5; have hz : w.heap.size + 1 + 1 < w5.heap.size := hC5.sz; have t0 : w5.cell? ⟨w.heap.size + 1 + 1, 0, none⟩ = some (.slice none 0 0) := hC5.t0; have t1 : w5.cell? ⟨w.heap.size + 1 + 1, 1, none⟩ = some (.slice none 0 0) := hC5.t1; have f0 : w5.frozen? ⟨w.heap.size + 1 + 1, 0, none⟩ = false := hC5.f 0; have f1 : w5.frozen? ⟨w.heap.size + 1 + 1, 1, none⟩ = false := hC5.f 1; have HC5 := hide hC5; clear hb5 hC5))
    go_region
    all_goals (try go_wp2)
    all_goals
      refine bodyPost_ret (v := .tuple #[.agg #[.slice none 0 0, .slice none 0 0], .int .i64 we]) (by simp [results, Try.results123, go_sem, t0, t1, hz]) rfl ⟨none, 0, none, 0, rfl, wldNew_empty _ _, ?_⟩
      exact bel_drewN' ((((unhide HC5).bel.setCell (p := ⟨w.heap.size + 1 + 1, 0, none⟩) (by simp; omega) _).setCell (p := ⟨w.heap.size + 1 + 1, 1, none⟩) (by simp; omega) _).alloc (by simpa using (unhide HC5).bel.size) _) 1
set_option maxRecDepth 8000 in
set_option maxHeartbeats 4000000 in
theorem change_drop (A : Option Addr) (cap : Nat) (G : Option Addr) (gcap : Nat) (X : Wd) (i g : Int) (C : RowI → RowI × Bool × Int) (bp : Nat) (w : World) (hn0 : X.rows.length ≤ 9223372036854775807) (hX : WldAt w A cap G gcap X)
    (hC1 : ∀ x, (C x).2.1 = decide ((C x).2.2 = 0)) (hC : ∀ W, Below w.heap.size w W → ∀ x, Calls Try.prog 132 #[rowV x, .pointer (some ⟨bp, 0, none⟩)] W fun e w' => e = .returned (ansV (C x)) ∧ Below W.heap.size W w') :
    Calls Try.prog 123 #[wldV A cap G gcap X, beingV i g, .func (.func 132) #[] #[.pointer (some ⟨bp, 0, none⟩)]] w fun e w' => ∃ A' c' G' gc', e = .returned (.tuple #[wldV A' c' G' gc' (chF X i g C).2, .int .i64 (chF X i g C).1]) ∧ WldNew w.heap.size w' A' c' G' gc' (chF X i g C).2 ∧ Below w.heap.size w w' := by
  have hCW := CW.start w (.slice A X.rows.length cap) (.slice G X.gens.length gcap) i g
  have hP := fun W (hb : Below w.heap.size w W) => pwrong_any A X.rows.length cap G X.gens.length gcap (fun j => X.rows.getD j dR) (fun j => X.gens.getD j 0) W (by omega) (hX.rows.below hb) (hX.gens.below hb)
  have eW : plainF (fun j => X.rows.getD j dR) X.rows.length X.gens.length (fun j => X.gens.getD j 0) = wrongW X := rfl
  rw [eW] at hP
  unfold faultP worldV at hP
  have hF := fun W (hb : Below w.heap.size w W) => find_any A X.rows.length cap (fun j => X.rows.getD j dR) i g W (by omega) (hX.rows.below hb)
  have eF : fIx (fun j => X.rows.getD j dR) i g X.rows.length 0 = findW X i g := rfl
  rw [eF] at hF
  unfold beingV at hF
  have HP := hide hP
  have HF := hide hF
  have HX := hide hX
  have HCW := hide hCW
  have HCC := hide hC
  have HC1 := hide hC1
  clear hP hF hCW hC hC1 eW eF hX
  unfold chF
  unfold wldV worldV beingV
  by_cases hw0 : (wrongW X).1 = 0
  · rw [if_neg (by simpa using hw0)]
    obtain ⟨hn, hgn⟩ := right_fit hw0
    rw [hw0] at HP
    generalize (wrongW X).2 = wa at *
    rcases fIx_spec (fun j => X.rows.getD j dR) i g X.rows.length 0 with hf | ⟨k, _, hk, hf, hi⟩
    · have hf' : findW X i g = -1 := hf
      rw [hf'] at HF ⊢
      rw [if_pos (by decide)]
      unfold emptyW
      clear hf hf' hw0
      go_enter Try.func123, Try.ntmps123
      go_wp2_with (first
        | (go_at_call 42; refine (unhide HP _ (unhide HCW).bel).mono ?_; rintro e w5 ⟨rfl, hb5⟩; have hC5 := (unhide HCW).below hb5; have hC6 := hC5.below ((Below.refl _ _).alloc (Nat.le_refl _) (.cells #[.int .i64 0, .int .i64 wa] 30)); have r0 := hC6.r0; have r1 := hC6.r1; have s0 := hC6.s0; have s1 := hC6.s1; have HC6 := hide hC6; clear hb5 hC5 hC6)
        | (go_at_call 88; refine (unhide HF _ (unhide HC6).bel).mono ?_; rintro e w7 ⟨rfl, hb7⟩; have hC7 := (unhide HC6).below hb7; have HC7 := hide hC7; clear hb7 hC7 r0 r1 s0 s1)
        | (refine wpList_putN rfl 40 (.tmp 6) (.tmp 28) rfl (w.heap.size + 2) 0 [.slice none 0 0, .slice none 0 0] rfl rfl (by simp [Value.oneCell']) size38 (unhide HC7).there ?_; intro W3 hW3; have hC8 := (unhide HC7).give (.slice none 0 0) (.slice none 0 0); rw [← hW3] at hC8; have HC8 := hide hC8; clear hW3 hC8))
      have t0 := (unhide HC8).t0
      have t1 := (unhide HC8).t1
      refine bodyPost_ret (v := .tuple #[.agg #[.slice none 0 0, .slice none 0 0], .int .i64 5]) (by simp [results, Try.results123, go_sem, t0, t1]) rfl ⟨none, 0, none, 0, rfl, wldNew_empty _ _, (unhide HC8).bel⟩
    · have hf' : findW X i g = (k : Int) := hf
      have hkn : k < X.rows.length := by omega
      rw [hf'] at HF ⊢
      rw [if_neg (by omega : ¬ (k : Int) < 0), Int.toNat_natCast]
      have kk0 : (0 : Int) ≤ (k : Int) := by omega
      have kk1 : (k : Int) < (X.rows.length : Int) := by omega
      have kk2 : ¬ (k : Int) < 0 := by omega
      obtain ⟨b, off, hA, hrow⟩ := (unhide HX).rows k hkn
      subst hA
      have hrow : RowAt w b (off + k * 11) (X.rows.getD k dR) := hrow
      have HROW := hide hrow
      have HCX := hide (fun W hW => unhide HCC W hW (X.rows.getD k dR))
      have hc1 := unhide HC1 (X.rows.getD k dR)
      have HOWN := hide (fun W (hb : Below w.heap.size w W) => own_some k (some ⟨b, off, none⟩) cap X.rows G gcap X.gens W hkn hn hgn ((unhide HX).rows.below hb) ((unhide HX).gens.below hb))
      have HLEN := hide (cellsOfRows_len X.rows)
      have HSET := hide (setsL_rows X.rows k (C (X.rows.getD k dR)).1 hkn)
      clear hrow hf hf' hi hw0 HCC HC1 HX
      generalize X.rows.getD k dR = x at *
      unfold ansV at HCX
      unfold worldV at HOWN
      generalize C x = y at *
      obtain ⟨y, st, er⟩ := y
      dsimp only at *
      by_cases he : er = 0
      · have hst : st = true := by rw [hc1]; simpa using he
        clear hc1
        subst hst
        subst he
        rw [if_neg (by simp)]
        unfold rowV at *
        go_enter Try.func123, Try.ntmps123
        go_wp2_with (first
          | (go_at_call 42; refine (unhide HP _ (unhide HCW).bel).mono ?_; rintro e w5 ⟨rfl, hb5⟩; have hC5 := (unhide HCW).below hb5; have hC6 := hC5.below ((Below.refl _ _).alloc (Nat.le_refl _) (.cells #[.int .i64 0, .int .i64 wa] 30)); have r0 := hC6.r0; have r1 := hC6.r1; have s0 := hC6.s0; have s1 := hC6.s1; have HC6 := hide hC6; clear hb5 hC5 hC6)
          | (go_at_call 88; refine (unhide HF _ (unhide HC6).bel).mono ?_; rintro e w7 ⟨rfl, hb7⟩; have hC7 := (unhide HC6).below hb7; have hr7 := (unhide HROW).below hC7.bel; clear r0 r1 s0 s1; have r0 := hC7.r0; have r1 := hC7.r1; have c0 := hr7.c0; have c1 := hr7.c1; have c2 := hr7.c2; have c3 := hr7.v 0 (by omega); have c4 := hr7.v 1 (by omega); have c5 := hr7.v 2 (by omega); have c6 := hr7.v 3 (by omega); have c7 := hr7.v 4 (by omega); have c8 := hr7.v 5 (by omega); have c9 := hr7.v 6 (by omega); have c10 := hr7.v 7 (by omega); simp only [Nat.add_assoc, Nat.reduceAdd] at c3 c4 c5 c6 c7 c8 c9 c10; simp only [← Nat.add_assoc] at c3 c4 c5 c6 c7 c8 c9 c10; have HC7 := hide hC7; clear hb7 hC7 hr7)
          | (go_at_call 132; refine (unhide HCX _ (unhide HC7).bel).mono ?_; rintro e w9 ⟨rfl, hb9⟩; have hC9 := (unhide HC7).below hb9; have hC10 := hC9.below ((Below.refl _ _).alloc (Nat.le_refl _) (.cells #[.int .i64 y.ix, .int .i64 y.gen, .int .i64 y.has, .int .i64 (y.v 0), .int .i64 (y.v 1), .int .i64 (y.v 2), .int .i64 (y.v 3), .int .i64 (y.v 4), .int .i64 (y.v 5), .int .i64 (y.v 6), .int .i64 (y.v 7)] 53)); clear r0 r1 c0 c1 c2 c3 c4 c5 c6 c7 c8 c9 c10; have r0 := hC10.r0; have r1 := hC10.r1; have HC10 := hide hC10; clear hb9 hC9 hC10)
          | (go_at_call 84; refine (unhide HOWN _ (unhide HC10).bel).mono ?_; rintro e w11 ⟨B, g5, c5, A8, c8, hB, rfl, ho5, ho8, hb11⟩; have hB3 := Nat.le_trans (unhide HC10).sz hB; clear hB; clear r0 r1; have hy := (((box_row w9 y 53).1).below hb11).below ((Below.refl _ _).alloc (Nat.le_refl _) (.cells #[.slice (some ⟨g5, 0, none⟩) X.rows.length c5, .slice A8 X.gens.length c8] 40)); have d0 := hy.c0; have d1 := hy.c1; have d2 := hy.c2; have d3 := hy.v 0 (by omega); have d4 := hy.v 1 (by omega); have d5 := hy.v 2 (by omega); have d6 := hy.v 3 (by omega); have d7 := hy.v 4 (by omega); have d8 := hy.v 5 (by omega); have d9 := hy.v 6 (by omega); have d10 := hy.v 7 (by omega); simp only [Nat.zero_add, Nat.reduceAdd] at d0 d1 d2 d3 d4 d5 d6 d7 d8 d9 d10; have HO5 := hide ho5; have HO8 := hide ho8; have HC12 := hide (((unhide HC10).below hb11).below ((Below.refl _ _).alloc (Nat.le_refl _) (.cells #[.slice (some ⟨g5, 0, none⟩) X.rows.length c5, .slice A8 X.gens.length c8] 40))); clear ho5 ho8 hb11 hy)
          | (refine wpList_putN rfl 53 (.tmp 60) (.tmp 59) rfl g5 (k * 11) (rowCells y) rfl rfl (rowCells_one y) size61 (own_there ((unhide HO5).alloc _) (k * 11) 11 (by rw [unhide HLEN]; omega)) ?_; intro W13 hW13; have hb13 := box13 hW13 ((unhide HO5).lt g5 rfl).2; have e0 := hb13.1; have e1 := hb13.2; have HW13 := hide hW13; clear d0 d1 d2 d3 d4 d5 d6 d7 d8 d9 d10 hb13 hW13)
          | (refine wpList_putN rfl 40 (.tmp 6) (.tmp 61) rfl (w.heap.size + 2) 0 [.slice (some ⟨g5, 0, none⟩) X.rows.length c5, .slice A8 X.gens.length c8] rfl rfl (by simp [Value.oneCell']) size38 (cw13 (unhide HC12) (unhide HW13) ((unhide HO5).lt g5 rfl).1 hB3).there ?_; intro W14 hW14; have HW14 := hide hW14; clear hW14))
        have hlo := (unhide HO5).lt g5 rfl
        have hC14 := (cw13 (unhide HC12) (unhide HW13) hlo.1 hB3).give (.slice (some ⟨g5, 0, none⟩) X.rows.length c5) (.slice A8 X.gens.length c8)
        rw [← unhide HW14] at hC14
        have t0 := hC14.t0
        have t1 := hC14.t1
        have hlen : (X.rows.set k y).length = X.rows.length := List.length_set
        have ho5 : W14.ownsRow B 53 11 (.slice (some ⟨g5, 0, none⟩) (X.rows.set k y).length c5) (X.rows.set k y).length (cellsOfRows (X.rows.set k y)) := by
          rw [unhide HW14]
          refine own_setsBelow (by omega) _ _ _ ?_
          rw [unhide HW13, ← unhide HSET, hlen]
          exact own_sets (rowCells y) (k * 11) _ _ ((unhide HO5).alloc _) (by rw [unhide HLEN, rowCells_len]; omega)
        have ho8 : W14.ownsRow B 3 1 (.slice A8 X.gens.length c8) X.gens.length (cellsOfInts X.gens) := by
          rw [unhide HW14]
          refine own_setsBelow (by omega) _ _ _ ?_
          rw [unhide HW13]
          refine own_setsOther ?_ _ _ _ ((unhide HO8).alloc _)
          exact own_ne (own_apart (unhide HO8) (unhide HO5) (by decide))
        obtain ⟨A1, c1, hv1, hR1⟩ := rowsL_own ho5
        obtain ⟨A2, c2, hv2, hR2⟩ := intsL_own ho8
        simp only [Value.slice.injEq, true_and] at hv1 hv2
        obtain ⟨rfl, rfl⟩ := hv1
        obtain ⟨rfl, rfl⟩ := hv2
        refine bodyPost_ret (v := .tuple #[.agg #[.slice (some ⟨g5, 0, none⟩) X.rows.length c5, .slice A8 X.gens.length c8], .int .i64 0]) (by simp [results, Try.results123, go_sem, t0, t1]) rfl ⟨some ⟨g5, 0, none⟩, c5, A8, c8, by rw [hlen], ⟨⟨hR1, hR2⟩, own_fresh ho5 (by omega), own_fresh ho8 (by omega)⟩, hC14.bel⟩
      · have hst : st = false := by rw [hc1]; simpa using he
        clear hc1
        subst hst
        rw [if_pos (by simpa using he)]
        unfold rowV at *
        unfold emptyW
        go_enter Try.func123, Try.ntmps123
        go_wp2_with (first
          | (go_at_call 42; refine (unhide HP _ (unhide HCW).bel).mono ?_; rintro e w5 ⟨rfl, hb5⟩; have hC5 := (unhide HCW).below hb5; have hC6 := hC5.below ((Below.refl _ _).alloc (Nat.le_refl _) (.cells #[.int .i64 0, .int .i64 wa] 30)); have r0 := hC6.r0; have r1 := hC6.r1; have s0 := hC6.s0; have s1 := hC6.s1; have HC6 := hide hC6; clear hb5 hC5 hC6)
          | (go_at_call 88; refine (unhide HF _ (unhide HC6).bel).mono ?_; rintro e w7 ⟨rfl, hb7⟩; have hC7 := (unhide HC6).below hb7; have hr7 := (unhide HROW).below hC7.bel; clear r0 r1 s0 s1; have r0 := hC7.r0; have r1 := hC7.r1; have c0 := hr7.c0; have c1 := hr7.c1; have c2 := hr7.c2; have c3 := hr7.v 0 (by omega); have c4 := hr7.v 1 (by omega); have c5 := hr7.v 2 (by omega); have c6 := hr7.v 3 (by omega); have c7 := hr7.v 4 (by omega); have c8 := hr7.v 5 (by omega); have c9 := hr7.v 6 (by omega); have c10 := hr7.v 7 (by omega); simp only [Nat.add_assoc, Nat.reduceAdd] at c3 c4 c5 c6 c7 c8 c9 c10; simp only [← Nat.add_assoc] at c3 c4 c5 c6 c7 c8 c9 c10; have HC7 := hide hC7; clear hb7 hC7 hr7)
          | (go_at_call 132; refine (unhide HCX _ (unhide HC7).bel).mono ?_; rintro e w9 ⟨rfl, hb9⟩; have hC9 := (unhide HC7).below hb9; have hC10 := hC9.below ((Below.refl _ _).alloc (Nat.le_refl _) (.cells #[.int .i64 y.ix, .int .i64 y.gen, .int .i64 y.has, .int .i64 (y.v 0), .int .i64 (y.v 1), .int .i64 (y.v 2), .int .i64 (y.v 3), .int .i64 (y.v 4), .int .i64 (y.v 5), .int .i64 (y.v 6), .int .i64 (y.v 7)] 53)); clear r0 r1 c0 c1 c2 c3 c4 c5 c6 c7 c8 c9 c10; have HC10 := hide hC10; clear hb9 hC9 hC10)
          | (refine wpList_putN rfl 40 (.tmp 6) (.tmp 42) rfl (w.heap.size + 2) 0 [.slice none 0 0, .slice none 0 0] rfl rfl (by simp [Value.oneCell']) size38 (unhide HC10).there ?_; intro W3 hW3; have hC8 := (unhide HC10).give (.slice none 0 0) (.slice none 0 0); rw [← hW3] at hC8; have HC8 := hide hC8; clear hW3 hC8))
        have t0 := (unhide HC8).t0
        have t1 := (unhide HC8).t1
        refine bodyPost_ret (v := .tuple #[.agg #[.slice none 0 0, .slice none 0 0], .int .i64 er]) (by simp [results, Try.results123, go_sem, t0, t1]) rfl ⟨none, 0, none, 0, rfl, wldNew_empty _ _, (unhide HC8).bel⟩
  · rw [if_pos hw0]
    generalize (wrongW X).2 = wa at *
    generalize (wrongW X).1 = we at *
    unfold emptyW
    go_enter Try.func123, Try.ntmps123
    go_wp2_with (first
      | (go_at_call 42; refine (unhide HP _ (unhide HCW).bel).mono ?_; rintro e w5 ⟨rfl, hb5⟩; have hC5 := (unhide HCW).below hb5; have hz : w.heap.size + 1 + 1 < w5.heap.size := hC5.sz; have t0 : w5.cell? ⟨w.heap.size + 1 + 1, 0, none⟩ = some (.slice none 0 0) := hC5.t0; have t1 : w5.cell? ⟨w.heap.size + 1 + 1, 1, none⟩ = some (.slice none 0 0) := hC5.t1; have f0 : w5.frozen? ⟨w.heap.size + 1 + 1, 0, none⟩ = false := hC5.f 0; have f1 : w5.frozen? ⟨w.heap.size + 1 + 1, 1, none⟩ = false := hC5.f 1; have HC5 := hide hC5; clear hb5 hC5))
    go_region
    all_goals (try go_wp2)
    all_goals
      refine bodyPost_ret (v := .tuple #[.agg #[.slice none 0 0, .slice none 0 0], .int .i64 we]) (by simp [results, Try.results123, go_sem, t0, t1, hz]) rfl ⟨none, 0, none, 0, rfl, wldNew_empty _ _, ?_⟩
      exact bel_drewN' ((((unhide HC5).bel.setCell (p := ⟨w.heap.size + 1 + 1, 0, none⟩) (by simp; omega) _).setCell (p := ⟨w.heap.size + 1 + 1, 1, none⟩) (by simp; omega) _).alloc (by simpa using (unhide HC5).bel.size) _) 1
end Go.Proofs.Ytnbleebilmghcab
namespace Go.Proofs.Ytnbleebilmghcab
open Go Go.RowKit
attribute [local go_sem ↓] Go.wp_at_zero Go.wp_at_succ
def putF (X : Wd) (i g p n : Int) : Int × Wd := chF X i g (fun x => putC x p n)
def dropF (X : Wd) (i g p : Int) : Int × Wd := chF X i g (fun x => dropC x p)
theorem putC_ok (p n : Int) (x : RowI) : (putC x p n).2.1 = decide ((putC x p n).2.2 = 0) := by unfold putC; split <;> rfl
theorem dropC_ok (p : Int) (x : RowI) : (dropC x p).2.1 = decide ((dropC x p).2.2 = 0) := by unfold dropC; split <;> rfl
theorem new_box {W : World} {u0 u1 : Value} {t : TypeId} {b : Nat} (hb : W.heap.size = b) : (W.alloc (.cells #[u0, u1] t)).cell? ⟨b, 0, none⟩ = some u0 ∧ (W.alloc (.cells #[u0, u1] t)).cell? ⟨b, 1, none⟩ = some u1 ∧ (∀ i, (W.alloc (.cells #[u0, u1] t)).frozen? ⟨b, i, none⟩ = false) ∧ Below W.heap.size W (W.alloc (.cells #[u0, u1] t)) := by
  subst hb
  exact ⟨by simp, by simp, fun i => by simp [go_sem], (Below.refl _ _).alloc (Nat.le_refl _) _⟩
structure AB (w : World) (b : Nat) (y0 y1 : Value) (W : World) : Prop where
  bel : Below w.heap.size w W
  lo : w.heap.size ≤ b
  t0 : W.cell? ⟨b, 0, none⟩ = some y0
  t1 : W.cell? ⟨b, 1, none⟩ = some y1
  f : ∀ i, W.frozen? ⟨b, i, none⟩ = false
section
variable {w W W1 : World} {b : Nat} {y0 y1 : Value}
theorem AB.below (h : AB w b y0 y1 W) (hb : Below W.heap.size W W1) : AB w b y0 y1 W1 := by
  have z : b < W.heap.size := World.block_lt_of_cell? W ⟨b, 0, none⟩ h.t0
  exact ⟨h.bel.trans (hb.mono h.bel.size), h.lo, keep_below hb h.t0, keep_below hb h.t1, fun i => (hb.frozen (p := ⟨b, i, none⟩) z).trans (h.f i)⟩
theorem AB.there (h : AB w b y0 y1 W) : W.there b 0 2 := fun j hj => by
  rcases (by omega : j = 0 ∨ j = 1) with rfl | rfl
  · exact ⟨by rw [Nat.zero_add, h.t0]; rfl, h.f _⟩
  · exact ⟨by rw [Nat.zero_add, h.t1]; rfl, h.f _⟩
theorem AB.give (h : AB w b y0 y1 W) (z0 z1 : Value) : AB w b z0 z1 (W.setCells b 0 [z0, z1]) := by
  have s := fun j hj => World.cell?_setCells_in b [z0, z1] 0 W (fun j hj => (h.there j hj).1) j hj
  exact ⟨below_setCells b h.lo [z0, z1] 0 W h.bel, h.lo, s 0 (by simp), s 1 (by simp), fun i => by rw [World.frozen?_setCells]; exact h.f i⟩
end
theorem WldAt.sets {W : World} {A : Option Addr} {cap : Nat} {G : Option Addr} {gcap : Nat} {X : Wd} {b o : Nat} {vs : List Value} (h : WldAt W A cap G gcap X) (hA : ∀ c o', A = some ⟨c, o', none⟩ → c ≠ b) (hG : ∀ c o', G = some ⟨c, o', none⟩ → c ≠ b) : WldAt (W.setCells b o vs) A cap G gcap X := by
  refine ⟨fun j hj => ?_, fun j hj => ?_⟩
  · obtain ⟨c, off, e, hr⟩ := h.rows j hj
    exact ⟨c, off, e, rowAt_others (hA c off e) hr⟩
  · obtain ⟨c, off, e, hr⟩ := h.gens j hj
    exact ⟨c, off, e, (setcs_other (hG c off e)).trans hr⟩
theorem WldNew.sets {B : Nat} {W : World} {A : Option Addr} {cap : Nat} {G : Option Addr} {gcap : Nat} {X : Wd} {b o : Nat} {vs : List Value} (h : WldNew B W A cap G gcap X) (hb : b < B) : WldNew B (W.setCells b o vs) A cap G gcap X :=
  ⟨h.toWldAt.sets (fun c o' e => by have := h.fa c o' e; omega) (fun c o' e => by have := h.fg c o' e; omega), h.fa, h.fg⟩
theorem WldNew.mono {B B' : Nat} {W : World} {A : Option Addr} {cap : Nat} {G : Option Addr} {gcap : Nat} {X : Wd} (h : WldNew B W A cap G gcap X) (hb : B' ≤ B) : WldNew B' W A cap G gcap X :=
  ⟨h.toWldAt, fun c o e => Nat.le_trans hb (h.fa c o e), fun c o e => Nat.le_trans hb (h.fg c o e)⟩
set_option maxRecDepth 8000 in
set_option maxHeartbeats 1000000 in
theorem put_any (A : Option Addr) (cap : Nat) (G : Option Addr) (gcap : Nat) (X : Wd) (i g p n : Int) (w : World) (hn0 : X.rows.length ≤ 9223372036854775807) (hX : WldAt w A cap G gcap X) :
    Calls Try.prog 114 #[wldV A cap G gcap X, beingV i g, .int .i64 p, .int .i64 n] w fun e w' => ∃ A' c' G' gc', e = .returned (.tuple #[wldV A' c' G' gc' (putF X i g p n).2, .int .i64 (putF X i g p n).1]) ∧ WldNew w.heap.size w' A' c' G' gc' (putF X i g p n).2 ∧ Below w.heap.size w w' := by
  obtain ⟨W1, hW1⟩ : ∃ W, W = (((w.alloc (.cells #[.slice A X.rows.length cap, .slice G X.gens.length gcap] 40)).alloc (.cells #[.int .i64 i, .int .i64 g] 50)).alloc (.cells #[.int .i64 p] 3)).alloc (.cells #[.int .i64 n] 3) := ⟨_, rfl⟩
  have z1 : W1.heap.size = w.heap.size + 4 := by rw [hW1]; simp
  have b1 : Below w.heap.size w W1 := by rw [hW1]; go_grown
  have p1 : W1.cell? ⟨w.heap.size + 2, 0, none⟩ = some (.int .i64 p) := by rw [hW1]; simp [go_sem]
  have n1 : W1.cell? ⟨w.heap.size + 3, 0, none⟩ = some (.int .i64 n) := by rw [hW1]; simp [go_sem]
  obtain ⟨y0, y1, yf, yb⟩ := new_box (W := W1) (u0 := .slice none 0 0) (u1 := .slice none 0 0) (t := 40) z1
  have hAB : AB w (w.heap.size + 4) (.slice none 0 0) (.slice none 0 0) (W1.alloc (.cells #[.slice none 0 0, .slice none 0 0] 40)) := ⟨b1.trans (yb.mono b1.size), by omega, y0, y1, yf⟩
  have hC := change_put A cap G gcap X i g (fun x => putC x p n) (w.heap.size + 2) (w.heap.size + 3) (W1.alloc (.cells #[.slice none 0 0, .slice none 0 0] 40)) hn0 (hX.below hAB.bel) (putC_ok p n)
    (fun W hW x => put1_any x p n (w.heap.size + 2) (w.heap.size + 3) W (keep_below hW (keep_below yb p1)) (keep_below hW (keep_below yb n1)))
  have e : chF X i g (fun x => putC x p n) = putF X i g p n := rfl
  rw [e] at hC
  rw [hW1] at hC hAB
  have HZ := hide (show w.heap.size + 4 < (W1.alloc (.cells #[.slice none 0 0, .slice none 0 0] 40)).heap.size by simp; omega)
  rw [hW1] at HZ
  have HC := hide hC
  have HAB := hide hAB
  clear hC hAB e hW1 z1 b1 p1 n1 y0 y1 yf yb hX
  generalize putF X i g p n = z at *
  obtain ⟨er, Z⟩ := z
  dsimp only at *
  unfold wldV worldV beingV at *
  go_enter Try.func114, Try.ntmps114
  go_wp2_with (first
    | (go_at_call 123; refine (unhide HC).mono ?_; rintro e w5 ⟨A', c', G', gc', rfl, hN, hb5⟩; have HN := hide hN; have HA5 := hide ((unhide HAB).below hb5); clear hN hb5)
    | (refine wpList_putN rfl 40 (.tmp 8) (.tmp 14) rfl (w.heap.size + 4) 0 [.slice A' Z.rows.length c', .slice G' Z.gens.length gc'] rfl rfl (by simp [Value.oneCell']) size38 (unhide HA5).there ?_; intro W3 hW3; have hA6 := (unhide HA5).give (.slice A' Z.rows.length c') (.slice G' Z.gens.length gc'); rw [← hW3] at hA6; have HA6 := hide hA6; have HW3 := hide hW3; clear hW3 hA6))
  have t0 := (unhide HA6).t0
  have t1 := (unhide HA6).t1
  refine bodyPost_ret (v := .tuple #[.agg #[.slice A' Z.rows.length c', .slice G' Z.gens.length gc'], .int .i64 er]) (by simp [results, Try.results114, go_sem, t0, t1]) rfl ⟨A', c', G', gc', rfl, ?_, (unhide HA6).bel⟩
  rw [unhide HW3]
  exact ((unhide HN).sets (unhide HZ)).mono (by have := unhide HZ; omega)
set_option maxRecDepth 8000 in
set_option maxHeartbeats 1000000 in
theorem drop_any (A : Option Addr) (cap : Nat) (G : Option Addr) (gcap : Nat) (X : Wd) (i g p : Int) (w : World) (hn0 : X.rows.length ≤ 9223372036854775807) (hX : WldAt w A cap G gcap X) :
    Calls Try.prog 125 #[wldV A cap G gcap X, beingV i g, .int .i64 p] w fun e w' => ∃ A' c' G' gc', e = .returned (.tuple #[wldV A' c' G' gc' (dropF X i g p).2, .int .i64 (dropF X i g p).1]) ∧ WldNew w.heap.size w' A' c' G' gc' (dropF X i g p).2 ∧ Below w.heap.size w w' := by
  obtain ⟨W1, hW1⟩ : ∃ W, W = ((w.alloc (.cells #[.slice A X.rows.length cap, .slice G X.gens.length gcap] 40)).alloc (.cells #[.int .i64 i, .int .i64 g] 50)).alloc (.cells #[.int .i64 p] 3) := ⟨_, rfl⟩
  have z1 : W1.heap.size = w.heap.size + 3 := by rw [hW1]; simp
  have b1 : Below w.heap.size w W1 := by rw [hW1]; go_grown
  have p1 : W1.cell? ⟨w.heap.size + 2, 0, none⟩ = some (.int .i64 p) := by rw [hW1]; simp [go_sem]
  obtain ⟨y0, y1, yf, yb⟩ := new_box (W := W1) (u0 := .slice none 0 0) (u1 := .slice none 0 0) (t := 40) z1
  have hAB : AB w (w.heap.size + 3) (.slice none 0 0) (.slice none 0 0) (W1.alloc (.cells #[.slice none 0 0, .slice none 0 0] 40)) := ⟨b1.trans (yb.mono b1.size), by omega, y0, y1, yf⟩
  have hC := change_drop A cap G gcap X i g (fun x => dropC x p) (w.heap.size + 2) (W1.alloc (.cells #[.slice none 0 0, .slice none 0 0] 40)) hn0 (hX.below hAB.bel) (dropC_ok p)
    (fun W hW x => drop1_any x p (w.heap.size + 2) W (keep_below hW (keep_below yb p1)))
  have e : chF X i g (fun x => dropC x p) = dropF X i g p := rfl
  rw [e] at hC
  rw [hW1] at hC hAB
  have HZ := hide (show w.heap.size + 3 < (W1.alloc (.cells #[.slice none 0 0, .slice none 0 0] 40)).heap.size by simp; omega)
  rw [hW1] at HZ
  have HC := hide hC
  have HAB := hide hAB
  clear hC hAB e hW1 z1 b1 p1 y0 y1 yf yb hX
  generalize dropF X i g p = z at *
  obtain ⟨er, Z⟩ := z
  dsimp only at *
  unfold wldV worldV beingV at *
  go_enter Try.func125, Try.ntmps125
  go_wp2_with (first
    | (go_at_call 123; refine (unhide HC).mono ?_; rintro e w5 ⟨A', c', G', gc', rfl, hN, hb5⟩; have HN := hide hN; have HA5 := hide ((unhide HAB).below hb5); clear hN hb5)
    | (refine wpList_putN rfl 40 (.tmp 6) (.tmp 12) rfl (w.heap.size + 3) 0 [.slice A' Z.rows.length c', .slice G' Z.gens.length gc'] rfl rfl (by simp [Value.oneCell']) size38 (unhide HA5).there ?_; intro W3 hW3; have hA6 := (unhide HA5).give (.slice A' Z.rows.length c') (.slice G' Z.gens.length gc'); rw [← hW3] at hA6; have HA6 := hide hA6; have HW3 := hide hW3; clear hW3 hA6))
  have t0 := (unhide HA6).t0
  have t1 := (unhide HA6).t1
  refine bodyPost_ret (v := .tuple #[.agg #[.slice A' Z.rows.length c', .slice G' Z.gens.length gc'], .int .i64 er]) (by simp [results, Try.results125, go_sem, t0, t1]) rfl ⟨A', c', G', gc', rfl, ?_, (unhide HA6).bel⟩
  rw [unhide HW3]
  exact ((unhide HN).sets (unhide HZ)).mono (by have := unhide HZ; omega)
end Go.Proofs.Ytnbleebilmghcab
namespace Go.Proofs.Ytnbleebilmghcab
open Go Go.RowKit
attribute [local go_sem ↓] Go.wp_at_zero Go.wp_at_succ
theorem zero61 (w : World) : (zeroValue 53).run Try.prog w = .ok (.agg (rowCells dR).toArray) w := by kernel_rfl
set_option maxRecDepth 100000 in
theorem run_clear1 (w : World) (ty : TypeId) (b o c : Nat) (ht : w.there b o 11) : (Builtin.clear_ #[37] ty #[.slice (some ⟨b, o, none⟩) 1 c]).run Try.prog w = .ok (.tuple #[]) (w.setCells b o (rowCells dR)) := by
  have hs := run_storeCells_cells (P := Try.prog) b o (rowCells dR) 0 w (fun j hj => by simpa using (ht j (by simpa [rowCells_len] using hj)).1) (fun j hj => by simpa using (ht j (by simpa [rowCells_len] using hj)).2) (rowCells_one dR)
  simp only [Nat.add_zero] at hs
  have hz : (Builtin.zeroCells (Value.agg #[.int .i64 0, .int .i64 0, .int .i64 0, .int .i64 0, .int .i64 0, .int .i64 0, .int .i64 0, .int .i64 0, .int .i64 0, .int .i64 0, .int .i64 0]).cells 1).toList = rowCells dR := by kernel_rfl
  have h0 := zero61
  unfold rowCells dR at h0
  simp [Builtin.clear_, run_underlying Try.underlying37, h0]
  rw [hz, hs]
  rfl
theorem wpList_clear1 {ops : Array Oper} {rest : List Oper} {op : Oper} {a : Act} {w : World} {Q : Exit → Act → World → Prop} (hgd : op.guard = none) (x : Operand) (ho : op.op = .call { callee := .builtin .clear, args := #[x], argTypes := #[37] })
    (b o c : Nat) (hx : a.eval x = .slice (some ⟨b, o, none⟩) 1 c) (ht : w.there b o 11)
    (h : ∀ W1, W1 = w.setCells b o (rowCells dR) → wpList Try.prog ops Q rest (a.put op.dst (.tuple #[])) W1) : wpList Try.prog ops Q (op :: rest) a w :=
  wpList_plain hgd fun _ hK => by
    unfold Oper.wp execOp
    simp only [ho, resolve, invoke, builtin, Sem.run_bind, Sem.run_pure, Result.andThen_ok, List.map_toArray, List.map_cons, List.map_nil, hx, run_clear1 w op.type b o c ht]
    exact hK _ _ (h _ rfl)
theorem cells_app (a b : List RowI) : cellsOfRows (a ++ b) = cellsOfRows a ++ cellsOfRows b := by unfold cellsOfRows; rw [List.flatMap_append]
theorem setsL_eq : ∀ (vs xs : List Value) (o : Nat), o + vs.length ≤ xs.length → setsL xs o vs = xs.take o ++ vs ++ xs.drop (o + vs.length)
  | vs, xs, o, h => by
    apply List.ext_getElem?
    intro i
    rw [setsL_get]
    by_cases h1 : o ≤ i ∧ i < o + vs.length ∧ i < xs.length
    · rw [if_pos h1, List.append_assoc, List.getElem?_append_right (by rw [List.length_take]; omega), List.length_take, show i - min o xs.length = i - o by omega, List.getElem?_append_left (by omega)]
    · rw [if_neg h1, List.append_assoc]
      by_cases h2 : i < o
      · rw [List.getElem?_append_left (by rw [List.length_take]; omega), List.getElem?_take, if_pos h2]
      · rw [List.getElem?_append_right (by rw [List.length_take]; omega), List.length_take, show i - min o xs.length = i - o by omega, List.getElem?_append_right (by omega), List.getElem?_drop]
        congr 1; omega
theorem take_setsL (vs xs : List Value) (o : Nat) (h : o + vs.length ≤ xs.length) : (setsL xs o vs).take o = xs.take o := by
  rw [setsL_eq vs xs o h, List.append_assoc, List.take_append_of_le_length (by rw [List.length_take]; omega), List.take_take, Nat.min_self]
theorem cells_take (rows : List RowI) (k : Nat) : (cellsOfRows rows).take (k * 11) = cellsOfRows (rows.take k) := by
  by_cases h : k ≤ rows.length
  · have e : rows = rows.take k ++ rows.drop k := (List.take_append_drop k rows).symm
    have hl : (cellsOfRows (rows.take k)).length = k * 11 := by rw [cellsOfRows_len, List.length_take]; congr 1; omega
    conv => lhs; rw [e, cells_app]
    rw [List.take_append_of_le_length (by omega), List.take_of_length_le (by omega)]
  · rw [List.take_of_length_le (by rw [cellsOfRows_len]; omega), List.take_of_length_le (by omega)]
theorem del_cells (rows : List RowI) (k : Nat) (h : k < rows.length) : (setsL (cellsOfRows rows) (k * 11) (cellsOfRows (rows.drop (k + 1)))).take ((rows.length - 1) * 11) = cellsOfRows (rows.eraseIdx k) := by
  have hl : (cellsOfRows (rows.drop (k + 1))).length = (rows.length - (k + 1)) * 11 := by rw [cellsOfRows_len, List.length_drop]
  rw [setsL_eq _ _ _ (by rw [hl, cellsOfRows_len]; omega), cells_take, List.eraseIdx_eq_take_drop_succ, cells_app]
  have hl2 : (cellsOfRows (rows.take k) ++ cellsOfRows (rows.drop (k + 1))).length = (rows.length - 1) * 11 := by
    rw [List.length_append, hl, cellsOfRows_len, List.length_take]; omega
  rw [← hl2]
  exact List.take_left
theorem own_short {W : World} {B : Nat} {e : TypeId} {size n g cap : Nat} {xs : List Value} (h : W.ownsRow B e size (.slice (some ⟨g, 0, none⟩) n cap) n xs) (m : Nat) (hm : m ≤ n) : W.ownsRow B e size (.slice (some ⟨g, 0, none⟩) m cap) m (xs.take (m * size)) := by
  obtain ⟨cur, h1, h2, h3, h4, h5⟩ := own_row h
  have hlo := (h.lt g rfl).1
  have hle : m * size ≤ n * size := Nat.mul_le_mul_right _ hm
  refine ⟨by rw [List.length_take, h.1]; omega, .inr ⟨g, cap, cur, rfl, hlo, h1, by omega, h3, h4, ?_⟩⟩
  rw [← h5, List.take_take, Nat.min_eq_left hle]
theorem own_drew {W : World} {B : Nat} {e : TypeId} {size n : Nat} {v : Value} {xs : List Value} (h : W.ownsRow B e size v n xs) : W.drew.ownsRow B e size v n xs := h
theorem grown_sets {w : World} {b o : Nat} : ∀ (vs : List Value) (o : Nat) (W : World), w.grownBy W (some b) → w.grownBy (W.setCells b o vs) (some b)
  | [], _, _, h => h
  | u :: r, o, W, h => grown_sets (b := b) (o := o) r (o + 1) _ ⟨h.os, h.tape, h.output, by rw [World.size_setCell]; exact h.size, fun k hk hne => by
      rw [Below.heap_setCell W ⟨b, o, none⟩ u k (fun e => hne (by rw [e]))]; exact h.block k hk hne⟩
set_option maxRecDepth 1000000 in
set_option maxHeartbeats 2000000 in
theorem delete_any (B g cap k : Nat) (rows : List RowI) (w : World) (hk : k < rows.length) (ho : w.ownsRow B 53 11 (.slice (some ⟨g, 0, none⟩) rows.length cap) rows.length (cellsOfRows rows)) :
    Calls Try.prog 131 #[.slice (some ⟨g, 0, none⟩) rows.length cap, .int .i64 (k : Int), .int .i64 ((k : Int) + 1)] w fun e w' => e = .returned (.slice (some ⟨g, 0, none⟩) (rows.length - 1) cap) ∧ w'.ownsRow B 53 11 (.slice (some ⟨g, 0, none⟩) (rows.length - 1) cap) (rows.length - 1) (cellsOfRows (rows.eraseIdx k)) ∧ w.grownBy w' (some g) := by
  obtain ⟨i61, hi61, hz61, hs61, hb61⟩ := info_parts info61
  obtain ⟨cur, c1, c2, c3, c4, c5⟩ := own_row ho
  have hdl : (cellsOfRows (rows.drop (k + 1))).length = (rows.length - (k + 1)) * 11 := by rw [cellsOfRows_len, List.length_drop]
  obtain ⟨A, hA, hnews⟩ : ∃ A : Addr, (if cap = k + 1 then some (⟨g, 0, none⟩ : Addr) else some ⟨g, (k + 1) * 11, none⟩) = some A ∧ Hid (∀ j u, (cellsOfRows (rows.drop (k + 1)))[j]? = some u → w.drew.cell? (A.add j) = some u) := by
    by_cases h : cap = k + 1
    · refine ⟨⟨g, 0, none⟩, by simp [h], fun j u hu => ?_⟩
      rw [List.getElem?_eq_none (by rw [hdl]; omega)] at hu
      cases hu
    · refine ⟨⟨g, (k + 1) * 11, none⟩, by simp [h], fun j u hu => ?_⟩
      rw [add_off]
      refine own_cell (own_drew ho) ?_
      have hj : j < (cellsOfRows (rows.drop (k + 1))).length := by
        by_cases hh : j < (cellsOfRows (rows.drop (k + 1))).length
        · exact hh
        · rw [List.getElem?_eq_none (by omega)] at hu; cases hu
      have e : rows = rows.take (k + 1) ++ rows.drop (k + 1) := (List.take_append_drop _ rows).symm
      have hl : (cellsOfRows (rows.take (k + 1))).length = (k + 1) * 11 := by rw [cellsOfRows_len, List.length_take]; congr 1; omega
      rw [← hu]
      conv => lhs; rw [e, cells_app]
      rw [List.getElem?_append_right (by omega), hl]
      congr 1; omega
  have s1 : Hid ((cellsOfRows (rows.drop (k + 1))).length = (rows.length - (k + 1)) * 11) := hdl
  have s2 : Hid (∀ u ∈ cellsOfRows (rows.drop (k + 1)), u.oneCell' = true) := cellsOfRows_one _
  have s3 : Hid (∀ j, j < (cellsOfRows (rows.drop (k + 1))).length → (w.drew.cell? ⟨g, 0 + k * 11 + j, none⟩).isSome = true ∧ w.drew.frozen? ⟨g, 0 + k * 11 + j, none⟩ = false) := by
    intro j hj
    rw [hdl] at hj
    have := own_there (own_drew ho) (k * 11) ((rows.length - (k + 1)) * 11) (by rw [cellsOfRows_len]; omega) j hj
    rw [Nat.zero_add]
    exact this
  have HO := hide ho
  have HD := hide (del_cells rows k hk)
  have HDL := hide hdl
  have HLL := hide (cellsOfRows_len rows)
  unfold maxLen at c3
  clear ho hdl c1 c4 c5 cur
  generalize cellsOfRows (rows.drop (k + 1)) = mv at *
  obtain ⟨m, hm⟩ : ∃ m, rows.length = m + 1 := ⟨rows.length - 1, by omega⟩
  rw [hm] at HO HD HLL s1 hk c2 HDL ⊢
  simp only [Nat.add_sub_cancel] at HD ⊢
  rw [show m + 1 - (k + 1) = m - k by omega] at s1 HDL
  clear hm
  have q0 : (0 : Int) ≤ (k : Int) := by omega
  have q1 : (k : Int) ≤ (k : Int) + 1 := by omega
  have q2 : (k : Int) + 1 ≤ ((m + 1 : Nat) : Int) := by omega
  have q3 : ((k : Int) + 1).toNat = k + 1 := by omega
  have q4 : ((m + 1 : Nat) : Int) ≤ (cap : Int) := by omega
  have q5 : k ≤ cap := by omega
  have q6 : ¬ ((k : Int) = (k : Int) + 1) := by omega
  have q7 : k + (m - k) = m := by omega
  have q8 : (0 : Int) ≤ (k : Int) + 1 := by omega
  have q9 : (k : Int) + 1 ≤ (m : Int) + 1 := by omega
  have q10 : (k : Int) ≤ (m : Int) := by omega
  have q11 : k ≤ m := by omega
  go_enter Try.func131, Try.ntmps131
  go_wp2_with fail
  go_region_law (refine step_append_room rfl (.tmp 22) (.tmp 25) 37 rfl 53 i61 11 Try.underlying37 hi61 hs61 g 0 k cap (by simp [Act.eval, Act.put]) A (m - k) (cap - (k + 1)) mv (by simp [Act.eval, Act.put]) s1.out hnews.out s2.out (by omega) s3.out ?_)
  obtain ⟨W1, hW1⟩ : ∃ W, W = w.drew.setCells g (k * 11) mv := ⟨_, rfl⟩
  have ho1 : W1.ownsRow B 53 11 (.slice (some ⟨g, 0, none⟩) (m + 1) cap) (m + 1) (setsL (cellsOfRows rows) (k * 11) mv) := by
    rw [hW1]; exact own_sets mv (k * 11) _ _ (own_drew (unhide HO)) (by rw [unhide HDL, unhide HLL]; omega)
  have hg1 : w.grownBy W1 (some g) := by
    rw [hW1]; exact grown_sets (b := g) (o := 0) mv (k * 11) _ ⟨rfl, rfl, rfl, Nat.le_refl _, fun _ _ _ => rfl⟩
  rw [← hW1]
  have HL1 : Hid ((setsL (cellsOfRows rows) (k * 11) mv).length = (m + 1) * 11) := by rw [setsL_len]; exact unhide HLL
  have HO1 := hide ho1
  have HG1 := hide hg1
  clear ho1 hg1 hW1 HO s1 s2 s3 hnews hA HDL HLL
  have q12 : (m : Int) + 1 ≤ (cap : Int) := by omega
  have q13 : ¬ cap = m := by omega
  have q14 : m ≤ cap := by omega
  go_wp2_with (first
    | (refine wpList_clear1 rfl (.tmp 31) rfl g (m * 11) (cap - m) rfl (own_there (unhide HO1) (m * 11) 11 (by rw [unhide HL1]; omega)) ?_; intro W2 hW2; have HW2 := hide hW2; clear hW2))
  go_ret
  refine ⟨rfl, ?_, ?_⟩
  · have h2 := own_sets (rowCells dR) (m * 11) _ _ (unhide HO1) (by rw [unhide HL1, rowCells_len]; omega)
    rw [← unhide HW2] at h2
    have h3 := own_short h2 m (by omega)
    rw [take_setsL _ _ _ (by rw [unhide HL1, rowCells_len]; omega), unhide HD] at h3
    exact h3
  · rw [unhide HW2]
    exact grown_sets (b := g) (o := 0) (rowCells dR) (m * 11) _ (unhide HG1)
end Go.Proofs.Ytnbleebilmghcab
