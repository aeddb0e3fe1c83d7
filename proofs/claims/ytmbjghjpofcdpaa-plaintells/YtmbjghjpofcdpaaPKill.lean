/- plain.change as Kill asks it; plain.Kill. -/
import Derived.Test.YtmbjghjpofcdpaaPDel
set_option linter.unusedVariables false
set_option linter.unusedSimpArgs false
set_option linter.unnecessarySimpa false
namespace Go.Proofs.Ytmbjghjpofcdpaa
open Go Go.RowKit
attribute [local go_sem ↓] Go.wp_at_zero Go.wp_at_succ

/-- What comes of Kill. -/
def killF (X : Wd) (i g : Int) : Int × Wd :=
  if (wrongW X).1 ≠ 0 then ((wrongW X).1, emptyW) else if findW X i g < 0 then (5, emptyW) else (0, ⟨X.rows.eraseIdx (findW X i g).toNat, X.gens⟩)
theorem size36 : (Try.prog.info? 36).map (·.size) = some 1 := by kernel_rfl
theorem grown_cell {w w' : World} {g : Nat} {p : Addr} {u : Value} (h : w.grownBy w' (some g)) (hc : w.cell? p = some u) (hp : p.block ≠ g) : w'.cell? p = some u := h.cell hc (by simpa using hp)
theorem grown_froz {w w' : World} {g b : Nat} (h : w.grownBy w' (some g)) (hb : b < w.heap.size) (hp : b ≠ g) (i : Nat) : w'.frozen? ⟨b, i, none⟩ = w.frozen? ⟨b, i, none⟩ := World.frozen?_of_block (h.block b hb (by simpa using hp))
/-- The box of the copy: two slices, the first one stored anew. -/
structure B13 (b : Nat) (u0 u1 : Value) (W : World) : Prop where
  e0 : W.cell? ⟨b, 0, none⟩ = some u0
  e1 : W.cell? ⟨b, 1, none⟩ = some u1
  f : ∀ i, W.frozen? ⟨b, i, none⟩ = false
theorem B13.start (w : World) (u0 u1 : Value) : B13 w.heap.size u0 u1 (w.alloc (.cells #[u0, u1] 38)) := ⟨by simp, by simp, fun i => by simp [go_sem]⟩
theorem B13.grown {b g : Nat} {u0 u1 : Value} {W W1 : World} (h : B13 b u0 u1 W) (hg : W.grownBy W1 (some g)) (hb : b ≠ g) : B13 b u0 u1 W1 :=
  ⟨grown_cell hg h.e0 hb, grown_cell hg h.e1 hb, fun i => (grown_froz hg (World.block_lt_of_cell? W ⟨b, 0, none⟩ h.e0) hb i).trans (h.f i)⟩
theorem B13.set0 {b : Nat} {u0 u1 : Value} {W : World} (h : B13 b u0 u1 W) (v : Value) : B13 b v u1 (W.setCell ⟨b, 0, none⟩ v) :=
  ⟨setc_same h.e0, setc_other (addr_ne (by omega)) h.e1, fun i => by simpa using h.f i⟩
theorem cw_grown {w W W1 : World} {u0 u1 y0 y1 : Value} {i g : Int} {g5 B : Nat} (h : CW w u0 u1 i g y0 y1 W) (hg : W.grownBy W1 (some g5)) (h5 : B ≤ g5) (hB : w.heap.size + 3 ≤ B) : CW w u0 u1 i g y0 y1 W1 :=
  h.keep ((Below.refl _ _).grown hg h.sz (fun k hk => by cases hk; omega))
theorem cw_set {w W W1 : World} {u0 u1 y0 y1 : Value} {i g : Int} {b o : Nat} {v : Value} (h : CW w u0 u1 i g y0 y1 W) (h1 : W1 = W.setCell ⟨b, o, none⟩ v) (hb : w.heap.size + 3 ≤ b) : CW w u0 u1 i g y0 y1 W1 := by
  subst h1
  exact h.keep ((Below.refl _ _).setCell (p := ⟨b, o, none⟩) hb v)

set_option maxRecDepth 8000 in
set_option maxHeartbeats 4000000 in
theorem change_kill (A : Option Addr) (cap : Nat) (G : Option Addr) (gcap : Nat) (X : Wd) (i g : Int) (w : World) (hn0 : X.rows.length ≤ 9223372036854775807) (hX : WldAt w A cap G gcap X) :
    Calls Try.prog 87 #[wldV A cap G gcap X, beingV i g, .func (.func 88) #[] #[]] w fun e w' => ∃ A' c' G' gc', e = .returned (.tuple #[wldV A' c' G' gc' (killF X i g).2, .int .i64 (killF X i g).1]) ∧ WldNew w.heap.size w' A' c' G' gc' (killF X i g).2 ∧ Below w.heap.size w w' := by
  have hCW := CW.start w (.slice A X.rows.length cap) (.slice G X.gens.length gcap) i g
  have hP := fun W (hb : Below w.heap.size w W) => pwrong_any A X.rows.length cap G X.gens.length gcap (fun j => X.rows.getD j dR) (fun j => X.gens.getD j 0) W (by omega) (hX.rows.below hb) (hX.gens.below hb)
  have eW : plainF (fun j => X.rows.getD j dR) X.rows.length X.gens.length (fun j => X.gens.getD j 0) = wrongW X := rfl
  rw [eW] at hP
  unfold faultP worldV at hP
  have hF := fun W (hb : Below w.heap.size w W) => find_any A X.rows.length cap (fun j => X.rows.getD j dR) i g W (by omega) (hX.rows.below hb)
  have eF : fIx (fun j => X.rows.getD j dR) i g X.rows.length 0 = findW X i g := rfl
  rw [eF] at hF
  unfold beingV at hF
  have HP := hide hP
  have HF := hide hF
  have HX := hide hX
  have HCW := hide hCW
  clear hP hF hCW eW eF hX
  unfold killF
  unfold wldV worldV beingV
  by_cases hw0 : (wrongW X).1 = 0
  · rw [if_neg (by simpa using hw0)]
    obtain ⟨hn, hgn⟩ := right_fit hw0
    rw [hw0] at HP
    generalize (wrongW X).2 = wa at *
    rcases fIx_spec (fun j => X.rows.getD j dR) i g X.rows.length 0 with hf | ⟨k, _, hk, hf, hi⟩
    · have hf' : findW X i g = -1 := hf
      rw [hf'] at HF ⊢
      rw [if_pos (by decide)]
      unfold emptyW
      clear hf hf' hw0
      go_enter Try.func87, Try.ntmps87
      go_wp2_with (first
        | (go_at_call 34; refine (unhide HP _ (unhide HCW).bel).mono ?_; rintro e w5 ⟨rfl, hb5⟩; have hC5 := (unhide HCW).below hb5; have hC6 := hC5.below ((Below.refl _ _).alloc (Nat.le_refl _) (.cells #[.int .i64 0, .int .i64 wa] 43)); have r0 := hC6.r0; have r1 := hC6.r1; have s0 := hC6.s0; have s1 := hC6.s1; have HC6 := hide hC6; clear hb5 hC5 hC6)
        | (go_at_call 91; refine (unhide HF _ (unhide HC6).bel).mono ?_; rintro e w7 ⟨rfl, hb7⟩; have hC7 := (unhide HC6).below hb7; have HC7 := hide hC7; clear hb7 hC7 r0 r1 s0 s1)
        | (refine wpList_putN rfl 38 (.tmp 6) (.tmp 28) rfl (w.heap.size + 2) 0 [.slice none 0 0, .slice none 0 0] rfl rfl (by simp [Value.oneCell']) size38 (unhide HC7).there ?_; intro W3 hW3; have hC8 := (unhide HC7).give (.slice none 0 0) (.slice none 0 0); rw [← hW3] at hC8; have HC8 := hide hC8; clear hW3 hC8))
      have t0 := (unhide HC8).t0
      have t1 := (unhide HC8).t1
      refine bodyPost_ret (v := .tuple #[.agg #[.slice none 0 0, .slice none 0 0], .int .i64 5]) (by simp [results, Try.results87, go_sem, t0, t1]) rfl ⟨none, 0, none, 0, rfl, wldNew_empty _ _, (unhide HC8).bel⟩
    · have hf' : findW X i g = (k : Int) := hf
      have hkn : k < X.rows.length := by omega
      rw [hf'] at HF ⊢
      rw [if_neg (by omega : ¬ (k : Int) < 0), Int.toNat_natCast]
      have kk0 : (0 : Int) ≤ (k : Int) := by omega
      have kk1 : (k : Int) < (X.rows.length : Int) := by omega
      have kk2 : ¬ (k : Int) < 0 := by omega
      obtain ⟨b, off, hA, hrow⟩ := (unhide HX).rows k hkn
      subst hA
      have hrow : RowAt w b (off + k * 11) (X.rows.getD k dR) := hrow
      have HROW := hide hrow
      have HCX := hide (fun W (hW : Below w.heap.size w W) => kill1_any (X.rows.getD k dR) W)
      have HOWN := hide (fun W (hb : Below w.heap.size w W) => own_some k (some ⟨b, off, none⟩) cap X.rows G gcap X.gens W hkn hn hgn ((unhide HX).rows.below hb) ((unhide HX).gens.below hb))
      have HDEL := hide (fun (B g5 c5 : Nat) (W : World) (h : W.ownsRow B 61 11 (.slice (some ⟨g5, 0, none⟩) X.rows.length c5) X.rows.length (cellsOfRows X.rows)) => delete_any B g5 c5 k X.rows W hkn h)
      have hlen : (X.rows.eraseIdx k).length = X.rows.length - 1 := List.length_eraseIdx_of_lt hkn
      have HLEN := hide hlen
      clear hrow hf hf' hi hw0 HX hlen
      generalize X.rows.getD k dR = x at *
      unfold worldV at HOWN
      unfold rowV dR at HCX
      go_enter Try.func87, Try.ntmps87
      go_wp2_with (first
        | (go_at_call 34; refine (unhide HP _ (unhide HCW).bel).mono ?_; rintro e w5 ⟨rfl, hb5⟩; have hC5 := (unhide HCW).below hb5; have hC6 := hC5.below ((Below.refl _ _).alloc (Nat.le_refl _) (.cells #[.int .i64 0, .int .i64 wa] 43)); have r0 := hC6.r0; have r1 := hC6.r1; have s0 := hC6.s0; have s1 := hC6.s1; have HC6 := hide hC6; clear hb5 hC5 hC6)
        | (go_at_call 91; refine (unhide HF _ (unhide HC6).bel).mono ?_; rintro e w7 ⟨rfl, hb7⟩; have hC7 := (unhide HC6).below hb7; have hr7 := (unhide HROW).below hC7.bel; clear r0 r1 s0 s1; have r0 := hC7.r0; have r1 := hC7.r1; have c0 := hr7.c0; have c1 := hr7.c1; have c2 := hr7.c2; have c3 := hr7.v 0 (by omega); have c4 := hr7.v 1 (by omega); have c5 := hr7.v 2 (by omega); have c6 := hr7.v 3 (by omega); have c7 := hr7.v 4 (by omega); have c8 := hr7.v 5 (by omega); have c9 := hr7.v 6 (by omega); have c10 := hr7.v 7 (by omega); simp only [Nat.add_assoc, Nat.reduceAdd] at c3 c4 c5 c6 c7 c8 c9 c10; simp only [← Nat.add_assoc] at c3 c4 c5 c6 c7 c8 c9 c10; have HC7 := hide hC7; clear hb7 hC7 hr7)
        | (go_at_call 88; refine (unhide HCX _ (unhide HC7).bel).mono ?_; rintro e w9 ⟨rfl, hb9⟩; have hC9 := (unhide HC7).below hb9; have hC10 := hC9.below ((Below.refl _ _).alloc (Nat.le_refl _) (.cells #[.int .i64 0, .int .i64 0, .int .i64 0, .int .i64 0, .int .i64 0, .int .i64 0, .int .i64 0, .int .i64 0, .int .i64 0, .int .i64 0, .int .i64 0] 61)); clear r0 r1 c0 c1 c2 c3 c4 c5 c6 c7 c8 c9 c10; have r0 := hC10.r0; have r1 := hC10.r1; have HC10 := hide hC10; clear hb9 hC9 hC10)
        | (go_at_call 37; refine (unhide HOWN _ (unhide HC10).bel).mono ?_; rintro e w11 ⟨B, g5, c5, A8, c8, hB, rfl, ho5, ho8, hb11⟩; have hB3 := Nat.le_trans (unhide HC10).sz hB; clear hB; clear r0 r1; have HO5 := hide ho5; have HO8 := hide ho8; have hs11 := Nat.le_trans (unhide HC10).sz hb11.size; have HC12 := hide (((unhide HC10).below hb11).below ((Below.refl _ _).alloc (Nat.le_refl _) (.cells #[.slice (some ⟨g5, 0, none⟩) X.rows.length c5, .slice A8 X.gens.length c8] 38))); clear ho5 ho8 hb11)
        | (go_at_call 117; refine (unhide HDEL B g5 c5 _ ((unhide HO5).alloc _)).mono ?_; rintro e w15 ⟨rfl, ho15, hg15⟩; have hb13 := (B13.start w11 (.slice (some ⟨g5, 0, none⟩) X.rows.length c5) (.slice A8 X.gens.length c8)).grown hg15 (Nat.ne_of_gt ((unhide HO5).lt g5 rfl).2); have HB13 := hide hb13; have HO15 := hide ho15; have HG15 := hide hg15; clear hb13 ho15 hg15)
        | (refine wpList_put1 rfl 36 (.tmp 54) (.tmp 53) rfl w11.heap.size 0 (.slice (some ⟨g5, 0, none⟩) (X.rows.length - 1) c5) rfl rfl rfl size36 (there_of (unhide HB13).e0 (unhide HB13).f) ?_; intro W16 hW16; have hb16 := (unhide HB13).set0 (.slice (some ⟨g5, 0, none⟩) (X.rows.length - 1) c5); rw [← hW16] at hb16; have e0 := hb16.e0; have e1 := hb16.e1; have HW16 := hide hW16; clear hb16 hW16)
        | (refine wpList_putN rfl 38 (.tmp 6) (.tmp 55) rfl (w.heap.size + 2) 0 [.slice (some ⟨g5, 0, none⟩) (X.rows.length - 1) c5, .slice A8 X.gens.length c8] rfl rfl (by simp [Value.oneCell']) size38 (cw_set (cw_grown (unhide HC12) (unhide HG15) ((unhide HO5).lt g5 rfl).1 hB3) (unhide HW16) hs11).there ?_; intro W17 hW17; have HW17 := hide hW17; clear hW17))
      have hlo := (unhide HO5).lt g5 rfl
      have hC17 := (cw_set (cw_grown (unhide HC12) (unhide HG15) hlo.1 hB3) (unhide HW16) hs11).give (.slice (some ⟨g5, 0, none⟩) (X.rows.length - 1) c5) (.slice A8 X.gens.length c8)
      rw [← unhide HW17] at hC17
      have t0 := hC17.t0
      have t1 := hC17.t1
      have ho5 : W17.ownsRow B 61 11 (.slice (some ⟨g5, 0, none⟩) (X.rows.eraseIdx k).length c5) (X.rows.eraseIdx k).length (cellsOfRows (X.rows.eraseIdx k)) := by
        rw [unhide HW17]
        refine own_setsBelow (by omega) _ _ _ ?_
        rw [unhide HW16, unhide HLEN]
        exact ownsRow_setCell_other (unhide HO15) (a := ⟨w11.heap.size, 0, none⟩) (by simp [Value.ownBlock]; omega) _
      have ho8 : W17.ownsRow B 3 1 (.slice A8 X.gens.length c8) X.gens.length (cellsOfInts X.gens) := by
        rw [unhide HW17]
        refine own_setsBelow (by omega) _ _ _ ?_
        rw [unhide HW16]
        have h8 := ((unhide HO8).alloc (.cells #[.slice (some ⟨g5, 0, none⟩) X.rows.length c5, .slice A8 X.gens.length c8] 38)).kept (unhide HG15) (own_apart (unhide HO8) (unhide HO5) (by decide))
        refine ownsRow_setCell_other h8 (a := ⟨w11.heap.size, 0, none⟩) (fun hc => ?_) _
        have := ((unhide HO8).lt _ hc).2
        simp at this
      obtain ⟨A1, c1, hv1, hR1⟩ := rowsL_own ho5
      obtain ⟨A2, c2, hv2, hR2⟩ := intsL_own ho8
      simp only [Value.slice.injEq, true_and] at hv1 hv2
      obtain ⟨rfl, rfl⟩ := hv1
      obtain ⟨rfl, rfl⟩ := hv2
      refine bodyPost_ret (v := .tuple #[.agg #[.slice (some ⟨g5, 0, none⟩) (X.rows.length - 1) c5, .slice A8 X.gens.length c8], .int .i64 0]) (by simp [results, Try.results87, go_sem, t0, t1]) rfl ⟨some ⟨g5, 0, none⟩, c5, A8, c8, by rw [unhide HLEN], ⟨⟨hR1, hR2⟩, own_fresh ho5 (by omega), own_fresh ho8 (by omega)⟩, hC17.bel⟩
  · rw [if_pos hw0]
    generalize (wrongW X).2 = wa at *
    generalize (wrongW X).1 = we at *
    unfold emptyW
    go_enter Try.func87, Try.ntmps87
    go_wp2_with (first
      | (go_at_call 34; refine (unhide HP _ (unhide HCW).bel).mono ?_; rintro e w5 ⟨rfl, hb5⟩; have hC5 := (unhide HCW).below hb5; have hz : w.heap.size + 1 + 1 < w5.heap.size := hC5.sz; have t0 : w5.cell? ⟨w.heap.size + 1 + 1, 0, none⟩ = some (.slice none 0 0) := hC5.t0; have t1 : w5.cell? ⟨w.heap.size + 1 + 1, 1, none⟩ = some (.slice none 0 0) := hC5.t1; have f0 : w5.frozen? ⟨w.heap.size + 1 + 1, 0, none⟩ = false := hC5.f 0; have f1 : w5.frozen? ⟨w.heap.size + 1 + 1, 1, none⟩ = false := hC5.f 1; have HC5 := hide hC5; clear hb5 hC5))
    go_region
    all_goals (try go_wp2)
    all_goals
      refine bodyPost_ret (v := .tuple #[.agg #[.slice none 0 0, .slice none 0 0], .int .i64 we]) (by simp [results, Try.results87, go_sem, t0, t1, hz]) rfl ⟨none, 0, none, 0, rfl, wldNew_empty _ _, ?_⟩
      exact bel_drewN' ((((unhide HC5).bel.setCell (p := ⟨w.heap.size + 1 + 1, 0, none⟩) (by simp; omega) _).setCell (p := ⟨w.heap.size + 1 + 1, 1, none⟩) (by simp; omega) _).alloc (by simpa using (unhide HC5).bel.size) _) 1



set_option maxRecDepth 8000 in
set_option maxHeartbeats 1000000 in
theorem kill_any (A : Option Addr) (cap : Nat) (G : Option Addr) (gcap : Nat) (X : Wd) (i g : Int) (w : World) (hn0 : X.rows.length ≤ 9223372036854775807) (hX : WldAt w A cap G gcap X) :
    Calls Try.prog 42 #[wldV A cap G gcap X, beingV i g] w fun e w' => ∃ A' c' G' gc', e = .returned (.tuple #[wldV A' c' G' gc' (killF X i g).2, .int .i64 (killF X i g).1]) ∧ WldNew w.heap.size w' A' c' G' gc' (killF X i g).2 ∧ Below w.heap.size w w' := by
  obtain ⟨W1, hW1⟩ : ∃ W, W = (w.alloc (.cells #[.slice A X.rows.length cap, .slice G X.gens.length gcap] 38)).alloc (.cells #[.int .i64 i, .int .i64 g] 40) := ⟨_, rfl⟩
  have z1 : W1.heap.size = w.heap.size + 2 := by rw [hW1]; simp
  have b1 : Below w.heap.size w W1 := by rw [hW1]; go_grown
  obtain ⟨y0, y1, yf, yb⟩ := new_box (W := W1) (u0 := .slice none 0 0) (u1 := .slice none 0 0) (t := 38) z1
  have hAB : AB w (w.heap.size + 2) (.slice none 0 0) (.slice none 0 0) (W1.alloc (.cells #[.slice none 0 0, .slice none 0 0] 38)) := ⟨b1.trans (yb.mono b1.size), by omega, y0, y1, yf⟩
  have hC := change_kill A cap G gcap X i g (W1.alloc (.cells #[.slice none 0 0, .slice none 0 0] 38)) hn0 (hX.below hAB.bel)
  rw [hW1] at hC hAB
  have HZ := hide (show w.heap.size + 2 < (W1.alloc (.cells #[.slice none 0 0, .slice none 0 0] 38)).heap.size by simp; omega)
  rw [hW1] at HZ
  have HC := hide hC
  have HAB := hide hAB
  clear hC hAB hW1 z1 b1 y0 y1 yf yb hX
  generalize killF X i g = z at *
  obtain ⟨er, Z⟩ := z
  dsimp only at *
  unfold wldV worldV beingV at *
  go_enter Try.func42, Try.ntmps42
  go_wp2_with (first
    | (go_at_call 87; refine (unhide HC).mono ?_; rintro e w5 ⟨A', c', G', gc', rfl, hN, hb5⟩; have HN := hide hN; have HA5 := hide ((unhide HAB).below hb5); clear hN hb5)
    | (refine wpList_putN rfl 38 (.tmp 4) (.tmp 9) rfl (w.heap.size + 2) 0 [.slice A' Z.rows.length c', .slice G' Z.gens.length gc'] rfl rfl (by simp [Value.oneCell']) size38 (unhide HA5).there ?_; intro W3 hW3; have hA6 := (unhide HA5).give (.slice A' Z.rows.length c') (.slice G' Z.gens.length gc'); rw [← hW3] at hA6; have HA6 := hide hA6; have HW3 := hide hW3; clear hW3 hA6))
  have t0 := (unhide HA6).t0
  have t1 := (unhide HA6).t1
  refine bodyPost_ret (v := .tuple #[.agg #[.slice A' Z.rows.length c', .slice G' Z.gens.length gc'], .int .i64 er]) (by simp [results, Try.results42, go_sem, t0, t1]) rfl ⟨A', c', G', gc', rfl, ?_, (unhide HA6).bel⟩
  rw [unhide HW3]
  exact ((unhide HN).sets (unhide HZ)).mono (by have := unhide HZ; omega)
end Go.Proofs.Ytmbjghjpofcdpaa
