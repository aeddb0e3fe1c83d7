/- PKill, PIns, PIns2, Lists, PNext, PNext2 -/
import Derived.Lib.Overlaps
import Derived.Lib.AppendZerosOnto
import Derived.Laws.Externs
import Derived.Laws.IdiomCopy
import Derived.Shelf.RegionOpenPlain
import Derived.Test.YtnbleebilmghcabQB
import Derived.Test.YtnbleebilmghcabQD
set_option linter.all false
namespace Go.Proofs.Ytnbleebilmghcab
open Go Go.RowKit
attribute [local go_sem ↓] Go.wp_at_zero Go.wp_at_succ
def killF (X : Wd) (i g : Int) : Int × Wd :=
  if (wrongW X).1 ≠ 0 then ((wrongW X).1, emptyW) else if findW X i g < 0 then (5, emptyW) else (0, ⟨X.rows.eraseIdx (findW X i g).toNat, X.gens⟩)
theorem size36 : (Try.prog.info? 37).map (·.size) = some 1 := by kernel_rfl
theorem grown_cell {w w' : World} {g : Nat} {p : Addr} {u : Value} (h : w.grownBy w' (some g)) (hc : w.cell? p = some u) (hp : p.block ≠ g) : w'.cell? p = some u := h.cell hc (by simpa using hp)
theorem grown_froz {w w' : World} {g b : Nat} (h : w.grownBy w' (some g)) (hb : b < w.heap.size) (hp : b ≠ g) (i : Nat) : w'.frozen? ⟨b, i, none⟩ = w.frozen? ⟨b, i, none⟩ := World.frozen?_of_block (h.block b hb (by simpa using hp))
structure B13 (b : Nat) (u0 u1 : Value) (W : World) : Prop where
  e0 : W.cell? ⟨b, 0, none⟩ = some u0
  e1 : W.cell? ⟨b, 1, none⟩ = some u1
  f : ∀ i, W.frozen? ⟨b, i, none⟩ = false
theorem B13.start (w : World) (u0 u1 : Value) : B13 w.heap.size u0 u1 (w.alloc (.cells #[u0, u1] 40)) := ⟨by simp, by simp, fun i => by simp [go_sem]⟩
theorem B13.grown {b g : Nat} {u0 u1 : Value} {W W1 : World} (h : B13 b u0 u1 W) (hg : W.grownBy W1 (some g)) (hb : b ≠ g) : B13 b u0 u1 W1 :=
  ⟨grown_cell hg h.e0 hb, grown_cell hg h.e1 hb, fun i => (grown_froz hg (World.block_lt_of_cell? W ⟨b, 0, none⟩ h.e0) hb i).trans (h.f i)⟩
theorem B13.set0 {b : Nat} {u0 u1 : Value} {W : World} (h : B13 b u0 u1 W) (v : Value) : B13 b v u1 (W.setCell ⟨b, 0, none⟩ v) :=
  ⟨setc_same h.e0, setc_other (addr_ne (by omega)) h.e1, fun i => by simpa using h.f i⟩
theorem cw_grown {w W W1 : World} {u0 u1 y0 y1 : Value} {i g : Int} {g5 B : Nat} (h : CW w u0 u1 i g y0 y1 W) (hg : W.grownBy W1 (some g5)) (h5 : B ≤ g5) (hB : w.heap.size + 3 ≤ B) : CW w u0 u1 i g y0 y1 W1 :=
  h.keep ((Below.refl _ _).grown hg h.sz (fun k hk => by cases hk; omega))
theorem cw_set {w W W1 : World} {u0 u1 y0 y1 : Value} {i g : Int} {b o : Nat} {v : Value} (h : CW w u0 u1 i g y0 y1 W) (h1 : W1 = W.setCell ⟨b, o, none⟩ v) (hb : w.heap.size + 3 ≤ b) : CW w u0 u1 i g y0 y1 W1 := by
  subst h1
  exact h.keep ((Below.refl _ _).setCell (p := ⟨b, o, none⟩) hb v)
set_option maxRecDepth 8000 in
set_option maxHeartbeats 4000000 in
theorem change_kill (A : Option Addr) (cap : Nat) (G : Option Addr) (gcap : Nat) (X : Wd) (i g : Int) (w : World) (hn0 : X.rows.length ≤ 9223372036854775807) (hX : WldAt w A cap G gcap X) :
    Calls Try.prog 123 #[wldV A cap G gcap X, beingV i g, .func (.func 124) #[] #[]] w fun e w' => ∃ A' c' G' gc', e = .returned (.tuple #[wldV A' c' G' gc' (killF X i g).2, .int .i64 (killF X i g).1]) ∧ WldNew w.heap.size w' A' c' G' gc' (killF X i g).2 ∧ Below w.heap.size w w' := by
  have hCW := CW.start w (.slice A X.rows.length cap) (.slice G X.gens.length gcap) i g
  have hP := fun W (hb : Below w.heap.size w W) => pwrong_any A X.rows.length cap G X.gens.length gcap (fun j => X.rows.getD j dR) (fun j => X.gens.getD j 0) W (by omega) (hX.rows.below hb) (hX.gens.below hb)
  have eW : plainF (fun j => X.rows.getD j dR) X.rows.length X.gens.length (fun j => X.gens.getD j 0) = wrongW X := rfl
  rw [eW] at hP
  unfold faultP worldV at hP
  have hF := fun W (hb : Below w.heap.size w W) => find_any A X.rows.length cap (fun j => X.rows.getD j dR) i g W (by omega) (hX.rows.below hb)
  have eF : fIx (fun j => X.rows.getD j dR) i g X.rows.length 0 = findW X i g := rfl
  rw [eF] at hF
  unfold beingV at hF
  have HP := hide hP
  have HF := hide hF
  have HX := hide hX
  have HCW := hide hCW
  clear hP hF hCW eW eF hX
  unfold killF
  unfold wldV worldV beingV
  by_cases hw0 : (wrongW X).1 = 0
  · rw [if_neg (by simpa using hw0)]
    obtain ⟨hn, hgn⟩ := right_fit hw0
    rw [hw0] at HP
    generalize (wrongW X).2 = wa at *
    rcases fIx_spec (fun j => X.rows.getD j dR) i g X.rows.length 0 with hf | ⟨k, _, hk, hf, hi⟩
    · have hf' : findW X i g = -1 := hf
      rw [hf'] at HF ⊢
      rw [if_pos (by decide)]
      unfold emptyW
      clear hf hf' hw0
      go_enter Try.func123, Try.ntmps123
      go_wp2_with (first
        | (go_at_call 42; refine (unhide HP _ (unhide HCW).bel).mono ?_; rintro e w5 ⟨rfl, hb5⟩; have hC5 := (unhide HCW).below hb5; have hC6 := hC5.below ((Below.refl _ _).alloc (Nat.le_refl _) (.cells #[.int .i64 0, .int .i64 wa] 30)); have r0 := hC6.r0; have r1 := hC6.r1; have s0 := hC6.s0; have s1 := hC6.s1; have HC6 := hide hC6; clear hb5 hC5 hC6)
        | (go_at_call 88; refine (unhide HF _ (unhide HC6).bel).mono ?_; rintro e w7 ⟨rfl, hb7⟩; have hC7 := (unhide HC6).below hb7; have HC7 := hide hC7; clear hb7 hC7 r0 r1 s0 s1)
        | (refine wpList_putN rfl 40 (.tmp 6) (.tmp 28) rfl (w.heap.size + 2) 0 [.slice none 0 0, .slice none 0 0] rfl rfl (by simp [Value.oneCell']) size38 (unhide HC7).there ?_; intro W3 hW3; have hC8 := (unhide HC7).give (.slice none 0 0) (.slice none 0 0); rw [← hW3] at hC8; have HC8 := hide hC8; clear hW3 hC8))
      have t0 := (unhide HC8).t0
      have t1 := (unhide HC8).t1
      refine bodyPost_ret (v := .tuple #[.agg #[.slice none 0 0, .slice none 0 0], .int .i64 5]) (by simp [results, Try.results123, go_sem, t0, t1]) rfl ⟨none, 0, none, 0, rfl, wldNew_empty _ _, (unhide HC8).bel⟩
    · have hf' : findW X i g = (k : Int) := hf
      have hkn : k < X.rows.length := by omega
      rw [hf'] at HF ⊢
      rw [if_neg (by omega : ¬ (k : Int) < 0), Int.toNat_natCast]
      have kk0 : (0 : Int) ≤ (k : Int) := by omega
      have kk1 : (k : Int) < (X.rows.length : Int) := by omega
      have kk2 : ¬ (k : Int) < 0 := by omega
      obtain ⟨b, off, hA, hrow⟩ := (unhide HX).rows k hkn
      subst hA
      have hrow : RowAt w b (off + k * 11) (X.rows.getD k dR) := hrow
      have HROW := hide hrow
      have HCX := hide (fun W (hW : Below w.heap.size w W) => kill1_any (X.rows.getD k dR) W)
      have HOWN := hide (fun W (hb : Below w.heap.size w W) => own_some k (some ⟨b, off, none⟩) cap X.rows G gcap X.gens W hkn hn hgn ((unhide HX).rows.below hb) ((unhide HX).gens.below hb))
      have HDEL := hide (fun (B g5 c5 : Nat) (W : World) (h : W.ownsRow B 53 11 (.slice (some ⟨g5, 0, none⟩) X.rows.length c5) X.rows.length (cellsOfRows X.rows)) => delete_any B g5 c5 k X.rows W hkn h)
      have hlen : (X.rows.eraseIdx k).length = X.rows.length - 1 := List.length_eraseIdx_of_lt hkn
      have HLEN := hide hlen
      clear hrow hf hf' hi hw0 HX hlen
      generalize X.rows.getD k dR = x at *
      unfold worldV at HOWN
      unfold rowV dR at HCX
      go_enter Try.func123, Try.ntmps123
      go_wp2_with (first
        | (go_at_call 42; refine (unhide HP _ (unhide HCW).bel).mono ?_; rintro e w5 ⟨rfl, hb5⟩; have hC5 := (unhide HCW).below hb5; have hC6 := hC5.below ((Below.refl _ _).alloc (Nat.le_refl _) (.cells #[.int .i64 0, .int .i64 wa] 30)); have r0 := hC6.r0; have r1 := hC6.r1; have s0 := hC6.s0; have s1 := hC6.s1; have HC6 := hide hC6; clear hb5 hC5 hC6)
        | (go_at_call 88; refine (unhide HF _ (unhide HC6).bel).mono ?_; rintro e w7 ⟨rfl, hb7⟩; have hC7 := (unhide HC6).below hb7; have hr7 := (unhide HROW).below hC7.bel; clear r0 r1 s0 s1; have r0 := hC7.r0; have r1 := hC7.r1; have c0 := hr7.c0; have c1 := hr7.c1; have c2 := hr7.c2; have c3 := hr7.v 0 (by omega); have c4 := hr7.v 1 (by omega); have c5 := hr7.v 2 (by omega); have c6 := hr7.v 3 (by omega); have c7 := hr7.v 4 (by omega); have c8 := hr7.v 5 (by omega); have c9 := hr7.v 6 (by omega); have c10 := hr7.v 7 (by omega); simp only [Nat.add_assoc, Nat.reduceAdd] at c3 c4 c5 c6 c7 c8 c9 c10; simp only [← Nat.add_assoc] at c3 c4 c5 c6 c7 c8 c9 c10; have HC7 := hide hC7; clear hb7 hC7 hr7)
        | (go_at_call 124; refine (unhide HCX _ (unhide HC7).bel).mono ?_; rintro e w9 ⟨rfl, hb9⟩; have hC9 := (unhide HC7).below hb9; have hC10 := hC9.below ((Below.refl _ _).alloc (Nat.le_refl _) (.cells #[.int .i64 0, .int .i64 0, .int .i64 0, .int .i64 0, .int .i64 0, .int .i64 0, .int .i64 0, .int .i64 0, .int .i64 0, .int .i64 0, .int .i64 0] 53)); clear r0 r1 c0 c1 c2 c3 c4 c5 c6 c7 c8 c9 c10; have r0 := hC10.r0; have r1 := hC10.r1; have HC10 := hide hC10; clear hb9 hC9 hC10)
        | (go_at_call 84; refine (unhide HOWN _ (unhide HC10).bel).mono ?_; rintro e w11 ⟨B, g5, c5, A8, c8, hB, rfl, ho5, ho8, hb11⟩; have hB3 := Nat.le_trans (unhide HC10).sz hB; clear hB; clear r0 r1; have HO5 := hide ho5; have HO8 := hide ho8; have hs11 := Nat.le_trans (unhide HC10).sz hb11.size; have HC12 := hide (((unhide HC10).below hb11).below ((Below.refl _ _).alloc (Nat.le_refl _) (.cells #[.slice (some ⟨g5, 0, none⟩) X.rows.length c5, .slice A8 X.gens.length c8] 40))); clear ho5 ho8 hb11)
        | (go_at_call 131; refine (unhide HDEL B g5 c5 _ ((unhide HO5).alloc _)).mono ?_; rintro e w15 ⟨rfl, ho15, hg15⟩; have hb13 := (B13.start w11 (.slice (some ⟨g5, 0, none⟩) X.rows.length c5) (.slice A8 X.gens.length c8)).grown hg15 (Nat.ne_of_gt ((unhide HO5).lt g5 rfl).2); have HB13 := hide hb13; have HO15 := hide ho15; have HG15 := hide hg15; clear hb13 ho15 hg15)
        | (refine wpList_put1 rfl 37 (.tmp 54) (.tmp 53) rfl w11.heap.size 0 (.slice (some ⟨g5, 0, none⟩) (X.rows.length - 1) c5) rfl rfl rfl size36 (there_of (unhide HB13).e0 (unhide HB13).f) ?_; intro W16 hW16; have hb16 := (unhide HB13).set0 (.slice (some ⟨g5, 0, none⟩) (X.rows.length - 1) c5); rw [← hW16] at hb16; have e0 := hb16.e0; have e1 := hb16.e1; have HW16 := hide hW16; clear hb16 hW16)
        | (refine wpList_putN rfl 40 (.tmp 6) (.tmp 55) rfl (w.heap.size + 2) 0 [.slice (some ⟨g5, 0, none⟩) (X.rows.length - 1) c5, .slice A8 X.gens.length c8] rfl rfl (by simp [Value.oneCell']) size38 (cw_set (cw_grown (unhide HC12) (unhide HG15) ((unhide HO5).lt g5 rfl).1 hB3) (unhide HW16) hs11).there ?_; intro W17 hW17; have HW17 := hide hW17; clear hW17))
      have hlo := (unhide HO5).lt g5 rfl
      have hC17 := (cw_set (cw_grown (unhide HC12) (unhide HG15) hlo.1 hB3) (unhide HW16) hs11).give (.slice (some ⟨g5, 0, none⟩) (X.rows.length - 1) c5) (.slice A8 X.gens.length c8)
      rw [← unhide HW17] at hC17
      have t0 := hC17.t0
      have t1 := hC17.t1
      have ho5 : W17.ownsRow B 53 11 (.slice (some ⟨g5, 0, none⟩) (X.rows.eraseIdx k).length c5) (X.rows.eraseIdx k).length (cellsOfRows (X.rows.eraseIdx k)) := by
        rw [unhide HW17]
        refine own_setsBelow (by omega) _ _ _ ?_
        rw [unhide HW16, unhide HLEN]
        exact ownsRow_setCell_other (unhide HO15) (a := ⟨w11.heap.size, 0, none⟩) (by simp [Value.ownBlock]; omega) _
      have ho8 : W17.ownsRow B 3 1 (.slice A8 X.gens.length c8) X.gens.length (cellsOfInts X.gens) := by
        rw [unhide HW17]
        refine own_setsBelow (by omega) _ _ _ ?_
        rw [unhide HW16]
        have h8 := ((unhide HO8).alloc (.cells #[.slice (some ⟨g5, 0, none⟩) X.rows.length c5, .slice A8 X.gens.length c8] 40)).kept (unhide HG15) (own_apart (unhide HO8) (unhide HO5) (by decide))
        refine ownsRow_setCell_other h8 (a := ⟨w11.heap.size, 0, none⟩) (fun hc => ?_) _
        have := ((unhide HO8).lt _ hc).2
        simp at this
      obtain ⟨A1, c1, hv1, hR1⟩ := rowsL_own ho5
      obtain ⟨A2, c2, hv2, hR2⟩ := intsL_own ho8
      simp only [Value.slice.injEq, true_and] at hv1 hv2
      obtain ⟨rfl, rfl⟩ := hv1
      obtain ⟨rfl, rfl⟩ := hv2
      refine bodyPost_ret (v := .tuple #[.agg #[.slice (some ⟨g5, 0, none⟩) (X.rows.length - 1) c5, .slice A8 X.gens.length c8], .int .i64 0]) (by simp [results, Try.results123, go_sem, t0, t1]) rfl ⟨some ⟨g5, 0, none⟩, c5, A8, c8, by rw [unhide HLEN], ⟨⟨hR1, hR2⟩, own_fresh ho5 (by omega), own_fresh ho8 (by omega)⟩, hC17.bel⟩
  · rw [if_pos hw0]
    generalize (wrongW X).2 = wa at *
    generalize (wrongW X).1 = we at *
    unfold emptyW
    go_enter Try.func123, Try.ntmps123
    go_wp2_with (first
      | (go_at_call 42; refine (unhide HP _ (unhide HCW).bel).mono ?_; rintro e w5 ⟨rfl, hb5⟩; have hC5 := (unhide HCW).below hb5; have hz : w.heap.size + 1 + 1 < w5.heap.size := hC5.sz; have t0 : w5.cell? ⟨w.heap.size + 1 + 1, 0, none⟩ = some (.slice none 0 0) := hC5.t0; have t1 : w5.cell? ⟨w.heap.size + 1 + 1, 1, none⟩ = some (.slice none 0 0) := hC5.t1; have f0 : w5.frozen? ⟨w.heap.size + 1 + 1, 0, none⟩ = false := hC5.f 0; have f1 : w5.frozen? ⟨w.heap.size + 1 + 1, 1, none⟩ = false := hC5.f 1; have HC5 := hide hC5; clear hb5 hC5))
    go_region
    all_goals (try go_wp2)
    all_goals
      refine bodyPost_ret (v := .tuple #[.agg #[.slice none 0 0, .slice none 0 0], .int .i64 we]) (by simp [results, Try.results123, go_sem, t0, t1, hz]) rfl ⟨none, 0, none, 0, rfl, wldNew_empty _ _, ?_⟩
      exact bel_drewN' ((((unhide HC5).bel.setCell (p := ⟨w.heap.size + 1 + 1, 0, none⟩) (by simp; omega) _).setCell (p := ⟨w.heap.size + 1 + 1, 1, none⟩) (by simp; omega) _).alloc (by simpa using (unhide HC5).bel.size) _) 1
set_option maxRecDepth 8000 in
set_option maxHeartbeats 1000000 in
theorem kill_any (A : Option Addr) (cap : Nat) (G : Option Addr) (gcap : Nat) (X : Wd) (i g : Int) (w : World) (hn0 : X.rows.length ≤ 9223372036854775807) (hX : WldAt w A cap G gcap X) :
    Calls Try.prog 112 #[wldV A cap G gcap X, beingV i g] w fun e w' => ∃ A' c' G' gc', e = .returned (.tuple #[wldV A' c' G' gc' (killF X i g).2, .int .i64 (killF X i g).1]) ∧ WldNew w.heap.size w' A' c' G' gc' (killF X i g).2 ∧ Below w.heap.size w w' := by
  obtain ⟨W1, hW1⟩ : ∃ W, W = (w.alloc (.cells #[.slice A X.rows.length cap, .slice G X.gens.length gcap] 40)).alloc (.cells #[.int .i64 i, .int .i64 g] 50) := ⟨_, rfl⟩
  have z1 : W1.heap.size = w.heap.size + 2 := by rw [hW1]; simp
  have b1 : Below w.heap.size w W1 := by rw [hW1]; go_grown
  obtain ⟨y0, y1, yf, yb⟩ := new_box (W := W1) (u0 := .slice none 0 0) (u1 := .slice none 0 0) (t := 40) z1
  have hAB : AB w (w.heap.size + 2) (.slice none 0 0) (.slice none 0 0) (W1.alloc (.cells #[.slice none 0 0, .slice none 0 0] 40)) := ⟨b1.trans (yb.mono b1.size), by omega, y0, y1, yf⟩
  have hC := change_kill A cap G gcap X i g (W1.alloc (.cells #[.slice none 0 0, .slice none 0 0] 40)) hn0 (hX.below hAB.bel)
  rw [hW1] at hC hAB
  have HZ := hide (show w.heap.size + 2 < (W1.alloc (.cells #[.slice none 0 0, .slice none 0 0] 40)).heap.size by simp; omega)
  rw [hW1] at HZ
  have HC := hide hC
  have HAB := hide hAB
  clear hC hAB hW1 z1 b1 y0 y1 yf yb hX
  generalize killF X i g = z at *
  obtain ⟨er, Z⟩ := z
  dsimp only at *
  unfold wldV worldV beingV at *
  go_enter Try.func112, Try.ntmps112
  go_wp2_with (first
    | (go_at_call 123; refine (unhide HC).mono ?_; rintro e w5 ⟨A', c', G', gc', rfl, hN, hb5⟩; have HN := hide hN; have HA5 := hide ((unhide HAB).below hb5); clear hN hb5)
    | (refine wpList_putN rfl 40 (.tmp 4) (.tmp 9) rfl (w.heap.size + 2) 0 [.slice A' Z.rows.length c', .slice G' Z.gens.length gc'] rfl rfl (by simp [Value.oneCell']) size38 (unhide HA5).there ?_; intro W3 hW3; have hA6 := (unhide HA5).give (.slice A' Z.rows.length c') (.slice G' Z.gens.length gc'); rw [← hW3] at hA6; have HA6 := hide hA6; have HW3 := hide hW3; clear hW3 hA6))
  have t0 := (unhide HA6).t0
  have t1 := (unhide HA6).t1
  refine bodyPost_ret (v := .tuple #[.agg #[.slice A' Z.rows.length c', .slice G' Z.gens.length gc'], .int .i64 er]) (by simp [results, Try.results112, go_sem, t0, t1]) rfl ⟨A', c', G', gc', rfl, ?_, (unhide HA6).bel⟩
  rw [unhide HW3]
  exact ((unhide HN).sets (unhide HZ)).mono (by have := unhide HZ; omega)
end Go.Proofs.Ytnbleebilmghcab
namespace Go.Proofs.Ytnbleebilmghcab
open Go Go.RowKit
attribute [local go_sem ↓] Go.wp_at_zero Go.wp_at_succ
theorem run_copy_k (w : World) (dT sT ty elem : TypeId) (b o dLen dCap : Nat) (a : Addr) (sLen sCap n k : Nat) (cs : List Value) {P : Program}
    (hu : P.underlying dT = some (.slice elem)) (hs : (P.info? elem).map (·.size) = some k) (hm : Nat.min sLen dLen = n) (hn : cs.length = n * k)
    (hsrc : ∀ j v, cs[j]? = some v → w.cell? (a.add j) = some v) (ht : w.there b o cs.length) (h1 : ∀ v ∈ cs, v.oneCell' = true) :
    (Builtin.copy_ #[dT, sT] ty #[.slice (some ⟨b, o, none⟩) dLen dCap, .slice (some a) sLen sCap]).run P w = .ok (goInt n) (w.setCells b o cs) := by
  have hl := run_loadCells_list (P := P) w a cs hsrc
  have hst := run_storeCells_cells (P := P) b o cs 0 w (fun j hj => by simpa using (ht j hj).1) (fun j hj => by simpa using (ht j hj).2) h1
  cases hq : P.info? elem with
  | none => simp [hq] at hs
  | some i =>
    have hi : i.size = k := by simpa [hq] using hs
    simp [Builtin.copy_, run_underlying hu, Builtin.lenOf, Builtin.firstCells, sizeOf, typeInfo, hq, hi, hm, ← hn, hl, hst]
theorem wp_copy_run {P : Program} (w : World) {o : Oper} {a : Act} {K : Act → World → Prop} {Q : Exit → Act → World → Prop} (d s : Operand) (t t' : TypeId)
    (ho : o.op = .call { callee := .builtin .copy, args := #[d, s], argTypes := #[t, t'] }) (v u : Value) (hd : a.eval d = v) (hs : a.eval s = u) {v' : Value} {w' : World}
    (hr : (Builtin.copy_ #[t, t'] o.type #[v, u]).run P w = .ok v' w') (h : K (a.put o.dst v') w') : o.wp P a w K Q := by
  unfold Oper.wp execOp
  simp only [ho, resolve, invoke, builtin, Sem.run_bind, Sem.run_pure, Result.andThen_ok, List.map_toArray, List.map_cons, List.map_nil, hd, hs, hr]
  exact h
theorem wpList_copy_run {P : Program} (w : World) {ops : Array Oper} {rest : List Oper} {o : Oper} {a : Act} {Q : Exit → Act → World → Prop} (hgd : o.guard = none) (d s : Operand) (t t' : TypeId)
    (ho : o.op = .call { callee := .builtin .copy, args := #[d, s], argTypes := #[t, t'] }) (v u : Value) (hd : a.eval d = v) (hs : a.eval s = u) {v' : Value} {w' : World}
    (hr : (Builtin.copy_ #[t, t'] o.type #[v, u]).run P w = .ok v' w') (h : ∀ W1, W1 = w' → wpList P ops Q rest (a.put o.dst v') W1) : wpList P ops Q (o :: rest) a w :=
  wpList_plain hgd fun _ hK => wp_copy_run w d s t t' ho v u hd hs hr (hK _ _ (h _ rfl))
theorem step_copy_run {P : Program} {ops : Array Oper} {o : Oper} {a : Act} {w : World} {K : Act → World → Prop} {Q : Exit → Act → World → Prop} {E : Prop}
    (hg : o.guard = none) (d x : Operand) (dT sT : TypeId) (hop : o.op = Op.call { callee := Callee.builtin Builtin.copy, args := #[d, x], argTypes := #[dT, sT] })
    (v u : Value) (hd : a.eval d = v) (hx : a.eval x = u) {v' : Value} {w' : World} (hr : (Builtin.copy_ #[dT, sT] o.type #[v, u]).run P w = .ok v' w') (hK : K (a.put o.dst v') w') :
    if Region.wanted o (yielded ops a.tmps) = true then Oper.wp P o a w K Q else E := by
  have hw : Region.wanted o (yielded ops a.tmps) = true := by simp [Region.wanted, hg]
  rw [if_pos hw]
  unfold Oper.wp
  simp [execOp, hop, resolve, invoke, builtin, hd, hx, hr, Result.andThen]
  exact hK
def insR (rows : List RowI) (k : Nat) (r : RowI) : List RowI := rows.take k ++ r :: rows.drop k
theorem insR_len (rows : List RowI) (k : Nat) (r : RowI) (h : k ≤ rows.length) : (insR rows k r).length = rows.length + 1 := by unfold insR; simp; omega
theorem insR_cells (rows : List RowI) (k : Nat) (r : RowI) : cellsOfRows (insR rows k r) = cellsOfRows (rows.take k) ++ rowCells r ++ cellsOfRows (rows.drop k) := by
  unfold insR
  rw [cells_app, List.append_assoc]
  rfl
theorem insR_end (rows : List RowI) (r : RowI) : insR rows rows.length r = rows ++ [r] := by unfold insR; simp
theorem drop_cells (rows : List RowI) (k : Nat) : (cellsOfRows (rows.drop k)).length = (rows.length - k) * 11 := by rw [cellsOfRows_len, List.length_drop]
theorem ins_shift (rows : List RowI) (k : Nat) (r : RowI) (xs : List Value) (hk : k ≤ rows.length) (hl : xs.length = (rows.length + 1) * 11) (hx : xs.take (k * 11) = cellsOfRows (rows.take k)) :
    setsL (setsL xs ((k + 1) * 11) (cellsOfRows (rows.drop k))) (k * 11) (rowCells r) = cellsOfRows (insR rows k r) := by
  have hd := drop_cells rows k
  rw [insR_cells]
  generalize cellsOfRows (rows.drop k) = mv at *
  have h1 : setsL xs ((k + 1) * 11) mv = xs.take ((k + 1) * 11) ++ mv := by
    rw [setsL_eq _ _ _ (by rw [hd, hl]; omega), List.drop_of_length_le (by rw [hd, hl]; omega), List.append_nil]
  have ht : (xs.take ((k + 1) * 11)).length = (k + 1) * 11 := by rw [List.length_take, hl]; omega
  rw [h1, setsL_eq _ _ _ (by rw [List.length_append, ht, hd, rowCells_len]; omega), ← hx, rowCells_len]
  rw [List.take_append_of_le_length (by rw [ht]; omega), List.take_take, Nat.min_eq_left (by omega)]
  congr 1
  rw [show k * 11 + 11 = (xs.take ((k + 1) * 11)).length by rw [ht]; omega, List.drop_left]
theorem ins_fresh (rows : List RowI) (k : Nat) (r : RowI) (xs : List Value) (hk : k ≤ rows.length) (hl : xs.length = (rows.length + 1) * 11) (hx : xs.take (k * 11) = cellsOfRows (rows.take k)) :
    setsL (setsL xs (k * 11) (rowCells r)) ((k + 1) * 11) (cellsOfRows (rows.drop k)) = cellsOfRows (insR rows k r) := by
  have hd := drop_cells rows k
  rw [insR_cells]
  generalize cellsOfRows (rows.drop k) = mv at *
  have hlen : (setsL xs (k * 11) (rowCells r)).length = (rows.length + 1) * 11 := by rw [setsL_len]; exact hl
  rw [setsL_eq _ _ _ (by rw [hd, hlen]; omega), List.drop_of_length_le (by rw [hd, hlen]; omega), List.append_nil, ← hx]
  congr 1
  have ht : (xs.take (k * 11)).length = k * 11 := by rw [List.length_take, hl]; omega
  rw [setsL_eq _ _ _ (by rw [hl, rowCells_len]; omega), List.take_append_of_le_length (by rw [List.length_append, ht, rowCells_len]; omega), List.take_of_length_le (by rw [List.length_append, ht, rowCells_len]; omega)]
theorem own_long {W : World} {B n g cap : Nat} {xs : List Value} (h : W.ownsRow B 53 11 (.slice (some ⟨g, 0, none⟩) n cap) n xs) (hc : n + 1 ≤ cap) : ∃ ys, W.ownsRow B 53 11 (.slice (some ⟨g, 0, none⟩) (n + 1) cap) (n + 1) ys ∧ ys.take (n * 11) = xs := by
  obtain ⟨cur, h1, h2, h3, h4, h5⟩ := own_row h
  have hlo := (h.lt g rfl).1
  refine ⟨cur.toList.take ((n + 1) * 11), ⟨by rw [List.length_take, Array.length_toList, h4, Nat.min_eq_left]; exact Nat.mul_le_mul_right _ hc, .inr ⟨g, cap, cur, rfl, hlo, h1, hc, h3, h4, rfl⟩⟩, ?_⟩
  rw [List.take_take, Nat.min_eq_left (by omega), h5]
theorem take_rows {xs : List Value} {rows : List RowI} {n k : Nat} (h : xs.take (n * 11) = cellsOfRows rows) (hk : k ≤ n) : xs.take (k * 11) = cellsOfRows (rows.take k) := by
  rw [← cells_take, ← h, List.take_take, Nat.min_eq_left (by omega)]
theorem own_src {W : World} {B n g cap : Nat} {rows : List RowI} (h : W.ownsRow B 53 11 (.slice (some ⟨g, 0, none⟩) n cap) n (cellsOfRows rows)) (k : Nat) (hk : k ≤ rows.length) : ∀ j v, (cellsOfRows (rows.drop k))[j]? = some v → W.cell? ((⟨g, k * 11, none⟩ : Addr).add j) = some v := by
  intro j v hj
  rw [add_off]
  refine own_cell h ?_
  have e : rows = rows.take k ++ rows.drop k := (List.take_append_drop _ rows).symm
  have hl : (cellsOfRows (rows.take k)).length = k * 11 := by rw [cellsOfRows_len, List.length_take]; congr 1; omega
  rw [← hj]
  conv => lhs; rw [e, cells_app]
  rw [List.getElem?_append_right (by omega), hl]
  congr 1; omega
structure VB1 (w : World) (vb : Nat) (r : RowI) : Prop where
  h : w.heap[vb]? = some (.cells (rowCells r).toArray 53 (0, 0))
theorem VB1.src {w : World} {vb : Nat} {r : RowI} (h : VB1 w vb r) : ∀ j v, (rowCells r)[j]? = some v → w.cell? ((⟨vb, 0, none⟩ : Addr).add j) = some v := by
  intro j v hj
  rw [add_off, Nat.zero_add, cell_of_row w vb j _ 53 (0, 0) h.h]
  simpa using hj
theorem VB1.sets {w : World} {vb g o : Nat} {r : RowI} {vs : List Value} (h : VB1 w vb r) (hg : vb ≠ g) : VB1 (w.setCells g o vs) vb r := by
  refine ⟨?_⟩
  have : ∀ (vs : List Value) (o : Nat) (W : World), W.heap[vb]? = some (.cells (rowCells r).toArray 53 (0, 0)) → (W.setCells g o vs).heap[vb]? = some (.cells (rowCells r).toArray 53 (0, 0)) := fun vs => by
    induction vs with
    | nil => intro o W h; exact h
    | cons u rr ih => intro o W h; exact ih (o + 1) _ (by rw [Below.heap_setCell W ⟨g, o, none⟩ u vb hg]; exact h)
  exact this vs o w h.h
end Go.Proofs.Ytnbleebilmghcab
namespace Go.Proofs.Ytnbleebilmghcab
open Go Go.RowKit
attribute [local go_sem ↓] Go.wp_at_zero Go.wp_at_succ
theorem shape_own {w : World} {B n g cap : Nat} {xs : List Value} (h : w.ownsRow B 53 11 (.slice (some ⟨g, 0, none⟩) n cap) n xs) (hc : 0 < cap) : ∃ kB, w.shape? g = some (53, kB) ∧ kB ≠ 0 := by
  obtain ⟨cur, h1, h2, h3, h4, h5⟩ := own_row h
  exact ⟨cur.size, by simp [World.shape?, h1], by rw [h4]; omega⟩
theorem size61r (w : World) : (Go.sizeOf 53).run Try.prog w = .ok 11 w := by kernel_rfl
set_option maxRecDepth 100000 in
set_option maxHeartbeats 4000000 in
theorem insert_end (B : Nat) (A : Option Addr) (cap : Nat) (rows : List RowI) (r : RowI) (vb : Nat) (w : World) (hn : rows.length ≤ 1000) (hB : B ≤ w.heap.size) (ho : w.ownsRow B 53 11 (.slice A rows.length cap) rows.length (cellsOfRows rows)) (hv : VB1 w vb r) :
    Calls Try.prog 85 #[.slice A rows.length cap, .int .i64 (rows.length : Int), .slice (some ⟨vb, 0, none⟩) 1 1] w fun e w' => ∃ g' c', e = .returned (.slice (some ⟨g', 0, none⟩) (rows.length + 1) c') ∧ w'.ownsRow B 53 11 (.slice (some ⟨g', 0, none⟩) (rows.length + 1) c') (rows.length + 1) (cellsOfRows (rows ++ [r])) ∧ w.grownBy w' (Value.slice A rows.length cap).ownBlock := by
  obtain ⟨i61, hi61, hz61, hs61, hb61⟩ := info_parts info61
  have HI := hide hi61
  have HZ := hide hz61
  have HS := hide hs61
  have HB := hide hb61
  have HE : Hid (cellsOfRows (rows ++ [r]) = cellsOfRows rows ++ rowCells r) := by rw [cells_app]; exact hide (by unfold cellsOfRows; simp)
  have HO := hide ho
  have HV := hide hv
  have hcl : rows.length ≤ cap := by
    rcases ho.2 with ⟨hh, h0⟩ | ⟨g, c, cur, hh, _, _, h1, _⟩
    · omega
    · simp only [Value.slice.injEq, true_and] at hh
      omega
  have hcm : cap ≤ 9223372036854775807 := by
    rcases ho.2 with ⟨hh, h0⟩ | ⟨g, c, cur, hh, _, _, _, h1, _⟩
    · simp only [Value.slice.injEq] at hh; omega
    · simp only [Value.slice.injEq, true_and] at hh
      unfold maxLen at h1; omega
  clear hi61 hz61 hs61 hb61 ho hv
  have q0 : (0 : Int) ≤ (rows.length : Int) := by omega
  generalize cellsOfRows rows = xs at *
  generalize cellsOfRows (rows ++ [r]) = ys at *
  generalize rows.length = n at *
  cases A with
  | none =>
    go_enter Try.func85, Try.ntmps85
    go_wp2_with (first
      | (at_builtin; refine wpList_append1 _ rfl (.tmp 23) (.tmp 24) 37 rfl B 53 i61 _ 11 88 Try.underlying37 (unhide HI) (unhide HZ) (unhide HS) (unhide HB) rfl (by decide) _ n xs rfl (unhide HO) ⟨vb, 0, none⟩ 1 1 (rowCells r) rfl rfl (unhide HV).src (rowCells_one r) (by unfold maxLen; omega) (by omega) hB (by omega) ?_; intro g capg w7 ho7 hg7 hw7; have HO7 := hide ho7; have HG7 := hide hg7; clear ho7 hg7 hw7))
    go_ret
    exact ⟨g, capg, rfl, by rw [unhide HE]; exact unhide HO7, unhide HG7⟩
  | some a =>
    obtain ⟨b, o, sp⟩ := a
    go_enter Try.func85, Try.ntmps85
    go_wp2_with (first
      | (at_builtin; refine wpList_append1 _ rfl (.tmp 23) (.tmp 24) 37 rfl B 53 i61 _ 11 88 Try.underlying37 (unhide HI) (unhide HZ) (unhide HS) (unhide HB) rfl (by decide) _ n xs rfl (unhide HO) ⟨vb, 0, none⟩ 1 1 (rowCells r) rfl rfl (unhide HV).src (rowCells_one r) (by unfold maxLen; omega) (by omega) hB (by omega) ?_; intro g capg w7 ho7 hg7 hw7; have HO7 := hide ho7; have HG7 := hide hg7; clear ho7 hg7 hw7))
    all_goals
      go_ret
      exact ⟨g, capg, rfl, by rw [unhide HE]; exact unhide HO7, unhide HG7⟩
set_option maxRecDepth 100000 in
set_option maxHeartbeats 4000000 in
theorem insert_shift (B g cap k : Nat) (rows : List RowI) (r : RowI) (vb : Nat) (w : World) (hk : k < rows.length) (hc : rows.length + 1 ≤ cap) (hvg : vb ≠ g) (ho : w.ownsRow B 53 11 (.slice (some ⟨g, 0, none⟩) rows.length cap) rows.length (cellsOfRows rows)) (hv : VB1 w vb r) :
    Calls Try.prog 85 #[.slice (some ⟨g, 0, none⟩) rows.length cap, .int .i64 (k : Int), .slice (some ⟨vb, 0, none⟩) 1 1] w fun e w' => ∃ g' c', e = .returned (.slice (some ⟨g', 0, none⟩) (rows.length + 1) c') ∧ w'.ownsRow B 53 11 (.slice (some ⟨g', 0, none⟩) (rows.length + 1) c') (rows.length + 1) (cellsOfRows (insR rows k r)) ∧ w.grownBy w' (some g) := by
  obtain ⟨cur, c1, c2, c3, c4, c5⟩ := own_row ho
  obtain ⟨xs, hL, hxt⟩ := own_long ho hc
  have hsz : (Try.prog.info? 53).map (·.size) = some 11 := size61
  have hxl : xs.length = (rows.length + 1) * 11 := hL.1
  obtain ⟨kB, hkB, hkB0⟩ := shape_own ho (by omega)
  have hka : w.shape? vb = some (53, 11) := by simp [World.shape?, hv.h, rowCells]
  have hfa : w.frozen? ⟨vb, 0, none⟩ = false := by simp [World.frozen?, hv.h]
  have hfe : w.frozen? ⟨vb, 11, none⟩ = false := by simp [World.frozen?, hv.h]
  have hov : ∀ lb cb, (callFunc 101 #[.slice (some ⟨vb, 0, none⟩) 1 1, .slice (some ⟨g, (k + 1) * 11, none⟩) lb cb]).run Try.prog w = .ok (.value (.bool false)) w := fun lb cb => by
    rw [run_callFunc_extern Try.func101 (by kernel_rfl) (by kernel_rfl) (by kernel_rfl) (e := Extern.SlicesOverlaps.overlaps #[37, 37] #[4]) (by kernel_rfl),
      Lib.run_overlaps_apart w 37 4 53 Try.underlying37 11 size61r ⟨vb, 0, none⟩ ⟨g, (k + 1) * 11, none⟩ 1 1 lb cb hvg 53 53 11 kB hka hkB hkB0 hfa hfe]
    rfl
  have hdl := drop_cells rows k
  have hcp1 : ∀ ty dc sc, (Builtin.copy_ #[37, 37] ty #[.slice (some ⟨g, (k + 1) * 11, none⟩) (rows.length + 1 - (k + 1)) dc, .slice (some ⟨g, k * 11, none⟩) (rows.length + 1 - k) sc]).run Try.prog w.drew = .ok (goInt ((rows.length - k : Nat) : Int)) (w.drew.setCells g ((k + 1) * 11) (cellsOfRows (rows.drop k))) := fun ty dc sc =>
    run_copy_k w.drew 37 37 ty 53 g ((k + 1) * 11) (rows.length + 1 - (k + 1)) dc ⟨g, k * 11, none⟩ (rows.length + 1 - k) sc (rows.length - k) 11 (cellsOfRows (rows.drop k)) Try.underlying37 hsz (by simp only [Nat.min_def]; split <;> omega) hdl (own_src (own_drew ho) k (by omega)) (own_there (own_drew hL) _ _ (by rw [hxl, hdl]; omega)) (cellsOfRows_one _)
  have hL1 := own_sets (cellsOfRows (rows.drop k)) ((k + 1) * 11) _ _ (own_drew hL) (by rw [hxl, hdl]; omega)
  have hl1 : (setsL xs ((k + 1) * 11) (cellsOfRows (rows.drop k))).length = (rows.length + 1) * 11 := by rw [setsL_len]; exact hxl
  obtain ⟨W1, hW1⟩ : ∃ W1, W1 = w.drew.setCells g ((k + 1) * 11) (cellsOfRows (rows.drop k)) := ⟨_, rfl⟩
  rw [← hW1] at hcp1 hL1
  have hv1 : VB1 W1 vb r := by rw [hW1]; exact VB1.sets (⟨hv.h⟩ : VB1 w.drew vb r) hvg
  have hcp2 : ∀ ty dc, (Builtin.copy_ #[37, 37] ty #[.slice (some ⟨g, k * 11, none⟩) (rows.length + 1 - k) dc, .slice (some ⟨vb, 0, none⟩) 1 1]).run Try.prog W1 = .ok (goInt 1) (W1.setCells g (k * 11) (rowCells r)) := fun ty dc =>
    run_copy_k W1 37 37 ty 53 g (k * 11) (rows.length + 1 - k) dc ⟨vb, 0, none⟩ 1 1 1 11 (rowCells r) Try.underlying37 hsz (by simp only [Nat.min_def]; split <;> omega) (by rw [rowCells_len]) hv1.src (own_there hL1 _ _ (by rw [hl1, rowCells_len]; omega)) (rowCells_one r)
  have hL2 := own_sets (rowCells r) (k * 11) _ _ hL1 (by rw [hl1, rowCells_len]; omega)
  rw [ins_shift rows k r xs (by omega) hxl (take_rows hxt (by omega))] at hL2
  have hg1 : w.grownBy W1 (some g) := by rw [hW1]; exact grown_sets (b := g) (o := 0) _ _ _ ⟨rfl, rfl, rfl, Nat.le_refl _, fun _ _ _ => rfl⟩
  have hg2 : w.grownBy (W1.setCells g (k * 11) (rowCells r)) (some g) := grown_sets (b := g) (o := 0) _ _ _ hg1
  have HL2 := hide hL2
  have HG2 := hide hg2
  have HC1 := hide hcp1
  have HC2 := hide hcp2
  unfold maxLen at c3
  clear hL2 hg2 hg1 hL1 hl1 hv1 hW1 hL hxt hxl ho hv hka hfa hfe hkB hkB0 c1 c4 c5 hdl hcp1 hcp2 hsz
  generalize cellsOfRows (insR rows k r) = ys at *
  generalize cellsOfRows (rows.drop k) = mv at *
  generalize rows.length = n at *
  have q0 : (0 : Int) ≤ (k : Int) := by omega
  have q1 : (k : Int) ≤ (n : Int) := by omega
  have q2 : ¬ ((k : Int) = (n : Int)) := by omega
  have q3 : ¬ ((cap : Int) < (n : Int) + 1) := by omega
  have q4 : (n : Int) + 1 ≤ (cap : Int) := by omega
  have q5 : (0 : Int) ≤ (k : Int) + 1 := by omega
  have q6 : (k : Int) + 1 ≤ (n : Int) + 1 := by omega
  have q7 : (k : Int) ≤ (n : Int) + 1 := by omega
  have q8 : ((k : Int) + 1).toNat = k + 1 := by omega
  have q9 : ¬ cap = k + 1 := by omega
  have q10 : ¬ cap = k := by omega
  have q11 : ((n : Int) + 1).toNat = n + 1 := by omega
  have q12 : IntKind.i64.wrap ((k : Int) + 1) = (k : Int) + 1 := by rw [IntKind.wrap_i64]; omega
  go_enter Try.func85, Try.ntmps85
  go_wp2_with (simp only [hov])
  go_region_law (refine step_copy_run rfl (.tmp 73) (.tmp 76) 37 37 rfl _ _ (by simp [Act.eval, Act.put]; rfl) (by simp [Act.eval, Act.put]; rfl) (unhide HC1 _ _ _) ?_)
  have hc2 := unhide HC2 3 (cap - k)
  go_wp2_with fail
  go_ret
  exact ⟨g, cap, rfl, unhide HL2, unhide HG2⟩
theorem wpList_append_run {P : Program} (w : World) {ops : Array Oper} {rest : List Oper} {o : Oper} {a : Act} {Q : Exit → Act → World → Prop} (hgd : o.guard = none) (d s : Operand) (t t' : TypeId)
    (ho : o.op = .call { callee := .builtin .append, args := #[d, s], argTypes := #[t, t'] }) (v u : Value) (hd : a.eval d = v) (hs : a.eval s = u) {v' : Value} {w' : World}
    (hr : (Builtin.append_ #[t, t'] o.type #[v, u]).run P w = .ok v' w') (h : ∀ W1, W1 = w' → wpList P ops Q rest (a.put o.dst v') W1) : wpList P ops Q (o :: rest) a w :=
  wpList_plain hgd fun _ hK => by
    unfold Oper.wp execOp
    simp only [ho, resolve, invoke, builtin, Sem.run_bind, Sem.run_pure, Result.andThen_ok, List.map_toArray, List.map_cons, List.map_nil, hd, hs, hr]
    exact hK _ _ (h _ rfl)
theorem grown_new {w : World} {G : Nat} {row : Option Nat} (hG : w.heap.size ≤ G) : ∀ (vs : List Value) (o : Nat) (W : World), w.grownBy W row → w.grownBy (W.setCells G o vs) row
  | [], _, _, h => h
  | u :: r, o, W, h => grown_new hG r (o + 1) _ ⟨h.os, h.tape, h.output, by rw [World.size_setCell]; exact h.size, fun k hk hne => by
      rw [Below.heap_setCell W ⟨G, o, none⟩ u k (by show k ≠ G; omega)]; exact h.block k hk hne⟩
set_option maxRecDepth 100000 in
set_option maxHeartbeats 4000000 in
theorem insert_grow (B g cap k : Nat) (rows : List RowI) (r : RowI) (vb : Nat) (w : World) (hn : rows.length ≤ 1000) (hk : k < rows.length) (hc : cap < rows.length + 1) (hB : B ≤ w.heap.size) (ho : w.ownsRow B 53 11 (.slice (some ⟨g, 0, none⟩) rows.length cap) rows.length (cellsOfRows rows)) (hv : VB1 w vb r) :
    Calls Try.prog 85 #[.slice (some ⟨g, 0, none⟩) rows.length cap, .int .i64 (k : Int), .slice (some ⟨vb, 0, none⟩) 1 1] w fun e w' => ∃ g' c', e = .returned (.slice (some ⟨g', 0, none⟩) (rows.length + 1) c') ∧ w'.ownsRow B 53 11 (.slice (some ⟨g', 0, none⟩) (rows.length + 1) c') (rows.length + 1) (cellsOfRows (insR rows k r)) ∧ w.grownBy w' (some g) := by
  obtain ⟨i61, hi61, hz61, hs61, hb61⟩ := info_parts info61
  obtain ⟨cur, c1, c2, c3, c4, c5⟩ := own_row ho
  have hgl := (ho.lt g rfl).2
  have hsz : (Try.prog.info? 53).map (·.size) = some 11 := size61
  have hkm : k + (rows.length + 1 - k) = rows.length + 1 := by omega
  have hold : (Builtin.firstCells i61.size k (.slice (some ⟨g, 0, none⟩) k cap)).run Try.prog w.drew = .ok (cellsOfRows (rows.take k)).toArray w.drew := by
    rw [hs61]
    refine run_firstCells_some w.drew 11 k ⟨g, 0, none⟩ k cap (cellsOfRows (rows.take k)) (by rw [cellsOfRows_len, List.length_take]; congr 1; omega) (fun j u hj => ?_)
    rw [add_off, Nat.zero_add]
    refine own_cell (own_drew ho) ?_
    rw [← cells_take, List.getElem?_take] at hj
    split at hj
    · exact hj
    · cases hj
  obtain ⟨C, hC⟩ : ∃ C, C = grownCap w (rows.length + 1) cap 53 := ⟨_, rfl⟩
  have hCge : rows.length + 1 ≤ C := by rw [hC]; exact grownCap_ge w _ _ _
  have hCm : C ≤ maxLen := by rw [hC]; exact grownCap_le_maxLen w _ _ _ (by unfold maxLen; omega)
  have hrz : ∀ ty, (Builtin.append_ #[37, 3] ty #[.slice (some ⟨g, 0, none⟩) k cap, .int .i64 ((rows.length + 1 - k : Nat) : Int)]).run Try.prog w =
      .ok (.slice (some ⟨w.heap.size, 0, none⟩) (rows.length + 1) C) (w.drew.alloc (.cells ((cellsOfRows (rows.take k)).toArray ++ Builtin.zeroCells (Value.agg #[.int .i64 0, .int .i64 0, .int .i64 0, .int .i64 0, .int .i64 0, .int .i64 0, .int .i64 0, .int .i64 0, .int .i64 0, .int .i64 0, .int .i64 0]).cells (rows.length + 1 - k) ++ Builtin.zeroCells (Value.agg #[.int .i64 0, .int .i64 0, .int .i64 0, .int .i64 0, .int .i64 0, .int .i64 0, .int .i64 0, .int .i64 0, .int .i64 0, .int .i64 0, .int .i64 0]).cells (C - (rows.length + 1))) 53)) := fun ty => by
    have h := Lib.run_append_grow_zeros w 37 3 ty 53 i61 _ .i64 .i64 Try.underlying37 Try.underlying3 hi61 hz61 (some ⟨g, 0, none⟩) k cap (cellsOfRows (rows.take k)) hold (rows.length + 1 - k) (by omega) (by rw [hs61]; decide) (by omega) (by omega) (by rw [hb61]; omega) (by rw [hb61, hkm]; exact growslice_fits (by omega) (by omega))
    rw [hkm, ← hC] at h
    exact h
  obtain ⟨W1, hW1⟩ : ∃ W1, W1 = w.drew.alloc (.cells ((cellsOfRows (rows.take k)).toArray ++ Builtin.zeroCells (Value.agg #[.int .i64 0, .int .i64 0, .int .i64 0, .int .i64 0, .int .i64 0, .int .i64 0, .int .i64 0, .int .i64 0, .int .i64 0, .int .i64 0, .int .i64 0]).cells (rows.length + 1 - k) ++ Builtin.zeroCells (Value.agg #[.int .i64 0, .int .i64 0, .int .i64 0, .int .i64 0, .int .i64 0, .int .i64 0, .int .i64 0, .int .i64 0, .int .i64 0, .int .i64 0, .int .i64 0]).cells (C - (rows.length + 1))) 53) := ⟨_, rfl⟩
  rw [← hW1] at hrz
  have hlt : (cellsOfRows (rows.take k)).length = k * 11 := by rw [cellsOfRows_len, List.length_take]; congr 1; omega
  obtain ⟨xs, hL1, hxt⟩ : ∃ xs, W1.ownsRow B 53 11 (.slice (some ⟨w.heap.size, 0, none⟩) (rows.length + 1) C) (rows.length + 1) xs ∧ xs.take (k * 11) = cellsOfRows (rows.take k) := by
    have hz11 : ∀ m, (Builtin.zeroCells (Value.agg #[.int .i64 0, .int .i64 0, .int .i64 0, .int .i64 0, .int .i64 0, .int .i64 0, .int .i64 0, .int .i64 0, .int .i64 0, .int .i64 0, .int .i64 0]).cells m).size = m * 11 := fun m => size_zeroCells _ m
    rw [hW1]
    have hsize : ((cellsOfRows (rows.take k)).toArray ++ Builtin.zeroCells (Value.agg #[.int .i64 0, .int .i64 0, .int .i64 0, .int .i64 0, .int .i64 0, .int .i64 0, .int .i64 0, .int .i64 0, .int .i64 0, .int .i64 0, .int .i64 0]).cells (rows.length + 1 - k) ++ Builtin.zeroCells (Value.agg #[.int .i64 0, .int .i64 0, .int .i64 0, .int .i64 0, .int .i64 0, .int .i64 0, .int .i64 0, .int .i64 0, .int .i64 0, .int .i64 0, .int .i64 0]).cells (C - (rows.length + 1))).size = C * 11 := by
      rw [Array.size_append, Array.size_append, hz11, hz11, List.size_toArray, hlt]; omega
    refine ⟨_, ⟨?_, .inr ⟨w.heap.size, C, _, rfl, hB, heap_alloc_new w.drew _, hCge, hCm, hsize, rfl⟩⟩, ?_⟩
    · rw [List.length_take, show ∀ a : Array Value, a.toList.length = a.size from fun _ => Array.length_toList, hsize]
      omega
    · rw [List.take_take, Nat.min_eq_left (by omega), Array.toList_append, Array.toList_append, List.append_assoc]
      conv => lhs; rw [← hlt]
      exact List.take_left
  have hxl : xs.length = (rows.length + 1) * 11 := hL1.1
  have ho1 : W1.ownsRow B 53 11 (.slice (some ⟨g, 0, none⟩) rows.length cap) rows.length (cellsOfRows rows) := by rw [hW1]; exact (own_drew ho).alloc _
  have hg1 : w.grownBy W1 (some g) := by rw [hW1]; exact ⟨rfl, rfl, rfl, by simp, fun k hk _ => Below.heap_alloc w.drew _ k hk⟩
  have hvl : vb < w.heap.size := lt_of_block hv.h
  have hv1 : VB1 W1 vb r := ⟨by rw [hW1]; exact (Below.heap_alloc w.drew _ vb hvl).trans hv.h⟩
  have hcp1 : ∀ ty dc, (Builtin.copy_ #[37, 37] ty #[.slice (some ⟨w.heap.size, k * 11, none⟩) (rows.length + 1 - k) dc, .slice (some ⟨vb, 0, none⟩) 1 1]).run Try.prog W1 = .ok (goInt 1) (W1.setCells w.heap.size (k * 11) (rowCells r)) := fun ty dc =>
    run_copy_k W1 37 37 ty 53 w.heap.size (k * 11) (rows.length + 1 - k) dc ⟨vb, 0, none⟩ 1 1 1 11 (rowCells r) Try.underlying37 hsz (by simp only [Nat.min_def]; split <;> omega) (by rw [rowCells_len]) hv1.src (own_there hL1 _ _ (by rw [hxl, rowCells_len]; omega)) (rowCells_one r)
  have hL2 := own_sets (rowCells r) (k * 11) _ _ hL1 (by rw [hxl, rowCells_len]; omega)
  have ho2 := own_setsOther (b := w.heap.size) (by simp [Value.ownBlock]; omega) (rowCells r) (k * 11) _ ho1
  have hg2 := grown_new (G := w.heap.size) (Nat.le_refl _) (rowCells r) (k * 11) _ hg1
  obtain ⟨W2, hW2⟩ : ∃ W2, W2 = W1.setCells w.heap.size (k * 11) (rowCells r) := ⟨_, rfl⟩
  rw [← hW2] at hcp1 hL2 ho2 hg2
  have hl2 : (setsL xs (k * 11) (rowCells r)).length = (rows.length + 1) * 11 := by rw [setsL_len]; exact hxl
  have hdl := drop_cells rows k
  have hcp2 : ∀ ty dc sc, (Builtin.copy_ #[37, 37] ty #[.slice (some ⟨w.heap.size, (k + 1) * 11, none⟩) (rows.length + 1 - (k + 1)) dc, .slice (some ⟨g, k * 11, none⟩) (rows.length - k) sc]).run Try.prog W2.drew = .ok (goInt ((rows.length - k : Nat) : Int)) (W2.drew.setCells w.heap.size ((k + 1) * 11) (cellsOfRows (rows.drop k))) := fun ty dc sc =>
    run_copy_k W2.drew 37 37 ty 53 w.heap.size ((k + 1) * 11) (rows.length + 1 - (k + 1)) dc ⟨g, k * 11, none⟩ (rows.length - k) sc (rows.length - k) 11 (cellsOfRows (rows.drop k)) Try.underlying37 hsz (by simp only [Nat.min_def]; split <;> omega) hdl (own_src (own_drew ho2) k (by omega)) (own_there (own_drew hL2) _ _ (by rw [hl2, hdl]; omega)) (cellsOfRows_one _)
  have hL3 := own_sets (cellsOfRows (rows.drop k)) ((k + 1) * 11) _ _ (own_drew hL2) (by rw [hl2, hdl]; omega)
  rw [ins_fresh rows k r xs (by omega) hxl hxt] at hL3
  have hg3 : w.grownBy (W2.drew.setCells w.heap.size ((k + 1) * 11) (cellsOfRows (rows.drop k))) (some g) := grown_new (Nat.le_refl _) _ _ _ ⟨hg2.os, hg2.tape, hg2.output, hg2.size, hg2.block⟩
  obtain ⟨W3, hW3⟩ : ∃ W3, W3 = W2.drew.setCells w.heap.size ((k + 1) * 11) (cellsOfRows (rows.drop k)) := ⟨_, rfl⟩
  rw [← hW3] at hcp2 hL3 hg3
  have HL3 := hide hL3
  have HG3 := hide hg3
  have HC1 := hide hcp1
  have HC2 := hide hcp2
  have HRZ := hide hrz
  unfold maxLen at c3 hCm
  clear hL3 hg3 hcp1 hcp2 hrz hW1 hW2 hW3 hL1 hL2 ho1 ho2 hg1 hg2 hv1 hxt hxl hl2 hdl hold hC hlt ho hv c1 c4 c5 hsz hi61 hz61 hs61 hb61
  generalize cellsOfRows (insR rows k r) = ys at *
  generalize rows.length = n at *
  have q0 : (0 : Int) ≤ (k : Int) := by omega
  have q1 : (k : Int) ≤ (n : Int) := by omega
  have q2 : ¬ ((k : Int) = (n : Int)) := by omega
  have q3 : (cap : Int) < (n : Int) + 1 := by omega
  have q5 : (0 : Int) ≤ (k : Int) + 1 := by omega
  have q6 : (k : Int) + 1 ≤ (n : Int) + 1 := by omega
  have q7 : (k : Int) ≤ (n : Int) + 1 := by omega
  have q8 : ((k : Int) + 1).toNat = k + 1 := by omega
  have q9 : ¬ C = k + 1 := by omega
  have q10 : ¬ C = k := by omega
  have q10' : ¬ cap = k := by omega
  have q12 : IntKind.i64.wrap ((k : Int) + 1) = (k : Int) + 1 := by rw [IntKind.wrap_i64]; omega
  have q13 : (k : Int) ≤ (cap : Int) := by omega
  have q14 : (n : Int) + 1 - (k : Int) = ((n + 1 - k : Nat) : Int) := by omega
  have q15 : k ≤ n := by omega
  have hc1 := unhide HC1 3 (C - k)
  go_enter Try.func85, Try.ntmps85
  go_wp2_with (first
    | (at_builtin; refine wpList_append_run _ rfl (.tmp 34) (.tmp 39) 37 3 rfl (.slice (some ⟨g, 0, none⟩) k cap) (.int .i64 ((n + 1 - k : Nat) : Int)) rfl (by first | rfl | simp [Act.eval, q14]) (unhide HRZ _) ?_; intro W1' hW1'; obtain rfl := hW1'))
  go_region_law (refine step_copy_run rfl (.tmp 50) (.tmp 53) 37 37 rfl _ _ (by simp [Act.eval, Act.put]; rfl) (by simp [Act.eval, Act.put]; rfl) (unhide HC2 _ _ _) ?_)
  go_wp2_with fail
  go_ret
  exact ⟨w.heap.size, C, rfl, unhide HL3, unhide HG3⟩
theorem insert_any (B : Nat) (A : Option Addr) (cap k : Nat) (rows : List RowI) (r : RowI) (vb : Nat) (w : World) (hn : rows.length ≤ 1000) (hk : k ≤ rows.length) (hB : B ≤ w.heap.size) (hvb : ∀ c o, A = some ⟨c, o, none⟩ → vb ≠ c) (ho : w.ownsRow B 53 11 (.slice A rows.length cap) rows.length (cellsOfRows rows)) (hv : VB1 w vb r) :
    Calls Try.prog 85 #[.slice A rows.length cap, .int .i64 (k : Int), .slice (some ⟨vb, 0, none⟩) 1 1] w fun e w' => ∃ g' c', e = .returned (.slice (some ⟨g', 0, none⟩) (rows.length + 1) c') ∧ w'.ownsRow B 53 11 (.slice (some ⟨g', 0, none⟩) (rows.length + 1) c') (rows.length + 1) (cellsOfRows (insR rows k r)) ∧ w.grownBy w' (Value.slice A rows.length cap).ownBlock := by
  by_cases h : k = rows.length
  · subst h
    rw [insR_end]
    exact insert_end B A cap rows r vb w hn hB ho hv
  · obtain ⟨g, c, hA, _⟩ := own_pos ho (by omega)
    simp only [Value.slice.injEq, true_and] at hA
    obtain ⟨rfl, rfl⟩ := hA
    by_cases hc : rows.length + 1 ≤ cap
    · exact insert_shift B g cap k rows r vb w (by omega) hc (hvb g 0 rfl) ho hv
    · exact insert_grow B g cap k rows r vb w hn (by omega) (by omega) hB ho hv
end Go.Proofs.Ytnbleebilmghcab
namespace Go.Proofs.Ytnbleebilmghcab
open Go.RowKit
theorem Try.info3 : (Try.prog.info? 3).map (fun i => (i.zero, i.size, i.bytes)) = some (some (.int .i64 0), 1, 8) := by kernel_rfl
theorem has_right (a : Int) (k : Nat) (w : World) (h0 : 0 ≤ a) (h1 : a ≤ 255) (hk : k < 8) :
    Calls Try.prog 60 #[.int .i64 a, .int .i64 (k : Int)] w fun e w' => e = .returned (.bool (tb a k)) ∧ w' = w := by
  have := has_any a (k : Int) w
  rwa [has_tb a k h0 h1 hk] at this
theorem new_one (w : World) (x : Value) (t : TypeId) : ∀ j u, [x][j]? = some u → (w.alloc (.cells #[x] t)).cell? ((⟨w.heap.size, 0, none⟩ : Addr).add j) = some u := by
  intro j u hj
  match j, hj with
  | 0, hj => simp at hj; subst hj; simp [Addr.add]
theorem one_cell (k : IntKind) (n : Int) : ∀ u ∈ [Value.int k n], u.oneCell' = true := by
  intro u hu; simp at hu; subst hu; rfl
theorem rel_app {a : Int} {k : Nat} {w wr w1 : World} {v v' : Value} (ht : tb a k = true) (hbel : Below w.heap.size w wr)
    (hown : wr.ownsRow w.heap.size 3 1 v (lstTo a k).length ((lstTo a k).map (Value.int .i64)))
    (hown' : w1.ownsRow w.heap.size 3 1 v' ((lstTo a k).length + 1) ((lstTo a k).map (Value.int .i64) ++ [.int .i64 (k : Int)]))
    (hgrow : (wr.alloc (.cells #[.int .i64 (k : Int)] 3)).grownBy w1 v.ownBlock) :
    w1.ownsRow w.heap.size 3 1 v' (lstTo a (k + 1)).length ((lstTo a (k + 1)).map (Value.int .i64)) ∧ Below w.heap.size w w1 := by
  constructor
  · rw [lst_succ, if_pos ht]; simpa using hown'
  · have hb2 : Below w.heap.size w (wr.alloc (.cells #[.int .i64 (k : Int)] 3)) := hbel.alloc hbel.size _
    exact hb2.grown hgrow hb2.size (fun g hg => (hown.lt g hg).1)
set_option maxRecDepth 8000 in
set_option maxHeartbeats 400000 in
theorem list_any (a : Int) (w : World) (h0 : 0 ≤ a) (h1 : a ≤ 255) :
    Calls Try.prog 91 #[.int .i64 a] w fun e w' => ∃ v, e = .returned v ∧ w'.ownsRow w.heap.size 3 1 v (lstTo a 8).length ((lstTo a 8).map (Value.int .i64)) ∧ Below w.heap.size w w' := by
  obtain ⟨i0, hi, hz0, hz1, hz2⟩ := info_parts Try.info3
  have hl8 := lst_len a 8
  go_enter Try.func91, Try.ntmps91
  go_wp2_with (first
    | (go_at_call 92; refine (count_any _ _ h0 h1).mono ?_; rintro e w1 ⟨rfl, hw⟩; obtain rfl := hw.symm)
    | (at_make; refine wpList_make_own _ rfl _ _ 38 rfl w.heap.size 3 i0 (.int .i64 0) 1 Try.underlying38 hi hz0 hz1 .i64 .i64 _ (lstTo a 8).length rfl rfl rfl (by rw [hz2]; omega) (by unfold maxLen; omega) (Nat.le_refl _) ?_; intro w0 hown0 hgrow0))
  have hb0 : Below w.heap.size w w0 := (Below.refl _ _).grown hgrow0 (Nat.le_refl _) (fun _ h => by cases h)
  go_loopw [3, 8] (fun v i wr => ∃ k : Nat, k ≤ 8 ∧ i = .int .i64 k ∧ wr.ownsRow w.heap.size 3 1 v (lstTo a k).length ((lstTo a k).map (Value.int .i64)) ∧ Below w.heap.size w wr) (fun _ i _ => 8 - (intOf i).toNat)
  case atStart => exact ⟨0, Nat.zero_le _, rfl, hown0, hb0⟩
  case round =>
    obtain ⟨k, hk, rfl, hown, hbel⟩ := hrel
    clear hown0 hgrow0 hb0
    have hlk := lst_len a k
    have hsz := hbel.size
    by_cases hlt : k < 8
    · cases ht : tb a k
      · have hc := has_right a k wr h0 h1 hlt
        rw [ht] at hc
        have HC := hide hc
        have HT := hide ht
        clear hc ht
        go_wp2_with (first | (go_at_call 60; refine (unhide HC).mono ?_; rintro e w1 ⟨rfl, hw⟩; obtain rfl := hw.symm))
        go_roundw
        case rel => exact ⟨k + 1, by omega, by go_num, by rw [lst_succ, if_neg (by rw [unhide HT]; decide)]; exact hown, hbel⟩
        case measure => simp [intOf]; omega
      · have hc := has_right a k wr h0 h1 hlt
        rw [ht] at hc
        have HC := hide hc
        have HT := hide ht
        clear hc ht
        go_wp2_with (first
          | (go_at_call 60; refine (unhide HC).mono ?_; rintro e w1 ⟨rfl, hw⟩; obtain rfl := hw.symm)
          | (at_builtin; refine wpList_append_own _ rfl _ _ 38 rfl w.heap.size 3 i0 (.int .i64 0) 1 8 Try.underlying38 hi hz0 hz1 hz2 rfl (by decide) _ _ _ rfl (hown.alloc _) ⟨wr.heap.size, 0, none⟩ 1 1 [.int .i64 (k : Int)] rfl rfl (new_one _ _ _) (one_cell _ _) (by unfold maxLen; omega) (by omega) (by simp; omega) ?_; intro v' w1 hown' hgrow _))
        have R := rel_app (unhide HT) hbel hown hown' hgrow
        clear hown' hgrow hown hbel
        go_wp2
        go_roundw
        case rel => exact ⟨k + 1, by omega, by go_num, R.1, R.2⟩
        case measure => simp [intOf]; omega
    · obtain rfl : k = 8 := by omega
      have HO := hide hown
      clear hown
      go_wp2
      go_ret
      exact ⟨_, rfl, unhide HO, hbel⟩
theorem run_ix (a : Int) (k : Nat) (w : World) (hk : k < 8) :
    Sem.run Try.prog (Instr.index 92 (.agg (arr a)) (.int .i64 (k : Int))) w = .ok (.bool (tb a k)) w := by
  rcases (by omega : k = 0 ∨ k = 1 ∨ k = 2 ∨ k = 3 ∨ k = 4 ∨ k = 5 ∨ k = 6 ∨ k = 7) with rfl | rfl | rfl | rfl | rfl | rfl | rfl | rfl
  all_goals simp [Instr.index, go_sem, arr]
end Go.Proofs.Ytnbleebilmghcab
namespace Go.Proofs.Ytnbleebilmghcab
open Go Go.RowKit
attribute [local go_sem ↓] Go.wp_at_zero Go.wp_at_succ
theorem info4 : (Try.prog.info? 4).map (fun i => (i.zero, i.size, i.bytes)) = some (some (.bool false), 1, 1) := by kernel_rfl
theorem size4 : (Try.prog.info? 4).map (·.size) = some 1 := by kernel_rfl
def usedB (rows : List RowI) (j i : Nat) : Bool := (rows.take j).any fun x => x.ix == (i : Int)
def usedL (rows : List RowI) (gn j : Nat) : List Value := (List.range gn).map fun i => Value.bool (usedB rows j i)
theorem usedL_len (rows : List RowI) (gn j : Nat) : (usedL rows gn j).length = gn := by simp [usedL]
theorem usedB_succ (rows : List RowI) (j i : Nat) (h : j < rows.length) : usedB rows (j + 1) i = (usedB rows j i || (rows.getD j dR).ix == (i : Int)) := by
  unfold usedB
  rw [List.take_succ_eq_append_getElem h, List.any_append, List.getD_eq_getElem?_getD, List.getElem?_eq_getElem h]; simp
theorem usedL_skip (rows : List RowI) (gn j : Nat) (h : j < rows.length) (hx : (rows.getD j dR).ix < 0 ∨ (gn : Int) ≤ (rows.getD j dR).ix) : usedL rows gn (j + 1) = usedL rows gn j := by
  unfold usedL
  refine List.map_congr_left fun i hi => ?_
  rw [List.mem_range] at hi
  rw [usedB_succ rows j i h]
  have : ((rows.getD j dR).ix == (i : Int)) = false := by rw [beq_eq_false_iff_ne]; omega
  rw [this]; simp
theorem usedL_set (rows : List RowI) (gn j q : Nat) (h : j < rows.length) (hq : q < gn) (hx : (rows.getD j dR).ix = (q : Int)) : usedL rows gn (j + 1) = (usedL rows gn j).set q (.bool true) := by
  apply List.ext_getElem?
  intro i
  by_cases hi : i < gn
  · have e1 : (usedL rows gn (j + 1))[i]? = some (.bool (usedB rows (j + 1) i)) := by unfold usedL; rw [List.getElem?_map, List.getElem?_range hi]; rfl
    have e2 : (usedL rows gn j)[i]? = some (.bool (usedB rows j i)) := by unfold usedL; rw [List.getElem?_map, List.getElem?_range hi]; rfl
    rw [e1, usedB_succ rows j i h, hx]
    by_cases e : q = i
    · subst e
      rw [List.getElem?_set_self (by rw [usedL_len]; exact hq)]; simp
    · rw [List.getElem?_set_ne e, e2]
      have : ((q : Int) == (i : Int)) = false := by simp; omega
      rw [this]; simp
  · rw [List.getElem?_eq_none (by rw [usedL_len]; omega), List.getElem?_eq_none (by rw [List.length_set, usedL_len]; omega)]
theorem usedL_start (rows : List RowI) (gn : Nat) : (madeCells (Value.bool false).cells (gn * 1)).toList = usedL rows gn 0 := by
  apply List.ext_getElem?
  intro i
  unfold usedL usedB
  by_cases hi : i < gn
  · rw [List.getElem?_map, List.getElem?_range hi]
    simp [madeCells, hi, Value.cells, Nat.mod_one]
  · rw [List.getElem?_eq_none (by simp [madeCells]; omega), List.getElem?_eq_none (by simp; omega)]
theorem usedL_at (rows : List RowI) (gn j i : Nat) (h : i < gn) : (usedL rows gn j)[i]? = some (.bool (usedB rows j i)) := by unfold usedL; rw [List.getElem?_map, List.getElem?_range h]; rfl
structure NW1 (w : World) (u0 u1 : Value) (W : World) : Prop where
  bel : Below w.heap.size w W
  sz : w.heap.size + 1 ≤ W.heap.size
  r0 : W.cell? ⟨w.heap.size, 0, none⟩ = some u0
  r1 : W.cell? ⟨w.heap.size, 1, none⟩ = some u1
theorem NW1.keep {w W W1 : World} {u0 u1 : Value} (h : NW1 w u0 u1 W) (hb : Below (w.heap.size + 1) W W1) : NW1 w u0 u1 W1 :=
  ⟨h.bel.trans (hb.mono (by omega)), Nat.le_trans h.sz hb.size, (hb.cell (p := ⟨w.heap.size, 0, none⟩) (by simp)).trans h.r0, (hb.cell (p := ⟨w.heap.size, 1, none⟩) (by simp)).trans h.r1⟩
theorem NW1.below {w W W1 : World} {u0 u1 : Value} (h : NW1 w u0 u1 W) (hb : Below W.heap.size W W1) : NW1 w u0 u1 W1 := h.keep (hb.mono h.sz)
theorem NW1.start (w : World) (u0 u1 : Value) : NW1 w u0 u1 (w.alloc (.cells #[u0, u1] 40)) := ⟨(Below.refl _ _).alloc (Nat.le_refl _) _, by simp, by simp, by simp⟩
set_option maxRecDepth 8000 in
set_option maxHeartbeats 2000000 in
theorem inUse_any (A : Option Addr) (cap : Nat) (G : Option Addr) (gcap : Nat) (X : Wd) (w : World) (hn : X.rows.length ≤ 140737488355328) (hgn : X.gens.length ≤ 140737488355328) (hX : WldAt w A cap G gcap X) :
    Calls Try.prog 100 #[wldV A cap G gcap X] w fun e w' => ∃ u, e = .returned (.slice (some ⟨u, 0, none⟩) X.gens.length X.gens.length) ∧ w'.ownsRow (w.heap.size + 1) 4 1 (.slice (some ⟨u, 0, none⟩) X.gens.length X.gens.length) X.gens.length (usedL X.rows X.gens.length X.rows.length) ∧ Below w.heap.size w w' := by
  obtain ⟨i4, hi4, hz4, hs4, hb4⟩ := info_parts info4
  have HI := hide hi4
  have HZ := hide hz4
  have HS := hide hs4
  have hbb : i4.bytes * X.gens.length ≤ 281474976710656 := by rw [hb4]; omega
  have HBB := hide hbb
  have HN := hide (NW1.start w (.slice A X.rows.length cap) (.slice G X.gens.length gcap))
  have HX := hide hX
  have HUS := hide (usedL_start X.rows X.gens.length)
  clear hi4 hz4 hs4 hb4 hbb hX
  unfold wldV worldV
  go_enter Try.func100, Try.ntmps100
  go_wp2_with (first
    | (at_make; refine wpList_make_full _ rfl (.tmp 8) (.tmp 8) 143 rfl (w.heap.size + 1) 4 i4 (.bool false) 1 Try.underlying143 (unhide HI) (unhide HZ) (unhide HS) .i64 .i64 (X.gens.length : Int) (X.gens.length : Int) X.gens.length rfl rfl rfl rfl (unhide HBB) (by unfold maxLen; omega) (unhide HN).sz ?_; intro w3 ho3 hg3; have hN3 := (unhide HN).keep (grown_below hg3 (fun k hk => by cases hk) (unhide HN).sz); rw [unhide HUS] at ho3; have HO3 := hide ho3; have r0 := hN3.r0; have r1 := hN3.r1; have HN3 := hide hN3; clear ho3 hg3 hN3 HN))
  clear r0 r1
  have ho3 : w3.ownsRow (w.heap.size + 1) 4 1 (.slice (some ⟨w.heap.size + 1, 0, none⟩) X.gens.length X.gens.length) X.gens.length (usedL X.rows X.gens.length 0) := by simpa using unhide HO3
  have HO4 := hide ho3
  clear ho3 HO3 HUS
  go_loopw [13] (fun i wr => ∃ j : Nat, j ≤ X.rows.length ∧ i = .int .i64 j ∧ wr.ownsRow (w.heap.size + 1) 4 1 (.slice (some ⟨w.heap.size + 1, 0, none⟩) X.gens.length X.gens.length) X.gens.length (usedL X.rows X.gens.length j) ∧ NW1 w (.slice A X.rows.length cap) (.slice G X.gens.length gcap) wr) (fun i _ => X.rows.length - (intOf i).toNat)
  case atStart => exact ⟨0, Nat.zero_le _, rfl, unhide HO4, unhide HN3⟩
  case round =>
    clear HO4 HN3
    obtain ⟨j, hj, rfl, ho, hN⟩ := hrel
    by_cases hlt : j < X.rows.length
    · have j0 : (0 : Int) ≤ (j : Int) := by omega
      have j1 : (j : Int) < (X.rows.length : Int) := by omega
      obtain ⟨b, off, hA, hrow⟩ := (unhide HX).rows j hlt
      have hrow : RowAt wr b (off + j * 11) (X.rows.getD j dR) := hrow.below hN.bel
      have c0 := hrow.c0
      have c1 := hrow.c1
      have c2 := hrow.c2
      have c3 := hrow.v 0 (by omega)
      have c4 := hrow.v 1 (by omega)
      have c5 := hrow.v 2 (by omega)
      have c6 := hrow.v 3 (by omega)
      have c7 := hrow.v 4 (by omega)
      have c8 := hrow.v 5 (by omega)
      have c9 := hrow.v 6 (by omega)
      have c10 := hrow.v 7 (by omega)
      simp only [Nat.add_assoc, Nat.reduceAdd] at c3 c4 c5 c6 c7 c8 c9 c10
      simp only [← Nat.add_assoc] at c3 c4 c5 c6 c7 c8 c9 c10
      have HSK := hide (usedL_skip X.rows X.gens.length j hlt)
      have HST := hide (fun q hq => usedL_set X.rows X.gens.length j q hlt hq)
      have HLN := hide (usedL_len X.rows X.gens.length j)
      subst hA
      have HO := hide ho
      have HN := hide hN
      clear ho hN hrow HX
      generalize X.rows.getD j dR = x at *
      have hc : x.ix < 0 ∨ (¬ x.ix < 0 ∧ (X.gens.length : Int) ≤ x.ix) ∨ ∃ q : Nat, q < X.gens.length ∧ x.ix = (q : Int) := by
        by_cases h1 : x.ix < 0
        · exact .inl h1
        · by_cases h2 : (X.gens.length : Int) ≤ x.ix
          · exact .inr (.inl ⟨h1, h2⟩)
          · exact .inr (.inr ⟨x.ix.toNat, by omega, by omega⟩)
      rcases hc with h1 | ⟨h1, h2⟩ | ⟨q, hq, hx⟩
      · have h1' : ¬ (0 : Int) ≤ x.ix := by omega
        go_wp2
        go_roundw
        case rel => exact ⟨j + 1, by omega, by go_num, by rw [unhide HSK (.inl h1)]; exact (unhide HO).alloc _, (unhide HN).below ((Below.refl _ _).alloc (Nat.le_refl _) _)⟩
        case measure => simp [intOf]; omega
      · have h1' : (0 : Int) ≤ x.ix := by omega
        have h2' : ¬ x.ix < (X.gens.length : Int) := by omega
        go_wp2
        go_roundw
        case rel => exact ⟨j + 1, by omega, by go_num, by rw [unhide HSK (.inr h2)]; exact (unhide HO).alloc _, (unhide HN).below ((Below.refl _ _).alloc (Nat.le_refl _) _)⟩
        case measure => simp [intOf]; omega
      · obtain ⟨ix, gen, has, v⟩ := x
        dsimp only at *
        subst hx
        have q0 : (0 : Int) ≤ (q : Int) := by omega
        have q1 : (q : Int) < (X.gens.length : Int) := by omega
        go_wp2_with (first
          | (refine wpList_put1 rfl 4 (.tmp 33) (.const (.bool true)) rfl (w.heap.size + 1) q (.bool true) rfl rfl rfl size4 (own_there ((unhide HO).alloc _) q 1 (by rw [unhide HLN]; omega)) ?_; intro W2 hW2; have HW2 := hide hW2; clear hW2))
        go_roundw
        case rel => exact ⟨j + 1, by omega, by go_num, by rw [unhide HST q hq rfl, unhide HW2]; exact own_set ((unhide HO).alloc _) (by rw [unhide HLN]; exact hq) _, by rw [unhide HW2]; exact ((unhide HN).below ((Below.refl _ _).alloc (Nat.le_refl _) _)).keep ((Below.refl _ _).setCell (p := ⟨w.heap.size + 1, q, none⟩) (Nat.le_refl _) _)⟩
        case measure => simp [intOf]; omega
    · obtain rfl : j = X.rows.length := by omega
      have HO := hide ho
      have HB := hide hN.bel
      clear ho hN HX
      go_wp2
      go_ret
      exact ⟨w.heap.size + 1, rfl, unhide HO, unhide HB⟩
def nxTo (X : Wd) : Nat → Nat → (Int × Int) × Int
  | 0, _ => if 60 ≤ X.gens.length then ((0, 0), 4) else ((((X.gens.length : Nat) : Int), 1), 0)
  | m + 1, j => if usedB X.rows X.rows.length j = false ∧ X.gens.getD j 0 < 1000 then ((((j : Nat) : Int), X.gens.getD j 0 + 1), 0) else nxTo X m (j + 1)
end Go.Proofs.Ytnbleebilmghcab
namespace Go.Proofs.Ytnbleebilmghcab
open Go Go.RowKit
attribute [local go_sem ↓] Go.wp_at_zero Go.wp_at_succ
theorem size40 : (Try.prog.info? 50).map (·.size) = some 2 := by kernel_rfl
def nextF (X : Wd) : (Int × Int) × Int := nxTo X X.gens.length 0
theorem nxTo_step (X : Wd) (n j : Nat) (h : j < n) : nxTo X (n - j) j = if usedB X.rows X.rows.length j = false ∧ X.gens.getD j 0 < 1000 then ((((j : Nat) : Int), X.gens.getD j 0 + 1), 0) else nxTo X (n - (j + 1)) (j + 1) := by
  rw [show n - j = (n - (j + 1)) + 1 by omega, nxTo]
set_option maxRecDepth 8000 in
set_option maxHeartbeats 2000000 in
theorem next_any (A : Option Addr) (cap : Nat) (G : Option Addr) (gcap : Nat) (X : Wd) (w : World) (hn : X.rows.length ≤ 140737488355328) (hgn : X.gens.length ≤ 140737488355328) (hgv : ∀ j, j < X.gens.length → -9223372036854775808 ≤ X.gens.getD j 0) (hX : WldAt w A cap G gcap X) :
    Calls Try.prog 83 #[wldV A cap G gcap X] w fun e w' => e = .returned (.tuple #[beingV (nextF X).1.1 (nextF X).1.2, .int .i64 (nextF X).2]) ∧ Below w.heap.size w w' := by
  obtain ⟨W1, hW1⟩ : ∃ W, W = w.alloc (.cells #[.slice A X.rows.length cap, .slice G X.gens.length gcap] 40) := ⟨_, rfl⟩
  have z1 : W1.heap.size = w.heap.size + 1 := by rw [hW1]; simp
  have b1 : Below w.heap.size w W1 := by rw [hW1]; go_grown
  obtain ⟨y0, y1, yf, yb⟩ := new_box (W := W1) (u0 := .int .i64 0) (u1 := .int .i64 0) (t := 50) z1
  have hAB : AB w (w.heap.size + 1) (.int .i64 0) (.int .i64 0) (W1.alloc (.cells #[.int .i64 0, .int .i64 0] 50)) := ⟨b1.trans (yb.mono b1.size), by omega, y0, y1, yf⟩
  have hN : NW1 w (.slice A X.rows.length cap) (.slice G X.gens.length gcap) (W1.alloc (.cells #[.int .i64 0, .int .i64 0] 50)) := (hW1 ▸ NW1.start w _ _ : NW1 w (.slice A X.rows.length cap) (.slice G X.gens.length gcap) W1).below yb
  have hC := inUse_any A cap G gcap X (W1.alloc (.cells #[.int .i64 0, .int .i64 0] 50)) hn hgn (hX.below hAB.bel)
  rw [hW1] at hC hAB hN
  have HC := hide hC
  have HAB := hide hAB
  have HN := hide hN
  have HG := hide hX.gens
  have HGV := hide hgv
  have HU := hide (fun i h => usedL_at X.rows X.gens.length X.rows.length i h)
  clear hC hAB hN hW1 z1 b1 y0 y1 yf yb hX hgv
  unfold wldV worldV beingV nextF at *
  go_enter Try.func83, Try.ntmps83
  go_wp2_with (first
    | (go_at_call 100; refine (unhide HC).mono ?_; rintro e w5 ⟨u, rfl, ho5, hb5⟩; have hN5 := (unhide HN).below hb5; have r1 := hN5.r1; have HO5 := hide ho5; have HA5 := hide ((unhide HAB).below hb5); have HN5 := hide hN5; clear ho5 hb5 hN5))
  clear r1
  go_loop [12] (fun i => ∃ j : Nat, j ≤ X.gens.length ∧ i = .int .i64 j ∧ nxTo X X.gens.length 0 = nxTo X (X.gens.length - j) j) (fun i => X.gens.length - (intOf i).toNat)
  case atStart => exact ⟨0, Nat.zero_le _, rfl, rfl⟩
  case round =>
    obtain ⟨j, hj, rfl, hF⟩ := hrel
    have HF := hide hF
    clear hF
    by_cases hlt : j < X.gens.length
    · have j0 : (0 : Int) ≤ (j : Int) := by omega
      have j1 : (j : Int) < (X.gens.length : Int) := by omega
      obtain ⟨b, off, hGe, hg⟩ := (unhide HG) j hlt
      have hg : w5.cell? ⟨b, off + j, none⟩ = some (.int .i64 (X.gens.getD j 0)) := keep_below (unhide HN5).bel hg
      have hub := own_cell (unhide HO5) (unhide HU j hlt)
      have hgv := unhide HGV j hlt
      have HS := hide (nxTo_step X X.gens.length j hlt)
      subst hGe
      clear HG HGV HU
      generalize X.gens.getD j 0 = gj at *
      generalize usedB X.rows X.rows.length j = ub at *
      have hc : ub = true ∨ (ub = false ∧ gj < 1000) ∨ (ub = false ∧ ¬ gj < 1000) := by
        cases ub
        · by_cases h : gj < 1000
          · exact .inr (.inl ⟨rfl, h⟩)
          · exact .inr (.inr ⟨rfl, h⟩)
        · exact .inl rfl
      rcases hc with rfl | ⟨rfl, hg1⟩ | ⟨rfl, hg1⟩
      · go_wp2
        go_round
        case rel => exact ⟨j + 1, by omega, by go_num, (unhide HF).trans ((unhide HS).trans (by simp))⟩
        case measure => simp [intOf]; omega
      · go_wp2_with (first
          | (refine wpList_putN rfl 50 (.tmp 2) (.tmp 29) rfl (w.heap.size + 1) 0 [.int .i64 (j : Int), .int .i64 (gj + 1)] rfl rfl (by simp [Value.oneCell']) size40 (unhide HA5).there ?_; intro W3 hW3; have hA6 := (unhide HA5).give (.int .i64 (j : Int)) (.int .i64 (gj + 1)); rw [← hW3] at hA6; have HA6 := hide hA6; clear hW3 hA6))
        have t0 := (unhide HA6).t0
        have t1 := (unhide HA6).t1
        have hv := (unhide HF).trans ((unhide HS).trans (if_pos (by simpa using hg1)))
        refine bodyPost_ret (v := .tuple #[.agg #[.int .i64 (j : Int), .int .i64 (gj + 1)], .int .i64 0]) (by simp [results, Try.results83, go_sem, t0, t1]) rfl ⟨by rw [hv], (unhide HA6).bel⟩
      · go_wp2
        go_round
        case rel => exact ⟨j + 1, by omega, by go_num, (unhide HF).trans ((unhide HS).trans (if_neg (fun h => hg1 h.2)))⟩
        case measure => simp [intOf]; omega
    · obtain rfl : j = X.gens.length := by omega
      have hv0 : nxTo X X.gens.length 0 = if 60 ≤ X.gens.length then ((0, 0), 4) else ((((X.gens.length : Nat) : Int), 1), 0) := by rw [unhide HF, Nat.sub_self]; rfl
      have HV := hide hv0
      have r1 := (unhide HN5).r1
      clear HG HGV HU HF hv0
      by_cases h60 : 60 ≤ X.gens.length
      · have h60' : (60 : Int) ≤ (X.gens.length : Int) := by omega
        go_wp2_with (first
          | (refine wpList_putN rfl 50 (.tmp 2) (.tmp 35) rfl (w.heap.size + 1) 0 [.int .i64 0, .int .i64 0] rfl rfl (by simp [Value.oneCell']) size40 (unhide HA5).there ?_; intro W3 hW3; have hA6 := (unhide HA5).give (.int .i64 0) (.int .i64 0); rw [← hW3] at hA6; have HA6 := hide hA6; clear hW3 hA6))
        have t0 := (unhide HA6).t0
        have t1 := (unhide HA6).t1
        have hv := (unhide HV).trans (if_pos h60)
        refine bodyPost_ret (v := .tuple #[.agg #[.int .i64 0, .int .i64 0], .int .i64 4]) (by simp [results, Try.results83, go_sem, t0, t1]) rfl ⟨by rw [hv], (unhide HA6).bel⟩
      · have h60' : ¬ (60 : Int) ≤ (X.gens.length : Int) := by omega
        go_wp2_with (first
          | (refine wpList_putN rfl 50 (.tmp 2) (.tmp 39) rfl (w.heap.size + 1) 0 [.int .i64 (X.gens.length : Int), .int .i64 1] rfl rfl (by simp [Value.oneCell']) size40 (unhide HA5).there ?_; intro W3 hW3; have hA6 := (unhide HA5).give (.int .i64 (X.gens.length : Int)) (.int .i64 1); rw [← hW3] at hA6; have HA6 := hide hA6; clear hW3 hA6))
        have t0 := (unhide HA6).t0
        have t1 := (unhide HA6).t1
        have hv := (unhide HV).trans (if_neg h60)
        refine bodyPost_ret (v := .tuple #[.agg #[.int .i64 (X.gens.length : Int), .int .i64 1], .int .i64 0]) (by simp [results, Try.results83, go_sem, t0, t1]) rfl ⟨by rw [hv], (unhide HA6).bel⟩
def gtIx (R : Nat → RowI) (i : Int) : Nat → Nat → Int
  | 0, _ => -1
  | n + 1, j => if i < (R j).ix then (j : Int) else gtIx R i n (j + 1)
theorem gtIx_step (R : Nat → RowI) (i : Int) (n j : Nat) (h : j < n) : gtIx R i (n - j) j = if i < (R j).ix then (j : Int) else gtIx R i (n - (j + 1)) (j + 1) := by
  rw [show n - j = (n - (j + 1)) + 1 by omega, gtIx]
set_option maxRecDepth 8000 in
set_option maxHeartbeats 400000 in
theorem place1_any (x : RowI) (i : Int) (b : Nat) (w : World) (h0 : w.cell? ⟨b, 0, none⟩ = some (.int .i64 i)) :
    Calls Try.prog 104 #[rowV x, .pointer (some ⟨b, 0, none⟩)] w fun e w' => e = .returned (.bool (decide (i < x.ix))) ∧ Below w.heap.size w w' := by
  have hz : b < w.heap.size := World.block_lt_of_cell? w _ h0
  unfold rowV
  go_enter Try.func104, Try.ntmps104
  go_wp2
  all_goals
    go_ret
    exact ⟨by simp [*], by go_grown⟩
set_option maxRecDepth 8000 in
set_option maxHeartbeats 1000000 in
theorem indexPlace_any (A : Option Addr) (n cap : Nat) (R : Nat → RowI) (i : Int) (b : Nat) (w : World) (hn : n ≤ 140737488355328) (hR : RowsAt w A n R) (h0 : w.cell? ⟨b, 0, none⟩ = some (.int .i64 i)) :
    Calls Try.prog 103 #[.slice A n cap, .func (.func 104) #[] #[.pointer (some ⟨b, 0, none⟩)]] w fun e w' => e = .returned (.int .i64 (gtIx R i n 0)) ∧ Below w.heap.size w w' := by
  have HR := hide hR
  have HB0 := hide h0
  clear hR h0
  go_enter Try.func103, Try.ntmps103
  go_wp2
  go_loopw [8] (fun x wr => ∃ j : Nat, j ≤ n ∧ x = .int .i64 j ∧ gtIx R i n 0 = gtIx R i (n - j) j ∧ Below w.heap.size w wr) (fun x _ => n - (intOf x).toNat)
  case atStart => exact ⟨0, Nat.zero_le _, rfl, rfl, Below.refl _ _⟩
  case round =>
    obtain ⟨j, hj, rfl, hF, hbr⟩ := hrel
    have HF := hide hF
    clear hF
    by_cases hlt : j < n
    · have j0 : (0 : Int) ≤ (j : Int) := by omega
      have j1 : (j : Int) < (n : Int) := by omega
      obtain ⟨b', off, rfl, hrow⟩ := unhide HR j hlt
      have hrow := hrow.below hbr
      have c0 := hrow.c0
      have c1 := hrow.c1
      have c2 := hrow.c2
      have c3 := hrow.v 0 (by omega)
      have c4 := hrow.v 1 (by omega)
      have c5 := hrow.v 2 (by omega)
      have c6 := hrow.v 3 (by omega)
      have c7 := hrow.v 4 (by omega)
      have c8 := hrow.v 5 (by omega)
      have c9 := hrow.v 6 (by omega)
      have c10 := hrow.v 7 (by omega)
      simp only [Nat.add_assoc, Nat.reduceAdd] at c3 c4 c5 c6 c7 c8 c9 c10
      simp only [← Nat.add_assoc] at c3 c4 c5 c6 c7 c8 c9 c10
      have HS := hide (gtIx_step R i n j hlt)
      have HC := hide (place1_any (R j) i b wr (keep_below hbr (unhide HB0)))
      have HBR := hide hbr
      clear hrow hbr HR HB0
      by_cases ok : i < (R j).ix
      all_goals
        try (have hok : decide (i < (R j).ix) = true := by simpa using ok)
        try (have hok : decide (i < (R j).ix) = false := by simpa using ok)
        rw [hok] at HC
        go_wp2_with (first
          | (go_at_call 104; refine (unhide HC).mono ?_; rintro e w5 ⟨rfl, hb5⟩; have HB5 := hide ((unhide HBR).trans (hb5.mono (unhide HBR).size)); clear hb5))
        first
        | (go_ret
           have hv : gtIx R i n 0 = (j : Int) := (unhide HF).trans ((unhide HS).trans (if_pos (by omega)))
           rw [hv]
           exact ⟨rfl, unhide HB5⟩)
        | (go_roundw
           case rel => exact ⟨j + 1, by omega, by go_num, (unhide HF).trans ((unhide HS).trans (if_neg (by omega))), unhide HB5⟩
           case measure => simp [intOf]; omega)
    · obtain rfl : j = n := by omega
      have hv : gtIx R i j 0 = -1 := by rw [unhide HF, Nat.sub_self]; rfl
      have HB := hide hbr
      clear hbr HR HB0
      go_wp2
      go_ret
      rw [hv]
      exact ⟨rfl, unhide HB⟩
def placeN (rows : List RowI) (i : Int) : Nat := if gtIx (fun j => rows.getD j dR) i rows.length 0 < 0 then rows.length else (gtIx (fun j => rows.getD j dR) i rows.length 0).toNat
theorem gtIx_spec (R : Nat → RowI) (i : Int) : ∀ n j, gtIx R i n j = -1 ∨ ∃ k : Nat, j ≤ k ∧ k < j + n ∧ gtIx R i n j = (k : Int) ∧ i < (R k).ix
  | 0, _ => .inl rfl
  | n + 1, j => by
    unfold gtIx
    by_cases h : i < (R j).ix
    · rw [if_pos h]; exact .inr ⟨j, by omega, by omega, rfl, h⟩
    · rw [if_neg h]
      rcases gtIx_spec R i n (j + 1) with h1 | ⟨k, h1, h2, h3, h4⟩
      · exact .inl h1
      · exact .inr ⟨k, by omega, by omega, h3, h4⟩
set_option maxRecDepth 8000 in
set_option maxHeartbeats 400000 in
theorem place_any (A : Option Addr) (cap : Nat) (rows : List RowI) (i : Int) (w : World) (hn : rows.length ≤ 140737488355328) (hR : RowsL w A rows) :
    Calls Try.prog 86 #[.slice A rows.length cap, .int .i64 i] w fun e w' => e = .returned (.int .i64 ((placeN rows i : Nat) : Int)) ∧ Below w.heap.size w w' := by
  have hb : Below w.heap.size w (w.alloc (.cells #[.int .i64 i] 3)) := (Below.refl _ _).alloc (Nat.le_refl _) _
  have hC := indexPlace_any A rows.length cap (fun j => rows.getD j dR) i w.heap.size _ hn (hR.below hb) (by simp)
  have HB := hide hb
  clear hb hR
  unfold placeN
  rcases gtIx_spec (fun j => rows.getD j dR) i rows.length 0 with h | ⟨k, _, hk, h, _⟩
  · rw [h] at hC ⊢
    have HC := hide hC
    clear hC h
    go_enter Try.func86, Try.ntmps86
    go_wp2_with (first
      | (go_at_call 103; refine (unhide HC).mono ?_; rintro e w5 ⟨rfl, hb5⟩; have HB5 := hide ((unhide HB).trans (hb5.mono (unhide HB).size)); clear hb5))
    go_ret
    exact ⟨by simp, unhide HB5⟩
  · rw [h] at hC ⊢
    have HC := hide hC
    have kk : ¬ (k : Int) < 0 := by omega
    clear hC h
    go_enter Try.func86, Try.ntmps86
    go_wp2_with (first
      | (go_at_call 103; refine (unhide HC).mono ?_; rintro e w5 ⟨rfl, hb5⟩; have HB5 := hide ((unhide HB).trans (hb5.mono (unhide HB).size)); clear hb5))
    go_ret
    exact ⟨by simp [kk], unhide HB5⟩
def newR (i g has n : Int) : RowI := ⟨i, g, has, fun k => if k < 8 ∧ tb has k = true then n else 0⟩
def newTo (i g has n : Int) (j : Nat) : RowI := ⟨i, g, has, fun k => if (((lstTo has 8).take j).contains (k : Int)) = true then n else 0⟩
theorem lst_mem (has : Int) (k : Nat) : (lstTo has 8).contains (k : Int) = decide (k < 8 ∧ tb has k = true) := by
  rw [Bool.eq_iff_iff, List.contains_iff_mem]
  unfold lstTo
  simp
  constructor
  · rintro ⟨a, ⟨h1, h2⟩, h3⟩
    have : a = k := by exact_mod_cast h3
    subst this
    exact ⟨h1, h2⟩
  · rintro ⟨h1, h2⟩
    exact ⟨k, ⟨h1, h2⟩, rfl⟩
theorem newTo_all (i g has n : Int) (j : Nat) (hj : (lstTo has 8).length ≤ j) : newTo i g has n j = newR i g has n := by
  unfold newTo newR
  congr 1
  funext k
  rw [List.take_of_length_le hj, lst_mem]
  simp
theorem newTo_succ (i g has n : Int) (j p : Nat) (hj : j < (lstTo has 8).length) (hp : (lstTo has 8)[j]? = some (p : Int)) : newTo i g has n (j + 1) = ⟨i, g, has, fun k => if k = p then n else (newTo i g has n j).v k⟩ := by
  unfold newTo
  congr 1
  funext k
  dsimp only
  rw [List.take_succ_eq_append_getElem hj]
  rw [List.getElem?_eq_getElem hj] at hp
  simp only [Option.some.injEq] at hp
  rw [hp]
  by_cases e : k = p
  · subst e; simp
  · have : ¬ ((k : Int) = (p : Int)) := by omega
    simp [e, this, List.contains_iff_mem]
theorem lst_small (has : Int) (j : Nat) (hj : j < (lstTo has 8).length) : ∃ p : Nat, p < 8 ∧ (lstTo has 8)[j]? = some (p : Int) := by
  have hm : (lstTo has 8)[j] ∈ lstTo has 8 := List.getElem_mem hj
  rw [List.getElem?_eq_getElem hj]
  generalize (lstTo has 8)[j] = y at *
  unfold lstTo at hm
  obtain ⟨p, hp, e⟩ := List.mem_map.1 hm
  rw [List.mem_filter, List.mem_range] at hp
  exact ⟨p, hp.1, by rw [← e]; rfl⟩
theorem list_b (has : Int) (w : World) (h0 : 0 ≤ has) (h1 : has ≤ 255) : Calls Try.prog 91 #[.int .i64 has] w fun e w' => ∃ B A c, w.heap.size ≤ B ∧ e = .returned (.slice A (lstTo has 8).length c) ∧ w'.ownsRow B 3 1 (.slice A (lstTo has 8).length c) (lstTo has 8).length ((lstTo has 8).map (Value.int .i64)) ∧ Below w.heap.size w w' :=
  (list_any has w h0 h1).mono fun e w' ⟨v, he, ho, hb⟩ => by
    obtain ⟨A, c, rfl⟩ := own_one ho
    exact ⟨w.heap.size, A, c, Nat.le_refl _, he, ho, hb⟩
set_option maxRecDepth 8000 in
set_option maxHeartbeats 2000000 in
theorem newRow_any (i g has n : Int) (w : World) (h0 : 0 ≤ has) (h1 : has ≤ 255) :
    Calls Try.prog 87 #[beingV i g, .int .i64 has, .int .i64 n] w fun e w' => e = .returned (rowV (newR i g has n)) ∧ Below w.heap.size w w' := by
  obtain ⟨W1, hW1⟩ : ∃ W, W = w.alloc (.cells #[.int .i64 i, .int .i64 g] 50) := ⟨_, rfl⟩
  have b1 : Below w.heap.size w W1 := by rw [hW1]; exact (Below.refl _ _).alloc (Nat.le_refl _) _
  have z1 : W1.heap.size = w.heap.size + 1 := by rw [hW1]; simp
  have e0 : newTo i g has n 0 = ⟨i, g, has, fun _ => 0⟩ := by unfold newTo; simp
  have hR0 := RB.start W1 dR (newTo i g has n 0)
  have hR : RB w (w.heap.size + 2) (w.heap.size + 1) (newTo i g has n 0) dR ((W1.alloc (.cells (rowCells dR).toArray 53)).alloc (.cells (rowCells (newTo i g has n 0)).toArray 53)) := by
    rw [z1] at hR0
    exact ⟨b1.trans (hR0.bel.mono b1.size), by omega, by omega, by omega, hR0.s, hR0.r, hR0.fs, hR0.fr⟩
  have hL := fun W => list_b has W h0 h1
  have HSZ : Hid (w.heap.size + 3 ≤ ((W1.alloc (.cells (rowCells dR).toArray 53)).alloc (.cells (rowCells (newTo i g has n 0)).toArray 53)).heap.size) := by show _ ≤ _; simp; omega
  have HE0 := hide e0
  rw [hW1, e0] at hR HSZ
  unfold rowCells dR at hR HSZ
  have HR := hide hR
  have HL := hide hL
  clear hR hR0 hL e0 b1 z1 hW1
  have hll := lst_len has 8
  unfold beingV
  go_enter Try.func87, Try.ntmps87
  go_wp2_with (first
    | (go_at_call 91; refine (unhide HL _).mono ?_; rintro e w5 ⟨B, A5, c5, hB, rfl, ho5, hb5⟩; have hB3 := Nat.le_trans (unhide HSZ) hB; have HO5 := hide ho5; have hR5 := (unhide HR).below hb5; rw [← unhide HE0] at hR5; have HR5 := hide hR5; clear ho5 hb5 hB hR5))
  clear HR HL HSZ HE0
  have HSM := hide (lst_small has)
  have HSU := hide (newTo_succ i g has n)
  have HAL := hide (newTo_all i g has n)
  have HMP : Hid (∀ j p : Nat, (lstTo has 8)[j]? = some (p : Int) → ((lstTo has 8).map (Value.int .i64))[j]? = some (.int .i64 (p : Int))) := fun j p h => by rw [List.getElem?_map, h]; rfl
  generalize (lstTo has 8).map (Value.int .i64) = xs at *
  generalize hln : (lstTo has 8).length = ln at *
  go_loopw [16] (fun t wr => ∃ j : Nat, j ≤ ln ∧ t = .int .i64 j ∧ RB w (w.heap.size + 2) (w.heap.size + 1) (newTo i g has n j) dR wr ∧ wr.ownsRow B 3 1 (.slice A5 ln c5) ln xs) (fun t _ => ln - (intOf t).toNat)
  case atStart => exact ⟨0, Nat.zero_le _, rfl, unhide HR5, unhide HO5⟩
  case round =>
    clear HR5 HO5
    obtain ⟨j, hj, rfl, hR, ho⟩ := hrel
    by_cases hlt : j < ln
    · obtain ⟨p, hp8, hp⟩ := unhide HSM j hlt
      obtain ⟨gl, cl, hA, hglo, _⟩ := own_pos ho (by omega)
      simp only [Value.slice.injEq, true_and] at hA
      obtain ⟨rfl, rfl⟩ := hA
      have hcell := own_cell ho (unhide HMP j p hp)
      have j0 : (0 : Int) ≤ (j : Int) := by omega
      have j1 : (j : Int) < (ln : Int) := by omega
      have p0 : (0 : Int) ≤ (p : Int) := by omega
      have p1 : (p : Int) < 8 := by omega
      have HSJ := hide (unhide HSU j p hlt hp)
      have HR := hide hR
      have HO := hide ho
      clear hR ho hp
      go_wp2_with (first
        | (refine wpList_put1 rfl 3 (.tmp 23) (.tmp 21) rfl (w.heap.size + 2) (3 + p) (.int .i64 n) rfl rfl rfl size3 (there_of (show wr.cell? ⟨w.heap.size + 2, 3 + p, none⟩ = some _ from by have := (unhide HR).r.v p hp8; rwa [Nat.zero_add] at this) (unhide HR).fr) ?_; intro W2 hW2; have HW2 := hide hW2; clear hW2))
      have hR2 := (unhide HR).setV p hp8 n
      have ho2 := ownsRow_setCell_other (unhide HO) (a := ⟨w.heap.size + 2, 3 + p, none⟩) (by simp [Value.ownBlock]; omega) (.int .i64 n)
      rw [← unhide HW2] at hR2 ho2
      have e : (⟨(newTo i g has n j).ix, (newTo i g has n j).gen, (newTo i g has n j).has, fun k => if k = p then n else (newTo i g has n j).v k⟩ : RowI) = newTo i g has n (j + 1) := (unhide HSJ).symm
      rw [e] at hR2
      have HR2 := hide hR2
      have HO2 := hide ho2
      clear hR2 ho2 e
      go_roundw
      case rel => exact ⟨j + 1, by omega, by go_num, unhide HR2, unhide HO2⟩
      case measure => simp [intOf]; omega
    · obtain rfl : j = ln := by omega
      rw [unhide HAL j (by omega)] at hR
      obtain ⟨z, hz⟩ : ∃ z, z = newR i g has n := ⟨_, rfl⟩
      rw [← hz] at hR
      have HZ := hide hz
      clear hz
      have c0 := hR.r.c0
      have c1 := hR.r.c1
      have c2 := hR.r.c2
      have c3 := hR.r.v 0 (by decide)
      have c4 := hR.r.v 1 (by decide)
      have c5' := hR.r.v 2 (by decide)
      have c6 := hR.r.v 3 (by decide)
      have c7 := hR.r.v 4 (by decide)
      have c8 := hR.r.v 5 (by decide)
      have c9 := hR.r.v 6 (by decide)
      have c10 := hR.r.v 7 (by decide)
      simp only [Nat.zero_add, Nat.reduceAdd] at c0 c1 c2 c3 c4 c5' c6 c7 c8 c9 c10
      have HR := hide hR
      clear hR ho HSM HSU HAL HMP
      go_wp2_with (first
        | (refine wpList_putN rfl 53 (.tmp 6) (.tmp 25) rfl (w.heap.size + 1) 0 (rowCells z) rfl rfl (rowCells_one z) size61 (rowAt_there (unhide HR).s (unhide HR).fs) ?_; intro W3 hW3; have hR3 := (unhide HR).give z; rw [← hW3] at hR3; have HR3 := hide hR3; clear hW3 hR3))
      clear c0 c1 c2 c3 c4 c5' c6 c7 c8 c9 c10
      have hR3 := unhide HR3
      have c0 := hR3.s.c0
      have c1 := hR3.s.c1
      have c2 := hR3.s.c2
      have c3 := hR3.s.v 0 (by decide)
      have c4 := hR3.s.v 1 (by decide)
      have c5' := hR3.s.v 2 (by decide)
      have c6 := hR3.s.v 3 (by decide)
      have c7 := hR3.s.v 4 (by decide)
      have c8 := hR3.s.v 5 (by decide)
      have c9 := hR3.s.v 6 (by decide)
      have c10 := hR3.s.v 7 (by decide)
      simp only [Nat.zero_add, Nat.reduceAdd] at c0 c1 c2 c3 c4 c5' c6 c7 c8 c9 c10
      refine bodyPost_ret (v := .agg #[.int .i64 z.ix, .int .i64 z.gen, .int .i64 z.has, .int .i64 (z.v 0), .int .i64 (z.v 1), .int .i64 (z.v 2), .int .i64 (z.v 3), .int .i64 (z.v 4), .int .i64 (z.v 5), .int .i64 (z.v 6), .int .i64 (z.v 7)]) (by simp [results, Try.results87, go_sem, c0, c1, c2, c3, c4, c5', c6, c7, c8, c9, c10]) rfl ⟨by rw [← unhide HZ]; rfl, hR3.bel⟩
end Go.Proofs.Ytnbleebilmghcab
