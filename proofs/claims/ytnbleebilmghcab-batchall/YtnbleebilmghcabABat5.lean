/- batch.Make of right systems. -/
import Derived.Test.YtnbleebilmghcabABat4
set_option linter.unnecessarySimpa false
set_option linter.unusedVariables false
set_option linter.unusedSimpArgs false
namespace Go.Proofs.Ytnbleebilmghcab
open Go Go.RowKit
attribute [local go_sem ↓] Go.wp_at_zero Go.wp_at_succ

theorem info38 : (Try.prog.info? 38).map (fun i => (i.zero, i.size, i.bytes)) = some (some (.slice none 0 0), 1, 24) := by kernel_rfl
theorem info3 : (Try.prog.info? 3).map (fun i => (i.zero, i.size, i.bytes)) = some (some (.int .i64 0), 1, 8) := by kernel_rfl
def clS (S : Nat → SysI) (o i : Nat) : Bool := cs (S o) (S i)
theorem mkB_step (cl : Nat → Nat → Bool) (n : Nat) : mkB cl (n + 1) = putB (mkB cl n) (lev cl n) n := rfl
theorem mkB_lens (cl : Nat → Nat → Bool) (n k : Nat) (hk : k < (mkB cl n).length) : ((mkB cl n).getD k []).length ≤ n := by
  rw [(binv cl n).at_ k hk]; exact Nat.le_trans (List.length_filter_le _ _) (by simp)
/-- What the second append leaves of the batches' own row. -/
theorem OB.cellAt {W W' : World} {base g cap : Nat} {bs : List (List Nat)} {xs : List Value} (h : OB W base (.slice (some ⟨g, 0, none⟩) bs.length cap) bs xs) {k : Nat} (hk : k < bs.length) (hg : W.grownBy W' (xs.getD k nilV).ownBlock) : W'.cell? ⟨g, k, none⟩ = some (xs.getD k nilV) ∧ W'.frozen? ⟨g, k, none⟩ = false := by
  have ht := h.top.kept hg (own_apart h.top (h.each k hk) (by decide))
  refine ⟨own_cell ht ?_, own_free ht k⟩
  have hkx : k < xs.length := by rw [h.len]; exact hk
  rw [List.getD_eq_getElem?_getD, List.getElem?_eq_getElem hkx]; rfl
theorem OB.cell {W : World} {base g cap : Nat} {bs : List (List Nat)} {xs : List Value} (h : OB W base (.slice (some ⟨g, 0, none⟩) bs.length cap) bs xs) {k : Nat} (hk : k < bs.length) : W.cell? ⟨g, k, none⟩ = some (xs.getD k nilV) :=
  (h.cellAt hk (World.grownBy.refl W _)).1
theorem OB.blk {W : World} {base : Nat} {v : Value} {bs : List (List Nat)} {xs : List Value} (h : OB W base v bs xs) {k : Nat} (hk : k < bs.length) : ∀ y, (xs.getD k nilV).ownBlock = some y → base ≤ y := fun y hy => ((h.each k hk).lt y hy).1
theorem OB.pos {W : World} {base : Nat} {v : Value} {bs : List (List Nat)} {xs : List Value} (h : OB W base v bs xs) (h0 : 0 < bs.length) : ∃ g cap, v = .slice (some ⟨g, 0, none⟩) bs.length cap := by
  obtain ⟨g, cap, hv, _⟩ := own_pos h.top h0
  exact ⟨g, cap, hv⟩
theorem putB_set (bs : List (List Nat)) (k x : Nat) (h : k < bs.length) : putB bs k x = bs.set k (bs.getD k [] ++ [x]) := by unfold putB; rw [if_neg (by omega)]
theorem putB_app (bs : List (List Nat)) (x : Nat) : putB bs bs.length x = (bs ++ [[]]).set bs.length ((bs ++ [[]]).getD bs.length [] ++ [x]) := by
  unfold putB; rw [if_pos rfl, getDl_last]; simp

theorem OB.setBelow {W : World} {base : Nat} {v : Value} {bs : List (List Nat)} {xs : List Value} (h : OB W base v bs xs) {a : Addr} (ha : a.block < base) (u : Value) : OB (W.setCell a u) base v bs xs :=
  ⟨ownsRow_setCell_below h.top ha u, fun k hk => ownsRow_setCell_below (h.each k hk) ha u, h.apart⟩
theorem OB.setsBelow {base b : Nat} {v : Value} {bs : List (List Nat)} {xs : List Value} (hb : b < base) : ∀ (vs : List Value) (o : Nat) (W : World), OB W base v bs xs → OB (W.setCells b o vs) base v bs xs
  | [], _, _, h => h
  | u :: r, o, _, h => OB.setsBelow hb r (o + 1) _ (h.setBelow (a := ⟨b, o, none⟩) hb u)
theorem le_alloc {B : Nat} {w : World} (h : B ≤ w.heap.size) (o : Obj) : B ≤ (w.alloc o).heap.size := by simp; omega
theorem new_ge {W : World} {g : Nat} (h : some g = Value.ownBlock (.slice none 0 0) ∨ g = W.heap.size) : W.heap.size ≤ g := by
  rcases h with h | h
  · cases h
  · omega
theorem one1 (u : Value) (h : u.oneCell' = true) : ∀ x ∈ [u], x.oneCell' = true := fun x hx => by rw [List.mem_singleton] at hx; rw [hx]; exact h
theorem app_last (xs : List Value) (u : Value) (k : Nat) (h : xs.length = k) : (xs ++ [u])[k]? = some u := by subst h; simp
theorem OB.add0 {W W' : World} {base g cap : Nat} {bs : List (List Nat)} {xs : List Value} (h : OB W base (.slice (some ⟨g, 0, none⟩) (bs.length + 1) cap) (bs ++ [[]]) (xs ++ [nilV])) {x g2 cap2 : Nat}
    (ho : W'.ownsRow base 3 1 (.slice (some ⟨g2, 0, none⟩) 1 cap2) 1 [.int .i64 (x : Int)]) (hg : W.grownBy W' none) (hw : W.heap.size ≤ g2) :
    OB (W'.setCell ⟨g, bs.length, none⟩ (.slice (some ⟨g2, 0, none⟩) 1 cap2)) base (.slice (some ⟨g, 0, none⟩) (bs.length + 1) cap) (putB bs bs.length x) ((xs ++ [nilV]).set bs.length (.slice (some ⟨g2, 0, none⟩) 1 cap2)) := by
  have hx : xs.length = bs.length := by have := h.len; simp at this; omega
  have e1 : (bs ++ [[]]).getD bs.length [] = [] := getDl_last bs []
  have e2 : (xs ++ [nilV]).getD bs.length nilV = nilV := by rw [← hx]; exact getD_last xs nilV
  have e3 : (bs ++ [([] : List Nat)]).length = bs.length + 1 := by simp
  have h' : OB W base (.slice (some ⟨g, 0, none⟩) (bs ++ [[]]).length cap) (bs ++ [[]]) (xs ++ [nilV]) := by rw [e3]; exact h
  have R := OB.add (W' := W') (x := x) (g2 := g2) (cap2 := cap2) h' (k := bs.length) (by rw [e3]; omega) (by rw [e1]; simpa [intsOf] using ho) (by rw [e2]; exact hg) (.inr hw)
  rw [e1, e3] at R
  rw [putB_app, e1]
  exact R
theorem OB.cell0 {W : World} {base g cap : Nat} {bs : List (List Nat)} {xs : List Value} (h : OB W base (.slice (some ⟨g, 0, none⟩) (bs.length + 1) cap) (bs ++ [[]]) (xs ++ [nilV])) : W.cell? ⟨g, bs.length, none⟩ = some nilV ∧ W.frozen? ⟨g, bs.length, none⟩ = false := by
  have hx : xs.length = bs.length := by have := h.len; simp at this; omega
  have ht := h.top
  rw [show (bs ++ [([] : List Nat)]).length = bs.length + 1 by simp] at ht
  exact ⟨own_cell ht (app_last xs nilV _ hx), own_free ht _⟩
theorem OB.lo {W : World} {base g cap n : Nat} {bs : List (List Nat)} {xs : List Value} (h : OB W base (.slice (some ⟨g, 0, none⟩) n cap) bs xs) : base ≤ g := (h.top.lt g rfl).1

set_option maxRecDepth 8000 in
set_option maxHeartbeats 4000000 in
theorem make_right (L : Option Addr) (n cap : Nat) (S : Nat → SysI) (w : World) (hL : SyssAt w L n S) (hw : (bwF S n).1 = 0) :
    Calls Try.prog 25 #[.slice L n cap] w fun e w' => ∃ B cap', e = .returned (.tuple #[.slice B (mkB (clS S) n).length cap', faultV (0, 0)]) ∧ BatsAt w' B (mkB (clS S) n) ∧ Below w.heap.size w w' := by
  obtain ⟨hn, hsw, hz⟩ := bw_right S n hw
  have h8 : ∀ j, j < n → (S j).len ≤ 8 := fun j hj => ((right_spec _ _ _ _ _).1 (hsw j hj)).2.1
  have hM := MK.start w L n cap
  have hC := bwrong_any L n cap S _ (hL.below hM.bel)
  rw [hz] at hC
  unfold faultV at *
  have HM := hide hM
  have HC := hide hC
  have HL := hide hL
  have H8 := hide h8
  clear hC hM hL hw hsw hz h8
  obtain ⟨i38, hi38, hz38, hs38, hb38⟩ := info_parts info38
  obtain ⟨i3, hi3, hz3, hs3, hb3⟩ := info_parts info3
  have HI38 := hide hi38
  have HZ38 := hide hz38
  have HS38 := hide hs38
  have HB38 := hide hb38
  have HI3 := hide hi3
  have HZ3 := hide hz3
  have HS3 := hide hs3
  have HB3 := hide hb3
  clear hi38 hz38 hs38 hb38 hi3 hz3 hs3 hb3
  go_enter Try.func25, Try.ntmps25
  go_wp2_with (first
    | (go_at_call 27; refine (unhide HC).mono ?_; rintro e w5 ⟨rfl, hb5⟩; have hM5 := (unhide HM).below hb5; have hM6 := hM5.below ((Below.refl _ _).alloc (Nat.le_refl _) (.cells #[.int .i64 0, .int .i64 0] 30)); have b1 := hM6.b1; have HM6 := hide hM6; clear hb5 hM5 hM6))
  clear HC HM
  clear b1
  go_loopw [5, 18] (fun v i wr => ∃ (j : Nat) (xs : List Value), j ≤ n ∧ i = .int .i64 j ∧ MK w L n cap wr ∧ OB wr (w.heap.size + 2) v (mkB (clS S) j) xs) (fun _ i _ => n - (intOf i).toNat)
  case atStart => exact ⟨0, [], Nat.zero_le _, rfl, unhide HM6, OB.nil _ _⟩
  case round =>
    clear HM6
    obtain ⟨j, xs, hj, rfl, hN, hO⟩ := hrel
    obtain ⟨B, capb, hv, hB⟩ := hO.bats
    subst hv
    by_cases hlt : j < n
    · have j0 : (0 : Int) ≤ (j : Int) := by omega
      have j1 : (j : Int) < (n : Int) := by omega
      obtain ⟨b, off, hLe, hs⟩ := unhide HL j hlt
      have hs := hs.below hN.bel
      obtain ⟨W1, hW1⟩ : ∃ W, W = wr.alloc (.cells #[.int .i64 (S j).m, .int .i64 (S j).al, .int .i64 (S j).no, .slice (S j).A (S j).len (S j).cap] 26) := ⟨_, rfl⟩
      have hb1 : Below wr.heap.size wr W1 := by rw [hW1]; exact (Below.refl _ _).alloc (Nat.le_refl _) _
      have h7 : SysAt W1 wr.heap.size 0 (S j) := ⟨by rw [hW1]; simp, by rw [hW1]; simp, by rw [hW1]; simp, by rw [hW1]; simp, hs.acts.below hb1⟩
      have hM1 := hN.below hb1
      have hL1 := (unhide HL).below hM1.bel
      have hclo : CloAt W1 w.heap.size wr.heap.size n (fun o => clS S o j) := fun W hW o ho => mk1_any L n cap S o (S j) w.heap.size wr.heap.size W ho (unhide H8) (unhide H8 j hlt) (hL1.below hW) (keep_below hW hM1.b1) (h7.below hW)
      have hBL := mkB_len (clS S) j
      have hC := behind_any B (mkB (clS S) j) capb n w.heap.size wr.heap.size (fun o => clS S o j) W1 (by omega) (fun k hk => by have := mkB_lens (clS S) j k hk; omega) (fun k hk x hx => by have := ((mem_lev (clS S) j k x hk).1 hx).1; omega) (hB.below hb1) hclo
      have e : bhd (fun o => clS S o j) (mkB (clS S) j) (mkB (clS S) j).length = lev (clS S) j := rfl
      rw [e] at hC
      have hle : lev (clS S) j ≤ (mkB (clS S) j).length := bhd_le _ _ _
      have hlens : ∀ k, k < (mkB (clS S) j).length → ((mkB (clS S) j).getD k []).length ≤ 12 := fun k hk => by have := mkB_lens (clS S) j k hk; omega
      have hO1 := hO.below hb1
      rw [hW1] at hC
      have HST := hide (mkB_step (clS S) j)
      generalize lev (clS S) j = a at *
      have q0 := hs.c0
      have q1 := hs.c1
      have q2 := hs.c2
      have q3 := hs.c3
      have r1 := hN.b1
      have HC := hide hC
      have HM1 := hide hM1
      have HO1 := hide hO1
      have HLE := hide hlens
      subst hLe
      clear hC hclo hL1 h7 e hB hO hN hM1 hO1 hs hb1 hlens
      generalize mkB (clS S) j = bs at *
      have a0 : (0 : Int) ≤ (a : Int) := by omega
      by_cases hal : a = bs.length
      · subst hal
        have hle1 : (bs.length : Int) < (bs.length : Int) + 1 := by omega
        go_wp2_with (first
          | (go_at_call 51; refine (unhide HC).mono ?_; rintro e w5 ⟨rfl, hb5⟩; rw [← hW1] at hb5; have HM5 := hide ((unhide HM1).below hb5); have HO5 := hide ((unhide HO1).below hb5); clear hb5)
          | (at_builtin; refine wpList_append1 _ rfl (.tmp 31) (.tmp 32) 66 rfl (w.heap.size + 2) 38 i38 (.slice none 0 0) 1 24 Try.underlying66 (unhide HI38) (unhide HZ38) (unhide HS38) (unhide HB38) rfl (by decide) _ _ _ rfl ((unhide HO5).top.alloc _) ⟨w5.heap.size, 0, none⟩ 1 1 [.slice none 0 0] rfl rfl (cell_new _ _ _) (one1 _ rfl) (by unfold maxLen; omega) (by omega) (le_alloc (unhide HM5).sz _) (by omega) ?_; intro g capg w7 ho7 hg7 hw7; have HM7 := hide ((unhide HM5).keep (((Below.refl _ _).alloc (unhide HM5).sz _).trans (grown_below hg7 (fun k hk => ((unhide HO5).top.lt k hk).1) (le_alloc (unhide HM5).sz _)))); have hO7 := OB.push ((unhide HO5).below ((Below.refl _ _).alloc (Nat.le_refl _) _)) ho7 hg7; have c7 : w7.cell? ⟨g, bs.length, none⟩ = some (.slice none 0 0) := hO7.cell0.1; have HO7 := hide hO7; clear ho7 hg7 hw7 hO7)
          | (at_builtin; refine wpList_append1 _ rfl (.tmp 39) (.tmp 41) 38 rfl (w.heap.size + 2) 3 i3 (.int .i64 0) 1 8 Try.underlying38 (unhide HI3) (unhide HZ3) (unhide HS3) (unhide HB3) rfl (by decide) _ _ _ rfl (World.ownsRow_nil _ _ _ _) ⟨w7.heap.size, 0, none⟩ 1 1 [.int .i64 (j : Int)] rfl rfl (cell_new _ _ _) (one1 _ rfl) (by decide) (by omega) (le_alloc (unhide HM7).sz _) (by omega) ?_; intro g2 cap2 w9 ho9 hg9 hw9; have hO8 := (unhide HO7).below ((Below.refl _ _).alloc (Nat.le_refl _) (.cells #[.int .i64 (j : Int)] 3)); have hb9 := grown_below (B := (w7.alloc (.cells #[.int .i64 (j : Int)] 3)).heap.size) hg9 (fun k hk => by cases hk) (Nat.le_refl _); have c9 := (hO8.below hb9).cell0.1; have f9 := (hO8.below hb9).cell0.2; have HM9 := hide (((unhide HM7).below ((Below.refl _ _).alloc (Nat.le_refl _) _)).below hb9); have HG9 := hide hg9; have HH9 := hide ho9; have HW9 := hide hw9; have HO8 := hide hO8; clear ho9 hg9 hw9 hO8 hb9))
        have hO8 := unhide HO8
        have hlo := hO8.lo
        have ho9 : w9.ownsRow (w.heap.size + 2) 3 1 (.slice (some ⟨g2, 0, none⟩) 1 cap2) 1 [.int .i64 (j : Int)] := by simpa using unhide HH9
        have HF := hide (OB.add0 hO8 ho9 (unhide HG9) (new_ge (unhide HW9)))
        clear hO8 ho9
        go_roundw
        case rel => exact ⟨j + 1, _, by omega, by go_num, (unhide HM9).keep ((Below.refl _ _).setCell (p := ⟨g, bs.length, none⟩) hlo _), by rw [unhide HST]; exact unhide HF⟩
        case measure => simp [intOf]; omega
      · have hal' : ¬ ((a : Int) = (bs.length : Int)) := by omega
        have hal2 : a < bs.length := by omega
        have hal3 : (a : Int) < (bs.length : Int) := by omega
        obtain ⟨g, capg, hv⟩ := (unhide HO1).pos (by omega)
        simp only [Value.slice.injEq, true_and] at hv
        obtain ⟨rfl, rfl⟩ := hv
        obtain ⟨u, hu⟩ : ∃ u, u = xs.getD a nilV := ⟨_, rfl⟩
        obtain ⟨l, hl⟩ : ∃ l, l = bs.getD a [] := ⟨_, rfl⟩
        have hl12 : l.length ≤ 12 := by rw [hl]; exact unhide HLE a hal2
        have HU := hide hu
        have HLL := hide hl
        have HCU := hide (fun (W : World) (h : OB W (w.heap.size + 2) (.slice (some ⟨g, 0, none⟩) bs.length capb) bs xs) => show W.cell? ⟨g, a, none⟩ = some u by rw [hu]; exact h.cell hal2)
        have HOU := hide (fun (W : World) (h : OB W (w.heap.size + 2) (.slice (some ⟨g, 0, none⟩) bs.length capb) bs xs) => show W.ownsRow (w.heap.size + 2) 3 1 u l.length (intsOf l) by rw [hu, hl]; exact h.each a hal2)
        have HCF := hide (fun (W W' : World) (h : OB W (w.heap.size + 2) (.slice (some ⟨g, 0, none⟩) bs.length capb) bs xs) (hg : W.grownBy W' u.ownBlock) => show W'.cell? ⟨g, a, none⟩ = some u ∧ W'.frozen? ⟨g, a, none⟩ = false by rw [hu] at hg ⊢; exact h.cellAt hal2 hg)
        clear hu hl
        go_wp2_with (first
          | (go_at_call 51; refine (unhide HC).mono ?_; rintro e w5 ⟨rfl, hb5⟩; rw [← hW1] at hb5; have HM5 := hide ((unhide HM1).below hb5); have HO5 := hide ((unhide HO1).below hb5); have c5 := unhide HCU _ (unhide HO5); clear hb5)
          | (at_builtin; refine wpList_append1 _ rfl (.tmp 39) (.tmp 41) 38 rfl (w.heap.size + 2) 3 i3 (.int .i64 0) 1 8 Try.underlying38 (unhide HI3) (unhide HZ3) (unhide HS3) (unhide HB3) rfl (by decide) u l.length (intsOf l) rfl ((unhide HOU _ (unhide HO5)).alloc _) ⟨w5.heap.size, 0, none⟩ 1 1 [.int .i64 (j : Int)] rfl rfl (cell_new _ _ _) (one1 _ rfl) (by unfold maxLen; omega) (by omega) (le_alloc (unhide HM5).sz _) (by omega) ?_; intro g2 cap2 w9 ho9 hg9 hw9; have hcf := unhide HCF _ _ ((unhide HO5).below ((Below.refl _ _).alloc (Nat.le_refl _) _)) hg9; have c9 := hcf.1; have f9 := hcf.2; have HG9 := hide hg9; have HH9 := hide ho9; have HW9 := hide hw9; clear ho9 hg9 hw9 hcf))
        have hO8 := (unhide HO5).below ((Below.refl _ _).alloc (Nat.le_refl _) (.cells #[.int .i64 (j : Int)] 3))
        have hlo := hO8.lo
        have hg9 := unhide HG9
        have ho9 := unhide HH9
        have hw9 := unhide HW9
        rw [unhide HU] at hg9 hw9
        rw [unhide HLL] at ho9
        have hM9 := ((unhide HM5).below ((Below.refl _ _).alloc (Nat.le_refl _) _)).keep (grown_below hg9 (fun k hk => hO8.blk hal2 k hk) (le_alloc (unhide HM5).sz _))
        have hf := OB.add hO8 hal2 (x := j) ho9 hg9 (hw9.imp id (fun h => Nat.le_of_eq h.symm))
        rw [← putB_set _ _ _ hal2, ← unhide HLL] at hf
        have HF := hide hf
        have HM9 := hide hM9
        clear hO8 hg9 ho9 hw9 hf hM9
        go_roundw
        case rel => exact ⟨j + 1, _, by omega, by go_num, (unhide HM9).keep ((Below.refl _ _).setCell (p := ⟨g, a, none⟩) hlo _), by rw [unhide HST]; exact unhide HF⟩
        case measure => simp [intOf]; omega
    · obtain rfl : j = n := by omega
      have t0 := hN.t0
      have t1 := hN.t1
      have f0 := hN.f 0
      have f1 := hN.f 1
      have HN := hide hN
      have HBB := hide hB
      have HO := hide hO
      clear hN hO HL H8 hB
      go_wp2
      refine bodyPost_ret (v := .tuple #[.slice B (mkB (clS S) j).length capb, .agg #[.int .i64 0, .int .i64 0]]) (by simp [results, Try.results25, go_sem, t0, t1]) rfl ⟨B, capb, rfl, ?_, ?_⟩
      · obtain ⟨B', cap', hv, hB'⟩ := ((unhide HO).setsBelow (b := w.heap.size + 1) (by omega) [.int .i64 0, .int .i64 0] 0).bats
        simp only [Value.slice.injEq] at hv
        obtain ⟨rfl, _, rfl⟩ := hv
        exact hB'
      · exact below_setCells (w.heap.size + 1) (by omega) [.int .i64 0, .int .i64 0] 0 _ (unhide HN).bel
end Go.Proofs.Ytnbleebilmghcab
