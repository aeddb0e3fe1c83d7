/- plain.Next, plain.place, plain.newRow. -/
import Derived.Test.YtmbjghjpofcdpaaPNext
set_option linter.unusedVariables false
set_option linter.unusedSimpArgs false
set_option linter.unnecessarySimpa false
namespace Go.Proofs.Ytmbjghjpofcdpaa
open Go Go.RowKit
attribute [local go_sem ↓] Go.wp_at_zero Go.wp_at_succ

theorem size40 : (Try.prog.info? 40).map (·.size) = some 2 := by kernel_rfl
def nextF (X : Wd) : (Int × Int) × Int := nxTo X X.gens.length 0
theorem nxTo_step (X : Wd) (n j : Nat) (h : j < n) : nxTo X (n - j) j = if usedB X.rows X.rows.length j = false ∧ X.gens.getD j 0 < 1000 then ((((j : Nat) : Int), X.gens.getD j 0 + 1), 0) else nxTo X (n - (j + 1)) (j + 1) := by
  rw [show n - j = (n - (j + 1)) + 1 by omega, nxTo]

set_option maxRecDepth 8000 in
set_option maxHeartbeats 2000000 in
theorem next_any (A : Option Addr) (cap : Nat) (G : Option Addr) (gcap : Nat) (X : Wd) (w : World) (hn : X.rows.length ≤ 140737488355328) (hgn : X.gens.length ≤ 140737488355328) (hgv : ∀ j, j < X.gens.length → -9223372036854775808 ≤ X.gens.getD j 0) (hX : WldAt w A cap G gcap X) :
    Calls Try.prog 38 #[wldV A cap G gcap X] w fun e w' => e = .returned (.tuple #[beingV (nextF X).1.1 (nextF X).1.2, .int .i64 (nextF X).2]) ∧ Below w.heap.size w w' := by
  obtain ⟨W1, hW1⟩ : ∃ W, W = w.alloc (.cells #[.slice A X.rows.length cap, .slice G X.gens.length gcap] 38) := ⟨_, rfl⟩
  have z1 : W1.heap.size = w.heap.size + 1 := by rw [hW1]; simp
  have b1 : Below w.heap.size w W1 := by rw [hW1]; go_grown
  obtain ⟨y0, y1, yf, yb⟩ := new_box (W := W1) (u0 := .int .i64 0) (u1 := .int .i64 0) (t := 40) z1
  have hAB : AB w (w.heap.size + 1) (.int .i64 0) (.int .i64 0) (W1.alloc (.cells #[.int .i64 0, .int .i64 0] 40)) := ⟨b1.trans (yb.mono b1.size), by omega, y0, y1, yf⟩
  have hN : NW1 w (.slice A X.rows.length cap) (.slice G X.gens.length gcap) (W1.alloc (.cells #[.int .i64 0, .int .i64 0] 40)) := (hW1 ▸ NW1.start w _ _ : NW1 w (.slice A X.rows.length cap) (.slice G X.gens.length gcap) W1).below yb
  have hC := inUse_any A cap G gcap X (W1.alloc (.cells #[.int .i64 0, .int .i64 0] 40)) hn hgn (hX.below hAB.bel)
  rw [hW1] at hC hAB hN
  have HC := hide hC
  have HAB := hide hAB
  have HN := hide hN
  have HG := hide hX.gens
  have HGV := hide hgv
  have HU := hide (fun i h => usedL_at X.rows X.gens.length X.rows.length i h)
  clear hC hAB hN hW1 z1 b1 y0 y1 yf yb hX hgv
  unfold wldV worldV beingV nextF at *
  go_enter Try.func38, Try.ntmps38
  go_wp2_with (first
    | (go_at_call 82; refine (unhide HC).mono ?_; rintro e w5 ⟨u, rfl, ho5, hb5⟩; have hN5 := (unhide HN).below hb5; have r1 := hN5.r1; have HO5 := hide ho5; have HA5 := hide ((unhide HAB).below hb5); have HN5 := hide hN5; clear ho5 hb5 hN5))
  clear r1
  go_loop [12] (fun i => ∃ j : Nat, j ≤ X.gens.length ∧ i = .int .i64 j ∧ nxTo X X.gens.length 0 = nxTo X (X.gens.length - j) j) (fun i => X.gens.length - (intOf i).toNat)
  case atStart => exact ⟨0, Nat.zero_le _, rfl, rfl⟩
  case round =>
    obtain ⟨j, hj, rfl, hF⟩ := hrel
    have HF := hide hF
    clear hF
    by_cases hlt : j < X.gens.length
    · have j0 : (0 : Int) ≤ (j : Int) := by omega
      have j1 : (j : Int) < (X.gens.length : Int) := by omega
      obtain ⟨b, off, hGe, hg⟩ := (unhide HG) j hlt
      have hg : w5.cell? ⟨b, off + j, none⟩ = some (.int .i64 (X.gens.getD j 0)) := keep_below (unhide HN5).bel hg
      have hub := own_cell (unhide HO5) (unhide HU j hlt)
      have hgv := unhide HGV j hlt
      have HS := hide (nxTo_step X X.gens.length j hlt)
      subst hGe
      clear HG HGV HU
      generalize X.gens.getD j 0 = gj at *
      generalize usedB X.rows X.rows.length j = ub at *
      have hc : ub = true ∨ (ub = false ∧ gj < 1000) ∨ (ub = false ∧ ¬ gj < 1000) := by
        cases ub
        · by_cases h : gj < 1000
          · exact .inr (.inl ⟨rfl, h⟩)
          · exact .inr (.inr ⟨rfl, h⟩)
        · exact .inl rfl
      rcases hc with rfl | ⟨rfl, hg1⟩ | ⟨rfl, hg1⟩
      · go_wp2
        go_round
        case rel => exact ⟨j + 1, by omega, by go_num, (unhide HF).trans ((unhide HS).trans (by simp))⟩
        case measure => simp [intOf]; omega
      · go_wp2_with (first
          | (refine wpList_putN rfl 40 (.tmp 2) (.tmp 29) rfl (w.heap.size + 1) 0 [.int .i64 (j : Int), .int .i64 (gj + 1)] rfl rfl (by simp [Value.oneCell']) size40 (unhide HA5).there ?_; intro W3 hW3; have hA6 := (unhide HA5).give (.int .i64 (j : Int)) (.int .i64 (gj + 1)); rw [← hW3] at hA6; have HA6 := hide hA6; clear hW3 hA6))
        have t0 := (unhide HA6).t0
        have t1 := (unhide HA6).t1
        have hv := (unhide HF).trans ((unhide HS).trans (if_pos (by simpa using hg1)))
        refine bodyPost_ret (v := .tuple #[.agg #[.int .i64 (j : Int), .int .i64 (gj + 1)], .int .i64 0]) (by simp [results, Try.results38, go_sem, t0, t1]) rfl ⟨by rw [hv], (unhide HA6).bel⟩
      · go_wp2
        go_round
        case rel => exact ⟨j + 1, by omega, by go_num, (unhide HF).trans ((unhide HS).trans (if_neg (fun h => hg1 h.2)))⟩
        case measure => simp [intOf]; omega
    · obtain rfl : j = X.gens.length := by omega
      have hv0 : nxTo X X.gens.length 0 = if 60 ≤ X.gens.length then ((0, 0), 4) else ((((X.gens.length : Nat) : Int), 1), 0) := by rw [unhide HF, Nat.sub_self]; rfl
      have HV := hide hv0
      have r1 := (unhide HN5).r1
      clear HG HGV HU HF hv0
      by_cases h60 : 60 ≤ X.gens.length
      · have h60' : (60 : Int) ≤ (X.gens.length : Int) := by omega
        go_wp2_with (first
          | (refine wpList_putN rfl 40 (.tmp 2) (.tmp 35) rfl (w.heap.size + 1) 0 [.int .i64 0, .int .i64 0] rfl rfl (by simp [Value.oneCell']) size40 (unhide HA5).there ?_; intro W3 hW3; have hA6 := (unhide HA5).give (.int .i64 0) (.int .i64 0); rw [← hW3] at hA6; have HA6 := hide hA6; clear hW3 hA6))
        have t0 := (unhide HA6).t0
        have t1 := (unhide HA6).t1
        have hv := (unhide HV).trans (if_pos h60)
        refine bodyPost_ret (v := .tuple #[.agg #[.int .i64 0, .int .i64 0], .int .i64 4]) (by simp [results, Try.results38, go_sem, t0, t1]) rfl ⟨by rw [hv], (unhide HA6).bel⟩
      · have h60' : ¬ (60 : Int) ≤ (X.gens.length : Int) := by omega
        go_wp2_with (first
          | (refine wpList_putN rfl 40 (.tmp 2) (.tmp 39) rfl (w.heap.size + 1) 0 [.int .i64 (X.gens.length : Int), .int .i64 1] rfl rfl (by simp [Value.oneCell']) size40 (unhide HA5).there ?_; intro W3 hW3; have hA6 := (unhide HA5).give (.int .i64 (X.gens.length : Int)) (.int .i64 1); rw [← hW3] at hA6; have HA6 := hide hA6; clear hW3 hA6))
        have t0 := (unhide HA6).t0
        have t1 := (unhide HA6).t1
        have hv := (unhide HV).trans (if_neg h60)
        refine bodyPost_ret (v := .tuple #[.agg #[.int .i64 (X.gens.length : Int), .int .i64 1], .int .i64 0]) (by simp [results, Try.results38, go_sem, t0, t1]) rfl ⟨by rw [hv], (unhide HA6).bel⟩

/-- The first row behind that number. -/
def gtIx (R : Nat → RowI) (i : Int) : Nat → Nat → Int
  | 0, _ => -1
  | n + 1, j => if i < (R j).ix then (j : Int) else gtIx R i n (j + 1)
theorem gtIx_step (R : Nat → RowI) (i : Int) (n j : Nat) (h : j < n) : gtIx R i (n - j) j = if i < (R j).ix then (j : Int) else gtIx R i (n - (j + 1)) (j + 1) := by
  rw [show n - j = (n - (j + 1)) + 1 by omega, gtIx]
set_option maxRecDepth 8000 in
set_option maxHeartbeats 400000 in
theorem place1_any (x : RowI) (i : Int) (b : Nat) (w : World) (h0 : w.cell? ⟨b, 0, none⟩ = some (.int .i64 i)) :
    Calls Try.prog 116 #[rowV x, .pointer (some ⟨b, 0, none⟩)] w fun e w' => e = .returned (.bool (decide (i < x.ix))) ∧ Below w.heap.size w w' := by
  have hz : b < w.heap.size := World.block_lt_of_cell? w _ h0
  unfold rowV
  go_enter Try.func116, Try.ntmps116
  go_wp2
  all_goals
    go_ret
    exact ⟨by simp [*], by go_grown⟩
set_option maxRecDepth 8000 in
set_option maxHeartbeats 1000000 in
theorem indexPlace_any (A : Option Addr) (n cap : Nat) (R : Nat → RowI) (i : Int) (b : Nat) (w : World) (hn : n ≤ 140737488355328) (hR : RowsAt w A n R) (h0 : w.cell? ⟨b, 0, none⟩ = some (.int .i64 i)) :
    Calls Try.prog 115 #[.slice A n cap, .func (.func 116) #[] #[.pointer (some ⟨b, 0, none⟩)]] w fun e w' => e = .returned (.int .i64 (gtIx R i n 0)) ∧ Below w.heap.size w w' := by
  have HR := hide hR
  have HB0 := hide h0
  clear hR h0
  go_enter Try.func115, Try.ntmps115
  go_wp2
  go_loopw [8] (fun x wr => ∃ j : Nat, j ≤ n ∧ x = .int .i64 j ∧ gtIx R i n 0 = gtIx R i (n - j) j ∧ Below w.heap.size w wr) (fun x _ => n - (intOf x).toNat)
  case atStart => exact ⟨0, Nat.zero_le _, rfl, rfl, Below.refl _ _⟩
  case round =>
    obtain ⟨j, hj, rfl, hF, hbr⟩ := hrel
    have HF := hide hF
    clear hF
    by_cases hlt : j < n
    · have j0 : (0 : Int) ≤ (j : Int) := by omega
      have j1 : (j : Int) < (n : Int) := by omega
      obtain ⟨b', off, rfl, hrow⟩ := unhide HR j hlt
      have hrow := hrow.below hbr
      have c0 := hrow.c0
      have c1 := hrow.c1
      have c2 := hrow.c2
      have c3 := hrow.v 0 (by omega)
      have c4 := hrow.v 1 (by omega)
      have c5 := hrow.v 2 (by omega)
      have c6 := hrow.v 3 (by omega)
      have c7 := hrow.v 4 (by omega)
      have c8 := hrow.v 5 (by omega)
      have c9 := hrow.v 6 (by omega)
      have c10 := hrow.v 7 (by omega)
      simp only [Nat.add_assoc, Nat.reduceAdd] at c3 c4 c5 c6 c7 c8 c9 c10
      simp only [← Nat.add_assoc] at c3 c4 c5 c6 c7 c8 c9 c10
      have HS := hide (gtIx_step R i n j hlt)
      have HC := hide (place1_any (R j) i b wr (keep_below hbr (unhide HB0)))
      have HBR := hide hbr
      clear hrow hbr HR HB0
      by_cases ok : i < (R j).ix
      all_goals
        try (have hok : decide (i < (R j).ix) = true := by simpa using ok)
        try (have hok : decide (i < (R j).ix) = false := by simpa using ok)
        rw [hok] at HC
        go_wp2_with (first
          | (go_at_call 116; refine (unhide HC).mono ?_; rintro e w5 ⟨rfl, hb5⟩; have HB5 := hide ((unhide HBR).trans (hb5.mono (unhide HBR).size)); clear hb5))
        first
        | (go_ret
           have hv : gtIx R i n 0 = (j : Int) := (unhide HF).trans ((unhide HS).trans (if_pos (by omega)))
           rw [hv]
           exact ⟨rfl, unhide HB5⟩)
        | (go_roundw
           case rel => exact ⟨j + 1, by omega, by go_num, (unhide HF).trans ((unhide HS).trans (if_neg (by omega))), unhide HB5⟩
           case measure => simp [intOf]; omega)
    · obtain rfl : j = n := by omega
      have hv : gtIx R i j 0 = -1 := by rw [unhide HF, Nat.sub_self]; rfl
      have HB := hide hbr
      clear hbr HR HB0
      go_wp2
      go_ret
      rw [hv]
      exact ⟨rfl, unhide HB⟩


/-- Where it belongs. -/
def placeN (rows : List RowI) (i : Int) : Nat := if gtIx (fun j => rows.getD j dR) i rows.length 0 < 0 then rows.length else (gtIx (fun j => rows.getD j dR) i rows.length 0).toNat
theorem gtIx_spec (R : Nat → RowI) (i : Int) : ∀ n j, gtIx R i n j = -1 ∨ ∃ k : Nat, j ≤ k ∧ k < j + n ∧ gtIx R i n j = (k : Int) ∧ i < (R k).ix
  | 0, _ => .inl rfl
  | n + 1, j => by
    unfold gtIx
    by_cases h : i < (R j).ix
    · rw [if_pos h]; exact .inr ⟨j, by omega, by omega, rfl, h⟩
    · rw [if_neg h]
      rcases gtIx_spec R i n (j + 1) with h1 | ⟨k, h1, h2, h3, h4⟩
      · exact .inl h1
      · exact .inr ⟨k, by omega, by omega, h3, h4⟩
set_option maxRecDepth 8000 in
set_option maxHeartbeats 400000 in
theorem place_any (A : Option Addr) (cap : Nat) (rows : List RowI) (i : Int) (w : World) (hn : rows.length ≤ 140737488355328) (hR : RowsL w A rows) :
    Calls Try.prog 84 #[.slice A rows.length cap, .int .i64 i] w fun e w' => e = .returned (.int .i64 ((placeN rows i : Nat) : Int)) ∧ Below w.heap.size w w' := by
  have hb : Below w.heap.size w (w.alloc (.cells #[.int .i64 i] 3)) := (Below.refl _ _).alloc (Nat.le_refl _) _
  have hC := indexPlace_any A rows.length cap (fun j => rows.getD j dR) i w.heap.size _ hn (hR.below hb) (by simp)
  have HB := hide hb
  clear hb hR
  unfold placeN
  rcases gtIx_spec (fun j => rows.getD j dR) i rows.length 0 with h | ⟨k, _, hk, h, _⟩
  · rw [h] at hC ⊢
    have HC := hide hC
    clear hC h
    go_enter Try.func84, Try.ntmps84
    go_wp2_with (first
      | (go_at_call 115; refine (unhide HC).mono ?_; rintro e w5 ⟨rfl, hb5⟩; have HB5 := hide ((unhide HB).trans (hb5.mono (unhide HB).size)); clear hb5))
    go_ret
    exact ⟨by simp, unhide HB5⟩
  · rw [h] at hC ⊢
    have HC := hide hC
    have kk : ¬ (k : Int) < 0 := by omega
    clear hC h
    go_enter Try.func84, Try.ntmps84
    go_wp2_with (first
      | (go_at_call 115; refine (unhide HC).mono ?_; rintro e w5 ⟨rfl, hb5⟩; have HB5 := hide ((unhide HB).trans (hb5.mono (unhide HB).size)); clear hb5))
    go_ret
    exact ⟨by simp [kk], unhide HB5⟩

/-- A new being's row. -/
def newR (i g has n : Int) : RowI := ⟨i, g, has, fun k => if k < 8 ∧ tb has k = true then n else 0⟩
def newTo (i g has n : Int) (j : Nat) : RowI := ⟨i, g, has, fun k => if (((lstTo has 8).take j).contains (k : Int)) = true then n else 0⟩
theorem lst_mem (has : Int) (k : Nat) : (lstTo has 8).contains (k : Int) = decide (k < 8 ∧ tb has k = true) := by
  rw [Bool.eq_iff_iff, List.contains_iff_mem]
  unfold lstTo
  simp
  constructor
  · rintro ⟨a, ⟨h1, h2⟩, h3⟩
    have : a = k := by exact_mod_cast h3
    subst this
    exact ⟨h1, h2⟩
  · rintro ⟨h1, h2⟩
    exact ⟨k, ⟨h1, h2⟩, rfl⟩
theorem newTo_all (i g has n : Int) (j : Nat) (hj : (lstTo has 8).length ≤ j) : newTo i g has n j = newR i g has n := by
  unfold newTo newR
  congr 1
  funext k
  rw [List.take_of_length_le hj, lst_mem]
  simp
theorem newTo_succ (i g has n : Int) (j p : Nat) (hj : j < (lstTo has 8).length) (hp : (lstTo has 8)[j]? = some (p : Int)) : newTo i g has n (j + 1) = ⟨i, g, has, fun k => if k = p then n else (newTo i g has n j).v k⟩ := by
  unfold newTo
  congr 1
  funext k
  dsimp only
  rw [List.take_succ_eq_append_getElem hj]
  rw [List.getElem?_eq_getElem hj] at hp
  simp only [Option.some.injEq] at hp
  rw [hp]
  by_cases e : k = p
  · subst e; simp
  · have : ¬ ((k : Int) = (p : Int)) := by omega
    simp [e, this, List.contains_iff_mem]
theorem lst_small (has : Int) (j : Nat) (hj : j < (lstTo has 8).length) : ∃ p : Nat, p < 8 ∧ (lstTo has 8)[j]? = some (p : Int) := by
  have hm : (lstTo has 8)[j] ∈ lstTo has 8 := List.getElem_mem hj
  rw [List.getElem?_eq_getElem hj]
  generalize (lstTo has 8)[j] = y at *
  unfold lstTo at hm
  obtain ⟨p, hp, e⟩ := List.mem_map.1 hm
  rw [List.mem_filter, List.mem_range] at hp
  exact ⟨p, hp.1, by rw [← e]; rfl⟩

theorem list_b (has : Int) (w : World) (h0 : 0 ≤ has) (h1 : has ≤ 255) : Calls Try.prog 23 #[.int .i64 has] w fun e w' => ∃ B A c, w.heap.size ≤ B ∧ e = .returned (.slice A (lstTo has 8).length c) ∧ w'.ownsRow B 3 1 (.slice A (lstTo has 8).length c) (lstTo has 8).length ((lstTo has 8).map (Value.int .i64)) ∧ Below w.heap.size w w' :=
  (list_any has w h0 h1).mono fun e w' ⟨v, he, ho, hb⟩ => by
    obtain ⟨A, c, rfl⟩ := own_one ho
    exact ⟨w.heap.size, A, c, Nat.le_refl _, he, ho, hb⟩

set_option maxRecDepth 8000 in
set_option maxHeartbeats 2000000 in
theorem newRow_any (i g has n : Int) (w : World) (h0 : 0 ≤ has) (h1 : has ≤ 255) :
    Calls Try.prog 85 #[beingV i g, .int .i64 has, .int .i64 n] w fun e w' => e = .returned (rowV (newR i g has n)) ∧ Below w.heap.size w w' := by
  obtain ⟨W1, hW1⟩ : ∃ W, W = w.alloc (.cells #[.int .i64 i, .int .i64 g] 40) := ⟨_, rfl⟩
  have b1 : Below w.heap.size w W1 := by rw [hW1]; exact (Below.refl _ _).alloc (Nat.le_refl _) _
  have z1 : W1.heap.size = w.heap.size + 1 := by rw [hW1]; simp
  have e0 : newTo i g has n 0 = ⟨i, g, has, fun _ => 0⟩ := by unfold newTo; simp
  have hR0 := RB.start W1 dR (newTo i g has n 0)
  have hR : RB w (w.heap.size + 2) (w.heap.size + 1) (newTo i g has n 0) dR ((W1.alloc (.cells (rowCells dR).toArray 61)).alloc (.cells (rowCells (newTo i g has n 0)).toArray 61)) := by
    rw [z1] at hR0
    exact ⟨b1.trans (hR0.bel.mono b1.size), by omega, by omega, by omega, hR0.s, hR0.r, hR0.fs, hR0.fr⟩
  have hL := fun W => list_b has W h0 h1
  have HSZ : Hid (w.heap.size + 3 ≤ ((W1.alloc (.cells (rowCells dR).toArray 61)).alloc (.cells (rowCells (newTo i g has n 0)).toArray 61)).heap.size) := by show _ ≤ _; simp; omega
  have HE0 := hide e0
  rw [hW1, e0] at hR HSZ
  unfold rowCells dR at hR HSZ
  have HR := hide hR
  have HL := hide hL
  clear hR hR0 hL e0 b1 z1 hW1
  have hll := lst_len has 8
  unfold beingV
  go_enter Try.func85, Try.ntmps85
  go_wp2_with (first
    | (go_at_call 23; refine (unhide HL _).mono ?_; rintro e w5 ⟨B, A5, c5, hB, rfl, ho5, hb5⟩; have hB3 := Nat.le_trans (unhide HSZ) hB; have HO5 := hide ho5; have hR5 := (unhide HR).below hb5; rw [← unhide HE0] at hR5; have HR5 := hide hR5; clear ho5 hb5 hB hR5))
  clear HR HL HSZ HE0
  have HSM := hide (lst_small has)
  have HSU := hide (newTo_succ i g has n)
  have HAL := hide (newTo_all i g has n)
  have HMP : Hid (∀ j p : Nat, (lstTo has 8)[j]? = some (p : Int) → ((lstTo has 8).map (Value.int .i64))[j]? = some (.int .i64 (p : Int))) := fun j p h => by rw [List.getElem?_map, h]; rfl
  generalize (lstTo has 8).map (Value.int .i64) = xs at *
  generalize hln : (lstTo has 8).length = ln at *
  go_loopw [16] (fun t wr => ∃ j : Nat, j ≤ ln ∧ t = .int .i64 j ∧ RB w (w.heap.size + 2) (w.heap.size + 1) (newTo i g has n j) dR wr ∧ wr.ownsRow B 3 1 (.slice A5 ln c5) ln xs) (fun t _ => ln - (intOf t).toNat)
  case atStart => exact ⟨0, Nat.zero_le _, rfl, unhide HR5, unhide HO5⟩
  case round =>
    clear HR5 HO5
    obtain ⟨j, hj, rfl, hR, ho⟩ := hrel
    by_cases hlt : j < ln
    · obtain ⟨p, hp8, hp⟩ := unhide HSM j hlt
      obtain ⟨gl, cl, hA, hglo, _⟩ := own_pos ho (by omega)
      simp only [Value.slice.injEq, true_and] at hA
      obtain ⟨rfl, rfl⟩ := hA
      have hcell := own_cell ho (unhide HMP j p hp)
      have j0 : (0 : Int) ≤ (j : Int) := by omega
      have j1 : (j : Int) < (ln : Int) := by omega
      have p0 : (0 : Int) ≤ (p : Int) := by omega
      have p1 : (p : Int) < 8 := by omega
      have HSJ := hide (unhide HSU j p hlt hp)
      have HR := hide hR
      have HO := hide ho
      clear hR ho hp
      go_wp2_with (first
        | (refine wpList_put1 rfl 3 (.tmp 23) (.tmp 21) rfl (w.heap.size + 2) (3 + p) (.int .i64 n) rfl rfl rfl size3 (there_of (show wr.cell? ⟨w.heap.size + 2, 3 + p, none⟩ = some _ from by have := (unhide HR).r.v p hp8; rwa [Nat.zero_add] at this) (unhide HR).fr) ?_; intro W2 hW2; have HW2 := hide hW2; clear hW2))
      have hR2 := (unhide HR).setV p hp8 n
      have ho2 := ownsRow_setCell_other (unhide HO) (a := ⟨w.heap.size + 2, 3 + p, none⟩) (by simp [Value.ownBlock]; omega) (.int .i64 n)
      rw [← unhide HW2] at hR2 ho2
      have e : (⟨(newTo i g has n j).ix, (newTo i g has n j).gen, (newTo i g has n j).has, fun k => if k = p then n else (newTo i g has n j).v k⟩ : RowI) = newTo i g has n (j + 1) := (unhide HSJ).symm
      rw [e] at hR2
      have HR2 := hide hR2
      have HO2 := hide ho2
      clear hR2 ho2 e
      go_roundw
      case rel => exact ⟨j + 1, by omega, by go_num, unhide HR2, unhide HO2⟩
      case measure => simp [intOf]; omega
    · obtain rfl : j = ln := by omega
      rw [unhide HAL j (by omega)] at hR
      obtain ⟨z, hz⟩ : ∃ z, z = newR i g has n := ⟨_, rfl⟩
      rw [← hz] at hR
      have HZ := hide hz
      clear hz
      have c0 := hR.r.c0
      have c1 := hR.r.c1
      have c2 := hR.r.c2
      have c3 := hR.r.v 0 (by decide)
      have c4 := hR.r.v 1 (by decide)
      have c5' := hR.r.v 2 (by decide)
      have c6 := hR.r.v 3 (by decide)
      have c7 := hR.r.v 4 (by decide)
      have c8 := hR.r.v 5 (by decide)
      have c9 := hR.r.v 6 (by decide)
      have c10 := hR.r.v 7 (by decide)
      simp only [Nat.zero_add, Nat.reduceAdd] at c0 c1 c2 c3 c4 c5' c6 c7 c8 c9 c10
      have HR := hide hR
      clear hR ho HSM HSU HAL HMP
      go_wp2_with (first
        | (refine wpList_putN rfl 61 (.tmp 6) (.tmp 25) rfl (w.heap.size + 1) 0 (rowCells z) rfl rfl (rowCells_one z) size61 (rowAt_there (unhide HR).s (unhide HR).fs) ?_; intro W3 hW3; have hR3 := (unhide HR).give z; rw [← hW3] at hR3; have HR3 := hide hR3; clear hW3 hR3))
      clear c0 c1 c2 c3 c4 c5' c6 c7 c8 c9 c10
      have hR3 := unhide HR3
      have c0 := hR3.s.c0
      have c1 := hR3.s.c1
      have c2 := hR3.s.c2
      have c3 := hR3.s.v 0 (by decide)
      have c4 := hR3.s.v 1 (by decide)
      have c5' := hR3.s.v 2 (by decide)
      have c6 := hR3.s.v 3 (by decide)
      have c7 := hR3.s.v 4 (by decide)
      have c8 := hR3.s.v 5 (by decide)
      have c9 := hR3.s.v 6 (by decide)
      have c10 := hR3.s.v 7 (by decide)
      simp only [Nat.zero_add, Nat.reduceAdd] at c0 c1 c2 c3 c4 c5' c6 c7 c8 c9 c10
      refine bodyPost_ret (v := .agg #[.int .i64 z.ix, .int .i64 z.gen, .int .i64 z.has, .int .i64 (z.v 0), .int .i64 (z.v 1), .int .i64 (z.v 2), .int .i64 (z.v 3), .int .i64 (z.v 4), .int .i64 (z.v 5), .int .i64 (z.v 6), .int .i64 (z.v 7)]) (by simp [results, Try.results85, go_sem, c0, c1, c2, c3, c4, c5', c6, c7, c8, c9, c10]) rfl ⟨by rw [← unhide HZ]; rfl, hR3.bel⟩
end Go.Proofs.Ytmbjghjpofcdpaa
