/- The statement PlainTells' function: a wrong world. -/
import Derived.Test.YtnbleebilmghcaaLPTells0
set_option linter.unusedVariables false
set_option linter.unusedSimpArgs false
set_option linter.unnecessarySimpa false
namespace Go.Proofs.Ytnbleebilmghcaa
open Go Go.RowKit
attribute [local go_sem ↓] Go.wp_at_zero Go.wp_at_succ

set_option maxRecDepth 8000 in
set_option maxHeartbeats 16000000 in
theorem tells_wrong (A : Option Addr) (cap : Nat) (G : Option Addr) (gcap : Nat) (X : Wd) (i g has p n fa fn : Int) (w : World) (hl : X.rows.length * 88 ≤ 140737488351232) (hgl : X.gens.length * 8 ≤ 140737488351232) (hgv : ∀ j, j < X.gens.length → -9223372036854775808 ≤ X.gens.getD j 0) (hX : WldAt w A cap G gcap X) (hw : (wrongW X).1 ≠ 0) :
    Calls Try.prog 5 #[wldV A cap G gcap X, beingV i g, .int .i64 has, .int .i64 p, .int .i64 n, .agg #[.int .i64 fa, .int .i64 fn]] w fun e w' => e = .returned (.bool true) ∧ Below w.heap.size w w' := by
  have hTX := TX.start w (.slice A X.rows.length cap) (.slice G X.gens.length gcap) i g fa fn
  have hP := fun W (hb : Below w.heap.size w W) => pwrong_any A X.rows.length cap G X.gens.length gcap (fun j => X.rows.getD j dR) (fun j => X.gens.getD j 0) W (by omega) (hX.rows.below hb) (hX.gens.below hb)
  have hRP := fun W (hb : Below w.heap.size w W) => rpwrong_any A X.rows.length cap G X.gens.length gcap (fun j => X.rows.getD j dR) (fun j => X.gens.getD j 0) W (by omega) (hX.rows.below hb) (hX.gens.below hb)
  have eW : plainF (fun j => X.rows.getD j dR) X.rows.length X.gens.length (fun j => X.gens.getD j 0) = wrongW X := rfl
  rw [eW] at hP hRP
  unfold faultP worldV at hP hRP
  have hOW := fun W (hb : Below w.heap.size w W) => own_sl A cap X.rows G gcap X.gens W (by omega) (by omega) (hX.rows.below hb) (hX.gens.below hb)
  have hSW := fun W A' c' G' gc' (h : WldAt W A' c' G' gc' X) (h' : WldAt W A cap G gcap X) => same_true A' X.rows.length c' G' X.gens.length gc' A cap G gcap (fun j => X.rows.getD j dR) (fun j => X.gens.getD j 0) W (by omega) (by omega) h.rows h'.rows h.gens h'.gens
  unfold worldV at hOW hSW
  have hNX := fun W (hb : Below w.heap.size w W) => next_any A cap G gcap X W (by omega) (by omega) hgv (hX.below hb)
  have hRX := fun W (hb : Below w.heap.size w W) => rnext_any A cap G gcap X W (by omega) (by omega) hgv (hX.below hb)
  have hS1 := fun W (hb : Below w.heap.size w W) => spawn_any A cap G gcap X has n W (by omega) (hX.below hb)
  have hS2 := fun W (hb : Below w.heap.size w W) => rspawn_any A cap G gcap X has n W (by omega) (hX.below hb)
  have hS0 : (spawnF X has n).2.2.gens ≠ [] → ∀ c o, (none : Option Addr) = some ⟨c, o, none⟩ → c < w.heap.size := fun _ c o e => by cases e
  have hSM := same_few (spawn_few X has n)
  have hK1 := fun W (hb : Below w.heap.size w W) => kill_any A cap G gcap X i g W (by omega) (hX.below hb)
  have hK2 := fun W (hb : Below w.heap.size w W) => rkill_any A cap G gcap X i g W (by omega) (hX.below hb)
  have hK0 : (killF X i g).2.gens ≠ [] → ∀ c o, G = some ⟨c, o, none⟩ → c < w.heap.size := fun h => gens_at hX.gens (kill_gens X i g h)
  have hKM := same_few (kill_few X i g)
  have hU1 := fun W (hb : Below w.heap.size w W) => put_any A cap G gcap X i g p n W (by omega) (hX.below hb)
  have hU2 := fun W (hb : Below w.heap.size w W) => rput_any A cap G gcap X i g p n W (by omega) (hX.below hb)
  have hU0 : (putF X i g p n).2.gens ≠ [] → ∀ c o, G = some ⟨c, o, none⟩ → c < w.heap.size := fun h => gens_at hX.gens (ch_gens X i g _ h)
  have hUM := same_few (ch_few X i g (fun x => putC x p n))
  have hD1 := fun W (hb : Below w.heap.size w W) => drop_any A cap G gcap X i g p W (by omega) (hX.below hb)
  have hD2 := fun W (hb : Below w.heap.size w W) => rdrop_any A cap G gcap X i g p W (by omega) (hX.below hb)
  have hD0 : (dropF X i g p).2.gens ≠ [] → ∀ c o, G = some ⟨c, o, none⟩ → c < w.heap.size := fun h => gens_at hX.gens (ch_gens X i g _ h)
  have hDM := same_few (ch_few X i g (fun x => dropC x p))
  have eU : chF X i g (fun x => putC x p n) = putF X i g p n := rfl
  have eD : chF X i g (fun x => dropC x p) = dropF X i g p := rfl
  rw [eU] at hUM
  rw [eD] at hDM
  unfold wldV worldV beingV at hNX hRX hS1 hS2 hK1 hK2 hU1 hU2 hD1 hD2
  generalize (wrongW X).1 = we at *
  generalize (wrongW X).2 = wa at *
  generalize (nextF X).1.1 = ni at *
  generalize (nextF X).1.2 = ng at *
  generalize (nextF X).2 = ne at *
  generalize (spawnF X has n).2.2 = X4 at *
  generalize (spawnF X has n).2.1.1 = bi at *
  generalize (spawnF X has n).2.1.2 = bg at *
  generalize (spawnF X has n).1 = e4 at *
  generalize (killF X i g).2 = X5 at *
  generalize (killF X i g).1 = e5 at *
  generalize (putF X i g p n).2 = X6 at *
  generalize (putF X i g p n).1 = e6 at *
  generalize (dropF X i g p).2 = X7 at *
  generalize (dropF X i g p).1 = e7 at *
  have HP := hide hP
  have HRP := hide hRP
  have HOW := hide hOW
  have HSW := hide hSW
  have HNX := hide hNX
  have HRX := hide hRX
  have HS1 := hide hS1
  have HS2 := hide hS2
  have HS0 := hide hS0
  have HSM := hide hSM
  have HK1 := hide hK1
  have HK2 := hide hK2
  have HK0 := hide hK0
  have HKM := hide hKM
  have HU1 := hide hU1
  have HU2 := hide hU2
  have HU0 := hide hU0
  have HUM := hide hUM
  have HD1 := hide hD1
  have HD2 := hide hD2
  have HD0 := hide hD0
  have HDM := hide hDM
  have HX := hide hX
  have HTX := hide hTX
  clear hP hRP hOW hSW hNX hRX hS1 hS2 hS0 hSM hK1 hK2 hK0 hKM hU1 hU2 hU0 hUM hD1 hD2 hD0 hDM hX hTX eW eU eD
  have hfld := run_field
  unfold wldV worldV beingV
  go_enter Try.func5, Try.ntmps5
  go_wp2
  refine wp_region_vals (fun k v W => (([fun v _ => v = .agg #[.slice A X.rows.length cap, .slice G X.gens.length gcap], fun v _ => v = .agg #[.int .i64 we, .int .i64 wa], fun v _ => v = .agg #[.slice A X.rows.length cap, .slice G X.gens.length gcap], fun v _ => v = .agg #[.int .i64 we, .int .i64 wa], fun v _ => v = .bool false, fun v _ => v = .bool false,
      fun v _ => v = .agg #[.slice A X.rows.length cap, .slice G X.gens.length gcap], fun v W => ∃ A' c' G' gc', v = .agg #[.slice A' X.rows.length c', .slice G' X.gens.length gc'] ∧ WldAt W A' c' G' gc' X, fun v _ => v = .agg #[.slice A X.rows.length cap, .slice G X.gens.length gcap], fun v _ => v = .bool true, fun v _ => v = .bool false, fun v _ => v = .bool false] : List (Value → World → Prop)).getD k (fun _ _ => True)) v W)
    (TX w (.slice A X.rows.length cap) (.slice G X.gens.length gcap) i g fa fn) (by kernel_rfl) (by kernel_rfl) (by kernel_rfl) ?hV (fun w1 x h => h.below x.bel) (unhide HTX) ?hstep ?hend
  case hV =>
    intro k v w1 x
    rcases (by omega : k = 0 ∨ k = 1 ∨ k = 2 ∨ k = 3 ∨ k = 4 ∨ k = 5 ∨ k = 6 ∨ k = 7 ∨ k = 8 ∨ k = 9 ∨ k = 10 ∨ k = 11 ∨ 12 ≤ k) with rfl | rfl | rfl | rfl | rfl | rfl | rfl | rfl | rfl | rfl | rfl | rfl | h
    case inr.inr.inr.inr.inr.inr.inr.inr.inr.inr.inr.inr => intro _; rw [List.getD_eq_getElem?_getD, List.getElem?_eq_none (by simpa using h)]; trivial
    case inr.inr.inr.inr.inr.inr.inr.inl => rintro ⟨A', c', G', gc', e, h⟩; exact ⟨A', c', G', gc', e, h.below x.bel⟩
    all_goals exact id
  case hstep =>
    intro k o ho ac w1 hD hout hsz hv
    match k, ho with
    | 0, ho =>
      simp at ho
      subst ho
      have e6 : ac.tmps.getD 6 undef = .pointer (some ⟨w.heap.size, 0, none⟩) := hout 6 (by decide +kernel)
      have r0 := hD.r.e0
      have r1 := hD.r.e1
      refine .inl ⟨rfl, wp_reads (.agg #[.slice A X.rows.length cap, .slice G X.gens.length gcap]) (by simp [go_sem, Act.eval, -Array.getD_eq_getD_getElem?, e6, r0, r1]) rfl⟩
    | 1, ho =>
      simp at ho
      subst ho
      have e0 : ac.tmps.getD 23 undef = .agg #[.slice A X.rows.length cap, .slice G X.gens.length gcap] := hv 0 (by kernel_rfl)
      refine .inl ⟨rfl, wp_enters 34 #[.agg #[.slice A X.rows.length cap, .slice G X.gens.length gcap]] (by simp [go_sem, Act.eval, -Array.getD_eq_getD_getElem?, e0]) ((unhide HP _ hD.bel).mono ?_)⟩
      rintro e w2 ⟨rfl, hb2⟩
      exact ⟨_, rfl, rfl, hb2⟩
    | 2, ho =>
      simp at ho
      subst ho
      have e6 : ac.tmps.getD 6 undef = .pointer (some ⟨w.heap.size, 0, none⟩) := hout 6 (by decide +kernel)
      have r0 := hD.r.e0
      have r1 := hD.r.e1
      refine .inl ⟨rfl, wp_reads (.agg #[.slice A X.rows.length cap, .slice G X.gens.length gcap]) (by simp [go_sem, Act.eval, -Array.getD_eq_getD_getElem?, e6, r0, r1]) rfl⟩
    | 3, ho =>
      simp at ho
      subst ho
      have e0 : ac.tmps.getD 25 undef = .agg #[.slice A X.rows.length cap, .slice G X.gens.length gcap] := hv 2 (by kernel_rfl)
      refine .inl ⟨rfl, wp_enters 35 #[.agg #[.slice A X.rows.length cap, .slice G X.gens.length gcap]] (by simp [go_sem, Act.eval, -Array.getD_eq_getD_getElem?, e0]) ((unhide HRP _ hD.bel).mono ?_)⟩
      rintro e w2 ⟨rfl, hb2⟩
      exact ⟨_, rfl, rfl, hb2⟩
    | 4, ho =>
      simp at ho
      subst ho
      have e0 : ac.tmps.getD 24 undef = .agg #[.int .i64 we, .int .i64 wa] := hv 1 (by kernel_rfl)
      have e1 : ac.tmps.getD 26 undef = .agg #[.int .i64 we, .int .i64 wa] := hv 3 (by kernel_rfl)
      refine .inl ⟨rfl, wp_reads (.bool false) (by simp [go_sem, Act.eval, -Array.getD_eq_getD_getElem?, e0, e1]) rfl⟩
    | 5, ho =>
      simp at ho
      subst ho
      have e0 : ac.tmps.getD 27 undef = .bool false := hv 4 (by kernel_rfl)
      refine .inl ⟨rfl, wp_reads (.bool false) (by simp [go_sem, Act.eval, -Array.getD_eq_getD_getElem?, e0]) rfl⟩
    | 6, ho =>
      simp at ho
      subst ho
      have e6 : ac.tmps.getD 6 undef = .pointer (some ⟨w.heap.size, 0, none⟩) := hout 6 (by decide +kernel)
      have r0 := hD.r.e0
      have r1 := hD.r.e1
      have e5 : ac.tmps.getD 28 undef = .bool false := hv 5 (by kernel_rfl)
      refine .inl ⟨wanted_of rfl rfl e5, wp_reads (.agg #[.slice A X.rows.length cap, .slice G X.gens.length gcap]) (by simp [go_sem, Act.eval, -Array.getD_eq_getD_getElem?, e6, r0, r1]) rfl⟩
    | 7, ho =>
      simp at ho
      subst ho
      have e5 : ac.tmps.getD 28 undef = .bool false := hv 5 (by kernel_rfl)
      have e0 : ac.tmps.getD 29 undef = .agg #[.slice A X.rows.length cap, .slice G X.gens.length gcap] := hv 6 (by kernel_rfl)
      refine .inl ⟨wanted_of rfl rfl e5, wp_enters 37 #[.agg #[.slice A X.rows.length cap, .slice G X.gens.length gcap]] (by simp [go_sem, Act.eval, -Array.getD_eq_getD_getElem?, e0]) ((unhide HOW _ hD.bel).mono ?_)⟩
      rintro e w2 ⟨A5, c5, A8, c8, rfl, h5, h8, hb2⟩
      exact ⟨_, rfl, ⟨A5, c5, A8, c8, rfl, own_rows h5, own_ints h8⟩, hb2⟩
    | 8, ho =>
      simp at ho
      subst ho
      have e6 : ac.tmps.getD 6 undef = .pointer (some ⟨w.heap.size, 0, none⟩) := hout 6 (by decide +kernel)
      have r0 := hD.r.e0
      have r1 := hD.r.e1
      have e5 : ac.tmps.getD 28 undef = .bool false := hv 5 (by kernel_rfl)
      refine .inl ⟨wanted_of rfl rfl e5, wp_reads (.agg #[.slice A X.rows.length cap, .slice G X.gens.length gcap]) (by simp [go_sem, Act.eval, -Array.getD_eq_getD_getElem?, e6, r0, r1]) rfl⟩
    | 9, ho =>
      simp at ho
      subst ho
      have e5 : ac.tmps.getD 28 undef = .bool false := hv 5 (by kernel_rfl)
      obtain ⟨A5, c5, A8, c8, e0, h5⟩ : ∃ A' c' G' gc', ac.tmps.getD 30 undef = .agg #[.slice A' X.rows.length c', .slice G' X.gens.length gc'] ∧ WldAt w1 A' c' G' gc' X := hv 7 (by kernel_rfl)
      have e1 : ac.tmps.getD 31 undef = .agg #[.slice A X.rows.length cap, .slice G X.gens.length gcap] := hv 8 (by kernel_rfl)
      refine .inl ⟨wanted_of rfl rfl e5, wp_enters 36 #[.agg #[.slice A5 X.rows.length c5, .slice A8 X.gens.length c8], .agg #[.slice A X.rows.length cap, .slice G X.gens.length gcap]] (by simp [go_sem, Act.eval, -Array.getD_eq_getD_getElem?, e0, e1]) ((unhide HSW _ _ _ _ _ h5 ((unhide HX).below hD.bel)).mono ?_)⟩
      rintro e w2 ⟨rfl, hb2⟩
      exact ⟨_, rfl, rfl, hb2⟩
    | 10, ho =>
      simp at ho
      subst ho
      have e5 : ac.tmps.getD 28 undef = .bool false := hv 5 (by kernel_rfl)
      have e0 : ac.tmps.getD 32 undef = .bool true := hv 9 (by kernel_rfl)
      refine .inl ⟨wanted_of rfl rfl e5, wp_reads (.bool false) (by simp [go_sem, Act.eval, -Array.getD_eq_getD_getElem?, e0]) rfl⟩
    | 11, ho =>
      simp at ho
      subst ho
      have e0 : ac.tmps.getD 28 undef = .bool false := hv 5 (by kernel_rfl)
      have e1 : ac.tmps.getD 33 undef = .bool false := hv 10 (by kernel_rfl)
      refine .inl ⟨rfl, wp_reads (.bool false) (by simp [go_sem, Act.eval, -Array.getD_eq_getD_getElem?, e0, e1]) rfl⟩
    | k + 12, ho => simp at ho
  case hend =>
    intro v w1 hD hv hb
    have h11 : v 11 = .bool false := hv 11 (by decide)
    have r0 := hD.r.e0
    have r1 := hD.r.e1
    have HT1 : Hid (TN w (.slice A X.rows.length cap) (.slice G X.gens.length gcap) i g fa fn [] w1) := hide ⟨hD, by simp, List.Pairwise.nil⟩
    clear hv hD
    simp only [putAll, dstOf, List.getElem?_cons_zero, List.getElem?_cons_succ, Option.bind_some, Option.getD_some, List.length_cons, List.length_nil, Nat.reduceAdd, h11]
    clear h11 hb HOW HSW
    go_frame
    go_wp2_with (first
      | (go_at_call 38; refine (unhide HNX _ (unhide HT1).bel).mono ?_; rintro e w2 ⟨rfl, hb2⟩; have hT := ((unhide HT1).below hb2).new (.int .i64 ni) (.int .i64 ng) 40; clear r0 r1; have r0 := hT.r.e0; have r1 := hT.r.e1; have HT2 := hide hT; clear hb2 hT HT1 HNX)
      | (go_at_call 39; refine (unhide HRX _ (unhide HT2).bel).mono ?_; rintro e w3 ⟨rfl, hb3⟩; have hT := ((unhide HT2).below hb3).new (.int .i64 ni) (.int .i64 ng) 40; clear r0 r1; have r0 := hT.r.e0; have r1 := hT.r.e1; have c0 := (hT.bx (w2.heap.size, .int .i64 ni, .int .i64 ng) (by simp)).1.e0; have c1 := (hT.bx (w2.heap.size, .int .i64 ni, .int .i64 ng) (by simp)).1.e1; have d0 := (hT.bx (w3.heap.size, .int .i64 ni, .int .i64 ng) (by simp)).1.e0; have d1 := (hT.bx (w3.heap.size, .int .i64 ni, .int .i64 ng) (by simp)).1.e1; have HL2 := hide (hT.bx (w2.heap.size, .int .i64 ni, .int .i64 ng) (by simp)).1.lt; have HT3 := hide hT; clear hb3 hT HT2 HRX)
      | (go_at_call 40; refine (unhide HS1 _ (unhide HT3).bel).mono ?_; rintro e w4 ⟨A4, c4, G4, gc4, rfl, hX4, hb4⟩; have hT := ((unhide HT3).below hb4).new (.slice A4 X4.rows.length c4) (.slice G4 X4.gens.length gc4) 38; have HT4 := hide hT; have HX4 := hide (hX4.below (bel1 w4 (.cells #[.slice A4 X4.rows.length c4, .slice G4 X4.gens.length gc4] 38))); clear hb4 hT hX4 HT3 HS1 r0 r1 c0 c1 d0 d1)
      | (refine wpList_putN rfl 40 (.tmp 13) (.tmp 59) rfl w2.heap.size 0 [.int .i64 bi, .int .i64 bg] rfl rfl (by simp [Value.oneCell']) size40 ((unhide HT4).bx (w2.heap.size, .int .i64 ni, .int .i64 ng) (by simp)).1.there ?_; intro W5 hW5; have hT := TN.set (l1 := []) (l2 := [(w3.heap.size, .int .i64 ni, .int .i64 ng), (w4.heap.size, .slice A4 X4.rows.length c4, .slice G4 X4.gens.length gc4)]) (unhide HT4) (.int .i64 bi) (.int .i64 bg); have hY := (unhide HX4).putc (b := w2.heap.size) (o := 0) (vs := [.int .i64 bi, .int .i64 bg]) (unhide HL2); rw [← hW5] at hT hY; have r0 := hT.r.e0; have r1 := hT.r.e1; have HL3 := hide (hT.bx (w3.heap.size, .int .i64 ni, .int .i64 ng) (by simp)).1.lt; have HT5 := hide hT; have HX5 := hide hY; clear hW5 hT hY HT4 HX4 HL2)
      | (go_at_call 41; refine (unhide HS2 _ (unhide HT5).bel).mono ?_; rintro e w6 ⟨A6, c6, G6, gc6, rfl, hY6, hb6⟩; have hT := ((unhide HT5).below hb6).new (.slice A6 X4.rows.length c6) (.slice G6 X4.gens.length gc6) 38; have HT6 := hide hT; have HX6 := hide (((unhide HX5).below hb6).below (bel1 w6 (.cells #[.slice A6 X4.rows.length c6, .slice G6 X4.gens.length gc6] 38))); have HY6 := hide (hY6.below (bel1 w6 (.cells #[.slice A6 X4.rows.length c6, .slice G6 X4.gens.length gc6] 38))); clear hb6 hT hY6 HT5 HX5 HS2 r0 r1)
      | (refine wpList_putN rfl 40 (.tmp 15) (.tmp 67) rfl w3.heap.size 0 [.int .i64 bi, .int .i64 bg] rfl rfl (by simp [Value.oneCell']) size40 ((unhide HT6).bx (w3.heap.size, .int .i64 ni, .int .i64 ng) (by simp)).1.there ?_; intro W7 hW7; have hlo := ((unhide HT6).bx (w3.heap.size, .int .i64 ni, .int .i64 ng) (by simp)).2; have hT := TN.set (l1 := [(w2.heap.size, .int .i64 bi, .int .i64 bg)]) (l2 := [(w4.heap.size, .slice A4 X4.rows.length c4, .slice G4 X4.gens.length gc4), (w6.heap.size, .slice A6 X4.rows.length c6, .slice G6 X4.gens.length gc6)]) (unhide HT6) (.int .i64 bi) (.int .i64 bg); have hX := (unhide HX6).putc (b := w3.heap.size) (o := 0) (vs := [.int .i64 bi, .int .i64 bg]) (by simp); have hY := (unhide HY6).sets (unhide HS0) (b := w3.heap.size) (o := 0) (vs := [.int .i64 bi, .int .i64 bg]) (unhide HL3) (by omega); rw [← hW7] at hT hX hY; have r0 := hT.r.e0; have r1 := hT.r.e1; have c0 := (hT.bx (w2.heap.size, .int .i64 bi, .int .i64 bg) (by simp)).1.e0; have c1 := (hT.bx (w2.heap.size, .int .i64 bi, .int .i64 bg) (by simp)).1.e1; have d0 := (hT.bx (w3.heap.size, .int .i64 bi, .int .i64 bg) (by simp)).1.e0; have d1 := (hT.bx (w3.heap.size, .int .i64 bi, .int .i64 bg) (by simp)).1.e1; have x0 := (hT.bx (w4.heap.size, .slice A4 X4.rows.length c4, .slice G4 X4.gens.length gc4) (by simp)).1.e0; have x1 := (hT.bx (w4.heap.size, .slice A4 X4.rows.length c4, .slice G4 X4.gens.length gc4) (by simp)).1.e1; have y0 := (hT.bx (w6.heap.size, .slice A6 X4.rows.length c6, .slice G6 X4.gens.length gc6) (by simp)).1.e0; have y1 := (hT.bx (w6.heap.size, .slice A6 X4.rows.length c6, .slice G6 X4.gens.length gc6) (by simp)).1.e1; have HT7 := hide hT; have HX7 := hide hX; have HY7 := hide hY; clear hW7 hT hX hY hlo HT6 HX6 HY6 HL3 HS0)
      | (go_at_call 36; refine (unhide HSM _ _ _ _ _ _ _ _ _ (unhide HX7).toWldAt (unhide HY7).toWldAt).mono ?_; rintro e w8 ⟨rfl, hb8⟩; have hT := (unhide HT7).below hb8; clear r0 r1 c0 c1 d0 d1 x0 x1 y0 y1; have r0 := hT.r.e0; have r1 := hT.r.e1; have s0 := hT.s.e0; have s1 := hT.s.e1; have HTA := hide hT; clear hb8 hT HT7 HX7 HY7 HSM)
      | (go_at_call 42; refine (unhide HK1 _ (unhide HTA).bel).mono ?_; rintro e wk1 ⟨Ak1, ck1, Gk1, gck1, rfl, hX1, hb1⟩; have HLk1 := hide ((unhide HTA).bx (w4.heap.size, .slice A4 X4.rows.length c4, .slice G4 X4.gens.length gc4) (by simp)).1.lt; have HLk3 := hide ((unhide HTA).bx (w6.heap.size, .slice A6 X4.rows.length c6, .slice G6 X4.gens.length gc6) (by simp)).1.lt; have HTk1 := hide ((unhide HTA).below hb1); have HXk1 := hide hX1; clear hb1 hX1 HTA HK1 r0 r1 s0 s1)
      | (refine wpList_putN rfl 38 (.tmp 17) (.tmp 87) rfl w4.heap.size 0 [.slice Ak1 X5.rows.length ck1, .slice Gk1 X5.gens.length gck1] rfl rfl (by simp [Value.oneCell']) size38 ((unhide HTk1).bx (w4.heap.size, .slice A4 X4.rows.length c4, .slice G4 X4.gens.length gc4) (by simp)).1.there ?_; intro Vk2 hW2; have hT := TN.set (l1 := [(w2.heap.size, .int .i64 bi, .int .i64 bg), (w3.heap.size, .int .i64 bi, .int .i64 bg)]) (l2 := [(w6.heap.size, .slice A6 X4.rows.length c6, .slice G6 X4.gens.length gc6)]) (unhide HTk1) (.slice Ak1 X5.rows.length ck1) (.slice Gk1 X5.gens.length gck1); have hX := (unhide HXk1).putc (b := w4.heap.size) (o := 0) (vs := [.slice Ak1 X5.rows.length ck1, .slice Gk1 X5.gens.length gck1]) (unhide HLk1); rw [← hW2] at hT hX; have r0 := hT.r.e0; have r1 := hT.r.e1; have s0 := hT.s.e0; have s1 := hT.s.e1; have HLk4 := hide (hT.bx (w6.heap.size, .slice A6 X4.rows.length c6, .slice G6 X4.gens.length gc6) (by simp)).1.lt; have HTk2 := hide hT; have HXk2 := hide hX; clear hW2 hT hX HTk1 HXk1 HLk1)
      | (go_at_call 43; refine (unhide HK2 _ (unhide HTk2).bel).mono ?_; rintro e wk3 ⟨Ak3, ck3, Gk3, gck3, rfl, hY3, hb3⟩; have HTk3 := hide ((unhide HTk2).below hb3); have HXk3 := hide ((unhide HXk2).below hb3); have HYk3 := hide hY3; clear hb3 hY3 HTk2 HXk2 HK2 r0 r1 s0 s1)
      | (refine wpList_putN rfl 38 (.tmp 18) (.tmp 93) rfl w6.heap.size 0 [.slice Ak3 X5.rows.length ck3, .slice Gk3 X5.gens.length gck3] rfl rfl (by simp [Value.oneCell']) size38 ((unhide HTk3).bx (w6.heap.size, .slice A6 X4.rows.length c6, .slice G6 X4.gens.length gc6) (by simp)).1.there ?_; intro Vk4 hW4; have hlo := ((unhide HTk3).bx (w6.heap.size, .slice A6 X4.rows.length c6, .slice G6 X4.gens.length gc6) (by simp)).2; have hT := TN.set (l1 := [(w2.heap.size, .int .i64 bi, .int .i64 bg), (w3.heap.size, .int .i64 bi, .int .i64 bg), (w4.heap.size, .slice Ak1 X5.rows.length ck1, .slice Gk1 X5.gens.length gck1)]) (l2 := []) (unhide HTk3) (.slice Ak3 X5.rows.length ck3) (.slice Gk3 X5.gens.length gck3); have hX := (unhide HXk3).putc (b := w6.heap.size) (o := 0) (vs := [.slice Ak3 X5.rows.length ck3, .slice Gk3 X5.gens.length gck3]) (unhide HLk3); have hY := (unhide HYk3).sets (unhide HK0) (b := w6.heap.size) (o := 0) (vs := [.slice Ak3 X5.rows.length ck3, .slice Gk3 X5.gens.length gck3]) (unhide HLk4) (by simp only at hlo; omega); rw [← hW4] at hT hX hY; have x0 := (hT.bx (w4.heap.size, .slice Ak1 X5.rows.length ck1, .slice Gk1 X5.gens.length gck1) (by simp)).1.e0; have x1 := (hT.bx (w4.heap.size, .slice Ak1 X5.rows.length ck1, .slice Gk1 X5.gens.length gck1) (by simp)).1.e1; have y0 := (hT.bx (w6.heap.size, .slice Ak3 X5.rows.length ck3, .slice Gk3 X5.gens.length gck3) (by simp)).1.e0; have y1 := (hT.bx (w6.heap.size, .slice Ak3 X5.rows.length ck3, .slice Gk3 X5.gens.length gck3) (by simp)).1.e1; have HTk4 := hide hT; have HXk4 := hide hX; have HYk4 := hide hY; clear hW4 hlo hT hX hY HTk3 HXk3 HYk3 HLk3 HLk4 HK0)
      | (go_at_call 36; refine (unhide HKM _ _ _ _ _ _ _ _ _ (unhide HXk4).toWldAt (unhide HYk4).toWldAt).mono ?_; rintro e wk5 ⟨rfl, hb5⟩; have hT := (unhide HTk4).below hb5; clear x0 x1 y0 y1; have r0 := hT.r.e0; have r1 := hT.r.e1; have s0 := hT.s.e0; have s1 := hT.s.e1; have HTk5 := hide hT; clear hb5 hT HTk4 HXk4 HYk4 HKM)
      | (go_at_call 44; refine (unhide HU1 _ (unhide HTk5).bel).mono ?_; rintro e wu1 ⟨Au1, cu1, Gu1, gcu1, rfl, hX1, hb1⟩; have HLu1 := hide ((unhide HTk5).bx (w4.heap.size, .slice Ak1 X5.rows.length ck1, .slice Gk1 X5.gens.length gck1) (by simp)).1.lt; have HLu3 := hide ((unhide HTk5).bx (w6.heap.size, .slice Ak3 X5.rows.length ck3, .slice Gk3 X5.gens.length gck3) (by simp)).1.lt; have HTu1 := hide ((unhide HTk5).below hb1); have HXu1 := hide hX1; clear hb1 hX1 HTk5 HU1 r0 r1 s0 s1)
      | (refine wpList_putN rfl 38 (.tmp 17) (.tmp 110) rfl w4.heap.size 0 [.slice Au1 X6.rows.length cu1, .slice Gu1 X6.gens.length gcu1] rfl rfl (by simp [Value.oneCell']) size38 ((unhide HTu1).bx (w4.heap.size, .slice Ak1 X5.rows.length ck1, .slice Gk1 X5.gens.length gck1) (by simp)).1.there ?_; intro Vu2 hW2; have hT := TN.set (l1 := [(w2.heap.size, .int .i64 bi, .int .i64 bg), (w3.heap.size, .int .i64 bi, .int .i64 bg)]) (l2 := [(w6.heap.size, .slice Ak3 X5.rows.length ck3, .slice Gk3 X5.gens.length gck3)]) (unhide HTu1) (.slice Au1 X6.rows.length cu1) (.slice Gu1 X6.gens.length gcu1); have hX := (unhide HXu1).putc (b := w4.heap.size) (o := 0) (vs := [.slice Au1 X6.rows.length cu1, .slice Gu1 X6.gens.length gcu1]) (unhide HLu1); rw [← hW2] at hT hX; have r0 := hT.r.e0; have r1 := hT.r.e1; have s0 := hT.s.e0; have s1 := hT.s.e1; have HLu4 := hide (hT.bx (w6.heap.size, .slice Ak3 X5.rows.length ck3, .slice Gk3 X5.gens.length gck3) (by simp)).1.lt; have HTu2 := hide hT; have HXu2 := hide hX; clear hW2 hT hX HTu1 HXu1 HLu1)
      | (go_at_call 45; refine (unhide HU2 _ (unhide HTu2).bel).mono ?_; rintro e wu3 ⟨Au3, cu3, Gu3, gcu3, rfl, hY3, hb3⟩; have HTu3 := hide ((unhide HTu2).below hb3); have HXu3 := hide ((unhide HXu2).below hb3); have HYu3 := hide hY3; clear hb3 hY3 HTu2 HXu2 HU2 r0 r1 s0 s1)
      | (refine wpList_putN rfl 38 (.tmp 18) (.tmp 118) rfl w6.heap.size 0 [.slice Au3 X6.rows.length cu3, .slice Gu3 X6.gens.length gcu3] rfl rfl (by simp [Value.oneCell']) size38 ((unhide HTu3).bx (w6.heap.size, .slice Ak3 X5.rows.length ck3, .slice Gk3 X5.gens.length gck3) (by simp)).1.there ?_; intro Vu4 hW4; have hlo := ((unhide HTu3).bx (w6.heap.size, .slice Ak3 X5.rows.length ck3, .slice Gk3 X5.gens.length gck3) (by simp)).2; have hT := TN.set (l1 := [(w2.heap.size, .int .i64 bi, .int .i64 bg), (w3.heap.size, .int .i64 bi, .int .i64 bg), (w4.heap.size, .slice Au1 X6.rows.length cu1, .slice Gu1 X6.gens.length gcu1)]) (l2 := []) (unhide HTu3) (.slice Au3 X6.rows.length cu3) (.slice Gu3 X6.gens.length gcu3); have hX := (unhide HXu3).putc (b := w6.heap.size) (o := 0) (vs := [.slice Au3 X6.rows.length cu3, .slice Gu3 X6.gens.length gcu3]) (unhide HLu3); have hY := (unhide HYu3).sets (unhide HU0) (b := w6.heap.size) (o := 0) (vs := [.slice Au3 X6.rows.length cu3, .slice Gu3 X6.gens.length gcu3]) (unhide HLu4) (by simp only at hlo; omega); rw [← hW4] at hT hX hY; have x0 := (hT.bx (w4.heap.size, .slice Au1 X6.rows.length cu1, .slice Gu1 X6.gens.length gcu1) (by simp)).1.e0; have x1 := (hT.bx (w4.heap.size, .slice Au1 X6.rows.length cu1, .slice Gu1 X6.gens.length gcu1) (by simp)).1.e1; have y0 := (hT.bx (w6.heap.size, .slice Au3 X6.rows.length cu3, .slice Gu3 X6.gens.length gcu3) (by simp)).1.e0; have y1 := (hT.bx (w6.heap.size, .slice Au3 X6.rows.length cu3, .slice Gu3 X6.gens.length gcu3) (by simp)).1.e1; have HTu4 := hide hT; have HXu4 := hide hX; have HYu4 := hide hY; clear hW4 hlo hT hX hY HTu3 HXu3 HYu3 HLu3 HLu4 HU0)
      | (go_at_call 36; refine (unhide HUM _ _ _ _ _ _ _ _ _ (unhide HXu4).toWldAt (unhide HYu4).toWldAt).mono ?_; rintro e wu5 ⟨rfl, hb5⟩; have hT := (unhide HTu4).below hb5; clear x0 x1 y0 y1; have r0 := hT.r.e0; have r1 := hT.r.e1; have s0 := hT.s.e0; have s1 := hT.s.e1; have HTu5 := hide hT; clear hb5 hT HTu4 HXu4 HYu4 HUM)
      | (go_at_call 46; refine (unhide HD1 _ (unhide HTu5).bel).mono ?_; rintro e wd1 ⟨Ad1, cd1, Gd1, gcd1, rfl, hX1, hb1⟩; have HLd1 := hide ((unhide HTu5).bx (w4.heap.size, .slice Au1 X6.rows.length cu1, .slice Gu1 X6.gens.length gcu1) (by simp)).1.lt; have HLd3 := hide ((unhide HTu5).bx (w6.heap.size, .slice Au3 X6.rows.length cu3, .slice Gu3 X6.gens.length gcu3) (by simp)).1.lt; have HTd1 := hide ((unhide HTu5).below hb1); have HXd1 := hide hX1; clear hb1 hX1 HTu5 HD1 r0 r1 s0 s1)
      | (refine wpList_putN rfl 38 (.tmp 17) (.tmp 134) rfl w4.heap.size 0 [.slice Ad1 X7.rows.length cd1, .slice Gd1 X7.gens.length gcd1] rfl rfl (by simp [Value.oneCell']) size38 ((unhide HTd1).bx (w4.heap.size, .slice Au1 X6.rows.length cu1, .slice Gu1 X6.gens.length gcu1) (by simp)).1.there ?_; intro Vd2 hW2; have hT := TN.set (l1 := [(w2.heap.size, .int .i64 bi, .int .i64 bg), (w3.heap.size, .int .i64 bi, .int .i64 bg)]) (l2 := [(w6.heap.size, .slice Au3 X6.rows.length cu3, .slice Gu3 X6.gens.length gcu3)]) (unhide HTd1) (.slice Ad1 X7.rows.length cd1) (.slice Gd1 X7.gens.length gcd1); have hX := (unhide HXd1).putc (b := w4.heap.size) (o := 0) (vs := [.slice Ad1 X7.rows.length cd1, .slice Gd1 X7.gens.length gcd1]) (unhide HLd1); rw [← hW2] at hT hX; have r0 := hT.r.e0; have r1 := hT.r.e1; have s0 := hT.s.e0; have s1 := hT.s.e1; have HLd4 := hide (hT.bx (w6.heap.size, .slice Au3 X6.rows.length cu3, .slice Gu3 X6.gens.length gcu3) (by simp)).1.lt; have HTd2 := hide hT; have HXd2 := hide hX; clear hW2 hT hX HTd1 HXd1 HLd1)
      | (go_at_call 47; refine (unhide HD2 _ (unhide HTd2).bel).mono ?_; rintro e wd3 ⟨Ad3, cd3, Gd3, gcd3, rfl, hY3, hb3⟩; have HTd3 := hide ((unhide HTd2).below hb3); have HXd3 := hide ((unhide HXd2).below hb3); have HYd3 := hide hY3; clear hb3 hY3 HTd2 HXd2 HD2 r0 r1 s0 s1)
      | (refine wpList_putN rfl 38 (.tmp 18) (.tmp 141) rfl w6.heap.size 0 [.slice Ad3 X7.rows.length cd3, .slice Gd3 X7.gens.length gcd3] rfl rfl (by simp [Value.oneCell']) size38 ((unhide HTd3).bx (w6.heap.size, .slice Au3 X6.rows.length cu3, .slice Gu3 X6.gens.length gcu3) (by simp)).1.there ?_; intro Vd4 hW4; have hlo := ((unhide HTd3).bx (w6.heap.size, .slice Au3 X6.rows.length cu3, .slice Gu3 X6.gens.length gcu3) (by simp)).2; have hT := TN.set (l1 := [(w2.heap.size, .int .i64 bi, .int .i64 bg), (w3.heap.size, .int .i64 bi, .int .i64 bg), (w4.heap.size, .slice Ad1 X7.rows.length cd1, .slice Gd1 X7.gens.length gcd1)]) (l2 := []) (unhide HTd3) (.slice Ad3 X7.rows.length cd3) (.slice Gd3 X7.gens.length gcd3); have hX := (unhide HXd3).putc (b := w6.heap.size) (o := 0) (vs := [.slice Ad3 X7.rows.length cd3, .slice Gd3 X7.gens.length gcd3]) (unhide HLd3); have hY := (unhide HYd3).sets (unhide HD0) (b := w6.heap.size) (o := 0) (vs := [.slice Ad3 X7.rows.length cd3, .slice Gd3 X7.gens.length gcd3]) (unhide HLd4) (by simp only at hlo; omega); rw [← hW4] at hT hX hY; have x0 := (hT.bx (w4.heap.size, .slice Ad1 X7.rows.length cd1, .slice Gd1 X7.gens.length gcd1) (by simp)).1.e0; have x1 := (hT.bx (w4.heap.size, .slice Ad1 X7.rows.length cd1, .slice Gd1 X7.gens.length gcd1) (by simp)).1.e1; have y0 := (hT.bx (w6.heap.size, .slice Ad3 X7.rows.length cd3, .slice Gd3 X7.gens.length gcd3) (by simp)).1.e0; have y1 := (hT.bx (w6.heap.size, .slice Ad3 X7.rows.length cd3, .slice Gd3 X7.gens.length gcd3) (by simp)).1.e1; have HTd4 := hide hT; have HXd4 := hide hX; have HYd4 := hide hY; clear hW4 hlo hT hX hY HTd3 HXd3 HYd3 HLd3 HLd4 HD0)
      | (go_at_call 36; refine (unhide HDM _ _ _ _ _ _ _ _ _ (unhide HXd4).toWldAt (unhide HYd4).toWldAt).mono ?_; rintro e wd5 ⟨rfl, hb5⟩; have hT := (unhide HTd4).below hb5; clear x0 x1 y0 y1; have r0 := hT.r.e0; have r1 := hT.r.e1; have s0 := hT.s.e0; have s1 := hT.s.e1; have HTd5 := hide hT; clear hb5 hT HTd4 HXd4 HYd4 HDM)
      | (go_at_call 35; refine (unhide HRP _ (unhide HTd5).bel).mono ?_; rintro e wz ⟨rfl, hbz⟩; have HZ := hide ((unhide HTd5).bel.trans (hbz.mono (unhide HTd5).bel.size)); clear hbz))
    go_ret
    exact ⟨rfl, unhide HZ⟩
end Go.Proofs.Ytnbleebilmghcaa
