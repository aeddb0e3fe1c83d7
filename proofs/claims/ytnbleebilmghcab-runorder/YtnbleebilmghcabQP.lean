/- SFour, SGet -/
import Derived.Test.YtnbleebilmghcabQO
set_option linter.all false
namespace Go.Proofs.Ytnbleebilmghcab
open Go Go.RowKit
attribute [local go_sem ↓] Go.wp_at_zero Go.wp_at_succ
set_option maxRecDepth 8000 in
set_option maxHeartbeats 4000000 in
theorem sspawn_any (T : Option Addr) (tcap : Nat) (G : Option Addr) (gcap : Nat) (tabs : List TabI) (X : Wd) (has n : Int) (w : World) (h : StAt w T G tabs X) :
    Calls Try.prog 40 #[stV T tabs.length tcap G X.gens.length gcap, .int .i64 has, .int .i64 n] w fun e w' => ∃ T' tc' G' gc', e = .returned (.tuple #[stV T' (tabsW (spawnF X has n).2.2).length tc' G' (spawnF X has n).2.2.gens.length gc', beingV (spawnF X has n).2.1.1 (spawnF X has n).2.1.2, .int .i64 (spawnF X has n).1]) ∧ StNew w.heap.size w' T' G' (tabsW (spawnF X has n).2.2) (spawnF X has n).2.2 ∧ Below w.heap.size w w' := by
  have hl := (right_hr ((right_iff X).2 h.right)).1
  have hBX := Bxs.start w [([.slice T tabs.length tcap, .slice G X.gens.length gcap], 43), ([.int .i64 has], 3), ([.int .i64 n], 3), ([.slice none 0 0, .slice none 0 0], 43), ([.int .i64 0, .int .i64 0], 50), ([.int .i64 0, .int .i64 0], 50)]
  have hb := allocs_below [([.slice T tabs.length tcap, .slice G X.gens.length gcap], 43), ([.int .i64 has], 3), ([.int .i64 n], 3), ([.slice none 0 0, .slice none 0 0], 43), ([.int .i64 0, .int .i64 0], 50), ([.int .i64 0, .int .i64 0], 50)] w
  have hs := allocs_size [([.slice T tabs.length tcap, .slice G X.gens.length gcap], 43), ([.int .i64 has], 3), ([.int .i64 n], 3), ([.slice none 0 0, .slice none 0 0], 43), ([.int .i64 0, .int .i64 0], 50), ([.int .i64 0, .int .i64 0], 50)] w
  obtain ⟨W, hW⟩ : ∃ W, W = allocs w [([.slice T tabs.length tcap, .slice G X.gens.length gcap], 43), ([.int .i64 has], 3), ([.int .i64 n], 3), ([.slice none 0 0, .slice none 0 0], 43), ([.int .i64 0, .int .i64 0], 50), ([.int .i64 0, .int .i64 0], 50)] := ⟨_, rfl⟩
  rw [← hW] at hBX hb hs
  have hcb : B13 (w.heap.size + 5) (.int .i64 0) (.int .i64 0) W := ⟨hBX.cell 5 rfl 0 rfl, hBX.cell 5 rfl 1 rfl, fun j => hBX.free 5 rfl j⟩
  have hCH := schange_any 62 [.pointer (some ⟨w.heap.size + 1, 0, none⟩), .pointer (some ⟨w.heap.size + 2, 0, none⟩), .pointer (some ⟨w.heap.size + 5, 0, none⟩)] T tcap G gcap tabs X (spawnF X has n).2.2 (spawnF X has n).1 (w.heap.size + 5) _ W (h.below hb) (by rw [hs]; simp) (fun e => (spawn_keeps e 0 0).1) spawn_no (becomes_spawn X (w.heap.size + 1) (w.heap.size + 2) (w.heap.size + 5) has n W hl (hBX.cell 1 rfl 0 rfl) (hBX.cell 2 rfl 0 rfl) hcb (by rw [hs]; simp)) enters98
  obtain ⟨Y, hY⟩ : ∃ Y, Y = (spawnF X has n).2.2 := ⟨_, rfl⟩
  obtain ⟨err, herr⟩ : ∃ err, err = (spawnF X has n).1 := ⟨_, rfl⟩
  obtain ⟨ci, hci⟩ : ∃ ci, ci = (spawnF X has n).2.1.1 := ⟨_, rfl⟩
  obtain ⟨cg, hcg⟩ : ∃ cg, cg = (spawnF X has n).2.1.2 := ⟨_, rfl⟩
  rw [← hY, ← herr, ← hci, ← hcg] at hCH ⊢
  have hW' : (((((w.alloc (.cells #[.slice T tabs.length tcap, .slice G X.gens.length gcap] 43)).alloc (.cells #[.int .i64 has] 3)).alloc (.cells #[.int .i64 n] 3)).alloc (.cells #[.slice none 0 0, .slice none 0 0] 43)).alloc (.cells #[.int .i64 0, .int .i64 0] 50)).alloc (.cells #[.int .i64 0, .int .i64 0] 50) = W := hW.symm
  have HW := hide hW'
  have HB := hide hBX
  have HBL := hide hb
  have HS := hide hs
  unfold stV at hCH
  have HCH := hide hCH
  clear hW hW' hBX hb hs hCH h hY herr hl hci hcg hcb
  unfold stV beingV
  go_enter Try.func40, Try.ntmps40
  go_wp2_with fail
  go_at_call 61
  rw [unhide HW]
  refine (unhide HCH).mono ?_
  rintro e w4 ⟨T4, tc4, G4, gc4, rfl, hN4, hb4⟩
  have hB4 := ((unhide HB).give 5 rfl [.int .i64 ci, .int .i64 cg] rfl).below (by rw [size_setCells]; exact hb4)
  have hz4 : w.heap.size + 6 ≤ w4.heap.size := by
    have := hb4.size
    rw [size_setCells, unhide HS] at this
    simpa using this
  have hL4 : Below w.heap.size w w4 := (below_setCells (w.heap.size + 5) (by omega) _ 0 _ (unhide HBL)).trans (hb4.mono (unhide HBL).size)
  have hN4 := hN4.le (base' := w.heap.size + 6) (by rw [unhide HS]; simp)
  have h0 : Bxs w.heap.size [([.slice T tabs.length tcap, .slice G X.gens.length gcap], 43), ([.int .i64 has], 3), ([.int .i64 n], 3), ([.slice none 0 0, .slice none 0 0], 43), ([.int .i64 0, .int .i64 0], 50), ([.int .i64 ci, .int .i64 cg], 50)] (w4.alloc (.cells #[.slice T4 (tabsW Y).length tc4, .slice G4 Y.gens.length gc4] 43)).drew ∧ (w4.alloc (.cells #[.slice T4 (tabsW Y).length tc4, .slice G4 Y.gens.length gc4] 43)).drew.cell? ⟨w4.heap.size, 0, none⟩ = some (.slice T4 (tabsW Y).length tc4) ∧ (w4.alloc (.cells #[.slice T4 (tabsW Y).length tc4, .slice G4 Y.gens.length gc4] 43)).drew.cell? ⟨w4.heap.size, 1, none⟩ = some (.slice G4 Y.gens.length gc4) ∧ StNew (w.heap.size + 6) (w4.alloc (.cells #[.slice T4 (tabsW Y).length tc4, .slice G4 Y.gens.length gc4] 43)).drew T4 G4 (tabsW Y) Y ∧ Below w.heap.size w (w4.alloc (.cells #[.slice T4 (tabsW Y).length tc4, .slice G4 Y.gens.length gc4] 43)).drew :=
    ⟨hB4.below (bel1 _ _).drew, by show (w4.alloc _).cell? _ = _; simp, by show (w4.alloc _).cell? _ = _; simp, hN4.below (bel1 _ _).drew, (hL4.trans ((bel1 _ _).mono hL4.size)).drew⟩
  have HZ := hide hz4
  clear hB4 hL4 hN4 hb4 hz4 HW HB HBL HCH HS
  go_wp2_with fail
  refine wp_region_gho (fun (γ : Unit) ix v => (([fun v => v = .agg #[.slice T4 (tabsW Y).length tc4, .slice G4 Y.gens.length gc4], fun v => v = .agg #[.int .i64 ci, .int .i64 cg], fun v => v = .int .i64 err, fun _ => True, fun _ => True, fun v => v = .int .i64 err] : List (Value → Prop)).getD ix (fun _ => True)) v) (fun (_ : Unit) L W => Bxs w.heap.size [([.slice T tabs.length tcap, .slice G X.gens.length gcap], 43), ([.int .i64 has], 3), ([.int .i64 n], 3), (if L 3 = true then [.slice T4 (tabsW Y).length tc4, .slice G4 Y.gens.length gc4] else [.slice none 0 0, .slice none 0 0], 43), (if L 4 = true then [.int .i64 ci, .int .i64 cg] else [.int .i64 0, .int .i64 0], 50), ([.int .i64 ci, .int .i64 cg], 50)] W ∧ W.cell? ⟨w4.heap.size, 0, none⟩ = some (.slice T4 (tabsW Y).length tc4) ∧ W.cell? ⟨w4.heap.size, 1, none⟩ = some (.slice G4 Y.gens.length gc4) ∧ StNew (w.heap.size + 6) W T4 G4 (tabsW Y) Y ∧ Below w.heap.size w W) (()) (by kernel_rfl) (by kernel_rfl) (by kernel_rfl) h0 ?hstep ?hend
  case hstep =>
    intro γ ix o ho L ac w1 hD hL hed hcl hout hv
    match ix, ho with
    | 0, ho =>
      simp at ho
      subst ho
      have e10 : ac.tmps.getD 10 undef = .pointer (some ⟨w4.heap.size, 0, none⟩) := hout 10 (by decide +kernel)
      have c0 := hD.2.1
      have c1 := hD.2.2.1
      exact .inl ⟨rfl, gho_reads γ (.agg #[.slice T4 (tabsW Y).length tc4, .slice G4 Y.gens.length gc4]) (by simp [go_sem, Act.eval, -Array.getD_eq_getD_getElem?, e10, c0, c1]) rfl (by rw [upd_ne (by decide), upd_ne (by decide)]; exact hD) (fun _ _ _ _ h => h)⟩
    | 1, ho =>
      simp at ho
      subst ho
      have e9 : ac.tmps.getD 9 undef = .pointer (some ⟨w.heap.size + 5, 0, none⟩) := hout 9 (by decide +kernel)
      have c0 := hD.1.cell 5 rfl 0 rfl
      have c1 := hD.1.cell 5 rfl 1 rfl
      exact .inl ⟨rfl, gho_reads γ (.agg #[.int .i64 ci, .int .i64 cg]) (by simp [go_sem, Act.eval, -Array.getD_eq_getD_getElem?, e9, c0, c1]) rfl (by rw [upd_ne (by decide), upd_ne (by decide)]; exact hD) (fun _ _ _ _ h => h)⟩
    | 2, ho =>
      simp at ho
      subst ho
      have e11 : ac.tmps.getD 11 undef = .int .i64 err := hout 11 (by decide +kernel)
      exact .inl ⟨rfl, gho_reads γ (.int .i64 err) (by simp [go_sem, Act.eval, -Array.getD_eq_getD_getElem?, e11]) rfl (by rw [upd_ne (by decide), upd_ne (by decide)]; exact hD) (fun _ _ _ _ h => h)⟩
    | 3, ho =>
      simp at ho
      subst ho
      have e6 : ac.tmps.getD 6 undef = .pointer (some ⟨w.heap.size + 3, 0, none⟩) := hout 6 (by decide +kernel)
      have e18 : ac.tmps.getD 18 undef = .agg #[.slice T4 (tabsW Y).length tc4, .slice G4 Y.gens.length gc4] := hv 0 18 rfl (by kernel_rfl)
      have hg := hD.1.give 3 rfl [.slice T4 (tabsW Y).length tc4, .slice G4 Y.gens.length gc4] (by rw [hL]; rfl)
      refine .inl ⟨rfl, gho_putN γ 43 (.tmp 6) (.tmp 18) rfl (w.heap.size + 3) 0 [.slice T4 (tabsW Y).length tc4, .slice G4 Y.gens.length gc4] (by simp [Act.eval, -Array.getD_eq_getD_getElem?, e6]) (by simp [Act.eval, -Array.getD_eq_getD_getElem?, e18]) (by simp [Value.oneCell']) size71 (hD.1.there 3 rfl 2 (by rw [hL]; rfl)) trivial ⟨?_, (setcs_other (by have := unhide HZ; simp only [ne_eq]; omega)).trans hD.2.1, (setcs_other (by have := unhide HZ; simp only [ne_eq]; omega)).trans hD.2.2.1, hD.2.2.2.1.putc (by omega), below_setCells (w.heap.size + 3) (by omega) _ 0 _ hD.2.2.2.2⟩ (fun _ _ _ _ h => h)⟩
      rw [upd_ne (i := 3) (j := 4) (by decide), upd_eq, if_pos rfl]
      exact hg
    | 4, ho =>
      simp at ho
      subst ho
      have e7 : ac.tmps.getD 7 undef = .pointer (some ⟨w.heap.size + 4, 0, none⟩) := hout 7 (by decide +kernel)
      have e19 : ac.tmps.getD 19 undef = .agg #[.int .i64 ci, .int .i64 cg] := hv 1 19 rfl (by kernel_rfl)
      have hg := hD.1.give 4 rfl [.int .i64 ci, .int .i64 cg] (by rw [hL]; rfl)
      refine .inl ⟨rfl, gho_putN γ 50 (.tmp 7) (.tmp 19) rfl (w.heap.size + 4) 0 [.int .i64 ci, .int .i64 cg] (by simp [Act.eval, -Array.getD_eq_getD_getElem?, e7]) (by simp [Act.eval, -Array.getD_eq_getD_getElem?, e19]) (by simp [Value.oneCell']) size40 (hD.1.there 4 rfl 2 (by rw [hL]; rfl)) trivial ⟨?_, (setcs_other (by have := unhide HZ; simp only [ne_eq]; omega)).trans hD.2.1, (setcs_other (by have := unhide HZ; simp only [ne_eq]; omega)).trans hD.2.2.1, hD.2.2.2.1.putc (by omega), below_setCells (w.heap.size + 4) (by omega) _ 0 _ hD.2.2.2.2⟩ (fun _ _ _ _ h => h)⟩
      rw [upd_ne (i := 4) (j := 3) (by decide), upd_eq, if_pos rfl]
      exact hg
    | 5, ho =>
      simp at ho
      subst ho
      have e20 : ac.tmps.getD 20 undef = .int .i64 err := hv 2 20 rfl (by kernel_rfl)
      exact .inl ⟨rfl, gho_reads γ (.int .i64 err) (by simp [go_sem, Act.eval, -Array.getD_eq_getD_getElem?, e20]) rfl (by rw [upd_ne (by decide), upd_ne (by decide)]; exact hD) (fun _ _ _ _ h => h)⟩
    | ix + 6, ho => simp at ho
  case hend =>
    intro γ v L w9 hD hall hv
    rw [hall 3 (by decide), hall 4 (by decide), if_pos rfl, if_pos rfl] at hD
    have v8 : v 5 = .int .i64 err := hv 5 8 rfl
    have HD := hide hD
    clear hv hall hD h0
    simp only [putOps, List.getElem?_cons_zero, List.getElem?_cons_succ, Option.bind_some, List.length_cons, List.length_nil, Nat.reduceAdd, v8]
    clear v8
    go_frame
    go_wp2
    have t0 := (unhide HD).1.cell 3 rfl 0 rfl
    have t1 := (unhide HD).1.cell 3 rfl 1 rfl
    have s0 := (unhide HD).1.cell 4 rfl 0 rfl
    have s1 := (unhide HD).1.cell 4 rfl 1 rfl
    refine bodyPost_ret (v := .tuple #[.agg #[.slice T4 (tabsW Y).length tc4, .slice G4 Y.gens.length gc4], .agg #[.int .i64 ci, .int .i64 cg], .int .i64 err]) (by simp [results, Try.results40, go_sem, t0, t1, s0, s1]) rfl ⟨T4, tc4, G4, gc4, rfl, (unhide HD).2.2.2.1.le (by omega), (unhide HD).2.2.2.2⟩
end Go.Proofs.Ytnbleebilmghcab
namespace Go.Proofs.Ytnbleebilmghcab
open Go Go.RowKit
attribute [local go_sem ↓] Go.wp_at_zero Go.wp_at_succ
def getW (X : Wd) (i g p : Int) : Int × Bool := getI (fun j => X.rows.getD j dR) X.rows.length i g p
set_option maxRecDepth 8000 in
set_option maxHeartbeats 4000000 in
theorem sget_any (T : Option Addr) (tcap : Nat) (G : Option Addr) (gcap : Nat) (tabs : List TabI) (X : Wd) (i g p : Int) (w : World) (h : StAt w T G tabs X) :
    Calls Try.prog 41 #[stV T tabs.length tcap G X.gens.length gcap, beingV i g, .int .i64 p] w fun e w' => e = .returned (.tuple #[.int .i64 (getW X i g p).1, .bool (getW X i g p).2]) ∧ Below w.heap.size w w' := by
  have hl := (right_hr ((right_iff X).2 h.right)).1
  have hBX := Bxs.start w [([.slice T tabs.length tcap, .slice G X.gens.length gcap], 43), ([.int .i64 i, .int .i64 g], 50)]
  have hb := allocs_below [([.slice T tabs.length tcap, .slice G X.gens.length gcap], 43), ([.int .i64 i, .int .i64 g], 50)] w
  have hWo := fun W (hb : Below w.heap.size w W) => sworld_any T tcap G gcap tabs X W (h.below hb)
  have hG := fun A c G' gc W (hX : WldAt W A c G' gc X) => get_any A X.rows.length c G' X.gens.length gc (fun j => X.rows.getD j dR) i g p W (by omega) hX.rows
  have eG : getI (fun j => X.rows.getD j dR) X.rows.length i g p = getW X i g p := rfl
  rw [eG] at hG
  unfold stV wldV worldV at hWo
  unfold worldV beingV at hG
  generalize (getW X i g p).1 = gv at *
  generalize (getW X i g p).2 = gb at *
  have h0 : Bxs w.heap.size [([.slice T tabs.length tcap, .slice G X.gens.length gcap], 43), ([.int .i64 i, .int .i64 g], 50)] (allocs w [([.slice T tabs.length tcap, .slice G X.gens.length gcap], 43), ([.int .i64 i, .int .i64 g], 50)]).drew ∧ Below w.heap.size w (allocs w [([.slice T tabs.length tcap, .slice G X.gens.length gcap], 43), ([.int .i64 i, .int .i64 g], 50)]).drew ∧ ((fun (_ : Nat) => false) 1 = true → ∃ A c G' gc, undef = .agg #[.slice A X.rows.length c, .slice G' X.gens.length gc] ∧ WldAt (allocs w [([.slice T tabs.length tcap, .slice G X.gens.length gcap], 43), ([.int .i64 i, .int .i64 g], 50)]).drew A c G' gc X) := ⟨hBX.below (Below.refl _ _).drew, hb.drew, fun e => by cases e⟩
  have HW := hide hWo
  have HG := hide hG
  have H0 := hide h0
  clear hBX hb hWo hG eG h h0 hl
  unfold stV beingV
  go_enter Try.func41, Try.ntmps41
  go_wp2_with fail
  have h0 := unhide H0
  clear H0
  refine wp_region_gho (fun (γ : Value) ix v => if ix = 1 then v = γ else (([fun v => v = .agg #[.slice T tabs.length tcap, .slice G X.gens.length gcap], fun _ => True, fun v => v = .agg #[.int .i64 i, .int .i64 g], fun v => v = .int .i64 p, fun v => v = .tuple #[.int .i64 gv, .bool gb], fun v => v = .int .i64 gv, fun v => v = .bool gb, fun v => v = .int .i64 gv, fun v => v = .bool gb] : List (Value → Prop)).getD ix (fun _ => True)) v) (fun (γ : Value) L W => Bxs w.heap.size [([.slice T tabs.length tcap, .slice G X.gens.length gcap], 43), ([.int .i64 i, .int .i64 g], 50)] W ∧ Below w.heap.size w W ∧ (L 1 = true → ∃ A c G' gc, γ = .agg #[.slice A X.rows.length c, .slice G' X.gens.length gc] ∧ WldAt W A c G' gc X)) (undef) (by kernel_rfl) (by kernel_rfl) (by kernel_rfl) h0 ?hstep ?hend
  case hstep =>
    intro γ ix o ho L ac w1 hD hL hed hcl hout hv
    match ix, ho with
    | 0, ho =>
      simp at ho
      subst ho
      have e3 : ac.tmps.getD 3 undef = .pointer (some ⟨w.heap.size, 0, none⟩) := hout 3 (by decide +kernel)
      have c0 := hD.1.cell 0 rfl 0 rfl
      have c1 := hD.1.cell 0 rfl 1 rfl
      rw [Nat.add_zero] at c0 c1
      exact .inl ⟨rfl, gho_reads γ (.agg #[.slice T tabs.length tcap, .slice G X.gens.length gcap]) (by simp [go_sem, Act.eval, -Array.getD_eq_getD_getElem?, e3, c0, c1]) rfl (by rw [upd_ne (by decide)]; exact hD) (fun _ _ _ _ h => h)⟩
    | 1, ho =>
      simp at ho
      subst ho
      have e8 : ac.tmps.getD 8 undef = .agg #[.slice T tabs.length tcap, .slice G X.gens.length gcap] := hv 0 8 rfl (by kernel_rfl)
      refine .inl ⟨rfl, gho_enters 18 #[.agg #[.slice T tabs.length tcap, .slice G X.gens.length gcap]] (by simp [go_sem, Act.eval, -Array.getD_eq_getD_getElem?, e8]) ?_⟩
      refine (unhide HW _ hD.2.1).mono ?_
      rintro e w2 ⟨A2, c2, G2, gc2, rfl, hN2, hb2⟩
      exact ⟨_, .agg #[.slice A2 X.rows.length c2, .slice G2 X.gens.length gc2], rfl, rfl, ⟨hD.1.below hb2, hD.2.1.trans (hb2.mono hD.2.1.size), fun _ => ⟨A2, c2, G2, gc2, rfl, hN2.toWldAt⟩⟩, fun j u hj hLj h => by simpa [hj] using h⟩
    | 2, ho =>
      simp at ho
      subst ho
      have e4 : ac.tmps.getD 4 undef = .pointer (some ⟨w.heap.size + 1, 0, none⟩) := hout 4 (by decide +kernel)
      have c0 := hD.1.cell 1 rfl 0 rfl
      have c1 := hD.1.cell 1 rfl 1 rfl
      exact .inl ⟨rfl, gho_reads γ (.agg #[.int .i64 i, .int .i64 g]) (by simp [go_sem, Act.eval, -Array.getD_eq_getD_getElem?, e4, c0, c1]) rfl (by rw [upd_ne (by decide)]; exact hD) (fun _ _ _ _ h => h)⟩
    | 3, ho =>
      simp at ho
      subst ho
      have e2 : ac.tmps.getD 2 undef = .int .i64 p := hout 2 (by decide +kernel)
      exact .inl ⟨rfl, gho_reads γ (.int .i64 p) (by simp [go_sem, Act.eval, -Array.getD_eq_getD_getElem?, e2]) rfl (by rw [upd_ne (by decide)]; exact hD) (fun _ _ _ _ h => h)⟩
    | 4, ho =>
      simp at ho
      subst ho
      have e9 : ac.tmps.getD 9 undef = γ := hv 1 9 rfl (by kernel_rfl)
      have e10 : ac.tmps.getD 10 undef = .agg #[.int .i64 i, .int .i64 g] := hv 2 10 rfl (by kernel_rfl)
      have e11 : ac.tmps.getD 11 undef = .int .i64 p := hv 3 11 rfl (by kernel_rfl)
      have q1 : L 1 = true := hed 1 (by kernel_rfl)
      obtain ⟨A2, c2, G2, gc2, hγ, hX2⟩ := hD.2.2 q1
      rw [hγ] at e9
      refine .inl ⟨rfl, gho_enters 64 #[.agg #[.slice A2 X.rows.length c2, .slice G2 X.gens.length gc2], .agg #[.int .i64 i, .int .i64 g], .int .i64 p] (by simp [go_sem, Act.eval, -Array.getD_eq_getD_getElem?, e9, e10, e11]) ?_⟩
      refine (unhide HG _ _ _ _ _ hX2).mono ?_
      rintro e w2 ⟨rfl, hb2⟩
      exact ⟨_, γ, rfl, rfl, ⟨hD.1.below hb2, hD.2.1.trans (hb2.mono hD.2.1.size), fun _ => ⟨A2, c2, G2, gc2, hγ, hX2.below hb2⟩⟩, fun _ _ _ _ h => h⟩
    | 5, ho =>
      simp at ho
      subst ho
      have e12 : ac.tmps.getD 12 undef = .tuple #[.int .i64 gv, .bool gb] := hv 4 12 rfl (by kernel_rfl)
      exact .inl ⟨rfl, gho_reads γ (.int .i64 gv) (by simp [go_sem, Act.eval, -Array.getD_eq_getD_getElem?, e12]) rfl (by rw [upd_ne (by decide)]; exact hD) (fun _ _ _ _ h => h)⟩
    | 6, ho =>
      simp at ho
      subst ho
      have e12 : ac.tmps.getD 12 undef = .tuple #[.int .i64 gv, .bool gb] := hv 4 12 rfl (by kernel_rfl)
      exact .inl ⟨rfl, gho_reads γ (.bool gb) (by simp [go_sem, Act.eval, -Array.getD_eq_getD_getElem?, e12]) rfl (by rw [upd_ne (by decide)]; exact hD) (fun _ _ _ _ h => h)⟩
    | 7, ho =>
      simp at ho
      subst ho
      have e13 : ac.tmps.getD 13 undef = .int .i64 gv := hv 5 13 rfl (by kernel_rfl)
      exact .inl ⟨rfl, gho_reads γ (.int .i64 gv) (by simp [go_sem, Act.eval, -Array.getD_eq_getD_getElem?, e13]) rfl (by rw [upd_ne (by decide)]; exact hD) (fun _ _ _ _ h => h)⟩
    | 8, ho =>
      simp at ho
      subst ho
      have e14 : ac.tmps.getD 14 undef = .bool gb := hv 6 14 rfl (by kernel_rfl)
      exact .inl ⟨rfl, gho_reads γ (.bool gb) (by simp [go_sem, Act.eval, -Array.getD_eq_getD_getElem?, e14]) rfl (by rw [upd_ne (by decide)]; exact hD) (fun _ _ _ _ h => h)⟩
    | ix + 9, ho => simp at ho
  case hend =>
    intro γ v L w9 hD hall hv
    have v7 : v 7 = .int .i64 gv := hv 7 6 rfl
    have v8 : v 8 = .bool gb := hv 8 7 rfl
    have HD := hide hD.2.1
    clear hv hall hD h0
    simp only [putOps, List.getElem?_cons_zero, List.getElem?_cons_succ, Option.bind_some, List.length_cons, List.length_nil, Nat.reduceAdd, v7, v8]
    clear v7 v8
    go_frame
    go_wp2
    go_ret2
    exact ⟨rfl, unhide HD⟩
set_option maxRecDepth 8000 in
set_option maxHeartbeats 4000000 in
theorem smatch_any (T : Option Addr) (tcap : Nat) (G : Option Addr) (gcap : Nat) (tabs : List TabI) (X : Wd) (a n : Int) (w : World) (h : StAt w T G tabs X) :
    Calls Try.prog 24 #[stV T tabs.length tcap G X.gens.length gcap, .agg #[.int .i64 a, .int .i64 n]] w fun e w' => ∃ A c, e = .returned (.slice A (bsTo X a n X.rows.length).length c) ∧ BsAt w' A (bsTo X a n X.rows.length) ∧ Below w.heap.size w w' := by
  have hl := (right_hr ((right_iff X).2 h.right)).1
  have hBX := Bxs.start w [([.slice T tabs.length tcap, .slice G X.gens.length gcap], 43), ([.int .i64 a, .int .i64 n], 23)]
  have hb := allocs_below [([.slice T tabs.length tcap, .slice G X.gens.length gcap], 43), ([.int .i64 a, .int .i64 n], 23)] w
  have hWo := fun W (hb : Below w.heap.size w W) => sworld_any T tcap G gcap tabs X W (h.below hb)
  have hM := fun A c G' gc W (hX : WldAt W A c G' gc X) => match_any A c G' gc X a n W (by omega) hX
  unfold stV wldV worldV at hWo
  unfold wldV worldV at hM
  have h0 : Bxs w.heap.size [([.slice T tabs.length tcap, .slice G X.gens.length gcap], 43), ([.int .i64 a, .int .i64 n], 23)] (allocs w [([.slice T tabs.length tcap, .slice G X.gens.length gcap], 43), ([.int .i64 a, .int .i64 n], 23)]).drew ∧ Below w.heap.size w (allocs w [([.slice T tabs.length tcap, .slice G X.gens.length gcap], 43), ([.int .i64 a, .int .i64 n], 23)]).drew ∧ ((fun (_ : Nat) => false) 1 = true → ∃ A c G' gc, ((undef, undef) : Value × Value).1 = .agg #[.slice A X.rows.length c, .slice G' X.gens.length gc] ∧ WldAt (allocs w [([.slice T tabs.length tcap, .slice G X.gens.length gcap], 43), ([.int .i64 a, .int .i64 n], 23)]).drew A c G' gc X) ∧ ((fun (_ : Nat) => false) 3 = true → ∃ A c, ((undef, undef) : Value × Value).2 = .slice A (bsTo X a n X.rows.length).length c ∧ BsAt (allocs w [([.slice T tabs.length tcap, .slice G X.gens.length gcap], 43), ([.int .i64 a, .int .i64 n], 23)]).drew A (bsTo X a n X.rows.length)) := ⟨hBX.below (Below.refl _ _).drew, hb.drew, fun e => (by cases e), fun e => by cases e⟩
  have HW := hide hWo
  have HM := hide hM
  have H0 := hide h0
  clear hBX hb hWo hM h h0 hl
  unfold stV
  go_enter Try.func24, Try.ntmps24
  go_wp2_with fail
  have h0 := unhide H0
  clear H0
  refine wp_region_gho (fun (γ : Value × Value) ix v => if ix = 1 then v = γ.1 else if ix = 3 then v = γ.2 else if ix = 4 then v = γ.2 else (([fun v => v = .agg #[.slice T tabs.length tcap, .slice G X.gens.length gcap], fun _ => True, fun v => v = .agg #[.int .i64 a, .int .i64 n], fun _ => True, fun _ => True] : List (Value → Prop)).getD ix (fun _ => True)) v) (fun (γ : Value × Value) L W => Bxs w.heap.size [([.slice T tabs.length tcap, .slice G X.gens.length gcap], 43), ([.int .i64 a, .int .i64 n], 23)] W ∧ Below w.heap.size w W ∧ (L 1 = true → ∃ A c G' gc, γ.1 = .agg #[.slice A X.rows.length c, .slice G' X.gens.length gc] ∧ WldAt W A c G' gc X) ∧ (L 3 = true → ∃ A c, γ.2 = .slice A (bsTo X a n X.rows.length).length c ∧ BsAt W A (bsTo X a n X.rows.length))) ((undef, undef)) (by kernel_rfl) (by kernel_rfl) (by kernel_rfl) h0 ?hstep ?hend
  case hstep =>
    intro γ ix o ho L ac w1 hD hL hed hcl hout hv
    match ix, ho with
    | 0, ho =>
      simp at ho
      subst ho
      have e2 : ac.tmps.getD 2 undef = .pointer (some ⟨w.heap.size, 0, none⟩) := hout 2 (by decide +kernel)
      have c0 := hD.1.cell 0 rfl 0 rfl
      have c1 := hD.1.cell 0 rfl 1 rfl
      rw [Nat.add_zero] at c0 c1
      exact .inl ⟨rfl, gho_reads γ (.agg #[.slice T tabs.length tcap, .slice G X.gens.length gcap]) (by simp [go_sem, Act.eval, -Array.getD_eq_getD_getElem?, e2, c0, c1]) rfl (by rw [upd_ne (by decide), upd_ne (by decide)]; exact hD) (fun _ _ _ _ h => h)⟩
    | 1, ho =>
      simp at ho
      subst ho
      have e5 : ac.tmps.getD 5 undef = .agg #[.slice T tabs.length tcap, .slice G X.gens.length gcap] := hv 0 5 rfl (by kernel_rfl)
      have q3 : L 3 = false := by
        cases h : L 3
        · rfl
        · exact absurd (hcl 3 _ rfl h 1 (by kernel_rfl)) (by rw [hL]; decide)
      refine .inl ⟨rfl, gho_enters 18 #[.agg #[.slice T tabs.length tcap, .slice G X.gens.length gcap]] (by simp [go_sem, Act.eval, -Array.getD_eq_getD_getElem?, e5]) ?_⟩
      refine (unhide HW _ hD.2.1).mono ?_
      rintro e w2 ⟨A2, c2, G2, gc2, rfl, hN2, hb2⟩
      exact ⟨_, (.agg #[.slice A2 X.rows.length c2, .slice G2 X.gens.length gc2], γ.2), rfl, rfl, ⟨hD.1.below hb2, hD.2.1.trans (hb2.mono hD.2.1.size), fun _ => ⟨A2, c2, G2, gc2, rfl, hN2.toWldAt⟩, fun e => by rw [upd_ne (by decide), q3] at e; cases e⟩, fun j u hj hLj h => by simpa [hj] using h⟩
    | 2, ho =>
      simp at ho
      subst ho
      have e3 : ac.tmps.getD 3 undef = .pointer (some ⟨w.heap.size + 1, 0, none⟩) := hout 3 (by decide +kernel)
      have c0 := hD.1.cell 1 rfl 0 rfl
      have c1 := hD.1.cell 1 rfl 1 rfl
      exact .inl ⟨rfl, gho_reads γ (.agg #[.int .i64 a, .int .i64 n]) (by simp [go_sem, Act.eval, -Array.getD_eq_getD_getElem?, e3, c0, c1]) rfl (by rw [upd_ne (by decide), upd_ne (by decide)]; exact hD) (fun _ _ _ _ h => h)⟩
    | 3, ho =>
      simp at ho
      subst ho
      have e6 : ac.tmps.getD 6 undef = γ.1 := hv 1 6 rfl (by kernel_rfl)
      have e7 : ac.tmps.getD 7 undef = .agg #[.int .i64 a, .int .i64 n] := hv 2 7 rfl (by kernel_rfl)
      have q1 : L 1 = true := hed 1 (by kernel_rfl)
      obtain ⟨A2, c2, G2, gc2, hγ, hX2⟩ := hD.2.2.1 q1
      rw [hγ] at e6
      refine .inl ⟨rfl, gho_enters 49 #[.agg #[.slice A2 X.rows.length c2, .slice G2 X.gens.length gc2], .agg #[.int .i64 a, .int .i64 n]] (by simp [go_sem, Act.eval, -Array.getD_eq_getD_getElem?, e6, e7]) ?_⟩
      refine (unhide HM _ _ _ _ _ hX2).mono ?_
      rintro e w2 ⟨v2, rfl, ho2, hb2⟩
      obtain ⟨A3, c3, rfl, hB3⟩ := bs_own ho2
      exact ⟨_, (γ.1, .slice A3 (bsTo X a n X.rows.length).length c3), rfl, rfl, ⟨hD.1.below hb2, hD.2.1.trans (hb2.mono hD.2.1.size), fun _ => ⟨A2, c2, G2, gc2, hγ, hX2.below hb2⟩, fun _ => ⟨A3, c3, rfl, hB3⟩⟩, fun j u hj hLj h => by
        have q4 : j ≠ 4 := fun e => by subst e; exact absurd (hcl 4 _ rfl hLj 3 (by kernel_rfl)) (by rw [hL]; decide)
        simpa [hj, q4] using h⟩
    | 4, ho =>
      simp at ho
      subst ho
      have e8 : ac.tmps.getD 8 undef = γ.2 := hv 3 8 rfl (by kernel_rfl)
      exact .inl ⟨rfl, gho_reads γ (γ.2) (by simp [go_sem, Act.eval, -Array.getD_eq_getD_getElem?, e8]) rfl (by rw [upd_ne (by decide), upd_ne (by decide)]; exact hD) (fun _ _ _ _ h => h)⟩
    | ix + 5, ho => simp at ho
  case hend =>
    intro γ v L w9 hD hall hv
    have v4 : v 4 = γ.2 := hv 4 4 rfl
    obtain ⟨A3, c3, hγ, hB3⟩ := hD.2.2.2 (hall 3 (by decide))
    rw [hγ] at v4
    have HD := hide hD.2.1
    have HB3 := hide hB3
    clear hv hall hD h0 hB3 hγ
    simp only [putOps, List.getElem?_cons_zero, List.getElem?_cons_succ, Option.bind_some, List.length_cons, List.length_nil, Nat.reduceAdd, v4]
    clear v4
    go_frame
    go_wp2
    go_ret
    exact ⟨A3, c3, rfl, unhide HB3, unhide HD⟩
end Go.Proofs.Ytnbleebilmghcab
