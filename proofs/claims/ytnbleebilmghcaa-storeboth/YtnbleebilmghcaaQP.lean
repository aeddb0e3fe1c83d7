/- SFour, SGet, SAlive, SLaw0 -/
import Derived.Test.YtnbleebilmghcaaQO
set_option linter.all false
namespace Go.Proofs.Ytnbleebilmghcaa
open Go Go.RowKit
attribute [local go_sem ↓] Go.wp_at_zero Go.wp_at_succ
set_option maxRecDepth 8000 in
set_option maxHeartbeats 4000000 in
theorem skill_any (T : Option Addr) (tcap : Nat) (G : Option Addr) (gcap : Nat) (tabs : List TabI) (X : Wd) (i g : Int) (w : World) (h : StAt w T G tabs X) :
    Calls Try.prog 64 #[stV T tabs.length tcap G X.gens.length gcap, beingV i g] w fun e w' => ∃ T' tc' G' gc', e = .returned (.tuple #[stV T' (tabsW (killF X i g).2).length tc' G' (killF X i g).2.gens.length gc', .int .i64 (killF X i g).1]) ∧ StNew w.heap.size w' T' G' (tabsW (killF X i g).2) (killF X i g).2 ∧ Below w.heap.size w w' := by
  have hl := (right_hr ((right_iff X).2 h.right)).1
  have hBX := Bxs.start w [([.slice T tabs.length tcap, .slice G X.gens.length gcap], 71), ([.int .i64 i, .int .i64 g], 40), ([.slice none 0 0, .slice none 0 0], 71)]
  have hb := allocs_below [([.slice T tabs.length tcap, .slice G X.gens.length gcap], 71), ([.int .i64 i, .int .i64 g], 40), ([.slice none 0 0, .slice none 0 0], 71)] w
  have hs := allocs_size [([.slice T tabs.length tcap, .slice G X.gens.length gcap], 71), ([.int .i64 i, .int .i64 g], 40), ([.slice none 0 0, .slice none 0 0], 71)] w
  obtain ⟨W, hW⟩ : ∃ W, W = allocs w [([.slice T tabs.length tcap, .slice G X.gens.length gcap], 71), ([.int .i64 i, .int .i64 g], 40), ([.slice none 0 0, .slice none 0 0], 71)] := ⟨_, rfl⟩
  rw [← hW] at hBX hb hs
  have hCH := schange_any 100 [.pointer (some ⟨w.heap.size + 1, 0, none⟩)] T tcap G gcap tabs X (killF X i g).2 (killF X i g).1 0 [] W (h.below hb) (by rw [hs]; simp) (fun e => (kill_keeps e).1) kill_no (becomes_kill X (w.heap.size + 1) g i W hl (hBX.cell 1 rfl 0 rfl) (hBX.cell 1 rfl 1 rfl)) enters100
  obtain ⟨Y, hY⟩ : ∃ Y, Y = (killF X i g).2 := ⟨_, rfl⟩
  obtain ⟨err, herr⟩ : ∃ err, err = (killF X i g).1 := ⟨_, rfl⟩
  rw [← hY, ← herr] at hCH ⊢
  have hW' : ((w.alloc (.cells #[.slice T tabs.length tcap, .slice G X.gens.length gcap] 71)).alloc (.cells #[.int .i64 i, .int .i64 g] 40)).alloc (.cells #[.slice none 0 0, .slice none 0 0] 71) = W := hW.symm
  have HW := hide hW'
  have HB := hide hBX
  have HBL := hide hb
  have HS := hide hs
  unfold stV at hCH
  have HCH := hide hCH
  clear hW hW' hBX hb hs hCH h hY herr hl
  unfold stV beingV
  go_enter Try.func64, Try.ntmps64
  go_wp2_with fail
  go_at_call 97
  rw [unhide HW]
  refine (unhide HCH).mono ?_
  rintro e w4 ⟨T4, tc4, G4, gc4, rfl, hN4, hb4⟩
  have hb4 : Below W.heap.size W w4 := hb4
  have HB4 := hide ((unhide HB).below hb4)
  have HL4 := hide ((unhide HBL).trans (hb4.mono (unhide HBL).size))
  have HN4 := hide (hN4.le (base' := w.heap.size + 3) (by rw [unhide HS]; simp))
  clear hN4 hb4 HW HB HBL HCH HS
  go_wp2_with ((refine wpList_putN rfl 71 (.tmp 4) (.tmp 9) rfl (w.heap.size + 2) 0 [.slice T4 (tabsW Y).length tc4, .slice G4 Y.gens.length gc4] rfl rfl (by simp [Value.oneCell']) size71 ((unhide HB4).there 2 rfl 2 rfl) ?_; intro W8 hW8; have hB8 := (unhide HB4).give 2 rfl [.slice T4 (tabsW Y).length tc4, .slice G4 Y.gens.length gc4] rfl; have hN8 := (unhide HN4).putc (b := w.heap.size + 2) (o := 0) (vs := [.slice T4 (tabsW Y).length tc4, .slice G4 Y.gens.length gc4]) (by omega); have hL8 := below_setCells (w.heap.size + 2) (by omega) [.slice T4 (tabsW Y).length tc4, .slice G4 Y.gens.length gc4] 0 w4 (unhide HL4); rw [← hW8] at hB8 hN8 hL8; have HB8 := hide hB8; have HN8 := hide hN8; have HL8 := hide hL8; clear hW8 hB8 hN8 hL8))
  have t0 := (unhide HB8).cell 2 rfl 0 rfl
  have t1 := (unhide HB8).cell 2 rfl 1 rfl
  refine bodyPost_ret (v := .tuple #[.agg #[.slice T4 (tabsW Y).length tc4, .slice G4 Y.gens.length gc4], .int .i64 err]) (by simp [results, Try.results64, go_sem, t0, t1]) rfl ⟨T4, tc4, G4, gc4, rfl, (unhide HN8).le (by omega), unhide HL8⟩
set_option maxRecDepth 8000 in
set_option maxHeartbeats 4000000 in
theorem sput_any (T : Option Addr) (tcap : Nat) (G : Option Addr) (gcap : Nat) (tabs : List TabI) (X : Wd) (i g p n : Int) (w : World) (h : StAt w T G tabs X) :
    Calls Try.prog 63 #[stV T tabs.length tcap G X.gens.length gcap, beingV i g, .int .i64 p, .int .i64 n] w fun e w' => ∃ T' tc' G' gc', e = .returned (.tuple #[stV T' (tabsW (putF X i g p n).2).length tc' G' (putF X i g p n).2.gens.length gc', .int .i64 (putF X i g p n).1]) ∧ StNew w.heap.size w' T' G' (tabsW (putF X i g p n).2) (putF X i g p n).2 ∧ Below w.heap.size w w' := by
  have hl := (right_hr ((right_iff X).2 h.right)).1
  have hBX := Bxs.start w [([.slice T tabs.length tcap, .slice G X.gens.length gcap], 71), ([.int .i64 i, .int .i64 g], 40), ([.int .i64 p], 3), ([.int .i64 n], 3), ([.slice none 0 0, .slice none 0 0], 71)]
  have hb := allocs_below [([.slice T tabs.length tcap, .slice G X.gens.length gcap], 71), ([.int .i64 i, .int .i64 g], 40), ([.int .i64 p], 3), ([.int .i64 n], 3), ([.slice none 0 0, .slice none 0 0], 71)] w
  have hs := allocs_size [([.slice T tabs.length tcap, .slice G X.gens.length gcap], 71), ([.int .i64 i, .int .i64 g], 40), ([.int .i64 p], 3), ([.int .i64 n], 3), ([.slice none 0 0, .slice none 0 0], 71)] w
  obtain ⟨W, hW⟩ : ∃ W, W = allocs w [([.slice T tabs.length tcap, .slice G X.gens.length gcap], 71), ([.int .i64 i, .int .i64 g], 40), ([.int .i64 p], 3), ([.int .i64 n], 3), ([.slice none 0 0, .slice none 0 0], 71)] := ⟨_, rfl⟩
  rw [← hW] at hBX hb hs
  have hCH := schange_any 99 [.pointer (some ⟨w.heap.size + 1, 0, none⟩), .pointer (some ⟨w.heap.size + 2, 0, none⟩), .pointer (some ⟨w.heap.size + 3, 0, none⟩)] T tcap G gcap tabs X (putF X i g p n).2 (putF X i g p n).1 0 [] W (h.below hb) (by rw [hs]; simp) (fun e => (put_keeps e).1) ch_no (becomes_put X (w.heap.size + 1) (w.heap.size + 2) (w.heap.size + 3) g i n p W hl (hBX.cell 1 rfl 0 rfl) (hBX.cell 1 rfl 1 rfl) (hBX.cell 2 rfl 0 rfl) (hBX.cell 3 rfl 0 rfl)) enters99
  obtain ⟨Y, hY⟩ : ∃ Y, Y = (putF X i g p n).2 := ⟨_, rfl⟩
  obtain ⟨err, herr⟩ : ∃ err, err = (putF X i g p n).1 := ⟨_, rfl⟩
  rw [← hY, ← herr] at hCH ⊢
  have hW' : ((((w.alloc (.cells #[.slice T tabs.length tcap, .slice G X.gens.length gcap] 71)).alloc (.cells #[.int .i64 i, .int .i64 g] 40)).alloc (.cells #[.int .i64 p] 3)).alloc (.cells #[.int .i64 n] 3)).alloc (.cells #[.slice none 0 0, .slice none 0 0] 71) = W := hW.symm
  have HW := hide hW'
  have HB := hide hBX
  have HBL := hide hb
  have HS := hide hs
  unfold stV at hCH
  have HCH := hide hCH
  clear hW hW' hBX hb hs hCH h hY herr hl
  unfold stV beingV
  go_enter Try.func63, Try.ntmps63
  go_wp2_with fail
  go_at_call 97
  rw [unhide HW]
  refine (unhide HCH).mono ?_
  rintro e w4 ⟨T4, tc4, G4, gc4, rfl, hN4, hb4⟩
  have hb4 : Below W.heap.size W w4 := hb4
  have HB4 := hide ((unhide HB).below hb4)
  have HL4 := hide ((unhide HBL).trans (hb4.mono (unhide HBL).size))
  have HN4 := hide (hN4.le (base' := w.heap.size + 5) (by rw [unhide HS]; simp))
  clear hN4 hb4 HW HB HBL HCH HS
  go_wp2_with ((refine wpList_putN rfl 71 (.tmp 8) (.tmp 13) rfl (w.heap.size + 4) 0 [.slice T4 (tabsW Y).length tc4, .slice G4 Y.gens.length gc4] rfl rfl (by simp [Value.oneCell']) size71 ((unhide HB4).there 4 rfl 2 rfl) ?_; intro W8 hW8; have hB8 := (unhide HB4).give 4 rfl [.slice T4 (tabsW Y).length tc4, .slice G4 Y.gens.length gc4] rfl; have hN8 := (unhide HN4).putc (b := w.heap.size + 4) (o := 0) (vs := [.slice T4 (tabsW Y).length tc4, .slice G4 Y.gens.length gc4]) (by omega); have hL8 := below_setCells (w.heap.size + 4) (by omega) [.slice T4 (tabsW Y).length tc4, .slice G4 Y.gens.length gc4] 0 w4 (unhide HL4); rw [← hW8] at hB8 hN8 hL8; have HB8 := hide hB8; have HN8 := hide hN8; have HL8 := hide hL8; clear hW8 hB8 hN8 hL8))
  have t0 := (unhide HB8).cell 4 rfl 0 rfl
  have t1 := (unhide HB8).cell 4 rfl 1 rfl
  refine bodyPost_ret (v := .tuple #[.agg #[.slice T4 (tabsW Y).length tc4, .slice G4 Y.gens.length gc4], .int .i64 err]) (by simp [results, Try.results63, go_sem, t0, t1]) rfl ⟨T4, tc4, G4, gc4, rfl, (unhide HN8).le (by omega), unhide HL8⟩
set_option maxRecDepth 8000 in
set_option maxHeartbeats 4000000 in
theorem sdrop_any (T : Option Addr) (tcap : Nat) (G : Option Addr) (gcap : Nat) (tabs : List TabI) (X : Wd) (i g p : Int) (w : World) (h : StAt w T G tabs X) :
    Calls Try.prog 65 #[stV T tabs.length tcap G X.gens.length gcap, beingV i g, .int .i64 p] w fun e w' => ∃ T' tc' G' gc', e = .returned (.tuple #[stV T' (tabsW (dropF X i g p).2).length tc' G' (dropF X i g p).2.gens.length gc', .int .i64 (dropF X i g p).1]) ∧ StNew w.heap.size w' T' G' (tabsW (dropF X i g p).2) (dropF X i g p).2 ∧ Below w.heap.size w w' := by
  have hl := (right_hr ((right_iff X).2 h.right)).1
  have hBX := Bxs.start w [([.slice T tabs.length tcap, .slice G X.gens.length gcap], 71), ([.int .i64 i, .int .i64 g], 40), ([.int .i64 p], 3), ([.slice none 0 0, .slice none 0 0], 71)]
  have hb := allocs_below [([.slice T tabs.length tcap, .slice G X.gens.length gcap], 71), ([.int .i64 i, .int .i64 g], 40), ([.int .i64 p], 3), ([.slice none 0 0, .slice none 0 0], 71)] w
  have hs := allocs_size [([.slice T tabs.length tcap, .slice G X.gens.length gcap], 71), ([.int .i64 i, .int .i64 g], 40), ([.int .i64 p], 3), ([.slice none 0 0, .slice none 0 0], 71)] w
  obtain ⟨W, hW⟩ : ∃ W, W = allocs w [([.slice T tabs.length tcap, .slice G X.gens.length gcap], 71), ([.int .i64 i, .int .i64 g], 40), ([.int .i64 p], 3), ([.slice none 0 0, .slice none 0 0], 71)] := ⟨_, rfl⟩
  rw [← hW] at hBX hb hs
  have hCH := schange_any 101 [.pointer (some ⟨w.heap.size + 1, 0, none⟩), .pointer (some ⟨w.heap.size + 2, 0, none⟩)] T tcap G gcap tabs X (dropF X i g p).2 (dropF X i g p).1 0 [] W (h.below hb) (by rw [hs]; simp) (fun e => (drop_keeps e).1) ch_no (becomes_drop X (w.heap.size + 1) (w.heap.size + 2) g i p W hl (hBX.cell 1 rfl 0 rfl) (hBX.cell 1 rfl 1 rfl) (hBX.cell 2 rfl 0 rfl)) enters101
  obtain ⟨Y, hY⟩ : ∃ Y, Y = (dropF X i g p).2 := ⟨_, rfl⟩
  obtain ⟨err, herr⟩ : ∃ err, err = (dropF X i g p).1 := ⟨_, rfl⟩
  rw [← hY, ← herr] at hCH ⊢
  have hW' : (((w.alloc (.cells #[.slice T tabs.length tcap, .slice G X.gens.length gcap] 71)).alloc (.cells #[.int .i64 i, .int .i64 g] 40)).alloc (.cells #[.int .i64 p] 3)).alloc (.cells #[.slice none 0 0, .slice none 0 0] 71) = W := hW.symm
  have HW := hide hW'
  have HB := hide hBX
  have HBL := hide hb
  have HS := hide hs
  unfold stV at hCH
  have HCH := hide hCH
  clear hW hW' hBX hb hs hCH h hY herr hl
  unfold stV beingV
  go_enter Try.func65, Try.ntmps65
  go_wp2_with fail
  go_at_call 97
  rw [unhide HW]
  refine (unhide HCH).mono ?_
  rintro e w4 ⟨T4, tc4, G4, gc4, rfl, hN4, hb4⟩
  have hb4 : Below W.heap.size W w4 := hb4
  have HB4 := hide ((unhide HB).below hb4)
  have HL4 := hide ((unhide HBL).trans (hb4.mono (unhide HBL).size))
  have HN4 := hide (hN4.le (base' := w.heap.size + 4) (by rw [unhide HS]; simp))
  clear hN4 hb4 HW HB HBL HCH HS
  go_wp2_with ((refine wpList_putN rfl 71 (.tmp 6) (.tmp 11) rfl (w.heap.size + 3) 0 [.slice T4 (tabsW Y).length tc4, .slice G4 Y.gens.length gc4] rfl rfl (by simp [Value.oneCell']) size71 ((unhide HB4).there 3 rfl 2 rfl) ?_; intro W8 hW8; have hB8 := (unhide HB4).give 3 rfl [.slice T4 (tabsW Y).length tc4, .slice G4 Y.gens.length gc4] rfl; have hN8 := (unhide HN4).putc (b := w.heap.size + 3) (o := 0) (vs := [.slice T4 (tabsW Y).length tc4, .slice G4 Y.gens.length gc4]) (by omega); have hL8 := below_setCells (w.heap.size + 3) (by omega) [.slice T4 (tabsW Y).length tc4, .slice G4 Y.gens.length gc4] 0 w4 (unhide HL4); rw [← hW8] at hB8 hN8 hL8; have HB8 := hide hB8; have HN8 := hide hN8; have HL8 := hide hL8; clear hW8 hB8 hN8 hL8))
  have t0 := (unhide HB8).cell 3 rfl 0 rfl
  have t1 := (unhide HB8).cell 3 rfl 1 rfl
  refine bodyPost_ret (v := .tuple #[.agg #[.slice T4 (tabsW Y).length tc4, .slice G4 Y.gens.length gc4], .int .i64 err]) (by simp [results, Try.results65, go_sem, t0, t1]) rfl ⟨T4, tc4, G4, gc4, rfl, (unhide HN8).le (by omega), unhide HL8⟩
set_option maxRecDepth 8000 in
set_option maxHeartbeats 4000000 in
theorem sspawn_any (T : Option Addr) (tcap : Nat) (G : Option Addr) (gcap : Nat) (tabs : List TabI) (X : Wd) (has n : Int) (w : World) (h : StAt w T G tabs X) :
    Calls Try.prog 62 #[stV T tabs.length tcap G X.gens.length gcap, .int .i64 has, .int .i64 n] w fun e w' => ∃ T' tc' G' gc', e = .returned (.tuple #[stV T' (tabsW (spawnF X has n).2.2).length tc' G' (spawnF X has n).2.2.gens.length gc', beingV (spawnF X has n).2.1.1 (spawnF X has n).2.1.2, .int .i64 (spawnF X has n).1]) ∧ StNew w.heap.size w' T' G' (tabsW (spawnF X has n).2.2) (spawnF X has n).2.2 ∧ Below w.heap.size w w' := by
  have hl := (right_hr ((right_iff X).2 h.right)).1
  have hBX := Bxs.start w [([.slice T tabs.length tcap, .slice G X.gens.length gcap], 71), ([.int .i64 has], 3), ([.int .i64 n], 3), ([.slice none 0 0, .slice none 0 0], 71), ([.int .i64 0, .int .i64 0], 40), ([.int .i64 0, .int .i64 0], 40)]
  have hb := allocs_below [([.slice T tabs.length tcap, .slice G X.gens.length gcap], 71), ([.int .i64 has], 3), ([.int .i64 n], 3), ([.slice none 0 0, .slice none 0 0], 71), ([.int .i64 0, .int .i64 0], 40), ([.int .i64 0, .int .i64 0], 40)] w
  have hs := allocs_size [([.slice T tabs.length tcap, .slice G X.gens.length gcap], 71), ([.int .i64 has], 3), ([.int .i64 n], 3), ([.slice none 0 0, .slice none 0 0], 71), ([.int .i64 0, .int .i64 0], 40), ([.int .i64 0, .int .i64 0], 40)] w
  obtain ⟨W, hW⟩ : ∃ W, W = allocs w [([.slice T tabs.length tcap, .slice G X.gens.length gcap], 71), ([.int .i64 has], 3), ([.int .i64 n], 3), ([.slice none 0 0, .slice none 0 0], 71), ([.int .i64 0, .int .i64 0], 40), ([.int .i64 0, .int .i64 0], 40)] := ⟨_, rfl⟩
  rw [← hW] at hBX hb hs
  have hcb : B13 (w.heap.size + 5) (.int .i64 0) (.int .i64 0) W := ⟨hBX.cell 5 rfl 0 rfl, hBX.cell 5 rfl 1 rfl, fun j => hBX.free 5 rfl j⟩
  have hCH := schange_any 98 [.pointer (some ⟨w.heap.size + 1, 0, none⟩), .pointer (some ⟨w.heap.size + 2, 0, none⟩), .pointer (some ⟨w.heap.size + 5, 0, none⟩)] T tcap G gcap tabs X (spawnF X has n).2.2 (spawnF X has n).1 (w.heap.size + 5) _ W (h.below hb) (by rw [hs]; simp) (fun e => (spawn_keeps e 0 0).1) spawn_no (becomes_spawn X (w.heap.size + 1) (w.heap.size + 2) (w.heap.size + 5) has n W hl (hBX.cell 1 rfl 0 rfl) (hBX.cell 2 rfl 0 rfl) hcb (by rw [hs]; simp)) enters98
  obtain ⟨Y, hY⟩ : ∃ Y, Y = (spawnF X has n).2.2 := ⟨_, rfl⟩
  obtain ⟨err, herr⟩ : ∃ err, err = (spawnF X has n).1 := ⟨_, rfl⟩
  obtain ⟨ci, hci⟩ : ∃ ci, ci = (spawnF X has n).2.1.1 := ⟨_, rfl⟩
  obtain ⟨cg, hcg⟩ : ∃ cg, cg = (spawnF X has n).2.1.2 := ⟨_, rfl⟩
  rw [← hY, ← herr, ← hci, ← hcg] at hCH ⊢
  have hW' : (((((w.alloc (.cells #[.slice T tabs.length tcap, .slice G X.gens.length gcap] 71)).alloc (.cells #[.int .i64 has] 3)).alloc (.cells #[.int .i64 n] 3)).alloc (.cells #[.slice none 0 0, .slice none 0 0] 71)).alloc (.cells #[.int .i64 0, .int .i64 0] 40)).alloc (.cells #[.int .i64 0, .int .i64 0] 40) = W := hW.symm
  have HW := hide hW'
  have HB := hide hBX
  have HBL := hide hb
  have HS := hide hs
  unfold stV at hCH
  have HCH := hide hCH
  clear hW hW' hBX hb hs hCH h hY herr hl hci hcg hcb
  unfold stV beingV
  go_enter Try.func62, Try.ntmps62
  go_wp2_with fail
  go_at_call 97
  rw [unhide HW]
  refine (unhide HCH).mono ?_
  rintro e w4 ⟨T4, tc4, G4, gc4, rfl, hN4, hb4⟩
  have hB4 := ((unhide HB).give 5 rfl [.int .i64 ci, .int .i64 cg] rfl).below (by rw [size_setCells]; exact hb4)
  have hz4 : w.heap.size + 6 ≤ w4.heap.size := by
    have := hb4.size
    rw [size_setCells, unhide HS] at this
    simpa using this
  have hL4 : Below w.heap.size w w4 := (below_setCells (w.heap.size + 5) (by omega) _ 0 _ (unhide HBL)).trans (hb4.mono (unhide HBL).size)
  have hN4 := hN4.le (base' := w.heap.size + 6) (by rw [unhide HS]; simp)
  have h0 : Bxs w.heap.size [([.slice T tabs.length tcap, .slice G X.gens.length gcap], 71), ([.int .i64 has], 3), ([.int .i64 n], 3), ([.slice none 0 0, .slice none 0 0], 71), ([.int .i64 0, .int .i64 0], 40), ([.int .i64 ci, .int .i64 cg], 40)] (w4.alloc (.cells #[.slice T4 (tabsW Y).length tc4, .slice G4 Y.gens.length gc4] 71)).drew ∧ (w4.alloc (.cells #[.slice T4 (tabsW Y).length tc4, .slice G4 Y.gens.length gc4] 71)).drew.cell? ⟨w4.heap.size, 0, none⟩ = some (.slice T4 (tabsW Y).length tc4) ∧ (w4.alloc (.cells #[.slice T4 (tabsW Y).length tc4, .slice G4 Y.gens.length gc4] 71)).drew.cell? ⟨w4.heap.size, 1, none⟩ = some (.slice G4 Y.gens.length gc4) ∧ StNew (w.heap.size + 6) (w4.alloc (.cells #[.slice T4 (tabsW Y).length tc4, .slice G4 Y.gens.length gc4] 71)).drew T4 G4 (tabsW Y) Y ∧ Below w.heap.size w (w4.alloc (.cells #[.slice T4 (tabsW Y).length tc4, .slice G4 Y.gens.length gc4] 71)).drew :=
    ⟨hB4.below (bel1 _ _).drew, by show (w4.alloc _).cell? _ = _; simp, by show (w4.alloc _).cell? _ = _; simp, hN4.below (bel1 _ _).drew, (hL4.trans ((bel1 _ _).mono hL4.size)).drew⟩
  have HZ := hide hz4
  clear hB4 hL4 hN4 hb4 hz4 HW HB HBL HCH HS
  go_wp2_with fail
  refine wp_region_gho (fun (γ : Unit) ix v => (([fun v => v = .agg #[.slice T4 (tabsW Y).length tc4, .slice G4 Y.gens.length gc4], fun v => v = .agg #[.int .i64 ci, .int .i64 cg], fun v => v = .int .i64 err, fun _ => True, fun _ => True, fun v => v = .int .i64 err] : List (Value → Prop)).getD ix (fun _ => True)) v) (fun (_ : Unit) L W => Bxs w.heap.size [([.slice T tabs.length tcap, .slice G X.gens.length gcap], 71), ([.int .i64 has], 3), ([.int .i64 n], 3), (if L 3 = true then [.slice T4 (tabsW Y).length tc4, .slice G4 Y.gens.length gc4] else [.slice none 0 0, .slice none 0 0], 71), (if L 4 = true then [.int .i64 ci, .int .i64 cg] else [.int .i64 0, .int .i64 0], 40), ([.int .i64 ci, .int .i64 cg], 40)] W ∧ W.cell? ⟨w4.heap.size, 0, none⟩ = some (.slice T4 (tabsW Y).length tc4) ∧ W.cell? ⟨w4.heap.size, 1, none⟩ = some (.slice G4 Y.gens.length gc4) ∧ StNew (w.heap.size + 6) W T4 G4 (tabsW Y) Y ∧ Below w.heap.size w W) (()) (by kernel_rfl) (by kernel_rfl) (by kernel_rfl) h0 ?hstep ?hend
  case hstep =>
    intro γ ix o ho L ac w1 hD hL hed hcl hout hv
    match ix, ho with
    | 0, ho =>
      simp at ho
      subst ho
      have e10 : ac.tmps.getD 10 undef = .pointer (some ⟨w4.heap.size, 0, none⟩) := hout 10 (by decide +kernel)
      have c0 := hD.2.1
      have c1 := hD.2.2.1
      exact .inl ⟨rfl, gho_reads γ (.agg #[.slice T4 (tabsW Y).length tc4, .slice G4 Y.gens.length gc4]) (by simp [go_sem, Act.eval, -Array.getD_eq_getD_getElem?, e10, c0, c1]) rfl (by rw [upd_ne (by decide), upd_ne (by decide)]; exact hD) (fun _ _ _ _ h => h)⟩
    | 1, ho =>
      simp at ho
      subst ho
      have e9 : ac.tmps.getD 9 undef = .pointer (some ⟨w.heap.size + 5, 0, none⟩) := hout 9 (by decide +kernel)
      have c0 := hD.1.cell 5 rfl 0 rfl
      have c1 := hD.1.cell 5 rfl 1 rfl
      exact .inl ⟨rfl, gho_reads γ (.agg #[.int .i64 ci, .int .i64 cg]) (by simp [go_sem, Act.eval, -Array.getD_eq_getD_getElem?, e9, c0, c1]) rfl (by rw [upd_ne (by decide), upd_ne (by decide)]; exact hD) (fun _ _ _ _ h => h)⟩
    | 2, ho =>
      simp at ho
      subst ho
      have e11 : ac.tmps.getD 11 undef = .int .i64 err := hout 11 (by decide +kernel)
      exact .inl ⟨rfl, gho_reads γ (.int .i64 err) (by simp [go_sem, Act.eval, -Array.getD_eq_getD_getElem?, e11]) rfl (by rw [upd_ne (by decide), upd_ne (by decide)]; exact hD) (fun _ _ _ _ h => h)⟩
    | 3, ho =>
      simp at ho
      subst ho
      have e6 : ac.tmps.getD 6 undef = .pointer (some ⟨w.heap.size + 3, 0, none⟩) := hout 6 (by decide +kernel)
      have e18 : ac.tmps.getD 18 undef = .agg #[.slice T4 (tabsW Y).length tc4, .slice G4 Y.gens.length gc4] := hv 0 18 rfl (by kernel_rfl)
      have hg := hD.1.give 3 rfl [.slice T4 (tabsW Y).length tc4, .slice G4 Y.gens.length gc4] (by rw [hL]; rfl)
      refine .inl ⟨rfl, gho_putN γ 71 (.tmp 6) (.tmp 18) rfl (w.heap.size + 3) 0 [.slice T4 (tabsW Y).length tc4, .slice G4 Y.gens.length gc4] (by simp [Act.eval, -Array.getD_eq_getD_getElem?, e6]) (by simp [Act.eval, -Array.getD_eq_getD_getElem?, e18]) (by simp [Value.oneCell']) size71 (hD.1.there 3 rfl 2 (by rw [hL]; rfl)) trivial ⟨?_, (setcs_other (by have := unhide HZ; simp only [ne_eq]; omega)).trans hD.2.1, (setcs_other (by have := unhide HZ; simp only [ne_eq]; omega)).trans hD.2.2.1, hD.2.2.2.1.putc (by omega), below_setCells (w.heap.size + 3) (by omega) _ 0 _ hD.2.2.2.2⟩ (fun _ _ _ _ h => h)⟩
      rw [upd_ne (i := 3) (j := 4) (by decide), upd_eq, if_pos rfl]
      exact hg
    | 4, ho =>
      simp at ho
      subst ho
      have e7 : ac.tmps.getD 7 undef = .pointer (some ⟨w.heap.size + 4, 0, none⟩) := hout 7 (by decide +kernel)
      have e19 : ac.tmps.getD 19 undef = .agg #[.int .i64 ci, .int .i64 cg] := hv 1 19 rfl (by kernel_rfl)
      have hg := hD.1.give 4 rfl [.int .i64 ci, .int .i64 cg] (by rw [hL]; rfl)
      refine .inl ⟨rfl, gho_putN γ 40 (.tmp 7) (.tmp 19) rfl (w.heap.size + 4) 0 [.int .i64 ci, .int .i64 cg] (by simp [Act.eval, -Array.getD_eq_getD_getElem?, e7]) (by simp [Act.eval, -Array.getD_eq_getD_getElem?, e19]) (by simp [Value.oneCell']) size40 (hD.1.there 4 rfl 2 (by rw [hL]; rfl)) trivial ⟨?_, (setcs_other (by have := unhide HZ; simp only [ne_eq]; omega)).trans hD.2.1, (setcs_other (by have := unhide HZ; simp only [ne_eq]; omega)).trans hD.2.2.1, hD.2.2.2.1.putc (by omega), below_setCells (w.heap.size + 4) (by omega) _ 0 _ hD.2.2.2.2⟩ (fun _ _ _ _ h => h)⟩
      rw [upd_ne (i := 4) (j := 3) (by decide), upd_eq, if_pos rfl]
      exact hg
    | 5, ho =>
      simp at ho
      subst ho
      have e20 : ac.tmps.getD 20 undef = .int .i64 err := hv 2 20 rfl (by kernel_rfl)
      exact .inl ⟨rfl, gho_reads γ (.int .i64 err) (by simp [go_sem, Act.eval, -Array.getD_eq_getD_getElem?, e20]) rfl (by rw [upd_ne (by decide), upd_ne (by decide)]; exact hD) (fun _ _ _ _ h => h)⟩
    | ix + 6, ho => simp at ho
  case hend =>
    intro γ v L w9 hD hall hv
    rw [hall 3 (by decide), hall 4 (by decide), if_pos rfl, if_pos rfl] at hD
    have v8 : v 5 = .int .i64 err := hv 5 8 rfl
    have HD := hide hD
    clear hv hall hD h0
    simp only [putOps, List.getElem?_cons_zero, List.getElem?_cons_succ, Option.bind_some, List.length_cons, List.length_nil, Nat.reduceAdd, v8]
    clear v8
    go_frame
    go_wp2
    have t0 := (unhide HD).1.cell 3 rfl 0 rfl
    have t1 := (unhide HD).1.cell 3 rfl 1 rfl
    have s0 := (unhide HD).1.cell 4 rfl 0 rfl
    have s1 := (unhide HD).1.cell 4 rfl 1 rfl
    refine bodyPost_ret (v := .tuple #[.agg #[.slice T4 (tabsW Y).length tc4, .slice G4 Y.gens.length gc4], .agg #[.int .i64 ci, .int .i64 cg], .int .i64 err]) (by simp [results, Try.results62, go_sem, t0, t1, s0, s1]) rfl ⟨T4, tc4, G4, gc4, rfl, (unhide HD).2.2.2.1.le (by omega), (unhide HD).2.2.2.2⟩
end Go.Proofs.Ytnbleebilmghcaa
namespace Go.Proofs.Ytnbleebilmghcaa
open Go Go.RowKit
attribute [local go_sem ↓] Go.wp_at_zero Go.wp_at_succ
def getW (X : Wd) (i g p : Int) : Int × Bool := getI (fun j => X.rows.getD j dR) X.rows.length i g p
set_option maxRecDepth 8000 in
set_option maxHeartbeats 4000000 in
theorem sget_any (T : Option Addr) (tcap : Nat) (G : Option Addr) (gcap : Nat) (tabs : List TabI) (X : Wd) (i g p : Int) (w : World) (h : StAt w T G tabs X) :
    Calls Try.prog 67 #[stV T tabs.length tcap G X.gens.length gcap, beingV i g, .int .i64 p] w fun e w' => e = .returned (.tuple #[.int .i64 (getW X i g p).1, .bool (getW X i g p).2]) ∧ Below w.heap.size w w' := by
  have hl := (right_hr ((right_iff X).2 h.right)).1
  have hBX := Bxs.start w [([.slice T tabs.length tcap, .slice G X.gens.length gcap], 71), ([.int .i64 i, .int .i64 g], 40)]
  have hb := allocs_below [([.slice T tabs.length tcap, .slice G X.gens.length gcap], 71), ([.int .i64 i, .int .i64 g], 40)] w
  have hWo := fun W (hb : Below w.heap.size w W) => sworld_any T tcap G gcap tabs X W (h.below hb)
  have hG := fun A c G' gc W (hX : WldAt W A c G' gc X) => get_any A X.rows.length c G' X.gens.length gc (fun j => X.rows.getD j dR) i g p W (by omega) hX.rows
  have eG : getI (fun j => X.rows.getD j dR) X.rows.length i g p = getW X i g p := rfl
  rw [eG] at hG
  unfold stV wldV worldV at hWo
  unfold worldV beingV at hG
  generalize (getW X i g p).1 = gv at *
  generalize (getW X i g p).2 = gb at *
  have h0 : Bxs w.heap.size [([.slice T tabs.length tcap, .slice G X.gens.length gcap], 71), ([.int .i64 i, .int .i64 g], 40)] (allocs w [([.slice T tabs.length tcap, .slice G X.gens.length gcap], 71), ([.int .i64 i, .int .i64 g], 40)]).drew ∧ Below w.heap.size w (allocs w [([.slice T tabs.length tcap, .slice G X.gens.length gcap], 71), ([.int .i64 i, .int .i64 g], 40)]).drew ∧ ((fun (_ : Nat) => false) 1 = true → ∃ A c G' gc, undef = .agg #[.slice A X.rows.length c, .slice G' X.gens.length gc] ∧ WldAt (allocs w [([.slice T tabs.length tcap, .slice G X.gens.length gcap], 71), ([.int .i64 i, .int .i64 g], 40)]).drew A c G' gc X) := ⟨hBX.below (Below.refl _ _).drew, hb.drew, fun e => by cases e⟩
  have HW := hide hWo
  have HG := hide hG
  have H0 := hide h0
  clear hBX hb hWo hG eG h h0 hl
  unfold stV beingV
  go_enter Try.func67, Try.ntmps67
  go_wp2_with fail
  have h0 := unhide H0
  clear H0
  refine wp_region_gho (fun (γ : Value) ix v => if ix = 1 then v = γ else (([fun v => v = .agg #[.slice T tabs.length tcap, .slice G X.gens.length gcap], fun _ => True, fun v => v = .agg #[.int .i64 i, .int .i64 g], fun v => v = .int .i64 p, fun v => v = .tuple #[.int .i64 gv, .bool gb], fun v => v = .int .i64 gv, fun v => v = .bool gb, fun v => v = .int .i64 gv, fun v => v = .bool gb] : List (Value → Prop)).getD ix (fun _ => True)) v) (fun (γ : Value) L W => Bxs w.heap.size [([.slice T tabs.length tcap, .slice G X.gens.length gcap], 71), ([.int .i64 i, .int .i64 g], 40)] W ∧ Below w.heap.size w W ∧ (L 1 = true → ∃ A c G' gc, γ = .agg #[.slice A X.rows.length c, .slice G' X.gens.length gc] ∧ WldAt W A c G' gc X)) (undef) (by kernel_rfl) (by kernel_rfl) (by kernel_rfl) h0 ?hstep ?hend
  case hstep =>
    intro γ ix o ho L ac w1 hD hL hed hcl hout hv
    match ix, ho with
    | 0, ho =>
      simp at ho
      subst ho
      have e3 : ac.tmps.getD 3 undef = .pointer (some ⟨w.heap.size, 0, none⟩) := hout 3 (by decide +kernel)
      have c0 := hD.1.cell 0 rfl 0 rfl
      have c1 := hD.1.cell 0 rfl 1 rfl
      rw [Nat.add_zero] at c0 c1
      exact .inl ⟨rfl, gho_reads γ (.agg #[.slice T tabs.length tcap, .slice G X.gens.length gcap]) (by simp [go_sem, Act.eval, -Array.getD_eq_getD_getElem?, e3, c0, c1]) rfl (by rw [upd_ne (by decide)]; exact hD) (fun _ _ _ _ h => h)⟩
    | 1, ho =>
      simp at ho
      subst ho
      have e8 : ac.tmps.getD 8 undef = .agg #[.slice T tabs.length tcap, .slice G X.gens.length gcap] := hv 0 8 rfl (by kernel_rfl)
      refine .inl ⟨rfl, gho_enters 58 #[.agg #[.slice T tabs.length tcap, .slice G X.gens.length gcap]] (by simp [go_sem, Act.eval, -Array.getD_eq_getD_getElem?, e8]) ?_⟩
      refine (unhide HW _ hD.2.1).mono ?_
      rintro e w2 ⟨A2, c2, G2, gc2, rfl, hN2, hb2⟩
      exact ⟨_, .agg #[.slice A2 X.rows.length c2, .slice G2 X.gens.length gc2], rfl, rfl, ⟨hD.1.below hb2, hD.2.1.trans (hb2.mono hD.2.1.size), fun _ => ⟨A2, c2, G2, gc2, rfl, hN2.toWldAt⟩⟩, fun j u hj hLj h => by simpa [hj] using h⟩
    | 2, ho =>
      simp at ho
      subst ho
      have e4 : ac.tmps.getD 4 undef = .pointer (some ⟨w.heap.size + 1, 0, none⟩) := hout 4 (by decide +kernel)
      have c0 := hD.1.cell 1 rfl 0 rfl
      have c1 := hD.1.cell 1 rfl 1 rfl
      exact .inl ⟨rfl, gho_reads γ (.agg #[.int .i64 i, .int .i64 g]) (by simp [go_sem, Act.eval, -Array.getD_eq_getD_getElem?, e4, c0, c1]) rfl (by rw [upd_ne (by decide)]; exact hD) (fun _ _ _ _ h => h)⟩
    | 3, ho =>
      simp at ho
      subst ho
      have e2 : ac.tmps.getD 2 undef = .int .i64 p := hout 2 (by decide +kernel)
      exact .inl ⟨rfl, gho_reads γ (.int .i64 p) (by simp [go_sem, Act.eval, -Array.getD_eq_getD_getElem?, e2]) rfl (by rw [upd_ne (by decide)]; exact hD) (fun _ _ _ _ h => h)⟩
    | 4, ho =>
      simp at ho
      subst ho
      have e9 : ac.tmps.getD 9 undef = γ := hv 1 9 rfl (by kernel_rfl)
      have e10 : ac.tmps.getD 10 undef = .agg #[.int .i64 i, .int .i64 g] := hv 2 10 rfl (by kernel_rfl)
      have e11 : ac.tmps.getD 11 undef = .int .i64 p := hv 3 11 rfl (by kernel_rfl)
      have q1 : L 1 = true := hed 1 (by kernel_rfl)
      obtain ⟨A2, c2, G2, gc2, hγ, hX2⟩ := hD.2.2 q1
      rw [hγ] at e9
      refine .inl ⟨rfl, gho_enters 48 #[.agg #[.slice A2 X.rows.length c2, .slice G2 X.gens.length gc2], .agg #[.int .i64 i, .int .i64 g], .int .i64 p] (by simp [go_sem, Act.eval, -Array.getD_eq_getD_getElem?, e9, e10, e11]) ?_⟩
      refine (unhide HG _ _ _ _ _ hX2).mono ?_
      rintro e w2 ⟨rfl, hb2⟩
      exact ⟨_, γ, rfl, rfl, ⟨hD.1.below hb2, hD.2.1.trans (hb2.mono hD.2.1.size), fun _ => ⟨A2, c2, G2, gc2, hγ, hX2.below hb2⟩⟩, fun _ _ _ _ h => h⟩
    | 5, ho =>
      simp at ho
      subst ho
      have e12 : ac.tmps.getD 12 undef = .tuple #[.int .i64 gv, .bool gb] := hv 4 12 rfl (by kernel_rfl)
      exact .inl ⟨rfl, gho_reads γ (.int .i64 gv) (by simp [go_sem, Act.eval, -Array.getD_eq_getD_getElem?, e12]) rfl (by rw [upd_ne (by decide)]; exact hD) (fun _ _ _ _ h => h)⟩
    | 6, ho =>
      simp at ho
      subst ho
      have e12 : ac.tmps.getD 12 undef = .tuple #[.int .i64 gv, .bool gb] := hv 4 12 rfl (by kernel_rfl)
      exact .inl ⟨rfl, gho_reads γ (.bool gb) (by simp [go_sem, Act.eval, -Array.getD_eq_getD_getElem?, e12]) rfl (by rw [upd_ne (by decide)]; exact hD) (fun _ _ _ _ h => h)⟩
    | 7, ho =>
      simp at ho
      subst ho
      have e13 : ac.tmps.getD 13 undef = .int .i64 gv := hv 5 13 rfl (by kernel_rfl)
      exact .inl ⟨rfl, gho_reads γ (.int .i64 gv) (by simp [go_sem, Act.eval, -Array.getD_eq_getD_getElem?, e13]) rfl (by rw [upd_ne (by decide)]; exact hD) (fun _ _ _ _ h => h)⟩
    | 8, ho =>
      simp at ho
      subst ho
      have e14 : ac.tmps.getD 14 undef = .bool gb := hv 6 14 rfl (by kernel_rfl)
      exact .inl ⟨rfl, gho_reads γ (.bool gb) (by simp [go_sem, Act.eval, -Array.getD_eq_getD_getElem?, e14]) rfl (by rw [upd_ne (by decide)]; exact hD) (fun _ _ _ _ h => h)⟩
    | ix + 9, ho => simp at ho
  case hend =>
    intro γ v L w9 hD hall hv
    have v7 : v 7 = .int .i64 gv := hv 7 6 rfl
    have v8 : v 8 = .bool gb := hv 8 7 rfl
    have HD := hide hD.2.1
    clear hv hall hD h0
    simp only [putOps, List.getElem?_cons_zero, List.getElem?_cons_succ, Option.bind_some, List.length_cons, List.length_nil, Nat.reduceAdd, v7, v8]
    clear v7 v8
    go_frame
    go_wp2
    go_ret2
    exact ⟨rfl, unhide HD⟩
set_option maxRecDepth 8000 in
set_option maxHeartbeats 4000000 in
theorem smatch_any (T : Option Addr) (tcap : Nat) (G : Option Addr) (gcap : Nat) (tabs : List TabI) (X : Wd) (a n : Int) (w : World) (h : StAt w T G tabs X) :
    Calls Try.prog 68 #[stV T tabs.length tcap G X.gens.length gcap, .agg #[.int .i64 a, .int .i64 n]] w fun e w' => ∃ A c, e = .returned (.slice A (bsTo X a n X.rows.length).length c) ∧ BsAt w' A (bsTo X a n X.rows.length) ∧ Below w.heap.size w w' := by
  have hl := (right_hr ((right_iff X).2 h.right)).1
  have hBX := Bxs.start w [([.slice T tabs.length tcap, .slice G X.gens.length gcap], 71), ([.int .i64 a, .int .i64 n], 32)]
  have hb := allocs_below [([.slice T tabs.length tcap, .slice G X.gens.length gcap], 71), ([.int .i64 a, .int .i64 n], 32)] w
  have hWo := fun W (hb : Below w.heap.size w W) => sworld_any T tcap G gcap tabs X W (h.below hb)
  have hM := fun A c G' gc W (hX : WldAt W A c G' gc X) => match_any A c G' gc X a n W (by omega) hX
  unfold stV wldV worldV at hWo
  unfold wldV worldV at hM
  have h0 : Bxs w.heap.size [([.slice T tabs.length tcap, .slice G X.gens.length gcap], 71), ([.int .i64 a, .int .i64 n], 32)] (allocs w [([.slice T tabs.length tcap, .slice G X.gens.length gcap], 71), ([.int .i64 a, .int .i64 n], 32)]).drew ∧ Below w.heap.size w (allocs w [([.slice T tabs.length tcap, .slice G X.gens.length gcap], 71), ([.int .i64 a, .int .i64 n], 32)]).drew ∧ ((fun (_ : Nat) => false) 1 = true → ∃ A c G' gc, ((undef, undef) : Value × Value).1 = .agg #[.slice A X.rows.length c, .slice G' X.gens.length gc] ∧ WldAt (allocs w [([.slice T tabs.length tcap, .slice G X.gens.length gcap], 71), ([.int .i64 a, .int .i64 n], 32)]).drew A c G' gc X) ∧ ((fun (_ : Nat) => false) 3 = true → ∃ A c, ((undef, undef) : Value × Value).2 = .slice A (bsTo X a n X.rows.length).length c ∧ BsAt (allocs w [([.slice T tabs.length tcap, .slice G X.gens.length gcap], 71), ([.int .i64 a, .int .i64 n], 32)]).drew A (bsTo X a n X.rows.length)) := ⟨hBX.below (Below.refl _ _).drew, hb.drew, fun e => (by cases e), fun e => by cases e⟩
  have HW := hide hWo
  have HM := hide hM
  have H0 := hide h0
  clear hBX hb hWo hM h h0 hl
  unfold stV
  go_enter Try.func68, Try.ntmps68
  go_wp2_with fail
  have h0 := unhide H0
  clear H0
  refine wp_region_gho (fun (γ : Value × Value) ix v => if ix = 1 then v = γ.1 else if ix = 3 then v = γ.2 else if ix = 4 then v = γ.2 else (([fun v => v = .agg #[.slice T tabs.length tcap, .slice G X.gens.length gcap], fun _ => True, fun v => v = .agg #[.int .i64 a, .int .i64 n], fun _ => True, fun _ => True] : List (Value → Prop)).getD ix (fun _ => True)) v) (fun (γ : Value × Value) L W => Bxs w.heap.size [([.slice T tabs.length tcap, .slice G X.gens.length gcap], 71), ([.int .i64 a, .int .i64 n], 32)] W ∧ Below w.heap.size w W ∧ (L 1 = true → ∃ A c G' gc, γ.1 = .agg #[.slice A X.rows.length c, .slice G' X.gens.length gc] ∧ WldAt W A c G' gc X) ∧ (L 3 = true → ∃ A c, γ.2 = .slice A (bsTo X a n X.rows.length).length c ∧ BsAt W A (bsTo X a n X.rows.length))) ((undef, undef)) (by kernel_rfl) (by kernel_rfl) (by kernel_rfl) h0 ?hstep ?hend
  case hstep =>
    intro γ ix o ho L ac w1 hD hL hed hcl hout hv
    match ix, ho with
    | 0, ho =>
      simp at ho
      subst ho
      have e2 : ac.tmps.getD 2 undef = .pointer (some ⟨w.heap.size, 0, none⟩) := hout 2 (by decide +kernel)
      have c0 := hD.1.cell 0 rfl 0 rfl
      have c1 := hD.1.cell 0 rfl 1 rfl
      rw [Nat.add_zero] at c0 c1
      exact .inl ⟨rfl, gho_reads γ (.agg #[.slice T tabs.length tcap, .slice G X.gens.length gcap]) (by simp [go_sem, Act.eval, -Array.getD_eq_getD_getElem?, e2, c0, c1]) rfl (by rw [upd_ne (by decide), upd_ne (by decide)]; exact hD) (fun _ _ _ _ h => h)⟩
    | 1, ho =>
      simp at ho
      subst ho
      have e5 : ac.tmps.getD 5 undef = .agg #[.slice T tabs.length tcap, .slice G X.gens.length gcap] := hv 0 5 rfl (by kernel_rfl)
      have q3 : L 3 = false := by
        cases h : L 3
        · rfl
        · exact absurd (hcl 3 _ rfl h 1 (by kernel_rfl)) (by rw [hL]; decide)
      refine .inl ⟨rfl, gho_enters 58 #[.agg #[.slice T tabs.length tcap, .slice G X.gens.length gcap]] (by simp [go_sem, Act.eval, -Array.getD_eq_getD_getElem?, e5]) ?_⟩
      refine (unhide HW _ hD.2.1).mono ?_
      rintro e w2 ⟨A2, c2, G2, gc2, rfl, hN2, hb2⟩
      exact ⟨_, (.agg #[.slice A2 X.rows.length c2, .slice G2 X.gens.length gc2], γ.2), rfl, rfl, ⟨hD.1.below hb2, hD.2.1.trans (hb2.mono hD.2.1.size), fun _ => ⟨A2, c2, G2, gc2, rfl, hN2.toWldAt⟩, fun e => by rw [upd_ne (by decide), q3] at e; cases e⟩, fun j u hj hLj h => by simpa [hj] using h⟩
    | 2, ho =>
      simp at ho
      subst ho
      have e3 : ac.tmps.getD 3 undef = .pointer (some ⟨w.heap.size + 1, 0, none⟩) := hout 3 (by decide +kernel)
      have c0 := hD.1.cell 1 rfl 0 rfl
      have c1 := hD.1.cell 1 rfl 1 rfl
      exact .inl ⟨rfl, gho_reads γ (.agg #[.int .i64 a, .int .i64 n]) (by simp [go_sem, Act.eval, -Array.getD_eq_getD_getElem?, e3, c0, c1]) rfl (by rw [upd_ne (by decide), upd_ne (by decide)]; exact hD) (fun _ _ _ _ h => h)⟩
    | 3, ho =>
      simp at ho
      subst ho
      have e6 : ac.tmps.getD 6 undef = γ.1 := hv 1 6 rfl (by kernel_rfl)
      have e7 : ac.tmps.getD 7 undef = .agg #[.int .i64 a, .int .i64 n] := hv 2 7 rfl (by kernel_rfl)
      have q1 : L 1 = true := hed 1 (by kernel_rfl)
      obtain ⟨A2, c2, G2, gc2, hγ, hX2⟩ := hD.2.2.1 q1
      rw [hγ] at e6
      refine .inl ⟨rfl, gho_enters 51 #[.agg #[.slice A2 X.rows.length c2, .slice G2 X.gens.length gc2], .agg #[.int .i64 a, .int .i64 n]] (by simp [go_sem, Act.eval, -Array.getD_eq_getD_getElem?, e6, e7]) ?_⟩
      refine (unhide HM _ _ _ _ _ hX2).mono ?_
      rintro e w2 ⟨v2, rfl, ho2, hb2⟩
      obtain ⟨A3, c3, rfl, hB3⟩ := bs_own ho2
      exact ⟨_, (γ.1, .slice A3 (bsTo X a n X.rows.length).length c3), rfl, rfl, ⟨hD.1.below hb2, hD.2.1.trans (hb2.mono hD.2.1.size), fun _ => ⟨A2, c2, G2, gc2, hγ, hX2.below hb2⟩, fun _ => ⟨A3, c3, rfl, hB3⟩⟩, fun j u hj hLj h => by
        have q4 : j ≠ 4 := fun e => by subst e; exact absurd (hcl 4 _ rfl hLj 3 (by kernel_rfl)) (by rw [hL]; decide)
        simpa [hj, q4] using h⟩
    | 4, ho =>
      simp at ho
      subst ho
      have e8 : ac.tmps.getD 8 undef = γ.2 := hv 3 8 rfl (by kernel_rfl)
      exact .inl ⟨rfl, gho_reads γ (γ.2) (by simp [go_sem, Act.eval, -Array.getD_eq_getD_getElem?, e8]) rfl (by rw [upd_ne (by decide), upd_ne (by decide)]; exact hD) (fun _ _ _ _ h => h)⟩
    | ix + 5, ho => simp at ho
  case hend =>
    intro γ v L w9 hD hall hv
    have v4 : v 4 = γ.2 := hv 4 4 rfl
    obtain ⟨A3, c3, hγ, hB3⟩ := hD.2.2.2 (hall 3 (by decide))
    rw [hγ] at v4
    have HD := hide hD.2.1
    have HB3 := hide hB3
    clear hv hall hD h0 hB3 hγ
    simp only [putOps, List.getElem?_cons_zero, List.getElem?_cons_succ, Option.bind_some, List.length_cons, List.length_nil, Nat.reduceAdd, v4]
    clear v4
    go_frame
    go_wp2
    go_ret
    exact ⟨A3, c3, rfl, unhide HB3, unhide HD⟩
end Go.Proofs.Ytnbleebilmghcaa
namespace Go.Proofs.Ytnbleebilmghcaa
open Go Go.RowKit
attribute [local go_sem ↓] Go.wp_at_zero Go.wp_at_succ
def alP : Wd := (putF alX 0 1 1 9).2
theorem al_p0 : (putF alX 0 1 1 9).1 = 0 := by decide +kernel
theorem al_x : (tabsW alX).length = 1 ∧ alX.gens.length = 1 := by decide +kernel
theorem al_p : (tabsW alP).length = 1 ∧ alP.gens.length = 1 ∧ alP.rows.length = 1 ∧ (bsTo alP 2 0 alP.rows.length).length = 1 ∧ getW alP 0 1 2 = (7, true) := by decide +kernel
theorem al_h : ∃ h : 0 < (tabsW alP).length, (tabsW alP)[0].has = 7 := ⟨by decide +kernel, by decide +kernel⟩
theorem run_field38 (x y : Value) (w : World) : Sem.run Try.prog (Instr.field 38 (.agg #[x, y]) 0) w = .ok x w := by kernel_rfl
set_option maxRecDepth 8000 in
set_option maxHeartbeats 4000000 in
theorem alive3_any (w : World) : Calls Try.prog 66 #[] w fun e w' => e = .returned (.bool true) ∧ Below w.heap.size w w' := by
  have hS : ∀ W, Calls Try.prog 62 #[.agg #[.slice none 0 0, .slice none 0 0], .int .i64 5, .int .i64 7] W fun e w' => ∃ T' tc' G' gc', e = .returned (.tuple #[.agg #[.slice T' 1 tc', .slice G' 1 gc'], .agg #[.int .i64 0, .int .i64 1], .int .i64 0]) ∧ StNew W.heap.size w' T' G' (tabsW alX) alX ∧ Below W.heap.size W w' := fun W => by
    have h := sspawn_any none 0 none 0 (tabsW emptyW) emptyW 5 7 W (stNew_empty 0 W).st
    rw [al1.1, al1.2] at h
    have e : (spawnF emptyW 5 7).2.2 = alX := rfl
    rw [e] at h
    unfold stV beingV at h
    rw [al_x.1, al_x.2] at h
    exact h
  have hP : ∀ T tc G gc W, StAt W T G (tabsW alX) alX → Calls Try.prog 63 #[.agg #[.slice T 1 tc, .slice G 1 gc], .agg #[.int .i64 0, .int .i64 1], .int .i64 1, .int .i64 9] W fun e w' => ∃ T' tc' G' gc', e = .returned (.tuple #[.agg #[.slice T' 1 tc', .slice G' 1 gc'], .int .i64 0]) ∧ StNew W.heap.size w' T' G' (tabsW alP) alP ∧ Below W.heap.size W w' := fun T tc G gc W hW => by
    have h := sput_any T tc G gc (tabsW alX) alX 0 1 1 9 W hW
    rw [al_p0] at h
    have e : (putF alX 0 1 1 9).2 = alP := rfl
    rw [e] at h
    unfold stV beingV at h
    rw [al_x.1, al_x.2, al_p.1, al_p.2.1] at h
    exact h
  have hG : ∀ T tc G gc W, StAt W T G (tabsW alP) alP → Calls Try.prog 67 #[.agg #[.slice T 1 tc, .slice G 1 gc], .agg #[.int .i64 0, .int .i64 1], .int .i64 2] W fun e w' => e = .returned (.tuple #[.int .i64 7, .bool true]) ∧ Below W.heap.size W w' := fun T tc G gc W hW => by
    have h := sget_any T tc G gc (tabsW alP) alP 0 1 2 W hW
    rw [al_p.2.2.2.2] at h
    unfold stV beingV at h
    rw [al_p.1, al_p.2.1] at h
    exact h
  have hM : ∀ T tc G gc W, StAt W T G (tabsW alP) alP → Calls Try.prog 68 #[.agg #[.slice T 1 tc, .slice G 1 gc], .agg #[.int .i64 2, .int .i64 0]] W fun e w' => ∃ A c, e = .returned (.slice A 1 c) ∧ Below W.heap.size W w' := fun T tc G gc W hW => by
    have h := smatch_any T tc G gc (tabsW alP) alP 2 0 W hW
    unfold stV at h
    rw [al_p.1, al_p.2.1, al_p.2.2.2.1] at h
    exact h.mono fun e w' ⟨A, c, he, _, hb⟩ => ⟨A, c, he, hb⟩
  have hW : ∀ T tc G gc W, StAt W T G (tabsW alP) alP → Calls Try.prog 58 #[.agg #[.slice T 1 tc, .slice G 1 gc]] W fun e w' => ∃ A c G' gc', e = .returned (.agg #[.slice A 1 c, .slice G' 1 gc']) ∧ Below W.heap.size W w' := fun T tc G gc W hW => by
    have h := sworld_any T tc G gc (tabsW alP) alP W hW
    unfold stV wldV worldV at h
    rw [al_p.1, al_p.2.1, al_p.2.2.1] at h
    exact h.mono fun e w' ⟨A, c, G', gc', he, _, hb⟩ => ⟨A, c, G', gc', he, hb⟩
  have HS := hide hS
  have HP := hide hP
  have HG := hide hG
  have HM := hide hM
  have HW := hide hW
  clear hS hP hG hM hW
  go_enter Try.func66, Try.ntmps66
  go_wp2_with fail
  go_at_call 62
  refine (unhide HS _).mono ?_
  rintro e w1 ⟨T1, tc1, G1, gc1, rfl, hN1, hb1⟩
  obtain ⟨W1, hW1⟩ : ∃ W1, W1 = allocs w1 [([.slice T1 1 tc1, .slice G1 1 gc1], 71), ([.int .i64 0, .int .i64 1], 40)] := ⟨_, rfl⟩
  have hA1 := allocs_below [([.slice T1 1 tc1, .slice G1 1 gc1], 71), ([.int .i64 0, .int .i64 1], 40)] w1
  have hX1 := Bxs.start w1 [([.slice T1 1 tc1, .slice G1 1 gc1], 71), ([.int .i64 0, .int .i64 1], 40)]
  rw [← hW1] at hA1 hX1
  have HP1 := hide (unhide HP T1 tc1 G1 gc1 W1 (hN1.below hA1).st)
  have HX1 := hide hX1
  have HL1 := hide (hb1.trans (hA1.mono hb1.size))
  have hW1' : (w1.alloc (.cells #[.slice T1 1 tc1, .slice G1 1 gc1] 71)).alloc (.cells #[.int .i64 0, .int .i64 1] 40) = W1 := hW1.symm
  have HW1 := hide hW1'
  clear hN1 hb1 hA1 hX1 hW1 hW1' HS HP
  go_wp2_with fail
  go_at_call 63
  rw [unhide HW1]
  refine (unhide HP1).mono ?_
  rintro e w2 ⟨T2, tc2, G2, gc2, rfl, hN2, hb2⟩
  have hX2 := (unhide HX1).below hb2
  have d0 := hX2.cell 1 rfl 0 rfl
  have d1 := hX2.cell 1 rfl 1 rfl
  have ld := World.block_lt_of_cell? w2 _ d0
  have HL2 := hide ((unhide HL1).trans (hb2.mono (unhide HL1).size))
  have hN3 := hN2.below (bel1 w2 (.cells #[.slice T2 1 tc2, .slice G2 1 gc2] 71))
  have HG3 := hide (unhide HG T2 tc2 G2 gc2 _ hN3.st)
  have HN3 := hide hN3
  clear hX2 hN2 hb2 hN3 HP1 HW1 HX1 HL1 HG
  go_wp2_with fail
  go_at_call 67
  refine (unhide HG3).mono ?_
  rintro e w3 ⟨rfl, hb3⟩
  have c0 := keep_below hb3 (p := ⟨w2.heap.size, 0, none⟩) (v := .slice T2 1 tc2) (by simp)
  have c1 := keep_below hb3 (p := ⟨w2.heap.size, 1, none⟩) (v := .slice G2 1 gc2) (by simp)
  have hN4 := (unhide HN3).below hb3
  have hL3 := (unhide HL2).trans ((bel1 w2 (.cells #[.slice T2 1 tc2, .slice G2 1 gc2] 71)).mono (unhide HL2).size)
  have hL4 := hL3.trans (hb3.mono hL3.size)
  obtain ⟨b, o, rfl, A, c, C, cc, hta⟩ := hN4.st.tbs 0 al_h.1
  have t0 := hta.c0
  rw [al_h.2, Nat.zero_mul, Nat.add_zero] at t0
  have HN4 := hide hN4
  have HL4 := hide hL4
  clear hb3 hN4 hL3 hL4 hta HG3 HN3 HL2 d0 d1 ld
  go_wp2_with (first
    | (go_at_call 68; refine (unhide HM _ tc2 G2 gc2 _ (unhide HN4).st).mono ?_; rintro e w5 ⟨A5, c5, rfl, hb5⟩; have x0 := keep_below hb5 c0; have x1 := keep_below hb5 c1; have HN5 := hide ((unhide HN4).below hb5); have HL5 := hide ((unhide HL4).trans (hb5.mono (unhide HL4).size)); clear hb5 c0 c1 t0)
    | (go_at_call 58; refine (unhide HW _ tc2 G2 gc2 _ (unhide HN5).st).mono ?_; rintro e w6 ⟨A6, c6, G6, gc6, rfl, hb6⟩; have HL6 := hide ((unhide HL5).trans (hb6.mono (unhide HL5).size)); have hfd := run_field38 (.slice A6 1 c6) (.slice G6 1 gc6) w6; clear hb6))
  go_ret
  exact ⟨rfl, unhide HL6⟩
end Go.Proofs.Ytnbleebilmghcaa
namespace Go.Proofs.Ytnbleebilmghcaa
open Go Go.RowKit
theorem unwanted_un {ops : Array Oper} {o : Oper} {ac : Act} {j d : Nat} {b : Bool} (hg : o.guard = some (j, b)) (hd : (ops[j]?).bind (·.dst) = some d) (hv : ac.tmps.getD d undef = undef) : Region.wanted o (yielded ops ac.tmps) = false := by
  unfold Region.wanted
  simp only [hg, yielded, hd, Option.bind_some]
  rw [Array.getD_eq_getD_getElem?] at hv
  cases hc : ac.tmps[d]? with
  | none => rfl
  | some x =>
    rw [hc] at hv
    rw [show x = undef from hv]
    rfl
theorem run_field43 (x y : Value) (w : World) : Sem.run Try.prog (Instr.field 43 (.agg #[x, y]) 0) w = .ok x w := by kernel_rfl
theorem same_ws {X : Wd} (hl : X.rows.length ≤ 60) (hgl : X.gens.length ≤ 60) (W : World) (A : Option Addr) (c : Nat) (G : Option Addr) (gc : Nat) (A' : Option Addr) (c' : Nat) (G' : Option Addr) (gc' : Nat) (h : WldAt W A c G gc X) (h' : WldAt W A' c' G' gc' X) :
    Calls Try.prog 36 #[.agg #[.slice A X.rows.length c, .slice G X.gens.length gc], .agg #[.slice A' X.rows.length c', .slice G' X.gens.length gc']] W fun e w' => e = .returned (.bool true) ∧ Below W.heap.size W w' :=
  same_true A X.rows.length c G X.gens.length gc A' c' G' gc' (fun j => X.rows.getD j dR) (fun j => X.gens.getD j 0) W (by omega) (by omega) h.rows h'.rows h.gens h'.gens
theorem get_us (X : Wd) (hl : X.rows.length ≤ 60) (i g p : Int) (W : World) (A : Option Addr) (c : Nat) (G : Option Addr) (gc : Nat) (h : WldAt W A c G gc X) :
    Calls Try.prog 48 #[.agg #[.slice A X.rows.length c, .slice G X.gens.length gc], .agg #[.int .i64 i, .int .i64 g], .int .i64 p] W fun e w' => e = .returned (.tuple #[.int .i64 (getI (fun j => X.rows.getD j dR) X.rows.length i g p).1, .bool (getI (fun j => X.rows.getD j dR) X.rows.length i g p).2]) ∧ Below W.heap.size W w' :=
  get_any A X.rows.length c G X.gens.length gc (fun j => X.rows.getD j dR) i g p W (by omega) h.rows
end Go.Proofs.Ytnbleebilmghcaa
