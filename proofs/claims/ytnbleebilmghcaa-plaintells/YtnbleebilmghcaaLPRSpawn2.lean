/- The document's Spawn: what it answers. -/
import Derived.Test.YtnbleebilmghcaaLPRSpawn
set_option linter.unusedVariables false
set_option linter.unusedSimpArgs false
set_option linter.unnecessarySimpa false
namespace Go.Proofs.Ytnbleebilmghcaa
open Go Go.RowKit
attribute [local go_sem ↓] Go.wp_at_zero Go.wp_at_succ

set_option maxRecDepth 8000 in
set_option maxHeartbeats 8000000 in
theorem rspawn_set (A : Option Addr) (cap : Nat) (G : Option Addr) (gcap : Nat) (X : Wd) (has n : Int) (w : World) (hn0 : X.rows.length ≤ 9223372036854775807) (hX : WldAt w A cap G gcap X) (hw0 : (wrongW X).1 = 0) (hs : setB has = false) :
    Calls Try.prog 41 #[wldV A cap G gcap X, .int .i64 has, .int .i64 n] w fun e w' => ∃ A' c' G' gc', e = .returned (.tuple #[.agg #[.slice A' 0 c', .slice G' 0 gc'], .agg #[.int .i64 0, .int .i64 0], .int .i64 3]) ∧ WldDoc w.heap.size w' none A' c' G' gc' emptyW ∧ Below w.heap.size w w' := by
  have hSB := SB.start w (.slice A X.rows.length cap) (.slice G X.gens.length gcap)
  have hP := fun W (hb : Below w.heap.size w W) => rpwrong_any A X.rows.length cap G X.gens.length gcap (fun j => X.rows.getD j dR) (fun j => X.gens.getD j 0) W (by omega) (hX.rows.below hb) (hX.gens.below hb)
  have eW : plainF (fun j => X.rows.getD j dR) X.rows.length X.gens.length (fun j => X.gens.getD j 0) = wrongW X := rfl
  rw [eW] at hP
  unfold faultP worldV at hP
  rw [hw0] at hP
  generalize (wrongW X).2 = wa at *
  have HP := hide hP
  have HX := hide hX
  have HSB := hide hSB
  have hST := rset_any has
  rw [hs] at hST
  have HST := hide hST
  clear hP hSB eW hX hw0 hs hST
  unfold wldV worldV
  go_enter Try.func41, Try.ntmps41
  go_wp2_with (first
    | (go_at_call 35; refine (unhide HP _ (unhide HSB).bel).mono ?_; rintro e w5 ⟨rfl, hb5⟩; have hS5 := (unhide HSB).below hb5; have hS6 := hS5.below ((Below.refl _ _).alloc (Nat.le_refl _) (.cells #[.int .i64 0, .int .i64 wa] 43)); have r0 := hS6.r0; have r1 := hS6.r1; have HS6 := hide hS6; clear hb5 hS5 hS6)
    | (go_at_call 16; refine (unhide HST _).mono ?_; rintro e w1 ⟨rfl, hw⟩; obtain rfl := hw.symm)
    | (refine wpList_putN rfl 38 (.tmp 6) (.tmp 34) rfl (w.heap.size + 1) 0 [.slice none 0 0, .slice none 0 0] rfl rfl (by simp [Value.oneCell']) size38 (unhide HS6).thereA ?_; intro W3 hW3; have hS7 := (unhide HS6).giveA (.slice none 0 0) (.slice none 0 0); rw [← hW3] at hS7; have HS7 := hide hS7; clear hW3 hS7)
    | (refine wpList_putN rfl 40 (.tmp 7) (.tmp 35) rfl (w.heap.size + 2) 0 [.int .i64 0, .int .i64 0] rfl rfl (by simp [Value.oneCell']) size40 (unhide HS7).thereB ?_; intro W4 hW4; have hS8 := (unhide HS7).giveB (.int .i64 0) (.int .i64 0); rw [← hW4] at hS8; have HS8 := hide hS8; clear hW4 hS8))
  have t0 := (unhide HS8).t0
  have t1 := (unhide HS8).t1
  have s0 := (unhide HS8).s0
  have s1 := (unhide HS8).s1
  refine bodyPost_ret (v := .tuple #[.agg #[.slice none 0 0, .slice none 0 0], .agg #[.int .i64 0, .int .i64 0], .int .i64 3]) (by simp [results, Try.results41, go_sem, t0, t1, s0, s1]) rfl ⟨none, 0, none, 0, rfl, wldDoc_empty _ _ _, (unhide HS8).bel⟩

set_option maxRecDepth 8000 in
set_option maxHeartbeats 8000000 in
theorem rspawn_val (A : Option Addr) (cap : Nat) (G : Option Addr) (gcap : Nat) (X : Wd) (has n : Int) (w : World) (hn0 : X.rows.length ≤ 9223372036854775807) (hX : WldAt w A cap G gcap X) (hw0 : (wrongW X).1 = 0) (hs : setB has = true) (hv : valB n = false) :
    Calls Try.prog 41 #[wldV A cap G gcap X, .int .i64 has, .int .i64 n] w fun e w' => ∃ A' c' G' gc', e = .returned (.tuple #[.agg #[.slice A' 0 c', .slice G' 0 gc'], .agg #[.int .i64 0, .int .i64 0], .int .i64 3]) ∧ WldDoc w.heap.size w' none A' c' G' gc' emptyW ∧ Below w.heap.size w w' := by
  have hSB := SB.start w (.slice A X.rows.length cap) (.slice G X.gens.length gcap)
  have hP := fun W (hb : Below w.heap.size w W) => rpwrong_any A X.rows.length cap G X.gens.length gcap (fun j => X.rows.getD j dR) (fun j => X.gens.getD j 0) W (by omega) (hX.rows.below hb) (hX.gens.below hb)
  have eW : plainF (fun j => X.rows.getD j dR) X.rows.length X.gens.length (fun j => X.gens.getD j 0) = wrongW X := rfl
  rw [eW] at hP
  unfold faultP worldV at hP
  rw [hw0] at hP
  generalize (wrongW X).2 = wa at *
  have HP := hide hP
  have HX := hide hX
  have HSB := hide hSB
  have hST := rset_any has
  rw [hs] at hST
  have HST := hide hST
  have hVL := rvalue_any n
  rw [hv] at hVL
  have HVL := hide hVL
  clear hP hSB eW hX hw0 hs hST hv hVL
  unfold wldV worldV
  go_enter Try.func41, Try.ntmps41
  go_wp2_with (first
    | (go_at_call 35; refine (unhide HP _ (unhide HSB).bel).mono ?_; rintro e w5 ⟨rfl, hb5⟩; have hS5 := (unhide HSB).below hb5; have hS6 := hS5.below ((Below.refl _ _).alloc (Nat.le_refl _) (.cells #[.int .i64 0, .int .i64 wa] 43)); have r0 := hS6.r0; have r1 := hS6.r1; have HS6 := hide hS6; clear hb5 hS5 hS6)
    | (go_at_call 16; refine (unhide HST _).mono ?_; rintro e w1 ⟨rfl, hw⟩; obtain rfl := hw.symm)
    | (go_at_call 19; refine (unhide HVL _).mono ?_; rintro e w1 ⟨rfl, hw⟩; obtain rfl := hw.symm)
    | (refine wpList_putN rfl 38 (.tmp 6) (.tmp 34) rfl (w.heap.size + 1) 0 [.slice none 0 0, .slice none 0 0] rfl rfl (by simp [Value.oneCell']) size38 (unhide HS6).thereA ?_; intro W3 hW3; have hS7 := (unhide HS6).giveA (.slice none 0 0) (.slice none 0 0); rw [← hW3] at hS7; have HS7 := hide hS7; clear hW3 hS7)
    | (refine wpList_putN rfl 40 (.tmp 7) (.tmp 35) rfl (w.heap.size + 2) 0 [.int .i64 0, .int .i64 0] rfl rfl (by simp [Value.oneCell']) size40 (unhide HS7).thereB ?_; intro W4 hW4; have hS8 := (unhide HS7).giveB (.int .i64 0) (.int .i64 0); rw [← hW4] at hS8; have HS8 := hide hS8; clear hW4 hS8))
  have t0 := (unhide HS8).t0
  have t1 := (unhide HS8).t1
  have s0 := (unhide HS8).s0
  have s1 := (unhide HS8).s1
  refine bodyPost_ret (v := .tuple #[.agg #[.slice none 0 0, .slice none 0 0], .agg #[.int .i64 0, .int .i64 0], .int .i64 3]) (by simp [results, Try.results41, go_sem, t0, t1, s0, s1]) rfl ⟨none, 0, none, 0, rfl, wldDoc_empty _ _ _, (unhide HS8).bel⟩

set_option maxRecDepth 8000 in
set_option maxHeartbeats 8000000 in
theorem rspawn_next (A : Option Addr) (cap : Nat) (G : Option Addr) (gcap : Nat) (X : Wd) (has n : Int) (w : World) (hn0 : X.rows.length ≤ 9223372036854775807) (hX : WldAt w A cap G gcap X) (hw0 : (wrongW X).1 = 0) (hs : setB has = true) (hv : valB n = true) (hne : (nextF X).2 ≠ 0) :
    Calls Try.prog 41 #[wldV A cap G gcap X, .int .i64 has, .int .i64 n] w fun e w' => ∃ A' c' G' gc', e = .returned (.tuple #[.agg #[.slice A' 0 c', .slice G' 0 gc'], .agg #[.int .i64 0, .int .i64 0], .int .i64 (nextF X).2]) ∧ WldDoc w.heap.size w' none A' c' G' gc' emptyW ∧ Below w.heap.size w w' := by
  have hSB := SB.start w (.slice A X.rows.length cap) (.slice G X.gens.length gcap)
  have hP := fun W (hb : Below w.heap.size w W) => rpwrong_any A X.rows.length cap G X.gens.length gcap (fun j => X.rows.getD j dR) (fun j => X.gens.getD j 0) W (by omega) (hX.rows.below hb) (hX.gens.below hb)
  have eW : plainF (fun j => X.rows.getD j dR) X.rows.length X.gens.length (fun j => X.gens.getD j 0) = wrongW X := rfl
  rw [eW] at hP
  unfold faultP worldV at hP
  obtain ⟨hr1, hr2, hr3⟩ := right_hr hw0
  have hNX := fun W (hb : Below w.heap.size w W) => rnext_any A cap G gcap X W (by omega) (by omega) (fun j hj => by have := hr3 j hj; omega) (hX.below hb)
  unfold wldV worldV beingV at hNX
  rw [hw0] at hP
  generalize (wrongW X).2 = wa at *
  generalize (nextF X).1.1 = ni at *
  generalize (nextF X).1.2 = ng at *
  generalize (nextF X).2 = ne at *
  have HNX := hide hNX
  clear hNX
  have HP := hide hP
  have HX := hide hX
  have HSB := hide hSB
  have hST := rset_any has
  rw [hs] at hST
  have HST := hide hST
  have hVL := rvalue_any n
  rw [hv] at hVL
  have HVL := hide hVL
  clear hP hSB eW hX hw0 hs hST hv hVL
  unfold wldV worldV
  go_enter Try.func41, Try.ntmps41
  go_wp2_with (first
    | (go_at_call 35; refine (unhide HP _ (unhide HSB).bel).mono ?_; rintro e w5 ⟨rfl, hb5⟩; have hS5 := (unhide HSB).below hb5; have hS6 := hS5.below ((Below.refl _ _).alloc (Nat.le_refl _) (.cells #[.int .i64 0, .int .i64 wa] 43)); have r0 := hS6.r0; have r1 := hS6.r1; have HS6 := hide hS6; clear hb5 hS5 hS6)
    | (go_at_call 16; refine (unhide HST _).mono ?_; rintro e w1 ⟨rfl, hw⟩; obtain rfl := hw.symm)
    | (go_at_call 19; refine (unhide HVL _).mono ?_; rintro e w1 ⟨rfl, hw⟩; obtain rfl := hw.symm)
    | (go_at_call 39; refine (unhide HNX _ (unhide HS6).bel).mono ?_; rintro e w6 ⟨rfl, hb6⟩; have hS8 := (unhide HS6).below hb6; have hS9 := hS8.below ((Below.refl _ _).alloc (Nat.le_refl _) (.cells #[.int .i64 ni, .int .i64 ng] 40)); have r0' := hS9.r0; have r1' := hS9.r1; have HS9 := hide hS9; clear hb6 hS8 hS9 r0 r1)
    | (refine wpList_putN rfl 38 (.tmp 6) (.tmp 43) rfl (w.heap.size + 1) 0 [.slice none 0 0, .slice none 0 0] rfl rfl (by simp [Value.oneCell']) size38 (unhide HS9).thereA ?_; intro W3 hW3; have hS7 := (unhide HS9).giveA (.slice none 0 0) (.slice none 0 0); rw [← hW3] at hS7; have HS7 := hide hS7; clear hW3 hS7)
    | (refine wpList_putN rfl 40 (.tmp 7) (.tmp 44) rfl (w.heap.size + 2) 0 [.int .i64 0, .int .i64 0] rfl rfl (by simp [Value.oneCell']) size40 (unhide HS7).thereB ?_; intro W4 hW4; have hS8 := (unhide HS7).giveB (.int .i64 0) (.int .i64 0); rw [← hW4] at hS8; have HS8 := hide hS8; clear hW4 hS8))
  have t0 := (unhide HS8).t0
  have t1 := (unhide HS8).t1
  have s0 := (unhide HS8).s0
  have s1 := (unhide HS8).s1
  refine bodyPost_ret (v := .tuple #[.agg #[.slice none 0 0, .slice none 0 0], .agg #[.int .i64 0, .int .i64 0], .int .i64 ne]) (by simp [results, Try.results41, go_sem, t0, t1, s0, s1]) rfl ⟨none, 0, none, 0, rfl, wldDoc_empty _ _ _, (unhide HS8).bel⟩

set_option maxRecDepth 8000 in
set_option maxHeartbeats 8000000 in
theorem rspawn_wrong (A : Option Addr) (cap : Nat) (G : Option Addr) (gcap : Nat) (X : Wd) (has n : Int) (w : World) (hn0 : X.rows.length ≤ 9223372036854775807) (hX : WldAt w A cap G gcap X) (hw0 : (wrongW X).1 ≠ 0) :
    Calls Try.prog 41 #[wldV A cap G gcap X, .int .i64 has, .int .i64 n] w fun e w' => ∃ A' c' G' gc', e = .returned (.tuple #[.agg #[.slice A' 0 c', .slice G' 0 gc'], .agg #[.int .i64 0, .int .i64 0], .int .i64 (wrongW X).1]) ∧ WldDoc w.heap.size w' none A' c' G' gc' emptyW ∧ Below w.heap.size w w' := by
  have hSB := SB.start w (.slice A X.rows.length cap) (.slice G X.gens.length gcap)
  have hP := fun W (hb : Below w.heap.size w W) => rpwrong_any A X.rows.length cap G X.gens.length gcap (fun j => X.rows.getD j dR) (fun j => X.gens.getD j 0) W (by omega) (hX.rows.below hb) (hX.gens.below hb)
  have eW : plainF (fun j => X.rows.getD j dR) X.rows.length X.gens.length (fun j => X.gens.getD j 0) = wrongW X := rfl
  rw [eW] at hP
  unfold faultP worldV at hP
  generalize (wrongW X).2 = wa at *
  generalize (wrongW X).1 = we at *
  have HP := hide hP
  have HX := hide hX
  have HSB := hide hSB
  clear hP hSB eW hX
  unfold wldV worldV
  go_enter Try.func41, Try.ntmps41
  go_wp2_with (first
    | (go_at_call 35; refine (unhide HP _ (unhide HSB).bel).mono ?_; rintro e w5 ⟨rfl, hb5⟩; have hS5 := (unhide HSB).below hb5; have hS6 := hS5.below ((Below.refl _ _).alloc (Nat.le_refl _) (.cells #[.int .i64 we, .int .i64 wa] 43)); have HS6 := hide hS6; have HZ5 := hide hS5.sz; clear hb5 hS5 hS6))
  have hf0 : (w5.alloc (.cells #[.int .i64 we, .int .i64 wa] 43)).cell? ⟨w5.heap.size, 0, none⟩ = some (.int .i64 we) := by simp
  have HF0 := hide hf0
  clear hf0
  refine wp_region_puts [0, 1, 2, 3, 6] [4, 5] (fun _ W => SB w (.slice A X.rows.length cap) (.slice G X.gens.length gcap) (.slice none 0 0) (.slice none 0 0) (.int .i64 0) (.int .i64 0) W ∧ W.cell? ⟨w5.heap.size, 0, none⟩ = some (.int .i64 we)) (by kernel_rfl) (by kernel_rfl) (by kernel_rfl) (by kernel_rfl) (by kernel_rfl) (by kernel_rfl) (by kernel_rfl)
    (fun L w1 x h => ⟨h.1.below x.bel, keep_below x.bel h.2⟩) (fun _ _ _ _ h => h) ⟨unhide HS6, unhide HF0⟩ ?_
  apply Exists.intro
  refine ⟨?hq, ?hl, ?hend⟩
  case hq =>
    intro l L w1 hl hI
    simp only [pickL, List.getElem?_cons_zero, List.getElem?_cons_succ, Option.toList_some, List.cons_append, List.nil_append] at hl
    subst hl
    have hne : Nonempty (Sub w1) := ⟨⟨w1, Below.refl _ _⟩⟩
    have f0 := sub_cell hI.2
    clear hI
    repeat (go_big_quiet_step (fail))
    exact wpQuiet_nil rfl
  case hl =>
    intro i o hi ho L w1 hI hL
    simp only [List.mem_cons, List.not_mem_nil, or_false] at hi
    rcases hi with rfl | rfl
    · simp only [List.getElem?_cons_zero, List.getElem?_cons_succ, Option.some.injEq] at ho
      subst ho
      refine wpList_putN rfl 38 (.tmp 6) (.tmp 22) rfl (w.heap.size + 1) 0 [.slice none 0 0, .slice none 0 0] rfl rfl (by simp [Value.oneCell']) size38 hI.1.thereA ?_
      intro W3 hW3
      unfold wpList
      refine ⟨rfl, rfl, by rw [hW3]; exact hI.1.giveA _ _, ?_⟩
      rw [hW3]
      exact (setcs_other (by have := unhide HZ5; simp only [ne_eq]; omega)).trans hI.2
    · simp only [List.getElem?_cons_zero, List.getElem?_cons_succ, Option.some.injEq] at ho
      subst ho
      refine wpList_putN rfl 40 (.tmp 7) (.tmp 23) rfl (w.heap.size + 2) 0 [.int .i64 0, .int .i64 0] rfl rfl (by simp [Value.oneCell']) size40 hI.1.thereB ?_
      intro W3 hW3
      unfold wpList
      refine ⟨rfl, rfl, by rw [hW3]; exact hI.1.giveB _ _, ?_⟩
      rw [hW3]
      exact (setcs_other (by have := unhide HZ5; simp only [ne_eq]; omega)).trans hI.2
  case hend =>
    intro L w1 hI _
    have HS8 := hide hI.1
    clear hI
    go_wp2
    have t0 := (unhide HS8).t0
    have t1 := (unhide HS8).t1
    have s0 := (unhide HS8).s0
    have s1 := (unhide HS8).s1
    refine bodyPost_ret (v := .tuple #[.agg #[.slice none 0 0, .slice none 0 0], .agg #[.int .i64 0, .int .i64 0], .int .i64 we]) (by simp [results, Try.results41, go_sem, t0, t1, s0, s1]) rfl ⟨none, 0, none, 0, rfl, wldDoc_empty _ _ _, (unhide HS8).bel⟩

theorem rspawn_any (A : Option Addr) (cap : Nat) (G : Option Addr) (gcap : Nat) (X : Wd) (has n : Int) (w : World) (hn0 : X.rows.length ≤ 9223372036854775807) (hX : WldAt w A cap G gcap X) :
    Calls Try.prog 41 #[wldV A cap G gcap X, .int .i64 has, .int .i64 n] w fun e w' => ∃ A' c' G' gc', e = .returned (.tuple #[wldV A' c' G' gc' (spawnF X has n).2.2, beingV (spawnF X has n).2.1.1 (spawnF X has n).2.1.2, .int .i64 (spawnF X has n).1]) ∧ WldDoc w.heap.size w' none A' c' G' gc' (spawnF X has n).2.2 ∧ Below w.heap.size w w' := by
  by_cases hw0 : (wrongW X).1 = 0
  · cases hs : setB has
    · have e : spawnF X has n = (3, (0, 0), emptyW) := by unfold spawnF; rw [if_neg (by simpa using hw0)]; simp [hs]
      rw [e]
      exact rspawn_set A cap G gcap X has n w hn0 hX hw0 hs
    · cases hv : valB n
      · have e : spawnF X has n = (3, (0, 0), emptyW) := by unfold spawnF; rw [if_neg (by simpa using hw0)]; simp [hs, hv]
        rw [e]
        exact rspawn_val A cap G gcap X has n w hn0 hX hw0 hs hv
      · by_cases hne : (nextF X).2 = 0
        · obtain ⟨k, hk1, hk2⟩ := next_ok X hne
          have hN1 : (nextF X).1 = ((k : Int), (nextF X).1.2) := Prod.ext hk1 rfl
          have hfree : ∀ j, j < X.rows.length → (rowOf X j).ix ≠ (k : Int) := fun j hj => by
            obtain ⟨k', hk', h⟩ := nxTo_spec X X.gens.length 0 (by omega) hne
            have e : (k' : Int) = (k : Int) := hk'.symm.trans hk1
            rw [← e]
            rcases h with h | h
            · exact h.2.1 j hj
            · have := ((right_iff X).1 hw0).il j hj
              omega
          have hwn := with_new ((right_iff X).1 hw0) (newR (k : Int) (nextF X).1.2 has n) (fun j hj => hfree j hj)
          have e : spawnF X has n = (0, ((k : Int), (nextF X).1.2), ⟨withF X.rows (newR (k : Int) (nextF X).1.2 has n), gensF X.gens (k : Int) (nextF X).1.2⟩) := by
            unfold spawnF
            rw [if_neg (by simpa using hw0), if_neg (by simp [hs, hv]), if_neg (by simpa using hne), hwn, hk1]
            exact congrArg (fun x => ((0 : Int), x, _)) hN1
          rw [e]
          unfold gensF
          by_cases hkl : k = X.gens.length
          · rw [if_pos (by omega)]
            have hg : (X.gens ++ [(0 : Int)]).set k (nextF X).1.2 = X.gens ++ [(nextF X).1.2] := by rw [hkl]; simp
            have := rspawn_new A cap G gcap X has n w hX hw0 hs hv k (nextF X).1.2 hN1 hne hkl _ rfl
            rw [hg] at this
            exact this
          · rw [if_neg (by omega), Int.toNat_natCast]
            exact rspawn_old A cap G gcap X has n w hX hw0 hs hv k (nextF X).1.2 hN1 hne (by omega) _ rfl
        · have e : spawnF X has n = ((nextF X).2, (0, 0), emptyW) := by unfold spawnF; rw [if_neg (by simpa using hw0), if_neg (by simp [hs, hv]), if_pos hne]
          rw [e]
          exact rspawn_next A cap G gcap X has n w hn0 hX hw0 hs hv hne
  · have e : spawnF X has n = ((wrongW X).1, (0, 0), emptyW) := by unfold spawnF; rw [if_pos hw0]
    rw [e]
    exact rspawn_wrong A cap G gcap X has n w hn0 hX hw0
end Go.Proofs.Ytnbleebilmghcaa
