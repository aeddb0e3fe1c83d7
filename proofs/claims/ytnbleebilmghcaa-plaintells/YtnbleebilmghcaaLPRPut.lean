/- The document's Put and Drop: what they answer. -/
import Derived.Test.YtnbleebilmghcaaLPRPut0
import Derived.Test.YtnbleebilmghcaaLPRMath
set_option linter.unusedVariables false
set_option linter.unusedSimpArgs false
set_option linter.unnecessarySimpa false
namespace Go.Proofs.Ytnbleebilmghcaa
open Go Go.RowKit
attribute [local go_sem ↓] Go.wp_at_zero Go.wp_at_succ

set_option maxRecDepth 8000 in
set_option maxHeartbeats 4000000 in
theorem rput_yes (A : Option Addr) (cap : Nat) (G : Option Addr) (gcap : Nat) (X : Wd) (i g n : Int) (q : Nat) (hq : q < 8) (w : World) (hX : WldAt w A cap G gcap X) (hw0 : (wrongW X).1 = 0) {k : Nat} (hk : k < X.rows.length) (hf : findW X i g = (k : Int)) (hvn : valB n = true) :
    Calls Try.prog 45 #[wldV A cap G gcap X, beingV i g, .int .i64 (q : Int), .int .i64 n] w fun e w' => ∃ A' c' G' gc', e = .returned (.tuple #[wldV A' c' G' gc' ⟨X.rows.set k (putR (rowOf X k) (q : Int) n), X.gens⟩, .int .i64 0]) ∧ WldDoc w.heap.size w' G A' c' G' gc' ⟨X.rows.set k (putR (rowOf X k) (q : Int) n), X.gens⟩ ∧ Below w.heap.size w w' := by
  obtain ⟨hl, hgl, _⟩ := right_hr hw0
  have hr := (right_iff X).1 hw0
  have hCW := CW.start w (.slice A X.rows.length cap) (.slice G X.gens.length gcap) i g
  have hP := fun W (hb : Below w.heap.size w W) => rpwrong_any A X.rows.length cap G X.gens.length gcap (fun j => X.rows.getD j dR) (fun j => X.gens.getD j 0) W (by omega) (hX.rows.below hb) (hX.gens.below hb)
  have eW : plainF (fun j => X.rows.getD j dR) X.rows.length X.gens.length (fun j => X.gens.getD j 0) = wrongW X := rfl
  rw [eW] at hP
  unfold faultP worldV at hP
  rw [hw0] at hP
  have hR := fun W (h : WldAt W A cap G gcap X) => row_some hf hl A cap G gcap W h
  have hset := with_set hr hk (putR (rowOf X k) (q : Int) n) rfl
  have hWI := fun W (h : WldAt W A cap G gcap X) => rwith_any A cap G gcap X (putR (rowOf X k) (q : Int) n) W (by omega) h
  rw [hset] at hWI
  obtain ⟨hb, _⟩ := rv_parts (hr.rv k hk)
  have hVL := rvalue_any n
  rw [hvn] at hVL
  unfold wldV worldV rowV at hWI
  generalize (wrongW X).2 = wa at *
  generalize rowOf X k = x at *
  generalize X.rows.set k (putR x (q : Int) n) = rows' at *
  have hBI := fun W => bits_bel x.has W hb.1 hb.2
  have hnum : numL [(if q = 0 then true else tb x.has 0), (if q = 1 then true else tb x.has 1), (if q = 2 then true else tb x.has 2), (if q = 3 then true else tb x.has 3), (if q = 4 then true else tb x.has 4), (if q = 5 then true else tb x.has 5), (if q = 6 then true else tb x.has 6), (if q = 7 then true else tb x.has 7)] = bits .or .i64 x.has (bitI (q : Int)) := by
    obtain ⟨m, hm⟩ := fin_of x.has hb.1 hb.2
    have := num_or_fin m ⟨q, hq⟩
    rw [hm, ← this]
    congr 1
    simp only [List.cons.injEq, and_true]
    refine ⟨?_, ?_, ?_, ?_, ?_, ?_, ?_, ?_⟩ <;> (split <;> simp_all)
  have hNU := fun W => num_any (if q = 0 then true else tb x.has 0) (if q = 1 then true else tb x.has 1) (if q = 2 then true else tb x.has 2) (if q = 3 then true else tb x.has 3) (if q = 4 then true else tb x.has 4) (if q = 5 then true else tb x.has 5) (if q = 6 then true else tb x.has 6) (if q = 7 then true else tb x.has 7) W
  rw [hnum] at hNU
  have ez : putR x (q : Int) n = ⟨x.ix, x.gen, bits .or .i64 x.has (bitI (q : Int)), fun j => if j = q then n else x.v j⟩ := rfl
  generalize putR x (q : Int) n = z at *
  have HE := hide ez
  clear ez hnum
  generalize bits .or .i64 x.has (bitI (q : Int)) = hs at *
  have q0 : (0 : Int) ≤ (q : Int) := by omega
  have q1 : (q : Int) < 8 := by omega
  have q2 : ¬ (7 : Int) < (q : Int) := by omega
  have q3 : ¬ (q : Int) < 0 := by omega
  have HP := hide hP
  have HX := hide hX
  have HCW := hide hCW
  have HR := hide hR
  have HWI := hide hWI
  have HVL := hide hVL
  have HBI := hide hBI
  have HNU := hide hNU
  clear hP hX hCW hR hWI hVL hBI hNU hset hr hf hk hw0 hvn hb eW
  unfold wldV worldV beingV
  go_enter Try.func45, Try.ntmps45
  go_wp2_with (first
    | (go_at_call 35; refine (unhide HP _ (unhide HCW).bel).mono ?_; rintro e w5 ⟨rfl, hb5⟩; have hC5 := (unhide HCW).below hb5; have hC6 := hC5.below ((Below.refl _ _).alloc (Nat.le_refl _) (.cells #[.int .i64 0, .int .i64 wa] 43)); have r0 := hC6.r0; have r1 := hC6.r1; have s0 := hC6.s0; have s1 := hC6.s1; have HC6 := hide hC6; clear hb5 hC5 hC6)
    | (go_at_call 49; refine (unhide HR _ ((unhide HX).below (unhide HC6).bel)).mono ?_; rintro e w7 ⟨b7, o7, rfl, hrw, hb7⟩; have hC7 := (unhide HC6).below hb7; clear r0 r1 s0 s1; have c0 := hrw.c0; have c1 := hrw.c1; have c2 := hrw.c2; have c3 := hrw.v 0 (by omega); have c4 := hrw.v 1 (by omega); have c5 := hrw.v 2 (by omega); have c6 := hrw.v 3 (by omega); have c7 := hrw.v 4 (by omega); have c8 := hrw.v 5 (by omega); have c9 := hrw.v 6 (by omega); have c10 := hrw.v 7 (by omega); simp only [Nat.add_assoc, Nat.reduceAdd] at c3 c4 c5 c6 c7 c8 c9 c10; have HC7 := hide hC7; clear hb7 hC7 hrw)
    | (go_at_call 19; refine (unhide HVL _).mono ?_; rintro e w8 ⟨rfl, hw8⟩; obtain rfl := hw8.symm)
    | (go_at_call 22; refine (unhide HBI _).mono ?_; rintro e w9 ⟨rfl, hb9, hz9⟩; have HY9 := hide ((YB.new (unhide HC7) x).below hb9); clear hb9 hz9 c0 c1 c2 c3 c4 c5 c6 c7 c8 c9 c10)
    | (go_at_call 28; rw [set8 x.has true q hq 0 (by decide), set8 x.has true q hq 1 (by decide), set8 x.has true q hq 2 (by decide), set8 x.has true q hq 3 (by decide), set8 x.has true q hq 4 (by decide), set8 x.has true q hq 5 (by decide), set8 x.has true q hq 6 (by decide), set8 x.has true q hq 7 (by decide)]; refine (unhide HNU _).mono ?_; rintro e w12 ⟨rfl, hw12⟩; have HY12 : Hid (YB w (.slice A X.rows.length cap) (.slice G X.gens.length gcap) i g w7.heap.size x w12) := hide (by rw [hw12]; exact ((unhide HY9).below (bel1 _ _)).below (bel1 _ _)); clear hw12 HY9)
    | (refine wpList_put1 rfl 3 (.tmp 52) (.tmp 50) rfl w7.heap.size 2 (.int .i64 hs) rfl rfl rfl size3 (there_of (unhide HY12).row.c2 (unhide HY12).fr) ?_; intro W13 hW13; have hY13 := (unhide HY12).setHas hs; rw [← hW13] at hY13; have HY13 := hide hY13; clear hW13 hY13 HY12)
    | (refine wpList_put1 rfl 3 (.tmp 54) (.tmp 51) rfl w7.heap.size (3 + q) (.int .i64 n) rfl rfl rfl size3 (by have := there_of ((unhide HY13).row.v q hq) (unhide HY13).fr; rwa [Nat.zero_add] at this) ?_; intro W14 hW14; have hY14 := (unhide HY13).setV q hq n; rw [← hW14] at hY14; obtain ⟨p0, p1, p2, p3, p4, p5, p6, p7, p8, p9, p10⟩ := rowAt0 (by have := hY14.row; rw [← unhide HE] at this; exact this); have r0 := hY14.r0; have r1 := hY14.r1; have HC14 := hide hY14.toCW; clear hW14 hY14 HY13)
    | (go_at_call 86; refine (unhide HWI _ ((unhide HX).below (unhide HC14).bel)).mono ?_; rintro e w15 ⟨A5, c5, rfl, ho5, hb15⟩; have HC15 := hide ((unhide HC14).below hb15); have HO5 := hide (own_le ho5 (unhide HC14).sz); clear ho5 hb15 r0 r1 p0 p1 p2 p3 p4 p5 p6 p7 p8 p9 p10 HC14)
    | (refine wpList_putN rfl 38 (.tmp 8) (.tmp 57) rfl (w.heap.size + 2) 0 [.slice A5 rows'.length c5, .slice G X.gens.length gcap] rfl rfl (by simp [Value.oneCell']) size38 (unhide HC15).there ?_; intro W3 hW3; have hC8 := (unhide HC15).give (.slice A5 rows'.length c5) (.slice G X.gens.length gcap); have ho8 := own_setsBelow (b := w.heap.size + 2) (by omega) [.slice A5 rows'.length c5, .slice G X.gens.length gcap] 0 _ (unhide HO5); rw [← hW3] at hC8 ho8; have HC8 := hide hC8; have HO8 := hide ho8; clear hW3 hC8 ho8))
  have t0 := (unhide HC8).t0
  have t1 := (unhide HC8).t1
  refine bodyPost_ret (v := .tuple #[.agg #[.slice A5 rows'.length c5, .slice G X.gens.length gcap], .int .i64 0]) (by simp [results, Try.results45, go_sem, t0, t1]) rfl ⟨A5, c5, G, gcap, rfl, ⟨⟨own_rows (unhide HO8), ((unhide HX).below (unhide HC8).bel).gens⟩, own_fresh (unhide HO8) (by omega), .inl rfl⟩, (unhide HC8).bel⟩

set_option maxRecDepth 8000 in
set_option maxHeartbeats 4000000 in
theorem rdrop_yes (A : Option Addr) (cap : Nat) (G : Option Addr) (gcap : Nat) (X : Wd) (i g : Int) (q : Nat) (hq : q < 8) (w : World) (hX : WldAt w A cap G gcap X) (hw0 : (wrongW X).1 = 0) {k : Nat} (hk : k < X.rows.length) (hf : findW X i g = (k : Int)) (hhs : hasB (rowOf X k).has (q : Int) = true) :
    Calls Try.prog 47 #[wldV A cap G gcap X, beingV i g, .int .i64 (q : Int)] w fun e w' => ∃ A' c' G' gc', e = .returned (.tuple #[wldV A' c' G' gc' ⟨X.rows.set k (dropR (rowOf X k) (q : Int)), X.gens⟩, .int .i64 0]) ∧ WldDoc w.heap.size w' G A' c' G' gc' ⟨X.rows.set k (dropR (rowOf X k) (q : Int)), X.gens⟩ ∧ Below w.heap.size w w' := by
  obtain ⟨hl, hgl, _⟩ := right_hr hw0
  have hr := (right_iff X).1 hw0
  have hCW := CW.start w (.slice A X.rows.length cap) (.slice G X.gens.length gcap) i g
  have hP := fun W (hb : Below w.heap.size w W) => rpwrong_any A X.rows.length cap G X.gens.length gcap (fun j => X.rows.getD j dR) (fun j => X.gens.getD j 0) W (by omega) (hX.rows.below hb) (hX.gens.below hb)
  have eW : plainF (fun j => X.rows.getD j dR) X.rows.length X.gens.length (fun j => X.gens.getD j 0) = wrongW X := rfl
  rw [eW] at hP
  unfold faultP worldV at hP
  rw [hw0] at hP
  have hR := fun W (h : WldAt W A cap G gcap X) => row_some hf hl A cap G gcap W h
  have hset := with_set hr hk (dropR (rowOf X k) (q : Int)) rfl
  have hWI := fun W (h : WldAt W A cap G gcap X) => rwith_any A cap G gcap X (dropR (rowOf X k) (q : Int)) W (by omega) h
  rw [hset] at hWI
  obtain ⟨hb, _⟩ := rv_parts (hr.rv k hk)
  unfold wldV worldV rowV at hWI
  generalize (wrongW X).2 = wa at *
  generalize rowOf X k = x at *
  have hVL := fun W => rhas_any x.has (q : Int) W hb.1 hb.2
  rw [hhs] at hVL
  generalize X.rows.set k (dropR x (q : Int)) = rows' at *
  have hBI := fun W => bits_bel x.has W hb.1 hb.2
  have hnum : numL [(if q = 0 then false else tb x.has 0), (if q = 1 then false else tb x.has 1), (if q = 2 then false else tb x.has 2), (if q = 3 then false else tb x.has 3), (if q = 4 then false else tb x.has 4), (if q = 5 then false else tb x.has 5), (if q = 6 then false else tb x.has 6), (if q = 7 then false else tb x.has 7)] = bits .andNot .i64 x.has (bitI (q : Int)) := by
    obtain ⟨m, hm⟩ := fin_of x.has hb.1 hb.2
    have := num_not_fin m ⟨q, hq⟩
    rw [hm, ← this]
    congr 1
    simp only [List.cons.injEq, and_true]
    refine ⟨?_, ?_, ?_, ?_, ?_, ?_, ?_, ?_⟩ <;> (split <;> simp_all)
  have hNU := fun W => num_any (if q = 0 then false else tb x.has 0) (if q = 1 then false else tb x.has 1) (if q = 2 then false else tb x.has 2) (if q = 3 then false else tb x.has 3) (if q = 4 then false else tb x.has 4) (if q = 5 then false else tb x.has 5) (if q = 6 then false else tb x.has 6) (if q = 7 then false else tb x.has 7) W
  rw [hnum] at hNU
  have ez : dropR x (q : Int) = ⟨x.ix, x.gen, bits .andNot .i64 x.has (bitI (q : Int)), fun j => if j = q then 0 else x.v j⟩ := rfl
  generalize dropR x (q : Int) = z at *
  have HE := hide ez
  clear ez hnum
  generalize bits .andNot .i64 x.has (bitI (q : Int)) = hs at *
  have q0 : (0 : Int) ≤ (q : Int) := by omega
  have q1 : (q : Int) < 8 := by omega
  have q2 : ¬ (7 : Int) < (q : Int) := by omega
  have q3 : ¬ (q : Int) < 0 := by omega
  have HP := hide hP
  have HX := hide hX
  have HCW := hide hCW
  have HR := hide hR
  have HWI := hide hWI
  have HVL := hide hVL
  have HBI := hide hBI
  have HNU := hide hNU
  clear hP hX hCW hR hWI hVL hBI hNU hset hr hf hk hw0 hhs hb eW
  unfold wldV worldV beingV
  go_enter Try.func47, Try.ntmps47
  go_wp2_with (first
    | (go_at_call 35; refine (unhide HP _ (unhide HCW).bel).mono ?_; rintro e w5 ⟨rfl, hb5⟩; have hC5 := (unhide HCW).below hb5; have hC6 := hC5.below ((Below.refl _ _).alloc (Nat.le_refl _) (.cells #[.int .i64 0, .int .i64 wa] 43)); have r0 := hC6.r0; have r1 := hC6.r1; have s0 := hC6.s0; have s1 := hC6.s1; have HC6 := hide hC6; clear hb5 hC5 hC6)
    | (go_at_call 49; refine (unhide HR _ ((unhide HX).below (unhide HC6).bel)).mono ?_; rintro e w7 ⟨b7, o7, rfl, hrw, hb7⟩; have hC7 := (unhide HC6).below hb7; clear r0 r1 s0 s1; have c0 := hrw.c0; have c1 := hrw.c1; have c2 := hrw.c2; have c3 := hrw.v 0 (by omega); have c4 := hrw.v 1 (by omega); have c5 := hrw.v 2 (by omega); have c6 := hrw.v 3 (by omega); have c7 := hrw.v 4 (by omega); have c8 := hrw.v 5 (by omega); have c9 := hrw.v 6 (by omega); have c10 := hrw.v 7 (by omega); simp only [Nat.add_assoc, Nat.reduceAdd] at c3 c4 c5 c6 c7 c8 c9 c10; have HC7 := hide hC7; clear hb7 hC7 hrw)
    | (go_at_call 26; refine (unhide HVL _).mono ?_; rintro e w8 ⟨rfl, hb8⟩; replace c0 := keep_below hb8 c0; replace c1 := keep_below hb8 c1; replace c2 := keep_below hb8 c2; replace c3 := keep_below hb8 c3; replace c4 := keep_below hb8 c4; replace c5 := keep_below hb8 c5; replace c6 := keep_below hb8 c6; replace c7 := keep_below hb8 c7; replace c8 := keep_below hb8 c8; replace c9 := keep_below hb8 c9; replace c10 := keep_below hb8 c10; have HC8 := hide ((unhide HC7).below hb8); clear hb8 HC7)
    | (go_at_call 22; refine (unhide HBI _).mono ?_; rintro e w9 ⟨rfl, hb9, hz9⟩; have HY9 := hide ((YB.new (unhide HC8) x).below hb9); clear hb9 hz9 c0 c1 c2 c3 c4 c5 c6 c7 c8 c9 c10)
    | (go_at_call 28; rw [set8 x.has false q hq 0 (by decide), set8 x.has false q hq 1 (by decide), set8 x.has false q hq 2 (by decide), set8 x.has false q hq 3 (by decide), set8 x.has false q hq 4 (by decide), set8 x.has false q hq 5 (by decide), set8 x.has false q hq 6 (by decide), set8 x.has false q hq 7 (by decide)]; refine (unhide HNU _).mono ?_; rintro e w12 ⟨rfl, hw12⟩; have HY12 : Hid (YB w (.slice A X.rows.length cap) (.slice G X.gens.length gcap) i g w8.heap.size x w12) := hide (by rw [hw12]; exact ((unhide HY9).below (bel1 _ _)).below (bel1 _ _)); clear hw12 HY9)
    | (refine wpList_put1 rfl 3 (.tmp 46) (.tmp 45) rfl w8.heap.size 2 (.int .i64 hs) rfl rfl rfl size3 (there_of (unhide HY12).row.c2 (unhide HY12).fr) ?_; intro W13 hW13; have hY13 := (unhide HY12).setHas hs; rw [← hW13] at hY13; have HY13 := hide hY13; clear hW13 hY13 HY12)
    | (refine wpList_put1 rfl 3 (.tmp 48) (.const (.int .i64 0)) rfl w8.heap.size (3 + q) (.int .i64 0) rfl rfl rfl size3 (by have := there_of ((unhide HY13).row.v q hq) (unhide HY13).fr; rwa [Nat.zero_add] at this) ?_; intro W14 hW14; have hY14 := (unhide HY13).setV q hq 0; rw [← hW14] at hY14; obtain ⟨p0, p1, p2, p3, p4, p5, p6, p7, p8, p9, p10⟩ := rowAt0 (by have := hY14.row; rw [← unhide HE] at this; exact this); have r0 := hY14.r0; have r1 := hY14.r1; have HC14 := hide hY14.toCW; clear hW14 hY14 HY13)
    | (go_at_call 86; refine (unhide HWI _ ((unhide HX).below (unhide HC14).bel)).mono ?_; rintro e w15 ⟨A5, c5, rfl, ho5, hb15⟩; have HC15 := hide ((unhide HC14).below hb15); have HO5 := hide (own_le ho5 (unhide HC14).sz); clear ho5 hb15 r0 r1 p0 p1 p2 p3 p4 p5 p6 p7 p8 p9 p10 HC14)
    | (refine wpList_putN rfl 38 (.tmp 6) (.tmp 51) rfl (w.heap.size + 2) 0 [.slice A5 rows'.length c5, .slice G X.gens.length gcap] rfl rfl (by simp [Value.oneCell']) size38 (unhide HC15).there ?_; intro W3 hW3; have hC9 := (unhide HC15).give (.slice A5 rows'.length c5) (.slice G X.gens.length gcap); have ho8 := own_setsBelow (b := w.heap.size + 2) (by omega) [.slice A5 rows'.length c5, .slice G X.gens.length gcap] 0 _ (unhide HO5); rw [← hW3] at hC9 ho8; have HC9 := hide hC9; have HO8 := hide ho8; clear hW3 hC9 ho8))
  have t0 := (unhide HC9).t0
  have t1 := (unhide HC9).t1
  refine bodyPost_ret (v := .tuple #[.agg #[.slice A5 rows'.length c5, .slice G X.gens.length gcap], .int .i64 0]) (by simp [results, Try.results47, go_sem, t0, t1]) rfl ⟨A5, c5, G, gcap, rfl, ⟨⟨own_rows (unhide HO8), ((unhide HX).below (unhide HC9).bel).gens⟩, own_fresh (unhide HO8) (by omega), .inl rfl⟩, (unhide HC9).bel⟩

set_option maxRecDepth 8000 in
set_option maxHeartbeats 4000000 in
theorem rput_none (A : Option Addr) (cap : Nat) (G : Option Addr) (gcap : Nat) (X : Wd) (i g p n : Int) (w : World) (hn0 : X.rows.length ≤ 9223372036854775807) (hX : WldAt w A cap G gcap X) (hw0 : (wrongW X).1 = 0) (hf : findW X i g = -1) :
    Calls Try.prog 45 #[wldV A cap G gcap X, beingV i g, .int .i64 p, .int .i64 n] w fun e w' => ∃ A' c' G' gc', e = .returned (.tuple #[wldV A' c' G' gc' emptyW, .int .i64 5]) ∧ WldDoc w.heap.size w' G A' c' G' gc' emptyW ∧ Below w.heap.size w w' := by
  have hCW := CW.start w (.slice A X.rows.length cap) (.slice G X.gens.length gcap) i g
  have hP := fun W (hb : Below w.heap.size w W) => rpwrong_any A X.rows.length cap G X.gens.length gcap (fun j => X.rows.getD j dR) (fun j => X.gens.getD j 0) W (by omega) (hX.rows.below hb) (hX.gens.below hb)
  have eW : plainF (fun j => X.rows.getD j dR) X.rows.length X.gens.length (fun j => X.gens.getD j 0) = wrongW X := rfl
  rw [eW] at hP
  unfold faultP worldV at hP
  obtain ⟨hl, hgl, _⟩ := right_hr hw0
  rw [hw0] at hP
  have hR := fun W (h : WldAt W A cap G gcap X) => row_none hf hl A cap G gcap W h
  generalize (wrongW X).2 = wa at *
  have HP := hide hP
  have HX := hide hX
  have HCW := hide hCW
  have HR := hide hR
  clear hR hf
  clear hP hX hCW eW hw0
  unfold wldV worldV beingV emptyW
  go_enter Try.func45, Try.ntmps45
  go_wp2_with (first
    | (go_at_call 35; refine (unhide HP _ (unhide HCW).bel).mono ?_; rintro e w5 ⟨rfl, hb5⟩; have hC5 := (unhide HCW).below hb5; have hC6 := hC5.below ((Below.refl _ _).alloc (Nat.le_refl _) (.cells #[.int .i64 0, .int .i64 wa] 43)); have r0 := hC6.r0; have r1 := hC6.r1; have s0 := hC6.s0; have s1 := hC6.s1; have HC6 := hide hC6; clear hb5 hC5 hC6)
    | (go_at_call 49; refine (unhide HR _ ((unhide HX).below (unhide HC6).bel)).mono ?_; rintro e w7 ⟨rfl, hb7⟩; have HC7 := hide ((unhide HC6).below hb7); clear hb7 r0 r1 s0 s1)
    | (refine wpList_putN rfl 38 (.tmp 8) (.tmp 27) rfl (w.heap.size + 2) 0 [.slice none 0 0, .slice none 0 0] rfl rfl (by simp [Value.oneCell']) size38 (unhide HC7).there ?_; intro W3 hW3; have hC8 := (unhide HC7).give (.slice none 0 0) (.slice none 0 0); rw [← hW3] at hC8; have HC8 := hide hC8; clear hW3 hC8))
  have t0 := (unhide HC8).t0
  have t1 := (unhide HC8).t1
  refine bodyPost_ret (v := .tuple #[.agg #[.slice none 0 0, .slice none 0 0], .int .i64 5]) (by simp [results, Try.results45, go_sem, t0, t1]) rfl ⟨none, 0, none, 0, rfl, wldDoc_empty _ _ _, (unhide HC8).bel⟩

set_option maxRecDepth 8000 in
set_option maxHeartbeats 4000000 in
theorem rdrop_none (A : Option Addr) (cap : Nat) (G : Option Addr) (gcap : Nat) (X : Wd) (i g p : Int) (w : World) (hn0 : X.rows.length ≤ 9223372036854775807) (hX : WldAt w A cap G gcap X) (hw0 : (wrongW X).1 = 0) (hf : findW X i g = -1) :
    Calls Try.prog 47 #[wldV A cap G gcap X, beingV i g, .int .i64 p] w fun e w' => ∃ A' c' G' gc', e = .returned (.tuple #[wldV A' c' G' gc' emptyW, .int .i64 5]) ∧ WldDoc w.heap.size w' G A' c' G' gc' emptyW ∧ Below w.heap.size w w' := by
  have hCW := CW.start w (.slice A X.rows.length cap) (.slice G X.gens.length gcap) i g
  have hP := fun W (hb : Below w.heap.size w W) => rpwrong_any A X.rows.length cap G X.gens.length gcap (fun j => X.rows.getD j dR) (fun j => X.gens.getD j 0) W (by omega) (hX.rows.below hb) (hX.gens.below hb)
  have eW : plainF (fun j => X.rows.getD j dR) X.rows.length X.gens.length (fun j => X.gens.getD j 0) = wrongW X := rfl
  rw [eW] at hP
  unfold faultP worldV at hP
  obtain ⟨hl, hgl, _⟩ := right_hr hw0
  rw [hw0] at hP
  have hR := fun W (h : WldAt W A cap G gcap X) => row_none hf hl A cap G gcap W h
  generalize (wrongW X).2 = wa at *
  have HP := hide hP
  have HX := hide hX
  have HCW := hide hCW
  have HR := hide hR
  clear hR hf
  clear hP hX hCW eW hw0
  unfold wldV worldV beingV emptyW
  go_enter Try.func47, Try.ntmps47
  go_wp2_with (first
    | (go_at_call 35; refine (unhide HP _ (unhide HCW).bel).mono ?_; rintro e w5 ⟨rfl, hb5⟩; have hC5 := (unhide HCW).below hb5; have hC6 := hC5.below ((Below.refl _ _).alloc (Nat.le_refl _) (.cells #[.int .i64 0, .int .i64 wa] 43)); have r0 := hC6.r0; have r1 := hC6.r1; have s0 := hC6.s0; have s1 := hC6.s1; have HC6 := hide hC6; clear hb5 hC5 hC6)
    | (go_at_call 49; refine (unhide HR _ ((unhide HX).below (unhide HC6).bel)).mono ?_; rintro e w7 ⟨rfl, hb7⟩; have HC7 := hide ((unhide HC6).below hb7); clear hb7 r0 r1 s0 s1)
    | (refine wpList_putN rfl 38 (.tmp 6) (.tmp 34) rfl (w.heap.size + 2) 0 [.slice none 0 0, .slice none 0 0] rfl rfl (by simp [Value.oneCell']) size38 (unhide HC7).there ?_; intro W3 hW3; have hC8 := (unhide HC7).give (.slice none 0 0) (.slice none 0 0); rw [← hW3] at hC8; have HC8 := hide hC8; clear hW3 hC8))
  have t0 := (unhide HC8).t0
  have t1 := (unhide HC8).t1
  refine bodyPost_ret (v := .tuple #[.agg #[.slice none 0 0, .slice none 0 0], .int .i64 5]) (by simp [results, Try.results47, go_sem, t0, t1]) rfl ⟨none, 0, none, 0, rfl, wldDoc_empty _ _ _, (unhide HC8).bel⟩

set_option maxRecDepth 8000 in
set_option maxHeartbeats 4000000 in
theorem rput_lo (A : Option Addr) (cap : Nat) (G : Option Addr) (gcap : Nat) (X : Wd) (i g p n : Int) (w : World) (hn0 : X.rows.length ≤ 9223372036854775807) (hX : WldAt w A cap G gcap X) (hw0 : (wrongW X).1 = 0) {k : Nat} (hf : findW X i g = (k : Int)) (hp : p < 0) :
    Calls Try.prog 45 #[wldV A cap G gcap X, beingV i g, .int .i64 p, .int .i64 n] w fun e w' => ∃ A' c' G' gc', e = .returned (.tuple #[wldV A' c' G' gc' emptyW, .int .i64 3]) ∧ WldDoc w.heap.size w' G A' c' G' gc' emptyW ∧ Below w.heap.size w w' := by
  have hCW := CW.start w (.slice A X.rows.length cap) (.slice G X.gens.length gcap) i g
  have hP := fun W (hb : Below w.heap.size w W) => rpwrong_any A X.rows.length cap G X.gens.length gcap (fun j => X.rows.getD j dR) (fun j => X.gens.getD j 0) W (by omega) (hX.rows.below hb) (hX.gens.below hb)
  have eW : plainF (fun j => X.rows.getD j dR) X.rows.length X.gens.length (fun j => X.gens.getD j 0) = wrongW X := rfl
  rw [eW] at hP
  unfold faultP worldV at hP
  obtain ⟨hl, hgl, _⟩ := right_hr hw0
  rw [hw0] at hP
  have hR := fun W (h : WldAt W A cap G gcap X) => row_some hf hl A cap G gcap W h
  generalize (wrongW X).2 = wa at *
  have HP := hide hP
  have HX := hide hX
  have HCW := hide hCW
  have HR := hide hR
  clear hR hf
  clear hP hX hCW eW hw0
  unfold wldV worldV beingV emptyW
  go_enter Try.func45, Try.ntmps45
  go_wp2_with (first
    | (go_at_call 35; refine (unhide HP _ (unhide HCW).bel).mono ?_; rintro e w5 ⟨rfl, hb5⟩; have hC5 := (unhide HCW).below hb5; have hC6 := hC5.below ((Below.refl _ _).alloc (Nat.le_refl _) (.cells #[.int .i64 0, .int .i64 wa] 43)); have r0 := hC6.r0; have r1 := hC6.r1; have s0 := hC6.s0; have s1 := hC6.s1; have HC6 := hide hC6; clear hb5 hC5 hC6)
    | (go_at_call 49; refine (unhide HR _ ((unhide HX).below (unhide HC6).bel)).mono ?_; rintro e w7 ⟨b7, o7, rfl, hrw, hb7⟩; have c2 := hrw.c2; have HC7 := hide ((unhide HC6).below hb7); clear hb7 hrw r0 r1 s0 s1)
    | (refine wpList_putN rfl 38 (.tmp 8) (.tmp 39) rfl (w.heap.size + 2) 0 [.slice none 0 0, .slice none 0 0] rfl rfl (by simp [Value.oneCell']) size38 (unhide HC7).there ?_; intro W3 hW3; have hC8 := (unhide HC7).give (.slice none 0 0) (.slice none 0 0); rw [← hW3] at hC8; have HC8 := hide hC8; clear hW3 hC8))
  have t0 := (unhide HC8).t0
  have t1 := (unhide HC8).t1
  refine bodyPost_ret (v := .tuple #[.agg #[.slice none 0 0, .slice none 0 0], .int .i64 3]) (by simp [results, Try.results45, go_sem, t0, t1]) rfl ⟨none, 0, none, 0, rfl, wldDoc_empty _ _ _, (unhide HC8).bel⟩

set_option maxRecDepth 8000 in
set_option maxHeartbeats 4000000 in
theorem rput_hi (A : Option Addr) (cap : Nat) (G : Option Addr) (gcap : Nat) (X : Wd) (i g p n : Int) (w : World) (hn0 : X.rows.length ≤ 9223372036854775807) (hX : WldAt w A cap G gcap X) (hw0 : (wrongW X).1 = 0) {k : Nat} (hf : findW X i g = (k : Int)) (hp0 : ¬ p < 0) (hp : 7 < p) :
    Calls Try.prog 45 #[wldV A cap G gcap X, beingV i g, .int .i64 p, .int .i64 n] w fun e w' => ∃ A' c' G' gc', e = .returned (.tuple #[wldV A' c' G' gc' emptyW, .int .i64 3]) ∧ WldDoc w.heap.size w' G A' c' G' gc' emptyW ∧ Below w.heap.size w w' := by
  have hCW := CW.start w (.slice A X.rows.length cap) (.slice G X.gens.length gcap) i g
  have hP := fun W (hb : Below w.heap.size w W) => rpwrong_any A X.rows.length cap G X.gens.length gcap (fun j => X.rows.getD j dR) (fun j => X.gens.getD j 0) W (by omega) (hX.rows.below hb) (hX.gens.below hb)
  have eW : plainF (fun j => X.rows.getD j dR) X.rows.length X.gens.length (fun j => X.gens.getD j 0) = wrongW X := rfl
  rw [eW] at hP
  unfold faultP worldV at hP
  obtain ⟨hl, hgl, _⟩ := right_hr hw0
  rw [hw0] at hP
  have hR := fun W (h : WldAt W A cap G gcap X) => row_some hf hl A cap G gcap W h
  generalize (wrongW X).2 = wa at *
  have HP := hide hP
  have HX := hide hX
  have HCW := hide hCW
  have HR := hide hR
  clear hR hf
  clear hP hX hCW eW hw0
  unfold wldV worldV beingV emptyW
  go_enter Try.func45, Try.ntmps45
  go_wp2_with (first
    | (go_at_call 35; refine (unhide HP _ (unhide HCW).bel).mono ?_; rintro e w5 ⟨rfl, hb5⟩; have hC5 := (unhide HCW).below hb5; have hC6 := hC5.below ((Below.refl _ _).alloc (Nat.le_refl _) (.cells #[.int .i64 0, .int .i64 wa] 43)); have r0 := hC6.r0; have r1 := hC6.r1; have s0 := hC6.s0; have s1 := hC6.s1; have HC6 := hide hC6; clear hb5 hC5 hC6)
    | (go_at_call 49; refine (unhide HR _ ((unhide HX).below (unhide HC6).bel)).mono ?_; rintro e w7 ⟨b7, o7, rfl, hrw, hb7⟩; have c2 := hrw.c2; have HC7 := hide ((unhide HC6).below hb7); clear hb7 hrw r0 r1 s0 s1)
    | (refine wpList_putN rfl 38 (.tmp 8) (.tmp 39) rfl (w.heap.size + 2) 0 [.slice none 0 0, .slice none 0 0] rfl rfl (by simp [Value.oneCell']) size38 (unhide HC7).there ?_; intro W3 hW3; have hC8 := (unhide HC7).give (.slice none 0 0) (.slice none 0 0); rw [← hW3] at hC8; have HC8 := hide hC8; clear hW3 hC8))
  have t0 := (unhide HC8).t0
  have t1 := (unhide HC8).t1
  refine bodyPost_ret (v := .tuple #[.agg #[.slice none 0 0, .slice none 0 0], .int .i64 3]) (by simp [results, Try.results45, go_sem, t0, t1]) rfl ⟨none, 0, none, 0, rfl, wldDoc_empty _ _ _, (unhide HC8).bel⟩

set_option maxRecDepth 8000 in
set_option maxHeartbeats 4000000 in
theorem rput_val (A : Option Addr) (cap : Nat) (G : Option Addr) (gcap : Nat) (X : Wd) (i g p n : Int) (w : World) (hn0 : X.rows.length ≤ 9223372036854775807) (hX : WldAt w A cap G gcap X) (hw0 : (wrongW X).1 = 0) {k : Nat} (hf : findW X i g = (k : Int)) (hp0 : ¬ p < 0) (hp : ¬ 7 < p) (hv : valB n = false) :
    Calls Try.prog 45 #[wldV A cap G gcap X, beingV i g, .int .i64 p, .int .i64 n] w fun e w' => ∃ A' c' G' gc', e = .returned (.tuple #[wldV A' c' G' gc' emptyW, .int .i64 3]) ∧ WldDoc w.heap.size w' G A' c' G' gc' emptyW ∧ Below w.heap.size w w' := by
  have hCW := CW.start w (.slice A X.rows.length cap) (.slice G X.gens.length gcap) i g
  have hP := fun W (hb : Below w.heap.size w W) => rpwrong_any A X.rows.length cap G X.gens.length gcap (fun j => X.rows.getD j dR) (fun j => X.gens.getD j 0) W (by omega) (hX.rows.below hb) (hX.gens.below hb)
  have eW : plainF (fun j => X.rows.getD j dR) X.rows.length X.gens.length (fun j => X.gens.getD j 0) = wrongW X := rfl
  rw [eW] at hP
  unfold faultP worldV at hP
  obtain ⟨hl, hgl, _⟩ := right_hr hw0
  rw [hw0] at hP
  have hR := fun W (h : WldAt W A cap G gcap X) => row_some hf hl A cap G gcap W h
  have hVL := rvalue_any n
  rw [hv] at hVL
  generalize (wrongW X).2 = wa at *
  have HP := hide hP
  have HX := hide hX
  have HCW := hide hCW
  have HR := hide hR
  have HVL := hide hVL
  clear hVL hv
  clear hR hf
  clear hP hX hCW eW hw0
  unfold wldV worldV beingV emptyW
  go_enter Try.func45, Try.ntmps45
  go_wp2_with (first
    | (go_at_call 35; refine (unhide HP _ (unhide HCW).bel).mono ?_; rintro e w5 ⟨rfl, hb5⟩; have hC5 := (unhide HCW).below hb5; have hC6 := hC5.below ((Below.refl _ _).alloc (Nat.le_refl _) (.cells #[.int .i64 0, .int .i64 wa] 43)); have r0 := hC6.r0; have r1 := hC6.r1; have s0 := hC6.s0; have s1 := hC6.s1; have HC6 := hide hC6; clear hb5 hC5 hC6)
    | (go_at_call 49; refine (unhide HR _ ((unhide HX).below (unhide HC6).bel)).mono ?_; rintro e w7 ⟨b7, o7, rfl, hrw, hb7⟩; have c2 := hrw.c2; have HC7 := hide ((unhide HC6).below hb7); clear hb7 hrw r0 r1 s0 s1)
    | (go_at_call 19; refine (unhide HVL _).mono ?_; rintro e w8 ⟨rfl, hw8⟩; obtain rfl := hw8.symm)
    | (refine wpList_putN rfl 38 (.tmp 8) (.tmp 39) rfl (w.heap.size + 2) 0 [.slice none 0 0, .slice none 0 0] rfl rfl (by simp [Value.oneCell']) size38 (unhide HC7).there ?_; intro W3 hW3; have hC8 := (unhide HC7).give (.slice none 0 0) (.slice none 0 0); rw [← hW3] at hC8; have HC8 := hide hC8; clear hW3 hC8))
  have t0 := (unhide HC8).t0
  have t1 := (unhide HC8).t1
  refine bodyPost_ret (v := .tuple #[.agg #[.slice none 0 0, .slice none 0 0], .int .i64 3]) (by simp [results, Try.results45, go_sem, t0, t1]) rfl ⟨none, 0, none, 0, rfl, wldDoc_empty _ _ _, (unhide HC8).bel⟩

set_option maxRecDepth 8000 in
set_option maxHeartbeats 4000000 in
theorem rdrop_no (A : Option Addr) (cap : Nat) (G : Option Addr) (gcap : Nat) (X : Wd) (i g p : Int) (w : World) (hn0 : X.rows.length ≤ 9223372036854775807) (hX : WldAt w A cap G gcap X) (hw0 : (wrongW X).1 = 0) {k : Nat} (hk : k < X.rows.length) (hf : findW X i g = (k : Int)) (hh : hasB (rowOf X k).has p = false) :
    Calls Try.prog 47 #[wldV A cap G gcap X, beingV i g, .int .i64 p] w fun e w' => ∃ A' c' G' gc', e = .returned (.tuple #[wldV A' c' G' gc' emptyW, .int .i64 5]) ∧ WldDoc w.heap.size w' G A' c' G' gc' emptyW ∧ Below w.heap.size w w' := by
  have hCW := CW.start w (.slice A X.rows.length cap) (.slice G X.gens.length gcap) i g
  have hP := fun W (hb : Below w.heap.size w W) => rpwrong_any A X.rows.length cap G X.gens.length gcap (fun j => X.rows.getD j dR) (fun j => X.gens.getD j 0) W (by omega) (hX.rows.below hb) (hX.gens.below hb)
  have eW : plainF (fun j => X.rows.getD j dR) X.rows.length X.gens.length (fun j => X.gens.getD j 0) = wrongW X := rfl
  rw [eW] at hP
  unfold faultP worldV at hP
  obtain ⟨hl, hgl, _⟩ := right_hr hw0
  rw [hw0] at hP
  have hR := fun W (h : WldAt W A cap G gcap X) => row_some hf hl A cap G gcap W h
  obtain ⟨hb, _⟩ := rv_parts (((right_iff X).1 hw0).rv k hk)
  have hHS := fun W => rhas_any (rowOf X k).has p W hb.1 hb.2
  rw [hh] at hHS
  generalize rowOf X k = x at *
  generalize (wrongW X).2 = wa at *
  have HP := hide hP
  have HX := hide hX
  have HCW := hide hCW
  have HR := hide hR
  have HHS := hide hHS
  clear hHS hh hb hk
  clear hR hf
  clear hP hX hCW eW hw0
  unfold wldV worldV beingV emptyW
  go_enter Try.func47, Try.ntmps47
  go_wp2_with (first
    | (go_at_call 35; refine (unhide HP _ (unhide HCW).bel).mono ?_; rintro e w5 ⟨rfl, hb5⟩; have hC5 := (unhide HCW).below hb5; have hC6 := hC5.below ((Below.refl _ _).alloc (Nat.le_refl _) (.cells #[.int .i64 0, .int .i64 wa] 43)); have r0 := hC6.r0; have r1 := hC6.r1; have s0 := hC6.s0; have s1 := hC6.s1; have HC6 := hide hC6; clear hb5 hC5 hC6)
    | (go_at_call 49; refine (unhide HR _ ((unhide HX).below (unhide HC6).bel)).mono ?_; rintro e w7 ⟨b7, o7, rfl, hrw, hb7⟩; have c2 := hrw.c2; have HC7 := hide ((unhide HC6).below hb7); clear hb7 hrw r0 r1 s0 s1)
    | (go_at_call 26; refine (unhide HHS _).mono ?_; rintro e w8 ⟨rfl, hb8⟩; have HC8 := hide ((unhide HC7).below hb8); clear hb8)
    | (refine wpList_putN rfl 38 (.tmp 6) (.tmp 34) rfl (w.heap.size + 2) 0 [.slice none 0 0, .slice none 0 0] rfl rfl (by simp [Value.oneCell']) size38 (unhide HC8).there ?_; intro W3 hW3; have hC8 := (unhide HC8).give (.slice none 0 0) (.slice none 0 0); rw [← hW3] at hC8; have HC9 := hide hC8; clear hW3 hC8))
  have t0 := (unhide HC9).t0
  have t1 := (unhide HC9).t1
  refine bodyPost_ret (v := .tuple #[.agg #[.slice none 0 0, .slice none 0 0], .int .i64 5]) (by simp [results, Try.results47, go_sem, t0, t1]) rfl ⟨none, 0, none, 0, rfl, wldDoc_empty _ _ _, (unhide HC9).bel⟩

set_option maxRecDepth 8000 in
set_option maxHeartbeats 4000000 in
theorem rput_wrong (A : Option Addr) (cap : Nat) (G : Option Addr) (gcap : Nat) (X : Wd) (i g p n : Int) (w : World) (hn0 : X.rows.length ≤ 9223372036854775807) (hX : WldAt w A cap G gcap X) (hw0 : (wrongW X).1 ≠ 0) :
    Calls Try.prog 45 #[wldV A cap G gcap X, beingV i g, .int .i64 p, .int .i64 n] w fun e w' => ∃ A' c' G' gc', e = .returned (.tuple #[wldV A' c' G' gc' emptyW, .int .i64 (wrongW X).1]) ∧ WldDoc w.heap.size w' G A' c' G' gc' emptyW ∧ Below w.heap.size w w' := by
  have hCW := CW.start w (.slice A X.rows.length cap) (.slice G X.gens.length gcap) i g
  have hP := fun W (hb : Below w.heap.size w W) => rpwrong_any A X.rows.length cap G X.gens.length gcap (fun j => X.rows.getD j dR) (fun j => X.gens.getD j 0) W (by omega) (hX.rows.below hb) (hX.gens.below hb)
  have eW : plainF (fun j => X.rows.getD j dR) X.rows.length X.gens.length (fun j => X.gens.getD j 0) = wrongW X := rfl
  rw [eW] at hP
  unfold faultP worldV at hP
  generalize (wrongW X).2 = wa at *
  generalize (wrongW X).1 = we at *
  have HP := hide hP
  have HX := hide hX
  have HCW := hide hCW
  clear hP hX hCW eW
  unfold wldV worldV beingV emptyW
  go_enter Try.func45, Try.ntmps45
  go_wp2_with (first
    | (go_at_call 35; refine (unhide HP _ (unhide HCW).bel).mono ?_; rintro e w5 ⟨rfl, hb5⟩; have hC5 := (unhide HCW).below hb5; have hz : w.heap.size + 1 + 1 < w5.heap.size := hC5.sz; have t0 : w5.cell? ⟨w.heap.size + 1 + 1, 0, none⟩ = some (.slice none 0 0) := hC5.t0; have t1 : w5.cell? ⟨w.heap.size + 1 + 1, 1, none⟩ = some (.slice none 0 0) := hC5.t1; have f0 : w5.frozen? ⟨w.heap.size + 1 + 1, 0, none⟩ = false := hC5.f 0; have f1 : w5.frozen? ⟨w.heap.size + 1 + 1, 1, none⟩ = false := hC5.f 1; have HC5 := hide hC5; clear hb5 hC5))
  go_region
  all_goals (try go_wp2)
  all_goals
    refine bodyPost_ret (v := .tuple #[.agg #[.slice none 0 0, .slice none 0 0], .int .i64 we]) (by simp [results, Try.results45, go_sem, t0, t1, hz]) rfl ⟨none, 0, none, 0, rfl, wldDoc_empty _ _ _, ?_⟩
    exact bel_drewN' ((((unhide HC5).bel.setCell (p := ⟨w.heap.size + 1 + 1, 0, none⟩) (by simp; omega) _).setCell (p := ⟨w.heap.size + 1 + 1, 1, none⟩) (by simp; omega) _).alloc (by simpa using (unhide HC5).bel.size) _) 1

set_option maxRecDepth 8000 in
set_option maxHeartbeats 4000000 in
theorem rdrop_wrong (A : Option Addr) (cap : Nat) (G : Option Addr) (gcap : Nat) (X : Wd) (i g p : Int) (w : World) (hn0 : X.rows.length ≤ 9223372036854775807) (hX : WldAt w A cap G gcap X) (hw0 : (wrongW X).1 ≠ 0) :
    Calls Try.prog 47 #[wldV A cap G gcap X, beingV i g, .int .i64 p] w fun e w' => ∃ A' c' G' gc', e = .returned (.tuple #[wldV A' c' G' gc' emptyW, .int .i64 (wrongW X).1]) ∧ WldDoc w.heap.size w' G A' c' G' gc' emptyW ∧ Below w.heap.size w w' := by
  have hCW := CW.start w (.slice A X.rows.length cap) (.slice G X.gens.length gcap) i g
  have hP := fun W (hb : Below w.heap.size w W) => rpwrong_any A X.rows.length cap G X.gens.length gcap (fun j => X.rows.getD j dR) (fun j => X.gens.getD j 0) W (by omega) (hX.rows.below hb) (hX.gens.below hb)
  have eW : plainF (fun j => X.rows.getD j dR) X.rows.length X.gens.length (fun j => X.gens.getD j 0) = wrongW X := rfl
  rw [eW] at hP
  unfold faultP worldV at hP
  generalize (wrongW X).2 = wa at *
  generalize (wrongW X).1 = we at *
  have HP := hide hP
  have HX := hide hX
  have HCW := hide hCW
  clear hP hX hCW eW
  unfold wldV worldV beingV emptyW
  go_enter Try.func47, Try.ntmps47
  go_wp2_with (first
    | (go_at_call 35; refine (unhide HP _ (unhide HCW).bel).mono ?_; rintro e w5 ⟨rfl, hb5⟩; have hC5 := (unhide HCW).below hb5; have hz : w.heap.size + 1 + 1 < w5.heap.size := hC5.sz; have t0 : w5.cell? ⟨w.heap.size + 1 + 1, 0, none⟩ = some (.slice none 0 0) := hC5.t0; have t1 : w5.cell? ⟨w.heap.size + 1 + 1, 1, none⟩ = some (.slice none 0 0) := hC5.t1; have f0 : w5.frozen? ⟨w.heap.size + 1 + 1, 0, none⟩ = false := hC5.f 0; have f1 : w5.frozen? ⟨w.heap.size + 1 + 1, 1, none⟩ = false := hC5.f 1; have HC5 := hide hC5; clear hb5 hC5))
  go_region
  all_goals (try go_wp2)
  all_goals
    refine bodyPost_ret (v := .tuple #[.agg #[.slice none 0 0, .slice none 0 0], .int .i64 we]) (by simp [results, Try.results47, go_sem, t0, t1, hz]) rfl ⟨none, 0, none, 0, rfl, wldDoc_empty _ _ _, ?_⟩
    exact bel_drewN' ((((unhide HC5).bel.setCell (p := ⟨w.heap.size + 1 + 1, 0, none⟩) (by simp; omega) _).setCell (p := ⟨w.heap.size + 1 + 1, 1, none⟩) (by simp; omega) _).alloc (by simpa using (unhide HC5).bel.size) _) 1

theorem rput_any (A : Option Addr) (cap : Nat) (G : Option Addr) (gcap : Nat) (X : Wd) (i g p n : Int) (w : World) (hn0 : X.rows.length ≤ 9223372036854775807) (hX : WldAt w A cap G gcap X) :
    Calls Try.prog 45 #[wldV A cap G gcap X, beingV i g, .int .i64 p, .int .i64 n] w fun e w' => ∃ A' c' G' gc', e = .returned (.tuple #[wldV A' c' G' gc' (putF X i g p n).2, .int .i64 (putF X i g p n).1]) ∧ WldDoc w.heap.size w' G A' c' G' gc' (putF X i g p n).2 ∧ Below w.heap.size w w' := by
  by_cases hw0 : (wrongW X).1 = 0
  · rcases find_cases X i g with hf | ⟨k, hk, hf, h1, h2⟩
    · have e : putF X i g p n = (5, emptyW) := by unfold putF chF; rw [if_neg (by simpa using hw0), hf, if_pos (by decide)]
      rw [e]
      exact rput_none A cap G gcap X i g p n w hn0 hX hw0 hf
    · have e0 : putF X i g p n = if (putC (rowOf X k) p n).2.2 ≠ 0 then ((putC (rowOf X k) p n).2.2, emptyW) else (0, ⟨X.rows.set k (putC (rowOf X k) p n).1, X.gens⟩) := by
        unfold putF chF
        rw [if_neg (by simpa using hw0), hf, if_neg (by omega), Int.toNat_natCast]
        rfl
      have no : (partB p && valB n) = false → putF X i g p n = (3, emptyW) := fun h => by rw [e0]; simp [putC, h]
      by_cases p0 : p < 0
      · rw [no (by simp [partB]; omega)]
        exact rput_lo A cap G gcap X i g p n w hn0 hX hw0 hf p0
      · by_cases p7 : 7 < p
        · rw [no (by simp [partB]; omega)]
          exact rput_hi A cap G gcap X i g p n w hn0 hX hw0 hf p0 p7
        · cases hv : valB n
          · rw [no (by simp [hv])]
            exact rput_val A cap G gcap X i g p n w hn0 hX hw0 hf p0 p7 hv
          · obtain ⟨q, rfl⟩ := Int.eq_ofNat_of_zero_le (show 0 ≤ p by omega)
            have hp : partB (q : Int) = true := by simp [partB]; omega
            rw [e0]
            simp only [putC, hp, hv, Bool.and_self, if_true, ne_eq, not_true_eq_false, if_false]
            exact rput_yes A cap G gcap X i g n q (by omega) w hX hw0 hk hf hv
  · have e : putF X i g p n = ((wrongW X).1, emptyW) := by unfold putF chF; rw [if_pos hw0]
    rw [e]
    exact rput_wrong A cap G gcap X i g p n w hn0 hX hw0
theorem hasI_hasB (h p : Int) (h0 : 0 ≤ h) (h1 : h ≤ 255) : hasI h p = hasB h p := by
  by_cases hp : 0 ≤ p ∧ p < 8
  · obtain ⟨m, rfl⟩ := Int.eq_ofNat_of_zero_le h0
    obtain ⟨q, rfl⟩ := Int.eq_ofNat_of_zero_le hp.1
    have key : ∀ m : Fin 256, ∀ q : Fin 8, hasI (m.val : Int) (q.val : Int) = hasB (m.val : Int) (q.val : Int) := by decide +kernel
    exact key ⟨m, by omega⟩ ⟨q, by omega⟩
  · have e1 : hasB h p = false := by unfold hasB; simp; omega
    rw [e1]
    cases e : hasI h p
    · rfl
    · obtain ⟨k, hk, rfl⟩ := has_part h p e
      omega
theorem rdrop_any (A : Option Addr) (cap : Nat) (G : Option Addr) (gcap : Nat) (X : Wd) (i g p : Int) (w : World) (hn0 : X.rows.length ≤ 9223372036854775807) (hX : WldAt w A cap G gcap X) :
    Calls Try.prog 47 #[wldV A cap G gcap X, beingV i g, .int .i64 p] w fun e w' => ∃ A' c' G' gc', e = .returned (.tuple #[wldV A' c' G' gc' (dropF X i g p).2, .int .i64 (dropF X i g p).1]) ∧ WldDoc w.heap.size w' G A' c' G' gc' (dropF X i g p).2 ∧ Below w.heap.size w w' := by
  by_cases hw0 : (wrongW X).1 = 0
  · rcases find_cases X i g with hf | ⟨k, hk, hf, h1, h2⟩
    · have e : dropF X i g p = (5, emptyW) := by unfold dropF chF; rw [if_neg (by simpa using hw0), hf, if_pos (by decide)]
      rw [e]
      exact rdrop_none A cap G gcap X i g p w hn0 hX hw0 hf
    · have e0 : dropF X i g p = if (dropC (rowOf X k) p).2.2 ≠ 0 then ((dropC (rowOf X k) p).2.2, emptyW) else (0, ⟨X.rows.set k (dropC (rowOf X k) p).1, X.gens⟩) := by
        unfold dropF chF
        rw [if_neg (by simpa using hw0), hf, if_neg (by omega), Int.toNat_natCast]
        rfl
      obtain ⟨hb, _⟩ := rv_parts (((right_iff X).1 hw0).rv k hk)
      have hs := hasI_hasB (rowOf X k).has p hb.1 hb.2
      cases hh : hasI (rowOf X k).has p
      · rw [hh] at hs
        have e : dropF X i g p = (5, emptyW) := by rw [e0]; simp [dropC, hh]
        rw [e]
        exact rdrop_no A cap G gcap X i g p w hn0 hX hw0 hk hf hs.symm
      · rw [hh] at hs
        obtain ⟨q, hq, rfl⟩ := has_part _ _ hh
        rw [e0]
        simp only [dropC, hh, if_true, ne_eq, not_true_eq_false, if_false]
        exact rdrop_yes A cap G gcap X i g q hq w hX hw0 hk hf hs.symm
  · have e : dropF X i g p = ((wrongW X).1, emptyW) := by unfold dropF chF; rw [if_pos hw0]
    rw [e]
    exact rdrop_wrong A cap G gcap X i g p w hn0 hX hw0
end Go.Proofs.Ytnbleebilmghcaa
