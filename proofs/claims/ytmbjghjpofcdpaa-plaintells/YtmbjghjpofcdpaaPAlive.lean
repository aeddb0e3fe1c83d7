/- The closed fact of chapter 2. -/
import Derived.Test.YtmbjghjpofcdpaaPMath2
set_option linter.unusedVariables false
set_option linter.unusedSimpArgs false
set_option linter.unnecessarySimpa false
namespace Go.Proofs.Ytmbjghjpofcdpaa
open Go Go.RowKit
attribute [local go_sem ↓] Go.wp_at_zero Go.wp_at_succ

theorem below_one (w1 : World) (o : Obj) {w2 : World} (h : Below (w1.alloc o).heap.size (w1.alloc o) w2) : Below w1.heap.size w1 w2 := by
  have h1 := (Below.refl w1.heap.size w1).alloc (Nat.le_refl _) o
  exact h1.trans (h.mono h1.size)
theorem below_two (w1 : World) (o p : Obj) {w2 : World} (h : Below ((w1.alloc o).alloc p).heap.size ((w1.alloc o).alloc p) w2) : Below w1.heap.size w1 w2 := below_one w1 o (below_one _ p h)
theorem box_one (w1 : World) (u0 u1 : Value) (s : TypeId) {w2 : World} (h : Below (w1.alloc (.cells #[u0, u1] s)).heap.size (w1.alloc (.cells #[u0, u1] s)) w2) :
    w2.cell? ⟨w1.heap.size, 0, none⟩ = some u0 ∧ w2.cell? ⟨w1.heap.size, 1, none⟩ = some u1 :=
  ⟨keep_below h (by simp [go_sem]), keep_below h (by simp [go_sem])⟩
theorem box_two (w1 : World) (u0 u1 v0 v1 : Value) (s t : TypeId) {w2 : World} (h : Below ((w1.alloc (.cells #[u0, u1] s)).alloc (.cells #[v0, v1] t)).heap.size ((w1.alloc (.cells #[u0, u1] s)).alloc (.cells #[v0, v1] t)) w2) :
    w2.cell? ⟨w1.heap.size, 0, none⟩ = some u0 ∧ w2.cell? ⟨w1.heap.size, 1, none⟩ = some u1 ∧ w2.cell? ⟨w1.heap.size + 1, 0, none⟩ = some v0 ∧ w2.cell? ⟨w1.heap.size + 1, 1, none⟩ = some v1 :=
  ⟨keep_below h (by simp [go_sem]), keep_below h (by simp [go_sem]), keep_below h (by simp [go_sem]), keep_below h (by simp [go_sem])⟩
theorem bel1 (w1 : World) (o : Obj) : Below w1.heap.size w1 (w1.alloc o) := (Below.refl _ _).alloc (Nat.le_refl _) o
theorem bel2 (w1 : World) (o p : Obj) : Below w1.heap.size w1 ((w1.alloc o).alloc p) := below_one w1 o (bel1 _ p)
theorem run_field (x y : Value) (w : World) : Sem.run Try.prog (Instr.field 43 (.agg #[x, y]) 0) w = .ok x w := by
  simp [Instr.field, asAgg, go_sem]
def alX : Wd := (spawnF emptyW 5 7).2.2
def alY : Wd := (killF alX 0 1).2
theorem al1 : (spawnF emptyW 5 7).1 = 0 ∧ (spawnF emptyW 5 7).2.1 = (0, 1) := by decide +kernel
theorem al2 : getI (fun j => alX.rows.getD j dR) alX.rows.length 0 1 2 = (7, true) := by decide +kernel
theorem al3 : (killF alX 0 1).1 = 0 := by decide +kernel
theorem al4 : (spawnF alY 0 0).1 = 0 ∧ (spawnF alY 0 0).2.1 = (0, 2) := by decide +kernel
theorem al5 : wrongW alX = (0, 0) := by decide +kernel
theorem al6 : alX.rows.length = 1 ∧ alX.gens.length = 1 ∧ alY.rows.length = 0 ∧ alY.gens.length = 1 := by decide +kernel

set_option maxRecDepth 8000 in
set_option maxHeartbeats 2000000 in
theorem alive2_any (w : World) : Calls Try.prog 53 #[] w fun e w' => e = .returned (.bool true) ∧ Below w.heap.size w w' := by
  have hS1 : ∀ W, Calls Try.prog 40 #[.agg #[.slice none 0 0, .slice none 0 0], .int .i64 5, .int .i64 7] W fun e w' => ∃ A c G gc, e = .returned (.tuple #[.agg #[.slice A 1 c, .slice G 1 gc], .agg #[.int .i64 0, .int .i64 1], .int .i64 0]) ∧ WldAt w' A c G gc alX ∧ Below W.heap.size W w' := fun W => by
    refine (spawn_any none 0 none 0 emptyW 5 7 W (by decide) (wldAt_empty W)).mono fun e w' ⟨A, c, G, gc, he, hX, hb⟩ => ⟨A, c, G, gc, ?_, hX.toWldAt, hb⟩
    rw [he, al1.1, al1.2]
    show Ending.returned (.tuple #[.agg #[.slice A alX.rows.length c, .slice G alX.gens.length gc], .agg #[.int .i64 0, .int .i64 1], .int .i64 0]) = _
    rw [al6.1, al6.2.1]
  have hG : ∀ W A c G gc, WldAt W A c G gc alX → Calls Try.prog 48 #[.agg #[.slice A 1 c, .slice G 1 gc], .agg #[.int .i64 0, .int .i64 1], .int .i64 2] W fun e w' => e = .returned (.tuple #[.int .i64 7, .bool true]) ∧ Below W.heap.size W w' := fun W A c G gc h => by
    have := get_any A alX.rows.length c G alX.gens.length gc (fun j => alX.rows.getD j dR) 0 1 2 W (by rw [al6.1]; decide) h.rows
    rw [al2, al6.1, al6.2.1] at this
    exact this
  have hK : ∀ W A c G gc, WldAt W A c G gc alX → Calls Try.prog 42 #[.agg #[.slice A 1 c, .slice G 1 gc], .agg #[.int .i64 0, .int .i64 1]] W fun e w' => ∃ A c G gc, e = .returned (.tuple #[.agg #[.slice A 0 c, .slice G 1 gc], .int .i64 0]) ∧ WldAt w' A c G gc alY ∧ Below W.heap.size W w' := fun W A c G gc h => by
    have := kill_any A c G gc alX 0 1 W (by rw [al6.1]; decide) h
    unfold wldV at this
    rw [al6.1, al6.2.1] at this
    refine this.mono fun e w' ⟨A, c, G, gc, he, hX, hb⟩ => ⟨A, c, G, gc, ?_, hX.toWldAt, hb⟩
    rw [he, al3]
    show Ending.returned (.tuple #[.agg #[.slice A alY.rows.length c, .slice G alY.gens.length gc], .int .i64 0]) = _
    rw [al6.2.2.1, al6.2.2.2]
  have hS2 : ∀ W A c G gc, WldAt W A c G gc alY → Calls Try.prog 40 #[.agg #[.slice A 0 c, .slice G 1 gc], .int .i64 0, .int .i64 0] W fun e w' => ∃ A n c G gn gc, e = .returned (.tuple #[.agg #[.slice A n c, .slice G gn gc], .agg #[.int .i64 0, .int .i64 2], .int .i64 0]) ∧ Below W.heap.size W w' := fun W A c G gc h => by
    have := spawn_any A c G gc alY 0 0 W (by rw [al6.2.2.1]; decide) h
    unfold wldV at this
    rw [al6.2.2.1, al6.2.2.2] at this
    refine this.mono fun e w' ⟨A, c, G, gc, he, hX, hb⟩ => ⟨A, (spawnF alY 0 0).2.2.rows.length, c, G, (spawnF alY 0 0).2.2.gens.length, gc, ?_, hb⟩
    rw [he, al4.1, al4.2]
    rfl
  have hW : ∀ W A c G gc, WldAt W A c G gc alX → Calls Try.prog 34 #[.agg #[.slice A 1 c, .slice G 1 gc]] W fun e w' => e = .returned (.agg #[.int .i64 0, .int .i64 0]) ∧ Below W.heap.size W w' := fun W A c G gc h => by
    have := pwrong_any A alX.rows.length c G alX.gens.length gc (fun j => alX.rows.getD j dR) (fun j => alX.gens.getD j 0) W (by rw [al6.1]; decide) h.rows h.gens
    have e : plainF (fun j => alX.rows.getD j dR) alX.rows.length alX.gens.length (fun j => alX.gens.getD j 0) = (0, 0) := al5
    rw [e, al6.1, al6.2.1] at this
    exact this
  have hfld := run_field
  have HS1 := hide (hS1 w)
  have HG := hide hG
  have HK := hide hK
  have HS2 := hide hS2
  have HW := hide hW
  clear hS1 hG hK hS2 hW
  go_enter Try.func53, Try.ntmps53
  go_wp2_with (first
    | (go_at_call 40; refine (unhide HS1).mono ?_; rintro e w1 ⟨A1, c1, G1, gc1, rfl, hX1, hb1⟩; have HX1 := hide hX1; have HB1 := hide hb1; clear hX1 hb1 HS1)
    | (go_at_call 48; refine (unhide HG _ _ _ _ _ ((unhide HX1).below (bel2 _ _ _))).mono ?_; rintro e w2 ⟨rfl, hb2⟩; obtain ⟨p0, p1, p2, p3⟩ := box_two _ _ _ _ _ _ _ hb2; have HX2 := hide ((unhide HX1).below (below_two _ _ _ hb2)); have HB2 := hide ((unhide HB1).trans ((below_two _ _ _ hb2).mono (unhide HB1).size)); clear hb2 HX1 HB1)
    | (go_at_call 42; refine (unhide HK _ _ _ _ _ (unhide HX2)).mono ?_; rintro e w3 ⟨A3, c3, G3, gc3, rfl, hY, hb3⟩; replace p0 := keep_below hb3 p0; replace p1 := keep_below hb3 p1; replace p2 := keep_below hb3 p2; replace p3 := keep_below hb3 p3; have HX3 := hide ((unhide HX2).below hb3); have HY := hide hY; have HB3 := hide ((unhide HB2).trans (hb3.mono (unhide HB2).size)); clear hb3 HX2 HB2 hY)
    | (go_at_call 40; refine (unhide HS2 _ _ _ _ _ ((unhide HY).below (bel1 _ _))).mono ?_; rintro e w4 ⟨A4, n4, c4, G4, gn4, gc4, rfl, hb4⟩; replace hb4 := below_one _ _ hb4; replace p0 := keep_below hb4 p0; replace p1 := keep_below hb4 p1; replace p2 := keep_below hb4 p2; replace p3 := keep_below hb4 p3; have HX4 := hide ((unhide HX3).below hb4); have HB4 := hide ((unhide HB3).trans (hb4.mono (unhide HB3).size)); have l0 := World.block_lt_of_cell? w4 _ p0; have l2 := World.block_lt_of_cell? w4 _ p2; clear hb4 HX3 HB3 HY)
    | (go_at_call 34; refine (unhide HW _ _ _ _ _ ((unhide HX4).below (bel2 _ _ _))).mono ?_; rintro e w5 ⟨rfl, hb5⟩; have HB5 := hide ((unhide HB4).trans ((below_two _ _ _ hb5).mono (unhide HB4).size)); clear hb5))
  go_ret
  exact ⟨rfl, unhide HB5⟩
end Go.Proofs.Ytmbjghjpofcdpaa
