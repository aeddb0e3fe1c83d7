/- plain.Put and plain.Drop, whatever the world. -/
import Derived.Test.YtmbjghjpofcdpaaPChange
set_option linter.unusedVariables false
set_option linter.unusedSimpArgs false
set_option linter.unnecessarySimpa false
namespace Go.Proofs.Ytmbjghjpofcdpaa
open Go Go.RowKit
attribute [local go_sem ↓] Go.wp_at_zero Go.wp_at_succ

def putF (X : Wd) (i g p n : Int) : Int × Wd := chF X i g (fun x => putC x p n)
def dropF (X : Wd) (i g p : Int) : Int × Wd := chF X i g (fun x => dropC x p)
theorem putC_ok (p n : Int) (x : RowI) : (putC x p n).2.1 = decide ((putC x p n).2.2 = 0) := by unfold putC; split <;> rfl
theorem dropC_ok (p : Int) (x : RowI) : (dropC x p).2.1 = decide ((dropC x p).2.2 = 0) := by unfold dropC; split <;> rfl

/-- A box at that place, made last. -/
theorem new_box {W : World} {u0 u1 : Value} {t : TypeId} {b : Nat} (hb : W.heap.size = b) : (W.alloc (.cells #[u0, u1] t)).cell? ⟨b, 0, none⟩ = some u0 ∧ (W.alloc (.cells #[u0, u1] t)).cell? ⟨b, 1, none⟩ = some u1 ∧ (∀ i, (W.alloc (.cells #[u0, u1] t)).frozen? ⟨b, i, none⟩ = false) ∧ Below W.heap.size W (W.alloc (.cells #[u0, u1] t)) := by
  subst hb
  exact ⟨by simp, by simp, fun i => by simp [go_sem], (Below.refl _ _).alloc (Nat.le_refl _) _⟩
/-- The answer's box. -/
structure AB (w : World) (b : Nat) (y0 y1 : Value) (W : World) : Prop where
  bel : Below w.heap.size w W
  lo : w.heap.size ≤ b
  t0 : W.cell? ⟨b, 0, none⟩ = some y0
  t1 : W.cell? ⟨b, 1, none⟩ = some y1
  f : ∀ i, W.frozen? ⟨b, i, none⟩ = false
section
variable {w W W1 : World} {b : Nat} {y0 y1 : Value}
theorem AB.below (h : AB w b y0 y1 W) (hb : Below W.heap.size W W1) : AB w b y0 y1 W1 := by
  have z : b < W.heap.size := World.block_lt_of_cell? W ⟨b, 0, none⟩ h.t0
  exact ⟨h.bel.trans (hb.mono h.bel.size), h.lo, keep_below hb h.t0, keep_below hb h.t1, fun i => (hb.frozen (p := ⟨b, i, none⟩) z).trans (h.f i)⟩
theorem AB.there (h : AB w b y0 y1 W) : W.there b 0 2 := fun j hj => by
  rcases (by omega : j = 0 ∨ j = 1) with rfl | rfl
  · exact ⟨by rw [Nat.zero_add, h.t0]; rfl, h.f _⟩
  · exact ⟨by rw [Nat.zero_add, h.t1]; rfl, h.f _⟩
theorem AB.give (h : AB w b y0 y1 W) (z0 z1 : Value) : AB w b z0 z1 (W.setCells b 0 [z0, z1]) := by
  have s := fun j hj => World.cell?_setCells_in b [z0, z1] 0 W (fun j hj => (h.there j hj).1) j hj
  exact ⟨below_setCells b h.lo [z0, z1] 0 W h.bel, h.lo, s 0 (by simp), s 1 (by simp), fun i => by rw [World.frozen?_setCells]; exact h.f i⟩
end
/-- What was read in a world is read behind a store into a box of its own. -/
theorem WldAt.sets {W : World} {A : Option Addr} {cap : Nat} {G : Option Addr} {gcap : Nat} {X : Wd} {b o : Nat} {vs : List Value} (h : WldAt W A cap G gcap X) (hA : ∀ c o', A = some ⟨c, o', none⟩ → c ≠ b) (hG : ∀ c o', G = some ⟨c, o', none⟩ → c ≠ b) : WldAt (W.setCells b o vs) A cap G gcap X := by
  refine ⟨fun j hj => ?_, fun j hj => ?_⟩
  · obtain ⟨c, off, e, hr⟩ := h.rows j hj
    exact ⟨c, off, e, rowAt_others (hA c off e) hr⟩
  · obtain ⟨c, off, e, hr⟩ := h.gens j hj
    exact ⟨c, off, e, (setcs_other (hG c off e)).trans hr⟩

theorem WldNew.sets {B : Nat} {W : World} {A : Option Addr} {cap : Nat} {G : Option Addr} {gcap : Nat} {X : Wd} {b o : Nat} {vs : List Value} (h : WldNew B W A cap G gcap X) (hb : b < B) : WldNew B (W.setCells b o vs) A cap G gcap X :=
  ⟨h.toWldAt.sets (fun c o' e => by have := h.fa c o' e; omega) (fun c o' e => by have := h.fg c o' e; omega), h.fa, h.fg⟩
theorem WldNew.mono {B B' : Nat} {W : World} {A : Option Addr} {cap : Nat} {G : Option Addr} {gcap : Nat} {X : Wd} (h : WldNew B W A cap G gcap X) (hb : B' ≤ B) : WldNew B' W A cap G gcap X :=
  ⟨h.toWldAt, fun c o e => Nat.le_trans hb (h.fa c o e), fun c o e => Nat.le_trans hb (h.fg c o e)⟩

set_option maxRecDepth 8000 in
set_option maxHeartbeats 1000000 in
theorem put_any (A : Option Addr) (cap : Nat) (G : Option Addr) (gcap : Nat) (X : Wd) (i g p n : Int) (w : World) (hn0 : X.rows.length ≤ 9223372036854775807) (hX : WldAt w A cap G gcap X) :
    Calls Try.prog 44 #[wldV A cap G gcap X, beingV i g, .int .i64 p, .int .i64 n] w fun e w' => ∃ A' c' G' gc', e = .returned (.tuple #[wldV A' c' G' gc' (putF X i g p n).2, .int .i64 (putF X i g p n).1]) ∧ WldNew w.heap.size w' A' c' G' gc' (putF X i g p n).2 ∧ Below w.heap.size w w' := by
  obtain ⟨W1, hW1⟩ : ∃ W, W = (((w.alloc (.cells #[.slice A X.rows.length cap, .slice G X.gens.length gcap] 38)).alloc (.cells #[.int .i64 i, .int .i64 g] 40)).alloc (.cells #[.int .i64 p] 3)).alloc (.cells #[.int .i64 n] 3) := ⟨_, rfl⟩
  have z1 : W1.heap.size = w.heap.size + 4 := by rw [hW1]; simp
  have b1 : Below w.heap.size w W1 := by rw [hW1]; go_grown
  have p1 : W1.cell? ⟨w.heap.size + 2, 0, none⟩ = some (.int .i64 p) := by rw [hW1]; simp [go_sem]
  have n1 : W1.cell? ⟨w.heap.size + 3, 0, none⟩ = some (.int .i64 n) := by rw [hW1]; simp [go_sem]
  obtain ⟨y0, y1, yf, yb⟩ := new_box (W := W1) (u0 := .slice none 0 0) (u1 := .slice none 0 0) (t := 38) z1
  have hAB : AB w (w.heap.size + 4) (.slice none 0 0) (.slice none 0 0) (W1.alloc (.cells #[.slice none 0 0, .slice none 0 0] 38)) := ⟨b1.trans (yb.mono b1.size), by omega, y0, y1, yf⟩
  have hC := change_put A cap G gcap X i g (fun x => putC x p n) (w.heap.size + 2) (w.heap.size + 3) (W1.alloc (.cells #[.slice none 0 0, .slice none 0 0] 38)) hn0 (hX.below hAB.bel) (putC_ok p n)
    (fun W hW x => put1_any x p n (w.heap.size + 2) (w.heap.size + 3) W (keep_below hW (keep_below yb p1)) (keep_below hW (keep_below yb n1)))
  have e : chF X i g (fun x => putC x p n) = putF X i g p n := rfl
  rw [e] at hC
  rw [hW1] at hC hAB
  have HZ := hide (show w.heap.size + 4 < (W1.alloc (.cells #[.slice none 0 0, .slice none 0 0] 38)).heap.size by simp; omega)
  rw [hW1] at HZ
  have HC := hide hC
  have HAB := hide hAB
  clear hC hAB e hW1 z1 b1 p1 n1 y0 y1 yf yb hX
  generalize putF X i g p n = z at *
  obtain ⟨er, Z⟩ := z
  dsimp only at *
  unfold wldV worldV beingV at *
  go_enter Try.func44, Try.ntmps44
  go_wp2_with (first
    | (go_at_call 87; refine (unhide HC).mono ?_; rintro e w5 ⟨A', c', G', gc', rfl, hN, hb5⟩; have HN := hide hN; have HA5 := hide ((unhide HAB).below hb5); clear hN hb5)
    | (refine wpList_putN rfl 38 (.tmp 8) (.tmp 14) rfl (w.heap.size + 4) 0 [.slice A' Z.rows.length c', .slice G' Z.gens.length gc'] rfl rfl (by simp [Value.oneCell']) size38 (unhide HA5).there ?_; intro W3 hW3; have hA6 := (unhide HA5).give (.slice A' Z.rows.length c') (.slice G' Z.gens.length gc'); rw [← hW3] at hA6; have HA6 := hide hA6; have HW3 := hide hW3; clear hW3 hA6))
  have t0 := (unhide HA6).t0
  have t1 := (unhide HA6).t1
  refine bodyPost_ret (v := .tuple #[.agg #[.slice A' Z.rows.length c', .slice G' Z.gens.length gc'], .int .i64 er]) (by simp [results, Try.results44, go_sem, t0, t1]) rfl ⟨A', c', G', gc', rfl, ?_, (unhide HA6).bel⟩
  rw [unhide HW3]
  exact ((unhide HN).sets (unhide HZ)).mono (by have := unhide HZ; omega)

set_option maxRecDepth 8000 in
set_option maxHeartbeats 1000000 in
theorem drop_any (A : Option Addr) (cap : Nat) (G : Option Addr) (gcap : Nat) (X : Wd) (i g p : Int) (w : World) (hn0 : X.rows.length ≤ 9223372036854775807) (hX : WldAt w A cap G gcap X) :
    Calls Try.prog 46 #[wldV A cap G gcap X, beingV i g, .int .i64 p] w fun e w' => ∃ A' c' G' gc', e = .returned (.tuple #[wldV A' c' G' gc' (dropF X i g p).2, .int .i64 (dropF X i g p).1]) ∧ WldNew w.heap.size w' A' c' G' gc' (dropF X i g p).2 ∧ Below w.heap.size w w' := by
  obtain ⟨W1, hW1⟩ : ∃ W, W = ((w.alloc (.cells #[.slice A X.rows.length cap, .slice G X.gens.length gcap] 38)).alloc (.cells #[.int .i64 i, .int .i64 g] 40)).alloc (.cells #[.int .i64 p] 3) := ⟨_, rfl⟩
  have z1 : W1.heap.size = w.heap.size + 3 := by rw [hW1]; simp
  have b1 : Below w.heap.size w W1 := by rw [hW1]; go_grown
  have p1 : W1.cell? ⟨w.heap.size + 2, 0, none⟩ = some (.int .i64 p) := by rw [hW1]; simp [go_sem]
  obtain ⟨y0, y1, yf, yb⟩ := new_box (W := W1) (u0 := .slice none 0 0) (u1 := .slice none 0 0) (t := 38) z1
  have hAB : AB w (w.heap.size + 3) (.slice none 0 0) (.slice none 0 0) (W1.alloc (.cells #[.slice none 0 0, .slice none 0 0] 38)) := ⟨b1.trans (yb.mono b1.size), by omega, y0, y1, yf⟩
  have hC := change_drop A cap G gcap X i g (fun x => dropC x p) (w.heap.size + 2) (W1.alloc (.cells #[.slice none 0 0, .slice none 0 0] 38)) hn0 (hX.below hAB.bel) (dropC_ok p)
    (fun W hW x => drop1_any x p (w.heap.size + 2) W (keep_below hW (keep_below yb p1)))
  have e : chF X i g (fun x => dropC x p) = dropF X i g p := rfl
  rw [e] at hC
  rw [hW1] at hC hAB
  have HZ := hide (show w.heap.size + 3 < (W1.alloc (.cells #[.slice none 0 0, .slice none 0 0] 38)).heap.size by simp; omega)
  rw [hW1] at HZ
  have HC := hide hC
  have HAB := hide hAB
  clear hC hAB e hW1 z1 b1 p1 y0 y1 yf yb hX
  generalize dropF X i g p = z at *
  obtain ⟨er, Z⟩ := z
  dsimp only at *
  unfold wldV worldV beingV at *
  go_enter Try.func46, Try.ntmps46
  go_wp2_with (first
    | (go_at_call 87; refine (unhide HC).mono ?_; rintro e w5 ⟨A', c', G', gc', rfl, hN, hb5⟩; have HN := hide hN; have HA5 := hide ((unhide HAB).below hb5); clear hN hb5)
    | (refine wpList_putN rfl 38 (.tmp 6) (.tmp 12) rfl (w.heap.size + 3) 0 [.slice A' Z.rows.length c', .slice G' Z.gens.length gc'] rfl rfl (by simp [Value.oneCell']) size38 (unhide HA5).there ?_; intro W3 hW3; have hA6 := (unhide HA5).give (.slice A' Z.rows.length c') (.slice G' Z.gens.length gc'); rw [← hW3] at hA6; have HA6 := hide hA6; have HW3 := hide hW3; clear hW3 hA6))
  have t0 := (unhide HA6).t0
  have t1 := (unhide HA6).t1
  refine bodyPost_ret (v := .tuple #[.agg #[.slice A' Z.rows.length c', .slice G' Z.gens.length gc'], .int .i64 er]) (by simp [results, Try.results46, go_sem, t0, t1]) rfl ⟨A', c', G', gc', rfl, ?_, (unhide HA6).bel⟩
  rw [unhide HW3]
  exact ((unhide HN).sets (unhide HZ)).mono (by have := unhide HZ; omega)
end Go.Proofs.Ytmbjghjpofcdpaa
