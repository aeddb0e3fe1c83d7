/- Rn0, RnAmt, RnAct -/
import Derived.Test.YtnbleebilmghcabQP
import Derived.Test.YtnbleebilmghcabQU
set_option linter.all false
namespace Go.Proofs.Ytnbleebilmghcab
open Go Go.RowKit
def amtF (X : Wd) (i g : Int) (y : ActI) : Int := if y.k = 2 then (getW X i g y.f).1 else if y.k = 3 then IntKind.i64.wrap ((getW X i g y.p).1 + (getW X i g y.f).1) else if y.k = 4 then IntKind.i64.wrap ((getW X i g y.p).1 + y.n) else y.n
def actF (X : Wd) (i g : Int) (y : ActI) : Int × Wd := if y.k = 6 then killF X i g else if y.k = 7 then ((spawnF X y.p y.n).1, (spawnF X y.p y.n).2.2) else if y.k = 5 then (if (getW X i g y.p).2 = true then dropF X i g y.p else (0, X)) else putF X i g y.p (clipI (amtF X i g y))
def turnTo (i g : Int) (a : Nat → ActI) : Nat → Nat → Wd → Int × Wd
  | 0, _, X => (0, X)
  | n + 1, j, X => if (actF X i g (a j)).1 ≠ 0 then ((actF X i g (a j)).1, emptyW) else if (a j).k = 6 then (0, (actF X i g (a j)).2) else turnTo i g a n (j + 1) (actF X i g (a j)).2
def runTo (a : Nat → ActI) (len : Nat) : List (Int × Int) → Wd → Int × Wd
  | [], X => (0, X)
  | b :: l, X => if (turnTo b.1 b.2 a len 0 X).1 ≠ 0 then ((turnTo b.1 b.2 a len 0 X).1, emptyW) else runTo a len l (turnTo b.1 b.2 a len 0 X).2
def runF (X : Wd) (m al no : Int) (a : Nat → ActI) (len : Nat) : Int × Wd := if (wrF m al no a len).1 ≠ 0 then ((wrF m al no a len).1, emptyW) else runTo a len (bsTo X al no X.rows.length) X
theorem act_no {X : Wd} {i g : Int} {y : ActI} (h : (actF X i g y).1 ≠ 0) : (actF X i g y).2 = emptyW := by
  unfold actF at h ⊢
  split
  · rename_i e; rw [if_pos e] at h; exact kill_no h
  · rename_i e; rw [if_neg e] at h
    split
    · rename_i e; rw [if_pos e] at h; exact spawn_no h
    · rename_i e; rw [if_neg e] at h
      split
      · rename_i e; rw [if_pos e] at h
        split
        · rename_i e; rw [if_pos e] at h; exact ch_no h
        · rename_i e; rw [if_neg e] at h; exact absurd rfl h
      · rename_i e; rw [if_neg e] at h; exact ch_no h
theorem act_right {X : Wd} (hr : RightW X) {i g : Int} {y : ActI} (h : (actF X i g y).1 = 0) : RightW (actF X i g y).2 := by
  unfold actF at h ⊢
  split
  · rename_i e; rw [if_pos e] at h; exact (kill_keeps h).1
  · rename_i e; rw [if_neg e] at h
    split
    · rename_i e; rw [if_pos e] at h; exact (spawn_keeps h 0 0).1
    · rename_i e; rw [if_neg e] at h
      split
      · rename_i e; rw [if_pos e] at h
        split
        · rename_i e; rw [if_pos e] at h; exact (drop_keeps h).1
        · exact hr
      · rename_i e; rw [if_neg e] at h; exact (put_keeps h).1
theorem turn_no (i g : Int) (a : Nat → ActI) : ∀ n j X, (turnTo i g a n j X).1 ≠ 0 → (turnTo i g a n j X).2 = emptyW
  | 0, _, X, h => absurd rfl h
  | n + 1, j, X, h => by
    unfold turnTo at h ⊢
    split
    · rfl
    · rename_i e; rw [if_neg e] at h
      split
      · rename_i e; rw [if_pos e] at h; exact absurd rfl h
      · rename_i e; rw [if_neg e] at h; exact turn_no i g a n (j + 1) _ h
theorem turn_right (i g : Int) (a : Nat → ActI) : ∀ n j X, RightW X → (turnTo i g a n j X).1 = 0 → RightW (turnTo i g a n j X).2
  | 0, _, X, hr, h => hr
  | n + 1, j, X, hr, h => by
    unfold turnTo at h ⊢
    by_cases e : (actF X i g (a j)).1 = 0
    · rw [if_neg (by simpa using e)] at h ⊢
      split
      · exact act_right hr e
      · rename_i e2; rw [if_neg e2] at h; exact turn_right i g a n (j + 1) _ (act_right hr e) h
    · rw [if_pos e] at h; exact absurd h e
theorem runTo_no (a : Nat → ActI) (len : Nat) : ∀ l X, (runTo a len l X).1 ≠ 0 → (runTo a len l X).2 = emptyW
  | [], X, h => absurd rfl h
  | b :: l, X, h => by
    unfold runTo at h ⊢
    split
    · rfl
    · rename_i e; rw [if_neg e] at h; exact runTo_no a len l _ h
theorem runTo_right (a : Nat → ActI) (len : Nat) : ∀ l X, RightW X → (runTo a len l X).1 = 0 → RightW (runTo a len l X).2
  | [], X, hr, h => hr
  | b :: l, X, hr, h => by
    unfold runTo at h ⊢
    by_cases e : (turnTo b.1 b.2 a len 0 X).1 = 0
    · rw [if_neg (by simpa using e)] at h ⊢
      exact runTo_right a len l _ (turn_right _ _ _ _ _ _ hr e) h
    · rw [if_pos e] at h; exact absurd h e
theorem run_no {X : Wd} {m al no : Int} {a : Nat → ActI} {len : Nat} (h : (runF X m al no a len).1 ≠ 0) : (runF X m al no a len).2 = emptyW := by
  unfold runF at h ⊢
  split
  · rfl
  · rename_i e; rw [if_neg e] at h; exact runTo_no a len _ _ h
theorem run_right {X : Wd} (hr : RightW X) {m al no : Int} {a : Nat → ActI} {len : Nat} (h : (runF X m al no a len).1 = 0) : RightW (runF X m al no a len).2 := by
  unfold runF at h ⊢
  by_cases e : (wrF m al no a len).1 = 0
  · rw [if_neg (by simpa using e)] at h ⊢; exact runTo_right a len _ _ hr h
  · rw [if_pos e] at h; exact absurd h e
def Blk (A G : Option Addr) (X : Wd) (b : Nat) : Prop := (0 < X.rows.length ∧ ∃ o, A = some ⟨b, o, none⟩) ∨ (0 < X.gens.length ∧ ∃ o, G = some ⟨b, o, none⟩)
theorem blk_lt {W : World} {A : Option Addr} {c : Nat} {G : Option Addr} {gc : Nat} {X : Wd} (h : WldAt W A c G gc X) {b : Nat} (hb : Blk A G X b) : b < W.heap.size := by
  rcases hb with ⟨hl, o, e⟩ | ⟨hl, o, e⟩
  · obtain ⟨b', o', e', hr⟩ := h.rows 0 hl
    rw [e] at e'
    simp only [Option.some.injEq, Addr.mk.injEq, and_true] at e'
    rw [e'.1]
    exact World.block_lt_of_cell? W _ hr.c0
  · obtain ⟨b', o', e', hr⟩ := h.gens 0 hl
    rw [e] at e'
    simp only [Option.some.injEq, Addr.mk.injEq, and_true] at e'
    rw [e'.1]
    exact World.block_lt_of_cell? W _ hr
theorem blk_fresh {B : Nat} {W : World} {A : Option Addr} {c : Nat} {G : Option Addr} {gc : Nat} {X : Wd} (h : WldNew B W A c G gc X) {b : Nat} (hb : Blk A G X b) : B ≤ b := by
  rcases hb with ⟨_, o, e⟩ | ⟨_, o, e⟩
  · exact h.fa b o e
  · exact h.fg b o e
theorem wld_puts {W : World} {A : Option Addr} {c : Nat} {G : Option Addr} {gc : Nat} {X : Wd} (h : WldAt W A c G gc X) {b o : Nat} {vs : List Value} (hb : ¬ Blk A G X b) : WldAt (W.setCells b o vs) A c G gc X := by
  refine ⟨fun j hj => ?_, fun j hj => ?_⟩
  · obtain ⟨b', off, e, hr⟩ := h.rows j hj
    exact ⟨b', off, e, rowAt_others (fun e' => hb (.inl ⟨by omega, off, by rw [e, e']⟩)) hr⟩
  · obtain ⟨b', off, e, hr⟩ := h.gens j hj
    exact ⟨b', off, e, (setcs_other (fun e' => hb (.inr ⟨by omega, off, by rw [e]; simpa using e'⟩))).trans hr⟩
structure WF (B : Nat) (A G : Option Addr) (X : Wd) (W : World) (A' : Option Addr) (c' : Nat) (G' : Option Addr) (gc' : Nat) (Y : Wd) : Prop where
  at_ : WldAt W A' c' G' gc' Y
  blk : ∀ b, Blk A' G' Y b → Blk A G X b ∨ B ≤ b
section
variable {B : Nat} {A G : Option Addr} {X : Wd} {W W1 : World} {A' : Option Addr} {c' : Nat} {G' : Option Addr} {gc' : Nat} {Y : Wd}
theorem WF.below (h : WF B A G X W A' c' G' gc' Y) (hb : Below W.heap.size W W1) : WF B A G X W1 A' c' G' gc' Y := ⟨h.at_.below hb, h.blk⟩
theorem WF.refl (h : WldAt W A c' G gc' X) : WF B A G X W A c' G gc' X := ⟨h, fun _ hb => .inl hb⟩
theorem WF.new (h : WldNew B W A' c' G' gc' Y) : WF B A G X W A' c' G' gc' Y := ⟨h.toWldAt, fun _ hb => .inr (blk_fresh h hb)⟩
theorem WF.le (h : WF B A G X W A' c' G' gc' Y) {B' : Nat} (hb : B' ≤ B) : WF B' A G X W A' c' G' gc' Y := ⟨h.at_, fun b hb' => (h.blk b hb').imp id (fun h => Nat.le_trans hb h)⟩
theorem WF.puts (h : WF B A G X W A' c' G' gc' Y) {b o : Nat} {vs : List Value} (h1 : ¬ Blk A G X b) (h2 : b < B) : WF B A G X (W.setCells b o vs) A' c' G' gc' Y :=
  ⟨wld_puts h.at_ (fun hb => (h.blk b hb).elim h1 (fun h => by omega)), h.blk⟩
theorem WF.trans {A2 : Option Addr} {c2 : Nat} {G2 : Option Addr} {gc2 : Nat} {Z : Wd} {B2 : Nat} (h : WF B A G X W A' c' G' gc' Y) (h2 : WF B2 A' G' Y W1 A2 c2 G2 gc2 Z) (hB : B ≤ B2) : WF B A G X W1 A2 c2 G2 gc2 Z :=
  ⟨h2.at_, fun b hb => (h2.blk b hb).elim (fun h' => h.blk b h') (fun h' => .inr (Nat.le_trans hB h'))⟩
end
theorem blk_empty {b : Nat} {A G : Option Addr} : ¬ Blk A G emptyW b := by
  rintro (⟨h, _⟩ | ⟨h, _⟩) <;> simp [emptyW] at h
theorem WF.empty {B : Nat} {A G : Option Addr} {X : Wd} (W : World) (A' : Option Addr) (c' : Nat) (G' : Option Addr) (gc' : Nat) : WF B A G X W A' c' G' gc' emptyW :=
  ⟨⟨fun j hj => by simp [emptyW] at hj, fun j hj => by simp [emptyW] at hj⟩, fun b hb => absurd hb blk_empty⟩
end Go.Proofs.Ytnbleebilmghcab
namespace Go.Proofs.Ytnbleebilmghcab
open Go Go.RowKit
attribute [local go_sem ↓] Go.wp_at_zero Go.wp_at_succ
set_option maxRecDepth 8000 in
set_option maxHeartbeats 4000000 in
theorem is_any (A : Option Addr) (cap : Nat) (G : Option Addr) (gcap : Nat) (X : Wd) (i g p : Int) (b : Nat) (w : World) (hn0 : X.rows.length ≤ 9223372036854775807) (hX : WldAt w A cap G gcap X) (h0 : w.cell? ⟨b, 0, none⟩ = some (.slice A X.rows.length cap)) (h1 : w.cell? ⟨b, 1, none⟩ = some (.slice G X.gens.length gcap)) (h2 : w.cell? ⟨b + 1, 0, none⟩ = some (.int .i64 i)) (h3 : w.cell? ⟨b + 1, 1, none⟩ = some (.int .i64 g)) :
    Calls Try.prog 127 #[.int .i64 p, .pointer (some ⟨b, 0, none⟩), .pointer (some ⟨b + 1, 0, none⟩)] w fun e w' => e = .returned (.int .i64 (getW X i g p).1) ∧ Below w.heap.size w w' := by
  have hG := get_any A X.rows.length cap G X.gens.length gcap (fun j => X.rows.getD j dR) i g p w hn0 hX.rows
  rw [show getI (fun j => X.rows.getD j dR) X.rows.length i g p = getW X i g p from rfl] at hG
  unfold worldV beingV at hG
  have HG := hide hG
  clear hG hX
  go_enter Try.func127, Try.ntmps127
  go_wp2_with ((go_at_call 64; refine (unhide HG).mono ?_; rintro e w1 ⟨rfl, hb1⟩; have HB1 := hide hb1; clear hb1))
  go_ret
  exact ⟨rfl, unhide HB1⟩
theorem enters127 (args : Array Value) (W : World) : (callFunc 127 args).run Try.prog W = .ok (.enter 127 args) W := by kernel_rfl
set_option maxRecDepth 8000 in
set_option maxHeartbeats 4000000 in
theorem amount_copy (A : Option Addr) (cap : Nat) (G : Option Addr) (gcap : Nat) (X : Wd) (i g : Int) (y : ActI) (w : World) (hn0 : X.rows.length ≤ 9223372036854775807) (hX : WldAt w A cap G gcap X) (hk : y.k = 2) :
    Calls Try.prog 116 #[wldV A cap G gcap X, beingV i g, actV y.k y.p y.f y.n] w fun e w' => e = .returned (.int .i64 (getW X i g y.f).1) ∧ Below w.heap.size w w' := by
  have hIS := fun p W (hb : Below w.heap.size w W) (hB : Bxs w.heap.size [([.slice A X.rows.length cap, .slice G X.gens.length gcap], 40), ([.int .i64 i, .int .i64 g], 50), ([.int .i64 y.k, .int .i64 y.p, .int .i64 y.f, .int .i64 y.n], 76)] W) => is_any A cap G gcap X i g p w.heap.size W hn0 (hX.below hb) (hB.cell 0 rfl 0 rfl) (hB.cell 0 rfl 1 rfl) (hB.cell 1 rfl 0 rfl) (hB.cell 1 rfl 1 rfl)
  have hB0 := Bxs.start w [([.slice A X.rows.length cap, .slice G X.gens.length gcap], 40), ([.int .i64 i, .int .i64 g], 50), ([.int .i64 y.k, .int .i64 y.p, .int .i64 y.f, .int .i64 y.n], 76)]
  have hb0 := allocs_below [([.slice A X.rows.length cap, .slice G X.gens.length gcap], 40), ([.int .i64 i, .int .i64 g], 50), ([.int .i64 y.k, .int .i64 y.p, .int .i64 y.f, .int .i64 y.n], 76)] w
  obtain ⟨W0, hW0⟩ : ∃ W0, W0 = allocs w [([.slice A X.rows.length cap, .slice G X.gens.length gcap], 40), ([.int .i64 i, .int .i64 g], 50), ([.int .i64 y.k, .int .i64 y.p, .int .i64 y.f, .int .i64 y.n], 76)] := ⟨_, rfl⟩
  rw [← hW0] at hB0 hb0
  have hW0' : ((w.alloc (.cells #[.slice A X.rows.length cap, .slice G X.gens.length gcap] 40)).alloc (.cells #[.int .i64 i, .int .i64 g] 50)).alloc (.cells #[.int .i64 y.k, .int .i64 y.p, .int .i64 y.f, .int .i64 y.n] 76) = W0 := hW0.symm
  have HIS := hide hIS
  have HW0 := hide hW0'
  have HB0 := hide hB0
  have HL0 := hide hb0
  have a0 := hB0.cell 2 rfl 0 rfl
  have a1 := hB0.cell 2 rfl 1 rfl
  have a2 := hB0.cell 2 rfl 2 rfl
  have a3 := hB0.cell 2 rfl 3 rfl
  clear hIS hW0 hW0' hB0 hb0 hX
  unfold wldV worldV beingV actV
  have HK := hide hk
  clear hk
  go_enter Try.func116, Try.ntmps116
  go_upto_region 1 with fail
  rw [unhide HW0]
  have hk := unhide HK
  have hen := enters127
  go_wp2_with fail
  refine (unhide HIS y.f W0 (unhide HL0) (unhide HB0)).mono ?_
  rintro e w1 ⟨rfl, hb1⟩
  have HL1 := hide ((unhide HL0).trans (hb1.mono (unhide HL0).size))
  clear hb1 a0 a1 a2 a3
  go_wp2
  go_ret
  exact ⟨rfl, unhide HL1⟩
set_option maxRecDepth 8000 in
set_option maxHeartbeats 4000000 in
theorem amount_add (A : Option Addr) (cap : Nat) (G : Option Addr) (gcap : Nat) (X : Wd) (i g : Int) (y : ActI) (w : World) (hn0 : X.rows.length ≤ 9223372036854775807) (hX : WldAt w A cap G gcap X) (hk : y.k = 3) :
    Calls Try.prog 116 #[wldV A cap G gcap X, beingV i g, actV y.k y.p y.f y.n] w fun e w' => e = .returned (.int .i64 (IntKind.i64.wrap ((getW X i g y.p).1 + (getW X i g y.f).1))) ∧ Below w.heap.size w w' := by
  have hIS := fun p W (hb : Below w.heap.size w W) (hB : Bxs w.heap.size [([.slice A X.rows.length cap, .slice G X.gens.length gcap], 40), ([.int .i64 i, .int .i64 g], 50), ([.int .i64 y.k, .int .i64 y.p, .int .i64 y.f, .int .i64 y.n], 76)] W) => is_any A cap G gcap X i g p w.heap.size W hn0 (hX.below hb) (hB.cell 0 rfl 0 rfl) (hB.cell 0 rfl 1 rfl) (hB.cell 1 rfl 0 rfl) (hB.cell 1 rfl 1 rfl)
  have hB0 := Bxs.start w [([.slice A X.rows.length cap, .slice G X.gens.length gcap], 40), ([.int .i64 i, .int .i64 g], 50), ([.int .i64 y.k, .int .i64 y.p, .int .i64 y.f, .int .i64 y.n], 76)]
  have hb0 := allocs_below [([.slice A X.rows.length cap, .slice G X.gens.length gcap], 40), ([.int .i64 i, .int .i64 g], 50), ([.int .i64 y.k, .int .i64 y.p, .int .i64 y.f, .int .i64 y.n], 76)] w
  obtain ⟨W0, hW0⟩ : ∃ W0, W0 = allocs w [([.slice A X.rows.length cap, .slice G X.gens.length gcap], 40), ([.int .i64 i, .int .i64 g], 50), ([.int .i64 y.k, .int .i64 y.p, .int .i64 y.f, .int .i64 y.n], 76)] := ⟨_, rfl⟩
  rw [← hW0] at hB0 hb0
  have hW0' : ((w.alloc (.cells #[.slice A X.rows.length cap, .slice G X.gens.length gcap] 40)).alloc (.cells #[.int .i64 i, .int .i64 g] 50)).alloc (.cells #[.int .i64 y.k, .int .i64 y.p, .int .i64 y.f, .int .i64 y.n] 76) = W0 := hW0.symm
  have HIS := hide hIS
  have HW0 := hide hW0'
  have HB0 := hide hB0
  have HL0 := hide hb0
  have a0 := hB0.cell 2 rfl 0 rfl
  have a1 := hB0.cell 2 rfl 1 rfl
  have a2 := hB0.cell 2 rfl 2 rfl
  have a3 := hB0.cell 2 rfl 3 rfl
  clear hIS hW0 hW0' hB0 hb0 hX
  unfold wldV worldV beingV actV
  have HK := hide hk
  clear hk
  go_enter Try.func116, Try.ntmps116
  go_upto_region 1 with fail
  rw [unhide HW0]
  have hk := unhide HK
  go_wp2_with fail
  have h0 : Below W0.heap.size W0 W0.drew := (Below.refl _ _).drew
  refine wp_region_gho (fun (γ : Unit) ix v => (([fun v => v = .func (.func 127) #[] #[.pointer (some ⟨w.heap.size, 0, none⟩), .pointer (some ⟨w.heap.size + 1, 0, none⟩)], fun v => v = .pointer (some ⟨w.heap.size + 2, 1, none⟩), fun v => v = .int .i64 y.p, fun v => v = .int .i64 (getW X i g y.p).1, fun v => v = .func (.func 127) #[] #[.pointer (some ⟨w.heap.size, 0, none⟩), .pointer (some ⟨w.heap.size + 1, 0, none⟩)], fun v => v = .pointer (some ⟨w.heap.size + 2, 2, none⟩), fun v => v = .int .i64 y.f, fun v => v = .int .i64 (getW X i g y.f).1, fun v => v = .int .i64 (IntKind.i64.wrap ((getW X i g y.p).1 + (getW X i g y.f).1)), fun v => v = .int .i64 (IntKind.i64.wrap ((getW X i g y.p).1 + (getW X i g y.f).1))] : List (Value → Prop)).getD ix (fun _ => True)) v) (fun (_ : Unit) (_ : Nat → Bool) W => Below W0.heap.size W0 W) (()) (by kernel_rfl) (by kernel_rfl) (by kernel_rfl) h0 ?hstep ?hend
  case hstep =>
    intro γ ix o ho L ac w1 hD hL hed hcl hout hv
    match ix, ho with
    | 0, ho =>
      simp at ho
      subst ho
      have e7 : ac.tmps.getD 7 undef = .func (.func 127) #[] #[.pointer (some ⟨w.heap.size, 0, none⟩), .pointer (some ⟨w.heap.size + 1, 0, none⟩)] := hout 7 (by decide +kernel)
      exact .inl ⟨rfl, gho_reads γ (.func (.func 127) #[] #[.pointer (some ⟨w.heap.size, 0, none⟩), .pointer (some ⟨w.heap.size + 1, 0, none⟩)]) (by simp [go_sem, Act.eval, -Array.getD_eq_getD_getElem?, e7]) rfl (hD) (fun _ _ _ _ h => h)⟩
    | 1, ho =>
      simp at ho
      subst ho
      have e5 : ac.tmps.getD 5 undef = .pointer (some ⟨w.heap.size + 2, 0, none⟩) := hout 5 (by decide +kernel)
      exact .inl ⟨rfl, gho_reads γ (.pointer (some ⟨w.heap.size + 2, 1, none⟩)) (by simp [go_sem, Act.eval, -Array.getD_eq_getD_getElem?, e5]) rfl (hD) (fun _ _ _ _ h => h)⟩
    | 2, ho =>
      simp at ho
      subst ho
      have e20 : ac.tmps.getD 20 undef = .pointer (some ⟨w.heap.size + 2, 1, none⟩) := hv 1 20 rfl (by kernel_rfl)
      have bb := (unhide HB0).below hD
      have c0 := bb.cell 2 rfl 1 rfl
      exact .inl ⟨rfl, gho_reads γ (.int .i64 y.p) (by simp [go_sem, Act.eval, -Array.getD_eq_getD_getElem?, e20, c0]) rfl (hD) (fun _ _ _ _ h => h)⟩
    | 3, ho =>
      simp at ho
      subst ho
      have e19 : ac.tmps.getD 19 undef = .func (.func 127) #[] #[.pointer (some ⟨w.heap.size, 0, none⟩), .pointer (some ⟨w.heap.size + 1, 0, none⟩)] := hv 0 19 rfl (by kernel_rfl)
      have e21 : ac.tmps.getD 21 undef = .int .i64 y.p := hv 2 21 rfl (by kernel_rfl)
      refine .inl ⟨rfl, gho_enters 127 #[.int .i64 y.p, .pointer (some ⟨w.heap.size, 0, none⟩), .pointer (some ⟨w.heap.size + 1, 0, none⟩)] (by simp [go_sem, Act.eval, -Array.getD_eq_getD_getElem?, enters127, e19, e21]) ?_⟩
      refine (unhide HIS y.p w1 ((unhide HL0).trans (hD.mono (unhide HL0).size)) ((unhide HB0).below hD)).mono ?_
      rintro e w6 ⟨rfl, hb6⟩
      exact ⟨_, γ, rfl, rfl, hD.trans (hb6.mono hD.size), fun _ _ _ _ h => h⟩
    | 4, ho =>
      simp at ho
      subst ho
      have e7 : ac.tmps.getD 7 undef = .func (.func 127) #[] #[.pointer (some ⟨w.heap.size, 0, none⟩), .pointer (some ⟨w.heap.size + 1, 0, none⟩)] := hout 7 (by decide +kernel)
      exact .inl ⟨rfl, gho_reads γ (.func (.func 127) #[] #[.pointer (some ⟨w.heap.size, 0, none⟩), .pointer (some ⟨w.heap.size + 1, 0, none⟩)]) (by simp [go_sem, Act.eval, -Array.getD_eq_getD_getElem?, e7]) rfl (hD) (fun _ _ _ _ h => h)⟩
    | 5, ho =>
      simp at ho
      subst ho
      have e5 : ac.tmps.getD 5 undef = .pointer (some ⟨w.heap.size + 2, 0, none⟩) := hout 5 (by decide +kernel)
      exact .inl ⟨rfl, gho_reads γ (.pointer (some ⟨w.heap.size + 2, 2, none⟩)) (by simp [go_sem, Act.eval, -Array.getD_eq_getD_getElem?, e5]) rfl (hD) (fun _ _ _ _ h => h)⟩
    | 6, ho =>
      simp at ho
      subst ho
      have e24 : ac.tmps.getD 24 undef = .pointer (some ⟨w.heap.size + 2, 2, none⟩) := hv 5 24 rfl (by kernel_rfl)
      have bb := (unhide HB0).below hD
      have c0 := bb.cell 2 rfl 2 rfl
      exact .inl ⟨rfl, gho_reads γ (.int .i64 y.f) (by simp [go_sem, Act.eval, -Array.getD_eq_getD_getElem?, e24, c0]) rfl (hD) (fun _ _ _ _ h => h)⟩
    | 7, ho =>
      simp at ho
      subst ho
      have e23 : ac.tmps.getD 23 undef = .func (.func 127) #[] #[.pointer (some ⟨w.heap.size, 0, none⟩), .pointer (some ⟨w.heap.size + 1, 0, none⟩)] := hv 4 23 rfl (by kernel_rfl)
      have e25 : ac.tmps.getD 25 undef = .int .i64 y.f := hv 6 25 rfl (by kernel_rfl)
      refine .inl ⟨rfl, gho_enters 127 #[.int .i64 y.f, .pointer (some ⟨w.heap.size, 0, none⟩), .pointer (some ⟨w.heap.size + 1, 0, none⟩)] (by simp [go_sem, Act.eval, -Array.getD_eq_getD_getElem?, enters127, e23, e25]) ?_⟩
      refine (unhide HIS y.f w1 ((unhide HL0).trans (hD.mono (unhide HL0).size)) ((unhide HB0).below hD)).mono ?_
      rintro e w6 ⟨rfl, hb6⟩
      exact ⟨_, γ, rfl, rfl, hD.trans (hb6.mono hD.size), fun _ _ _ _ h => h⟩
    | 8, ho =>
      simp at ho
      subst ho
      have e22 : ac.tmps.getD 22 undef = .int .i64 (getW X i g y.p).1 := hv 3 22 rfl (by kernel_rfl)
      have e26 : ac.tmps.getD 26 undef = .int .i64 (getW X i g y.f).1 := hv 7 26 rfl (by kernel_rfl)
      exact .inl ⟨rfl, gho_reads γ (.int .i64 (IntKind.i64.wrap ((getW X i g y.p).1 + (getW X i g y.f).1))) (by simp [go_sem, Act.eval, -Array.getD_eq_getD_getElem?, e22, e26]) rfl (hD) (fun _ _ _ _ h => h)⟩
    | 9, ho =>
      simp at ho
      subst ho
      have e27 : ac.tmps.getD 27 undef = .int .i64 (IntKind.i64.wrap ((getW X i g y.p).1 + (getW X i g y.f).1)) := hv 8 27 rfl (by kernel_rfl)
      exact .inl ⟨rfl, gho_reads γ (.int .i64 (IntKind.i64.wrap ((getW X i g y.p).1 + (getW X i g y.f).1))) (by simp [go_sem, Act.eval, -Array.getD_eq_getD_getElem?, e27]) rfl (hD) (fun _ _ _ _ h => h)⟩
    | ix + 10, ho => simp at ho
  case hend =>
    intro γ v L w9 hD hall hv
    have vv : v 9 = .int .i64 (IntKind.i64.wrap ((getW X i g y.p).1 + (getW X i g y.f).1)) := hv 9 6 rfl
    have HD := hide hD
    clear hv hall hD h0
    simp only [putOps, List.getElem?_cons_zero, List.getElem?_cons_succ, Option.bind_some, List.length_cons, List.length_nil, Nat.reduceAdd, vv]
    clear vv
    go_frame
    go_wp2
    go_ret
    exact ⟨rfl, (unhide HL0).trans ((unhide HD).mono (unhide HL0).size)⟩
set_option maxRecDepth 8000 in
set_option maxHeartbeats 4000000 in
theorem amount_more (A : Option Addr) (cap : Nat) (G : Option Addr) (gcap : Nat) (X : Wd) (i g : Int) (y : ActI) (w : World) (hn0 : X.rows.length ≤ 9223372036854775807) (hX : WldAt w A cap G gcap X) (hk : y.k = 4) :
    Calls Try.prog 116 #[wldV A cap G gcap X, beingV i g, actV y.k y.p y.f y.n] w fun e w' => e = .returned (.int .i64 (IntKind.i64.wrap ((getW X i g y.p).1 + y.n))) ∧ Below w.heap.size w w' := by
  have hIS := fun p W (hb : Below w.heap.size w W) (hB : Bxs w.heap.size [([.slice A X.rows.length cap, .slice G X.gens.length gcap], 40), ([.int .i64 i, .int .i64 g], 50), ([.int .i64 y.k, .int .i64 y.p, .int .i64 y.f, .int .i64 y.n], 76)] W) => is_any A cap G gcap X i g p w.heap.size W hn0 (hX.below hb) (hB.cell 0 rfl 0 rfl) (hB.cell 0 rfl 1 rfl) (hB.cell 1 rfl 0 rfl) (hB.cell 1 rfl 1 rfl)
  have hB0 := Bxs.start w [([.slice A X.rows.length cap, .slice G X.gens.length gcap], 40), ([.int .i64 i, .int .i64 g], 50), ([.int .i64 y.k, .int .i64 y.p, .int .i64 y.f, .int .i64 y.n], 76)]
  have hb0 := allocs_below [([.slice A X.rows.length cap, .slice G X.gens.length gcap], 40), ([.int .i64 i, .int .i64 g], 50), ([.int .i64 y.k, .int .i64 y.p, .int .i64 y.f, .int .i64 y.n], 76)] w
  obtain ⟨W0, hW0⟩ : ∃ W0, W0 = allocs w [([.slice A X.rows.length cap, .slice G X.gens.length gcap], 40), ([.int .i64 i, .int .i64 g], 50), ([.int .i64 y.k, .int .i64 y.p, .int .i64 y.f, .int .i64 y.n], 76)] := ⟨_, rfl⟩
  rw [← hW0] at hB0 hb0
  have hW0' : ((w.alloc (.cells #[.slice A X.rows.length cap, .slice G X.gens.length gcap] 40)).alloc (.cells #[.int .i64 i, .int .i64 g] 50)).alloc (.cells #[.int .i64 y.k, .int .i64 y.p, .int .i64 y.f, .int .i64 y.n] 76) = W0 := hW0.symm
  have HIS := hide hIS
  have HW0 := hide hW0'
  have HB0 := hide hB0
  have HL0 := hide hb0
  have a0 := hB0.cell 2 rfl 0 rfl
  have a1 := hB0.cell 2 rfl 1 rfl
  have a2 := hB0.cell 2 rfl 2 rfl
  have a3 := hB0.cell 2 rfl 3 rfl
  clear hIS hW0 hW0' hB0 hb0 hX
  unfold wldV worldV beingV actV
  have HK := hide hk
  clear hk
  go_enter Try.func116, Try.ntmps116
  go_upto_region 1 with fail
  rw [unhide HW0]
  have hk := unhide HK
  go_wp2_with fail
  have h0 : Below W0.heap.size W0 W0.drew := (Below.refl _ _).drew
  refine wp_region_gho (fun (γ : Unit) ix v => (([fun v => v = .func (.func 127) #[] #[.pointer (some ⟨w.heap.size, 0, none⟩), .pointer (some ⟨w.heap.size + 1, 0, none⟩)], fun v => v = .pointer (some ⟨w.heap.size + 2, 1, none⟩), fun v => v = .int .i64 y.p, fun v => v = .int .i64 (getW X i g y.p).1, fun v => v = .pointer (some ⟨w.heap.size + 2, 3, none⟩), fun v => v = .int .i64 y.n, fun v => v = .int .i64 (IntKind.i64.wrap ((getW X i g y.p).1 + y.n)), fun v => v = .int .i64 (IntKind.i64.wrap ((getW X i g y.p).1 + y.n))] : List (Value → Prop)).getD ix (fun _ => True)) v) (fun (_ : Unit) (_ : Nat → Bool) W => Below W0.heap.size W0 W) (()) (by kernel_rfl) (by kernel_rfl) (by kernel_rfl) h0 ?hstep ?hend
  case hstep =>
    intro γ ix o ho L ac w1 hD hL hed hcl hout hv
    match ix, ho with
    | 0, ho =>
      simp at ho
      subst ho
      have e7 : ac.tmps.getD 7 undef = .func (.func 127) #[] #[.pointer (some ⟨w.heap.size, 0, none⟩), .pointer (some ⟨w.heap.size + 1, 0, none⟩)] := hout 7 (by decide +kernel)
      exact .inl ⟨rfl, gho_reads γ (.func (.func 127) #[] #[.pointer (some ⟨w.heap.size, 0, none⟩), .pointer (some ⟨w.heap.size + 1, 0, none⟩)]) (by simp [go_sem, Act.eval, -Array.getD_eq_getD_getElem?, e7]) rfl (hD) (fun _ _ _ _ h => h)⟩
    | 1, ho =>
      simp at ho
      subst ho
      have e5 : ac.tmps.getD 5 undef = .pointer (some ⟨w.heap.size + 2, 0, none⟩) := hout 5 (by decide +kernel)
      exact .inl ⟨rfl, gho_reads γ (.pointer (some ⟨w.heap.size + 2, 1, none⟩)) (by simp [go_sem, Act.eval, -Array.getD_eq_getD_getElem?, e5]) rfl (hD) (fun _ _ _ _ h => h)⟩
    | 2, ho =>
      simp at ho
      subst ho
      have e31 : ac.tmps.getD 31 undef = .pointer (some ⟨w.heap.size + 2, 1, none⟩) := hv 1 31 rfl (by kernel_rfl)
      have bb := (unhide HB0).below hD
      have c0 := bb.cell 2 rfl 1 rfl
      exact .inl ⟨rfl, gho_reads γ (.int .i64 y.p) (by simp [go_sem, Act.eval, -Array.getD_eq_getD_getElem?, e31, c0]) rfl (hD) (fun _ _ _ _ h => h)⟩
    | 3, ho =>
      simp at ho
      subst ho
      have e30 : ac.tmps.getD 30 undef = .func (.func 127) #[] #[.pointer (some ⟨w.heap.size, 0, none⟩), .pointer (some ⟨w.heap.size + 1, 0, none⟩)] := hv 0 30 rfl (by kernel_rfl)
      have e32 : ac.tmps.getD 32 undef = .int .i64 y.p := hv 2 32 rfl (by kernel_rfl)
      refine .inl ⟨rfl, gho_enters 127 #[.int .i64 y.p, .pointer (some ⟨w.heap.size, 0, none⟩), .pointer (some ⟨w.heap.size + 1, 0, none⟩)] (by simp [go_sem, Act.eval, -Array.getD_eq_getD_getElem?, enters127, e30, e32]) ?_⟩
      refine (unhide HIS y.p w1 ((unhide HL0).trans (hD.mono (unhide HL0).size)) ((unhide HB0).below hD)).mono ?_
      rintro e w6 ⟨rfl, hb6⟩
      exact ⟨_, γ, rfl, rfl, hD.trans (hb6.mono hD.size), fun _ _ _ _ h => h⟩
    | 4, ho =>
      simp at ho
      subst ho
      have e5 : ac.tmps.getD 5 undef = .pointer (some ⟨w.heap.size + 2, 0, none⟩) := hout 5 (by decide +kernel)
      exact .inl ⟨rfl, gho_reads γ (.pointer (some ⟨w.heap.size + 2, 3, none⟩)) (by simp [go_sem, Act.eval, -Array.getD_eq_getD_getElem?, e5]) rfl (hD) (fun _ _ _ _ h => h)⟩
    | 5, ho =>
      simp at ho
      subst ho
      have e34 : ac.tmps.getD 34 undef = .pointer (some ⟨w.heap.size + 2, 3, none⟩) := hv 4 34 rfl (by kernel_rfl)
      have bb := (unhide HB0).below hD
      have c0 := bb.cell 2 rfl 3 rfl
      exact .inl ⟨rfl, gho_reads γ (.int .i64 y.n) (by simp [go_sem, Act.eval, -Array.getD_eq_getD_getElem?, e34, c0]) rfl (hD) (fun _ _ _ _ h => h)⟩
    | 6, ho =>
      simp at ho
      subst ho
      have e33 : ac.tmps.getD 33 undef = .int .i64 (getW X i g y.p).1 := hv 3 33 rfl (by kernel_rfl)
      have e35 : ac.tmps.getD 35 undef = .int .i64 y.n := hv 5 35 rfl (by kernel_rfl)
      exact .inl ⟨rfl, gho_reads γ (.int .i64 (IntKind.i64.wrap ((getW X i g y.p).1 + y.n))) (by simp [go_sem, Act.eval, -Array.getD_eq_getD_getElem?, e33, e35]) rfl (hD) (fun _ _ _ _ h => h)⟩
    | 7, ho =>
      simp at ho
      subst ho
      have e36 : ac.tmps.getD 36 undef = .int .i64 (IntKind.i64.wrap ((getW X i g y.p).1 + y.n)) := hv 6 36 rfl (by kernel_rfl)
      exact .inl ⟨rfl, gho_reads γ (.int .i64 (IntKind.i64.wrap ((getW X i g y.p).1 + y.n))) (by simp [go_sem, Act.eval, -Array.getD_eq_getD_getElem?, e36]) rfl (hD) (fun _ _ _ _ h => h)⟩
    | ix + 8, ho => simp at ho
  case hend =>
    intro γ v L w9 hD hall hv
    have vv : v 7 = .int .i64 (IntKind.i64.wrap ((getW X i g y.p).1 + y.n)) := hv 7 6 rfl
    have HD := hide hD
    clear hv hall hD h0
    simp only [putOps, List.getElem?_cons_zero, List.getElem?_cons_succ, Option.bind_some, List.length_cons, List.length_nil, Nat.reduceAdd, vv]
    clear vv
    go_frame
    go_wp2
    go_ret
    exact ⟨rfl, (unhide HL0).trans ((unhide HD).mono (unhide HL0).size)⟩
set_option maxRecDepth 8000 in
set_option maxHeartbeats 4000000 in
theorem amount_put (A : Option Addr) (cap : Nat) (G : Option Addr) (gcap : Nat) (X : Wd) (i g : Int) (y : ActI) (w : World) (hn0 : X.rows.length ≤ 9223372036854775807) (hX : WldAt w A cap G gcap X) (h2 : ¬ y.k = 2) (h3 : ¬ y.k = 3) (h4 : ¬ y.k = 4) :
    Calls Try.prog 116 #[wldV A cap G gcap X, beingV i g, actV y.k y.p y.f y.n] w fun e w' => e = .returned (.int .i64 y.n) ∧ Below w.heap.size w w' := by
  have hIS := fun p W (hb : Below w.heap.size w W) (hB : Bxs w.heap.size [([.slice A X.rows.length cap, .slice G X.gens.length gcap], 40), ([.int .i64 i, .int .i64 g], 50), ([.int .i64 y.k, .int .i64 y.p, .int .i64 y.f, .int .i64 y.n], 76)] W) => is_any A cap G gcap X i g p w.heap.size W hn0 (hX.below hb) (hB.cell 0 rfl 0 rfl) (hB.cell 0 rfl 1 rfl) (hB.cell 1 rfl 0 rfl) (hB.cell 1 rfl 1 rfl)
  have hB0 := Bxs.start w [([.slice A X.rows.length cap, .slice G X.gens.length gcap], 40), ([.int .i64 i, .int .i64 g], 50), ([.int .i64 y.k, .int .i64 y.p, .int .i64 y.f, .int .i64 y.n], 76)]
  have hb0 := allocs_below [([.slice A X.rows.length cap, .slice G X.gens.length gcap], 40), ([.int .i64 i, .int .i64 g], 50), ([.int .i64 y.k, .int .i64 y.p, .int .i64 y.f, .int .i64 y.n], 76)] w
  obtain ⟨W0, hW0⟩ : ∃ W0, W0 = allocs w [([.slice A X.rows.length cap, .slice G X.gens.length gcap], 40), ([.int .i64 i, .int .i64 g], 50), ([.int .i64 y.k, .int .i64 y.p, .int .i64 y.f, .int .i64 y.n], 76)] := ⟨_, rfl⟩
  rw [← hW0] at hB0 hb0
  have hW0' : ((w.alloc (.cells #[.slice A X.rows.length cap, .slice G X.gens.length gcap] 40)).alloc (.cells #[.int .i64 i, .int .i64 g] 50)).alloc (.cells #[.int .i64 y.k, .int .i64 y.p, .int .i64 y.f, .int .i64 y.n] 76) = W0 := hW0.symm
  have HIS := hide hIS
  have HW0 := hide hW0'
  have HB0 := hide hB0
  have HL0 := hide hb0
  have a0 := hB0.cell 2 rfl 0 rfl
  have a1 := hB0.cell 2 rfl 1 rfl
  have a2 := hB0.cell 2 rfl 2 rfl
  have a3 := hB0.cell 2 rfl 3 rfl
  clear hIS hW0 hW0' hB0 hb0 hX
  unfold wldV worldV beingV actV
  go_enter Try.func116, Try.ntmps116
  go_upto_region 1 with fail
  rw [unhide HW0]
  go_wp2
  go_ret
  exact ⟨rfl, unhide HL0⟩
theorem amount_any (A : Option Addr) (cap : Nat) (G : Option Addr) (gcap : Nat) (X : Wd) (i g : Int) (y : ActI) (w : World) (hn0 : X.rows.length ≤ 9223372036854775807) (hX : WldAt w A cap G gcap X) :
    Calls Try.prog 116 #[wldV A cap G gcap X, beingV i g, actV y.k y.p y.f y.n] w fun e w' => e = .returned (.int .i64 (amtF X i g y)) ∧ Below w.heap.size w w' := by
  unfold amtF
  by_cases h2 : y.k = 2
  · rw [if_pos h2]; exact amount_copy A cap G gcap X i g y w hn0 hX h2
  · rw [if_neg h2]
    by_cases h3 : y.k = 3
    · rw [if_pos h3]; exact amount_add A cap G gcap X i g y w hn0 hX h3
    · rw [if_neg h3]
      by_cases h4 : y.k = 4
      · rw [if_pos h4]; exact amount_more A cap G gcap X i g y w hn0 hX h4
      · rw [if_neg h4]; exact amount_put A cap G gcap X i g y w hn0 hX h2 h3 h4
end Go.Proofs.Ytnbleebilmghcab
namespace Go.Proofs.Ytnbleebilmghcab
open Go Go.RowKit
attribute [local go_sem ↓] Go.wp_at_zero Go.wp_at_succ
theorem wf_puts0 {B : Nat} {A G : Option Addr} {X : Wd} {W : World} {A' : Option Addr} {c' : Nat} {G' : Option Addr} {gc' : Nat} {Y : Wd} (h : WF B A G X W A' c' G' gc' Y) {w0 k o : Nat} {vs : List Value} (h1 : ∀ k, ¬ Blk A G X (w0 + k)) (h2 : w0 + k < B) : WF B A G X (W.setCells (w0 + k) o vs) A' c' G' gc' Y := h.puts (h1 k) h2
set_option maxRecDepth 8000 in
set_option maxHeartbeats 4000000 in
theorem rdropx_no (A : Option Addr) (cap : Nat) (G : Option Addr) (gcap : Nat) (X : Wd) (i g : Int) (p : Int) (w : World) (hn0 : X.rows.length ≤ 9223372036854775807) (hX : WldAt w A cap G gcap X) (hg : (getW X i g p).2 = false) :
    Calls Try.prog 113 #[wldV A cap G gcap X, beingV i g, .int .i64 p] w fun e w' => e = .returned (.tuple #[wldV A cap G gcap X, .int .i64 0]) ∧ WldAt w' A cap G gcap X ∧ Below w.heap.size w w' := by
  have hB0 := Bxs.start w [([.slice A X.rows.length cap, .slice G X.gens.length gcap], 40), ([.int .i64 i, .int .i64 g], 50), ([.slice none 0 0, .slice none 0 0], 40)]
  have hb0 := allocs_below [([.slice A X.rows.length cap, .slice G X.gens.length gcap], 40), ([.int .i64 i, .int .i64 g], 50), ([.slice none 0 0, .slice none 0 0], 40)] w
  have hs0 := allocs_size [([.slice A X.rows.length cap, .slice G X.gens.length gcap], 40), ([.int .i64 i, .int .i64 g], 50), ([.slice none 0 0, .slice none 0 0], 40)] w
  obtain ⟨W0, hW0⟩ : ∃ W0, W0 = allocs w [([.slice A X.rows.length cap, .slice G X.gens.length gcap], 40), ([.int .i64 i, .int .i64 g], 50), ([.slice none 0 0, .slice none 0 0], 40)] := ⟨_, rfl⟩
  rw [← hW0] at hB0 hb0 hs0
  have hW0' : ((w.alloc (.cells #[.slice A X.rows.length cap, .slice G X.gens.length gcap] 40)).alloc (.cells #[.int .i64 i, .int .i64 g] 50)).alloc (.cells #[.slice none 0 0, .slice none 0 0] 40) = W0 := hW0.symm
  have HNB : Hid (∀ k, ¬ Blk A G X (w.heap.size + k)) := hide (fun k hb => by have := blk_lt hX hb; omega)
  have HX0 := hide (hX.below hb0)
  have HS0 : Hid (w.heap.size + 3 ≤ W0.heap.size) := hide (by rw [hs0]; simp)
  have hGE := get_any A X.rows.length cap G X.gens.length gcap (fun j => X.rows.getD j dR) i g p W0 hn0 (hX.below hb0).rows
  rw [show getI (fun j => X.rows.getD j dR) X.rows.length i g p = getW X i g p from rfl] at hGE
  unfold worldV beingV at hGE
  generalize (getW X i g p).1 = gv at *
  rw [hg] at hGE
  have HGE := hide hGE
  clear hGE hg
  have HW0 := hide hW0'
  have HB0 := hide hB0
  have HL0 := hide hb0
  have w0 := hB0.cell 0 rfl 0 rfl
  have w1 := hB0.cell 0 rfl 1 rfl
  rw [Nat.add_zero] at w0 w1
  have b0 := hB0.cell 1 rfl 0 rfl
  have b1 := hB0.cell 1 rfl 1 rfl
  clear hW0 hW0' hB0 hb0 hX hs0
  unfold wldV worldV beingV 
  go_enter Try.func113, Try.ntmps113
  go_upto_region 1 with fail
  rw [unhide HW0]
  go_wp2_with (first
    | (go_at_call 64; refine (unhide HGE).mono ?_; rintro e w2 ⟨rfl, hb2⟩; have h2 := (unhide HB0).below hb2; have x0 := h2.cell 0 rfl 0 rfl; have x1 := h2.cell 0 rfl 1 rfl; rw [Nat.add_zero] at x0 x1; have HB2 := hide h2; have HL2 := hide ((unhide HL0).trans (hb2.mono (unhide HL0).size)); have HF2 : Hid (WF (w.heap.size + 3) A G X w2 A cap G gcap X) := hide (WF.refl ((unhide HX0).below hb2)); clear hb2 h2 w0 w1 b0 b1)
    | (refine wpList_putN rfl 40 (.tmp 6) (.tmp 19) rfl (w.heap.size + 2) 0 [.slice A X.rows.length cap, .slice G X.gens.length gcap] rfl rfl (by simp [Value.oneCell']) size38 ((unhide HB2).there 2 rfl 2 rfl) ?_; intro W3 hW; have q1 := (unhide HB2).give 2 rfl [.slice A X.rows.length cap, .slice G X.gens.length gcap] rfl; have q3 := below_setCells (w.heap.size + 2) (by omega) [.slice A X.rows.length cap, .slice G X.gens.length gcap] 0 _ (unhide HL2); have q4 := wf_puts0 (k := 2) (o := 0) (vs := [.slice A X.rows.length cap, .slice G X.gens.length gcap]) (unhide HF2) (unhide HNB) (by omega); rw [← hW] at q1 q3 q4; have HB3 := hide q1; have HL3 := hide q3; have HF3 := hide q4; clear hW q1 q3 q4))
  have t0 := (unhide HB3).cell 2 rfl 0 rfl
  have t1 := (unhide HB3).cell 2 rfl 1 rfl
  refine bodyPost_ret (v := .tuple #[.agg #[.slice A X.rows.length cap, .slice G X.gens.length gcap], .int .i64 0]) (by simp [results, Try.results113, go_sem, t0, t1]) rfl ⟨rfl, (unhide HF3).at_, (unhide HL3)⟩
set_option maxRecDepth 8000 in
set_option maxHeartbeats 4000000 in
theorem rdropx_yes (A : Option Addr) (cap : Nat) (G : Option Addr) (gcap : Nat) (X : Wd) (i g : Int) (p : Int) (w : World) (hn0 : X.rows.length ≤ 9223372036854775807) (hX : WldAt w A cap G gcap X) (hg : (getW X i g p).2 = true) :
    Calls Try.prog 113 #[wldV A cap G gcap X, beingV i g, .int .i64 p] w fun e w' => ∃ A' c' G' gc', e = .returned (.tuple #[wldV A' c' G' gc' (dropF X i g p).2, .int .i64 (dropF X i g p).1]) ∧ WF w.heap.size A G X w' A' c' G' gc' (dropF X i g p).2 ∧ Below w.heap.size w w' := by
  have hDR := fun W (hb : Below w.heap.size w W) => drop_any A cap G gcap X i g p W hn0 (hX.below hb)
  obtain ⟨Y, hY⟩ : ∃ Y, Y = (dropF X i g p).2 := ⟨_, rfl⟩
  obtain ⟨err, herr⟩ : ∃ err, err = (dropF X i g p).1 := ⟨_, rfl⟩
  rw [← hY, ← herr] at hDR ⊢
  clear hY herr
  unfold wldV worldV beingV at hDR
  have HDR := hide hDR
  clear hDR
  have hB0 := Bxs.start w [([.slice A X.rows.length cap, .slice G X.gens.length gcap], 40), ([.int .i64 i, .int .i64 g], 50), ([.slice none 0 0, .slice none 0 0], 40)]
  have hb0 := allocs_below [([.slice A X.rows.length cap, .slice G X.gens.length gcap], 40), ([.int .i64 i, .int .i64 g], 50), ([.slice none 0 0, .slice none 0 0], 40)] w
  have hs0 := allocs_size [([.slice A X.rows.length cap, .slice G X.gens.length gcap], 40), ([.int .i64 i, .int .i64 g], 50), ([.slice none 0 0, .slice none 0 0], 40)] w
  obtain ⟨W0, hW0⟩ : ∃ W0, W0 = allocs w [([.slice A X.rows.length cap, .slice G X.gens.length gcap], 40), ([.int .i64 i, .int .i64 g], 50), ([.slice none 0 0, .slice none 0 0], 40)] := ⟨_, rfl⟩
  rw [← hW0] at hB0 hb0 hs0
  have hW0' : ((w.alloc (.cells #[.slice A X.rows.length cap, .slice G X.gens.length gcap] 40)).alloc (.cells #[.int .i64 i, .int .i64 g] 50)).alloc (.cells #[.slice none 0 0, .slice none 0 0] 40) = W0 := hW0.symm
  have HNB : Hid (∀ k, ¬ Blk A G X (w.heap.size + k)) := hide (fun k hb => by have := blk_lt hX hb; omega)
  have HX0 := hide (hX.below hb0)
  have HS0 : Hid (w.heap.size + 3 ≤ W0.heap.size) := hide (by rw [hs0]; simp)
  have hGE := get_any A X.rows.length cap G X.gens.length gcap (fun j => X.rows.getD j dR) i g p W0 hn0 (hX.below hb0).rows
  rw [show getI (fun j => X.rows.getD j dR) X.rows.length i g p = getW X i g p from rfl] at hGE
  unfold worldV beingV at hGE
  generalize (getW X i g p).1 = gv at *
  rw [hg] at hGE
  have HGE := hide hGE
  clear hGE hg
  have HW0 := hide hW0'
  have HB0 := hide hB0
  have HL0 := hide hb0
  have w0 := hB0.cell 0 rfl 0 rfl
  have w1 := hB0.cell 0 rfl 1 rfl
  rw [Nat.add_zero] at w0 w1
  have b0 := hB0.cell 1 rfl 0 rfl
  have b1 := hB0.cell 1 rfl 1 rfl
  clear hW0 hW0' hB0 hb0 hX hs0
  unfold wldV worldV beingV 
  go_enter Try.func113, Try.ntmps113
  go_upto_region 1 with fail
  rw [unhide HW0]
  go_wp2_with (first
    | (go_at_call 64; refine (unhide HGE).mono ?_; rintro e w2 ⟨rfl, hb2⟩; have h2 := (unhide HB0).below hb2; have x0 := h2.cell 0 rfl 0 rfl; have x1 := h2.cell 0 rfl 1 rfl; rw [Nat.add_zero] at x0 x1; have y0 := h2.cell 1 rfl 0 rfl; have y1 := h2.cell 1 rfl 1 rfl; have HB2 := hide h2; have HL2 := hide ((unhide HL0).trans (hb2.mono (unhide HL0).size)); have HS2 : Hid (w.heap.size + 3 ≤ w2.heap.size) := hide (Nat.le_trans (unhide HS0) hb2.size); clear hb2 h2 w0 w1 b0 b1)
    | (go_at_call 125; refine (unhide HDR _ (unhide HL2)).mono ?_; rintro e w4 ⟨A4, c4, G4, gc4, rfl, hN4, hb4⟩; have HB4 := hide ((unhide HB2).below hb4); have HL4 := hide ((unhide HL2).trans (hb4.mono (unhide HL2).size)); have HF4 : Hid (WF (w.heap.size + 3) A G X w4 A4 c4 G4 gc4 Y) := hide ((WF.new hN4).le (unhide HS2)); clear hN4 hb4 x0 x1 y0 y1)
    | (refine wpList_putN rfl 40 (.tmp 6) (.tmp 24) rfl (w.heap.size + 2) 0 [.slice A4 Y.rows.length c4, .slice G4 Y.gens.length gc4] rfl rfl (by simp [Value.oneCell']) size38 ((unhide HB4).there 2 rfl 2 rfl) ?_; intro W5 hW; have q1 := (unhide HB4).give 2 rfl [.slice A4 Y.rows.length c4, .slice G4 Y.gens.length gc4] rfl; have q3 := below_setCells (w.heap.size + 2) (by omega) [.slice A4 Y.rows.length c4, .slice G4 Y.gens.length gc4] 0 _ (unhide HL4); have q4 := wf_puts0 (k := 2) (o := 0) (vs := [.slice A4 Y.rows.length c4, .slice G4 Y.gens.length gc4]) (unhide HF4) (unhide HNB) (by omega); rw [← hW] at q1 q3 q4; have HB5 := hide q1; have HL5 := hide q3; have HF5 := hide q4; clear hW q1 q3 q4))
  have t0 := (unhide HB5).cell 2 rfl 0 rfl
  have t1 := (unhide HB5).cell 2 rfl 1 rfl
  refine bodyPost_ret (v := .tuple #[.agg #[.slice A4 Y.rows.length c4, .slice G4 Y.gens.length gc4], .int .i64 err]) (by simp [results, Try.results113, go_sem, t0, t1]) rfl ⟨A4, c4, G4, gc4, rfl, (unhide HF5).le (by omega), (unhide HL5)⟩
set_option maxRecDepth 8000 in
set_option maxHeartbeats 4000000 in
theorem act_kill (A : Option Addr) (cap : Nat) (G : Option Addr) (gcap : Nat) (X : Wd) (i g : Int) (y : ActI) (w : World) (hn0 : X.rows.length ≤ 9223372036854775807) (hX : WldAt w A cap G gcap X) (hk : y.k = 6) :
    Calls Try.prog 97 #[wldV A cap G gcap X, beingV i g, actV y.k y.p y.f y.n] w fun e w' => ∃ A' c' G' gc', e = .returned (.tuple #[wldV A' c' G' gc' (killF X i g).2, .int .i64 (killF X i g).1]) ∧ WF w.heap.size A G X w' A' c' G' gc' (killF X i g).2 ∧ Below w.heap.size w w' := by
  have hDR := fun W (hb : Below w.heap.size w W) => kill_any A cap G gcap X i g W hn0 (hX.below hb)
  obtain ⟨Y, hY⟩ : ∃ Y, Y = (killF X i g).2 := ⟨_, rfl⟩
  obtain ⟨err, herr⟩ : ∃ err, err = (killF X i g).1 := ⟨_, rfl⟩
  rw [← hY, ← herr] at hDR ⊢
  clear hY herr
  unfold wldV worldV beingV at hDR
  have HDR := hide hDR
  clear hDR
  have hB0 := Bxs.start w [([.slice A X.rows.length cap, .slice G X.gens.length gcap], 40), ([.int .i64 i, .int .i64 g], 50), ([.int .i64 y.k, .int .i64 y.p, .int .i64 y.f, .int .i64 y.n], 76), ([.slice none 0 0, .slice none 0 0], 40)]
  have hb0 := allocs_below [([.slice A X.rows.length cap, .slice G X.gens.length gcap], 40), ([.int .i64 i, .int .i64 g], 50), ([.int .i64 y.k, .int .i64 y.p, .int .i64 y.f, .int .i64 y.n], 76), ([.slice none 0 0, .slice none 0 0], 40)] w
  have hs0 := allocs_size [([.slice A X.rows.length cap, .slice G X.gens.length gcap], 40), ([.int .i64 i, .int .i64 g], 50), ([.int .i64 y.k, .int .i64 y.p, .int .i64 y.f, .int .i64 y.n], 76), ([.slice none 0 0, .slice none 0 0], 40)] w
  obtain ⟨W0, hW0⟩ : ∃ W0, W0 = allocs w [([.slice A X.rows.length cap, .slice G X.gens.length gcap], 40), ([.int .i64 i, .int .i64 g], 50), ([.int .i64 y.k, .int .i64 y.p, .int .i64 y.f, .int .i64 y.n], 76), ([.slice none 0 0, .slice none 0 0], 40)] := ⟨_, rfl⟩
  rw [← hW0] at hB0 hb0 hs0
  have hW0' : (((w.alloc (.cells #[.slice A X.rows.length cap, .slice G X.gens.length gcap] 40)).alloc (.cells #[.int .i64 i, .int .i64 g] 50)).alloc (.cells #[.int .i64 y.k, .int .i64 y.p, .int .i64 y.f, .int .i64 y.n] 76)).alloc (.cells #[.slice none 0 0, .slice none 0 0] 40) = W0 := hW0.symm
  have HNB : Hid (∀ k, ¬ Blk A G X (w.heap.size + k)) := hide (fun k hb => by have := blk_lt hX hb; omega)
  have HX0 := hide (hX.below hb0)
  have HS0 : Hid (w.heap.size + 4 ≤ W0.heap.size) := hide (by rw [hs0]; simp)
  have HW0 := hide hW0'
  have HB0 := hide hB0
  have HL0 := hide hb0
  have w0 := hB0.cell 0 rfl 0 rfl
  have w1 := hB0.cell 0 rfl 1 rfl
  rw [Nat.add_zero] at w0 w1
  have b0 := hB0.cell 1 rfl 0 rfl
  have b1 := hB0.cell 1 rfl 1 rfl
  have a0 := hB0.cell 2 rfl 0 rfl
  have a1 := hB0.cell 2 rfl 1 rfl
  have a2 := hB0.cell 2 rfl 2 rfl
  have a3 := hB0.cell 2 rfl 3 rfl
  clear hW0 hW0' hB0 hb0 hX hs0
  unfold wldV worldV beingV  actV
  have HK := hide hk
  clear hk
  go_enter Try.func97, Try.ntmps97
  go_upto_region 1 with fail
  rw [unhide HW0]
  have hk := unhide HK
  go_wp2_with (first
    | (go_at_call 112; refine (unhide HDR _ (unhide HL0)).mono ?_; rintro e w4 ⟨A4, c4, G4, gc4, rfl, hN4, hb4⟩; have HB4 := hide ((unhide HB0).below hb4); have HL4 := hide ((unhide HL0).trans (hb4.mono (unhide HL0).size)); have HF4 : Hid (WF (w.heap.size + 4) A G X w4 A4 c4 G4 gc4 Y) := hide ((WF.new hN4).le (unhide HS0)); clear hN4 hb4 w0 w1 b0 b1 a0 a1 a2 a3)
    | (refine wpList_putN rfl 40 (.tmp 6) (.tmp 18) rfl (w.heap.size + 3) 0 [.slice A4 Y.rows.length c4, .slice G4 Y.gens.length gc4] rfl rfl (by simp [Value.oneCell']) size38 ((unhide HB4).there 3 rfl 2 rfl) ?_; intro W5 hW; have q1 := (unhide HB4).give 3 rfl [.slice A4 Y.rows.length c4, .slice G4 Y.gens.length gc4] rfl; have q3 := below_setCells (w.heap.size + 3) (by omega) [.slice A4 Y.rows.length c4, .slice G4 Y.gens.length gc4] 0 _ (unhide HL4); have q4 := wf_puts0 (k := 3) (o := 0) (vs := [.slice A4 Y.rows.length c4, .slice G4 Y.gens.length gc4]) (unhide HF4) (unhide HNB) (by omega); rw [← hW] at q1 q3 q4; have HB5 := hide q1; have HL5 := hide q3; have HF5 := hide q4; clear hW q1 q3 q4))
  have t0 := (unhide HB5).cell 3 rfl 0 rfl
  have t1 := (unhide HB5).cell 3 rfl 1 rfl
  refine bodyPost_ret (v := .tuple #[.agg #[.slice A4 Y.rows.length c4, .slice G4 Y.gens.length gc4], .int .i64 err]) (by simp [results, Try.results97, go_sem, t0, t1]) rfl ⟨A4, c4, G4, gc4, rfl, (unhide HF5).le (by omega), (unhide HL5)⟩
set_option maxRecDepth 8000 in
set_option maxHeartbeats 4000000 in
theorem act_dropy (A : Option Addr) (cap : Nat) (G : Option Addr) (gcap : Nat) (X : Wd) (i g : Int) (y : ActI) (w : World) (hn0 : X.rows.length ≤ 9223372036854775807) (hX : WldAt w A cap G gcap X) (hk : y.k = 5) (hg : (getW X i g y.p).2 = true) :
    Calls Try.prog 97 #[wldV A cap G gcap X, beingV i g, actV y.k y.p y.f y.n] w fun e w' => ∃ A' c' G' gc', e = .returned (.tuple #[wldV A' c' G' gc' (dropF X i g y.p).2, .int .i64 (dropF X i g y.p).1]) ∧ WF w.heap.size A G X w' A' c' G' gc' (dropF X i g y.p).2 ∧ Below w.heap.size w w' := by
  have hDR := fun W (hb : Below w.heap.size w W) => rdropx_yes A cap G gcap X i g y.p W hn0 (hX.below hb) hg
  obtain ⟨Y, hY⟩ : ∃ Y, Y = (dropF X i g y.p).2 := ⟨_, rfl⟩
  obtain ⟨err, herr⟩ : ∃ err, err = (dropF X i g y.p).1 := ⟨_, rfl⟩
  rw [← hY, ← herr] at hDR ⊢
  clear hY herr
  unfold wldV worldV beingV at hDR
  have HDR := hide hDR
  clear hDR
  have hB0 := Bxs.start w [([.slice A X.rows.length cap, .slice G X.gens.length gcap], 40), ([.int .i64 i, .int .i64 g], 50), ([.int .i64 y.k, .int .i64 y.p, .int .i64 y.f, .int .i64 y.n], 76), ([.slice none 0 0, .slice none 0 0], 40)]
  have hb0 := allocs_below [([.slice A X.rows.length cap, .slice G X.gens.length gcap], 40), ([.int .i64 i, .int .i64 g], 50), ([.int .i64 y.k, .int .i64 y.p, .int .i64 y.f, .int .i64 y.n], 76), ([.slice none 0 0, .slice none 0 0], 40)] w
  have hs0 := allocs_size [([.slice A X.rows.length cap, .slice G X.gens.length gcap], 40), ([.int .i64 i, .int .i64 g], 50), ([.int .i64 y.k, .int .i64 y.p, .int .i64 y.f, .int .i64 y.n], 76), ([.slice none 0 0, .slice none 0 0], 40)] w
  obtain ⟨W0, hW0⟩ : ∃ W0, W0 = allocs w [([.slice A X.rows.length cap, .slice G X.gens.length gcap], 40), ([.int .i64 i, .int .i64 g], 50), ([.int .i64 y.k, .int .i64 y.p, .int .i64 y.f, .int .i64 y.n], 76), ([.slice none 0 0, .slice none 0 0], 40)] := ⟨_, rfl⟩
  rw [← hW0] at hB0 hb0 hs0
  have hW0' : (((w.alloc (.cells #[.slice A X.rows.length cap, .slice G X.gens.length gcap] 40)).alloc (.cells #[.int .i64 i, .int .i64 g] 50)).alloc (.cells #[.int .i64 y.k, .int .i64 y.p, .int .i64 y.f, .int .i64 y.n] 76)).alloc (.cells #[.slice none 0 0, .slice none 0 0] 40) = W0 := hW0.symm
  have HNB : Hid (∀ k, ¬ Blk A G X (w.heap.size + k)) := hide (fun k hb => by have := blk_lt hX hb; omega)
  have HX0 := hide (hX.below hb0)
  have HS0 : Hid (w.heap.size + 4 ≤ W0.heap.size) := hide (by rw [hs0]; simp)
  have HW0 := hide hW0'
  have HB0 := hide hB0
  have HL0 := hide hb0
  have w0 := hB0.cell 0 rfl 0 rfl
  have w1 := hB0.cell 0 rfl 1 rfl
  rw [Nat.add_zero] at w0 w1
  have b0 := hB0.cell 1 rfl 0 rfl
  have b1 := hB0.cell 1 rfl 1 rfl
  have a0 := hB0.cell 2 rfl 0 rfl
  have a1 := hB0.cell 2 rfl 1 rfl
  have a2 := hB0.cell 2 rfl 2 rfl
  have a3 := hB0.cell 2 rfl 3 rfl
  clear hW0 hW0' hB0 hb0 hX hs0
  unfold wldV worldV beingV  actV
  have HK := hide hk
  clear hk
  go_enter Try.func97, Try.ntmps97
  go_upto_region 1 with fail
  rw [unhide HW0]
  have hk := unhide HK
  go_wp2_with (first
    | (go_at_call 113; refine (unhide HDR _ (unhide HL0)).mono ?_; rintro e w4 ⟨A4, c4, G4, gc4, rfl, hN4, hb4⟩; have HB4 := hide ((unhide HB0).below hb4); have HL4 := hide ((unhide HL0).trans (hb4.mono (unhide HL0).size)); have HF4 : Hid (WF (w.heap.size + 4) A G X w4 A4 c4 G4 gc4 Y) := hide (hN4.le (unhide HS0)); clear hN4 hb4 w0 w1 b0 b1 a0 a1 a2 a3)
    | (refine wpList_putN rfl 40 (.tmp 6) (.tmp 41) rfl (w.heap.size + 3) 0 [.slice A4 Y.rows.length c4, .slice G4 Y.gens.length gc4] rfl rfl (by simp [Value.oneCell']) size38 ((unhide HB4).there 3 rfl 2 rfl) ?_; intro W5 hW; have q1 := (unhide HB4).give 3 rfl [.slice A4 Y.rows.length c4, .slice G4 Y.gens.length gc4] rfl; have q3 := below_setCells (w.heap.size + 3) (by omega) [.slice A4 Y.rows.length c4, .slice G4 Y.gens.length gc4] 0 _ (unhide HL4); have q4 := wf_puts0 (k := 3) (o := 0) (vs := [.slice A4 Y.rows.length c4, .slice G4 Y.gens.length gc4]) (unhide HF4) (unhide HNB) (by omega); rw [← hW] at q1 q3 q4; have HB5 := hide q1; have HL5 := hide q3; have HF5 := hide q4; clear hW q1 q3 q4))
  have t0 := (unhide HB5).cell 3 rfl 0 rfl
  have t1 := (unhide HB5).cell 3 rfl 1 rfl
  refine bodyPost_ret (v := .tuple #[.agg #[.slice A4 Y.rows.length c4, .slice G4 Y.gens.length gc4], .int .i64 err]) (by simp [results, Try.results97, go_sem, t0, t1]) rfl ⟨A4, c4, G4, gc4, rfl, (unhide HF5).le (by omega), (unhide HL5)⟩
set_option maxRecDepth 8000 in
set_option maxHeartbeats 4000000 in
theorem act_dropn (A : Option Addr) (cap : Nat) (G : Option Addr) (gcap : Nat) (X : Wd) (i g : Int) (y : ActI) (w : World) (hn0 : X.rows.length ≤ 9223372036854775807) (hX : WldAt w A cap G gcap X) (hk : y.k = 5) (hg : (getW X i g y.p).2 = false) :
    Calls Try.prog 97 #[wldV A cap G gcap X, beingV i g, actV y.k y.p y.f y.n] w fun e w' => e = .returned (.tuple #[wldV A cap G gcap X, .int .i64 0]) ∧ WldAt w' A cap G gcap X ∧ Below w.heap.size w w' := by
  have hDR := fun W (hb : Below w.heap.size w W) => rdropx_no A cap G gcap X i g y.p W hn0 (hX.below hb) hg
  unfold wldV worldV beingV at hDR
  have HDR := hide hDR
  clear hDR
  have hB0 := Bxs.start w [([.slice A X.rows.length cap, .slice G X.gens.length gcap], 40), ([.int .i64 i, .int .i64 g], 50), ([.int .i64 y.k, .int .i64 y.p, .int .i64 y.f, .int .i64 y.n], 76), ([.slice none 0 0, .slice none 0 0], 40)]
  have hb0 := allocs_below [([.slice A X.rows.length cap, .slice G X.gens.length gcap], 40), ([.int .i64 i, .int .i64 g], 50), ([.int .i64 y.k, .int .i64 y.p, .int .i64 y.f, .int .i64 y.n], 76), ([.slice none 0 0, .slice none 0 0], 40)] w
  have hs0 := allocs_size [([.slice A X.rows.length cap, .slice G X.gens.length gcap], 40), ([.int .i64 i, .int .i64 g], 50), ([.int .i64 y.k, .int .i64 y.p, .int .i64 y.f, .int .i64 y.n], 76), ([.slice none 0 0, .slice none 0 0], 40)] w
  obtain ⟨W0, hW0⟩ : ∃ W0, W0 = allocs w [([.slice A X.rows.length cap, .slice G X.gens.length gcap], 40), ([.int .i64 i, .int .i64 g], 50), ([.int .i64 y.k, .int .i64 y.p, .int .i64 y.f, .int .i64 y.n], 76), ([.slice none 0 0, .slice none 0 0], 40)] := ⟨_, rfl⟩
  rw [← hW0] at hB0 hb0 hs0
  have hW0' : (((w.alloc (.cells #[.slice A X.rows.length cap, .slice G X.gens.length gcap] 40)).alloc (.cells #[.int .i64 i, .int .i64 g] 50)).alloc (.cells #[.int .i64 y.k, .int .i64 y.p, .int .i64 y.f, .int .i64 y.n] 76)).alloc (.cells #[.slice none 0 0, .slice none 0 0] 40) = W0 := hW0.symm
  have HNB : Hid (∀ k, ¬ Blk A G X (w.heap.size + k)) := hide (fun k hb => by have := blk_lt hX hb; omega)
  have HX0 := hide (hX.below hb0)
  have HS0 : Hid (w.heap.size + 4 ≤ W0.heap.size) := hide (by rw [hs0]; simp)
  have HW0 := hide hW0'
  have HB0 := hide hB0
  have HL0 := hide hb0
  have w0 := hB0.cell 0 rfl 0 rfl
  have w1 := hB0.cell 0 rfl 1 rfl
  rw [Nat.add_zero] at w0 w1
  have b0 := hB0.cell 1 rfl 0 rfl
  have b1 := hB0.cell 1 rfl 1 rfl
  have a0 := hB0.cell 2 rfl 0 rfl
  have a1 := hB0.cell 2 rfl 1 rfl
  have a2 := hB0.cell 2 rfl 2 rfl
  have a3 := hB0.cell 2 rfl 3 rfl
  clear hW0 hW0' hB0 hb0 hX hs0
  unfold wldV worldV beingV  actV
  have HK := hide hk
  clear hk
  go_enter Try.func97, Try.ntmps97
  go_upto_region 1 with fail
  rw [unhide HW0]
  have hk := unhide HK
  go_wp2_with (first
    | (go_at_call 113; refine (unhide HDR _ (unhide HL0)).mono ?_; rintro e w4 ⟨rfl, hX4, hb4⟩; have HB4 := hide ((unhide HB0).below hb4); have HL4 := hide ((unhide HL0).trans (hb4.mono (unhide HL0).size)); have HF4 : Hid (WF (w.heap.size + 4) A G X w4 A cap G gcap X) := hide (WF.refl hX4); clear hX4 hb4 w0 w1 b0 b1 a0 a1 a2 a3)
    | (refine wpList_putN rfl 40 (.tmp 6) (.tmp 41) rfl (w.heap.size + 3) 0 [.slice A X.rows.length cap, .slice G X.gens.length gcap] rfl rfl (by simp [Value.oneCell']) size38 ((unhide HB4).there 3 rfl 2 rfl) ?_; intro W5 hW; have q1 := (unhide HB4).give 3 rfl [.slice A X.rows.length cap, .slice G X.gens.length gcap] rfl; have q3 := below_setCells (w.heap.size + 3) (by omega) [.slice A X.rows.length cap, .slice G X.gens.length gcap] 0 _ (unhide HL4); have q4 := wf_puts0 (k := 3) (o := 0) (vs := [.slice A X.rows.length cap, .slice G X.gens.length gcap]) (unhide HF4) (unhide HNB) (by omega); rw [← hW] at q1 q3 q4; have HB5 := hide q1; have HL5 := hide q3; have HF5 := hide q4; clear hW q1 q3 q4))
  have t0 := (unhide HB5).cell 3 rfl 0 rfl
  have t1 := (unhide HB5).cell 3 rfl 1 rfl
  refine bodyPost_ret (v := .tuple #[.agg #[.slice A X.rows.length cap, .slice G X.gens.length gcap], .int .i64 0]) (by simp [results, Try.results97, go_sem, t0, t1]) rfl ⟨rfl, (unhide HF5).at_, (unhide HL5)⟩
set_option maxRecDepth 8000 in
set_option maxHeartbeats 4000000 in
theorem act_spawn (A : Option Addr) (cap : Nat) (G : Option Addr) (gcap : Nat) (X : Wd) (i g : Int) (y : ActI) (w : World) (hn0 : X.rows.length ≤ 9223372036854775807) (hX : WldAt w A cap G gcap X) (hk : y.k = 7) :
    Calls Try.prog 97 #[wldV A cap G gcap X, beingV i g, actV y.k y.p y.f y.n] w fun e w' => ∃ A' c' G' gc', e = .returned (.tuple #[wldV A' c' G' gc' (spawnF X y.p y.n).2.2, .int .i64 (spawnF X y.p y.n).1]) ∧ WF w.heap.size A G X w' A' c' G' gc' (spawnF X y.p y.n).2.2 ∧ Below w.heap.size w w' := by
  have hDR := fun W (hb : Below w.heap.size w W) => spawn_any A cap G gcap X y.p y.n W hn0 (hX.below hb)
  obtain ⟨Y, hY⟩ : ∃ Y, Y = (spawnF X y.p y.n).2.2 := ⟨_, rfl⟩
  obtain ⟨err, herr⟩ : ∃ err, err = (spawnF X y.p y.n).1 := ⟨_, rfl⟩
  obtain ⟨ci, hci⟩ : ∃ ci, ci = (spawnF X y.p y.n).2.1.1 := ⟨_, rfl⟩
  obtain ⟨cg, hcg⟩ : ∃ cg, cg = (spawnF X y.p y.n).2.1.2 := ⟨_, rfl⟩
  rw [← hY, ← herr, ← hci, ← hcg] at hDR
  rw [← hY, ← herr]
  clear hY herr hci hcg
  unfold wldV worldV beingV at hDR
  have HDR := hide hDR
  clear hDR
  have hB0 := Bxs.start w [([.slice A X.rows.length cap, .slice G X.gens.length gcap], 40), ([.int .i64 i, .int .i64 g], 50), ([.int .i64 y.k, .int .i64 y.p, .int .i64 y.f, .int .i64 y.n], 76), ([.slice none 0 0, .slice none 0 0], 40)]
  have hb0 := allocs_below [([.slice A X.rows.length cap, .slice G X.gens.length gcap], 40), ([.int .i64 i, .int .i64 g], 50), ([.int .i64 y.k, .int .i64 y.p, .int .i64 y.f, .int .i64 y.n], 76), ([.slice none 0 0, .slice none 0 0], 40)] w
  have hs0 := allocs_size [([.slice A X.rows.length cap, .slice G X.gens.length gcap], 40), ([.int .i64 i, .int .i64 g], 50), ([.int .i64 y.k, .int .i64 y.p, .int .i64 y.f, .int .i64 y.n], 76), ([.slice none 0 0, .slice none 0 0], 40)] w
  obtain ⟨W0, hW0⟩ : ∃ W0, W0 = allocs w [([.slice A X.rows.length cap, .slice G X.gens.length gcap], 40), ([.int .i64 i, .int .i64 g], 50), ([.int .i64 y.k, .int .i64 y.p, .int .i64 y.f, .int .i64 y.n], 76), ([.slice none 0 0, .slice none 0 0], 40)] := ⟨_, rfl⟩
  rw [← hW0] at hB0 hb0 hs0
  have hW0' : (((w.alloc (.cells #[.slice A X.rows.length cap, .slice G X.gens.length gcap] 40)).alloc (.cells #[.int .i64 i, .int .i64 g] 50)).alloc (.cells #[.int .i64 y.k, .int .i64 y.p, .int .i64 y.f, .int .i64 y.n] 76)).alloc (.cells #[.slice none 0 0, .slice none 0 0] 40) = W0 := hW0.symm
  have HNB : Hid (∀ k, ¬ Blk A G X (w.heap.size + k)) := hide (fun k hb => by have := blk_lt hX hb; omega)
  have HX0 := hide (hX.below hb0)
  have HS0 : Hid (w.heap.size + 4 ≤ W0.heap.size) := hide (by rw [hs0]; simp)
  have HW0 := hide hW0'
  have HB0 := hide hB0
  have HL0 := hide hb0
  have w0 := hB0.cell 0 rfl 0 rfl
  have w1 := hB0.cell 0 rfl 1 rfl
  rw [Nat.add_zero] at w0 w1
  have b0 := hB0.cell 1 rfl 0 rfl
  have b1 := hB0.cell 1 rfl 1 rfl
  have a0 := hB0.cell 2 rfl 0 rfl
  have a1 := hB0.cell 2 rfl 1 rfl
  have a2 := hB0.cell 2 rfl 2 rfl
  have a3 := hB0.cell 2 rfl 3 rfl
  clear hW0 hW0' hB0 hb0 hX hs0
  unfold wldV worldV beingV  actV
  have HK := hide hk
  clear hk
  go_enter Try.func97, Try.ntmps97
  go_upto_region 1 with fail
  rw [unhide HW0]
  have hk := unhide HK
  go_wp2_with (first
    | (go_at_call 63; refine (unhide HDR _ (unhide HL0)).mono ?_; rintro e w4 ⟨A4, c4, G4, gc4, rfl, hN4, hb4⟩; have HB4 := hide (((unhide HB0).below hb4).below (bel2 w4 (.cells #[.slice A4 Y.rows.length c4, .slice G4 Y.gens.length gc4] 40) (.cells #[.int .i64 ci, .int .i64 cg] 50))); have hl4 := (unhide HL0).trans (hb4.mono (unhide HL0).size); have HL4 := hide (hl4.trans ((bel2 w4 (.cells #[.slice A4 Y.rows.length c4, .slice G4 Y.gens.length gc4] 40) (.cells #[.int .i64 ci, .int .i64 cg] 50)).mono hl4.size)); have HF4 : Hid (WF (w.heap.size + 4) A G X ((w4.alloc (.cells #[.slice A4 Y.rows.length c4, .slice G4 Y.gens.length gc4] 40)).alloc (.cells #[.int .i64 ci, .int .i64 cg] 50)) A4 c4 G4 gc4 Y) := hide (((WF.new hN4).le (unhide HS0)).below (bel2 w4 (.cells #[.slice A4 Y.rows.length c4, .slice G4 Y.gens.length gc4] 40) (.cells #[.int .i64 ci, .int .i64 cg] 50))); clear hN4 hb4 hl4 w0 w1 b0 b1 a0 a1 a2 a3)
    | (refine wpList_putN rfl 40 (.tmp 6) (.tmp 32) rfl (w.heap.size + 3) 0 [.slice A4 Y.rows.length c4, .slice G4 Y.gens.length gc4] rfl rfl (by simp [Value.oneCell']) size38 ((unhide HB4).there 3 rfl 2 rfl) ?_; intro W5 hW; have q1 := (unhide HB4).give 3 rfl [.slice A4 Y.rows.length c4, .slice G4 Y.gens.length gc4] rfl; have q3 := below_setCells (w.heap.size + 3) (by omega) [.slice A4 Y.rows.length c4, .slice G4 Y.gens.length gc4] 0 _ (unhide HL4); have q4 := wf_puts0 (k := 3) (o := 0) (vs := [.slice A4 Y.rows.length c4, .slice G4 Y.gens.length gc4]) (unhide HF4) (unhide HNB) (by omega); rw [← hW] at q1 q3 q4; have HB5 := hide q1; have HL5 := hide q3; have HF5 := hide q4; clear hW q1 q3 q4))
  have t0 := (unhide HB5).cell 3 rfl 0 rfl
  have t1 := (unhide HB5).cell 3 rfl 1 rfl
  refine bodyPost_ret (v := .tuple #[.agg #[.slice A4 Y.rows.length c4, .slice G4 Y.gens.length gc4], .int .i64 err]) (by simp [results, Try.results97, go_sem, t0, t1]) rfl ⟨A4, c4, G4, gc4, rfl, (unhide HF5).le (by omega), (unhide HL5)⟩
def pr : Value → Nat → Value
  | .agg cs, k => cs.getD k undef
  | _, _ => undef
set_option maxRecDepth 8000 in
set_option maxHeartbeats 4000000 in
theorem act_put (A : Option Addr) (cap : Nat) (G : Option Addr) (gcap : Nat) (X : Wd) (i g : Int) (y : ActI) (w : World) (hn0 : X.rows.length ≤ 9223372036854775807) (hX : WldAt w A cap G gcap X) (h6 : ¬ y.k = 6) (h7 : ¬ y.k = 7) (h5 : ¬ y.k = 5) :
    Calls Try.prog 97 #[wldV A cap G gcap X, beingV i g, actV y.k y.p y.f y.n] w fun e w' => ∃ A' c' G' gc', e = .returned (.tuple #[wldV A' c' G' gc' (putF X i g y.p (clipI (amtF X i g y))).2, .int .i64 (putF X i g y.p (clipI (amtF X i g y))).1]) ∧ WF w.heap.size A G X w' A' c' G' gc' (putF X i g y.p (clipI (amtF X i g y))).2 ∧ Below w.heap.size w w' := by
  have hAM := fun W (hW : WldAt W A cap G gcap X) => amount_any A cap G gcap X i g y W hn0 hW
  generalize amtF X i g y = am at *
  have hPU := fun W (hW : WldAt W A cap G gcap X) => put_any A cap G gcap X i g y.p (clipI am) W hn0 hW
  obtain ⟨Y, hY⟩ : ∃ Y, Y = (putF X i g y.p (clipI am)).2 := ⟨_, rfl⟩
  obtain ⟨err, herr⟩ : ∃ err, err = (putF X i g y.p (clipI am)).1 := ⟨_, rfl⟩
  rw [← hY, ← herr] at hPU ⊢
  clear hY herr
  unfold wldV worldV beingV at hPU
  unfold wldV worldV beingV actV at hAM
  have HAM := hide hAM
  have HPU := hide hPU
  clear hAM hPU
  have hB0 := Bxs.start w [([.slice A X.rows.length cap, .slice G X.gens.length gcap], 40), ([.int .i64 i, .int .i64 g], 50), ([.int .i64 y.k, .int .i64 y.p, .int .i64 y.f, .int .i64 y.n], 76), ([.slice none 0 0, .slice none 0 0], 40)]
  have hb0 := allocs_below [([.slice A X.rows.length cap, .slice G X.gens.length gcap], 40), ([.int .i64 i, .int .i64 g], 50), ([.int .i64 y.k, .int .i64 y.p, .int .i64 y.f, .int .i64 y.n], 76), ([.slice none 0 0, .slice none 0 0], 40)] w
  have hs0 := allocs_size [([.slice A X.rows.length cap, .slice G X.gens.length gcap], 40), ([.int .i64 i, .int .i64 g], 50), ([.int .i64 y.k, .int .i64 y.p, .int .i64 y.f, .int .i64 y.n], 76), ([.slice none 0 0, .slice none 0 0], 40)] w
  obtain ⟨W0, hW0⟩ : ∃ W0, W0 = allocs w [([.slice A X.rows.length cap, .slice G X.gens.length gcap], 40), ([.int .i64 i, .int .i64 g], 50), ([.int .i64 y.k, .int .i64 y.p, .int .i64 y.f, .int .i64 y.n], 76), ([.slice none 0 0, .slice none 0 0], 40)] := ⟨_, rfl⟩
  rw [← hW0] at hB0 hb0 hs0
  have hW0' : (((w.alloc (.cells #[.slice A X.rows.length cap, .slice G X.gens.length gcap] 40)).alloc (.cells #[.int .i64 i, .int .i64 g] 50)).alloc (.cells #[.int .i64 y.k, .int .i64 y.p, .int .i64 y.f, .int .i64 y.n] 76)).alloc (.cells #[.slice none 0 0, .slice none 0 0] 40) = W0 := hW0.symm
  have HNB : Hid (∀ k, ¬ Blk A G X (w.heap.size + k)) := hide (fun k hb => by have := blk_lt hX hb; omega)
  have HX0 := hide (hX.below hb0)
  have HS0 : Hid (w.heap.size + 4 ≤ W0.heap.size) := hide (by rw [hs0]; simp)
  have HW0 := hide hW0'
  have HB0 := hide hB0
  have HL0 := hide hb0
  have w0 := hB0.cell 0 rfl 0 rfl
  have w1 := hB0.cell 0 rfl 1 rfl
  rw [Nat.add_zero] at w0 w1
  have b0 := hB0.cell 1 rfl 0 rfl
  have b1 := hB0.cell 1 rfl 1 rfl
  have a0 := hB0.cell 2 rfl 0 rfl
  have a1 := hB0.cell 2 rfl 1 rfl
  have a2 := hB0.cell 2 rfl 2 rfl
  have a3 := hB0.cell 2 rfl 3 rfl
  clear hW0 hW0' hB0 hb0 hX hs0
  unfold wldV worldV beingV  actV
  go_enter Try.func97, Try.ntmps97
  go_upto_region 1 with fail
  rw [unhide HW0]
  have h0 : Bxs w.heap.size [([.slice A X.rows.length cap, .slice G X.gens.length gcap], 40), ([.int .i64 i, .int .i64 g], 50), ([.int .i64 y.k, .int .i64 y.p, .int .i64 y.f, .int .i64 y.n], 76), ([.slice none 0 0, .slice none 0 0], 40)] W0.drew ∧ Below w.heap.size w W0.drew ∧ WldAt W0.drew A cap G gcap X ∧ ((fun (_ : Nat) => false) 9 = true → ∃ A' c' G' gc', undef = .agg #[.slice A' Y.rows.length c', .slice G' Y.gens.length gc'] ∧ WF (w.heap.size + 4) A G X W0.drew A' c' G' gc' Y) := ⟨(unhide HB0).below (Below.refl _ _).drew, (unhide HL0).drew, (unhide HX0).below (Below.refl _ _).drew, fun e => by cases e⟩
  go_wp2_with fail
  clear w0 w1 b0 b1 a0 a1 a2 a3
  refine wp_region_gho (fun (γ : Value) ix v => if ix = 9 then v = .tuple #[γ, .int .i64 err] else if ix = 10 then v = γ else (([fun v => v = .agg #[.slice A X.rows.length cap, .slice G X.gens.length gcap], fun v => v = .agg #[.int .i64 i, .int .i64 g], fun v => v = .pointer (some ⟨w.heap.size + 2, 1, none⟩), fun v => v = .int .i64 y.p, fun v => v = .agg #[.slice A X.rows.length cap, .slice G X.gens.length gcap], fun v => v = .agg #[.int .i64 i, .int .i64 g], fun v => v = .agg #[.int .i64 y.k, .int .i64 y.p, .int .i64 y.f, .int .i64 y.n], fun v => v = .int .i64 am, fun v => v = .int .i64 (clipI am), fun _ => True, fun _ => True, fun v => v = .int .i64 err, fun _ => True, fun v => v = .int .i64 err] : List (Value → Prop)).getD ix (fun _ => True)) v) (fun (γ : Value) L W => Bxs w.heap.size [([.slice A X.rows.length cap, .slice G X.gens.length gcap], 40), ([.int .i64 i, .int .i64 g], 50), ([.int .i64 y.k, .int .i64 y.p, .int .i64 y.f, .int .i64 y.n], 76), (if L 12 = true then [pr γ 0, pr γ 1] else [.slice none 0 0, .slice none 0 0], 40)] W ∧ Below w.heap.size w W ∧ WldAt W A cap G gcap X ∧ (L 9 = true → ∃ A' c' G' gc', γ = .agg #[.slice A' Y.rows.length c', .slice G' Y.gens.length gc'] ∧ WF (w.heap.size + 4) A G X W A' c' G' gc' Y)) (undef) (by kernel_rfl) (by kernel_rfl) (by kernel_rfl) h0 ?hstep ?hend
  case hstep =>
    intro γ ix o ho L ac w1 hD hL hed hcl hout hv
    match ix, ho with
    | 0, ho =>
      simp at ho
      subst ho
      have e3 : ac.tmps.getD 3 undef = .pointer (some ⟨w.heap.size, 0, none⟩) := hout 3 (by decide +kernel)
      have c0 := hD.1.cell 0 rfl 0 rfl
      have c1 := hD.1.cell 0 rfl 1 rfl
      rw [Nat.add_zero] at c0 c1
      exact .inl ⟨rfl, gho_reads γ (.agg #[.slice A X.rows.length cap, .slice G X.gens.length gcap]) (by simp [go_sem, Act.eval, -Array.getD_eq_getD_getElem?, e3, c0, c1]) rfl (by rw [upd_ne (by decide), upd_ne (by decide)]; exact hD) (fun _ _ _ _ h => h)⟩
    | 1, ho =>
      simp at ho
      subst ho
      have e4 : ac.tmps.getD 4 undef = .pointer (some ⟨w.heap.size + 1, 0, none⟩) := hout 4 (by decide +kernel)
      have c0 := hD.1.cell 1 rfl 0 rfl
      have c1 := hD.1.cell 1 rfl 1 rfl
      exact .inl ⟨rfl, gho_reads γ (.agg #[.int .i64 i, .int .i64 g]) (by simp [go_sem, Act.eval, -Array.getD_eq_getD_getElem?, e4, c0, c1]) rfl (by rw [upd_ne (by decide), upd_ne (by decide)]; exact hD) (fun _ _ _ _ h => h)⟩
    | 2, ho =>
      simp at ho
      subst ho
      have e5 : ac.tmps.getD 5 undef = .pointer (some ⟨w.heap.size + 2, 0, none⟩) := hout 5 (by decide +kernel)
      exact .inl ⟨rfl, gho_reads γ (.pointer (some ⟨w.heap.size + 2, 1, none⟩)) (by simp [go_sem, Act.eval, -Array.getD_eq_getD_getElem?, e5]) rfl (by rw [upd_ne (by decide), upd_ne (by decide)]; exact hD) (fun _ _ _ _ h => h)⟩
    | 3, ho =>
      simp at ho
      subst ho
      have e45 : ac.tmps.getD 45 undef = .pointer (some ⟨w.heap.size + 2, 1, none⟩) := hv 2 45 rfl (by kernel_rfl)
      have c0 := hD.1.cell 2 rfl 1 rfl
      exact .inl ⟨rfl, gho_reads γ (.int .i64 y.p) (by simp [go_sem, Act.eval, -Array.getD_eq_getD_getElem?, e45, c0]) rfl (by rw [upd_ne (by decide), upd_ne (by decide)]; exact hD) (fun _ _ _ _ h => h)⟩
    | 4, ho =>
      simp at ho
      subst ho
      have e3 : ac.tmps.getD 3 undef = .pointer (some ⟨w.heap.size, 0, none⟩) := hout 3 (by decide +kernel)
      have c0 := hD.1.cell 0 rfl 0 rfl
      have c1 := hD.1.cell 0 rfl 1 rfl
      rw [Nat.add_zero] at c0 c1
      exact .inl ⟨rfl, gho_reads γ (.agg #[.slice A X.rows.length cap, .slice G X.gens.length gcap]) (by simp [go_sem, Act.eval, -Array.getD_eq_getD_getElem?, e3, c0, c1]) rfl (by rw [upd_ne (by decide), upd_ne (by decide)]; exact hD) (fun _ _ _ _ h => h)⟩
    | 5, ho =>
      simp at ho
      subst ho
      have e4 : ac.tmps.getD 4 undef = .pointer (some ⟨w.heap.size + 1, 0, none⟩) := hout 4 (by decide +kernel)
      have c0 := hD.1.cell 1 rfl 0 rfl
      have c1 := hD.1.cell 1 rfl 1 rfl
      exact .inl ⟨rfl, gho_reads γ (.agg #[.int .i64 i, .int .i64 g]) (by simp [go_sem, Act.eval, -Array.getD_eq_getD_getElem?, e4, c0, c1]) rfl (by rw [upd_ne (by decide), upd_ne (by decide)]; exact hD) (fun _ _ _ _ h => h)⟩
    | 6, ho =>
      simp at ho
      subst ho
      have e5 : ac.tmps.getD 5 undef = .pointer (some ⟨w.heap.size + 2, 0, none⟩) := hout 5 (by decide +kernel)
      have c0 := hD.1.cell 2 rfl 0 rfl
      have c1 := hD.1.cell 2 rfl 1 rfl
      have c2 := hD.1.cell 2 rfl 2 rfl
      have c3 := hD.1.cell 2 rfl 3 rfl
      exact .inl ⟨rfl, gho_reads γ (.agg #[.int .i64 y.k, .int .i64 y.p, .int .i64 y.f, .int .i64 y.n]) (by simp [go_sem, Act.eval, -Array.getD_eq_getD_getElem?, e5, c0, c1, c2, c3]) rfl (by rw [upd_ne (by decide), upd_ne (by decide)]; exact hD) (fun _ _ _ _ h => h)⟩
    | 7, ho =>
      simp at ho
      subst ho
      have e47 : ac.tmps.getD 47 undef = .agg #[.slice A X.rows.length cap, .slice G X.gens.length gcap] := hv 4 47 rfl (by kernel_rfl)
      have e48 : ac.tmps.getD 48 undef = .agg #[.int .i64 i, .int .i64 g] := hv 5 48 rfl (by kernel_rfl)
      have e49 : ac.tmps.getD 49 undef = .agg #[.int .i64 y.k, .int .i64 y.p, .int .i64 y.f, .int .i64 y.n] := hv 6 49 rfl (by kernel_rfl)
      refine .inl ⟨rfl, gho_enters 116 #[.agg #[.slice A X.rows.length cap, .slice G X.gens.length gcap], .agg #[.int .i64 i, .int .i64 g], .agg #[.int .i64 y.k, .int .i64 y.p, .int .i64 y.f, .int .i64 y.n]] (by simp [go_sem, Act.eval, -Array.getD_eq_getD_getElem?, e47, e48, e49]) ?_⟩
      refine (unhide HAM w1 hD.2.2.1).mono ?_
      rintro e w6 ⟨rfl, hb6⟩
      exact ⟨_, γ, rfl, rfl, ⟨by rw [upd_ne (by decide)]; exact hD.1.below hb6, hD.2.1.trans (hb6.mono hD.2.1.size), hD.2.2.1.below hb6, fun e => (by obtain ⟨A1, c1, G1, gc1, a, b⟩ := hD.2.2.2 (by rwa [upd_ne (by decide)] at e); exact ⟨A1, c1, G1, gc1, a, b.below hb6⟩)⟩, fun _ _ _ _ h => h⟩
    | 8, ho =>
      simp at ho
      subst ho
      have e50 : ac.tmps.getD 50 undef = .int .i64 am := hv 7 50 rfl (by kernel_rfl)
      refine .inl ⟨rfl, gho_enters 115 #[.int .i64 am] (by simp [go_sem, Act.eval, -Array.getD_eq_getD_getElem?, e50]) ?_⟩
      refine (clip_any am w1).mono ?_
      rintro e w6 ⟨rfl, hw6⟩
      obtain rfl := hw6.symm
      exact ⟨_, γ, rfl, rfl, by rw [upd_ne (by decide), upd_ne (by decide)]; exact hD, fun _ _ _ _ h => h⟩
    | 9, ho =>
      simp at ho
      subst ho
      have e43 : ac.tmps.getD 43 undef = .agg #[.slice A X.rows.length cap, .slice G X.gens.length gcap] := hv 0 43 rfl (by kernel_rfl)
      have e44 : ac.tmps.getD 44 undef = .agg #[.int .i64 i, .int .i64 g] := hv 1 44 rfl (by kernel_rfl)
      have e46 : ac.tmps.getD 46 undef = .int .i64 y.p := hv 3 46 rfl (by kernel_rfl)
      have e51 : ac.tmps.getD 51 undef = .int .i64 (clipI am) := hv 8 51 rfl (by kernel_rfl)
      have q12 : L 12 = false := by
        cases h : L 12
        · rfl
        · exact absurd (hcl 12 _ rfl h 9 (by kernel_rfl)) (by rw [hL]; decide)
      refine .inl ⟨rfl, gho_enters 114 #[.agg #[.slice A X.rows.length cap, .slice G X.gens.length gcap], .agg #[.int .i64 i, .int .i64 g], .int .i64 y.p, .int .i64 (clipI am)] (by simp [go_sem, Act.eval, -Array.getD_eq_getD_getElem?, e43, e44, e46, e51]) ?_⟩
      refine (unhide HPU w1 hD.2.2.1).mono ?_
      rintro e w6 ⟨A6, c6, G6, gc6, rfl, hN6, hb6⟩
      have hz := hD.1.sz (by simp)
      exact ⟨_, .agg #[.slice A6 Y.rows.length c6, .slice G6 Y.gens.length gc6], rfl, rfl, ⟨by rw [upd_ne (by decide), q12]; rw [q12] at hD; exact hD.1.below hb6, hD.2.1.trans (hb6.mono hD.2.1.size), hD.2.2.1.below hb6, fun _ => ⟨A6, c6, G6, gc6, rfl, (WF.new hN6).le (by simpa using hz)⟩⟩, fun j u hj hLj h => by
        have q10 : j ≠ 10 := fun e => by subst e; exact absurd (hcl 10 _ rfl hLj 9 (by kernel_rfl)) (by rw [hL]; decide)
        simpa [hj, q10] using h⟩
    | 10, ho =>
      simp at ho
      subst ho
      have e52 : ac.tmps.getD 52 undef = .tuple #[γ, .int .i64 err] := hv 9 52 rfl (by kernel_rfl)
      obtain ⟨A1, c1, G1, gc1, hγ, _⟩ := hD.2.2.2 (hed 9 (by kernel_rfl))
      exact .inl ⟨rfl, gho_reads γ γ (by rw [hγ] at e52 ⊢; simp [go_sem, Act.eval, -Array.getD_eq_getD_getElem?, e52]) rfl (by rw [upd_ne (by decide), upd_ne (by decide)]; exact hD) (fun _ _ _ _ h => h)⟩
    | 11, ho =>
      simp at ho
      subst ho
      have e52 : ac.tmps.getD 52 undef = .tuple #[γ, .int .i64 err] := hv 9 52 rfl (by kernel_rfl)
      exact .inl ⟨rfl, gho_reads γ (.int .i64 err) (by simp [go_sem, Act.eval, -Array.getD_eq_getD_getElem?, e52]) rfl (by rw [upd_ne (by decide), upd_ne (by decide)]; exact hD) (fun _ _ _ _ h => h)⟩
    | 12, ho =>
      simp at ho
      subst ho
      have e6 : ac.tmps.getD 6 undef = .pointer (some ⟨w.heap.size + 3, 0, none⟩) := hout 6 (by decide +kernel)
      have e53 : ac.tmps.getD 53 undef = γ := hv 10 53 rfl (by kernel_rfl)
      have q9 : L 9 = true := by
        have q10 : L 10 = true := hed 10 (by kernel_rfl)
        exact hcl 10 _ rfl q10 9 (by kernel_rfl)
      obtain ⟨A1, c1, G1, gc1, hγ, hF1⟩ := hD.2.2.2 q9
      have hg := hD.1.give 3 rfl [.slice A1 Y.rows.length c1, .slice G1 Y.gens.length gc1] (by rw [hL]; rfl)
      refine .inl ⟨rfl, gho_putN γ 40 (.tmp 6) (.tmp 53) rfl (w.heap.size + 3) 0 [.slice A1 Y.rows.length c1, .slice G1 Y.gens.length gc1] (by simp [Act.eval, -Array.getD_eq_getD_getElem?, e6]) (by rw [hγ] at e53; simp [Act.eval, -Array.getD_eq_getD_getElem?, e53]) (by simp [Value.oneCell']) size38 (hD.1.there 3 rfl 2 (by rw [hL]; rfl)) trivial ⟨?_, below_setCells (w.heap.size + 3) (by omega) _ 0 _ hD.2.1, wld_puts hD.2.2.1 (unhide HNB 3), fun _ => ⟨A1, c1, G1, gc1, hγ, wf_puts0 (k := 3) hF1 (unhide HNB) (by omega)⟩⟩ (fun _ _ _ _ h => h)⟩
      rw [upd_eq, if_pos rfl, hγ]
      exact hg
    | 13, ho =>
      simp at ho
      subst ho
      have e54 : ac.tmps.getD 54 undef = .int .i64 err := hv 11 54 rfl (by kernel_rfl)
      exact .inl ⟨rfl, gho_reads γ (.int .i64 err) (by simp [go_sem, Act.eval, -Array.getD_eq_getD_getElem?, e54]) rfl (by rw [upd_ne (by decide), upd_ne (by decide)]; exact hD) (fun _ _ _ _ h => h)⟩
    | ix + 14, ho => simp at ho
  case hend =>
    intro γ v L w9 hD hall hv
    rw [hall 12 (by decide), if_pos rfl] at hD
    obtain ⟨A1, c1, G1, gc1, rfl, hF1⟩ := hD.2.2.2 (hall 9 (by decide))
    have v13 : v 13 = .int .i64 err := hv 13 7 rfl
    have HB9 := hide hD.1
    have HL9 := hide hD.2.1
    have HF9 := hide hF1
    clear hv hall hD h0 hF1
    simp only [putOps, List.getElem?_cons_zero, List.getElem?_cons_succ, Option.bind_some, List.length_cons, List.length_nil, Nat.reduceAdd, v13]
    clear v13
    go_frame
    go_wp2
    have t0 := (unhide HB9).cell 3 rfl 0 rfl
    have t1 := (unhide HB9).cell 3 rfl 1 rfl
    simp only [pr, Array.getD_eq_getD_getElem?, List.getElem?_toArray, List.getElem?_cons_zero, List.getElem?_cons_succ, Option.getD_some] at t0 t1
    refine bodyPost_ret (v := .tuple #[.agg #[.slice A1 Y.rows.length c1, .slice G1 Y.gens.length gc1], .int .i64 err]) (by simp [results, Try.results97, go_sem, t0, t1]) rfl ⟨A1, c1, G1, gc1, rfl, (unhide HF9).le (by omega), unhide HL9⟩
theorem act_any (A : Option Addr) (cap : Nat) (G : Option Addr) (gcap : Nat) (X : Wd) (i g : Int) (y : ActI) (w : World) (hn0 : X.rows.length ≤ 9223372036854775807) (hX : WldAt w A cap G gcap X) :
    Calls Try.prog 97 #[wldV A cap G gcap X, beingV i g, actV y.k y.p y.f y.n] w fun e w' => ∃ A' c' G' gc', e = .returned (.tuple #[wldV A' c' G' gc' (actF X i g y).2, .int .i64 (actF X i g y).1]) ∧ WF w.heap.size A G X w' A' c' G' gc' (actF X i g y).2 ∧ Below w.heap.size w w' := by
  unfold actF
  by_cases h6 : y.k = 6
  · rw [if_pos h6]; exact act_kill A cap G gcap X i g y w hn0 hX h6
  · rw [if_neg h6]
    by_cases h7 : y.k = 7
    · rw [if_pos h7]; exact act_spawn A cap G gcap X i g y w hn0 hX h7
    · rw [if_neg h7]
      by_cases h5 : y.k = 5
      · rw [if_pos h5]
        cases hg : (getW X i g y.p).2
        · rw [if_neg (by simp)]
          exact (act_dropn A cap G gcap X i g y w hn0 hX h5 hg).mono fun e w' ⟨he, h1, h2⟩ => ⟨A, cap, G, gcap, he, WF.refl h1, h2⟩
        · rw [if_pos rfl]; exact act_dropy A cap G gcap X i g y w hn0 hX h5 hg
      · rw [if_neg h5]; exact act_put A cap G gcap X i g y w hn0 hX h6 h7 h5
end Go.Proofs.Ytnbleebilmghcab
