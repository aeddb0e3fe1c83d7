/- The statement PlainTells' function: its memory, and what it wants of the answers. -/
import Derived.Test.YtnbleebilmghcaaLPRPut
import Derived.Test.YtnbleebilmghcaaLPRSpawn2
import Derived.Test.YtnbleebilmghcaaLVals
set_option linter.unusedVariables false
set_option linter.unusedSimpArgs false
set_option linter.unnecessarySimpa false
namespace Go.Proofs.Ytnbleebilmghcaa
open Go Go.RowKit
attribute [local go_sem ↓] Go.wp_at_zero Go.wp_at_succ

structure TX (w : World) (u0 u1 : Value) (i g fa fn : Int) (W : World) : Prop where
  bel : Below w.heap.size w W
  sz : w.heap.size + 3 ≤ W.heap.size
  r : B13 w.heap.size u0 u1 W
  s : B13 (w.heap.size + 1) (.int .i64 i) (.int .i64 g) W
  t : B13 (w.heap.size + 2) (.int .i64 fa) (.int .i64 fn) W
theorem TX.keep {w W W1 : World} {u0 u1 : Value} {i g fa fn : Int} (h : TX w u0 u1 i g fa fn W) (hb : Below (w.heap.size + 3) W W1) : TX w u0 u1 i g fa fn W1 :=
  ⟨h.bel.trans (hb.mono (by omega)), Nat.le_trans h.sz hb.size, h.r.keep (hb.mono (by omega)), h.s.keep (hb.mono (by omega)), h.t.keep hb⟩
theorem TX.below {w W W1 : World} {u0 u1 : Value} {i g fa fn : Int} (h : TX w u0 u1 i g fa fn W) (hb : Below W.heap.size W W1) : TX w u0 u1 i g fa fn W1 := h.keep (hb.mono h.sz)
theorem TX.start (w : World) (u0 u1 : Value) (i g fa fn : Int) : TX w u0 u1 i g fa fn (((w.alloc (.cells #[u0, u1] 38)).alloc (.cells #[.int .i64 i, .int .i64 g] 40)).alloc (.cells #[.int .i64 fa, .int .i64 fn] 32)) := by
  obtain ⟨a0, a1, af, ab⟩ := new_box (W := w) (u0 := u0) (u1 := u1) (t := 38) rfl
  have z : (w.alloc (.cells #[u0, u1] 38)).heap.size = w.heap.size + 1 := by simp
  generalize w.alloc (.cells #[u0, u1] 38) = W1 at *
  obtain ⟨c0, c1, cf, cb⟩ := new_box (W := W1) (u0 := .int .i64 i) (u1 := .int .i64 g) (t := 40) rfl
  have z2 : (W1.alloc (.cells #[.int .i64 i, .int .i64 g] 40)).heap.size = w.heap.size + 2 := by simp; omega
  generalize W1.alloc (.cells #[.int .i64 i, .int .i64 g] 40) = W2 at *
  obtain ⟨d0, d1, df, db⟩ := new_box (W := W2) (u0 := .int .i64 fa) (u1 := .int .i64 fn) (t := 32) rfl
  have z3 : (W2.alloc (.cells #[.int .i64 fa, .int .i64 fn] 32)).heap.size = w.heap.size + 3 := by simp; omega
  generalize W2.alloc (.cells #[.int .i64 fa, .int .i64 fn] 32) = W3 at *
  rw [z] at c0 c1 cf cb
  rw [z2] at d0 d1 df db
  exact ⟨(ab.trans (cb.mono (by omega))).trans (db.mono (by omega)), by omega, (B13.keep ⟨a0, a1, af⟩ cb).keep (db.mono (by omega)), (B13.keep ⟨c0, c1, cf⟩ db), ⟨d0, d1, df⟩⟩
theorem B13.lt {b : Nat} {u v : Value} {W : World} (h : B13 b u v W) : b < W.heap.size := World.block_lt_of_cell? W ⟨b, 0, none⟩ h.e0
theorem B13.there {b : Nat} {u v : Value} {W : World} (h : B13 b u v W) : W.there b 0 2 := fun j hj => by
  rcases (by omega : j = 0 ∨ j = 1) with rfl | rfl
  · exact ⟨by rw [Nat.zero_add, h.e0]; rfl, h.f _⟩
  · exact ⟨by rw [Nat.zero_add, h.e1]; rfl, h.f _⟩
theorem B13.give {b : Nat} {u v : Value} {W : World} (h : B13 b u v W) (u' v' : Value) : B13 b u' v' (W.setCells b 0 [u', v']) := by
  have s := fun j hj => World.cell?_setCells_in b [u', v'] 0 W (fun j hj => (h.there j hj).1) j hj
  exact ⟨s 0 (by simp), s 1 (by simp), fun i => by rw [World.frozen?_setCells]; exact h.f i⟩
theorem B13.others {b b' o : Nat} {u v : Value} {vs : List Value} {W : World} (h : B13 b u v W) (hb : b ≠ b') : B13 b u v (W.setCells b' o vs) :=
  ⟨(setcs_other hb).trans h.e0, (setcs_other hb).trans h.e1, fun i => by rw [World.frozen?_setCells]; exact h.f i⟩

structure TN (w : World) (u0 u1 : Value) (i g fa fn : Int) (l : List (Nat × Value × Value)) (W : World) : Prop extends TX w u0 u1 i g fa fn W where
  bx : ∀ t ∈ l, B13 t.1 t.2.1 t.2.2 W ∧ w.heap.size + 3 ≤ t.1
  nd : l.Pairwise (fun s t => s.1 ≠ t.1)
section
variable {w W W1 : World} {u0 u1 : Value} {i g fa fn : Int} {l l1 l2 : List (Nat × Value × Value)}
theorem TN.below (h : TN w u0 u1 i g fa fn l W) (hb : Below W.heap.size W W1) : TN w u0 u1 i g fa fn l W1 :=
  ⟨h.toTX.below hb, fun t ht => ⟨(h.bx t ht).1.keep (hb.mono (h.bx t ht).1.lt), (h.bx t ht).2⟩, h.nd⟩
theorem TN.new (h : TN w u0 u1 i g fa fn l W) (u v : Value) (t : TypeId) : TN w u0 u1 i g fa fn (l ++ [(W.heap.size, u, v)]) (W.alloc (.cells #[u, v] t)) := by
  obtain ⟨a0, a1, af, ab⟩ := new_box (W := W) (u0 := u) (u1 := v) (t := t) rfl
  have h1 := h.below ab
  refine ⟨h1.toTX, fun x hx => ?_, ?_⟩
  · rw [List.mem_append, List.mem_singleton] at hx
    rcases hx with hx | rfl
    · exact h1.bx x hx
    · exact ⟨⟨a0, a1, af⟩, h.sz⟩
  · rw [List.pairwise_append]
    refine ⟨h.nd, List.pairwise_singleton _ _, fun s hs x hx => ?_⟩
    rw [List.mem_singleton] at hx
    subst hx
    exact Nat.ne_of_lt (h.bx s hs).1.lt
theorem TN.set {b : Nat} {u v : Value} (h : TN w u0 u1 i g fa fn (l1 ++ (b, u, v) :: l2) W) (u' v' : Value) : TN w u0 u1 i g fa fn (l1 ++ (b, u', v') :: l2) (W.setCells b 0 [u', v']) := by
  have hb := h.bx (b, u, v) (by simp)
  have hbel : Below (w.heap.size + 3) W (W.setCells b 0 [u', v']) := below_setCells b hb.2 [u', v'] 0 W (Below.refl _ _)
  have hp := List.pairwise_append.1 h.nd
  have hp2 := List.pairwise_cons.1 hp.2.1
  refine ⟨h.toTX.keep hbel, fun t ht => ?_, ?_⟩
  · rw [List.mem_append, List.mem_cons] at ht
    rcases ht with ht | rfl | ht
    · exact ⟨(h.bx t (by simp [ht])).1.others (hp.2.2 t ht (b, u, v) (by simp)), (h.bx t (by simp [ht])).2⟩
    · exact ⟨hb.1.give u' v', hb.2⟩
    · exact ⟨(h.bx t (by simp [ht])).1.others (hp2.1 t ht).symm, (h.bx t (by simp [ht])).2⟩
  · rw [List.pairwise_append, List.pairwise_cons]
    exact ⟨hp.1, ⟨hp2.1, hp2.2⟩, fun s hs t ht => by
      rw [List.mem_cons] at ht
      rcases ht with rfl | ht
      · exact hp.2.2 s hs (b, u, v) (by simp)
      · exact hp.2.2 s hs t (by simp [ht])⟩
end
theorem wld_sets {W : World} {A : Option Addr} {c : Nat} {G : Option Addr} {gc : Nat} {Y : Wd} (h : WldAt W A c G gc Y) {b o : Nat} {vs : List Value} (ha : ∀ c o, A = some ⟨c, o, none⟩ → c ≠ b) (hg : Y.gens ≠ [] → ∀ c o, G = some ⟨c, o, none⟩ → c ≠ b) : WldAt (W.setCells b o vs) A c G gc Y := by
  refine ⟨fun j hj => ?_, fun j hj => ?_⟩
  · obtain ⟨b', off, e, hr⟩ := h.rows j hj
    exact ⟨b', off, e, rowAt_others (ha b' off e) hr⟩
  · obtain ⟨b', off, e, hr⟩ := h.gens j hj
    exact ⟨b', off, e, (setcs_other (hg (fun e => by rw [e] at hj; simp at hj) b' off e)).trans hr⟩
theorem WldNew.putc {W : World} {B : Nat} {A : Option Addr} {c : Nat} {G : Option Addr} {gc : Nat} {Y : Wd} (h : WldNew B W A c G gc Y) {b o : Nat} {vs : List Value} (hb : b < B) : WldNew B (W.setCells b o vs) A c G gc Y :=
  ⟨wld_sets h.toWldAt (fun c o e => by have := h.fa c o e; omega) (fun _ c o e => by have := h.fg c o e; omega), h.fa, h.fg⟩
theorem WldDoc.sets {W : World} {B lo : Nat} {G0 A : Option Addr} {c : Nat} {G : Option Addr} {gc : Nat} {Y : Wd} (h : WldDoc B W G0 A c G gc Y) (h0 : Y.gens ≠ [] → ∀ c o, G0 = some ⟨c, o, none⟩ → c < lo) {b o : Nat} {vs : List Value} (hb : b < B) (hlo : lo ≤ b) : WldDoc B (W.setCells b o vs) G0 A c G gc Y :=
  ⟨wld_sets h.toWldAt (fun c o e => by have := h.fa c o e; omega) (fun hne c o e => by
    rcases h.fg with hg | hg
    · rw [hg] at e; have := h0 hne c o e; omega
    · have := hg c o e; omega), h.fa, h.fg⟩
theorem WldDoc.below {B : Nat} {w w1 : World} {G0 A : Option Addr} {cap : Nat} {G : Option Addr} {gcap : Nat} {X : Wd} (h : WldDoc B w G0 A cap G gcap X) (hb : Below w.heap.size w w1) : WldDoc B w1 G0 A cap G gcap X := ⟨h.toWldAt.below hb, h.fa, h.fg⟩

theorem gens_at {w : World} {G : Option Addr} {l : List Int} (h : IntsL w G l) (hl : l ≠ []) : ∀ c o, G = some ⟨c, o, none⟩ → c < w.heap.size := fun c o e => by
  obtain ⟨b, off, e', hc⟩ := h 0 (List.length_pos_iff.2 hl)
  rw [e] at e'
  simp only [Option.some.injEq, Addr.mk.injEq, and_true] at e'
  rw [e'.1]
  exact World.block_lt_of_cell? w _ hc
theorem kill_gens (X : Wd) (i g : Int) : (killF X i g).2.gens ≠ [] → X.gens ≠ [] := by
  unfold killF emptyW
  repeat' split
  all_goals simp
theorem ch_gens (X : Wd) (i g : Int) (C : RowI → RowI × Bool × Int) : (chF X i g C).2.gens ≠ [] → X.gens ≠ [] := by
  unfold chF emptyW
  repeat' split
  all_goals simp
def Few (X : Wd) : Prop := X.rows.length ≤ 1000 ∧ X.gens.length ≤ 1000
theorem few_empty : Few emptyW := ⟨by simp [emptyW], by simp [emptyW]⟩
theorem few_right {X : Wd} (h : (wrongW X).1 = 0) : X.rows.length ≤ 60 ∧ X.gens.length ≤ 60 := ⟨(right_hr h).1, (right_hr h).2.1⟩
theorem kill_few (X : Wd) (i g : Int) : Few (killF X i g).2 := by
  unfold killF
  split
  · exact few_empty
  · rename_i h
    have := few_right (by simpa using h)
    split
    · exact few_empty
    · have h2 := List.length_eraseIdx_le X.rows (findW X i g).toNat
      refine ⟨?_, ?_⟩
      · show (X.rows.eraseIdx _).length ≤ 1000; omega
      · show X.gens.length ≤ 1000; omega
theorem ch_few (X : Wd) (i g : Int) (C : RowI → RowI × Bool × Int) : Few (chF X i g C).2 := by
  unfold chF
  split
  · exact few_empty
  · rename_i h
    have := few_right (by simpa using h)
    split
    · exact few_empty
    · split
      · exact few_empty
      · refine ⟨?_, ?_⟩
        · show (X.rows.set _ _).length ≤ 1000; rw [List.length_set]; omega
        · show X.gens.length ≤ 1000; omega
theorem spawn_few (X : Wd) (has n : Int) : Few (spawnF X has n).2.2 := by
  unfold spawnF
  split
  · exact few_empty
  · rename_i h
    have := few_right (by simpa using h)
    split
    · exact few_empty
    · split
      · exact few_empty
      · refine ⟨?_, ?_⟩
        · show (insR X.rows _ _).length ≤ 1000; rw [insR_len _ _ _ (place_le _ _)]; omega
        · show (gensF X.gens _ _).length ≤ 1000
          unfold gensF
          split
          · rw [List.length_append, List.length_singleton]; omega
          · rw [List.length_set]; omega
theorem same_few {X : Wd} (hf : Few X) (W : World) (A : Option Addr) (c : Nat) (G : Option Addr) (gc : Nat) (A' : Option Addr) (c' : Nat) (G' : Option Addr) (gc' : Nat) (h : WldAt W A c G gc X) (h' : WldAt W A' c' G' gc' X) :
    Calls Try.prog 36 #[.agg #[.slice A X.rows.length c, .slice G X.gens.length gc], .agg #[.slice A' X.rows.length c', .slice G' X.gens.length gc']] W fun e w' => e = .returned (.bool true) ∧ Below W.heap.size W w' :=
  same_true A X.rows.length c G X.gens.length gc A' c' G' gc' (fun j => X.rows.getD j dR) (fun j => X.gens.getD j 0) W (by have := hf.1; omega) (by have := hf.2; omega) h.rows h'.rows h.gens h'.gens
end Go.Proofs.Ytnbleebilmghcaa
