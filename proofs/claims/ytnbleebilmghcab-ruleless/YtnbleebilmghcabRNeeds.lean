/- What rule.Needs answers, whatever the system: act by act. -/
import Derived.Test.YtnbleebilmghcabRActs
set_option maxRecDepth 100000
set_option linter.unnecessarySimpa false
set_option linter.unusedSimpArgs false
set_option linter.unusedVariables false
namespace Go.Proofs.Ytnbleebilmghcab
open Go.RowKit
attribute [local go_sem ↓] Go.wp_at_zero Go.wp_at_succ

structure ActI where
  k : Int
  p : Int
  f : Int
  n : Int

def sysV (m al no : Int) (A : Option Addr) (len cap : Nat) : Value := .agg #[.int .i64 m, .int .i64 al, .int .i64 no, .slice A len cap]
/-- The acts lie in memory, one behind the other. -/
def ActsAt (w : World) (A : Option Addr) (len : Nat) (a : Nat → ActI) : Prop := ∀ j, j < len → ∃ b off, A = some ⟨b, off, none⟩ ∧
  w.cell? ⟨b, off + j * 4, none⟩ = some (.int .i64 (a j).k) ∧ w.cell? ⟨b, off + j * 4 + 1, none⟩ = some (.int .i64 (a j).p) ∧
  w.cell? ⟨b, off + j * 4 + 2, none⟩ = some (.int .i64 (a j).f) ∧ w.cell? ⟨b, off + j * 4 + 3, none⟩ = some (.int .i64 (a j).n)
theorem ActsAt.below {w w1 : World} {A : Option Addr} {len : Nat} {a : Nat → ActI} (h : ActsAt w A len a) (hb : Below w.heap.size w w1) : ActsAt w1 A len a := fun j hj => by
  obtain ⟨b, off, h0, h1, h2, h3, h4⟩ := h j hj
  exact ⟨b, off, h0, keep_below hb h1, keep_below hb h2, keep_below hb h3, keep_below hb h4⟩

/-- What the first j acts read, write; whether they move; whether there is life in them. -/
def rdTo (a : Nat → ActI) : Nat → Int
  | 0 => 0
  | j + 1 => bits .or .i64 (rdTo a j) (rdI (a j).k (a j).p (a j).f)
def wrTo (a : Nat → ActI) : Nat → Int
  | 0 => 0
  | j + 1 => bits .or .i64 (wrTo a j) (wrI (a j).k (a j).p)
def mvTo (all : Int) (a : Nat → ActI) : Nat → Bool
  | 0 => false
  | j + 1 => mvTo all a j || mvB (a j).k (a j).p all
def lfTo (a : Nat → ActI) : Nat → Bool
  | 0 => false
  | j + 1 => lfTo a j || (decide ((a j).k = 6) || decide ((a j).k = 7))

theorem cell_same {w : World} {a : Addr} {v u : Value} (h : w.cell? a = some u) : (w.setCell a v).cell? a = some v := by
  first
  | exact World.cell?_setCell_same _ _ _ h
  | exact World.cell?_setCell_same h
theorem cell_other {w : World} {a b : Addr} {v u : Value} (hn : a ≠ b) (h : w.cell? b = some u) : (w.setCell a v).cell? b = some u := by
  rw [World.cell?_setCell_other]
  · exact h
  · exact hn

/-- The world within a round. -/
structure NB (w : World) (all r u : Int) (m l : Bool) (wr : World) : Prop where
  bel : Below w.heap.size w wr
  c0 : wr.cell? ⟨w.heap.size + 1 + 1, 0, none⟩ = some (.int .i64 r)
  c1 : wr.cell? ⟨w.heap.size + 1 + 1, 1, none⟩ = some (.int .i64 u)
  c2 : wr.cell? ⟨w.heap.size + 1 + 1, 2, none⟩ = some (.bool m)
  c3 : wr.cell? ⟨w.heap.size + 1 + 1, 3, none⟩ = some (.bool l)
  f : ∀ i, wr.frozen? ⟨w.heap.size + 1 + 1, i, none⟩ = false
  e1 : wr.cell? ⟨w.heap.size, 1, none⟩ = some (.int .i64 all)
  t : wr.there (w.heap.size + 1) 0 4
/-- .. with the act's own copy. -/
structure NW (w : World) (b5 : Nat) (x : ActI) (all r u : Int) (m l : Bool) (wr : World) : Prop extends NB w all r u m l wr where
  d0 : wr.cell? ⟨b5, 0, none⟩ = some (.int .i64 x.k)
  d1 : wr.cell? ⟨b5, 1, none⟩ = some (.int .i64 x.p)
  d2 : wr.cell? ⟨b5, 2, none⟩ = some (.int .i64 x.f)
  d3 : wr.cell? ⟨b5, 3, none⟩ = some (.int .i64 x.n)
  lt : w.heap.size + 2 < b5

section
variable {w : World} {b5 : Nat} {x : ActI} {all r u : Int} {m l : Bool} {wr w1 : World}
theorem NB.below (h : NB w all r u m l wr) (hb : Below wr.heap.size wr w1) : NB w all r u m l w1 := by
  have hz := World.block_lt_of_cell? wr _ h.c0
  exact ⟨h.bel.trans (hb.mono h.bel.size), keep_below hb h.c0, keep_below hb h.c1, keep_below hb h.c2, keep_below hb h.c3,
    fun i => (hb.frozen (p := ⟨w.heap.size + 1 + 1, i, none⟩) hz).trans (h.f i), keep_below hb h.e1, there_below hb (by simp at hz; omega) h.t⟩
theorem NW.below (h : NW w b5 x all r u m l wr) (hb : Below wr.heap.size wr w1) : NW w b5 x all r u m l w1 :=
  ⟨h.toNB.below hb, keep_below hb h.d0, keep_below hb h.d1, keep_below hb h.d2, keep_below hb h.d3, h.lt⟩
theorem NW.set0 (h : NW w b5 x all r u m l wr) (v : Int) : NW w b5 x all v u m l (wr.setCell ⟨w.heap.size + 1 + 1, 0, none⟩ (.int .i64 v)) := by
  have hlt := h.lt
  exact ⟨⟨h.bel.setCell (p := ⟨w.heap.size + 1 + 1, 0, none⟩) (by simp <;> omega) _, cell_same h.c0, cell_other (by simp) h.c1, cell_other (by simp) h.c2, cell_other (by simp) h.c3,
    fun i => by rw [World.frozen?_setCell]; exact h.f i, cell_other (by simp <;> omega) h.e1, World.there_setCells h.t (w.heap.size + 1 + 1) 0 [.int .i64 v]⟩, cell_other (by simp <;> omega) h.d0, cell_other (by simp <;> omega) h.d1, cell_other (by simp <;> omega) h.d2, cell_other (by simp <;> omega) h.d3, h.lt⟩
theorem NW.set1 (h : NW w b5 x all r u m l wr) (v : Int) : NW w b5 x all r v m l (wr.setCell ⟨w.heap.size + 1 + 1, 1, none⟩ (.int .i64 v)) := by
  have hlt := h.lt
  exact ⟨⟨h.bel.setCell (p := ⟨w.heap.size + 1 + 1, 1, none⟩) (by simp <;> omega) _, cell_other (by simp) h.c0, cell_same h.c1, cell_other (by simp) h.c2, cell_other (by simp) h.c3,
    fun i => by rw [World.frozen?_setCell]; exact h.f i, cell_other (by simp <;> omega) h.e1, World.there_setCells h.t (w.heap.size + 1 + 1) 1 [.int .i64 v]⟩, cell_other (by simp <;> omega) h.d0, cell_other (by simp <;> omega) h.d1, cell_other (by simp <;> omega) h.d2, cell_other (by simp <;> omega) h.d3, h.lt⟩
theorem NW.set2 (h : NW w b5 x all r u m l wr) (v : Bool) : NW w b5 x all r u v l (wr.setCell ⟨w.heap.size + 1 + 1, 2, none⟩ (.bool v)) := by
  have hlt := h.lt
  exact ⟨⟨h.bel.setCell (p := ⟨w.heap.size + 1 + 1, 2, none⟩) (by simp <;> omega) _, cell_other (by simp) h.c0, cell_other (by simp) h.c1, cell_same h.c2, cell_other (by simp) h.c3,
    fun i => by rw [World.frozen?_setCell]; exact h.f i, cell_other (by simp <;> omega) h.e1, World.there_setCells h.t (w.heap.size + 1 + 1) 2 [.bool v]⟩, cell_other (by simp <;> omega) h.d0, cell_other (by simp <;> omega) h.d1, cell_other (by simp <;> omega) h.d2, cell_other (by simp <;> omega) h.d3, h.lt⟩
theorem NW.set3 (h : NW w b5 x all r u m l wr) (v : Bool) : NW w b5 x all r u m v (wr.setCell ⟨w.heap.size + 1 + 1, 3, none⟩ (.bool v)) := by
  have hlt := h.lt
  exact ⟨⟨h.bel.setCell (p := ⟨w.heap.size + 1 + 1, 3, none⟩) (by simp <;> omega) _, cell_other (by simp) h.c0, cell_other (by simp) h.c1, cell_other (by simp) h.c2, cell_same h.c3,
    fun i => by rw [World.frozen?_setCell]; exact h.f i, cell_other (by simp <;> omega) h.e1, World.there_setCells h.t (w.heap.size + 1 + 1) 3 [.bool v]⟩, cell_other (by simp <;> omega) h.d0, cell_other (by simp <;> omega) h.d1, cell_other (by simp <;> omega) h.d2, cell_other (by simp <;> omega) h.d3, h.lt⟩
theorem NB.act (h : NB w all r u m l wr) (y : ActI) : NW w wr.heap.size y all r u m l (wr.alloc (.cells #[.int .i64 y.k, .int .i64 y.p, .int .i64 y.f, .int .i64 y.n] 76)) := by
  have hb : Below wr.heap.size wr (wr.alloc (.cells #[.int .i64 y.k, .int .i64 y.p, .int .i64 y.f, .int .i64 y.n] 76)) := (Below.refl _ _).alloc (Nat.le_refl _) _
  have hz := World.block_lt_of_cell? wr _ h.c0
  have h1 := h.below hb
  exact ⟨h1, by simp, by simp, by simp, by simp, by simpa using hz⟩
theorem NB.start (w : World) (m al no : Int) (A : Option Addr) (len cap : Nat) : NB w al 0 0 false false
    (((w.alloc (.cells #[.int .i64 m, .int .i64 al, .int .i64 no, .slice A len cap] 26)).alloc (.cells #[.int .i64 0, .int .i64 0, .bool false, .bool false] 34)).alloc (.cells #[.int .i64 0, .int .i64 0, .bool false, .bool false] 34)) := by
  obtain ⟨w1, h1⟩ : ∃ W, W = w.alloc (.cells #[.int .i64 m, .int .i64 al, .int .i64 no, .slice A len cap] 26) := ⟨_, rfl⟩
  have z1 : w1.heap.size = w.heap.size + 1 := by rw [h1]; simp
  have b1 : Below w.heap.size w w1 := by rw [h1]; exact (Below.refl _ _).alloc (Nat.le_refl _) _
  have e1 : w1.cell? ⟨w.heap.size, 1, none⟩ = some (.int .i64 al) := by rw [h1]; simp
  rw [← h1]
  clear h1
  obtain ⟨w2, h2⟩ : ∃ W, W = w1.alloc (.cells #[.int .i64 0, .int .i64 0, .bool false, .bool false] 34) := ⟨_, rfl⟩
  have z2 : w2.heap.size = w.heap.size + 1 + 1 := by rw [h2]; simp [z1]
  have b2 : Below w1.heap.size w1 w2 := by rw [h2]; exact (Below.refl _ _).alloc (Nat.le_refl _) _
  have t2 : w2.there (w.heap.size + 1) 0 4 := by rw [h2, ← z1]; exact there_cells w1 _ _
  rw [← h2]
  clear h2
  have b3 : Below w2.heap.size w2 (w2.alloc (.cells #[.int .i64 0, .int .i64 0, .bool false, .bool false] 34)) := (Below.refl _ _).alloc (Nat.le_refl _) _
  have b13 := b1.trans ((b2.trans (b3.mono b2.size)).mono b1.size)
  refine ⟨b13, ?_, ?_, ?_, ?_, fun i => ?_, keep_below b3 (keep_below b2 e1), there_below b3 (by omega) t2⟩ <;> rw [← z2] <;> simp [go_sem]
end

def needsV (all : Int) (a : Nat → ActI) (len : Nat) : Value := .agg #[.int .i64 (rdTo a len), .int .i64 (wrTo a len), .bool (mvTo all a len), .bool (lfTo a len)]

set_option maxHeartbeats 1000000 in
theorem needs_any (m al no : Int) (A : Option Addr) (len cap : Nat) (a : Nat → ActI) (w : World) (hl : len ≤ 8) (hA : ActsAt w A len a) :
    Calls Try.prog 14 #[sysV m al no A len cap] w fun e w' => e = .returned (needsV al a len) ∧ Below w.heap.size w w' := by
  have HA := hide hA
  clear hA
  unfold sysV
  go_enter Try.func14, Try.ntmps14
  go_wp2
  go_loopw [9] (fun i wr => ∃ j : Nat, j ≤ len ∧ i = .int .i64 j ∧ NB w al (rdTo a j) (wrTo a j) (mvTo al a j) (lfTo a j) wr) (fun i _ => len - (intOf i).toNat)
  case atStart =>
    exact ⟨0, Nat.zero_le _, rfl, NB.start w m al no A len cap⟩
  case round =>
    obtain ⟨j, hj, rfl, hN⟩ := hrel
    by_cases hlt : j < len
    · have j0 : (0 : Int) ≤ (j : Int) := by omega
      have j1 : (j : Int) < (len : Int) := by omega
      obtain ⟨b, off, rfl, q0, q1, q2, q3⟩ := unhide HA j hlt
      have q0 := keep_below hN.bel q0
      have q1 := keep_below hN.bel q1
      have q2 := keep_below hN.bel q2
      have q3 := keep_below hN.bel q3
      have HN := hide hN
      clear hN HA
      go_wp2
      have hN5 := (unhide HN).act (a j)
      obtain ⟨W5, hW5⟩ : ∃ W, W = wr.alloc (.cells #[.int .i64 (a j).k, .int .i64 (a j).p, .int .i64 (a j).f, .int .i64 (a j).n] 76) := ⟨_, rfl⟩
      rw [← hW5] at hN5 ⊢
      clear hW5 HN q0 q1 q2 q3
      generalize wr.heap.size = b9 at *
      have hne : Nonempty (Sub W5) := ⟨⟨W5, Below.refl _ _⟩⟩
      have s0 := sub_cell hN5.c0
      have t0 := sub_cell hN5.d0
      have t1 := sub_cell hN5.d1
      have t2 := sub_cell hN5.d2
      have t3 := sub_cell hN5.d3
      have HN := hide hN5
      clear hN5
      refine wp_region_last_at 6 _ rfl rfl (by kernel_rfl) (by kernel_rfl) (by kernel_rfl) (by kernel_rfl) (by kernel_rfl) ?_
      intro l hl
      simp only [List.take_succ_cons, List.take_zero] at hl
      subst hl
      repeat (go_big_quiet_step ((first
        | (go_at_call 37; exact sub_bel (reads_any _ _ _ _ _)))))
      refine wpQuiet_nil ?_
      rintro w6 ⟨xs, hxs⟩
      have hb6 := xs.bel
      rw [← hxs] at hb6
      have hN6 := (unhide HN).below hb6
      clear hxs xs hb6 s0 t0 t1 t2 t3 hne HN
      have c0 := hN6.c0
      have f0 := hN6.f 0
      have HN := hide hN6
      clear hN6
      simp [go_sem, c0, f0]
      have hN7 := (unhide HN).set0 (bits .or .i64 (rdTo a j) (rdI (a j).k (a j).p (a j).f))
      obtain ⟨W7, hW7⟩ : ∃ W, W = w6.setCell ⟨w.heap.size + 1 + 1, 0, none⟩ (.int .i64 (bits .or .i64 (rdTo a j) (rdI (a j).k (a j).p (a j).f))) := ⟨_, rfl⟩
      rw [← hW7] at hN7 ⊢
      clear hW7 HN c0 f0
      have HN := hide hN7
      clear hN7
      go_wp2_with fail
      have hne : Nonempty (Sub W7) := ⟨⟨W7, Below.refl _ _⟩⟩
      have s0 := sub_cell (unhide HN).c1
      have t0 := sub_cell (unhide HN).d0
      have t1 := sub_cell (unhide HN).d1
      have t2 := sub_cell (unhide HN).d2
      have t3 := sub_cell (unhide HN).d3
      refine wp_region_last_at 6 _ rfl rfl (by kernel_rfl) (by kernel_rfl) (by kernel_rfl) (by kernel_rfl) (by kernel_rfl) ?_
      intro l hl
      simp only [List.take_succ_cons, List.take_zero] at hl
      subst hl
      repeat (go_big_quiet_step ((first
        | (go_at_call 38; exact sub_bel (writes_any _ _ _ _ _)))))
      refine wpQuiet_nil ?_
      rintro w8 ⟨xs, hxs⟩
      have hb8 := xs.bel
      rw [← hxs] at hb8
      have hN8 := (unhide HN).below hb8
      clear hxs xs hb8 s0 t0 t1 t2 t3 hne HN
      have c1 := hN8.c1
      have f1 := hN8.f 1
      have HN := hide hN8
      clear hN8
      simp [go_sem, c1, f1]
      have hN9 := (unhide HN).set1 (bits .or .i64 (wrTo a j) (wrI (a j).k (a j).p))
      obtain ⟨W9, hW9⟩ : ∃ W, W = w8.setCell ⟨w.heap.size + 1 + 1, 1, none⟩ (.int .i64 (bits .or .i64 (wrTo a j) (wrI (a j).k (a j).p))) := ⟨_, rfl⟩
      rw [← hW9] at hN9 ⊢
      clear hW9 HN c1 f1
      have HN := hide hN9
      have HM : Hid (mvTo al a (j + 1) = (mvTo al a j || mvB (a j).k (a j).p al)) := rfl
      have HL : Hid (lfTo a (j + 1) = (lfTo a j || (decide ((a j).k = 6) || decide ((a j).k = 7)))) := rfl
      have c2 := hN9.c2
      have c3 := hN9.c3
      have f2 := hN9.f 2
      have f3 := hN9.f 3
      have e1 := hN9.e1
      have d0 := hN9.d0
      have d1 := hN9.d1
      have d2 := hN9.d2
      have d3 := hN9.d3
      have hlt9 := hN9.lt
      clear hN9
      have HR : Hid (rdTo a (j + 1) = bits .or .i64 (rdTo a j) (rdI (a j).k (a j).p (a j).f)) := rfl
      have HU : Hid (wrTo a (j + 1) = bits .or .i64 (wrTo a j) (wrI (a j).k (a j).p)) := rfl
      have hne1 : ¬ w.heap.size + 1 + 1 = b9 := by omega
      have hne2 : ¬ b9 = w.heap.size + 1 + 1 := by omega
      clear hlt9
      generalize a j = y at *
      obtain ⟨k, p, f, n⟩ := y
      dsimp only at *
      generalize mvTo al a j = mj at *
      generalize lfTo a j = lj at *
      generalize rdTo a j = rj at *
      generalize wrTo a j = uj at *
      have HMV := hide (moves_any k p f n al)
      have hk : k = 6 ∨ k = 7 ∨ ¬ (k = 6 ∨ k = 7) := by omega
      rcases hk with rfl | rfl | hk
      case' inr.inr =>
        have k6 : ¬ k = 6 := fun e => hk (.inl e)
        have k7 : ¬ k = 7 := fun e => hk (.inr e)
        clear hk
      all_goals
        cases mj
        all_goals
          cases lj
          all_goals
            go_wp2_with (first
              | (go_at_call 39; refine (unhide HMV _).mono ?_; rintro e w10 ⟨rfl, hb10⟩; have hN10 := (unhide HN).below hb10; clear HN c2 c3 f2 f3 e1 d0 d1 d2 d3; have c2 := hN10.c2; have c3 := hN10.c3; have f2 := hN10.f 2; have f3 := hN10.f 3; have d0 := hN10.d0; have HN := hide hN10; clear hN10 hb10))
            go_roundw
            case rel =>
              exact ⟨j + 1, by omega, by go_num, by
                rw [unhide HR, unhide HU, unhide HM, unhide HL]
                first
                | exact (((unhide HN).set2 _).set3 _).toNB
                | (simp only [k6, k7, decide_false, Bool.or_false, Bool.false_or, Bool.true_or]; exact (((unhide HN).set2 _).set3 _).toNB)⟩
            case measure => simp [intOf]; omega
    · obtain rfl : j = len := by omega
      have c0 := hN.c0
      have c1 := hN.c1
      have c2 := hN.c2
      have c3 := hN.c3
      have t0 := (hN.t 0 (by omega)).1
      have t1 := (hN.t 1 (by omega)).1
      have t2 := (hN.t 2 (by omega)).1
      have t3 := (hN.t 3 (by omega)).1
      have g0 := (hN.t 0 (by omega)).2
      have g1 := (hN.t 1 (by omega)).2
      have g2 := (hN.t 2 (by omega)).2
      have g3 := (hN.t 3 (by omega)).2
      simp only [Nat.zero_add] at t0 t1 t2 t3 g0 g1 g2 g3
      obtain ⟨y0, t0⟩ := Option.isSome_iff_exists.1 t0
      obtain ⟨y1, t1⟩ := Option.isSome_iff_exists.1 t1
      obtain ⟨y2, t2⟩ := Option.isSome_iff_exists.1 t2
      obtain ⟨y3, t3⟩ := Option.isSome_iff_exists.1 t3
      have HB := hide hN.bel
      clear hN HA
      go_wp2
      refine bodyPost_ret (v := needsV al a j) (by simp [results, Try.results14, go_sem, needsV, t0, t1, t2, t3]) rfl ⟨rfl, ?_⟩
      exact below_setCells (w.heap.size + 1) (by omega) [.int .i64 (rdTo a j), .int .i64 (wrTo a j), .bool (mvTo al a j), .bool (lfTo a j)] 0 wr (unhide HB)
end Go.Proofs.Ytnbleebilmghcab
