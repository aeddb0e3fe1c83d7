/- The document's Wrong answers what rule.Wrong answers, whatever the system. -/
import Derived.Test.YtnbleebilmghcabBRAct3
set_option linter.unusedVariables false
set_option linter.unusedSimpArgs false
set_option linter.unnecessarySimpa false
namespace Go.Proofs.Ytnbleebilmghcab
open Go.RowKit
attribute [local go_sem ↓] Go.wp_at_zero Go.wp_at_succ

structure RW (w : World) (al no : Int) (g : Nat → Bool) (wr : World) : Prop where
  bel : Below w.heap.size w wr
  e1 : wr.cell? ⟨w.heap.size, 1, none⟩ = some (.int .i64 al)
  e2 : wr.cell? ⟨w.heap.size, 2, none⟩ = some (.int .i64 no)
  t0 : wr.cell? ⟨w.heap.size + 1, 0, none⟩ = some (.int .i64 0)
  t1 : wr.cell? ⟨w.heap.size + 1, 1, none⟩ = some (.int .i64 0)
  f : ∀ i, wr.frozen? ⟨w.heap.size + 1, i, none⟩ = false
  g : ∀ q, q < 8 → wr.cell? ⟨w.heap.size + 1 + 1, q, none⟩ = some (.bool (g q))
  fg : ∀ i, wr.frozen? ⟨w.heap.size + 1 + 1, i, none⟩ = false
section
variable {w wr w1 : World} {al no : Int} {g : Nat → Bool}
theorem RW.below (h : RW w al no g wr) (hb : Below wr.heap.size wr w1) : RW w al no g w1 := by
  have z0 := World.block_lt_of_cell? wr _ h.t0
  have z1 := World.block_lt_of_cell? wr _ (h.g 0 (by omega))
  exact ⟨h.bel.trans (hb.mono h.bel.size), keep_below hb h.e1, keep_below hb h.e2, keep_below hb h.t0, keep_below hb h.t1, fun i => (hb.frozen (p := ⟨w.heap.size + 1, i, none⟩) z0).trans (h.f i),
    fun q hq => keep_below hb (h.g q hq), fun i => (hb.frozen (p := ⟨w.heap.size + 1 + 1, i, none⟩) z1).trans (h.fg i)⟩
theorem RW.set (h : RW w al no g wr) (q : Nat) (hq : q < 8) (b : Bool) : RW w al no (fun i => if i = q then b else g i) (wr.setCell ⟨w.heap.size + 1 + 1, q, none⟩ (.bool b)) := by
  refine ⟨h.bel.setCell (p := ⟨w.heap.size + 1 + 1, q, none⟩) (by simp <;> omega) _, cell_other (by simp <;> omega) h.e1, cell_other (by simp <;> omega) h.e2, cell_other (by simp <;> omega) h.t0, cell_other (by simp <;> omega) h.t1,
    fun i => by rw [World.frozen?_setCell]; exact h.f i, fun i hi => ?_, fun i => by rw [World.frozen?_setCell]; exact h.fg i⟩
  by_cases e : i = q
  · subst e; simp only [if_true]; exact cell_same (h.g i hi)
  · simp only [e, if_false]; exact cell_other (by simp <;> omega) (h.g i hi)
theorem RW.start (m : Int) (A : Option Addr) (len cap : Nat) : RW w al no (fun _ => false)
    (((w.alloc (.cells #[.int .i64 m, .int .i64 al, .int .i64 no, .slice A len cap] 26)).alloc (.cells #[.int .i64 0, .int .i64 0] 30)).alloc (.cells #[.bool false, .bool false, .bool false, .bool false, .bool false, .bool false, .bool false, .bool false] 92)) := by
  obtain ⟨w1, h1⟩ : ∃ W, W = w.alloc (.cells #[.int .i64 m, .int .i64 al, .int .i64 no, .slice A len cap] 26) := ⟨_, rfl⟩
  have z1 : w1.heap.size = w.heap.size + 1 := by rw [h1]; simp
  have b1 : Below w.heap.size w w1 := by rw [h1]; exact (Below.refl _ _).alloc (Nat.le_refl _) _
  have e1 : w1.cell? ⟨w.heap.size, 1, none⟩ = some (.int .i64 al) := by rw [h1]; simp
  have e2 : w1.cell? ⟨w.heap.size, 2, none⟩ = some (.int .i64 no) := by rw [h1]; simp
  rw [← h1]
  clear h1
  obtain ⟨w2, h2⟩ : ∃ W, W = w1.alloc (.cells #[.int .i64 0, .int .i64 0] 30) := ⟨_, rfl⟩
  have z2 : w2.heap.size = w.heap.size + 1 + 1 := by rw [h2]; simp [z1]
  have b2 : Below w1.heap.size w1 w2 := by rw [h2]; exact (Below.refl _ _).alloc (Nat.le_refl _) _
  have t0 : w2.cell? ⟨w.heap.size + 1, 0, none⟩ = some (.int .i64 0) := by rw [h2, ← z1]; simp
  have t1 : w2.cell? ⟨w.heap.size + 1, 1, none⟩ = some (.int .i64 0) := by rw [h2, ← z1]; simp
  have f2 : ∀ i, w2.frozen? ⟨w.heap.size + 1, i, none⟩ = false := fun i => by rw [h2, ← z1]; simp [go_sem]
  rw [← h2]
  clear h2
  have b3 : Below w2.heap.size w2 (w2.alloc (.cells #[.bool false, .bool false, .bool false, .bool false, .bool false, .bool false, .bool false, .bool false] 92)) := (Below.refl _ _).alloc (Nat.le_refl _) _
  refine ⟨b1.trans ((b2.trans (b3.mono b2.size)).mono b1.size), keep_below b3 (keep_below b2 e1), keep_below b3 (keep_below b2 e2), keep_below b3 t0, keep_below b3 t1, fun i => (b3.frozen (p := ⟨w.heap.size + 1, i, none⟩) (by show w.heap.size + 1 < w2.heap.size; omega)).trans (f2 i), fun q hq => ?_, fun i => ?_⟩
  · rw [← z2]
    rcases (by omega : q = 0 ∨ q = 1 ∨ q = 2 ∨ q = 3 ∨ q = 4 ∨ q = 5 ∨ q = 6 ∨ q = 7) with rfl | rfl | rfl | rfl | rfl | rfl | rfl | rfl <;> simp
  · rw [← z2]; simp [go_sem]
end

/-- What may be read behind an act. -/
theorem GR.drop {al : Int} {g : Nat → Bool} {r : Int} (h : GR al g r) (q : Nat) (hq : q < 8) : GR al (fun i => if i = q then true else g i) (bits .and .i64 (bits .andNot .i64 r (bitI (q : Int))) al) := by
  have hs := andNot_set r (bitI (q : Int)) h.sr
  refine ⟨h.sal, and_set _ _ hs, fun i hi => ?_⟩
  rw [tb_and _ _ hs h.sal i hi, tb_andNot _ _ h.sr (bit_set _) i hi, tb_bit q i hq hi, h.eq i hi]
  by_cases e : i = q
  · subst e; simp
  · have e' : ¬ q = i := fun x => e x.symm
    simp only [e, e', decide_false, Bool.not_false, Bool.and_true, if_false]
    cases tb al i <;> cases g i <;> rfl
theorem GR.put {al : Int} {g : Nat → Bool} {r : Int} (h : GR al g r) (q : Nat) (hq : q < 8) : GR al (fun i => if i = q then false else g i) (bits .and .i64 (bits .or .i64 r (bitI (q : Int))) al) := by
  have hs := (or_set r (bitI (q : Int)) h.sr (bit_set _)).2
  refine ⟨h.sal, and_set _ _ hs, fun i hi => ?_⟩
  rw [tb_and _ _ hs h.sal i hi, tb_or _ _ h.sr (bit_set _) i hi, tb_bit q i hq hi, h.eq i hi]
  by_cases e : i = q
  · subst e; simp
  · have e' : ¬ q = i := fun x => e x.symm
    simp only [e, e', decide_false, Bool.or_false, if_false]
    cases tb al i <;> cases g i <;> rfl
theorem GR.same {al : Int} {g : Nat → Bool} {r : Int} (h : GR al g r) : GR al g (bits .and .i64 r al) := by
  refine ⟨h.sal, and_set _ _ h.sr, fun i hi => ?_⟩
  rw [tb_and _ _ h.sr h.sal i hi, h.eq i hi]
  cases tb al i <;> cases g i <;> rfl
theorem GR.start {al : Int} (h : setB al = true) : GR al (fun _ => false) al := ⟨h, h, fun i _ => by simp⟩

set_option maxRecDepth 8000 in
set_option maxHeartbeats 1000000 in
theorem rwrong_head (m al no : Int) (A : Option Addr) (len cap : Nat) (w : World) (h : headB m al no = false) :
    Calls Try.prog 53 #[sysV m al no A len cap] w fun e w' => e = .returned (faultV (3, 0)) ∧ Below w.heap.size w w' := by
  unfold headB at h
  unfold sysV
  have hc : m < 0 ∨ (¬ m < 0 ∧ 5 < m) ∨ ((¬ m < 0 ∧ ¬ 5 < m) ∧ setB al = false) ∨ ((¬ m < 0 ∧ ¬ 5 < m) ∧ setB al = true ∧ setB no = false) := by
    cases h1 : setB al <;> cases h2 : setB no <;> simp [h1, h2] at h ⊢ <;> omega
  clear h
  rcases hc with h0 | ⟨h0, h1⟩ | ⟨⟨h0, h1⟩, h2⟩ | ⟨⟨h0, h1⟩, h2, h3⟩
  all_goals
    go_enter Try.func53, Try.ntmps53
    go_wp2_with (first
      | (go_at_call 77; refine (rset_any _ _).mono ?_; rintro e w1 ⟨rfl, hw⟩; obtain rfl := hw.symm))
    refine bodyPost_ret (v := faultV (3, 0)) (by simp [results, Try.results53, go_sem, faultV]) rfl ⟨rfl, ?_⟩
    go_grown

set_option maxRecDepth 8000 in
set_option maxHeartbeats 1000000 in
theorem rwrong_many (m al no : Int) (A : Option Addr) (len cap : Nat) (w : World) (h : headB m al no = true) (hl : 8 < len) :
    Calls Try.prog 53 #[sysV m al no A len cap] w fun e w' => e = .returned (faultV (4, 0)) ∧ Below w.heap.size w w' := by
  unfold headB at h
  unfold sysV
  simp only [Bool.and_eq_true, decide_eq_true_eq] at h
  obtain ⟨⟨⟨h0, h1⟩, h2⟩, h3⟩ := h
  have h0' : ¬ m < 0 := by omega
  have h1' : ¬ 5 < m := by omega
  clear h0 h1
  have hl' : (8 : Int) < (len : Int) := by omega
  go_enter Try.func53, Try.ntmps53
  go_wp2_with (first
    | (go_at_call 77; refine (rset_any _ _).mono ?_; rintro e w1 ⟨rfl, hw⟩; obtain rfl := hw.symm))
  refine bodyPost_ret (v := faultV (4, 0)) (by simp [results, Try.results53, go_sem, faultV]) rfl ⟨rfl, ?_⟩
  go_grown

set_option maxRecDepth 8000 in
set_option maxHeartbeats 2000000 in
theorem rwrong_body (m al no : Int) (A : Option Addr) (len cap : Nat) (a : Nat → ActI) (w : World) (h : headB m al no = true) (hl : len ≤ 8) (hA : ActsAt w A len a) :
    Calls Try.prog 53 #[sysV m al no A len cap] w fun e w' => e = .returned (faultV (fbTo al a len 0)) ∧ Below w.heap.size w w' := by
  have hW : RW w al no (fun _ => false) _ := RW.start m A len cap
  unfold headB at h
  unfold sysV
  simp only [Bool.and_eq_true, decide_eq_true_eq] at h
  obtain ⟨⟨⟨h0, h1⟩, h2⟩, h3⟩ := h
  have hG0 := GR.start h2
  have h0' : ¬ m < 0 := by omega
  have h1' : ¬ 5 < m := by omega
  clear h0 h1
  have hl' : ¬ (8 : Int) < (len : Int) := by omega
  have HW := hide hW
  have HA := hide hA
  have HG0 := hide hG0
  clear hW hA hG0
  go_enter Try.func53, Try.ntmps53
  go_wp2_with (first
    | (go_at_call 77; refine (rset_any _ _).mono ?_; rintro e w1 ⟨rfl, hw⟩; obtain rfl := hw.symm))
  go_loopw [38] (fun i wr => ∃ j : Nat, j ≤ len ∧ i = .int .i64 j ∧ fbTo al a len 0 = fbTo al a (len - j) j ∧ ∃ g, GR al g (rbTo al a j) ∧ RW w al no g wr) (fun i _ => len - (intOf i).toNat)
  case atStart => exact ⟨0, Nat.zero_le _, rfl, rfl, _, unhide HG0, unhide HW⟩
  case round =>
    clear HW HG0
    obtain ⟨j, hj, rfl, hF, g, hG, hN⟩ := hrel
    have HF := hide hF
    clear hF
    by_cases hlt : j < len
    · have j0 : (0 : Int) ≤ (j : Int) := by omega
      have j1 : (j : Int) < (len : Int) := by omega
      obtain ⟨b, off, rfl, q0, q1, q2, q3⟩ := unhide HA j hlt
      have q0 := keep_below hN.bel q0
      have q1 := keep_below hN.bel q1
      have q2 := keep_below hN.bel q2
      have q3 := keep_below hN.bel q3
      have e1 := hN.e1
      have e2 := hN.e2
      have c0 := hN.g 0 (by omega)
      have c1 := hN.g 1 (by omega)
      have c2 := hN.g 2 (by omega)
      have c3 := hN.g 3 (by omega)
      have c4 := hN.g 4 (by omega)
      have c5 := hN.g 5 (by omega)
      have c6 := hN.g 6 (by omega)
      have c7 := hN.g 7 (by omega)
      have z2 : w.heap.size + 1 + 1 < wr.heap.size := World.block_lt_of_cell? wr _ c0
      have z1 : w.heap.size + 1 < wr.heap.size := Nat.lt_of_succ_lt z2
      have z0 : w.heap.size < wr.heap.size := Nat.lt_of_succ_lt z1
      have HN := hide hN
      have HS := hide (fb_step al a len j hlt)
      have HR : Hid (rbTo al a (j + 1) = bits .and .i64 (afI (a j).k (a j).p (rbTo al a j)) al) := rfl
      have HE : Hid (waAt al a j = waI (a j).k (a j).p (a j).f (a j).n (rbTo al a j)) := rfl
      clear hN HA
      generalize waAt al a j = ej at *
      generalize rbTo al a j = rj at *
      generalize a j = y at *
      obtain ⟨k, p, f, n⟩ := y
      dsimp only at *
      have HC := fun W => rwrongAct_any k p f n al no rj g W hG
      rw [← unhide HE] at HC
      have HC := hide HC
      have HG := hide hG
      clear hG
      unfold actV gV at HC
      by_cases he : ej = 0
      · subst he
        have hrg := (wa_range _ _ _ _ _ (unhide HE).symm).1
        clear HE
        have hk : (k = 5 ∧ ∃ q : Nat, q < 8 ∧ p = (q : Int)) ∨ (k = 1 ∧ ∃ q : Nat, q < 8 ∧ p = (q : Int)) ∨ (k = 2 ∧ ∃ q : Nat, q < 8 ∧ p = (q : Int)) ∨ (¬ k = 5 ∧ ¬ k = 1 ∧ ¬ k = 2) := by
          have hp : ∀ p : Int, partB p = true → ∃ q : Nat, q < 8 ∧ p = (q : Int) := fun p hp => ⟨p.toNat, by have := of_decide_eq_true hp; omega, by have := of_decide_eq_true hp; omega⟩
          by_cases k5 : k = 5
          · exact .inl ⟨k5, hp p (by subst k5; simpa [rgB] using hrg)⟩
          · by_cases k1 : k = 1
            · exact .inr (.inl ⟨k1, hp p (by subst k1; simp [rgB] at hrg; exact hrg.1)⟩)
            · by_cases k2 : k = 2
              · exact .inr (.inr (.inl ⟨k2, hp p (by subst k2; simp [rgB] at hrg; exact hrg.1)⟩))
              · exact .inr (.inr (.inr ⟨k5, k1, k2⟩))
        clear hrg
        rcases hk with ⟨rfl, q, hq, rfl⟩ | ⟨rfl, q, hq, rfl⟩ | ⟨rfl, q, hq, rfl⟩ | ⟨k5, k1, k2⟩
        · have qq0 : (0 : Int) ≤ (q : Int) := by omega
          have qq1 : (q : Int) < 8 := by omega
          go_wp2_with (first
            | (go_at_call 78; refine (unhide HC _).mono ?_; rintro e w5 ⟨rfl, hb5⟩; have hN5 := (unhide HN).below (Below.trans ((Below.refl _ _).alloc (Nat.le_refl _) _) (hb5.mono (by simp))); have d0 := keep_below hb5 (p := ⟨wr.heap.size, 0, none⟩) (v := .int .i64 5) (by simp); have d1 := keep_below hb5 (p := ⟨wr.heap.size, 1, none⟩) (v := .int .i64 (q : Int)) (by simp); have cq := hN5.g q hq; have fq := hN5.fg q; have hne9 : ¬ w.heap.size + 1 + 1 = wr.heap.size := Nat.ne_of_lt z2; have hz5 : wr.heap.size < w5.heap.size := World.block_lt_of_cell? w5 _ d0; clear hb5 e1 e2 c0 c1 c2 c3 c4 c5 c6 c7 q0 q1 q2 q3))
          go_roundw
          case rel => exact ⟨j + 1, by omega, by go_num, (unhide HF).trans ((unhide HS).trans (by simp)), _, by rw [unhide HR]; exact (unhide HG).drop q hq, hN5.set q hq _⟩
          case measure => simp [intOf]; omega
        · have qq0 : (0 : Int) ≤ (q : Int) := by omega
          have qq1 : (q : Int) < 8 := by omega
          go_wp2_with (first
            | (go_at_call 78; refine (unhide HC _).mono ?_; rintro e w5 ⟨rfl, hb5⟩; have hN5 := (unhide HN).below (Below.trans ((Below.refl _ _).alloc (Nat.le_refl _) _) (hb5.mono (by simp))); have d0 := keep_below hb5 (p := ⟨wr.heap.size, 0, none⟩) (v := .int .i64 1) (by simp); have d1 := keep_below hb5 (p := ⟨wr.heap.size, 1, none⟩) (v := .int .i64 (q : Int)) (by simp); have cq := hN5.g q hq; have fq := hN5.fg q; have hne9 : ¬ w.heap.size + 1 + 1 = wr.heap.size := Nat.ne_of_lt z2; have hz5 : wr.heap.size < w5.heap.size := World.block_lt_of_cell? w5 _ d0; clear hb5 e1 e2 c0 c1 c2 c3 c4 c5 c6 c7 q0 q1 q2 q3))
          go_roundw
          case rel => exact ⟨j + 1, by omega, by go_num, (unhide HF).trans ((unhide HS).trans (by simp)), _, by rw [unhide HR]; exact (unhide HG).put q hq, hN5.set q hq _⟩
          case measure => simp [intOf]; omega
        · have qq0 : (0 : Int) ≤ (q : Int) := by omega
          have qq1 : (q : Int) < 8 := by omega
          go_wp2_with (first
            | (go_at_call 78; refine (unhide HC _).mono ?_; rintro e w5 ⟨rfl, hb5⟩; have hN5 := (unhide HN).below (Below.trans ((Below.refl _ _).alloc (Nat.le_refl _) _) (hb5.mono (by simp))); have d0 := keep_below hb5 (p := ⟨wr.heap.size, 0, none⟩) (v := .int .i64 2) (by simp); have d1 := keep_below hb5 (p := ⟨wr.heap.size, 1, none⟩) (v := .int .i64 (q : Int)) (by simp); have cq := hN5.g q hq; have fq := hN5.fg q; have hne9 : ¬ w.heap.size + 1 + 1 = wr.heap.size := Nat.ne_of_lt z2; have hz5 : wr.heap.size < w5.heap.size := World.block_lt_of_cell? w5 _ d0; clear hb5 e1 e2 c0 c1 c2 c3 c4 c5 c6 c7 q0 q1 q2 q3))
          go_roundw
          case rel => exact ⟨j + 1, by omega, by go_num, (unhide HF).trans ((unhide HS).trans (by simp)), _, by rw [unhide HR]; exact (unhide HG).put q hq, hN5.set q hq _⟩
          case measure => simp [intOf]; omega
        · have kb5 : (k == 5) = false := by simpa using k5
          have kb1 : (k == 1) = false := by simpa using k1
          have kb2 : (k == 2) = false := by simpa using k2
          go_wp2_with (first
            | (go_at_call 78; refine (unhide HC _).mono ?_; rintro e w5 ⟨rfl, hb5⟩; have hN5 := (unhide HN).below (Below.trans ((Below.refl _ _).alloc (Nat.le_refl _) _) (hb5.mono (by simp))); have d0 := keep_below hb5 (p := ⟨wr.heap.size, 0, none⟩) (v := .int .i64 k) (by simp); clear hb5 e1 e2 c0 c1 c2 c3 c4 c5 c6 c7 q0 q1 q2 q3))
          go_roundw
          case rel => exact ⟨j + 1, by omega, by go_num, (unhide HF).trans ((unhide HS).trans (by simp)), _, by
            rw [unhide HR]
            have e : afI k p rj = rj := by simp [afI, k5, k1, k2]
            rw [e]
            exact (unhide HG).same, hN5⟩
          case measure => simp [intOf]; omega
      · go_wp2_with (first
          | (go_at_call 78; refine (unhide HC _).mono ?_; rintro e w5 ⟨rfl, hb5⟩; have hN5 := (unhide HN).below (Below.trans ((Below.refl _ _).alloc (Nat.le_refl _) _) (hb5.mono (by simp))); clear hb5; have t0 := hN5.t0; have t1 := hN5.t1; have f0 := hN5.f 0; have f1 := hN5.f 1))
        have hv : fbTo al a len 0 = (ej, (j : Int)) := by rw [unhide HF, unhide HS, if_neg he]
        refine bodyPost_ret (v := faultV (ej, (j : Int))) (by simp [results, Try.results53, go_sem, faultV, t0, t1]) rfl ⟨by rw [hv], ?_⟩
        exact below_setCells (w.heap.size + 1) (by omega) [.int .i64 ej, .int .i64 (j : Int)] 0 w5 hN5.bel
    · obtain rfl : j = len := by omega
      have hv : fbTo al a j 0 = (0, 0) := by rw [unhide HF, Nat.sub_self]; rfl
      have t0 := hN.t0
      have t1 := hN.t1
      have f0 := hN.f 0
      have f1 := hN.f 1
      have HB := hide hN.bel
      clear hN HA
      go_wp2
      refine bodyPost_ret (v := faultV (0, 0)) (by simp [results, Try.results53, go_sem, faultV, t0, t1]) rfl ⟨by rw [hv], ?_⟩
      exact below_setCells (w.heap.size + 1) (by omega) [.int .i64 0, .int .i64 0] 0 wr (unhide HB)

/-- WHATEVER THE SYSTEM. -/
theorem rwrong_any (m al no : Int) (A : Option Addr) (len cap : Nat) (a : Nat → ActI) (w : World) (hA : ActsAt w A len a) :
    Calls Try.prog 53 #[sysV m al no A len cap] w fun e w' => e = .returned (faultV (wrF m al no a len)) ∧ Below w.heap.size w w' := by
  unfold wrF
  cases h : headB m al no
  · exact rwrong_head m al no A len cap w h
  · by_cases hl : 8 < len
    · simp only [Bool.true_eq_false, if_false, hl, if_true]
      exact rwrong_many m al no A len cap w h hl
    · simp only [Bool.true_eq_false, if_false, hl]
      exact rwrong_body m al no A len cap a w h (by omega) hA
end Go.Proofs.Ytnbleebilmghcab
