/- The document's Clash answers what rule.Clash answers, of right systems. -/
import Derived.Test.YtnbleebilmghcabBRNeeds2
set_option linter.unusedVariables false
set_option linter.unusedSimpArgs false
set_option linter.unnecessarySimpa false
namespace Go.Proofs.Ytnbleebilmghcab
open Go.RowKit
attribute [local go_sem ↓] Go.wp_at_zero Go.wp_at_succ

def okC (r u r' u' : Int) (k : Nat) : Bool := !((tb u k && (tb u' k || tb r' k)) || (tb r k && tb u' k))
theorem and_tb (x y : Int) (hx : setB x = true) (hy : setB y = true) : bits .and .i64 x y = 0 ↔ ∀ k, k < 8 → (tb x k && tb y k) = false := by
  constructor
  · intro h k hk
    rw [← tb_and x y hx hy k hk, h]; exact tb_zero k hk
  · intro h
    rw [andz]
    apply BitVec.eq_of_getLsbD_eq
    intro i hi
    rw [BitVec.getLsbD_and, lsb_tb _ i (set_nonneg hx) hi, lsb_tb _ i (set_nonneg hy) hi, BitVec.getLsbD_zero]
    by_cases h8 : i < 8
    · exact h i h8
    · rw [tb_far x i hx (by omega)]; simp
theorem ds_tb (u r v : Int) (hu : setB u = true) (hr : setB r = true) (hv : setB v = true) : dsB u r v = false ↔ ∀ k, k < 8 → (tb u k && (tb r k || tb v k)) = false := by
  unfold dsB
  rw [bne_eq_false_iff_eq, and_tb _ _ hu (or_set r v hr hv).2]
  constructor
  · intro h k hk; have := h k hk; rwa [tb_or r v hr hv k hk] at this
  · intro h k hk; rw [tb_or r v hr hv k hk]; exact h k hk
section
variable {r u r' u' : Int}
theorem cl_true (hr : setB r = true)(hu : setB u = true)(hr' : setB r' = true)(hu' : setB u' = true) (m l m' l' : Bool) (k : Nat) (hk : k < 8) (h : okC r u r' u' k = false) : clN r u m l r' u' m' l' = true := by
  cases h1 : dsB u r' u'
  · cases h2 : dsB u' r u
    · exfalso
      have a1 := (ds_tb u r' u' hu hr' hu').1 h1 k hk
      have a2 := (ds_tb u' r u hu' hr hu).1 h2 k hk
      unfold okC at h
      revert h a1 a2
      cases tb r k <;> cases tb u k <;> cases tb r' k <;> cases tb u' k <;> simp
    · simp [clN, h2]
  · simp [clN, h1]
theorem cl_rest (hr : setB r = true)(hu : setB u = true)(hr' : setB r' = true)(hu' : setB u' = true) (m l m' l' : Bool) (h : ∀ k, k < 8 → okC r u r' u' k = true) : clN r u m l r' u' m' l' = (m || (l || (m' || l'))) := by
  have a1 : dsB u r' u' = false := (ds_tb u r' u' hu hr' hu').2 (fun k hk => by
    have := h k hk
    unfold okC at this
    revert this
    cases tb r k <;> cases tb u k <;> cases tb r' k <;> cases tb u' k <;> simp)
  have a2 : dsB u' r u = false := (ds_tb u' r u hu' hr hu).2 (fun k hk => by
    have := h k hk
    unfold okC at this
    revert this
    cases tb r k <;> cases tb u k <;> cases tb r' k <;> cases tb u' k <;> simp)
  unfold clN
  rw [a1, a2]
  cases m <;> cases l <;> cases m' <;> cases l' <;> rfl
end

set_option maxRecDepth 8000 in
set_option maxHeartbeats 4000000 in
theorem rclash_any (m al no : Int) (A : Option Addr) (len cap : Nat) (a : Nat → ActI) (m' al' no' : Int) (A' : Option Addr) (len' cap' : Nat) (a' : Nat → ActI) (w : World) (hl : len ≤ 8) (hl' : len' ≤ 8)
    (hal : setB al = true) (hal' : setB al' = true) (hok : okN al a len) (hok' : okN al' a' len') (hA : ActsAt w A len a) (hA' : ActsAt w A' len' a') :
    Calls Try.prog 52 #[sysV m al no A len cap, sysV m' al' no' A' len' cap'] w fun e w' => e = .returned (.bool (clB al a len al' a' len')) ∧ Below w.heap.size w w' := by
  have hnA : ∀ W1, Below w.heap.size w W1 → Calls Try.prog 76 #[sysV m al no A len cap] W1 fun e w' => e = .returned (needsV al a len) ∧ Below W1.heap.size W1 w' := fun W1 h => rneeds_any m al no A len cap a W1 hal hl hok (hA.below h)
  have hnB : ∀ W1, Below w.heap.size w W1 → Calls Try.prog 76 #[sysV m' al' no' A' len' cap'] W1 fun e w' => e = .returned (needsV al' a' len') ∧ Below W1.heap.size W1 w' := fun W1 h => rneeds_any m' al' no' A' len' cap' a' W1 hal' hl' hok' (hA'.below h)
  have sr := rdTo_set a len
  have su := wrTo_set al a len hok
  have sr' := rdTo_set a' len'
  have su' := wrTo_set al' a' len' hok'
  unfold clB
  unfold needsV sysV at *
  generalize rdTo a len = r at *
  generalize wrTo a len = u at *
  generalize mvTo al a len = mv at *
  generalize lfTo a len = lf at *
  generalize rdTo a' len' = r' at *
  generalize wrTo a' len' = u' at *
  generalize mvTo al' a' len' = mv' at *
  generalize lfTo a' len' = lf' at *
  have HA := hide hnA
  have HB := hide hnB
  have HF := hide (fun k hk h => cl_true (k := k) sr su sr' su' mv lf mv' lf' hk h)
  have HT := hide (fun h => cl_rest sr su sr' su' mv lf mv' lf' h)
  have HH := hide (fun (t : Nat) (ht : t < 8) => And.intro (fun W => rhas_at r t W sr ht) (And.intro (fun W => rhas_at u t W su ht) (And.intro (fun W => rhas_at r' t W sr' ht) (fun W => rhas_at u' t W su' ht))))
  clear hnA hnB hA hA' hok hok' sr su sr' su' hal hal'
  generalize hres : clN r u mv lf r' u' mv' lf' = res at *
  clear hres
  go_enter Try.func52, Try.ntmps52
  go_wp2
  obtain ⟨W, hW⟩ : ∃ W, W = (w.alloc (.cells #[.int .i64 m, .int .i64 al, .int .i64 no, .slice A len cap] 26)).alloc (.cells #[.int .i64 m', .int .i64 al', .int .i64 no', .slice A' len' cap'] 26) := ⟨_, rfl⟩
  have hB : Below w.heap.size w W := by rw [hW]; go_grown
  have p0 : W.cell? ⟨w.heap.size, 0, none⟩ = some (.int .i64 m) := by rw [hW]; simp [go_sem]
  have p1 : W.cell? ⟨w.heap.size, 1, none⟩ = some (.int .i64 al) := by rw [hW]; simp [go_sem]
  have p2 : W.cell? ⟨w.heap.size, 2, none⟩ = some (.int .i64 no) := by rw [hW]; simp [go_sem]
  have p3 : W.cell? ⟨w.heap.size, 3, none⟩ = some (.slice A len cap) := by rw [hW]; simp [go_sem]
  have q0 : W.cell? ⟨w.heap.size + 1, 0, none⟩ = some (.int .i64 m') := by rw [hW]; simp [go_sem]
  have q1 : W.cell? ⟨w.heap.size + 1, 1, none⟩ = some (.int .i64 al') := by rw [hW]; simp [go_sem]
  have q2 : W.cell? ⟨w.heap.size + 1, 2, none⟩ = some (.int .i64 no') := by rw [hW]; simp [go_sem]
  have q3 : W.cell? ⟨w.heap.size + 1, 3, none⟩ = some (.slice A' len' cap') := by rw [hW]; simp [go_sem]
  rw [← hW]
  clear hW
  rename_i K1 hK1
  have HK := hide hK1
  clear hK1
  refine wp_two_needs _ _ _ _ _ _ _ _ 9 11 5 6 (by decide) ⟨rfl, rfl⟩ ⟨rfl, rfl⟩ ⟨rfl, rfl⟩ ⟨rfl, rfl⟩ (by kernel_rfl) (by kernel_rfl) (by kernel_rfl) (by kernel_rfl) (by kernel_rfl) (by simp) (by simp) r u mv lf r' u' mv' lf' 8 10
    (.agg #[.int .i64 m, .int .i64 al, .int .i64 no, .slice A len cap]) (.agg #[.int .i64 m', .int .i64 al', .int .i64 no', .slice A' len' cap']) _ rfl (by decide) (by simp) (by simp) ?q ?fin
  case q =>
    intro w1 hw1
    have hne : Nonempty (Sub w1) := ⟨⟨w1, Below.refl _ _⟩⟩
    have p0 := sub_cell (keep_below hw1 p0)
    have p1 := sub_cell (keep_below hw1 p1)
    have p2 := sub_cell (keep_below hw1 p2)
    have p3 := sub_cell (keep_below hw1 p3)
    have q0 := sub_cell (keep_below hw1 q0)
    have q1 := sub_cell (keep_below hw1 q1)
    have q2 := sub_cell (keep_below hw1 q2)
    have q3 := sub_cell (keep_below hw1 q3)
    have HW1 := hide (hB.trans (hw1.mono hB.size))
    clear hw1
    have HCA := hide (fun x : Sub w1 => unhide HA x.val ((unhide HW1).trans (x.bel.mono (unhide HW1).size)))
    have HCB := hide (fun x : Sub w1 => unhide HB x.val ((unhide HW1).trans (x.bel.mono (unhide HW1).size)))
    go_big_quiet_step (fail)
    go_big_quiet_step ((go_at_call 76; exact sub_bel (unhide HCA _)))
    go_big_quiet_step (fail)
    go_big_quiet_step ((go_at_call 76; exact sub_bel (unhide HCB _)))
    exact wpQuiet_nil (by simp [Act.put, nV])
  case fin =>
    intro g0 g1 w1 hN
    have hB1 : Below w.heap.size w w1 := hB.trans (hN.bel.mono hB.size)
    have hX : TwoN w g0 g1 r u mv lf r' u' mv' lf' w1 := ⟨hB1, hN.c0, hN.c1, hN.c2, hN.c3, hN.d0, hN.d1, hN.d2, hN.d3⟩
    clear p0 p1 p2 p3 q0 q1 q2 q3 HA HB hB hN hB1
    simp [Act.put, nV]
    have hK := unhide HK
    clear HK
    have HX := hide hX
    clear hX
    go_wp2_with fail
    go_loopw [12] (fun i wr => ∃ t : Nat, t ≤ 8 ∧ i = .int .i64 t ∧ (∀ k, k < t → okC r u r' u' k = true) ∧ TwoN w g0 g1 r u mv lf r' u' mv' lf' wr) (fun i _ => 8 - (intOf i).toNat)
    case atStart => exact ⟨0, by omega, rfl, fun k hk => by omega, unhide HX⟩
    case round =>
      clear HX
      obtain ⟨t, ht, rfl, hall, hX⟩ := hrel
      by_cases hlt : t < 8
      · have t0 : (0 : Int) ≤ (t : Int) := by omega
        have t1 : (t : Int) < 8 := by omega
        obtain ⟨H1, H2, H3, H4⟩ := unhide HH t hlt
        have HFt := hide (unhide HF t hlt)
        have HOK : Hid (okC r u r' u' t = !((tb u t && (tb u' t || tb r' t)) || (tb r t && tb u' t))) := rfl
        have HALL := hide hall
        have c1 := hX.c1
        have HX := hide hX
        clear HH HF HT hall hX
        generalize hoke : okC r u r' u' t = ok at *
        have HOE := hide hoke
        clear hoke
        generalize tb r t = b1 at *
        generalize tb u t = b2 at *
        generalize tb r' t = b3 at *
        generalize tb u' t = b4 at *
        have H1 := hide H1
        have H2 := hide H2
        have H3 := hide H3
        have H4 := hide H4
        cases b1 <;> cases b2 <;> cases b3 <;> cases b4
        all_goals
          go_wp2_with (first
            | (go_at_call_of 20 u; refine (unhide H2 _).mono ?_; rintro e w5 ⟨rfl, hb5⟩; have hX5 := (unhide HX).below hb5; clear hb5 HX; have c0 := hX5.c0; have d0 := hX5.d0; have d1 := hX5.d1; have HX := hide hX5; clear hX5)
            | (go_at_call_of 20 r'; refine (unhide H3 _).mono ?_; rintro e w6 ⟨rfl, hb6⟩; have hX6 := (unhide HX).below hb6; clear hb6 HX; have c0 := hX6.c0; have d1 := hX6.d1; have HX := hide hX6; clear hX6)
            | (go_at_call_of 20 r; refine (unhide H1 _).mono ?_; rintro e w7 ⟨rfl, hb7⟩; have hX7 := (unhide HX).below hb7; clear hb7 HX; have d1 := hX7.d1; have HX := hide hX7; clear hX7)
            | (go_at_call_of 20 u'; refine (unhide H4 _).mono ?_; rintro e w8 ⟨rfl, hb8⟩; have hX8 := (unhide HX).below hb8; clear hb8 HX; have c0 := hX8.c0; have d0 := hX8.d0; have d1 := hX8.d1; have HX := hide hX8; clear hX8))
          first
          | (go_ret
             have hres : res = true := unhide HFt (unhide HOK)
             subst hres
             exact ⟨rfl, (unhide HX).bel⟩)
          | (go_roundw
             case rel => exact ⟨t + 1, by omega, by go_num, fun k hk => by
               rcases (by omega : k < t ∨ k = t) with h | rfl
               · exact unhide HALL k h
               · exact (unhide HOE).trans (unhide HOK), unhide HX⟩
             case measure => simp [intOf]; omega)
      · obtain rfl : t = 8 := by omega
        have c2 := hX.c2
        have c3 := hX.c3
        have d2 := hX.d2
        have d3 := hX.d3
        have HBX := hide hX.bel
        have hres := unhide HT hall
        have HRES := hide hres
        clear hX HH HF HT hall hres
        cases mv <;> cases lf <;> cases mv'
        all_goals
          go_wp2
          go_ret
          exact ⟨by rw [unhide HRES]; simp, unhide HBX⟩
end Go.Proofs.Ytnbleebilmghcab
