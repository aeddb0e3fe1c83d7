/- The document's May answers what rule.May answers, of mods of right sets and right systems. -/
import Derived.Test.YtnbleebilmghcaaRRNeeds2
set_option linter.unnecessarySimpa false
set_option linter.unusedSimpArgs false
set_option linter.unusedVariables false
namespace Go.Proofs.Ytnbleebilmghcaa
open Go.RowKit
attribute [local go_sem ↓] Go.wp_at_zero Go.wp_at_succ

structure YW (w : World) (b : Nat) (mr mu : Int) (ml : Bool) (al no r u : Int) (l : Bool) (W : World) : Prop where
  bel : Below w.heap.size w W
  m0 : W.cell? ⟨w.heap.size, 0, none⟩ = some (.int .i64 mr)
  m1 : W.cell? ⟨w.heap.size, 1, none⟩ = some (.int .i64 mu)
  m2 : W.cell? ⟨w.heap.size, 2, none⟩ = some (.bool ml)
  s1 : W.cell? ⟨w.heap.size + 1, 1, none⟩ = some (.int .i64 al)
  s2 : W.cell? ⟨w.heap.size + 1, 2, none⟩ = some (.int .i64 no)
  n0 : W.cell? ⟨b, 0, none⟩ = some (.int .i64 r)
  n1 : W.cell? ⟨b, 1, none⟩ = some (.int .i64 u)
  n3 : W.cell? ⟨b, 3, none⟩ = some (.bool l)
theorem YW.below {w : World} {b : Nat} {mr mu al no r u : Int} {ml l : Bool} {W W1 : World} (h : YW w b mr mu ml al no r u l W) (hb : Below W.heap.size W W1) : YW w b mr mu ml al no r u l W1 :=
  ⟨h.bel.trans (hb.mono h.bel.size), keep_below hb h.m0, keep_below hb h.m1, keep_below hb h.m2, keep_below hb h.s1, keep_below hb h.s2, keep_below hb h.n0, keep_below hb h.n1, keep_below hb h.n3⟩

def okM (mr mu al no r u : Int) (k : Nat) : Bool := !(((tb r k || tb al k || tb no k) && !tb mr k) || (tb u k && !tb mu k))
section
variable {mr mu al no r u : Int}
theorem may_false (hmr : setB mr = true)(hmu : setB mu = true)(hal : setB al = true)(hno : setB no = true)(hr : setB r = true)(hu : setB u = true) (ml l : Bool) (k : Nat) (hk : k < 8) (h : okM mr mu al no r u k = false) : mayN mr mu ml al no r u l = false := by
  have h1 := (or_set r al hr hal).2
  cases hm : mayN mr mu ml al no r u l
  · rfl
  · exfalso
    unfold mayN at hm
    rw [Bool.and_eq_true, Bool.and_eq_true] at hm
    have a1 := (in_tb _ _ (or_set _ no h1 hno).2 hmr).1 hm.1 k hk
    have a2 := (in_tb _ _ hu hmu).1 hm.2.1 k hk
    rw [tb_or _ _ h1 hno k hk, tb_or _ _ hr hal k hk] at a1
    unfold okM at h
    revert h a1 a2
    cases tb r k <;> cases tb al k <;> cases tb no k <;> cases tb mr k <;> cases tb u k <;> cases tb mu k <;> simp
theorem may_true (hmr : setB mr = true)(hmu : setB mu = true)(hal : setB al = true)(hno : setB no = true)(hr : setB r = true)(hu : setB u = true) (ml l : Bool) (h : ∀ k, k < 8 → okM mr mu al no r u k = true) : mayN mr mu ml al no r u l = (ml || !l) := by
  have h1 := (or_set r al hr hal).2
  have a1 : inB (bits .or .i64 (bits .or .i64 r al) no) mr = true := (in_tb _ _ (or_set _ no h1 hno).2 hmr).2 (fun k hk hh => by
    rw [tb_or _ _ h1 hno k hk, tb_or _ _ hr hal k hk] at hh
    have := h k hk
    unfold okM at this
    revert this hh
    cases tb r k <;> cases tb al k <;> cases tb no k <;> cases tb mr k <;> cases tb u k <;> cases tb mu k <;> simp)
  have a2 : inB u mu = true := (in_tb _ _ hu hmu).2 (fun k hk hh => by
    have := h k hk
    unfold okM at this
    revert this hh
    cases tb r k <;> cases tb al k <;> cases tb no k <;> cases tb mr k <;> cases tb u k <;> cases tb mu k <;> simp)
  unfold mayN
  rw [a1, a2]; rfl
end

set_option maxRecDepth 8000 in
set_option maxHeartbeats 4000000 in
theorem rmay_any (mr mu : Int) (ml : Bool) (m al no : Int) (A : Option Addr) (len cap : Nat) (a : Nat → ActI) (w : World) (hmr : setB mr = true) (hmu : setB mu = true) (hal : setB al = true) (hno : setB no = true) (hl : len ≤ 8) (hok : okN al a len) (hA : ActsAt w A len a) :
    Calls Try.prog 74 #[modV mr mu ml, sysV m al no A len cap] w fun e w' => e = .returned (.bool (mayB mr mu ml al no a len)) ∧ Below w.heap.size w w' := by
  have hnA : ∀ W1, Below w.heap.size w W1 → Calls Try.prog 72 #[sysV m al no A len cap] W1 fun e w' => e = .returned (needsV al a len) ∧ Below W1.heap.size W1 w' := fun W1 h => rneeds_any m al no A len cap a W1 hal hl hok (hA.below h)
  unfold mayB modV
  unfold needsV sysV at *
  have hr := rdTo_set a len
  have hu := wrTo_set al a len hok
  generalize rdTo a len = r at *
  generalize wrTo a len = u at *
  generalize mvTo al a len = mv at *
  generalize lfTo a len = lf at *
  have HA := hide hnA
  have HF := hide (fun k hk h => may_false (k := k) hmr hmu hal hno hr hu ml lf hk h)
  have HT := hide (fun h => may_true hmr hmu hal hno hr hu ml lf h)
  have HH := hide (fun (t : Nat) (ht : t < 8) => And.intro (fun W => rhas_at r t W hr ht) (And.intro (fun W => rhas_at al t W hal ht) (And.intro (fun W => rhas_at no t W hno ht) (And.intro (fun W => rhas_at mr t W hmr ht) (And.intro (fun W => rhas_at u t W hu ht) (fun W => rhas_at mu t W hmu ht))))))
  clear hnA hA hok hr hu hmr hmu hal hno
  generalize hres : mayN mr mu ml al no r u lf = res at *
  clear hres
  go_enter Try.func74, Try.ntmps74
  go_wp2_with (first
    | (go_at_call 72; refine (unhide HA _ (by go_grown)).mono ?_; rintro e w1 ⟨rfl, hb1⟩; obtain ⟨p0, p1, p2, q1, q2, hz1, hz0, hB1⟩ := may_after hb1; have HB1 := hide hB1; clear hb1 hB1))
  have hY : YW w w1.heap.size mr mu ml al no r u lf (w1.alloc (.cells #[.int .i64 r, .int .i64 u, .bool mv, .bool lf] 101)) := by
    have hb : Below w1.heap.size w1 (w1.alloc (.cells #[.int .i64 r, .int .i64 u, .bool mv, .bool lf] 101)) := (Below.refl _ _).alloc (Nat.le_refl _) _
    exact ⟨(unhide HB1).trans (hb.mono (unhide HB1).size), keep_below hb p0, keep_below hb p1, keep_below hb p2, keep_below hb q1, keep_below hb q2, by simp, by simp, by simp⟩
  have HY := hide hY
  clear hY p0 p1 p2 q1 q2 hz1 hz0 HB1 HA
  generalize w1.heap.size = b9 at *
  go_loopw [9] (fun i wr => ∃ t : Nat, t ≤ 8 ∧ i = .int .i64 t ∧ (∀ k, k < t → okM mr mu al no r u k = true) ∧ YW w b9 mr mu ml al no r u lf wr) (fun i _ => 8 - (intOf i).toNat)
  case atStart => exact ⟨0, by omega, rfl, fun k hk => by omega, unhide HY⟩
  case round =>
    clear HY
    obtain ⟨t, ht, rfl, hall, hY⟩ := hrel
    by_cases hlt : t < 8
    · have t0 : (0 : Int) ≤ (t : Int) := by omega
      have t1 : (t : Int) < 8 := by omega
      obtain ⟨H1, H2, H3, H4, H5, H6⟩ := unhide HH t hlt
      have HFt := hide (unhide HF t hlt)
      have HOK : Hid (okM mr mu al no r u t = !(((tb r t || tb al t || tb no t) && !tb mr t) || (tb u t && !tb mu t))) := rfl
      have HALL := hide hall
      have n0 := hY.n0
      have HY := hide hY
      clear HH HF HT hall hY
      generalize hoke : okM mr mu al no r u t = ok at *
      have HOE := hide hoke
      clear hoke
      generalize tb r t = b1 at *
      generalize tb al t = b2 at *
      generalize tb no t = b3 at *
      generalize tb mr t = b4 at *
      generalize tb u t = b5 at *
      generalize tb mu t = b6 at *
      have H1 := hide H1
      have H2 := hide H2
      have H3 := hide H3
      have H4 := hide H4
      have H5 := hide H5
      have H6 := hide H6
      cases b1 <;> cases b2 <;> cases b3 <;> cases b4 <;> cases b5 <;> cases b6
      all_goals
        go_wp2_with (first
          | (go_at_call_of 26 r; refine (unhide H1 _).mono ?_; rintro e w5 ⟨rfl, hb5⟩; have hY5 := (unhide HY).below hb5; clear hb5 HY n0; have s1 := hY5.s1; have m0 := hY5.m0; have n1 := hY5.n1; have HY := hide hY5; clear hY5)
          | (go_at_call_of 26 al; refine (unhide H2 _).mono ?_; rintro e w6 ⟨rfl, hb6⟩; have hY6 := (unhide HY).below hb6; clear hb6 HY s1 m0 n1; have s2 := hY6.s2; have m0 := hY6.m0; have n1 := hY6.n1; have HY := hide hY6; clear hY6)
          | (go_at_call_of 26 no; refine (unhide H3 _).mono ?_; rintro e w7 ⟨rfl, hb7⟩; have hY7 := (unhide HY).below hb7; clear hb7 HY s2 m0 n1; have m0 := hY7.m0; have n1 := hY7.n1; have HY := hide hY7; clear hY7)
          | (go_at_call_of 26 mr; refine (unhide H4 _).mono ?_; rintro e w8 ⟨rfl, hb8⟩; have hY8 := (unhide HY).below hb8; clear hb8 HY m0 n1; have n1 := hY8.n1; have HY := hide hY8; clear hY8)
          | (go_at_call_of 26 u; refine (unhide H5 _).mono ?_; rintro e w9 ⟨rfl, hb9⟩; have hY9 := (unhide HY).below hb9; clear hb9 HY n1; have m1 := hY9.m1; have HY := hide hY9; clear hY9)
          | (go_at_call_of 26 mu; refine (unhide H6 _).mono ?_; rintro e wa ⟨rfl, hba⟩; have hYa := (unhide HY).below hba; clear hba HY m1; have HY := hide hYa; clear hYa))
        first
        | (go_ret
           have hres : res = false := unhide HFt (unhide HOK)
           subst hres
           exact ⟨rfl, (unhide HY).bel⟩)
        | (go_roundw
           case rel => exact ⟨t + 1, by omega, by go_num, fun k hk => by
             rcases (by omega : k < t ∨ k = t) with h | rfl
             · exact unhide HALL k h
             · exact (unhide HOE).trans (unhide HOK), unhide HY⟩
           case measure => simp [intOf]; omega)
    · obtain rfl : t = 8 := by omega
      have m2 := hY.m2
      have n3 := hY.n3
      have HB := hide hY.bel
      have hres := unhide HT hall
      have HRES := hide hres
      clear hY HH HF HT hall hres
      cases ml
      all_goals
        go_wp2
        go_ret
        exact ⟨by rw [unhide HRES]; simp, unhide HB⟩
end Go.Proofs.Ytnbleebilmghcaa
