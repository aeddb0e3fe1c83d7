/- What rule.Clash and rule.May answer, whatever the systems (of at most eight acts). -/
import Derived.Test.YtnbleebilmghcabBWrong
set_option linter.unnecessarySimpa false
set_option linter.unusedSimpArgs false
set_option linter.unusedVariables false
namespace Go.Proofs.Ytnbleebilmghcab
open Go.RowKit
attribute [local go_sem ↓] Go.wp_at_zero Go.wp_at_succ

/-- Whether one that writes u disturbs one that reads r and writes v. -/
def dsB (u r v : Int) : Bool := bits .and .i64 u (bits .or .i64 r v) != 0
def nV (r u : Int) (m l : Bool) : Value := .agg #[.int .i64 r, .int .i64 u, .bool m, .bool l]
theorem disturbs_any (r u r' u' : Int) (m l m' l' : Bool) (w : World) :
    Calls Try.prog 36 #[nV r u m l, nV r' u' m' l'] w fun e w' => e = .returned (.bool (dsB u r' u')) ∧ Below w.heap.size w w' := by
  unfold nV
  go_enter Try.func36, Try.ntmps36
  go_wp2
  go_ret
  exact ⟨rfl, by go_grown⟩

theorem alloc34 (o : Oper) (ho : o.op = .alloc 34) (a : Act) (w : World) (K : Act → World → Prop) (Q : Exit → Act → World → Prop)
    (h : K (a.put o.dst (.pointer (some ⟨w.heap.size, 0, none⟩))) (w.alloc (.cells #[.int .i64 0, .int .i64 0, .bool false, .bool false] 34))) : o.wp Try.prog a w K Q := by
  obtain ⟨dst, op, ty, pos, after, guard⟩ := o
  dsimp only at ho
  subst ho
  simp [go_sem]
  exact h
theorem info34 : (Try.prog.info? 34).map (·.size) = some 4 := by kernel_rfl

/-- What is behind 'x, y := Needs(a), Needs(b)'. -/
structure TwoN (w : World) (g0 g1 : Nat) (r u : Int) (m l : Bool) (r' u' : Int) (m' l' : Bool) (w1 : World) : Prop where
  bel : Below w.heap.size w w1
  c0 : w1.cell? ⟨g0, 0, none⟩ = some (.int .i64 r)
  c1 : w1.cell? ⟨g0, 1, none⟩ = some (.int .i64 u)
  c2 : w1.cell? ⟨g0, 2, none⟩ = some (.bool m)
  c3 : w1.cell? ⟨g0, 3, none⟩ = some (.bool l)
  d0 : w1.cell? ⟨g1, 0, none⟩ = some (.int .i64 r')
  d1 : w1.cell? ⟨g1, 1, none⟩ = some (.int .i64 u')
  d2 : w1.cell? ⟨g1, 2, none⟩ = some (.bool m')
  d3 : w1.cell? ⟨g1, 3, none⟩ = some (.bool l')
theorem TwoN.below {w : World} {g0 g1 : Nat} {r u : Int} {m l : Bool} {r' u' : Int} {m' l' : Bool} {w1 w2 : World} (h : TwoN w g0 g1 r u m l r' u' m' l' w1) (hb : Below w1.heap.size w1 w2) : TwoN w g0 g1 r u m l r' u' m' l' w2 :=
  ⟨h.bel.trans (hb.mono h.bel.size), keep_below hb h.c0, keep_below hb h.c1, keep_below hb h.c2, keep_below hb h.c3, keep_below hb h.d0, keep_below hb h.d1, keep_below hb h.d2, keep_below hb h.d3⟩

def twoCs (r u : Int) (m l : Bool) (r' u' : Int) (m' l' : Bool) (k : Nat) : List Value := if k = 0 then [.int .i64 r, .int .i64 u, .bool m, .bool l] else [.int .i64 r', .int .i64 u', .bool m', .bool l']

/-- THE STATEMENT 'x, y := Needs(a), Needs(b)', wherever it stands: eight operations. -/
theorem wp_two_needs {id : Nat} {Q : Exit → Act → World → Prop} {a : Act} {w : World} (o0 o1 o2 o3 o4 o5 o6 o7 : Oper) (y0 y1 s0 s1 : Tmp) (hy : y0 ≠ s0 ∧ y0 ≠ s1 ∧ y1 ≠ s0 ∧ y1 ≠ s1)
    (h4 : o4.op = .alloc 34 ∧ o4.dst = some s0) (h5 : o5.op = .alloc 34 ∧ o5.dst = some s1)
    (h6 : o6.op = .store 34 (.tmp s0) (.tmp y0) ∧ o6.dst = none) (h7 : o7.op = .store 34 (.tmp s1) (.tmp y1) ∧ o7.dst = none)
    (hb : backB #[o0, o1, o2, o3, o4, o5, o6, o7] = true) (hssa : ssaB [o0, o1, o2, o3, o4, o5, o6, o7] = true) (hdst : dstB [o0, o1, o2, o3, o4, o5, o6, o7] = true)
    (hgd : [o0, o1, o2, o3, o4, o5, o6, o7].all (fun o => o.guard.isNone) = true) (hsel : Region.noSelect #[o0, o1, o2, o3, o4, o5, o6, o7] = true) (hs0 : s0 < a.tmps.size) (hs1 : s1 < a.tmps.size)
    (r u : Int) (m l : Bool) (r' u' : Int) (m' l' : Bool) (x0 x1 : Tmp) (v0 v1 : Value) (af : Act) (haf : af = (((a.put (some x0) v0).put (some y0) (nV r u m l)).put (some x1) v1).put (some y1) (nV r' u' m' l'))
    (hx : x1 ≠ y0 ∧ y1 ≠ y0) (hy0 : y0 < a.tmps.size) (hy1 : y1 < a.tmps.size)
    (hq : ∀ w1, Below w.heap.size w w1 → wpQuiet Try.prog #[o0, o1, o2, o3, o4, o5, o6, o7] (fun w' => ∃ x : Sub w1, w' = x.val) (fun a' => a' = af) [o0, o1, o2, o3] a)
    (hend : ∀ g0 g1 w1, TwoN w g0 g1 r u m l r' u' m' l' w1 → Q .normal ((af.put (some s0) (.pointer (some ⟨g0, 0, none⟩))).put (some s1) (.pointer (some ⟨g1, 0, none⟩))) w1) :
    (Code.region id #[o0, o1, o2, o3, o4, o5, o6, o7] true).wp Try.prog Q a w := by
  have e0 : af.eval (.tmp y0) = nV r u m l := by
    show af.tmps.getD y0 undef = _
    rw [haf, put_get, if_neg (fun e => hx.2 e.1), put_get, if_neg (fun e => hx.1 e.1), put_get, if_pos ⟨rfl, by rw [put_size]; exact hy0⟩]
  have e1 : af.eval (.tmp y1) = nV r' u' m' l' := by
    show af.tmps.getD y1 undef = _
    rw [haf, put_get, if_pos ⟨rfl, by rw [put_size, put_size, put_size]; exact hy1⟩]
  refine wp_region_vars (ops := [o0, o1, o2, o3, o4, o5, o6, o7]) 4 2 (s := fun k => if k = 0 then s0 else s1) (T := fun _ => 34) (y := fun k => if k = 0 then .tmp y0 else .tmp y1)
    (z := fun _ => #[.int .i64 0, .int .i64 0, .bool false, .bool false]) (sz := fun _ => 4) (twoCs r u m l r' u' m' l') ?_ (by kernel_rfl) hb hssa hdst hgd hsel ?_ ?_ af hq ?_ ?_
  · refine ⟨rfl, fun k hk => ?_, fun k hk => ?_, fun k _ o ho => alloc34 o ho, fun _ _ => rfl, fun _ _ => info34⟩
    · rcases (by omega : k = 0 ∨ k = 1) with rfl | rfl
      · exact ⟨o4, rfl, h4.1, h4.2⟩
      · exact ⟨o5, rfl, h5.1, h5.2⟩
    · rcases (by omega : k = 0 ∨ k = 1) with rfl | rfl
      · exact ⟨o6, rfl, h6.1, h6.2⟩
      · exact ⟨o7, rfl, h7.1, h7.2⟩
  · intro k hk k' hk'
    rcases (by omega : k = 0 ∨ k = 1) with rfl | rfl <;> rcases (by omega : k' = 0 ∨ k' = 1) with rfl | rfl <;> simp <;> first | exact hy.1 | exact hy.2.1 | exact hy.2.2.1 | exact hy.2.2.2
  · intro k hk
    rcases (by omega : k = 0 ∨ k = 1) with rfl | rfl
    · exact hs0
    · exact hs1
  · intro k hk
    rcases (by omega : k = 0 ∨ k = 1) with rfl | rfl
    · exact ⟨e0, rfl, by simp [twoCs, Value.oneCell']⟩
    · exact ⟨e1, rfl, by simp [twoCs, Value.oneCell']⟩
  · intro v g w1 hv
    have p0 := (hv.own 0 (by omega) rfl).1
    have p1 := (hv.own 1 (by omega) rfl).1
    have R0 := (hv.has 0 (by omega) rfl).2
    have R1 := (hv.has 1 (by omega) rfl).2
    have := hend (g 0) (g 1) w1 ⟨hv.bel, by simpa using R0 0 _ rfl, by simpa using R0 1 _ rfl, by simpa using R0 2 _ rfl, by simpa using R0 3 _ rfl, by simpa using R1 0 _ rfl, by simpa using R1 1 _ rfl, by simpa using R1 2 _ rfl, by simpa using R1 3 _ rfl⟩
    simpa [putAll, p0, p1] using this

/-- Whether the order matters. -/
def clN (r u : Int) (m l : Bool) (r' u' : Int) (m' l' : Bool) : Bool := m || (m' || (l || (l' || (dsB u r' u' || dsB u' r u))))
def clB (al : Int) (a : Nat → ActI) (len : Nat) (al' : Int) (a' : Nat → ActI) (len' : Nat) : Bool :=
  clN (rdTo a len) (wrTo a len) (mvTo al a len) (lfTo a len) (rdTo a' len') (wrTo a' len') (mvTo al' a' len') (lfTo a' len')

set_option maxRecDepth 8000 in
set_option maxHeartbeats 2000000 in
theorem clash_any (m al no : Int) (A : Option Addr) (len cap : Nat) (a : Nat → ActI) (m' al' no' : Int) (A' : Option Addr) (len' cap' : Nat) (a' : Nat → ActI) (w : World) (hl : len ≤ 8) (hl' : len' ≤ 8) (hA : ActsAt w A len a) (hA' : ActsAt w A' len' a') :
    Calls Try.prog 13 #[sysV m al no A len cap, sysV m' al' no' A' len' cap'] w fun e w' => e = .returned (.bool (clB al a len al' a' len')) ∧ Below w.heap.size w w' := by
  have hnA : ∀ W1, Below w.heap.size w W1 → Calls Try.prog 14 #[sysV m al no A len cap] W1 fun e w' => e = .returned (needsV al a len) ∧ Below W1.heap.size W1 w' := fun W1 h => needs_any m al no A len cap a W1 hl (hA.below h)
  have hnB : ∀ W1, Below w.heap.size w W1 → Calls Try.prog 14 #[sysV m' al' no' A' len' cap'] W1 fun e w' => e = .returned (needsV al' a' len') ∧ Below W1.heap.size W1 w' := fun W1 h => needs_any m' al' no' A' len' cap' a' W1 hl' (hA'.below h)
  unfold clB
  unfold needsV sysV at *
  generalize rdTo a len = r at *
  generalize wrTo a len = u at *
  generalize mvTo al a len = mv at *
  generalize lfTo a len = lf at *
  generalize rdTo a' len' = r' at *
  generalize wrTo a' len' = u' at *
  generalize mvTo al' a' len' = mv' at *
  generalize lfTo a' len' = lf' at *
  have HA := hide hnA
  have HB := hide hnB
  clear hnA hnB hA hA'
  go_enter Try.func13, Try.ntmps13
  go_wp2
  obtain ⟨W, hW⟩ : ∃ W, W = (w.alloc (.cells #[.int .i64 m, .int .i64 al, .int .i64 no, .slice A len cap] 26)).alloc (.cells #[.int .i64 m', .int .i64 al', .int .i64 no', .slice A' len' cap'] 26) := ⟨_, rfl⟩
  have hB : Below w.heap.size w W := by rw [hW]; go_grown
  have p0 : W.cell? ⟨w.heap.size, 0, none⟩ = some (.int .i64 m) := by rw [hW]; simp [go_sem]
  have p1 : W.cell? ⟨w.heap.size, 1, none⟩ = some (.int .i64 al) := by rw [hW]; simp [go_sem]
  have p2 : W.cell? ⟨w.heap.size, 2, none⟩ = some (.int .i64 no) := by rw [hW]; simp [go_sem]
  have p3 : W.cell? ⟨w.heap.size, 3, none⟩ = some (.slice A len cap) := by rw [hW]; simp [go_sem]
  have q0 : W.cell? ⟨w.heap.size + 1, 0, none⟩ = some (.int .i64 m') := by rw [hW]; simp [go_sem]
  have q1 : W.cell? ⟨w.heap.size + 1, 1, none⟩ = some (.int .i64 al') := by rw [hW]; simp [go_sem]
  have q2 : W.cell? ⟨w.heap.size + 1, 2, none⟩ = some (.int .i64 no') := by rw [hW]; simp [go_sem]
  have q3 : W.cell? ⟨w.heap.size + 1, 3, none⟩ = some (.slice A' len' cap') := by rw [hW]; simp [go_sem]
  rw [← hW]
  clear hW
  rename_i K1 hK1
  have HK := hide hK1
  clear hK1
  refine wp_two_needs _ _ _ _ _ _ _ _ 8 10 5 6 (by decide) ⟨rfl, rfl⟩ ⟨rfl, rfl⟩ ⟨rfl, rfl⟩ ⟨rfl, rfl⟩ (by kernel_rfl) (by kernel_rfl) (by kernel_rfl) (by kernel_rfl) (by kernel_rfl) (by simp) (by simp) r u mv lf r' u' mv' lf' 7 9
    (.agg #[.int .i64 m, .int .i64 al, .int .i64 no, .slice A len cap]) (.agg #[.int .i64 m', .int .i64 al', .int .i64 no', .slice A' len' cap']) _ rfl (by decide) (by simp) (by simp) ?q ?fin
  case q =>
    intro w1 hw1
    have hne : Nonempty (Sub w1) := ⟨⟨w1, Below.refl _ _⟩⟩
    have p0 := sub_cell (keep_below hw1 p0)
    have p1 := sub_cell (keep_below hw1 p1)
    have p2 := sub_cell (keep_below hw1 p2)
    have p3 := sub_cell (keep_below hw1 p3)
    have q0 := sub_cell (keep_below hw1 q0)
    have q1 := sub_cell (keep_below hw1 q1)
    have q2 := sub_cell (keep_below hw1 q2)
    have q3 := sub_cell (keep_below hw1 q3)
    have HW1 := hide (hB.trans (hw1.mono hB.size))
    clear hw1
    have HCA := hide (fun x : Sub w1 => unhide HA x.val ((unhide HW1).trans (x.bel.mono (unhide HW1).size)))
    have HCB := hide (fun x : Sub w1 => unhide HB x.val ((unhide HW1).trans (x.bel.mono (unhide HW1).size)))
    go_big_quiet_step (fail)
    go_big_quiet_step ((go_at_call 14; exact sub_bel (unhide HCA _)))
    go_big_quiet_step (fail)
    go_big_quiet_step ((go_at_call 14; exact sub_bel (unhide HCB _)))
    exact wpQuiet_nil (by simp [Act.put, nV])
  case fin =>
    intro g0 g1 w1 hN
    have hB1 : Below w.heap.size w w1 := hB.trans (hN.bel.mono hB.size)
    clear p0 p1 p2 p3 q0 q1 q2 q3 HA HB hB
    simp [Act.put, nV]
    have hK := unhide HK
    clear HK
    have HN := hide hN
    have c0 := hN.c0
    have c1 := hN.c1
    have c2 := hN.c2
    have c3 := hN.c3
    have d0 := hN.d0
    have d1 := hN.d1
    have d2 := hN.d2
    have d3 := hN.d3
    clear hN
    have HD := hide (disturbs_any r u r' u' mv lf mv' lf')
    have HD2 := hide (disturbs_any r' u' r u mv' lf' mv lf)
    have HB1 := hide hB1
    clear hB1
    cases mv
    case' false => cases mv'
    case' false.false => cases lf
    case' false.false.false => cases lf'
    case' false.false.false.false => cases hd : dsB u r' u'
    all_goals
      go_wp2_with (first
        | (go_at_call 36; refine (unhide HD _).mono ?_; rintro e w2 ⟨rfl, hb2⟩; clear HD; have hN2 := (unhide HN).below hb2; clear c0 c1 c2 c3 d0 d1 d2 d3; have c0 := hN2.c0; have c1 := hN2.c1; have c2 := hN2.c2; have c3 := hN2.c3; have d0 := hN2.d0; have d1 := hN2.d1; have d2 := hN2.d2; have d3 := hN2.d3; have HB2 := hide ((unhide HB1).trans (hb2.mono (unhide HB1).size)); clear hN2 hb2 HB1)
        | (go_at_call 36; refine (unhide HD2 _).mono ?_; rintro e w3 ⟨rfl, hb3⟩; have HB3 := hide ((unhide HB2).trans (hb3.mono (unhide HB2).size)); clear hb3 HB2))
      go_ret
      first
      | exact ⟨by simp [clN], unhide HB1⟩
      | exact ⟨by simp [clN, hd], unhide HB2⟩
      | exact ⟨by simp [clN, hd], unhide HB3⟩
end Go.Proofs.Ytnbleebilmghcab
