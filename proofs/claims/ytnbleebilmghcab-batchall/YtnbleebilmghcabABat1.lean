/- Systems in memory; batch.Wrong; what Make's closure answers; slices.IndexFunc and ContainsFunc of it; batch.behind. -/
import Derived.Test.YtnbleebilmghcabARight
import Derived.Test.YtnbleebilmghcabABatchMath
set_option linter.unnecessarySimpa false
set_option linter.unusedVariables false
set_option linter.unusedSimpArgs false
namespace Go.Proofs.Ytnbleebilmghcab
open Go.RowKit
attribute [local go_sem ↓] Go.wp_at_zero Go.wp_at_succ

structure SysI where
  m : Int
  al : Int
  no : Int
  A : Option Addr
  len : Nat
  cap : Nat
  a : Nat → ActI
def sysI (s : SysI) : Value := sysV s.m s.al s.no s.A s.len s.cap
structure SysAt (w : World) (b o : Nat) (s : SysI) : Prop where
  c0 : w.cell? ⟨b, o, none⟩ = some (.int .i64 s.m)
  c1 : w.cell? ⟨b, o + 1, none⟩ = some (.int .i64 s.al)
  c2 : w.cell? ⟨b, o + 2, none⟩ = some (.int .i64 s.no)
  c3 : w.cell? ⟨b, o + 3, none⟩ = some (.slice s.A s.len s.cap)
  acts : ActsAt w s.A s.len s.a
theorem SysAt.below {w w1 : World} {b o : Nat} {s : SysI} (h : SysAt w b o s) (hb : Below w.heap.size w w1) : SysAt w1 b o s :=
  ⟨keep_below hb h.c0, keep_below hb h.c1, keep_below hb h.c2, keep_below hb h.c3, h.acts.below hb⟩
def SyssAt (w : World) (L : Option Addr) (n : Nat) (S : Nat → SysI) : Prop := ∀ j, j < n → ∃ b off, L = some ⟨b, off, none⟩ ∧ SysAt w b (off + j * 4) (S j)
theorem SyssAt.below {w w1 : World} {L : Option Addr} {n : Nat} {S : Nat → SysI} (h : SyssAt w L n S) (hb : Below w.heap.size w w1) : SyssAt w1 L n S := fun j hj => by
  obtain ⟨b, off, h0, h1⟩ := h j hj
  exact ⟨b, off, h0, h1.below hb⟩

/-- What is wrong with a system. -/
def sw (s : SysI) : Int × Int := wrF s.m s.al s.no s.a s.len
def bwTo (S : Nat → SysI) : Nat → Nat → Int × Int
  | 0, _ => (0, 0)
  | m + 1, j => if (sw (S j)).1 = 0 then bwTo S m (j + 1) else ((sw (S j)).1, (j : Int))
/-- What batch.Wrong tells. -/
def bwF (S : Nat → SysI) (n : Nat) : Int × Int := if 12 < n then (4, 0) else bwTo S n 0
theorem bwTo_step (S : Nat → SysI) (n j : Nat) (h : j < n) : bwTo S (n - j) j = if (sw (S j)).1 = 0 then bwTo S (n - (j + 1)) (j + 1) else ((sw (S j)).1, (j : Int)) := by
  rw [show n - j = (n - (j + 1)) + 1 by omega, bwTo]

structure WX (w wr : World) : Prop where
  bel : Below w.heap.size w wr
  t0 : wr.cell? ⟨w.heap.size, 0, none⟩ = some (.int .i64 0)
  t1 : wr.cell? ⟨w.heap.size, 1, none⟩ = some (.int .i64 0)
  f : ∀ i, wr.frozen? ⟨w.heap.size, i, none⟩ = false
theorem WX.below {w wr w1 : World} (h : WX w wr) (hb : Below wr.heap.size wr w1) : WX w w1 := by
  have z := World.block_lt_of_cell? wr _ h.t0
  exact ⟨h.bel.trans (hb.mono h.bel.size), keep_below hb h.t0, keep_below hb h.t1, fun i => (hb.frozen (p := ⟨w.heap.size, i, none⟩) z).trans (h.f i)⟩
theorem WX.start (w : World) : WX w (w.alloc (.cells #[.int .i64 0, .int .i64 0] 30)) :=
  ⟨(Below.refl _ _).alloc (Nat.le_refl _) _, by simp [go_sem], by simp [go_sem], fun i => by simp [go_sem]⟩

set_option maxRecDepth 8000 in
set_option maxHeartbeats 2000000 in
theorem bwrong_any (L : Option Addr) (n cap : Nat) (S : Nat → SysI) (w : World) (hL : SyssAt w L n S) :
    Calls Try.prog 27 #[.slice L n cap] w fun e w' => e = .returned (faultV (bwF S n)) ∧ Below w.heap.size w w' := by
  unfold bwF
  by_cases hg : 12 < n
  · have hg' : (12 : Int) < (n : Int) := by omega
    simp only [hg, if_true]
    go_enter Try.func27, Try.ntmps27
    go_wp2
    refine bodyPost_ret (v := faultV (4, 0)) (by simp [results, Try.results27, go_sem, faultV]) rfl ⟨rfl, ?_⟩
    go_grown
  · have hg' : ¬ (12 : Int) < (n : Int) := by omega
    simp only [hg, if_false]
    have HX := hide (WX.start w)
    have HL := hide hL
    clear hL
    go_enter Try.func27, Try.ntmps27
    go_wp2
    go_loopw [12] (fun i wr => ∃ j : Nat, j ≤ n ∧ i = .int .i64 j ∧ bwTo S n 0 = bwTo S (n - j) j ∧ WX w wr) (fun i _ => n - (intOf i).toNat)
    case atStart => exact ⟨0, Nat.zero_le _, rfl, rfl, unhide HX⟩
    case round =>
      clear HX
      obtain ⟨j, hj, rfl, hF, hN⟩ := hrel
      have HF := hide hF
      clear hF
      by_cases hlt : j < n
      · have j0 : (0 : Int) ≤ (j : Int) := by omega
        have j1 : (j : Int) < (n : Int) := by omega
        obtain ⟨b, off, rfl, hs⟩ := unhide HL j hlt
        have hs := hs.below hN.bel
        have q0 := hs.c0
        have q1 := hs.c1
        have q2 := hs.c2
        have q3 := hs.c3
        have HS := hide (bwTo_step S n j hlt)
        have hC := wrong_any (S j).m (S j).al (S j).no (S j).A (S j).len (S j).cap (S j).a _ (hs.acts.below ((Below.refl wr.heap.size wr).alloc (Nat.le_refl _) (.cells #[.int .i64 (S j).m, .int .i64 (S j).al, .int .i64 (S j).no, .slice (S j).A (S j).len (S j).cap] 26)))
        have e : wrF (S j).m (S j).al (S j).no (S j).a (S j).len = sw (S j) := rfl
        rw [e] at hC
        unfold faultV sysV at hC
        have HC := hide hC
        have HN := hide hN
        clear hN hC e HL hs
        generalize sw (S j) = x at *
        obtain ⟨ej, aj⟩ := x
        dsimp only at *
        generalize S j = s at *
        obtain ⟨m, al, no, A, len, cap, a⟩ := s
        dsimp only at *
        by_cases he : ej = 0
        · subst he
          go_wp2_with (first
            | (go_at_call 12; refine (unhide HC).mono ?_; rintro e w5 ⟨rfl, hb5⟩; have hN5 := (unhide HN).below (Below.trans ((Below.refl _ _).alloc (Nat.le_refl _) _) (hb5.mono (by simp))); have HN5 := hide hN5; clear hb5 hN5))
          go_roundw
          case rel => exact ⟨j + 1, by omega, by go_num, (unhide HF).trans ((unhide HS).trans (by simp)), (unhide HN5).below ((Below.refl _ _).alloc (Nat.le_refl _) _)⟩
          case measure => simp [intOf]; omega
        · go_wp2_with (first
            | (go_at_call 12; refine (unhide HC).mono ?_; rintro e w5 ⟨rfl, hb5⟩; have hN5 := (unhide HN).below (Below.trans ((Below.refl _ _).alloc (Nat.le_refl _) _) (hb5.mono (by simp))); have hN6 := hN5.below ((Below.refl _ _).alloc (Nat.le_refl _) (.cells #[.int .i64 ej, .int .i64 aj] 30)); have t0 := hN6.t0; have t1 := hN6.t1; have f0 := hN6.f 0; have f1 := hN6.f 1; have HN6 := hide hN6; clear hb5 hN5 hN6))
          have hv := (unhide HF).trans ((unhide HS).trans (if_neg he))
          refine bodyPost_ret (v := faultV (ej, (j : Int))) (by simp [results, Try.results27, go_sem, faultV, t0, t1]) rfl ⟨by rw [hv], ?_⟩
          exact below_setCells w.heap.size (by omega) [.int .i64 ej, .int .i64 (j : Int)] 0 _ (unhide HN6).bel
      · obtain rfl : j = n := by omega
        have hv : bwTo S j 0 = (0, 0) := by rw [unhide HF, Nat.sub_self]; rfl
        have t0 := hN.t0
        have t1 := hN.t1
        have f0 := hN.f 0
        have f1 := hN.f 1
        have HB := hide hN.bel
        clear hN HL
        go_wp2
        refine bodyPost_ret (v := faultV (0, 0)) (by simp [results, Try.results27, go_sem, faultV, t0, t1]) rfl ⟨by rw [hv], ?_⟩
        exact below_setCells w.heap.size (by omega) [.int .i64 0, .int .i64 0] 0 wr (unhide HB)

/-- Whether two systems clash. -/
def cs (x y : SysI) : Bool := clB x.al x.a x.len y.al y.a y.len
theorem cs_comm (x y : SysI) : cs x y = cs y x := clB_comm _ _ _ _ _ _

set_option maxRecDepth 8000 in
set_option maxHeartbeats 1000000 in
/-- Make's closure: does that one clash with this? -/
theorem mk1_any (L : Option Addr) (n cap : Nat) (S : Nat → SysI) (o : Nat) (s : SysI) (b1 b7 : Nat) (w : World) (ho : o < n) (h8 : ∀ j, j < n → (S j).len ≤ 8) (hs8 : s.len ≤ 8) (hL : SyssAt w L n S) (h1 : w.cell? ⟨b1, 0, none⟩ = some (.slice L n cap)) (h7 : SysAt w b7 0 s) :
    Calls Try.prog 50 #[.int .i64 (o : Int), .pointer (some ⟨b1, 0, none⟩), .pointer (some ⟨b7, 0, none⟩)] w fun e w' => e = .returned (.bool (cs (S o) s)) ∧ Below w.heap.size w w' := by
  obtain ⟨b, off, rfl, hs⟩ := hL o ho
  have hne : Nonempty (Sub w) := ⟨⟨w, Below.refl _ _⟩⟩
  have p1 := sub_cell h1
  have q0 := sub_cell hs.c0
  have q1 := sub_cell hs.c1
  have q2 := sub_cell hs.c2
  have q3 := sub_cell hs.c3
  have r0 := sub_cell h7.c0
  have r1 := sub_cell h7.c1
  have r2 := sub_cell h7.c2
  have r3 := sub_cell h7.c3
  have j0 : (0 : Int) ≤ (o : Int) := by omega
  have j1 : (o : Int) < (n : Int) := by omega
  have hC : ∀ x : Sub w, Calls Try.prog 13 #[sysV (S o).m (S o).al (S o).no (S o).A (S o).len (S o).cap, sysV s.m s.al s.no s.A s.len s.cap] x.val fun e w' => e = .returned (.bool (cs (S o) s)) ∧ Below x.val.heap.size x.val w' := fun x =>
    clash_any (S o).m (S o).al (S o).no (S o).A (S o).len (S o).cap (S o).a s.m s.al s.no s.A s.len s.cap s.a x.val (h8 o ho) hs8 (hs.acts.below x.bel) (h7.acts.below x.bel)
  unfold sysV at hC
  have HC := hide hC
  clear hC hL hs h7 h1
  generalize cs (S o) s = ans at *
  generalize S o = x at *
  obtain ⟨m, al, no, A, len, cap', a⟩ := x
  obtain ⟨m', al', no', A', len', cap'', a'⟩ := s
  dsimp only at *
  go_enter Try.func50, Try.ntmps50
  go_wp2_with fail
  refine wp_region_sub (by kernel_rfl) (by kernel_rfl) ?_
  repeat (go_big_quiet_step ((first
    | (go_at_call 13; exact sub_bel (unhide HC _)))))
  refine wpQuiet_nil ?_
  rintro w6 ⟨xs, hxs⟩
  have hb6 := xs.bel
  rw [← hxs] at hb6
  have HB := hide hb6
  clear hxs xs hb6 p1 q0 q1 q2 q3 r0 r1 r2 r3 hne HC
  go_wp2_with fail
  go_ret
  exact ⟨rfl, unhide HB⟩
end Go.Proofs.Ytnbleebilmghcab
