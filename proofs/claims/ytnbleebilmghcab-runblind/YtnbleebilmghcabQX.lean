/- RnAll, RnAlive -/
import Derived.Test.YtnbleebilmghcabQW
set_option linter.all false
namespace Go.Proofs.Ytnbleebilmghcab
open Go Go.RowKit
attribute [local go_sem ↓] Go.wp_at_zero Go.wp_at_succ
structure SysI where
  m : Int
  al : Int
  no : Int
  A : Option Addr
  len : Nat
  cap : Nat
  a : Nat → ActI
def sysI (s : SysI) : Value := sysV s.m s.al s.no s.A s.len s.cap
structure SysAt (w : World) (b o : Nat) (s : SysI) : Prop where
  c0 : w.cell? ⟨b, o, none⟩ = some (.int .i64 s.m)
  c1 : w.cell? ⟨b, o + 1, none⟩ = some (.int .i64 s.al)
  c2 : w.cell? ⟨b, o + 2, none⟩ = some (.int .i64 s.no)
  c3 : w.cell? ⟨b, o + 3, none⟩ = some (.slice s.A s.len s.cap)
  acts : ActsAt w s.A s.len s.a
theorem SysAt.below {w w1 : World} {b o : Nat} {s : SysI} (h : SysAt w b o s) (hb : Below w.heap.size w w1) : SysAt w1 b o s :=
  ⟨keep_below hb h.c0, keep_below hb h.c1, keep_below hb h.c2, keep_below hb h.c3, h.acts.below hb⟩
def SyssAt (w : World) (L : Option Addr) (n : Nat) (S : Nat → SysI) : Prop := ∀ j, j < n → ∃ b off, L = some ⟨b, off, none⟩ ∧ SysAt w b (off + j * 4) (S j)
theorem SyssAt.below {w w1 : World} {L : Option Addr} {n : Nat} {S : Nat → SysI} (h : SyssAt w L n S) (hb : Below w.heap.size w w1) : SyssAt w1 L n S := fun j hj => by
  obtain ⟨b, off, h0, h1⟩ := h j hj
  exact ⟨b, off, h0, h1.below hb⟩
def runS (X : Wd) (s : SysI) : Int × Wd := runF X s.m s.al s.no s.a s.len
def allTo (S : Nat → SysI) : Nat → Nat → Wd → (Int × Int) × Wd
  | 0, _, X => ((0, 0), X)
  | n + 1, j, X => if (runS X (S j)).1 ≠ 0 then (((runS X (S j)).1, (j : Int)), emptyW) else allTo S n (j + 1) (runS X (S j)).2
theorem all_step (S : Nat → SysI) (n j : Nat) (X : Wd) (h : j < n) : allTo S (n - j) j X = if (runS X (S j)).1 ≠ 0 then (((runS X (S j)).1, (j : Int)), emptyW) else allTo S (n - (j + 1)) (j + 1) (runS X (S j)).2 := by
  rw [show n - j = (n - (j + 1)) + 1 by omega, allTo]
structure QB (w : World) (u0 u1 : Value) (bw : Nat) (Ac : Option Addr) (cc : Nat) (Gc : Option Addr) (gcc : Nat) (Xc : Wd) (W : World) : Prop where
  bx : Bxs w.heap.size [([u0, u1], 43), ([.slice none 0 0, .slice none 0 0], 43), ([.int .i64 0, .int .i64 0], 30)] W
  wb : Bxs bw [([.slice Ac Xc.rows.length cc, .slice Gc Xc.gens.length gcc], 40)] W
  lo : w.heap.size + 3 ≤ bw
  bel : Below w.heap.size w W
  at_ : WldAt W Ac cc Gc gcc Xc
  nb : ∀ b, Blk Ac Gc Xc b → w.heap.size + 3 ≤ b ∧ b ≠ bw
section
variable {w : World} {u0 u1 : Value} {bw : Nat} {Ac : Option Addr} {cc : Nat} {Gc : Option Addr} {gcc : Nat} {Xc : Wd} {W W1 : World}
theorem QB.below (h : QB w u0 u1 bw Ac cc Gc gcc Xc W) (hb : Below W.heap.size W W1) : QB w u0 u1 bw Ac cc Gc gcc Xc W1 :=
  ⟨h.bx.below hb, h.wb.below hb, h.lo, h.bel.trans (hb.mono h.bel.size), h.at_.below hb, h.nb⟩
theorem QB.lt (h : QB w u0 u1 bw Ac cc Gc gcc Xc W) : bw < W.heap.size := by
  have := h.wb.sz (by simp)
  simp at this
  omega
end
set_option maxRecDepth 8000 in
set_option maxHeartbeats 4000000 in
theorem all_any (T : Option Addr) (tcap : Nat) (G : Option Addr) (gcap : Nat) (tabs : List TabI) (X : Wd) (L : Option Addr) (n lcap : Nat) (S : Nat → SysI) (w : World) (h : StAt w T G tabs X) (hn : n ≤ 1000) (hS : SyssAt w L n S) :
    Calls Try.prog 22 #[stV T tabs.length tcap G X.gens.length gcap, .slice L n lcap] w fun e w' => ∃ T' tc' G' gc', e = .returned (.tuple #[stV T' (tabsW (allTo S n 0 X).2).length tc' G' (allTo S n 0 X).2.gens.length gc', .agg #[.int .i64 (allTo S n 0 X).1.1, .int .i64 (allTo S n 0 X).1.2]]) ∧ StNew w.heap.size w' T' G' (tabsW (allTo S n 0 X).2) (allTo S n 0 X).2 ∧ Below w.heap.size w w' := by
  have hr := h.right
  have hB0 := Bxs.start w [([.slice T tabs.length tcap, .slice G X.gens.length gcap], 43), ([.slice none 0 0, .slice none 0 0], 43), ([.int .i64 0, .int .i64 0], 30)]
  have hb0 := allocs_below [([.slice T tabs.length tcap, .slice G X.gens.length gcap], 43), ([.slice none 0 0, .slice none 0 0], 43), ([.int .i64 0, .int .i64 0], 30)] w
  have hs0 := allocs_size [([.slice T tabs.length tcap, .slice G X.gens.length gcap], 43), ([.slice none 0 0, .slice none 0 0], 43), ([.int .i64 0, .int .i64 0], 30)] w
  obtain ⟨W0, hW0⟩ : ∃ W0, W0 = allocs w [([.slice T tabs.length tcap, .slice G X.gens.length gcap], 43), ([.slice none 0 0, .slice none 0 0], 43), ([.int .i64 0, .int .i64 0], 30)] := ⟨_, rfl⟩
  rw [← hW0] at hB0 hb0 hs0
  have hW0' : ((w.alloc (.cells #[.slice T tabs.length tcap, .slice G X.gens.length gcap] 43)).alloc (.cells #[.slice none 0 0, .slice none 0 0] 43)).alloc (.cells #[.int .i64 0, .int .i64 0] 30) = W0 := hW0.symm
  have hWR := fun W (hb : Below w.heap.size w W) => swrong_any T tcap G gcap tabs X W (h.below hb)
  have hWO := fun W (hb : Below w.heap.size w W) => sworld_any T tcap G gcap tabs X W (h.below hb)
  unfold stV at hWR
  unfold stV wldV worldV at hWO
  have s0 := hB0.cell 0 rfl 0 rfl
  have s1 := hB0.cell 0 rfl 1 rfl
  rw [Nat.add_zero] at s0 s1
  have HZ0 : Hid (w.heap.size + 3 ≤ W0.heap.size) := hide (by rw [hs0]; simp)
  have HB0 := hide hB0
  have HL0 := hide hb0
  have HW0 := hide hW0'
  have HS := hide hS
  have HR := hide hr
  have HWR := hide hWR
  have HWO := hide hWO
  clear hW0 hW0' hB0 hb0 h hS hr hWR hWO hs0
  obtain ⟨R, hR⟩ : ∃ R, R = allTo S n 0 X := ⟨_, rfl⟩
  rw [← hR]
  have HRR := hide hR
  clear hR
  unfold stV
  go_enter Try.func22, Try.ntmps22
  go_upto_region 1 with fail
  rw [unhide HW0]
  go_wp2_with fail
  go_at_call 46
  refine (unhide HWR _ (unhide HL0)).mono ?_
  rintro e w5 ⟨rfl, hb5⟩
  have hb6 := bel1 w5 (.cells #[.int .i64 0, .int .i64 0] 30)
  have h6 := ((unhide HB0).below hb5).below hb6
  have hl5 := (unhide HL0).trans (hb5.mono (unhide HL0).size)
  have hl6 := hl5.trans (hb6.mono hl5.size)
  have HZ6 : Hid (w.heap.size + 3 ≤ (w5.alloc (.cells #[.int .i64 0, .int .i64 0] 30)).heap.size) := hide (Nat.le_trans (Nat.le_trans (unhide HZ0) hb5.size) hb6.size)
  clear s0 s1
  have s0 := h6.cell 0 rfl 0 rfl
  have s1 := h6.cell 0 rfl 1 rfl
  rw [Nat.add_zero] at s0 s1
  have HB6 := hide h6
  have HL6 := hide hl6
  clear hb5 hb6 h6 hl5 hl6 HB0 HL0 HWR
  go_wp2_with fail
  go_at_call 18
  refine (unhide HWO _ (unhide HL6)).mono ?_
  rintro e w7 ⟨A7, c7, G7, gc7, rfl, hN7, hb7⟩
  have hb8 := bel1 w7 (.cells #[.slice A7 X.rows.length c7, .slice G7 X.gens.length gc7] 40)
  have hQ : QB w (.slice T tabs.length tcap) (.slice G X.gens.length gcap) w7.heap.size A7 c7 G7 gc7 X (w7.alloc (.cells #[.slice A7 X.rows.length c7, .slice G7 X.gens.length gc7] 40)) :=
    ⟨((unhide HB6).below hb7).below hb8, Bxs.start w7 [([.slice A7 X.rows.length c7, .slice G7 X.gens.length gc7], 40)], Nat.le_trans (unhide HZ6) hb7.size, ((unhide HL6).trans (hb7.mono (unhide HL6).size)).trans (hb8.mono ((unhide HL6).trans (hb7.mono (unhide HL6).size)).size), hN7.toWldAt.below hb8, fun b hb => ⟨Nat.le_trans (unhide HZ6) (blk_fresh hN7 hb), fun e => by have := blk_lt hN7.toWldAt hb; omega⟩⟩
  have HQ := hide hQ
  clear hN7 hb7 hb8 hQ s0 s1 HB6 HL6 HWO
  go_wp2_with fail
  go_loopw [25] (fun x wr => ∃ j : Nat, j ≤ n ∧ x = .int .i64 (j : Int) ∧ ∃ Ac cc Gc gcc Xc, QB w (.slice T tabs.length tcap) (.slice G X.gens.length gcap) w7.heap.size Ac cc Gc gcc Xc wr ∧ RightW Xc ∧ R = allTo S (n - j) j Xc) (fun x _ => n - (intOf x).toNat)
  case atStart => exact ⟨0, Nat.zero_le _, rfl, A7, c7, G7, gc7, X, unhide HQ, unhide HR, unhide HRR⟩
  case round =>
    clear HQ HRR HR
    obtain ⟨j, hj, rfl, Ac, cc, Gc, gcc, Xc, hQ, hrc, hRc⟩ := hrel
    have hxl := (right_hr ((right_iff Xc).2 hrc)).1
    by_cases hlt : j < n
    · have j0 : (0 : Int) ≤ (j : Int) := by omega
      have j1 : (j : Int) < (n : Int) := by omega
      rw [all_step S n j Xc hlt] at hRc
      obtain ⟨b, off, hLe, hSy⟩ := (unhide HS).below hQ.bel j hlt
      obtain ⟨s, hs⟩ : ∃ s, s = S j := ⟨_, rfl⟩
      rw [← hs] at hSy hRc
      have c0 := hSy.c0
      have c1 := hSy.c1
      have c2 := hSy.c2
      have c3 := hSy.c3
      obtain ⟨W4, hW4⟩ : ∃ W4, W4 = wr.alloc (.cells #[.int .i64 s.m, .int .i64 s.al, .int .i64 s.no, .slice s.A s.len s.cap] 26) := ⟨_, rfl⟩
      have hb4 : Below wr.heap.size wr W4 := by rw [hW4]; exact bel1 _ _
      have hQ4 := hQ.below hb4
      have hRU := runon_any Ac cc Gc gcc Xc s.m s.al s.no s.A s.len s.cap s.a W4 hQ4.at_ hrc (hSy.acts.below hb4)
      have hRN := fun hh => run_no (X := Xc) (m := s.m) (al := s.al) (no := s.no) (a := s.a) (len := s.len) hh
      have hRR := fun hh => run_right hrc (m := s.m) (al := s.al) (no := s.no) (a := s.a) (len := s.len) hh
      rw [show runF Xc s.m s.al s.no s.a s.len = runS Xc s from rfl] at hRU hRN hRR
      obtain ⟨Y, hY⟩ : ∃ Y, Y = (runS Xc s).2 := ⟨_, rfl⟩
      obtain ⟨err, herr⟩ : ∃ err, err = (runS Xc s).1 := ⟨_, rfl⟩
      rw [← hY, ← herr] at hRU hRN hRR hRc
      unfold wldV worldV sysV at hRU
      have w0 := hQ4.wb.cell 0 rfl 0 rfl
      have w1 := hQ4.wb.cell 0 rfl 1 rfl
      rw [Nat.add_zero] at w0 w1
      have y0 : W4.cell? ⟨wr.heap.size, 0, none⟩ = some (.int .i64 s.m) := by rw [hW4]; simp
      have y1 : W4.cell? ⟨wr.heap.size, 1, none⟩ = some (.int .i64 s.al) := by rw [hW4]; simp
      have y2 : W4.cell? ⟨wr.heap.size, 2, none⟩ = some (.int .i64 s.no) := by rw [hW4]; simp
      have y3 : W4.cell? ⟨wr.heap.size, 3, none⟩ = some (.slice s.A s.len s.cap) := by rw [hW4]; simp
      have hW4' : wr.alloc (.cells #[.int .i64 s.m, .int .i64 s.al, .int .i64 s.no, .slice s.A s.len s.cap] 26) = W4 := hW4.symm
      have HW4 := hide hW4'
      have HRU := hide hRU
      have HRN := hide hRN
      have HRI := hide hRR
      have HQ4 := hide hQ4
      have HRC := hide hRc
      clear hQ hQ4 hb4 hRU hRN hRR hY herr hW4 hW4' hRc hrc hs hSy
      subst hLe
      go_upto_region 8 with fail
      rw [unhide HW4]
      clear c0 c1 c2 c3
      go_wp2_with fail
      go_at_call 47
      refine (unhide HRU).mono ?_
      rintro e w5 ⟨A4, c4, G4, gc4, rfl, hF5, hb5⟩
      have h5 := (unhide HQ4).below hb5
      have h6 := h5.below (bel1 w5 (.cells #[.slice A4 Y.rows.length c4, .slice G4 Y.gens.length gc4] 40))
      have hX6 := hF5.at_.below (bel1 w5 (.cells #[.slice A4 Y.rows.length c4, .slice G4 Y.gens.length gc4] 40))
      have hnb : ∀ b, Blk A4 G4 Y b → w.heap.size + 3 ≤ b ∧ b ≠ w7.heap.size := fun b hb => by
        rcases hF5.blk b hb with h | h
        · exact (unhide HQ4).nb b h
        · have h1 := (unhide HQ4).lt
          have h2 := (unhide HQ4).lo
          omega
      have n0 : (w5.alloc (.cells #[.slice A4 Y.rows.length c4, .slice G4 Y.gens.length gc4] 40)).cell? ⟨w5.heap.size, 0, none⟩ = some (.slice A4 Y.rows.length c4) := by simp
      have n1 : (w5.alloc (.cells #[.slice A4 Y.rows.length c4, .slice G4 Y.gens.length gc4] 40)).cell? ⟨w5.heap.size, 1, none⟩ = some (.slice G4 Y.gens.length gc4) := by simp
      obtain ⟨W6, hW6⟩ : ∃ W6, W6 = w5.alloc (.cells #[.slice A4 Y.rows.length c4, .slice G4 Y.gens.length gc4] 40) := ⟨_, rfl⟩
      rw [← hW6] at h6 hX6 n0 n1
      have hW6' : w5.alloc (.cells #[.slice A4 Y.rows.length c4, .slice G4 Y.gens.length gc4] 40) = W6 := hW6.symm
      have HW6 := hide hW6'
      have HQ6 := hide h6
      have HB6 := hide h6.bx
      have HL6 := hide h6.bel
      have HX6 := hide hX6
      have HNB := hide hnb
      clear hF5 hb5 h5 h6 hX6 hW6 hW6' hnb HRU HQ4 w0 w1 y0 y1 y2 y3
      by_cases he : err = 0
      · subst he
        have HRY := hide (unhide HRI rfl)
        clear HRN HRI
        go_upto_region 9 with fail
        rw [unhide HW6]
        go_wp2_with (refine wpList_putN rfl 40 (.tmp 7) (.tmp 42) rfl (w7.heap.size + 0) 0 [.slice A4 Y.rows.length c4, .slice G4 Y.gens.length gc4] rfl rfl (by simp [Value.oneCell']) size38 ((unhide HQ6).wb.there 0 rfl 2 rfl) ?_; intro W7 hW; have q1 := (unhide HQ6).wb.give 0 rfl [.slice A4 Y.rows.length c4, .slice G4 Y.gens.length gc4] rfl; have q2 := (unhide HQ6).bx.turn (cb := w7.heap.size + 0) (o := 0) (vs := [.slice A4 Y.rows.length c4, .slice G4 Y.gens.length gc4]) (.inr (by have := (unhide HQ6).lo; simp only [List.length_cons, List.length_nil]; omega)); have q3 := below_setCells (w7.heap.size + 0) (by have := (unhide HQ6).lo; omega) [.slice A4 Y.rows.length c4, .slice G4 Y.gens.length gc4] 0 _ (unhide HL6); have q4 := wld_puts (unhide HX6) (b := w7.heap.size + 0) (o := 0) (vs := [.slice A4 Y.rows.length c4, .slice G4 Y.gens.length gc4]) (fun hb => ((unhide HNB) _ hb).2 rfl); rw [← hW] at q1 q2 q3 q4; have HQ7 : Hid (QB w (.slice T tabs.length tcap) (.slice G X.gens.length gcap) w7.heap.size A4 c4 G4 gc4 Y W7) := hide ⟨q2, q1, (unhide HQ6).lo, q3, q4, unhide HNB⟩; clear hW q1 q2 q3 q4)
        have hR2 := unhide HRC
        rw [if_neg (by simp)] at hR2
        have HR2 := hide hR2
        clear hR2
        go_roundw
        case rel => exact ⟨j + 1, by omega, by go_num, A4, c4, G4, gc4, Y, unhide HQ7, unhide HRY, unhide HR2⟩
        case measure => simp [intOf]; omega
      · have hR2 := unhide HRC
        rw [if_pos he] at hR2
        have HR2 := hide hR2
        clear hR2 HRN HRI HRC
        have hne : (err == 0) = false := by simpa using he
        go_upto_region 9 with fail
        rw [unhide HW6]
        go_wp2_with (first
          | (refine wpList_putN rfl 43 (.tmp 4) (.tmp 38) rfl (w.heap.size + 1) 0 [.slice none 0 0, .slice none 0 0] rfl rfl (by simp [Value.oneCell']) size71 ((unhide HB6).there 1 rfl 2 rfl) ?_; intro W8 hW; have q1 := (unhide HB6).give 1 rfl [.slice none 0 0, .slice none 0 0] rfl; have q3 := below_setCells (w.heap.size + 1) (by omega) [.slice none 0 0, .slice none 0 0] 0 _ (unhide HL6); rw [← hW] at q1 q3; have HB8 := hide q1; have HL8 := hide q3; clear hW q1 q3)
          | (refine wpList_putN rfl 30 (.tmp 5) (.tmp 41) rfl (w.heap.size + 2) 0 [.int .i64 err, .int .i64 (j : Int)] rfl rfl (by simp [Value.oneCell']) size43t ((unhide HB8).there 2 rfl 2 rfl) ?_; intro W9 hW; have q1 := (unhide HB8).give 2 rfl [.int .i64 err, .int .i64 (j : Int)] rfl; have q3 := below_setCells (w.heap.size + 2) (by omega) [.int .i64 err, .int .i64 (j : Int)] 0 _ (unhide HL8); rw [← hW] at q1 q3; have HB9 := hide q1; have HL9 := hide q3; clear hW q1 q3))
        have t0 := (unhide HB9).cell 1 rfl 0 rfl
        have t1 := (unhide HB9).cell 1 rfl 1 rfl
        have u0 := (unhide HB9).cell 2 rfl 0 rfl
        have u1 := (unhide HB9).cell 2 rfl 1 rfl
        refine bodyPost_ret (v := .tuple #[.agg #[.slice none 0 0, .slice none 0 0], .agg #[.int .i64 err, .int .i64 (j : Int)]]) (by simp [results, Try.results22, go_sem, t0, t1, u0, u1]) rfl ?_
        rw [unhide HR2]
        exact ⟨none, 0, none, 0, rfl, stNew_empty _ _, unhide HL9⟩
    · obtain rfl : j = n := by omega
      have w0 := hQ.wb.cell 0 rfl 0 rfl
      have w1 := hQ.wb.cell 0 rfl 1 rfl
      rw [Nat.add_zero] at w0 w1
      have hOF := of_right Ac cc Gc gcc Xc wr hQ.at_ hrc
      unfold wldV worldV stV at hOF
      have HOF := hide hOF
      have HZ : Hid (w.heap.size + 3 ≤ wr.heap.size) := hide (by have := hQ.bx.sz (by simp); simpa using this)
      have HQ := hide hQ
      have hR2 := hRc
      rw [Nat.sub_self, allTo] at hR2
      have HR2 := hide hR2
      clear hQ hRc hR2 hOF hrc
      go_wp2_with fail
      go_at_call 16
      refine (unhide HOF).mono ?_
      rintro e w8 ⟨T8, tc8, G8, gc8, rfl, hN8, hb8⟩
      have h8 := (unhide HQ).below hb8
      have HB7 := hide h8.bx
      have HL7 := hide h8.bel
      have HN7 := hide (hN8.le (base' := w.heap.size + 3) (unhide HZ))
      clear hN8 hb8 h8 w0 w1 HOF HQ
      go_wp2_with (first
        | (refine wpList_putN rfl 43 (.tmp 4) (.tmp 46) rfl (w.heap.size + 1) 0 [.slice T8 (tabsW Xc).length tc8, .slice G8 Xc.gens.length gc8] rfl rfl (by simp [Value.oneCell']) size71 ((unhide HB7).there 1 rfl 2 rfl) ?_; intro W8 hW; have q1 := (unhide HB7).give 1 rfl [.slice T8 (tabsW Xc).length tc8, .slice G8 Xc.gens.length gc8] rfl; have q3 := below_setCells (w.heap.size + 1) (by omega) [.slice T8 (tabsW Xc).length tc8, .slice G8 Xc.gens.length gc8] 0 _ (unhide HL7); have q4 := (unhide HN7).putc (b := w.heap.size + 1) (o := 0) (vs := [.slice T8 (tabsW Xc).length tc8, .slice G8 Xc.gens.length gc8]) (by omega); rw [← hW] at q1 q3 q4; have HB8 := hide q1; have HL8 := hide q3; have HN8 := hide q4; clear hW q1 q3 q4)
        | (refine wpList_putN rfl 30 (.tmp 5) (.tmp 47) rfl (w.heap.size + 2) 0 [.int .i64 0, .int .i64 0] rfl rfl (by simp [Value.oneCell']) size43t ((unhide HB8).there 2 rfl 2 rfl) ?_; intro W9 hW; have q1 := (unhide HB8).give 2 rfl [.int .i64 0, .int .i64 0] rfl; have q3 := below_setCells (w.heap.size + 2) (by omega) [.int .i64 0, .int .i64 0] 0 _ (unhide HL8); have q4 := (unhide HN8).putc (b := w.heap.size + 2) (o := 0) (vs := [.int .i64 0, .int .i64 0]) (by omega); rw [← hW] at q1 q3 q4; have HB9 := hide q1; have HL9 := hide q3; have HN9 := hide q4; clear hW q1 q3 q4))
      have t0 := (unhide HB9).cell 1 rfl 0 rfl
      have t1 := (unhide HB9).cell 1 rfl 1 rfl
      have u0 := (unhide HB9).cell 2 rfl 0 rfl
      have u1 := (unhide HB9).cell 2 rfl 1 rfl
      refine bodyPost_ret (v := .tuple #[.agg #[.slice T8 (tabsW Xc).length tc8, .slice G8 Xc.gens.length gc8], .agg #[.int .i64 0, .int .i64 0]]) (by simp [results, Try.results22, go_sem, t0, t1, u0, u1]) rfl ?_
      rw [unhide HR2]
      exact ⟨T8, tc8, G8, gc8, rfl, (unhide HN9).le (by omega), unhide HL9⟩
set_option maxRecDepth 8000 in
set_option maxHeartbeats 4000000 in
theorem run_any (T : Option Addr) (tcap : Nat) (G : Option Addr) (gcap : Nat) (tabs : List TabI) (X : Wd) (s : SysI) (w : World) (h : StAt w T G tabs X) (hA : ActsAt w s.A s.len s.a) :
    Calls Try.prog 17 #[stV T tabs.length tcap G X.gens.length gcap, sysI s] w fun e w' => ∃ T' tc' G' gc', e = .returned (.tuple #[stV T' (tabsW (runS X s).2).length tc' G' (runS X s).2.gens.length gc', .int .i64 (runS X s).1]) ∧ StNew w.heap.size w' T' G' (tabsW (runS X s).2) (runS X s).2 ∧ Below w.heap.size w w' := by
  have hB0 := Bxs.start w [([.slice T tabs.length tcap, .slice G X.gens.length gcap], 43), ([.int .i64 s.m, .int .i64 s.al, .int .i64 s.no, .slice s.A s.len s.cap], 26), ([.slice none 0 0, .slice none 0 0], 43)]
  have hb0 := allocs_below [([.slice T tabs.length tcap, .slice G X.gens.length gcap], 43), ([.int .i64 s.m, .int .i64 s.al, .int .i64 s.no, .slice s.A s.len s.cap], 26), ([.slice none 0 0, .slice none 0 0], 43)] w
  have hs0 := allocs_size [([.slice T tabs.length tcap, .slice G X.gens.length gcap], 43), ([.int .i64 s.m, .int .i64 s.al, .int .i64 s.no, .slice s.A s.len s.cap], 26), ([.slice none 0 0, .slice none 0 0], 43)] w
  obtain ⟨W0, hW0⟩ : ∃ W0, W0 = allocs w [([.slice T tabs.length tcap, .slice G X.gens.length gcap], 43), ([.int .i64 s.m, .int .i64 s.al, .int .i64 s.no, .slice s.A s.len s.cap], 26), ([.slice none 0 0, .slice none 0 0], 43)] := ⟨_, rfl⟩
  rw [← hW0] at hB0 hb0 hs0
  have hW0' : ((w.alloc (.cells #[.slice T tabs.length tcap, .slice G X.gens.length gcap] 43)).alloc (.cells #[.int .i64 s.m, .int .i64 s.al, .int .i64 s.no, .slice s.A s.len s.cap] 26)).alloc (.cells #[.slice none 0 0, .slice none 0 0] 43) = W0 := hW0.symm
  have hb1 := bel1 W0 (.cells #[.int .i64 s.m, .int .i64 s.al, .int .i64 s.no, .slice s.A s.len s.cap] 26)
  have hSY : SyssAt (W0.alloc (.cells #[.int .i64 s.m, .int .i64 s.al, .int .i64 s.no, .slice s.A s.len s.cap] 26)) (some ⟨W0.heap.size, 0, none⟩) 1 (fun _ => s) := fun j hj => by
    obtain rfl : j = 0 := by omega
    exact ⟨W0.heap.size, 0, rfl, by simp, by simp, by simp, by simp, (hA.below hb0).below hb1⟩
  have hAL := all_any T tcap G gcap tabs X (some ⟨W0.heap.size, 0, none⟩) 1 1 (fun _ => s) _ ((h.below hb0).below hb1) (by decide) hSY
  have eA : allTo (fun _ => s) 1 0 X = if (runS X s).1 ≠ 0 then (((runS X s).1, 0), emptyW) else ((0, 0), (runS X s).2) := rfl
  have eY : (allTo (fun _ => s) 1 0 X).2 = (runS X s).2 := by
    rw [eA]
    split
    · rename_i e; exact (run_no e).symm
    · rfl
  have eE : (allTo (fun _ => s) 1 0 X).1.1 = (runS X s).1 := by
    rw [eA]
    split
    · rfl
    · rename_i e; exact (Decidable.not_not.1 e).symm
  rw [eY, eE] at hAL
  obtain ⟨Y, hY⟩ : ∃ Y, Y = (runS X s).2 := ⟨_, rfl⟩
  obtain ⟨err, herr⟩ : ∃ err, err = (runS X s).1 := ⟨_, rfl⟩
  rw [← hY, ← herr] at hAL ⊢
  generalize (allTo (fun _ => s) 1 0 X).1.2 = ea at *
  unfold stV at hAL
  have s0 := hB0.cell 0 rfl 0 rfl
  have s1 := hB0.cell 0 rfl 1 rfl
  rw [Nat.add_zero] at s0 s1
  have y0 := hB0.cell 1 rfl 0 rfl
  have y1 := hB0.cell 1 rfl 1 rfl
  have y2 := hB0.cell 1 rfl 2 rfl
  have y3 := hB0.cell 1 rfl 3 rfl
  have HZ0 : Hid (w.heap.size + 3 ≤ W0.heap.size) := hide (by rw [hs0]; simp)
  have HAL := hide hAL
  have HB0 := hide (hB0.below hb1)
  have HL0 := hide (hb0.trans (hb1.mono hb0.size))
  have HS1 : Hid ((W0.alloc (.cells #[.int .i64 s.m, .int .i64 s.al, .int .i64 s.no, .slice s.A s.len s.cap] 26)).heap.size = W0.heap.size + 1) := hide (by simp)
  have HW0 := hide hW0'
  clear hW0 hW0' hB0 hb0 hb1 h hA hSY hAL eA eY eE hY herr hs0
  unfold stV sysI sysV
  go_enter Try.func17, Try.ntmps17
  go_upto_region 1 with fail
  rw [unhide HW0]
  go_wp2_with fail
  go_at_call 22
  refine (unhide HAL).mono ?_
  rintro e w5 ⟨T5, tc5, G5, gc5, rfl, hN5, hb5⟩
  have hB5 := (unhide HB0).below hb5
  have hL5 := (unhide HL0).trans (hb5.mono (unhide HL0).size)
  have HZ5 : Hid (w.heap.size + 3 ≤ w5.heap.size) := hide (by have := unhide HZ0; have := hb5.size; have := unhide HS1; omega)
  have hN5 := hN5.le (base' := w.heap.size + 3) (by have := unhide HZ0; have := unhide HS1; omega)
  have hb6 := bel2 w5 (.cells #[.slice T5 (tabsW Y).length tc5, .slice G5 Y.gens.length gc5] 43) (.cells #[.int .i64 err, .int .i64 ea] 30)
  have h0 : Bxs w.heap.size [([.slice T tabs.length tcap, .slice G X.gens.length gcap], 43), ([.int .i64 s.m, .int .i64 s.al, .int .i64 s.no, .slice s.A s.len s.cap], 26), ([.slice none 0 0, .slice none 0 0], 43)] ((w5.alloc (.cells #[.slice T5 (tabsW Y).length tc5, .slice G5 Y.gens.length gc5] 43)).alloc (.cells #[.int .i64 err, .int .i64 ea] 30)).drew ∧ Below w.heap.size w ((w5.alloc (.cells #[.slice T5 (tabsW Y).length tc5, .slice G5 Y.gens.length gc5] 43)).alloc (.cells #[.int .i64 err, .int .i64 ea] 30)).drew ∧ ((w5.alloc (.cells #[.slice T5 (tabsW Y).length tc5, .slice G5 Y.gens.length gc5] 43)).alloc (.cells #[.int .i64 err, .int .i64 ea] 30)).drew.cell? ⟨w5.heap.size, 0, none⟩ = some (.slice T5 (tabsW Y).length tc5) ∧ ((w5.alloc (.cells #[.slice T5 (tabsW Y).length tc5, .slice G5 Y.gens.length gc5] 43)).alloc (.cells #[.int .i64 err, .int .i64 ea] 30)).drew.cell? ⟨w5.heap.size, 1, none⟩ = some (.slice G5 Y.gens.length gc5) ∧ ((w5.alloc (.cells #[.slice T5 (tabsW Y).length tc5, .slice G5 Y.gens.length gc5] 43)).alloc (.cells #[.int .i64 err, .int .i64 ea] 30)).drew.cell? ⟨w5.heap.size + 1, 0, none⟩ = some (.int .i64 err) ∧ StNew (w.heap.size + 3) ((w5.alloc (.cells #[.slice T5 (tabsW Y).length tc5, .slice G5 Y.gens.length gc5] 43)).alloc (.cells #[.int .i64 err, .int .i64 ea] 30)).drew T5 G5 (tabsW Y) Y := by
    have hx := Bxs.start w5 [([.slice T5 (tabsW Y).length tc5, .slice G5 Y.gens.length gc5], 43), ([.int .i64 err, .int .i64 ea], 30)]
    exact ⟨hB5.below hb6.drew, (hL5.trans (hb6.mono hL5.size)).drew, hx.cell 0 rfl 0 rfl, hx.cell 0 rfl 1 rfl, hx.cell 1 rfl 0 rfl, hN5.below hb6.drew⟩
  clear hN5 hb5 hB5 hL5 hb6 s0 s1 y0 y1 y2 y3 HAL HB0 HL0 HW0
  go_wp2_with fail
  refine wp_region_gho (fun (γ : Unit) ix v => (([fun v => v = .agg #[.slice T5 (tabsW Y).length tc5, .slice G5 Y.gens.length gc5], fun v => v = .pointer (some ⟨w5.heap.size + 1, 0, none⟩), fun v => v = .int .i64 err, fun _ => True, fun v => v = .int .i64 err] : List (Value → Prop)).getD ix (fun _ => True)) v) (fun (_ : Unit) L W => Bxs w.heap.size [([.slice T tabs.length tcap, .slice G X.gens.length gcap], 43), ([.int .i64 s.m, .int .i64 s.al, .int .i64 s.no, .slice s.A s.len s.cap], 26), (if L 3 = true then [.slice T5 (tabsW Y).length tc5, .slice G5 Y.gens.length gc5] else [.slice none 0 0, .slice none 0 0], 43)] W ∧ Below w.heap.size w W ∧ W.cell? ⟨w5.heap.size, 0, none⟩ = some (.slice T5 (tabsW Y).length tc5) ∧ W.cell? ⟨w5.heap.size, 1, none⟩ = some (.slice G5 Y.gens.length gc5) ∧ W.cell? ⟨w5.heap.size + 1, 0, none⟩ = some (.int .i64 err) ∧ StNew (w.heap.size + 3) W T5 G5 (tabsW Y) Y) (()) (by kernel_rfl) (by kernel_rfl) (by kernel_rfl) h0 ?hstep ?hend
  case hstep =>
    intro γ ix o ho L ac w1 hD hL hed hcl hout hv
    match ix, ho with
    | 0, ho =>
      simp at ho
      subst ho
      have e6 : ac.tmps.getD 6 undef = .pointer (some ⟨w5.heap.size, 0, none⟩) := hout 6 (by decide +kernel)
      have c0 := hD.2.2.1
      have c1 := hD.2.2.2.1
      exact .inl ⟨rfl, gho_reads γ (.agg #[.slice T5 (tabsW Y).length tc5, .slice G5 Y.gens.length gc5]) (by simp [go_sem, Act.eval, -Array.getD_eq_getD_getElem?, e6, c0, c1]) rfl (by rw [upd_ne (by decide)]; exact hD) (fun _ _ _ _ h => h)⟩
    | 1, ho =>
      simp at ho
      subst ho
      have e7 : ac.tmps.getD 7 undef = .pointer (some ⟨w5.heap.size + 1, 0, none⟩) := hout 7 (by decide +kernel)
      exact .inl ⟨rfl, gho_reads γ (.pointer (some ⟨w5.heap.size + 1, 0, none⟩)) (by simp [go_sem, Act.eval, -Array.getD_eq_getD_getElem?, e7]) rfl (by rw [upd_ne (by decide)]; exact hD) (fun _ _ _ _ h => h)⟩
    | 2, ho =>
      simp at ho
      subst ho
      have e16 : ac.tmps.getD 16 undef = .pointer (some ⟨w5.heap.size + 1, 0, none⟩) := hv 1 16 rfl (by kernel_rfl)
      have c0 := hD.2.2.2.2.1
      exact .inl ⟨rfl, gho_reads γ (.int .i64 err) (by simp [go_sem, Act.eval, -Array.getD_eq_getD_getElem?, e16, c0]) rfl (by rw [upd_ne (by decide)]; exact hD) (fun _ _ _ _ h => h)⟩
    | 3, ho =>
      simp at ho
      subst ho
      have e4 : ac.tmps.getD 4 undef = .pointer (some ⟨w.heap.size + 2, 0, none⟩) := hout 4 (by decide +kernel)
      have e15 : ac.tmps.getD 15 undef = .agg #[.slice T5 (tabsW Y).length tc5, .slice G5 Y.gens.length gc5] := hv 0 15 rfl (by kernel_rfl)
      have hg := hD.1.give 2 rfl [.slice T5 (tabsW Y).length tc5, .slice G5 Y.gens.length gc5] (by rw [hL]; rfl)
      refine .inl ⟨rfl, gho_putN γ 43 (.tmp 4) (.tmp 15) rfl (w.heap.size + 2) 0 [.slice T5 (tabsW Y).length tc5, .slice G5 Y.gens.length gc5] (by simp [Act.eval, -Array.getD_eq_getD_getElem?, e4]) (by simp [Act.eval, -Array.getD_eq_getD_getElem?, e15]) (by simp [Value.oneCell']) size71 (hD.1.there 2 rfl 2 (by rw [hL]; rfl)) trivial ⟨?_, below_setCells (w.heap.size + 2) (by omega) _ 0 _ hD.2.1, (setcs_other (by have := unhide HZ5; simp only [ne_eq]; omega)).trans hD.2.2.1, (setcs_other (by have := unhide HZ5; simp only [ne_eq]; omega)).trans hD.2.2.2.1, (setcs_other (by have := unhide HZ5; simp only [ne_eq]; omega)).trans hD.2.2.2.2.1, hD.2.2.2.2.2.putc (by omega)⟩ (fun _ _ _ _ h => h)⟩
      rw [upd_eq, if_pos rfl]
      exact hg
    | 4, ho =>
      simp at ho
      subst ho
      have e17 : ac.tmps.getD 17 undef = .int .i64 err := hv 2 17 rfl (by kernel_rfl)
      exact .inl ⟨rfl, gho_reads γ (.int .i64 err) (by simp [go_sem, Act.eval, -Array.getD_eq_getD_getElem?, e17]) rfl (by rw [upd_ne (by decide)]; exact hD) (fun _ _ _ _ h => h)⟩
    | ix + 5, ho => simp at ho
  case hend =>
    intro γ v L w9 hD hall hv
    rw [hall 3 (by decide), if_pos rfl] at hD
    have v4 : v 4 = .int .i64 err := hv 4 5 rfl
    have HD := hide hD
    clear hv hall hD h0
    simp only [putOps, List.getElem?_cons_zero, List.getElem?_cons_succ, Option.bind_some, List.length_cons, List.length_nil, Nat.reduceAdd, v4]
    clear v4
    go_frame
    go_wp2
    have t0 := (unhide HD).1.cell 2 rfl 0 rfl
    have t1 := (unhide HD).1.cell 2 rfl 1 rfl
    refine bodyPost_ret (v := .tuple #[.agg #[.slice T5 (tabsW Y).length tc5, .slice G5 Y.gens.length gc5], .int .i64 err]) (by simp [results, Try.results17, go_sem, t0, t1]) rfl ⟨T5, tc5, G5, gc5, rfl, (unhide HD).2.2.2.2.2.le (by omega), (unhide HD).2.1⟩
end Go.Proofs.Ytnbleebilmghcab
namespace Go.Proofs.Ytnbleebilmghcab
open Go Go.RowKit
attribute [local go_sem ↓] Go.wp_at_zero Go.wp_at_succ
def al5X : Wd := (spawnF emptyW 3 7).2.2
def al5A : Nat → ActI := fun _ => ⟨3, 0, 1, 0⟩
def al5Y : Wd := (runF al5X 0 3 0 al5A 1).2
theorem al5_0 : (spawnF emptyW 3 7).1 = 0 ∧ (spawnF emptyW 3 7).2.1 = (0, 1) := by decide +kernel
theorem al5_x : (tabsW al5X).length = 1 ∧ al5X.gens.length = 1 := by decide +kernel
theorem al5_r : (runF al5X 0 3 0 al5A 1).1 = 0 := by decide +kernel
theorem al5_y : (tabsW al5Y).length = 1 ∧ al5Y.gens.length = 1 ∧ getW al5Y 0 1 0 = (14, true) := by decide +kernel
set_option maxRecDepth 8000 in
set_option maxHeartbeats 4000000 in
theorem alive5_any (w : World) : Calls Try.prog 15 #[] w fun e w' => e = .returned (.bool true) ∧ Below w.heap.size w w' := by
  have hS : ∀ W, Calls Try.prog 40 #[.agg #[.slice none 0 0, .slice none 0 0], .int .i64 3, .int .i64 7] W fun e w' => ∃ T' tc' G' gc', e = .returned (.tuple #[.agg #[.slice T' 1 tc', .slice G' 1 gc'], .agg #[.int .i64 0, .int .i64 1], .int .i64 0]) ∧ StNew W.heap.size w' T' G' (tabsW al5X) al5X ∧ Below W.heap.size W w' := fun W => by
    have h := sspawn_any none 0 none 0 (tabsW emptyW) emptyW 3 7 W (stNew_empty 0 W).st
    rw [al5_0.1, al5_0.2] at h
    have e : (spawnF emptyW 3 7).2.2 = al5X := rfl
    rw [e] at h
    unfold stV beingV at h
    rw [al5_x.1, al5_x.2] at h
    exact h
  have hR : ∀ T tc G gc A W, StAt W T G (tabsW al5X) al5X → ActsAt W A 1 al5A → Calls Try.prog 17 #[.agg #[.slice T 1 tc, .slice G 1 gc], .agg #[.int .i64 0, .int .i64 3, .int .i64 0, .slice A 1 1]] W fun e w' => ∃ T' tc' G' gc', e = .returned (.tuple #[.agg #[.slice T' 1 tc', .slice G' 1 gc'], .int .i64 0]) ∧ StNew W.heap.size w' T' G' (tabsW al5Y) al5Y ∧ Below W.heap.size W w' := fun T tc G gc A W hW hA => by
    have h := run_any T tc G gc (tabsW al5X) al5X ⟨0, 3, 0, A, 1, 1, al5A⟩ W hW hA
    have e1 : (runS al5X ⟨0, 3, 0, A, 1, 1, al5A⟩).1 = 0 := al5_r
    have e : (runS al5X ⟨0, 3, 0, A, 1, 1, al5A⟩).2 = al5Y := rfl
    rw [e1, e] at h
    unfold stV sysI sysV at h
    rw [al5_x.1, al5_x.2, al5_y.1, al5_y.2.1] at h
    exact h
  have hG : ∀ T tc G gc W, StAt W T G (tabsW al5Y) al5Y → Calls Try.prog 41 #[.agg #[.slice T 1 tc, .slice G 1 gc], .agg #[.int .i64 0, .int .i64 1], .int .i64 0] W fun e w' => e = .returned (.tuple #[.int .i64 14, .bool true]) ∧ Below W.heap.size W w' := fun T tc G gc W hW => by
    have h := sget_any T tc G gc (tabsW al5Y) al5Y 0 1 0 W hW
    rw [al5_y.2.2] at h
    unfold stV beingV at h
    rw [al5_y.1, al5_y.2.1] at h
    exact h
  have hL : ∀ T tc G gc W, StAt W T G (tabsW al5X) al5X → Calls Try.prog 22 #[.agg #[.slice T 1 tc, .slice G 1 gc], .slice none 0 0] W fun e w' => ∃ T' tc' G' gc', e = .returned (.tuple #[.agg #[.slice T' 1 tc', .slice G' 1 gc'], .agg #[.int .i64 0, .int .i64 0]]) ∧ Below W.heap.size W w' := fun T tc G gc W hW => by
    have h := all_any T tc G gc (tabsW al5X) al5X none 0 0 (fun _ => ⟨0, 0, 0, none, 0, 0, al5A⟩) W hW (by decide) (fun j hj => by omega)
    have e : allTo (fun _ => (⟨0, 0, 0, none, 0, 0, al5A⟩ : SysI)) 0 0 al5X = ((0, 0), al5X) := rfl
    rw [e] at h
    unfold stV at h
    dsimp only at h
    rw [al5_x.1, al5_x.2] at h
    exact h.mono fun e w' ⟨T', tc', G', gc', he, _, hb⟩ => ⟨T', tc', G', gc', he, hb⟩
  have HS := hide hS
  have HR := hide hR
  have HG := hide hG
  have HA := hide hL
  clear hS hR hG hL
  go_enter Try.func15, Try.ntmps15
  go_wp2_with fail
  go_at_call 40
  refine (unhide HS _).mono ?_
  rintro e w1 ⟨T1, tc1, G1, gc1, rfl, hN1, hb1⟩
  obtain ⟨W1, hW1⟩ : ∃ W1, W1 = allocs w1 [([.slice T1 1 tc1, .slice G1 1 gc1], 43), ([.int .i64 0, .int .i64 1], 50)] := ⟨_, rfl⟩
  have hA1 := allocs_below [([.slice T1 1 tc1, .slice G1 1 gc1], 43), ([.int .i64 0, .int .i64 1], 50)] w1
  have hX1 := Bxs.start w1 [([.slice T1 1 tc1, .slice G1 1 gc1], 43), ([.int .i64 0, .int .i64 1], 50)]
  rw [← hW1] at hA1 hX1
  have hb2 := bel1 W1 (.cells #[.int .i64 3, .int .i64 0, .int .i64 1, .int .i64 0] 76)
  have hT1 := (hN1.below hA1).st
  have hAc : ActsAt (W1.alloc (.cells #[.int .i64 3, .int .i64 0, .int .i64 1, .int .i64 0] 76)) (some ⟨W1.heap.size, 0, none⟩) 1 al5A := fun j hj => by
    obtain rfl : j = 0 := by omega
    exact ⟨W1.heap.size, 0, rfl, by simp [al5A], by simp [al5A], by simp [al5A], by simp [al5A]⟩
  have HR1 := hide (unhide HR T1 tc1 G1 gc1 _ _ (hT1.below hb2) hAc)
  have HX1 := hide (hX1.below hb2)
  have hL1 := hb1.trans (hA1.mono hb1.size)
  have HL1 := hide (hL1.trans (hb2.mono hL1.size))
  have HT1 := hide (hT1.below hb2)
  have hW1' : (w1.alloc (.cells #[.slice T1 1 tc1, .slice G1 1 gc1] 43)).alloc (.cells #[.int .i64 0, .int .i64 1] 50) = W1 := hW1.symm
  have HW1 := hide hW1'
  have a0 := hX1.cell 0 rfl 0 rfl
  have a1 := hX1.cell 0 rfl 1 rfl
  rw [Nat.add_zero] at a0 a1
  clear hN1 hb1 hA1 hX1 hW1 hW1' HS HR hAc hb2 hL1 hT1
  go_upto_region 2 with fail
  rw [unhide HW1]
  go_wp2_with fail
  go_at_call 17
  refine (unhide HR1).mono ?_
  rintro e w2 ⟨T2, tc2, G2, gc2, rfl, hN2, hb2⟩
  have hX2 := (unhide HX1).below hb2
  have d0 := hX2.cell 1 rfl 0 rfl
  have d1 := hX2.cell 1 rfl 1 rfl
  have ld := World.block_lt_of_cell? w2 _ d0
  have hb3 := bel1 w2 (.cells #[.slice T2 1 tc2, .slice G2 1 gc2] 43)
  have HX3 := hide (hX2.below hb3)
  have HL3 := hide (((unhide HL1).trans (hb2.mono (unhide HL1).size)).trans (hb3.mono ((unhide HL1).trans (hb2.mono (unhide HL1).size)).size))
  have HT3 := hide (((unhide HT1).below hb2).below hb3)
  have HG3 := hide (unhide HG T2 tc2 G2 gc2 _ (hN2.below hb3).st)
  clear hX2 hN2 hb2 hb3 a0 a1 HR1 HW1 HX1 HL1 HT1 HG
  go_wp2_with fail
  go_at_call 41
  refine (unhide HG3).mono ?_
  rintro e w4 ⟨rfl, hb4⟩
  have hX4 := (unhide HX3).below hb4
  have HL4 := hide ((unhide HL3).trans (hb4.mono (unhide HL3).size))
  have HA4 := hide (unhide HA T1 tc1 G1 gc1 _ ((unhide HT3).below hb4))
  have a0 := hX4.cell 0 rfl 0 rfl
  have a1 := hX4.cell 0 rfl 1 rfl
  rw [Nat.add_zero] at a0 a1
  clear hX4 hb4 d0 d1 ld HX3 HL3 HT3 HG3 HA
  go_wp2_with fail
  go_at_call 22
  refine (unhide HA4).mono ?_
  rintro e w5 ⟨T5, tc5, G5, gc5, rfl, hb5⟩
  have HL5 := hide ((unhide HL4).trans (hb5.mono (unhide HL4).size))
  clear a0 a1 hb5 HA4 HL4
  go_wp2
  go_ret
  exact ⟨rfl, (unhide HL5).trans ((bel2 _ _ _).mono (unhide HL5).size)⟩
end Go.Proofs.Ytnbleebilmghcab
