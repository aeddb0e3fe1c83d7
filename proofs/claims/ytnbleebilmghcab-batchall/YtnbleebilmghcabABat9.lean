/- The statement BatchAll, its walk. -/
import Derived.Test.YtnbleebilmghcabABat8
set_option linter.unnecessarySimpa false
set_option linter.unusedVariables false
set_option linter.unusedSimpArgs false
namespace Go.Proofs.Ytnbleebilmghcab
open Go Go.RowKit Go.WideMaps Go.Maps
attribute [local go_sem ↓] Go.wp_at_zero Go.wp_at_succ

def heldTo (cl : Nat → Nat → Bool) (i j : Nat) : Bool := (lev cl i == 0) || (List.range j).any (fun k => cl k i && (lev cl k + 1 == lev cl i))
theorem heldTo_succ (cl : Nat → Nat → Bool) (i j : Nat) : heldTo cl i (j + 1) = (heldTo cl i j || (cl j i && (lev cl j + 1 == lev cl i))) := by
  unfold heldTo; rw [List.range_succ, List.any_append]; simp [Bool.or_assoc]
theorem heldTo_all (cl : Nat → Nat → Bool) (i : Nat) : heldTo cl i i = true := by
  unfold heldTo
  by_cases h : lev cl i = 0
  · simp [h]
  · obtain ⟨j, h1, h2, h3⟩ := lev_held cl i (by omega)
    rw [Bool.or_eq_true]
    right
    rw [List.any_eq_true]
    exact ⟨j, List.mem_range.2 h1, by simp [h2, h3]⟩

theorem held_eq (vi vj : Nat) : (((vj : Nat) : Int) == (vi : Int) - 1) = (vj + 1 == vi) := by
  rw [Bool.eq_iff_iff]; simp; omega

set_option maxRecDepth 8000 in
set_option maxHeartbeats 1000000 in
theorem all_wrong (L : Option Addr) (n cap : Nat) (S : Nat → SysI) (w : World) (hL : SyssAt w L n S) (hw : (bwF S n).1 ≠ 0) :
    Calls Try.prog 10 #[.slice L n cap] w fun e w' => e = .returned (.bool true) ∧ Below w.heap.size w w' := by
  have HA := hide (alive6_any w)
  have hC : ∀ W, Below w.heap.size w W → Calls Try.prog 25 #[.slice L n cap] W fun e w' => e = .returned (.tuple #[.slice none 0 0, faultV (bwF S n)]) ∧ Below W.heap.size W w' := fun W hW => make_wrong L n cap S W (hL.below hW) hw
  generalize bwF S n = x at *
  obtain ⟨ej, aj⟩ := x
  unfold faultV at *
  dsimp only at *
  have HC := hide hC
  clear hC hL
  go_enter Try.func10, Try.ntmps10
  go_wp2_with (first
    | (go_at_call 31; refine (unhide HA).mono ?_; rintro e w1 ⟨rfl, hb1⟩; have HB1 := hide hb1; clear hb1)
    | (go_at_call 25; refine (unhide HC _ (unhide HB1)).mono ?_; rintro e w2 ⟨rfl, hb2⟩; have HB2 := hide ((unhide HB1).trans (hb2.mono (unhide HB1).size)); clear hb2))
  go_ret
  exact ⟨rfl, (unhide HB2).alloc (unhide HB2).size _⟩

set_option maxRecDepth 8000 in
set_option maxHeartbeats 4000000 in
theorem all_right (L : Option Addr) (n cap : Nat) (S : Nat → SysI) (w : World) (hL : SyssAt w L n S) (hw : (bwF S n).1 = 0) :
    Calls Try.prog 10 #[.slice L n cap] w fun e w' => e = .returned (.bool true) ∧ Below w.heap.size w w' := by
  obtain ⟨hn, hsw, hz⟩ := bw_right S n hw
  have h8 : ∀ j, j < n → (S j).len ≤ 8 := fun j hj => ((right_spec _ _ _ _ _).1 (hsw j hj)).2.1
  have HA := hide (alive6_any w)
  have hC : ∀ W, Below w.heap.size w W → Calls Try.prog 25 #[.slice L n cap] W fun e w' => ∃ B cap', e = .returned (.tuple #[.slice B (mkB (clS S) n).length cap', faultV (0, 0)]) ∧ BatsAt w' B (mkB (clS S) n) ∧ Below W.heap.size W w' := fun W hW => make_right L n cap S W (hL.below hW) hw
  unfold faultV at *
  have HC := hide hC
  have HL := hide hL
  have H8 := hide h8
  have hbl := mkB_len (clS S) n
  have hmm := @run_makeMap Try.prog
  clear hC hL hsw hz hw h8
  go_enter Try.func10, Try.ntmps10
  go_wp2_with (first
    | (go_at_call 31; refine (unhide HA).mono ?_; rintro e w1 ⟨rfl, hb1⟩; have HB1 := hide hb1; clear hb1)
    | (go_at_call 25; refine (unhide HC _ (unhide HB1)).mono ?_; rintro e w2 ⟨B, capb, rfl, hB, hb2⟩; have HB2 := hide ((unhide HB1).trans (hb2.mono (unhide HB1).size)); have HBB := hide hB; clear hb2 hB))
  clear HC HA HB1
  have hM0 : MpAt ((w2.alloc (.cells #[.int .i64 0, .int .i64 0] 30)).alloc (.map #[] 0)) (w2.heap.size + 1) [] (lev (clS S)) (.map []) := by
    have := MpAt.made (w2.alloc (.cells #[.int .i64 0, .int .i64 0] 30)) (lev (clS S))
    simpa using this
  have HM0 := hide hM0
  have HPERM := hide (mkB_perm (clS S) n)
  have HNX := hide (fun k j hk hj => next_new (clS S) n k j hk hj)
  have HLENS := hide (fun k hk => mkB_lens (clS S) n k hk)
  have HNE := hide (fun k hk => mkB_ne (clS S) n k hk)
  clear hM0
  obtain ⟨M, hM⟩ : ∃ M, M = w2.heap.size + 1 := ⟨_, rfl⟩
  have hMlo : w2.heap.size ≤ M := by omega
  have HMU := hide hM
  rw [← hM]
  rw [← hM] at HM0
  clear hM
  generalize hbs : mkB (clS S) n = bs at *
  have HBS := hide hbs
  clear hbs
  have hb12 : bs.length ≤ 12 := by omega
  go_loopw [31] (fun i wr => ∃ (k : Nat) (D : DataW Unit), k ≤ bs.length ∧ i = .int .i64 k ∧ MpAt wr M (flatTo bs k) (lev (clS S)) D ∧ Below w2.heap.size w2 wr) (fun i _ => bs.length - (intOf i).toNat)
  case atStart => exact ⟨0, .map [], Nat.zero_le _, rfl, unhide HM0, by go_grown⟩
  case round =>
    clear HM0 hmm
    obtain ⟨k, D, hk, rfl, hP, hbw⟩ := hrel
    by_cases hlt : k < bs.length
    · have k0 : (0 : Int) ≤ (k : Int) := by omega
      have k1 : (k : Int) < (bs.length : Int) := by omega
      obtain ⟨b, off, A, c, rfl, hc, hnums⟩ := (unhide HBB) k hlt
      have hc := keep_below hbw hc
      have HN := hide hnums
      have hl12 := unhide HLENS k hlt
      have hpos : 0 < (bs.getD k []).length := List.length_pos_iff.2 (unhide HNE k hlt)
      have HNK := hide (fun j hj => unhide HNX k j hlt hj)
      have HFS := hide (flatTo_succ bs k hlt)
      have HP := hide hP
      have HBW := hide hbw
      clear hnums hP hbw HNX
      generalize bs.getD k [] = l at *
      have hl0 : ¬ ((l.length : Int) = 0) := by omega
      go_wp2
      go_loopw [41] (fun i wr => ∃ (j : Nat) (D : DataW Unit), j ≤ l.length ∧ i = .int .i64 j ∧ MpAt wr M (flatTo bs k ++ l.take j) (lev (clS S)) D ∧ Below w2.heap.size w2 wr) (fun i _ => l.length - (intOf i).toNat)
      case atStart => exact ⟨0, D, Nat.zero_le _, rfl, by simpa using unhide HP, unhide HBW⟩
      case round =>
        clear HP HBW hc
        obtain ⟨j, D, hj, rfl, hP, hbw⟩ := hrel
        by_cases hltj : j < l.length
        · have j0 : (0 : Int) ≤ (j : Int) := by omega
          have j1 : (j : Int) < (l.length : Int) := by omega
          obtain ⟨b2, off2, rfl, hc2⟩ := (unhide HN) j hltj
          have hc2 := keep_below hbw hc2
          obtain ⟨hnew, hxn, hxk⟩ := unhide HNK j hltj
          have HTK : Hid (flatTo bs k ++ l.take (j + 1) = (flatTo bs k ++ l.take j) ++ [l.getD j 0]) := by
            rw [List.take_succ_eq_append_getElem hltj, List.getD_eq_getElem?_getD, List.getElem?_eq_getElem hltj, List.append_assoc]; exact hide rfl
          have hdl : (flatTo bs k ++ l.take j).length ≤ 1000000 := by
            have := flatTo_len bs 12 (fun q hq => by have := unhide HLENS q hq; omega) k hk
            rw [List.length_append, List.length_take]; omega
          have HBW := hide hbw
          clear hbw HN HNK
          generalize l.getD j 0 = x at *
          generalize hdone : flatTo bs k ++ l.take j = done at *
          clear hdone
          obtain ⟨v, hlook⟩ := hP.look_ok x (by omega) hnew
          have x0 : ¬ ((x : Int) < 0) := by omega
          have x1 : ¬ ((n : Int) ≤ (x : Int)) := by omega
          have HP := hide hP
          have HNEW := hide hnew
          have HXK := hide hxk
          clear hP hnew hxk
          go_wp2_with (first
            | (at_mapUpdate; refine wpList_mapUpdate_own _ rfl _ _ _ 73 rfl 3 3 key3 Try.underlying73 _ M _ D rfl (unhide HP).own (by unfold maxLen; omega) _ _ _ rfl rfl (keyN x (by omega)) _ [] (plainElem_int Try.underlying3 (small_wf k (by omega))) ?_; intro w7 ho7 hg7; have HO7 := hide ho7; have HG7 := hide hg7; clear ho7 hg7; go_frame))
          have ho7 := unhide HO7
          rw [← unhide HXK] at ho7
          have hP7 := (unhide HP).put x (by omega) (unhide HNEW) ho7
          have hb7 := (unhide HBW).grown (unhide HG7) (unhide HBW).size (fun q hq => by cases hq; exact hMlo)
          have HP7 := hide hP7
          have HB7 := hide hb7
          clear ho7 hP7 hb7
          go_roundw
          case rel => exact ⟨j + 1, _, by omega, by go_num, by rw [unhide HTK]; exact unhide HP7, unhide HB7⟩
          case measure => simp [intOf]; omega
        · obtain rfl : j = l.length := by omega
          have hP' := hP
          rw [List.take_length, ← unhide HFS] at hP'
          have HP := hide hP'
          have HBW := hide hbw
          clear hP hP' hbw
          go_wp2
          go_roundw
          case rel => exact ⟨k + 1, D, by omega, by go_num, unhide HP, unhide HBW⟩
          case measure => simp [intOf]; omega
    · obtain rfl : k = bs.length := by omega
      have HDN : Hid (∀ i, i < n → i ∈ flatTo bs bs.length) := fun i hi => by
        rw [flatTo_all, (unhide HPERM).mem_iff]; exact List.mem_range.2 hi
      have hsz : Maps.size D = n := by
        rw [hP.size, flatTo_all, (unhide HPERM).length_eq, List.length_range]
      have hlen := fun ty => hP.own.len Try.underlying73 ty
      rw [hsz] at hlen
      generalize flatTo bs bs.length = done at *
      have HP := hide hP
      have HBW := hide hbw
      clear hP hbw hsz HPERM HNX HLENS HNE
      go_wp2
      clear hlen
      go_loopw [74] (fun i wr => ∃ k : Nat, k ≤ n ∧ i = .int .i64 k ∧ MpAt wr M done (lev (clS S)) D ∧ Below w2.heap.size w2 wr) (fun i _ => n - (intOf i).toNat)
      case atStart => exact ⟨0, Nat.zero_le _, rfl, unhide HP, unhide HBW⟩
      case round =>
        clear HP HBW
        obtain ⟨i, hi, rfl, hP, hbw⟩ := hrel
        by_cases hlti : i < n
        · have i0 : (0 : Int) ≤ (i : Int) := by omega
          have i1 : (i : Int) < (n : Int) := by omega
          have hlook := hP.look i (by omega) (unhide HDN i hlti)
          have HP := hide hP
          have HBW := hide hbw
          have HH0 : Hid (heldTo (clS S) i 0 = (lev (clS S) i == 0)) := by unfold heldTo; simp [Hid]
          clear hP hbw
          have HH1 : Hid (heldTo (clS S) i 0 = (((lev (clS S) i : Nat) : Int) == 0)) := by
            rw [unhide HH0]; show Hid _; unfold Hid; rw [Bool.eq_iff_iff]; simp
          go_wp2
          clear hlook
          go_loopw [13, 82] (fun h jv wr => ∃ j : Nat, j ≤ i ∧ jv = .int .i64 j ∧ h = .bool (heldTo (clS S) i j) ∧ MpAt wr M done (lev (clS S)) D ∧ Below w2.heap.size w2 wr) (fun _ jv _ => i - (intOf jv).toNat)
          case atStart => exact ⟨0, Nat.zero_le _, rfl, by rw [unhide HH1], unhide HP, unhide HBW⟩
          case round =>
            clear HP HBW HH0 HH1
            obtain ⟨j, hj, rfl, rfl, hP, hbw⟩ := hrel
            by_cases hltj : j < i
            · have hbwr := (unhide HB2).trans (hbw.mono (unhide HB2).size)
              have j0 : (0 : Int) ≤ (j : Int) := by omega
              have j1 : (j : Int) < (n : Int) := by omega
              have j2 : (j : Int) < (i : Int) := by omega
              obtain ⟨bL, offL, hLe, hsi⟩ := unhide HL i hlti
              obtain ⟨bL', offL', hLe', hsj⟩ := unhide HL j (by omega)
              have hsi := hsi.below hbwr
              have hsj := hsj.below hbwr
              subst hLe
              simp only [Option.some.injEq, Addr.mk.injEq, and_true] at hLe'
              obtain ⟨rfl, rfl⟩ := hLe'
              have hne : Nonempty (Sub wr) := ⟨⟨wr, Below.refl _ _⟩⟩
              have q0 := sub_cell hsi.c0
              have q1 := sub_cell hsi.c1
              have q2 := sub_cell hsi.c2
              have q3 := sub_cell hsi.c3
              have r0 := sub_cell hsj.c0
              have r1 := sub_cell hsj.c1
              have r2 := sub_cell hsj.c2
              have r3 := sub_cell hsj.c3
              have hC : ∀ x : Sub wr, Calls Try.prog 13 #[sysV (S i).m (S i).al (S i).no (S i).A (S i).len (S i).cap, sysV (S j).m (S j).al (S j).no (S j).A (S j).len (S j).cap] x.val fun e w' => e = .returned (.bool (cs (S i) (S j))) ∧ Below x.val.heap.size x.val w' := fun x =>
                clash_any (S i).m (S i).al (S i).no (S i).A (S i).len (S i).cap (S i).a (S j).m (S j).al (S j).no (S j).A (S j).len (S j).cap (S j).a x.val (unhide H8 i hlti) (unhide H8 j (by omega)) (hsi.acts.below x.bel) (hsj.acts.below x.bel)
              have ec : cs (S i) (S j) = clS S j i := cs_comm _ _
              rw [ec] at hC
              unfold sysV at hC
              have HC := hide hC
              have HLI := hide (fun (W : World) (h : MpAt W M done (lev (clS S)) D) => h.look i (by omega) (unhide HDN i hlti))
              have HLJ := hide (fun (W : World) (h : MpAt W M done (lev (clS S)) D) => h.look j (by omega) (unhide HDN j (by omega)))
              have HLT := hide (lev_lt (clS S) i j hltj)
              have HVI : Hid (lev (clS S) i < bs.length) := by rw [← unhide HBS]; exact (binv (clS S) n).lt i hlti
              have HS := hide (heldTo_succ (clS S) i j)
              have HP := hide hP
              have HBW := hide hbw
              clear hC ec hsi hsj hP hbw hbwr
              generalize clS S j i = cl at *
              generalize heldTo (clS S) i j = hd at *
              generalize S i = si at *
              generalize S j = sj at *
              obtain ⟨m, al, no, A, len, cap1, a⟩ := si
              obtain ⟨m', al', no', A', len', cap', a'⟩ := sj
              dsimp only at *
              go_wp2_with fail
              refine wp_region_sub (by kernel_rfl) (by kernel_rfl) ?_
              repeat (go_big_quiet_step ((first
                | (go_at_call 13; exact sub_bel (unhide HC _)))))
              refine wpQuiet_nil ?_
              rintro w6 ⟨xs, hxs⟩
              have hb6 := xs.bel
              rw [← hxs] at hb6
              have hP6 := (unhide HP).below hb6
              have hb6' := (unhide HBW).trans (hb6.mono (unhide HBW).size)
              have HP6 := hide hP6
              have HB6 := hide hb6'
              have li := unhide HLI _ hP6
              have lj := unhide HLJ _ hP6
              clear hxs xs hb6 hb6' hP6 q0 q1 q2 q3 r0 r1 r2 r3 hne HC HP HBW
              cases cl
              · clear li lj
                go_wp2_with fail
                go_roundw
                case rel => exact ⟨j + 1, by omega, by go_num, by rw [unhide HS]; simp, unhide HP6, unhide HB6⟩
                case measure => simp [intOf]; omega
              · have hlt := unhide HLT rfl
                have hvi : lev (clS S) i < bs.length := unhide HVI
                have hlt' : ¬ (((lev (clS S) i : Nat) : Int) ≤ ((lev (clS S) j : Nat) : Int)) := by omega
                have hlt2 : ((lev (clS S) i : Nat) : Int) ≤ 12 := by omega
                have HEQ := hide (held_eq (lev (clS S) i) (lev (clS S) j))
                cases hd
                · clear hlt
                  go_wp2_with fail
                  go_roundw
                  case rel => exact ⟨j + 1, by omega, by go_num, by rw [unhide HS, unhide HEQ]; simp, unhide HP6, unhide HB6⟩
                  case measure => simp [intOf]; omega
                · clear hlt
                  go_wp2_with fail
                  go_roundw
                  case rel => exact ⟨j + 1, by omega, by go_num, by rw [unhide HS]; simp, unhide HP6, unhide HB6⟩
                  case measure => simp [intOf]; omega
            · obtain rfl : j = i := by omega
              have HP := hide hP
              have HBW := hide hbw
              clear hP hbw
              have hall := heldTo_all (clS S) j
              rw [hall]
              clear hall
              go_wp2
              go_roundw
              case rel => exact ⟨j + 1, by omega, by go_num, unhide HP, unhide HBW⟩
              case measure => simp [intOf]; omega
        · obtain rfl : i = n := by omega
          have HBW := hide hbw
          clear hP hbw
          go_wp2
          go_ret
          exact ⟨rfl, (unhide HB2).trans ((unhide HBW).mono (unhide HB2).size)⟩
end Go.Proofs.Ytnbleebilmghcab
