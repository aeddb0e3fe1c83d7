/- The document's Needs: its walk. -/
import Derived.Test.YtnbleebilmghcabBRNeeds
set_option linter.unusedVariables false
set_option linter.unusedSimpArgs false
set_option linter.unnecessarySimpa false
namespace Go.Proofs.Ytnbleebilmghcab
open Go.RowKit
attribute [local go_sem ↓] Go.wp_at_zero Go.wp_at_succ

theorem part_nat {p : Int} (hp : partB p = true) : ∃ q : Nat, q < 8 ∧ p = (q : Int) := ⟨p.toNat, by have := of_decide_eq_true hp; omega, by have := of_decide_eq_true hp; omega⟩
theorem act_cases {k p f n al r : Int} {g : Nat → Bool} (hg : GR al g r) (h : waI k p f n r = 0) :
    (k = 1 ∧ ∃ q : Nat, q < 8 ∧ p = (q : Int)) ∨ (k = 2 ∧ ∃ q i : Nat, q < 8 ∧ i < 8 ∧ p = (q : Int) ∧ f = (i : Int)) ∨ (k = 3 ∧ ∃ q i : Nat, q < 8 ∧ i < 8 ∧ p = (q : Int) ∧ f = (i : Int) ∧ tb al q = true) ∨
    (k = 4 ∧ ∃ q : Nat, q < 8 ∧ p = (q : Int) ∧ tb al q = true) ∨ (k = 5 ∧ ∃ q : Nat, q < 8 ∧ p = (q : Int)) ∨ k = 6 ∨ (k = 7 ∧ setB p = true) := by
  obtain ⟨hr, h1, h7⟩ := wa_range k p f n r h
  have hin : inB (rdI k p f) r = true := by
    unfold waI at h
    rw [if_neg (by omega), if_neg (by simp [hr])] at h
    cases hh : inB (rdI k p f) r
    · rw [hh] at h; simp at h
    · rfl
  rcases (by omega : k = 1 ∨ k = 2 ∨ k = 3 ∨ k = 4 ∨ k = 5 ∨ k = 6 ∨ k = 7) with rfl | rfl | rfl | rfl | rfl | rfl | rfl
  · simp [rgB] at hr
    exact .inl ⟨rfl, part_nat hr.1⟩
  · simp [rgB] at hr
    obtain ⟨q, hq, e1⟩ := part_nat hr.1
    obtain ⟨i, hi, e2⟩ := part_nat hr.2
    exact .inr (.inl ⟨rfl, q, i, hq, hi, e1, e2⟩)
  · simp [rgB] at hr
    obtain ⟨q, hq, rfl⟩ := part_nat hr.1
    obtain ⟨i, hi, rfl⟩ := part_nat hr.2
    rw [rd3 r i q hg.sr hi hq, Bool.and_eq_true] at hin
    exact .inr (.inr (.inl ⟨rfl, q, i, hq, hi, rfl, rfl, read_all hg q hq hin.2⟩))
  · simp [rgB] at hr
    obtain ⟨q, hq, rfl⟩ := part_nat hr.1
    rw [rd4 f r q hg.sr hq] at hin
    exact .inr (.inr (.inr (.inl ⟨rfl, q, hq, rfl, read_all hg q hq hin⟩)))
  · simp [rgB] at hr
    exact .inr (.inr (.inr (.inr (.inl ⟨rfl, part_nat hr⟩))))
  · exact .inr (.inr (.inr (.inr (.inr (.inl rfl)))))
  · simp [rgB] at hr
    exact .inr (.inr (.inr (.inr (.inr (.inr ⟨rfl, hr.1⟩)))))

theorem has_of (al : Int) (q : Nat) (h : setB al = true) (hq : q < 8) : (bits .and .i64 al (bitI (q : Int)) != 0) = tb al q := by
  have h1 := of_decide_eq_true h
  exact has_tb al q h1.1 h1.2 hq
theorem mv_one (al : Int) (q : Nat) (h : setB al = true) (hq : q < 8) : mvB 1 (q : Int) al = !tb al q := by simp [mvB, has_of al q h hq]
theorem mv_two (al : Int) (q : Nat) (h : setB al = true) (hq : q < 8) : mvB 2 (q : Int) al = !tb al q := by simp [mvB, has_of al q h hq]
theorem wr_tb (k : Int) (q i : Nat) (hk : k = 1 ∨ k = 2 ∨ k = 3 ∨ k = 4 ∨ k = 5) (hq : q < 8) (hi : i < 8) : tb (wrI k (q : Int)) i = decide (q = i) := by
  unfold wrI
  rw [if_pos hk, or_left _ (bit_set _)]
  exact tb_bit q i hq hi
theorem rd_tb2 (p : Int) (i j : Nat) (hi : i < 8) (hj : j < 8) : tb (rdI 2 p (i : Int)) j = decide (i = j) := by
  have e : rdI 2 p (i : Int) = bitI (i : Int) := by simp [rdI, or_left _ (bit_set _)]
  rw [e]; exact tb_bit i j hi hj
theorem rd_tb3 (q i j : Nat) (hq : q < 8) (hi : i < 8) (hj : j < 8) : tb (rdI 3 (q : Int) (i : Int)) j = (decide (i = j) || decide (q = j)) := by
  have e : rdI 3 (q : Int) (i : Int) = bits .or .i64 (bitI (i : Int)) (bitI (q : Int)) := by simp [rdI, or_left _ (bit_set _)]
  rw [e, tb_or _ _ (bit_set _) (bit_set _) j hj, tb_bit i j hi hj, tb_bit q j hq hj]
theorem rd_tb4 (f : Int) (q j : Nat) (hq : q < 8) (hj : j < 8) : tb (rdI 4 (q : Int) f) j = decide (q = j) := by
  have e : rdI 4 (q : Int) f = bitI (q : Int) := by simp [rdI, or_left _ (bit_set _)]
  rw [e]; exact tb_bit q j hq hj
theorem rd_tb0 (k p f : Int) (j : Nat) (hk : ¬ (k = 2 ∨ k = 3 ∨ k = 4)) (hj : j < 8) : tb (rdI k p f) j = false := by
  have e : rdI k p f = 0 := by unfold rdI; rw [if_neg (by omega), if_neg (by omega), if_neg (by omega)]
  rw [e]; exact tb_zero j hj
theorem if_or (b : Bool) (i q : Nat) : (if i = q then true else b) = (b || decide (q = i)) := by
  by_cases h : i = q
  · subst h; simp
  · have h' : ¬ q = i := fun e => h e.symm
    simp [h, h']

theorem new_at {wr : World} {p : Addr} {v : Value} {C : Array Value} {t : TypeId} {i : Nat} {x : Value} (h : C[i]? = some x) : ((wr.setCell p v).alloc (.cells C t)).cell? ⟨wr.heap.size, i, none⟩ = some x := by
  have e : (wr.setCell p v).heap.size = wr.heap.size := by simp
  rw [← e, World.cell?_alloc_new]; exact h

theorem nr_fin {w W : World} {al : Int} {rB wB : Nat → Bool} {mv lf : Bool} {R' U' : Int} {M' L' : Bool} (h : NR w al rB wB mv lf W) (hr : ∀ q, q < 8 → tb R' q = rB q) (hu : ∀ q, q < 8 → tb U' q = wB q) (hm : M' = mv) (hl : L' = lf) :
    NR w al (fun q => tb R' q) (fun q => tb U' q) M' L' W := by
  subst hm hl
  exact h.congr hr hu

theorem bits_bel (n : Int) (w : World) (h : setB n = true) : Calls Try.prog 45 #[.int .i64 n] w fun e w' => e = .returned (.agg (arr n)) ∧ Below w.heap.size w w' := by
  have h1 := of_decide_eq_true h
  refine (bits_any n w h1.1 h1.2).mono ?_
  rintro e w1 ⟨rfl, rfl⟩
  exact ⟨rfl, by go_grown⟩

theorem num_of (R : Int) (w : World) (h : setB R = true) :
    Calls Try.prog 99 #[.agg #[.bool (tb R 0), .bool (tb R 1), .bool (tb R 2), .bool (tb R 3), .bool (tb R 4), .bool (tb R 5), .bool (tb R 6), .bool (tb R 7)]] w fun e w' => e = .returned (.int .i64 R) ∧ Below w.heap.size w w' := by
  have h1 := of_decide_eq_true h
  refine (num_any _ _ _ _ _ _ _ _ w).mono ?_
  rintro e w' ⟨rfl, rfl⟩
  obtain ⟨m, rfl⟩ := fin_of R h1.1 h1.2
  exact ⟨by rw [show numL [tb (m.val : Int) 0, tb (m.val : Int) 1, tb (m.val : Int) 2, tb (m.val : Int) 3, tb (m.val : Int) 4, tb (m.val : Int) 5, tb (m.val : Int) 6, tb (m.val : Int) 7] = (m.val : Int) from (num_fin m).1], by go_grown⟩

set_option maxRecDepth 8000 in
set_option maxHeartbeats 4000000 in
theorem rneeds_any (m al no : Int) (A : Option Addr) (len cap : Nat) (a : Nat → ActI) (w : World) (hal : setB al = true) (hl : len ≤ 8) (hok : okN al a len) (hA : ActsAt w A len a) :
    Calls Try.prog 76 #[sysV m al no A len cap] w fun e w' => e = .returned (needsV al a len) ∧ Below w.heap.size w w' := by
  have hW : NR w al (fun _ => false) (fun _ => false) false false _ := NR.start m no A len cap
  have HW := hide hW
  have HA := hide hA
  have HOK := hide hok
  clear hW hA hok
  unfold sysV
  unfold falses at HW
  go_enter Try.func76, Try.ntmps76
  go_wp2
  go_loopw [13] (fun i wr => ∃ j : Nat, j ≤ len ∧ i = .int .i64 j ∧ NR w al (fun q => tb (rdTo a j) q) (fun q => tb (wrTo a j) q) (mvTo al a j) (lfTo a j) wr) (fun i _ => len - (intOf i).toNat)
  case atStart => exact ⟨0, Nat.zero_le _, rfl, (unhide HW).congr (fun q hq => tb_zero q hq) (fun q hq => tb_zero q hq)⟩
  case round =>
    clear HW
    obtain ⟨j, hj, rfl, hN⟩ := hrel
    by_cases hlt : j < len
    · have j0 : (0 : Int) ≤ (j : Int) := by omega
      have j1 : (j : Int) < (len : Int) := by omega
      obtain ⟨b, off, rfl, q0, q1, q2, q3⟩ := unhide HA j hlt
      have q0 := keep_below hN.bel q0
      have q1 := keep_below hN.bel q1
      have q2 := keep_below hN.bel q2
      have q3 := keep_below hN.bel q3
      obtain ⟨g, hg⟩ := gr_ex al a hal j (fun i hi => unhide HOK i (by omega))
      have hca := act_cases hg (unhide HOK j hlt)
      have HRW := hide (fun q (hq : q < 8) => tb_or (rdTo a j) (rdI (a j).k (a j).p (a j).f) (rdTo_set a j) (rd_set _ _ _) q hq)
      have HUW := hide (fun q (hq : q < 8) => tb_or (wrTo a j) (wrI (a j).k (a j).p) (wrTo_set al a j (fun i hi => unhide HOK i (by omega))) (wr_set _ _ _ _ (wa_range _ _ _ _ _ (unhide HOK j hlt)).1) q hq)
      have HM : Hid (mvTo al a (j + 1) = (mvTo al a j || mvB (a j).k (a j).p al)) := rfl
      have HL : Hid (lfTo a (j + 1) = (lfTo a j || (decide ((a j).k = 6) || decide ((a j).k = 7)))) := rfl
      have HR : Hid (rdTo a (j + 1) = bits .or .i64 (rdTo a j) (rdI (a j).k (a j).p (a j).f)) := rfl
      have HU : Hid (wrTo a (j + 1) = bits .or .i64 (wrTo a j) (wrI (a j).k (a j).p)) := rfl
      have e1 := hN.e1
      have z4 : w.heap.size + 1 + 1 + 1 + 1 < wr.heap.size := World.block_lt_of_cell? wr _ hN.n0
      have z3 : w.heap.size + 1 + 1 + 1 < wr.heap.size := Nat.lt_of_succ_lt z4
      have z2 : w.heap.size + 1 + 1 < wr.heap.size := Nat.lt_of_succ_lt z3
      have z1 : w.heap.size + 1 < wr.heap.size := Nat.lt_of_succ_lt z2
      have z0 : w.heap.size < wr.heap.size := Nat.lt_of_succ_lt z1
      clear hg HOK HA
      generalize a j = y at *
      obtain ⟨k, p, f, n⟩ := y
      dsimp only at *
      generalize mvTo al a j = mj at *
      generalize lfTo a j = lj at *
      rcases hca with ⟨rfl, q, hq, rfl⟩ | ⟨rfl, q, i, hq, hi, rfl, rfl⟩ | ⟨rfl, q, i, hq, hi, rfl, rfl, htq⟩ | ⟨rfl, q, hq, rfl, htq⟩ | ⟨rfl, q, hq, rfl⟩ | rfl | ⟨rfl, hsp⟩
      · have qq0 : (0 : Int) ≤ (q : Int) := by omega
        have qq1 : (q : Int) < 8 := by omega
        have uq := hN.u q hq
        have fq := hN.fu q
        have HN := hide hN
        have HH := hide (fun W => rhas_at al q W hal hq)
        have HMV := hide (mv_one al q hal hq)
        clear hN
        generalize tb al q = tq at *
        cases tq
        all_goals
          go_wp2_with (first
            | (go_at_call 20; refine (unhide HH _).mono ?_; rintro e w5 ⟨rfl, hb5⟩; have hN5 := (((unhide HN).setU q true).below ((Below.refl _ _).alloc (Nat.le_refl _) _)).below hb5; have d0 : w5.cell? ⟨wr.heap.size, 0, none⟩ = some (.int .i64 1) := keep_below hb5 (new_at rfl); have n2 := hN5.n2; have f2 := hN5.fn 2; have hne9 : ¬ w.heap.size + 1 + 1 + 1 + 1 = wr.heap.size := Nat.ne_of_lt z4; clear hb5))
          go_roundw
          case rel =>
            refine ⟨j + 1, by omega, by go_num, ?_⟩
            first
            | exact nr_fin (hN5.setM true) (fun x hx => by rw [unhide HR, unhide HRW x hx, rd_tb0 _ _ _ x (by omega) hx, Bool.or_false]) (fun x hx => by rw [unhide HU, unhide HUW x hx, wr_tb _ q x (by omega) hq hx, if_or]) (by rw [unhide HM, unhide HMV]; simp) (by rw [unhide HL]; simp)
            | exact nr_fin hN5 (fun x hx => by rw [unhide HR, unhide HRW x hx, rd_tb0 _ _ _ x (by omega) hx, Bool.or_false]) (fun x hx => by rw [unhide HU, unhide HUW x hx, wr_tb _ q x (by omega) hq hx, if_or]) (by rw [unhide HM, unhide HMV]; simp) (by rw [unhide HL]; simp)
          case measure => simp [intOf]; omega
      · have qq0 : (0 : Int) ≤ (q : Int) := by omega
        have qq1 : (q : Int) < 8 := by omega
        have ii0 : (0 : Int) ≤ (i : Int) := by omega
        have ii1 : (i : Int) < 8 := by omega
        have uq := hN.u q hq
        have fq := hN.fu q
        have HN := hide hN
        have HH := hide (fun W => rhas_at al q W hal hq)
        have HMV := hide (mv_two al q hal hq)
        clear hN
        generalize tb al q = tq at *
        cases tq
        all_goals
          go_wp2_with (first
            | (go_at_call 20; refine (unhide HH _).mono ?_; rintro e w5 ⟨rfl, hb5⟩; have hN5 := (((unhide HN).setU q true).below ((Below.refl _ _).alloc (Nat.le_refl _) _)).below hb5; have d0 : w5.cell? ⟨wr.heap.size, 0, none⟩ = some (.int .i64 2) := keep_below hb5 (new_at rfl); have d2 : w5.cell? ⟨wr.heap.size, 2, none⟩ = some (.int .i64 (i : Int)) := keep_below hb5 (new_at rfl); have n2 := hN5.n2; have f2 := hN5.fn 2; have ri := hN5.r i hi; have fi := hN5.fr i; have hne9 : ¬ w.heap.size + 1 + 1 + 1 + 1 = wr.heap.size := Nat.ne_of_lt z4; have hne8 : ¬ w.heap.size + 1 + 1 = wr.heap.size := Nat.ne_of_lt z2; clear hb5))
          go_roundw
          case rel =>
            refine ⟨j + 1, by omega, by go_num, ?_⟩
            first
            | exact nr_fin ((hN5.setM true).setR i true) (fun x hx => by rw [unhide HR, unhide HRW x hx, rd_tb2 _ i x hi hx, if_or]) (fun x hx => by rw [unhide HU, unhide HUW x hx, wr_tb _ q x (by omega) hq hx, if_or]) (by rw [unhide HM, unhide HMV]; simp) (by rw [unhide HL]; simp)
            | exact nr_fin (hN5.setR i true) (fun x hx => by rw [unhide HR, unhide HRW x hx, rd_tb2 _ i x hi hx, if_or]) (fun x hx => by rw [unhide HU, unhide HUW x hx, wr_tb _ q x (by omega) hq hx, if_or]) (by rw [unhide HM, unhide HMV]; simp) (by rw [unhide HL]; simp)
          case measure => simp [intOf]; omega
      · have qq0 : (0 : Int) ≤ (q : Int) := by omega
        have qq1 : (q : Int) < 8 := by omega
        have ii0 : (0 : Int) ≤ (i : Int) := by omega
        have ii1 : (i : Int) < 8 := by omega
        have uq := hN.u q hq
        have fq := hN.fu q
        have HN := hide hN
        have hH := fun W => rhas_at al q W hal hq
        rw [htq] at hH
        have HH := hide hH
        clear hN hH htq
        by_cases hiq : i = q
        · subst hiq
          go_wp2_with (first
            | (go_at_call 20; refine (unhide HH _).mono ?_; rintro e w5 ⟨rfl, hb5⟩; have hN5 := (((unhide HN).setU i true).below ((Below.refl _ _).alloc (Nat.le_refl _) _)).below hb5; have d0 : w5.cell? ⟨wr.heap.size, 0, none⟩ = some (.int .i64 3) := keep_below hb5 (new_at rfl); have d1 : w5.cell? ⟨wr.heap.size, 1, none⟩ = some (.int .i64 (i : Int)) := keep_below hb5 (new_at rfl); have d2 : w5.cell? ⟨wr.heap.size, 2, none⟩ = some (.int .i64 (i : Int)) := keep_below hb5 (new_at rfl); have ri := hN5.r i hi; have fi := hN5.fr i; have hne8 : ¬ w.heap.size + 1 + 1 = wr.heap.size := Nat.ne_of_lt z2; clear hb5))
          go_roundw
          case rel =>
            refine ⟨j + 1, by omega, by go_num, ?_⟩
            exact nr_fin ((hN5.setR i true).setR i true) (fun x hx => by rw [unhide HR, unhide HRW x hx, rd_tb3 i i x hi hi hx]; simp only [if_or]; rw [Bool.or_assoc]) (fun x hx => by rw [unhide HU, unhide HUW x hx, wr_tb _ i x (by omega) hi hx, if_or]) (by rw [unhide HM]; simp [mvB]) (by rw [unhide HL]; simp)
          case measure => simp [intOf]; omega
        · have hqi : ¬ q = i := fun e => hiq e.symm
          go_wp2_with (first
            | (go_at_call 20; refine (unhide HH _).mono ?_; rintro e w5 ⟨rfl, hb5⟩; have hN5 := (((unhide HN).setU q true).below ((Below.refl _ _).alloc (Nat.le_refl _) _)).below hb5; have d0 : w5.cell? ⟨wr.heap.size, 0, none⟩ = some (.int .i64 3) := keep_below hb5 (new_at rfl); have d1 : w5.cell? ⟨wr.heap.size, 1, none⟩ = some (.int .i64 (q : Int)) := keep_below hb5 (new_at rfl); have d2 : w5.cell? ⟨wr.heap.size, 2, none⟩ = some (.int .i64 (i : Int)) := keep_below hb5 (new_at rfl); have ri := hN5.r i hi; have fi := hN5.fr i; have rq := hN5.r q hq; have gq := hN5.fr q; have hne8 : ¬ w.heap.size + 1 + 1 = wr.heap.size := Nat.ne_of_lt z2; clear hb5))
          go_roundw
          case rel =>
            refine ⟨j + 1, by omega, by go_num, ?_⟩
            exact nr_fin ((hN5.setR i true).setR q true) (fun x hx => by rw [unhide HR, unhide HRW x hx, rd_tb3 q i x hq hi hx]; simp only [if_or]; rw [Bool.or_assoc]) (fun x hx => by rw [unhide HU, unhide HUW x hx, wr_tb _ q x (by omega) hq hx, if_or]) (by rw [unhide HM]; simp [mvB]) (by rw [unhide HL]; simp)
          case measure => simp [intOf]; omega
      · have qq0 : (0 : Int) ≤ (q : Int) := by omega
        have qq1 : (q : Int) < 8 := by omega
        have uq := hN.u q hq
        have fq := hN.fu q
        have HN := hide hN
        have hH := fun W => rhas_at al q W hal hq
        rw [htq] at hH
        have HH := hide hH
        clear hN hH htq
        go_wp2_with (first
          | (go_at_call 20; refine (unhide HH _).mono ?_; rintro e w5 ⟨rfl, hb5⟩; have hN5 := (((unhide HN).setU q true).below ((Below.refl _ _).alloc (Nat.le_refl _) _)).below hb5; have d0 : w5.cell? ⟨wr.heap.size, 0, none⟩ = some (.int .i64 4) := keep_below hb5 (new_at rfl); have d1 : w5.cell? ⟨wr.heap.size, 1, none⟩ = some (.int .i64 (q : Int)) := keep_below hb5 (new_at rfl); have rq := hN5.r q hq; have gq := hN5.fr q; have hne8 : ¬ w.heap.size + 1 + 1 = wr.heap.size := Nat.ne_of_lt z2; clear hb5))
        go_roundw
        case rel =>
          refine ⟨j + 1, by omega, by go_num, ?_⟩
          exact nr_fin (hN5.setR q true) (fun x hx => by rw [unhide HR, unhide HRW x hx, rd_tb4 _ q x hq hx, if_or]) (fun x hx => by rw [unhide HU, unhide HUW x hx, wr_tb _ q x (by omega) hq hx, if_or]) (by rw [unhide HM]; simp [mvB]) (by rw [unhide HL]; simp)
        case measure => simp [intOf]; omega
      · have qq0 : (0 : Int) ≤ (q : Int) := by omega
        have qq1 : (q : Int) < 8 := by omega
        have uq := hN.u q hq
        have fq := hN.fu q
        have n2 := hN.n2
        have f2 := hN.fn 2
        have HN := hide hN
        clear hN
        go_wp2
        go_roundw
        case rel =>
          refine ⟨j + 1, by omega, by go_num, ?_⟩
          exact nr_fin ((((unhide HN).setU q true).setM true).below ((Below.refl _ _).alloc (Nat.le_refl _) _)) (fun x hx => by rw [unhide HR, unhide HRW x hx, rd_tb0 _ _ _ x (by omega) hx, Bool.or_false]) (fun x hx => by rw [unhide HU, unhide HUW x hx, wr_tb _ q x (by omega) hq hx, if_or]) (by rw [unhide HM]; simp [mvB]) (by rw [unhide HL]; simp)
        case measure => simp [intOf]; omega
      · have n3 := hN.n3
        have f3 := hN.fn 3
        have HN := hide hN
        clear hN
        go_wp2
        go_roundw
        case rel =>
          refine ⟨j + 1, by omega, by go_num, ?_⟩
          exact nr_fin (((unhide HN).setL true).below ((Below.refl _ _).alloc (Nat.le_refl _) _)) (fun x hx => by rw [unhide HR, unhide HRW x hx, rd_tb0 _ _ _ x (by omega) hx, Bool.or_false]) (fun x hx => by rw [unhide HU, unhide HUW x hx, show wrI 6 p = 0 by simp [wrI], tb_zero x hx, Bool.or_false]) (by rw [unhide HM]; simp [mvB]) (by rw [unhide HL]; simp)
        case measure => simp [intOf]; omega
      · have n3 := hN.n3
        have f3 := hN.fn 3
        have HN := hide hN
        have hps := of_decide_eq_true hsp
        clear hN
        have HBT := hide (fun W => bits_bel p W hsp)
        have hix := fun t W ht => run_ix p t W ht
        go_wp2_with (first | (go_at_call 45; refine (unhide HBT _).mono ?_; rintro e w5 ⟨rfl, hb5⟩))
        have hN5 := ((((unhide HN).setL true).below ((Below.refl _ _).alloc (Nat.le_refl _) _)).below hb5)
        clear hb5 HN n3 f3 e1 q0 q1 q2 q3 z0 z1 z2 z3 z4 HBT
        go_loopw [66] (fun i wq => ∃ t : Nat, t ≤ 8 ∧ i = .int .i64 t ∧ NR w al (fun q => tb (rdTo a j) q) (fun q => tb (wrTo a j) q || (decide (q < t) && tb p q)) mj true wq) (fun i _ => 8 - (intOf i).toNat)
        case atStart => exact ⟨0, by omega, rfl, hN5.congr (fun _ _ => rfl) (fun q _ => by simp)⟩
        case round =>
          obtain ⟨t, ht, rfl, hNq⟩ := hrel
          by_cases hlt8 : t < 8
          · have t0 : (0 : Int) ≤ (t : Int) := by omega
            have t1 : (t : Int) < 8 := by omega
            have ut := hNq.u t hlt8
            simp only [Nat.lt_irrefl, decide_false, Bool.false_and, Bool.or_false] at ut
            have fut := hNq.fu t
            have hixt := fun W => hix t W hlt8
            have HN := hide hNq
            clear hNq hix
            generalize hpt : tb p t = bp at *
            generalize hwt : tb (wrTo a j) t = bw at *
            have HP := hide hpt
            have HT := hide hwt
            clear hpt hwt
            cases bw
            all_goals
              go_wp2
              go_roundw
              case rel =>
                refine ⟨t + 1, by omega, by go_num, ?_⟩
                refine NR.congr ((unhide HN).setU t _) (fun _ _ => rfl) (fun q hq => ?_)
                by_cases e : q = t
                · subst e; rw [unhide HT, unhide HP]; simp
                · simp only [e, if_false]
                  have e2 : (q < t + 1) ↔ (q < t) := by omega
                  simp only [e2]
              case measure => simp [intOf]; omega
          · obtain rfl : t = 8 := by omega
            have HN := hide hNq
            clear hNq hix
            go_wp2
            go_roundw
            case rel =>
              refine ⟨j + 1, by omega, by go_num, ?_⟩
              exact nr_fin (unhide HN) (fun x hx => by rw [unhide HR, unhide HRW x hx, rd_tb0 _ _ _ x (by omega) hx, Bool.or_false]) (fun x hx => by rw [unhide HU, unhide HUW x hx, show wrI 7 p = p by simp [wrI]]; simp [hx]) (by rw [unhide HM]; simp [mvB]) (by rw [unhide HL]; simp)
            case measure => simp [intOf]; omega
    · obtain rfl : j = len := by omega
      have HN := hide hN
      clear hN HA
      go_wp2
      have hne : Nonempty (Sub wr) := ⟨⟨wr, Below.refl _ _⟩⟩
      have r0 := sub_cell ((unhide HN).r 0 (by omega))
      have u0 := sub_cell ((unhide HN).u 0 (by omega))
      have r1 := sub_cell ((unhide HN).r 1 (by omega))
      have u1 := sub_cell ((unhide HN).u 1 (by omega))
      have r2 := sub_cell ((unhide HN).r 2 (by omega))
      have u2 := sub_cell ((unhide HN).u 2 (by omega))
      have r3 := sub_cell ((unhide HN).r 3 (by omega))
      have u3 := sub_cell ((unhide HN).u 3 (by omega))
      have r4 := sub_cell ((unhide HN).r 4 (by omega))
      have u4 := sub_cell ((unhide HN).u 4 (by omega))
      have r5 := sub_cell ((unhide HN).r 5 (by omega))
      have u5 := sub_cell ((unhide HN).u 5 (by omega))
      have r6 := sub_cell ((unhide HN).r 6 (by omega))
      have u6 := sub_cell ((unhide HN).u 6 (by omega))
      have r7 := sub_cell ((unhide HN).r 7 (by omega))
      have u7 := sub_cell ((unhide HN).u 7 (by omega))
      have HR := hide (fun x : Sub wr => num_of (rdTo a j) x.val (rdTo_set a j))
      have HU := hide (fun x : Sub wr => num_of (wrTo a j) x.val (wrTo_set al a j (unhide HOK)))
      generalize hR : rdTo a j = R at *
      generalize hU : wrTo a j = U at *
      have HRE := hide hR
      have HUE := hide hU
      clear hR hU
      refine wp_region_tail 5 (by simp) (by kernel_rfl) (by kernel_rfl) (by kernel_rfl) (by kernel_rfl) (by kernel_rfl) (by kernel_rfl) ?_
      intro l r hl' hr'
      simp only [List.take_succ_cons, List.take_zero] at hl'
      simp only [List.drop_succ_cons, List.drop_zero] at hr'
      subst hl' hr'
      go_big_quiet_step (fail)
      go_big_quiet_step ((go_at_call 99; exact sub_bel (unhide HR _)))
      go_big_quiet_step (fail)
      go_big_quiet_step ((go_at_call 99; exact sub_bel (unhide HU _)))
      go_big_quiet_step (fail)
      refine wpQuiet_nil ?_
      rintro w6 ⟨xs, hxs⟩
      have hb6 := xs.bel
      rw [← hxs] at hb6
      have hN6 := (unhide HN).below hb6
      clear hxs xs hb6 r0 r1 r2 r3 r4 r5 r6 r7 u0 u1 u2 u3 u4 u5 u6 u7 hne HN HR HU
      have n0 := hN6.n0
      have n1 := hN6.n1
      have n2 := hN6.n2
      have n3 := hN6.n3
      have f0 := hN6.fn 0
      have f1 := hN6.fn 1
      have t0 := (hN6.t 0 (by omega)).1
      have t1 := (hN6.t 1 (by omega)).1
      have t2 := (hN6.t 2 (by omega)).1
      have t3 := (hN6.t 3 (by omega)).1
      have g0 := (hN6.t 0 (by omega)).2
      have g1 := (hN6.t 1 (by omega)).2
      have g2 := (hN6.t 2 (by omega)).2
      have g3 := (hN6.t 3 (by omega)).2
      simp only [Nat.zero_add] at t0 t1 t2 t3 g0 g1 g2 g3
      obtain ⟨y0, t0⟩ := Option.isSome_iff_exists.1 t0
      obtain ⟨y1, t1⟩ := Option.isSome_iff_exists.1 t1
      obtain ⟨y2, t2⟩ := Option.isSome_iff_exists.1 t2
      obtain ⟨y3, t3⟩ := Option.isSome_iff_exists.1 t3
      have HB := hide hN6.bel
      clear hN6
      go_wp2_with fail
      refine bodyPost_ret (v := .agg #[.int .i64 R, .int .i64 U, .bool (mvTo al a j), .bool (lfTo a j)]) (by simp [results, Try.results76, go_sem, t0, t1, t2, t3]) rfl ⟨by unfold needsV; rw [unhide HRE, unhide HUE], ?_⟩
      exact below_setCells (w.heap.size + 1) (by omega) [.int .i64 R, .int .i64 U, .bool (mvTo al a j), .bool (lfTo a j)] 0 _ (below_setCells (w.heap.size + 1 + 1 + 1 + 1) (by omega) [.int .i64 R, .int .i64 U] 0 w6 (unhide HB))
end Go.Proofs.Ytnbleebilmghcab
