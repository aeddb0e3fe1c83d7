/- The document's SameStore of two stores that are the same. -/
import Derived.Test.YtnbleebilmghcabQX
set_option linter.all false
namespace Go.Proofs.Ytnbleebilmghcab
open Go Go.RowKit
attribute [local go_sem ↓] Go.wp_at_zero Go.wp_at_succ
set_option maxRecDepth 8000 in
set_option maxHeartbeats 8000000 in
theorem samest_true (T : Option Addr) (tc : Nat) (G : Option Addr) (gc : Nat) (T' : Option Addr) (tc' : Nat) (G' : Option Addr) (gc' : Nat) (tabs : List TabI) (gens : List Int) (w : World) (hl : tabs.length ≤ 1000) (hgl : gens.length ≤ 1000) (hf : ∀ t ∈ tabs, t.rows.length ≤ 1000) (hT : TabsAt w T tabs) (hG : IntsL w G gens) (hT' : TabsAt w T' tabs) (hG' : IntsL w G' gens) :
    Calls Try.prog 23 #[stV T tabs.length tc G gens.length gc, stV T' tabs.length tc' G' gens.length gc'] w fun e w' => e = .returned (.bool true) ∧ Below w.heap.size w w' := by
  have hB0 := Bxs.start w [([.slice T tabs.length tc, .slice G gens.length gc], 43), ([.slice T' tabs.length tc', .slice G' gens.length gc'], 43)]
  have hb0 := allocs_below [([.slice T tabs.length tc, .slice G gens.length gc], 43), ([.slice T' tabs.length tc', .slice G' gens.length gc'], 43)] w
  obtain ⟨W0, hW0⟩ : ∃ W0, W0 = allocs w [([.slice T tabs.length tc, .slice G gens.length gc], 43), ([.slice T' tabs.length tc', .slice G' gens.length gc'], 43)] := ⟨_, rfl⟩
  rw [← hW0] at hB0 hb0
  have hW0' : (w.alloc (.cells #[.slice T tabs.length tc, .slice G gens.length gc] 43)).alloc (.cells #[.slice T' tabs.length tc', .slice G' gens.length gc'] 43) = W0 := hW0.symm
  have s0 := hB0.cell 0 rfl 0 rfl
  have s1 := hB0.cell 0 rfl 1 rfl
  have s2 := hB0.cell 1 rfl 0 rfl
  have s3 := hB0.cell 1 rfl 1 rfl
  rw [Nat.add_zero] at s0 s1
  have HB0 := hide hB0
  have HL0 := hide hb0
  have HW0 := hide hW0'
  have HG := hide (hG.below hb0)
  have HG' := hide (hG'.below hb0)
  have HT := hide (hT.below hb0)
  have HT' := hide (hT'.below hb0)
  have HF := hide hf
  clear hW0 hW0' hB0 hb0 hG hG' hT hT' hf
  unfold stV
  go_enter Try.func23, Try.ntmps23
  go_upto_region 1 with fail
  rw [unhide HW0]
  go_wp2_with fail
  clear s0 s1 s2 s3
  go_loopw [30] (fun x wr => ∃ j : Nat, j ≤ gens.length ∧ x = .int .i64 (j : Int) ∧ Below W0.heap.size W0 wr) (fun x _ => gens.length - (intOf x).toNat)
  case atStart => exact ⟨0, Nat.zero_le _, rfl, Below.refl _ _⟩
  case round =>
    obtain ⟨j, hj, rfl, hbr⟩ := hrel
    have hB := (unhide HB0).below hbr
    by_cases hlt : j < gens.length
    · have j0 : (0 : Int) ≤ (j : Int) := by omega
      have j1 : (j : Int) < (gens.length : Int) := by omega
      obtain ⟨gb, go, hGe, x0⟩ := (unhide HG).below hbr j hlt
      obtain ⟨gb', go', hGe', x1⟩ := (unhide HG').below hbr j hlt
      dsimp only at x0 x1
      generalize gens.getD j 0 = x at *
      have s1 := hB.cell 0 rfl 1 rfl
      have s3 := hB.cell 1 rfl 1 rfl
      rw [Nat.add_zero] at s1
      have HBR := hide hbr
      clear hB hbr HG HG' HT HT' HB0
      subst hGe hGe'
      go_wp2_with fail
      have h0 : Below wr.heap.size wr wr.drew := (Below.refl _ _).drew
      refine wp_region_gho (fun (γ : Unit) ix v => (([fun v => v = .pointer (some ⟨w.heap.size, 1, none⟩), fun v => v = .slice (some ⟨gb, go, none⟩) gens.length gc, fun v => v = .int .i64 (j : Int), fun v => v = .pointer (some ⟨gb, go + j, none⟩), fun v => v = .int .i64 x, fun v => v = .pointer (some ⟨w.heap.size + 1, 1, none⟩), fun v => v = .slice (some ⟨gb', go', none⟩) gens.length gc', fun v => v = .int .i64 (j : Int), fun v => v = .pointer (some ⟨gb', go' + j, none⟩), fun v => v = .int .i64 x, fun v => v = .bool false] : List (Value → Prop)).getD ix (fun _ => True)) v) (fun (_ : Unit) (_ : Nat → Bool) W => Below wr.heap.size wr W) (()) (by kernel_rfl) (by kernel_rfl) (by kernel_rfl) h0 ?hstep ?hend
      case hstep =>
        intro γ ix o ho L ac w1 hD hL hed hcl hout hv
        match ix, ho with
        | 0, ho =>
          simp at ho
          subst ho
          have e2 : ac.tmps.getD 2 undef = .pointer (some ⟨w.heap.size, 0, none⟩) := hout 2 (by decide +kernel)
          exact .inl ⟨rfl, gho_reads γ (.pointer (some ⟨w.heap.size, 1, none⟩)) (by simp [go_sem, Act.eval, -Array.getD_eq_getD_getElem?, e2]) rfl (hD) (fun _ _ _ _ h => h)⟩
        | 1, ho =>
          simp at ho
          subst ho
          have e33 : ac.tmps.getD 33 undef = .pointer (some ⟨w.heap.size, 1, none⟩) := hv 0 33 rfl (by kernel_rfl)
          have d0 := keep_below hD s1
          exact .inl ⟨rfl, gho_reads γ (.slice (some ⟨gb, go, none⟩) gens.length gc) (by simp [go_sem, Act.eval, -Array.getD_eq_getD_getElem?, e33, d0]) rfl (hD) (fun _ _ _ _ h => h)⟩
        | 2, ho =>
          simp at ho
          subst ho
          have e5 : ac.tmps.getD 5 undef = .int .i64 (j : Int) := hout 5 (by decide +kernel)
          exact .inl ⟨rfl, gho_reads γ (.int .i64 (j : Int)) (by simp [go_sem, Act.eval, -Array.getD_eq_getD_getElem?, e5]) rfl (hD) (fun _ _ _ _ h => h)⟩
        | 3, ho =>
          simp at ho
          subst ho
          have e34 : ac.tmps.getD 34 undef = .slice (some ⟨gb, go, none⟩) gens.length gc := hv 1 34 rfl (by kernel_rfl)
          have e35 : ac.tmps.getD 35 undef = .int .i64 (j : Int) := hv 2 35 rfl (by kernel_rfl)
          exact .inl ⟨rfl, gho_reads γ (.pointer (some ⟨gb, go + j, none⟩)) (by simp [go_sem, Act.eval, -Array.getD_eq_getD_getElem?, e34, e35, j0, j1]) rfl (hD) (fun _ _ _ _ h => h)⟩
        | 4, ho =>
          simp at ho
          subst ho
          have e36 : ac.tmps.getD 36 undef = .pointer (some ⟨gb, go + j, none⟩) := hv 3 36 rfl (by kernel_rfl)
          have d0 := keep_below hD x0
          exact .inl ⟨rfl, gho_reads γ (.int .i64 x) (by simp [go_sem, Act.eval, -Array.getD_eq_getD_getElem?, e36, d0]) rfl (hD) (fun _ _ _ _ h => h)⟩
        | 5, ho =>
          simp at ho
          subst ho
          have e3 : ac.tmps.getD 3 undef = .pointer (some ⟨w.heap.size + 1, 0, none⟩) := hout 3 (by decide +kernel)
          exact .inl ⟨rfl, gho_reads γ (.pointer (some ⟨w.heap.size + 1, 1, none⟩)) (by simp [go_sem, Act.eval, -Array.getD_eq_getD_getElem?, e3]) rfl (hD) (fun _ _ _ _ h => h)⟩
        | 6, ho =>
          simp at ho
          subst ho
          have e38 : ac.tmps.getD 38 undef = .pointer (some ⟨w.heap.size + 1, 1, none⟩) := hv 5 38 rfl (by kernel_rfl)
          have d0 := keep_below hD s3
          exact .inl ⟨rfl, gho_reads γ (.slice (some ⟨gb', go', none⟩) gens.length gc') (by simp [go_sem, Act.eval, -Array.getD_eq_getD_getElem?, e38, d0]) rfl (hD) (fun _ _ _ _ h => h)⟩
        | 7, ho =>
          simp at ho
          subst ho
          have e5 : ac.tmps.getD 5 undef = .int .i64 (j : Int) := hout 5 (by decide +kernel)
          exact .inl ⟨rfl, gho_reads γ (.int .i64 (j : Int)) (by simp [go_sem, Act.eval, -Array.getD_eq_getD_getElem?, e5]) rfl (hD) (fun _ _ _ _ h => h)⟩
        | 8, ho =>
          simp at ho
          subst ho
          have e39 : ac.tmps.getD 39 undef = .slice (some ⟨gb', go', none⟩) gens.length gc' := hv 6 39 rfl (by kernel_rfl)
          have e40 : ac.tmps.getD 40 undef = .int .i64 (j : Int) := hv 7 40 rfl (by kernel_rfl)
          exact .inl ⟨rfl, gho_reads γ (.pointer (some ⟨gb', go' + j, none⟩)) (by simp [go_sem, Act.eval, -Array.getD_eq_getD_getElem?, e39, e40, j0, j1]) rfl (hD) (fun _ _ _ _ h => h)⟩
        | 9, ho =>
          simp at ho
          subst ho
          have e41 : ac.tmps.getD 41 undef = .pointer (some ⟨gb', go' + j, none⟩) := hv 8 41 rfl (by kernel_rfl)
          have d0 := keep_below hD x1
          exact .inl ⟨rfl, gho_reads γ (.int .i64 x) (by simp [go_sem, Act.eval, -Array.getD_eq_getD_getElem?, e41, d0]) rfl (hD) (fun _ _ _ _ h => h)⟩
        | 10, ho =>
          simp at ho
          subst ho
          have e37 : ac.tmps.getD 37 undef = .int .i64 x := hv 4 37 rfl (by kernel_rfl)
          have e42 : ac.tmps.getD 42 undef = .int .i64 x := hv 9 42 rfl (by kernel_rfl)
          exact .inl ⟨rfl, gho_reads γ (.bool false) (by simp [go_sem, Act.eval, -Array.getD_eq_getD_getElem?, e37, e42]) rfl (hD) (fun _ _ _ _ h => h)⟩
        | ix + 11, ho => simp at ho
      case hend =>
        intro γ v L w9 hD hall hv
        have vv : v 10 = .bool false := hv 10 43 rfl
        have HD := hide hD
        clear hv hall hD h0
        simp only [putOps, List.getElem?_cons_zero, List.getElem?_cons_succ, Option.bind_some, List.length_cons, List.length_nil, Nat.reduceAdd, vv]
        clear vv
        go_frame
        go_wp2
        go_roundw
        case rel => exact ⟨j + 1, by omega, by go_num, (unhide HBR).trans ((unhide HD).mono (unhide HBR).size)⟩
        case measure => simp [intOf]; omega
    · obtain rfl : j = gens.length := by omega
      have s0 := hB.cell 0 rfl 0 rfl
      rw [Nat.add_zero] at s0
      have HBR := hide hbr
      clear hB hbr
      go_wp2_with fail
      clear s0
      obtain ⟨wb, hwb⟩ : ∃ wb, wb = wr := ⟨_, rfl⟩
      rw [← hwb] at HBR ⊢
      clear hwb
      go_loopw [48] (fun x wr => ∃ i : Nat, i ≤ tabs.length ∧ x = .int .i64 (i : Int) ∧ Below W0.heap.size W0 wr) (fun x _ => tabs.length - (intOf x).toNat)
      case atStart => exact ⟨0, Nat.zero_le _, rfl, unhide HBR⟩
      case round =>
        clear HBR
        obtain ⟨i, hi, rfl, hbr⟩ := hrel
        have hB := (unhide HB0).below hbr
        by_cases hlt : i < tabs.length
        · have i0 : (0 : Int) ≤ (i : Int) := by omega
          have i1 : (i : Int) < (tabs.length : Int) := by omega
          obtain ⟨tb, tf, hTe, Aa, ca, C, cc, hta⟩ := (unhide HT).below hbr i hlt
          obtain ⟨tb', tf', hTe', Ab, cb, C', cc', hta'⟩ := (unhide HT').below hbr i hlt
          have htf := (unhide HF) _ (List.getElem_mem hlt)
          generalize tabs[i] = t at *
          have ml := lst_len t.has 8
          have a0 := hta.c0
          have a1 := hta.c1
          have a2 := hta.c2
          have b0 := hta'.c0
          have b1 := hta'.c1
          have b2 := hta'.c2
          have s2 := hB.cell 1 rfl 0 rfl
          have hbs := hta.bs
          have hbs' := hta'.bs
          have hco := hta.cols
          have hco' := hta'.cols
          obtain ⟨wt, rfl⟩ : ∃ wt, wt = wr := ⟨_, rfl⟩
          have hX := Bxs.start wt [([.int .i64 t.has, .slice Aa t.rows.length ca, .slice C (lstTo t.has 8).length cc], 98), ([.int .i64 t.has, .slice Ab t.rows.length cb, .slice C' (lstTo t.has 8).length cc'], 98)]
          have hbx := allocs_below [([.int .i64 t.has, .slice Aa t.rows.length ca, .slice C (lstTo t.has 8).length cc], 98), ([.int .i64 t.has, .slice Ab t.rows.length cb, .slice C' (lstTo t.has 8).length cc'], 98)] wt
          obtain ⟨W4, hW4⟩ : ∃ W4, W4 = allocs wt [([.int .i64 t.has, .slice Aa t.rows.length ca, .slice C (lstTo t.has 8).length cc], 98), ([.int .i64 t.has, .slice Ab t.rows.length cb, .slice C' (lstTo t.has 8).length cc'], 98)] := ⟨_, rfl⟩
          rw [← hW4] at hX hbx
          have hW4' : (wt.alloc (.cells #[.int .i64 t.has, .slice Aa t.rows.length ca, .slice C (lstTo t.has 8).length cc] 98)).alloc (.cells #[.int .i64 t.has, .slice Ab t.rows.length cb, .slice C' (lstTo t.has 8).length cc'] 98) = W4 := hW4.symm
          have HW4 := hide hW4'
          have HSB := hide (samebs_true Aa ca Ab cb (bsV t) W4 (by rw [bsV_len]; omega) (hbs.below hbx) (hbs'.below hbx))
          rw [bsV_len] at HSB
          have HX4 := hide hX
          have HCO := hide (hco.below hbx)
          have HCO' := hide (hco'.below hbx)
          have HL4 := hide (hbr.trans (hbx.mono hbr.size))
          have lb : W0.heap.size ≤ wt.heap.size := hbr.size
          have y0 := hX.cell 0 rfl 0 rfl
          have y1 := hX.cell 0 rfl 1 rfl
          have y2 := hX.cell 0 rfl 2 rfl
          have z0 := hX.cell 1 rfl 0 rfl
          have z1 := hX.cell 1 rfl 1 rfl
          have z2 := hX.cell 1 rfl 2 rfl
          rw [Nat.add_zero] at y0 y1 y2
          have l2 := World.block_lt_of_cell? wt _ s2
          have lb0 := World.block_lt_of_cell? wt _ b0
          clear hta hta' hbs hbs' hco hco' hbx hW4 hW4' hX hbr hB
          subst hTe hTe'
          go_upto_region 13 with fail
          rw [unhide HW4]
          clear a0 a1 a2 b0 b1 b2 s2 l2 lb0
          go_wp2_with ((go_at_call 48; refine (unhide HSB).mono ?_; rintro e w5 ⟨rfl, hb5⟩; have h5 := (unhide HX4).below hb5; have HL5 := hide ((unhide HL4).trans (hb5.mono (unhide HL4).size)); have HC5 := hide ((unhide HCO).below hb5); have HC5' := hide ((unhide HCO').below hb5); clear y0 y1 y2 z0 z1 z2; have y2 := h5.cell 0 rfl 2 rfl; have z2 := h5.cell 1 rfl 2 rfl; rw [Nat.add_zero] at y2; have HX5 := hide h5; clear hb5 h5 HSB HX4 HCO HCO' HL4))
          clear y2 z2
          go_loopw [83] (fun x wr => ∃ k : Nat, k ≤ (lstTo t.has 8).length ∧ x = .int .i64 (k : Int) ∧ Below w5.heap.size w5 wr) (fun x _ => (lstTo t.has 8).length - (intOf x).toNat)
          case atStart => exact ⟨0, Nat.zero_le _, rfl, Below.refl _ _⟩
          case round =>
            obtain ⟨k, hk, rfl, hbr⟩ := hrel
            by_cases hlk : k < (lstTo t.has 8).length
            · have k0 : (0 : Int) ≤ (k : Int) := by omega
              have k1 : (k : Int) < ((lstTo t.has 8).length : Int) := by omega
              have h6 := (unhide HX5).below hbr
              have y2 := h6.cell 0 rfl 2 rfl
              have z2 := h6.cell 1 rfl 2 rfl
              rw [Nat.add_zero] at y2
              obtain ⟨kb, ko, hCe, K, kc, k2, hI⟩ := (unhide HC5).below hbr k hlk
              obtain ⟨kb', ko', hCe', K', kc', k2', hI'⟩ := (unhide HC5').below hbr k hlk
              have HI := hide hI
              have HI' := hide hI'
              have HBR := hide hbr
              clear h6 hbr hI hI'
              subst hCe hCe'
              go_wp2_with fail
              have h0 : Below wr.heap.size wr wr.drew := (Below.refl _ _).drew
              refine wp_region_gho (fun (γ : Unit) ix v => (([fun v => v = .pointer (some ⟨wt.heap.size, 2, none⟩), fun v => v = .slice (some ⟨kb, ko, none⟩) (lstTo t.has 8).length cc, fun v => v = .int .i64 (k : Int), fun v => v = .pointer (some ⟨kb, ko + k, none⟩), fun v => v = .slice K t.rows.length kc, fun v => v = .int .i64 (t.rows.length : Int), fun v => v = .pointer (some ⟨wt.heap.size + 1, 2, none⟩), fun v => v = .slice (some ⟨kb', ko', none⟩) (lstTo t.has 8).length cc', fun v => v = .int .i64 (k : Int), fun v => v = .pointer (some ⟨kb', ko' + k, none⟩), fun v => v = .slice K' t.rows.length kc', fun v => v = .int .i64 (t.rows.length : Int), fun v => v = .bool false] : List (Value → Prop)).getD ix (fun _ => True)) v) (fun (_ : Unit) (_ : Nat → Bool) W => Below wr.heap.size wr W) (()) (by kernel_rfl) (by kernel_rfl) (by kernel_rfl) h0 ?hstep ?hend
              case hstep =>
                intro γ ix o ho L ac w1 hD hL hed hcl hout hv
                match ix, ho with
                | 0, ho =>
                  simp at ho
                  subst ho
                  have e7 : ac.tmps.getD 7 undef = .pointer (some ⟨wt.heap.size, 0, none⟩) := hout 7 (by decide +kernel)
                  exact .inl ⟨rfl, gho_reads γ (.pointer (some ⟨wt.heap.size, 2, none⟩)) (by simp [go_sem, Act.eval, -Array.getD_eq_getD_getElem?, e7]) rfl (hD) (fun _ _ _ _ h => h)⟩
                | 1, ho =>
                  simp at ho
                  subst ho
                  have e86 : ac.tmps.getD 86 undef = .pointer (some ⟨wt.heap.size, 2, none⟩) := hv 0 86 rfl (by kernel_rfl)
                  have d0 := keep_below hD y2
                  exact .inl ⟨rfl, gho_reads γ (.slice (some ⟨kb, ko, none⟩) (lstTo t.has 8).length cc) (by simp [go_sem, Act.eval, -Array.getD_eq_getD_getElem?, e86, d0]) rfl (hD) (fun _ _ _ _ h => h)⟩
                | 2, ho =>
                  simp at ho
                  subst ho
                  have e9 : ac.tmps.getD 9 undef = .int .i64 (k : Int) := hout 9 (by decide +kernel)
                  exact .inl ⟨rfl, gho_reads γ (.int .i64 (k : Int)) (by simp [go_sem, Act.eval, -Array.getD_eq_getD_getElem?, e9]) rfl (hD) (fun _ _ _ _ h => h)⟩
                | 3, ho =>
                  simp at ho
                  subst ho
                  have e87 : ac.tmps.getD 87 undef = .slice (some ⟨kb, ko, none⟩) (lstTo t.has 8).length cc := hv 1 87 rfl (by kernel_rfl)
                  have e88 : ac.tmps.getD 88 undef = .int .i64 (k : Int) := hv 2 88 rfl (by kernel_rfl)
                  exact .inl ⟨rfl, gho_reads γ (.pointer (some ⟨kb, ko + k, none⟩)) (by simp [go_sem, Act.eval, -Array.getD_eq_getD_getElem?, e87, e88, k0, k1]) rfl (hD) (fun _ _ _ _ h => h)⟩
                | 4, ho =>
                  simp at ho
                  subst ho
                  have e89 : ac.tmps.getD 89 undef = .pointer (some ⟨kb, ko + k, none⟩) := hv 3 89 rfl (by kernel_rfl)
                  have d0 := keep_below hD k2
                  exact .inl ⟨rfl, gho_reads γ (.slice K t.rows.length kc) (by simp [go_sem, Act.eval, -Array.getD_eq_getD_getElem?, e89, d0]) rfl (hD) (fun _ _ _ _ h => h)⟩
                | 5, ho =>
                  simp at ho
                  subst ho
                  have e90 : ac.tmps.getD 90 undef = .slice K t.rows.length kc := hv 4 90 rfl (by kernel_rfl)
                  exact .inl ⟨rfl, gho_reads γ (.int .i64 (t.rows.length : Int)) (by simp [go_sem, Act.eval, -Array.getD_eq_getD_getElem?, e90]) rfl (hD) (fun _ _ _ _ h => h)⟩
                | 6, ho =>
                  simp at ho
                  subst ho
                  have e8 : ac.tmps.getD 8 undef = .pointer (some ⟨wt.heap.size + 1, 0, none⟩) := hout 8 (by decide +kernel)
                  exact .inl ⟨rfl, gho_reads γ (.pointer (some ⟨wt.heap.size + 1, 2, none⟩)) (by simp [go_sem, Act.eval, -Array.getD_eq_getD_getElem?, e8]) rfl (hD) (fun _ _ _ _ h => h)⟩
                | 7, ho =>
                  simp at ho
                  subst ho
                  have e92 : ac.tmps.getD 92 undef = .pointer (some ⟨wt.heap.size + 1, 2, none⟩) := hv 6 92 rfl (by kernel_rfl)
                  have d0 := keep_below hD z2
                  exact .inl ⟨rfl, gho_reads γ (.slice (some ⟨kb', ko', none⟩) (lstTo t.has 8).length cc') (by simp [go_sem, Act.eval, -Array.getD_eq_getD_getElem?, e92, d0]) rfl (hD) (fun _ _ _ _ h => h)⟩
                | 8, ho =>
                  simp at ho
                  subst ho
                  have e9 : ac.tmps.getD 9 undef = .int .i64 (k : Int) := hout 9 (by decide +kernel)
                  exact .inl ⟨rfl, gho_reads γ (.int .i64 (k : Int)) (by simp [go_sem, Act.eval, -Array.getD_eq_getD_getElem?, e9]) rfl (hD) (fun _ _ _ _ h => h)⟩
                | 9, ho =>
                  simp at ho
                  subst ho
                  have e93 : ac.tmps.getD 93 undef = .slice (some ⟨kb', ko', none⟩) (lstTo t.has 8).length cc' := hv 7 93 rfl (by kernel_rfl)
                  have e94 : ac.tmps.getD 94 undef = .int .i64 (k : Int) := hv 8 94 rfl (by kernel_rfl)
                  exact .inl ⟨rfl, gho_reads γ (.pointer (some ⟨kb', ko' + k, none⟩)) (by simp [go_sem, Act.eval, -Array.getD_eq_getD_getElem?, e93, e94, k0, k1]) rfl (hD) (fun _ _ _ _ h => h)⟩
                | 10, ho =>
                  simp at ho
                  subst ho
                  have e95 : ac.tmps.getD 95 undef = .pointer (some ⟨kb', ko' + k, none⟩) := hv 9 95 rfl (by kernel_rfl)
                  have d0 := keep_below hD k2'
                  exact .inl ⟨rfl, gho_reads γ (.slice K' t.rows.length kc') (by simp [go_sem, Act.eval, -Array.getD_eq_getD_getElem?, e95, d0]) rfl (hD) (fun _ _ _ _ h => h)⟩
                | 11, ho =>
                  simp at ho
                  subst ho
                  have e96 : ac.tmps.getD 96 undef = .slice K' t.rows.length kc' := hv 10 96 rfl (by kernel_rfl)
                  exact .inl ⟨rfl, gho_reads γ (.int .i64 (t.rows.length : Int)) (by simp [go_sem, Act.eval, -Array.getD_eq_getD_getElem?, e96]) rfl (hD) (fun _ _ _ _ h => h)⟩
                | 12, ho =>
                  simp at ho
                  subst ho
                  have e91 : ac.tmps.getD 91 undef = .int .i64 (t.rows.length : Int) := hv 5 91 rfl (by kernel_rfl)
                  have e97 : ac.tmps.getD 97 undef = .int .i64 (t.rows.length : Int) := hv 11 97 rfl (by kernel_rfl)
                  exact .inl ⟨rfl, gho_reads γ (.bool false) (by simp [go_sem, Act.eval, -Array.getD_eq_getD_getElem?, e91, e97]) rfl (hD) (fun _ _ _ _ h => h)⟩
                | ix + 13, ho => simp at ho
              case hend =>
                intro γ v L w9 hD hall hv
                have vv : v 12 = .bool false := hv 12 98 rfl
                have HD := hide hD
                clear hv hall hD h0
                simp only [putOps, List.getElem?_cons_zero, List.getElem?_cons_succ, Option.bind_some, List.length_cons, List.length_nil, Nat.reduceAdd, vv]
                clear vv
                go_frame
                have hbd := unhide HD
                have y2 := keep_below hbd y2
                have z2 := keep_below hbd z2
                have k2 := keep_below hbd k2
                have k2' := keep_below hbd k2'
                obtain ⟨wk, rfl⟩ : ∃ wk, wk = w9 := ⟨_, rfl⟩
                have HIK := hide ((unhide HI).below hbd)
                have HIK' := hide ((unhide HI').below hbd)
                have HBK := hide ((unhide HBR).trans (hbd.mono (unhide HBR).size))
                have HY2 := hide y2
                have HZ2 := hide z2
                have HK2 := hide k2
                have HK2' := hide k2'
                clear hbd HD HI HI' HBR
                go_wp2_with fail
                clear y2 z2 k2 k2'
                go_loopw [105] (fun x wr => ∃ q : Nat, q ≤ t.rows.length ∧ x = .int .i64 (q : Int) ∧ Below wk.heap.size wk wr) (fun x _ => t.rows.length - (intOf x).toNat)
                case atStart => exact ⟨0, Nat.zero_le _, rfl, Below.refl _ _⟩
                case round =>
                  obtain ⟨q, hq, rfl, hbr⟩ := hrel
                  by_cases hlq : q < t.rows.length
                  · have q0 : (0 : Int) ≤ (q : Int) := by omega
                    have q1 : (q : Int) < (t.rows.length : Int) := by omega
                    obtain ⟨vb, vo, hKe, x0⟩ := (unhide HIK).below hbr q (by rw [colV_len]; exact hlq)
                    obtain ⟨vb', vo', hKe', x1⟩ := (unhide HIK').below hbr q (by rw [colV_len]; exact hlq)
                    dsimp only at x0 x1
                    generalize (colV t k).getD q 0 = x at *
                    have y2 := keep_below hbr (unhide HY2)
                    have z2 := keep_below hbr (unhide HZ2)
                    have k2 := keep_below hbr (unhide HK2)
                    have k2' := keep_below hbr (unhide HK2')
                    have HBR := hide hbr
                    clear hbr HIK HIK' HY2 HZ2 HK2 HK2'
                    subst hKe hKe'
                    go_wp2_with fail
                    have h0 : Below wr.heap.size wr wr.drew := (Below.refl _ _).drew
                    refine wp_region_gho (fun (γ : Unit) ix v => (([fun v => v = .pointer (some ⟨wt.heap.size, 2, none⟩), fun v => v = .slice (some ⟨kb, ko, none⟩) (lstTo t.has 8).length cc, fun v => v = .int .i64 (k : Int), fun v => v = .pointer (some ⟨kb, ko + k, none⟩), fun v => v = .slice (some ⟨vb, vo, none⟩) t.rows.length kc, fun v => v = .int .i64 (q : Int), fun v => v = .pointer (some ⟨vb, vo + q, none⟩), fun v => v = .int .i64 x, fun v => v = .pointer (some ⟨wt.heap.size + 1, 2, none⟩), fun v => v = .slice (some ⟨kb', ko', none⟩) (lstTo t.has 8).length cc', fun v => v = .int .i64 (k : Int), fun v => v = .pointer (some ⟨kb', ko' + k, none⟩), fun v => v = .slice (some ⟨vb', vo', none⟩) t.rows.length kc', fun v => v = .int .i64 (q : Int), fun v => v = .pointer (some ⟨vb', vo' + q, none⟩), fun v => v = .int .i64 x, fun v => v = .bool false] : List (Value → Prop)).getD ix (fun _ => True)) v) (fun (_ : Unit) (_ : Nat → Bool) W => Below wr.heap.size wr W) (()) (by kernel_rfl) (by kernel_rfl) (by kernel_rfl) h0 ?hstep ?hend
                    case hstep =>
                      intro γ ix o ho L ac w1 hD hL hed hcl hout hv
                      match ix, ho with
                      | 0, ho =>
                        simp at ho
                        subst ho
                        have e7 : ac.tmps.getD 7 undef = .pointer (some ⟨wt.heap.size, 0, none⟩) := hout 7 (by decide +kernel)
                        exact .inl ⟨rfl, gho_reads γ (.pointer (some ⟨wt.heap.size, 2, none⟩)) (by simp [go_sem, Act.eval, -Array.getD_eq_getD_getElem?, e7]) rfl (hD) (fun _ _ _ _ h => h)⟩
                      | 1, ho =>
                        simp at ho
                        subst ho
                        have e108 : ac.tmps.getD 108 undef = .pointer (some ⟨wt.heap.size, 2, none⟩) := hv 0 108 rfl (by kernel_rfl)
                        have d0 := keep_below hD y2
                        exact .inl ⟨rfl, gho_reads γ (.slice (some ⟨kb, ko, none⟩) (lstTo t.has 8).length cc) (by simp [go_sem, Act.eval, -Array.getD_eq_getD_getElem?, e108, d0]) rfl (hD) (fun _ _ _ _ h => h)⟩
                      | 2, ho =>
                        simp at ho
                        subst ho
                        have e9 : ac.tmps.getD 9 undef = .int .i64 (k : Int) := hout 9 (by decide +kernel)
                        exact .inl ⟨rfl, gho_reads γ (.int .i64 (k : Int)) (by simp [go_sem, Act.eval, -Array.getD_eq_getD_getElem?, e9]) rfl (hD) (fun _ _ _ _ h => h)⟩
                      | 3, ho =>
                        simp at ho
                        subst ho
                        have e109 : ac.tmps.getD 109 undef = .slice (some ⟨kb, ko, none⟩) (lstTo t.has 8).length cc := hv 1 109 rfl (by kernel_rfl)
                        have e110 : ac.tmps.getD 110 undef = .int .i64 (k : Int) := hv 2 110 rfl (by kernel_rfl)
                        exact .inl ⟨rfl, gho_reads γ (.pointer (some ⟨kb, ko + k, none⟩)) (by simp [go_sem, Act.eval, -Array.getD_eq_getD_getElem?, e109, e110, k0, k1]) rfl (hD) (fun _ _ _ _ h => h)⟩
                      | 4, ho =>
                        simp at ho
                        subst ho
                        have e111 : ac.tmps.getD 111 undef = .pointer (some ⟨kb, ko + k, none⟩) := hv 3 111 rfl (by kernel_rfl)
                        have d0 := keep_below hD k2
                        exact .inl ⟨rfl, gho_reads γ (.slice (some ⟨vb, vo, none⟩) t.rows.length kc) (by simp [go_sem, Act.eval, -Array.getD_eq_getD_getElem?, e111, d0]) rfl (hD) (fun _ _ _ _ h => h)⟩
                      | 5, ho =>
                        simp at ho
                        subst ho
                        have e10 : ac.tmps.getD 10 undef = .int .i64 (q : Int) := hout 10 (by decide +kernel)
                        exact .inl ⟨rfl, gho_reads γ (.int .i64 (q : Int)) (by simp [go_sem, Act.eval, -Array.getD_eq_getD_getElem?, e10]) rfl (hD) (fun _ _ _ _ h => h)⟩
                      | 6, ho =>
                        simp at ho
                        subst ho
                        have e112 : ac.tmps.getD 112 undef = .slice (some ⟨vb, vo, none⟩) t.rows.length kc := hv 4 112 rfl (by kernel_rfl)
                        have e113 : ac.tmps.getD 113 undef = .int .i64 (q : Int) := hv 5 113 rfl (by kernel_rfl)
                        exact .inl ⟨rfl, gho_reads γ (.pointer (some ⟨vb, vo + q, none⟩)) (by simp [go_sem, Act.eval, -Array.getD_eq_getD_getElem?, e112, e113, q0, q1]) rfl (hD) (fun _ _ _ _ h => h)⟩
                      | 7, ho =>
                        simp at ho
                        subst ho
                        have e114 : ac.tmps.getD 114 undef = .pointer (some ⟨vb, vo + q, none⟩) := hv 6 114 rfl (by kernel_rfl)
                        have d0 := keep_below hD x0
                        exact .inl ⟨rfl, gho_reads γ (.int .i64 x) (by simp [go_sem, Act.eval, -Array.getD_eq_getD_getElem?, e114, d0]) rfl (hD) (fun _ _ _ _ h => h)⟩
                      | 8, ho =>
                        simp at ho
                        subst ho
                        have e8 : ac.tmps.getD 8 undef = .pointer (some ⟨wt.heap.size + 1, 0, none⟩) := hout 8 (by decide +kernel)
                        exact .inl ⟨rfl, gho_reads γ (.pointer (some ⟨wt.heap.size + 1, 2, none⟩)) (by simp [go_sem, Act.eval, -Array.getD_eq_getD_getElem?, e8]) rfl (hD) (fun _ _ _ _ h => h)⟩
                      | 9, ho =>
                        simp at ho
                        subst ho
                        have e116 : ac.tmps.getD 116 undef = .pointer (some ⟨wt.heap.size + 1, 2, none⟩) := hv 8 116 rfl (by kernel_rfl)
                        have d0 := keep_below hD z2
                        exact .inl ⟨rfl, gho_reads γ (.slice (some ⟨kb', ko', none⟩) (lstTo t.has 8).length cc') (by simp [go_sem, Act.eval, -Array.getD_eq_getD_getElem?, e116, d0]) rfl (hD) (fun _ _ _ _ h => h)⟩
                      | 10, ho =>
                        simp at ho
                        subst ho
                        have e9 : ac.tmps.getD 9 undef = .int .i64 (k : Int) := hout 9 (by decide +kernel)
                        exact .inl ⟨rfl, gho_reads γ (.int .i64 (k : Int)) (by simp [go_sem, Act.eval, -Array.getD_eq_getD_getElem?, e9]) rfl (hD) (fun _ _ _ _ h => h)⟩
                      | 11, ho =>
                        simp at ho
                        subst ho
                        have e117 : ac.tmps.getD 117 undef = .slice (some ⟨kb', ko', none⟩) (lstTo t.has 8).length cc' := hv 9 117 rfl (by kernel_rfl)
                        have e118 : ac.tmps.getD 118 undef = .int .i64 (k : Int) := hv 10 118 rfl (by kernel_rfl)
                        exact .inl ⟨rfl, gho_reads γ (.pointer (some ⟨kb', ko' + k, none⟩)) (by simp [go_sem, Act.eval, -Array.getD_eq_getD_getElem?, e117, e118, k0, k1]) rfl (hD) (fun _ _ _ _ h => h)⟩
                      | 12, ho =>
                        simp at ho
                        subst ho
                        have e119 : ac.tmps.getD 119 undef = .pointer (some ⟨kb', ko' + k, none⟩) := hv 11 119 rfl (by kernel_rfl)
                        have d0 := keep_below hD k2'
                        exact .inl ⟨rfl, gho_reads γ (.slice (some ⟨vb', vo', none⟩) t.rows.length kc') (by simp [go_sem, Act.eval, -Array.getD_eq_getD_getElem?, e119, d0]) rfl (hD) (fun _ _ _ _ h => h)⟩
                      | 13, ho =>
                        simp at ho
                        subst ho
                        have e10 : ac.tmps.getD 10 undef = .int .i64 (q : Int) := hout 10 (by decide +kernel)
                        exact .inl ⟨rfl, gho_reads γ (.int .i64 (q : Int)) (by simp [go_sem, Act.eval, -Array.getD_eq_getD_getElem?, e10]) rfl (hD) (fun _ _ _ _ h => h)⟩
                      | 14, ho =>
                        simp at ho
                        subst ho
                        have e120 : ac.tmps.getD 120 undef = .slice (some ⟨vb', vo', none⟩) t.rows.length kc' := hv 12 120 rfl (by kernel_rfl)
                        have e121 : ac.tmps.getD 121 undef = .int .i64 (q : Int) := hv 13 121 rfl (by kernel_rfl)
                        exact .inl ⟨rfl, gho_reads γ (.pointer (some ⟨vb', vo' + q, none⟩)) (by simp [go_sem, Act.eval, -Array.getD_eq_getD_getElem?, e120, e121, q0, q1]) rfl (hD) (fun _ _ _ _ h => h)⟩
                      | 15, ho =>
                        simp at ho
                        subst ho
                        have e122 : ac.tmps.getD 122 undef = .pointer (some ⟨vb', vo' + q, none⟩) := hv 14 122 rfl (by kernel_rfl)
                        have d0 := keep_below hD x1
                        exact .inl ⟨rfl, gho_reads γ (.int .i64 x) (by simp [go_sem, Act.eval, -Array.getD_eq_getD_getElem?, e122, d0]) rfl (hD) (fun _ _ _ _ h => h)⟩
                      | 16, ho =>
                        simp at ho
                        subst ho
                        have e115 : ac.tmps.getD 115 undef = .int .i64 x := hv 7 115 rfl (by kernel_rfl)
                        have e123 : ac.tmps.getD 123 undef = .int .i64 x := hv 15 123 rfl (by kernel_rfl)
                        exact .inl ⟨rfl, gho_reads γ (.bool false) (by simp [go_sem, Act.eval, -Array.getD_eq_getD_getElem?, e115, e123]) rfl (hD) (fun _ _ _ _ h => h)⟩
                      | ix + 17, ho => simp at ho
                    case hend =>
                      intro γ v L w9 hD hall hv
                      have vv : v 16 = .bool false := hv 16 124 rfl
                      have HD := hide hD
                      clear hv hall hD h0
                      simp only [putOps, List.getElem?_cons_zero, List.getElem?_cons_succ, Option.bind_some, List.length_cons, List.length_nil, Nat.reduceAdd, vv]
                      clear vv
                      go_frame
                      go_wp2
                      go_roundw
                      case rel => exact ⟨q + 1, by omega, by go_num, (unhide HBR).trans ((unhide HD).mono (unhide HBR).size)⟩
                      case measure => simp [intOf]; omega
                  · obtain rfl : q = t.rows.length := by omega
                    have HE := hide ((unhide HBK).trans (hbr.mono (unhide HBK).size))
                    clear hbr HIK HIK' HY2 HZ2 HK2 HK2'
                    go_wp2
                    go_roundw
                    case rel => exact ⟨k + 1, by omega, by go_num, unhide HE⟩
                    case measure => simp [intOf]; omega
            · obtain rfl : k = (lstTo t.has 8).length := by omega
              have HE := hide ((unhide HL5).trans (hbr.mono (Nat.le_trans (unhide HL5).size (Nat.le_refl _))))
              clear hbr
              go_wp2
              go_roundw
              case rel => exact ⟨i + 1, by omega, by go_num, unhide HE⟩
              case measure => simp [intOf]; omega
        · obtain rfl : i = tabs.length := by omega
          have HE := hide ((unhide HL0).trans (hbr.mono (unhide HL0).size))
          clear hB hbr
          go_wp2
          go_ret
          exact ⟨rfl, unhide HE⟩
end Go.Proofs.Ytnbleebilmghcab
