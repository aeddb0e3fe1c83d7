/- STab, SWt, SBox, SAdd, SAdd2 -/
import Derived.Test.YtnbleebilmghcabQA
import Derived.Test.YtnbleebilmghcabQG
import Derived.Test.YtnbleebilmghcabQH
set_option linter.all false
namespace Go.Proofs.Ytnbleebilmghcab
open Go Go.RowKit
attribute [local go_sem ↓] Go.wp_at_zero Go.wp_at_succ
structure TabI where
  has : Int
  rows : List RowI
def colV (t : TabI) (k : Nat) : List Int := t.rows.map fun r => r.v ((lstTo t.has 8).getD k 0).toNat
def bsV (t : TabI) : List (Int × Int) := t.rows.map fun r => (r.ix, r.gen)
theorem colV_len (t : TabI) (k : Nat) : (colV t k).length = t.rows.length := by simp [colV]
theorem bsV_len (t : TabI) : (bsV t).length = t.rows.length := by simp [bsV]
def ColsAt (w : World) (C : Option Addr) (t : TabI) : Prop := ∀ k, k < (lstTo t.has 8).length → ∃ b o, C = some ⟨b, o, none⟩ ∧ ∃ A c, w.cell? ⟨b, o + k, none⟩ = some (.slice A t.rows.length c) ∧ IntsL w A (colV t k)
theorem ColsAt.below {w w1 : World} {C : Option Addr} {t : TabI} (h : ColsAt w C t) (hb : Below w.heap.size w w1) : ColsAt w1 C t := fun k hk => by
  obtain ⟨b, o, e, A, c, h1, h2⟩ := h k hk
  exact ⟨b, o, e, A, c, keep_below hb h1, h2.below hb⟩
structure TabAt (w : World) (b o : Nat) (A : Option Addr) (c : Nat) (C : Option Addr) (cc : Nat) (t : TabI) : Prop where
  c0 : w.cell? ⟨b, o, none⟩ = some (.int .i64 t.has)
  c1 : w.cell? ⟨b, o + 1, none⟩ = some (.slice A t.rows.length c)
  c2 : w.cell? ⟨b, o + 2, none⟩ = some (.slice C (lstTo t.has 8).length cc)
  bs : BsAt w A (bsV t)
  cols : ColsAt w C t
theorem TabAt.below {w w1 : World} {b o : Nat} {A : Option Addr} {c : Nat} {C : Option Addr} {cc : Nat} {t : TabI} (h : TabAt w b o A c C cc t) (hb : Below w.heap.size w w1) : TabAt w1 b o A c C cc t :=
  ⟨keep_below hb h.c0, keep_below hb h.c1, keep_below hb h.c2, h.bs.below hb, h.cols.below hb⟩
def TabsAt (w : World) (T : Option Addr) (l : List TabI) : Prop := ∀ j (hj : j < l.length), ∃ b o, T = some ⟨b, o, none⟩ ∧ ∃ A c C cc, TabAt w b (o + j * 3) A c C cc l[j]
theorem TabsAt.below {w w1 : World} {T : Option Addr} {l : List TabI} (h : TabsAt w T l) (hb : Below w.heap.size w w1) : TabsAt w1 T l := fun j hj => by
  obtain ⟨b, o, e, A, c, C, cc, h1⟩ := h j hj
  exact ⟨b, o, e, A, c, C, cc, h1.below hb⟩
structure TabRight (t : TabI) : Prop where
  set : setB t.has = true
  one : 0 < t.rows.length
  few : t.rows.length ≤ 1000
  has : ∀ r ∈ t.rows, r.has = t.has ∧ rvB r = true
  up : ∀ j, j + 1 < t.rows.length → (t.rows.getD j dR).ix < (t.rows.getD (j + 1) dR).ix
theorem col_val {t : TabI} (h : TabRight t) (k j : Nat) (hj : j < t.rows.length) (hk : k < (lstTo t.has 8).length) : valB ((colV t k).getD j 0) = true := by
  have e : (colV t k).getD j 0 = (t.rows[j]).v ((lstTo t.has 8).getD k 0).toNat := by
    unfold colV
    rw [List.getD_eq_getElem?_getD, List.getElem?_eq_getElem (by simpa using hj)]
    simp
  have hp : ((lstTo t.has 8).getD k 0).toNat < 8 := by
    have hm : (lstTo t.has 8).getD k 0 ∈ lstTo t.has 8 := by
      rw [List.getD_eq_getElem?_getD, List.getElem?_eq_getElem hk]; exact List.getElem_mem hk
    unfold lstTo at hm
    rw [List.mem_map] at hm
    obtain ⟨j, hj, e⟩ := hm
    rw [List.mem_filter, List.mem_range] at hj
    unfold lstTo
    rw [← e]
    exact hj.1
  rw [e]
  exact ((rv_parts (h.has _ (List.getElem_mem hj)).2).2 _ hp).1
set_option maxRecDepth 8000 in
set_option maxHeartbeats 1000000 in
theorem wrongcol_any (A : Option Addr) (c : Nat) (l : List Int) (w : World) (hl : l.length ≤ 1000) (hA : IntsL w A l) (hv : ∀ j, j < l.length → valB (l.getD j 0) = true) :
    Calls Try.prog 93 #[.slice A l.length c, .int .i64 (l.length : Int)] w fun e w' => e = .returned (.int .i64 0) ∧ Below w.heap.size w w' := by
  have HA := hide hA
  have HV := hide hv
  clear hA hv
  go_enter Try.func93, Try.ntmps93
  go_wp2
  go_loopw [13] (fun x wr => ∃ j : Nat, j ≤ l.length ∧ x = .int .i64 j ∧ Below w.heap.size w wr) (fun x _ => l.length - (intOf x).toNat)
  case atStart => exact ⟨0, Nat.zero_le _, rfl, Below.refl _ _⟩
  case round =>
    obtain ⟨j, hj, rfl, hb⟩ := hrel
    have HB := hide hb
    by_cases hlt : j < l.length
    · have j0 : (0 : Int) ≤ (j : Int) := by omega
      have j1 : (j : Int) < (l.length : Int) := by omega
      obtain ⟨b, off, rfl, c0⟩ := unhide HA j hlt
      have c0 : wr.cell? ⟨b, off + j, none⟩ = some (.int .i64 (l.getD j 0)) := keep_below hb c0
      clear hb
      have hVL := value_any (l.getD j 0)
      rw [unhide HV j hlt] at hVL
      generalize l.getD j 0 = x at *
      have HVL := hide hVL
      clear hVL HA HV
      go_wp2_with ((go_at_call 81; refine (unhide HVL _).mono ?_; rintro e w1 ⟨rfl, hw⟩; obtain rfl := hw.symm))
      go_roundw
      case rel => exact ⟨j + 1, by omega, by go_num, unhide HB⟩
      case measure => simp [intOf]; omega
    · obtain rfl : j = l.length := by omega
      clear HA HV hb
      go_wp2
      go_ret
      exact ⟨rfl, unhide HB⟩
set_option maxRecDepth 8000 in
set_option maxHeartbeats 1000000 in
theorem rise_any (A : Option Addr) (c : Nat) (l : List (Int × Int)) (w : World) (hl : l.length ≤ 1000) (hA : BsAt w A l) (hu : ∀ j, j + 1 < l.length → (l.getD j (0, 0)).1 < (l.getD (j + 1) (0, 0)).1) :
    Calls Try.prog 94 #[.slice A l.length c] w fun e w' => e = .returned (.bool true) ∧ Below w.heap.size w w' := by
  have HA := hide hA
  have HU := hide hu
  clear hA hu
  go_enter Try.func94, Try.ntmps94
  go_wp2
  go_loopw [3] (fun x wr => ∃ j : Nat, 1 ≤ j ∧ (j ≤ l.length ∨ j = 1) ∧ x = .int .i64 j ∧ Below w.heap.size w wr) (fun x _ => l.length - (intOf x).toNat)
  case atStart => exact ⟨1, Nat.le_refl _, by omega, rfl, Below.refl _ _⟩
  case round =>
    obtain ⟨j, hj1, hj2, rfl, hb⟩ := hrel
    by_cases hlt : j < l.length
    · obtain ⟨k, hk⟩ : ∃ k, j = k + 1 := ⟨j - 1, by omega⟩
      have j0 : (0 : Int) ≤ (j : Int) := by omega
      have j1 : (j : Int) < (l.length : Int) := by omega
      have k0 : (0 : Int) ≤ (k : Int) := by omega
      have k1 : (k : Int) < (l.length : Int) := by omega
      have hw1 : IntKind.i64.wrap ((j : Int) - 1) = (k : Int) := by rw [IntWalk.i64_in _ (by omega)]; omega
      obtain ⟨b, off, rfl, c0, _⟩ := unhide HA k (by omega)
      obtain ⟨b', off', e', d0, _⟩ := unhide HA j hlt
      simp only [Option.some.injEq, Addr.mk.injEq, and_true] at e'
      obtain ⟨rfl, rfl⟩ := e'
      have hpq := unhide HU k (by omega)
      rw [← hk] at hpq
      generalize (l.getD k (0, 0)).1 = p at *
      generalize (l.getD j (0, 0)).1 = q at *
      have h0 : wr.drew.cell? ⟨b, off + k * 2, none⟩ = some (.int .i64 p) ∧ wr.drew.cell? ⟨b, off + j * 2, none⟩ = some (.int .i64 q) ∧ Below w.heap.size w wr.drew := ⟨keep_below (hb.drew) c0, keep_below (hb.drew) d0, hb.drew⟩
      have HB := hide hb
      have HK := hide hk
      clear HA HU c0 d0 hb hk
      go_wp2
      refine wp_region_gen (fun ix v => (([fun v => v = .slice (some ⟨b, off, none⟩) l.length c, fun v => v = .int .i64 (j : Int), fun v => v = .int .i64 (k : Int), fun v => v = .pointer (some ⟨b, off + k * 2, none⟩), fun v => v = .pointer (some ⟨b, off + k * 2, none⟩), fun v => v = .int .i64 (p : Int), fun v => v = .slice (some ⟨b, off, none⟩) l.length c, fun v => v = .int .i64 (j : Int), fun v => v = .pointer (some ⟨b, off + j * 2, none⟩), fun v => v = .pointer (some ⟨b, off + j * 2, none⟩), fun v => v = .int .i64 (q : Int), fun v => v = .bool false] : List (Value → Prop)).getD ix (fun _ => True)) v) (fun _ W => W.cell? ⟨b, off + k * 2, none⟩ = some (.int .i64 p) ∧ W.cell? ⟨b, off + j * 2, none⟩ = some (.int .i64 q) ∧ Below w.heap.size w W) (by kernel_rfl) (by kernel_rfl) (by kernel_rfl) h0 ?hstep ?hend
      case hstep =>
        intro ix o ho L ac w1 hD hL hed hcl hout hv
        match ix, ho with
        | 0, ho =>
          simp at ho
          subst ho
          have e0 : ac.tmps.getD 0 undef = .slice (some ⟨b, off, none⟩) l.length c := hout 0 (by decide +kernel)
          exact .inl ⟨rfl, gen_reads (.slice (some ⟨b, off, none⟩) l.length c) (by simp [go_sem, Act.eval, -Array.getD_eq_getD_getElem?, e0]) rfl (hD)⟩
        | 1, ho =>
          simp at ho
          subst ho
          have e3 : ac.tmps.getD 3 undef = .int .i64 (j : Int) := hout 3 (by decide +kernel)
          exact .inl ⟨rfl, gen_reads (.int .i64 (j : Int)) (by simp [go_sem, Act.eval, -Array.getD_eq_getD_getElem?, e3]) rfl (hD)⟩
        | 2, ho =>
          simp at ho
          subst ho
          have e11 : ac.tmps.getD 11 undef = .int .i64 (j : Int) := hv 1 11 rfl (by kernel_rfl)
          exact .inl ⟨rfl, gen_reads (.int .i64 (k : Int)) (by simp [go_sem, Act.eval, -Array.getD_eq_getD_getElem?, e11, hw1]) rfl (hD)⟩
        | 3, ho =>
          simp at ho
          subst ho
          have e10 : ac.tmps.getD 10 undef = .slice (some ⟨b, off, none⟩) l.length c := hv 0 10 rfl (by kernel_rfl)
          have e12 : ac.tmps.getD 12 undef = .int .i64 (k : Int) := hv 2 12 rfl (by kernel_rfl)
          exact .inl ⟨rfl, gen_reads (.pointer (some ⟨b, off + k * 2, none⟩)) (by simp [go_sem, Act.eval, -Array.getD_eq_getD_getElem?, e10, e12, k0, k1]) rfl (hD)⟩
        | 4, ho =>
          simp at ho
          subst ho
          have e13 : ac.tmps.getD 13 undef = .pointer (some ⟨b, off + k * 2, none⟩) := hv 3 13 rfl (by kernel_rfl)
          exact .inl ⟨rfl, gen_reads (.pointer (some ⟨b, off + k * 2, none⟩)) (by simp [go_sem, Act.eval, -Array.getD_eq_getD_getElem?, e13]) rfl (hD)⟩
        | 5, ho =>
          simp at ho
          subst ho
          have e14 : ac.tmps.getD 14 undef = .pointer (some ⟨b, off + k * 2, none⟩) := hv 4 14 rfl (by kernel_rfl)
          have c0 := hD.1
          exact .inl ⟨rfl, gen_reads (.int .i64 (p : Int)) (by simp [go_sem, Act.eval, -Array.getD_eq_getD_getElem?, e14, c0]) rfl (hD)⟩
        | 6, ho =>
          simp at ho
          subst ho
          have e0 : ac.tmps.getD 0 undef = .slice (some ⟨b, off, none⟩) l.length c := hout 0 (by decide +kernel)
          exact .inl ⟨rfl, gen_reads (.slice (some ⟨b, off, none⟩) l.length c) (by simp [go_sem, Act.eval, -Array.getD_eq_getD_getElem?, e0]) rfl (hD)⟩
        | 7, ho =>
          simp at ho
          subst ho
          have e3 : ac.tmps.getD 3 undef = .int .i64 (j : Int) := hout 3 (by decide +kernel)
          exact .inl ⟨rfl, gen_reads (.int .i64 (j : Int)) (by simp [go_sem, Act.eval, -Array.getD_eq_getD_getElem?, e3]) rfl (hD)⟩
        | 8, ho =>
          simp at ho
          subst ho
          have e16 : ac.tmps.getD 16 undef = .slice (some ⟨b, off, none⟩) l.length c := hv 6 16 rfl (by kernel_rfl)
          have e17 : ac.tmps.getD 17 undef = .int .i64 (j : Int) := hv 7 17 rfl (by kernel_rfl)
          exact .inl ⟨rfl, gen_reads (.pointer (some ⟨b, off + j * 2, none⟩)) (by simp [go_sem, Act.eval, -Array.getD_eq_getD_getElem?, e16, e17, j0, j1]) rfl (hD)⟩
        | 9, ho =>
          simp at ho
          subst ho
          have e18 : ac.tmps.getD 18 undef = .pointer (some ⟨b, off + j * 2, none⟩) := hv 8 18 rfl (by kernel_rfl)
          exact .inl ⟨rfl, gen_reads (.pointer (some ⟨b, off + j * 2, none⟩)) (by simp [go_sem, Act.eval, -Array.getD_eq_getD_getElem?, e18]) rfl (hD)⟩
        | 10, ho =>
          simp at ho
          subst ho
          have e19 : ac.tmps.getD 19 undef = .pointer (some ⟨b, off + j * 2, none⟩) := hv 9 19 rfl (by kernel_rfl)
          have c0 := hD.2.1
          exact .inl ⟨rfl, gen_reads (.int .i64 (q : Int)) (by simp [go_sem, Act.eval, -Array.getD_eq_getD_getElem?, e19, c0]) rfl (hD)⟩
        | 11, ho =>
          simp at ho
          subst ho
          have e15 : ac.tmps.getD 15 undef = .int .i64 (p : Int) := hv 5 15 rfl (by kernel_rfl)
          have e20 : ac.tmps.getD 20 undef = .int .i64 (q : Int) := hv 10 20 rfl (by kernel_rfl)
          exact .inl ⟨rfl, gen_reads (.bool false) (by simp [go_sem, Act.eval, -Array.getD_eq_getD_getElem?, e15, e20, hpq]) rfl (hD)⟩
        | ix + 12, ho => simp at ho
      case hend =>
        intro v L w1 hD hall hv
        have h11 : v 11 = .bool false := hv 11 21 rfl
        have HE := hide hD.2.2
        clear hv hall hD h0
        simp only [putOps, List.getElem?_cons_zero, List.getElem?_cons_succ, Option.bind_some, List.length_cons, List.length_nil, Nat.reduceAdd, h11]
        clear h11
        go_frame
        go_wp2
        go_roundw
        case rel => exact ⟨j + 1, by omega, by omega, by go_num, unhide HE⟩
        case measure => simp [intOf]; omega
    · have j1 : ¬ (j : Int) < (l.length : Int) := by omega
      have HB := hide hb
      clear hb HA HU
      go_wp2
      go_ret
      exact ⟨rfl, unhide HB⟩
end Go.Proofs.Ytnbleebilmghcab
namespace Go.Proofs.Ytnbleebilmghcab
open Go Go.RowKit
attribute [local go_sem ↓] Go.wp_at_zero Go.wp_at_succ
structure WT (w : World) (bx : Nat) (u0 u1 u2 : Value) (W : World) : Prop where
  bel : Below w.heap.size w W
  b0 : W.cell? ⟨bx, 0, none⟩ = some u0
  b1 : W.cell? ⟨bx, 1, none⟩ = some u1
  b2 : W.cell? ⟨bx, 2, none⟩ = some u2
theorem WT.below {w W W1 : World} {bx : Nat} {u0 u1 u2 : Value} (h : WT w bx u0 u1 u2 W) (hb : Below W.heap.size W W1) : WT w bx u0 u1 u2 W1 :=
  ⟨h.bel.trans (hb.mono h.bel.size), keep_below hb h.b0, keep_below hb h.b1, keep_below hb h.b2⟩
theorem WT.start (w : World) (u0 u1 u2 : Value) (t : TypeId) : WT w w.heap.size u0 u1 u2 (w.alloc (.cells #[u0, u1, u2] t)) := ⟨bel1 _ _, by simp, by simp, by simp⟩
set_option maxRecDepth 8000 in
set_option maxHeartbeats 4000000 in
theorem wrongtable_first (tb tf n tcap j : Nat) (t : TabI) (A : Option Addr) (c : Nat) (C : Option Addr) (cc : Nat) (w : World) (hn : n ≤ 1000) (hj : j < n) (ht : TabAt w tb (tf + j * 3) A c C cc t) (hr : TabRight t) (h0 : j = 0) :
    Calls Try.prog 68 #[.slice (some ⟨tb, tf, none⟩) n tcap, .int .i64 (j : Int)] w fun e w' => e = .returned (.int .i64 0) ∧ Below w.heap.size w w' := by
  have hset := set_any t.has
  rw [hr.set] at hset
  have hs0 := set_bd hr.set
  have hCT := fun W => count_any t.has W hs0.1 hs0.2
  have hRS := fun W (hb : Below w.heap.size w W) => rise_any A c (bsV t) W (by rw [bsV_len]; exact hr.few) (ht.bs.below hb) (fun k hk => by
    rw [bsV_len] at hk
    have h1 : ∀ q, q < t.rows.length → ((bsV t).getD q (0, 0)).1 = (t.rows.getD q dR).ix := fun q hq => by
      unfold bsV
      rw [List.getD_eq_getElem?_getD, List.getElem?_eq_getElem (by simpa using hq), List.getD_eq_getElem?_getD, List.getElem?_eq_getElem hq]
      simp
    rw [h1 k (by omega), h1 (k + 1) hk]
    exact hr.up k hk)
  rw [bsV_len] at hRS
  have hWC := fun k (hk : k < (lstTo t.has 8).length) A1 c1 W (h : IntsL W A1 (colV t k)) => wrongcol_any A1 c1 (colV t k) W (by rw [colV_len]; exact hr.few) h (fun j hj => col_val hr k j (by rwa [colV_len] at hj) hk)
  have hc0 := ht.c0
  have hc1 := ht.c1
  have hc2 := ht.c2
  have n0 : ¬ t.rows.length = 0 := by have := hr.one; omega
  have nf := hr.few
  have ml := lst_len t.has 8
  have j0 : (0 : Int) ≤ (j : Int) := by omega
  have j1 : (j : Int) < (n : Int) := by omega
  have HCO := hide ht.cols
  have jp : decide ((0 : Int) < (j : Int)) = false := by simp; omega
  have jp2 : ¬ 0 < j := by omega
  have HJ := hide h0
  clear h0
  have HSE := hide hset
  have HRS := hide hRS
  have HWC := hide hWC
  have HCT := hide hCT
  clear hset hRS hWC hCT ht hr hs0
  generalize hm : (lstTo t.has 8).length = m at *
  have HM := hide hm
  clear hm
  go_enter Try.func68, Try.ntmps68
  go_wp2_with ((go_at_call 33; refine (unhide HSE _).mono ?_; rintro e w1 ⟨rfl, hw⟩; obtain rfl := hw.symm))
  have hWT := WT.start w (.int .i64 t.has) (.slice A t.rows.length c) (.slice C m cc) 98
  have h4 := hWT.below ((Below.refl (w.alloc (.cells #[.int .i64 t.has, .slice A t.rows.length c, .slice C m cc] 98)).heap.size _).drew)
  clear hWT
  refine wp_region_gen (fun ix v => (([fun v => v = .pointer (some ⟨w.heap.size, 1, none⟩), fun v => v = .slice A t.rows.length c, fun v => v = .int .i64 (t.rows.length : Int), fun v => v = .bool false, fun v => v = .bool false, fun v => v = .pointer (some ⟨w.heap.size, 2, none⟩), fun v => v = .slice C m cc, fun v => v = .int .i64 (m : Int), fun v => v = .pointer (some ⟨w.heap.size, 0, none⟩), fun v => v = .int .i64 t.has, fun v => v = .int .i64 (m : Int), fun v => v = .bool false, fun v => v = .bool false] : List (Value → Prop)).getD ix (fun _ => True)) v) (fun _ W => WT w w.heap.size (.int .i64 t.has) (.slice A t.rows.length c) (.slice C m cc) W) (by kernel_rfl) (by kernel_rfl) (by kernel_rfl) h4 ?hstep ?hend
  case hstep =>
    intro ix o ho L ac w1 hD hL hed hcl hout hv
    match ix, ho with
    | 0, ho =>
      simp at ho
      subst ho
      have e5 : ac.tmps.getD 5 undef = .pointer (some ⟨w.heap.size, 0, none⟩) := hout 5 (by decide +kernel)
      exact .inl ⟨rfl, gen_reads (.pointer (some ⟨w.heap.size, 1, none⟩)) (by simp [go_sem, Act.eval, -Array.getD_eq_getD_getElem?, e5]) rfl (hD)⟩
    | 1, ho =>
      simp at ho
      subst ho
      have e17 : ac.tmps.getD 17 undef = .pointer (some ⟨w.heap.size, 1, none⟩) := hv 0 17 rfl (by kernel_rfl)
      have bb := hD.b1
      exact .inl ⟨rfl, gen_reads (.slice A t.rows.length c) (by simp [go_sem, Act.eval, -Array.getD_eq_getD_getElem?, e17, bb]) rfl (hD)⟩
    | 2, ho =>
      simp at ho
      subst ho
      have e18 : ac.tmps.getD 18 undef = .slice A t.rows.length c := hv 1 18 rfl (by kernel_rfl)
      exact .inl ⟨rfl, gen_reads (.int .i64 (t.rows.length : Int)) (by simp [go_sem, Act.eval, -Array.getD_eq_getD_getElem?, e18]) rfl (hD)⟩
    | 3, ho =>
      simp at ho
      subst ho
      have e19 : ac.tmps.getD 19 undef = .int .i64 (t.rows.length : Int) := hv 2 19 rfl (by kernel_rfl)
      exact .inl ⟨rfl, gen_reads (.bool false) (by simp [go_sem, Act.eval, -Array.getD_eq_getD_getElem?, e19, n0]) rfl (hD)⟩
    | 4, ho =>
      simp at ho
      subst ho
      have e20 : ac.tmps.getD 20 undef = .bool false := hv 3 20 rfl (by kernel_rfl)
      exact .inl ⟨rfl, gen_reads (.bool false) (by simp [go_sem, Act.eval, -Array.getD_eq_getD_getElem?, e20]) rfl (hD)⟩
    | 5, ho =>
      simp at ho
      subst ho
      have eg : ac.tmps.getD 21 undef = .bool false := hv 4 21 rfl (by kernel_rfl)
      have e5 : ac.tmps.getD 5 undef = .pointer (some ⟨w.heap.size, 0, none⟩) := hout 5 (by decide +kernel)
      exact .inl ⟨wanted_of rfl rfl eg, gen_reads (.pointer (some ⟨w.heap.size, 2, none⟩)) (by simp [go_sem, Act.eval, -Array.getD_eq_getD_getElem?, e5]) rfl (hD)⟩
    | 6, ho =>
      simp at ho
      subst ho
      have eg : ac.tmps.getD 21 undef = .bool false := hv 4 21 rfl (by kernel_rfl)
      have e22 : ac.tmps.getD 22 undef = .pointer (some ⟨w.heap.size, 2, none⟩) := hv 5 22 rfl (by kernel_rfl)
      have bb := hD.b2
      exact .inl ⟨wanted_of rfl rfl eg, gen_reads (.slice C m cc) (by simp [go_sem, Act.eval, -Array.getD_eq_getD_getElem?, e22, bb]) rfl (hD)⟩
    | 7, ho =>
      simp at ho
      subst ho
      have eg : ac.tmps.getD 21 undef = .bool false := hv 4 21 rfl (by kernel_rfl)
      have e23 : ac.tmps.getD 23 undef = .slice C m cc := hv 6 23 rfl (by kernel_rfl)
      exact .inl ⟨wanted_of rfl rfl eg, gen_reads (.int .i64 (m : Int)) (by simp [go_sem, Act.eval, -Array.getD_eq_getD_getElem?, e23]) rfl (hD)⟩
    | 8, ho =>
      simp at ho
      subst ho
      have eg : ac.tmps.getD 21 undef = .bool false := hv 4 21 rfl (by kernel_rfl)
      have e5 : ac.tmps.getD 5 undef = .pointer (some ⟨w.heap.size, 0, none⟩) := hout 5 (by decide +kernel)
      exact .inl ⟨wanted_of rfl rfl eg, gen_reads (.pointer (some ⟨w.heap.size, 0, none⟩)) (by simp [go_sem, Act.eval, -Array.getD_eq_getD_getElem?, e5]) rfl (hD)⟩
    | 9, ho =>
      simp at ho
      subst ho
      have eg : ac.tmps.getD 21 undef = .bool false := hv 4 21 rfl (by kernel_rfl)
      have e25 : ac.tmps.getD 25 undef = .pointer (some ⟨w.heap.size, 0, none⟩) := hv 8 25 rfl (by kernel_rfl)
      have bb := hD.b0
      exact .inl ⟨wanted_of rfl rfl eg, gen_reads (.int .i64 t.has) (by simp [go_sem, Act.eval, -Array.getD_eq_getD_getElem?, e25, bb]) rfl (hD)⟩
    | 10, ho =>
      simp at ho
      subst ho
      have eg : ac.tmps.getD 21 undef = .bool false := hv 4 21 rfl (by kernel_rfl)
      have e26 : ac.tmps.getD 26 undef = .int .i64 t.has := hv 9 26 rfl (by kernel_rfl)
      refine .inl ⟨wanted_of rfl rfl eg, gen_enters 92 #[.int .i64 t.has] (by simp [go_sem, Act.eval, -Array.getD_eq_getD_getElem?, e26]) ?_⟩
      refine (unhide HCT _).mono ?_
      rintro e w2 ⟨rfl, hw2⟩
      exact ⟨_, rfl, rfl, by rw [hw2]; exact hD⟩
    | 11, ho =>
      simp at ho
      subst ho
      have eg : ac.tmps.getD 21 undef = .bool false := hv 4 21 rfl (by kernel_rfl)
      have e24 : ac.tmps.getD 24 undef = .int .i64 (m : Int) := hv 7 24 rfl (by kernel_rfl)
      have e27 : ac.tmps.getD 27 undef = .int .i64 (m : Int) := hv 10 27 rfl (by kernel_rfl)
      exact .inl ⟨wanted_of rfl rfl eg, gen_reads (.bool false) (by simp [go_sem, Act.eval, -Array.getD_eq_getD_getElem?, e24, e27]) rfl (hD)⟩
    | 12, ho =>
      simp at ho
      subst ho
      have e21 : ac.tmps.getD 21 undef = .bool false := hv 4 21 rfl (by kernel_rfl)
      have e28 : ac.tmps.getD 28 undef = .bool false := hv 11 28 rfl (by kernel_rfl)
      exact .inl ⟨rfl, gen_reads (.bool false) (by simp [go_sem, Act.eval, -Array.getD_eq_getD_getElem?, e21, e28]) rfl (hD)⟩
    | ix + 13, ho => simp at ho
  case hend =>
    intro v L w1 hD hall hv
    have h12 : v 12 = .bool false := hv 12 29 rfl
    have HE := hide hD
    have b0 := hD.b0
    have b1 := hD.b1
    have b2 := hD.b2
    clear hv hall hD h4 hc0 hc1 hc2
    simp only [putOps, List.getElem?_cons_zero, List.getElem?_cons_succ, Option.bind_some, List.length_cons, List.length_nil, Nat.reduceAdd, h12]
    clear h12
    go_frame
    go_wp2
    go_loopw [33] (fun x wr => ∃ k : Nat, k ≤ m ∧ x = .int .i64 k ∧ WT w w.heap.size (.int .i64 t.has) (.slice A t.rows.length c) (.slice C m cc) wr) (fun x _ => m - (intOf x).toNat)
    case atStart => exact ⟨0, Nat.zero_le _, rfl, unhide HE⟩
    case round =>
      clear b0 b1 b2 HE
      obtain ⟨k, hk, rfl, hD⟩ := hrel
      by_cases hlt : k < m
      · have k0 : (0 : Int) ≤ (k : Int) := by omega
        have k1 : (k : Int) < (m : Int) := by omega
        obtain ⟨b', o', rfl, A1, c1, d0, hI⟩ := unhide HCO k (by have := unhide HM; omega)
        have d0 := keep_below hD.bel d0
        have hcl := unhide HWC k (by have := unhide HM; omega) A1 c1 wr (hI.below hD.bel)
        rw [colV_len] at hcl
        have HCL := hide hcl
        have b1 := hD.b1
        have HD := hide hD
        clear hD hcl hI
        go_wp2_with ((go_at_call 93; refine (unhide HCL).mono ?_; rintro e w1 ⟨rfl, hb1⟩; have HD1 := hide ((unhide HD).below hb1); clear hb1))
        go_roundw
        case rel => exact ⟨k + 1, by omega, by go_num, unhide HD1⟩
        case measure => simp [intOf]; omega
      · obtain rfl : m = k := by omega
        have k1 : ¬ (m : Int) < (m : Int) := by omega
        have h13 : WT w w.heap.size (.int .i64 t.has) (.slice A t.rows.length c) (.slice C m cc) wr.drew ∧ True := ⟨hD.below ((Below.refl _ _).drew), trivial⟩
        clear hD
        go_wp2
        refine wp_region_gen (fun ix v => (([fun v => v = .pointer (some ⟨w.heap.size, 1, none⟩), fun v => v = .slice A t.rows.length c, fun v => v = .bool true, fun v => v = .bool false, fun v => v = .bool false, fun v => v = .int .i64 (j : Int), fun v => v = .bool false, fun v => v = .bool false, fun _ => True, fun _ => True, fun _ => True, fun _ => True, fun _ => True, fun _ => True, fun _ => True, fun _ => True, fun _ => True, fun v => v = .bool false, fun v => v = .bool false] : List (Value → Prop)).getD ix (fun _ => True)) v) (fun _ W => WT w w.heap.size (.int .i64 t.has) (.slice A t.rows.length c) (.slice C m cc) W ∧ True) (by kernel_rfl) (by kernel_rfl) (by kernel_rfl) h13 ?hstep ?hend
        case hstep =>
          intro ix o ho L ac w1 hD hL hed hcl hout hv
          match ix, ho with
          | 0, ho =>
            simp at ho
            subst ho
            have e5 : ac.tmps.getD 5 undef = .pointer (some ⟨w.heap.size, 0, none⟩) := hout 5 (by decide +kernel)
            exact .inl ⟨rfl, gen_reads (.pointer (some ⟨w.heap.size, 1, none⟩)) (by simp [go_sem, Act.eval, -Array.getD_eq_getD_getElem?, e5]) rfl (hD)⟩
          | 1, ho =>
            simp at ho
            subst ho
            have e46 : ac.tmps.getD 46 undef = .pointer (some ⟨w.heap.size, 1, none⟩) := hv 0 46 rfl (by kernel_rfl)
            have bb := hD.1.b1
            exact .inl ⟨rfl, gen_reads (.slice A t.rows.length c) (by simp [go_sem, Act.eval, -Array.getD_eq_getD_getElem?, e46, bb]) rfl (hD)⟩
          | 2, ho =>
            simp at ho
            subst ho
            have e47 : ac.tmps.getD 47 undef = .slice A t.rows.length c := hv 1 47 rfl (by kernel_rfl)
            refine .inl ⟨rfl, gen_enters 94 #[.slice A t.rows.length c] (by simp [go_sem, Act.eval, -Array.getD_eq_getD_getElem?, e47]) ?_⟩
            refine (unhide HRS _ hD.1.bel).mono ?_
            rintro e w2 ⟨rfl, hb2⟩
            exact ⟨_, rfl, rfl, hD.1.below hb2, trivial⟩
          | 3, ho =>
            simp at ho
            subst ho
            have e48 : ac.tmps.getD 48 undef = .bool true := hv 2 48 rfl (by kernel_rfl)
            exact .inl ⟨rfl, gen_reads (.bool false) (by simp [go_sem, Act.eval, -Array.getD_eq_getD_getElem?, e48]) rfl (hD)⟩
          | 4, ho =>
            simp at ho
            subst ho
            have e49 : ac.tmps.getD 49 undef = .bool false := hv 3 49 rfl (by kernel_rfl)
            exact .inl ⟨rfl, gen_reads (.bool false) (by simp [go_sem, Act.eval, -Array.getD_eq_getD_getElem?, e49]) rfl (hD)⟩
          | 5, ho =>
            simp at ho
            subst ho
            have eg : ac.tmps.getD 50 undef = .bool false := hv 4 50 rfl (by kernel_rfl)
            have e1 : ac.tmps.getD 1 undef = .int .i64 (j : Int) := hout 1 (by decide +kernel)
            exact .inl ⟨wanted_of rfl rfl eg, gen_reads (.int .i64 (j : Int)) (by simp [go_sem, Act.eval, -Array.getD_eq_getD_getElem?, e1]) rfl (hD)⟩
          | 6, ho =>
            simp at ho
            subst ho
            have eg : ac.tmps.getD 50 undef = .bool false := hv 4 50 rfl (by kernel_rfl)
            have e51 : ac.tmps.getD 51 undef = .int .i64 (j : Int) := hv 5 51 rfl (by kernel_rfl)
            have jz := unhide HJ
            exact .inl ⟨wanted_of rfl rfl eg, gen_reads (.bool false) (by simp [go_sem, Act.eval, -Array.getD_eq_getD_getElem?, e51, jz]) rfl (hD)⟩
          | 7, ho =>
            simp at ho
            subst ho
            have eg : ac.tmps.getD 50 undef = .bool false := hv 4 50 rfl (by kernel_rfl)
            have e52 : ac.tmps.getD 52 undef = .bool false := hv 6 52 rfl (by kernel_rfl)
            exact .inl ⟨wanted_of rfl rfl eg, gen_reads (.bool false) (by simp [go_sem, Act.eval, -Array.getD_eq_getD_getElem?, e52]) rfl (hD)⟩
          | 8, ho =>
            simp at ho
            subst ho
            have eg : ac.tmps.getD 53 undef = .bool !true := hv 7 53 rfl (by kernel_rfl)
            exact .inr ⟨unwanted_of rfl rfl eg, trivial, hD⟩
          | 9, ho =>
            simp at ho
            subst ho
            have eg : ac.tmps.getD 53 undef = .bool !true := hv 7 53 rfl (by kernel_rfl)
            exact .inr ⟨unwanted_of rfl rfl eg, trivial, hD⟩
          | 10, ho =>
            simp at ho
            subst ho
            have eg : ac.tmps.getD 53 undef = .bool !true := hv 7 53 rfl (by kernel_rfl)
            exact .inr ⟨unwanted_of rfl rfl eg, trivial, hD⟩
          | 11, ho =>
            simp at ho
            subst ho
            have eg : ac.tmps.getD 53 undef = .bool !true := hv 7 53 rfl (by kernel_rfl)
            exact .inr ⟨unwanted_of rfl rfl eg, trivial, hD⟩
          | 12, ho =>
            simp at ho
            subst ho
            have eg : ac.tmps.getD 53 undef = .bool !true := hv 7 53 rfl (by kernel_rfl)
            exact .inr ⟨unwanted_of rfl rfl eg, trivial, hD⟩
          | 13, ho =>
            simp at ho
            subst ho
            have eg : ac.tmps.getD 53 undef = .bool !true := hv 7 53 rfl (by kernel_rfl)
            exact .inr ⟨unwanted_of rfl rfl eg, trivial, hD⟩
          | 14, ho =>
            simp at ho
            subst ho
            have eg : ac.tmps.getD 53 undef = .bool !true := hv 7 53 rfl (by kernel_rfl)
            exact .inr ⟨unwanted_of rfl rfl eg, trivial, hD⟩
          | 15, ho =>
            simp at ho
            subst ho
            have eg : ac.tmps.getD 53 undef = .bool !true := hv 7 53 rfl (by kernel_rfl)
            exact .inr ⟨unwanted_of rfl rfl eg, trivial, hD⟩
          | 16, ho =>
            simp at ho
            subst ho
            have eg : ac.tmps.getD 53 undef = .bool !true := hv 7 53 rfl (by kernel_rfl)
            exact .inr ⟨unwanted_of rfl rfl eg, trivial, hD⟩
          | 17, ho =>
            simp at ho
            subst ho
            have eg : ac.tmps.getD 50 undef = .bool false := hv 4 50 rfl (by kernel_rfl)
            have e53 : ac.tmps.getD 53 undef = .bool false := hv 7 53 rfl (by kernel_rfl)
            exact .inl ⟨wanted_of rfl rfl eg, gen_reads (.bool false) (by simp [go_sem, Act.eval, -Array.getD_eq_getD_getElem?, e53]) rfl (hD)⟩
          | 18, ho =>
            simp at ho
            subst ho
            have e50 : ac.tmps.getD 50 undef = .bool false := hv 4 50 rfl (by kernel_rfl)
            have e63 : ac.tmps.getD 63 undef = .bool false := hv 17 63 rfl (by kernel_rfl)
            exact .inl ⟨rfl, gen_reads (.bool false) (by simp [go_sem, Act.eval, -Array.getD_eq_getD_getElem?, e50, e63]) rfl (hD)⟩
          | ix + 19, ho => simp at ho
        case hend =>
          intro v L w1 hD hall hv
          have h18 : v 18 = .bool false := hv 18 64 rfl
          have HE := hide hD.1.bel
          clear hv hall hD h13
          simp only [putOps, List.getElem?_cons_zero, List.getElem?_cons_succ, Option.bind_some, List.length_cons, List.length_nil, Nat.reduceAdd, h18]
          clear h18
          go_frame
          go_wp2
          go_ret
          exact ⟨rfl, unhide HE⟩
set_option maxRecDepth 8000 in
set_option maxHeartbeats 4000000 in
theorem wrongtable_next (tb tf n tcap j : Nat) (t : TabI) (A : Option Addr) (c : Nat) (C : Option Addr) (cc : Nat) (w : World) (hn : n ≤ 1000) (hj : j < n) (ht : TabAt w tb (tf + j * 3) A c C cc t) (hr : TabRight t) (i : Nat) (hij : j = i + 1) (hp : Int) (hpv : w.cell? ⟨tb, tf + i * 3, none⟩ = some (.int .i64 hp)) (hph : hp < t.has) :
    Calls Try.prog 68 #[.slice (some ⟨tb, tf, none⟩) n tcap, .int .i64 (j : Int)] w fun e w' => e = .returned (.int .i64 0) ∧ Below w.heap.size w w' := by
  have hset := set_any t.has
  rw [hr.set] at hset
  have hs0 := set_bd hr.set
  have hCT := fun W => count_any t.has W hs0.1 hs0.2
  have hRS := fun W (hb : Below w.heap.size w W) => rise_any A c (bsV t) W (by rw [bsV_len]; exact hr.few) (ht.bs.below hb) (fun k hk => by
    rw [bsV_len] at hk
    have h1 : ∀ q, q < t.rows.length → ((bsV t).getD q (0, 0)).1 = (t.rows.getD q dR).ix := fun q hq => by
      unfold bsV
      rw [List.getD_eq_getElem?_getD, List.getElem?_eq_getElem (by simpa using hq), List.getD_eq_getElem?_getD, List.getElem?_eq_getElem hq]
      simp
    rw [h1 k (by omega), h1 (k + 1) hk]
    exact hr.up k hk)
  rw [bsV_len] at hRS
  have hWC := fun k (hk : k < (lstTo t.has 8).length) A1 c1 W (h : IntsL W A1 (colV t k)) => wrongcol_any A1 c1 (colV t k) W (by rw [colV_len]; exact hr.few) h (fun j hj => col_val hr k j (by rwa [colV_len] at hj) hk)
  have hc0 := ht.c0
  have hc1 := ht.c1
  have hc2 := ht.c2
  have n0 : ¬ t.rows.length = 0 := by have := hr.one; omega
  have nf := hr.few
  have ml := lst_len t.has 8
  have j0 : (0 : Int) ≤ (j : Int) := by omega
  have j1 : (j : Int) < (n : Int) := by omega
  have HCO := hide ht.cols
  have jp : (0 : Int) < (j : Int) := by omega
  have hw1 : IntKind.i64.wrap ((j : Int) - 1) = (i : Int) := by rw [IntWalk.i64_in _ (by omega)]; omega
  have i0 : (0 : Int) ≤ (i : Int) := by omega
  have i1 : (i : Int) < (n : Int) := by omega
  have hlt2 : hp < t.has := hph
  have HPV := hide hpv
  have HIJ := hide hij
  clear hpv hij hph
  have HSE := hide hset
  have HRS := hide hRS
  have HWC := hide hWC
  have HCT := hide hCT
  clear hset hRS hWC hCT ht hr hs0
  generalize hm : (lstTo t.has 8).length = m at *
  have HM := hide hm
  clear hm
  go_enter Try.func68, Try.ntmps68
  go_wp2_with ((go_at_call 33; refine (unhide HSE _).mono ?_; rintro e w1 ⟨rfl, hw⟩; obtain rfl := hw.symm))
  have hWT := WT.start w (.int .i64 t.has) (.slice A t.rows.length c) (.slice C m cc) 98
  have h4 := hWT.below ((Below.refl (w.alloc (.cells #[.int .i64 t.has, .slice A t.rows.length c, .slice C m cc] 98)).heap.size _).drew)
  clear hWT
  refine wp_region_gen (fun ix v => (([fun v => v = .pointer (some ⟨w.heap.size, 1, none⟩), fun v => v = .slice A t.rows.length c, fun v => v = .int .i64 (t.rows.length : Int), fun v => v = .bool false, fun v => v = .bool false, fun v => v = .pointer (some ⟨w.heap.size, 2, none⟩), fun v => v = .slice C m cc, fun v => v = .int .i64 (m : Int), fun v => v = .pointer (some ⟨w.heap.size, 0, none⟩), fun v => v = .int .i64 t.has, fun v => v = .int .i64 (m : Int), fun v => v = .bool false, fun v => v = .bool false] : List (Value → Prop)).getD ix (fun _ => True)) v) (fun _ W => WT w w.heap.size (.int .i64 t.has) (.slice A t.rows.length c) (.slice C m cc) W) (by kernel_rfl) (by kernel_rfl) (by kernel_rfl) h4 ?hstep ?hend
  case hstep =>
    intro ix o ho L ac w1 hD hL hed hcl hout hv
    match ix, ho with
    | 0, ho =>
      simp at ho
      subst ho
      have e5 : ac.tmps.getD 5 undef = .pointer (some ⟨w.heap.size, 0, none⟩) := hout 5 (by decide +kernel)
      exact .inl ⟨rfl, gen_reads (.pointer (some ⟨w.heap.size, 1, none⟩)) (by simp [go_sem, Act.eval, -Array.getD_eq_getD_getElem?, e5]) rfl (hD)⟩
    | 1, ho =>
      simp at ho
      subst ho
      have e17 : ac.tmps.getD 17 undef = .pointer (some ⟨w.heap.size, 1, none⟩) := hv 0 17 rfl (by kernel_rfl)
      have bb := hD.b1
      exact .inl ⟨rfl, gen_reads (.slice A t.rows.length c) (by simp [go_sem, Act.eval, -Array.getD_eq_getD_getElem?, e17, bb]) rfl (hD)⟩
    | 2, ho =>
      simp at ho
      subst ho
      have e18 : ac.tmps.getD 18 undef = .slice A t.rows.length c := hv 1 18 rfl (by kernel_rfl)
      exact .inl ⟨rfl, gen_reads (.int .i64 (t.rows.length : Int)) (by simp [go_sem, Act.eval, -Array.getD_eq_getD_getElem?, e18]) rfl (hD)⟩
    | 3, ho =>
      simp at ho
      subst ho
      have e19 : ac.tmps.getD 19 undef = .int .i64 (t.rows.length : Int) := hv 2 19 rfl (by kernel_rfl)
      exact .inl ⟨rfl, gen_reads (.bool false) (by simp [go_sem, Act.eval, -Array.getD_eq_getD_getElem?, e19, n0]) rfl (hD)⟩
    | 4, ho =>
      simp at ho
      subst ho
      have e20 : ac.tmps.getD 20 undef = .bool false := hv 3 20 rfl (by kernel_rfl)
      exact .inl ⟨rfl, gen_reads (.bool false) (by simp [go_sem, Act.eval, -Array.getD_eq_getD_getElem?, e20]) rfl (hD)⟩
    | 5, ho =>
      simp at ho
      subst ho
      have eg : ac.tmps.getD 21 undef = .bool false := hv 4 21 rfl (by kernel_rfl)
      have e5 : ac.tmps.getD 5 undef = .pointer (some ⟨w.heap.size, 0, none⟩) := hout 5 (by decide +kernel)
      exact .inl ⟨wanted_of rfl rfl eg, gen_reads (.pointer (some ⟨w.heap.size, 2, none⟩)) (by simp [go_sem, Act.eval, -Array.getD_eq_getD_getElem?, e5]) rfl (hD)⟩
    | 6, ho =>
      simp at ho
      subst ho
      have eg : ac.tmps.getD 21 undef = .bool false := hv 4 21 rfl (by kernel_rfl)
      have e22 : ac.tmps.getD 22 undef = .pointer (some ⟨w.heap.size, 2, none⟩) := hv 5 22 rfl (by kernel_rfl)
      have bb := hD.b2
      exact .inl ⟨wanted_of rfl rfl eg, gen_reads (.slice C m cc) (by simp [go_sem, Act.eval, -Array.getD_eq_getD_getElem?, e22, bb]) rfl (hD)⟩
    | 7, ho =>
      simp at ho
      subst ho
      have eg : ac.tmps.getD 21 undef = .bool false := hv 4 21 rfl (by kernel_rfl)
      have e23 : ac.tmps.getD 23 undef = .slice C m cc := hv 6 23 rfl (by kernel_rfl)
      exact .inl ⟨wanted_of rfl rfl eg, gen_reads (.int .i64 (m : Int)) (by simp [go_sem, Act.eval, -Array.getD_eq_getD_getElem?, e23]) rfl (hD)⟩
    | 8, ho =>
      simp at ho
      subst ho
      have eg : ac.tmps.getD 21 undef = .bool false := hv 4 21 rfl (by kernel_rfl)
      have e5 : ac.tmps.getD 5 undef = .pointer (some ⟨w.heap.size, 0, none⟩) := hout 5 (by decide +kernel)
      exact .inl ⟨wanted_of rfl rfl eg, gen_reads (.pointer (some ⟨w.heap.size, 0, none⟩)) (by simp [go_sem, Act.eval, -Array.getD_eq_getD_getElem?, e5]) rfl (hD)⟩
    | 9, ho =>
      simp at ho
      subst ho
      have eg : ac.tmps.getD 21 undef = .bool false := hv 4 21 rfl (by kernel_rfl)
      have e25 : ac.tmps.getD 25 undef = .pointer (some ⟨w.heap.size, 0, none⟩) := hv 8 25 rfl (by kernel_rfl)
      have bb := hD.b0
      exact .inl ⟨wanted_of rfl rfl eg, gen_reads (.int .i64 t.has) (by simp [go_sem, Act.eval, -Array.getD_eq_getD_getElem?, e25, bb]) rfl (hD)⟩
    | 10, ho =>
      simp at ho
      subst ho
      have eg : ac.tmps.getD 21 undef = .bool false := hv 4 21 rfl (by kernel_rfl)
      have e26 : ac.tmps.getD 26 undef = .int .i64 t.has := hv 9 26 rfl (by kernel_rfl)
      refine .inl ⟨wanted_of rfl rfl eg, gen_enters 92 #[.int .i64 t.has] (by simp [go_sem, Act.eval, -Array.getD_eq_getD_getElem?, e26]) ?_⟩
      refine (unhide HCT _).mono ?_
      rintro e w2 ⟨rfl, hw2⟩
      exact ⟨_, rfl, rfl, by rw [hw2]; exact hD⟩
    | 11, ho =>
      simp at ho
      subst ho
      have eg : ac.tmps.getD 21 undef = .bool false := hv 4 21 rfl (by kernel_rfl)
      have e24 : ac.tmps.getD 24 undef = .int .i64 (m : Int) := hv 7 24 rfl (by kernel_rfl)
      have e27 : ac.tmps.getD 27 undef = .int .i64 (m : Int) := hv 10 27 rfl (by kernel_rfl)
      exact .inl ⟨wanted_of rfl rfl eg, gen_reads (.bool false) (by simp [go_sem, Act.eval, -Array.getD_eq_getD_getElem?, e24, e27]) rfl (hD)⟩
    | 12, ho =>
      simp at ho
      subst ho
      have e21 : ac.tmps.getD 21 undef = .bool false := hv 4 21 rfl (by kernel_rfl)
      have e28 : ac.tmps.getD 28 undef = .bool false := hv 11 28 rfl (by kernel_rfl)
      exact .inl ⟨rfl, gen_reads (.bool false) (by simp [go_sem, Act.eval, -Array.getD_eq_getD_getElem?, e21, e28]) rfl (hD)⟩
    | ix + 13, ho => simp at ho
  case hend =>
    intro v L w1 hD hall hv
    have h12 : v 12 = .bool false := hv 12 29 rfl
    have HE := hide hD
    have b0 := hD.b0
    have b1 := hD.b1
    have b2 := hD.b2
    clear hv hall hD h4 hc0 hc1 hc2
    simp only [putOps, List.getElem?_cons_zero, List.getElem?_cons_succ, Option.bind_some, List.length_cons, List.length_nil, Nat.reduceAdd, h12]
    clear h12
    go_frame
    go_wp2
    go_loopw [33] (fun x wr => ∃ k : Nat, k ≤ m ∧ x = .int .i64 k ∧ WT w w.heap.size (.int .i64 t.has) (.slice A t.rows.length c) (.slice C m cc) wr) (fun x _ => m - (intOf x).toNat)
    case atStart => exact ⟨0, Nat.zero_le _, rfl, unhide HE⟩
    case round =>
      clear b0 b1 b2 HE
      obtain ⟨k, hk, rfl, hD⟩ := hrel
      by_cases hlt : k < m
      · have k0 : (0 : Int) ≤ (k : Int) := by omega
        have k1 : (k : Int) < (m : Int) := by omega
        obtain ⟨b', o', rfl, A1, c1, d0, hI⟩ := unhide HCO k (by have := unhide HM; omega)
        have d0 := keep_below hD.bel d0
        have hcl := unhide HWC k (by have := unhide HM; omega) A1 c1 wr (hI.below hD.bel)
        rw [colV_len] at hcl
        have HCL := hide hcl
        have b1 := hD.b1
        have HD := hide hD
        clear hD hcl hI
        go_wp2_with ((go_at_call 93; refine (unhide HCL).mono ?_; rintro e w1 ⟨rfl, hb1⟩; have HD1 := hide ((unhide HD).below hb1); clear hb1))
        go_roundw
        case rel => exact ⟨k + 1, by omega, by go_num, unhide HD1⟩
        case measure => simp [intOf]; omega
      · obtain rfl : m = k := by omega
        have k1 : ¬ (m : Int) < (m : Int) := by omega
        have h13 : WT w w.heap.size (.int .i64 t.has) (.slice A t.rows.length c) (.slice C m cc) wr.drew ∧ wr.drew.cell? ⟨tb, tf + i * 3, none⟩ = some (.int .i64 hp) := ⟨hD.below ((Below.refl _ _).drew), keep_below (hD.bel.drew) (unhide HPV)⟩
        clear hD
        go_wp2
        refine wp_region_gen (fun ix v => (([fun v => v = .pointer (some ⟨w.heap.size, 1, none⟩), fun v => v = .slice A t.rows.length c, fun v => v = .bool true, fun v => v = .bool false, fun v => v = .bool false, fun v => v = .int .i64 (j : Int), fun v => v = .bool true, fun v => v = .bool true, fun v => v = .slice (some ⟨tb, tf, none⟩) n tcap, fun v => v = .int .i64 (j : Int), fun v => v = .int .i64 (i : Int), fun v => v = .pointer (some ⟨tb, tf + i * 3, none⟩), fun v => v = .pointer (some ⟨tb, tf + i * 3, none⟩), fun v => v = .int .i64 hp, fun v => v = .pointer (some ⟨w.heap.size, 0, none⟩), fun v => v = .int .i64 t.has, fun v => v = .bool false, fun v => v = .bool false, fun v => v = .bool false] : List (Value → Prop)).getD ix (fun _ => True)) v) (fun _ W => WT w w.heap.size (.int .i64 t.has) (.slice A t.rows.length c) (.slice C m cc) W ∧ W.cell? ⟨tb, tf + i * 3, none⟩ = some (.int .i64 hp)) (by kernel_rfl) (by kernel_rfl) (by kernel_rfl) h13 ?hstep ?hend
        case hstep =>
          intro ix o ho L ac w1 hD hL hed hcl hout hv
          match ix, ho with
          | 0, ho =>
            simp at ho
            subst ho
            have e5 : ac.tmps.getD 5 undef = .pointer (some ⟨w.heap.size, 0, none⟩) := hout 5 (by decide +kernel)
            exact .inl ⟨rfl, gen_reads (.pointer (some ⟨w.heap.size, 1, none⟩)) (by simp [go_sem, Act.eval, -Array.getD_eq_getD_getElem?, e5]) rfl (hD)⟩
          | 1, ho =>
            simp at ho
            subst ho
            have e46 : ac.tmps.getD 46 undef = .pointer (some ⟨w.heap.size, 1, none⟩) := hv 0 46 rfl (by kernel_rfl)
            have bb := hD.1.b1
            exact .inl ⟨rfl, gen_reads (.slice A t.rows.length c) (by simp [go_sem, Act.eval, -Array.getD_eq_getD_getElem?, e46, bb]) rfl (hD)⟩
          | 2, ho =>
            simp at ho
            subst ho
            have e47 : ac.tmps.getD 47 undef = .slice A t.rows.length c := hv 1 47 rfl (by kernel_rfl)
            refine .inl ⟨rfl, gen_enters 94 #[.slice A t.rows.length c] (by simp [go_sem, Act.eval, -Array.getD_eq_getD_getElem?, e47]) ?_⟩
            refine (unhide HRS _ hD.1.bel).mono ?_
            rintro e w2 ⟨rfl, hb2⟩
            exact ⟨_, rfl, rfl, hD.1.below hb2, keep_below hb2 hD.2⟩
          | 3, ho =>
            simp at ho
            subst ho
            have e48 : ac.tmps.getD 48 undef = .bool true := hv 2 48 rfl (by kernel_rfl)
            exact .inl ⟨rfl, gen_reads (.bool false) (by simp [go_sem, Act.eval, -Array.getD_eq_getD_getElem?, e48]) rfl (hD)⟩
          | 4, ho =>
            simp at ho
            subst ho
            have e49 : ac.tmps.getD 49 undef = .bool false := hv 3 49 rfl (by kernel_rfl)
            exact .inl ⟨rfl, gen_reads (.bool false) (by simp [go_sem, Act.eval, -Array.getD_eq_getD_getElem?, e49]) rfl (hD)⟩
          | 5, ho =>
            simp at ho
            subst ho
            have eg : ac.tmps.getD 50 undef = .bool false := hv 4 50 rfl (by kernel_rfl)
            have e1 : ac.tmps.getD 1 undef = .int .i64 (j : Int) := hout 1 (by decide +kernel)
            exact .inl ⟨wanted_of rfl rfl eg, gen_reads (.int .i64 (j : Int)) (by simp [go_sem, Act.eval, -Array.getD_eq_getD_getElem?, e1]) rfl (hD)⟩
          | 6, ho =>
            simp at ho
            subst ho
            have eg : ac.tmps.getD 50 undef = .bool false := hv 4 50 rfl (by kernel_rfl)
            have e51 : ac.tmps.getD 51 undef = .int .i64 (j : Int) := hv 5 51 rfl (by kernel_rfl)
            have jz : 0 < j := by omega
            exact .inl ⟨wanted_of rfl rfl eg, gen_reads (.bool true) (by simp [go_sem, Act.eval, -Array.getD_eq_getD_getElem?, e51, jz, jp]) rfl (hD)⟩
          | 7, ho =>
            simp at ho
            subst ho
            have eg : ac.tmps.getD 50 undef = .bool false := hv 4 50 rfl (by kernel_rfl)
            have e52 : ac.tmps.getD 52 undef = .bool true := hv 6 52 rfl (by kernel_rfl)
            exact .inl ⟨wanted_of rfl rfl eg, gen_reads (.bool true) (by simp [go_sem, Act.eval, -Array.getD_eq_getD_getElem?, e52]) rfl (hD)⟩
          | 8, ho =>
            simp at ho
            subst ho
            have eg : ac.tmps.getD 53 undef = .bool true := hv 7 53 rfl (by kernel_rfl)
            have e0 : ac.tmps.getD 0 undef = .slice (some ⟨tb, tf, none⟩) n tcap := hout 0 (by decide +kernel)
            exact .inl ⟨wanted_of rfl rfl eg, gen_reads (.slice (some ⟨tb, tf, none⟩) n tcap) (by simp [go_sem, Act.eval, -Array.getD_eq_getD_getElem?, e0]) rfl (hD)⟩
          | 9, ho =>
            simp at ho
            subst ho
            have eg : ac.tmps.getD 53 undef = .bool true := hv 7 53 rfl (by kernel_rfl)
            have e1 : ac.tmps.getD 1 undef = .int .i64 (j : Int) := hout 1 (by decide +kernel)
            exact .inl ⟨wanted_of rfl rfl eg, gen_reads (.int .i64 (j : Int)) (by simp [go_sem, Act.eval, -Array.getD_eq_getD_getElem?, e1]) rfl (hD)⟩
          | 10, ho =>
            simp at ho
            subst ho
            have eg : ac.tmps.getD 53 undef = .bool true := hv 7 53 rfl (by kernel_rfl)
            have e55 : ac.tmps.getD 55 undef = .int .i64 (j : Int) := hv 9 55 rfl (by kernel_rfl)
            exact .inl ⟨wanted_of rfl rfl eg, gen_reads (.int .i64 (i : Int)) (by simp [go_sem, Act.eval, -Array.getD_eq_getD_getElem?, e55, hw1]) rfl (hD)⟩
          | 11, ho =>
            simp at ho
            subst ho
            have eg : ac.tmps.getD 53 undef = .bool true := hv 7 53 rfl (by kernel_rfl)
            have e54 : ac.tmps.getD 54 undef = .slice (some ⟨tb, tf, none⟩) n tcap := hv 8 54 rfl (by kernel_rfl)
            have e56 : ac.tmps.getD 56 undef = .int .i64 (i : Int) := hv 10 56 rfl (by kernel_rfl)
            exact .inl ⟨wanted_of rfl rfl eg, gen_reads (.pointer (some ⟨tb, tf + i * 3, none⟩)) (by simp [go_sem, Act.eval, -Array.getD_eq_getD_getElem?, e54, e56, i0, i1]) rfl (hD)⟩
          | 12, ho =>
            simp at ho
            subst ho
            have eg : ac.tmps.getD 53 undef = .bool true := hv 7 53 rfl (by kernel_rfl)
            have e57 : ac.tmps.getD 57 undef = .pointer (some ⟨tb, tf + i * 3, none⟩) := hv 11 57 rfl (by kernel_rfl)
            exact .inl ⟨wanted_of rfl rfl eg, gen_reads (.pointer (some ⟨tb, tf + i * 3, none⟩)) (by simp [go_sem, Act.eval, -Array.getD_eq_getD_getElem?, e57]) rfl (hD)⟩
          | 13, ho =>
            simp at ho
            subst ho
            have eg : ac.tmps.getD 53 undef = .bool true := hv 7 53 rfl (by kernel_rfl)
            have e58 : ac.tmps.getD 58 undef = .pointer (some ⟨tb, tf + i * 3, none⟩) := hv 12 58 rfl (by kernel_rfl)
            have bb := hD.2
            exact .inl ⟨wanted_of rfl rfl eg, gen_reads (.int .i64 hp) (by simp [go_sem, Act.eval, -Array.getD_eq_getD_getElem?, e58, bb]) rfl (hD)⟩
          | 14, ho =>
            simp at ho
            subst ho
            have eg : ac.tmps.getD 53 undef = .bool true := hv 7 53 rfl (by kernel_rfl)
            have e5 : ac.tmps.getD 5 undef = .pointer (some ⟨w.heap.size, 0, none⟩) := hout 5 (by decide +kernel)
            exact .inl ⟨wanted_of rfl rfl eg, gen_reads (.pointer (some ⟨w.heap.size, 0, none⟩)) (by simp [go_sem, Act.eval, -Array.getD_eq_getD_getElem?, e5]) rfl (hD)⟩
          | 15, ho =>
            simp at ho
            subst ho
            have eg : ac.tmps.getD 53 undef = .bool true := hv 7 53 rfl (by kernel_rfl)
            have e60 : ac.tmps.getD 60 undef = .pointer (some ⟨w.heap.size, 0, none⟩) := hv 14 60 rfl (by kernel_rfl)
            have bb := hD.1.b0
            exact .inl ⟨wanted_of rfl rfl eg, gen_reads (.int .i64 t.has) (by simp [go_sem, Act.eval, -Array.getD_eq_getD_getElem?, e60, bb]) rfl (hD)⟩
          | 16, ho =>
            simp at ho
            subst ho
            have eg : ac.tmps.getD 53 undef = .bool true := hv 7 53 rfl (by kernel_rfl)
            have e59 : ac.tmps.getD 59 undef = .int .i64 hp := hv 13 59 rfl (by kernel_rfl)
            have e61 : ac.tmps.getD 61 undef = .int .i64 t.has := hv 15 61 rfl (by kernel_rfl)
            exact .inl ⟨wanted_of rfl rfl eg, gen_reads (.bool false) (by simp [go_sem, Act.eval, -Array.getD_eq_getD_getElem?, e59, e61, hlt2]) rfl (hD)⟩
          | 17, ho =>
            simp at ho
            subst ho
            have eg : ac.tmps.getD 50 undef = .bool false := hv 4 50 rfl (by kernel_rfl)
            have e53 : ac.tmps.getD 53 undef = .bool true := hv 7 53 rfl (by kernel_rfl)
            have e62 : ac.tmps.getD 62 undef = .bool false := hv 16 62 rfl (by kernel_rfl)
            exact .inl ⟨wanted_of rfl rfl eg, gen_reads (.bool false) (by simp [go_sem, Act.eval, -Array.getD_eq_getD_getElem?, e53, e62]) rfl (hD)⟩
          | 18, ho =>
            simp at ho
            subst ho
            have e50 : ac.tmps.getD 50 undef = .bool false := hv 4 50 rfl (by kernel_rfl)
            have e63 : ac.tmps.getD 63 undef = .bool false := hv 17 63 rfl (by kernel_rfl)
            exact .inl ⟨rfl, gen_reads (.bool false) (by simp [go_sem, Act.eval, -Array.getD_eq_getD_getElem?, e50, e63]) rfl (hD)⟩
          | ix + 19, ho => simp at ho
        case hend =>
          intro v L w1 hD hall hv
          have h18 : v 18 = .bool false := hv 18 64 rfl
          have HE := hide hD.1.bel
          clear hv hall hD h13
          simp only [putOps, List.getElem?_cons_zero, List.getElem?_cons_succ, Option.bind_some, List.length_cons, List.length_nil, Nat.reduceAdd, h18]
          clear h18
          go_frame
          go_wp2
          go_ret
          exact ⟨rfl, unhide HE⟩
end Go.Proofs.Ytnbleebilmghcab
namespace Go.Proofs.Ytnbleebilmghcab
open Go Go.RowKit
def hasB (a k : Int) : Bool := decide (0 ≤ k ∧ k < 8) && tb a k.toNat
theorem B13.keep {b : Nat} {u0 u1 : Value} {W W1 : World} (h : B13 b u0 u1 W) (hb : Below (b + 1) W W1) : B13 b u0 u1 W1 :=
  ⟨(hb.cell (p := ⟨b, 0, none⟩) (by simp)).trans h.e0, (hb.cell (p := ⟨b, 1, none⟩) (by simp)).trans h.e1, fun i => (hb.frozen (p := ⟨b, i, none⟩) (by simp)).trans (h.f i)⟩
theorem cells_one (r : RowI) : cellsOfRows [r] = rowCells r := by simp [cellsOfRows]
theorem row_new (W : World) (r : RowI) : ∀ j u, (rowCells r)[j]? = some u → (W.alloc (.cells #[.int .i64 r.ix, .int .i64 r.gen, .int .i64 r.has, .int .i64 (r.v 0), .int .i64 (r.v 1), .int .i64 (r.v 2), .int .i64 (r.v 3), .int .i64 (r.v 4), .int .i64 (r.v 5), .int .i64 (r.v 6), .int .i64 (r.v 7)] 53)).cell? ((⟨W.heap.size, 0, none⟩ : Addr).add j) = some u := (vb1_new W r).src
end Go.Proofs.Ytnbleebilmghcab
namespace Go.Proofs.Ytnbleebilmghcab
open Go Go.RowKit
attribute [local go_sem ↓] Go.wp_at_zero Go.wp_at_succ
theorem own_keepN {w w1 : World} {base size n N : Nat} {e : TypeId} {v : Value} {xs : List Value} (h : w.ownsRow base e size v n xs) (hlt : ∀ g, v.ownBlock = some g → g < N) (hb : Below N w w1) : w1.ownsRow base e size v n xs := by
  refine ⟨h.1, ?_⟩
  rcases h.2 with hn | ⟨g, cap, cur, rfl, hb', hgg, rest⟩
  · exact .inl hn
  · refine .inr ⟨g, cap, cur, rfl, hb', ?_, rest⟩
    rw [hb.block g (hlt g rfl)]
    exact hgg
structure AR (w : World) (base bx N : Nat) (u0 u1 u2 vh : Value) (L : List Int) (v : Value) (rows : List RowI) (W : World) : Prop where
  bel : Below base w W
  box : W.heap[bx]? = some (.cells #[u0, u1, u2] 98 (0, 0))
  held : W.ownsRow 0 3 1 vh L.length (cellsOfInts L)
  own : W.ownsRow base 53 11 v rows.length (cellsOfRows rows)
  bN : base ≤ N
  xN : bx < N
  hN : ∀ g, vh.ownBlock = some g → g < N
  vN : ∀ g, v.ownBlock = some g → g < N
  sN : N ≤ W.heap.size
section
variable {w W W1 : World} {base bx N : Nat} {u0 u1 u2 vh : Value} {L : List Int} {v : Value} {rows : List RowI}
theorem AR.keep (h : AR w base bx N u0 u1 u2 vh L v rows W) (hb : Below N W W1) : AR w base bx N u0 u1 u2 vh L v rows W1 :=
  ⟨h.bel.trans (hb.mono h.bN), (hb.block bx h.xN).trans h.box, own_keepN h.held h.hN hb, own_keepN h.own h.vN hb, h.bN, h.xN, h.hN, h.vN, Nat.le_trans h.sN hb.size⟩
theorem AR.below (h : AR w base bx N u0 u1 u2 vh L v rows W) (hb : Below W.heap.size W W1) : AR w base bx N u0 u1 u2 vh L v rows W1 := h.keep (hb.mono h.sN)
theorem AR.up (h : AR w base bx N u0 u1 u2 vh L v rows W) : AR w base bx W.heap.size u0 u1 u2 vh L v rows W :=
  ⟨h.bel, h.box, h.held, h.own, Nat.le_trans h.bN h.sN, Nat.lt_of_lt_of_le h.xN h.sN, fun g e => Nat.lt_of_lt_of_le (h.hN g e) h.sN, fun g e => Nat.lt_of_lt_of_le (h.vN g e) h.sN, Nat.le_refl _⟩
theorem AR.cell (h : AR w base bx N u0 u1 u2 vh L v rows W) : W.cell? ⟨bx, 0, none⟩ = some u0 ∧ W.cell? ⟨bx, 1, none⟩ = some u1 ∧ W.cell? ⟨bx, 2, none⟩ = some u2 := by
  refine ⟨?_, ?_, ?_⟩ <;> simp [World.cell?, h.box]
theorem AR.app {g cap : Nat} (h : AR w base bx N u0 u1 u2 vh L v rows W) (r : RowI) (ho : W1.ownsRow base 53 11 (.slice (some ⟨g, 0, none⟩) (rows.length + 1) cap) (rows.length + 1) (cellsOfRows rows ++ rowCells r)) (hg : W.grownBy W1 v.ownBlock) :
    AR w base bx W1.heap.size u0 u1 u2 vh L (.slice (some ⟨g, 0, none⟩) (rows.length + 1) cap) (rows ++ [r]) W1 := by
  have hc : cellsOfRows (rows ++ [r]) = cellsOfRows rows ++ rowCells r := by rw [cells_app, cells_one]
  have hb : Below base W W1 := grown_below hg (fun k e => (h.own.lt k e).1) (Nat.le_trans h.bN h.sN)
  refine ⟨h.bel.trans hb, (hg.block bx (Nat.lt_of_lt_of_le h.xN h.sN) (fun e => own_nety h.own ⟨_, h.box⟩ (by decide) e.symm)).trans h.box, h.held.kept hg (own_apart h.held h.own (by decide)), ?_, Nat.le_trans (Nat.le_trans h.bN h.sN) hg.size, Nat.lt_of_lt_of_le h.xN (Nat.le_trans h.sN hg.size), fun k e => Nat.lt_of_lt_of_le (h.hN k e) (Nat.le_trans h.sN hg.size), fun k e => (ho.lt k e).2, Nat.le_refl _⟩
  rw [hc, List.length_append, List.length_singleton]
  exact ho
end
theorem hasI_hasB' (h p : Int) (h0 : 0 ≤ h) (h1 : h ≤ 255) : hasI h p = hasB h p := by
  by_cases hp : 0 ≤ p ∧ p < 8
  · obtain ⟨m, rfl⟩ := Int.eq_ofNat_of_zero_le h0
    obtain ⟨q, rfl⟩ := Int.eq_ofNat_of_zero_le hp.1
    have key : ∀ m : Fin 256, ∀ q : Fin 8, hasI (m.val : Int) (q.val : Int) = hasB (m.val : Int) (q.val : Int) := by decide +kernel
    exact key ⟨m, by omega⟩ ⟨q, by omega⟩
  · have e1 : hasB h p = false := by unfold hasB; simp; omega
    rw [e1]
    cases e : hasI h p
    · rfl
    · obtain ⟨k, hk, rfl⟩ := has_part h p e
      omega
def partRow (r : RowI) (k : Nat) : RowI := ⟨r.ix, r.gen, r.has, fun p => if ((lstTo r.has 8).take k).contains (p : Int) = true then r.v p else 0⟩
theorem partRow_succ (r : RowI) (k p : Nat) (hk : k < (lstTo r.has 8).length) (hp : (lstTo r.has 8).getD k 0 = (p : Int)) : partRow r (k + 1) = ⟨r.ix, r.gen, r.has, fun q => if q = p then r.v p else (partRow r k).v q⟩ := by
  unfold partRow
  congr 1
  funext q
  rw [List.take_succ_eq_append_getElem hk]
  have e : (lstTo r.has 8)[k] = (p : Int) := by rw [← hp, List.getD_eq_getElem?_getD, List.getElem?_eq_getElem hk]; rfl
  rw [e]
  by_cases h : q = p
  · subst h; simp
  · have : ¬ (q : Int) = (p : Int) := by omega
    simp [h, this]
theorem partRow_all (r : RowI) (hr : rvB r = true) : rowCells (partRow r (lstTo r.has 8).length) = rowCells r := by
  have h : ∀ p, p < 8 → (partRow r (lstTo r.has 8).length).v p = r.v p := fun p hp => by
    show (if ((lstTo r.has 8).take (lstTo r.has 8).length).contains (p : Int) = true then r.v p else 0) = r.v p
    rw [List.take_length, lst_mem]
    by_cases ht : tb r.has p = true
    · simp [hp, ht]
    · have := ((rv_parts hr).2 p hp).2
      have hb := (rv_parts hr).1
      have e2 : hasI r.has (p : Int) = tb r.has p := by
        rw [hasI_hasB' _ _ hb.1 hb.2]
        unfold hasB
        have : decide (0 ≤ (p : Int) ∧ (p : Int) < 8) = true := by simp; omega
        rw [this]; simp
      rw [e2] at this
      simp only [ht, and_false, decide_false, Bool.false_eq_true, if_false]
      rcases this with h | h
      · exact h.symm
      · exact absurd h ht
  unfold rowCells
  rw [h 0 (by omega), h 1 (by omega), h 2 (by omega), h 3 (by omega), h 4 (by omega), h 5 (by omega), h 6 (by omega), h 7 (by omega)]
  rfl
end Go.Proofs.Ytnbleebilmghcab
namespace Go.Proofs.Ytnbleebilmghcab
open Go Go.RowKit
attribute [local go_sem ↓] Go.wp_at_zero Go.wp_at_succ
theorem rowAt_zero {W : World} {b : Nat} {y : RowI} (h : RowAt W b 0 y) : W.cell? ⟨b, 0, none⟩ = some (.int .i64 y.ix) ∧ W.cell? ⟨b, 1, none⟩ = some (.int .i64 y.gen) ∧ W.cell? ⟨b, 2, none⟩ = some (.int .i64 y.has) ∧ W.cell? ⟨b, 3, none⟩ = some (.int .i64 (y.v 0)) ∧ W.cell? ⟨b, 4, none⟩ = some (.int .i64 (y.v 1)) ∧ W.cell? ⟨b, 5, none⟩ = some (.int .i64 (y.v 2)) ∧ W.cell? ⟨b, 6, none⟩ = some (.int .i64 (y.v 3)) ∧ W.cell? ⟨b, 7, none⟩ = some (.int .i64 (y.v 4)) ∧ W.cell? ⟨b, 8, none⟩ = some (.int .i64 (y.v 5)) ∧ W.cell? ⟨b, 9, none⟩ = some (.int .i64 (y.v 6)) ∧ W.cell? ⟨b, 10, none⟩ = some (.int .i64 (y.v 7)) :=
  ⟨h.c0, h.c1, h.c2, h.v 0 (by omega), h.v 1 (by omega), h.v 2 (by omega), h.v 3 (by omega), h.v 4 (by omega), h.v 5 (by omega), h.v 6 (by omega), h.v 7 (by omega)⟩
theorem AR.start {w w1 : World} {base : Nat} {u0 u1 u2 v vh : Value} {l : List RowI} {L : List Int} (hv : w.ownsRow base 53 11 v l.length (cellsOfRows l)) (hb : base ≤ w.heap.size) (hb1 : Below (w.alloc (.cells #[u0, u1, u2] 98)).heap.size (w.alloc (.cells #[u0, u1, u2] 98)) w1)
    (hh : w1.ownsRow (w.alloc (.cells #[u0, u1, u2] 98)).heap.size 3 1 vh L.length (L.map (Value.int .i64))) : AR w base w.heap.size w1.heap.size u0 u1 u2 vh L v l w1 := by
  have hz : (w.alloc (.cells #[u0, u1, u2] 98)).heap.size = w.heap.size + 1 := by simp
  have h2 := bel1 w (.cells #[u0, u1, u2] 98)
  have hs := hb1.size
  have hbx : (w.alloc (.cells #[u0, u1, u2] 98)).heap[w.heap.size]? = some (.cells #[u0, u1, u2] 98 (0, 0)) := by show (w.heap.push _)[w.heap.size]? = _; simp
  refine ⟨(h2.mono hb).trans (hb1.mono (by omega)), (hb1.block w.heap.size (by omega)).trans hbx, own_le hh (by omega), own_kept (own_kept hv h2) hb1, by omega, by omega, fun g e => (hh.lt g e).2, fun g e => ?_, Nat.le_refl _⟩
  have := (hv.lt g e).2
  omega
set_option maxRecDepth 8000 in
set_option maxHeartbeats 8000000 in
theorem addrows_any (v : Value) (l : List RowI) (t : TabI) (A : Option Addr) (c : Nat) (C : Option Addr) (cc : Nat) (w0 w : World) (base : Nat) (hv : w.ownsRow base 53 11 v l.length (cellsOfRows l)) (hb : base ≤ w.heap.size) (h0 : Below w0.heap.size w0 w) (hb0 : w0.heap.size ≤ base) (hbs : BsAt w0 A (bsV t)) (hco : ColsAt w0 C t) (hr : TabRight t) (hl : l.length ≤ 1000) :
    Calls Try.prog 69 #[v, .agg #[.int .i64 t.has, .slice A t.rows.length c, .slice C (lstTo t.has 8).length cc]] w fun e w' => ∃ v', e = .returned v' ∧ w'.ownsRow base 53 11 v' (l ++ t.rows).length (cellsOfRows (l ++ t.rows)) ∧ Below base w w' := by
  have hs0 := set_bd hr.set
  have hLI := fun W => list_any t.has W hs0.1 hs0.2
  obtain ⟨i61, hi61, hz61, hs61, hb61⟩ := info_parts info61
  have nf := hr.few
  have ml := lst_len t.has 8
  have HI := hide hi61
  have HZ := hide hz61
  have HS := hide hs61
  have HB := hide hb61
  have HLI := hide hLI
  have HBS := hide hbs
  have HCO := hide hco
  have HR := hide hr
  have HV := hide hv
  have H0 := hide h0
  obtain ⟨u0, hu0⟩ : ∃ u, u = Value.int .i64 t.has := ⟨_, rfl⟩
  obtain ⟨u1, hu1⟩ : ∃ u, u = Value.slice A t.rows.length c := ⟨_, rfl⟩
  obtain ⟨u2, hu2⟩ : ∃ u, u = Value.slice C (lstTo t.has 8).length cc := ⟨_, rfl⟩
  have HU0 := hide hu0
  have HU1 := hide hu1
  have HU2 := hide hu2
  clear hs0 hLI hi61 hz61 hs61 hb61 hbs hco hr hv h0 hu0 hu1 hu2
  go_enter Try.func69, Try.ntmps69
  go_wp2_with ((go_at_call 91; refine (unhide HLI _).mono ?_; rintro e w1 ⟨vh, rfl, hh, hb1⟩; obtain ⟨Ah, ch, rfl⟩ := own_one hh; have hA := AR.start (unhide HV) hb hb1 hh; obtain ⟨a0, a1, a2⟩ := hA.cell; have HA := hide hA; clear hA hh hb1))
  go_loopw [0, 17] (fun x y wr => ∃ i : Nat, i ≤ t.rows.length ∧ y = .int .i64 i ∧ ∃ N, AR w base w.heap.size N (.int .i64 t.has) (.slice A t.rows.length c) (.slice C (lstTo t.has 8).length cc) (.slice Ah (lstTo t.has 8).length ch) (lstTo t.has 8) x (l ++ t.rows.take i) wr) (fun _ y _ => t.rows.length - (intOf y).toNat)
  case atStart => exact ⟨0, Nat.zero_le _, rfl, _, by simpa using unhide HA⟩
  case round =>
    clear a0 a1 a2 HA HV
    obtain ⟨wo, rfl⟩ : ∃ wo, wo = wr := ⟨wr, rfl⟩
    obtain ⟨i, hi, rfl, N, hA⟩ := hrel
    have H0W := hide ((unhide H0).trans (hA.bel.mono hb0))
    by_cases hlt : i < t.rows.length
    · have i0 : (0 : Int) ≤ (i : Int) := by omega
      have i1 : (i : Int) < (t.rows.length : Int) := by omega
      obtain ⟨r, hrr⟩ : ∃ r, r = t.rows[i] := ⟨_, rfl⟩
      have hrh := (unhide HR).has r (by rw [hrr]; exact List.getElem_mem hlt)
      obtain ⟨bb, bo, hAb, g0, g1⟩ := unhide HBS i (by rw [bsV_len]; exact hlt)
      have hbv : (bsV t).getD i (0, 0) = (r.ix, r.gen) := by
        unfold bsV
        rw [List.getD_eq_getElem?_getD, List.getElem?_eq_getElem (by simpa using hlt), hrr]
        simp
      rw [hbv] at g0 g1
      have g0 := keep_below (unhide H0W) g0
      have g1 := keep_below (unhide H0W) g1
      dsimp only at g0 g1
      obtain ⟨a0, a1, a2⟩ := hA.cell
      have lbx : w.heap.size < wo.heap.size := Nat.lt_of_lt_of_le hA.xN hA.sN
      have HTK := hide (List.take_succ_eq_append_getElem hlt)
      have HRR := hide hrr
      have HRH := hide hrh
      have HAU := hide hA.up
      obtain ⟨h5, h6⟩ := box_row (wo.alloc (.cells #[.int .i64 r.ix, .int .i64 r.gen] 50)) ⟨r.ix, r.gen, t.has, fun _ => 0⟩ 53
      have hz5 : (wo.alloc (.cells #[.int .i64 r.ix, .int .i64 r.gen] 50)).heap.size = wo.heap.size + 1 := by simp
      rw [hz5] at h5 h6
      have hp0 : RowAt ((wo.alloc (.cells #[.int .i64 r.ix, .int .i64 r.gen] 50)).alloc (.cells #[.int .i64 r.ix, .int .i64 r.gen, .int .i64 t.has, .int .i64 0, .int .i64 0, .int .i64 0, .int .i64 0, .int .i64 0, .int .i64 0, .int .i64 0, .int .i64 0] 53)) (wo.heap.size + 1) 0 (partRow r 0) := ⟨h5.c0, h5.c1, by rw [show (partRow r 0).has = t.has from hrh.1]; exact h5.c2, fun p hp => by rw [show (partRow r 0).v p = 0 from by simp [partRow]]; exact h5.v p hp⟩
      have HP0 := hide hp0
      have HF0 := hide h6
      have HA2 := hide ((unhide HAU).below (bel2 wo (.cells #[.int .i64 r.ix, .int .i64 r.gen] 50) (.cells #[.int .i64 r.ix, .int .i64 r.gen, .int .i64 t.has, .int .i64 0, .int .i64 0, .int .i64 0, .int .i64 0, .int .i64 0, .int .i64 0, .int .i64 0, .int .i64 0] 53)))
      clear hA hbv hrr hrh h5 h6 hz5 hp0
      subst hAb
      go_wp2
      go_loopw [28] (fun x wr => ∃ k : Nat, k ≤ (lstTo t.has 8).length ∧ x = .int .i64 k ∧ AR w base w.heap.size wo.heap.size (.int .i64 t.has) (.slice (some ⟨bb, bo, none⟩) t.rows.length c) (.slice C (lstTo t.has 8).length cc) (.slice Ah (lstTo t.has 8).length ch) (lstTo t.has 8) u0 (l ++ t.rows.take i) wr ∧ RowAt wr (wo.heap.size + 1) 0 (partRow r k) ∧ (∀ q, wr.frozen? ⟨wo.heap.size + 1, q, none⟩ = false)) (fun x _ => (lstTo t.has 8).length - (intOf x).toNat)
      case atStart => exact ⟨0, Nat.zero_le _, rfl, unhide HA2, unhide HP0, unhide HF0⟩
      case round =>
        clear HA2 HP0 HF0 g0 g1 a0 a1 a2
        obtain ⟨k, hk, rfl, hA, hRo, hFr⟩ := hrel
        by_cases hlk : k < (lstTo t.has 8).length
        · have k0 : (0 : Int) ≤ (k : Int) := by omega
          have k1 : (k : Int) < ((lstTo t.has 8).length : Int) := by omega
          obtain ⟨p, hp, hpk⟩ : ∃ p : Nat, p < 8 ∧ (lstTo t.has 8).getD k 0 = (p : Int) := by
            have hm : (lstTo t.has 8).getD k 0 ∈ lstTo t.has 8 := by
              rw [List.getD_eq_getElem?_getD, List.getElem?_eq_getElem hlk]; exact List.getElem_mem hlk
            generalize (lstTo t.has 8).getD k 0 = z at *
            unfold lstTo at hm
            rw [List.mem_map] at hm
            obtain ⟨q, hq, e⟩ := hm
            rw [List.mem_filter, List.mem_range] at hq
            exact ⟨q, hq.1, e.symm⟩
          obtain ⟨gh, ch', hvh, _, _⟩ := own_pos hA.held (by omega)
          simp only [Value.slice.injEq, true_and] at hvh
          obtain ⟨hvA, hvc⟩ := hvh
          have hcell : wr.cell? ⟨gh, k, none⟩ = some (.int .i64 (p : Int)) := by
            have hh := hA.held
            rw [hvA] at hh
            refine own_cell hh ?_
            unfold cellsOfInts
            rw [List.getElem?_map, List.getElem?_eq_getElem hlk]
            rw [List.getD_eq_getElem?_getD, List.getElem?_eq_getElem hlk] at hpk
            simpa using hpk
          obtain ⟨b', o', hC, A1, c1, d0, hI⟩ := unhide HCO k hlk
          obtain ⟨b2, o2, hA1, d1⟩ := hI i (by rw [colV_len]; exact hlt)
          have hwi : Below w0.heap.size w0 wr := (unhide H0).trans (hA.bel.mono hb0)
          have d0 := keep_below hwi d0
          have d1 : wr.cell? ⟨b2, o2 + i, none⟩ = some (.int .i64 (r.v p)) := by
            have e : (colV t k).getD i 0 = r.v p := by
              unfold colV
              rw [hpk, Int.toNat_natCast, List.getD_eq_getElem?_getD, List.getElem?_eq_getElem (by simpa using hlt), unhide HRR]
              simp
            rw [← e]
            exact keep_below hwi d1
          obtain ⟨a0, a1, a2⟩ := hA.cell
          have HST := hide (partRow_succ r k p (by rw [(unhide HRH).1]; exact hlk) (by rw [(unhide HRH).1]; exact hpk))
          have p0 : (0 : Int) ≤ (p : Int) := by omega
          have p1 : (p : Int) < 8 := by omega
          have HAA := hide hA
          have HRO := hide hRo
          have HFR := hide hFr
          clear hA hRo hFr hpk hwi
          subst hC hA1 hvA hvc
          go_wp2_with ((refine wpList_put1 rfl 3 (.tmp 43) (.tmp 41) rfl (wo.heap.size + 1) (3 + p) (.int .i64 (r.v p)) rfl rfl rfl size3 (by have := there_of ((unhide HRO).v p hp) (unhide HFR); rwa [Nat.zero_add] at this) ?_; intro W13 hW13; have hY := rowAt_set_v (unhide HRO) p hp (r.v p); rw [Nat.zero_add, ← hW13] at hY; have hZ := (unhide HAA).keep ((Below.refl wo.heap.size wr).setCell (p := ⟨wo.heap.size + 1, 3 + p, none⟩) (by simp) (.int .i64 (r.v p))); rw [← hW13] at hZ; have HFN : Hid (∀ q, W13.frozen? ⟨wo.heap.size + 1, q, none⟩ = false) := hide (fun q => by rw [hW13]; simpa using unhide HFR q); have HY := hide hY; have HZZ := hide hZ; clear hW13 hY hZ))
          go_roundw
          case rel => exact ⟨k + 1, by omega, by go_num, unhide HZZ, by rw [unhide HST]; exact unhide HY, unhide HFN⟩
          case measure => simp [intOf]; omega
        · obtain rfl : k = (lstTo t.has 8).length := by omega
          have hec := partRow_all r (unhide HRH).2
          rw [(unhide HRH).1] at hec
          generalize partRow r (lstTo t.has 8).length = y at *
          have HEC := hide hec
          obtain ⟨p0, p1, p2, p3, p4, p5, p6, p7, p8, p9, p10⟩ := rowAt_zero hRo
          have HAA := hide hA
          have hlen : (l ++ t.rows.take i).length = l.length + i := by rw [List.length_append, List.length_take]; omega
          have HLN := hide hlen
          clear hA hRo hFr hec hlen
          go_wp2_with (first
            | (at_builtin; refine wpList_append1 _ rfl (.tmp 45) (.tmp 47) 37 rfl base 53 i61 _ 11 88 Try.underlying37 (unhide HI) (unhide HZ) (unhide HS) (unhide HB) rfl (by decide) u0 (l ++ t.rows.take i).length (cellsOfRows (l ++ t.rows.take i)) rfl ((unhide HAA).below (bel1 _ _)).own ⟨wr.heap.size, 0, none⟩ 1 1 (rowCells r) rfl rfl (by rw [← unhide HEC]; exact row_new wr y) (rowCells_one r) (by have := unhide HLN; unfold maxLen; omega) (by have := unhide HLN; omega) (by have := (unhide HAA).sN; have := (unhide HAA).bN; simp; omega) (by omega) ?_; intro g9 cap9 w9 ho hg hw; have HF := hide (AR.app ((unhide HAA).below (bel1 wr (.cells #[.int .i64 y.ix, .int .i64 y.gen, .int .i64 y.has, .int .i64 (y.v 0), .int .i64 (y.v 1), .int .i64 (y.v 2), .int .i64 (y.v 3), .int .i64 (y.v 4), .int .i64 (y.v 5), .int .i64 (y.v 6), .int .i64 (y.v 7)] 53))) r ho hg); clear ho hg hw))
          go_roundw
          case rel => exact ⟨i + 1, by omega, by go_num, _, by rw [unhide HTK, ← unhide HRR, ← List.append_assoc]; have hF := unhide HF; rw [unhide HLN] at hF; exact hF⟩
          case measure => simp [intOf]; omega
    · obtain rfl : i = t.rows.length := by omega
      have hE := hA.own
      rw [List.take_length] at hE
      have HE := hide hE
      have HBE := hide hA.bel
      clear hA hE
      go_wp2
      go_ret
      exact ⟨_, rfl, unhide HE, unhide HBE⟩
end Go.Proofs.Ytnbleebilmghcab
