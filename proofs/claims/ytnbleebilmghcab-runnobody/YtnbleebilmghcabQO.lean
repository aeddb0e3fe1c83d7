/- SApart0, SApart, SOf, SChg, SChange, SBxs -/
import Derived.Test.YtnbleebilmghcabQL
import Derived.Test.YtnbleebilmghcabQN
set_option linter.all false
namespace Go.Proofs.Ytnbleebilmghcab
open Go Go.RowKit
attribute [local go_sem ↓] Go.wp_at_zero Go.wp_at_succ
def hasF (rs : List RowI) (h : Int) : List RowI := rs.filter (fun x => x.has == h)
def dOf (l : List TabI) (rs : List RowI) : TblD := ⟨l.map (·.has), fun h => (hasF rs h).map fun r => (r.ix, r.gen), fun h k => if k < ncol h then (hasF rs h).map (fun r => r.v ((lstTo h 8).getD k 0).toNat) else []⟩
theorem hasF_app (rs : List RowI) (r : RowI) (h : Int) : hasF (rs ++ [r]) h = if h = r.has then hasF rs h ++ [r] else hasF rs h := by
  unfold hasF
  rw [List.filter_append]
  by_cases e : h = r.has
  · subst e; simp
  · have : (r.has == h) = false := by simpa using fun e' => e e'.symm
    simp [this, e]
theorem takeD_dOf (l : List TabI) (rs : List RowI) (r : RowI) : takeD (dOf l rs) r = dOf (takeT l r) (rs ++ [r]) := by
  unfold takeD colD dOf
  simp only [TblD.mk.injEq]
  refine ⟨(hsI_take l r).symm, ?_, ?_⟩
  · funext h
    unfold updF
    rw [hasF_app]
    by_cases e : h = r.has
    · subst e; simp
    · simp [e]
  · funext h k
    rw [hasF_app]
    by_cases e : h = r.has
    · subst e
      by_cases hk : k < ncol r.has
      · simp [hk]
      · simp [hk]
    · simp [e]
theorem own_agree {W W' : World} {base : Nat} {e : TypeId} {size n : Nat} {v : Value} {xs : List Value} (h : W.ownsRow base e size v n xs) (ha : ∀ g, base ≤ g → g < W.heap.size → W'.heap[g]? = W.heap[g]?) : W'.ownsRow base e size v n xs := by
  refine ⟨h.1, ?_⟩
  rcases h.2 with hn | ⟨g, cap, cur, rfl, hb', hgg, rest⟩
  · exact .inl hn
  · exact .inr ⟨g, cap, cur, rfl, hb', (ha g hb' (Array.getElem?_eq_some_iff.1 hgg).1).trans hgg, rest⟩
def StNew (base : Nat) (W : World) (T G : Option Addr) (tabs : List TabI) (X : Wd) : Prop := ∀ W' : World, (∀ g, base ≤ g → g < W.heap.size → W'.heap[g]? = W.heap[g]?) → StAt W' T G tabs X
section
variable {base : Nat} {W W1 : World} {T G : Option Addr} {tabs : List TabI} {X : Wd}
theorem StNew.st (h : StNew base W T G tabs X) : StAt W T G tabs X := h W fun _ _ _ => rfl
theorem StNew.below (h : StNew base W T G tabs X) (hb : Below W.heap.size W W1) : StNew base W1 T G tabs X := fun W' ha => h W' fun g h1 h2 => (ha g h1 (Nat.lt_of_lt_of_le h2 hb.size)).trans (hb.block g h2)
theorem StNew.le (h : StNew base W T G tabs X) {base' : Nat} (hb : base' ≤ base) : StNew base' W T G tabs X := fun W' ha => h W' fun g h1 h2 => ha g (Nat.le_trans hb h1) h2
theorem heap_sets (b : Nat) : ∀ (vs : List Value) (o : Nat) (W : World) (g : Nat), g ≠ b → (W.setCells b o vs).heap[g]? = W.heap[g]?
  | [], _, _, _, _ => rfl
  | u :: r, o, W, g, h => (heap_sets b r (o + 1) _ g h).trans (heap_setCell_other W ⟨b, o, none⟩ g u h)
theorem heapsz_sets (b : Nat) : ∀ (vs : List Value) (o : Nat) (W : World), (W.setCells b o vs).heap.size = W.heap.size
  | [], _, _ => rfl
  | u :: r, o, W => (heapsz_sets b r (o + 1) _).trans (by simp)
theorem StNew.putc (h : StNew base W T G tabs X) {b o : Nat} {vs : List Value} (hb : b < base) : StNew base (W.setCells b o vs) T G tabs X := fun W' ha => h W' fun g h1 h2 => (ha g h1 (by rw [heapsz_sets]; exact h2)).trans (heap_sets b vs o W g (by omega))
end
theorem TblL.agree {base bx : Nat} {T G : Value} {gens : List Int} {m : TblM} {d : TblD} {W W' : World} (h : TblL base bx T G gens m d W) (ha : ∀ g, base ≤ g → g < W.heap.size → W'.heap[g]? = W.heap[g]?) : TblL base bx T G gens m d W' :=
  ⟨(ha bx h.lo h.lt).trans h.box, h.lo, own_agree h.ownT ha, own_agree h.ownG ha, fun x => own_agree (h.ownA x) ha, fun x hx => own_agree (h.ownC x hx) ha, fun x k => own_agree (h.ownK x k) ha, h.sepA, h.sepC, h.sepK, h.sepG, h.out⟩
theorem tab_of {base bx : Nat} {A : Option Addr} {c : Nat} {G : Value} {gens : List Int} {m : TblM} {l : List TabI} {rs : List RowI} {W : World} (h : TblL base bx (.slice A l.length c) G gens m (dOf l rs) W) (hg : Grp l rs) : TabsAt W A l := fun j hj => by
  have hl : (dOf l rs).hs.length = l.length := by simp [dOf]
  have hT := h.ownT
  rw [hl] at hT
  obtain ⟨g, cap, e, _, _⟩ := own_pos hT (by omega)
  simp only [Value.slice.injEq, true_and] at e
  obtain ⟨rfl, rfl⟩ := e
  have hx : (dOf l rs).hs[j]'(by rw [hl]; exact hj) = l[j].has := by simp [dOf]
  have hrows : l[j].rows = hasF rs l[j].has := hg.each _ (List.getElem_mem hj)
  have hB : (dOf l rs).B l[j].has = bsV l[j] := by unfold bsV; rw [hrows]; rfl
  have hL : ∀ k, k < ncol l[j].has → (dOf l rs).L l[j].has k = colV l[j] k := fun k hk => by
    unfold colV
    rw [hrows]
    show (if k < ncol l[j].has then _ else _) = _
    rw [if_pos hk]
  obtain ⟨c0, c1, c2⟩ := cellsT_at ((dOf l rs).hs.map (tt m (dOf l rs))) j (by simpa [hl] using hj)
  simp only [List.getElem_map, hx] at c0 c1 c2
  have hmem : l[j].has ∈ (dOf l rs).hs := by rw [← hx]; exact List.getElem_mem _
  generalize l[j] = t at *
  have oA := h.ownA t.has
  have hAl : ((dOf l rs).B t.has).length = t.rows.length := by rw [hB, bsV_len]
  refine ⟨g, 0, rfl, (m.A t.has).1, (m.A t.has).2, (m.C t.has).1, (m.C t.has).2, ?_, ?_, ?_, ?_, fun k hk => ?_⟩
  · rw [Nat.zero_add]; exact own_cell hT c0
  · rw [Nat.zero_add, ← hAl]; exact own_cell hT c1
  · rw [Nat.zero_add]; exact own_cell hT c2
  · rw [hB] at oA
    obtain ⟨A', cap', e', hbs⟩ := bs_own oA
    unfold aV at e'
    rw [Value.slice.injEq] at e'
    rw [e'.1]
    exact hbs
  · obtain ⟨gc, cc, e', _, _⟩ := own_pos (h.ownC t.has hmem) (show 0 < ncol t.has by unfold ncol; omega)
    have oC := h.ownC t.has hmem
    have eC : (m.C t.has).1 = some ⟨gc, 0, none⟩ := by
      unfold cV at e'
      simp only [Value.slice.injEq, true_and] at e'
      exact e'.1
    rw [e'] at oC
    have oK := h.ownK t.has k
    rw [hL k hk] at oK
    obtain ⟨A', cap', e2, hI⟩ := intsL_own oK
    refine ⟨gc, 0, eC, A', cap', ?_, hI⟩
    rw [Nat.zero_add, ← colV_len t k, ← e2]
    refine own_cell oC ?_
    have : k < ncol t.has := hk
    simp [this]
theorem grp_few {l : List TabI} {rs : List RowI} (h : Grp l rs) : l.length ≤ rs.length := by
  rw [← h.perm.length_eq]
  have : ∀ l : List TabI, (∀ t ∈ l, t.rows ≠ []) → l.length ≤ (l.flatMap (·.rows)).length := fun l => by
    induction l with
    | nil => intro _; simp
    | cons t l ih =>
      intro hne
      rw [List.flatMap_cons, List.length_append, List.length_cons]
      have h1 := ih fun x hx => hne x (by simp [hx])
      have h2 := List.length_pos_iff.2 (hne t (by simp))
      omega
  exact this l h.ne
theorem grp_up {l : List TabI} {rs : List RowI} (h : Grp l rs) (i j : Nat) (hj : j < l.length) (hij : i < j) : (l[i]'(by omega)).has < l[j].has := List.pairwise_iff_getElem.1 h.up i j (by omega) hj hij
theorem st_of {base bx : Nat} {A : Option Addr} {c : Nat} {G : Option Addr} {gc : Nat} {X : Wd} {m : TblM} {l : List TabI} {W : World} (h : TblL base bx (.slice A l.length c) (.slice G X.gens.length gc) X.gens m (dOf l X.rows) W) (hg : Grp l X.rows) (hr : RightW X) : StNew base W A G l X := fun W' ha => by
  have h' := h.agree ha
  have hl60 := (right_hr ((right_iff X).2 hr)).1
  have hf := grp_few hg
  refine ⟨tab_of h' hg, ?_, hr, grp_right hr hg, fun j hj => grp_up hg j (j + 1) hj (by omega), hg.perm, by omega⟩
  obtain ⟨A', cap', e, hI⟩ := intsL_own h'.ownG
  rw [Value.slice.injEq] at e
  rw [e.1]
  exact hI
theorem TblL.start {base : Nat} {W W1 : World} {G : Value} {gens : List Int} (hG : W.ownsRow base 3 1 G gens.length (cellsOfInts gens)) (hb : base ≤ W.heap.size) (hW : W1 = W.alloc (.cells #[.slice none 0 0, G] 114)) : TblL base W.heap.size (.slice none 0 0) G gens ⟨fun _ => (none, 0), fun _ => (none, 0), fun _ _ => .slice none 0 0⟩ (dOf [] []) W1 := by
  have hbl : Below W.heap.size W W1 := by rw [hW]; exact bel1 _ _
  have hB : ∀ h, (dOf [] []).B h = [] := fun h => rfl
  have hL : ∀ h k, (dOf [] []).L h k = [] := fun h k => by show (if k < ncol h then _ else _) = _; split <;> rfl
  refine ⟨?_, hb, World.ownsRow_nil _ _ _ _, own_kept hG hbl, fun h => ?_, fun h hh => ?_, fun h k => ?_, fun _ _ _ => .inl rfl, fun h _ hh => ?_, fun _ _ _ _ _ => .inl rfl, fun _ _ => (Apt.nil _).symm, fun h _ => ⟨rfl, rfl, fun _ => rfl⟩⟩
  · rw [hW]; show (W.heap.push _)[W.heap.size]? = _; simp
  · exact World.ownsRow_nil _ _ _ _
  · simp [dOf] at hh
  · rw [hL]; exact World.ownsRow_nil _ _ _ _
  · simp [dOf] at hh
end Go.Proofs.Ytnbleebilmghcab
namespace Go.Proofs.Ytnbleebilmghcab
open Go Go.RowKit
attribute [local go_sem ↓] Go.wp_at_zero Go.wp_at_succ
theorem size71 : (Try.prog.info? 43).map (·.size) = some 2 := by kernel_rfl
def tabsW (X : Wd) : List TabI := tabsTo X.rows X.rows.length
theorem tabsW_grp (X : Wd) : Grp (tabsW X) X.rows := by
  have := tabsTo_grp X.rows X.rows.length (Nat.le_refl _)
  rwa [List.take_length] at this
structure ApB (w : World) (u0 u1 y0 y1 : Value) (W : World) : Prop where
  bel : Below w.heap.size w W
  sz : w.heap.size + 2 ≤ W.heap.size
  r : B13 w.heap.size u0 u1 W
  s : B13 (w.heap.size + 1) y0 y1 W
theorem ApB.keep {w W W1 : World} {u0 u1 y0 y1 : Value} (h : ApB w u0 u1 y0 y1 W) (hb : Below (w.heap.size + 2) W W1) : ApB w u0 u1 y0 y1 W1 :=
  ⟨h.bel.trans (hb.mono (by omega)), Nat.le_trans h.sz hb.size, h.r.keep (hb.mono (by omega)), h.s.keep hb⟩
theorem ApB.start (w : World) (u0 u1 y0 y1 : Value) (s t : TypeId) : ApB w u0 u1 y0 y1 ((w.alloc (.cells #[u0, u1] s)).alloc (.cells #[y0, y1] t)) := by
  have h := BB.start w u0 u1 y0 y1 s t
  exact ⟨h.bel, h.sz, h.r, h.s⟩
theorem ApB.give {w W : World} {u0 u1 y0 y1 : Value} (h : ApB w u0 u1 y0 y1 W) (z0 z1 : Value) : ApB w u0 u1 z0 z1 (W.setCells (w.heap.size + 1) 0 [z0, z1]) := by
  have := BB.give (⟨h.bel, h.sz, h.r, h.s⟩ : BB w u0 u1 y0 y1 W) z0 z1
  exact ⟨this.bel, this.sz, this.r, this.s⟩
set_option maxRecDepth 8000 in
set_option maxHeartbeats 8000000 in
theorem apart_any (A : Option Addr) (cap : Nat) (G : Option Addr) (gcap : Nat) (X : Wd) (w : World) (hX : WldAt w A cap G gcap X) (hr : RightW X) :
    Calls Try.prog 43 #[wldV A cap G gcap X] w fun e w' => ∃ T tc G' gc', e = .returned (stV T (tabsW X).length tc G' X.gens.length gc') ∧ StNew w.heap.size w' T G' (tabsW X) X ∧ Below w.heap.size w w' := by
  obtain ⟨hl, hgl, _⟩ := right_hr ((right_iff X).2 hr)
  have hAB := ApB.start w (.slice A X.rows.length cap) (.slice G X.gens.length gcap) (.slice none 0 0) (.slice none 0 0) 40 43
  have hz : (((w.alloc (.cells #[.slice A X.rows.length cap, .slice G X.gens.length gcap] 40)).alloc (.cells #[.slice none 0 0, .slice none 0 0] 43))).heap.size = w.heap.size + 2 := by simp
  have hCP := fun W (hb : Below w.heap.size w W) => copied_any G gcap X.gens W (by omega) (hX.below hb).gens
  have HZ := hide hz
  have HX := hide hX
  have HR := hide hr
  have HAB := hide hAB
  have HCP := hide hCP
  clear hAB hCP hX hr hz
  unfold wldV worldV stV
  go_enter Try.func43, Try.ntmps43
  go_wp2_with fail
  go_at_call 66
  refine (unhide HCP _ (unhide HAB).bel).mono ?_
  rintro e w1 ⟨Ag, cg, rfl, ho1, hb1⟩
  rw [unhide HZ] at ho1 hb1
  have hA1 := (unhide HAB).keep hb1
  have hF2 := TblL.start (W := w1) (W1 := w1.alloc (.cells #[.slice none 0 0, .slice Ag X.gens.length cg] 114)) ho1 hA1.sz rfl
  have hA2 := hA1.keep ((bel1 w1 (.cells #[.slice none 0 0, .slice Ag X.gens.length cg] 114)).mono hA1.sz)
  have u0 := hA1.r.e0
  have ls : w.heap.size < w1.heap.size := by have := hA1.sz; omega
  have HF2 := hide hF2
  have HA2 := hide hA2
  clear ho1 hb1 hA1 hF2 hA2 HAB HZ HCP
  go_wp2_with fail
  go_loopw [14] (fun x wr => ∃ i : Nat, i ≤ X.rows.length ∧ x = .int .i64 (i : Int) ∧ ∃ T m, TblL (w.heap.size + 2) w1.heap.size T (.slice Ag X.gens.length cg) X.gens m (dOf (tabsTo X.rows i) (X.rows.take i)) wr ∧ ApB w (.slice A X.rows.length cap) (.slice G X.gens.length gcap) (.slice none 0 0) (.slice none 0 0) wr) (fun x _ => X.rows.length - (intOf x).toNat)
  case atStart => exact ⟨0, Nat.zero_le _, rfl, _, _, unhide HF2, unhide HA2⟩
  case round =>
    clear HF2 HA2 u0
    obtain ⟨i, hi, rfl, T, m, hF, hA⟩ := hrel
    by_cases hlt : i < X.rows.length
    · have i0 : (0 : Int) ≤ (i : Int) := by omega
      have i1 : (i : Int) < (X.rows.length : Int) := by omega
      have hg := tabsTo_grp X.rows i hi
      have hfew := grp_few hg
      rw [List.length_take] at hfew
      have hg1 := tabsTo_grp X.rows (i + 1) hlt
      have hsucc := tabsTo_succ X.rows i hlt
      have htk := List.take_succ_eq_append_getElem hlt
      have hrv := (unhide HR).rv i hlt
      unfold rowOf at hrv
      obtain ⟨b, off, hAe, hrow⟩ := ((unhide HX).below hA.bel).rows i hlt
      dsimp only at hrow
      rw [getD_row' _ _ hlt] at hrow hrv
      obtain ⟨r, hrr⟩ : ∃ r, r = X.rows[i] := ⟨_, rfl⟩
      rw [← hrr] at hrow hrv hsucc htk
      have hset := (rv_parts hrv).1
      have hlH : ∀ h, (hasF (X.rows.take i) h).length ≤ 60 := fun h => by
        have h1 : (hasF (X.rows.take i) h).length ≤ (X.rows.take i).length := List.length_filter_le _ _
        rw [List.length_take] at h1
        omega
      have hTK := take_any (w.heap.size + 2) w1.heap.size T (.slice Ag X.gens.length cg) X.gens m (dOf (tabsTo X.rows i) (X.rows.take i)) r (wr.alloc (.cells (rowCells r).toArray 53)) (hF.below (bel1 _ _))
        (fun a c hc hac => by
          have := grp_up hg a c (by simpa [dOf] using hc) hac
          simpa [dOf] using this)
        (by
          show (hsI ((tabsTo X.rows i).map (·.has)) r.has).Nodup
          rw [← hsI_take, ← hsucc]
          have := hg1.up
          rw [List.nodup_iff_pairwise_ne, List.pairwise_map]
          exact this.imp fun h => by omega)
        (by simp only [dOf, List.length_map]; omega) hset.1 hset.2 (by simp only [dOf, List.length_map]; have := hlH r.has; omega)
        (fun k => by
          show (if k < ncol r.has then _ else _ : List Int).length ≤ 1000
          split
          · rw [List.length_map]; have := hlH r.has; omega
          · simp)
      rw [takeD_dOf, ← hsucc, ← htk] at hTK
      obtain ⟨c0, c1, c2, c3, c4, c5, c6, c7, c8, c9, c10⟩ := rowAt_all hrow
      have HTK := hide hTK
      have HA := hide hA
      have HBN := hide (hF.sz)
      clear hF hA hg hg1 hsucc htk hrv hrow hTK hset hlH hfew hrr
      subst hAe
      unfold rowV at HTK
      go_wp2_with ((go_at_call 67; refine (unhide HTK).mono ?_; rintro e w3 ⟨T', m', rfl, hF3, hb3⟩; have HF3 := hide hF3; have HA3 := hide ((unhide HA).keep (((bel1 wr (.cells (rowCells r).toArray 53)).mono (unhide HBN)).trans hb3)); clear hF3 hb3))
      go_roundw
      case rel => exact ⟨i + 1, by omega, by go_num, _, _, unhide HF3, unhide HA3⟩
      case measure => simp [intOf]; omega
    · obtain rfl : i = X.rows.length := by omega
      rw [List.take_length] at hF
      have hl' : (dOf (tabsTo X.rows X.rows.length) X.rows).hs.length = (tabsW X).length := by simp [dOf, tabsW]
      have hT := hF.ownT
      rw [hl'] at hT
      obtain ⟨Ta, Tc, rfl⟩ := own_one hT
      obtain ⟨t0, t1⟩ := hF.cells
      have hS := st_of hF (tabsW_grp X) (unhide HR)
      have HS := hide hS
      have HA := hide hA
      clear hF hA hT hS hl'
      go_wp2_with ((refine wpList_putN rfl 43 (.tmp 2) (.tmp 22) rfl (w.heap.size + 1) 0 [.slice Ta (tabsW X).length Tc, .slice Ag X.gens.length cg] rfl rfl (by simp [Value.oneCell']) size71 (b13_there (unhide HA).s) ?_; intro W5 hW5; have hA5 := (unhide HA).give (.slice Ta (tabsW X).length Tc) (.slice Ag X.gens.length cg); have hS5 := (unhide HS).putc (b := w.heap.size + 1) (o := 0) (vs := [.slice Ta (tabsW X).length Tc, .slice Ag X.gens.length cg]) (by omega); rw [← hW5] at hA5 hS5; have HA5 := hide hA5; have HS5 := hide hS5; clear hW5 hA5 hS5))
      have s0 := (unhide HA5).s.e0
      have s1 := (unhide HA5).s.e1
      refine bodyPost_ret (v := .agg #[.slice Ta (tabsW X).length Tc, .slice Ag X.gens.length cg]) (by simp [results, Try.results43, go_sem, s0, s1]) rfl ⟨Ta, Tc, Ag, cg, rfl, (unhide HS5).le (by omega), (unhide HA5).bel⟩
end Go.Proofs.Ytnbleebilmghcab
namespace Go.Proofs.Ytnbleebilmghcab
open Go Go.RowKit
attribute [local go_sem ↓] Go.wp_at_zero Go.wp_at_succ
theorem gho_putN {Γ : Type} {P : Program} {o : Oper} {ac : Act} {w1 : World} {V : Γ → Value → Prop} {D : Γ → World → Prop} {M : Γ → Prop} {Q : Exit → Act → World → Prop} (γ : Γ) (ty : TypeId) (x y : Operand) (ho : o.op = .store ty x y) (b i : Nat) (cells : List Value) (hx : ac.eval x = .pointer (some ⟨b, i, none⟩)) (hy : ac.eval y = .agg cells.toArray) (h1 : ∀ u ∈ cells, u.oneCell' = true) (hi : (P.info? ty).map (·.size) = some cells.length) (ht : w1.there b i cells.length) (hV : V γ undef) (hD : D γ (w1.setCells b i cells)) (hM : M γ) :
    o.wp P ac w1 (fun ac' w' => ∃ v γ', ac' = ac.put o.dst v ∧ V γ' v ∧ D γ' w' ∧ M γ') Q :=
  wp_store_mid ty x y ho b i cells.toArray hx hy (by simpa using ht) (by simpa using hi) (all_oneCell_toArray h1) ⟨undef, γ, rfl, hV, by simpa using hD, hM⟩
theorem SB.startOf (w : World) (u0 u1 : Value) (s t y : TypeId) : SB w u0 u1 (.slice none 0 0) (.slice none 0 0) (.int .i64 0) (.int .i64 0) (((w.alloc (.cells #[u0, u1] s)).alloc (.cells #[.slice none 0 0, .slice none 0 0] t)).alloc (.cells #[.int .i64 0, .int .i64 0] y)) := by
  obtain ⟨a0, a1, af, ab⟩ := new_box (W := w) (u0 := u0) (u1 := u1) (t := s) rfl
  have z1 : (w.alloc (.cells #[u0, u1] s)).heap.size = w.heap.size + 1 := by simp
  generalize w.alloc (.cells #[u0, u1] s) = W1 at *
  obtain ⟨b0, b1, bf, bb⟩ := new_box (W := W1) (u0 := .slice none 0 0) (u1 := .slice none 0 0) (t := t) z1
  have z2 : (W1.alloc (.cells #[.slice none 0 0, .slice none 0 0] t)).heap.size = w.heap.size + 2 := by simp; omega
  generalize W1.alloc (.cells #[.slice none 0 0, .slice none 0 0] t) = W2 at *
  obtain ⟨c0, c1, cf, cb⟩ := new_box (W := W2) (u0 := .int .i64 0) (u1 := .int .i64 0) (t := y) z2
  exact ⟨(ab.trans (bb.mono ab.size)).trans (cb.mono (by omega)), by simp; omega, keep_below cb (keep_below bb a0), keep_below cb (keep_below bb a1), keep_below cb b0, keep_below cb b1, c0, c1, fun i => (cb.frozen (p := ⟨w.heap.size + 1, i, none⟩) (by show w.heap.size + 1 < W2.heap.size; omega)).trans (bf i), cf⟩
set_option maxRecDepth 8000 in
set_option maxHeartbeats 4000000 in
theorem of_right (A : Option Addr) (cap : Nat) (G : Option Addr) (gcap : Nat) (X : Wd) (w : World) (hX : WldAt w A cap G gcap X) (hr : RightW X) :
    Calls Try.prog 16 #[wldV A cap G gcap X] w fun e w' => ∃ T tc G' gc', e = .returned (.tuple #[stV T (tabsW X).length tc G' X.gens.length gc', .agg #[.int .i64 0, .int .i64 0]]) ∧ StNew w.heap.size w' T G' (tabsW X) X ∧ Below w.heap.size w w' := by
  have hw0 := (right_iff X).2 hr
  obtain ⟨hl, hgl, _⟩ := right_hr hw0
  have hSB := SB.startOf w (.slice A X.rows.length cap) (.slice G X.gens.length gcap) 40 43 30
  have hP := fun W (hb : Below w.heap.size w W) => pwrong_any A X.rows.length cap G X.gens.length gcap (fun j => X.rows.getD j dR) (fun j => X.gens.getD j 0) W (by omega) (hX.below hb).rows (hX.below hb).gens
  have eW : plainF (fun j => X.rows.getD j dR) X.rows.length X.gens.length (fun j => X.gens.getD j 0) = wrongW X := rfl
  rw [eW] at hP
  unfold faultP worldV at hP
  rw [hw0] at hP
  generalize (wrongW X).2 = wa at *
  have hAP := fun W (hb : Below w.heap.size w W) => apart_any A cap G gcap X W (hX.below hb) hr
  unfold wldV worldV stV at hAP
  have HSB := hide hSB
  have HP := hide hP
  have HAP := hide hAP
  clear hSB hP hAP hX hr eW hw0
  unfold wldV worldV stV
  go_enter Try.func16, Try.ntmps16
  go_wp2_with (first
    | (go_at_call 42; refine (unhide HP _ (unhide HSB).bel).mono ?_; rintro e w5 ⟨rfl, hb5⟩; have hS5 := (unhide HSB).below hb5; have hS6 := hS5.below (bel1 w5 (.cells #[.int .i64 0, .int .i64 wa] 30)); have r0 := hS6.r0; have r1 := hS6.r1; have HS6 := hide hS6; clear hb5 hS5 hS6)
    | (go_at_call 43; refine (unhide HAP _ (unhide HS6).bel).mono ?_; rintro e w7 ⟨Ta, Tc, Ag, cg, rfl, hN7, hb7⟩; have HS7 := hide ((unhide HS6).below hb7); have HN7 := hide (hN7.le (base' := w.heap.size + 3) (unhide HS6).sz); clear hN7 hb7 r0 r1)
    | (refine wpList_putN rfl 43 (.tmp 2) (.tmp 13) rfl (w.heap.size + 1) 0 [.slice Ta (tabsW X).length Tc, .slice Ag X.gens.length cg] rfl rfl (by simp [Value.oneCell']) size71 (unhide HS7).thereA ?_; intro W8 hW8; have hs8 := (unhide HS7).giveA (.slice Ta (tabsW X).length Tc) (.slice Ag X.gens.length cg); have hn8 := (unhide HN7).putc (b := w.heap.size + 1) (o := 0) (vs := [.slice Ta (tabsW X).length Tc, .slice Ag X.gens.length cg]) (by omega); rw [← hW8] at hs8 hn8; have HS8 := hide hs8; have HN8 := hide hn8; clear hW8 hs8 hn8)
    | (refine wpList_putN rfl 30 (.tmp 3) (.tmp 14) rfl (w.heap.size + 2) 0 [.int .i64 0, .int .i64 0] rfl rfl (by simp [Value.oneCell']) size43t (unhide HS8).thereB ?_; intro W9 hW9; have hs9 := (unhide HS8).giveB (.int .i64 0) (.int .i64 0); have hn9 := (unhide HN8).putc (b := w.heap.size + 2) (o := 0) (vs := [.int .i64 0, .int .i64 0]) (by omega); rw [← hW9] at hs9 hn9; have HS9 := hide hs9; have HN9 := hide hn9; clear hW9 hs9 hn9))
  have t0 := (unhide HS9).t0
  have t1 := (unhide HS9).t1
  have s0 := (unhide HS9).s0
  have s1 := (unhide HS9).s1
  refine bodyPost_ret (v := .tuple #[.agg #[.slice Ta (tabsW X).length Tc, .slice Ag X.gens.length cg], .agg #[.int .i64 0, .int .i64 0]]) (by simp [results, Try.results16, go_sem, t0, t1, s0, s1]) rfl ⟨Ta, Tc, Ag, cg, rfl, (unhide HN9).le (by omega), (unhide HS9).bel⟩
set_option maxRecDepth 8000 in
set_option maxHeartbeats 4000000 in
theorem of_wrong (A : Option Addr) (cap : Nat) (G : Option Addr) (gcap : Nat) (X : Wd) (w : World) (hn0 : X.rows.length ≤ 9223372036854775807) (hX : WldAt w A cap G gcap X) (hw0 : (wrongW X).1 ≠ 0) :
    Calls Try.prog 16 #[wldV A cap G gcap X] w fun e w' => e = .returned (.tuple #[stV none 0 0 none 0 0, .agg #[.int .i64 (wrongW X).1, .int .i64 (wrongW X).2]]) ∧ Below w.heap.size w w' := by
  have hSB := SB.startOf w (.slice A X.rows.length cap) (.slice G X.gens.length gcap) 40 43 30
  have hP := fun W (hb : Below w.heap.size w W) => pwrong_any A X.rows.length cap G X.gens.length gcap (fun j => X.rows.getD j dR) (fun j => X.gens.getD j 0) W (by omega) (hX.below hb).rows (hX.below hb).gens
  have eW : plainF (fun j => X.rows.getD j dR) X.rows.length X.gens.length (fun j => X.gens.getD j 0) = wrongW X := rfl
  rw [eW] at hP
  unfold faultP worldV at hP
  generalize (wrongW X).2 = wa at *
  generalize (wrongW X).1 = we at *
  have HSB := hide hSB
  have HP := hide hP
  clear hSB hP hX eW hn0
  unfold wldV worldV stV
  go_enter Try.func16, Try.ntmps16
  go_wp2_with (first
    | (go_at_call 42; refine (unhide HP _ (unhide HSB).bel).mono ?_; rintro e w5 ⟨rfl, hb5⟩; have hS5 := (unhide HSB).below hb5; have HZ5 := hide hS5.sz; have hS6 := hS5.below (bel1 w5 (.cells #[.int .i64 we, .int .i64 wa] 30)); have HS6 := hide hS6; clear hb5 hS5 hS6))
  have h0 : (∃ z0 z1, SB w (.slice A X.rows.length cap) (.slice G X.gens.length gcap) (.slice none 0 0) (.slice none 0 0) z0 z1 (w5.alloc (.cells #[.int .i64 we, .int .i64 wa] 30)).drew ∧ (w5.alloc (.cells #[.int .i64 we, .int .i64 wa] 30)).drew.cell? ⟨w5.heap.size, 0, none⟩ = some (.int .i64 we) ∧ (w5.alloc (.cells #[.int .i64 we, .int .i64 wa] 30)).drew.cell? ⟨w5.heap.size, 1, none⟩ = some (.int .i64 wa) ∧ ((fun (_ : Nat) => false) 3 = true → z0 = .int .i64 we ∧ z1 = .int .i64 wa)) := ⟨_, _, (unhide HS6).below (Below.refl _ _).drew, by show (w5.alloc (.cells #[.int .i64 we, .int .i64 wa] 30)).cell? ⟨w5.heap.size, 0, none⟩ = _; simp, by show (w5.alloc (.cells #[.int .i64 we, .int .i64 wa] 30)).cell? ⟨w5.heap.size, 1, none⟩ = _; simp, fun e => by cases e⟩
  refine wp_region_gho (fun (γ : Unit) ix v => (([fun v => v = .agg #[.slice none 0 0, .slice none 0 0], fun v => v = .agg #[.int .i64 we, .int .i64 wa], fun _ => True, fun _ => True] : List (Value → Prop)).getD ix (fun _ => True)) v) (fun (_ : Unit) L W => ∃ z0 z1, SB w (.slice A X.rows.length cap) (.slice G X.gens.length gcap) (.slice none 0 0) (.slice none 0 0) z0 z1 W ∧ W.cell? ⟨w5.heap.size, 0, none⟩ = some (.int .i64 we) ∧ W.cell? ⟨w5.heap.size, 1, none⟩ = some (.int .i64 wa) ∧ (L 3 = true → z0 = .int .i64 we ∧ z1 = .int .i64 wa)) (()) (by kernel_rfl) (by kernel_rfl) (by kernel_rfl) h0 ?hstep ?hend
  case hstep =>
    intro γ ix o ho L ac w1 hD hL hed hcl hout hv
    match ix, ho with
    | 0, ho =>
      simp at ho
      subst ho
      exact .inl ⟨rfl, gho_reads γ (.agg #[.slice none 0 0, .slice none 0 0]) (by simp [go_sem, Act.eval, -Array.getD_eq_getD_getElem?, ]) rfl (by obtain ⟨z0, z1, a, b, c, e⟩ := hD; exact ⟨z0, z1, a, b, c, by rw [upd_ne (by decide)]; exact e⟩) (fun _ _ _ _ h => h)⟩
    | 1, ho =>
      simp at ho
      subst ho
      have e4 : ac.tmps.getD 4 undef = .pointer (some ⟨w5.heap.size, 0, none⟩) := hout 4 (by decide +kernel)
      have c0 := (let ⟨_, _, _, c0, _, _⟩ := hD; c0)
      have c1 := (let ⟨_, _, _, _, c1, _⟩ := hD; c1)
      exact .inl ⟨rfl, gho_reads γ (.agg #[.int .i64 we, .int .i64 wa]) (by simp [go_sem, Act.eval, -Array.getD_eq_getD_getElem?, e4, c0, c1]) rfl (by obtain ⟨z0, z1, a, b, c, e⟩ := hD; exact ⟨z0, z1, a, b, c, by rw [upd_ne (by decide)]; exact e⟩) (fun _ _ _ _ h => h)⟩
    | 2, ho =>
      simp at ho
      subst ho
      have e2 : ac.tmps.getD 2 undef = .pointer (some ⟨w.heap.size + 1, 0, none⟩) := hout 2 (by decide +kernel)
      have e10 : ac.tmps.getD 10 undef = .agg #[.slice none 0 0, .slice none 0 0] := hv 0 10 rfl (by kernel_rfl)
      obtain ⟨z0, z1, a, b, c, e⟩ := hD
      exact .inl ⟨rfl, gho_putN γ 43 (.tmp 2) (.tmp 10) rfl (w.heap.size + 1) 0 [.slice none 0 0, .slice none 0 0] (by simp [Act.eval, -Array.getD_eq_getD_getElem?, e2]) (by simp [Act.eval, -Array.getD_eq_getD_getElem?, e10]) (by simp [Value.oneCell']) size71 a.thereA trivial ⟨z0, z1, a.giveA _ _, (setcs_other (by have := unhide HZ5; simp only [ne_eq]; omega)).trans b, (setcs_other (by have := unhide HZ5; simp only [ne_eq]; omega)).trans c, by rw [upd_ne (by decide)]; exact e⟩ (fun _ _ _ _ h => h)⟩
    | 3, ho =>
      simp at ho
      subst ho
      have e3 : ac.tmps.getD 3 undef = .pointer (some ⟨w.heap.size + 2, 0, none⟩) := hout 3 (by decide +kernel)
      have e11 : ac.tmps.getD 11 undef = .agg #[.int .i64 we, .int .i64 wa] := hv 1 11 rfl (by kernel_rfl)
      obtain ⟨z0, z1, a, b, c, e⟩ := hD
      exact .inl ⟨rfl, gho_putN γ 30 (.tmp 3) (.tmp 11) rfl (w.heap.size + 2) 0 [.int .i64 we, .int .i64 wa] (by simp [Act.eval, -Array.getD_eq_getD_getElem?, e3]) (by simp [Act.eval, -Array.getD_eq_getD_getElem?, e11]) (by simp [Value.oneCell']) size43t a.thereB trivial ⟨_, _, a.giveB _ _, (setcs_other (by have := unhide HZ5; simp only [ne_eq]; omega)).trans b, (setcs_other (by have := unhide HZ5; simp only [ne_eq]; omega)).trans c, fun _ => ⟨rfl, rfl⟩⟩ (fun _ _ _ _ h => h)⟩
    | ix + 4, ho => simp at ho
  case hend =>
    intro γ v L w9 hD hall hv
    obtain ⟨z0, z1, hS, _, _, hz⟩ := hD
    obtain ⟨rfl, rfl⟩ := hz (hall 3 (by decide))
    have HS9 := hide hS
    clear hv hall hS hz h0
    simp only [putOps, List.getElem?_cons_zero, List.getElem?_cons_succ, Option.bind_some, List.length_cons, List.length_nil, Nat.reduceAdd]
    go_frame
    go_wp2
    have t0 := (unhide HS9).t0
    have t1 := (unhide HS9).t1
    have s0 := (unhide HS9).s0
    have s1 := (unhide HS9).s1
    refine bodyPost_ret (v := .tuple #[.agg #[.slice none 0 0, .slice none 0 0], .agg #[.int .i64 we, .int .i64 wa]]) (by simp [results, Try.results16, go_sem, t0, t1, s0, s1]) rfl ⟨rfl, (unhide HS9).bel⟩
end Go.Proofs.Ytnbleebilmghcab
namespace Go.Proofs.Ytnbleebilmghcab
open Go Go.RowKit
attribute [local go_sem ↓] Go.wp_at_zero Go.wp_at_succ
theorem heap_setCell_congr {w w' : World} (a : Addr) (u : Value) (k : Nat) (h : w'.heap[k]? = w.heap[k]?) : (w'.setCell a u).heap[k]? = (w.setCell a u).heap[k]? := by
  simp only [World.setCell, Array.getElem?_modify]
  split <;> simp [h]
theorem below_both {S cb : Nat} : ∀ (vs : List Value) (o : Nat) (w w' : World), Below S w w' → Below S (w.setCells cb o vs) (w'.setCells cb o vs)
  | [], _, _, _, h => h
  | u :: r, o, w, w', h => below_both r (o + 1) _ _ ⟨h.os, h.tape, h.output, by simpa [World.setCell] using h.size, fun k hk => heap_setCell_congr ⟨cb, o, none⟩ u k (h.block k hk)⟩
structure B2 (B : Nat) (u0 u1 y0 y1 : Value) (W : World) : Prop where
  sz : B + 2 ≤ W.heap.size
  r : B13 B u0 u1 W
  s : B13 (B + 1) y0 y1 W
theorem B2.below {B : Nat} {u0 u1 y0 y1 : Value} {W W1 : World} (h : B2 B u0 u1 y0 y1 W) (hb : Below W.heap.size W W1) : B2 B u0 u1 y0 y1 W1 :=
  ⟨Nat.le_trans h.sz hb.size, h.r.keep (hb.mono (by have := h.sz; omega)), h.s.keep (hb.mono h.sz)⟩
theorem B2.start (w : World) (u0 u1 y0 y1 : Value) (s t : TypeId) : B2 w.heap.size u0 u1 y0 y1 ((w.alloc (.cells #[u0, u1] s)).alloc (.cells #[y0, y1] t)) := by
  have h := BB.start w u0 u1 y0 y1 s t
  exact ⟨h.sz, h.r, h.s⟩
theorem B13.sets {b cb o : Nat} {u v : Value} {vs : List Value} {W : World} (h : B13 b u v W) (hb : b ≠ cb) : B13 b u v (W.setCells cb o vs) :=
  ⟨(setcs_other hb).trans h.e0, (setcs_other hb).trans h.e1, fun i => by rw [World.frozen?_setCells]; exact h.f i⟩
theorem B2.turn {B cb o : Nat} {u0 u1 y0 y1 : Value} {vs : List Value} {W : World} (h : B2 B u0 u1 y0 y1 W) (hcb : cb < B) : B2 B u0 u1 y0 y1 (W.setCells cb o vs) :=
  ⟨by rw [size_setCells]; exact h.sz, h.r.sets (by omega), h.s.sets (by omega)⟩
theorem B2.give {B : Nat} {u0 u1 y0 y1 : Value} {W : World} (h : B2 B u0 u1 y0 y1 W) (z0 z1 : Value) : B2 B u0 u1 z0 z1 (W.setCells (B + 1) 0 [z0, z1]) := by
  have hb : Below (B + 1) W (W.setCells (B + 1) 0 [z0, z1]) := below_setCells (B + 1) (Nat.le_refl _) [z0, z1] 0 W (Below.refl _ _)
  exact ⟨Nat.le_trans h.sz hb.size, h.r.keep hb, b13_give h.s z0 z1⟩
def Becomes (fid : FuncId) (caps : List Value) (X Y : Wd) (err : Int) (cb : Nat) (vs : List Value) (w : World) : Prop := ∀ A c G gc W, WldAt W A c G gc X → Below w.heap.size w W → Calls Try.prog fid (wldV A c G gc X :: caps).toArray W fun e w' => ∃ A' c' G' gc', e = .returned (.tuple #[wldV A' c' G' gc' Y, .int .i64 err]) ∧ WldNew W.heap.size w' A' c' G' gc' Y ∧ Below W.heap.size (W.setCells cb 0 vs) w'
set_option maxRecDepth 8000 in
set_option maxHeartbeats 4000000 in
theorem becomes_spawn (X : Wd) (bh bn cb : Nat) (has n : Int) (w : World) (hl : X.rows.length ≤ 60) (h0 : w.cell? ⟨bh, 0, none⟩ = some (.int .i64 has)) (h1 : w.cell? ⟨bn, 0, none⟩ = some (.int .i64 n)) {v0 v1 : Value} (h2 : B13 cb v0 v1 w) (hcl : cb < w.heap.size) :
    Becomes 62 [.pointer (some ⟨bh, 0, none⟩), .pointer (some ⟨bn, 0, none⟩), .pointer (some ⟨cb, 0, none⟩)] X (spawnF X has n).2.2 (spawnF X has n).1 cb [.int .i64 (spawnF X has n).2.1.1, .int .i64 (spawnF X has n).2.1.2] w := by
  intro A c G gc W hX hbw
  have hB := B2.start W (.slice A X.rows.length c) (.slice G X.gens.length gc) (.slice none 0 0) (.slice none 0 0) 40 40
  have hb2 := bel2 W (.cells #[.slice A X.rows.length c, .slice G X.gens.length gc] 40) (.cells #[.slice none 0 0, .slice none 0 0] 40)
  have g0 := keep_below hb2 (keep_below hbw h0)
  have g1 := keep_below hb2 (keep_below hbw h1)
  have hC := fun W2 (hb : Below W.heap.size W W2) => spawn_any A c G gc X has n W2 (by omega) (hX.below hb)
  obtain ⟨Y, hY⟩ : ∃ Y, Y = (spawnF X has n).2.2 := ⟨_, rfl⟩
  obtain ⟨err, herr⟩ : ∃ err, err = (spawnF X has n).1 := ⟨_, rfl⟩
  obtain ⟨ci, hci⟩ : ∃ ci, ci = (spawnF X has n).2.1.1 := ⟨_, rfl⟩
  obtain ⟨cg, hcg⟩ : ∃ cg, cg = (spawnF X has n).2.1.2 := ⟨_, rfl⟩
  rw [← hY, ← herr, ← hci, ← hcg] at hC ⊢
  unfold wldV worldV beingV at hC
  have hcW : B13 cb v0 v1 W := h2.keep (hbw.mono (by omega))
  have hclW : cb < W.heap.size := Nat.lt_of_lt_of_le hcl hbw.size
  have HC := hide hC
  have HB := hide hB
  have HB2 := hide hb2
  have HCW := hide hcW
  have HCL := hide hclW
  clear hC hB hX hbw hY herr hci hcg h0 h1 h2 hcl hcW hclW
  show Calls Try.prog 62 #[wldV A c G gc X, .pointer (some ⟨bh, 0, none⟩), .pointer (some ⟨bn, 0, none⟩), .pointer (some ⟨cb, 0, none⟩)] W _
  unfold wldV worldV
  go_enter Try.func62, Try.ntmps62
  go_wp2_with (first
    | (go_at_call 63; refine (unhide HC _ (unhide HB2)).mono ?_; rintro e w1 ⟨A1, c1, G1, gc1, rfl, hN1, hb1⟩; have HB3 := hide ((unhide HB).below hb1); have HN1 := hide hN1; have HBL := hide ((unhide HB2).trans (hb1.mono (unhide HB2).size)); clear hN1 hb1 g0 g1)
    | (refine wpList_putN rfl 40 (.tmp 5) (.tmp 12) rfl (W.heap.size + 1) 0 [.slice A1 Y.rows.length c1, .slice G1 Y.gens.length gc1] rfl rfl (by simp [Value.oneCell']) size38 (b13_there (unhide HB3).s) ?_; intro W4 hW4; have hB4 := (unhide HB3).give (.slice A1 Y.rows.length c1) (.slice G1 Y.gens.length gc1); have hN4 := wldnew_putc (unhide HN1) (b := W.heap.size + 1) (o := 0) (vs := [.slice A1 Y.rows.length c1, .slice G1 Y.gens.length gc1]) (by have := (unhide HB).sz; omega); have hL4 := below_setCells (W.heap.size + 1) (by omega) [.slice A1 Y.rows.length c1, .slice G1 Y.gens.length gc1] 0 w1 (unhide HBL); rw [← hW4] at hB4 hN4 hL4; have HB4 := hide hB4; have HN4 := hide hN4; have HL4 := hide hL4; clear hW4 hB4 hN4 hL4)
    | (refine wpList_putN rfl 50 (.tmp 3) (.tmp 13) rfl cb 0 [.int .i64 ci, .int .i64 cg] rfl rfl (by simp [Value.oneCell']) size40 (b13_there ((unhide HCW).keep ((unhide HL4).mono (unhide HCL)))) ?_; intro W5 hW5; have hB5 := (unhide HB4).turn (o := 0) (vs := [.int .i64 ci, .int .i64 cg]) (unhide HCL); have hN5 := wldnew_putc (unhide HN4) (b := cb) (o := 0) (vs := [.int .i64 ci, .int .i64 cg]) (by have := (unhide HB).sz; have := unhide HCL; omega); have hL5 := below_both (cb := cb) [.int .i64 ci, .int .i64 cg] 0 _ _ (unhide HL4); rw [← hW5] at hB5 hN5 hL5; have x0 := hB5.s.e0; have x1 := hB5.s.e1; have HB5 := hide hB5; have HN5 := hide hN5; have HL5 := hide hL5; clear hW5 hB5 hN5 hL5)
    | (refine wpList_putN rfl 40 (.tmp 5) (.tmp 15) rfl (W.heap.size + 1) 0 [.slice A1 Y.rows.length c1, .slice G1 Y.gens.length gc1] rfl rfl (by simp [Value.oneCell']) size38 (b13_there (unhide HB5).s) ?_; intro W6 hW6; have hB6 := (unhide HB5).give (.slice A1 Y.rows.length c1) (.slice G1 Y.gens.length gc1); have hN6 := wldnew_putc (unhide HN5) (b := W.heap.size + 1) (o := 0) (vs := [.slice A1 Y.rows.length c1, .slice G1 Y.gens.length gc1]) (by have := (unhide HB).sz; omega); have hL6 := below_setCells (W.heap.size + 1) (by omega) [.slice A1 Y.rows.length c1, .slice G1 Y.gens.length gc1] 0 W5 (unhide HL5); rw [← hW6] at hB6 hN6 hL6; have HB6 := hide hB6; have HN6 := hide hN6; have HL6 := hide hL6; clear hW6 hB6 hN6 hL6))
  have t0 := (unhide HB6).s.e0
  have t1 := (unhide HB6).s.e1
  refine bodyPost_ret (v := .tuple #[.agg #[.slice A1 Y.rows.length c1, .slice G1 Y.gens.length gc1], .int .i64 err]) (by simp [results, Try.results62, go_sem, t0, t1]) rfl ⟨A1, c1, G1, gc1, rfl, wldnew_le (unhide HN6) (by have := (unhide HB).sz; omega), unhide HL6⟩
end Go.Proofs.Ytnbleebilmghcab
namespace Go.Proofs.Ytnbleebilmghcab
open Go Go.RowKit
attribute [local go_sem ↓] Go.wp_at_zero Go.wp_at_succ
def Enters (fid : FuncId) : Prop := ∀ (args : Array Value) (W : World), (callFunc fid args).run Try.prog W = .ok (.enter fid args) W
theorem enters98 : Enters 62 := by intro args W; kernel_rfl
set_option maxRecDepth 8000 in
set_option maxHeartbeats 4000000 in
theorem schange_ok (fid : FuncId) (caps : List Value) (T : Option Addr) (tcap : Nat) (G : Option Addr) (gcap : Nat) (tabs : List TabI) (X Y : Wd) (cb : Nat) (vs : List Value) (w : World) (h : StAt w T G tabs X) (hcb : cb < w.heap.size) (hY : RightW Y) (hf : Becomes fid caps X Y 0 cb vs w) (hE : Enters fid) :
    Calls Try.prog 61 #[stV T tabs.length tcap G X.gens.length gcap, .func (.func fid) #[] caps.toArray] w fun e w' => ∃ T' tc' G' gc', e = .returned (.tuple #[stV T' (tabsW Y).length tc' G' Y.gens.length gc', .int .i64 0]) ∧ StNew w.heap.size w' T' G' (tabsW Y) Y ∧ Below w.heap.size (w.setCells cb 0 vs) w' := by
  have hB := B2.start w (.slice T tabs.length tcap) (.slice G X.gens.length gcap) (.slice none 0 0) (.slice none 0 0) 43 43
  have hb2 := bel2 w (.cells #[.slice T tabs.length tcap, .slice G X.gens.length gcap] 43) (.cells #[.slice none 0 0, .slice none 0 0] 43)
  have hTO := fun W (hb : Below w.heap.size w W) => together_any T tcap G gcap tabs X W (h.below hb)
  unfold stV wldV worldV at hTO
  have hAP := fun A c G gc W (hX : WldAt W A c G gc Y) => apart_any A c G gc Y W hX hY
  unfold stV wldV worldV at hAP
  have HAP := hide hAP
  clear hAP hY
  unfold Becomes wldV worldV at hf
  unfold Enters at hE
  have HB := hide hB
  have HB2 := hide hb2
  have HTO := hide hTO
  have HF := hide hf
  clear hB hb2 hTO hf h
  unfold stV
  go_enter Try.func61, Try.ntmps61
  go_wp2_with ((go_at_call 44; refine (unhide HTO _ (unhide HB2)).mono ?_; rintro e w1 ⟨A1, c1, G1, gc1, rfl, hN1, hb1⟩; have HB3 := hide (((unhide HB).below hb1).below (bel2 w1 (.cells #[.slice A1 X.rows.length c1, .slice G1 X.gens.length gc1] 40) (.cells #[.int .i64 0, .int .i64 0] 30))); have HN1 := hide (hN1.below (bel2 w1 (.cells #[.slice A1 X.rows.length c1, .slice G1 X.gens.length gc1] 40) (.cells #[.int .i64 0, .int .i64 0] 30))); have HBL := hide (((unhide HB2).trans (hb1.mono (unhide HB2).size)).trans ((bel2 w1 (.cells #[.slice A1 X.rows.length c1, .slice G1 X.gens.length gc1] 40) (.cells #[.int .i64 0, .int .i64 0] 30)).mono ((unhide HB2).trans (hb1.mono (unhide HB2).size)).size)); clear hN1 hb1))
  refine (unhide HF A1 c1 G1 gc1 _ (unhide HN1).toWldAt (unhide HBL)).mono ?_
  rintro e w4 ⟨A4, c4, G4, gc4, rfl, hN4, hb4⟩
  have hB4 := ((unhide HB3).turn (o := 0) (vs := vs) hcb).below (by rw [size_setCells]; exact hb4)
  have hL4 := (below_both (cb := cb) vs 0 _ _ (unhide HBL)).trans (hb4.mono (unhide HBL).size)
  have HB5 := hide (hB4.below (bel1 w4 (.cells #[.slice A4 Y.rows.length c4, .slice G4 Y.gens.length gc4] 40)))
  have HL5 := hide (hL4.trans ((bel1 w4 (.cells #[.slice A4 Y.rows.length c4, .slice G4 Y.gens.length gc4] 40)).mono (by have := hL4.size; rw [size_setCells] at this; exact this)))
  have HN5 := hide (hN4.below (bel1 w4 (.cells #[.slice A4 Y.rows.length c4, .slice G4 Y.gens.length gc4] 40)))
  clear hB4 hL4 hN4 hb4 hE HF HTO HN1 HBL HB3
  go_wp2_with (first
    | (go_at_call 43; refine (unhide HAP _ _ _ _ _ (unhide HN5).toWldAt).mono ?_; rintro e w7 ⟨Ta, Tc, Ag, cg, rfl, hN7, hb7⟩; have HB7 := hide ((unhide HB5).below hb7); have HN7 := hide (hN7.le (base' := w.heap.size + 2) (unhide HB5).sz); have HL7 := hide ((unhide HL5).trans (hb7.mono (by have := (unhide HB5).sz; omega))); clear hN7 hb7)
    | (refine wpList_putN rfl 43 (.tmp 4) (.tmp 32) rfl (w.heap.size + 1) 0 [.slice Ta (tabsW Y).length Tc, .slice Ag Y.gens.length cg] rfl rfl (by simp [Value.oneCell']) size71 (b13_there (unhide HB7).s) ?_; intro W8 hW8; have hB8 := (unhide HB7).give (.slice Ta (tabsW Y).length Tc) (.slice Ag Y.gens.length cg); have hN8 := (unhide HN7).putc (b := w.heap.size + 1) (o := 0) (vs := [.slice Ta (tabsW Y).length Tc, .slice Ag Y.gens.length cg]) (by omega); have hL8 := below_setCells (w.heap.size + 1) (by omega) [.slice Ta (tabsW Y).length Tc, .slice Ag Y.gens.length cg] 0 w7 (unhide HL7); rw [← hW8] at hB8 hN8 hL8; have HB8 := hide hB8; have HN8 := hide hN8; have HL8 := hide hL8; clear hW8 hB8 hN8 hL8))
  have t0 := (unhide HB8).s.e0
  have t1 := (unhide HB8).s.e1
  refine bodyPost_ret (v := .tuple #[.agg #[.slice Ta (tabsW Y).length Tc, .slice Ag Y.gens.length cg], .int .i64 0]) (by simp [results, Try.results61, go_sem, t0, t1]) rfl ⟨Ta, Tc, Ag, cg, rfl, (unhide HN8).le (by omega), unhide HL8⟩
set_option maxRecDepth 8000 in
set_option maxHeartbeats 4000000 in
theorem schange_no (fid : FuncId) (caps : List Value) (T : Option Addr) (tcap : Nat) (G : Option Addr) (gcap : Nat) (tabs : List TabI) (X Y : Wd) (err : Int) (cb : Nat) (vs : List Value) (w : World) (h : StAt w T G tabs X) (hcb : cb < w.heap.size) (hY : err ≠ 0) (hf : Becomes fid caps X Y err cb vs w) (hE : Enters fid) :
    Calls Try.prog 61 #[stV T tabs.length tcap G X.gens.length gcap, .func (.func fid) #[] caps.toArray] w fun e w' => e = .returned (.tuple #[stV none 0 0 none 0 0, .int .i64 err]) ∧ Below w.heap.size (w.setCells cb 0 vs) w' := by
  have hB := B2.start w (.slice T tabs.length tcap) (.slice G X.gens.length gcap) (.slice none 0 0) (.slice none 0 0) 43 43
  have hb2 := bel2 w (.cells #[.slice T tabs.length tcap, .slice G X.gens.length gcap] 43) (.cells #[.slice none 0 0, .slice none 0 0] 43)
  have hTO := fun W (hb : Below w.heap.size w W) => together_any T tcap G gcap tabs X W (h.below hb)
  unfold stV wldV worldV at hTO
  unfold Becomes wldV worldV at hf
  unfold Enters at hE
  have HB := hide hB
  have HB2 := hide hb2
  have HTO := hide hTO
  have HF := hide hf
  clear hB hb2 hTO hf h
  unfold stV
  go_enter Try.func61, Try.ntmps61
  go_wp2_with ((go_at_call 44; refine (unhide HTO _ (unhide HB2)).mono ?_; rintro e w1 ⟨A1, c1, G1, gc1, rfl, hN1, hb1⟩; have HB3 := hide (((unhide HB).below hb1).below (bel2 w1 (.cells #[.slice A1 X.rows.length c1, .slice G1 X.gens.length gc1] 40) (.cells #[.int .i64 0, .int .i64 0] 30))); have HN1 := hide (hN1.below (bel2 w1 (.cells #[.slice A1 X.rows.length c1, .slice G1 X.gens.length gc1] 40) (.cells #[.int .i64 0, .int .i64 0] 30))); have HBL := hide (((unhide HB2).trans (hb1.mono (unhide HB2).size)).trans ((bel2 w1 (.cells #[.slice A1 X.rows.length c1, .slice G1 X.gens.length gc1] 40) (.cells #[.int .i64 0, .int .i64 0] 30)).mono ((unhide HB2).trans (hb1.mono (unhide HB2).size)).size)); clear hN1 hb1))
  refine (unhide HF A1 c1 G1 gc1 _ (unhide HN1).toWldAt (unhide HBL)).mono ?_
  rintro e w4 ⟨A4, c4, G4, gc4, rfl, hN4, hb4⟩
  have hB4 := ((unhide HB3).turn (o := 0) (vs := vs) hcb).below (by rw [size_setCells]; exact hb4)
  have hL4 := (below_both (cb := cb) vs 0 _ _ (unhide HBL)).trans (hb4.mono (unhide HBL).size)
  have HB5 := hide (hB4.below (bel1 w4 (.cells #[.slice A4 Y.rows.length c4, .slice G4 Y.gens.length gc4] 40)))
  have HL5 := hide (hL4.trans ((bel1 w4 (.cells #[.slice A4 Y.rows.length c4, .slice G4 Y.gens.length gc4] 40)).mono (by have := hL4.size; rw [size_setCells] at this; exact this)))
  have HN5 := hide (hN4.below (bel1 w4 (.cells #[.slice A4 Y.rows.length c4, .slice G4 Y.gens.length gc4] 40)))
  clear hB4 hL4 hN4 hb4 hE HF HTO HN1 HBL HB3
  go_wp2_with ((refine wpList_putN rfl 43 (.tmp 4) (.tmp 29) rfl (w.heap.size + 1) 0 [.slice none 0 0, .slice none 0 0] rfl rfl (by simp [Value.oneCell']) size71 (b13_there (unhide HB5).s) ?_; intro W8 hW8; have hB8 := (unhide HB5).give (.slice none 0 0) (.slice none 0 0); have hL8 := below_setCells (w.heap.size + 1) (by omega) [.slice none 0 0, .slice none 0 0] 0 _ (unhide HL5); rw [← hW8] at hB8 hL8; have HB8 := hide hB8; have HL8 := hide hL8; clear hW8 hB8 hL8))
  have t0 := (unhide HB8).s.e0
  have t1 := (unhide HB8).s.e1
  refine bodyPost_ret (v := .tuple #[.agg #[.slice none 0 0, .slice none 0 0], .int .i64 err]) (by simp [results, Try.results61, go_sem, t0, t1]) rfl ⟨rfl, unhide HL8⟩
end Go.Proofs.Ytnbleebilmghcab
namespace Go.Proofs.Ytnbleebilmghcab
open Go Go.RowKit
def allocs (w : World) : List (List Value × TypeId) → World
  | [] => w
  | x :: r => allocs (w.alloc (.cells x.1.toArray x.2)) r
def Bxs (B : Nat) (l : List (List Value × TypeId)) (W : World) : Prop := ∀ (k : Nat) (vs : List Value) (t : TypeId), l[k]? = some (vs, t) → W.heap[B + k]? = some (.cells vs.toArray t (0, 0))
section
variable {B : Nat} {l : List (List Value × TypeId)} {W W1 : World}
theorem Bxs.lt (h : Bxs B l W) {k : Nat} {x : List Value × TypeId} (hk : l[k]? = some x) : B + k < W.heap.size := (Array.getElem?_eq_some_iff.1 (h k x.1 x.2 hk)).1
theorem Bxs.sz (h : Bxs B l W) (hl : 0 < l.length) : B + l.length ≤ W.heap.size := by
  have := h.lt (k := l.length - 1) (x := l[l.length - 1]) (List.getElem?_eq_getElem (by omega))
  omega
theorem Bxs.keep (h : Bxs B l W) (hb : Below (B + l.length) W W1) : Bxs B l W1 := fun k vs t hk => (hb.block (B + k) (by
  have : k < l.length := (List.getElem?_eq_some_iff.1 hk).1
  omega)).trans (h k vs t hk)
theorem Bxs.below (h : Bxs B l W) (hb : Below W.heap.size W W1) : Bxs B l W1 := fun k vs t hk => (hb.block (B + k) (h.lt hk)).trans (h k vs t hk)
theorem Bxs.snoc (h : Bxs B l W) (hs : W.heap.size = B + l.length) (vs : List Value) (t : TypeId) : Bxs B (l ++ [(vs, t)]) (W.alloc (.cells vs.toArray t)) := fun k vs' t' hk => by
  by_cases hlt : k < l.length
  · rw [List.getElem?_append_left hlt] at hk
    exact ((bel1 W (.cells vs.toArray t)).block (B + k) (h.lt hk)).trans (h k vs' t' hk)
  · have hk' : k < (l ++ [(vs, t)]).length := (List.getElem?_eq_some_iff.1 hk).1
    rw [List.length_append, List.length_singleton] at hk'
    obtain rfl : k = l.length := by omega
    rw [List.getElem?_append_right (Nat.le_refl _)] at hk
    simp at hk
    obtain ⟨rfl, rfl⟩ := hk
    rw [← hs]
    show (W.heap.push _)[W.heap.size]? = _
    simp
theorem Bxs.cell (h : Bxs B l W) (k : Nat) {vs : List Value} {t : TypeId} (hk : l[k]? = some (vs, t)) (j : Nat) {u : Value} (hj : vs[j]? = some u) : W.cell? ⟨B + k, j, none⟩ = some u := by
  rw [cell_of_row W (B + k) j vs.toArray t (0, 0) (h k vs t hk)]
  simpa using hj
theorem Bxs.free (h : Bxs B l W) (k : Nat) {vs : List Value} {t : TypeId} (hk : l[k]? = some (vs, t)) (j : Nat) : W.frozen? ⟨B + k, j, none⟩ = false := by simp [World.frozen?, h k vs t hk]
theorem Bxs.there (h : Bxs B l W) (k : Nat) {vs : List Value} {t : TypeId} (hk : l[k]? = some (vs, t)) (n : Nat) (hn : vs.length = n) : W.there (B + k) 0 n := fun j hj => by
  rw [Nat.zero_add]
  exact ⟨by rw [h.cell k hk j (u := vs[j]) (List.getElem?_eq_getElem (by omega))]; rfl, h.free k hk j⟩
theorem heap_sets_same (b : Nat) (t : TypeId) : ∀ (vs : List Value) (o : Nat) (cur : List Value) (W : World), W.heap[b]? = some (.cells cur.toArray t (0, 0)) → o + vs.length ≤ cur.length → (W.setCells b o vs).heap[b]? = some (.cells (cur.take o ++ vs ++ cur.drop (o + vs.length)).toArray t (0, 0))
  | [], o, cur, W, h, _ => by simpa [World.setCells] using h
  | u :: r, o, cur, W, h, hl => by
    have h1 : (W.setCell ⟨b, o, none⟩ u).heap[b]? = some (.cells (cur.set o u).toArray t (0, 0)) := by
      have := heap_setCell_same W b o cur.toArray t u h
      simpa using this
    have h2 := heap_sets_same b t r (o + 1) (cur.set o u) _ h1 (by simp only [List.length_set, List.length_cons] at *; omega)
    show ((W.setCell ⟨b, o, none⟩ u).setCells b (o + 1) r).heap[b]? = _
    rw [h2]
    have ho : o < cur.length := by simp only [List.length_cons] at hl; omega
    congr 3
    rw [List.take_set, List.drop_set, if_pos (by omega), List.take_succ_eq_append_getElem ho, List.set_append_right _ _ (by rw [List.length_take]; omega), List.length_take, Nat.min_eq_left (by omega)]
    simp only [Nat.sub_self, List.set_cons_zero, List.append_assoc, List.cons_append, List.nil_append, List.length_cons]
    rw [show o + 1 + r.length = o + (r.length + 1) by omega]
theorem Bxs.give (h : Bxs B l W) (k : Nat) {vs : List Value} {t : TypeId} (hk : l[k]? = some (vs, t)) (vs' : List Value) (hn : vs'.length = vs.length) : Bxs B (l.set k (vs', t)) (W.setCells (B + k) 0 vs') := fun j us t' hj => by
  by_cases e : j = k
  · subst e
    have hlt : j < l.length := (List.getElem?_eq_some_iff.1 hk).1
    rw [List.getElem?_set_self hlt] at hj
    simp only [Option.some.injEq, Prod.mk.injEq] at hj
    obtain ⟨rfl, rfl⟩ := hj
    have := heap_sets_same (B + j) t vs' 0 vs W (h j vs t hk) (by omega)
    rw [this]
    simp [hn]
  · rw [List.getElem?_set_ne (Ne.symm e)] at hj
    rw [heap_sets (B + k) vs' 0 W (B + j) (by omega)]
    exact h j us t' hj
theorem Bxs.turn (h : Bxs B l W) {cb o : Nat} {vs : List Value} (hcb : cb < B ∨ B + l.length ≤ cb) : Bxs B l (W.setCells cb o vs) := fun k us t hk => by
  have : k < l.length := (List.getElem?_eq_some_iff.1 hk).1
  rw [heap_sets cb vs o W (B + k) (by omega)]
  exact h k us t hk
theorem Bxs.nil (B : Nat) (W : World) : Bxs B [] W := fun k vs t h => by simp at h
end
theorem bxs_allocs : ∀ (r l : List (List Value × TypeId)) (B : Nat) (W : World), Bxs B l W → W.heap.size = B + l.length → Bxs B (l ++ r) (allocs W r)
  | [], l, B, W, h, _ => by rw [List.append_nil]; exact h
  | x :: r, l, B, W, h, hs => by
    have := bxs_allocs r (l ++ [x]) B (W.alloc (.cells x.1.toArray x.2)) (h.snoc hs x.1 x.2) (by simp [hs]; omega)
    rwa [List.append_assoc] at this
theorem Bxs.start (w : World) (l : List (List Value × TypeId)) : Bxs w.heap.size l (allocs w l) := bxs_allocs l [] w.heap.size w (Bxs.nil _ _) rfl
theorem allocs_below : ∀ (l : List (List Value × TypeId)) (w : World), Below w.heap.size w (allocs w l)
  | [], w => Below.refl _ _
  | x :: r, w => below_one w _ (allocs_below r _)
theorem allocs_size : ∀ (l : List (List Value × TypeId)) (w : World), (allocs w l).heap.size = w.heap.size + l.length
  | [], w => rfl
  | x :: r, w => by
    show (allocs (w.alloc (.cells x.1.toArray x.2)) r).heap.size = _
    rw [allocs_size r]
    simp; omega
theorem right_empty : RightW emptyW := (right_iff emptyW).1 (by decide +kernel)
theorem stNew_empty (base : Nat) (w : World) : StNew base w none none (tabsW emptyW) emptyW := fun W _ => ⟨fun j hj => by simp [tabsW, tabsTo, emptyW] at hj, fun j hj => by simp [emptyW] at hj, right_empty, fun t ht => by simp [tabsW, tabsTo, emptyW] at ht, fun j hj => by simp [tabsW, tabsTo, emptyW] at hj, by simp [tabsW, tabsTo, emptyW], by simp [tabsW, tabsTo, emptyW]⟩
theorem schange_any (fid : FuncId) (caps : List Value) (T : Option Addr) (tcap : Nat) (G : Option Addr) (gcap : Nat) (tabs : List TabI) (X Y : Wd) (err : Int) (cb : Nat) (vs : List Value) (w : World) (h : StAt w T G tabs X) (hcb : cb < w.heap.size) (hY : err = 0 → RightW Y) (hN : err ≠ 0 → Y = emptyW) (hf : Becomes fid caps X Y err cb vs w) (hE : Enters fid) :
    Calls Try.prog 61 #[stV T tabs.length tcap G X.gens.length gcap, .func (.func fid) #[] caps.toArray] w fun e w' => ∃ T' tc' G' gc', e = .returned (.tuple #[stV T' (tabsW Y).length tc' G' Y.gens.length gc', .int .i64 err]) ∧ StNew w.heap.size w' T' G' (tabsW Y) Y ∧ Below w.heap.size (w.setCells cb 0 vs) w' := by
  by_cases e : err = 0
  · subst e
    exact schange_ok fid caps T tcap G gcap tabs X Y cb vs w h hcb (hY rfl) hf hE
  · refine (schange_no fid caps T tcap G gcap tabs X Y err cb vs w h hcb e hf hE).mono ?_
    rintro e w' ⟨rfl, hb⟩
    refine ⟨none, 0, none, 0, ?_, ?_, hb⟩
    · rw [hN (by assumption)]; rfl
    · rw [hN (by assumption)]; exact stNew_empty _ _
end Go.Proofs.Ytnbleebilmghcab
