/- STof, STake -/
import Derived.Test.YtnbleebilmghcabQM
set_option linter.all false
namespace Go.Proofs.Ytnbleebilmghcab
open Go Go.RowKit
attribute [local go_sem ↓] Go.wp_at_zero Go.wp_at_succ
def hsI : List Int → Int → List Int
  | [], x => [x]
  | h :: l, x => if h < x then h :: hsI l x else if h = x then h :: l else x :: h :: l
theorem hsI_take (l : List TabI) (r : RowI) : (takeT l r).map (·.has) = hsI (l.map (·.has)) r.has := by
  induction l with
  | nil => rfl
  | cons t l ih =>
    unfold takeT
    rw [List.map_cons]
    unfold hsI
    split
    · rw [List.map_cons, ih]
    · split
      · rfl
      · rfl
theorem hsI_at (x : Int) : ∀ (l : List Int) (i : Nat), i ≤ l.length → (∀ y (h : y < l.length), y < i → l[y] < x) → (∀ y (h : y < l.length), i ≤ y → x ≤ l[y]) →
    (∀ (h : i < l.length), l[i] = x → hsI l x = l) ∧ ((∀ (h : i < l.length), l[i] ≠ x) → hsI l x = l.take i ++ x :: l.drop i)
  | [], i, hi, _, _ => by
    obtain rfl : i = 0 := by simpa using hi
    exact ⟨fun h => by simp at h, fun _ => by simp [hsI]⟩
  | t :: l, 0, hi, hlo, hhi => by
    have h0 := hhi 0 (by simp) (Nat.le_refl _)
    simp only [List.getElem_cons_zero] at h0
    refine ⟨fun h e => ?_, fun hne => ?_⟩
    · simp only [List.getElem_cons_zero] at e
      unfold hsI
      rw [if_neg (by omega), if_pos e]
    · have := hne (by simp)
      simp only [List.getElem_cons_zero] at this
      unfold hsI
      rw [if_neg (by omega), if_neg this]
      simp
  | t :: l, i + 1, hi, hlo, hhi => by
    have h0 := hlo 0 (by simp) (by omega)
    simp only [List.getElem_cons_zero] at h0
    obtain ⟨g1, g2⟩ := hsI_at x l i (by simpa using hi) (fun y h hy => by have := hlo (y + 1) (by simpa using h) (by omega); simpa using this) (fun y h hy => by have := hhi (y + 1) (by simpa using h) (by omega); simpa using this)
    refine ⟨fun h e => ?_, fun hne => ?_⟩
    · simp only [List.getElem_cons_succ] at e
      unfold hsI
      rw [if_pos h0, g1 (by simpa using h) e]
    · unfold hsI
      rw [if_pos h0, g2 (fun h => by have := hne (by simpa using h); simpa using this)]
      simp
theorem insH_at (l : List Int) (x : Int) (i : Nat) (h : i ≤ l.length) : ∃ hi : i < (l.take i ++ x :: l.drop i).length, (l.take i ++ x :: l.drop i)[i] = x := by
  have hl : (l.take i).length = i := by rw [List.length_take]; omega
  refine ⟨by simp; omega, ?_⟩
  rw [List.getElem_append_right (by omega)]
  simp [hl]
theorem info26 : (Try.prog.info? 38).map (fun i => (i.zero, i.size, i.bytes)) = some (some (.slice none 0 0), 1, 24) := by kernel_rfl
theorem size69 : (Try.prog.info? 41).map (·.size) = some 1 := by kernel_rfl
theorem TblL.tc {base bx : Nat} {A : Option Addr} {c : Nat} {G : Value} {gens : List Int} {m : TblM} {d : TblD} {W : World} (h : TblL base bx (.slice A d.hs.length c) G gens m d W) : TC W A d.hs.length (fun j => d.hs.getD j 0) (fun j => aV m d (d.hs.getD j 0)) (fun j => cV m (d.hs.getD j 0)) := fun j hj => by
  obtain ⟨g, cap, e, _, _⟩ := own_pos h.ownT (by omega)
  simp only [Value.slice.injEq, true_and] at e
  obtain ⟨rfl, rfl⟩ := e
  have hg : d.hs.getD j 0 = d.hs[j] := by rw [List.getD_eq_getElem?_getD, List.getElem?_eq_getElem hj]; rfl
  obtain ⟨c0, c1, c2⟩ := cellsT_at (d.hs.map (tt m d)) j (by simpa using hj)
  simp only [List.getElem_map] at c0 c1 c2
  refine ⟨g, 0, rfl, ?_, ?_, ?_⟩
  · rw [Nat.zero_add]; dsimp only; rw [hg]; exact own_cell h.ownT c0
  · rw [Nat.zero_add]; dsimp only; rw [hg]; exact own_cell h.ownT c1
  · rw [Nat.zero_add]; dsimp only; rw [hg]; exact own_cell h.ownT c2
def Kp (base bx : Nat) (T : Value) (W0 W : World) : Prop := Below base W0 W ∧ ∀ g, g < W0.heap.size → g ≠ bx → T.ownBlock ≠ some g → W.heap[g]? = W0.heap[g]?
theorem Kp.below {base bx : Nat} {T : Value} {W0 W W1 : World} (h : Kp base bx T W0 W) (hb : Below W.heap.size W W1) (hs : base ≤ W.heap.size) : Kp base bx T W0 W1 :=
  ⟨h.1.trans (hb.mono hs), fun g hg h1 h2 => (hb.block g (Nat.lt_of_lt_of_le hg h.1.size)).trans (h.2 g hg h1 h2)⟩
theorem Kp.refl (base bx : Nat) (T : Value) (W : World) : Kp base bx T W W := ⟨Below.refl _ _, fun _ _ _ _ => rfl⟩
def TD (base bx gl S i gC : Nat) (x : Int) (T G : Value) (gens : List Int) (m : TblM) (d : TblD) (W0 : World) (γ : Value) (L : Nat → Bool) (W : World) : Prop :=
  (L 9 = false → TblL base bx T G gens m d W ∧ W.ownsRow base 38 1 (.slice (some ⟨gC, 0, none⟩) (ncol x) (ncol x)) (ncol x) (List.replicate (ncol x) (.slice none 0 0)) ∧ (L 8 = false → W.heap.size = S ∧ W.heap[gl]? = some (.cells (t3Cells ⟨x, none, 0, 0, some ⟨gC, 0, none⟩, ncol x, ncol x⟩).toArray 98 (0, 0))) ∧ (L 8 = true → VBT W S ⟨x, none, 0, 0, some ⟨gC, 0, none⟩, ncol x, ncol x⟩)) ∧
  (L 9 = true → L 13 = false → (∃ g' c', γ = .slice (some ⟨g', 0, none⟩) (d.hs.length + 1) c') ∧ W.there bx 0 1 ∧ TblL base bx γ G gens ⟨m.A, updF m.C x (some ⟨gC, 0, none⟩, ncol x), m.K⟩ ⟨d.hs.take i ++ x :: d.hs.drop i, d.B, d.L⟩ (W.setCell ⟨bx, 0, none⟩ γ)) ∧
  (L 13 = true → TblL base bx γ G gens ⟨m.A, updF m.C x (some ⟨gC, 0, none⟩, ncol x), m.K⟩ ⟨d.hs.take i ++ x :: d.hs.drop i, d.B, d.L⟩ W) ∧ Kp base bx T W0 W
section
variable {base bx gl S i gC : Nat} {x : Int} {T G : Value} {gens : List Int} {m : TblM} {d : TblD} {W0 W : World} {γ : Value} {L : Nat → Bool}
theorem TD.quiet (h : TD base bx gl S i gC x T G gens m d W0 γ L W) (j : Nat) (h8 : 8 ≠ j) (h9 : 9 ≠ j) (h13 : 13 ≠ j) : TD base bx gl S i gC x T G gens m d W0 γ (upd L j) W := by
  unfold TD at h ⊢
  rw [upd_ne h8, upd_ne h9, upd_ne h13]
  exact h
theorem TD.build (h : TD base bx gl S i gC x T G gens m d W0 γ L W) (q8 : L 8 = false) (q9 : L 9 = false) (hb : base ≤ S) : TD base bx gl S i gC x T G gens m d W0 γ (upd L 8) (W.alloc (.cells (t3Cells ⟨x, none, 0, 0, some ⟨gC, 0, none⟩, ncol x, ncol x⟩).toArray 98)) := by
  obtain ⟨h1, h2, h3, h4⟩ := h
  obtain ⟨f1, f2, f3, _⟩ := h1 q9
  obtain ⟨f3, _⟩ := f3 q8
  refine ⟨fun _ => ⟨f1.below (bel1 _ _), own_kept f2 (bel1 _ _), fun e => ?_, fun _ => ⟨?_⟩⟩, fun e => ?_, fun e => ?_, h4.below (bel1 _ _) f1.sz⟩
  · rw [upd_eq] at e; cases e
  · rw [← f3]
    show (W.heap.push _)[W.heap.size]? = _
    simp
  · rw [upd_ne (by decide), q9] at e; cases e
  · rw [upd_ne (by decide)] at e
    exact (h3 e).below (bel1 _ _)
theorem TD.call {W' : World} {g' c' : Nat} (h : TD base bx gl S i gC x T G gens m d W0 γ L W) (q9 : L 9 = false) (q13 : L 13 = false) (hx : x ∉ d.hs) (hi : i ≤ d.hs.length) (hCn : ∀ y ∈ d.hs, (cV m y).ownBlock ≠ some gC) (hg : W.grownBy W' T.ownBlock) (ho : W'.ownsRow base 98 3 (.slice (some ⟨g', 0, none⟩) (d.hs.length + 1) c') (d.hs.length + 1) (cellsOfT3 (insT (d.hs.map (tt m d)) i ⟨x, none, 0, 0, some ⟨gC, 0, none⟩, ncol x, ncol x⟩))) : TD base bx gl S i gC x T G gens m d W0 (.slice (some ⟨g', 0, none⟩) (d.hs.length + 1) c') (upd L 9) W' := by
  obtain ⟨h1, h2, h3, h4⟩ := h
  obtain ⟨f1, f2, _⟩ := h1 q9
  have hb2 : W'.heap[bx]? = some (.cells #[T, G] 114 (0, 0)) := (hg.block bx f1.lt (fun e => f1.boxT e.symm)).trans f1.box
  refine ⟨fun e => ?_, fun _ _ => ⟨⟨_, _, rfl⟩, fun j hj => ?_, f1.lay hx hi f2 hCn hg ho⟩, fun e => ?_, h4.1.trans (grown_below hg (fun k e => (f1.ownT.lt k e).1) f1.sz), fun g hg1 h1 h2 => (hg.block g (Nat.lt_of_lt_of_le hg1 h4.1.size) (fun e => h2 e.symm)).trans (h4.2 g hg1 h1 h2)⟩
  · rw [upd_eq] at e; cases e
  · obtain rfl : j = 0 := by omega
    exact ⟨by simp [World.cell?, hb2], by simp [World.frozen?, hb2]⟩
  · rw [upd_ne (by decide), q13] at e; cases e
theorem TD.store (h : TD base bx gl S i gC x T G gens m d W0 γ L W) (q9 : L 9 = true) (q13 : L 13 = false) (hb : base ≤ bx) : TD base bx gl S i gC x T G gens m d W0 γ (upd L 13) (W.setCell ⟨bx, 0, none⟩ γ) := by
  obtain ⟨h1, h2, h3, h4⟩ := h
  refine ⟨fun e => ?_, fun _ e => ?_, fun _ => (h2 q9 q13).2.2, h4.1.setCell (p := ⟨bx, 0, none⟩) hb _, fun g hg1 h1' h2' => (heap_setCell_other W ⟨bx, 0, none⟩ g γ (by simpa using h1')).trans (h4.2 g hg1 h1' h2')⟩
  · rw [upd_ne (by decide), q9] at e; cases e
  · rw [upd_eq] at e; cases e
end
set_option maxRecDepth 8000 in
set_option maxHeartbeats 4000000 in
theorem tableof_any (base bx : Nat) (T G : Value) (gens : List Int) (m : TblM) (d : TblD) (x : Int) (W : World) (h : TblL base bx T G gens m d W) (hup : ∀ i j (hj : j < d.hs.length) (hij : i < j), d.hs[i] < d.hs[j]) (hlen : d.hs.length ≤ 900) (x0 : 0 ≤ x) (x1 : x ≤ 255) :
    Calls Try.prog 90 #[.pointer (some ⟨bx, 0, none⟩), .int .i64 x] W fun e w' => ∃ (i : Nat) (T' : Value) (m' : TblM), e = .returned (.int .i64 (i : Int)) ∧ (∃ hi : i < (hsI d.hs x).length, (hsI d.hs x)[i] = x) ∧ TblL base bx T' G gens m' ⟨hsI d.hs x, d.B, d.L⟩ w' ∧ Kp base bx T W w' := by
  obtain ⟨A, c, rfl⟩ := own_one h.ownT
  have hg : ∀ j (hj : j < d.hs.length), d.hs.getD j 0 = d.hs[j] := fun j hj => by rw [List.getD_eq_getElem?_getD, List.getElem?_eq_getElem hj]; rfl
  have hBS := bsearch_any A c d.hs.length (fun j => d.hs.getD j 0) _ _ x W (by omega) h.tc (fun i j hij hj => by rw [hg i (by omega), hg j hj]; exact hup i j hj hij)
  have hsz := h.sz
  have hbx := h.lo
  obtain ⟨b0, _⟩ := h.cells
  have hCT := fun W => count_any x W x0 x1
  obtain ⟨i26, hi26, hz26, hs26, hb26⟩ := info_parts info26
  have HI := hide hi26
  have HZ := hide hz26
  have HS := hide hs26
  have HB := hide hb26
  have HF := hide h
  have HBS := hide hBS
  have HCT := hide hCT
  have HG := hide hg
  have ml := lst_len x 8
  clear hi26 hz26 hs26 hb26 h hBS hCT hg
  go_enter Try.func90, Try.ntmps90
  go_wp2_with fail
  go_at_call 106
  refine (unhide HBS).mono ?_
  rintro e w1 ⟨i, hil, rfl, hlo, hhi, hb1⟩
  clear b0
  have hlo' : ∀ y (hy : y < d.hs.length), y < i → d.hs[y] < x := fun y hy hyi => by have := hlo y hyi; rwa [unhide HG y hy] at this
  have hhi' : ∀ y (hy : y < d.hs.length), i ≤ y → x ≤ d.hs[y] := fun y hy hyi => by have := hhi y hyi hy; rwa [unhide HG y hy] at this
  have HAT := hide (hsI_at x d.hs i hil hlo' hhi')
  by_cases hf : i < d.hs.length ∧ d.hs.getD i 0 = x
  · rw [decide_eq_true hf]
    have hii := hf.1
    have hxi : d.hs[i] = x := by rw [← unhide HG i hf.1]; exact hf.2
    have HXI := hide hxi
    have HEQ := hide ((unhide HAT).1 hf.1 hxi)
    have HB1 := hide hb1
    clear hf hxi hlo hhi hlo' hhi' hb1
    go_wp2
    go_ret
    rw [unhide HEQ]
    exact ⟨i, _, m, rfl, ⟨hii, unhide HXI⟩, (unhide HF).below (unhide HB1), (Kp.refl _ _ _ _).below (unhide HB1) hsz⟩
  · rw [decide_eq_false hf]
    have hne : ∀ (hi : i < d.hs.length), d.hs[i] ≠ x := fun hi e => hf ⟨hi, by rw [unhide HG i hi]; exact e⟩
    have HEQ := hide ((unhide HAT).2 hne)
    have hxn : x ∉ d.hs := fun hm => by
      obtain ⟨y, hy, e⟩ := List.getElem_of_mem hm
      rcases Nat.lt_trichotomy y i with hlt | rfl | hgt
      · have := hlo' y hy hlt; omega
      · exact hne hy e
      · have h1 := hhi' i (by omega) (Nat.le_refl _)
        have h2 := hup i y hy hgt
        omega
    have HX := hide hxn
    have hF1 := (unhide HF).below hb1
    have HF1 := hide hF1
    have HB1 := hide hb1
    clear hf hlo hhi hlo' hhi' hb1 hne hxn hF1
    go_wp2_with (first
      | (go_at_call 92; refine (unhide HCT _).mono ?_; rintro e w2 ⟨rfl, hw⟩; obtain rfl := hw.symm)
      | (at_make; refine wpList_make_full w1 rfl _ _ 66 rfl base 38 i26 _ 1 Try.underlying66 (unhide HI) (unhide HZ) (unhide HS) .i64 .i64 _ _ (ncol x) rfl rfl rfl rfl (by rw [unhide HB]; unfold ncol; omega) (by unfold maxLen ncol; omega) (unhide HF1).sz ?_; intro w3 ho3 hg3; have HO3 := hide ho3; have HG3 := hide hg3; clear ho3 hg3))
    obtain ⟨gC, hgC⟩ : ∃ gC, gC = w1.heap.size := ⟨_, rfl⟩
    obtain ⟨gl, hgl⟩ : ∃ gl, gl = w3.heap.size := ⟨_, rfl⟩
    rw [← hgC, ← hgl]
    have hb3 : Below w1.heap.size w1 w3 := grown_below (unhide HG3) (fun k e => by cases e) (Nat.le_refl _)
    have hF3 := (unhide HF1).below hb3
    have hOC : w3.ownsRow base 38 1 (.slice (some ⟨gC, 0, none⟩) (ncol x) (ncol x)) (ncol x) (List.replicate (ncol x) (.slice none 0 0)) := by
      have := unhide HO3
      rw [Nat.mul_one, show (Value.slice none 0 0).cells = #[.slice none 0 0] from rfl, toList_madeCells_one, ← hgC] at this
      exact this
    have hCN : ∀ y ∈ d.hs, (cV m y).ownBlock ≠ some gC := fun y hy e => by
      have := ((unhide HF1).ownC y hy).lt gC e
      omega
    obtain ⟨W4, hW4⟩ : ∃ W4, W4 = w3.alloc (.cells #[.int .i64 x, .slice none 0 0, .slice (some ⟨gC, 0, none⟩) (ncol x) (ncol x)] 98) := ⟨_, rfl⟩
    have hb4 : Below w3.heap.size w3 W4 := by rw [hW4]; exact bel1 _ _
    have hl4 : W4.heap[gl]? = some (.cells (t3Cells ⟨x, none, 0, 0, some ⟨gC, 0, none⟩, ncol x, ncol x⟩).toArray 98 (0, 0)) := by
      rw [hW4, hgl]
      show (w3.heap.push _)[w3.heap.size]? = _
      simp [t3Cells]
    obtain ⟨S, hS⟩ : ∃ S, S = W4.heap.size := ⟨_, rfl⟩
    have hbS : base ≤ S := by rw [hS]; exact Nat.le_trans hF3.sz hb4.size
    have hbW : Kp base bx (.slice A d.hs.length c) W W4.drew := ((((Kp.refl _ _ _ _).below (unhide HB1) hsz).below hb3 (unhide HF1).sz).below hb4 hF3.sz).below (Below.refl _ _).drew (hF3.below hb4).sz
    have h0 : TD base bx gl S i gC x (.slice A d.hs.length c) G gens m d W undef (fun _ => false) W4.drew := ⟨fun _ => ⟨(hF3.below hb4).below (Below.refl _ _).drew, own_drew (own_kept hOC hb4), fun _ => ⟨hS.symm, hl4⟩, fun e => (by cases e)⟩, fun e => (by cases e), fun e => (by cases e), hbW⟩
    have HIN : Hid (∀ w, TblL base bx (.slice A d.hs.length c) G gens m d w → VBT w S ⟨x, none, 0, 0, some ⟨gC, 0, none⟩, ncol x, ncol x⟩ → Calls Try.prog 108 #[.slice A d.hs.length c, .int .i64 (i : Int), .slice (some ⟨S, 0, none⟩) 1 1] w fun e w' => ∃ g' c', e = .returned (.slice (some ⟨g', 0, none⟩) (d.hs.length + 1) c') ∧ w'.ownsRow base 98 3 (.slice (some ⟨g', 0, none⟩) (d.hs.length + 1) c') (d.hs.length + 1) (cellsOfT3 (insT (d.hs.map (tt m d)) i ⟨x, none, 0, 0, some ⟨gC, 0, none⟩, ncol x, ncol x⟩)) ∧ w.grownBy w' (Value.slice A d.hs.length c).ownBlock) := hide fun w hF hV => by
      have hF4 := hF3.below hb4
      have := insertT_any base A c i (d.hs.map (tt m d)) ⟨x, none, 0, 0, some ⟨gC, 0, none⟩, ncol x, ncol x⟩ S w (by rw [List.length_map]; omega) (by rw [List.length_map]; exact hil) hF.sz (fun c' o e => by
        intro e2
        have h1 := (hF4.ownT.lt S (by rw [e2, e]; rfl)).2
        omega) (by rw [List.length_map]; exact hF.ownT) hV
      rwa [List.length_map] at this
    have HCN := hide hCN
    have hgw : w3.alloc (.cells #[.int .i64 x, .slice none 0 0, .slice (some ⟨gC, 0, none⟩) (ncol x) (ncol x)] 98) = W4 := hW4.symm
    rw [hgw]
    clear hb3 hF3 hOC hCN hb4 hl4 hgw hW4 HO3 HG3 hgC hgl hS HB1 hbW
    refine wp_region_gho (fun (γ : Value) ix v => if ix = 9 then v = γ else (([fun v => v = .pointer (some ⟨bx, 0, none⟩), fun v => v = .pointer (some ⟨bx, 0, none⟩), fun v => v = .pointer (some ⟨bx, 0, none⟩), fun v => v = .pointer (some ⟨bx, 0, none⟩), fun v => v = .pointer (some ⟨bx, 0, none⟩), fun v => v = .slice A d.hs.length c, fun v => v = .int .i64 (i : Int), fun v => v = .agg #[.int .i64 x, .slice none 0 0, .slice (some ⟨gC, 0, none⟩) (ncol x) (ncol x)], fun v => v = .slice (some ⟨S, 0, none⟩) 1 1, fun _ => True, fun v => v = .pointer (some ⟨bx, 0, none⟩), fun v => v = .pointer (some ⟨bx, 0, none⟩), fun v => v = .pointer (some ⟨bx, 0, none⟩), fun _ => True] : List (Value → Prop)).getD ix (fun _ => True)) v) (TD base bx gl S i gC x (.slice A d.hs.length c) G gens m d W) (undef) (by kernel_rfl) (by kernel_rfl) (by kernel_rfl) h0 ?hstep ?hend
    case hstep =>
      intro γ ix o ho L ac w1 hD hL hed hcl hout hv
      match ix, ho with
      | 0, ho =>
        simp at ho
        subst ho
        have e0 : ac.tmps.getD 0 undef = .pointer (some ⟨bx, 0, none⟩) := hout 0 (by decide +kernel)
        exact .inl ⟨rfl, gho_reads γ (.pointer (some ⟨bx, 0, none⟩)) (by simp [go_sem, Act.eval, -Array.getD_eq_getD_getElem?, e0]) rfl (hD.quiet 0 (by decide) (by decide) (by decide)) (fun _ _ _ _ h => h)⟩
      | 1, ho =>
        simp at ho
        subst ho
        have e0 : ac.tmps.getD 0 undef = .pointer (some ⟨bx, 0, none⟩) := hout 0 (by decide +kernel)
        exact .inl ⟨rfl, gho_reads γ (.pointer (some ⟨bx, 0, none⟩)) (by simp [go_sem, Act.eval, -Array.getD_eq_getD_getElem?, e0]) rfl (hD.quiet 1 (by decide) (by decide) (by decide)) (fun _ _ _ _ h => h)⟩
      | 2, ho =>
        simp at ho
        subst ho
        have e26 : ac.tmps.getD 26 undef = .pointer (some ⟨bx, 0, none⟩) := hv 1 26 rfl (by kernel_rfl)
        exact .inl ⟨rfl, gho_reads γ (.pointer (some ⟨bx, 0, none⟩)) (by simp [go_sem, Act.eval, -Array.getD_eq_getD_getElem?, e26]) rfl (hD.quiet 2 (by decide) (by decide) (by decide)) (fun _ _ _ _ h => h)⟩
      | 3, ho =>
        simp at ho
        subst ho
        have e27 : ac.tmps.getD 27 undef = .pointer (some ⟨bx, 0, none⟩) := hv 2 27 rfl (by kernel_rfl)
        exact .inl ⟨rfl, gho_reads γ (.pointer (some ⟨bx, 0, none⟩)) (by simp [go_sem, Act.eval, -Array.getD_eq_getD_getElem?, e27]) rfl (hD.quiet 3 (by decide) (by decide) (by decide)) (fun _ _ _ _ h => h)⟩
      | 4, ho =>
        simp at ho
        subst ho
        have e28 : ac.tmps.getD 28 undef = .pointer (some ⟨bx, 0, none⟩) := hv 3 28 rfl (by kernel_rfl)
        exact .inl ⟨rfl, gho_reads γ (.pointer (some ⟨bx, 0, none⟩)) (by simp [go_sem, Act.eval, -Array.getD_eq_getD_getElem?, e28]) rfl (hD.quiet 4 (by decide) (by decide) (by decide)) (fun _ _ _ _ h => h)⟩
      | 5, ho =>
        simp at ho
        subst ho
        have e29 : ac.tmps.getD 29 undef = .pointer (some ⟨bx, 0, none⟩) := hv 4 29 rfl (by kernel_rfl)
        have q9 : L 9 = false := by
          cases h : L 9
          · rfl
          · exact absurd (hcl 9 _ rfl h 5 (by kernel_rfl)) (by rw [hL]; decide)
        have c0 := (hD.1 q9).1.cells.1
        exact .inl ⟨rfl, gho_reads γ (.slice A d.hs.length c) (by simp [go_sem, Act.eval, -Array.getD_eq_getD_getElem?, e29, c0]) rfl (hD.quiet 5 (by decide) (by decide) (by decide)) (fun _ _ _ _ h => h)⟩
      | 6, ho =>
        simp at ho
        subst ho
        have e5 : ac.tmps.getD 5 undef = .int .i64 (i : Int) := hout 5 (by decide +kernel)
        exact .inl ⟨rfl, gho_reads γ (.int .i64 (i : Int)) (by simp [go_sem, Act.eval, -Array.getD_eq_getD_getElem?, e5]) rfl (hD.quiet 6 (by decide) (by decide) (by decide)) (fun _ _ _ _ h => h)⟩
      | 7, ho =>
        simp at ho
        subst ho
        have e7 : ac.tmps.getD 7 undef = .pointer (some ⟨gl, 0, none⟩) := hout 7 (by decide +kernel)
        have q8 : L 8 = false := by
          cases h : L 8
          · rfl
          · exact absurd (hcl 8 _ rfl h 7 (by kernel_rfl)) (by rw [hL]; decide)
        have q9 : L 9 = false := by
          cases h : L 9
          · rfl
          · exact absurd (hcl 9 _ rfl h 8 (by kernel_rfl)) (by rw [q8]; decide)
        have hl := ((hD.1 q9).2.2.1 q8).2
        have l0 : w1.cell? ⟨gl, 0, none⟩ = some (.int .i64 x) := by simp [World.cell?, hl, t3Cells]
        have l1 : w1.cell? ⟨gl, 1, none⟩ = some (.slice none 0 0) := by simp [World.cell?, hl, t3Cells]
        have l2 : w1.cell? ⟨gl, 2, none⟩ = some (.slice (some ⟨gC, 0, none⟩) (ncol x) (ncol x)) := by simp [World.cell?, hl, t3Cells]
        exact .inl ⟨rfl, gho_reads γ (.agg #[.int .i64 x, .slice none 0 0, .slice (some ⟨gC, 0, none⟩) (ncol x) (ncol x)]) (by simp [go_sem, Act.eval, -Array.getD_eq_getD_getElem?, e7, l0, l1, l2]) rfl (hD.quiet 7 (by decide) (by decide) (by decide)) (fun _ _ _ _ h => h)⟩
      | 8, ho =>
        simp at ho
        subst ho
        have e32 : ac.tmps.getD 32 undef = .agg #[.int .i64 x, .slice none 0 0, .slice (some ⟨gC, 0, none⟩) (ncol x) (ncol x)] := hv 7 32 rfl (by kernel_rfl)
        have q9 : L 9 = false := by
          cases h : L 9
          · rfl
          · exact absurd (hcl 9 _ rfl h 8 (by kernel_rfl)) (by rw [hL]; decide)
        have hsz := ((hD.1 q9).2.2.1 hL).1
        refine .inl ⟨rfl, gho_makes γ (.slice (some ⟨S, 0, none⟩) 1 1) (w2 := w1.alloc (.cells (t3Cells ⟨x, none, 0, 0, some ⟨gC, 0, none⟩, ncol x, ncol x⟩).toArray 98)) (by simp [go_sem, Act.eval, -Array.getD_eq_getD_getElem?, e32, hsz, t3Cells]) rfl (hD.build hL q9 hbS) (fun _ _ _ _ h => h)⟩
      | 9, ho =>
        simp at ho
        subst ho
        have e30 : ac.tmps.getD 30 undef = .slice A d.hs.length c := hv 5 30 rfl (by kernel_rfl)
        have e31 : ac.tmps.getD 31 undef = .int .i64 (i : Int) := hv 6 31 rfl (by kernel_rfl)
        have e33 : ac.tmps.getD 33 undef = .slice (some ⟨S, 0, none⟩) 1 1 := hv 8 33 rfl (by kernel_rfl)
        have q13 : L 13 = false := by
          cases h : L 13
          · rfl
          · exact absurd (hcl 13 _ rfl h 9 (by kernel_rfl)) (by rw [hL]; decide)
        have q8 : L 8 = true := hed 8 (by kernel_rfl)
        have hF := hD.1 hL
        refine .inl ⟨rfl, gho_enters 108 #[.slice A d.hs.length c, .int .i64 (i : Int), .slice (some ⟨S, 0, none⟩) 1 1] (by simp [go_sem, Act.eval, -Array.getD_eq_getD_getElem?, e30, e31, e33]) ?_⟩
        refine (unhide HIN w1 hF.1 (hF.2.2.2 q8)).mono ?_
        rintro e w2 ⟨g', c', rfl, ho, hg⟩
        exact ⟨_, .slice (some ⟨g', 0, none⟩) (d.hs.length + 1) c', rfl, rfl, hD.call hL q13 (unhide HX) hil (unhide HCN) hg ho, fun j u hj hLj h => by simpa [hj] using h⟩
      | 10, ho =>
        simp at ho
        subst ho
        have e25 : ac.tmps.getD 25 undef = .pointer (some ⟨bx, 0, none⟩) := hv 0 25 rfl (by kernel_rfl)
        exact .inl ⟨rfl, gho_reads γ (.pointer (some ⟨bx, 0, none⟩)) (by simp [go_sem, Act.eval, -Array.getD_eq_getD_getElem?, e25]) rfl (hD.quiet 10 (by decide) (by decide) (by decide)) (fun _ _ _ _ h => h)⟩
      | 11, ho =>
        simp at ho
        subst ho
        have e35 : ac.tmps.getD 35 undef = .pointer (some ⟨bx, 0, none⟩) := hv 10 35 rfl (by kernel_rfl)
        exact .inl ⟨rfl, gho_reads γ (.pointer (some ⟨bx, 0, none⟩)) (by simp [go_sem, Act.eval, -Array.getD_eq_getD_getElem?, e35]) rfl (hD.quiet 11 (by decide) (by decide) (by decide)) (fun _ _ _ _ h => h)⟩
      | 12, ho =>
        simp at ho
        subst ho
        have e36 : ac.tmps.getD 36 undef = .pointer (some ⟨bx, 0, none⟩) := hv 11 36 rfl (by kernel_rfl)
        exact .inl ⟨rfl, gho_reads γ (.pointer (some ⟨bx, 0, none⟩)) (by simp [go_sem, Act.eval, -Array.getD_eq_getD_getElem?, e36]) rfl (hD.quiet 12 (by decide) (by decide) (by decide)) (fun _ _ _ _ h => h)⟩
      | 13, ho =>
        simp at ho
        subst ho
        have e37 : ac.tmps.getD 37 undef = .pointer (some ⟨bx, 0, none⟩) := hv 12 37 rfl (by kernel_rfl)
        have e34 : ac.tmps.getD 34 undef = γ := hv 9 34 rfl (by kernel_rfl)
        have q9 : L 9 = true := hed 9 (by kernel_rfl)
        have hF := hD.2.1 q9 hL
        obtain ⟨g', c', hγ⟩ := hF.1
        have e34' : ac.tmps.getD 34 undef = γ := e34
        exact .inl ⟨rfl, gho_put1 γ 41 (.tmp 37) (.tmp 34) rfl bx 0 γ (by simp [Act.eval, -Array.getD_eq_getD_getElem?, e37]) (by simpa [Act.eval, -Array.getD_eq_getD_getElem?] using e34') (by rw [hγ]; rfl) size69 hF.2.1 trivial (hD.store q9 hL hbx) (fun _ _ _ _ h => h)⟩
      | ix + 14, ho => simp at ho
    case hend =>
      intro γ v L w5 hD hall hv
      have hE := hD.2.2.1 (hall 13 (by decide))
      have HE := hide hE
      have HBE := hide hD.2.2.2
      clear hv hall hD h0 hE
      simp only [putOps, List.getElem?_cons_zero, List.getElem?_cons_succ, Option.bind_some, List.length_cons, List.length_nil, Nat.reduceAdd]
      go_frame
      go_wp2
      go_ret
      rw [unhide HEQ]
      exact ⟨i, γ, _, rfl, insH_at d.hs x i hil, unhide HE, unhide HBE⟩
end Go.Proofs.Ytnbleebilmghcab
namespace Go.Proofs.Ytnbleebilmghcab
open Go Go.RowKit
attribute [local go_sem ↓] Go.wp_at_zero Go.wp_at_succ
def XD (PRE : World → Prop) (W0 W1 W2 W3 : World) (a b c : Nat) (L : Nat → Bool) (W : World) : Prop :=
  (L c = false → PRE W) ∧ (L b = false → (L a = false → W = W0) ∧ (L a = true → W = W1)) ∧ (L b = true → L c = false → W = W2) ∧ (L c = true → W = W3)
section
variable {PRE : World → Prop} {W0 W1 W2 W3 W : World} {a b c : Nat} {L : Nat → Bool}
theorem XD.start (h : PRE W0) : XD PRE W0 W1 W2 W3 a b c (fun _ => false) W0 := ⟨fun _ => h, fun _ => ⟨fun _ => rfl, fun e => (by cases e)⟩, fun e => (by cases e), fun e => (by cases e)⟩
theorem XD.quiet (h : XD PRE W0 W1 W2 W3 a b c L W) (j : Nat) (ha : a ≠ j) (hb : b ≠ j) (hc : c ≠ j) : XD PRE W0 W1 W2 W3 a b c (upd L j) W := by
  unfold XD at h ⊢
  rw [upd_ne ha, upd_ne hb, upd_ne hc]
  exact h
theorem XD.build (h : XD PRE W0 W1 W2 W3 a b c L W) (qa : L a = false) (qb : L b = false) (qc : L c = false) (hab : b ≠ a) (hac : c ≠ a) (hp : PRE W1) : W = W0 ∧ XD PRE W0 W1 W2 W3 a b c (upd L a) W1 := by
  refine ⟨(h.2.1 qb).1 qa, fun _ => hp, fun _ => ⟨fun e => ?_, fun _ => rfl⟩, fun e => ?_, fun e => ?_⟩
  · rw [upd_eq] at e; cases e
  · rw [upd_ne hab, qb] at e; cases e
  · rw [upd_ne hac, qc] at e; cases e
theorem XD.app (h : XD PRE W0 W1 W2 W3 a b c L W) (qa : L a = true) (qb : L b = false) (qc : L c = false) (hbc : c ≠ b) (hp : PRE W2) : W = W1 ∧ XD PRE W0 W1 W2 W3 a b c (upd L b) W2 := by
  refine ⟨(h.2.1 qb).2 qa, fun _ => hp, fun e => ?_, fun _ _ => rfl, fun e => ?_⟩
  · rw [upd_eq] at e; cases e
  · rw [upd_ne hbc, qc] at e; cases e
theorem XD.store (h : XD PRE W0 W1 W2 W3 a b c L W) (qb : L b = true) (qc : L c = false) (hbc : b ≠ c) : W = W2 ∧ XD PRE W0 W1 W2 W3 a b c (upd L c) W3 := by
  refine ⟨h.2.2.1 qb qc, fun e => ?_, fun e => ?_, fun _ e => ?_, fun _ => rfl⟩
  · rw [upd_eq] at e; cases e
  · rw [upd_ne hbc, qb] at e; cases e
  · rw [upd_eq] at e; cases e
end
theorem size63 : (Try.prog.info? 64).map (·.size) = some 1 := by kernel_rfl
theorem tt_at (m : TblM) (d : TblD) {i : Nat} (hi : i < d.hs.length) {x : Int} (hx : d.hs[i] = x) : (cellsOfT3 (d.hs.map (tt m d)))[i * 3]? = some (.int .i64 x) ∧ (cellsOfT3 (d.hs.map (tt m d)))[i * 3 + 1]? = some (aV m d x) ∧ (cellsOfT3 (d.hs.map (tt m d)))[i * 3 + 2]? = some (cV m x) := by
  obtain ⟨c0, c1, c2⟩ := cellsT_at (d.hs.map (tt m d)) i (by simpa using hi)
  simp only [List.getElem_map, hx] at c0 c1 c2
  exact ⟨c0, c1, c2⟩
theorem TblL.table {base bx gt ct : Nat} {G : Value} {gens : List Int} {m : TblM} {d : TblD} {W : World} (h : TblL base bx (.slice (some ⟨gt, 0, none⟩) d.hs.length ct) G gens m d W) {i : Nat} (hi : i < d.hs.length) {x : Int} (hx : d.hs[i] = x) :
    W.cell? ⟨gt, i * 3, none⟩ = some (.int .i64 x) ∧ W.cell? ⟨gt, i * 3 + 1, none⟩ = some (aV m d x) ∧ W.cell? ⟨gt, i * 3 + 2, none⟩ = some (cV m x) ∧ W.there gt (i * 3 + 1) 1 := by
  obtain ⟨c0, c1, c2⟩ := cellsT_at (d.hs.map (tt m d)) i (by simpa using hi)
  simp only [List.getElem_map, hx] at c0 c1 c2
  have h1 := own_cell h.ownT c1
  exact ⟨own_cell h.ownT c0, h1, own_cell h.ownT c2, there_of h1 (fun j => own_free h.ownT j)⟩
structure TK (base bx gr : Nat) (T G : Value) (gens : List Int) (m : TblM) (d : TblD) (r : RowI) (vh : Value) (lst : List Int) (W : World) : Prop extends TblL base bx T G gens m d W where
  rb : W.heap[gr]? = some (.cells (rowCells r).toArray 53 (0, 0))
  held : W.ownsRow base 3 1 vh lst.length (cellsOfInts lst)
  sepH : ∀ h k, Apt vh (m.K h k)
theorem rb_cell {W : World} {gr : Nat} {r : RowI} (h : W.heap[gr]? = some (.cells (rowCells r).toArray 53 (0, 0))) : RowAt W gr 0 r := (rowAt_iff _ _ _ _).2 fun i u hu => by
  rw [Nat.zero_add, cell_of_row W gr i _ 53 (0, 0) h]
  simpa using hu
def colD (d : TblD) (r : RowI) (k : Nat) : TblD := ⟨d.hs, d.B, fun h j => if h = r.has ∧ j < k then d.L h j ++ [r.v ((lstTo r.has 8).getD j 0).toNat] else d.L h j⟩
theorem colD_zero (d : TblD) (r : RowI) : colD d r 0 = d := by
  unfold colD
  simp
theorem colD_succ (d : TblD) (r : RowI) (k p : Nat) (hp : (lstTo r.has 8).getD k 0 = (p : Int)) : (⟨(colD d r k).hs, (colD d r k).B, updK (colD d r k).L r.has k ((colD d r k).L r.has k ++ [r.v p])⟩ : TblD) = colD d r (k + 1) := by
  unfold colD
  simp only [TblD.mk.injEq, true_and]
  funext h j
  unfold updK
  dsimp only
  by_cases e : h = r.has
  · subst e
    by_cases ej : j = k
    · subst ej
      rw [if_pos ⟨rfl, rfl⟩, if_neg (by simp), if_pos ⟨rfl, by omega⟩, hp]
      simp
    · rw [if_neg (by simp [ej])]
      by_cases hlt : j < k
      · rw [if_pos ⟨rfl, hlt⟩, if_pos ⟨rfl, by omega⟩]
      · rw [if_neg (by simp [hlt]), if_neg (by simp; omega)]
  · rw [if_neg (by simp [e]), if_neg (by simp [e]), if_neg (by simp [e])]
def takeD (d : TblD) (r : RowI) : TblD := colD ⟨hsI d.hs r.has, updF d.B r.has (d.B r.has ++ [(r.ix, r.gen)]), d.L⟩ r (ncol r.has)
section
variable {base bx gr : Nat} {T G : Value} {gens : List Int} {m : TblM} {d : TblD} {r : RowI} {vh : Value} {lst : List Int} {W W2 : World}
theorem TK.below {W1 : World} (h : TK base bx gr T G gens m d r vh lst W) (hb : Below W.heap.size W W1) : TK base bx gr T G gens m d r vh lst W1 :=
  ⟨h.toTblL.below hb, (hb.block gr (Array.getElem?_eq_some_iff.1 h.rb).1).trans h.rb, own_kept h.held hb, h.sepH⟩
theorem TK.col (h : TK base bx gr T G gens m d r vh lst W) {x : Int} (hx : x ∈ d.hs) {k : Nat} (hk : k < ncol x) {gc cc : Nat} (hC : cV m x = .slice (some ⟨gc, 0, none⟩) (ncol x) cc) {g cap : Nat} (z : Int)
    (hg : W.grownBy W2 (m.K x k).ownBlock) (ho : W2.ownsRow base 3 1 (.slice (some ⟨g, 0, none⟩) ((d.L x k).length + 1) cap) ((d.L x k).length + 1) (cellsOfInts (d.L x k) ++ [.int .i64 z])) (hm : some g = (m.K x k).ownBlock ∨ g = W.heap.size) :
    TK base bx gr T G gens ⟨m.A, m.C, updK m.K x k (.slice (some ⟨g, 0, none⟩) ((d.L x k).length + 1) cap)⟩ ⟨d.hs, d.B, updK d.L x k (d.L x k ++ [z])⟩ r vh lst (W2.setCell ⟨gc, k, none⟩ (.slice (some ⟨g, 0, none⟩) ((d.L x k).length + 1) cap)) := by
  have hmv : (Value.slice (some ⟨g, 0, none⟩) ((d.L x k).length + 1) cap).ownBlock = (m.K x k).ownBlock ∨ (Value.slice (some ⟨g, 0, none⟩) ((d.L x k).length + 1) cap).ownBlock = some W.heap.size := by
    rcases hm with hm | hm
    · exact .inl hm
    · exact .inr (by rw [hm]; rfl)
  have hCb : (cV m x).ownBlock = some gc := by rw [hC]; rfl
  refine ⟨h.toTblL.col hx hk hC z hg ho hm, ?_, ?_, fun y j => ?_⟩
  · have hb2 : W2.heap[gr]? = W.heap[gr]? := hg.block gr (Array.getElem?_eq_some_iff.1 h.rb).1 (fun e => own_nety (h.ownK x k) ⟨_, h.rb⟩ (by decide) e.symm)
    rw [heap_setCell_other W2 ⟨gc, k, none⟩ gr _ (fun e => own_nety (h.ownC x hx) ⟨_, h.rb⟩ (by decide) (by rw [hCb]; exact congrArg some (by simpa using e.symm))), hb2]
    exact h.rb
  · refine (h.held.kept hg (h.sepH x k)).kept (grown_set1 W2 gc k _) ?_
    have := own_apart (h.held.kept hg (h.sepH x k)) ((h.ownC x hx).kept hg (own_apart (h.ownC x hx) (h.ownK x k) (by decide))) (by decide)
    rw [hCb] at this
    exact this
  · show Apt vh (updK m.K x k _ y j)
    by_cases e : y = x ∧ j = k
    · obtain ⟨rfl, rfl⟩ := e
      rw [updK_eq]
      exact (h.sepH y j).moved h.held hmv
    · rw [updK_ne _ _ (by
        by_cases e1 : y = x
        · exact .inr fun e2 => e ⟨e1, e2⟩
        · exact .inl e1)]
      exact h.sepH y j
end
theorem append_at (base : Nat) (t e : TypeId) (i : TypeInfo) (z : Value) (size bytes : Nat) (ht : Try.prog.underlying t = some (.slice e)) (hi : Try.prog.info? e = some i) (hz : i.zero = some z) (hsize : i.size = size) (hby : i.bytes = bytes) (hzs : z.cells.size = size) (hsz : 0 < size) (w : World) (v : Value) (n : Nat) (xs : List Value) (hown : w.ownsRow base e size v n xs)
    (a : Addr) (news : List Value) (hl : news.length = size) (hnews : ∀ j u, news[j]? = some u → w.cell? (a.add j) = some u) (h1 : ∀ u ∈ news, u.oneCell' = true) (hn : n ≤ 1000) (hb : bytes ≤ 100) (hbase : base ≤ w.heap.size) :
    ∃ g c w', (∀ ty, (Builtin.append_ #[t, t] ty #[v, .slice (some a) 1 1]).run Try.prog w = .ok (.slice (some ⟨g, 0, none⟩) (n + 1) c) w') ∧ w'.ownsRow base e size (.slice (some ⟨g, 0, none⟩) (n + 1) c) (n + 1) (xs ++ news) ∧ w.grownBy w' v.ownBlock ∧ (some g = v.ownBlock ∨ g = w.heap.size) := by
  have hbb : (n + 1) * bytes ≤ 140737488355328 := Nat.le_trans (Nat.mul_le_mul (by omega : n + 1 ≤ 1001) hb) (by decide)
  obtain ⟨v', w', hr, h2, h3, _, h5⟩ := run_append_own_at (P := Try.prog) w base t 0 e i z size bytes ht hi hz hsize hby hzs hsz v n xs hown a 1 1 news (by omega) hnews h1 (by unfold maxLen; omega) hbb hbase
  obtain ⟨g, c, rfl, _, _⟩ := own_pos h2 (by omega)
  refine ⟨g, c, w', fun ty => ?_, h2, h3, ?_⟩
  · exact hr
  · rcases h5 with h5 | h5
    · exact .inl h5
    · right; simpa [Value.ownBlock] using h5
theorem apt_new {W0 W : World} {base : Nat} {e e' : TypeId} {size size' n n' : Nat} {u v : Value} {xs ys : List Value} (h : W.ownsRow W0.heap.size e size u n xs) (hv : W0.ownsRow base e' size' v n' ys) : Apt u v := by
  cases hu : u.ownBlock with
  | none => exact .inl hu
  | some g =>
    refine .inr fun e => ?_
    rw [hu] at e
    have h1 := (h.lt g hu).1
    have h2 := (hv.lt g e.symm).2
    omega
set_option maxRecDepth 8000 in
set_option maxHeartbeats 8000000 in
theorem take_any (base bx : Nat) (T G : Value) (gens : List Int) (m : TblM) (d : TblD) (r : RowI) (W : World) (h : TblL base bx T G gens m d W) (hup : ∀ i j (hj : j < d.hs.length) (hij : i < j), d.hs[i] < d.hs[j]) (hup' : (hsI d.hs r.has).Nodup) (hlen : d.hs.length ≤ 900) (x0 : 0 ≤ r.has) (x1 : r.has ≤ 255) (hBl : (d.B r.has).length ≤ 1000) (hLl : ∀ k, (d.L r.has k).length ≤ 1000) :
    Calls Try.prog 67 #[.pointer (some ⟨bx, 0, none⟩), rowV r] W fun e w' => ∃ (T' : Value) (m' : TblM), e = .returned (.tuple #[]) ∧ TblL base bx T' G gens m' (takeD d r) w' ∧ Below base W w' := by
  have hsz := h.sz
  have ml := lst_len r.has 8
  obtain ⟨i40, hi40, hz40, hs40, hb40⟩ := info_parts info40
  obtain ⟨i3, hi3, hz3, hs3, hb3⟩ := info_parts info3
  obtain ⟨gr, hgr⟩ : ∃ gr, gr = W.heap.size := ⟨_, rfl⟩
  obtain ⟨Wr, hWr⟩ : ∃ Wr, Wr = W.alloc (.cells (rowCells r).toArray 53) := ⟨_, rfl⟩
  have hbr : Below W.heap.size W Wr := by rw [hWr]; exact bel1 _ _
  have hFr := h.below hbr
  have hrb : Wr.heap[gr]? = some (.cells (rowCells r).toArray 53 (0, 0)) := by
    rw [hWr, hgr]
    show (W.heap.push _)[W.heap.size]? = _
    simp
  have hTO := tableof_any base bx T G gens m d r.has Wr hFr hup hlen x0 x1
  have hLI := fun W => list_any r.has W x0 x1
  have hgl := (Array.getElem?_eq_some_iff.1 hrb).1
  have hgbx : gr ≠ bx := by have := h.lt; omega
  have hgT : T.ownBlock ≠ some gr := fun e => by have := (h.ownT.lt gr e).2; omega
  have hWr' : W.alloc (.cells #[.int .i64 r.ix, .int .i64 r.gen, .int .i64 r.has, .int .i64 (r.v 0), .int .i64 (r.v 1), .int .i64 (r.v 2), .int .i64 (r.v 3), .int .i64 (r.v 4), .int .i64 (r.v 5), .int .i64 (r.v 6), .int .i64 (r.v 7)] 53) = Wr := hWr.symm
  have hbW : Below base W Wr := hbr.mono hsz
  have HWR := hide hWr'
  have HGR := hide hgr
  have HTO := hide hTO
  have HLI := hide hLI
  have HRB := hide hrb
  have HBW := hide hbW
  have HI40 := hide hi40
  have HZ40 := hide hz40
  have HS40 := hide hs40
  have HB40 := hide hb40
  have HI3 := hide hi3
  have HZ3 := hide hz3
  have HS3 := hide hs3
  have HB3 := hide hb3
  have HLL := hide hLl
  have HND := hide hup'
  have HNE : Hid (gr < Wr.heap.size ∧ gr ≠ bx ∧ T.ownBlock ≠ some gr) := hide ⟨hgl, hgbx, hgT⟩
  clear hi40 hz40 hs40 hb40 hi3 hz3 hs3 hb3 hWr hWr' hbr hFr hrb hTO hLI hbW h hup hup' hLl hgr hgl hgbx hgT
  unfold rowV
  go_enter Try.func67, Try.ntmps67
  go_wp2_with fail
  go_at_call 90
  rw [unhide HWR, ← unhide HGR]
  refine (unhide HTO).mono ?_
  rintro e wa ⟨i, T', m1, rfl, ⟨hi, hxi⟩, hF, hba⟩
  obtain ⟨d1, hd1⟩ : ∃ d1 : TblD, d1 = ⟨hsI d.hs r.has, d.B, d.L⟩ := ⟨_, rfl⟩
  have hh1 : hsI d.hs r.has = d1.hs := by rw [hd1]
  have hB1 : d.B = d1.B := by rw [hd1]
  have hL1 : d.L = d1.L := by rw [hd1]
  have HTD : Hid (takeD d r = colD ⟨d1.hs, updF d1.B r.has (d1.B r.has ++ [(r.ix, r.gen)]), d1.L⟩ r (ncol r.has)) := hide (by rw [hd1]; rfl)
  rw [← hd1] at hF
  have hnd := unhide HND
  rw [hh1] at hnd
  obtain ⟨hi', hxi'⟩ : ∃ hi' : i < d1.hs.length, d1.hs[i] = r.has := by
    clear hh1 hB1 hL1 HTD hF hnd
    subst hd1
    exact ⟨hi, hxi⟩
  clear hi hxi
  obtain ⟨hi, hxi⟩ : ∃ hi' : i < d1.hs.length, d1.hs[i] = r.has := ⟨hi', hxi'⟩
  clear hi' hxi'
  rw [hB1] at hBl
  rw [hL1] at HLL
  clear hh1 hB1 hL1 hd1 HND HTO
  obtain ⟨gt, ct, rfl, _, _⟩ := own_pos hF.ownT (by omega)
  have hrba : wa.heap[gr]? = some (.cells (rowCells r).toArray 53 (0, 0)) := (hba.2 gr (unhide HNE).1 (unhide HNE).2.1 (unhide HNE).2.2).trans (unhide HRB)
  have HBA := hide ((unhide HBW).trans hba.1)
  clear HBW HNE HRB hba
  obtain ⟨b0, _⟩ := hF.cells
  have i0 : (0 : Int) ≤ (i : Int) := by omega
  have i1 : (i : Int) < (d1.hs.length : Int) := by omega
  obtain ⟨_, ta, tc, tth⟩ := hF.table hi hxi
  obtain ⟨r0, r1, r2, _⟩ := rowAt_zero (rb_cell hrba)
  obtain ⟨W0, hW0⟩ : ∃ W0, W0 = wa.drew := ⟨_, rfl⟩
  obtain ⟨S, hS⟩ : ∃ S, S = W0.heap.size := ⟨_, rfl⟩
  obtain ⟨W1, hW1⟩ : ∃ W1, W1 = W0.alloc (.cells #[.int .i64 r.ix, .int .i64 r.gen] 50) := ⟨_, rfl⟩
  have hb01 : Below wa.heap.size wa W1 := by rw [hW1, hW0]; exact (Below.refl _ _).drew.alloc (Nat.le_refl _) _
  have hF1 := hF.below hb01
  have hrb1 : W1.heap[gr]? = some (.cells (rowCells r).toArray 53 (0, 0)) := (hb01.block gr (Array.getElem?_eq_some_iff.1 hrba).1).trans hrba
  have hnew : ∀ j u, [Value.int .i64 r.ix, .int .i64 r.gen][j]? = some u → W1.cell? ((⟨S, 0, none⟩ : Addr).add j) = some u := by rw [hW1, hS]; exact new_two W0 _ _ 50
  obtain ⟨g8, c8, W2, hap, ho8, hg8, hm8⟩ := append_at base 64 50 i40 _ 2 16 Try.underlying64 (unhide HI40) (unhide HZ40) (unhide HS40) (unhide HB40) rfl (by decide) W1 (aV m1 d1 r.has) (d1.B r.has).length (cellsOfBs (d1.B r.has)) (hF1.ownA r.has) ⟨S, 0, none⟩ [.int .i64 r.ix, .int .i64 r.gen] rfl hnew (one_two _ _) hBl (by decide) hF1.sz
  obtain ⟨W3, hW3⟩ : ∃ W3, W3 = W2.setCell ⟨gt, i * 3 + 1, none⟩ (.slice (some ⟨g8, 0, none⟩) ((d1.B r.has).length + 1) c8) := ⟨_, rfl⟩
  have hF3 := hF1.being hnd hi hxi rfl (r.ix, r.gen) hg8 ho8 hm8
  rw [← hW3] at hF3
  have oT2 := hF1.ownT.kept hg8 (own_apart hF1.ownT (hF1.ownA r.has) (by decide))
  have hb12 : Below base W1 W2 := grown_below hg8 (fun k e => ((hF1.ownA r.has).lt k e).1) hF1.sz
  have hrb2 : W2.heap[gr]? = some (.cells (rowCells r).toArray 53 (0, 0)) := (hg8.block gr (Array.getElem?_eq_some_iff.1 hrb1).1 (fun e => own_nety (hF1.ownA r.has) ⟨_, hrb1⟩ (by decide) e.symm)).trans hrb1
  have hrb3 : W3.heap[gr]? = some (.cells (rowCells r).toArray 53 (0, 0)) := by
    rw [hW3, heap_setCell_other W2 ⟨gt, i * 3 + 1, none⟩ gr _ (fun e => own_nety oT2 ⟨_, hrb2⟩ (by decide) (by simpa [Value.ownBlock] using e.symm))]
    exact hrb2
  have hlo : base ≤ gt := (hF1.ownT.lt gt rfl).1
  have hB3 : Below base W W3 := by
    rw [hW3]
    exact (((unhide HBA).trans (hb01.mono hF.sz)).trans hb12).setCell (p := ⟨gt, i * 3 + 1, none⟩) hlo _
  have ta2 : W2.cell? ⟨gt, i * 3 + 1, none⟩ = some (aV m1 d1 r.has) := by
    obtain ⟨_, c1, _⟩ := cellsT_at (d1.hs.map (tt m1 d1)) i (by simpa using hi)
    simp only [List.getElem_map, hxi] at c1
    exact own_cell oT2 c1
  have th2 : W2.there gt (i * 3 + 1) 1 := there_of ta2 (fun j => own_free oT2 j)
  have HP1 : Hid (W1.cell? ⟨gt, i * 3 + 1, none⟩ = some (aV m1 d1 r.has) ∧ W1.cell? ⟨gr, 0, none⟩ = some (.int .i64 r.ix) ∧ W1.cell? ⟨gr, 1, none⟩ = some (.int .i64 r.gen)) := hide ⟨keep_below hb01 ta, keep_below hb01 r0, keep_below hb01 r1⟩
  have HP2 : Hid (W2.cell? ⟨gt, i * 3 + 1, none⟩ = some (aV m1 d1 r.has) ∧ W2.cell? ⟨gr, 0, none⟩ = some (.int .i64 r.ix) ∧ W2.cell? ⟨gr, 1, none⟩ = some (.int .i64 r.gen)) := hide ⟨ta2, (rowAt_zero (rb_cell hrb2)).1, (rowAt_zero (rb_cell hrb2)).2.1⟩
  have h3 : XD (fun W => W.cell? ⟨gt, i * 3 + 1, none⟩ = some (aV m1 d1 r.has) ∧ W.cell? ⟨gr, 0, none⟩ = some (.int .i64 r.ix) ∧ W.cell? ⟨gr, 1, none⟩ = some (.int .i64 r.gen)) W0 W1 W2 W3 7 8 11 (fun _ => false) wa.drew := by rw [← hW0]; exact XD.start (by rw [hW0]; exact ⟨ta, r0, r1⟩)
  have HW1 := hide hW1
  have HSS := hide hS
  have HAP := hide hap
  have HTH := hide th2
  have HW3 := hide hW3
  have HF3 := hide hF3
  have HRB3 := hide hrb3
  have HB3' := hide hB3
  have HLO := hide hlo
  have HHI : Hid (∃ hi' : i < d1.hs.length, d1.hs[i] = r.has) := hide ⟨hi, hxi⟩
  clear hW1 hS hap th2 hW3 hF3 hrb3 hB3 hlo hi hxi hW0 hb01 hF1 hrb1 hnew ho8 hg8 hm8 oT2 hb12 hrb2 ta2 hF hrba ta tc tth r0 r1 hBl hnd HBA HI40 HZ40 HS40 HB40 hsz hlen
  go_wp2_with fail
  refine wp_region_gho (fun (γ : Unit) ix v => (([fun v => v = .pointer (some ⟨gt, i * 3, none⟩), fun v => v = .pointer (some ⟨gt, i * 3, none⟩), fun v => v = .pointer (some ⟨gt, i * 3, none⟩), fun v => v = .pointer (some ⟨gt, i * 3 + 1, none⟩), fun v => v = aV m1 d1 r.has, fun v => v = .pointer (some ⟨gr, 0, none⟩), fun v => v = .agg #[.int .i64 r.ix, .int .i64 r.gen], fun v => v = .slice (some ⟨S, 0, none⟩) 1 1, fun v => v = .slice (some ⟨g8, 0, none⟩) ((d1.B r.has).length + 1) c8, fun v => v = .pointer (some ⟨gt, i * 3, none⟩), fun v => v = .pointer (some ⟨gt, i * 3 + 1, none⟩), fun _ => True] : List (Value → Prop)).getD ix (fun _ => True)) v) (fun (_ : Unit) L W => XD (fun W => W.cell? ⟨gt, i * 3 + 1, none⟩ = some (aV m1 d1 r.has) ∧ W.cell? ⟨gr, 0, none⟩ = some (.int .i64 r.ix) ∧ W.cell? ⟨gr, 1, none⟩ = some (.int .i64 r.gen)) W0 W1 W2 W3 7 8 11 L W) (()) (by kernel_rfl) (by kernel_rfl) (by kernel_rfl) h3 ?hstep ?hend3
  case hstep =>
    intro γ ix o ho L ac w1 hD hL hed hcl hout hv
    match ix, ho with
    | 0, ho =>
      simp at ho
      subst ho
      have e5 : ac.tmps.getD 5 undef = .pointer (some ⟨gt, i * 3, none⟩) := hout 5 (by decide +kernel)
      exact .inl ⟨rfl, gho_reads γ (.pointer (some ⟨gt, i * 3, none⟩)) (by simp [go_sem, Act.eval, -Array.getD_eq_getD_getElem?, e5]) rfl (hD.quiet 0 (by decide) (by decide) (by decide)) (fun _ _ _ _ h => h)⟩
    | 1, ho =>
      simp at ho
      subst ho
      have e5 : ac.tmps.getD 5 undef = .pointer (some ⟨gt, i * 3, none⟩) := hout 5 (by decide +kernel)
      exact .inl ⟨rfl, gho_reads γ (.pointer (some ⟨gt, i * 3, none⟩)) (by simp [go_sem, Act.eval, -Array.getD_eq_getD_getElem?, e5]) rfl (hD.quiet 1 (by decide) (by decide) (by decide)) (fun _ _ _ _ h => h)⟩
    | 2, ho =>
      simp at ho
      subst ho
      have e20 : ac.tmps.getD 20 undef = .pointer (some ⟨gt, i * 3, none⟩) := hv 1 20 rfl (by kernel_rfl)
      exact .inl ⟨rfl, gho_reads γ (.pointer (some ⟨gt, i * 3, none⟩)) (by simp [go_sem, Act.eval, -Array.getD_eq_getD_getElem?, e20]) rfl (hD.quiet 2 (by decide) (by decide) (by decide)) (fun _ _ _ _ h => h)⟩
    | 3, ho =>
      simp at ho
      subst ho
      have e21 : ac.tmps.getD 21 undef = .pointer (some ⟨gt, i * 3, none⟩) := hv 2 21 rfl (by kernel_rfl)
      exact .inl ⟨rfl, gho_reads γ (.pointer (some ⟨gt, i * 3 + 1, none⟩)) (by simp [go_sem, Act.eval, -Array.getD_eq_getD_getElem?, e21]) rfl (hD.quiet 3 (by decide) (by decide) (by decide)) (fun _ _ _ _ h => h)⟩
    | 4, ho =>
      simp at ho
      subst ho
      have e22 : ac.tmps.getD 22 undef = .pointer (some ⟨gt, i * 3 + 1, none⟩) := hv 3 22 rfl (by kernel_rfl)
      have q8 : L 8 = false := by
        cases h : L 8
        · rfl
        · exact absurd (hcl 8 _ rfl h 4 (by kernel_rfl)) (by rw [hL]; decide)
      have q11 : L 11 = false := by
        cases h : L 11
        · rfl
        · exact absurd (hcl 11 _ rfl h 8 (by kernel_rfl)) (by rw [q8]; decide)
      have c0 := (hD.1 q11).1
      exact .inl ⟨rfl, gho_reads γ (aV m1 d1 r.has) (by simp [go_sem, Act.eval, -Array.getD_eq_getD_getElem?, e22, c0]) rfl (hD.quiet 4 (by decide) (by decide) (by decide)) (fun _ _ _ _ h => h)⟩
    | 5, ho =>
      simp at ho
      subst ho
      have e3 : ac.tmps.getD 3 undef = .pointer (some ⟨gr, 0, none⟩) := hout 3 (by decide +kernel)
      exact .inl ⟨rfl, gho_reads γ (.pointer (some ⟨gr, 0, none⟩)) (by simp [go_sem, Act.eval, -Array.getD_eq_getD_getElem?, e3]) rfl (hD.quiet 5 (by decide) (by decide) (by decide)) (fun _ _ _ _ h => h)⟩
    | 6, ho =>
      simp at ho
      subst ho
      have e24 : ac.tmps.getD 24 undef = .pointer (some ⟨gr, 0, none⟩) := hv 5 24 rfl (by kernel_rfl)
      have q7 : L 7 = false := by
        cases h : L 7
        · rfl
        · exact absurd (hcl 7 _ rfl h 6 (by kernel_rfl)) (by rw [hL]; decide)
      have q8 : L 8 = false := by
        cases h : L 8
        · rfl
        · exact absurd (hcl 8 _ rfl h 7 (by kernel_rfl)) (by rw [q7]; decide)
      have q11 : L 11 = false := by
        cases h : L 11
        · rfl
        · exact absurd (hcl 11 _ rfl h 8 (by kernel_rfl)) (by rw [q8]; decide)
      obtain ⟨_, c0, c1⟩ := hD.1 q11
      exact .inl ⟨rfl, gho_reads γ (.agg #[.int .i64 r.ix, .int .i64 r.gen]) (by simp [go_sem, Act.eval, -Array.getD_eq_getD_getElem?, e24, c0, c1]) rfl (hD.quiet 6 (by decide) (by decide) (by decide)) (fun _ _ _ _ h => h)⟩
    | 7, ho =>
      simp at ho
      subst ho
      have e25 : ac.tmps.getD 25 undef = .agg #[.int .i64 r.ix, .int .i64 r.gen] := hv 6 25 rfl (by kernel_rfl)
      have q8 : L 8 = false := by
        cases h : L 8
        · rfl
        · exact absurd (hcl 8 _ rfl h 7 (by kernel_rfl)) (by rw [hL]; decide)
      have q11 : L 11 = false := by
        cases h : L 11
        · rfl
        · exact absurd (hcl 11 _ rfl h 8 (by kernel_rfl)) (by rw [q8]; decide)
      obtain ⟨hw, hx⟩ := hD.build hL q8 q11 (by decide) (by decide) (unhide HP1)
      subst hw
      refine .inl ⟨rfl, gho_makes γ (.slice (some ⟨S, 0, none⟩) 1 1) (w2 := W1) (by rw [unhide HW1, unhide HSS]; simp [go_sem, Act.eval, -Array.getD_eq_getD_getElem?, e25]) rfl hx (fun _ _ _ _ h => h)⟩
    | 8, ho =>
      simp at ho
      subst ho
      have e23 : ac.tmps.getD 23 undef = aV m1 d1 r.has := hv 4 23 rfl (by kernel_rfl)
      have e26 : ac.tmps.getD 26 undef = .slice (some ⟨S, 0, none⟩) 1 1 := hv 7 26 rfl (by kernel_rfl)
      have q11 : L 11 = false := by
        cases h : L 11
        · rfl
        · exact absurd (hcl 11 _ rfl h 8 (by kernel_rfl)) (by rw [hL]; decide)
      have q7 : L 7 = true := hed 7 (by kernel_rfl)
      obtain ⟨hw, hx⟩ := hD.app q7 hL q11 (by decide) (unhide HP2)
      subst hw
      exact .inl ⟨rfl, gho_append γ (.tmp 23) (.tmp 26) 64 rfl (aV m1 d1 r.has) (.slice (some ⟨S, 0, none⟩) 1 1) (.slice (some ⟨g8, 0, none⟩) ((d1.B r.has).length + 1) c8) (by simp [Act.eval, -Array.getD_eq_getD_getElem?, e23]) (by simp [Act.eval, -Array.getD_eq_getD_getElem?, e26]) (unhide HAP _) rfl hx (fun _ _ _ _ h => h)⟩
    | 9, ho =>
      simp at ho
      subst ho
      have e19 : ac.tmps.getD 19 undef = .pointer (some ⟨gt, i * 3, none⟩) := hv 0 19 rfl (by kernel_rfl)
      exact .inl ⟨rfl, gho_reads γ (.pointer (some ⟨gt, i * 3, none⟩)) (by simp [go_sem, Act.eval, -Array.getD_eq_getD_getElem?, e19]) rfl (hD.quiet 9 (by decide) (by decide) (by decide)) (fun _ _ _ _ h => h)⟩
    | 10, ho =>
      simp at ho
      subst ho
      have e28 : ac.tmps.getD 28 undef = .pointer (some ⟨gt, i * 3, none⟩) := hv 9 28 rfl (by kernel_rfl)
      exact .inl ⟨rfl, gho_reads γ (.pointer (some ⟨gt, i * 3 + 1, none⟩)) (by simp [go_sem, Act.eval, -Array.getD_eq_getD_getElem?, e28]) rfl (hD.quiet 10 (by decide) (by decide) (by decide)) (fun _ _ _ _ h => h)⟩
    | 11, ho =>
      simp at ho
      subst ho
      have e29 : ac.tmps.getD 29 undef = .pointer (some ⟨gt, i * 3 + 1, none⟩) := hv 10 29 rfl (by kernel_rfl)
      have e27 : ac.tmps.getD 27 undef = .slice (some ⟨g8, 0, none⟩) ((d1.B r.has).length + 1) c8 := hv 8 27 rfl (by kernel_rfl)
      have q8 : L 8 = true := hed 8 (by kernel_rfl)
      obtain ⟨hw, hx⟩ := hD.store q8 hL (by decide)
      subst hw
      exact .inl ⟨rfl, gho_put1 γ 64 (.tmp 29) (.tmp 27) rfl gt (i * 3 + 1) (.slice (some ⟨g8, 0, none⟩) ((d1.B r.has).length + 1) c8) (by simp [Act.eval, -Array.getD_eq_getD_getElem?, e29]) (by simp [Act.eval, -Array.getD_eq_getD_getElem?, e27]) rfl size63 (unhide HTH) trivial (by rw [← unhide HW3]; exact hx) (fun _ _ _ _ h => h)⟩
    | ix + 12, ho => simp at ho
  case hend3 =>
    intro γ v L w5 hD hall hv
    rw [hD.2.2.2 (hall 11 (by decide))]
    clear hv hall hD h3
    simp only [putOps, List.getElem?_cons_zero, List.getElem?_cons_succ, Option.bind_some, List.length_cons, List.length_nil, Nat.reduceAdd]
    go_frame
    obtain ⟨d2, hd2⟩ : ∃ d2 : TblD, d2 = ⟨d1.hs, updF d1.B r.has (d1.B r.has ++ [(r.ix, r.gen)]), d1.L⟩ := ⟨_, rfl⟩
    have hF3 := unhide HF3
    rw [← hd2] at hF3
    have hh2 : d1.hs = d2.hs := by rw [hd2]
    have hL2 : d1.L = d2.L := by rw [hd2]
    rw [← hd2] at HTD
    obtain ⟨hi2, hxi2⟩ : ∃ hi' : i < d2.hs.length, d2.hs[i] = r.has := by
      clear hh2 hL2 HTD hF3
      subst hd2
      exact ⟨(unhide HHI).choose, (unhide HHI).choose_spec⟩
    rw [hh2] at hF3
    rw [hL2] at HLL
    rw [hh2]
    clear HHI
    have HHI : Hid (∃ hi' : i < d2.hs.length, d2.hs[i] = r.has) := hide ⟨hi2, hxi2⟩
    clear hi2 hxi2
    clear hd2 HF3 hL2 HP1 HP2 HW1 HSS HAP HTH HW3
    obtain ⟨_, _, r2, _⟩ := rowAt_zero (rb_cell (unhide HRB3))
    obtain ⟨m2, hm2⟩ : ∃ m2 : TblM, m2 = ⟨updF m1.A r.has (some ⟨g8, 0, none⟩, c8), m1.C, m1.K⟩ := ⟨_, rfl⟩
    rw [← hm2] at hF3
    have HFF := hide hF3
    have HMEM : Hid (r.has ∈ d2.hs) := hide (by obtain ⟨h1, h2⟩ := unhide HHI; rw [← h2]; exact List.getElem_mem h1)
    clear hF3 hm2 hh2
    go_wp2_with ((go_at_call 91; refine (unhide HLI _).mono ?_; rintro e w4 ⟨vh, rfl, hh, hb4⟩; obtain ⟨Ah, ch, rfl⟩ := own_one hh; have hK : TK base bx gr (.slice (some ⟨gt, 0, none⟩) d2.hs.length ct) G gens m2 (colD d2 r 0) r (.slice Ah (lstTo r.has 8).length ch) (lstTo r.has 8) w4 := ⟨by rw [colD_zero]; exact (unhide HFF).below hb4, (hb4.block gr (Array.getElem?_eq_some_iff.1 (unhide HRB3)).1).trans (unhide HRB3), own_le hh (unhide HFF).sz, fun y k => apt_new hh ((unhide HFF).ownK y k)⟩; have HK := hide hK; have HB4 := hide ((unhide HB3').trans (hb4.mono (unhide HFF).sz)); clear hK hh hb4 HFF HRB3 HB3' r2))
    go_loopw [34] (fun x wr => ∃ k : Nat, k ≤ (lstTo r.has 8).length ∧ x = .int .i64 (k : Int) ∧ ∃ m, TK base bx gr (.slice (some ⟨gt, 0, none⟩) d2.hs.length ct) G gens m (colD d2 r k) r (.slice Ah (lstTo r.has 8).length ch) (lstTo r.has 8) wr ∧ Below base W wr) (fun x _ => (lstTo r.has 8).length - (intOf x).toNat)
    case atStart => exact ⟨0, Nat.zero_le _, rfl, m2, unhide HK, unhide HB4⟩
    case round =>
      clear HK HB4
      obtain ⟨k, hk, rfl, m, hT, hbW⟩ := hrel
      by_cases hlk : k < (lstTo r.has 8).length
      · have k0 : (0 : Int) ≤ (k : Int) := by omega
        have k1 : (k : Int) < ((lstTo r.has 8).length : Int) := by omega
        have k1' : (k : Int) < (ncol r.has : Int) := k1
        obtain ⟨p, hp, hpk⟩ : ∃ p : Nat, p < 8 ∧ (lstTo r.has 8).getD k 0 = (p : Int) := by
          have hm : (lstTo r.has 8).getD k 0 ∈ lstTo r.has 8 := by
            rw [List.getD_eq_getElem?_getD, List.getElem?_eq_getElem hlk]; exact List.getElem_mem hlk
          generalize (lstTo r.has 8).getD k 0 = z at *
          unfold lstTo at hm
          rw [List.mem_map] at hm
          obtain ⟨q, hq, e⟩ := hm
          rw [List.mem_filter, List.mem_range] at hq
          exact ⟨q, hq.1, e.symm⟩
        have p0 : (0 : Int) ≤ (p : Int) := by omega
        have p1 : (p : Int) < 8 := by omega
        obtain ⟨gh, ch', hvh, _, _⟩ := own_pos hT.held (by omega)
        simp only [Value.slice.injEq, true_and] at hvh
        obtain ⟨hvA, hvc⟩ := hvh
        have hcell : wr.cell? ⟨gh, k, none⟩ = some (.int .i64 (p : Int)) := by
          have hh := hT.held
          rw [hvA] at hh
          refine own_cell hh ?_
          unfold cellsOfInts
          rw [List.getElem?_map, List.getElem?_eq_getElem hlk]
          rw [List.getD_eq_getElem?_getD, List.getElem?_eq_getElem hlk] at hpk
          simpa using hpk
        have hmem := unhide HMEM
        have hkc : k < ncol r.has := hlk
        obtain ⟨gc, cc, hC, _, _⟩ := own_pos (hT.ownC r.has hmem) (by omega)
        obtain ⟨_, _, tc, _⟩ := TblL.table (d := colD d2 r k) hT.toTblL (i := i) (unhide HHI).choose (unhide HHI).choose_spec
        rw [hC] at tc
        have hkk : ((List.range (ncol r.has)).map (m.K r.has))[k]? = some (m.K r.has k) := by simp [hkc]
        have oC := hT.ownC r.has hmem
        rw [hC] at oC
        have ck := own_cell oC hkk
        have rv := (rb_cell hT.rb).v p hp
        rw [Nat.zero_add] at rv
        obtain ⟨W0, hW0⟩ : ∃ W0, W0 = wr.drew := ⟨_, rfl⟩
        obtain ⟨S, hS⟩ : ∃ S, S = W0.heap.size := ⟨_, rfl⟩
        obtain ⟨W1, hW1⟩ : ∃ W1, W1 = W0.alloc (.cells #[.int .i64 (r.v p)] 3) := ⟨_, rfl⟩
        have hb01 : Below wr.heap.size wr W1 := by rw [hW1, hW0]; exact (Below.refl _ _).drew.alloc (Nat.le_refl _) _
        have hT1 := hT.below hb01
        have hnew : ∀ j u, [Value.int .i64 (r.v p)][j]? = some u → W1.cell? ((⟨S, 0, none⟩ : Addr).add j) = some u := by rw [hW1, hS]; exact cell_new W0 _ 3
        have hlk0 : (colD d2 r k).L r.has k = d2.L r.has k := if_neg (by simp)
        obtain ⟨g9, c9, W2, hap, ho9, hg9, hm9⟩ := append_at base 38 3 i3 _ 1 8 Try.underlying38 (unhide HI3) (unhide HZ3) (unhide HS3) (unhide HB3) rfl (by decide) W1 (m.K r.has k) ((colD d2 r k).L r.has k).length (cellsOfInts ((colD d2 r k).L r.has k)) (hT1.ownK r.has k) ⟨S, 0, none⟩ [.int .i64 (r.v p)] rfl hnew (by simp [Value.oneCell']) (by rw [hlk0]; exact unhide HLL k) (by decide) hT1.sz
        obtain ⟨W3, hW3⟩ : ∃ W3, W3 = W2.setCell ⟨gc, k, none⟩ (.slice (some ⟨g9, 0, none⟩) (((colD d2 r k).L r.has k).length + 1) c9) := ⟨_, rfl⟩
        have hT3 := hT1.col hmem hkc hC (r.v p) hg9 ho9 hm9
        rw [← hW3, colD_succ d2 r k p hpk] at hT3
        have oC2 := (hT1.ownC r.has hmem).kept hg9 (own_apart (hT1.ownC r.has hmem) (hT1.ownK r.has k) (by decide))
        rw [hC] at oC2
        have ck2 := own_cell oC2 hkk
        have oT2 := hT1.ownT.kept hg9 (own_apart hT1.ownT (hT1.ownK r.has k) (by decide))
        have tc2 : W2.cell? ⟨gt, i * 3 + 2, none⟩ = some (.slice (some ⟨gc, 0, none⟩) (ncol r.has) cc) := by
          obtain ⟨_, _, c2⟩ := tt_at m (colD d2 r k) (i := i) (unhide HHI).choose (unhide HHI).choose_spec
          rw [← hC]
          exact own_cell oT2 c2
        have hrb2 : W2.heap[gr]? = some (.cells (rowCells r).toArray 53 (0, 0)) := (hg9.block gr (Array.getElem?_eq_some_iff.1 hT1.rb).1 (fun e => own_nety (hT1.ownK r.has k) ⟨_, hT1.rb⟩ (by decide) e.symm)).trans hT1.rb
        have rv2 := (rb_cell hrb2).v p hp
        rw [Nat.zero_add] at rv2
        have hlo : base ≤ gc := (oC.lt gc rfl).1
        have hB3 : Below base W W3 := by
          rw [hW3]
          exact ((hbW.trans (hb01.mono hT.sz)).trans (grown_below hg9 (fun k' e => ((hT1.ownK r.has k).lt k' e).1) hT1.sz)).setCell (p := ⟨gc, k, none⟩) hlo _
        have HP1 : Hid (W1.cell? ⟨gt, i * 3 + 2, none⟩ = some (.slice (some ⟨gc, 0, none⟩) (ncol r.has) cc) ∧ W1.cell? ⟨gc, k, none⟩ = some (m.K r.has k) ∧ W1.cell? ⟨gr, 3 + p, none⟩ = some (.int .i64 (r.v p))) := hide ⟨keep_below hb01 tc, keep_below hb01 ck, keep_below hb01 rv⟩
        have HP2 : Hid (W2.cell? ⟨gt, i * 3 + 2, none⟩ = some (.slice (some ⟨gc, 0, none⟩) (ncol r.has) cc) ∧ W2.cell? ⟨gc, k, none⟩ = some (m.K r.has k) ∧ W2.cell? ⟨gr, 3 + p, none⟩ = some (.int .i64 (r.v p))) := hide ⟨tc2, ck2, rv2⟩
        have h7 : XD (fun W => W.cell? ⟨gt, i * 3 + 2, none⟩ = some (.slice (some ⟨gc, 0, none⟩) (ncol r.has) cc) ∧ W.cell? ⟨gc, k, none⟩ = some (m.K r.has k) ∧ W.cell? ⟨gr, 3 + p, none⟩ = some (.int .i64 (r.v p))) W0 W1 W2 W3 16 17 19 (fun _ => false) wr.drew := by rw [← hW0]; exact XD.start (by rw [hW0]; exact ⟨tc, ck, rv⟩)
        have HTH := hide (there_of ck2 (fun j => own_free oC2 j))
        have HW1 := hide hW1
        have HSS := hide hS
        have HAP := hide hap
        have HW3 := hide hW3
        have HT3 := hide hT3
        have HBB := hide hB3
        clear hW1 hS hap hW3 hT3 hB3 hlo hW0 hb01 hT1 hnew ho9 hg9 hm9 oC2 oT2 tc2 ck2 hrb2 rv2 oC ck rv tc hT hbW hpk hlk0 hkk hmem hkc hC
        subst hvA hvc
        go_wp2_with fail
        refine wp_region_gho (fun (γ : Unit) ix v => (([fun v => v = .pointer (some ⟨gt, i * 3, none⟩), fun v => v = .pointer (some ⟨gt, i * 3, none⟩), fun v => v = .pointer (some ⟨gt, i * 3 + 2, none⟩), fun v => v = .slice (some ⟨gc, 0, none⟩) (ncol r.has) cc, fun v => v = .int .i64 (k : Int), fun v => v = .pointer (some ⟨gt, i * 3, none⟩), fun v => v = .pointer (some ⟨gt, i * 3, none⟩), fun v => v = .pointer (some ⟨gt, i * 3 + 2, none⟩), fun v => v = .slice (some ⟨gc, 0, none⟩) (ncol r.has) cc, fun v => v = .int .i64 (k : Int), fun v => v = .pointer (some ⟨gc, k, none⟩), fun v => v = m.K r.has k, fun v => v = .int .i64 (p : Int), fun v => v = .pointer (some ⟨gr, 3, none⟩), fun v => v = .pointer (some ⟨gr, 3 + p, none⟩), fun v => v = .int .i64 (r.v p), fun v => v = .slice (some ⟨S, 0, none⟩) 1 1, fun v => v = .slice (some ⟨g9, 0, none⟩) (((colD d2 r k).L r.has k).length + 1) c9, fun v => v = .pointer (some ⟨gc, k, none⟩), fun _ => True] : List (Value → Prop)).getD ix (fun _ => True)) v) (fun (_ : Unit) L W => XD (fun W => W.cell? ⟨gt, i * 3 + 2, none⟩ = some (.slice (some ⟨gc, 0, none⟩) (ncol r.has) cc) ∧ W.cell? ⟨gc, k, none⟩ = some (m.K r.has k) ∧ W.cell? ⟨gr, 3 + p, none⟩ = some (.int .i64 (r.v p))) W0 W1 W2 W3 16 17 19 L W) (()) (by kernel_rfl) (by kernel_rfl) (by kernel_rfl) h7 ?hstep ?hend7
        case hstep =>
          intro γ ix o ho L ac w1 hD hL hed hcl hout hv
          match ix, ho with
          | 0, ho =>
            simp at ho
            subst ho
            have e5 : ac.tmps.getD 5 undef = .pointer (some ⟨gt, i * 3, none⟩) := hout 5 (by decide +kernel)
            exact .inl ⟨rfl, gho_reads γ (.pointer (some ⟨gt, i * 3, none⟩)) (by simp [go_sem, Act.eval, -Array.getD_eq_getD_getElem?, e5]) rfl (hD.quiet 0 (by decide) (by decide) (by decide)) (fun _ _ _ _ h => h)⟩
          | 1, ho =>
            simp at ho
            subst ho
            have e39 : ac.tmps.getD 39 undef = .pointer (some ⟨gt, i * 3, none⟩) := hv 0 39 rfl (by kernel_rfl)
            exact .inl ⟨rfl, gho_reads γ (.pointer (some ⟨gt, i * 3, none⟩)) (by simp [go_sem, Act.eval, -Array.getD_eq_getD_getElem?, e39]) rfl (hD.quiet 1 (by decide) (by decide) (by decide)) (fun _ _ _ _ h => h)⟩
          | 2, ho =>
            simp at ho
            subst ho
            have e40 : ac.tmps.getD 40 undef = .pointer (some ⟨gt, i * 3, none⟩) := hv 1 40 rfl (by kernel_rfl)
            exact .inl ⟨rfl, gho_reads γ (.pointer (some ⟨gt, i * 3 + 2, none⟩)) (by simp [go_sem, Act.eval, -Array.getD_eq_getD_getElem?, e40]) rfl (hD.quiet 2 (by decide) (by decide) (by decide)) (fun _ _ _ _ h => h)⟩
          | 3, ho =>
            simp at ho
            subst ho
            have e41 : ac.tmps.getD 41 undef = .pointer (some ⟨gt, i * 3 + 2, none⟩) := hv 2 41 rfl (by kernel_rfl)
            have q18 : L 18 = false := by
              cases h : L 18
              · rfl
              · exact absurd (hcl 18 _ rfl h 3 (by kernel_rfl)) (by rw [hL]; decide)
            have q19 : L 19 = false := by
              cases h : L 19
              · rfl
              · exact absurd (hcl 19 _ rfl h 18 (by kernel_rfl)) (by rw [q18]; decide)
            have c0 := (hD.1 q19).1
            exact .inl ⟨rfl, gho_reads γ (.slice (some ⟨gc, 0, none⟩) (ncol r.has) cc) (by simp [go_sem, Act.eval, -Array.getD_eq_getD_getElem?, e41, c0]) rfl (hD.quiet 3 (by decide) (by decide) (by decide)) (fun _ _ _ _ h => h)⟩
          | 4, ho =>
            simp at ho
            subst ho
            have e6 : ac.tmps.getD 6 undef = .int .i64 (k : Int) := hout 6 (by decide +kernel)
            exact .inl ⟨rfl, gho_reads γ (.int .i64 (k : Int)) (by simp [go_sem, Act.eval, -Array.getD_eq_getD_getElem?, e6]) rfl (hD.quiet 4 (by decide) (by decide) (by decide)) (fun _ _ _ _ h => h)⟩
          | 5, ho =>
            simp at ho
            subst ho
            have e5 : ac.tmps.getD 5 undef = .pointer (some ⟨gt, i * 3, none⟩) := hout 5 (by decide +kernel)
            exact .inl ⟨rfl, gho_reads γ (.pointer (some ⟨gt, i * 3, none⟩)) (by simp [go_sem, Act.eval, -Array.getD_eq_getD_getElem?, e5]) rfl (hD.quiet 5 (by decide) (by decide) (by decide)) (fun _ _ _ _ h => h)⟩
          | 6, ho =>
            simp at ho
            subst ho
            have e44 : ac.tmps.getD 44 undef = .pointer (some ⟨gt, i * 3, none⟩) := hv 5 44 rfl (by kernel_rfl)
            exact .inl ⟨rfl, gho_reads γ (.pointer (some ⟨gt, i * 3, none⟩)) (by simp [go_sem, Act.eval, -Array.getD_eq_getD_getElem?, e44]) rfl (hD.quiet 6 (by decide) (by decide) (by decide)) (fun _ _ _ _ h => h)⟩
          | 7, ho =>
            simp at ho
            subst ho
            have e45 : ac.tmps.getD 45 undef = .pointer (some ⟨gt, i * 3, none⟩) := hv 6 45 rfl (by kernel_rfl)
            exact .inl ⟨rfl, gho_reads γ (.pointer (some ⟨gt, i * 3 + 2, none⟩)) (by simp [go_sem, Act.eval, -Array.getD_eq_getD_getElem?, e45]) rfl (hD.quiet 7 (by decide) (by decide) (by decide)) (fun _ _ _ _ h => h)⟩
          | 8, ho =>
            simp at ho
            subst ho
            have e46 : ac.tmps.getD 46 undef = .pointer (some ⟨gt, i * 3 + 2, none⟩) := hv 7 46 rfl (by kernel_rfl)
            have q10 : L 10 = false := by
              cases h : L 10
              · rfl
              · exact absurd (hcl 10 _ rfl h 8 (by kernel_rfl)) (by rw [hL]; decide)
            have q11 : L 11 = false := by
              cases h : L 11
              · rfl
              · exact absurd (hcl 11 _ rfl h 10 (by kernel_rfl)) (by rw [q10]; decide)
            have q17 : L 17 = false := by
              cases h : L 17
              · rfl
              · exact absurd (hcl 17 _ rfl h 11 (by kernel_rfl)) (by rw [q11]; decide)
            have q19 : L 19 = false := by
              cases h : L 19
              · rfl
              · exact absurd (hcl 19 _ rfl h 17 (by kernel_rfl)) (by rw [q17]; decide)
            have c0 := (hD.1 q19).1
            exact .inl ⟨rfl, gho_reads γ (.slice (some ⟨gc, 0, none⟩) (ncol r.has) cc) (by simp [go_sem, Act.eval, -Array.getD_eq_getD_getElem?, e46, c0]) rfl (hD.quiet 8 (by decide) (by decide) (by decide)) (fun _ _ _ _ h => h)⟩
          | 9, ho =>
            simp at ho
            subst ho
            have e6 : ac.tmps.getD 6 undef = .int .i64 (k : Int) := hout 6 (by decide +kernel)
            exact .inl ⟨rfl, gho_reads γ (.int .i64 (k : Int)) (by simp [go_sem, Act.eval, -Array.getD_eq_getD_getElem?, e6]) rfl (hD.quiet 9 (by decide) (by decide) (by decide)) (fun _ _ _ _ h => h)⟩
          | 10, ho =>
            simp at ho
            subst ho
            have e47 : ac.tmps.getD 47 undef = .slice (some ⟨gc, 0, none⟩) (ncol r.has) cc := hv 8 47 rfl (by kernel_rfl)
            have e48 : ac.tmps.getD 48 undef = .int .i64 (k : Int) := hv 9 48 rfl (by kernel_rfl)
            exact .inl ⟨rfl, gho_reads γ (.pointer (some ⟨gc, k, none⟩)) (by simp [go_sem, Act.eval, -Array.getD_eq_getD_getElem?, e47, e48, k0, k1']) rfl (hD.quiet 10 (by decide) (by decide) (by decide)) (fun _ _ _ _ h => h)⟩
          | 11, ho =>
            simp at ho
            subst ho
            have e49 : ac.tmps.getD 49 undef = .pointer (some ⟨gc, k, none⟩) := hv 10 49 rfl (by kernel_rfl)
            have q17 : L 17 = false := by
              cases h : L 17
              · rfl
              · exact absurd (hcl 17 _ rfl h 11 (by kernel_rfl)) (by rw [hL]; decide)
            have q19 : L 19 = false := by
              cases h : L 19
              · rfl
              · exact absurd (hcl 19 _ rfl h 17 (by kernel_rfl)) (by rw [q17]; decide)
            have c0 := (hD.1 q19).2.1
            exact .inl ⟨rfl, gho_reads γ (m.K r.has k) (by simp [go_sem, Act.eval, -Array.getD_eq_getD_getElem?, e49, c0]) rfl (hD.quiet 11 (by decide) (by decide) (by decide)) (fun _ _ _ _ h => h)⟩
          | 12, ho =>
            simp at ho
            subst ho
            have e7 : ac.tmps.getD 7 undef = .int .i64 (p : Int) := hout 7 (by decide +kernel)
            exact .inl ⟨rfl, gho_reads γ (.int .i64 (p : Int)) (by simp [go_sem, Act.eval, -Array.getD_eq_getD_getElem?, e7]) rfl (hD.quiet 12 (by decide) (by decide) (by decide)) (fun _ _ _ _ h => h)⟩
          | 13, ho =>
            simp at ho
            subst ho
            have e3 : ac.tmps.getD 3 undef = .pointer (some ⟨gr, 0, none⟩) := hout 3 (by decide +kernel)
            exact .inl ⟨rfl, gho_reads γ (.pointer (some ⟨gr, 3, none⟩)) (by simp [go_sem, Act.eval, -Array.getD_eq_getD_getElem?, e3]) rfl (hD.quiet 13 (by decide) (by decide) (by decide)) (fun _ _ _ _ h => h)⟩
          | 14, ho =>
            simp at ho
            subst ho
            have e52 : ac.tmps.getD 52 undef = .pointer (some ⟨gr, 3, none⟩) := hv 13 52 rfl (by kernel_rfl)
            have e51 : ac.tmps.getD 51 undef = .int .i64 (p : Int) := hv 12 51 rfl (by kernel_rfl)
            exact .inl ⟨rfl, gho_reads γ (.pointer (some ⟨gr, 3 + p, none⟩)) (by simp [go_sem, Act.eval, -Array.getD_eq_getD_getElem?, e52, e51, p0, p1]) rfl (hD.quiet 14 (by decide) (by decide) (by decide)) (fun _ _ _ _ h => h)⟩
          | 15, ho =>
            simp at ho
            subst ho
            have e53 : ac.tmps.getD 53 undef = .pointer (some ⟨gr, 3 + p, none⟩) := hv 14 53 rfl (by kernel_rfl)
            have q16 : L 16 = false := by
              cases h : L 16
              · rfl
              · exact absurd (hcl 16 _ rfl h 15 (by kernel_rfl)) (by rw [hL]; decide)
            have q17 : L 17 = false := by
              cases h : L 17
              · rfl
              · exact absurd (hcl 17 _ rfl h 16 (by kernel_rfl)) (by rw [q16]; decide)
            have q19 : L 19 = false := by
              cases h : L 19
              · rfl
              · exact absurd (hcl 19 _ rfl h 17 (by kernel_rfl)) (by rw [q17]; decide)
            have c0 := (hD.1 q19).2.2
            exact .inl ⟨rfl, gho_reads γ (.int .i64 (r.v p)) (by simp [go_sem, Act.eval, -Array.getD_eq_getD_getElem?, e53, c0]) rfl (hD.quiet 15 (by decide) (by decide) (by decide)) (fun _ _ _ _ h => h)⟩
          | 16, ho =>
            simp at ho
            subst ho
            have e54 : ac.tmps.getD 54 undef = .int .i64 (r.v p) := hv 15 54 rfl (by kernel_rfl)
            have q17 : L 17 = false := by
              cases h : L 17
              · rfl
              · exact absurd (hcl 17 _ rfl h 16 (by kernel_rfl)) (by rw [hL]; decide)
            have q19 : L 19 = false := by
              cases h : L 19
              · rfl
              · exact absurd (hcl 19 _ rfl h 17 (by kernel_rfl)) (by rw [q17]; decide)
            obtain ⟨hw, hx⟩ := hD.build hL q17 q19 (by decide) (by decide) (unhide HP1)
            subst hw
            refine .inl ⟨rfl, gho_makes γ (.slice (some ⟨S, 0, none⟩) 1 1) (w2 := W1) (by rw [unhide HW1, unhide HSS]; simp [go_sem, Act.eval, -Array.getD_eq_getD_getElem?, e54]) rfl hx (fun _ _ _ _ h => h)⟩
          | 17, ho =>
            simp at ho
            subst ho
            have e50 : ac.tmps.getD 50 undef = m.K r.has k := hv 11 50 rfl (by kernel_rfl)
            have e55 : ac.tmps.getD 55 undef = .slice (some ⟨S, 0, none⟩) 1 1 := hv 16 55 rfl (by kernel_rfl)
            have q19 : L 19 = false := by
              cases h : L 19
              · rfl
              · exact absurd (hcl 19 _ rfl h 17 (by kernel_rfl)) (by rw [hL]; decide)
            have q16 : L 16 = true := hed 16 (by kernel_rfl)
            obtain ⟨hw, hx⟩ := hD.app q16 hL q19 (by decide) (unhide HP2)
            subst hw
            exact .inl ⟨rfl, gho_append γ (.tmp 50) (.tmp 55) 38 rfl (m.K r.has k) (.slice (some ⟨S, 0, none⟩) 1 1) (.slice (some ⟨g9, 0, none⟩) (((colD d2 r k).L r.has k).length + 1) c9) (by simp [Act.eval, -Array.getD_eq_getD_getElem?, e50]) (by simp [Act.eval, -Array.getD_eq_getD_getElem?, e55]) (unhide HAP _) rfl hx (fun _ _ _ _ h => h)⟩
          | 18, ho =>
            simp at ho
            subst ho
            have e42 : ac.tmps.getD 42 undef = .slice (some ⟨gc, 0, none⟩) (ncol r.has) cc := hv 3 42 rfl (by kernel_rfl)
            have e43 : ac.tmps.getD 43 undef = .int .i64 (k : Int) := hv 4 43 rfl (by kernel_rfl)
            exact .inl ⟨rfl, gho_reads γ (.pointer (some ⟨gc, k, none⟩)) (by simp [go_sem, Act.eval, -Array.getD_eq_getD_getElem?, e42, e43, k0, k1']) rfl (hD.quiet 18 (by decide) (by decide) (by decide)) (fun _ _ _ _ h => h)⟩
          | 19, ho =>
            simp at ho
            subst ho
            have e57 : ac.tmps.getD 57 undef = .pointer (some ⟨gc, k, none⟩) := hv 18 57 rfl (by kernel_rfl)
            have e56 : ac.tmps.getD 56 undef = .slice (some ⟨g9, 0, none⟩) (((colD d2 r k).L r.has k).length + 1) c9 := hv 17 56 rfl (by kernel_rfl)
            have q17 : L 17 = true := hed 17 (by kernel_rfl)
            obtain ⟨hw, hx⟩ := hD.store q17 hL (by decide)
            subst hw
            exact .inl ⟨rfl, gho_put1 γ 38 (.tmp 57) (.tmp 56) rfl gc k (.slice (some ⟨g9, 0, none⟩) (((colD d2 r k).L r.has k).length + 1) c9) (by simp [Act.eval, -Array.getD_eq_getD_getElem?, e57]) (by simp [Act.eval, -Array.getD_eq_getD_getElem?, e56]) rfl size26 (unhide HTH) trivial (by rw [← unhide HW3]; exact hx) (fun _ _ _ _ h => h)⟩
          | ix + 20, ho => simp at ho
        case hend7 =>
          intro γ v L w5 hD hall hv
          rw [hD.2.2.2 (hall 19 (by decide))]
          clear hv hall hD h7 HP1 HP2 HTH HW1 HSS HAP HW3
          simp only [putOps, List.getElem?_cons_zero, List.getElem?_cons_succ, Option.bind_some, List.length_cons, List.length_nil, Nat.reduceAdd]
          go_frame
          go_wp2
          go_roundw
          case rel => exact ⟨k + 1, by omega, by go_num, _, unhide HT3, unhide HBB⟩
          case measure => simp [intOf]; omega
      · obtain rfl : k = (lstTo r.has 8).length := by omega
        have HT := hide hT
        have HBB := hide hbW
        clear hT hbW
        go_wp2
        exact bodyPost_end (v := .tuple #[]) (by simp [results, Try.results67, go_sem]) rfl ⟨_, m, rfl, by rw [unhide HTD]; exact (unhide HT).toTblL, unhide HBB⟩
end Go.Proofs.Ytnbleebilmghcab
