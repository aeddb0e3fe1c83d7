/- store.Match answers memory of its own. -/
import Derived.Test.YtnbleebilmghcacGreatJP
set_option linter.all false
set_option maxHeartbeats 4000000
set_option maxRecDepth 8000
namespace Go.Proofs.YtnbleebilmghcacGreat
open Go Go.RowKit
attribute [local go_sem ↓] Go.wp_at_zero Go.wp_at_succ
theorem own_low {w:World} {base base' e size n:Nat} {v:Value} {xs:List Value} (h:w.ownsRow base e size v n xs) (hb:base'≤base):w.ownsRow base' e size v n xs:=by
 obtain ⟨hl,h⟩:=h
 refine ⟨hl,?_⟩
 rcases h with h | ⟨g,cap,cur,rfl,h1,rest⟩
 ·exact .inl h
 ·exact .inr ⟨g,cap,cur,rfl,Nat.le_trans hb h1,rest⟩
theorem smatch_own (T:Option Addr) (tcap:Nat) (G:Option Addr) (gcap:Nat) (tabs:List TabI) (X:Wd) (a n:Int) (w:World) (h:StAt w T G tabs X) :
  Calls Tryz.prog 72 #[stV T tabs.length tcap G X.gens.length gcap,.agg #[.int .i64 a,.int .i64 n]] w fun e w'=>∃ A c,e=.returned (.slice A (zBQ X a n X.rows.length).length c)∧w'.ownsRow w.heap.size 39 2 (.slice A (zBQ X a n X.rows.length).length c) (zBQ X a n X.rows.length).length (zc (zBQ X a n X.rows.length))∧Below w.heap.size w w':=by
 have hl:=(zAT ((zr X).2 h.right)).1
 have hBX:=Bxs.start w [([.slice T tabs.length tcap,.slice G X.gens.length gcap],28),([.int .i64 a,.int .i64 n],41)]
 have hb:=allocs_below [([.slice T tabs.length tcap,.slice G X.gens.length gcap],28),([.int .i64 a,.int .i64 n],41)] w
 have hWo:=fun W (hb:Below w.heap.size w W)=>sworld_any T tcap G gcap tabs X W (h.below hb)
 have hM:=fun A c G' gc W (hX:WldAt W A c G' gc X)=>match_any A c G' gc X a n W (by omega) hX
 unfold stV zz zR at hWo
 unfold zz zR at hM
 have h0:Bxs w.heap.size [([.slice T tabs.length tcap,.slice G X.gens.length gcap],28),([.int .i64 a,.int .i64 n],41)] (zAQ w [([.slice T tabs.length tcap,.slice G X.gens.length gcap],28),([.int .i64 a,.int .i64 n],41)]).drew∧Below w.heap.size w (zAQ w [([.slice T tabs.length tcap,.slice G X.gens.length gcap],28),([.int .i64 a,.int .i64 n],41)]).drew∧((fun (_:Nat)=>false) 1=true→∃ A c G' gc,((undef,undef):Value×Value).1=.agg #[.slice A X.rows.length c,.slice G' X.gens.length gc]∧WldAt (zAQ w [([.slice T tabs.length tcap,.slice G X.gens.length gcap],28),([.int .i64 a,.int .i64 n],41)]).drew A c G' gc X)∧((fun (_:Nat)=>false) 3=true→∃ A c,((undef,undef):Value×Value).2=.slice A (zBQ X a n X.rows.length).length c∧(zAQ w [([.slice T tabs.length tcap,.slice G X.gens.length gcap],28),([.int .i64 a,.int .i64 n],41)]).drew.ownsRow w.heap.size 39 2 (.slice A (zBQ X a n X.rows.length).length c) (zBQ X a n X.rows.length).length (zc (zBQ X a n X.rows.length))):=⟨hBX.below (Below.refl _ _).drew,hb.drew,fun e=>(by cases e),fun e=>by cases e⟩
 have HW:=zB hWo
 have HM:=zB hM
 have H0:=zB h0
 clear hBX hb hWo hM h h0 hl
 unfold stV
 go_enter Tryz.func72,Tryz.ntmps72
 go_wp2_with fail
 have h0:=zA H0
 clear H0
 refine zi (fun (γ:Value×Value) ix v=>if ix=1 then v=γ.1 else if ix=3 then v=γ.2 else if ix=4 then v=γ.2 else (([fun v=>v=.agg #[.slice T tabs.length tcap,.slice G X.gens.length gcap],fun _=>True,fun v=>v=.agg #[.int .i64 a,.int .i64 n],fun _=>True,fun _=>True]:List (Value→Prop)).getD ix (fun _=>True)) v) (fun (γ:Value×Value) L W=>Bxs w.heap.size [([.slice T tabs.length tcap,.slice G X.gens.length gcap],28),([.int .i64 a,.int .i64 n],41)] W∧Below w.heap.size w W∧(L 1=true→∃ A c G' gc,γ.1=.agg #[.slice A X.rows.length c,.slice G' X.gens.length gc]∧WldAt W A c G' gc X)∧(L 3=true→∃ A c,γ.2=.slice A (zBQ X a n X.rows.length).length c∧W.ownsRow w.heap.size 39 2 (.slice A (zBQ X a n X.rows.length).length c) (zBQ X a n X.rows.length).length (zc (zBQ X a n X.rows.length)))) ((undef,undef)) (by kernel_rfl) (by kernel_rfl) (by kernel_rfl) h0 ?hstep ?hend
 case hstep =>
  intro γ ix o ho L ac w1 hD hL hed hcl hout hv
  match ix,ho with
  | 0,ho =>
   simp at ho
   subst ho
   have e2:ac.tmps.getD 2 undef=.pointer (some ⟨w.heap.size,0,none⟩):=hout 2 (by decide +kernel)
   have c0:=hD.1.cell 0 rfl 0 rfl
   have c1:=hD.1.cell 0 rfl 1 rfl
   rw [Nat.add_zero] at c0 c1
   exact .inl ⟨rfl,zG γ (.agg #[.slice T tabs.length tcap,.slice G X.gens.length gcap]) (by simp [go_sem,Act.eval,-Array.getD_eq_getD_getElem?,e2,c0,c1]) rfl (by rw [zQ (by decide),zQ (by decide)];exact hD) (fun _ _ _ _ h=>h)⟩
  | 1,ho =>
   simp at ho
   subst ho
   have e5:ac.tmps.getD 5 undef=.agg #[.slice T tabs.length tcap,.slice G X.gens.length gcap]:=hv 0 5 rfl (by kernel_rfl)
   have q3:L 3=false:=by
    cases h:L 3
    ·rfl
    ·exact absurd (hcl 3 _ rfl h 1 (by kernel_rfl)) (by rw [hL];decide)
   refine .inl ⟨rfl,zy 14 #[.agg #[.slice T tabs.length tcap,.slice G X.gens.length gcap]] (by simp [go_sem,Act.eval,-Array.getD_eq_getD_getElem?,e5]) ?_⟩
   refine (zA HW _ hD.2.1).mono ?_
   rintro e w2 ⟨A2,c2,G2,gc2,rfl,hN2,hb2⟩
   exact ⟨_,(.agg #[.slice A2 X.rows.length c2,.slice G2 X.gens.length gc2],γ.2),rfl,rfl,⟨hD.1.below hb2,hD.2.1.trans (hb2.mono hD.2.1.size),fun _=>⟨A2,c2,G2,gc2,rfl,hN2.toWldAt⟩,fun e=>by rw [zQ (by decide),q3] at e;cases e⟩,fun j u hj hLj h=>by simpa [hj] using h⟩
  | 2,ho =>
   simp at ho
   subst ho
   have e3:ac.tmps.getD 3 undef=.pointer (some ⟨w.heap.size+1,0,none⟩):=hout 3 (by decide +kernel)
   have c0:=hD.1.cell 1 rfl 0 rfl
   have c1:=hD.1.cell 1 rfl 1 rfl
   exact .inl ⟨rfl,zG γ (.agg #[.int .i64 a,.int .i64 n]) (by simp [go_sem,Act.eval,-Array.getD_eq_getD_getElem?,e3,c0,c1]) rfl (by rw [zQ (by decide),zQ (by decide)];exact hD) (fun _ _ _ _ h=>h)⟩
  | 3,ho =>
   simp at ho
   subst ho
   have e6:ac.tmps.getD 6 undef=γ.1:=hv 1 6 rfl (by kernel_rfl)
   have e7:ac.tmps.getD 7 undef=.agg #[.int .i64 a,.int .i64 n]:=hv 2 7 rfl (by kernel_rfl)
   have q1:L 1=true:=hed 1 (by kernel_rfl)
   obtain ⟨A2,c2,G2,gc2,hγ,hX2⟩:=hD.2.2.1 q1
   rw [hγ] at e6
   refine .inl ⟨rfl,zy 54 #[.agg #[.slice A2 X.rows.length c2,.slice G2 X.gens.length gc2],.agg #[.int .i64 a,.int .i64 n]] (by simp [go_sem,Act.eval,-Array.getD_eq_getD_getElem?,e6,e7]) ?_⟩
   refine (zA HM _ _ _ _ _ hX2).mono ?_
   rintro e w2 ⟨v2,rfl,ho2,hb2⟩
   obtain ⟨A3,c3,rfl⟩:=zAk ho2
   have hB3:=own_low ho2 (base':=w.heap.size) (by have:=hD.2.1.size;omega)
   exact ⟨_,(γ.1,.slice A3 (zBQ X a n X.rows.length).length c3),rfl,rfl,⟨hD.1.below hb2,hD.2.1.trans (hb2.mono hD.2.1.size),fun _=>⟨A2,c2,G2,gc2,hγ,hX2.below hb2⟩,fun _=>⟨A3,c3,rfl,hB3⟩⟩,fun j u hj hLj h=>by
    have q4:j≠4:=fun e=>by subst e;exact absurd (hcl 4 _ rfl hLj 3 (by kernel_rfl)) (by rw [hL];decide)
    simpa [hj,q4] using h⟩
  | 4,ho =>
   simp at ho
   subst ho
   have e8:ac.tmps.getD 8 undef=γ.2:=hv 3 8 rfl (by kernel_rfl)
   exact .inl ⟨rfl,zG γ (γ.2) (by simp [go_sem,Act.eval,-Array.getD_eq_getD_getElem?,e8]) rfl (by rw [zQ (by decide),zQ (by decide)];exact hD) (fun _ _ _ _ h=>h)⟩
  | ix+5,ho=>simp at ho
 case hend =>
  intro γ v L w9 hD hall hv
  have v4:v 4=γ.2:=hv 4 4 rfl
  obtain ⟨A3,c3,hγ,hB3⟩:=hD.2.2.2 (hall 3 (by decide))
  rw [hγ] at v4
  have HD:=zB hD.2.1
  have HB3:=zB hB3
  clear hv hall hD h0 hB3 hγ
  simp only [zn,List.getElem?_cons_zero,List.getElem?_cons_succ,Option.bind_some,List.length_cons,List.length_nil,Nat.reduceAdd,v4]
  clear v4
  go_frame
  go_wp2
  go_ret
  exact ⟨A3,c3,rfl,zA HB3,zA HD⟩
end Go.Proofs.YtnbleebilmghcacGreat
