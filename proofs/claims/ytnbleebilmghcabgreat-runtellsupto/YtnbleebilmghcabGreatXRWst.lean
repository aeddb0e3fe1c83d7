/- What the document's WrongStore tells of any store. -/
import Derived.Test.YtnbleebilmghcabGreatXPRWrong
import Derived.Test.YtnbleebilmghcabGreatXRWld
import Derived.Test.YtnbleebilmghcabGreatXRWt
set_option linter.all false
set_option maxHeartbeats 8000000
set_option maxRecDepth 8000
namespace Go.Proofs.YtnbleebilmghcabGreat
open Go Go.RowKit
attribute [local go_sem ↓] Go.wp_at_zero Go.wp_at_succ
theorem TogAt.below {w w1:World} {T:Option Addr} {l:List TabX} {tabs:List TabI} (h:TogAt w T l tabs) (hb:Below w.heap.size w w1):TogAt w1 T l tabs:=⟨h.tbs.below hb,h.fewl,h.few,h.n,h.eq,h.right,h.ok,h.bad⟩
theorem TogAt.tabs {w:World} {T:Option Addr} {l:List TabX} {tabs:List TabI} (h:TogAt w T l tabs):TabsAt w T tabs:=fun j hj=>by
 obtain ⟨b,o,e,A,c,C,cc,ht⟩:=h.tbs j (Nat.lt_of_lt_of_le hj h.n)
 rw [h.eq j hj] at ht
 exact ⟨b,o,e,A,c,C,cc,ht.i⟩
theorem zAp (T:Option Addr) (tcap:Nat) (G:Option Addr) (gcap:Nat) (l:List TabX) (tabs:List TabI) (Y:Wd) (w:World) (h:TogAt w T l tabs) (hY:Y.rows=insTo (tabs.flatMap (·.rows)) (tabs.flatMap (·.rows)).length) (hG:IntsL w G Y.gens) (hrl:(tabs.flatMap (·.rows)).length≤4194304) :
  Calls Tryz.prog 27 #[stV T l.length tcap G Y.gens.length gcap] w fun e w'=>e=.returned (.agg #[.int .i64 (zBB l tabs Y).1,.int .i64 (zBB l tabs Y).2])∧Below w.heap.size w w':=by
 have hll:=h.fewl
 have htn:=h.n
 have hil:Y.rows.length=(tabs.flatMap (·.rows)).length:=by rw [hY];exact zCN _ _
 have hRW:=fun W (hb:Below w.heap.size w W)=>zFV T tcap G gcap tabs Y.gens W (h.tabs.below hb) h.right (by omega) hrl
 rw [←hY,←hil] at hRW
 have hRP:=fun A' c' W (hr:RowsL W A' Y.rows) (hb:Below w.heap.size w W)=>zp A' Y.rows.length c' G Y.gens.length gcap (fun j=>Y.rows.getD j dR) (fun j=>Y.gens.getD j 0) W (by omega) hr (hG.below hb)
 have eW:zAT (fun j=>Y.rows.getD j dR) Y.rows.length Y.gens.length (fun j=>Y.gens.getD j 0)=zP Y:=rfl
 rw [eW] at hRP
 unfold zAG zM at hRP
 unfold stV at hRW
 obtain ⟨E,hE⟩:∃ E,E=zBB l tabs Y:=⟨_,rfl⟩
 rw [←hE]
 have hE2:E=if tabs.length<l.length then (zDz l tabs.length,(tabs.length:Int)) else ((zP Y).1,0):=hE
 have HE2:=zB hE2
 have HST:=zB h
 have HRW:=zB hRW
 have HRP:=zB hRP
 clear h hY hG hRW hRP eW hE hE2 hrl hil
 obtain ⟨W1,hW1,hbx,hX1⟩:=zET w [([.slice T l.length tcap,.slice G Y.gens.length gcap],25),([.int .i64 0,.int .i64 0],29)]
 have HW1:Hid ((w.alloc (.cells #[.slice T l.length tcap,.slice G Y.gens.length gcap] 25)).alloc (.cells #[.int .i64 0,.int .i64 0] 29)=W1):=zB hW1
 clear hW1
 have HB1:=zB hbx
 have HX1:=zB hX1
 have r0:=hX1.cell 0 rfl 0 rfl
 rw [Nat.add_zero] at r0
 clear hbx hX1
 unfold stV
 go_enter Tryz.func27,Tryz.ntmps27
 go_upto_region 1 with fail
 rw [zA HW1]
 go_wp2_with fail
 clear r0
 go_loopw [10] (fun x wr=>∃ j:Nat,j≤tabs.length∧x=.int .i64 (j:Int)∧Bxs w.heap.size [([.slice T l.length tcap,.slice G Y.gens.length gcap],25),([.int .i64 0,.int .i64 0],29)] wr∧Below w.heap.size w wr) (fun x _=>l.length - (intOf x).toNat)
 case atStart=>exact ⟨0,Nat.zero_le _,rfl,zA HX1,zA HB1⟩
 case round =>
  clear HX1 HB1 HW1
  obtain ⟨j,hj,rfl,hX,hB⟩:=hrel
  by_cases hlt:j<l.length
  ·have j0:(0:Int)≤(j:Int):=by omega
   have j1:(j:Int)<(l.length:Int):=by omega
   have hwt:zDz l j=if wtF (l.getD j dT)=0 then (if j=0∨(l.getD (j - 1) dT).has<(l.getD j dT).has then 0 else 2) else wtF (l.getD j dT):=rfl
   have hgo:j<tabs.length→zDz l j=0:=(zA HST).ok j
   have hend:j=tabs.length→zDz l j≠0∧E=(zDz l j,(j:Int)):=fun e=>by
    subst e
    exact ⟨(zA HST).bad hlt,by rw [zA HE2,if_pos hlt]⟩
   obtain ⟨tb,tf,hTe,A,c,C,cc,hta⟩:=(zA HST).tbs.below hB j hlt
   have hfx:=(zA HST).few j hlt
   have hprev:∀ i,j=i+1→wr.cell? ⟨tb,tf+i*3,none⟩=some (.int .i64 (l.getD i dT).has):=fun i hi=>by
    obtain ⟨b',o',e',_,_,_,_,hp⟩:=(zA HST).tbs.below hB i (by omega)
    rw [hTe] at e'
    simp only [Option.some.injEq,Addr.mk.injEq,and_true] at e'
    rw [e'.1,e'.2]
    exact hp.c0
   generalize zDz l j=R at *
   generalize l.getD j dT=t at *
   obtain ⟨has,bs,cols⟩:=t
   dsimp only at hwt
   have d0:=hta.c0
   have d1:=hta.c1
   have d2:=hta.c2
   dsimp only at d0 d1 d2
   obtain ⟨W2,hW2,hbx,hX2⟩:=zET wr [([.int .i64 has,.slice A bs.length c,.slice C cols.length cc],75)]
   have HW2:Hid (wr.alloc (.cells #[.int .i64 has,.slice A bs.length c,.slice C cols.length cc] 75)=W2):=zB hW2
   clear hW2
   have hRT:=fun W (hb:Below W2.heap.size W2 W)=>zEk has bs cols A c C cc W (((hta.bs.below hbx).below hb)) ((hta.cols.below hbx).below hb) hfx
   obtain ⟨bt,hbt⟩:∃ bt,bt=wr.heap.size:=⟨_,rfl⟩
   rw [←hbt] at hX2
   have HX2:=zB (hX.below hbx)
   have HXT:=zB hX2
   have HB2:=zB (hB.trans (hbx.mono hB.size))
   have HPV:Hid (∀ i,j=i+1→W2.cell? ⟨tb,tf+i*3,none⟩=some (.int .i64 (l.getD i dT).has)):=zB (fun i hi=>zC hbx (hprev i hi))
   have z0:=hX2.cell 0 rfl 0 rfl
   have z1:=hX2.cell 0 rfl 1 rfl
   have z2:=hX2.cell 0 rfl 2 rfl
   rw [Nat.add_zero] at z0 z1 z2
   have HRT:=zB (hRT W2 (Below.refl _ _))
   have HWT:=zB hwt
   have HGO:=zB hgo
   have HEN:=zB hend
   have HBT:=zB hbt
   subst hTe
   clear hX hB hta hfx hprev hbx hX2 hRT hwt hgo hend hbt
   go_upto_region 4 with fail
   rw [zA HW2,←zA HBT]
   clear d0 d1 d2 HW2
   go_upto_region 5 with (go_at_call 54;refine (zA HRT).mono ?_;rintro e w3 ⟨rfl,hb3⟩;have HB3:=zB hb3;clear hb3)
   clear z0 z1 z2
   generalize wtF ⟨has,bs,cols⟩=F at *
   have HX9:=zB ((zA HX2).below (zA HB3))
   have HB9:=zB ((zA HB2).trans ((zA HB3).mono (zA HB2).size))
   by_cases hF:F=0
   ·subst hF
    have y0:=((zA HXT).below (zA HB3)).cell 0 rfl 0 rfl
    rw [Nat.add_zero] at y0
    have y1:=(zA HX9).cell 0 rfl 0 rfl
    rw [Nat.add_zero] at y1
    have s1:=zN y0
    have s2:=zN y1
    have hsub:Nonempty (Sub w3):=⟨⟨w3,Below.refl _ _⟩⟩
    clear y0 y1
    have hR:=zA HWT
    rw [if_pos rfl] at hR
    by_cases hj0:j=0
    ·rw [if_pos (.inl hj0)] at hR
     have hlt2:j<tabs.length:=by
      rcases Nat.lt_or_ge j tabs.length with h | h
      ·exact h
      ·exact absurd hR ((zA HEN) (by omega)).1
     subst hj0
     clear hR
     go_wp2_with fail
     refine zU (by kernel_rfl) (by kernel_rfl) ?_
     repeat (go_big_quiet_step (fail))
     refine wpQuiet_nil ?_
     rintro w9 ⟨xs,hxs⟩
     have hb9:=xs.bel
     rw [←hxs] at hb9
     have HBZ:=zB ((zA HB9).trans (hb9.mono (zA HB9).size))
     have HB0:=zB hb9
     clear hxs hb9 xs
     clear s1 s2 hsub
     go_wp2
     go_roundw
     case rel=>exact ⟨1,by omega,by go_num,(zA HX9).below (zA HB0),zA HBZ⟩
     case measure=>simp [intOf];omega
    ·obtain ⟨i,rfl⟩:∃ i,j=i+1:=⟨j - 1,by omega⟩
     have hp:=(zA HPV) i rfl
     have hgt:decide (((i+1:Nat):Int) > 0)=true:=decide_eq_true (by omega)
     have k0:(0:Int)≤(i:Int):=by omega
     have k1:(i:Int)<(l.length:Int):=by omega
     have hw1:IntKind.i64.wrap (((i+1:Nat):Int) - 1)=(i:Int):=by rw [IntWalk.i64_in _ (by omega)];omega
     rw [show i+1 - 1=i from rfl] at hR
     generalize (l.getD i dT).has=ph at *
     have s0:=zN (zC (zA HB3) hp)
     clear hp
     by_cases hph:ph<has
     ·have hd:decide (has≤ph)=false:=decide_eq_false (by omega)
      rw [if_pos (.inr hph)] at hR
      have hlt2:i+1<tabs.length:=by
       rcases Nat.lt_or_ge (i+1) tabs.length with h | h
       ·exact h
       ·exact absurd hR ((zA HEN) (by omega)).1
      clear hR hph hj0
      go_wp2_with fail
      refine zU (by kernel_rfl) (by kernel_rfl) ?_
      repeat (go_big_quiet_step (fail))
      refine wpQuiet_nil ?_
      rintro w9 ⟨xs,hxs⟩
      have hb9:=xs.bel
      rw [←hxs] at hb9
      have HBZ:=zB ((zA HB9).trans (hb9.mono (zA HB9).size))
      have HB0:=zB hb9
      clear hxs hb9 xs
      clear s0 s1 s2 hsub
      go_wp2
      go_roundw
      case rel=>exact ⟨i+1+1,by omega,by go_num,(zA HX9).below (zA HB0),zA HBZ⟩
      case measure=>simp [intOf];omega
     ·have hd:decide (has≤ph)=true:=decide_eq_true (by omega)
      have hR2:R=2:=by rw [hR,if_neg (by omega)]
      have hjt:i+1=tabs.length:=by
       rcases Nat.lt_or_ge (i+1) tabs.length with h | h
       ·have:=zA HGO h;omega
       ·omega
      have HE:Hid (E=(2,((i+1:Nat):Int))):=zB (by rw [((zA HEN) hjt).2,hR2])
      clear hR hph hj0 hR2 hjt
      go_wp2_with fail
      refine zU (by kernel_rfl) (by kernel_rfl) ?_
      repeat (go_big_quiet_step (fail))
      refine wpQuiet_nil ?_
      rintro w9 ⟨xs,hxs⟩
      have hb9:=xs.bel
      rw [←hxs] at hb9
      have HBZ:=zB ((zA HB9).trans (hb9.mono (zA HB9).size))
      have HB0:=zB hb9
      clear hxs hb9 xs
      clear s0 s1 s2 hsub
      have HX9':=zB ((zA HX9).below (zA HB0))
      clear HX9
      have HX9:=zB (zA HX9')
      clear HB9
      have HB9:=zB (zA HBZ)
      have HTH:=zB ((zA HX9).there 1 rfl 2 rfl)
      have HXR:=zB (fun a b=>(zA HX9).give 1 rfl [a,b] rfl)
      have HBR:=zB (fun vs=>zI (w.heap.size+1) (by omega) vs 0 w9 (zA HB9))
      go_wp2_with ((refine zG rfl 29 (.tmp 2) (.tmp 37) rfl (w.heap.size+1) 0 [.int .i64 2,.int .i64 ((i+1:Nat):Int)] rfl rfl (by simp [Value.oneCell']) size43 (zA HTH) ?_;intro W9 hW9;have HGG:=zB (zA HXR (.int .i64 2) (.int .i64 ((i+1:Nat):Int)));have HBB:=zB (zA HBR [.int .i64 2,.int .i64 ((i+1:Nat):Int)]);rw [←hW9] at HGG HBB;clear hW9))
      have g0:=(zA HGG).cell 1 rfl 0 rfl
      have g1:=(zA HGG).cell 1 rfl 1 rfl
      refine bodyPost_ret (v:=.agg #[.int .i64 2,.int .i64 ((i+1:Nat):Int)]) (by simp [results,Tryz.results27,go_sem,g0,g1]) rfl ?_
      rw [zA HE]
      exact ⟨rfl,zA HBB⟩
   ·have b1:(F == 0)=false:=by simpa using hF
    have b2:(F != 0)=true:=by simpa using hF
    have hR:R=F:=by rw [zA HWT,if_neg hF]
    have hjt:j=tabs.length:=by
     rcases Nat.lt_or_ge j tabs.length with h | h
     ·exact absurd (hR.symm.trans (zA HGO h)) hF
     ·omega
    have HE:Hid (E=(F,(j:Int))):=zB (by rw [((zA HEN) hjt).2,hR])
    clear hR hjt hF
    have HTH:=zB ((zA HX9).there 1 rfl 2 rfl)
    have HXR:=zB (fun a b=>(zA HX9).give 1 rfl [a,b] rfl)
    have HBR:=zB (fun vs=>zI (w.heap.size+1) (by omega) vs 0 w3 (zA HB9))
    go_wp2_with ((refine zG rfl 29 (.tmp 2) (.tmp 21) rfl (w.heap.size+1) 0 [.int .i64 F,.int .i64 (j:Int)] rfl rfl (by simp [Value.oneCell']) size43 (zA HTH) ?_;intro W9 hW9;have HGG:=zB (zA HXR (.int .i64 F) (.int .i64 (j:Int)));have HBB:=zB (zA HBR [.int .i64 F,.int .i64 (j:Int)]);rw [←hW9] at HGG HBB;clear hW9))
    have g0:=(zA HGG).cell 1 rfl 0 rfl
    have g1:=(zA HGG).cell 1 rfl 1 rfl
    refine bodyPost_ret (v:=.agg #[.int .i64 F,.int .i64 (j:Int)]) (by simp [results,Tryz.results27,go_sem,g0,g1]) rfl ?_
    rw [zA HE]
    exact ⟨rfl,zA HBB⟩
  ·obtain rfl:j=tabs.length:=by omega
   have hln:¬ tabs.length<l.length:=hlt
   have hE:E=((zP Y).1,0):=by rw [zA HE2,if_neg hln]
   have hle:l.length=tabs.length:=by omega
   have i8:decide (tabs.length<l.length)=false:=decide_eq_false hln
   have i9:decide ((tabs.length:Int)<(l.length:Int))=false:=decide_eq_false (by omega)
   generalize (zP Y).2=wa at *
   generalize (zP Y).1=we at *
   have HRW1:Hid (Calls Tryz.prog 31 #[.agg #[.slice T l.length tcap,.slice G Y.gens.length gcap]] wr fun e w'=>∃ v,e=.returned (.agg #[v,.slice G Y.gens.length gcap])∧w'.ownsRow wr.heap.size 116 11 v Y.rows.length (zD Y.rows)∧Below wr.heap.size wr w'):=zB (by have:=zA HRW wr hB;rw [←hle] at this;exact this)
   have r0:=hX.cell 0 rfl 0 rfl
   have r1:=hX.cell 0 rfl 1 rfl
   rw [Nat.add_zero] at r0 r1
   have HX:=zB hX
   have HB:=zB hB
   have HE:=zB hE
   clear hX hB hE hlt hln HRW HST HE2 hle
   go_upto_region 11 with (first
    | (go_at_call 31;(refine (zA HRW1).mono ?_;rintro e w2 ⟨v2,rfl,ho2,hb2⟩;obtain ⟨A2,c2,rfl⟩:=zAV ho2;have HO2:=zB (zAt ho2);have HB2:=zB hb2;clear ho2 hb2 r0 r1))
    | (go_at_call 55;(refine (zA HRP _ _ _ (zA HO2) ((zA HB).trans ((zA HB2).mono (zA HB).size))).mono ?_;rintro e w3 ⟨rfl,hb3⟩;have HB3:=zB ((zA HB2).trans ((hb3.mono (zA HB2).size)));clear hb3)))
   obtain ⟨bf,hbf⟩:∃ bf,bf=w3.heap.size:=⟨_,rfl⟩
   obtain ⟨W4,hW4,hbx,hX4⟩:=zET w3 [([.int .i64 we,.int .i64 wa],29)]
   have HW4:Hid (w3.alloc (.cells #[.int .i64 we,.int .i64 wa] 29)=W4):=zB hW4
   clear hW4
   rw [zA HW4,←hbf]
   rw [←hbf] at hX4
   have y0:=hX4.cell 0 rfl 0 rfl
   rw [Nat.add_zero] at y0
   have HX9:=zB (((zA HX).below (zA HB3)).below hbx)
   have HB9:=zB (((zA HB).trans ((zA HB3).mono (zA HB).size)).trans (hbx.mono (Nat.le_trans (zA HB).size (zA HB3).size)))
   clear hbx hX4 HW4 hbf HX HB HB2 HB3 HO2
   have HTH:=zB ((zA HX9).there 1 rfl 2 rfl)
   have HXR:=zB (fun a b=>(zA HX9).give 1 rfl [a,b] rfl)
   have HBR:=zB (fun vs=>zI (w.heap.size+1) (by omega) vs 0 W4 (zA HB9))
   by_cases h0:we=0
   ·subst h0
    go_wp2_with ((refine zG rfl 29 (.tmp 2) (.tmp 48) rfl (w.heap.size+1) 0 [.int .i64 0,.int .i64 0] rfl rfl (by simp [Value.oneCell']) size43 (zA HTH) ?_;intro W9 hW9;have HGG:=zB (zA HXR (.int .i64 0) (.int .i64 0));have HBB:=zB (zA HBR [.int .i64 0,.int .i64 0]);rw [←hW9] at HGG HBB;clear hW9))
    have g0:=(zA HGG).cell 1 rfl 0 rfl
    have g1:=(zA HGG).cell 1 rfl 1 rfl
    refine bodyPost_ret (v:=.agg #[.int .i64 0,.int .i64 0]) (by simp [results,Tryz.results27,go_sem,g0,g1]) rfl ?_
    rw [zA HE]
    exact ⟨rfl,zA HBB⟩
   ·have b1:(we == 0)=false:=by simpa using h0
    have b2:(we != 0)=true:=by simpa using h0
    clear h0
    go_wp2_with ((refine zG rfl 29 (.tmp 2) (.tmp 47) rfl (w.heap.size+1) 0 [.int .i64 we,.int .i64 0] rfl rfl (by simp [Value.oneCell']) size43 (zA HTH) ?_;intro W9 hW9;have HGG:=zB (zA HXR (.int .i64 we) (.int .i64 0));have HBB:=zB (zA HBR [.int .i64 we,.int .i64 0]);rw [←hW9] at HGG HBB;clear hW9))
    have g0:=(zA HGG).cell 1 rfl 0 rfl
    have g1:=(zA HGG).cell 1 rfl 1 rfl
    refine bodyPost_ret (v:=.agg #[.int .i64 we,.int .i64 0]) (by simp [results,Tryz.results27,go_sem,g0,g1]) rfl ?_
    rw [zA HE]
    exact ⟨rfl,zA HBB⟩
end Go.Proofs.YtnbleebilmghcabGreat
