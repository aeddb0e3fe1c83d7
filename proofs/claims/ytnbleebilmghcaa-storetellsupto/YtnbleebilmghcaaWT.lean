/- RWst, SBad -/
import Derived.Test.YtnbleebilmghcaaWO
import Derived.Test.YtnbleebilmghcaaVRWld
import Derived.Test.YtnbleebilmghcaaVRWt
import Derived.Test.YtnbleebilmghcaaVPRWrong
set_option linter.all false
set_option maxHeartbeats 8000000
set_option maxRecDepth 8000
namespace Go.Proofs.Ytnbleebilmghcaa
open Go Go.RowKit
attribute [local go_sem ↓] Go.wp_at_zero Go.wp_at_succ
theorem TogAt.below {w w1:World} {T:Option Addr} {l:List TabX} {tabs:List TabI} (h:TogAt w T l tabs) (hb:Below w.heap.size w w1):TogAt w1 T l tabs:=⟨h.tbs.below hb,h.fewl,h.few,h.n,h.eq,h.right,h.ok,h.bad⟩
theorem TogAt.tabs {w:World} {T:Option Addr} {l:List TabX} {tabs:List TabI} (h:TogAt w T l tabs):TabsAt w T tabs:=fun j hj=>by
 obtain ⟨b,o,e,A,c,C,cc,ht⟩:=h.tbs j (Nat.lt_of_lt_of_le hj h.n)
 rw [h.eq j hj] at ht
 exact ⟨b,o,e,A,c,C,cc,ht.i⟩
theorem rwrongstore_all (T:Option Addr) (tcap:Nat) (G:Option Addr) (gcap:Nat) (l:List TabX) (tabs:List TabI) (Y:Wd) (w:World) (h:TogAt w T l tabs) (hY:Y.rows=insTo (tabs.flatMap (·.rows)) (tabs.flatMap (·.rows)).length) (hG:IntsL w G Y.gens) (hrl:(tabs.flatMap (·.rows)).length≤4194304) :
  Calls Try.prog 55 #[stV T l.length tcap G Y.gens.length gcap] w fun e w'=>e=.returned (.agg #[.int .i64 (zCU l tabs Y).1,.int .i64 (zCU l tabs Y).2])∧Below w.heap.size w w':=by
 have hll:=h.fewl
 have htn:=h.n
 have hil:Y.rows.length=(tabs.flatMap (·.rows)).length:=by rw [hY];exact zCA _ _
 have hRW:=fun W (hb:Below w.heap.size w W)=>rworld_any T tcap G gcap tabs Y.gens W (h.tabs.below hb) h.right (by omega) hrl
 rw [←hY,←hil] at hRW
 have hRP:=fun A' c' W (hr:RowsL W A' Y.rows) (hb:Below w.heap.size w W)=>zp A' Y.rows.length c' G Y.gens.length gcap (fun j=>Y.rows.getD j dR) (fun j=>Y.gens.getD j 0) W (by omega) hr (hG.below hb)
 have eW:zAL (fun j=>Y.rows.getD j dR) Y.rows.length Y.gens.length (fun j=>Y.gens.getD j 0)=zN Y:=rfl
 rw [eW] at hRP
 unfold zAE zQ at hRP
 unfold stV at hRW
 obtain ⟨E,hE⟩:∃ E,E=zCU l tabs Y:=⟨_,rfl⟩
 rw [←hE]
 have hE2:E=if tabs.length<l.length then (wtAt l tabs.length,(tabs.length:Int)) else ((zN Y).1,0):=hE
 have HE2:=zB hE2
 have HST:=zB h
 have HRW:=zB hRW
 have HRP:=zB hRP
 clear h hY hG hRW hRP eW hE hE2 hrl hil
 obtain ⟨W1,hW1,hbx,hX1⟩:=zCR w [([.slice T l.length tcap,.slice G Y.gens.length gcap],71),([.int .i64 0,.int .i64 0],43)]
 have HW1:Hid ((w.alloc (.cells #[.slice T l.length tcap,.slice G Y.gens.length gcap] 71)).alloc (.cells #[.int .i64 0,.int .i64 0] 43)=W1):=zB hW1
 clear hW1
 have HB1:=zB hbx
 have HX1:=zB hX1
 have r0:=hX1.cell 0 rfl 0 rfl
 rw [Nat.add_zero] at r0
 clear hbx hX1
 unfold stV
 go_enter Try.func55,Try.ntmps55
 go_upto_region 1 with fail
 rw [zA HW1]
 go_wp2_with fail
 clear r0
 go_loopw [10] (fun x wr=>∃ j:Nat,j≤tabs.length∧x=.int .i64 (j:Int)∧Bxs w.heap.size [([.slice T l.length tcap,.slice G Y.gens.length gcap],71),([.int .i64 0,.int .i64 0],43)] wr∧Below w.heap.size w wr) (fun x _=>l.length - (intOf x).toNat)
 case atStart=>exact ⟨0,Nat.zero_le _,rfl,zA HX1,zA HB1⟩
 case round =>
  clear HX1 HB1 HW1
  obtain ⟨j,hj,rfl,hX,hB⟩:=hrel
  by_cases hlt:j<l.length
  ·have j0:(0:Int)≤(j:Int):=by omega
   have j1:(j:Int)<(l.length:Int):=by omega
   have hwt:wtAt l j=if wtF (l.getD j dT)=0 then (if j=0∨(l.getD (j - 1) dT).has<(l.getD j dT).has then 0 else 2) else wtF (l.getD j dT):=rfl
   have hgo:j<tabs.length→wtAt l j=0:=(zA HST).ok j
   have hend:j=tabs.length→wtAt l j≠0∧E=(wtAt l j,(j:Int)):=fun e=>by
    subst e
    exact ⟨(zA HST).bad hlt,by rw [zA HE2,if_pos hlt]⟩
   obtain ⟨tb,tf,hTe,A,c,C,cc,hta⟩:=(zA HST).tbs.below hB j hlt
   have hfx:=(zA HST).few j hlt
   have hprev:∀ i,j=i+1→wr.cell? ⟨tb,tf+i*3,none⟩=some (.int .i64 (l.getD i dT).has):=fun i hi=>by
    obtain ⟨b',o',e',_,_,_,_,hp⟩:=(zA HST).tbs.below hB i (by omega)
    rw [hTe] at e'
    simp only [Option.some.injEq,Addr.mk.injEq,and_true] at e'
    rw [e'.1,e'.2]
    exact hp.c0
   generalize wtAt l j=R at *
   generalize l.getD j dT=t at *
   obtain ⟨has,bs,cols⟩:=t
   dsimp only at hwt
   have d0:=hta.c0
   have d1:=hta.c1
   have d2:=hta.c2
   dsimp only at d0 d1 d2
   obtain ⟨W2,hW2,hbx,hX2⟩:=zCR wr [([.int .i64 has,.slice A bs.length c,.slice C cols.length cc],92)]
   have HW2:Hid (wr.alloc (.cells #[.int .i64 has,.slice A bs.length c,.slice C cols.length cc] 92)=W2):=zB hW2
   clear hW2
   have hRT:=fun W (hb:Below W2.heap.size W2 W)=>rwrongtable_all has bs cols A c C cc W (((hta.bs.below hbx).below hb)) ((hta.cols.below hbx).below hb) hfx
   obtain ⟨bt,hbt⟩:∃ bt,bt=wr.heap.size:=⟨_,rfl⟩
   rw [←hbt] at hX2
   have HX2:=zB (hX.below hbx)
   have HXT:=zB hX2
   have HB2:=zB (hB.trans (hbx.mono hB.size))
   have HPV:Hid (∀ i,j=i+1→W2.cell? ⟨tb,tf+i*3,none⟩=some (.int .i64 (l.getD i dT).has)):=zB (fun i hi=>zD hbx (hprev i hi))
   have z0:=hX2.cell 0 rfl 0 rfl
   have z1:=hX2.cell 0 rfl 1 rfl
   have z2:=hX2.cell 0 rfl 2 rfl
   rw [Nat.add_zero] at z0 z1 z2
   have HRT:=zB (hRT W2 (Below.refl _ _))
   have HWT:=zB hwt
   have HGO:=zB hgo
   have HEN:=zB hend
   have HBT:=zB hbt
   subst hTe
   clear hX hB hta hfx hprev hbx hX2 hRT hwt hgo hend hbt
   go_upto_region 4 with fail
   rw [zA HW2,←zA HBT]
   clear d0 d1 d2 HW2
   go_upto_region 5 with (go_at_call 93;refine (zA HRT).mono ?_;rintro e w3 ⟨rfl,hb3⟩;have HB3:=zB hb3;clear hb3)
   clear z0 z1 z2
   generalize wtF ⟨has,bs,cols⟩=F at *
   have HX9:=zB ((zA HX2).below (zA HB3))
   have HB9:=zB ((zA HB2).trans ((zA HB3).mono (zA HB2).size))
   by_cases hF:F=0
   ·subst hF
    have y0:=((zA HXT).below (zA HB3)).cell 0 rfl 0 rfl
    rw [Nat.add_zero] at y0
    have y1:=(zA HX9).cell 0 rfl 0 rfl
    rw [Nat.add_zero] at y1
    have s1:=zT y0
    have s2:=zT y1
    have hsub:Nonempty (Sub w3):=⟨⟨w3,Below.refl _ _⟩⟩
    clear y0 y1
    have hR:=zA HWT
    rw [if_pos rfl] at hR
    by_cases hj0:j=0
    ·rw [if_pos (.inl hj0)] at hR
     have hlt2:j<tabs.length:=by
      rcases Nat.lt_or_ge j tabs.length with h | h
      ·exact h
      ·exact absurd hR ((zA HEN) (by omega)).1
     subst hj0
     clear hR
     go_wp2_with fail
     refine ze (by kernel_rfl) (by kernel_rfl) ?_
     repeat (go_big_quiet_step (fail))
     refine wpQuiet_nil ?_
     rintro w9 ⟨xs,hxs⟩
     have hb9:=xs.bel
     rw [←hxs] at hb9
     have HBZ:=zB ((zA HB9).trans (hb9.mono (zA HB9).size))
     have HB0:=zB hb9
     clear hxs hb9 xs
     clear s1 s2 hsub
     go_wp2
     go_roundw
     case rel=>exact ⟨1,by omega,by go_num,(zA HX9).below (zA HB0),zA HBZ⟩
     case measure=>simp [intOf];omega
    ·obtain ⟨i,rfl⟩:∃ i,j=i+1:=⟨j - 1,by omega⟩
     have hp:=(zA HPV) i rfl
     have hgt:decide (((i+1:Nat):Int) > 0)=true:=decide_eq_true (by omega)
     have k0:(0:Int)≤(i:Int):=by omega
     have k1:(i:Int)<(l.length:Int):=by omega
     have hw1:IntKind.i64.wrap (((i+1:Nat):Int) - 1)=(i:Int):=by rw [IntWalk.i64_in _ (by omega)];omega
     rw [show i+1 - 1=i from rfl] at hR
     generalize (l.getD i dT).has=ph at *
     have s0:=zT (zD (zA HB3) hp)
     clear hp
     by_cases hph:ph<has
     ·have hd:decide (has≤ph)=false:=decide_eq_false (by omega)
      rw [if_pos (.inr hph)] at hR
      have hlt2:i+1<tabs.length:=by
       rcases Nat.lt_or_ge (i+1) tabs.length with h | h
       ·exact h
       ·exact absurd hR ((zA HEN) (by omega)).1
      clear hR hph hj0
      go_wp2_with fail
      refine ze (by kernel_rfl) (by kernel_rfl) ?_
      repeat (go_big_quiet_step (fail))
      refine wpQuiet_nil ?_
      rintro w9 ⟨xs,hxs⟩
      have hb9:=xs.bel
      rw [←hxs] at hb9
      have HBZ:=zB ((zA HB9).trans (hb9.mono (zA HB9).size))
      have HB0:=zB hb9
      clear hxs hb9 xs
      clear s0 s1 s2 hsub
      go_wp2
      go_roundw
      case rel=>exact ⟨i+1+1,by omega,by go_num,(zA HX9).below (zA HB0),zA HBZ⟩
      case measure=>simp [intOf];omega
     ·have hd:decide (has≤ph)=true:=decide_eq_true (by omega)
      have hR2:R=2:=by rw [hR,if_neg (by omega)]
      have hjt:i+1=tabs.length:=by
       rcases Nat.lt_or_ge (i+1) tabs.length with h | h
       ·have:=zA HGO h;omega
       ·omega
      have HE:Hid (E=(2,((i+1:Nat):Int))):=zB (by rw [((zA HEN) hjt).2,hR2])
      clear hR hph hj0 hR2 hjt
      go_wp2_with fail
      refine ze (by kernel_rfl) (by kernel_rfl) ?_
      repeat (go_big_quiet_step (fail))
      refine wpQuiet_nil ?_
      rintro w9 ⟨xs,hxs⟩
      have hb9:=xs.bel
      rw [←hxs] at hb9
      have HBZ:=zB ((zA HB9).trans (hb9.mono (zA HB9).size))
      have HB0:=zB hb9
      clear hxs hb9 xs
      clear s0 s1 s2 hsub
      have HX9':=zB ((zA HX9).below (zA HB0))
      clear HX9
      have HX9:=zB (zA HX9')
      clear HB9
      have HB9:=zB (zA HBZ)
      have HTH:=zB ((zA HX9).there 1 rfl 2 rfl)
      have HXR:=zB (fun a b=>(zA HX9).give 1 rfl [a,b] rfl)
      have HBR:=zB (fun vs=>zM (w.heap.size+1) (by omega) vs 0 w9 (zA HB9))
      go_wp2_with ((refine zG rfl 43 (.tmp 2) (.tmp 37) rfl (w.heap.size+1) 0 [.int .i64 2,.int .i64 ((i+1:Nat):Int)] rfl rfl (by simp [Value.oneCell']) size43 (zA HTH) ?_;intro W9 hW9;have HGG:=zB (zA HXR (.int .i64 2) (.int .i64 ((i+1:Nat):Int)));have HBB:=zB (zA HBR [.int .i64 2,.int .i64 ((i+1:Nat):Int)]);rw [←hW9] at HGG HBB;clear hW9))
      have g0:=(zA HGG).cell 1 rfl 0 rfl
      have g1:=(zA HGG).cell 1 rfl 1 rfl
      refine bodyPost_ret (v:=.agg #[.int .i64 2,.int .i64 ((i+1:Nat):Int)]) (by simp [results,Try.results55,go_sem,g0,g1]) rfl ?_
      rw [zA HE]
      exact ⟨rfl,zA HBB⟩
   ·have b1:(F == 0)=false:=by simpa using hF
    have b2:(F != 0)=true:=by simpa using hF
    have hR:R=F:=by rw [zA HWT,if_neg hF]
    have hjt:j=tabs.length:=by
     rcases Nat.lt_or_ge j tabs.length with h | h
     ·exact absurd (hR.symm.trans (zA HGO h)) hF
     ·omega
    have HE:Hid (E=(F,(j:Int))):=zB (by rw [((zA HEN) hjt).2,hR])
    clear hR hjt hF
    have HTH:=zB ((zA HX9).there 1 rfl 2 rfl)
    have HXR:=zB (fun a b=>(zA HX9).give 1 rfl [a,b] rfl)
    have HBR:=zB (fun vs=>zM (w.heap.size+1) (by omega) vs 0 w3 (zA HB9))
    go_wp2_with ((refine zG rfl 43 (.tmp 2) (.tmp 21) rfl (w.heap.size+1) 0 [.int .i64 F,.int .i64 (j:Int)] rfl rfl (by simp [Value.oneCell']) size43 (zA HTH) ?_;intro W9 hW9;have HGG:=zB (zA HXR (.int .i64 F) (.int .i64 (j:Int)));have HBB:=zB (zA HBR [.int .i64 F,.int .i64 (j:Int)]);rw [←hW9] at HGG HBB;clear hW9))
    have g0:=(zA HGG).cell 1 rfl 0 rfl
    have g1:=(zA HGG).cell 1 rfl 1 rfl
    refine bodyPost_ret (v:=.agg #[.int .i64 F,.int .i64 (j:Int)]) (by simp [results,Try.results55,go_sem,g0,g1]) rfl ?_
    rw [zA HE]
    exact ⟨rfl,zA HBB⟩
  ·obtain rfl:j=tabs.length:=by omega
   have hln:¬ tabs.length<l.length:=hlt
   have hE:E=((zN Y).1,0):=by rw [zA HE2,if_neg hln]
   have hle:l.length=tabs.length:=by omega
   have i8:decide (tabs.length<l.length)=false:=decide_eq_false hln
   have i9:decide ((tabs.length:Int)<(l.length:Int))=false:=decide_eq_false (by omega)
   generalize (zN Y).2=wa at *
   generalize (zN Y).1=we at *
   have HRW1:Hid (Calls Try.prog 59 #[.agg #[.slice T l.length tcap,.slice G Y.gens.length gcap]] wr fun e w'=>∃ v,e=.returned (.agg #[v,.slice G Y.gens.length gcap])∧w'.ownsRow wr.heap.size 61 11 v Y.rows.length (zE Y.rows)∧Below wr.heap.size wr w'):=zB (by have:=zA HRW wr hB;rw [←hle] at this;exact this)
   have r0:=hX.cell 0 rfl 0 rfl
   have r1:=hX.cell 0 rfl 1 rfl
   rw [Nat.add_zero] at r0 r1
   have HX:=zB hX
   have HB:=zB hB
   have HE:=zB hE
   clear hX hB hE hlt hln HRW HST HE2 hle
   go_upto_region 11 with (first
    | (go_at_call 59;(refine (zA HRW1).mono ?_;rintro e w2 ⟨v2,rfl,ho2,hb2⟩;obtain ⟨A2,c2,rfl⟩:=zAK ho2;have HO2:=zB (zAk ho2);have HB2:=zB hb2;clear ho2 hb2 r0 r1))
    | (go_at_call 35;(refine (zA HRP _ _ _ (zA HO2) ((zA HB).trans ((zA HB2).mono (zA HB).size))).mono ?_;rintro e w3 ⟨rfl,hb3⟩;have HB3:=zB ((zA HB2).trans ((hb3.mono (zA HB2).size)));clear hb3)))
   obtain ⟨bf,hbf⟩:∃ bf,bf=w3.heap.size:=⟨_,rfl⟩
   obtain ⟨W4,hW4,hbx,hX4⟩:=zCR w3 [([.int .i64 we,.int .i64 wa],43)]
   have HW4:Hid (w3.alloc (.cells #[.int .i64 we,.int .i64 wa] 43)=W4):=zB hW4
   clear hW4
   rw [zA HW4,←hbf]
   rw [←hbf] at hX4
   have y0:=hX4.cell 0 rfl 0 rfl
   rw [Nat.add_zero] at y0
   have HX9:=zB (((zA HX).below (zA HB3)).below hbx)
   have HB9:=zB (((zA HB).trans ((zA HB3).mono (zA HB).size)).trans (hbx.mono (Nat.le_trans (zA HB).size (zA HB3).size)))
   clear hbx hX4 HW4 hbf HX HB HB2 HB3 HO2
   have HTH:=zB ((zA HX9).there 1 rfl 2 rfl)
   have HXR:=zB (fun a b=>(zA HX9).give 1 rfl [a,b] rfl)
   have HBR:=zB (fun vs=>zM (w.heap.size+1) (by omega) vs 0 W4 (zA HB9))
   by_cases h0:we=0
   ·subst h0
    go_wp2_with ((refine zG rfl 43 (.tmp 2) (.tmp 48) rfl (w.heap.size+1) 0 [.int .i64 0,.int .i64 0] rfl rfl (by simp [Value.oneCell']) size43 (zA HTH) ?_;intro W9 hW9;have HGG:=zB (zA HXR (.int .i64 0) (.int .i64 0));have HBB:=zB (zA HBR [.int .i64 0,.int .i64 0]);rw [←hW9] at HGG HBB;clear hW9))
    have g0:=(zA HGG).cell 1 rfl 0 rfl
    have g1:=(zA HGG).cell 1 rfl 1 rfl
    refine bodyPost_ret (v:=.agg #[.int .i64 0,.int .i64 0]) (by simp [results,Try.results55,go_sem,g0,g1]) rfl ?_
    rw [zA HE]
    exact ⟨rfl,zA HBB⟩
   ·have b1:(we == 0)=false:=by simpa using h0
    have b2:(we != 0)=true:=by simpa using h0
    clear h0
    go_wp2_with ((refine zG rfl 43 (.tmp 2) (.tmp 47) rfl (w.heap.size+1) 0 [.int .i64 we,.int .i64 0] rfl rfl (by simp [Value.oneCell']) size43 (zA HTH) ?_;intro W9 hW9;have HGG:=zB (zA HXR (.int .i64 we) (.int .i64 0));have HBB:=zB (zA HBR [.int .i64 we,.int .i64 0]);rw [←hW9] at HGG HBB;clear hW9))
    have g0:=(zA HGG).cell 1 rfl 0 rfl
    have g1:=(zA HGG).cell 1 rfl 1 rfl
    refine bodyPost_ret (v:=.agg #[.int .i64 we,.int .i64 0]) (by simp [results,Try.results55,go_sem,g0,g1]) rfl ?_
    rw [zA HE]
    exact ⟨rfl,zA HBB⟩
end Go.Proofs.Ytnbleebilmghcaa
set_option maxHeartbeats 4000000
set_option maxRecDepth 8000
namespace Go.Proofs.Ytnbleebilmghcaa
open Go Go.RowKit
attribute [local go_sem ↓] Go.wp_at_zero Go.wp_at_succ
theorem swrong_all (T:Option Addr) (tcap:Nat) (G:Option Addr) (gcap:Nat) (l:List TabX) (tabs:List TabI) (Y:Wd) (w:World) (h:TogAt w T l tabs) (hY:Y.rows=insTo (tabs.flatMap (·.rows)) (tabs.flatMap (·.rows)).length) (hG:IntsL w G Y.gens) (hgl:Y.gens.length≤4194304) (hrl:(tabs.flatMap (·.rows)).length≤4194304) :
  Calls Try.prog 54 #[stV T l.length tcap G Y.gens.length gcap] w fun e w'=>e=.returned (.agg #[.int .i64 (zCU l tabs Y).1,.int .i64 (zCU l tabs Y).2])∧Below w.heap.size w w':=by
 have hTO:=fun W (hb:Below w.heap.size w W)=>zCZ T tcap G gcap l tabs Y W (h.below hb) hY (hG.below hb) hgl hrl
 unfold stV zAA zQ at hTO
 have hBB:=BB.start w (.slice T l.length tcap) (.slice G Y.gens.length gcap) (.int .i64 0) (.int .i64 0) 71 43
 generalize (zCU l tabs Y).1=e0 at *
 generalize (zCU l tabs Y).2=e1 at *
 generalize togW l tabs Y=X at *
 have HTO:=zB hTO
 have HBB:=zB hBB
 clear hTO hBB h hY hG hgl hrl
 unfold stV
 go_enter Try.func54,Try.ntmps54
 go_wp2_with (first
  | (go_at_call 92;refine (zA HTO _ (zA HBB).bel).mono ?_;rintro e w1 ⟨A1,c1,G1,gc1,rfl,hN,hb1⟩;have HB1:=zB (((zA HBB).below hb1).below (zBs w1 (.cells #[.slice A1 X.rows.length c1,.slice G1 X.gens.length gc1] 38) (.cells #[.int .i64 e0,.int .i64 e1] 43)));clear hN hb1)
  | (refine zG rfl 43 (.tmp 2) (.tmp 10) rfl (w.heap.size+1) 0 [.int .i64 e0,.int .i64 e1] rfl rfl (by simp [Value.oneCell']) size43t (zAX (zA HB1).s) ?_;intro W3 hW3;have hC:=(zA HB1).give (.int .i64 e0) (.int .i64 e1);rw [←hW3] at hC;have HC:=zB hC;clear hW3 hC))
 have t0:=(zA HC).s.e0
 have t1:=(zA HC).s.e1
 refine bodyPost_ret (v:=.agg #[.int .i64 e0,.int .i64 e1]) (by simp [results,Try.results54,go_sem,t0,t1]) rfl ⟨rfl,(zA HC).bel⟩
theorem schange_bad (T:Option Addr) (tcap:Nat) (G:Option Addr) (gcap:Nat) (l:List TabX) (tabs:List TabI) (Y:Wd) (f:Value) (w:World) (h:TogAt w T l tabs) (hY:Y.rows=insTo (tabs.flatMap (·.rows)) (tabs.flatMap (·.rows)).length) (hG:IntsL w G Y.gens) (hgl:Y.gens.length≤4194304) (hrl:(tabs.flatMap (·.rows)).length≤4194304) (h0:(zCU l tabs Y).1≠0) :
  Calls Try.prog 97 #[stV T l.length tcap G Y.gens.length gcap,f] w fun e w'=>e=.returned (.tuple #[.agg #[.slice none 0 0,.slice none 0 0],.int .i64 (zCU l tabs Y).1])∧Below w.heap.size w w':=by
 have hTO:=fun W (hb:Below w.heap.size w W)=>zCZ T tcap G gcap l tabs Y W (h.below hb) hY (hG.below hb) hgl hrl
 unfold stV zAA zQ at hTO
 have hBB:=BB.start w (.slice T l.length tcap) (.slice G Y.gens.length gcap) (.slice none 0 0) (.slice none 0 0) 71 71
 generalize (zCU l tabs Y).1=e0 at *
 generalize (zCU l tabs Y).2=e1 at *
 generalize togW l tabs Y=X at *
 have b1:(e0 == 0)=false:=by simpa using h0
 have b2:(e0 != 0)=true:=by simpa using h0
 have HTO:=zB hTO
 have HBB:=zB hBB
 clear hTO hBB h hY hG hgl hrl h0
 unfold stV
 go_enter Try.func97,Try.ntmps97
 go_upto_region 3 with (go_at_call 92;refine (zA HTO _ (zA HBB).bel).mono ?_;rintro e w1 ⟨A1,c1,G1,gc1,rfl,hN,hb1⟩;have HS1:=zB ((zA HBB).below hb1).sz;have HB1:=zB (((zA HBB).below hb1).below (zBs w1 (.cells #[.slice A1 X.rows.length c1,.slice G1 X.gens.length gc1] 38) (.cells #[.int .i64 e0,.int .i64 e1] 43)));clear hN hb1)
 obtain ⟨W2,hW2⟩:∃ W2,W2=(w1.alloc (.cells #[.slice A1 X.rows.length c1,.slice G1 X.gens.length gc1] 38)).alloc (.cells #[.int .i64 e0,.int .i64 e1] 43):=⟨_,rfl⟩
 obtain ⟨b7,hb7⟩:∃ b7,b7=w1.heap.size+1:=⟨_,rfl⟩
 have h7:w.heap.size+3≤b7:=by have:=zA HS1;omega
 have c7:W2.cell? ⟨b7,0,none⟩=some (.int .i64 e0):=by rw [hW2,hb7];simp
 rw [←hW2,←hb7]
 rw [←hW2] at HB1
 have h0:BB w (.slice T l.length tcap) (.slice G Y.gens.length gcap) (.slice none 0 0) (.slice none 0 0) W2.drew∧W2.drew.cell? ⟨b7,0,none⟩=some (.int .i64 e0):=⟨(zA HB1).below (Below.refl _ _).drew,c7⟩
 clear hW2 hb7 c7 HB1 HS1 HBB HTO
 refine zc (fun (γ:Unit) ix v=>(([fun v=>v=.agg #[.slice none 0 0,.slice none 0 0],fun v=>v=.pointer (some ⟨b7,0,none⟩),fun v=>v=.int .i64 e0,fun _=>True,fun v=>v=.int .i64 e0]:List (Value→Prop)).getD ix (fun _=>True)) v) (fun (_:Unit) (_:Nat→Bool) W=>BB w (.slice T l.length tcap) (.slice G Y.gens.length gcap) (.slice none 0 0) (.slice none 0 0) W∧W.cell? ⟨b7,0,none⟩=some (.int .i64 e0)) (()) (by kernel_rfl) (by kernel_rfl) (by kernel_rfl) h0 ?hstep ?hend
 case hstep =>
  intro γ ix o ho L ac w1 hD hL hed hcl hout hv
  match ix,ho with
  | 0,ho =>
   simp at ho
   subst ho
   exact .inl ⟨rfl,zC γ (.agg #[.slice none 0 0,.slice none 0 0]) (by simp [go_sem,Act.eval,-Array.getD_eq_getD_getElem?,]) rfl (hD) (fun _ _ _ _ h=>h)⟩
  | 1,ho =>
   simp at ho
   subst ho
   have e7:ac.tmps.getD 7 undef=.pointer (some ⟨b7,0,none⟩):=hout 7 (by decide +kernel)
   exact .inl ⟨rfl,zC γ (.pointer (some ⟨b7,0,none⟩)) (by simp [go_sem,Act.eval,-Array.getD_eq_getD_getElem?,e7]) rfl (hD) (fun _ _ _ _ h=>h)⟩
  | 2,ho =>
   simp at ho
   subst ho
   have e19:ac.tmps.getD 19 undef=.pointer (some ⟨b7,0,none⟩):=hv 1 19 rfl (by kernel_rfl)
   have c0:=hD.2
   exact .inl ⟨rfl,zC γ (.int .i64 e0) (by simp [go_sem,Act.eval,-Array.getD_eq_getD_getElem?,e19,c0]) rfl (hD) (fun _ _ _ _ h=>h)⟩
  | 3,ho =>
   simp at ho
   subst ho
   have e4:ac.tmps.getD 4 undef=.pointer (some ⟨w.heap.size+1,0,none⟩):=hout 4 (by decide +kernel)
   have e18:ac.tmps.getD 18 undef=.agg #[.slice none 0 0,.slice none 0 0]:=hv 0 18 rfl (by kernel_rfl)
   exact .inl ⟨rfl,zBL γ 71 (.tmp 4) (.tmp 18) rfl (w.heap.size+1) 0 [.slice none 0 0,.slice none 0 0] (by simp [Act.eval,-Array.getD_eq_getD_getElem?,e4]) (by simp [Act.eval,-Array.getD_eq_getD_getElem?,e18]) (by simp [Value.oneCell']) size71 (zAX hD.1.s) trivial ⟨hD.1.give _ _,(zS (by simp only [ne_eq];omega)).trans hD.2⟩ (fun _ _ _ _ h=>h)⟩
  | 4,ho =>
   simp at ho
   subst ho
   have e20:ac.tmps.getD 20 undef=.int .i64 e0:=hv 2 20 rfl (by kernel_rfl)
   exact .inl ⟨rfl,zC γ (.int .i64 e0) (by simp [go_sem,Act.eval,-Array.getD_eq_getD_getElem?,e20]) rfl (hD) (fun _ _ _ _ h=>h)⟩
  | ix+5,ho=>simp at ho
 case hend =>
  intro γ v L w9 hD hall hv
  have v4:v 4=.int .i64 e0:=hv 4 5 rfl
  have HD:=zB hD.1
  clear hv hall hD h0
  simp only [zt,List.getElem?_cons_zero,List.getElem?_cons_succ,Option.bind_some,List.length_cons,List.length_nil,Nat.reduceAdd,v4]
  clear v4
  go_frame
  go_wp2
  have t0:=(zA HD).s.e0
  have t1:=(zA HD).s.e1
  refine bodyPost_ret (v:=.tuple #[.agg #[.slice none 0 0,.slice none 0 0],.int .i64 e0]) (by simp [results,Try.results97,go_sem,t0,t1]) rfl ⟨rfl,(zA HD).bel⟩
theorem sput_bad (T:Option Addr) (tcap:Nat) (G:Option Addr) (gcap:Nat) (l:List TabX) (tabs:List TabI) (Y:Wd) (i g p n:Int) (w:World) (h:TogAt w T l tabs) (hY:Y.rows=insTo (tabs.flatMap (·.rows)) (tabs.flatMap (·.rows)).length) (hG:IntsL w G Y.gens) (hgl:Y.gens.length≤4194304) (hrl:(tabs.flatMap (·.rows)).length≤4194304) (h0:(zCU l tabs Y).1≠0) :
  Calls Try.prog 63 #[stV T l.length tcap G Y.gens.length gcap,zW i g,.int .i64 p,.int .i64 n] w fun e w'=>e=.returned (.tuple #[.agg #[.slice none 0 0,.slice none 0 0],.int .i64 (zCU l tabs Y).1])∧Below w.heap.size w w':=by
 obtain ⟨W1,hW1,hbx,hX1⟩:=zCR w [([.slice T l.length tcap,.slice G Y.gens.length gcap],71),([.int .i64 i,.int .i64 g],40),([.int .i64 p],3),([.int .i64 n],3),([.slice none 0 0,.slice none 0 0],71)]
 have HW1:Hid (((((w.alloc (.cells #[.slice T l.length tcap,.slice G Y.gens.length gcap] 71)).alloc (.cells #[.int .i64 i,.int .i64 g] 40)).alloc (.cells #[.int .i64 p] 3)).alloc (.cells #[.int .i64 n] 3)).alloc (.cells #[.slice none 0 0,.slice none 0 0] 71)=W1):=zB hW1
 clear hW1
 have HCH:=zB (fun f=>schange_bad T tcap G gcap l tabs Y f W1 (h.below hbx) hY (hG.below hbx) hgl hrl h0)
 have HB:=zB hX1
 have HBL:=zB hbx
 clear hX1 hbx h hY hG hgl hrl h0
 generalize (zCU l tabs Y).1=e0 at *
 unfold stV at HCH
 unfold stV zW
 go_enter Try.func63,Try.ntmps63
 go_wp2_with fail
 go_at_call 97
 rw [zA HW1]
 refine (zA HCH _).mono ?_
 rintro e w4 ⟨rfl,hb4⟩
 have HB4:=zB ((zA HB).below hb4)
 have HL4:=zB ((zA HBL).trans (hb4.mono (zA HBL).size))
 clear hb4 HW1 HB HBL HCH
 go_wp2_with ((refine zG rfl 71 (.tmp 8) (.tmp 13) rfl (w.heap.size+4) 0 [.slice none 0 0,.slice none 0 0] rfl rfl (by simp [Value.oneCell']) size71 ((zA HB4).there 4 rfl 2 rfl) ?_;intro W8 hW8;have hB8:=(zA HB4).give 4 rfl [.slice none 0 0,.slice none 0 0] rfl;have hL8:=zM (w.heap.size+4) (by omega) [.slice none 0 0,.slice none 0 0] 0 w4 (zA HL4);rw [←hW8] at hB8 hL8;have HB8:=zB hB8;have HL8:=zB hL8;clear hW8 hB8 hL8))
 have t0:=(zA HB8).cell 4 rfl 0 rfl
 have t1:=(zA HB8).cell 4 rfl 1 rfl
 refine bodyPost_ret (v:=.tuple #[.agg #[.slice none 0 0,.slice none 0 0],.int .i64 e0]) (by simp [results,Try.results63,go_sem,t0,t1]) rfl ⟨rfl,zA HL8⟩
theorem sspawn_bad (T:Option Addr) (tcap:Nat) (G:Option Addr) (gcap:Nat) (l:List TabX) (tabs:List TabI) (Y:Wd) (has n:Int) (w:World) (h:TogAt w T l tabs) (hY:Y.rows=insTo (tabs.flatMap (·.rows)) (tabs.flatMap (·.rows)).length) (hG:IntsL w G Y.gens) (hgl:Y.gens.length≤4194304) (hrl:(tabs.flatMap (·.rows)).length≤4194304) (h0:(zCU l tabs Y).1≠0) :
  Calls Try.prog 62 #[stV T l.length tcap G Y.gens.length gcap,.int .i64 has,.int .i64 n] w fun e w'=>e=.returned (.tuple #[.agg #[.slice none 0 0,.slice none 0 0],zW 0 0,.int .i64 (zCU l tabs Y).1])∧Below w.heap.size w w':=by
 obtain ⟨W1,hW1,hbx,hX1⟩:=zCR w [([.slice T l.length tcap,.slice G Y.gens.length gcap],71),([.int .i64 has],3),([.int .i64 n],3),([.slice none 0 0,.slice none 0 0],71),([.int .i64 0,.int .i64 0],40),([.int .i64 0,.int .i64 0],40)]
 have HW1:Hid ((((((w.alloc (.cells #[.slice T l.length tcap,.slice G Y.gens.length gcap] 71)).alloc (.cells #[.int .i64 has] 3)).alloc (.cells #[.int .i64 n] 3)).alloc (.cells #[.slice none 0 0,.slice none 0 0] 71)).alloc (.cells #[.int .i64 0,.int .i64 0] 40)).alloc (.cells #[.int .i64 0,.int .i64 0] 40)=W1):=zB hW1
 clear hW1
 have HCH:=zB (fun f=>schange_bad T tcap G gcap l tabs Y f W1 (h.below hbx) hY (hG.below hbx) hgl hrl h0)
 have HB:=zB hX1
 have HBL:=zB hbx
 have HZ1:Hid (w.heap.size+6≤W1.heap.size):=zB (hX1.sz (by simp))
 clear hX1 hbx h hY hG hgl hrl h0
 generalize (zCU l tabs Y).1=e0 at *
 unfold stV at HCH
 unfold stV zW
 go_enter Try.func62,Try.ntmps62
 go_wp2_with fail
 go_at_call 97
 rw [zA HW1]
 refine (zA HCH _).mono ?_
 rintro e w4 ⟨rfl,hb4⟩
 obtain ⟨b10,hb10⟩:∃ b10,b10=w4.heap.size:=⟨_,rfl⟩
 have h10:w.heap.size+6≤b10:=by rw [hb10];exact Nat.le_trans (zA HZ1) hb4.size
 obtain ⟨W5,hW5,hbx,hX5⟩:=zCR w4 [([.slice none 0 0,.slice none 0 0],71)]
 have HW5:Hid (w4.alloc (.cells #[.slice none 0 0,.slice none 0 0] 71)=W5):=zB hW5
 clear hW5
 have h0:Bxs w.heap.size [([.slice T l.length tcap,.slice G Y.gens.length gcap],71),([.int .i64 has],3),([.int .i64 n],3),([.slice none 0 0,.slice none 0 0],71),([.int .i64 0,.int .i64 0],40),([.int .i64 0,.int .i64 0],40)] W5.drew∧Bxs b10 [([.slice none 0 0,.slice none 0 0],71)] W5.drew∧Below w.heap.size w W5.drew:=⟨(((zA HB).below hb4).below hbx).below (Below.refl _ _).drew,(by rw [hb10];exact hX5.below (Below.refl _ _).drew),(((zA HBL).trans (hb4.mono (zA HBL).size)).trans (hbx.mono (Nat.le_trans (zA HBL).size hb4.size))).drew⟩
 clear hb4 hbx hX5 HW1 HB HBL HCH HZ1
 go_wp2_with fail
 rw [zA HW5,←hb10]
 clear HW5 hb10
 refine zc (fun (γ:Unit) ix v=>(([fun v=>v=.agg #[.slice none 0 0,.slice none 0 0],fun v=>v=.agg #[.int .i64 0,.int .i64 0],fun v=>v=.int .i64 e0,fun _=>True,fun _=>True,fun v=>v=.int .i64 e0]:List (Value→Prop)).getD ix (fun _=>True)) v) (fun (_:Unit) (_:Nat→Bool) W=>Bxs w.heap.size [([.slice T l.length tcap,.slice G Y.gens.length gcap],71),([.int .i64 has],3),([.int .i64 n],3),([.slice none 0 0,.slice none 0 0],71),([.int .i64 0,.int .i64 0],40),([.int .i64 0,.int .i64 0],40)] W∧Bxs b10 [([.slice none 0 0,.slice none 0 0],71)] W∧Below w.heap.size w W) (()) (by kernel_rfl) (by kernel_rfl) (by kernel_rfl) h0 ?hstep ?hend
 case hstep =>
  intro γ ix o ho L ac w1 hD hL hed hcl hout hv
  match ix,ho with
  | 0,ho =>
   simp at ho
   subst ho
   have e10:ac.tmps.getD 10 undef=.pointer (some ⟨b10,0,none⟩):=hout 10 (by decide +kernel)
   have c0:=hD.2.1.cell 0 rfl 0 rfl
   have c1:=hD.2.1.cell 0 rfl 1 rfl
   rw [Nat.add_zero] at c0 c1
   exact .inl ⟨rfl,zC γ (.agg #[.slice none 0 0,.slice none 0 0]) (by simp [go_sem,Act.eval,-Array.getD_eq_getD_getElem?,e10,c0,c1]) rfl (hD) (fun _ _ _ _ h=>h)⟩
  | 1,ho =>
   simp at ho
   subst ho
   have e9:ac.tmps.getD 9 undef=.pointer (some ⟨w.heap.size+5,0,none⟩):=hout 9 (by decide +kernel)
   have c0:=hD.1.cell 5 rfl 0 rfl
   have c1:=hD.1.cell 5 rfl 1 rfl
   exact .inl ⟨rfl,zC γ (.agg #[.int .i64 0,.int .i64 0]) (by simp [go_sem,Act.eval,-Array.getD_eq_getD_getElem?,e9,c0,c1]) rfl (hD) (fun _ _ _ _ h=>h)⟩
  | 2,ho =>
   simp at ho
   subst ho
   have e11:ac.tmps.getD 11 undef=.int .i64 e0:=hout 11 (by decide +kernel)
   exact .inl ⟨rfl,zC γ (.int .i64 e0) (by simp [go_sem,Act.eval,-Array.getD_eq_getD_getElem?,e11]) rfl (hD) (fun _ _ _ _ h=>h)⟩
  | 3,ho =>
   simp at ho
   subst ho
   have e6:ac.tmps.getD 6 undef=.pointer (some ⟨w.heap.size+3,0,none⟩):=hout 6 (by decide +kernel)
   have e18:ac.tmps.getD 18 undef=.agg #[.slice none 0 0,.slice none 0 0]:=hv 0 18 rfl (by kernel_rfl)
   have hg:=hD.1.give 3 rfl [.slice none 0 0,.slice none 0 0] rfl
   exact .inl ⟨rfl,zBL γ 71 (.tmp 6) (.tmp 18) rfl (w.heap.size+3) 0 [.slice none 0 0,.slice none 0 0] (by simp [Act.eval,-Array.getD_eq_getD_getElem?,e6]) (by simp [Act.eval,-Array.getD_eq_getD_getElem?,e18]) (by simp [Value.oneCell']) size71 (hD.1.there 3 rfl 2 rfl) trivial ⟨hg,hD.2.1.turn (.inl (by omega)),zM (w.heap.size+3) (by omega) _ 0 _ hD.2.2⟩ (fun _ _ _ _ h=>h)⟩
  | 4,ho =>
   simp at ho
   subst ho
   have e7:ac.tmps.getD 7 undef=.pointer (some ⟨w.heap.size+4,0,none⟩):=hout 7 (by decide +kernel)
   have e19:ac.tmps.getD 19 undef=.agg #[.int .i64 0,.int .i64 0]:=hv 1 19 rfl (by kernel_rfl)
   have hg:=hD.1.give 4 rfl [.int .i64 0,.int .i64 0] rfl
   exact .inl ⟨rfl,zBL γ 40 (.tmp 7) (.tmp 19) rfl (w.heap.size+4) 0 [.int .i64 0,.int .i64 0] (by simp [Act.eval,-Array.getD_eq_getD_getElem?,e7]) (by simp [Act.eval,-Array.getD_eq_getD_getElem?,e19]) (by simp [Value.oneCell']) size40 (hD.1.there 4 rfl 2 rfl) trivial ⟨hg,hD.2.1.turn (.inl (by omega)),zM (w.heap.size+4) (by omega) _ 0 _ hD.2.2⟩ (fun _ _ _ _ h=>h)⟩
  | 5,ho =>
   simp at ho
   subst ho
   have e20:ac.tmps.getD 20 undef=.int .i64 e0:=hv 2 20 rfl (by kernel_rfl)
   exact .inl ⟨rfl,zC γ (.int .i64 e0) (by simp [go_sem,Act.eval,-Array.getD_eq_getD_getElem?,e20]) rfl (hD) (fun _ _ _ _ h=>h)⟩
  | ix+6,ho=>simp at ho
 case hend =>
  intro γ v L w9 hD hall hv
  have v5:v 5=.int .i64 e0:=hv 5 8 rfl
  have HD:=zB hD
  clear hv hall hD h0
  simp only [zt,List.getElem?_cons_zero,List.getElem?_cons_succ,Option.bind_some,List.length_cons,List.length_nil,Nat.reduceAdd,v5]
  clear v5
  go_frame
  go_wp2
  have t0:=(zA HD).1.cell 3 rfl 0 rfl
  have t1:=(zA HD).1.cell 3 rfl 1 rfl
  have t2:=(zA HD).1.cell 4 rfl 0 rfl
  have t3:=(zA HD).1.cell 4 rfl 1 rfl
  refine bodyPost_ret (v:=.tuple #[.agg #[.slice none 0 0,.slice none 0 0],.agg #[.int .i64 0,.int .i64 0],.int .i64 e0]) (by simp [results,Try.results62,go_sem,t0,t1,t2,t3]) rfl ⟨rfl,(zA HD).2.2⟩
end Go.Proofs.Ytnbleebilmghcaa
