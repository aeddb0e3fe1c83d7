/- package house: tick. -/
import Derived.Test.YtnbleebilmghcacGreatYHo3
set_option linter.all false
set_option maxHeartbeats 2000000
set_option maxRecDepth 8000
namespace Go.Proofs.YtnbleebilmghcacGreat
open Go Go.RowKit
attribute [local go_sem ↓] Go.wp_at_zero Go.wp_at_succ
theorem bw_zero (S:Nat→SysI):∀ m j,(∀ i,i<m→(sw (S (j+i))).1=0)→(bwTo S m j).1=0
 | 0,_,_=>rfl
 | m+1,j,h=>by
  have h0:=h 0 (by omega)
  rw [Nat.add_zero] at h0
  rw [bwTo,if_pos h0]
  exact bw_zero S m (j+1) fun i hi=>by have:=h (i+1) (by omega);rwa [show j+(i+1)=j+1+i by omega] at this
theorem bwF_zero {S:Nat→SysI} {n:Nat} (hn:n≤12) (h:∀ j,j<n→(sw (S j)).1=0):(bwF S n).1=0:=by
 unfold bwF
 rw [if_neg (by omega)]
 exact bw_zero S n 0 fun i hi=>by rw [Nat.zero_add];exact h i hi
theorem flatR_false (bs:List (List Nat)):flatR false bs=bs.flatten:=by simp [flatR]
theorem sz3:(Tryz.prog.info? 3).map (·.size)=some 1:=by kernel_rfl
theorem tick_any (p:Nat) (T:Option Addr) (tc:Nat) (G:Option Addr) (gc:Nat) (u2 u4:Value) (SA:Option Addr) (n sc:Nat) (S:Nat→SysI) (X:Wd) (w:World) (hB:Bxs p [([.slice T (zL X).length tc,.slice G X.gens.length gc,u2,.slice SA n sc,u4],82)] w) (hS:StAt w T G (zL X) X) (hL:SyssAt w SA n S) (hn:n≤12) (hsw:∀ j,j<n→(sw (S j)).1=0) :
  Calls Tryz.prog 44 #[.pointer (some ⟨p,0,none⟩)] w fun e w'=>e=.returned (.agg #[.int .i64 (zAE S n 0 X).1.1,.int .i64 0,.int .i64 0,.slice none 0 0,.int .i64 (if (zAE S n 0 X).1.1=0 then (((mkB (clS S) n).length:Nat):Int) else 0)])∧Bec p u2 (.slice SA n sc) u4 (zAE S n 0 X).1.1 (zAE S n 0 X).2 w w':=by
 have hw:=bwF_zero hn hsw
 obtain ⟨hq1,hq2⟩:=batch_order hS.right hsw false
 have hMK:=fun W (hb:Below w.heap.size w W)=>make_right SA n sc S W (hL.below hb) hw
 have hAM:=fun A c W (hb:Below w.heap.size w W) (hS':SyssAt W A n (fun k=>S ((flatR false (mkB (clS S) n)).getD k 0)))=>all_any T tc G gc (zL X) X A n c (fun k=>S ((flatR false (mkB (clS S) n)).getD k 0)) W (hS.below hb) (by omega) hS'
 unfold zAT at hMK
 unfold stV at hAM
 rw [hq1,hq2] at hAM
 generalize (zAE (fun k=>S ((flatR false (mkB (clS S) n)).getD k 0)) n 0 X).1.2=at2 at *
 obtain ⟨e1,he1⟩:∃ e1,e1=(zAE S n 0 X).1.1:=⟨_,rfl⟩
 obtain ⟨Y,hY⟩:∃ Y,Y=(zAE S n 0 X).2:=⟨_,rfl⟩
 rw [←he1,←hY] at hAM ⊢
 have hblen:=mkB_len (clS S) n
 have HLENS:=zB (fun k hk=>mkB_lens (clS S) n k hk)
 have HNE:=zB (fun k hk=>List.length_pos_iff.2 (mkB_ne (clS S) n k hk))
 have HLT:=zB (flatR_lt (t:=false) (cl:=clS S) (n:=n))
 have HFL:=zB (flatR_len (t:=false) (cl:=clS S) (n:=n))
 generalize mkB (clS S) n=bs at *
 rw [flatR_false] at hAM HLT HFL
 have hOR:=fun B c W h=>order_any B bs c W (by omega) (fun k hk=>by have:=zA HLENS k hk;omega) (fun k hk=>zA HNE k hk) h
 have hBE:=fun T' tc' G' gc' W h=>zCW p T' (zL Y).length tc' G' Y.gens.length gc' e1 (.slice T (zL X).length tc) (.slice G X.gens.length gc) u2 (.slice SA n sc) u4 W h
 unfold stV at hBE
 generalize bs.flatten=fl at *
 obtain ⟨i37,hi37,hz37,hs37,hb37⟩:=info_parts infoS
 have HI:=zB hi37
 have HZ:=zB hz37
 have HS:=zB hs37
 have HBB:=zB hb37
 have HMK:=zB hMK
 have HAM:=zB hAM
 have HOR:=zB hOR
 have HBE:=zB hBE
 have HSL:=zB hL
 clear hMK hAM hOR hBE hL hw hsw hq1 hq2 he1 hY hi37 hz37 hs37 hb37 hS HLENS HNE
 obtain ⟨W0,hW0,hbx,hX0⟩:=zw w [([.int .i64 0,.int .i64 0,.int .i64 0,.slice none 0 0,.int .i64 0],64)]
 have HW0:Hid (w.alloc (.cells #[.int .i64 0,.int .i64 0,.int .i64 0,.slice none 0 0,.int .i64 0] 64)=W0):=zB hW0
 clear hW0
 have hp:p<w.heap.size:=hB.lt (k:=0) rfl
 have hz0:w.heap.size<W0.heap.size:=hX0.lt (k:=0) rfl
 have hP0:=hB.below hbx
 have HB:=zB hB
 have HL0:=zB hbx
 have HX0:=zB hX0
 have HP0:=zB hP0
 have s3:=hP0.cell 0 rfl 3 rfl
 rw [Nat.add_zero] at s3
 clear hbx hX0 hB hP0
 go_enter Tryz.func44,Tryz.ntmps44
 go_upto_region 1 with fail
 rw [zA HW0]
 go_wp2_with fail
 go_at_call 69
 refine (zA HMK W0 (zA HL0)).mono ?_
 rintro e w1 ⟨B,bcap,rfl,hBt,hb1⟩
 obtain ⟨W2,hW2,hbx,hX2⟩:=zw w1 [([.int .i64 0,.int .i64 0],35)]
 have HW2:Hid (w1.alloc (.cells #[.int .i64 0,.int .i64 0] 35)=W2):=zB hW2
 clear hW2
 have hb02:=hb1.trans (hbx.mono hb1.size)
 have HL2:=zB ((zA HL0).trans (hb02.mono (zA HL0).size))
 have HX2:=zB ((zA HX0).below hb02)
 have HP2:=zB ((zA HP0).below hb02)
 have HBT:=zB (hBt.below hbx)
 clear s3 hb1 hbx hb02 hX2 hBt HX0 HP0 HMK
 go_upto_region 2 with fail
 rw [zA HW2]
 go_wp2_with fail
 go_at_call 70
 refine (zA HOR B bcap W2 (zA HBT)).mono ?_
 rintro e w3 ⟨NA,nc,rfl,hNA,hb3⟩
 have HL3:=zB ((zA HL2).trans (hb3.mono (zA HL2).size))
 have HX3:=zB ((zA HX2).below hb3)
 have HP3:=zB ((zA HP2).below hb3)
 have HNA:=zB hNA
 have hz3:w.heap.size<w3.heap.size:=by have:=(zA HX2).lt (k:=0) rfl;have:=hb3.size;omega
 clear hb3 hNA HX2 HP2 HBT HOR HW2
 go_wp2_with fail
 go_loopw [5,23] (fun v x wr=>∃ k:Nat,k≤fl.length∧x=.int .i64 (k:Int)∧wr.ownsRow w3.heap.size 44 4 v k (zAN ((fl.take k).map S))∧Below w3.heap.size w3 wr) (fun _ x _=>fl.length - (intOf x).toNat)
 case atStart=>exact ⟨0,Nat.zero_le _,rfl,World.ownsRow_nil _ _ _ _,Below.refl _ _⟩
 case round =>
  obtain ⟨k,hk,rfl,ho,hbr⟩:=hrel
  have hfl:=zA HFL
  have hk12:fl.length≤12:=by omega
  by_cases hlt:k<fl.length
  ·have k0:(0:Int)≤(k:Int):=by omega
   have k1:(k:Int)<(fl.length:Int):=by omega
   obtain ⟨b2,off2,rfl,hc2⟩:=(zA HNA) k hlt
   have hc2:=zC hbr hc2
   have hx:fl.getD k 0<n:=zA HLT _ (getD_mem fl k hlt)
   have HNX:Hid (zAN ((fl.take (k+1)).map S)=zAN ((fl.take k).map S)++zAB (S (fl.getD k 0))):=by
    rw [take_one _ k hlt,List.map_append,List.map_singleton,sysCellsL_snoc];exact zB rfl
   have hLr:=(zA HL3).trans (hbr.mono (zA HL3).size)
   have q3:=((zA HP3).below hbr).cell 0 rfl 3 rfl
   rw [Nat.add_zero] at q3
   generalize zAN ((fl.take k).map S)=cs at *
   generalize fl.getD k 0=x at *
   have x0:(0:Int)≤(x:Int):=by omega
   have x1:(x:Int)<(n:Int):=by omega
   obtain ⟨b4,o4,hSA,hsys⟩:=((zA HSL).below hLr) x hx
   obtain ⟨y0,y1,y2,y3,hact⟩:=hsys
   generalize S x=s at *
   have HNS:=zB (sysAt_new wr s)
   have HO:=zB ho
   have HBR:=zB hbr
   subst hSA
   clear ho hbr hact hLr hfl
   go_wp2_with (first
    | (at_builtin;refine zZ _ rfl (.tmp 27) (.tmp 36) 29 rfl w3.heap.size 44 i37 _ 4 48 Tryz.underlying29 (zA HI) (zA HZ) (zA HS) (zA HBB) rfl (by decide) _ k cs rfl ((zA HO).alloc _) ⟨_,0,none⟩ 1 1 (zAB s) rfl rfl (zA HNS) (sysCells_one s) (by unfold maxLen;have:=zA HFL;omega) (by have:=zA HFL;omega) (Nat.le_trans (zA HBR).size (zAs _ _).size) (by omega) ?_;intro g capg w17 ho7 hg7 hw7;have HO7:=zB ho7;have HB7:=zB (((zA HBR).alloc (zA HBR).size _).grown hg7 (Nat.le_trans (zA HBR).size (zAs _ _).size) (fun q hq=>((zA HO).lt q hq).1));clear ho7 hg7 hw7))
   go_roundw
   case rel=>exact ⟨k+1,by omega,by go_num,by rw [zA HNX];exact zA HO7,zA HB7⟩
   case measure=>simp [intOf];omega
  ·obtain rfl:k=fl.length:=by omega
   rw [List.take_length] at ho
   have hlen:(fl.map S).length=n:=by rw [List.length_map,hfl]
   rw [hfl] at ho
   obtain ⟨A6,c6,rfl⟩:=zAb ho
   have hSM:SyssAt wr A6 n (fun k=>S (fl.getD k 0)):=by
    have:=syss_own (l:=fl.map S) (A:=A6) (c:=c6) (by rw [hlen];exact ho) (fun s hs=>by
     obtain ⟨x,hx,rfl⟩:=List.mem_map.1 hs
     obtain ⟨_,_,_,h⟩:=zA HSL x (zA HLT x hx)
     exact h.acts.below ((zA HL3).trans (hbr.mono (zA HL3).size))) (S 0)
    rw [hlen] at this
    intro j hj
    have:=this j hj
    have e:(fl.map S).getD j (S 0)=S (fl.getD j 0):=by
     have h1:j<fl.length:=by omega
     rw [List.getD_eq_getElem?_getD,List.getElem?_map,List.getD_eq_getElem?_getD,List.getElem?_eq_getElem h1];rfl
    simp only [e] at this
    exact this
   have hL6:=(zA HL3).trans (hbr.mono (zA HL3).size)
   have hP6:=(zA HP3).below hbr
   have HX6:=zB ((zA HX3).below hbr)
   have HS6:=zB hSM
   have s0:=hP6.cell 0 rfl 0 rfl
   have s1:=hP6.cell 0 rfl 1 rfl
   rw [Nat.add_zero] at s0 s1
   have HL6:=zB hL6
   have HP6:=zB hP6
   have hz6:w.heap.size<wr.heap.size:=by have:=hbr.size;omega
   clear ho hbr hSM hL6 hlen hP6 hfl HSL HNA HX3 HP3
   obtain ⟨w6,rfl⟩:∃ w6,w6=wr:=⟨_,rfl⟩
   go_wp2_with fail
   go_at_call 17
   refine (zA HAM _ _ _ (zA HL6) (zA HS6)).mono ?_
   rintro e w7 ⟨T7,tc7,G7,gc7,rfl,hN7,hb7⟩
   obtain ⟨W8,hW8,hbx,hX8⟩:=zw w7 [([.slice T7 (zL Y).length tc7,.slice G7 Y.gens.length gc7],28),([.int .i64 e1,.int .i64 at2],35)]
   have HW8:Hid ((w7.alloc (.cells #[.slice T7 (zL Y).length tc7,.slice G7 Y.gens.length gc7] 28)).alloc (.cells #[.int .i64 e1,.int .i64 at2] 35)=W8):=zB hW8
   clear hW8
   have hb78:=hb7.trans (hbx.mono hb7.size)
   have HL8:=zB ((zA HL6).trans (hb78.mono (zA HL6).size))
   have HX8:=zB ((zA HX6).below hb78)
   have HP8:=zB ((zA HP6).below hb78)
   have HN8:=zB (hN7.below hbx)
   have hz8:w7.heap.size+2≤W8.heap.size:=hX8.sz (by simp)
   have hz7:w6.heap.size≤w7.heap.size:=hb7.size
   have q0:=hX8.cell 0 rfl 0 rfl
   have q1:=hX8.cell 0 rfl 1 rfl
   have q2:=hX8.cell 1 rfl 0 rfl
   rw [Nat.add_zero] at q0 q1
   clear s0 s1 hb7 hbx hb78 hN7 hX8 HX6 HP6 HS6 HL6 HAM
   go_upto_region 9 with fail
   rw [zA HW8]
   go_wp2_with fail
   go_at_call 39
   refine (zA HBE T7 tc7 G7 gc7 W8 (zA HP8)).mono ?_
   rintro e w9 ⟨rfl,h1,h2⟩
   obtain ⟨W10,hW10,hbx,hX10⟩:=zw w9 [([.int .i64 e1,.int .i64 0,.int .i64 0,.slice none 0 0,.int .i64 0],64)]
   have HW10:Hid (w9.alloc (.cells #[.int .i64 e1,.int .i64 0,.int .i64 0,.slice none 0 0,.int .i64 0] 64)=W10):=zB hW10
   clear hW10
   have hz9:W8.heap.size≤w9.heap.size:=h2.size
   have HT10:=zB (((Tw.of_below (av:=fun b=>b=p) (zA HL8)).trans h2 (fun _ _ h=>h)).trans (Tw.of_below (av:=fun b=>b=p) hbx) (fun _ _ h=>h))
   have HN9:=zB ((zA HN8).tw h2 (fun g hg=>by subst hg;omega))
   have HV10:=zB (Tw.of_below (av:=fun b=>b=w.heap.size) hbx)
   have HP10:=zB (h1.below hbx)
   have HX10:=zB (((zA HX8).tw h2 (fun k hk=>by simp at hk;subst hk;omega)).below hbx)
   have HZ10:=zB hX10
   have y0:=hX10.cell 0 rfl 0 rfl
   have y1:=hX10.cell 0 rfl 1 rfl
   have y2:=hX10.cell 0 rfl 2 rfl
   have y3:=hX10.cell 0 rfl 3 rfl
   have y4:=hX10.cell 0 rfl 4 rfl
   rw [Nat.add_zero] at y0 y1 y2 y3 y4
   clear q0 q1 q2 h1 h2 hbx hX10 HX8 HP8 HL8 HN8 HBE
   go_upto_region 10 with fail
   rw [zA HW10]
   by_cases he:e1=0
   ·subst he
    clear y4
    go_wp2_with (first
     | (refine zs rfl 3 (.tmp 59) (.tmp 58) rfl w9.heap.size 4 (.int .i64 (bs.length:Int)) rfl rfl rfl sz3 (zBS ((zA HZ10).there 0 rfl 5 rfl) 4 1 (by omega)) ?_;intro W11 hW11;have hZ11:=(zA HZ10).part 0 rfl 4 [.int .i64 (bs.length:Int)] (by simp);rw [Nat.add_zero] at hZ11;have hZ11:=(show Bxs w9.heap.size [([.int .i64 0,.int .i64 0,.int .i64 0,.slice none 0 0,.int .i64 (bs.length:Int)],64)] W11 by rw [hW11];exact hZ11);clear y0 y1 y2 y3;have y0:=hZ11.cell 0 rfl 0 rfl;have y1:=hZ11.cell 0 rfl 1 rfl;have y2:=hZ11.cell 0 rfl 2 rfl;have y3:=hZ11.cell 0 rfl 3 rfl;have y4:=hZ11.cell 0 rfl 4 rfl;rw [Nat.add_zero] at y0 y1 y2 y3 y4;have HT11:=zB ((zA HT10).sets (b:=w9.heap.size) (o:=4) (vs:=[.int .i64 (bs.length:Int)]) (.inr (by omega)));have HV11:=zB ((zA HV10).sets (b:=w9.heap.size) (o:=4) (vs:=[.int .i64 (bs.length:Int)]) (.inr (Nat.le_refl _)));have HP11:=zB ((zA HP10).turn (cb:=w9.heap.size) (o:=4) (vs:=[.int .i64 (bs.length:Int)]) (.inr (by simp only [List.length_cons,List.length_nil];omega)));have HX11:=zB ((zA HX10).turn (cb:=w9.heap.size) (o:=4) (vs:=[.int .i64 (bs.length:Int)]) (.inr (by simp only [List.length_cons,List.length_nil];omega)));replace HT11:=zB (show Tw (fun b=>b=p) w W11 by rw [hW11];exact zA HT11);replace HV11:=zB (show Tw (fun b=>b=w.heap.size) w9 W11 by rw [hW11];exact zA HV11);replace HP11:=zB (show Bxs p [(if (0:Int)=0 then [.slice T7 (zL Y).length tc7,.slice G7 Y.gens.length gc7,u2,.slice SA n sc,u4] else [.slice T (zL X).length tc,.slice G X.gens.length gc,u2,.slice SA n sc,u4],82)] W11 by rw [hW11];exact zA HP11);replace HX11:=zB (show Bxs w.heap.size [([.int .i64 0,.int .i64 0,.int .i64 0,.slice none 0 0,.int .i64 0],64)] W11 by rw [hW11];exact zA HX11);clear hW11 hZ11)
     | (refine zH rfl 64 (.tmp 2) (.tmp 60) rfl w.heap.size 0 [.int .i64 0,.int .i64 0,.int .i64 0,.slice none 0 0,.int .i64 (bs.length:Int)] rfl rfl (by simp [Value.oneCell']) sz64 ((zA HX11).there 0 rfl 5 rfl) ?_;intro W12 hW12;have HX12:=zB ((zA HX11).give 0 rfl [.int .i64 0,.int .i64 0,.int .i64 0,.slice none 0 0,.int .i64 (bs.length:Int)] rfl);have HT12:=zB ((zA HT11).sets (b:=w.heap.size) (o:=0) (vs:=[.int .i64 0,.int .i64 0,.int .i64 0,.slice none 0 0,.int .i64 (bs.length:Int)]) (.inr (Nat.le_refl _)));have HV12:=zB ((zA HV11).sets (b:=w.heap.size) (o:=0) (vs:=[.int .i64 0,.int .i64 0,.int .i64 0,.slice none 0 0,.int .i64 (bs.length:Int)]) (.inl rfl));have HP12:=zB ((zA HP11).turn (cb:=w.heap.size) (o:=0) (vs:=[.int .i64 0,.int .i64 0,.int .i64 0,.slice none 0 0,.int .i64 (bs.length:Int)]) (.inr (by simp only [List.length_cons,List.length_nil];omega)));rw [←hW12] at HT12 HV12 HP12;rw [Nat.add_zero,←hW12] at HX12;clear hW12))
    have r0:=(zA HX12).cell 0 rfl 0 rfl
    have r1:=(zA HX12).cell 0 rfl 1 rfl
    have r2:=(zA HX12).cell 0 rfl 2 rfl
    have r3:=(zA HX12).cell 0 rfl 3 rfl
    have r4:=(zA HX12).cell 0 rfl 4 rfl
    rw [Nat.add_zero] at r0 r1 r2 r3 r4
    refine bodyPost_ret (v:=.agg #[.int .i64 0,.int .i64 0,.int .i64 0,.slice none 0 0,.int .i64 (bs.length:Int)]) (by simp [results,Tryz.results44,go_sem,r0,r1,r2,r3,r4]) rfl ⟨by simp,?_⟩
    have hP12:=zA HP12
    unfold Bec
    rw [if_pos rfl]
    simp only [if_true] at hP12
    exact ⟨_,_,_,_,hP12,((zA HN9).tw (zA HV12) (fun g hg=>by subst hg;omega)).le (by omega),zA HT12⟩
   ·have hne:(e1 == 0)=false:=by simpa using he
    go_wp2_with ((refine zH rfl 64 (.tmp 2) (.tmp 60) rfl w.heap.size 0 [.int .i64 e1,.int .i64 0,.int .i64 0,.slice none 0 0,.int .i64 0] rfl rfl (by simp [Value.oneCell']) sz64 ((zA HX10).there 0 rfl 5 rfl) ?_;intro W12 hW12;have HX12:=zB ((zA HX10).give 0 rfl [.int .i64 e1,.int .i64 0,.int .i64 0,.slice none 0 0,.int .i64 0] rfl);have HT12:=zB ((zA HT10).sets (b:=w.heap.size) (o:=0) (vs:=[.int .i64 e1,.int .i64 0,.int .i64 0,.slice none 0 0,.int .i64 0]) (.inr (Nat.le_refl _)));have HV12:=zB ((zA HV10).sets (b:=w.heap.size) (o:=0) (vs:=[.int .i64 e1,.int .i64 0,.int .i64 0,.slice none 0 0,.int .i64 0]) (.inl rfl));have HP12:=zB ((zA HP10).turn (cb:=w.heap.size) (o:=0) (vs:=[.int .i64 e1,.int .i64 0,.int .i64 0,.slice none 0 0,.int .i64 0]) (.inr (by simp only [List.length_cons,List.length_nil];omega)));rw [←hW12] at HT12 HV12 HP12;rw [Nat.add_zero,←hW12] at HX12;clear hW12))
    have r0:=(zA HX12).cell 0 rfl 0 rfl
    have r1:=(zA HX12).cell 0 rfl 1 rfl
    have r2:=(zA HX12).cell 0 rfl 2 rfl
    have r3:=(zA HX12).cell 0 rfl 3 rfl
    have r4:=(zA HX12).cell 0 rfl 4 rfl
    rw [Nat.add_zero] at r0 r1 r2 r3 r4
    refine bodyPost_ret (v:=.agg #[.int .i64 e1,.int .i64 0,.int .i64 0,.slice none 0 0,.int .i64 0]) (by simp [results,Tryz.results44,go_sem,r0,r1,r2,r3,r4]) rfl ⟨by simp [he],?_⟩
    have hP12:=zA HP12
    unfold Bec
    rw [if_neg he] at hP12 ⊢
    exact tw_same (zA HT12) (zA HB) hP12
end Go.Proofs.YtnbleebilmghcacGreat
