/- The law TopDoubles. -/
import Derived.Test.YtnbleebilmghcacGreatYTpFun
import Derived.Test.YtnbleebilmghcacGreatYTdMath
set_option linter.all false
set_option maxHeartbeats 2000000
set_option maxRecDepth 8000
namespace Go.Proofs.YtnbleebilmghcacGreat
open Go Go.RowKit
attribute [local go_sem ↓] Go.wp_at_zero Go.wp_at_succ
theorem tdbl_lo (tk:Int) (h:tk<0) (w:World) :
  Calls Tryz.prog 10 #[.int .i64 tk] w fun e w'=>e=.returned (.bool true)∧Below w.heap.size w w':=by
 have d0:decide (tk<0)=true:=decide_eq_true h
 clear h
 go_enter Tryz.func10,Tryz.ntmps10
 go_wp2_with fail
 go_at_call 20
 refine (alive8_any w).mono ?_
 rintro e w0 ⟨rfl,hb0⟩
 have HL0:=zB hb0
 clear hb0
 go_wp2
 go_ret
 exact ⟨rfl,zA HL0⟩
theorem tdbl_hi (tk:Int) (h:10<tk) (w:World) :
  Calls Tryz.prog 10 #[.int .i64 tk] w fun e w'=>e=.returned (.bool true)∧Below w.heap.size w w':=by
 have d0:decide (tk<0)=false:=decide_eq_false (by omega)
 have d1:decide (10<tk)=true:=decide_eq_true h
 clear h
 go_enter Tryz.func10,Tryz.ntmps10
 go_wp2_with fail
 go_at_call 20
 refine (alive8_any w).mono ?_
 rintro e w0 ⟨rfl,hb0⟩
 have HL0:=zB hb0
 clear hb0
 go_wp2
 go_ret
 exact ⟨rfl,zA HL0⟩
theorem tdbl_ok (t:Nat) (ht:t≤10) (w:World) :
  Calls Tryz.prog 10 #[.int .i64 (t:Int)] w fun e w'=>e=.returned (.bool true)∧Below w.heap.size w w':=by
 have d0:decide ((t:Int)<0)=false:=decide_eq_false (by omega)
 have d1:decide ((10:Int)<(t:Int))=false:=decide_eq_false (by omega)
 obtain ⟨i46,hi46,hz46,hs46,hb46⟩:=info_parts info46
 have HI:=zB hi46
 have HZ:=zB hz46
 have HS:=zB hs46
 have HBB:=zB hb46
 have HSP:=zB (tspawn_any 1 5)
 have HAK:=zB (task_any 1 0)
 have HAL:=zB tall_any
 clear hi46 hz46 hs46 hb46
 go_enter Tryz.func10,Tryz.ntmps10
 go_wp2_with fail
 go_at_call 20
 refine (alive8_any w).mono ?_
 rintro e w0 ⟨rfl,hb0⟩
 go_wp2_with fail
 go_at_call 21
 refine (zA HSP w0).mono ?_
 rintro e w2 ⟨rfl,hb2⟩
 obtain ⟨W3,hW3,hbx,hX3⟩:=zw w2 [([.int .i64 7,.int .i64 1,.int .i64 0,.int .i64 5],71)]
 have HW3:Hid (w2.alloc (.cells #[.int .i64 7,.int .i64 1,.int .i64 0,.int .i64 5] 71)=W3):=zB hW3
 clear hW3
 have hL3:=(hb0.trans (hb2.mono hb0.size)).trans (hbx.mono (hb0.trans (hb2.mono hb0.size)).size)
 have HA3:=zB hX3
 have HL3:=zB hL3
 have HSY:=zB (tsys_any 1 (some ⟨w2.heap.size,0,none⟩) 1 1)
 clear hb0 hb2 hbx hX3 hL3 HSP
 go_wp2_with fail
 go_at_call 22
 rw [zA HW3]
 refine (zA HSY W3).mono ?_
 rintro e w4 ⟨rfl,hb4⟩
 obtain ⟨W5,hW5,hbx,hX5⟩:=zw w4 [([.int .i64 1,.int .i64 1,.int .i64 0,.int .i64 5,.int .i64 0,.int .i64 0,.int .i64 0,.int .i64 0,.int .i64 0,.slice none 0 0,.int .i64 0,.int .i64 0,.int .i64 5,.int .i64 0,.int .i64 0,.int .i64 0,.int .i64 0,.int .i64 0,.int .i64 0,.int .i64 1,.int .i64 0,.slice (some ⟨w2.heap.size,0,none⟩) 1 1,.int .i64 0,.int .i64 0],46)]
 have HW5:Hid (w4.alloc (.cells #[.int .i64 1,.int .i64 1,.int .i64 0,.int .i64 5,.int .i64 0,.int .i64 0,.int .i64 0,.int .i64 0,.int .i64 0,.slice none 0 0,.int .i64 0,.int .i64 0,.int .i64 5,.int .i64 0,.int .i64 0,.int .i64 0,.int .i64 0,.int .i64 0,.int .i64 0,.int .i64 1,.int .i64 0,.slice (some ⟨w2.heap.size,0,none⟩) 1 1,.int .i64 0,.int .i64 0] 46)=W5):=zB hW5
 clear hW5
 have hb45:=hb4.trans (hbx.mono hb4.size)
 have HA5:=zB ((zA HA3).below hb45)
 have HL5:=zB ((zA HL3).trans (hb45.mono (zA HL3).size))
 have HO5:Hid (W5.ownsRow w4.heap.size 46 12 (.slice (some ⟨w4.heap.size,0,none⟩) 2 2) 2 (zAj zx (dblL 0 w2.heap.size))):=zB ⟨rfl,.inr ⟨w4.heap.size,2,_,rfl,Nat.le_refl _,by have:=hX5 0 _ _ rfl;rw [Nat.add_zero] at this;exact this,Nat.le_refl _,by unfold maxLen;omega,rfl,rfl⟩⟩
 have hz5:w4.heap.size<W5.heap.size:=hX5.lt (k:=0) rfl
 have hga:w2.heap.size+1≤w4.heap.size:=Nat.le_trans ((zA HA3).lt (k:=0) rfl) hb4.size
 have hw4:w.heap.size≤w4.heap.size:=Nat.le_trans (zA HL3).size hb4.size
 generalize w2.heap.size=ga at *
 clear hb4 hbx hb45 hX5 HA3 HL3 HSY
 go_upto_region 6 with fail
 rw [zA HW5]
 go_wp2_with fail
 go_loopw [3,24] (fun v x wr=>∃ k:Nat,k≤t∧x=.int .i64 (k:Int)∧wr.ownsRow w4.heap.size 46 12 v (2+k) (zAj zx (dblL k ga))∧Below w4.heap.size W5 wr) (fun _ x _=>t - (intOf x).toNat)
 case atStart=>exact ⟨0,Nat.zero_le _,rfl,zA HO5,Below.refl _ _⟩
 case round =>
  obtain ⟨k,hk,rfl,ho,hbr⟩:=hrel
  by_cases hlt:k<t
  ·have k1:(k:Int)<(t:Int):=by omega
   have HO:=zB ho
   have HBR:=zB hbr
   have HNS:=zB (do_new wr tickD)
   clear ho hbr
   go_wp2_with (first
    | (at_builtin;refine zZ _ rfl (.tmp 26) (.tmp 28) 23 rfl w4.heap.size 46 i46 _ 12 112 Tryz.underlying23 (zA HI) (zA HZ) (zA HS) (zA HBB) rfl (by decide) _ (2+k) (zAj zx (dblL k ga)) rfl ((zA HO).alloc _) ⟨_,0,none⟩ 1 1 (zx tickD) rfl rfl (zA HNS) (zBD _) (by unfold maxLen;omega) (by omega) (Nat.le_trans (Nat.le_of_lt hz5) (Nat.le_trans (zA HBR).size (zAs _ _).size)) (by omega) ?_;intro g4 c4 w6 ho4 hg4 hw4;have HB6:=zB (((zA HBR).alloc (Nat.le_trans (Nat.le_of_lt hz5) (zA HBR).size) _).grown hg4 (Nat.le_trans (Nat.le_of_lt hz5) (Nat.le_trans (zA HBR).size (zAs _ _).size)) (fun q hq=>((zA HO).lt q hq).1));have HO6:=zB ho4;clear ho4 hg4 hw4))
   go_roundw
   case rel=>exact ⟨k+1,by omega,by go_num,by rw [dblL_succ,zBY,show 2+(k+1)=2+k+1 by omega];exact zA HO6,zA HB6⟩
   case measure=>simp [intOf];omega
  ·obtain rfl:k=t:=by omega
   obtain ⟨A6,c6,rfl⟩:=zAb ho
   obtain ⟨w6,rfl⟩:∃ w6,w6=wr:=⟨_,rfl⟩
   have HO:=zB ho
   have HOX:=zB (fun b hb=>(ho.lt b hb).2)
   have HBR:=zB hbr
   have hz6:w4.heap.size<w6.heap.size:=Nat.lt_of_lt_of_le hz5 hbr.size
   have dk:decide ((k:Int)<(k:Int))=false:=decide_eq_false (by omega)
   clear ho hbr
   go_wp2_with fail
   go_at_call 23
   refine (zA HAL w6).mono ?_
   rintro e w7 ⟨rfl,hM7,hb7⟩
   go_wp2_with fail
   go_at_call 25
   refine (zA HAK w7).mono ?_
   rintro e w8 ⟨rfl,hb8⟩
   have hb68:=hb7.trans (hb8.mono hb7.size)
   have HB8:=zB ((zA HBR).trans (hb68.mono (Nat.le_of_lt hz6)))
   have HO8:=zB (zb (zA HO) hb68)
   have HM8:=zB (hM7.below hb8)
   have hz8:w6.heap.size<w8.heap.size:=Nat.lt_of_lt_of_le (hM7.lt (k:=0) rfl) hb8.size
   have HNS:=zB (do_new w8 (akD 1 0))
   clear hb7 hb8 hb68 hM7 HAL HAK HO HBR
   go_wp2_with (first
    | (at_builtin;refine zZ _ rfl (.tmp 33) (.tmp 35) 23 rfl w4.heap.size 46 i46 _ 12 112 Tryz.underlying23 (zA HI) (zA HZ) (zA HS) (zA HBB) rfl (by decide) _ (2+k) (zAj zx (dblL k ga)) rfl ((zA HO8).alloc _) ⟨_,0,none⟩ 1 1 (zx (akD 1 0)) rfl rfl (zA HNS) (zBD _) (by unfold maxLen;omega) (by omega) (Nat.le_trans (Nat.le_of_lt (Nat.lt_trans hz6 hz8)) (zAs _ _).size) (by omega) ?_;intro g9 c9 w9 ho9 hg9 hw9;have HB9:=zB (((zA HB8).alloc (Nat.le_of_lt (Nat.lt_trans hz6 hz8)) _).grown hg9 (Nat.le_trans (Nat.le_of_lt (Nat.lt_trans hz6 hz8)) (zAs _ _).size) (fun q hq=>((zA HO8).lt q hq).1));have HO9:=zB ho9;have HT9:=zB ((Tw.of_below (av:=fun b=>(Value.slice A6 (2+k) c6).ownBlock=some b) (zAs w8 (.cells (zx (akD 1 0)).toArray 46))).trans (Tw.of_grown (av:=fun b=>(Value.slice A6 (2+k) c6).ownBlock=some b) hg9 (fun q hq=>hq)) (fun _ _ h=>h));clear ho9 hg9 hw9))
   have hLL:(dblL k ga++[akD 1 0]).length=2+k+1:=by rw [List.length_append,zCo];rfl
   have hM9:=all_mods ((zA HM8).tw (zA HT9) (fun q hq e=>by
    simp only [List.length_cons,List.length_nil] at hq
    have:=zA HOX _ e
    omega))
   have hA9:Bxs ga [(zAm ⟨7,1,0,5⟩,71)] w9:=(zA HA5).keep ((zA HB9).mono hga)
   have hD9:DosAt w9 (some ⟨g9,0,none⟩) (dblL k ga++[akD 1 0]):=dos_own (c:=c9) (by rw [hLL,zBY];exact zA HO9) (fun d hd=>by
    rcases List.mem_append.1 hd with hd | hd
    ·rcases List.mem_append.1 hd with hd | hd
     ·simp only [List.mem_cons,List.not_mem_nil,or_false] at hd
      rcases hd with rfl | rfl
      ·exact zCq _
      ·exact acts_one hA9
     ·obtain ⟨_,rfl⟩:=List.mem_replicate.1 hd
      exact zCq _
    ·rw [List.mem_singleton] at hd;subst hd;exact zCq _)
   have hPL:=zBU (some ⟨w6.heap.size,0,none⟩) 1 mAll (some ⟨g9,0,none⟩) c9 _ w9 hM9 hD9 (by decide +kernel) (by rw [hLL];omega)
   rw [hLL] at hPL
   have HL9:=zB ((zA HL5).trans ((zA HB9).mono hw4))
   have HANS:=zB (fun i hi=>dbl_ans k ga i hi)
   have HLAST:=zB (dbl_last k ga)
   have hplen:(zAH mAll (dblL k ga++[akD 1 0])).1.length=2+k+1:=by
    have:=zBV mAll (dblL k ga++[akD 1 0]) ([],h0)
    rw [hLL] at this
    unfold zAH
    simpa using this
   generalize zAH mAll (dblL k ga++[akD 1 0])=pf at *
   have HPL:=zB hPL
   have HPN:=zB hplen
   clear hM9 hA9 hD9 hPL hLL hplen HO9 HO8 HM8 HB8 HB9 HT9 HNS
   go_at_call 13
   refine (zA HPL).mono ?_
   rintro e w10 ⟨T,tc,G,gc,M',mc',SA,sc,CA,cc,ss,la,rfl,_,_,_,_,hAN,hla,hb10⟩
   obtain ⟨W11,hW11,hbx,hX11⟩:=zw w10 [([.slice T (zL pf.2.X).length tc,.slice G pf.2.X.gens.length gc,.slice M' mAll.length mc',.slice SA ss.length sc],31),([.int .i64 0,.int .i64 0],35)]
   have HW11:Hid ((w10.alloc (.cells #[.slice T (zL pf.2.X).length tc,.slice G pf.2.X.gens.length gc,.slice M' mAll.length mc',.slice SA ss.length sc] 31)).alloc (.cells #[.int .i64 0,.int .i64 0] 35)=W11):=zB hW11
   clear hW11
   have HL11:=zB ((zA HL9).trans ((hb10.trans (hbx.mono hb10.size)).mono (zA HL9).size))
   have hll:la.length=2+k+1:=by
    have:=congrArg List.length hla
    rw [List.length_map,zA HPN] at this
    exact this
   have HGET:Hid (∀ j x,pf.1[j]?=some x→∃ y:AnsM,la[j]?=some y∧y.1=x):=zB (fun j x hx=>by
    rw [←hla,List.getElem?_map] at hx
    cases h:la[j]? with
    | none=>rw [h] at hx;cases hx
    | some y=>rw [h] at hx;exact ⟨y,h,Option.some.inj hx⟩)
   have HAN:=zB (hAN.below hbx)
   have HX11:=zB hX11
   rw [hll]
   clear hb10 hbx hX11 hAN hla hll HPL HPN HL9
   go_upto_region 11 with fail
   rw [zA HW11]
   go_wp2_with fail
   go_loopw [7,42] (fun v x wr=>∃ i:Nat,i≤k∧x=.int .i64 (i:Int)∧v=.int .i64 (dN i:Int)∧wr=W11) (fun _ x _=>k - (intOf x).toNat)
   case atStart=>exact ⟨0,Nat.zero_le _,rfl,rfl,rfl⟩
   case round =>
    obtain ⟨i,hi,rfl,rfl,rfl⟩:=hrel
    obtain ⟨hd1,hd2⟩:=dN_le i
    by_cases hlt:i<k
    ·have i0:(0:Int)≤(i:Int):=by omega
     have i1:(i:Int)<(k:Int):=by omega
     obtain ⟨x,hx,hxe⟩:=zA HANS i hlt
     obtain ⟨y,hy,rfl⟩:=zA HGET _ _ hx
     obtain ⟨b,off,hCA,hc⟩:=(zA HAN).at_ _ _ hy
     have y0:=hc 0 _ rfl
     rw [hxe,Nat.add_zero] at y0
     have e2:IntKind.i64.wrap (2+(i:Int))=((2+i:Nat):Int):=by rw [i64_id (by omega) (by omega)];omega
     have e3:IntKind.i64.wrap (2*(dN i:Int))=2*(dN i:Int):=i64_id (by omega) (by omega)
     have j0:(0:Int)≤((2+i:Nat):Int):=by omega
     have j1:((2+i:Nat):Int)<((2+k+1:Nat):Int):=by omega
     have hrm:=dN_room i
     have HSC:=zB (dN_succ i)
     subst hCA
     clear hc hy hx hxe
     by_cases h5:i<5
     ·have d6:decide (2*(dN i:Int)≤60)=true:=decide_eq_true (hrm.2 h5)
      rw [if_pos h5] at y0
      have HD:=zB (show dN (i+1)=2*dN i by rw [zA HSC,if_pos h5])
      clear hrm h5 HSC
      go_wp2
      go_roundw
      case rel=>exact ⟨i+1,by omega,by go_num,by rw [zA HD];go_num,by first | rfl | trivial⟩
      case measure=>simp [intOf];omega
     ·have d6:decide (2*(dN i:Int)≤60)=false:=decide_eq_false (fun h=>h5 (hrm.1 h))
      rw [if_neg h5] at y0
      have HD:=zB (show dN (i+1)=dN i by rw [zA HSC,if_neg h5])
      clear hrm h5 HSC
      go_wp2
      go_roundw
      case rel=>exact ⟨i+1,by omega,by go_num,by rw [zA HD],by first | rfl | trivial⟩
      case measure=>simp [intOf];omega
    ·obtain rfl:i=k:=by omega
     obtain ⟨x,hx,hx1,hx2⟩:=zA HLAST
     obtain ⟨y,hy,rfl⟩:=zA HGET _ _ hx
     obtain ⟨b,off,hCA,hc⟩:=(zA HAN).at_ _ _ hy
     have y3:=hc 3 _ rfl
     have y4:=hc 4 _ rfl
     rw [hx1] at y3
     rw [hx2] at y4
     have q0:=(zA HX11).cell 1 rfl 0 rfl
     have e5:IntKind.i64.wrap (5*(dN i:Int))=5*(dN i:Int):=i64_id (by omega) (by omega)
     have j0:(0:Int)≤((2+i:Nat):Int):=by omega
     have j1:((2+i:Nat):Int)<((2+i+1:Nat):Int):=by omega
     have j2:(2:Int)+(i:Int)<2+(i:Int)+1:=by omega
     subst hCA
     clear hc hy hx hx1 hx2
     go_wp2
     go_ret
     exact ⟨rfl,zA HL11⟩
theorem tdbl_law (tk:Int) (w:World) :
  Calls Tryz.prog 10 #[.int .i64 tk] w fun e w'=>e=.returned (.bool true)∧Below w.heap.size w w':=by
 by_cases h:tk<0
 ·exact tdbl_lo tk h w
 ·by_cases h2:10<tk
  ·exact tdbl_hi tk h2 w
  ·obtain ⟨t,rfl⟩:∃ t:Nat,tk=(t:Int):=⟨tk.toNat,by omega⟩
   exact tdbl_ok t (by omega) w
end Go.Proofs.YtnbleebilmghcacGreat
