/- The law HouseMods. -/
import Derived.Test.YtnbleebilmghcacGreatMTkOwn
import Derived.Test.YtnbleebilmghcacGreatMHmMath
import Derived.Test.YtnbleebilmghcacGreatMHmR15
import Derived.Test.YtnbleebilmghcacGreatMRnWrites0
set_option linter.all false
set_option maxHeartbeats 8000000
set_option maxRecDepth 8000
namespace Go.Proofs.YtnbleebilmghcacGreat
open Go Go.RowKit
attribute [local go_sem ↓] Go.wp_at_zero Go.wp_at_succ
theorem size51h:(Tryz.prog.info? 51).map (·.size)=some 2:=by kernel_rfl
theorem eqFa (a b:Int) (w:World):(Op.equalIn 10000 35 (.agg #[.int .i64 a,.int .i64 b]) (.agg #[.int .i64 a,.int .i64 b])).run Tryz.prog w=.ok true w:=by
 have hS:Tryz.prog.underlying 35=some (.struct (Tryz.prog.fieldsOf 35)):=by kernel_rfl
 rw [show (10000:Nat)=9999+1 from rfl,run_equalIn_agg w 9999 35 _ _ hS (by kernel_rfl)]
 simp only [Program.fieldsOf,Tryz.underlying35]
 go_simp
theorem eqF (a b:Int) (w:World):(binOp .eql 35 (.agg #[.int .i64 a,.int .i64 b]) (.agg #[.int .i64 a,.int .i64 b])).run Tryz.prog w=.ok (.bool true) w:=by
 rw [run_eql_struct,eqFa];rfl
theorem dos_len (l:List DoI):(l++[tickD]).length=l.length+1:=by simp
theorem hmods_many (M:Option Addr) (mc:Nat) (mods:List ModI) (LD:Option Addr) (lc:Nat) (l:List DoI) (w:World) (hM:GAt zj 3 w M mods) (hl:80≤l.length) :
  Calls Tryz.prog 3 #[.slice M mods.length mc,.slice LD l.length lc] w fun e w'=>e=.returned (.bool true)∧Below w.heap.size w w':=by
 have d80:decide ((80:Int)≤(l.length:Int))=true:=decide_eq_true (by omega)
 clear hM hl
 go_enter Tryz.func3,Tryz.ntmps3
 go_wp2_with fail
 go_at_call 12
 refine (zBo w).mono ?_
 rintro e w0 ⟨rfl,hb0⟩
 have HL0:=zB hb0
 clear hb0
 go_wp2
 go_ret
 exact ⟨rfl,zA HL0⟩
theorem hmods_wrong (M:Option Addr) (mc:Nat) (mods:List ModI) (LD:Option Addr) (lc:Nat) (l:List DoI) (w:World) (hM:GAt zj 3 w M mods) (hL:DosAt w LD l) (hl:l.length<80) (hw:(wmF mods).1≠0) :
  Calls Tryz.prog 3 #[.slice M mods.length mc,.slice LD l.length lc] w fun e w'=>e=.returned (.bool true)∧Below w.heap.size w w':=by
 have hPL:=fun W (hb:Below w.heap.size w W)=>play_wrong M mc mods LD lc l W (hM.below hb) hw
 have hPK:=fun A c W (hb:Below w.heap.size w W)=>play_wrong M mc mods A c (l++[tickD]) W (hM.below hb) hw
 simp only [dos_len] at hPK
 obtain ⟨f0,hf0⟩:∃ f0,f0=(wmF mods).1:=⟨_,rfl⟩
 generalize (wmF mods).2=f1 at *
 rw [←hf0] at hPL hPK hw
 have hne:(f0 == 0)=false:=by simpa using hw
 have hne2:(f0 != 0)=true:=by simpa using hw
 have HPL:=zB hPL
 have HPK:=zB hPK
 have HDL:=zB hL
 have hq:=eqF f0 f1
 have HQ:=zB hq
 clear hPL hPK hM hL hw hf0 hq
 obtain ⟨i46,hi46,hz46,hs46,hb46⟩:=info_parts info46
 have HI:=zB hi46
 have HZ:=zB hz46
 have HS:=zB hs46
 have HBB:=zB hb46
 clear hi46 hz46 hs46 hb46
 have d80:decide ((80:Int)≤(l.length:Int))=false:=decide_eq_false (by omega)
 go_enter Tryz.func3,Tryz.ntmps3
 go_wp2_with fail
 go_at_call 12
 refine (zBo w).mono ?_
 rintro e w0 ⟨rfl,hb0⟩
 have HL0:=zB hb0
 clear hb0
 go_wp2_with fail
 go_at_call 13
 refine (zA HPL w0 (zA HL0)).mono ?_
 rintro e w1 ⟨rfl,hb1⟩
 obtain ⟨W2,hW2,hbx,hX2⟩:=zx w1 [([.slice none 0 0,.slice none 0 0,.slice none 0 0,.slice none 0 0],31),([.int .i64 f0,.int .i64 f1],35)]
 have HW2:Hid ((w1.alloc (.cells #[.slice none 0 0,.slice none 0 0,.slice none 0 0,.slice none 0 0] 31)).alloc (.cells #[.int .i64 f0,.int .i64 f1] 35)=W2):=zB hW2
 clear hW2
 have HL2:=zB ((zA HL0).trans ((hb1.trans (hbx.mono hb1.size)).mono (zA HL0).size))
 have HX2:=zB hX2
 clear hb1 hbx hX2
 go_upto_region 6 with fail
 rw [zA HW2]
 have HE2:=zB (zAo W2 (.cells #[] 46))
 have HCP:=zB (((zA HDL).below ((zA HL2).trans ((zA HE2).mono (zA HL2).size))).at_.copies zBS zCo (by decide))
 go_wp2_with (first
  | (at_builtin;refine wpList_appendC _ rfl (.tmp 35) (.tmp 36) 23 rfl W2.heap.size 46 i46 _ 12 112 Tryz.underlying23 (zA HI) (zA HZ) (zA HS) (zA HBB) rfl (by decide) W2.heap.size rfl (own_empty W2 46 12) LD l.length lc (zAl zAK l) rfl (zA HCP) (by unfold maxLen;omega) (by omega) (zA HE2).size ?_;intro v3 w3 ho3 hg3 hw3;obtain ⟨A3,c3,rfl⟩:=zAh ho3;have HB3:=zB ((zA HE2).grown hg3 (zA HE2).size (fun k hk=>by have hk:=Option.some.inj hk;omega));have HO3:=zB ho3;have HNS:=zB (do_new w3 tickD);clear ho3 hg3 hw3)
  | (at_builtin;refine zi _ rfl (.tmp 37) (.tmp 39) 23 rfl W2.heap.size 46 i46 _ 12 112 Tryz.underlying23 (zA HI) (zA HZ) (zA HS) (zA HBB) rfl (by decide) _ l.length (zAl zAK l) rfl ((zA HO3).alloc _) ⟨_,0,none⟩ 1 1 (zAK tickD) rfl rfl (zA HNS) (zCo _) (by unfold maxLen;omega) (by omega) (Nat.le_trans (zA HB3).size (zAo _ _).size) (by omega) ?_;intro g4 c4 w4 ho4 hg4 hw4;have HB4:=zB (((zA HB3).alloc (zA HB3).size _).grown hg4 (Nat.le_trans (zA HB3).size (zAo _ _).size) (fun q hq=>((zA HO3).lt q hq).1));have HO4:=zB ho4;clear ho4 hg4 hw4))
 have hL4:=(zA HL2).trans ((zA HB4).mono (zA HL2).size)
 have hD4:DosAt w4 (some ⟨g4,0,none⟩) (l++[tickD]):=dos_own (c:=c4) (by rw [dos_len,flatC_snoc];exact zA HO4) (fun d hd=>by
  rcases List.mem_append.1 hd with hd | hd
  ·exact ((zA HDL).acts d hd).below hL4
  ·rw [List.mem_singleton] at hd;subst hd;exact acts_dS _)
 have HL4:=zB hL4
 have HD4:=zB hD4
 clear hL4 hD4 HCP HO3 HB3 HO4 HE2 HNS
 go_at_call 13
 refine (zA HPK _ _ w4 (zA HL4)).mono ?_
 rintro e w5 ⟨rfl,hb5⟩
 obtain ⟨W6,hW6,hbx,hX6⟩:=zx w5 [([.slice none 0 0,.slice none 0 0,.slice none 0 0,.slice none 0 0],31),([.int .i64 f0,.int .i64 f1],35)]
 have HW6:Hid ((w5.alloc (.cells #[.slice none 0 0,.slice none 0 0,.slice none 0 0,.slice none 0 0] 31)).alloc (.cells #[.int .i64 f0,.int .i64 f1] 35)=W6):=zB hW6
 clear hW6
 have hb56:=hb5.trans (hbx.mono hb5.size)
 have hb46:=(zA HB4).trans (hb56.mono (zA HB4).size)
 have hX26:=(zA HX2).below hb46
 have HL6:=zB ((zA HL4).trans (hb56.mono (zA HL4).size))
 have q0:=hX26.cell 1 rfl 0 rfl
 have q1:=hX26.cell 1 rfl 1 rfl
 have p0:=hX6.cell 1 rfl 0 rfl
 have p1:=hX6.cell 1 rfl 1 rfl
 clear hb5 hbx hb56 hb46 hX26 hX6
 go_upto_region 7 with fail
 rw [zA HW6]
 have hq:=zA HQ
 go_wp2
 go_ret
 exact ⟨rfl,zA HL6⟩
theorem hmods_ok (M:Option Addr) (mc:Nat) (mods:List ModI) (LD:Option Addr) (lc:Nat) (l:List DoI) (w:World) (hM:GAt zj 3 w M mods) (hL:DosAt w LD l) (hl:l.length<80) (hw:wmF mods=(0,0)) :
  Calls Tryz.prog 3 #[.slice M mods.length mc,.slice LD l.length lc] w fun e w'=>e=.returned (.bool true)∧Below w.heap.size w w':=by
 have hPL:=fun W (hb:Below w.heap.size w W)=>zCQ M mc mods LD lc l W (hM.below hb) (hL.below hb) hw (by omega)
 have hPK:=fun A c W (hb:Below w.heap.size w W) (hD:DosAt W A (l++[tickD]))=>zCQ M mc mods A c (l++[tickD]) W (hM.below hb) hD hw (by rw [dos_len];omega)
 have hpk:zAa mods (l++[tickD])=((zAa mods l).1++[(doF mods (zAa mods l).2 tickD).1],(doF mods (zAa mods l).2 tickD).2):=zBt mods l tickD _
 simp only [hpk] at hPK
 simp only [dos_len] at hPK
 have hok:HOk mods (zAa mods l).2:=play_ok l ([],h0) (h0_ok mods)
 have hpl:=zCR mods l ([],h0)
 change (zAa mods l).1.length=_ at hpl
 simp only [List.length_nil,Nat.zero_add] at hpl
 generalize zAa mods l=pf at *
 obtain ⟨pa,h⟩:=pf
 dsimp only at hPL hPK hok hpl
 have hdo:doF mods h tickD=(⟨(zBB h).1.1,0,0,[],if (zBB h).1.1=0 then ((mkB (clS (sOf h.S)) h.S.length).length:Nat) else 0⟩,bec h (zBB h).1.1 (zBB h).2):=rfl
 rw [hdo] at hPK
 have hMT:=mods_tick hok
 have hUS:=uw_set hw mods.length (Nat.le_refl _)
 have hm6:=(wm_all hw).1
 obtain ⟨nb,hnb⟩:∃ nb,nb=(if (zBB h).1.1=0 then (((mkB (clS (sOf h.S)) h.S.length).length:Nat):Int) else 0):=⟨_,rfl⟩
 rw [←hnb] at hPK
 dsimp only at hPK
 obtain ⟨X,S⟩:=h
 dsimp only at hPL hMT
 have HMT:=zB hMT
 have HUS:=zB hUS
 have HMM:=zB hM
 have HPL:=zB hPL
 have HPK:=zB hPK
 have HDL:=zB hL
 have HOK:=zB hok
 have HPA:=zB hpl
 clear hPL hPK hM hL hw hpk hok hdo hnb hpl hMT hUS
 obtain ⟨i46,hi46,hz46,hs46,hb46⟩:=info_parts info46
 have HI:=zB hi46
 have HZ:=zB hz46
 have HS:=zB hs46
 have HBB:=zB hb46
 clear hi46 hz46 hs46 hb46
 have d80:decide ((80:Int)≤(l.length:Int))=false:=decide_eq_false (by omega)
 go_enter Tryz.func3,Tryz.ntmps3
 go_wp2_with fail
 go_at_call 12
 refine (zBo w).mono ?_
 rintro e w0 ⟨rfl,hb0⟩
 have HL0:=zB hb0
 clear hb0
 go_wp2_with fail
 go_at_call 13
 refine (zA HPL w0 (zA HL0)).mono ?_
 rintro e w1 ⟨T1,tc1,G1,gc1,M1,mc1,SA1,sc1,CA1,cc1,ss1,la1,rfl,hST1,_,hSS1,hss1,_,_,hb1⟩
 obtain ⟨W2,hW2,hbx,hX2⟩:=zx w1 [([.slice T1 (zL X).length tc1,.slice G1 X.gens.length gc1,.slice M1 mods.length mc1,.slice SA1 ss1.length sc1],31),([.int .i64 0,.int .i64 0],35)]
 have HW2:Hid ((w1.alloc (.cells #[.slice T1 (zL X).length tc1,.slice G1 X.gens.length gc1,.slice M1 mods.length mc1,.slice SA1 ss1.length sc1] 31)).alloc (.cells #[.int .i64 0,.int .i64 0] 35)=W2):=zB hW2
 clear hW2
 have HL2:=zB ((zA HL0).trans ((hb1.trans (hbx.mono hb1.size)).mono (zA HL0).size))
 have HX2:=zB hX2
 have HST2:=zB (hST1.below hbx)
 have HSS2:=zB (hSS1.below hbx)
 have HEQ:=zB hss1
 clear hb1 hbx hX2 hST1 hSS1 hss1 HPL
 go_upto_region 6 with fail
 rw [zA HW2]
 have HE2:=zB (zAo W2 (.cells #[] 46))
 have HCP:=zB (((zA HDL).below ((zA HL2).trans ((zA HE2).mono (zA HL2).size))).at_.copies zBS zCo (by decide))
 go_wp2_with (first
  | (at_builtin;refine wpList_appendC _ rfl (.tmp 35) (.tmp 36) 23 rfl W2.heap.size 46 i46 _ 12 112 Tryz.underlying23 (zA HI) (zA HZ) (zA HS) (zA HBB) rfl (by decide) W2.heap.size rfl (own_empty W2 46 12) LD l.length lc (zAl zAK l) rfl (zA HCP) (by unfold maxLen;omega) (by omega) (zA HE2).size ?_;intro v3 w3 ho3 hg3 hw3;obtain ⟨A3,c3,rfl⟩:=zAh ho3;have HB3:=zB ((zA HE2).grown hg3 (zA HE2).size (fun k hk=>by have hk:=Option.some.inj hk;omega));have HO3:=zB ho3;have HNS:=zB (do_new w3 tickD);clear ho3 hg3 hw3)
  | (at_builtin;refine zi _ rfl (.tmp 37) (.tmp 39) 23 rfl W2.heap.size 46 i46 _ 12 112 Tryz.underlying23 (zA HI) (zA HZ) (zA HS) (zA HBB) rfl (by decide) _ l.length (zAl zAK l) rfl ((zA HO3).alloc _) ⟨_,0,none⟩ 1 1 (zAK tickD) rfl rfl (zA HNS) (zCo _) (by unfold maxLen;omega) (by omega) (Nat.le_trans (zA HB3).size (zAo _ _).size) (by omega) ?_;intro g4 c4 w4 ho4 hg4 hw4;have HB4:=zB (((zA HB3).alloc (zA HB3).size _).grown hg4 (Nat.le_trans (zA HB3).size (zAo _ _).size) (fun q hq=>((zA HO3).lt q hq).1));have HO4:=zB ho4;clear ho4 hg4 hw4))
 have hL4:=(zA HL2).trans ((zA HB4).mono (zA HL2).size)
 have hD4:DosAt w4 (some ⟨g4,0,none⟩) (l++[tickD]):=dos_own (c:=c4) (by rw [dos_len,flatC_snoc];exact zA HO4) (fun d hd=>by
  rcases List.mem_append.1 hd with hd | hd
  ·exact ((zA HDL).acts d hd).below hL4
  ·rw [List.mem_singleton] at hd;subst hd;exact acts_dS _)
 have HL4:=zB hL4
 have HD4:=zB hD4
 clear hL4 hD4 HCP HO3 HB3 HO4 HE2 HNS
 go_at_call 13
 refine (zA HPK _ _ w4 (zA HL4) (zA HD4)).mono ?_
 rintro e w5 ⟨T5,tc5,G5,gc5,M5,mc5,SA5,sc5,CA5,cc5,ss5,la5,rfl,hST5,_,_,_,hAN5,hla5,hb5⟩
 obtain ⟨Z,hZ⟩:∃ Z,Z=(bec ⟨X,S⟩ (zBB ⟨X,S⟩).1.1 (zBB ⟨X,S⟩).2).X:=⟨_,rfl⟩
 have hMT:=zA HMT
 simp only [←hZ] at hST5 hMT ⊢
 obtain ⟨hZR,hWS,hWL⟩:=hMT
 obtain ⟨W6,hW6,hbx,hX6⟩:=zx w5 [([.slice T5 (zL Z).length tc5,.slice G5 Z.gens.length gc5,.slice M5 mods.length mc5,.slice SA5 ss5.length sc5],31),([.int .i64 0,.int .i64 0],35)]
 have HW6:Hid ((w5.alloc (.cells #[.slice T5 (zL Z).length tc5,.slice G5 Z.gens.length gc5,.slice M5 mods.length mc5,.slice SA5 ss5.length sc5] 31)).alloc (.cells #[.int .i64 0,.int .i64 0] 35)=W6):=zB hW6
 clear hW6
 have hb56:=hb5.trans (hbx.mono hb5.size)
 have hb46:=(zA HB4).trans (hb56.mono (zA HB4).size)
 have hX26:=(zA HX2).below hb46
 have hST26:=(zA HST2).below hb46
 have hL6:=(zA HL4).trans (hb56.mono (zA HL4).size)
 obtain ⟨U,hU⟩:∃ U,U=uwTo mods mods.length:=⟨_,rfl⟩
 obtain ⟨LF,hLF⟩:∃ LF,LF=ulTo mods mods.length:=⟨_,rfl⟩
 rw [←hU] at HUS
 simp only [←hU,←hLF] at hWS hWL
 have HST6:=zB (hST5.below hbx)
 have HSX6:=zB hST26
 have HX26:=zB hX26
 have HX6:=zB hX6
 have HL6:=zB hL6
 have HM6:=zB ((zA HMM).below hL6)
 have HWS:=zB hWS
 have HWL:=zB hWL
 have HZR:=zB hZR
 have HU:=zB hU
 have HLF:=zB hLF
 have HXR:Hid (RightW X):=zB (zA HOK).wld
 have q0:=hX26.cell 1 rfl 0 rfl
 have p0:=hX6.cell 1 rfl 0 rfl
 clear hb5 hbx hb56 hb46 hX26 hX6 hST26 hL6 hST5 hAN5 hla5 hZ hWS hWL hZR hU hLF HMT HMM HX2 HST2 HSS2 HEQ HPK HD4 HOK HPA HB4 HL4
 go_upto_region 7 with fail
 rw [zA HW6]
 go_wp2_with fail
 clear q0 p0
 go_loopw [11,12,58] (fun a b x wr=>∃ k:Nat,k≤mods.length∧x=.int .i64 (k:Int)∧a=.int .i64 (uwTo mods k)∧b=.bool (ulTo mods k)∧Below W6.heap.size W6 wr) (fun _ _ x _=>mods.length - (intOf x).toNat)
 case atStart=>exact ⟨0,Nat.zero_le _,rfl,rfl,rfl,Below.refl _ _⟩
 case round =>
  obtain ⟨k,hk,rfl,rfl,rfl,hbr⟩:=hrel
  by_cases hlt:k<mods.length
  ·have k0:(0:Int)≤(k:Int):=by omega
   have k1:(k:Int)<(mods.length:Int):=by omega
   obtain ⟨mb,mo,hMe,hmc⟩:=((zA HM6).below hbr) k _ (List.getElem?_eq_getElem hlt)
   have hgd:mods.getD k dM=mods[k]:=by rw [List.getD_eq_getElem?_getD,List.getElem?_eq_getElem hlt];rfl
   have hu1:uwTo mods (k+1)=bits .or .i64 (uwTo mods k) mods[k].wr:=by rw [uwTo,hgd]
   have hl1:ulTo mods (k+1)=(ulTo mods k || mods[k].lf):=by rw [ulTo,hgd]
   generalize mods[k]=m at *
   have m0:=hmc 0 _ rfl
   have m1:=hmc 1 _ rfl
   have m2:=hmc 2 _ rfl
   rw [Nat.add_zero] at m0
   obtain ⟨wk,rfl⟩:∃ wk,wk=wr:=⟨_,rfl⟩
   obtain ⟨W7,hW7,hbx,hX7⟩:=zx wk [([.int .i64 m.rd,.int .i64 m.wr,.bool m.lf],48)]
   have HW7:Hid (wk.alloc (.cells #[.int .i64 m.rd,.int .i64 m.wr,.bool m.lf] 48)=W7):=zB hW7
   clear hW7
   have HB7:=zB (hbr.trans (hbx.mono hbr.size))
   have HX7:=zB hX7
   have HU1:=zB hu1
   have HL1:=zB hl1
   obtain ⟨u0,hu0⟩:∃ u0,u0=uwTo mods k:=⟨_,rfl⟩
   obtain ⟨l0,hl0⟩:∃ l0,l0=ulTo mods k:=⟨_,rfl⟩
   rw [←hu0] at HU1
   rw [←hl0] at HL1
   rw [←hu0,←hl0]
   subst hMe
   clear hbr hbx hX7 hmc hgd hu1 hl1 hu0 hl0
   go_upto_region 13 with fail
   rw [zA HW7]
   clear m0 m1 m2
   have hsub:Nonempty (Sub W7):=⟨⟨W7,Below.refl _ _⟩⟩
   have s1:=zQ ((zA HX7).cell 0 rfl 1 rfl)
   have s2:=zQ ((zA HX7).cell 0 rfl 2 rfl)
   simp only [Nat.add_zero] at s1 s2
   cases l0
   all_goals
    refine zAW (by kernel_rfl) (by kernel_rfl) ?_
    repeat (go_big_quiet_step (fail))
    refine wpQuiet_nil ?_
    rintro w9 ⟨xs,hxs⟩
    have hb9:=xs.bel
    rw [←hxs] at hb9
    have HB9:=zB ((zA HB7).trans (hb9.mono (zA HB7).size))
    clear hxs hb9
    go_wp2
    go_roundw
    case rel=>exact ⟨k+1,by omega,by go_num,by rw [zA HU1],by rw [zA HL1];first | rfl | simp,zA HB9⟩
    case measure=>simp [intOf];omega
  ·obtain rfl:k=mods.length:=by omega
   rw [←zA HU,←zA HLF]
   obtain ⟨W8,rfl⟩:∃ W8,W8=wr:=⟨_,rfl⟩
   have HX28:=zB ((zA HX26).below hbr)
   have HX68:=zB ((zA HX6).below hbr)
   have HST8:=zB ((zA HST6).below hbr)
   have HSX8:=zB ((zA HSX6).below hbr)
   have HL8:=zB ((zA HL6).trans (hbr.mono (zA HL6).size))
   have dk:decide ((mods.length:Int)<(mods.length:Int))=false:=decide_eq_false (by omega)
   obtain ⟨hxl,hxg,_⟩:=zAM ((zp X).2 (zA HXR))
   obtain ⟨hzl,hzg,_⟩:=zAM ((zp Z).2 (zA HZR))
   clear hbr HM6 HU HLF HX26 HX6 HST6 HSX6 HL6
   go_wp2_with fail
   have h0:R15 W8 X Z g15 (fun _=>false) W8.drew:=R15.start _ _ _
   refine zY (fun (γ:G15) ix v=>if ix=2 then v=.agg #[.slice γ.A X.rows.length γ.c,.slice γ.G X.gens.length γ.gc] else if ix=5 then v=.agg #[.slice γ.B Z.rows.length γ.d,.slice γ.H Z.gens.length γ.hd] else if ix=6 then v=.pointer (some ⟨γ.p,0,none⟩) else if ix=7 then v=.pointer (some ⟨γ.q,0,none⟩) else (([fun v=>v=.pointer (some ⟨w1.heap.size,0,none⟩),fun v=>v=.agg #[.slice T1 (zL X).length tc1,.slice G1 X.gens.length gc1],fun _=>True,fun v=>v=.pointer (some ⟨w5.heap.size,0,none⟩),fun v=>v=.agg #[.slice T5 (zL Z).length tc5,.slice G5 Z.gens.length gc5],fun _=>True,fun _=>True,fun _=>True,fun _=>True,fun _=>True]:List (Value→Prop)).getD ix (fun _=>True)) v) (fun (γ:G15) L W=>R15 W8 X Z γ L W) (g15) (by kernel_rfl) (by kernel_rfl) (by kernel_rfl) h0 ?hstep ?hend
   case hstep =>
    intro γ ix o ho L ac w1' hD hL hed hcl hout hv
    match ix,ho with
    | 0,ho =>
     simp at ho
     subst ho
     have e5:ac.tmps.getD 5 undef=.pointer (some ⟨w1.heap.size,0,none⟩):=hout 5 (by decide +kernel)
     exact .inl ⟨rfl,zE γ _ (by simp [go_sem,Act.eval,-Array.getD_eq_getD_getElem?,e5]) rfl (hD.same (by decide)) (fun _ _ _ _ h=>h)⟩
    | 1,ho =>
     simp at ho
     subst ho
     have e72:ac.tmps.getD 72 undef=_:=hv 0 72 rfl (by kernel_rfl)
     have bb:=(zA HX28).below hD.bel
     have c0:=bb.cell 0 rfl 0 rfl
     have c1:=bb.cell 0 rfl 1 rfl
     rw [Nat.add_zero] at c0 c1
     exact .inl ⟨rfl,zE γ _ (by simp [go_sem,Act.eval,-Array.getD_eq_getD_getElem?,e72,c0,c1]) rfl (hD.same (by decide)) (fun _ _ _ _ h=>h)⟩
    | 2,ho =>
     simp at ho
     subst ho
     have e73:ac.tmps.getD 73 undef=_:=hv 1 73 rfl (by kernel_rfl)
     have q8:L 8=false:=by
      cases h:L 8
      ·rfl
      ·exact absurd (hcl 8 _ rfl h 2 (by kernel_rfl)) (by rw [hL];decide)
     refine .inl ⟨rfl,zc 14 #[.agg #[.slice T1 (zL X).length tc1,.slice G1 X.gens.length gc1]] (by simp [go_sem,Act.eval,-Array.getD_eq_getD_getElem?,e73]) ?_⟩
     refine (zCN T1 tc1 G1 gc1 (zL X) X w1' ((zA HSX8).below hD.bel)).mono ?_
     rintro e w6' ⟨A6,c6,G6,gc6,rfl,hN6,hb6⟩
     exact ⟨_,⟨γ.p,γ.q,A6,c6,G6,gc6,γ.B,γ.d,γ.H,γ.hd⟩,rfl,rfl,hD.world1 q8 hN6 hb6,fun j u hj hLj h=>by simpa [hj] using h⟩
    | 3,ho =>
     simp at ho
     subst ho
     have e8:ac.tmps.getD 8 undef=.pointer (some ⟨w5.heap.size,0,none⟩):=hout 8 (by decide +kernel)
     exact .inl ⟨rfl,zE γ _ (by simp [go_sem,Act.eval,-Array.getD_eq_getD_getElem?,e8]) rfl (hD.same (by decide)) (fun _ _ _ _ h=>h)⟩
    | 4,ho =>
     simp at ho
     subst ho
     have e75:ac.tmps.getD 75 undef=_:=hv 3 75 rfl (by kernel_rfl)
     have bb:=(zA HX68).below hD.bel
     have c0:=bb.cell 0 rfl 0 rfl
     have c1:=bb.cell 0 rfl 1 rfl
     rw [Nat.add_zero] at c0 c1
     exact .inl ⟨rfl,zE γ _ (by simp [go_sem,Act.eval,-Array.getD_eq_getD_getElem?,e75,c0,c1]) rfl (hD.same (by decide)) (fun _ _ _ _ h=>h)⟩
    | 5,ho =>
     simp at ho
     subst ho
     have e76:ac.tmps.getD 76 undef=_:=hv 4 76 rfl (by kernel_rfl)
     have q9:L 9=false:=by
      cases h:L 9
      ·rfl
      ·exact absurd (hcl 9 _ rfl h 5 (by kernel_rfl)) (by rw [hL];decide)
     refine .inl ⟨rfl,zc 14 #[.agg #[.slice T5 (zL Z).length tc5,.slice G5 Z.gens.length gc5]] (by simp [go_sem,Act.eval,-Array.getD_eq_getD_getElem?,e76]) ?_⟩
     refine (zCN T5 tc5 G5 gc5 (zL Z) Z w1' ((zA HST8).below hD.bel)).mono ?_
     rintro e w6' ⟨A6,c6,G6,gc6,rfl,hN6,hb6⟩
     exact ⟨_,⟨γ.p,γ.q,γ.A,γ.c,γ.G,γ.gc,A6,c6,G6,gc6⟩,rfl,rfl,hD.world2 q9 hN6 hb6,fun j u hj hLj h=>by simpa [hj] using h⟩
    | 6,ho =>
     simp at ho
     subst ho
     have q8:L 8=false:=by
      cases h:L 8
      ·rfl
      ·exact absurd (hcl 8 _ rfl h 6 (by kernel_rfl)) (by rw [hL];decide)
     exact .inl ⟨rfl,zAf ⟨w1'.heap.size,γ.q,γ.A,γ.c,γ.G,γ.gc,γ.B,γ.d,γ.H,γ.hd⟩ (.pointer (some ⟨w1'.heap.size,0,none⟩)) (w2:=w1'.alloc (.cells #[.slice none 0 0,.slice none 0 0] 51)) (by simp [go_sem,Act.eval]) rfl (hD.makep q8) (fun j u hj hLj h=>by simpa [hj] using h)⟩
    | 7,ho =>
     simp at ho
     subst ho
     have q9:L 9=false:=by
      cases h:L 9
      ·rfl
      ·exact absurd (hcl 9 _ rfl h 7 (by kernel_rfl)) (by rw [hL];decide)
     exact .inl ⟨rfl,zAf ⟨γ.p,w1'.heap.size,γ.A,γ.c,γ.G,γ.gc,γ.B,γ.d,γ.H,γ.hd⟩ (.pointer (some ⟨w1'.heap.size,0,none⟩)) (w2:=w1'.alloc (.cells #[.slice none 0 0,.slice none 0 0] 51)) (by simp [go_sem,Act.eval]) rfl (hD.makeq q9) (fun j u hj hLj h=>by simpa [hj] using h)⟩
    | 8,ho =>
     simp at ho
     subst ho
     have e15:ac.tmps.getD 15 undef=_:=hv 6 15 rfl (by kernel_rfl)
     have e74:ac.tmps.getD 74 undef=_:=hv 2 74 rfl (by kernel_rfl)
     have q2:L 2=true:=hed 2 (by kernel_rfl)
     have q6:L 6=true:=hed 6 (by kernel_rfl)
     have hb4:=(hD.bp q6).2
     rw [hL] at hb4
     exact .inl ⟨rfl,zAd γ 51 (.tmp 15) (.tmp 74) rfl γ.p 0 (slP X γ.A γ.c γ.G γ.gc) (by simp [Act.eval,-Array.getD_eq_getD_getElem?,e15]) (by simp [Act.eval,-Array.getD_eq_getD_getElem?,e74,slP]) (by simp [Value.oneCell',slP]) size51h (hb4.there 0 rfl 2 rfl) trivial (hD.put6 q2 q6 hL) (fun _ _ _ _ h=>h)⟩
    | 9,ho =>
     simp at ho
     subst ho
     have e16:ac.tmps.getD 16 undef=_:=hv 7 16 rfl (by kernel_rfl)
     have e77:ac.tmps.getD 77 undef=_:=hv 5 77 rfl (by kernel_rfl)
     have q5:L 5=true:=hed 5 (by kernel_rfl)
     have q7:L 7=true:=hed 7 (by kernel_rfl)
     have hb5:=(hD.bq q7).2
     rw [hL] at hb5
     exact .inl ⟨rfl,zAd γ 51 (.tmp 16) (.tmp 77) rfl γ.q 0 (slP Z γ.B γ.d γ.H γ.hd) (by simp [Act.eval,-Array.getD_eq_getD_getElem?,e16]) (by simp [Act.eval,-Array.getD_eq_getD_getElem?,e77,slP]) (by simp [Value.oneCell',slP]) size51h (hb5.there 0 rfl 2 rfl) trivial (hD.put7 q5 q7 hL) (fun _ _ _ _ h=>h)⟩
    | ix+10,ho=>simp at ho
   case hend =>
    intro γ v L w8 hD hall hv
    have a2:=hall 2 (by decide)
    have a5:=hall 5 (by decide)
    have a6:=hall 6 (by decide)
    have a7:=hall 7 (by decide)
    have a8:=hall 8 (by decide)
    have a9:=hall 9 (by decide)
    have v6:v 6=.pointer (some ⟨γ.p,0,none⟩):=hv 6 15 rfl
    have v7:v 7=.pointer (some ⟨γ.q,0,none⟩):=hv 7 16 rfl
    have hWP:=hD.w1 a2
    have hWQ:=hD.w2 a5
    have hbp:=(hD.bp a6).2
    have hbq:=(hD.bq a7).2
    rw [a8,if_pos rfl] at hbp
    rw [a9,if_pos rfl] at hbq
    unfold slP at hbp hbq
    have hbl:=hD.bel
    obtain ⟨p15,p16,A5,c5,G5',gc5',A6,c6,G6,gc6⟩:=γ
    dsimp only at v6 v7 hWP hWQ hbp hbq
    have r0:=hbp.cell 0 rfl 0 rfl
    rw [Nat.add_zero] at r0
    have HWP:=zB hWP
    have HWQ:=zB hWQ
    have HBP:=zB hbp
    have HBQ:=zB hbq
    have HL9:=zB ((zA HL8).trans (hbl.mono (zA HL8).size))
    clear hv hall hD h0 hWP hWQ hbp hbq hbl a2 a5 a6 a7 a8 a9 HX28 HX68 HST8 HSX8 HL8
    simp only [zn,List.getElem?_cons_zero,List.getElem?_cons_succ,Option.bind_some,List.length_cons,List.length_nil,Nat.reduceAdd,v6,v7]
    clear v6 v7
    go_frame
    go_wp2_with fail
    clear r0
    go_loopw [81] (fun x wr=>∃ k:Nat,k≤X.rows.length∧x=.int .i64 (k:Int)∧Below w8.heap.size w8 wr) (fun x _=>X.rows.length - (intOf x).toNat)
    case atStart=>exact ⟨0,Nat.zero_le _,rfl,Below.refl _ _⟩
    case round =>
     obtain ⟨k,hk,rfl,hbr⟩:=hrel
     by_cases hlt:k<X.rows.length
     ·have k0:(0:Int)≤(k:Int):=by omega
      have k1:(k:Int)<(X.rows.length:Int):=by omega
      obtain ⟨wk,rfl⟩:∃ wk,wk=wr:=⟨_,rfl⟩
      obtain ⟨rb,ro,hAe,hrow⟩:=((zA HWP).below hbr).rows k hlt
      have hrow:RowAt wk rb (ro+k*11) (zO X k):=hrow
      have hWk:=zA HWS k hlt
      have hsr:zAg (zO X k).has=true:=rv_set ((zA HXR).rv k hlt)
      obtain ⟨r,hrr⟩:∃ r,r=zO X k:=⟨_,rfl⟩
      rw [←hrr] at hrow hWk hsr
      obtain ⟨c0,c1,c2,c3,c4,c5x,c6x,c7,c8x,c9,c10⟩:=zd hrow
      obtain ⟨W9,hW9,hbx,hX9⟩:=zx wk [([.int .i64 r.ix,.int .i64 r.gen,.int .i64 r.has,.int .i64 (r.v 0),.int .i64 (r.v 1),.int .i64 (r.v 2),.int .i64 (r.v 3),.int .i64 (r.v 4),.int .i64 (r.v 5),.int .i64 (r.v 6),.int .i64 (r.v 7)],55)]
      have HW9:Hid (wk.alloc (.cells #[.int .i64 r.ix,.int .i64 r.gen,.int .i64 r.has,.int .i64 (r.v 0),.int .i64 (r.v 1),.int .i64 (r.v 2),.int .i64 (r.v 3),.int .i64 (r.v 4),.int .i64 (r.v 5),.int .i64 (r.v 6),.int .i64 (r.v 7)] 55)=W9):=zB hW9
      clear hW9
      have hL9:=hbr.trans (hbx.mono hbr.size)
      have hV9:=(zA HBQ).below hL9
      have v0:=hV9.cell 0 rfl 0 rfl
      have v1:=hV9.cell 0 rfl 1 rfl
      have x0:=hX9.cell 0 rfl 0 rfl
      have x1:=hX9.cell 0 rfl 1 rfl
      rw [Nat.add_zero] at v0 v1 x0 x1
      obtain ⟨p,hpc,hp⟩:=row_ptr Z hzl r.ix r.gen A6 c6 G6 gc6 W9 ((zA HWQ).below hL9)
      have HPC:=zB (hpc W9 (Below.refl _ _))
      have HLq:=zB hL9
      have HR9:=zB hX9
      have HWK:=zB hWk
      have HSR:=zB hsr
      clear hrow hWk hsr hbr hbx hX9 hrr hpc hV9 hL9
      subst hAe
      go_upto_region 19 with fail
      rw [zA HW9]
      go_wp2_with fail
      go_at_call 15
      refine (zA HPC).mono ?_
      rintro e w11 ⟨rfl,hb11⟩
      have hL11:=(zA HLq).trans (hb11.mono (zA HLq).size)
      have HL11:=zB hL11
      have HR11:=zB ((zA HR9).below hb11)
      rcases hp with ⟨rfl,hf⟩ | ⟨k2,pb,po,rfl,hk2,hf,hpr⟩
      ·rcases zA HWK with ⟨rfl,_⟩ | ⟨q,_,hq,_⟩
       ·clear hb11 hL11 v0 v1 x0 x1 c0 c1 c2 c3 c4 c5x c6x c7 c8x c9 c10
        go_wp2
        go_roundw
        case rel=>exact ⟨k+1,by omega,by go_num,zA HL11⟩
        case measure=>simp [intOf];omega
       ·exact absurd (hf.symm.trans hq) (by omega)
      ·rcases zA HWK with ⟨_,hq⟩ | ⟨q,hq,hfq,hvq⟩
       ·exact absurd (hf.symm.trans hq) (by omega)
       ·have:q=k2:=by omega
        subst this
        have hsz:zAg (zO Z q).has=true:=rv_set ((zA HZR).rv q hq)
        obtain ⟨z,hzz⟩:∃ z,z=zO Z q:=⟨_,rfl⟩
        rw [←hzz] at hpr hvq hsz
        have HPR:=zB (hpr.below hb11)
        have HVQ:=zB hvq
        have HSZ:=zB hsz
        clear hpr hvq hsz hzz hq hfq hk2 hf hb11 hL11 v0 v1 x0 x1 c0 c1 c2 c3 c4 c5x c6x c7 c8x c9 c10 HWK HPC
        go_wp2_with fail
        go_loopw [93] (fun x wr=>∃ q:Nat,q≤8∧x=.int .i64 (q:Int)∧Below w11.heap.size w11 wr) (fun x _=>8 - (intOf x).toNat)
        case atStart=>exact ⟨0,Nat.zero_le _,rfl,Below.refl _ _⟩
        case round =>
         obtain ⟨q,hq,rfl,hbr⟩:=hrel
         by_cases hlq:q<8
         ·have q0:(0:Int)≤(q:Int):=by omega
          have q1:(q:Int)<8:=by omega
          have HZq:=zB ((zA HPR).below hbr)
          have HRq:=zB (row_box ((zA HR11).below hbr))
          have hvq:=zA HVQ q hlq
          have hbw:=hasB_bt (zA HUS) hlq
          have hbz:=hasB_bt (zA HSZ) hlq
          have hbxx:=hasB_bt (zA HSR) hlq
          have hHW:=fun W=>rhas_any U (q:Int) W (setB_le (zA HUS)).1 (setB_le (zA HUS)).2
          have hHZ:=fun W=>rhas_any z.has (q:Int) W (setB_le (zA HSZ)).1 (setB_le (zA HSZ)).2
          have hHR:=fun W=>rhas_any r.has (q:Int) W (setB_le (zA HSR)).1 (setB_le (zA HSR)).2
          rw [hbw] at hHW
          rw [hbz] at hHZ
          rw [hbxx] at hHR
          have HBQ':=zB hbr
          clear hbw hbz hbxx hbr
          cases hcw:bt U q
          ·obtain ⟨hv1,hv2⟩:=hvq hcw
           rw [hcw] at hHW
           rw [hv2] at hHZ
           generalize bt r.has q=bb at *
           have HHW:=zB hHW
           have HHZ:=zB hHZ
           have HHR:=zB hHR
           clear hvq hcw hv2 hHW hHZ hHR
           go_wp2_with fail
           have h0:Below wr.heap.size wr wr.drew:=(Below.refl _ _).drew
           refine zY (fun (γ:Unit) ix v=>(([fun v=>v=.int .i64 U,fun v=>v=.int .i64 (q:Int),fun v=>v=.bool false,fun v=>v=.bool true,fun v=>v=.bool true,fun v=>v=.pointer (some ⟨pb,po,none⟩),fun v=>v=.int .i64 (q:Int),fun v=>v=.pointer (some ⟨pb,po,none⟩),fun v=>v=.pointer (some ⟨pb,po+3,none⟩),fun v=>v=.pointer (some ⟨pb,po+3+q,none⟩),fun v=>v=.int .i64 (r.v q),fun v=>v=.int .i64 (q:Int),fun v=>v=.pointer (some ⟨wk.heap.size,3,none⟩),fun v=>v=.pointer (some ⟨wk.heap.size,3+q,none⟩),fun v=>v=.int .i64 (r.v q),fun v=>v=.bool false,fun v=>v=.bool false,fun v=>v=.pointer (some ⟨pb,po,none⟩),fun v=>v=.pointer (some ⟨pb,po,none⟩),fun v=>v=.pointer (some ⟨pb,po+2,none⟩),fun v=>v=.int .i64 z.has,fun v=>v=.int .i64 (q:Int),fun v=>v=.bool bb,fun v=>v=.pointer (some ⟨wk.heap.size,2,none⟩),fun v=>v=.int .i64 r.has,fun v=>v=.int .i64 (q:Int),fun v=>v=.bool bb,fun v=>v=.bool false,fun v=>v=.bool false,fun v=>v=.bool false]:List (Value→Prop)).getD ix (fun _=>True)) v) (fun (_:Unit) (_:Nat→Bool) W=>Below wr.heap.size wr W) (()) (by kernel_rfl) (by kernel_rfl) (by kernel_rfl) h0 ?hstep ?hend
           case hstep =>
            intro γ ix o ho L ac w1' hD hL hed hcl hout hv
            match ix,ho with
            | 0,ho =>
             simp at ho
             subst ho
             have e11:ac.tmps.getD 11 undef=.int .i64 U:=hout 11 (by decide +kernel)
             exact .inl ⟨rfl,zE γ _ (by simp [go_sem,Act.eval,-Array.getD_eq_getD_getElem?,e11]) rfl hD (fun _ _ _ _ h=>h)⟩
            | 1,ho =>
             simp at ho
             subst ho
             have e20:ac.tmps.getD 20 undef=.int .i64 (q:Int):=hout 20 (by decide +kernel)
             exact .inl ⟨rfl,zE γ _ (by simp [go_sem,Act.eval,-Array.getD_eq_getD_getElem?,e20]) rfl hD (fun _ _ _ _ h=>h)⟩
            | 2,ho =>
             simp at ho
             subst ho
             have e96:ac.tmps.getD 96 undef=_:=hv 0 96 rfl (by kernel_rfl)
             have e97:ac.tmps.getD 97 undef=_:=hv 1 97 rfl (by kernel_rfl)
             refine .inl ⟨rfl,zc 16 #[.int .i64 U,.int .i64 (q:Int)] (by simp [go_sem,Act.eval,-Array.getD_eq_getD_getElem?,e96,e97]) ?_⟩
             refine (zA HHW w1').mono ?_
             rintro e w6 ⟨rfl,hb6⟩
             exact ⟨_,γ,rfl,rfl,hD.trans (hb6.mono hD.size),fun _ _ _ _ h=>h⟩
            | 3,ho =>
             simp at ho
             subst ho
             have e98:ac.tmps.getD 98 undef=_:=hv 2 98 rfl (by kernel_rfl)
             exact .inl ⟨rfl,zE γ _ (by simp [go_sem,Act.eval,-Array.getD_eq_getD_getElem?,e98]) rfl hD (fun _ _ _ _ h=>h)⟩
            | 4,ho =>
             simp at ho
             subst ho
             have e99:ac.tmps.getD 99 undef=_:=hv 3 99 rfl (by kernel_rfl)
             exact .inl ⟨rfl,zE γ _ (by simp [go_sem,Act.eval,-Array.getD_eq_getD_getElem?,e99]) rfl hD (fun _ _ _ _ h=>h)⟩
            | 5,ho =>
             simp at ho
             subst ho
             have eg:ac.tmps.getD 100 undef=.bool true:=hv 4 100 rfl (by kernel_rfl)
             have e19:ac.tmps.getD 19 undef=.pointer (some ⟨pb,po,none⟩):=hout 19 (by decide +kernel)
             exact .inl ⟨zK rfl rfl eg,zE γ _ (by simp [go_sem,Act.eval,-Array.getD_eq_getD_getElem?,e19]) rfl hD (fun _ _ _ _ h=>h)⟩
            | 6,ho =>
             simp at ho
             subst ho
             have eg:ac.tmps.getD 100 undef=.bool true:=hv 4 100 rfl (by kernel_rfl)
             have e20:ac.tmps.getD 20 undef=.int .i64 (q:Int):=hout 20 (by decide +kernel)
             exact .inl ⟨zK rfl rfl eg,zE γ _ (by simp [go_sem,Act.eval,-Array.getD_eq_getD_getElem?,e20]) rfl hD (fun _ _ _ _ h=>h)⟩
            | 7,ho =>
             simp at ho
             subst ho
             have eg:ac.tmps.getD 100 undef=.bool true:=hv 4 100 rfl (by kernel_rfl)
             have e101:ac.tmps.getD 101 undef=_:=hv 5 101 rfl (by kernel_rfl)
             exact .inl ⟨zK rfl rfl eg,zE γ _ (by simp [go_sem,Act.eval,-Array.getD_eq_getD_getElem?,e101]) rfl hD (fun _ _ _ _ h=>h)⟩
            | 8,ho =>
             simp at ho
             subst ho
             have eg:ac.tmps.getD 100 undef=.bool true:=hv 4 100 rfl (by kernel_rfl)
             have e103:ac.tmps.getD 103 undef=_:=hv 7 103 rfl (by kernel_rfl)
             exact .inl ⟨zK rfl rfl eg,zE γ _ (by simp [go_sem,Act.eval,-Array.getD_eq_getD_getElem?,e103]) rfl hD (fun _ _ _ _ h=>h)⟩
            | 9,ho =>
             simp at ho
             subst ho
             have eg:ac.tmps.getD 100 undef=.bool true:=hv 4 100 rfl (by kernel_rfl)
             have e104:ac.tmps.getD 104 undef=_:=hv 8 104 rfl (by kernel_rfl)
             have e102:ac.tmps.getD 102 undef=_:=hv 6 102 rfl (by kernel_rfl)
             exact .inl ⟨zK rfl rfl eg,zE γ _ (by simp [go_sem,Act.eval,-Array.getD_eq_getD_getElem?,e104,e102,q0,q1]) rfl hD (fun _ _ _ _ h=>h)⟩
            | 10,ho =>
             simp at ho
             subst ho
             have eg:ac.tmps.getD 100 undef=.bool true:=hv 4 100 rfl (by kernel_rfl)
             have e105:ac.tmps.getD 105 undef=_:=hv 9 105 rfl (by kernel_rfl)
             have cv:=((zA HZq).below hD).v q hlq
             rw [hv1] at cv
             exact .inl ⟨zK rfl rfl eg,zE γ _ (by simp [go_sem,Act.eval,-Array.getD_eq_getD_getElem?,e105,cv]) rfl hD (fun _ _ _ _ h=>h)⟩
            | 11,ho =>
             simp at ho
             subst ho
             have eg:ac.tmps.getD 100 undef=.bool true:=hv 4 100 rfl (by kernel_rfl)
             have e20:ac.tmps.getD 20 undef=.int .i64 (q:Int):=hout 20 (by decide +kernel)
             exact .inl ⟨zK rfl rfl eg,zE γ _ (by simp [go_sem,Act.eval,-Array.getD_eq_getD_getElem?,e20]) rfl hD (fun _ _ _ _ h=>h)⟩
            | 12,ho =>
             simp at ho
             subst ho
             have eg:ac.tmps.getD 100 undef=.bool true:=hv 4 100 rfl (by kernel_rfl)
             have e18:ac.tmps.getD 18 undef=.pointer (some ⟨wk.heap.size,0,none⟩):=hout 18 (by decide +kernel)
             exact .inl ⟨zK rfl rfl eg,zE γ _ (by simp [go_sem,Act.eval,-Array.getD_eq_getD_getElem?,e18]) rfl hD (fun _ _ _ _ h=>h)⟩
            | 13,ho =>
             simp at ho
             subst ho
             have eg:ac.tmps.getD 100 undef=.bool true:=hv 4 100 rfl (by kernel_rfl)
             have e108:ac.tmps.getD 108 undef=_:=hv 12 108 rfl (by kernel_rfl)
             have e107:ac.tmps.getD 107 undef=_:=hv 11 107 rfl (by kernel_rfl)
             exact .inl ⟨zK rfl rfl eg,zE γ _ (by simp [go_sem,Act.eval,-Array.getD_eq_getD_getElem?,e108,e107,q0,q1]) rfl hD (fun _ _ _ _ h=>h)⟩
            | 14,ho =>
             simp at ho
             subst ho
             have eg:ac.tmps.getD 100 undef=.bool true:=hv 4 100 rfl (by kernel_rfl)
             have e109:ac.tmps.getD 109 undef=_:=hv 13 109 rfl (by kernel_rfl)
             have cv:=((zA HRq).below hD).v q hlq
             rw [Nat.zero_add] at cv
             exact .inl ⟨zK rfl rfl eg,zE γ _ (by simp [go_sem,Act.eval,-Array.getD_eq_getD_getElem?,e109,cv]) rfl hD (fun _ _ _ _ h=>h)⟩
            | 15,ho =>
             simp at ho
             subst ho
             have eg:ac.tmps.getD 100 undef=.bool true:=hv 4 100 rfl (by kernel_rfl)
             have e106:ac.tmps.getD 106 undef=_:=hv 10 106 rfl (by kernel_rfl)
             have e110:ac.tmps.getD 110 undef=_:=hv 14 110 rfl (by kernel_rfl)
             exact .inl ⟨zK rfl rfl eg,zE γ _ (by simp [go_sem,Act.eval,-Array.getD_eq_getD_getElem?,e106,e110]) rfl hD (fun _ _ _ _ h=>h)⟩
            | 16,ho =>
             simp at ho
             subst ho
             have eg:ac.tmps.getD 100 undef=.bool true:=hv 4 100 rfl (by kernel_rfl)
             have e111:ac.tmps.getD 111 undef=_:=hv 15 111 rfl (by kernel_rfl)
             exact .inl ⟨zK rfl rfl eg,zE γ _ (by simp [go_sem,Act.eval,-Array.getD_eq_getD_getElem?,e111]) rfl hD (fun _ _ _ _ h=>h)⟩
            | 17,ho =>
             simp at ho
             subst ho
             have eg:ac.tmps.getD 112 undef=.bool false:=hv 16 112 rfl (by kernel_rfl)
             have e19:ac.tmps.getD 19 undef=.pointer (some ⟨pb,po,none⟩):=hout 19 (by decide +kernel)
             exact .inl ⟨zK rfl rfl eg,zE γ _ (by simp [go_sem,Act.eval,-Array.getD_eq_getD_getElem?,e19]) rfl hD (fun _ _ _ _ h=>h)⟩
            | 18,ho =>
             simp at ho
             subst ho
             have eg:ac.tmps.getD 112 undef=.bool false:=hv 16 112 rfl (by kernel_rfl)
             have e113:ac.tmps.getD 113 undef=_:=hv 17 113 rfl (by kernel_rfl)
             exact .inl ⟨zK rfl rfl eg,zE γ _ (by simp [go_sem,Act.eval,-Array.getD_eq_getD_getElem?,e113]) rfl hD (fun _ _ _ _ h=>h)⟩
            | 19,ho =>
             simp at ho
             subst ho
             have eg:ac.tmps.getD 112 undef=.bool false:=hv 16 112 rfl (by kernel_rfl)
             have e114:ac.tmps.getD 114 undef=_:=hv 18 114 rfl (by kernel_rfl)
             exact .inl ⟨zK rfl rfl eg,zE γ _ (by simp [go_sem,Act.eval,-Array.getD_eq_getD_getElem?,e114]) rfl hD (fun _ _ _ _ h=>h)⟩
            | 20,ho =>
             simp at ho
             subst ho
             have eg:ac.tmps.getD 112 undef=.bool false:=hv 16 112 rfl (by kernel_rfl)
             have e115:ac.tmps.getD 115 undef=_:=hv 19 115 rfl (by kernel_rfl)
             have c2:=((zA HZq).below hD).c2
             exact .inl ⟨zK rfl rfl eg,zE γ _ (by simp [go_sem,Act.eval,-Array.getD_eq_getD_getElem?,e115,c2]) rfl hD (fun _ _ _ _ h=>h)⟩
            | 21,ho =>
             simp at ho
             subst ho
             have eg:ac.tmps.getD 112 undef=.bool false:=hv 16 112 rfl (by kernel_rfl)
             have e20:ac.tmps.getD 20 undef=.int .i64 (q:Int):=hout 20 (by decide +kernel)
             exact .inl ⟨zK rfl rfl eg,zE γ _ (by simp [go_sem,Act.eval,-Array.getD_eq_getD_getElem?,e20]) rfl hD (fun _ _ _ _ h=>h)⟩
            | 22,ho =>
             simp at ho
             subst ho
             have eg:ac.tmps.getD 112 undef=.bool false:=hv 16 112 rfl (by kernel_rfl)
             have e116:ac.tmps.getD 116 undef=_:=hv 20 116 rfl (by kernel_rfl)
             have e117:ac.tmps.getD 117 undef=_:=hv 21 117 rfl (by kernel_rfl)
             refine .inl ⟨zK rfl rfl eg,zc 16 #[.int .i64 z.has,.int .i64 (q:Int)] (by simp [go_sem,Act.eval,-Array.getD_eq_getD_getElem?,e116,e117]) ?_⟩
             refine (zA HHZ w1').mono ?_
             rintro e w6 ⟨rfl,hb6⟩
             exact ⟨_,γ,rfl,rfl,hD.trans (hb6.mono hD.size),fun _ _ _ _ h=>h⟩
            | 23,ho =>
             simp at ho
             subst ho
             have eg:ac.tmps.getD 112 undef=.bool false:=hv 16 112 rfl (by kernel_rfl)
             have e18:ac.tmps.getD 18 undef=.pointer (some ⟨wk.heap.size,0,none⟩):=hout 18 (by decide +kernel)
             exact .inl ⟨zK rfl rfl eg,zE γ _ (by simp [go_sem,Act.eval,-Array.getD_eq_getD_getElem?,e18]) rfl hD (fun _ _ _ _ h=>h)⟩
            | 24,ho =>
             simp at ho
             subst ho
             have eg:ac.tmps.getD 112 undef=.bool false:=hv 16 112 rfl (by kernel_rfl)
             have e119:ac.tmps.getD 119 undef=_:=hv 23 119 rfl (by kernel_rfl)
             have c2:=((zA HRq).below hD).c2
             rw [Nat.zero_add] at c2
             exact .inl ⟨zK rfl rfl eg,zE γ _ (by simp [go_sem,Act.eval,-Array.getD_eq_getD_getElem?,e119,c2]) rfl hD (fun _ _ _ _ h=>h)⟩
            | 25,ho =>
             simp at ho
             subst ho
             have eg:ac.tmps.getD 112 undef=.bool false:=hv 16 112 rfl (by kernel_rfl)
             have e20:ac.tmps.getD 20 undef=.int .i64 (q:Int):=hout 20 (by decide +kernel)
             exact .inl ⟨zK rfl rfl eg,zE γ _ (by simp [go_sem,Act.eval,-Array.getD_eq_getD_getElem?,e20]) rfl hD (fun _ _ _ _ h=>h)⟩
            | 26,ho =>
             simp at ho
             subst ho
             have eg:ac.tmps.getD 112 undef=.bool false:=hv 16 112 rfl (by kernel_rfl)
             have e120:ac.tmps.getD 120 undef=_:=hv 24 120 rfl (by kernel_rfl)
             have e121:ac.tmps.getD 121 undef=_:=hv 25 121 rfl (by kernel_rfl)
             refine .inl ⟨zK rfl rfl eg,zc 16 #[.int .i64 r.has,.int .i64 (q:Int)] (by simp [go_sem,Act.eval,-Array.getD_eq_getD_getElem?,e120,e121]) ?_⟩
             refine (zA HHR w1').mono ?_
             rintro e w6 ⟨rfl,hb6⟩
             exact ⟨_,γ,rfl,rfl,hD.trans (hb6.mono hD.size),fun _ _ _ _ h=>h⟩
            | 27,ho =>
             simp at ho
             subst ho
             have eg:ac.tmps.getD 112 undef=.bool false:=hv 16 112 rfl (by kernel_rfl)
             have e118:ac.tmps.getD 118 undef=_:=hv 22 118 rfl (by kernel_rfl)
             have e122:ac.tmps.getD 122 undef=_:=hv 26 122 rfl (by kernel_rfl)
             exact .inl ⟨zK rfl rfl eg,zE γ _ (by simp [go_sem,Act.eval,-Array.getD_eq_getD_getElem?,e118,e122]) rfl hD (fun _ _ _ _ h=>h)⟩
            | 28,ho =>
             simp at ho
             subst ho
             have eg:ac.tmps.getD 100 undef=.bool true:=hv 4 100 rfl (by kernel_rfl)
             have e112:ac.tmps.getD 112 undef=_:=hv 16 112 rfl (by kernel_rfl)
             have e123:ac.tmps.getD 123 undef=_:=hv 27 123 rfl (by kernel_rfl)
             exact .inl ⟨zK rfl rfl eg,zE γ _ (by simp [go_sem,Act.eval,-Array.getD_eq_getD_getElem?,e112,e123]) rfl hD (fun _ _ _ _ h=>h)⟩
            | 29,ho =>
             simp at ho
             subst ho
             have e100:ac.tmps.getD 100 undef=_:=hv 4 100 rfl (by kernel_rfl)
             have e124:ac.tmps.getD 124 undef=_:=hv 28 124 rfl (by kernel_rfl)
             exact .inl ⟨rfl,zE γ _ (by simp [go_sem,Act.eval,-Array.getD_eq_getD_getElem?,e100,e124]) rfl hD (fun _ _ _ _ h=>h)⟩
            | ix+30,ho=>simp at ho
           case hend =>
            intro γ v L w13 hD hall hv
            have v29:v 29=.bool false:=hv 29 125 rfl
            have HE:=zB hD
            clear hv hall hD h0
            simp only [zn,List.getElem?_cons_zero,List.getElem?_cons_succ,Option.bind_some,List.length_cons,List.length_nil,Nat.reduceAdd,v29]
            clear v29
            go_frame
            go_wp2
            go_roundw
            case rel=>exact ⟨q+1,by omega,by go_num,(zA HBQ').trans ((zA HE).mono (zA HBQ').size)⟩
            case measure=>simp [intOf];omega
          ·rw [hcw] at hHW
           have HHW:=zB hHW
           clear hvq hcw hHW hHZ hHR
           go_wp2_with fail
           have h0:Below wr.heap.size wr wr.drew:=(Below.refl _ _).drew
           refine zY (fun (γ:Unit) ix v=>(([fun v=>v=.int .i64 U,fun v=>v=.int .i64 (q:Int),fun v=>v=.bool true,fun v=>v=.bool false,fun v=>v=.bool false,fun v=>v=undef,fun v=>v=undef,fun v=>v=undef,fun v=>v=undef,fun v=>v=undef,fun v=>v=undef,fun v=>v=undef,fun v=>v=undef,fun v=>v=undef,fun v=>v=undef,fun v=>v=undef,fun v=>v=undef,fun v=>v=undef,fun v=>v=undef,fun v=>v=undef,fun v=>v=undef,fun v=>v=undef,fun v=>v=undef,fun v=>v=undef,fun v=>v=undef,fun v=>v=undef,fun v=>v=undef,fun v=>v=undef,fun v=>v=undef,fun v=>v=.bool false]:List (Value→Prop)).getD ix (fun _=>True)) v) (fun (_:Unit) (_:Nat→Bool) W=>Below wr.heap.size wr W) (()) (by kernel_rfl) (by kernel_rfl) (by kernel_rfl) h0 ?hstep ?hend
           case hstep =>
            intro γ ix o ho L ac w1' hD hL hed hcl hout hv
            match ix,ho with
            | 0,ho =>
             simp at ho
             subst ho
             have e11:ac.tmps.getD 11 undef=.int .i64 U:=hout 11 (by decide +kernel)
             exact .inl ⟨rfl,zE γ _ (by simp [go_sem,Act.eval,-Array.getD_eq_getD_getElem?,e11]) rfl hD (fun _ _ _ _ h=>h)⟩
            | 1,ho =>
             simp at ho
             subst ho
             have e20:ac.tmps.getD 20 undef=.int .i64 (q:Int):=hout 20 (by decide +kernel)
             exact .inl ⟨rfl,zE γ _ (by simp [go_sem,Act.eval,-Array.getD_eq_getD_getElem?,e20]) rfl hD (fun _ _ _ _ h=>h)⟩
            | 2,ho =>
             simp at ho
             subst ho
             have e96:ac.tmps.getD 96 undef=_:=hv 0 96 rfl (by kernel_rfl)
             have e97:ac.tmps.getD 97 undef=_:=hv 1 97 rfl (by kernel_rfl)
             refine .inl ⟨rfl,zc 16 #[.int .i64 U,.int .i64 (q:Int)] (by simp [go_sem,Act.eval,-Array.getD_eq_getD_getElem?,e96,e97]) ?_⟩
             refine (zA HHW w1').mono ?_
             rintro e w6 ⟨rfl,hb6⟩
             exact ⟨_,γ,rfl,rfl,hD.trans (hb6.mono hD.size),fun _ _ _ _ h=>h⟩
            | 3,ho =>
             simp at ho
             subst ho
             have e98:ac.tmps.getD 98 undef=_:=hv 2 98 rfl (by kernel_rfl)
             exact .inl ⟨rfl,zE γ _ (by simp [go_sem,Act.eval,-Array.getD_eq_getD_getElem?,e98]) rfl hD (fun _ _ _ _ h=>h)⟩
            | 4,ho =>
             simp at ho
             subst ho
             have e99:ac.tmps.getD 99 undef=_:=hv 3 99 rfl (by kernel_rfl)
             exact .inl ⟨rfl,zE γ _ (by simp [go_sem,Act.eval,-Array.getD_eq_getD_getElem?,e99]) rfl hD (fun _ _ _ _ h=>h)⟩
            | 5,ho =>
             simp at ho
             subst ho
             have eg:ac.tmps.getD 100 undef=.bool !true:=hv 4 100 rfl (by kernel_rfl)
             exact .inr ⟨zS rfl rfl eg,rfl,hD⟩
            | 6,ho =>
             simp at ho
             subst ho
             have eg:ac.tmps.getD 100 undef=.bool !true:=hv 4 100 rfl (by kernel_rfl)
             exact .inr ⟨zS rfl rfl eg,rfl,hD⟩
            | 7,ho =>
             simp at ho
             subst ho
             have eg:ac.tmps.getD 100 undef=.bool !true:=hv 4 100 rfl (by kernel_rfl)
             exact .inr ⟨zS rfl rfl eg,rfl,hD⟩
            | 8,ho =>
             simp at ho
             subst ho
             have eg:ac.tmps.getD 100 undef=.bool !true:=hv 4 100 rfl (by kernel_rfl)
             exact .inr ⟨zS rfl rfl eg,rfl,hD⟩
            | 9,ho =>
             simp at ho
             subst ho
             have eg:ac.tmps.getD 100 undef=.bool !true:=hv 4 100 rfl (by kernel_rfl)
             exact .inr ⟨zS rfl rfl eg,rfl,hD⟩
            | 10,ho =>
             simp at ho
             subst ho
             have eg:ac.tmps.getD 100 undef=.bool !true:=hv 4 100 rfl (by kernel_rfl)
             exact .inr ⟨zS rfl rfl eg,rfl,hD⟩
            | 11,ho =>
             simp at ho
             subst ho
             have eg:ac.tmps.getD 100 undef=.bool !true:=hv 4 100 rfl (by kernel_rfl)
             exact .inr ⟨zS rfl rfl eg,rfl,hD⟩
            | 12,ho =>
             simp at ho
             subst ho
             have eg:ac.tmps.getD 100 undef=.bool !true:=hv 4 100 rfl (by kernel_rfl)
             exact .inr ⟨zS rfl rfl eg,rfl,hD⟩
            | 13,ho =>
             simp at ho
             subst ho
             have eg:ac.tmps.getD 100 undef=.bool !true:=hv 4 100 rfl (by kernel_rfl)
             exact .inr ⟨zS rfl rfl eg,rfl,hD⟩
            | 14,ho =>
             simp at ho
             subst ho
             have eg:ac.tmps.getD 100 undef=.bool !true:=hv 4 100 rfl (by kernel_rfl)
             exact .inr ⟨zS rfl rfl eg,rfl,hD⟩
            | 15,ho =>
             simp at ho
             subst ho
             have eg:ac.tmps.getD 100 undef=.bool !true:=hv 4 100 rfl (by kernel_rfl)
             exact .inr ⟨zS rfl rfl eg,rfl,hD⟩
            | 16,ho =>
             simp at ho
             subst ho
             have eg:ac.tmps.getD 100 undef=.bool !true:=hv 4 100 rfl (by kernel_rfl)
             exact .inr ⟨zS rfl rfl eg,rfl,hD⟩
            | 17,ho =>
             simp at ho
             subst ho
             have eg:ac.tmps.getD 112 undef=undef:=hv 16 112 rfl (by kernel_rfl)
             exact .inr ⟨zAP rfl rfl eg,rfl,hD⟩
            | 18,ho =>
             simp at ho
             subst ho
             have eg:ac.tmps.getD 112 undef=undef:=hv 16 112 rfl (by kernel_rfl)
             exact .inr ⟨zAP rfl rfl eg,rfl,hD⟩
            | 19,ho =>
             simp at ho
             subst ho
             have eg:ac.tmps.getD 112 undef=undef:=hv 16 112 rfl (by kernel_rfl)
             exact .inr ⟨zAP rfl rfl eg,rfl,hD⟩
            | 20,ho =>
             simp at ho
             subst ho
             have eg:ac.tmps.getD 112 undef=undef:=hv 16 112 rfl (by kernel_rfl)
             exact .inr ⟨zAP rfl rfl eg,rfl,hD⟩
            | 21,ho =>
             simp at ho
             subst ho
             have eg:ac.tmps.getD 112 undef=undef:=hv 16 112 rfl (by kernel_rfl)
             exact .inr ⟨zAP rfl rfl eg,rfl,hD⟩
            | 22,ho =>
             simp at ho
             subst ho
             have eg:ac.tmps.getD 112 undef=undef:=hv 16 112 rfl (by kernel_rfl)
             exact .inr ⟨zAP rfl rfl eg,rfl,hD⟩
            | 23,ho =>
             simp at ho
             subst ho
             have eg:ac.tmps.getD 112 undef=undef:=hv 16 112 rfl (by kernel_rfl)
             exact .inr ⟨zAP rfl rfl eg,rfl,hD⟩
            | 24,ho =>
             simp at ho
             subst ho
             have eg:ac.tmps.getD 112 undef=undef:=hv 16 112 rfl (by kernel_rfl)
             exact .inr ⟨zAP rfl rfl eg,rfl,hD⟩
            | 25,ho =>
             simp at ho
             subst ho
             have eg:ac.tmps.getD 112 undef=undef:=hv 16 112 rfl (by kernel_rfl)
             exact .inr ⟨zAP rfl rfl eg,rfl,hD⟩
            | 26,ho =>
             simp at ho
             subst ho
             have eg:ac.tmps.getD 112 undef=undef:=hv 16 112 rfl (by kernel_rfl)
             exact .inr ⟨zAP rfl rfl eg,rfl,hD⟩
            | 27,ho =>
             simp at ho
             subst ho
             have eg:ac.tmps.getD 112 undef=undef:=hv 16 112 rfl (by kernel_rfl)
             exact .inr ⟨zAP rfl rfl eg,rfl,hD⟩
            | 28,ho =>
             simp at ho
             subst ho
             have eg:ac.tmps.getD 100 undef=.bool !true:=hv 4 100 rfl (by kernel_rfl)
             exact .inr ⟨zS rfl rfl eg,rfl,hD⟩
            | 29,ho =>
             simp at ho
             subst ho
             have e100:ac.tmps.getD 100 undef=_:=hv 4 100 rfl (by kernel_rfl)
             exact .inl ⟨rfl,zE γ _ (by simp [go_sem,Act.eval,-Array.getD_eq_getD_getElem?,e100]) rfl hD (fun _ _ _ _ h=>h)⟩
            | ix+30,ho=>simp at ho
           case hend =>
            intro γ v L w13 hD hall hv
            have v29:v 29=.bool false:=hv 29 125 rfl
            have HE:=zB hD
            clear hv hall hD h0
            simp only [zn,List.getElem?_cons_zero,List.getElem?_cons_succ,Option.bind_some,List.length_cons,List.length_nil,Nat.reduceAdd,v29]
            clear v29
            go_frame
            go_wp2
            go_roundw
            case rel=>exact ⟨q+1,by omega,by go_num,(zA HBQ').trans ((zA HE).mono (zA HBQ').size)⟩
            case measure=>simp [intOf];omega
         ·obtain rfl:q=8:=by omega
          have HE:=zB ((zA HL11).trans (hbr.mono (zA HL11).size))
          clear hbr
          go_wp2
          go_roundw
          case rel=>exact ⟨k+1,by omega,by go_num,zA HE⟩
          case measure=>simp [intOf];omega
     ·obtain rfl:k=X.rows.length:=by omega
      have hP9:=(zA HBP).below hbr
      have hQ9:=(zA HBQ).below hbr
      have r0:=hP9.cell 0 rfl 0 rfl
      have v0:=hQ9.cell 0 rfl 0 rfl
      rw [Nat.add_zero] at r0 v0
      have HLE:=zB ((zA HL9).trans (hbr.mono (zA HL9).size))
      cases LF
      ·have hlen:=zA HWL rfl
       clear hP9 hQ9 hbr
       go_wp2
       go_ret
       exact ⟨rfl,zA HLE⟩
      ·clear hP9 hQ9 hbr
       go_wp2
       go_ret
       exact ⟨rfl,zA HLE⟩
theorem hmods_law (M:Option Addr) (mods:List ModI) (mc:Nat) (LD:Option Addr) (l:List DoI) (lc:Nat) (w:World) (hM:GAt zj 3 w M mods) (hL:DosAt w LD l) :
  Calls Tryz.prog 3 #[.slice M mods.length mc,.slice LD l.length lc] w fun e w'=>e=.returned (.bool true)∧Below w.heap.size w w':=by
 by_cases hl:l.length<80
 ·by_cases h:(wmF mods).1=0
  ·exact hmods_ok M mc mods LD lc l w hM hL hl (wm_zero h)
  ·exact hmods_wrong M mc mods LD lc l w hM hL hl h
 ·exact hmods_many M mc mods LD lc l w hM (by omega)
end Go.Proofs.YtnbleebilmghcacGreat
