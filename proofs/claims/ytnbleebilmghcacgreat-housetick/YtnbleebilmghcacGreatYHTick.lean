/- The law HouseTick. -/
import Derived.Test.YtnbleebilmghcacGreatYTkOwn
set_option linter.all false
set_option maxHeartbeats 2000000
set_option maxRecDepth 8000
namespace Go.Proofs.YtnbleebilmghcacGreat
open Go Go.RowKit
attribute [local go_sem ↓] Go.wp_at_zero Go.wp_at_succ
theorem eqFa (a b:Int) (w:World):(Op.equalIn 10000 35 (.agg #[.int .i64 a,.int .i64 b]) (.agg #[.int .i64 a,.int .i64 b])).run Tryz.prog w=.ok true w:=by
 have hS:Tryz.prog.underlying 35=some (.struct (Tryz.prog.fieldsOf 35)):=by kernel_rfl
 rw [show (10000:Nat)=9999+1 from rfl,run_equalIn_agg w 9999 35 _ _ hS (by kernel_rfl)]
 simp only [Program.fieldsOf,Tryz.underlying35]
 go_simp
theorem eqF (a b:Int) (w:World):(binOp .eql 35 (.agg #[.int .i64 a,.int .i64 b]) (.agg #[.int .i64 a,.int .i64 b])).run Tryz.prog w=.ok (.bool true) w:=by
 rw [run_eql_struct,eqFa];rfl
theorem dos_len (l:List DoI):(l++[tickD]).length=l.length+1:=by simp
theorem htick_many (M:Option Addr) (mc:Nat) (mods:List ModI) (LD:Option Addr) (lc:Nat) (l:List DoI) (w:World) (hM:GAt zi 3 w M mods) (hl:80≤l.length) :
  Calls Tryz.prog 4 #[.slice M mods.length mc,.slice LD l.length lc] w fun e w'=>e=.returned (.bool true)∧Below w.heap.size w w':=by
 have d80:decide ((80:Int)≤(l.length:Int))=true:=decide_eq_true (by omega)
 clear hM hl
 go_enter Tryz.func4,Tryz.ntmps4
 go_wp2_with fail
 go_at_call 12
 refine (zBt w).mono ?_
 rintro e w0 ⟨rfl,hb0⟩
 have HL0:=zB hb0
 clear hb0
 go_wp2
 go_ret
 exact ⟨rfl,zA HL0⟩
theorem htick_wrong (M:Option Addr) (mc:Nat) (mods:List ModI) (LD:Option Addr) (lc:Nat) (l:List DoI) (w:World) (hM:GAt zi 3 w M mods) (hL:DosAt w LD l) (hl:l.length<80) (hw:(wmF mods).1≠0) :
  Calls Tryz.prog 4 #[.slice M mods.length mc,.slice LD l.length lc] w fun e w'=>e=.returned (.bool true)∧Below w.heap.size w w':=by
 have hPL:=fun W (hb:Below w.heap.size w W)=>play_wrong M mc mods LD lc l W (hM.below hb) hw
 have hPK:=fun A c W (hb:Below w.heap.size w W)=>play_wrong M mc mods A c (l++[tickD]) W (hM.below hb) hw
 simp only [dos_len] at hPK
 obtain ⟨f0,hf0⟩:∃ f0,f0=(wmF mods).1:=⟨_,rfl⟩
 generalize (wmF mods).2=f1 at *
 rw [←hf0] at hPL hPK hw
 have hne:(f0 == 0)=false:=by simpa using hw
 have hne2:(f0 != 0)=true:=by simpa using hw
 have HPL:=zB hPL
 have HPK:=zB hPK
 have HDL:=zB hL
 have hq:=eqF f0 f1
 have HQ:=zB hq
 clear hPL hPK hM hL hw hf0 hq
 obtain ⟨i46,hi46,hz46,hs46,hb46⟩:=info_parts info46
 have HI:=zB hi46
 have HZ:=zB hz46
 have HS:=zB hs46
 have HBB:=zB hb46
 clear hi46 hz46 hs46 hb46
 have d80:decide ((80:Int)≤(l.length:Int))=false:=decide_eq_false (by omega)
 go_enter Tryz.func4,Tryz.ntmps4
 go_wp2_with fail
 go_at_call 12
 refine (zBt w).mono ?_
 rintro e w0 ⟨rfl,hb0⟩
 have HL0:=zB hb0
 clear hb0
 go_wp2_with fail
 go_at_call 13
 refine (zA HPL w0 (zA HL0)).mono ?_
 rintro e w1 ⟨rfl,hb1⟩
 obtain ⟨W2,hW2,hbx,hX2⟩:=zw w1 [([.slice none 0 0,.slice none 0 0,.slice none 0 0,.slice none 0 0],31),([.int .i64 f0,.int .i64 f1],35)]
 have HW2:Hid ((w1.alloc (.cells #[.slice none 0 0,.slice none 0 0,.slice none 0 0,.slice none 0 0] 31)).alloc (.cells #[.int .i64 f0,.int .i64 f1] 35)=W2):=zB hW2
 clear hW2
 have HL2:=zB ((zA HL0).trans ((hb1.trans (hbx.mono hb1.size)).mono (zA HL0).size))
 have HX2:=zB hX2
 clear hb1 hbx hX2
 go_upto_region 6 with fail
 rw [zA HW2]
 have HE2:=zB (zAs W2 (.cells #[] 46))
 have HCP:=zB (((zA HDL).below ((zA HL2).trans ((zA HE2).mono (zA HL2).size))).at_.copies zCn zBD (by decide))
 go_wp2_with (first
  | (at_builtin;refine wpList_appendC _ rfl (.tmp 27) (.tmp 28) 23 rfl W2.heap.size 46 i46 _ 12 112 Tryz.underlying23 (zA HI) (zA HZ) (zA HS) (zA HBB) rfl (by decide) W2.heap.size rfl (own_empty W2 46 12) LD l.length lc (zAj zx l) rfl (zA HCP) (by unfold maxLen;omega) (by omega) (zA HE2).size ?_;intro v3 w3 ho3 hg3 hw3;obtain ⟨A3,c3,rfl⟩:=zAb ho3;have HB3:=zB ((zA HE2).grown hg3 (zA HE2).size (fun k hk=>by have hk:=Option.some.inj hk;omega));have HO3:=zB ho3;have HNS:=zB (do_new w3 tickD);clear ho3 hg3 hw3)
  | (at_builtin;refine zZ _ rfl (.tmp 29) (.tmp 31) 23 rfl W2.heap.size 46 i46 _ 12 112 Tryz.underlying23 (zA HI) (zA HZ) (zA HS) (zA HBB) rfl (by decide) _ l.length (zAj zx l) rfl ((zA HO3).alloc _) ⟨_,0,none⟩ 1 1 (zx tickD) rfl rfl (zA HNS) (zBD _) (by unfold maxLen;omega) (by omega) (Nat.le_trans (zA HB3).size (zAs _ _).size) (by omega) ?_;intro g4 c4 w4 ho4 hg4 hw4;have HB4:=zB (((zA HB3).alloc (zA HB3).size _).grown hg4 (Nat.le_trans (zA HB3).size (zAs _ _).size) (fun q hq=>((zA HO3).lt q hq).1));have HO4:=zB ho4;clear ho4 hg4 hw4))
 have hL4:=(zA HL2).trans ((zA HB4).mono (zA HL2).size)
 have hD4:DosAt w4 (some ⟨g4,0,none⟩) (l++[tickD]):=dos_own (c:=c4) (by rw [dos_len,zBY];exact zA HO4) (fun d hd=>by
  rcases List.mem_append.1 hd with hd | hd
  ·exact ((zA HDL).acts d hd).below hL4
  ·rw [List.mem_singleton] at hd;subst hd;exact zCq _)
 have HL4:=zB hL4
 have HD4:=zB hD4
 clear hL4 hD4 HCP HO3 HB3 HO4 HE2 HNS
 go_at_call 13
 refine (zA HPK _ _ w4 (zA HL4)).mono ?_
 rintro e w5 ⟨rfl,hb5⟩
 obtain ⟨W6,hW6,hbx,hX6⟩:=zw w5 [([.slice none 0 0,.slice none 0 0,.slice none 0 0,.slice none 0 0],31),([.int .i64 f0,.int .i64 f1],35)]
 have HW6:Hid ((w5.alloc (.cells #[.slice none 0 0,.slice none 0 0,.slice none 0 0,.slice none 0 0] 31)).alloc (.cells #[.int .i64 f0,.int .i64 f1] 35)=W6):=zB hW6
 clear hW6
 have hb56:=hb5.trans (hbx.mono hb5.size)
 have hb46:=(zA HB4).trans (hb56.mono (zA HB4).size)
 have hX26:=(zA HX2).below hb46
 have HL6:=zB ((zA HL4).trans (hb56.mono (zA HL4).size))
 have q0:=hX26.cell 1 rfl 0 rfl
 have q1:=hX26.cell 1 rfl 1 rfl
 have p0:=hX6.cell 1 rfl 0 rfl
 have p1:=hX6.cell 1 rfl 1 rfl
 clear hb5 hbx hb56 hb46 hX26 hX6
 go_upto_region 7 with fail
 rw [zA HW6]
 have hq:=zA HQ
 go_wp2
 go_ret
 exact ⟨rfl,zA HL6⟩
theorem htick_ok (M:Option Addr) (mc:Nat) (mods:List ModI) (LD:Option Addr) (lc:Nat) (l:List DoI) (w:World) (hM:GAt zi 3 w M mods) (hL:DosAt w LD l) (hl:l.length<80) (hw:wmF mods=(0,0)) :
  Calls Tryz.prog 4 #[.slice M mods.length mc,.slice LD l.length lc] w fun e w'=>e=.returned (.bool true)∧Below w.heap.size w w':=by
 have hPL:=fun W (hb:Below w.heap.size w W)=>zBU M mc mods LD lc l W (hM.below hb) (hL.below hb) hw (by omega)
 have hPK:=fun A c W (hb:Below w.heap.size w W) (hD:DosAt W A (l++[tickD]))=>zBU M mc mods A c (l++[tickD]) W (hM.below hb) hD hw (by rw [dos_len];omega)
 have hpk:zAH mods (l++[tickD])=((zAH mods l).1++[(doF mods (zAH mods l).2 tickD).1],(doF mods (zAH mods l).2 tickD).2):=zBx mods l tickD _
 simp only [hpk] at hPK
 simp only [dos_len] at hPK
 have hok:HOk mods (zAH mods l).2:=play_ok l ([],h0) (h0_ok mods)
 have hpl:=zBV mods l ([],h0)
 change (zAH mods l).1.length=_ at hpl
 simp only [List.length_nil,Nat.zero_add] at hpl
 generalize zAH mods l=pf at *
 obtain ⟨pa,h⟩:=pf
 dsimp only at hPL hPK hok hpl
 have hdo:doF mods h tickD=(⟨(tickF h).1.1,0,0,[],if (tickF h).1.1=0 then ((mkB (clS (sOf h.S)) h.S.length).length:Nat) else 0⟩,bec h (tickF h).1.1 (tickF h).2):=rfl
 rw [hdo] at hPK
 obtain ⟨nb,hnb⟩:∃ nb,nb=(if (tickF h).1.1=0 then (((mkB (clS (sOf h.S)) h.S.length).length:Nat):Int) else 0):=⟨_,rfl⟩
 rw [←hnb] at hPK
 dsimp only at hPK
 obtain ⟨X,S⟩:=h
 dsimp only at hPL
 have HPL:=zB hPL
 have HPK:=zB hPK
 have HDL:=zB hL
 have HOK:=zB hok
 have HPA:=zB hpl
 clear hPL hPK hM hL hw hpk hok hdo hnb hpl
 obtain ⟨i46,hi46,hz46,hs46,hb46⟩:=info_parts info46
 have HI:=zB hi46
 have HZ:=zB hz46
 have HS:=zB hs46
 have HBB:=zB hb46
 clear hi46 hz46 hs46 hb46
 have d80:decide ((80:Int)≤(l.length:Int))=false:=decide_eq_false (by omega)
 go_enter Tryz.func4,Tryz.ntmps4
 go_wp2_with fail
 go_at_call 12
 refine (zBt w).mono ?_
 rintro e w0 ⟨rfl,hb0⟩
 have HL0:=zB hb0
 clear hb0
 go_wp2_with fail
 go_at_call 13
 refine (zA HPL w0 (zA HL0)).mono ?_
 rintro e w1 ⟨T1,tc1,G1,gc1,M1,mc1,SA1,sc1,CA1,cc1,ss1,la1,rfl,hST1,_,hSS1,hss1,_,_,hb1⟩
 obtain ⟨W2,hW2,hbx,hX2⟩:=zw w1 [([.slice T1 (zL X).length tc1,.slice G1 X.gens.length gc1,.slice M1 mods.length mc1,.slice SA1 ss1.length sc1],31),([.int .i64 0,.int .i64 0],35)]
 have HW2:Hid ((w1.alloc (.cells #[.slice T1 (zL X).length tc1,.slice G1 X.gens.length gc1,.slice M1 mods.length mc1,.slice SA1 ss1.length sc1] 31)).alloc (.cells #[.int .i64 0,.int .i64 0] 35)=W2):=zB hW2
 clear hW2
 have HL2:=zB ((zA HL0).trans ((hb1.trans (hbx.mono hb1.size)).mono (zA HL0).size))
 have HX2:=zB hX2
 have HST2:=zB (hST1.below hbx)
 have HSS2:=zB (hSS1.below hbx)
 have HEQ:=zB hss1
 clear hb1 hbx hX2 hST1 hSS1 hss1 HPL
 go_upto_region 6 with fail
 rw [zA HW2]
 have HE2:=zB (zAs W2 (.cells #[] 46))
 have HCP:=zB (((zA HDL).below ((zA HL2).trans ((zA HE2).mono (zA HL2).size))).at_.copies zCn zBD (by decide))
 go_wp2_with (first
  | (at_builtin;refine wpList_appendC _ rfl (.tmp 27) (.tmp 28) 23 rfl W2.heap.size 46 i46 _ 12 112 Tryz.underlying23 (zA HI) (zA HZ) (zA HS) (zA HBB) rfl (by decide) W2.heap.size rfl (own_empty W2 46 12) LD l.length lc (zAj zx l) rfl (zA HCP) (by unfold maxLen;omega) (by omega) (zA HE2).size ?_;intro v3 w3 ho3 hg3 hw3;obtain ⟨A3,c3,rfl⟩:=zAb ho3;have HB3:=zB ((zA HE2).grown hg3 (zA HE2).size (fun k hk=>by have hk:=Option.some.inj hk;omega));have HO3:=zB ho3;have HNS:=zB (do_new w3 tickD);clear ho3 hg3 hw3)
  | (at_builtin;refine zZ _ rfl (.tmp 29) (.tmp 31) 23 rfl W2.heap.size 46 i46 _ 12 112 Tryz.underlying23 (zA HI) (zA HZ) (zA HS) (zA HBB) rfl (by decide) _ l.length (zAj zx l) rfl ((zA HO3).alloc _) ⟨_,0,none⟩ 1 1 (zx tickD) rfl rfl (zA HNS) (zBD _) (by unfold maxLen;omega) (by omega) (Nat.le_trans (zA HB3).size (zAs _ _).size) (by omega) ?_;intro g4 c4 w4 ho4 hg4 hw4;have HB4:=zB (((zA HB3).alloc (zA HB3).size _).grown hg4 (Nat.le_trans (zA HB3).size (zAs _ _).size) (fun q hq=>((zA HO3).lt q hq).1));have HO4:=zB ho4;clear ho4 hg4 hw4))
 have hL4:=(zA HL2).trans ((zA HB4).mono (zA HL2).size)
 have hD4:DosAt w4 (some ⟨g4,0,none⟩) (l++[tickD]):=dos_own (c:=c4) (by rw [dos_len,zBY];exact zA HO4) (fun d hd=>by
  rcases List.mem_append.1 hd with hd | hd
  ·exact ((zA HDL).acts d hd).below hL4
  ·rw [List.mem_singleton] at hd;subst hd;exact zCq _)
 have HL4:=zB hL4
 have HD4:=zB hD4
 clear hL4 hD4 HCP HO3 HB3 HO4 HE2 HNS
 go_at_call 13
 refine (zA HPK _ _ w4 (zA HL4) (zA HD4)).mono ?_
 rintro e w5 ⟨T5,tc5,G5,gc5,M5,mc5,SA5,sc5,CA5,cc5,ss5,la5,rfl,hST5,_,_,_,hAN5,hla5,hb5⟩
 obtain ⟨e1,he1⟩:∃ e1,e1=(tickF ⟨X,S⟩).1.1:=⟨_,rfl⟩
 obtain ⟨Y,hY⟩:∃ Y,Y=(tickF ⟨X,S⟩).2:=⟨_,rfl⟩
 obtain ⟨Z,hZ⟩:∃ Z,Z=(bec ⟨X,S⟩ e1 Y).X:=⟨_,rfl⟩
 have eZ:(bec ⟨X,S⟩ (tickF ⟨X,S⟩).1.1 (tickF ⟨X,S⟩).2).X=Z:=by rw [hZ,he1,hY]
 simp only [eZ] at hST5 ⊢
 have hZ0:e1=0→Z=Y:=fun h=>by rw [hZ];unfold bec;rw [if_pos h]
 have hZ1:e1≠0→Z=X:=fun h=>by rw [hZ];unfold bec;rw [if_neg h]
 have hl5:la5.length=l.length+1:=by
  have:=congrArg List.length hla5
  simp only [List.length_map,List.length_append,List.length_cons,List.length_nil,zA HPA] at this
  exact this
 have he5:la5[l.length].1.e=e1:=by
  have:=congrArg (fun q=>q[l.length]?) hla5
  have hpa:=zA HPA
  simp only [List.getElem?_map,List.getElem?_eq_getElem (show l.length<la5.length by omega),List.getElem?_append_right (Nat.le_of_eq hpa),hpa,Nat.sub_self] at this
  have h2:=Option.some.inj this
  show (Prod.fst la5[l.length]).e=e1
  rw [h2,he1]
 have hAL:zAE (fun j=>ss1.getD j dS) ss1.length 0 X=tickF ⟨X,S⟩:=by
  unfold tickF
  have:=zA HEQ
  simp only at this ⊢
  rw [←this,List.length_map,sOf_toP,allTo_toP]
 obtain ⟨W6,hW6,hbx,hX6⟩:=zw w5 [([.slice T5 (zL Z).length tc5,.slice G5 Z.gens.length gc5,.slice M5 mods.length mc5,.slice SA5 ss5.length sc5],31),([.int .i64 0,.int .i64 0],35)]
 have HW6:Hid ((w5.alloc (.cells #[.slice T5 (zL Z).length tc5,.slice G5 Z.gens.length gc5,.slice M5 mods.length mc5,.slice SA5 ss5.length sc5] 31)).alloc (.cells #[.int .i64 0,.int .i64 0] 35)=W6):=zB hW6
 clear hW6
 have hb56:=hb5.trans (hbx.mono hb5.size)
 have hb46:=(zA HB4).trans (hb56.mono (zA HB4).size)
 have hX26:=(zA HX2).below hb46
 have hST26:=(zA HST2).below hb46
 have hL6:=(zA HL4).trans (hb56.mono (zA HL4).size)
 have hn12:ss1.length≤12:=by
  have:=(zA HOK).few
  rw [←zA HEQ,List.length_map] at this
  exact this
 have hALL:=all_any T1 tc1 G1 gc1 (zL X) X SA1 ss1.length sc1 (fun j=>ss1.getD j dS) W6 hST26 (by omega) ((zA HSS2).below hb46)
 rw [hAL,←he1,←hY] at hALL
 generalize (tickF ⟨X,S⟩).1.2=at1 at *
 unfold stV at hALL
 obtain ⟨b7,o7,hCA,hac⟩:=(hAN5.below hbx).at_ l.length _ (List.getElem?_eq_getElem (by omega))
 have y0:=hac 0 _ rfl
 rw [he5,Nat.add_zero] at y0
 subst hCA
 have HY0:=zB y0
 have HALL:=zB hALL
 have HST6:=zB (hST5.below hbx)
 have HSX6:=zB hST26
 have HX26:=zB hX26
 have HX6:=zB hX6
 have HL6:=zB hL6
 have HZ0:=zB hZ0
 have HZ1:=zB hZ1
 rw [hl5]
 have q0:=hX26.cell 1 rfl 0 rfl
 have p0:=hX6.cell 1 rfl 0 rfl
 have r0:=hX26.cell 0 rfl 0 rfl
 have r1:=hX26.cell 0 rfl 1 rfl
 have r3:=hX26.cell 0 rfl 3 rfl
 rw [Nat.add_zero] at r0 r1 r3
 clear hb5 hbx hb56 hb46 hX26 hX6 hST26 hL6 hALL hST5 hAN5 hla5 he5 hac y0 hZ0 hZ1 hZ eZ he1 hY hAL hl5 HX2 HST2 HSS2 HEQ HPK HD4
 go_upto_region 7 with fail
 rw [zA HW6]
 go_wp2_with fail
 go_at_call 17
 refine (zA HALL).mono ?_
 rintro e w7 ⟨T7,tc7,G7,gc7,rfl,hN7,hb7⟩
 obtain ⟨W8,hW8,hbx,hX8⟩:=zw w7 [([.slice T7 (zL Y).length tc7,.slice G7 Y.gens.length gc7],28),([.int .i64 e1,.int .i64 at1],35)]
 have HW8:Hid ((w7.alloc (.cells #[.slice T7 (zL Y).length tc7,.slice G7 Y.gens.length gc7] 28)).alloc (.cells #[.int .i64 e1,.int .i64 at1] 35)=W8):=zB hW8
 clear hW8
 have hb78:=hb7.trans (hbx.mono hb7.size)
 have hL8:=(zA HL6).trans (hb78.mono (zA HL6).size)
 have hX68:=(zA HX6).below hb78
 have hX28:=(zA HX26).below hb78
 have hU:=(zA HST6).below hb78
 have hV:=(zA HSX6).below hb78
 have hN:=(hN7.below hbx).st
 have y0:=zC hb78 (zA HY0)
 have t0:=hX8.cell 0 rfl 0 rfl
 have t1:=hX8.cell 0 rfl 1 rfl
 have t2:=hX8.cell 1 rfl 0 rfl
 rw [Nat.add_zero] at t0 t1
 have l0:(0:Int)≤(l.length:Int):=by omega
 have l1:(l.length:Int)<((l.length+1:Nat):Int):=by omega
 have l2:(l.length:Int)<(l.length:Int)+1:=by omega
 have HL8:=zB hL8
 clear q0 p0 r0 r1 r3 hb7 hbx hb78 hN7 hX8 hL8 HALL HY0
 go_upto_region 10 with fail
 rw [zA HW8]
 by_cases he:e1=0
 ·subst he
  obtain rfl:=zA HZ0 rfl
  obtain ⟨hzl,hzg,_⟩:=zAJ ((zm Z).2 hU.right)
  have hSS:=samest_true T5 tc5 G5 gc5 T7 tc7 G7 gc7 (zL Z) Z.gens W8 hU.few (by omega) (fun t ht=>(hU.each t ht).few) hU.tbs hU.gens hN.tbs hN.gens
  unfold stV at hSS
  have HSS:=zB hSS
  have s0:=hX68.cell 0 rfl 0 rfl
  have s1:=hX68.cell 0 rfl 1 rfl
  rw [Nat.add_zero] at s0 s1
  clear hSS hU hV hN hX68 hX28
  go_wp2_with ((go_at_call 18;refine (zA HSS).mono ?_;rintro e w11 ⟨rfl,hb11⟩;have HLE:=zB ((zA HL8).trans (hb11.mono (zA HL8).size));clear hb11))
  go_ret
  exact ⟨rfl,zA HLE⟩
 ·have hne:(e1 == 0)=false:=by simpa using he
  have hne2:(e1 != 0)=true:=by simpa using he
  obtain rfl:=zA HZ1 he
  obtain ⟨hzl,hzg,_⟩:=zAJ ((zm Z).2 hU.right)
  have hSS:=fun x:Sub W8=>samest_true T5 tc5 G5 gc5 T1 tc1 G1 gc1 (zL Z) Z.gens x.val hU.few (by omega) (fun t ht=>(hU.each t ht).few) (hU.below x.bel).tbs (hU.below x.bel).gens (hV.below x.bel).tbs (hV.below x.bel).gens
  unfold stV at hSS
  have HSS:=zB hSS
  have hsub:Nonempty (Sub W8):=⟨⟨W8,Below.refl _ _⟩⟩
  have s0:=zK (hX68.cell 0 rfl 0 rfl)
  have s1:=zK (hX68.cell 0 rfl 1 rfl)
  have s2:=zK (hX28.cell 0 rfl 0 rfl)
  have s3:=zK (hX28.cell 0 rfl 1 rfl)
  have s4:=zK t2
  have s5:=zK y0
  simp only [Nat.add_zero] at s0 s1 s2 s3
  clear hSS hU hV hN hX68 hX28 he
  go_wp2_with fail
  clear t0 t1 t2 y0
  refine zAI (by kernel_rfl) (by kernel_rfl) ?_
  repeat (go_big_quiet_step ((go_at_call 18;exact zBI (zA HSS _))))
  refine wpQuiet_nil ?_
  rintro w9 ⟨xs,hxs⟩
  have hb9:=xs.bel
  rw [←hxs] at hb9
  have HLE:=zB ((zA HL8).trans (hb9.mono (zA HL8).size))
  clear hxs xs hb9 hsub s0 s1 s2 s3 s4 s5
  go_wp2
  go_ret
  exact ⟨rfl,zA HLE⟩
theorem htick_law (M:Option Addr) (mods:List ModI) (mc:Nat) (LD:Option Addr) (l:List DoI) (lc:Nat) (w:World) (hM:GAt zi 3 w M mods) (hL:DosAt w LD l) :
  Calls Tryz.prog 4 #[.slice M mods.length mc,.slice LD l.length lc] w fun e w'=>e=.returned (.bool true)∧Below w.heap.size w w':=by
 by_cases hl:l.length<80
 ·by_cases h:(wmF mods).1=0
  ·exact htick_ok M mc mods LD lc l w hM hL hl (wm_zero h)
  ·exact htick_wrong M mc mods LD lc l w hM hL hl h
 ·exact htick_many M mc mods LD lc l w hM (by omega)
end Go.Proofs.YtnbleebilmghcacGreat
