/- The law HouseRight. -/
import Derived.Test.YtnbleebilmghcabGreatYHo13
set_option linter.all false
set_option maxHeartbeats 2000000
set_option maxRecDepth 8000
namespace Go.Proofs.YtnbleebilmghcabGreat
open Go Go.RowKit
attribute [local go_sem ↓] Go.wp_at_zero Go.wp_at_succ
theorem run_fieldF (a b:Value) (w:World):Sem.run Tryz.prog (Instr.field 29 (.agg #[a,b]) 0) w=.ok a w:=by kernel_rfl
theorem wmTo_zero (m:List ModI):∀ n j,(wmTo m n j).1=0→wmTo m n j=(0,0)
 | 0,_,_=>rfl
 | n+1,j,h=>by
  rw [wmTo] at h ⊢
  split at h
  ·rename_i hc
   rw [if_pos hc]
   exact wmTo_zero m n (j+1) h
  ·cases h
theorem wm_zero {m:List ModI} (h:(wmF m).1=0):wmF m=(0,0):=by
 unfold wmF at h ⊢
 split at h
 ·cases h
 ·rename_i hc
  rw [if_neg hc]
  exact wmTo_zero m _ _ h
theorem hright_wrong (M:Option Addr) (mc:Nat) (mods:List ModI) (LD:Option Addr) (lc:Nat) (l:List DoI) (w:World) (hM:GAt modCells 3 w M mods) (hw:(wmF mods).1≠0) :
  Calls Tryz.prog 6 #[.slice M mods.length mc,.slice LD l.length lc] w fun e w'=>e=.returned (.bool true)∧Below w.heap.size w w':=by
 have hPL:=fun W (hb:Below w.heap.size w W)=>play_wrong M mc mods LD lc l W (hM.below hb) hw
 obtain ⟨f0,hf0⟩:∃ f0,f0=(wmF mods).1:=⟨_,rfl⟩
 generalize (wmF mods).2=f1 at *
 rw [←hf0] at hPL hw
 have hne:(f0 == 0)=false:=by simpa using hw
 clear hw hf0
 have HPL:=hide hPL
 clear hPL hM
 go_enter Tryz.func6,Tryz.ntmps6
 go_wp2_with fail
 go_at_call 21
 refine (alive7_any w).mono ?_
 rintro e w0 ⟨rfl,hb0⟩
 have HL0:=hide hb0
 clear hb0
 go_wp2_with fail
 go_at_call 15
 refine (unhide HPL w0 (unhide HL0)).mono ?_
 rintro e w1 ⟨rfl,hb1⟩
 obtain ⟨W2,hW2,hbx,hX2⟩:=boxed w1 [([.slice none 0 0,.slice none 0 0,.slice none 0 0,.slice none 0 0],53),([.int .i64 f0,.int .i64 f1],29)]
 have HW2:Hid ((w1.alloc (.cells #[.slice none 0 0,.slice none 0 0,.slice none 0 0,.slice none 0 0] 53)).alloc (.cells #[.int .i64 f0,.int .i64 f1] 29)=W2):=hide hW2
 clear hW2
 have HL2:=hide ((unhide HL0).trans ((hb1.trans (hbx.mono hb1.size)).mono (unhide HL0).size))
 have HSZ:=hide (samehouse_zero W2)
 have q0:=hX2.cell 1 rfl 0 rfl
 have z0:=hX2.cell 0 rfl 0 rfl
 have z1:=hX2.cell 0 rfl 1 rfl
 have z2:=hX2.cell 0 rfl 2 rfl
 have z3:=hX2.cell 0 rfl 3 rfl
 rw [Nat.add_zero] at z0 z1 z2 z3
 clear hb1 hbx hX2 HPL
 go_upto_region 4 with fail
 rw [unhide HW2]
 go_wp2_with ((go_at_call 19;refine (unhide HSZ).mono ?_;rintro e w3 ⟨rfl,hb3⟩;have HL3:=hide ((unhide HL2).trans (hb3.mono (unhide HL2).size));clear hb3))
 go_ret
 exact ⟨rfl,unhide HL3⟩
theorem hright_many (M:Option Addr) (mc:Nat) (mods:List ModI) (LD:Option Addr) (lc:Nat) (l:List DoI) (w:World) (hM:GAt modCells 3 w M mods) (hw:wmF mods=(0,0)) (hl:80<l.length) :
  Calls Tryz.prog 6 #[.slice M mods.length mc,.slice LD l.length lc] w fun e w'=>e=.returned (.bool true)∧Below w.heap.size w w':=by
 have hPL:=fun W (hb:Below w.heap.size w W)=>play_many M mc mods LD lc l W (hM.below hb) hw hl
 clear hw hl
 have HPL:=hide hPL
 clear hPL hM
 go_enter Tryz.func6,Tryz.ntmps6
 go_wp2_with fail
 go_at_call 21
 refine (alive7_any w).mono ?_
 rintro e w0 ⟨rfl,hb0⟩
 have HL0:=hide hb0
 clear hb0
 go_wp2_with fail
 go_at_call 15
 refine (unhide HPL w0 (unhide HL0)).mono ?_
 rintro e w1 ⟨rfl,hb1⟩
 obtain ⟨W2,hW2,hbx,hX2⟩:=boxed w1 [([.slice none 0 0,.slice none 0 0,.slice none 0 0,.slice none 0 0],53),([.int .i64 4,.int .i64 0],29)]
 have HW2:Hid ((w1.alloc (.cells #[.slice none 0 0,.slice none 0 0,.slice none 0 0,.slice none 0 0] 53)).alloc (.cells #[.int .i64 4,.int .i64 0] 29)=W2):=hide hW2
 clear hW2
 have HL2:=hide ((unhide HL0).trans ((hb1.trans (hbx.mono hb1.size)).mono (unhide HL0).size))
 have HSZ:=hide (samehouse_zero W2)
 have q0:=hX2.cell 1 rfl 0 rfl
 have z0:=hX2.cell 0 rfl 0 rfl
 have z1:=hX2.cell 0 rfl 1 rfl
 have z2:=hX2.cell 0 rfl 2 rfl
 have z3:=hX2.cell 0 rfl 3 rfl
 rw [Nat.add_zero] at z0 z1 z2 z3
 clear hb1 hbx hX2 HPL
 go_upto_region 4 with fail
 rw [unhide HW2]
 go_wp2_with ((go_at_call 19;refine (unhide HSZ).mono ?_;rintro e w3 ⟨rfl,hb3⟩;have HL3:=hide ((unhide HL2).trans (hb3.mono (unhide HL2).size));clear hb3))
 go_ret
 exact ⟨rfl,unhide HL3⟩
theorem hright_ok (M:Option Addr) (mc:Nat) (mods:List ModI) (LD:Option Addr) (lc:Nat) (l:List DoI) (w:World) (hM:GAt modCells 3 w M mods) (hL:DosAt w LD l) (hw:wmF mods=(0,0)) (hl:l.length≤80) :
  Calls Tryz.prog 6 #[.slice M mods.length mc,.slice LD l.length lc] w fun e w'=>e=.returned (.bool true)∧Below w.heap.size w w':=by
 have hPL:=fun W (hb:Below w.heap.size w W)=>play_right M mc mods LD lc l W (hM.below hb) (hL.below hb) hw hl
 have hok:HOk mods (playF mods l).2:=play_ok l ([],h0) (h0_ok mods)
 generalize playF mods l=pf at *
 obtain ⟨pa,X,S⟩:=pf
 dsimp only at hPL hok
 have hfl:=run_fieldF
 have HFL:=hide hfl
 have HPL:=hide hPL
 have HOK:=hide hok
 have HM:=hide hM
 clear hPL hok hM hL hw hfl
 go_enter Tryz.func6,Tryz.ntmps6
 go_wp2_with fail
 go_at_call 21
 refine (alive7_any w).mono ?_
 rintro e w0 ⟨rfl,hb0⟩
 have HL0:=hide hb0
 clear hb0
 go_wp2_with fail
 go_at_call 15
 refine (unhide HPL w0 (unhide HL0)).mono ?_
 rintro e w1 ⟨T,tc,G,gc,M',mc',SA,sc,CA,cc,ss,la,rfl,hST,_,hSS,hss,_,_,hb1⟩
 obtain ⟨W2,hW2,hbx,hX2⟩:=boxed w1 [([.slice T (tabsW X).length tc,.slice G X.gens.length gc,.slice M' mods.length mc',.slice SA ss.length sc],53),([.int .i64 0,.int .i64 0],29)]
 have HW2:Hid ((w1.alloc (.cells #[.slice T (tabsW X).length tc,.slice G X.gens.length gc,.slice M' mods.length mc',.slice SA ss.length sc] 53)).alloc (.cells #[.int .i64 0,.int .i64 0] 29)=W2):=hide hW2
 clear hW2
 have HL2:=hide ((unhide HL0).trans ((hb1.trans (hbx.mono hb1.size)).mono (unhide HL0).size))
 have HST:=hide (hST.below hbx)
 have HSS:=hide (hSS.below hbx)
 have HEQ:=hide hss
 have hn12:ss.length≤12:=by
  have:=(unhide HOK).few
  rw [←hss,List.length_map] at this
  exact this
 have hrf:∀ j,j<ss.length→refF mods 0 (ss.getD j dS)=0:=fun j hj=>by
  have hm:toP (ss.getD j dS)∈S:=by rw [←hss];exact List.mem_map.2 ⟨_,mem_getD hj,rfl⟩
  exact (refF_toP mods 0 _).symm.trans ((unhide HOK).sys _ hm)
 have HRF:=hide hrf
 have HX2:=hide hX2
 have q0:=hX2.cell 1 rfl 0 rfl
 have z3:=hX2.cell 0 rfl 3 rfl
 rw [Nat.add_zero] at z3
 clear hb1 hbx hX2 hST hSS hss hrf HPL
 go_upto_region 4 with fail
 rw [unhide HW2]
 go_wp2_with fail
 clear q0 z3
 go_loopw [28] (fun x wr=>∃ k:Nat,k≤ss.length∧x=.int .i64 (k:Int)∧Below W2.heap.size W2 wr) (fun x _=>ss.length - (intOf x).toNat)
 case atStart=>exact ⟨0,Nat.zero_le _,rfl,Below.refl _ _⟩
 case round =>
  obtain ⟨j,hj,rfl,hbr⟩:=hrel
  by_cases hlt:j<ss.length
  ·have j0:(0:Int)≤(j:Int):=by omega
   have j1:(j:Int)<(ss.length:Int):=by omega
   obtain ⟨wk,rfl⟩:∃ wk,wk=wr:=⟨_,rfl⟩
   obtain ⟨b4,o4,hSA,hsys⟩:=((unhide HSS).below hbr) j hlt
   have hsys:SysAt wk b4 (o4+j*4) (ss.getD j dS):=hsys
   have hr:=unhide HRF j hlt
   generalize ss.getD j dS=s at *
   obtain ⟨y0,y1,y2,y3,hact⟩:=hsys
   obtain ⟨h1,h2,h3,_⟩:=refF_zero hr
   obtain ⟨m,al,no,sA0,sl,scp,sa⟩:=s
   dsimp only at y0 y1 y2 y3 hact h2 h3
   have h1:(wrF m al no sa sl).1=0:=h1
   obtain ⟨hhd,hl8,_⟩:=(right_spec m al no sa sl).1 h1
   have hm0:0≤m:=headB_m hhd
   obtain ⟨k,rfl⟩:∃ k:Nat,m=(k:Int):=⟨m.toNat,by omega⟩
   rw [Int.toNat_natCast] at h3
   have hk:k<mods.length:=by omega
   obtain ⟨W3,hW3,hbx,hX3⟩:=boxed wk [([.int .i64 (k:Int),.int .i64 al,.int .i64 no,.slice sA0 sl scp],37)]
   have HW3:Hid (wk.alloc (.cells #[.int .i64 (k:Int),.int .i64 al,.int .i64 no,.slice sA0 sl scp] 37)=W3):=hide hW3
   clear hW3
   have hb3:=hbr.trans (hbx.mono hbr.size)
   have hL3:=(unhide HL2).trans (hb3.mono (unhide HL2).size)
   have hWR:=fun x:Sub W3=>wrong_any (k:Int) al no sA0 sl scp sa x.val ((hact.below hbx).below x.bel)
   have hMY:=fun x:Sub W3=>may_any (mods.getD k dM).rd (mods.getD k dM).wr (mods.getD k dM).lf (k:Int) al no sA0 sl scp sa x.val hl8 ((hact.below hbx).below x.bel)
   rw [h3] at hMY
   unfold modV sysV at hMY
   unfold sysV faultV at hWR
   rw [h1] at hWR
   generalize (wrF (k:Int) al no sa sl).2=wa at *
   have hne:Nonempty (Sub W3):=⟨⟨W3,Below.refl _ _⟩⟩
   have s0:=sub_cell (hX3.cell 0 rfl 0 rfl)
   have s1:=sub_cell (hX3.cell 0 rfl 1 rfl)
   have s2:=sub_cell (hX3.cell 0 rfl 2 rfl)
   have s3:=sub_cell (hX3.cell 0 rfl 3 rfl)
   simp only [Nat.add_zero] at s0 s1 s2 s3
   have hmg:mods[k]?=some (mods.getD k dM):=by rw [List.getD_eq_getElem?_getD,List.getElem?_eq_getElem hk];rfl
   obtain ⟨bm,om,hMe,hmc⟩:=((unhide HM).below hL3) k _ hmg
   have m0:=sub_cell (hmc 0 _ rfl)
   have m1:=sub_cell (hmc 1 _ rfl)
   have m2:=sub_cell (hmc 2 _ rfl)
   rw [Nat.add_zero] at m0
   generalize mods.getD k dM=mm at *
   have k0:(0:Int)≤(k:Int):=by omega
   have k1:(k:Int)<(mods.length:Int):=by omega
   have d1:decide ((mods.length:Int)≤(k:Int))=false:=decide_eq_false (by omega)
   have d1n:decide (mods.length≤k)=false:=decide_eq_false (by omega)
   have HWR:=hide hWR
   have HMY:=hide hMY
   have HB3:=hide hb3
   subst hSA
   subst hMe
   clear hWR hMY hb3 hL3 hX3 hbx hbr hmc hmg hact h1 h2 h3 hr hhd hl8 hm0 hk
   have hfl:=unhide HFL
   go_upto_region 9 with fail
   rw [unhide HW3]
   clear y0 y1 y2 y3
   refine wp_region_sub (by kernel_rfl) (by kernel_rfl) ?_
   repeat (go_big_quiet_step ((first
    | (go_at_call 22;exact sub_bel (unhide HWR _))
    | (go_at_call 23;exact sub_bel (unhide HMY _)))))
   refine wpQuiet_nil ?_
   rintro w4 ⟨xs,hxs⟩
   have hb4:=xs.bel
   rw [←hxs] at hb4
   have HB4:=hide ((unhide HB3).trans (hb4.mono (unhide HB3).size))
   clear hxs xs hb4 hne s0 s1 s2 s3 m0 m1 m2 hfl
   go_wp2
   go_roundw
   case rel=>exact ⟨j+1,by omega,by go_num,unhide HB4⟩
   case measure=>simp [intOf];omega
  ·have dj:decide ((j:Int)<(ss.length:Int))=false:=decide_eq_false (by omega)
   have hX9:=(unhide HX2).below hbr
   have hSW:=swrong_any T tc G gc (tabsW X) X wr ((unhide HST).below hbr)
   unfold stV at hSW
   have HSW:=hide hSW
   have HL9:=hide ((unhide HL2).trans (hbr.mono (unhide HL2).size))
   have z0:=hX9.cell 0 rfl 0 rfl
   have z1:=hX9.cell 0 rfl 1 rfl
   rw [Nat.add_zero] at z0 z1
   have HX9:=hide hX9
   have d12:decide ((ss.length:Int)≤12)=true:=decide_eq_true (by omega)
   clear hX9 hSW hbr
   go_wp2_with fail
   go_at_call 24
   refine (unhide HSW).mono ?_
   rintro e w5 ⟨rfl,hb5⟩
   have HLE:=hide ((unhide HL9).trans (hb5.mono (unhide HL9).size))
   have z3:=((unhide HX9).below hb5).cell 0 rfl 3 rfl
   rw [Nat.add_zero] at z3
   clear z0 z1 hb5
   have hfl:=unhide HFL
   go_wp2
   go_ret
   exact ⟨rfl,unhide HLE⟩
theorem hright_law (M:Option Addr) (mods:List ModI) (mc:Nat) (LD:Option Addr) (l:List DoI) (lc:Nat) (w:World) (hM:GAt modCells 3 w M mods) (hL:DosAt w LD l) :
  Calls Tryz.prog 6 #[.slice M mods.length mc,.slice LD l.length lc] w fun e w'=>e=.returned (.bool true)∧Below w.heap.size w w':=by
 by_cases h:(wmF mods).1=0
 ·have hw:wmF mods=(0,0):=wm_zero h
  by_cases hl:l.length≤80
  ·exact hright_ok M mc mods LD lc l w hM hL hw hl
  ·exact hright_many M mc mods LD lc l w hM hw (by omega)
 ·exact hright_wrong M mc mods LD lc l w hM h
end Go.Proofs.YtnbleebilmghcabGreat
