/- package house: refuses, join. -/
import Derived.Test.YtnbleebilmghcacGreatYHo3
set_option linter.all false
set_option maxHeartbeats 2000000
set_option maxRecDepth 8000
namespace Go.Proofs.YtnbleebilmghcacGreat
open Go Go.RowKit
attribute [local go_sem ↓] Go.wp_at_zero Go.wp_at_succ
def zi (m:ModI):List Value:=[.int .i64 m.rd,.int .i64 m.wr,.bool m.lf]
def zAm (y:ActI):List Value:=[.int .i64 y.k,.int .i64 y.p,.int .i64 y.f,.int .i64 y.n]
theorem modCells_len (m:ModI):(zi m).length=3:=rfl
theorem actCells_len (m:ActI):(zAm m).length=4:=rfl
theorem modCells_one (m:ModI):∀ u∈zi m,u.oneCell'=true:=fun u hu=>by
 simp only [zi,List.mem_cons,List.not_mem_nil,or_false] at hu
 rcases hu with rfl | rfl | rfl <;> rfl
theorem actCells_one (m:ActI):∀ u∈zAm m,u.oneCell'=true:=fun u hu=>by
 simp only [zAm,List.mem_cons,List.not_mem_nil,or_false] at hu
 rcases hu with rfl | rfl | rfl | rfl <;> rfl
def actL (len:Nat) (a:Nat→ActI):List ActI:=(List.range len).map a
theorem actL_len (len:Nat) (a:Nat→ActI):(actL len a).length=len:=by simp [actL]
theorem acts_gat {w:World} {A:Option Addr} {len:Nat} {a:Nat→ActI} (h:ActsAt w A len a):GAt zAm 4 w A (actL len a):=fun j x hx=>by
 have hj:j<len:=by have:=(List.getElem?_eq_some_iff.1 hx).1;rwa [actL_len] at this
 obtain ⟨b,off,h0,h1,h2,h3,h4⟩:=h j hj
 have hxe:x=a j:=by
  have:=hx
  unfold actL at this
  rw [List.getElem?_map,List.getElem?_range hj] at this
  simpa using this.symm
 subst hxe
 refine ⟨b,off,h0,fun i u hu=>?_⟩
 match i,hu with
 | 0,hu=>injection hu with e;subst e;exact h1
 | 1,hu=>injection hu with e;subst e;exact h2
 | 2,hu=>injection hu with e;subst e;exact h3
 | 3,hu=>injection hu with e;subst e;exact h4
 | i+4,hu=>simp [zAm] at hu
theorem gat_acts {w:World} {A:Option Addr} {len:Nat} {a:Nat→ActI} (h:GAt zAm 4 w A (actL len a)):ActsAt w A len a:=fun j hj=>by
 obtain ⟨b,off,h0,hc⟩:=h j (a j) (by unfold actL;rw [List.getElem?_map,List.getElem?_range hj];rfl)
 exact ⟨b,off,h0,hc 0 _ rfl,hc 1 _ rfl,hc 2 _ rfl,hc 3 _ rfl⟩
theorem info95:(Tryz.prog.info? 71).map (fun i=>(i.zero,i.size,i.bytes))=some (some (.agg #[.int .i64 0,.int .i64 0,.int .i64 0,.int .i64 0]),4,32):=by kernel_rfl
theorem info69:(Tryz.prog.info? 48).map (fun i=>(i.zero,i.size,i.bytes))=some (some (.agg #[.int .i64 0,.int .i64 0,.bool false]),3,24):=by kernel_rfl
theorem copied_acts (A:Option Addr) (cap:Nat) (len:Nat) (a:Nat→ActI) (w:World) (hl:len≤1000) (hG:ActsAt w A len a) :
  Calls Tryz.prog 68 #[.slice A len cap] w fun e w'=>∃ A' c,e=.returned (.slice A' len c)∧w'.ownsRow w.heap.size 71 4 (.slice A' len c) len (zAj zAm (actL len a))∧Below w.heap.size w w':=by
 obtain ⟨i3,hi3,hz3,hs3,hb3⟩:=info_parts info95
 have HI:=zB hi3
 have HZ:=zB hz3
 have HS:=zB hs3
 have HB:=zB hb3
 have hcp:=(acts_gat hG).copies actCells_len actCells_one (by decide)
 rw [actL_len] at hcp
 have HG:=zB hcp
 clear hi3 hz3 hs3 hb3 hG hcp
 go_enter Tryz.func68,Tryz.ntmps68
 go_wp2_with ((at_builtin;refine wpList_plain rfl fun _ hK=>zAw w _ _ 42 rfl w.heap.size 71 i3 _ 4 32 Tryz.underlying42 (zA HI) (zA HZ) (zA HS) (zA HB) rfl (by decide) rfl A len cap (zAj zAm (actL len a)) rfl (zA HG) (by unfold maxLen;omega) (by omega) (Nat.le_refl _) fun v' w' h1 h2=>hK _ _ ?_;have HO:=zB h1;have HGR:=zB h2;clear h1 h2))
 go_ret
 obtain ⟨A',c,rfl⟩:=zAb (zA HO)
 exact ⟨A',c,rfl,zA HO,zu (zA HGR) (fun k e=>by cases e) (Nat.le_refl _)⟩
theorem copied_mods (A:Option Addr) (cap:Nat) (mods:List ModI) (w:World) (hl:mods.length≤1000) (hG:GAt zi 3 w A mods) :
  Calls Tryz.prog 27 #[.slice A mods.length cap] w fun e w'=>∃ A' c,e=.returned (.slice A' mods.length c)∧w'.ownsRow w.heap.size 48 3 (.slice A' mods.length c) mods.length (zAj zi mods)∧Below w.heap.size w w':=by
 obtain ⟨i3,hi3,hz3,hs3,hb3⟩:=info_parts info69
 have HI:=zB hi3
 have HZ:=zB hz3
 have HS:=zB hs3
 have HB:=zB hb3
 have hcp:=hG.copies modCells_len modCells_one (by decide)
 have HG:=zB hcp
 clear hi3 hz3 hs3 hb3 hG hcp
 go_enter Tryz.func27,Tryz.ntmps27
 go_wp2_with ((at_builtin;refine wpList_plain rfl fun _ hK=>zAw w _ _ 22 rfl w.heap.size 48 i3 _ 3 24 Tryz.underlying22 (zA HI) (zA HZ) (zA HS) (zA HB) rfl (by decide) rfl A mods.length cap (zAj zi mods) rfl (zA HG) (by unfold maxLen;omega) (by omega) (Nat.le_refl _) fun v' w' h1 h2=>hK _ _ ?_;have HO:=zB h1;have HGR:=zB h2;clear h1 h2))
 go_ret
 obtain ⟨A',c,rfl⟩:=zAb (zA HO)
 exact ⟨A',c,rfl,zA HO,zu (zA HGR) (fun k e=>by cases e) (Nat.le_refl _)⟩
theorem headB_m {m al no:Int} (h:headB m al no=true):0≤m:=by
 unfold headB at h
 simp only [Bool.and_eq_true,decide_eq_true_eq] at h
 omega
theorem refuses_any (p:Nat) (u0 u1 u4:Value) (M:Option Addr) (mc:Nat) (mods:List ModI) (SA:Option Addr) (n sc:Nat) (x:SysI) (w:World) (hB:Bxs p [([u0,u1,.slice M mods.length mc,.slice SA n sc,u4],82)] w) (hM:GAt zi 3 w M mods) (hA:ActsAt w x.A x.len x.a) (hml:mods.length≤6) (hn:n≤12) :
  Calls Tryz.prog 67 #[.pointer (some ⟨p,0,none⟩),sysI x] w fun e w'=>e=.returned (.int .i64 (refF mods n x))∧Below w.heap.size w w':=by
 obtain ⟨m,al,no,A,len,cap,a⟩:=x
 dsimp only at hA
 unfold refF
 have hw:sw ⟨m,al,no,A,len,cap,a⟩=wrF m al no a len:=rfl
 rw [hw]
 dsimp only
 clear hw
 have hVS:=fun W (hb:Below w.heap.size w W)=>wrong_any m al no A len cap a W (hA.below hb)
 have hrs:=fun h=>(zBT m al no a len).1 h
 unfold zCL zAT at hVS
 obtain ⟨e1,he1⟩:∃ e1,e1=(wrF m al no a len).1:=⟨_,rfl⟩
 generalize (wrF m al no a len).2=a1 at *
 rw [←he1] at hVS hrs ⊢
 obtain ⟨rv,hrv⟩:∃ rv,(if e1≠0 then e1 else if (mods.length:Int)≤m then 5 else if mayB (mods.getD m.toNat dM).rd (mods.getD m.toNat dM).wr (mods.getD m.toNat dM).lf al no a len=false then 8 else if 12≤n then 4 else 0)=rv:=⟨_,rfl⟩
 rw [hrv]
 have HRV:=zB hrv
 clear hrv
 have HVS:=zB hVS
 have HRS:=zB hrs
 have HA:=zB hA
 have HM:=zB hM
 clear hVS hrs he1 hA hM
 obtain ⟨W0,hW0,hbx,hX0⟩:=zw w [([.int .i64 m,.int .i64 al,.int .i64 no,.slice A len cap],44)]
 have HW0:Hid (w.alloc (.cells #[.int .i64 m,.int .i64 al,.int .i64 no,.slice A len cap] 44)=W0):=zB hW0
 clear hW0
 have hP0:=hB.below hbx
 have HL0:=zB hbx
 have HX0:=zB hX0
 have HP0:=zB hP0
 have y0:=hX0.cell 0 rfl 0 rfl
 have y1:=hX0.cell 0 rfl 1 rfl
 have y2:=hX0.cell 0 rfl 2 rfl
 have y3:=hX0.cell 0 rfl 3 rfl
 rw [Nat.add_zero] at y0 y1 y2 y3
 clear hbx hX0 hB hP0
 unfold sysI zCL
 go_enter Tryz.func67,Tryz.ntmps67
 go_upto_region 1 with fail
 rw [zA HW0]
 go_wp2_with fail
 go_at_call 53
 refine (zA HVS W0 (zA HL0)).mono ?_
 rintro e w1 ⟨rfl,hb1⟩
 obtain ⟨W2,hW2,hbx,hX2⟩:=zw w1 [([.int .i64 e1,.int .i64 a1],35)]
 have HW2:Hid (w1.alloc (.cells #[.int .i64 e1,.int .i64 a1] 35)=W2):=zB hW2
 clear hW2
 have hb12:=hb1.trans (hbx.mono hb1.size)
 have HL2:=zB ((zA HL0).trans (hb12.mono (zA HL0).size))
 have HX2:=zB ((zA HX0).below hb12)
 have HP2:=zB ((zA HP0).below hb12)
 have f0:=hX2.cell 0 rfl 0 rfl
 rw [Nat.add_zero] at f0
 clear y0 y1 y2 y3 hb1 hbx hb12 hX2 HX0 HP0 HVS
 go_upto_region 2 with fail
 rw [zA HW2]
 by_cases h1:e1=0
 ·subst h1
  obtain ⟨hhd,hl8,_⟩:=zA HRS rfl
  have hm0:0≤m:=headB_m hhd
  obtain ⟨k,rfl⟩:∃ k:Nat,m=(k:Int):=⟨m.toNat,by omega⟩
  rw [Int.toNat_natCast] at HRV
  have hne:Nonempty (Sub W2):=⟨⟨W2,Below.refl _ _⟩⟩
  have y0:=zK ((zA HX2).cell 0 rfl 0 rfl)
  have y1:=zK ((zA HX2).cell 0 rfl 1 rfl)
  have y2:=zK ((zA HX2).cell 0 rfl 2 rfl)
  have y3:=zK ((zA HX2).cell 0 rfl 3 rfl)
  have q2:=zK ((zA HP2).cell 0 rfl 2 rfl)
  have q3:=(zA HP2).cell 0 rfl 3 rfl
  rw [Nat.add_zero] at q3
  simp only [Nat.add_zero] at y0 y1 y2 y3 q2
  by_cases h2:(mods.length:Int)≤(k:Int)
  ·have HH:=zB (show rv=5 by rw [←zA HRV,if_neg (by simp),if_pos h2])
   have d2:decide ((mods.length:Int)≤(k:Int))=true:=decide_eq_true h2
   go_wp2_with fail
   refine zAI (by kernel_rfl) (by kernel_rfl) ?_
   repeat (go_big_quiet_step (fail))
   refine wpQuiet_nil ?_
   rintro w4 ⟨xs,hxs⟩
   have hb4:=xs.bel
   rw [←hxs] at hb4
   have HL4:=zB ((zA HL2).trans (hb4.mono (zA HL2).size))
   clear hxs xs hb4 hne y0 y1 y2 y3 q2 q3 f0
   go_wp2
   go_ret
   have hh:=zA HH
   subst hh
   exact ⟨rfl,zA HL4⟩
  ·have HH2:=zB h2
   have d2:decide ((mods.length:Int)≤(k:Int))=false:=decide_eq_false h2
   have hk:k<mods.length:=by omega
   go_wp2_with fail
   refine zAI (by kernel_rfl) (by kernel_rfl) ?_
   repeat (go_big_quiet_step (fail))
   refine wpQuiet_nil ?_
   rintro w4 ⟨xs,hxs⟩
   have hb4:=xs.bel
   rw [←hxs] at hb4
   have hL4:=(zA HL2).trans (hb4.mono (zA HL2).size)
   have hX4:=(zA HX2).below hb4
   have hP4:=(zA HP2).below hb4
   clear hxs xs hb4 hne y0 y1 y2 y3 q2 q3 f0
   have hne:Nonempty (Sub w4):=⟨⟨w4,Below.refl _ _⟩⟩
   have y0:=zK (hX4.cell 0 rfl 0 rfl)
   have y1:=zK (hX4.cell 0 rfl 1 rfl)
   have y2:=zK (hX4.cell 0 rfl 2 rfl)
   have y3:=zK (hX4.cell 0 rfl 3 rfl)
   have q2:=zK (hP4.cell 0 rfl 2 rfl)
   simp only [Nat.add_zero] at y0 y1 y2 y3 q2
   have hmg:mods[k]?=some (mods.getD k dM):=by rw [List.getD_eq_getElem?_getD,List.getElem?_eq_getElem hk];rfl
   obtain ⟨b,off,hAe,hmc⟩:=((zA HM).below hL4) k _ hmg
   have m0:=zK (hmc 0 _ rfl)
   have m1:=zK (hmc 1 _ rfl)
   have m2:=zK (hmc 2 _ rfl)
   rw [Nat.add_zero] at m0
   have hMY:=fun x:Sub w4=>may_any (mods.getD k dM).rd (mods.getD k dM).wr (mods.getD k dM).lf (k:Int) al no A len cap a x.val hl8 (((zA HA).below hL4).below x.bel)
   unfold modV zCL at hMY
   generalize mods.getD k dM=mm at *
   generalize mayB mm.rd mm.wr mm.lf al no a len=mb at *
   have HMY:=zB hMY
   have HL4:=zB hL4
   have HP4:=zB hP4
   have k0:(0:Int)≤(k:Int):=by omega
   have k1:(k:Int)<(mods.length:Int):=by omega
   subst hAe
   clear hMY hL4 hX4 hP4 hmc hmg hk h2 d2
   cases mb
   ·have HH:=zB (show rv=8 by rw [←zA HRV,if_neg (by simp),if_neg (by have:=zA HH2;omega),if_pos rfl])
    go_wp2_with fail
    refine zAI (by kernel_rfl) (by kernel_rfl) ?_
    repeat (go_big_quiet_step ((go_at_call 97;exact zBI (zA HMY _))))
    refine wpQuiet_nil ?_
    rintro w6 ⟨xs,hxs⟩
    have hb6:=xs.bel
    rw [←hxs] at hb6
    have HL6:=zB ((zA HL4).trans (hb6.mono (zA HL4).size))
    clear hxs xs hb6 hne y0 y1 y2 y3 q2 m0 m1 m2
    go_wp2
    go_ret
    have hh:=zA HH
    subst hh
    exact ⟨rfl,zA HL6⟩
   ·have HH3:=zB (show rv=(if 12≤n then (4:Int) else 0) from (zA HRV).symm.trans ((if_neg (by simp)).trans ((if_neg (by have:=zA HH2;omega)).trans (if_neg (by simp)))))
    go_wp2_with fail
    refine zAI (by kernel_rfl) (by kernel_rfl) ?_
    repeat (go_big_quiet_step ((go_at_call 97;exact zBI (zA HMY _))))
    refine wpQuiet_nil ?_
    rintro w6 ⟨xs,hxs⟩
    have hb6:=xs.bel
    rw [←hxs] at hb6
    have q3:=((zA HP4).below hb6).cell 0 rfl 3 rfl
    rw [Nat.add_zero] at q3
    have HL6:=zB ((zA HL4).trans (hb6.mono (zA HL4).size))
    clear hxs xs hb6 hne y0 y1 y2 y3 q2 m0 m1 m2
    by_cases h4:12≤n
    ·have HH:=zB (show rv=4 by rw [zA HH3,if_pos h4])
     have d4:decide ((12:Int)≤(n:Int))=true:=decide_eq_true (by omega)
     go_wp2
     go_ret
     have hh:=zA HH
     subst hh
     exact ⟨rfl,zA HL6⟩
    ·have HH:=zB (show rv=0 by rw [zA HH3,if_neg h4])
     have d4:decide ((12:Int)≤(n:Int))=false:=decide_eq_false (by omega)
     go_wp2
     go_ret
     have hh:=zA HH
     subst hh
     exact ⟨rfl,zA HL6⟩
 ·have HH:=zB (show rv=e1 by rw [←zA HRV,if_pos h1])
  have hne:(e1 == 0)=false:=by simpa using h1
  go_wp2
  go_ret
  have hh:=zA HH
  subst hh
  exact ⟨rfl,zA HL2⟩
end Go.Proofs.YtnbleebilmghcacGreat
