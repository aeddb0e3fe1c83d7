/- The law TopBatches. -/
import Derived.Test.YtnbleebilmghcacGreatTTpTwo
import Derived.Test.YtnbleebilmghcacGreatTTbMath
set_option linter.all false
set_option maxHeartbeats 2000000
set_option maxRecDepth 8000
namespace Go.Proofs.YtnbleebilmghcacGreat
open Go Go.RowKit
attribute [local go_sem ↓] Go.wp_at_zero Go.wp_at_succ
theorem one_play {B M g c i:Nat} {u:Value} {l lb:List DoI} {W:World} {x:AnsI} (hR:R2 B (.slice (some ⟨g,0,none⟩) l.length c) u l lb W) (hM:Bxs M [([.int .i64 255,.int .i64 255,.bool true],48)] W) (hl:l.length≤80) (hx:(zBJ mAll l).1[i]?=some x) :
  Calls Tryz.prog 13 #[.slice (some ⟨M,0,none⟩) 1 1,.slice (some ⟨g,0,none⟩) l.length c] W fun e w'=>∃ (T:Option Addr) (t tc:Nat) (G:Option Addr) (q gc:Nat) (M':Option Addr) (m mc:Nat) (S:Option Addr) (s sc:Nat) (b off cc:Nat),e=.returned (.tuple #[.agg #[.slice T t tc,.slice G q gc,.slice M' m mc,.slice S s sc],.slice (some ⟨b,off,none⟩) l.length cc,.agg #[.int .i64 0,.int .i64 0]])∧w'.cell? ⟨b,off+i*5+4,none⟩=some (.int .i64 x.n)∧W.heap.size≤b∧Below W.heap.size W w':=by
 refine (play_own (some ⟨M,0,none⟩) 1 mAll (some ⟨g,0,none⟩) c l W (all_mods hM) hR.dos (by decide +kernel) hl).mono ?_
 rintro e w' ⟨T,tc,G,gc,M',mc',SA,sc,CA,cc,ss,la,rfl,_,_,_,_,hAN,hla,hb,hC⟩
 have hll:la.length=l.length:=by
  have h1:=congrArg List.length hla
  have h2:=playTo_len mAll l ([],h0)
  rw [List.length_map] at h1
  unfold zBJ at h1
  rw [h1,h2]
  simp
 obtain ⟨y,hy,rfl⟩:∃ y,la[i]?=some y∧y.1=x:=by
  rw [←hla,List.getElem?_map] at hx
  cases h:la[i]? with
  | none=>rw [h] at hx;cases hx
  | some y=>rw [h] at hx;exact ⟨y,rfl,Option.some.inj hx⟩
 obtain ⟨b,off,rfl,hc⟩:=hAN.at_ _ _ hy
 rw [hll]
 exact ⟨T,_,tc,G,_,gc,M',_,mc',SA,_,sc,b,off,cc,rfl,hc 4 _ rfl,hC b rfl,hb⟩
theorem tbat_lo (n:Int) (h:n<1) (w:World) :
  Calls Tryz.prog 11 #[.int .i64 n] w fun e w'=>e=.returned (.bool true)∧Below w.heap.size w w':=by
 have d0:decide (n<1)=true:=decide_eq_true h
 clear h
 go_enter Tryz.func11,Tryz.ntmps11
 go_wp2_with fail
 go_at_call 20
 refine (alive8_any w).mono ?_
 rintro e w0 ⟨rfl,hb0⟩
 have HL0:=zB hb0
 clear hb0
 go_wp2
 go_ret
 exact ⟨rfl,zA HL0⟩
theorem tbat_hi (n:Int) (h:8<n) (w:World) :
  Calls Tryz.prog 11 #[.int .i64 n] w fun e w'=>e=.returned (.bool true)∧Below w.heap.size w w':=by
 have d0:decide (n<1)=false:=decide_eq_false (by omega)
 have d1:decide (8<n)=true:=decide_eq_true h
 clear h
 go_enter Tryz.func11,Tryz.ntmps11
 go_wp2_with fail
 go_at_call 20
 refine (alive8_any w).mono ?_
 rintro e w0 ⟨rfl,hb0⟩
 have HL0:=zB hb0
 clear hb0
 go_wp2
 go_ret
 exact ⟨rfl,zA HL0⟩
theorem tbat_ok (n:Nat) (h0:0<n) (hn:n≤8) (w:World) :
  Calls Tryz.prog 11 #[.int .i64 (n:Int)] w fun e w'=>e=.returned (.bool true)∧Below w.heap.size w w':=by
 have d0:decide ((n:Int)<1)=false:=decide_eq_false (by omega)
 have d1:decide ((8:Int)<(n:Int))=false:=decide_eq_false (by omega)
 obtain ⟨i46,hi46,hz46,hs46,hb46⟩:=info_parts info46
 have HI:=zB hi46
 have HZ:=zB hz46
 have HS:=zB hs46
 have HBB:=zB hb46
 have HAL:=zB tall_any
 clear hi46 hz46 hs46 hb46
 go_enter Tryz.func11,Tryz.ntmps11
 go_wp2_with fail
 go_at_call 20
 refine (alive8_any w).mono ?_
 rintro e w0 ⟨rfl,hb0⟩
 have HL0:=zB hb0
 clear hb0
 go_wp2_with fail
 go_loopw [3,4,21] (fun v u x wr=>∃ (k:Nat) (γ δ:Nat→Nat),k≤n∧x=.int .i64 (k:Int)∧R2 w0.heap.size v u (btA k γ) (btB k δ) wr∧Below w0.heap.size w0 wr) (fun _ _ x _=>n - (intOf x).toNat)
 case atStart=>exact ⟨0,fun _=>0,fun _=>0,Nat.zero_le _,rfl,R2.nil _ _,Below.refl _ _⟩
 case round =>
  obtain ⟨k,γ,δ,hk,rfl,hr,hbw⟩:=hrel
  have HLNA:=zB (bt_len k γ).1
  have HLNB:=zB (bt_len k δ).2
  by_cases hlt:k<n
  ·have k1:(k:Int)<(n:Int):=by omega
   have k0:(0:Int)≤(k:Int):=by omega
   have HR:=zB hr
   have HBW:=zB hbw
   have HSZ:=zB hbw.size
   have hsh:wrap64 (2 ^ k)=zBA (k:Int):=by
    rcases (by omega:k=0∨k=1∨k=2∨k=3∨k=4∨k=5∨k=6∨k=7) with rfl | rfl | rfl | rfl | rfl | rfl | rfl | rfl <;> decide +kernel
   clear hr hbw
   obtain ⟨W1,hW1,hbx,hX1⟩:=zAL wr [([.int .i64 4,.int .i64 (k:Int),.int .i64 0,.int .i64 1],71)]
   have HW1:Hid (wr.alloc (.cells #[.int .i64 4,.int .i64 (k:Int),.int .i64 0,.int .i64 1] 71)=W1):=zB hW1
   clear hW1
   have hXX:=hX1
   have HSY:=zB (tsys_any (zBA (k:Int)) (some ⟨wr.heap.size,0,none⟩) 1 1)
   go_wp2_with fail
   go_at_call 22
   rw [zA HW1]
   try rw [hsh]
   refine (zA HSY W1).mono ?_
   rintro e w2 ⟨rfl,hb2⟩
   have hbb:=hbx.trans (hb2.mono hbx.size)
   have HNS:=zB (do_new w2 (sysD (zBA (k:Int)) ⟨4,(k:Int),0,1⟩ wr.heap.size))
   have HA1:=zB (act1_sys (B:=w0.heap.size) (need:=(zBA (k:Int))) (y:=⟨4,(k:Int),0,1⟩) (zA HSZ) ((hXX.below hb2).below (zAS _ (.cells (zAb (sysD (zBA (k:Int)) ⟨4,(k:Int),0,1⟩ wr.heap.size)).toArray 46))))
   have HRB:=zB (((zA HR)).below hbb)
   have HBB2:=zB ((zA HBW).trans (hbb.mono (zA HSZ)))
   have HSZ2:=zB (Nat.le_trans (zA HSZ) hbb.size)
   clear hbx hXX hX1 hbb hb2 HSY HR HBW HSZ
   go_wp2_with (first
    | (at_builtin;refine zZ _ rfl (.tmp 24) (.tmp 31) 23 rfl w0.heap.size 46 i46 _ 12 112 Tryz.underlying23 (zA HI) (zA HZ) (zA HS) (zA HBB) rfl (by decide) _ _ _ rfl ((zA HRB).below (zAS _ _)).l ⟨_,0,none⟩ 1 1 (zAb (sysD (zBA (k:Int)) ⟨4,(k:Int),0,1⟩ wr.heap.size)) rfl rfl (zA HNS) (zCc _) (by unfold maxLen;rw [zA HLNA];omega) (by rw [zA HLNA];omega) (Nat.le_trans (zA HSZ2) (zAS _ _).size) (by omega) ?_;intro g3 c3 w3 ho3 hg3 hw3;have HR3:=zB (((zA HRB).below (zAS _ _)).push ho3 hg3 hw3 (zA HA1));have HF3:=zB (((zAS w2 _).mono (zA HSZ2)).trans (((zA HRB).below (zAS _ _)).from (Nat.le_trans (zA HSZ2) (zAS _ _).size) hg3));clear ho3 hg3 hw3))
   have HBW:=zB ((zA HBB2).trans (zA HF3))
   have HSZ:=zB (Nat.le_trans (zA HSZ2) (zA HF3).size)
   clear HNS HA1 HRB HBB2 HSZ2 HF3
   obtain ⟨W4,hW4,hbx,hX4⟩:=zAL w3 [([.int .i64 4,.int .i64 0,.int .i64 0,.int .i64 1],71)]
   have HW4:Hid (w3.alloc (.cells #[.int .i64 4,.int .i64 0,.int .i64 0,.int .i64 1] 71)=W4):=zB hW4
   clear hW4
   have hXX:=hX4
   have HSY:=zB (tsys_any 1 (some ⟨w3.heap.size,0,none⟩) 1 1)
   go_wp2_with fail
   go_at_call 22
   rw [zA HW4]
   try rw [hsh]
   refine (zA HSY W4).mono ?_
   rintro e w5 ⟨rfl,hb5⟩
   have hbb:=hbx.trans (hb5.mono hbx.size)
   have HNS:=zB (do_new w5 (sysD 1 ⟨4,0,0,1⟩ w3.heap.size))
   have HA1:=zB (act1_sys (B:=w0.heap.size) (need:=1) (y:=⟨4,0,0,1⟩) (zA HSZ) ((hXX.below hb5).below (zAS _ (.cells (zAb (sysD 1 ⟨4,0,0,1⟩ w3.heap.size)).toArray 46))))
   have HRB:=zB (((zA HR3).swap).below hbb)
   have HBB2:=zB ((zA HBW).trans (hbb.mono (zA HSZ)))
   have HSZ2:=zB (Nat.le_trans (zA HSZ) hbb.size)
   clear hbx hXX hX4 hbb hb5 HSY HR3 HBW HSZ
   go_wp2_with (first
    | (at_builtin;refine zZ _ rfl (.tmp 33) (.tmp 37) 23 rfl w0.heap.size 46 i46 _ 12 112 Tryz.underlying23 (zA HI) (zA HZ) (zA HS) (zA HBB) rfl (by decide) _ _ _ rfl ((zA HRB).below (zAS _ _)).l ⟨_,0,none⟩ 1 1 (zAb (sysD 1 ⟨4,0,0,1⟩ w3.heap.size)) rfl rfl (zA HNS) (zCc _) (by unfold maxLen;rw [zA HLNB];omega) (by rw [zA HLNB];omega) (Nat.le_trans (zA HSZ2) (zAS _ _).size) (by omega) ?_;intro g6 c6 w6 ho6 hg6 hw6;have HR6:=zB (((zA HRB).below (zAS _ _)).push ho6 hg6 hw6 (zA HA1));have HF6:=zB (((zAS w5 _).mono (zA HSZ2)).trans (((zA HRB).below (zAS _ _)).from (Nat.le_trans (zA HSZ2) (zAS _ _).size) hg6));clear ho6 hg6 hw6))
   have HBW:=zB ((zA HBB2).trans (zA HF6))
   have HSZ:=zB (Nat.le_trans (zA HSZ2) (zA HF6).size)
   clear HNS HA1 HRB HBB2 HSZ2 HF6
   go_roundw
   case rel=>exact ⟨k+1,fun j=>if j=k then wr.heap.size else γ j,fun j=>if j=k then w3.heap.size else δ j,by omega,by go_num,by rw [btA_succ,btB_succ];exact (zA HR6).swap,zA HBW⟩
   case measure=>simp [intOf];omega
  ·obtain rfl:k=n:=by omega
   have dk:decide ((k:Int)<(k:Int))=false:=decide_eq_false (by omega)
   obtain ⟨w6,rfl⟩:∃ w6,w6=wr:=⟨_,rfl⟩
   have HR:=zB hr
   have HBW:=zB hbw
   have HSZ:=zB hbw.size
   clear hr hbw
   go_wp2_with fail
   go_at_call 23
   refine (zA HAL w6).mono ?_
   rintro e waP ⟨rfl,hMa,hba⟩
   have HNS:=zB (do_new waP tickD)
   have HA1:=zB (act1_tick w0.heap.size (waP.alloc (.cells (zAb tickD).toArray 46)))
   have HRB:=zB (((zA HR)).below hba)
   have HBB2:=zB ((zA HBW).trans (hba.mono (zA HSZ)))
   have HSZ2:=zB (Nat.le_trans (zA HSZ) hba.size)
   have HM:=zB hMa
   clear hba hMa HR HBW HSZ
   go_wp2_with (first
    | (at_builtin;refine zZ _ rfl (.tmp 42) (.tmp 44) 23 rfl w0.heap.size 46 i46 _ 12 112 Tryz.underlying23 (zA HI) (zA HZ) (zA HS) (zA HBB) rfl (by decide) _ _ _ rfl ((zA HRB).below (zAS _ _)).l ⟨_,0,none⟩ 1 1 (zAb tickD) rfl rfl (zA HNS) (zCc _) (by unfold maxLen;rw [zA HLNA];omega) (by rw [zA HLNA];omega) (Nat.le_trans (zA HSZ2) (zAS _ _).size) (by omega) ?_;intro gP cP wbP ho hg hw;have HRC:=zB (((zA HRB).below (zAS _ _)).push ho hg hw (zA HA1));have HF:=zB (((zAS waP _).mono (zA HSZ2)).trans (((zA HRB).below (zAS _ _)).from (Nat.le_trans (zA HSZ2) (zAS _ _).size) hg));have HM2:=zB (((zA HRB).below (zAS _ _)).box hg ((zA HM).below (zAS _ _)) (by decide));clear ho hg hw))
   have hLL:(btA k γ++[tickD]).length=k+1:=by rw [List.length_append,zA HLNA];rfl
   obtain ⟨x,hx,hxn⟩:=Option.map_eq_some_iff.1 (bt_A k γ h0 (by omega))
   have hPL:=one_play (l:=btA k γ++[tickD]) (by rw [List.length_append];exact zA HRC) (zA HM2) (by omega) hx
   rw [hxn,hLL] at hPL
   have HPL:=zB hPL
   have HBW:=zB ((zA HBB2).trans (zA HF))
   have HSZ:=zB (Nat.le_trans (zA HSZ2) (zA HF).size)
   clear hPL hxn hx x hLL HNS HA1 HBB2 HSZ2 HF HM HM2 HRB
   rw [zA HLNA]
   go_wp2_with fail
   go_at_call 13
   refine (zA HPL).mono ?_
   rintro e wcP ⟨TP,tP,tcP,GP,qP,gcP,MP,mP,mcP,SP,sP,scP,bP,oP,ccP,rfl,hy,hbl,hcn⟩
   obtain ⟨WP,hWP,hbx,hXP⟩:=zAL wcP [([.slice TP tP tcP,.slice GP qP gcP,.slice MP mP mcP,.slice SP sP scP],31),([.int .i64 0,.int .i64 0],35)]
   have HWP:Hid ((wcP.alloc (.cells #[.slice TP tP tcP,.slice GP qP gcP,.slice MP mP mcP,.slice SP sP scP] 31)).alloc (.cells #[.int .i64 0,.int .i64 0] 35)=WP):=zB hWP
   clear hWP
   have hcx:=hcn.trans (hbx.mono hcn.size)
   have HRP:=zB ((zA HRC).below hcx)
   have HBW2:=zB ((zA HBW).trans (hcx.mono (zA HSZ)))
   have HSZ2:=zB (Nat.le_trans (zA HSZ) hcx.size)
   have HYP:=zB (zD hbx hy)
   have HXP:=zB hXP
   have HUB:=zB (fun b e=>Nat.lt_of_lt_of_le ((zA HRC).m.lt b e).2 hbl)
   clear hbl
   clear hbx hcx hcn hXP hy HPL HRC HBW HSZ
   have HBW:=zB (zA HBW2)
   have HSZ:=zB (zA HSZ2)
   clear HBW2 HSZ2
   go_upto_region 13 with fail
   rw [zA HWP]
   go_wp2_with fail
   go_at_call 23
   refine (zA HAL WP).mono ?_
   rintro e waQ ⟨rfl,hMa,hba⟩
   have HNS:=zB (do_new waQ tickD)
   have HA1:=zB (act1_tick w0.heap.size (waQ.alloc (.cells (zAb tickD).toArray 46)))
   have HRB:=zB (((zA HRP).swap).below hba)
   have HBB2:=zB ((zA HBW).trans (hba.mono (zA HSZ)))
   have HSZ2:=zB (Nat.le_trans (zA HSZ) hba.size)
   have HM:=zB hMa
   have HYP2:=zB (zD hba (zA HYP))
   have HXP2:=zB ((zA HXP).below hba)
   clear HYP HXP
   clear hba hMa HRP HBW HSZ
   go_wp2_with (first
    | (at_builtin;refine zZ _ rfl (.tmp 52) (.tmp 54) 23 rfl w0.heap.size 46 i46 _ 12 112 Tryz.underlying23 (zA HI) (zA HZ) (zA HS) (zA HBB) rfl (by decide) _ _ _ rfl ((zA HRB).below (zAS _ _)).l ⟨_,0,none⟩ 1 1 (zAb tickD) rfl rfl (zA HNS) (zCc _) (by unfold maxLen;rw [zA HLNB];omega) (by rw [zA HLNB];omega) (Nat.le_trans (zA HSZ2) (zAS _ _).size) (by omega) ?_;intro gQ cQ wbQ ho hg hw;have HRC:=zB (((zA HRB).below (zAS _ _)).push ho hg hw (zA HA1));have HF:=zB (((zAS waQ _).mono (zA HSZ2)).trans (((zA HRB).below (zAS _ _)).from (Nat.le_trans (zA HSZ2) (zAS _ _).size) hg));have HM2:=zB (((zA HRB).below (zAS _ _)).box hg ((zA HM).below (zAS _ _)) (by decide));have HYP3:=zB (R2.cell hg (zD (zAS _ _) (zA HYP2)) (fun e=>Nat.lt_irrefl _ (zA HUB _ e)));have HXP3:=zB (((zA HRB).below (zAS _ _)).box hg ((zA HXP2).below (zAS _ _)) (by intro x hx;simp only [List.mem_cons,List.not_mem_nil,or_false] at hx;rcases hx with rfl | rfl <;> (intro h;cases h)));clear ho hg hw))
   have hLL:(btB k δ++[tickD]).length=k+1:=by rw [List.length_append,zA HLNB];rfl
   obtain ⟨x,hx,hxn⟩:=Option.map_eq_some_iff.1 (bt_B k δ h0 (by omega))
   have hPL:=one_play (l:=btB k δ++[tickD]) (by rw [List.length_append];exact zA HRC) (zA HM2) (by omega) hx
   rw [hxn,hLL] at hPL
   have HPL:=zB hPL
   have HBW:=zB ((zA HBB2).trans (zA HF))
   have HSZ:=zB (Nat.le_trans (zA HSZ2) (zA HF).size)
   clear hPL hxn hx x hLL HNS HA1 HBB2 HSZ2 HF HM HM2 HRB
   rw [zA HLNB]
   go_wp2_with fail
   go_at_call 13
   refine (zA HPL).mono ?_
   rintro e wcQ ⟨TQ,tQ,tcQ,GQ,qQ,gcQ,MQ,mQ,mcQ,SQ,sQ,scQ,bQ,oQ,ccQ,rfl,hy,hbl,hcn⟩
   obtain ⟨WQ,hWQ,hbx,hXQ⟩:=zAL wcQ [([.slice TQ tQ tcQ,.slice GQ qQ gcQ,.slice MQ mQ mcQ,.slice SQ sQ scQ],31),([.int .i64 0,.int .i64 0],35)]
   have HWQ:Hid ((wcQ.alloc (.cells #[.slice TQ tQ tcQ,.slice GQ qQ gcQ,.slice MQ mQ mcQ,.slice SQ sQ scQ] 31)).alloc (.cells #[.int .i64 0,.int .i64 0] 35)=WQ):=zB hWQ
   clear hWQ
   have hcx:=hcn.trans (hbx.mono hcn.size)
   have HRP:=zB ((zA HRC).below hcx)
   have HBW2:=zB ((zA HBW).trans (hcx.mono (zA HSZ)))
   have HSZ2:=zB (Nat.le_trans (zA HSZ) hcx.size)
   have HYQ:=zB (zD hbx hy)
   have HXQ:=zB hXQ
   have HYP4:=zB (zD hcx (zA HYP3))
   have HXP4:=zB ((zA HXP3).below hcx)
   clear HYP2 HXP2 HYP3 HXP3 HUB hbl
   clear hbx hcx hcn hXQ hy HPL HRC HBW HSZ
   have HBW:=zB (zA HBW2)
   have HSZ:=zB (zA HSZ2)
   clear HBW2 HSZ2
   go_upto_region 14 with fail
   rw [zA HWQ]
   have y1:=zA HYP4
   have y2:=zA HYQ
   have f1:=(zA HXP4).cell 1 rfl 0 rfl
   have f2:=(zA HXQ).cell 1 rfl 0 rfl
   have HE:=zB ((zA HL0).trans ((zA HBW).mono (zA HL0).size))
   have j0:(0:Int)≤(k:Int):=by omega
   have j1:(k:Int)<((k+1:Nat):Int):=by omega
   have j2:(k:Int)<(k:Int)+1:=by omega
   clear HYP4 HYQ HXP4 HXQ HBW HL0
   go_wp2
   go_ret
   exact ⟨rfl,zA HE⟩
theorem tbat_law (n:Int) (w:World) :
  Calls Tryz.prog 11 #[.int .i64 n] w fun e w'=>e=.returned (.bool true)∧Below w.heap.size w w':=by
 by_cases h:n<1
 ·exact tbat_lo n h w
 ·by_cases h2:8<n
  ·exact tbat_hi n h2 w
  ·obtain ⟨t,rfl⟩:∃ t:Nat,n=(t:Int):=⟨n.toNat,by omega⟩
   exact tbat_ok t (by omega) (by omega) w
end Go.Proofs.YtnbleebilmghcacGreat
