/- The law TopMoves. -/
import Derived.Test.YtnbleebilmghcacGreatTTpFun
import Derived.Test.YtnbleebilmghcacGreatTTmMath
import Derived.Test.YtnbleebilmghcacGreatTSGet2
set_option linter.all false
set_option maxHeartbeats 2000000
set_option maxRecDepth 8000
namespace Go.Proofs.YtnbleebilmghcacGreat
open Go Go.RowKit
attribute [local go_sem ↓] Go.wp_at_zero Go.wp_at_succ
theorem mvL_succ (f s:Int) (g t:Nat):mvL f s g (t+1)=mvL f s g t++[tickD]:=by
 unfold mvL
 rw [List.replicate_succ',List.append_assoc]
theorem mvL_len (f s:Int) (g t:Nat):(mvL f s g t).length=4+t:=by
 unfold mvL mvA
 rw [List.length_append,List.length_replicate]
 rfl
theorem tmov_o0 (f s tk:Int)  (h:f < -1000) (w:World) :
  Calls Tryz.prog 7 #[.int .i64 f,.int .i64 s,.int .i64 tk] w fun e w'=>e=.returned (.bool true)∧Below w.heap.size w w':=by
 have d0:decide (f < -1000)=true:=decide_eq_true h
 clear h
 go_enter Tryz.func7,Tryz.ntmps7
 go_wp2_with fail
 go_at_call 20
 refine (alive8_any w).mono ?_
 rintro e w0 ⟨rfl,hb0⟩
 have HL0:=zB hb0
 clear hb0
 go_wp2
 go_ret
 exact ⟨rfl,zA HL0⟩
theorem tmov_o1 (f s tk:Int) (n0:¬ f < -1000) (h:1000<f) (w:World) :
  Calls Tryz.prog 7 #[.int .i64 f,.int .i64 s,.int .i64 tk] w fun e w'=>e=.returned (.bool true)∧Below w.heap.size w w':=by
 have d0:decide (f < -1000)=false:=decide_eq_false n0
 have d1:decide (1000<f)=true:=decide_eq_true h
 clear h n0
 go_enter Tryz.func7,Tryz.ntmps7
 go_wp2_with fail
 go_at_call 20
 refine (alive8_any w).mono ?_
 rintro e w0 ⟨rfl,hb0⟩
 have HL0:=zB hb0
 clear hb0
 go_wp2
 go_ret
 exact ⟨rfl,zA HL0⟩
theorem tmov_o2 (f s tk:Int) (n0:¬ f < -1000) (n1:¬ 1000<f) (h:s < -1000) (w:World) :
  Calls Tryz.prog 7 #[.int .i64 f,.int .i64 s,.int .i64 tk] w fun e w'=>e=.returned (.bool true)∧Below w.heap.size w w':=by
 have d0:decide (f < -1000)=false:=decide_eq_false n0
 have d1:decide (1000<f)=false:=decide_eq_false n1
 have d2:decide (s < -1000)=true:=decide_eq_true h
 clear h n0 n1
 go_enter Tryz.func7,Tryz.ntmps7
 go_wp2_with fail
 go_at_call 20
 refine (alive8_any w).mono ?_
 rintro e w0 ⟨rfl,hb0⟩
 have HL0:=zB hb0
 clear hb0
 go_wp2
 go_ret
 exact ⟨rfl,zA HL0⟩
theorem tmov_o3 (f s tk:Int) (n0:¬ f < -1000) (n1:¬ 1000<f) (n2:¬ s < -1000) (h:1000<s) (w:World) :
  Calls Tryz.prog 7 #[.int .i64 f,.int .i64 s,.int .i64 tk] w fun e w'=>e=.returned (.bool true)∧Below w.heap.size w w':=by
 have d0:decide (f < -1000)=false:=decide_eq_false n0
 have d1:decide (1000<f)=false:=decide_eq_false n1
 have d2:decide (s < -1000)=false:=decide_eq_false n2
 have d3:decide (1000<s)=true:=decide_eq_true h
 clear h n0 n1 n2
 go_enter Tryz.func7,Tryz.ntmps7
 go_wp2_with fail
 go_at_call 20
 refine (alive8_any w).mono ?_
 rintro e w0 ⟨rfl,hb0⟩
 have HL0:=zB hb0
 clear hb0
 go_wp2
 go_ret
 exact ⟨rfl,zA HL0⟩
theorem tmov_o4 (f s tk:Int) (n0:¬ f < -1000) (n1:¬ 1000<f) (n2:¬ s < -1000) (n3:¬ 1000<s) (h:tk<0) (w:World) :
  Calls Tryz.prog 7 #[.int .i64 f,.int .i64 s,.int .i64 tk] w fun e w'=>e=.returned (.bool true)∧Below w.heap.size w w':=by
 have d0:decide (f < -1000)=false:=decide_eq_false n0
 have d1:decide (1000<f)=false:=decide_eq_false n1
 have d2:decide (s < -1000)=false:=decide_eq_false n2
 have d3:decide (1000<s)=false:=decide_eq_false n3
 have d4:decide (tk<0)=true:=decide_eq_true h
 clear h n0 n1 n2 n3
 go_enter Tryz.func7,Tryz.ntmps7
 go_wp2_with fail
 go_at_call 20
 refine (alive8_any w).mono ?_
 rintro e w0 ⟨rfl,hb0⟩
 have HL0:=zB hb0
 clear hb0
 go_wp2
 go_ret
 exact ⟨rfl,zA HL0⟩
theorem tmov_o5 (f s tk:Int) (n0:¬ f < -1000) (n1:¬ 1000<f) (n2:¬ s < -1000) (n3:¬ 1000<s) (n4:¬ tk<0) (h:30<tk) (w:World) :
  Calls Tryz.prog 7 #[.int .i64 f,.int .i64 s,.int .i64 tk] w fun e w'=>e=.returned (.bool true)∧Below w.heap.size w w':=by
 have d0:decide (f < -1000)=false:=decide_eq_false n0
 have d1:decide (1000<f)=false:=decide_eq_false n1
 have d2:decide (s < -1000)=false:=decide_eq_false n2
 have d3:decide (1000<s)=false:=decide_eq_false n3
 have d4:decide (tk<0)=false:=decide_eq_false n4
 have d5:decide (30<tk)=true:=decide_eq_true h
 clear h n0 n1 n2 n3 n4
 go_enter Tryz.func7,Tryz.ntmps7
 go_wp2_with fail
 go_at_call 20
 refine (alive8_any w).mono ?_
 rintro e w0 ⟨rfl,hb0⟩
 have HL0:=zB hb0
 clear hb0
 go_wp2
 go_ret
 exact ⟨rfl,zA HL0⟩
theorem tmov_ok (f s:Int) (t:Nat) (hf:-1000≤f∧f≤1000) (hs:-1000≤s∧s≤1000) (ht:t≤30) (w:World) :
  Calls Tryz.prog 7 #[.int .i64 f,.int .i64 s,.int .i64 (t:Int)] w fun e w'=>e=.returned (.bool true)∧Below w.heap.size w w':=by
 have d0:decide (f < -1000)=false:=decide_eq_false (by omega)
 have d1:decide (1000<f)=false:=decide_eq_false (by omega)
 have d2:decide (s < -1000)=false:=decide_eq_false (by omega)
 have d3:decide (1000<s)=false:=decide_eq_false (by omega)
 have d4:decide ((t:Int)<0)=false:=decide_eq_false (by omega)
 have d5:decide ((30:Int)<(t:Int))=false:=decide_eq_false (by omega)
 have HBD:=zB (mv_bound hf hs ht)
 have HME:=zB (fun g=>mv_end g t hf hs ht)
 have HBF:=zB hf
 obtain ⟨i46,hi46,hz46,hs46,hb46⟩:=info_parts info46
 have HI:=zB hi46
 have HZ:=zB hz46
 have HS:=zB hs46
 have HBB:=zB hb46
 have HSP:=zB (tspawn_any 1 f)
 have HAL:=zB tall_any
 clear hi46 hz46 hs46 hb46 hf hs
 go_enter Tryz.func7,Tryz.ntmps7
 go_wp2_with fail
 go_at_call 20
 refine (alive8_any w).mono ?_
 rintro e w0 ⟨rfl,hb0⟩
 go_wp2_with fail
 go_at_call 21
 refine (zA HSP w0).mono ?_
 rintro e w2 ⟨rfl,hb2⟩
 go_wp2_with fail
 go_at_call 21
 refine (zA HSP w2).mono ?_
 rintro e w3 ⟨rfl,hb3⟩
 obtain ⟨W4,hW4,hbx,hX4⟩:=zAL w3 [([.int .i64 3,.int .i64 0,.int .i64 1,.int .i64 0],71)]
 have HW4:Hid (w3.alloc (.cells #[.int .i64 3,.int .i64 0,.int .i64 1,.int .i64 0] 71)=W4):=zB hW4
 clear hW4
 have hL2:=hb0.trans (hb2.mono hb0.size)
 have hL3:=hL2.trans (hb3.mono hL2.size)
 have hL4:=hL3.trans (hbx.mono hL3.size)
 have HA4:=zB hX4
 have HL4:=zB hL4
 have HSY:=zB (tsys_any 3 (some ⟨w3.heap.size,0,none⟩) 1 1)
 clear hb0 hb2 hb3 hbx hX4 hL2 hL3 hL4 HSP
 go_wp2_with fail
 go_at_call 22
 rw [zA HW4]
 refine (zA HSY W4).mono ?_
 rintro e w5 ⟨rfl,hb5⟩
 obtain ⟨W6,hW6,hbx,hX6⟩:=zAL w5 [([.int .i64 1,.int .i64 1,.int .i64 0,.int .i64 f,.int .i64 0,.int .i64 0,.int .i64 0,.int .i64 0,.int .i64 0,.slice none 0 0,.int .i64 0,.int .i64 0,.int .i64 1,.int .i64 1,.int .i64 0,.int .i64 f,.int .i64 0,.int .i64 0,.int .i64 0,.int .i64 0,.int .i64 0,.slice none 0 0,.int .i64 0,.int .i64 0,.int .i64 3,.int .i64 0,.int .i64 1,.int .i64 s,.int .i64 0,.int .i64 1,.int .i64 0,.int .i64 0,.int .i64 0,.slice none 0 0,.int .i64 0,.int .i64 0,.int .i64 5,.int .i64 0,.int .i64 0,.int .i64 0,.int .i64 0,.int .i64 0,.int .i64 0,.int .i64 3,.int .i64 0,.slice (some ⟨w3.heap.size,0,none⟩) 1 1,.int .i64 0,.int .i64 0],46)]
 have HW6:Hid (w5.alloc (.cells #[.int .i64 1,.int .i64 1,.int .i64 0,.int .i64 f,.int .i64 0,.int .i64 0,.int .i64 0,.int .i64 0,.int .i64 0,.slice none 0 0,.int .i64 0,.int .i64 0,.int .i64 1,.int .i64 1,.int .i64 0,.int .i64 f,.int .i64 0,.int .i64 0,.int .i64 0,.int .i64 0,.int .i64 0,.slice none 0 0,.int .i64 0,.int .i64 0,.int .i64 3,.int .i64 0,.int .i64 1,.int .i64 s,.int .i64 0,.int .i64 1,.int .i64 0,.int .i64 0,.int .i64 0,.slice none 0 0,.int .i64 0,.int .i64 0,.int .i64 5,.int .i64 0,.int .i64 0,.int .i64 0,.int .i64 0,.int .i64 0,.int .i64 0,.int .i64 3,.int .i64 0,.slice (some ⟨w3.heap.size,0,none⟩) 1 1,.int .i64 0,.int .i64 0] 46)=W6):=zB hW6
 clear hW6
 have hb56:=hb5.trans (hbx.mono hb5.size)
 have HA6:=zB ((zA HA4).below hb56)
 have HL6:=zB ((zA HL4).trans (hb56.mono (zA HL4).size))
 have HO6:Hid (W6.ownsRow w5.heap.size 46 12 (.slice (some ⟨w5.heap.size,0,none⟩) 4 4) 4 (zBO zAb (mvL f s w3.heap.size 0))):=zB ⟨rfl,.inr ⟨w5.heap.size,4,_,rfl,Nat.le_refl _,by have:=hX6 0 _ _ rfl;rw [Nat.add_zero] at this;exact this,Nat.le_refl _,by unfold maxLen;omega,rfl,rfl⟩⟩
 have hz6:w5.heap.size<W6.heap.size:=hX6.lt (k:=0) rfl
 have hga:w3.heap.size+1≤w5.heap.size:=Nat.le_trans ((zA HA4).lt (k:=0) rfl) hb5.size
 have hw5:w.heap.size≤w5.heap.size:=Nat.le_trans (zA HL4).size hb5.size
 generalize w3.heap.size=ga at *
 clear hb5 hbx hb56 hX6 HA4 HL4 HSY
 go_upto_region 6 with fail
 rw [zA HW6]
 go_wp2_with fail
 go_loopw [7,51] (fun v x wr=>∃ k:Nat,k≤t∧x=.int .i64 (k:Int)∧wr.ownsRow w5.heap.size 46 12 v (4+k) (zBO zAb (mvL f s ga k))∧Below w5.heap.size W6 wr) (fun _ x _=>t - (intOf x).toNat)
 case atStart=>exact ⟨0,Nat.zero_le _,rfl,zA HO6,Below.refl _ _⟩
 case round =>
  obtain ⟨k,hk,rfl,ho,hbr⟩:=hrel
  by_cases hlt:k<t
  ·have k1:(k:Int)<(t:Int):=by omega
   have HO:=zB ho
   have HBR:=zB hbr
   have HNS:=zB (do_new wr tickD)
   clear ho hbr
   go_wp2_with (first
    | (at_builtin;refine zZ _ rfl (.tmp 53) (.tmp 55) 23 rfl w5.heap.size 46 i46 _ 12 112 Tryz.underlying23 (zA HI) (zA HZ) (zA HS) (zA HBB) rfl (by decide) _ (4+k) (zBO zAb (mvL f s ga k)) rfl ((zA HO).alloc _) ⟨_,0,none⟩ 1 1 (zAb tickD) rfl rfl (zA HNS) (zCc _) (by unfold maxLen;omega) (by omega) (Nat.le_trans (Nat.le_of_lt hz6) (Nat.le_trans (zA HBR).size (zAS _ _).size)) (by omega) ?_;intro g4 c4 w6 ho4 hg4 hw4;have HB6:=zB (((zA HBR).alloc (Nat.le_trans (Nat.le_of_lt hz6) (zA HBR).size) _).grown hg4 (Nat.le_trans (Nat.le_of_lt hz6) (Nat.le_trans (zA HBR).size (zAS _ _).size)) (fun q hq=>((zA HO).lt q hq).1));have HO7:=zB ho4;clear ho4 hg4 hw4))
   go_roundw
   case rel=>exact ⟨k+1,by omega,by go_num,by rw [mvL_succ,flatC_snoc,show 4+(k+1)=4+k+1 by omega];exact zA HO7,zA HB6⟩
   case measure=>simp [intOf];omega
  ·obtain rfl:k=t:=by omega
   obtain ⟨A7,c7,rfl⟩:=zAk ho
   obtain ⟨w7,rfl⟩:∃ w7,w7=wr:=⟨_,rfl⟩
   have HO:=zB ho
   have HBR:=zB hbr
   have hz7:w5.heap.size<w7.heap.size:=Nat.lt_of_lt_of_le hz6 hbr.size
   have dk:decide ((k:Int)<(k:Int))=false:=decide_eq_false (by omega)
   clear ho hbr
   go_wp2_with fail
   go_at_call 23
   refine (zA HAL w7).mono ?_
   rintro e w8 ⟨rfl,hM8,hb8⟩
   have hLL:(mvL f s ga k).length=4+k:=mvL_len f s ga k
   have hB8:=(zA HBR).trans (hb8.mono (Nat.le_of_lt hz7))
   have hA8:Bxs ga [(zAq ⟨3,0,1,0⟩,71)] w8:=(zA HA6).keep (hB8.mono hga)
   have hD8:DosAt w8 A7 (mvL f s ga k):=dos_own (c:=c7) (by rw [hLL];exact zb (zA HO) hb8) (fun d hd=>by
    rcases List.mem_append.1 hd with hd | hd
    ·simp only [mvA,List.mem_cons,List.not_mem_nil,or_false] at hd
     rcases hd with rfl | rfl | rfl | rfl
     ·exact acts_dS _
     ·exact acts_dS _
     ·exact acts_dS _
     ·exact acts_one hA8
    ·obtain ⟨_,rfl⟩:=List.mem_replicate.1 hd
     exact acts_dS _)
   have hPL:=play_right (some ⟨w7.heap.size,0,none⟩) 1 mAll A7 c7 _ w8 (all_mods hM8) hD8 (by decide +kernel) (by rw [hLL];omega)
   rw [hLL] at hPL
   have HPL:=zB hPL
   have HL8:=zB ((zA HL6).trans (hB8.mono hw5))
   obtain ⟨hG1,hG2⟩:=zA HME ga
   generalize zBJ mAll (mvL f s ga k)=pf at *
   have HG1:=zB hG1
   have HG2:=zB hG2
   clear hPL hLL hB8 hA8 hD8 hM8 hb8 hG1 hG2 HO HBR HME HAL
   go_wp2_with fail
   go_at_call 13
   refine (zA HPL).mono ?_
   rintro e w10 ⟨T,tc,G,gc,M',mc',SA,sc,CA,cc,ss,la,rfl,hST,_,_,_,_,_,hb10⟩
   obtain ⟨W11,hW11,hbx,hX11⟩:=zAL w10 [([.slice T (zK pf.2.X).length tc,.slice G pf.2.X.gens.length gc,.slice M' mAll.length mc',.slice SA ss.length sc],31),([.int .i64 0,.int .i64 0],35)]
   have HW11:Hid ((w10.alloc (.cells #[.slice T (zK pf.2.X).length tc,.slice G pf.2.X.gens.length gc,.slice M' mAll.length mc',.slice SA ss.length sc] 31)).alloc (.cells #[.int .i64 0,.int .i64 0] 35)=W11):=zB hW11
   clear hW11
   have HL11:=zB ((zA HL8).trans ((hb10.trans (hbx.mono hb10.size)).mono (zA HL8).size))
   have HST:=zB (hST.below hbx)
   have HX11:=zB hX11
   have r0:=hX11.cell 0 rfl 0 rfl
   have r1:=hX11.cell 0 rfl 1 rfl
   rw [Nat.add_zero] at r0 r1
   clear hb10 hbx hX11 hST HPL HL8
   have hS1:=sget_any T tc G gc (zK pf.2.X) pf.2.X 0 1 0 W11 (zA HST)
   unfold stV zS at hS1
   rw [zA HG1] at hS1
   have HS1:=zB hS1
   clear hS1
   go_upto_region 11 with fail
   rw [zA HW11]
   go_wp2_with fail
   go_at_call 24
   refine (zA HS1).mono ?_
   rintro e w12 ⟨rfl,hb12⟩
   have HST2:=zB ((zA HST).below hb12)
   have HX12:=zB ((zA HX11).below hb12)
   have HL12:=zB ((zA HL11).trans (hb12.mono (zA HL11).size))
   have r0:=zD hb12 r0
   have r1:=zD hb12 r1
   have hS2:=sget_any T tc G gc (zK pf.2.X) pf.2.X 1 1 0 w12 (zA HST2)
   unfold stV zS at hS2
   rw [zA HG2] at hS2
   have HS2:=zB hS2
   clear hS2 hb12 HST HX11 HL11
   go_wp2_with fail
   go_at_call 24
   refine (zA HS2).mono ?_
   rintro e w13 ⟨rfl,hb13⟩
   have HL13:=zB ((zA HL12).trans (hb13.mono (zA HL12).size))
   have q0:=((zA HX12).below hb13).cell 1 rfl 0 rfl
   have hbd:=zA HBD
   have hbf:=zA HBF
   have e1:IntKind.i64.wrap ((k:Int)*s)=(k:Int)*s:=i64_id (by omega) (by omega)
   have e2:IntKind.i64.wrap (f+(k:Int)*s)=f+(k:Int)*s:=i64_id (by omega) (by omega)
   clear hb13 hbd hbf r0 r1
   go_wp2
   go_ret
   exact ⟨rfl,zA HL13⟩
theorem tmov_law (f s tk:Int) (w:World) :
  Calls Tryz.prog 7 #[.int .i64 f,.int .i64 s,.int .i64 tk] w fun e w'=>e=.returned (.bool true)∧Below w.heap.size w w':=by
 by_cases h0:f < -1000
 ·exact tmov_o0 f s tk h0 w
 by_cases h1:1000<f
 ·exact tmov_o1 f s tk h0 h1 w
 by_cases h2:s < -1000
 ·exact tmov_o2 f s tk h0 h1 h2 w
 by_cases h3:1000<s
 ·exact tmov_o3 f s tk h0 h1 h2 h3 w
 by_cases h4:tk<0
 ·exact tmov_o4 f s tk h0 h1 h2 h3 h4 w
 by_cases h5:30<tk
 ·exact tmov_o5 f s tk h0 h1 h2 h3 h4 h5 w
 obtain ⟨t,rfl⟩:∃ t:Nat,tk=(t:Int):=⟨tk.toNat,by omega⟩
 exact tmov_ok f s t (by omega) (by omega) (by omega) w
end Go.Proofs.YtnbleebilmghcacGreat
