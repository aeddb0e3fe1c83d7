/- The law HouseRefused. -/
import Derived.Test.YtnbleebilmghcacGreatYTkOwn
import Derived.Test.YtnbleebilmghcacGreatYRfMath
import Derived.Test.YtnbleebilmghcacGreatYHoSame
set_option linter.all false
set_option maxHeartbeats 2000000
set_option maxRecDepth 8000
namespace Go.Proofs.YtnbleebilmghcacGreat
open Go Go.RowKit
attribute [local go_sem ↓] Go.wp_at_zero Go.wp_at_succ
theorem sz35a:(Tryz.prog.info? 35).map (·.size)=some 2:=by kernel_rfl
theorem do_new2 (W:World) (d:DoI):∀ j u,(zx d)[j]?=some u→(W.alloc (.cells #[.int .i64 d.k,.int .i64 d.has,.int .i64 d.p,.int .i64 d.n,.int .i64 d.i,.int .i64 d.g,.int .i64 d.s.m,.int .i64 d.s.al,.int .i64 d.s.no,.slice d.s.A d.s.len d.s.cap,.int .i64 d.fa,.int .i64 d.fn] 46)).cell? ((⟨W.heap.size,0,none⟩:Addr).add j)=some u:=do_new W d
theorem tw_zero {B:Nat} {us vs:List Value} {t u:TypeId} {W W1:World} (h:Tw (fun b=>b=B+1) W W1) (h1:Bxs B [(us,t),(vs,u)] W) (h2:Bxs B [(us,t),(vs,u)] W1):Below W.heap.size W W1:=⟨h.os,h.tape,h.output,h.size,fun k hk=>by
 by_cases e:k=B+1
 ·subst e
  rw [h1 1 vs u rfl,h2 1 vs u rfl]
 ·exact h.block k hk e⟩
theorem href_wrong (M:Option Addr) (mc:Nat) (mods:List ModI) (LD:Option Addr) (lc:Nat) (l:List DoI) (w:World) (hM:GAt zi 3 w M mods) (hw:(wmF mods).1≠0) :
  Calls Tryz.prog 5 #[.slice M mods.length mc,.slice LD l.length lc] w fun e w'=>e=.returned (.bool true)∧Below w.heap.size w w':=by
 have hPL:=fun W (hb:Below w.heap.size w W)=>play_wrong M mc mods LD lc l W (hM.below hb) hw
 obtain ⟨f0,hf0⟩:∃ f0,f0=(wmF mods).1:=⟨_,rfl⟩
 generalize (wmF mods).2=f1 at *
 rw [←hf0] at hPL hw
 have hne:(f0 == 0)=false:=by simpa using hw
 clear hw hf0
 have HPL:=zB hPL
 clear hPL hM
 go_enter Tryz.func5,Tryz.ntmps5
 go_wp2_with fail
 go_at_call 12
 refine (zBt w).mono ?_
 rintro e w0 ⟨rfl,hb0⟩
 have HL0:=zB hb0
 clear hb0
 go_wp2_with fail
 go_at_call 13
 refine (zA HPL w0 (zA HL0)).mono ?_
 rintro e w1 ⟨rfl,hb1⟩
 obtain ⟨W2,hW2,hbx,hX2⟩:=zw w1 [([.slice none 0 0,.slice none 0 0,.slice none 0 0,.slice none 0 0],31),([.int .i64 f0,.int .i64 f1],35)]
 have HW2:Hid ((w1.alloc (.cells #[.slice none 0 0,.slice none 0 0,.slice none 0 0,.slice none 0 0] 31)).alloc (.cells #[.int .i64 f0,.int .i64 f1] 35)=W2):=zB hW2
 clear hW2
 have HL2:=zB ((zA HL0).trans ((hb1.trans (hbx.mono hb1.size)).mono (zA HL0).size))
 have q0:=hX2.cell 1 rfl 0 rfl
 clear hb1 hbx hX2 HPL
 go_upto_region 4 with fail
 rw [zA HW2]
 go_wp2
 go_ret
 exact ⟨rfl,zA HL2⟩
theorem href_many (M:Option Addr) (mc:Nat) (mods:List ModI) (LD:Option Addr) (lc:Nat) (l:List DoI) (w:World) (hM:GAt zi 3 w M mods) (hw:wmF mods=(0,0)) (hl:80<l.length) :
  Calls Tryz.prog 5 #[.slice M mods.length mc,.slice LD l.length lc] w fun e w'=>e=.returned (.bool true)∧Below w.heap.size w w':=by
 have hPL:=fun W (hb:Below w.heap.size w W)=>play_many M mc mods LD lc l W (hM.below hb) hw hl
 clear hw hl
 have HPL:=zB hPL
 clear hPL hM
 go_enter Tryz.func5,Tryz.ntmps5
 go_wp2_with fail
 go_at_call 12
 refine (zBt w).mono ?_
 rintro e w0 ⟨rfl,hb0⟩
 have HL0:=zB hb0
 clear hb0
 go_wp2_with fail
 go_at_call 13
 refine (zA HPL w0 (zA HL0)).mono ?_
 rintro e w1 ⟨rfl,hb1⟩
 obtain ⟨W2,hW2,hbx,hX2⟩:=zw w1 [([.slice none 0 0,.slice none 0 0,.slice none 0 0,.slice none 0 0],31),([.int .i64 4,.int .i64 0],35)]
 have HW2:Hid ((w1.alloc (.cells #[.slice none 0 0,.slice none 0 0,.slice none 0 0,.slice none 0 0] 31)).alloc (.cells #[.int .i64 4,.int .i64 0] 35)=W2):=zB hW2
 clear hW2
 have HL2:=zB ((zA HL0).trans ((hb1.trans (hbx.mono hb1.size)).mono (zA HL0).size))
 have q0:=hX2.cell 1 rfl 0 rfl
 clear hb1 hbx hX2 HPL
 go_upto_region 4 with fail
 rw [zA HW2]
 go_wp2
 go_ret
 exact ⟨rfl,zA HL2⟩
theorem href_ok (M:Option Addr) (mc:Nat) (mods:List ModI) (LD:Option Addr) (lc:Nat) (l:List DoI) (w:World) (hM:GAt zi 3 w M mods) (hL:DosAt w LD l) (hw:wmF mods=(0,0)) (hl:l.length≤80) :
  Calls Tryz.prog 5 #[.slice M mods.length mc,.slice LD l.length lc] w fun e w'=>e=.returned (.bool true)∧Below w.heap.size w w':=by
 have hml:mods.length≤6:=by
  unfold wmF at hw
  by_cases h:6<mods.length
  ·rw [if_pos h] at hw;cases hw
  ·omega
 have hPL:=fun W (hb:Below w.heap.size w W)=>zBU M mc mods LD lc l W (hM.below hb) (hL.below hb) hw hl
 have hgl:=goods_len mods l h0
 have hPG:=fun A c W (hb:Below w.heap.size w W) (hD:DosAt W A (zAf mods h0 l))=>zBU M mc mods A c (zAf mods h0 l) W (hM.below hb) hD hw (by omega)
 obtain ⟨hg1,hg2⟩:=goods_same mods l h0
 have hg1:(zAH mods (zAf mods h0 l)).2=(zAH mods l).2:=hg1
 have hg2:∀ x∈(zAH mods (zAf mods h0 l)).1,x.e=0:=hg2
 simp only [hg1] at hPG
 have hga:=zBV mods (zAf mods h0 l) ([],h0)
 change (zAH mods (zAf mods h0 l)).1.length=_ at hga
 simp only [List.length_nil,Nat.zero_add] at hga
 have HGA:Hid ((zAH mods (zAf mods h0 l)).1.length≤80):=zB (by omega)
 clear hga
 generalize (zAH mods (zAf mods h0 l)).1=ga at *
 have hok:HOk mods (zAH mods l).2:=play_ok l ([],h0) (h0_ok mods)
 have hget:=play_get mods l
 have hsn:∀ k (hk:k<l.length),zAf mods h0 (l.take (k+1))=zAf mods h0 (l.take k)++(if didB mods (zp mods (l.take k) ([],h0)).2 l[k]=true then [l[k]] else []):=fun k hk=>by
  rw [List.take_succ_eq_append_getElem hk,goods_snoc]
 have hgm:∀ d∈zAf mods h0 l,d∈l:=fun d hd=>goods_mem mods l h0 d hd
 have hplen:=zBV mods l ([],h0)
 change (zAH mods l).1.length=_ at hplen
 simp only [List.length_nil,Nat.zero_add] at hplen
 generalize zAH mods l=pf at *
 obtain ⟨pa,h⟩:=pf
 obtain ⟨X,S⟩:=h
 dsimp only at hPL hPG hok hget hplen
 have HPL:=zB hPL
 have HPG:=zB hPG
 have HDL:=zB hL
 have HOK:=zB hok
 have HGET:=zB hget
 have HSN:=zB hsn
 have HGM:=zB hgm
 have HG2:=zB hg2
 have HPA:=zB hplen
 clear hPL hPG hM hL hw hok hget hsn hgm hg1 hg2 hplen
 obtain ⟨i46,hi46,hz46,hs46,hb46⟩:=info_parts info46
 have HI:=zB hi46
 have HZ:=zB hz46
 have HS:=zB hs46
 have HBB:=zB hb46
 clear hi46 hz46 hs46 hb46
 go_enter Tryz.func5,Tryz.ntmps5
 go_wp2_with fail
 go_at_call 12
 refine (zBt w).mono ?_
 rintro e w0 ⟨rfl,hb0⟩
 have HL0:=zB hb0
 clear hb0
 go_wp2_with fail
 go_at_call 13
 refine (zA HPL w0 (zA HL0)).mono ?_
 rintro e w1 ⟨T1,tc1,G1,gc1,M1,mc1,SA1,sc1,CA1,cc1,ss1,la1,rfl,hST1,hMD1,hSS1,hss1,hAN1,hla1,hb1⟩
 obtain ⟨W2,hW2,hbx,hX2⟩:=zw w1 [([.slice T1 (zL X).length tc1,.slice G1 X.gens.length gc1,.slice M1 mods.length mc1,.slice SA1 ss1.length sc1],31),([.int .i64 0,.int .i64 0],35)]
 have HW2:Hid ((w1.alloc (.cells #[.slice T1 (zL X).length tc1,.slice G1 X.gens.length gc1,.slice M1 mods.length mc1,.slice SA1 ss1.length sc1] 31)).alloc (.cells #[.int .i64 0,.int .i64 0] 35)=W2):=zB hW2
 clear hW2
 have HL2:=zB ((zA HL0).trans ((hb1.trans (hbx.mono hb1.size)).mono (zA HL0).size))
 have HX2:=zB hX2
 have HST2:=zB (hST1.below hbx)
 have HMD2:=zB (hMD1.below hbx)
 have HSS2:=zB (hSS1.below hbx)
 have HAN2:=zB (hAN1.below hbx)
 have HEQ:=zB hss1
 have hll:la1.length=l.length:=by
  have:=congrArg List.length hla1
  rw [List.length_map,zA HPA] at this
  exact this
 have HLE:Hid (∀ k (hk:k<l.length),∃ x,la1[k]?=some x∧x.1=(doF mods (zp mods (l.take k) ([],h0)).2 l[k]).1):=zB (fun k hk=>by
  have h1:k<la1.length:=by omega
  refine ⟨la1[k],List.getElem?_eq_getElem h1,?_⟩
  have:=zA HGET k hk
  rw [←hla1,List.getElem?_map,List.getElem?_eq_getElem h1] at this
  exact Option.some.inj this)
 have q0:=hX2.cell 1 rfl 0 rfl
 have hz2:w1.heap.size+2≤W2.heap.size:=hX2.sz (by simp)
 rw [hll]
 clear hb1 hbx hX2 hST1 hMD1 hSS1 hAN1 hss1 hla1 HPL hll
 go_upto_region 4 with fail
 rw [zA HW2]
 go_wp2_with fail
 clear q0
 go_loopw [8,29] (fun v x wr=>∃ k:Nat,k≤l.length∧x=.int .i64 (k:Int)∧wr.ownsRow W2.heap.size 46 12 v (zAf mods h0 (l.take k)).length (zAj zx (zAf mods h0 (l.take k)))∧Below W2.heap.size W2 wr) (fun _ x _=>l.length - (intOf x).toNat)
 case atStart=>exact ⟨0,Nat.zero_le _,rfl,World.ownsRow_nil _ _ _ _,Below.refl _ _⟩
 case round =>
  obtain ⟨k,hk,rfl,ho,hbr⟩:=hrel
  by_cases hlt:k<l.length
  ·have k0:(0:Int)≤(k:Int):=by omega
   have k1:(k:Int)<(l.length:Int):=by omega
   obtain ⟨x,hx,hxe⟩:=zA HLE k hlt
   have hsn:=zA HSN k hlt
   have hgk:=goods_len mods (l.take k) h0
   rw [List.length_take] at hgk
   have hdk:l[k]?=some l[k]:=List.getElem?_eq_getElem hlt
   have hLr:=(zA HL2).trans (hbr.mono (zA HL2).size)
   obtain ⟨b,off,hLe,hdc⟩:=((zA HDL).below hLr).at_ k _ hdk
   obtain ⟨ba,oa,hCe,hac⟩:=((zA HAN2).below hbr).at_ k _ hx
   have hdid:didB mods (zp mods (l.take k) ([],h0)).2 l[k]=(decide (x.1.e=0) && decide (l[k].k≠7)):=by rw [hxe];rfl
   rw [hdid] at hsn
   have x0:=hac 0 _ rfl
   rw [Nat.add_zero] at x0
   generalize x.1.e=er at *
   generalize l[k]=d at *
   obtain ⟨g2,hgg⟩:∃ g2,g2=zAf mods h0 (l.take (k+1)):=⟨_,rfl⟩
   rw [←hgg] at hsn
   have HGG:=zB hgg
   clear hgg
   generalize zAf mods h0 (l.take k)=g1 at *
   obtain ⟨wk,rfl⟩:∃ wk,wk=wr:=⟨_,rfl⟩
   have c0:=hdc 0 _ rfl
   have c1:=hdc 1 _ rfl
   have c2:=hdc 2 _ rfl
   have c3:=hdc 3 _ rfl
   have c4:=hdc 4 _ rfl
   have c5:=hdc 5 _ rfl
   have c6:=hdc 6 _ rfl
   have c7:=hdc 7 _ rfl
   have c8:=hdc 8 _ rfl
   have c9:=hdc 9 _ rfl
   have c10:=hdc 10 _ rfl
   have c11:=hdc 11 _ rfl
   rw [Nat.add_zero] at c0
   obtain ⟨W3,hW3,hbx,hX3⟩:=zw wk [([.int .i64 d.k,.int .i64 d.has,.int .i64 d.p,.int .i64 d.n,.int .i64 d.i,.int .i64 d.g,.int .i64 d.s.m,.int .i64 d.s.al,.int .i64 d.s.no,.slice d.s.A d.s.len d.s.cap,.int .i64 d.fa,.int .i64 d.fn],46)]
   have HW3:Hid (wk.alloc (.cells #[.int .i64 d.k,.int .i64 d.has,.int .i64 d.p,.int .i64 d.n,.int .i64 d.i,.int .i64 d.g,.int .i64 d.s.m,.int .i64 d.s.al,.int .i64 d.s.no,.slice d.s.A d.s.len d.s.cap,.int .i64 d.fa,.int .i64 d.fn] 46)=W3):=zB hW3
   clear hW3
   have HO3:=zB (zb ho hbx)
   have HB3:=zB (hbr.trans (hbx.mono hbr.size))
   have x0:=zC hbx x0
   have z0:=hX3.cell 0 rfl 0 rfl
   have HX3:=zB hX3
   rw [Nat.add_zero] at z0
   have HSN2:=zB hsn
   subst hLe
   subst hCe
   clear ho hbr hLr hdc hdk hac hx hxe hdid hsn hbx hX3
   go_upto_region 10 with fail
   rw [zA HW3]
   clear c0 c1 c2 c3 c4 c5 c6 c7 c8 c9 c10 c11
   by_cases he:er=0
   ·subst he
    by_cases h7:d.k=7
    ·have hg:g2=g1:=by rw [zA HSN2,h7];simp
     have HG:=zB hg
     rw [h7] at z0
     clear hg h7
     go_wp2
     go_roundw
     case rel=>exact ⟨k+1,by omega,by go_num,by rw [←zA HGG,zA HG];exact zA HO3,zA HB3⟩
     case measure=>simp [intOf];omega
    ·have hne:(d.k == 7)=false:=by simpa using h7
     have hne2:(d.k != 7)=true:=by simpa using h7
     have hg:g2=g1++[d]:=by rw [zA HSN2];simp [h7]
     have HG:=zB hg
     have HNS:=zB (do_new2 W3 d)
     have hX3:=zA HX3
     clear z0
     have z0:=hX3.cell 0 rfl 0 rfl
     have z1:=hX3.cell 0 rfl 1 rfl
     have z2:=hX3.cell 0 rfl 2 rfl
     have z3:=hX3.cell 0 rfl 3 rfl
     have z4:=hX3.cell 0 rfl 4 rfl
     have z5:=hX3.cell 0 rfl 5 rfl
     have z6:=hX3.cell 0 rfl 6 rfl
     have z7:=hX3.cell 0 rfl 7 rfl
     have z8:=hX3.cell 0 rfl 8 rfl
     have z9:=hX3.cell 0 rfl 9 rfl
     have z10:=hX3.cell 0 rfl 10 rfl
     have z11:=hX3.cell 0 rfl 11 rfl
     rw [Nat.add_zero] at z0 z1 z2 z3 z4 z5 z6 z7 z8 z9 z10 z11
     clear hX3 hg h7
     go_wp2_with (first
      | (at_builtin;refine zZ _ rfl (.tmp 45) (.tmp 47) 23 rfl W2.heap.size 46 i46 _ 12 112 Tryz.underlying23 (zA HI) (zA HZ) (zA HS) (zA HBB) rfl (by decide) _ g1.length (zAj zx g1) rfl ((zA HO3).alloc _) ⟨_,0,none⟩ 1 1 (zx d) rfl rfl (zA HNS) (zBD _) (by unfold maxLen;omega) (by omega) (Nat.le_trans (zA HB3).size (zAs _ _).size) (by omega) ?_;intro g4 c4 w4 ho4 hg4 hw4;have HB4:=zB (((zA HB3).alloc (zA HB3).size _).grown hg4 (Nat.le_trans (zA HB3).size (zAs _ _).size) (fun q hq=>((zA HO3).lt q hq).1));have HO4:=zB ho4;clear ho4 hg4 hw4))
     go_roundw
     case rel=>exact ⟨k+1,by omega,by go_num,by rw [←zA HGG,zA HG,zBY,List.length_append];exact zA HO4,zA HB4⟩
     case measure=>simp [intOf];omega
   ·have hne:(er == 0)=false:=by simpa using he
    have hg:g2=g1:=by rw [zA HSN2];simp [he]
    have HG:=zB hg
    clear hg he
    go_wp2
    go_roundw
    case rel=>exact ⟨k+1,by omega,by go_num,by rw [←zA HGG,zA HG];exact zA HO3,zA HB3⟩
    case measure=>simp [intOf];omega
  ·have dk:decide ((k:Int)<(l.length:Int))=false:=decide_eq_false (by omega)
   have htk:l.take k=l:=List.take_of_length_le (by omega)
   rw [htk] at ho
   obtain ⟨A3,c3,rfl⟩:=zAb ho
   have hL3:=(zA HL2).trans (hbr.mono (zA HL2).size)
   have hD3:DosAt wr A3 (zAf mods h0 l):=dos_own ho (fun d hd=>((zA HDL).acts d (zA HGM d hd)).below hL3)
   have hP3:=zA HPG A3 c3 wr hL3 hD3
   obtain ⟨gn,hgn⟩:∃ gn,gn=(zAf mods h0 l).length:=⟨_,rfl⟩
   rw [←hgn] at hP3
   obtain ⟨w3,rfl⟩:∃ w3,w3=wr:=⟨_,rfl⟩
   have HP3:=zB hP3
   have HB3:=zB hbr
   have HL3:=zB hL3
   rw [←hgn]
   clear ho hbr hL3 hD3 hP3 htk hgn HPG HDL HGM HLE HGET HSN HAN2
   go_wp2_with fail
   go_at_call 13
   refine (zA HP3).mono ?_
   rintro e w4 ⟨T5,tc5,G5,gc5,M5,mc5,SA5,sc5,CA5,cc5,ss5,la5,rfl,hST5,hMD5,hSS5,hss5,hAN5,hla5,hb4⟩
   obtain ⟨W5,hW5,hbx,hX5⟩:=zw w4 [([.slice T5 (zL X).length tc5,.slice G5 X.gens.length gc5,.slice M5 mods.length mc5,.slice SA5 ss5.length sc5],31)]
   have HW5:Hid (w4.alloc (.cells #[.slice T5 (zL X).length tc5,.slice G5 X.gens.length gc5,.slice M5 mods.length mc5,.slice SA5 ss5.length sc5] 31)=W5):=zB hW5
   clear hW5
   have hb45:=hb4.trans (hbx.mono hb4.size)
   have hb25:=(zA HB3).trans (hb45.mono (zA HB3).size)
   have HX5:=zB ((zA HX2).below hb25)
   have HY5:=zB hX5
   have HL5:=zB ((zA HL3).trans (hb45.mono (zA HL3).size))
   have HSTa:=zB ((zA HST2).below hb25)
   have HMDa:=zB ((zA HMD2).below hb25)
   have HSSa:=zB ((zA HSS2).below hb25)
   have HSTb:=zB (hST5.below hbx)
   have HMDb:=zB (hMD5.below hbx)
   have HSSb:=zB (hSS5.below hbx)
   have HANb:=zB (hAN5.below hbx)
   have HEQ5:=zB hss5
   have hlg:ss5.length=ss1.length:=by
    have h1:=congrArg List.length hss5
    have h2:=congrArg List.length (zA HEQ)
    rw [List.length_map] at h1 h2
    omega
   have HE0:Hid (∀ x∈la5,x.1.e=0):=zB (fun x hx=>zA HG2 x.1 (by rw [←hla5];exact List.mem_map.2 ⟨x,hx,rfl⟩))
   have hlb:la5.length≤80:=by
    have h1:=congrArg List.length hla5
    rw [List.length_map] at h1
    have:=zA HGA
    omega
   rw [hlg]
   rw [hlg] at HW5 HY5
   clear hb4 hbx hb45 hb25 hX5 hST5 hMD5 hSS5 hAN5 hss5 hla5 HX2 HST2 HMD2 HSS2 HP3 HL3 HB3
   go_wp2_with ((rw [zA HW5];refine zH rfl 35 (.tmp 7) (.tmp 56) rfl (w1.heap.size+1) 0 [.int .i64 0,.int .i64 0] rfl rfl (by simp [Value.oneCell']) sz35a ((zA HX5).there 1 rfl 2 rfl) ?_;intro W6 hW6;have hg6:=(Tw.refl (fun b=>b=w1.heap.size+1) W5).sets (b:=w1.heap.size+1) (o:=0) (vs:=[.int .i64 0,.int .i64 0]) (.inl rfl);rw [←hW6] at hg6;have HX6:=zB ((zA HX5).give 1 rfl [.int .i64 0,.int .i64 0] rfl);rw [←hW6] at HX6;have HBL:=zB (tw_zero hg6 (zA HX5) (zA HX6));have HY6:=zB ((zA HY5).below (zA HBL));have HL6:=zB ((zA HL5).trans ((zA HBL).mono (zA HL5).size));have HSTa6:=zB ((zA HSTa).below (zA HBL));have HSTb6:=zB ((zA HSTb).below (zA HBL));have HMDa6:=zB ((zA HMDa).below (zA HBL));have HMDb6:=zB ((zA HMDb).below (zA HBL));have HSSa6:=zB ((zA HSSa).below (zA HBL));have HSSb6:=zB ((zA HSSb).below (zA HBL));have HAN6:=zB ((zA HANb).below (zA HBL));clear hg6;clear hW6))
   go_loopw [59] (fun x wr=>∃ j:Nat,j≤la5.length∧x=.int .i64 (j:Int)∧Below W6.heap.size W6 wr) (fun x _=>la5.length - (intOf x).toNat)
   case atStart=>exact ⟨0,Nat.zero_le _,rfl,Below.refl _ _⟩
   case round =>
    obtain ⟨j,hj,rfl,hbr⟩:=hrel
    by_cases hlj:j<la5.length
    ·have j0:(0:Int)≤(j:Int):=by omega
     have j1:(j:Int)<(la5.length:Int):=by omega
     obtain ⟨ba,oa,hCe,hac⟩:=((zA HAN6).below hbr).at_ j _ (List.getElem?_eq_getElem hlj)
     have hx0:=zA HE0 _ (List.getElem_mem hlj)
     have x0:=hac 0 _ rfl
     have x1:=hac 1 _ rfl
     have x2:=hac 2 _ rfl
     have x3:=hac 3 _ rfl
     have x4:=hac 4 _ rfl
     rw [Nat.add_zero] at x0
     rw [hx0] at x0
     have HBR:=zB hbr
     subst hCe
     clear hac hx0 hbr
     go_wp2
     go_roundw
     case rel=>exact ⟨j+1,by omega,by go_num,(zA HBR).alloc (zA HBR).size _⟩
     case measure=>simp [intOf];omega
    ·have dj:decide ((j:Int)<(la5.length:Int))=false:=decide_eq_false (by omega)
     have hX9:=(zA HX6).below hbr
     have hY9:=(zA HY6).below hbr
     have hn12:ss1.length≤12:=by
      have:=(zA HOK).few
      rw [←zA HEQ,List.length_map] at this
      exact this
     have hSH:=samehouse_true T1 tc1 G1 gc1 M1 mc1 SA1 sc1 T5 tc5 G5 gc5 M5 mc5 SA5 sc5 X mods ss1.length (fun j=>ss1.getD j dS) (fun j=>ss5.getD j dS) wr hn12 hml ((zA HSTa6).below hbr) ((zA HSTb6).below hbr) ((zA HMDa6).below hbr) ((zA HMDb6).below hbr) ((zA HSSa6).below hbr) (by rw [←hlg];exact (zA HSSb6).below hbr) (fun j hj=>by rw [←toP_getD,←toP_getD,zA HEQ,zA HEQ5]) (fun j hj=>by
      have:=(zA HOK).right j (by rw [←zA HEQ];simpa using hj)
      rw [←zA HEQ,sOf_toP] at this
      exact ((zBT _ _ _ _ _).1 this).2.1)
     have HSH:=zB hSH
     have HL9:=zB ((zA HL6).trans (hbr.mono (zA HL6).size))
     have q0:=hX9.cell 1 rfl 0 rfl
     have a0:=hX9.cell 0 rfl 0 rfl
     have a1:=hX9.cell 0 rfl 1 rfl
     have a2:=hX9.cell 0 rfl 2 rfl
     have a3:=hX9.cell 0 rfl 3 rfl
     have b0:=hY9.cell 0 rfl 0 rfl
     have b1:=hY9.cell 0 rfl 1 rfl
     have b2:=hY9.cell 0 rfl 2 rfl
     have b3:=hY9.cell 0 rfl 3 rfl
     rw [Nat.add_zero] at a0 a1 a2 a3 b0 b1 b2 b3
     clear hX9 hY9 hSH hbr
     go_wp2_with ((go_at_call 19;refine (zA HSH).mono ?_;rintro e w9 ⟨rfl,hb9⟩;have HLE9:=zB ((zA HL9).trans (hb9.mono (zA HL9).size));clear hb9))
     go_ret
     exact ⟨rfl,zA HLE9⟩
theorem href_law (M:Option Addr) (mods:List ModI) (mc:Nat) (LD:Option Addr) (l:List DoI) (lc:Nat) (w:World) (hM:GAt zi 3 w M mods) (hL:DosAt w LD l) :
  Calls Tryz.prog 5 #[.slice M mods.length mc,.slice LD l.length lc] w fun e w'=>e=.returned (.bool true)∧Below w.heap.size w w':=by
 by_cases h:(wmF mods).1=0
 ·by_cases hl:l.length≤80
  ·exact href_ok M mc mods LD lc l w hM hL (wm_zero h) hl
  ·exact href_many M mc mods LD lc l w hM (wm_zero h) (by omega)
 ·exact href_wrong M mc mods LD lc l w hM h
end Go.Proofs.YtnbleebilmghcacGreat
