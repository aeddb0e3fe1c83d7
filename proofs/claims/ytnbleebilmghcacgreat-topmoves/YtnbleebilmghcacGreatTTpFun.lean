/- What the statements about the whole are made of. -/
import Derived.Test.YtnbleebilmghcacGreatTTkOwn
set_option linter.all false
set_option maxHeartbeats 2000000
set_option maxRecDepth 8000
namespace Go.Proofs.YtnbleebilmghcacGreat
open Go Go.RowKit
attribute [local go_sem ↓] Go.wp_at_zero Go.wp_at_succ
def mAll:List ModI:=[⟨255,255,true⟩]
def sysD (need:Int) (y:ActI) (g:Nat):DoI:=⟨5,0,0,0,0,0,⟨0,need,0,some ⟨g,0,none⟩,1,1,fun _=>y⟩,0,0⟩
def spD (has n:Int):DoI:=⟨1,has,0,n,0,0,dS,0,0⟩
def akD (need part:Int):DoI:=⟨7,0,part,0,0,0,dS,need,0⟩
theorem sz46:(Tryz.prog.info? 46).map (·.size)=some 12:=by kernel_rfl
theorem acts_one {W:World} {g:Nat} {y:ActI} (h:Bxs g [(zAq y,71)] W):ActsAt W (some ⟨g,0,none⟩) 1 (fun _=>y):=fun j hj=>by
 obtain rfl:j=0:=by omega
 have c:=fun i u hu=>h.cell 0 rfl i (u:=u) hu
 simp only [Nat.add_zero] at c
 exact ⟨g,0,rfl,c 0 _ rfl,c 1 _ rfl,c 2 _ rfl,c 3 _ rfl⟩
theorem all_mods {W:World} {g:Nat} (h:Bxs g [([.int .i64 255,.int .i64 255,.bool true],48)] W):GAt zAM 3 W (some ⟨g,0,none⟩) mAll:=fun j x hx=>by
 match j,hx with
 | 0,hx =>
  injection hx with hx
  subst hx
  refine ⟨g,0,rfl,fun i u hu=>?_⟩
  have:=h.cell 0 rfl i hu
  simpa using this
 | j+1,hx=>simp [mAll] at hx
theorem tspawn_any (has n:Int) (w:World) :
  Calls Tryz.prog 21 #[.int .i64 has,.int .i64 n] w fun e w'=>e=.returned (.agg #[.int .i64 1,.int .i64 has,.int .i64 0,.int .i64 n,.int .i64 0,.int .i64 0,.int .i64 0,.int .i64 0,.int .i64 0,.slice none 0 0,.int .i64 0,.int .i64 0])∧Below w.heap.size w w':=by
 obtain ⟨W0,hW0,hbx,hX0⟩:=zAL w [([.int .i64 0,.int .i64 0,.int .i64 0,.int .i64 0,.int .i64 0,.int .i64 0,.int .i64 0,.int .i64 0,.int .i64 0,.slice none 0 0,.int .i64 0,.int .i64 0],46)]
 have HW0:Hid (w.alloc (.cells #[.int .i64 0,.int .i64 0,.int .i64 0,.int .i64 0,.int .i64 0,.int .i64 0,.int .i64 0,.int .i64 0,.int .i64 0,.slice none 0 0,.int .i64 0,.int .i64 0] 46)=W0):=zB hW0
 clear hW0
 have HL0:=zB hbx
 have HX0:=zB hX0
 clear hbx hX0
 go_enter Tryz.func21,Tryz.ntmps21
 go_upto_region 1 with fail
 rw [zA HW0]
 go_wp2_with ((refine zH rfl 46 (.tmp 4) (.tmp 7) rfl w.heap.size 0 [.int .i64 1,.int .i64 has,.int .i64 0,.int .i64 n,.int .i64 0,.int .i64 0,.int .i64 0,.int .i64 0,.int .i64 0,.slice none 0 0,.int .i64 0,.int .i64 0] rfl rfl (by simp [Value.oneCell']) sz46 ((zA HX0).there 0 rfl 12 rfl) ?_;intro W1 hW1;have HX1:=zB ((zA HX0).give 0 rfl [.int .i64 1,.int .i64 has,.int .i64 0,.int .i64 n,.int .i64 0,.int .i64 0,.int .i64 0,.int .i64 0,.int .i64 0,.slice none 0 0,.int .i64 0,.int .i64 0] rfl);have HE:=zB (zF (B:=w.heap.size) w.heap.size (Nat.le_refl _) [.int .i64 1,.int .i64 has,.int .i64 0,.int .i64 n,.int .i64 0,.int .i64 0,.int .i64 0,.int .i64 0,.int .i64 0,.slice none 0 0,.int .i64 0,.int .i64 0] 0 _ (zA HL0));rw [Nat.add_zero] at HX1;rw [←hW1] at HX1 HE;clear hW1))
 have r0:=(zA HX1).cell 0 rfl 0 rfl
 have r1:=(zA HX1).cell 0 rfl 1 rfl
 have r2:=(zA HX1).cell 0 rfl 2 rfl
 have r3:=(zA HX1).cell 0 rfl 3 rfl
 have r4:=(zA HX1).cell 0 rfl 4 rfl
 have r5:=(zA HX1).cell 0 rfl 5 rfl
 have r6:=(zA HX1).cell 0 rfl 6 rfl
 have r7:=(zA HX1).cell 0 rfl 7 rfl
 have r8:=(zA HX1).cell 0 rfl 8 rfl
 have r9:=(zA HX1).cell 0 rfl 9 rfl
 have r10:=(zA HX1).cell 0 rfl 10 rfl
 have r11:=(zA HX1).cell 0 rfl 11 rfl
 rw [Nat.add_zero] at r0 r1 r2 r3 r4 r5 r6 r7 r8 r9 r10 r11
 refine bodyPost_ret (v:=.agg #[.int .i64 1,.int .i64 has,.int .i64 0,.int .i64 n,.int .i64 0,.int .i64 0,.int .i64 0,.int .i64 0,.int .i64 0,.slice none 0 0,.int .i64 0,.int .i64 0]) (by simp [results,Tryz.results21,go_sem,r0,r1,r2,r3,r4,r5,r6,r7,r8,r9,r10,r11]) rfl ⟨rfl,zA HE⟩
theorem tsys_any (need:Int) (A:Option Addr) (len cap:Nat) (w:World) :
  Calls Tryz.prog 22 #[.int .i64 need,.slice A len cap] w fun e w'=>e=.returned (.agg #[.int .i64 5,.int .i64 0,.int .i64 0,.int .i64 0,.int .i64 0,.int .i64 0,.int .i64 0,.int .i64 need,.int .i64 0,.slice A len cap,.int .i64 0,.int .i64 0])∧Below w.heap.size w w':=by
 obtain ⟨W0,hW0,hbx,hX0⟩:=zAL w [([.int .i64 0,.int .i64 0,.int .i64 0,.int .i64 0,.int .i64 0,.int .i64 0,.int .i64 0,.int .i64 0,.int .i64 0,.slice none 0 0,.int .i64 0,.int .i64 0],46)]
 have HW0:Hid (w.alloc (.cells #[.int .i64 0,.int .i64 0,.int .i64 0,.int .i64 0,.int .i64 0,.int .i64 0,.int .i64 0,.int .i64 0,.int .i64 0,.slice none 0 0,.int .i64 0,.int .i64 0] 46)=W0):=zB hW0
 clear hW0
 have HL0:=zB hbx
 have HX0:=zB hX0
 clear hbx hX0
 go_enter Tryz.func22,Tryz.ntmps22
 go_upto_region 1 with fail
 rw [zA HW0]
 go_wp2_with ((refine zH rfl 46 (.tmp 4) (.tmp 9) rfl w.heap.size 0 [.int .i64 5,.int .i64 0,.int .i64 0,.int .i64 0,.int .i64 0,.int .i64 0,.int .i64 0,.int .i64 need,.int .i64 0,.slice A len cap,.int .i64 0,.int .i64 0] rfl rfl (by simp [Value.oneCell']) sz46 ((zA HX0).there 0 rfl 12 rfl) ?_;intro W1 hW1;have HX1:=zB ((zA HX0).give 0 rfl [.int .i64 5,.int .i64 0,.int .i64 0,.int .i64 0,.int .i64 0,.int .i64 0,.int .i64 0,.int .i64 need,.int .i64 0,.slice A len cap,.int .i64 0,.int .i64 0] rfl);have HE:=zB (zF (B:=w.heap.size) w.heap.size (Nat.le_refl _) [.int .i64 5,.int .i64 0,.int .i64 0,.int .i64 0,.int .i64 0,.int .i64 0,.int .i64 0,.int .i64 need,.int .i64 0,.slice A len cap,.int .i64 0,.int .i64 0] 0 _ (zA HL0));rw [Nat.add_zero] at HX1;rw [←hW1] at HX1 HE;clear hW1))
 have r0:=(zA HX1).cell 0 rfl 0 rfl
 have r1:=(zA HX1).cell 0 rfl 1 rfl
 have r2:=(zA HX1).cell 0 rfl 2 rfl
 have r3:=(zA HX1).cell 0 rfl 3 rfl
 have r4:=(zA HX1).cell 0 rfl 4 rfl
 have r5:=(zA HX1).cell 0 rfl 5 rfl
 have r6:=(zA HX1).cell 0 rfl 6 rfl
 have r7:=(zA HX1).cell 0 rfl 7 rfl
 have r8:=(zA HX1).cell 0 rfl 8 rfl
 have r9:=(zA HX1).cell 0 rfl 9 rfl
 have r10:=(zA HX1).cell 0 rfl 10 rfl
 have r11:=(zA HX1).cell 0 rfl 11 rfl
 rw [Nat.add_zero] at r0 r1 r2 r3 r4 r5 r6 r7 r8 r9 r10 r11
 refine bodyPost_ret (v:=.agg #[.int .i64 5,.int .i64 0,.int .i64 0,.int .i64 0,.int .i64 0,.int .i64 0,.int .i64 0,.int .i64 need,.int .i64 0,.slice A len cap,.int .i64 0,.int .i64 0]) (by simp [results,Tryz.results22,go_sem,r0,r1,r2,r3,r4,r5,r6,r7,r8,r9,r10,r11]) rfl ⟨rfl,zA HE⟩
theorem task_any (need part:Int) (w:World) :
  Calls Tryz.prog 25 #[.int .i64 need,.int .i64 part] w fun e w'=>e=.returned (.agg #[.int .i64 7,.int .i64 0,.int .i64 part,.int .i64 0,.int .i64 0,.int .i64 0,.int .i64 0,.int .i64 0,.int .i64 0,.slice none 0 0,.int .i64 need,.int .i64 0])∧Below w.heap.size w w':=by
 obtain ⟨W0,hW0,hbx,hX0⟩:=zAL w [([.int .i64 0,.int .i64 0,.int .i64 0,.int .i64 0,.int .i64 0,.int .i64 0,.int .i64 0,.int .i64 0,.int .i64 0,.slice none 0 0,.int .i64 0,.int .i64 0],46)]
 have HW0:Hid (w.alloc (.cells #[.int .i64 0,.int .i64 0,.int .i64 0,.int .i64 0,.int .i64 0,.int .i64 0,.int .i64 0,.int .i64 0,.int .i64 0,.slice none 0 0,.int .i64 0,.int .i64 0] 46)=W0):=zB hW0
 clear hW0
 have HL0:=zB hbx
 have HX0:=zB hX0
 clear hbx hX0
 go_enter Tryz.func25,Tryz.ntmps25
 go_upto_region 1 with fail
 rw [zA HW0]
 go_wp2_with ((refine zH rfl 46 (.tmp 4) (.tmp 8) rfl w.heap.size 0 [.int .i64 7,.int .i64 0,.int .i64 part,.int .i64 0,.int .i64 0,.int .i64 0,.int .i64 0,.int .i64 0,.int .i64 0,.slice none 0 0,.int .i64 need,.int .i64 0] rfl rfl (by simp [Value.oneCell']) sz46 ((zA HX0).there 0 rfl 12 rfl) ?_;intro W1 hW1;have HX1:=zB ((zA HX0).give 0 rfl [.int .i64 7,.int .i64 0,.int .i64 part,.int .i64 0,.int .i64 0,.int .i64 0,.int .i64 0,.int .i64 0,.int .i64 0,.slice none 0 0,.int .i64 need,.int .i64 0] rfl);have HE:=zB (zF (B:=w.heap.size) w.heap.size (Nat.le_refl _) [.int .i64 7,.int .i64 0,.int .i64 part,.int .i64 0,.int .i64 0,.int .i64 0,.int .i64 0,.int .i64 0,.int .i64 0,.slice none 0 0,.int .i64 need,.int .i64 0] 0 _ (zA HL0));rw [Nat.add_zero] at HX1;rw [←hW1] at HX1 HE;clear hW1))
 have r0:=(zA HX1).cell 0 rfl 0 rfl
 have r1:=(zA HX1).cell 0 rfl 1 rfl
 have r2:=(zA HX1).cell 0 rfl 2 rfl
 have r3:=(zA HX1).cell 0 rfl 3 rfl
 have r4:=(zA HX1).cell 0 rfl 4 rfl
 have r5:=(zA HX1).cell 0 rfl 5 rfl
 have r6:=(zA HX1).cell 0 rfl 6 rfl
 have r7:=(zA HX1).cell 0 rfl 7 rfl
 have r8:=(zA HX1).cell 0 rfl 8 rfl
 have r9:=(zA HX1).cell 0 rfl 9 rfl
 have r10:=(zA HX1).cell 0 rfl 10 rfl
 have r11:=(zA HX1).cell 0 rfl 11 rfl
 rw [Nat.add_zero] at r0 r1 r2 r3 r4 r5 r6 r7 r8 r9 r10 r11
 refine bodyPost_ret (v:=.agg #[.int .i64 7,.int .i64 0,.int .i64 part,.int .i64 0,.int .i64 0,.int .i64 0,.int .i64 0,.int .i64 0,.int .i64 0,.slice none 0 0,.int .i64 need,.int .i64 0]) (by simp [results,Tryz.results25,go_sem,r0,r1,r2,r3,r4,r5,r6,r7,r8,r9,r10,r11]) rfl ⟨rfl,zA HE⟩
theorem tall_any (w:World):Calls Tryz.prog 23 #[] w fun e w'=>e=.returned (.slice (some ⟨w.heap.size,0,none⟩) 1 1)∧Bxs w.heap.size [([.int .i64 255,.int .i64 255,.bool true],48)] w'∧Below w.heap.size w w':=by
 obtain ⟨W0,hW0,hbx,hX0⟩:=zAL w [([.int .i64 255,.int .i64 255,.bool true],48)]
 have HW0:Hid (w.alloc (.cells #[.int .i64 255,.int .i64 255,.bool true] 48)=W0):=zB hW0
 clear hW0
 have HL0:=zB hbx
 have HX0:=zB hX0
 clear hbx hX0
 go_enter Tryz.func23,Tryz.ntmps23
 go_wp2
 go_ret
 rw [zA HW0]
 exact ⟨rfl,zA HX0,zA HL0⟩
theorem atop_pure:((zBJ mAll [spD 3 4,sysD 3 ⟨3,0,1,0⟩ 0,tickD,akD 1 0]).1.map (·.n))=[0,1,1,8]:=by decide +kernel
theorem atop_g (g:Nat):((zBJ mAll [spD 3 4,sysD 3 ⟨3,0,1,0⟩ g,tickD,akD 1 0]).1.map (·.n))=[0,1,1,8]:=by
 have e:zBJ mAll [spD 3 4,sysD 3 ⟨3,0,1,0⟩ g,tickD,akD 1 0]=zBJ mAll [spD 3 4,sysD 3 ⟨3,0,1,0⟩ 0,tickD,akD 1 0]:=by
  unfold zBJ
  rw [←zCp mAll [spD 3 4,sysD 3 ⟨3,0,1,0⟩ g,tickD,akD 1 0],←zCp mAll [spD 3 4,sysD 3 ⟨3,0,1,0⟩ 0,tickD,akD 1 0]]
  rfl
 rw [e]
 exact atop_pure
theorem alive8_any (w:World):Calls Tryz.prog 20 #[] w fun e w'=>e=.returned (.bool true)∧Below w.heap.size w w':=by
 have hAL:=tall_any
 have hSP:=tspawn_any 3 4
 have HAL:=zB hAL
 have HSP:=zB hSP
 clear hAL hSP
 go_enter Tryz.func20,Tryz.ntmps20
 go_wp2_with fail
 go_at_call 23
 refine (zA HAL w).mono ?_
 rintro e w1 ⟨rfl,hM1,hb1⟩
 go_wp2_with fail
 go_at_call 21
 refine (zA HSP w1).mono ?_
 rintro e w2 ⟨rfl,hb2⟩
 obtain ⟨W3,hW3,hbx,hX3⟩:=zAL w2 [([.int .i64 3,.int .i64 0,.int .i64 1,.int .i64 0],71)]
 have HW3:Hid (w2.alloc (.cells #[.int .i64 3,.int .i64 0,.int .i64 1,.int .i64 0] 71)=W3):=zB hW3
 clear hW3
 have hL3:=(hb1.trans (hb2.mono hb1.size)).trans (hbx.mono (hb1.trans (hb2.mono hb1.size)).size)
 have HM3:=zB ((hM1.below hb2).below hbx)
 have HA3:=zB hX3
 have HL3:=zB hL3
 have HSY:=zB (tsys_any 3 (some ⟨w2.heap.size,0,none⟩) 1 1)
 have HAK:=zB (task_any 1 0)
 clear hM1 hb1 hb2 hbx hX3 hL3 HAL HSP
 go_wp2_with fail
 go_at_call 22
 rw [zA HW3]
 refine (zA HSY W3).mono ?_
 rintro e w4 ⟨rfl,hb4⟩
 have HM4:=zB ((zA HM3).below hb4)
 have HA4:=zB ((zA HA3).below hb4)
 have HL4:=zB ((zA HL3).trans (hb4.mono (zA HL3).size))
 clear hb4 HM3 HA3 HL3 HSY
 go_wp2_with fail
 go_at_call 25
 refine (zA HAK w4).mono ?_
 rintro e w5 ⟨rfl,hb5⟩
 obtain ⟨W6,hW6,hbx,hX6⟩:=zAL w5 [([.int .i64 1,.int .i64 3,.int .i64 0,.int .i64 4,.int .i64 0,.int .i64 0,.int .i64 0,.int .i64 0,.int .i64 0,.slice none 0 0,.int .i64 0,.int .i64 0,.int .i64 5,.int .i64 0,.int .i64 0,.int .i64 0,.int .i64 0,.int .i64 0,.int .i64 0,.int .i64 3,.int .i64 0,.slice (some ⟨w2.heap.size,0,none⟩) 1 1,.int .i64 0,.int .i64 0,.int .i64 6,.int .i64 0,.int .i64 0,.int .i64 0,.int .i64 0,.int .i64 0,.int .i64 0,.int .i64 0,.int .i64 0,.slice none 0 0,.int .i64 0,.int .i64 0,.int .i64 7,.int .i64 0,.int .i64 0,.int .i64 0,.int .i64 0,.int .i64 0,.int .i64 0,.int .i64 0,.int .i64 0,.slice none 0 0,.int .i64 1,.int .i64 0],46)]
 have HW6:Hid (w5.alloc (.cells #[.int .i64 1,.int .i64 3,.int .i64 0,.int .i64 4,.int .i64 0,.int .i64 0,.int .i64 0,.int .i64 0,.int .i64 0,.slice none 0 0,.int .i64 0,.int .i64 0,.int .i64 5,.int .i64 0,.int .i64 0,.int .i64 0,.int .i64 0,.int .i64 0,.int .i64 0,.int .i64 3,.int .i64 0,.slice (some ⟨w2.heap.size,0,none⟩) 1 1,.int .i64 0,.int .i64 0,.int .i64 6,.int .i64 0,.int .i64 0,.int .i64 0,.int .i64 0,.int .i64 0,.int .i64 0,.int .i64 0,.int .i64 0,.slice none 0 0,.int .i64 0,.int .i64 0,.int .i64 7,.int .i64 0,.int .i64 0,.int .i64 0,.int .i64 0,.int .i64 0,.int .i64 0,.int .i64 0,.int .i64 0,.slice none 0 0,.int .i64 1,.int .i64 0] 46)=W6):=zB hW6
 clear hW6
 have hb56:=hb5.trans (hbx.mono hb5.size)
 have hM6:=all_mods ((zA HM4).below hb56)
 have hA6:=acts_one (y:=⟨3,0,1,0⟩) ((zA HA4).below hb56)
 have HL6:=zB ((zA HL4).trans (hb56.mono (zA HL4).size))
 have hD6:DosAt W6 (some ⟨w5.heap.size,0,none⟩) [spD 3 4,sysD 3 ⟨3,0,1,0⟩ w2.heap.size,tickD,akD 1 0]:=by
  have c:=fun i u hu=>hX6.cell 0 rfl i (u:=u) hu
  simp only [Nat.add_zero] at c
  refine ⟨fun j x hx=>⟨w5.heap.size,0,rfl,?_⟩,fun d hd=>?_⟩
  ·match j,hx with
   | 0,hx=>injection hx with hx;subst hx;intro i u hu;have hi:i<12:=(List.getElem?_eq_some_iff.1 hu).1;refine c (0+0*12+i) u ?_;rcases (by omega:i=0∨i=1∨i=2∨i=3∨i=4∨i=5∨i=6∨i=7∨i=8∨i=9∨i=10∨i=11) with rfl | rfl | rfl | rfl | rfl | rfl | rfl | rfl | rfl | rfl | rfl | rfl <;> exact hu
   | 1,hx=>injection hx with hx;subst hx;intro i u hu;have hi:i<12:=(List.getElem?_eq_some_iff.1 hu).1;refine c (0+1*12+i) u ?_;rcases (by omega:i=0∨i=1∨i=2∨i=3∨i=4∨i=5∨i=6∨i=7∨i=8∨i=9∨i=10∨i=11) with rfl | rfl | rfl | rfl | rfl | rfl | rfl | rfl | rfl | rfl | rfl | rfl <;> exact hu
   | 2,hx=>injection hx with hx;subst hx;intro i u hu;have hi:i<12:=(List.getElem?_eq_some_iff.1 hu).1;refine c (0+2*12+i) u ?_;rcases (by omega:i=0∨i=1∨i=2∨i=3∨i=4∨i=5∨i=6∨i=7∨i=8∨i=9∨i=10∨i=11) with rfl | rfl | rfl | rfl | rfl | rfl | rfl | rfl | rfl | rfl | rfl | rfl <;> exact hu
   | 3,hx=>injection hx with hx;subst hx;intro i u hu;have hi:i<12:=(List.getElem?_eq_some_iff.1 hu).1;refine c (0+3*12+i) u ?_;rcases (by omega:i=0∨i=1∨i=2∨i=3∨i=4∨i=5∨i=6∨i=7∨i=8∨i=9∨i=10∨i=11) with rfl | rfl | rfl | rfl | rfl | rfl | rfl | rfl | rfl | rfl | rfl | rfl <;> exact hu
   | j+4,hx=>simp at hx
  ·simp only [List.mem_cons,List.not_mem_nil,or_false] at hd
   rcases hd with rfl | rfl | rfl | rfl
   ·exact acts_dS _
   ·exact hA6
   ·exact acts_dS _
   ·exact acts_dS _
 have hPL:=play_right (some ⟨w.heap.size,0,none⟩) 1 mAll (some ⟨w5.heap.size,0,none⟩) 4 _ W6 hM6 hD6 (by decide +kernel) (by simp)
 have ha1:=atop_g w2.heap.size
 generalize zBJ mAll [spD 3 4,sysD 3 ⟨3,0,1,0⟩ w2.heap.size,tickD,akD 1 0]=pf at *
 have HPL:=zB hPL
 have HA1:=zB ha1
 clear hPL ha1 hM6 hD6 hA6 hX6 hbx hb5 hb56 HM4 HA4 HL4 HAK
 go_wp2_with fail
 go_at_call 13
 rw [zA HW6]
 refine (zA HPL).mono ?_
 rintro e w7 ⟨T,tc,G,gc,M',mc',SA,sc,CA,cc,ss,la,rfl,_,_,_,hss,hAN,hla,hb7⟩
 have hl4:la.length=4:=by
  have:=congrArg List.length (zA HA1)
  rw [←hla] at this
  simpa using this
 rw [hl4]
 have hn:∀ j (hj:j<la.length),some (la[j].1.n)=([0,1,1,8]:List Int)[j]?:=fun j hj=>by
  have:=congrArg (fun l=>l[j]?) (zA HA1)
  simp only [←hla,List.map_map,List.getElem?_map,List.getElem?_eq_getElem hj] at this
  exact this
 have n3:la[3].1.n=8:=by have:=hn 3 (by omega);simpa using this
 obtain ⟨b,off,hCA,hc3⟩:=hAN.at_ 3 la[3] (List.getElem?_eq_getElem (by omega))
 have y3:=hc3 4 _ rfl
 rw [n3] at y3
 subst hCA
 obtain ⟨W8,hW8,hbx,hX8⟩:=zAL w7 [([.slice T (zK pf.2.X).length tc,.slice G pf.2.X.gens.length gc,.slice M' mAll.length mc',.slice SA ss.length sc],31),([.int .i64 0,.int .i64 0],35)]
 have HW8:Hid ((w7.alloc (.cells #[.slice T (zK pf.2.X).length tc,.slice G pf.2.X.gens.length gc,.slice M' mAll.length mc',.slice SA ss.length sc] 31)).alloc (.cells #[.int .i64 0,.int .i64 0] 35)=W8):=zB hW8
 clear hW8
 have HL8:=zB ((zA HL6).trans ((hb7.trans (hbx.mono hb7.size)).mono (zA HL6).size))
 have y3:=zD hbx y3
 have q0:=hX8.cell 1 rfl 0 rfl
 clear hAN hla hss hn hc3 n3 hl4 hX8 hbx hb7 HPL HA1
 go_upto_region 2 with fail
 rw [zA HW8]
 go_wp2
 go_ret
 exact ⟨rfl,zA HL8⟩
end Go.Proofs.YtnbleebilmghcacGreat
