/- package house: do. -/
import Derived.Test.YtnbleebilmghcacGreatYHo5
import Derived.Test.YtnbleebilmghcacGreatYHo6
import Derived.Test.YtnbleebilmghcacGreatYHo7
set_option linter.all false
set_option maxHeartbeats 2000000
set_option maxRecDepth 8000
namespace Go.Proofs.YtnbleebilmghcacGreat
open Go Go.RowKit
attribute [local go_sem ↓] Go.wp_at_zero Go.wp_at_succ
theorem do_tick (p:Nat) (T:Option Addr) (tc:Nat) (G:Option Addr) (gc:Nat) (u2 u4:Value) (SA:Option Addr) (n sc:Nat) (S:Nat→SysI) (X:Wd) (d:DoI) (w:World) (hB:Bxs p [([.slice T (zL X).length tc,.slice G X.gens.length gc,u2,.slice SA n sc,u4],82)] w) (hS:StAt w T G (zL X) X) (hL:SyssAt w SA n S) (hn:n≤12) (hsw:∀ j,j<n→(sw (S j)).1=0) (hk:d.k=6) :
  Calls Tryz.prog 28 #[.pointer (some ⟨p,0,none⟩),doV d] w fun e w'=>e=.returned (.agg #[.int .i64 (zAE S n 0 X).1.1,.int .i64 0,.int .i64 0,.slice none 0 0,.int .i64 (if (zAE S n 0 X).1.1=0 then (((mkB (clS S) n).length:Nat):Int) else 0)])∧Bec p u2 (.slice SA n sc) u4 (zAE S n 0 X).1.1 (zAE S n 0 X).2 w w':=by
 have hC:=fun W h (hb:Below w.heap.size w W)=>tick_any p T tc G gc u2 u4 SA n sc S X W h (hS.below hb) (hL.below hb) hn hsw
 obtain ⟨nn,hnn⟩:∃ nn,nn=(if (zAE S n 0 X).1.1=0 then (((mkB (clS S) n).length:Nat):Int) else 0):=⟨_,rfl⟩
 rw [←hnn] at hC ⊢
 obtain ⟨e1,he1⟩:∃ e1,e1=(zAE S n 0 X).1.1:=⟨_,rfl⟩
 obtain ⟨Y,hY⟩:∃ Y,Y=(zAE S n 0 X).2:=⟨_,rfl⟩
 rw [←he1,←hY] at hC ⊢
 have HC:=zB hC
 clear hC hS hL hsw hn hnn he1 hY
 obtain ⟨W0,hW0,hbx,hX0⟩:=zw w [([.int .i64 d.k,.int .i64 d.has,.int .i64 d.p,.int .i64 d.n,.int .i64 d.i,.int .i64 d.g,.int .i64 d.s.m,.int .i64 d.s.al,.int .i64 d.s.no,.slice d.s.A d.s.len d.s.cap,.int .i64 d.fa,.int .i64 d.fn],46),([.int .i64 0,.int .i64 0,.int .i64 0,.slice none 0 0,.int .i64 0],64)]
 have HW0:Hid ((w.alloc (.cells #[.int .i64 d.k,.int .i64 d.has,.int .i64 d.p,.int .i64 d.n,.int .i64 d.i,.int .i64 d.g,.int .i64 d.s.m,.int .i64 d.s.al,.int .i64 d.s.no,.slice d.s.A d.s.len d.s.cap,.int .i64 d.fa,.int .i64 d.fn] 46)).alloc (.cells #[.int .i64 0,.int .i64 0,.int .i64 0,.slice none 0 0,.int .i64 0] 64)=W0):=zB hW0
 clear hW0
 have hP0:=hB.below hbx
 have HB:=zB hB
 have hp:p<w.heap.size:=hB.lt (k:=0) rfl
 have HL0:=zB hbx
 have HX0:=zB hX0
 have HP0:=zB hP0
 have hsz:w.heap.size+2≤W0.heap.size:=hX0.sz (by simp)
 have z0:=hX0.cell 0 rfl 0 rfl
 rw [Nat.add_zero] at z0
 rw [hk] at z0
 clear hk
 clear hbx hX0 hB hP0
 unfold doV
 go_enter Tryz.func28,Tryz.ntmps28
 go_upto_region 1 with fail
 rw [zA HW0]
 go_wp2_with (first
  | (go_at_call 44;refine (zA HC W0 (zA HP0) (zA HL0)).mono ?_;rintro e w1 ⟨rfl,hbc⟩;have HBC:=zB hbc;have HX1:=zB (bec_box hbc (zA HX0) hp);clear hbc)
  | (refine zH rfl 64 (.tmp 4) (.tmp 72) rfl (w.heap.size+1) 0 [.int .i64 e1,.int .i64 0,.int .i64 0,.slice none 0 0,.int .i64 nn] rfl rfl (by simp [Value.oneCell']) sz64 ((zA HX1).there 1 rfl 5 rfl) ?_;intro W2 hW2;have HX2:=zB ((zA HX1).give 1 rfl [.int .i64 e1,.int .i64 0,.int .i64 0,.slice none 0 0,.int .i64 nn] rfl);rw [←hW2] at HX2;skip;have HW2:=zB hW2;clear hW2))
 have hE:=bec_put (zA HBC) (zA HL0) (zA HB) (c:=w.heap.size+1) (vs:=[.int .i64 e1,.int .i64 0,.int .i64 0,.slice none 0 0,.int .i64 nn]) (o:=0) (by omega) (by omega)
 rw [←zA HW2] at hE
 have r0:=(zA HX2).cell 1 rfl 0 rfl
 have r1:=(zA HX2).cell 1 rfl 1 rfl
 have r2:=(zA HX2).cell 1 rfl 2 rfl
 have r3:=(zA HX2).cell 1 rfl 3 rfl
 have r4:=(zA HX2).cell 1 rfl 4 rfl
 refine bodyPost_ret (v:=.agg #[.int .i64 e1,.int .i64 0,.int .i64 0,.slice none 0 0,.int .i64 nn]) (by simp [results,Tryz.results28,go_sem,r0,r1,r2,r3,r4]) rfl ⟨rfl,hE⟩
theorem do_ask (p:Nat) (T:Option Addr) (tc:Nat) (G:Option Addr) (gc:Nat) (u2 u3 u4:Value) (X:Wd) (d:DoI) (w:World) (hB:Bxs p [([.slice T (zL X).length tc,.slice G X.gens.length gc,u2,u3,u4],82)] w) (hS:StAt w T G (zL X) X) (hk:d.k=7) (h1:zBG d.fa=true) (h2:zBG d.fn=true) (h3:zAY d.p=true) :
  Calls Tryz.prog 28 #[.pointer (some ⟨p,0,none⟩),doV d] w fun e w'=>∃ A c,e=.returned (.agg #[.int .i64 0,.int .i64 0,.int .i64 0,.slice A (zBa X d.fa d.fn X.rows.length).length c,.int .i64 (sumTo X d.p (zBa X d.fa d.fn X.rows.length) 0)])∧w'.ownsRow w.heap.size 39 2 (.slice A (zBa X d.fa d.fn X.rows.length).length c) (zBa X d.fa d.fn X.rows.length).length (zd (zBa X d.fa d.fn X.rows.length))∧Below w.heap.size w w':=by
 have hC:=fun W h (hb:Below w.heap.size w W)=>ask_ok p T tc G gc u2 u3 u4 X d.fa d.fn d.p W h (hS.below hb) h1 h2 h3
 generalize sumTo X d.p (zBa X d.fa d.fn X.rows.length) 0=sm at *
 generalize zd (zBa X d.fa d.fn X.rows.length)=cs at *
 generalize (zBa X d.fa d.fn X.rows.length).length=n at *
 have HC:=zB hC
 clear hC hS h1 h2 h3
 obtain ⟨W0,hW0,hbx,hX0⟩:=zw w [([.int .i64 d.k,.int .i64 d.has,.int .i64 d.p,.int .i64 d.n,.int .i64 d.i,.int .i64 d.g,.int .i64 d.s.m,.int .i64 d.s.al,.int .i64 d.s.no,.slice d.s.A d.s.len d.s.cap,.int .i64 d.fa,.int .i64 d.fn],46),([.int .i64 0,.int .i64 0,.int .i64 0,.slice none 0 0,.int .i64 0],64)]
 have HW0:Hid ((w.alloc (.cells #[.int .i64 d.k,.int .i64 d.has,.int .i64 d.p,.int .i64 d.n,.int .i64 d.i,.int .i64 d.g,.int .i64 d.s.m,.int .i64 d.s.al,.int .i64 d.s.no,.slice d.s.A d.s.len d.s.cap,.int .i64 d.fa,.int .i64 d.fn] 46)).alloc (.cells #[.int .i64 0,.int .i64 0,.int .i64 0,.slice none 0 0,.int .i64 0] 64)=W0):=zB hW0
 clear hW0
 have hP0:=hB.below hbx
 have HB:=zB hB
 have hp:p<w.heap.size:=hB.lt (k:=0) rfl
 have HL0:=zB hbx
 have HX0:=zB hX0
 have HP0:=zB hP0
 have hsz:w.heap.size+2≤W0.heap.size:=hX0.sz (by simp)
 have z0:=hX0.cell 0 rfl 0 rfl
 have z2:=hX0.cell 0 rfl 2 rfl
 have z10:=hX0.cell 0 rfl 10 rfl
 have z11:=hX0.cell 0 rfl 11 rfl
 rw [Nat.add_zero] at z0 z2 z10 z11
 rw [hk] at z0
 clear hk
 clear hbx hX0 hB hP0
 unfold doV
 go_enter Tryz.func28,Tryz.ntmps28
 go_upto_region 1 with fail
 rw [zA HW0]
 go_wp2_with (first
  | (go_at_call 45;refine (zA HC W0 (zA HP0) (zA HL0)).mono ?_;rintro e w1 ⟨A1,c1,rfl,ho1,hb1⟩;have HO1:=zB ho1;have HX1:=zB ((zA HX0).below hb1);have HL1:=zB ((zA HL0).trans (hb1.mono (zA HL0).size));clear ho1 hb1)
  | (refine zH rfl 64 (.tmp 4) (.tmp 80) rfl (w.heap.size+1) 0 [.int .i64 0,.int .i64 0,.int .i64 0,.slice A1 n c1,.int .i64 sm] rfl rfl (by simp [Value.oneCell']) sz64 ((zA HX1).there 1 rfl 5 rfl) ?_;intro W2 hW2;have HX2:=zB ((zA HX1).give 1 rfl [.int .i64 0,.int .i64 0,.int .i64 0,.slice A1 n c1,.int .i64 sm] rfl);rw [←hW2] at HX2;skip;have HW2:=zB hW2;clear hW2))
 have hE:=zG (B:=w.heap.size) (w.heap.size+1) (by omega) [.int .i64 0,.int .i64 0,.int .i64 0,.slice A1 n c1,.int .i64 sm] 0 w1 (zA HL1)
 have hO:=own_tw (zA HO1) ((Tw.refl (fun b=>b=w.heap.size+1) w1).sets (b:=w.heap.size+1) (o:=0) (vs:=[.int .i64 0,.int .i64 0,.int .i64 0,.slice A1 n c1,.int .i64 sm]) (.inl rfl)) (fun g hg hb=>by have:=((zA HO1).lt g hg).1;omega)
 rw [←zA HW2] at hE hO
 have r0:=(zA HX2).cell 1 rfl 0 rfl
 have r1:=(zA HX2).cell 1 rfl 1 rfl
 have r2:=(zA HX2).cell 1 rfl 2 rfl
 have r3:=(zA HX2).cell 1 rfl 3 rfl
 have r4:=(zA HX2).cell 1 rfl 4 rfl
 refine bodyPost_ret (v:=.agg #[.int .i64 0,.int .i64 0,.int .i64 0,.slice A1 n c1,.int .i64 sm]) (by simp [results,Tryz.results28,go_sem,r0,r1,r2,r3,r4]) rfl ⟨A1,c1,rfl,own_low hO (by omega),hE⟩
theorem askno_any (p:Nat) (T:Option Addr) (tc:Nat) (G:Option Addr) (gc:Nat) (u2 u3 u4:Value) (X:Wd) (fa fn part:Int) (w:World) (hB:Bxs p [([.slice T (zL X).length tc,.slice G X.gens.length gc,u2,u3,u4],82)] w) (hS:StAt w T G (zL X) X) (h:(zBG fa && zBG fn && zAY part)=false) :
  Calls Tryz.prog 45 #[.pointer (some ⟨p,0,none⟩),.agg #[.int .i64 fa,.int .i64 fn],.int .i64 part] w fun e w'=>e=.returned (.agg #[.int .i64 3,.int .i64 0,.int .i64 0,.slice none 0 0,.int .i64 0])∧Below w.heap.size w w':=by
 cases h1:zBG fa
 ·exact ask_bad1 p T tc G gc u2 u3 u4 X fa fn part w hB hS h1
 ·cases h2:zBG fn
  ·exact ask_bad2 p T tc G gc u2 u3 u4 X fa fn part w hB hS h1 h2
  ·cases h3:zAY part
   ·exact ask_bad3 p T tc G gc u2 u3 u4 X fa fn part w hB hS h1 h2 h3
   ·rw [h1,h2,h3] at h;cases h
theorem do_asknot (p:Nat) (T:Option Addr) (tc:Nat) (G:Option Addr) (gc:Nat) (u2 u3 u4:Value) (X:Wd) (d:DoI) (w:World) (hB:Bxs p [([.slice T (zL X).length tc,.slice G X.gens.length gc,u2,u3,u4],82)] w) (hS:StAt w T G (zL X) X) (hk:d.k=7) (h:(zBG d.fa && zBG d.fn && zAY d.p)=false) :
  Calls Tryz.prog 28 #[.pointer (some ⟨p,0,none⟩),doV d] w fun e w'=>e=.returned (.agg #[.int .i64 3,.int .i64 0,.int .i64 0,.slice none 0 0,.int .i64 0])∧Below w.heap.size w w':=by
 have hC:=fun W h0 (hb:Below w.heap.size w W)=>askno_any p T tc G gc u2 u3 u4 X d.fa d.fn d.p W h0 (hS.below hb) h
 have HC:=zB hC
 clear hC hS h
 obtain ⟨W0,hW0,hbx,hX0⟩:=zw w [([.int .i64 d.k,.int .i64 d.has,.int .i64 d.p,.int .i64 d.n,.int .i64 d.i,.int .i64 d.g,.int .i64 d.s.m,.int .i64 d.s.al,.int .i64 d.s.no,.slice d.s.A d.s.len d.s.cap,.int .i64 d.fa,.int .i64 d.fn],46),([.int .i64 0,.int .i64 0,.int .i64 0,.slice none 0 0,.int .i64 0],64)]
 have HW0:Hid ((w.alloc (.cells #[.int .i64 d.k,.int .i64 d.has,.int .i64 d.p,.int .i64 d.n,.int .i64 d.i,.int .i64 d.g,.int .i64 d.s.m,.int .i64 d.s.al,.int .i64 d.s.no,.slice d.s.A d.s.len d.s.cap,.int .i64 d.fa,.int .i64 d.fn] 46)).alloc (.cells #[.int .i64 0,.int .i64 0,.int .i64 0,.slice none 0 0,.int .i64 0] 64)=W0):=zB hW0
 clear hW0
 have hP0:=hB.below hbx
 have HB:=zB hB
 have hp:p<w.heap.size:=hB.lt (k:=0) rfl
 have HL0:=zB hbx
 have HX0:=zB hX0
 have HP0:=zB hP0
 have hsz:w.heap.size+2≤W0.heap.size:=hX0.sz (by simp)
 have z0:=hX0.cell 0 rfl 0 rfl
 have z2:=hX0.cell 0 rfl 2 rfl
 have z10:=hX0.cell 0 rfl 10 rfl
 have z11:=hX0.cell 0 rfl 11 rfl
 rw [Nat.add_zero] at z0 z2 z10 z11
 rw [hk] at z0
 clear hk
 clear hbx hX0 hB hP0
 unfold doV
 go_enter Tryz.func28,Tryz.ntmps28
 go_upto_region 1 with fail
 rw [zA HW0]
 go_wp2_with (first
  | (go_at_call 45;refine (zA HC W0 (zA HP0) (zA HL0)).mono ?_;rintro e w1 ⟨rfl,hb1⟩;have HX1:=zB ((zA HX0).below hb1);have HL1:=zB ((zA HL0).trans (hb1.mono (zA HL0).size));clear hb1)
  | (refine zH rfl 64 (.tmp 4) (.tmp 80) rfl (w.heap.size+1) 0 [.int .i64 3,.int .i64 0,.int .i64 0,.slice none 0 0,.int .i64 0] rfl rfl (by simp [Value.oneCell']) sz64 ((zA HX1).there 1 rfl 5 rfl) ?_;intro W2 hW2;have HX2:=zB ((zA HX1).give 1 rfl [.int .i64 3,.int .i64 0,.int .i64 0,.slice none 0 0,.int .i64 0] rfl);rw [←hW2] at HX2;skip;have HW2:=zB hW2;clear hW2))
 have hE:=zG (B:=w.heap.size) (w.heap.size+1) (by omega) [.int .i64 3,.int .i64 0,.int .i64 0,.slice none 0 0,.int .i64 0] 0 w1 (zA HL1)
 rw [←zA HW2] at hE
 have r0:=(zA HX2).cell 1 rfl 0 rfl
 have r1:=(zA HX2).cell 1 rfl 1 rfl
 have r2:=(zA HX2).cell 1 rfl 2 rfl
 have r3:=(zA HX2).cell 1 rfl 3 rfl
 have r4:=(zA HX2).cell 1 rfl 4 rfl
 refine bodyPost_ret (v:=.agg #[.int .i64 3,.int .i64 0,.int .i64 0,.slice none 0 0,.int .i64 0]) (by simp [results,Tryz.results28,go_sem,r0,r1,r2,r3,r4]) rfl ⟨rfl,hE⟩
theorem do_else (p:Nat) (u0 u1 u2 u3 u4:Value) (d:DoI) (w:World) (hB:Bxs p [([u0,u1,u2,u3,u4],82)] w) (h1:d.k≠1) (h2:d.k≠2) (h3:d.k≠3) (h4:d.k≠4) (h5:d.k≠5) (h6:d.k≠6) (h7:d.k≠7) :
  Calls Tryz.prog 28 #[.pointer (some ⟨p,0,none⟩),doV d] w fun e w'=>e=.returned (.agg #[.int .i64 1,.int .i64 0,.int .i64 0,.slice none 0 0,.int .i64 0])∧Below w.heap.size w w':=by
 have k1:(d.k == 1)=false:=by simpa using h1
 have k2:(d.k == 2)=false:=by simpa using h2
 have k3:(d.k == 3)=false:=by simpa using h3
 have k4:(d.k == 4)=false:=by simpa using h4
 have k5:(d.k == 5)=false:=by simpa using h5
 have k6:(d.k == 6)=false:=by simpa using h6
 have k7:(d.k == 7)=false:=by simpa using h7
 clear h1 h2 h3 h4 h5 h6 h7
 obtain ⟨W0,hW0,hbx,hX0⟩:=zw w [([.int .i64 d.k,.int .i64 d.has,.int .i64 d.p,.int .i64 d.n,.int .i64 d.i,.int .i64 d.g,.int .i64 d.s.m,.int .i64 d.s.al,.int .i64 d.s.no,.slice d.s.A d.s.len d.s.cap,.int .i64 d.fa,.int .i64 d.fn],46),([.int .i64 0,.int .i64 0,.int .i64 0,.slice none 0 0,.int .i64 0],64)]
 have HW0:Hid ((w.alloc (.cells #[.int .i64 d.k,.int .i64 d.has,.int .i64 d.p,.int .i64 d.n,.int .i64 d.i,.int .i64 d.g,.int .i64 d.s.m,.int .i64 d.s.al,.int .i64 d.s.no,.slice d.s.A d.s.len d.s.cap,.int .i64 d.fa,.int .i64 d.fn] 46)).alloc (.cells #[.int .i64 0,.int .i64 0,.int .i64 0,.slice none 0 0,.int .i64 0] 64)=W0):=zB hW0
 clear hW0
 have hP0:=hB.below hbx
 have HB:=zB hB
 have hp:p<w.heap.size:=hB.lt (k:=0) rfl
 have HL0:=zB hbx
 have HX0:=zB hX0
 have HP0:=zB hP0
 have hsz:w.heap.size+2≤W0.heap.size:=hX0.sz (by simp)
 have z0:=hX0.cell 0 rfl 0 rfl
 rw [Nat.add_zero] at z0
 clear hbx hX0 hB hP0
 unfold doV
 go_enter Tryz.func28,Tryz.ntmps28
 go_upto_region 1 with fail
 rw [zA HW0]
 have HX1:=HX0
 go_wp2_with ((refine zH rfl 64 (.tmp 4) (.tmp 81) rfl (w.heap.size+1) 0 [.int .i64 1,.int .i64 0,.int .i64 0,.slice none 0 0,.int .i64 0] rfl rfl (by simp [Value.oneCell']) sz64 ((zA HX1).there 1 rfl 5 rfl) ?_;intro W2 hW2;have HX2:=zB ((zA HX1).give 1 rfl [.int .i64 1,.int .i64 0,.int .i64 0,.slice none 0 0,.int .i64 0] rfl);rw [←hW2] at HX2;skip;have HW2:=zB hW2;clear hW2))
 have hE:=zG (B:=w.heap.size) (w.heap.size+1) (by omega) [.int .i64 1,.int .i64 0,.int .i64 0,.slice none 0 0,.int .i64 0] 0 W0 (zA HL0)
 rw [←zA HW2] at hE
 have r0:=(zA HX2).cell 1 rfl 0 rfl
 have r1:=(zA HX2).cell 1 rfl 1 rfl
 have r2:=(zA HX2).cell 1 rfl 2 rfl
 have r3:=(zA HX2).cell 1 rfl 3 rfl
 have r4:=(zA HX2).cell 1 rfl 4 rfl
 refine bodyPost_ret (v:=.agg #[.int .i64 1,.int .i64 0,.int .i64 0,.slice none 0 0,.int .i64 0]) (by simp [results,Tryz.results28,go_sem,r0,r1,r2,r3,r4]) rfl ⟨rfl,hE⟩
theorem jok_put {p:Nat} {u0 u1 u2 u4:Value} {SA:Option Addr} {n sc:Nat} {cs:List Value} {x:SysI} {w W0 W1:World} {A:Option Addr} {c g cg:Nat} (h:JOk p u0 u1 u2 u4 SA n sc cs x W0 W1 A c g cg) (h0:Below w.heap.size w W0) (hp:p<w.heap.size) (hS:∀ b,(Value.slice SA n sc).ownBlock=some b→b<w.heap.size) {q o:Nat} {vs:List Value} (hq:w.heap.size≤q) (hq2:q<W0.heap.size):JOk p u0 u1 u2 u4 SA n sc cs x w (W1.setCells q o vs) A c g cg:=by
 have hgq:g≠q:=fun e=>by
  subst e
  rcases h.new with h | h
  ·have:=hS _ h;omega
  ·omega
 have ht:Tw (fun b=>b=q) W1 (W1.setCells q o vs):=(Tw.refl _ _).sets (.inl rfl)
 refine ⟨h.bx.turn (.inr (by simp only [List.length_cons,List.length_nil];omega)),own_tw h.own ht (fun b hb hh=>by have hb:=Option.some.inj hb;simp only at hb;omega),?_,((Tw.of_below (av:=fun b=>b=p∨(Value.slice SA n sc).ownBlock=some b) h0).trans h.tw (fun _ _ h=>h)).sets (.inr hq),h.new.imp id (fun h=>Nat.le_trans h0.size h)⟩
 exact (Foot.keep h.acts (ht.mono (fun b _ hb=>.inl (by omega)))).less (fun b _ hb=>hb.imp (fun h=>Nat.lt_of_lt_of_le h h0.size) id)
theorem do_joinno (p:Nat) (u0 u1 u4:Value) (M:Option Addr) (mc:Nat) (mods:List ModI) (SA:Option Addr) (n sc:Nat) (cs:List Value) (d:DoI) (w:World) (hB:Bxs p [([u0,u1,.slice M mods.length mc,.slice SA n sc,u4],82)] w) (ho:w.ownsRow (p+1) 44 4 (.slice SA n sc) n cs) (hM:GAt zi 3 w M mods) (hA:ActsAt w d.s.A d.s.len d.s.a) (hml:mods.length≤6) (hn:n≤12) (hk:d.k=5) (he:refF mods n d.s≠0) :
  Calls Tryz.prog 28 #[.pointer (some ⟨p,0,none⟩),doV d] w fun e w'=>e=.returned (.agg #[.int .i64 (refF mods n d.s),.int .i64 0,.int .i64 0,.slice none 0 0,.int .i64 0])∧Below w.heap.size w w':=by
 have hC:=fun W h (hb:Below w.heap.size w W)=>join_no p u0 u1 u4 M mc mods SA n sc cs d.s W h (zb ho hb) (hM.below hb) (hA.below hb) hml hn he
 unfold sysI zCL at hC
 generalize refF mods n d.s=er at *
 have HC:=zB hC
 clear hC ho hM hA he
 obtain ⟨W0,hW0,hbx,hX0⟩:=zw w [([.int .i64 d.k,.int .i64 d.has,.int .i64 d.p,.int .i64 d.n,.int .i64 d.i,.int .i64 d.g,.int .i64 d.s.m,.int .i64 d.s.al,.int .i64 d.s.no,.slice d.s.A d.s.len d.s.cap,.int .i64 d.fa,.int .i64 d.fn],46),([.int .i64 0,.int .i64 0,.int .i64 0,.slice none 0 0,.int .i64 0],64)]
 have HW0:Hid ((w.alloc (.cells #[.int .i64 d.k,.int .i64 d.has,.int .i64 d.p,.int .i64 d.n,.int .i64 d.i,.int .i64 d.g,.int .i64 d.s.m,.int .i64 d.s.al,.int .i64 d.s.no,.slice d.s.A d.s.len d.s.cap,.int .i64 d.fa,.int .i64 d.fn] 46)).alloc (.cells #[.int .i64 0,.int .i64 0,.int .i64 0,.slice none 0 0,.int .i64 0] 64)=W0):=zB hW0
 clear hW0
 have hP0:=hB.below hbx
 have HB:=zB hB
 have hp:p<w.heap.size:=hB.lt (k:=0) rfl
 have HL0:=zB hbx
 have HX0:=zB hX0
 have HP0:=zB hP0
 have hsz:w.heap.size+2≤W0.heap.size:=hX0.sz (by simp)
 have z0:=hX0.cell 0 rfl 0 rfl
 have z6:=hX0.cell 0 rfl 6 rfl
 have z7:=hX0.cell 0 rfl 7 rfl
 have z8:=hX0.cell 0 rfl 8 rfl
 have z9:=hX0.cell 0 rfl 9 rfl
 rw [Nat.add_zero] at z0 z6 z7 z8 z9
 rw [hk] at z0
 clear hk
 clear hbx hX0 hB hP0
 unfold doV
 go_enter Tryz.func28,Tryz.ntmps28
 go_upto_region 1 with fail
 rw [zA HW0]
 go_wp2_with (first
  | (go_at_call 43;refine (zA HC W0 (zA HP0) (zA HL0)).mono ?_;rintro e w1 ⟨rfl,hb1⟩;have HX1:=zB ((zA HX0).below hb1);have HL1:=zB ((zA HL0).trans (hb1.mono (zA HL0).size));clear hb1)
  | (refine zH rfl 64 (.tmp 4) (.tmp 68) rfl (w.heap.size+1) 0 [.int .i64 er,.int .i64 0,.int .i64 0,.slice none 0 0,.int .i64 0] rfl rfl (by simp [Value.oneCell']) sz64 ((zA HX1).there 1 rfl 5 rfl) ?_;intro W2 hW2;have HX2:=zB ((zA HX1).give 1 rfl [.int .i64 er,.int .i64 0,.int .i64 0,.slice none 0 0,.int .i64 0] rfl);rw [←hW2] at HX2;skip;have HW2:=zB hW2;clear hW2))
 have hE:=zG (B:=w.heap.size) (w.heap.size+1) (by omega) [.int .i64 er,.int .i64 0,.int .i64 0,.slice none 0 0,.int .i64 0] 0 w1 (zA HL1)
 rw [←zA HW2] at hE
 have r0:=(zA HX2).cell 1 rfl 0 rfl
 have r1:=(zA HX2).cell 1 rfl 1 rfl
 have r2:=(zA HX2).cell 1 rfl 2 rfl
 have r3:=(zA HX2).cell 1 rfl 3 rfl
 have r4:=(zA HX2).cell 1 rfl 4 rfl
 refine bodyPost_ret (v:=.agg #[.int .i64 er,.int .i64 0,.int .i64 0,.slice none 0 0,.int .i64 0]) (by simp [results,Tryz.results28,go_sem,r0,r1,r2,r3,r4]) rfl ⟨rfl,hE⟩
theorem do_join (p:Nat) (u0 u1 u4:Value) (M:Option Addr) (mc:Nat) (mods:List ModI) (SA:Option Addr) (n sc:Nat) (cs:List Value) (d:DoI) (w:World) (hB:Bxs p [([u0,u1,.slice M mods.length mc,.slice SA n sc,u4],82)] w) (ho:w.ownsRow (p+1) 44 4 (.slice SA n sc) n cs) (hM:GAt zi 3 w M mods) (hA:ActsAt w d.s.A d.s.len d.s.a) (hml:mods.length≤6) (hn:n≤12) (hk:d.k=5) (he:refF mods n d.s=0) :
  Calls Tryz.prog 28 #[.pointer (some ⟨p,0,none⟩),doV d] w fun e w'=>∃ A c g cg,e=.returned (.agg #[.int .i64 0,.int .i64 0,.int .i64 0,.slice none 0 0,.int .i64 ((n+1:Nat):Int)])∧JOk p u0 u1 (.slice M mods.length mc) u4 SA n sc cs d.s w w' A c g cg:=by
 have hC:=fun W h (hb:Below w.heap.size w W)=>join_ok p u0 u1 u4 M mc mods SA n sc cs d.s W h (zb ho hb) (hM.below hb) (hA.below hb) hml hn he
 unfold sysI zCL at hC
 have HC:=zB hC
 have HSB:=zB (fun b hb=>(ho.lt b hb).2)
 clear hC ho hM hA he
 obtain ⟨W0,hW0,hbx,hX0⟩:=zw w [([.int .i64 d.k,.int .i64 d.has,.int .i64 d.p,.int .i64 d.n,.int .i64 d.i,.int .i64 d.g,.int .i64 d.s.m,.int .i64 d.s.al,.int .i64 d.s.no,.slice d.s.A d.s.len d.s.cap,.int .i64 d.fa,.int .i64 d.fn],46),([.int .i64 0,.int .i64 0,.int .i64 0,.slice none 0 0,.int .i64 0],64)]
 have HW0:Hid ((w.alloc (.cells #[.int .i64 d.k,.int .i64 d.has,.int .i64 d.p,.int .i64 d.n,.int .i64 d.i,.int .i64 d.g,.int .i64 d.s.m,.int .i64 d.s.al,.int .i64 d.s.no,.slice d.s.A d.s.len d.s.cap,.int .i64 d.fa,.int .i64 d.fn] 46)).alloc (.cells #[.int .i64 0,.int .i64 0,.int .i64 0,.slice none 0 0,.int .i64 0] 64)=W0):=zB hW0
 clear hW0
 have hP0:=hB.below hbx
 have HB:=zB hB
 have hp:p<w.heap.size:=hB.lt (k:=0) rfl
 have HL0:=zB hbx
 have HX0:=zB hX0
 have HP0:=zB hP0
 have hsz:w.heap.size+2≤W0.heap.size:=hX0.sz (by simp)
 have z0:=hX0.cell 0 rfl 0 rfl
 have z6:=hX0.cell 0 rfl 6 rfl
 have z7:=hX0.cell 0 rfl 7 rfl
 have z8:=hX0.cell 0 rfl 8 rfl
 have z9:=hX0.cell 0 rfl 9 rfl
 rw [Nat.add_zero] at z0 z6 z7 z8 z9
 rw [hk] at z0
 clear hk
 clear hbx hX0 hB hP0
 unfold doV
 go_enter Tryz.func28,Tryz.ntmps28
 go_upto_region 1 with fail
 rw [zA HW0]
 go_wp2_with (first
  | (go_at_call 43;refine (zA HC W0 (zA HP0) (zA HL0)).mono ?_;rintro e w1 ⟨A1,c1,g1,cg1,rfl,hj1⟩;have HX1:=zB ((zA HX0).tw hj1.tw (fun k hk h=>by rcases h with h | h;omega;have:=zA HSB _ h;omega));have HJ1:=zB hj1;clear hj1)
  | (refine zH rfl 64 (.tmp 4) (.tmp 68) rfl (w.heap.size+1) 0 [.int .i64 0,.int .i64 0,.int .i64 0,.slice none 0 0,.int .i64 ((n+1:Nat):Int)] rfl rfl (by simp [Value.oneCell']) sz64 ((zA HX1).there 1 rfl 5 rfl) ?_;intro W2 hW2;have HX2:=zB ((zA HX1).give 1 rfl [.int .i64 0,.int .i64 0,.int .i64 0,.slice none 0 0,.int .i64 ((n+1:Nat):Int)] rfl);rw [←hW2] at HX2;skip;have HW2:=zB hW2;clear hW2))
 have hE:=jok_put (zA HJ1) (zA HL0) hp (zA HSB) (q:=w.heap.size+1) (o:=0) (vs:=[.int .i64 0,.int .i64 0,.int .i64 0,.slice none 0 0,.int .i64 ((n+1:Nat):Int)]) (by omega) (by omega)
 rw [←zA HW2] at hE
 have r0:=(zA HX2).cell 1 rfl 0 rfl
 have r1:=(zA HX2).cell 1 rfl 1 rfl
 have r2:=(zA HX2).cell 1 rfl 2 rfl
 have r3:=(zA HX2).cell 1 rfl 3 rfl
 have r4:=(zA HX2).cell 1 rfl 4 rfl
 refine bodyPost_ret (v:=.agg #[.int .i64 0,.int .i64 0,.int .i64 0,.slice none 0 0,.int .i64 ((n+1:Nat):Int)]) (by simp [results,Tryz.results28,go_sem,r0,r1,r2,r3,r4]) rfl ⟨A1,c1,g1,cg1,rfl,hE⟩
end Go.Proofs.YtnbleebilmghcacGreat
