/- package house: join. -/
import Derived.Test.YtnbleebilmghcacGreatYHo4
set_option linter.all false
set_option maxHeartbeats 2000000
set_option maxRecDepth 8000
namespace Go.Proofs.YtnbleebilmghcacGreat
open Go Go.RowKit
attribute [local go_sem ↓] Go.wp_at_zero Go.wp_at_succ
structure R77 (W5:World) (p:Nat) (u0 u1 u2 u4:Value) (SA:Option Addr) (n sc:Nat) (cs:List Value) (s:SysI) (γ:Nat×Nat×Nat) (L:Nat→Bool) (W:World):Prop where
 bel:L 8=false→L 12=false→Below W5.heap.size W5 W
 bs:L 7=true→L 8=false→W5.heap.size≤γ.1∧Bxs γ.1 [(zAB s,44)] W
 own:L 8=true→W.ownsRow (p+1) 44 4 (.slice (some ⟨γ.2.1,0,none⟩) (n+1) γ.2.2) (n+1) (cs++zAB s)∧((Value.slice SA n sc).ownBlock=some γ.2.1∨W5.heap.size≤γ.2.1)
 tw:Tw (fun b=>b=p∨(Value.slice SA n sc).ownBlock=some b) W5 W
 bx:Bxs p [(if L 12=true then [u0,u1,u2,.slice (some ⟨γ.2.1,0,none⟩) (n+1) γ.2.2,u4] else [u0,u1,u2,.slice SA n sc,u4],82)] W
section
variable {W5:World} {p:Nat} {u0 u1 u2 u4:Value} {SA:Option Addr} {n sc:Nat} {cs:List Value} {s:SysI} {γ:Nat×Nat×Nat} {L:Nat→Bool} {W W1:World}
theorem R77.start (h:Bxs p [([u0,u1,u2,.slice SA n sc,u4],82)] W5):R77 W5 p u0 u1 u2 u4 SA n sc cs s (0,0,0) (fun _=>false) W5.drew :=
 ⟨fun _ _=>(Below.refl _ _).drew,fun h=>(by cases h),fun h=>(by cases h),Tw.of_below (Below.refl _ _).drew,h⟩
theorem R77.same (h:R77 W5 p u0 u1 u2 u4 SA n sc cs s γ L W) {i:Nat} (h1:i≠7) (h2:i≠8) (h3:i≠12):R77 W5 p u0 u1 u2 u4 SA n sc cs s γ (upd L i) W:=by
 have e:∀ j,j≠i→upd L i j=L j:=fun j hj=>zQ hj
 refine ⟨?_,?_,?_,h.tw,?_⟩
 ·rw [e _ (Ne.symm h2),e _ (Ne.symm h3)];exact h.bel
 ·rw [e _ (Ne.symm h1),e _ (Ne.symm h2)];exact h.bs
 ·rw [e _ (Ne.symm h2)];exact h.own
 ·rw [e _ (Ne.symm h3)];exact h.bx
theorem R77.make (h:R77 W5 p u0 u1 u2 u4 SA n sc cs s γ L W) (h8:L 8=false) (h12:L 12=false):R77 W5 p u0 u1 u2 u4 SA n sc cs s (W.heap.size,γ.2) (upd L 7) (W.alloc (.cells (zAB s).toArray 44)):=by
 have e:∀ j,j≠7→upd L 7 j=L j:=fun j hj=>zQ hj
 have hb:=zAs W (.cells (zAB s).toArray 44)
 have hb0:=h.bel h8 h12
 have hbx:=h.bx
 rw [h12] at hbx
 refine ⟨fun _ _=>hb0.trans (hb.mono hb0.size),fun _ _=>⟨hb0.size,Bxs.start W [(zAB s,44)]⟩,fun h'=>?_,h.tw.trans (Tw.of_below (av:=fun b=>b=p∨(Value.slice SA n sc).ownBlock=some b) hb) (fun _ _ h=>h),?_⟩
 ·rw [e 8 (by decide),h8] at h';cases h'
 ·rw [e 12 (by decide),h12];exact hbx.below hb
theorem R77.app (h:R77 W5 p u0 u1 u2 u4 SA n sc cs s γ L W) (h12:L 12=false) (hS:(Value.slice SA n sc).ownBlock≠some p) {g c:Nat} (ho:W1.ownsRow (p+1) 44 4 (.slice (some ⟨g,0,none⟩) (n+1) c) (n+1) (cs++zAB s)) (hg:W.grownBy W1 (Value.slice SA n sc).ownBlock) (hw:(Value.slice SA n sc).ownBlock=some g∨W5.heap.size≤g):R77 W5 p u0 u1 u2 u4 SA n sc cs s (γ.1,g,c) (upd L 8) W1:=by
 have e:∀ j,j≠8→upd L 8 j=L j:=fun j hj=>zQ hj
 have hbx:=h.bx
 rw [h12] at hbx
 have ht:Tw (fun b=>(Value.slice SA n sc).ownBlock=some b) W W1:=Tw.of_grown hg (fun k hk=>hk)
 refine ⟨fun h'=>?_,fun _ h'=>?_,fun _=>⟨ho,hw⟩,h.tw.trans ht (fun _ _ h=>.inr h),?_⟩
 ·rw [zAx] at h';cases h'
 ·rw [zAx] at h';cases h'
 ·rw [e 12 (by decide),h12];exact hbx.tw ht (fun k hk=>by simp at hk;subst hk;exact hS)
theorem R77.put (h:R77 W5 p u0 u1 u2 u4 SA n sc cs s γ L W) (h8:L 8=true) (h12:L 12=false) (hp:p<W5.heap.size):R77 W5 p u0 u1 u2 u4 SA n sc cs s γ (upd L 12) (W.setCell ⟨p,3,none⟩ (.slice (some ⟨γ.2.1,0,none⟩) (n+1) γ.2.2)):=by
 have e:∀ j,j≠12→upd L 12 j=L j:=fun j hj=>zQ hj
 have hbx:=h.bx
 rw [h12] at hbx
 obtain ⟨ho,hw⟩:=h.own h8
 have hlo:=(ho.lt γ.2.1 rfl).1
 refine ⟨fun _ h'=>?_,fun _ h'=>?_,fun _=>⟨ownsRow_setCell_other ho (a:=⟨p,3,none⟩) (fun e=>by have e:=Option.some.inj e;simp only at e;omega) _,hw⟩,h.tw.sets (b:=p) (o:=3) (vs:=[.slice (some ⟨γ.2.1,0,none⟩) (n+1) γ.2.2]) (.inl (.inl rfl)),?_⟩
 ·rw [zAx] at h';cases h'
 ·rw [e 8 (by decide),h8] at h';cases h'
 ·rw [zAx]
  have:=hbx.part 0 rfl 3 [.slice (some ⟨γ.2.1,0,none⟩) (n+1) γ.2.2] (by simp)
  rw [Nat.add_zero] at this
  exact this
end
theorem sz26:(Tryz.prog.info? 29).map (·.size)=some 1:=by kernel_rfl
theorem sz35:(Tryz.prog.info? 42).map (·.size)=some 1:=by kernel_rfl
structure JOk (p:Nat) (u0 u1 u2 u4:Value) (SA:Option Addr) (n sc:Nat) (cs:List Value) (x:SysI) (w w':World) (A:Option Addr) (c:Nat) (g cg:Nat):Prop where
 bx:Bxs p [([u0,u1,u2,.slice (some ⟨g,0,none⟩) (n+1) cg,u4],82)] w'
 own:w'.ownsRow (p+1) 44 4 (.slice (some ⟨g,0,none⟩) (n+1) cg) (n+1) (cs++zAB ⟨x.m,x.al,x.no,A,x.len,c,x.a⟩)
 acts:Foot (fun W=>ActsAt W A x.len x.a) (fun b=>b<w.heap.size∨b=g) w'
 tw:Tw (fun b=>b=p∨(Value.slice SA n sc).ownBlock=some b) w w'
 new:(Value.slice SA n sc).ownBlock=some g∨w.heap.size≤g
theorem join_no (p:Nat) (u0 u1 u4:Value) (M:Option Addr) (mc:Nat) (mods:List ModI) (SA:Option Addr) (n sc:Nat) (cs:List Value) (x:SysI) (w:World) (hB:Bxs p [([u0,u1,.slice M mods.length mc,.slice SA n sc,u4],82)] w) (ho:w.ownsRow (p+1) 44 4 (.slice SA n sc) n cs) (hM:GAt zi 3 w M mods) (hA:ActsAt w x.A x.len x.a) (hml:mods.length≤6) (hn:n≤12) (he:refF mods n x≠0) :
  Calls Tryz.prog 43 #[.pointer (some ⟨p,0,none⟩),sysI x] w fun e w'=>e=.returned (.agg #[.int .i64 (refF mods n x),.int .i64 0,.int .i64 0,.slice none 0 0,.int .i64 0])∧Below w.heap.size w w':=by
 have hRF:=fun W h (hb:Below w.heap.size w W)=>refuses_any p u0 u1 u4 M mc mods SA n sc x W h (hM.below hb) (hA.below hb) hml hn
 unfold sysI zCL at hRF
 obtain ⟨err,herr⟩:∃ err,err=refF mods n x:=⟨_,rfl⟩
 rw [←herr] at hRF he ⊢
 have hne:(err == 0)=false:=by simpa using he
 clear herr hA hM ho
 have HRF:=zB hRF
 clear hRF
 obtain ⟨W0,hW0,hbx,hX0⟩:=zw w [([.int .i64 x.m,.int .i64 x.al,.int .i64 x.no,.slice x.A x.len x.cap],44),([.int .i64 0,.int .i64 0,.int .i64 0,.slice none 0 0,.int .i64 0],64)]
 have HW0:Hid ((w.alloc (.cells #[.int .i64 x.m,.int .i64 x.al,.int .i64 x.no,.slice x.A x.len x.cap] 44)).alloc (.cells #[.int .i64 0,.int .i64 0,.int .i64 0,.slice none 0 0,.int .i64 0] 64)=W0):=zB hW0
 clear hW0
 have hp:p<w.heap.size:=hB.lt (k:=0) rfl
 have hP0:=hB.below hbx
 have HL0:=zB hbx
 have HX0:=zB hX0
 have HP0:=zB hP0
 have y0:=hX0.cell 0 rfl 0 rfl
 have y1:=hX0.cell 0 rfl 1 rfl
 have y2:=hX0.cell 0 rfl 2 rfl
 have y3:=hX0.cell 0 rfl 3 rfl
 rw [Nat.add_zero] at y0 y1 y2 y3
 clear hbx hX0 hB hP0
 unfold sysI zCL
 go_enter Tryz.func43,Tryz.ntmps43
 go_upto_region 1 with fail
 rw [zA HW0]
 go_wp2_with fail
 go_at_call 67
 refine (zA HRF W0 (zA HP0) (zA HL0)).mono ?_
 rintro e w1 ⟨rfl,hb1⟩
 have HL1:=zB ((zA HL0).trans (hb1.mono (zA HL0).size))
 have HX1:=zB ((zA HX0).below hb1)
 have HP1:=zB ((zA HP0).below hb1)
 clear y0 y1 y2 y3 HP0 HRF
 clear hb1
 go_wp2_with ((refine zH rfl 64 (.tmp 4) (.tmp 12) rfl (w.heap.size+1) 0 [.int .i64 err,.int .i64 0,.int .i64 0,.slice none 0 0,.int .i64 0] rfl rfl (by simp [Value.oneCell']) sz64 ((zA HX1).there 1 rfl 5 rfl) ?_;intro W2 hW2;have HX2:=zB ((zA HX1).give 1 rfl [.int .i64 err,.int .i64 0,.int .i64 0,.slice none 0 0,.int .i64 0] rfl);have HE:=zB (zG (B:=w.heap.size) (w.heap.size+1) (by omega) [.int .i64 err,.int .i64 0,.int .i64 0,.slice none 0 0,.int .i64 0] 0 w1 (zA HL1));rw [←hW2] at HX2 HE;clear hW2))
 have r0:=(zA HX2).cell 1 rfl 0 rfl
 have r1:=(zA HX2).cell 1 rfl 1 rfl
 have r2:=(zA HX2).cell 1 rfl 2 rfl
 have r3:=(zA HX2).cell 1 rfl 3 rfl
 have r4:=(zA HX2).cell 1 rfl 4 rfl
 refine bodyPost_ret (v:=.agg #[.int .i64 err,.int .i64 0,.int .i64 0,.slice none 0 0,.int .i64 0]) (by simp [results,Tryz.results43,go_sem,r0,r1,r2,r3,r4]) rfl ⟨rfl,zA HE⟩
theorem join_ok (p:Nat) (u0 u1 u4:Value) (M:Option Addr) (mc:Nat) (mods:List ModI) (SA:Option Addr) (n sc:Nat) (cs:List Value) (x:SysI) (w:World) (hB:Bxs p [([u0,u1,.slice M mods.length mc,.slice SA n sc,u4],82)] w) (ho:w.ownsRow (p+1) 44 4 (.slice SA n sc) n cs) (hM:GAt zi 3 w M mods) (hA:ActsAt w x.A x.len x.a) (hml:mods.length≤6) (hn:n≤12) (he:refF mods n x=0) :
  Calls Tryz.prog 43 #[.pointer (some ⟨p,0,none⟩),sysI x] w fun e w'=>∃ A c g cg,e=.returned (.agg #[.int .i64 0,.int .i64 0,.int .i64 0,.slice none 0 0,.int .i64 ((n+1:Nat):Int)])∧JOk p u0 u1 (.slice M mods.length mc) u4 SA n sc cs x w w' A c g cg:=by
 have hl8:x.len≤8:=((zBT _ _ _ _ _).1 (refF_zero he).1).2.1
 have hCA:=fun W (hb:Below w.heap.size w W)=>copied_acts x.A x.cap x.len x.a W (by omega) (hA.below hb)
 have hRF:=fun W h (hb:Below w.heap.size w W)=>refuses_any p u0 u1 u4 M mc mods SA n sc x W h (hM.below hb) (hA.below hb) hml hn
 unfold sysI zCL at hRF
 rw [he] at hRF
 have HCA:=zB hCA
 have HO:=zB ho
 clear hCA ho hA hM he
 have HRF:=zB hRF
 clear hRF
 obtain ⟨W0,hW0,hbx,hX0⟩:=zw w [([.int .i64 x.m,.int .i64 x.al,.int .i64 x.no,.slice x.A x.len x.cap],44),([.int .i64 0,.int .i64 0,.int .i64 0,.slice none 0 0,.int .i64 0],64)]
 have HW0:Hid ((w.alloc (.cells #[.int .i64 x.m,.int .i64 x.al,.int .i64 x.no,.slice x.A x.len x.cap] 44)).alloc (.cells #[.int .i64 0,.int .i64 0,.int .i64 0,.slice none 0 0,.int .i64 0] 64)=W0):=zB hW0
 clear hW0
 have hp:p<w.heap.size:=hB.lt (k:=0) rfl
 have hP0:=hB.below hbx
 have HL0:=zB hbx
 have HX0:=zB hX0
 have HP0:=zB hP0
 have y0:=hX0.cell 0 rfl 0 rfl
 have y1:=hX0.cell 0 rfl 1 rfl
 have y2:=hX0.cell 0 rfl 2 rfl
 have y3:=hX0.cell 0 rfl 3 rfl
 rw [Nat.add_zero] at y0 y1 y2 y3
 clear hbx hX0 hB hP0
 unfold sysI zCL
 go_enter Tryz.func43,Tryz.ntmps43
 go_upto_region 1 with fail
 rw [zA HW0]
 go_wp2_with fail
 go_at_call 67
 refine (zA HRF W0 (zA HP0) (zA HL0)).mono ?_
 rintro e w1 ⟨rfl,hb1⟩
 have HL1:=zB ((zA HL0).trans (hb1.mono (zA HL0).size))
 have HX1:=zB ((zA HX0).below hb1)
 have HP1:=zB ((zA HP0).below hb1)
 clear y0 y1 y2 y3 HP0 HRF hb1
 have y3:=(zA HX1).cell 0 rfl 3 rfl
 rw [Nat.add_zero] at y3
 go_wp2_with fail
 go_at_call 68
 refine (zA HCA w1 (zA HL1)).mono ?_
 rintro e w2 ⟨A2,c2,rfl,ho2,hb2⟩
 have HL2:=zB ((zA HL1).trans (hb2.mono (zA HL1).size))
 have HX2:=zB ((zA HX1).below hb2)
 have HP2:=zB ((zA HP1).below hb2)
 have hsz1:w.heap.size+2≤w1.heap.size:=(zA HX1).sz (by simp)
 have HO2:=zB ho2
 have HS2:=zB hb2.size
 clear y3 ho2 hb2 HX1 HP1 HCA
 obtain ⟨i37,hi37,hz37,hs37,hb37⟩:=info_parts infoS
 have HI:=zB hi37
 have HZ:=zB hz37
 have HS:=zB hs37
 have HBB:=zB hb37
 clear hi37 hz37 hs37 hb37
 go_wp2_with ((refine zs rfl 42 (.tmp 16) (.tmp 15) rfl w.heap.size 3 (.slice A2 x.len c2) rfl rfl rfl sz35 (zBS ((zA HX2).there 0 rfl 4 rfl) 3 1 (by omega)) ?_;intro W3 hW3;have hX3:=(zA HX2).part 0 rfl 3 [.slice A2 x.len c2] (by simp);rw [Nat.add_zero] at hX3;have HX3:=zB (show Bxs w.heap.size [([.int .i64 x.m,.int .i64 x.al,.int .i64 x.no,.slice A2 x.len c2],44),([.int .i64 0,.int .i64 0,.int .i64 0,.slice none 0 0,.int .i64 0],64)] W3 by rw [hW3];exact hX3);have HT3:=zB (show Below w.heap.size w W3 by rw [hW3];exact (zA HL2).setCell (p:=⟨w.heap.size,3,none⟩) (Nat.le_refl _) _);have HP3:=zB (show Bxs p [([u0,u1,.slice M mods.length mc,.slice SA n sc,u4],82)] W3 by rw [hW3];exact (zA HP2).turn (cb:=w.heap.size) (o:=3) (vs:=[.slice A2 x.len c2]) (.inr (by simp only [List.length_cons,List.length_nil];omega)));have HO3:=zB (show W3.ownsRow w1.heap.size 71 4 (.slice A2 x.len c2) x.len (zAj zAm (actL x.len x.a)) by rw [hW3];exact ownsRow_setCell_below (zA HO2) (a:=⟨w.heap.size,3,none⟩) (by simp only;omega) _);have HS3:=zB (show w1.heap.size≤W3.heap.size by rw [hW3];simpa [World.setCell] using zA HS2);clear hW3 hX3))
 clear HX2 HP2 HO2 HL2 HS2
 have hlo3:w.heap.size≤W3.heap.size:=(zA HT3).size
 have hSp:(Value.slice SA n sc).ownBlock≠some p:=fun e=>by have:=((zA HO).lt p e).1;omega
 have hSo:W3.ownsRow (p+1) 44 4 (.slice SA n sc) n cs:=zb (zA HO) (zA HT3)
 have HSo:=zB hSo
 have h0:R77 W3 p u0 u1 (.slice M mods.length mc) u4 SA n sc cs ⟨x.m,x.al,x.no,A2,x.len,c2,x.a⟩ (0,0,0) (fun _=>false) W3.drew:=R77.start (zA HP3)
 clear hSo
 refine za (fun (γ:Nat×Nat×Nat) ix v=>if ix=7 then v=.slice (some ⟨γ.1,0,none⟩) 1 1 else if ix=8 then v=.slice (some ⟨γ.2.1,0,none⟩) (n+1) γ.2.2 else (([fun v=>v=.pointer (some ⟨p,0,none⟩),fun v=>v=.pointer (some ⟨p,0,none⟩),fun v=>v=.pointer (some ⟨p,0,none⟩),fun v=>v=.pointer (some ⟨p,0,none⟩),fun v=>v=.pointer (some ⟨p,3,none⟩),fun v=>v=.slice SA n sc,fun v=>v=.agg #[.int .i64 x.m,.int .i64 x.al,.int .i64 x.no,.slice A2 x.len c2],fun _=>True,fun _=>True,fun v=>v=.pointer (some ⟨p,0,none⟩),fun v=>v=.pointer (some ⟨p,0,none⟩),fun v=>v=.pointer (some ⟨p,3,none⟩),fun _=>True]:List (Value→Prop)).getD ix (fun _=>True)) v) (fun (γ:Nat×Nat×Nat) L W=>R77 W3 p u0 u1 (.slice M mods.length mc) u4 SA n sc cs ⟨x.m,x.al,x.no,A2,x.len,c2,x.a⟩ γ L W) ((0,0,0)) (by kernel_rfl) (by kernel_rfl) (by kernel_rfl) h0 ?hstep ?hend
 case hstep =>
  intro γ ix o ho L ac w1 hD hL hed hcl hout hv
  match ix,ho with
  | 0,ho =>
   simp at ho
   subst ho
   have e0:ac.tmps.getD 0 undef=.pointer (some ⟨p,0,none⟩):=hout 0 (by decide +kernel)
   exact .inl ⟨rfl,zE γ (.pointer (some ⟨p,0,none⟩)) (by simp [go_sem,Act.eval,-Array.getD_eq_getD_getElem?,e0]) rfl (hD.same (by decide) (by decide) (by decide)) (fun _ _ _ _ h=>h)⟩
  | 1,ho =>
   simp at ho
   subst ho
   have e0:ac.tmps.getD 0 undef=.pointer (some ⟨p,0,none⟩):=hout 0 (by decide +kernel)
   exact .inl ⟨rfl,zE γ (.pointer (some ⟨p,0,none⟩)) (by simp [go_sem,Act.eval,-Array.getD_eq_getD_getElem?,e0]) rfl (hD.same (by decide) (by decide) (by decide)) (fun _ _ _ _ h=>h)⟩
  | 2,ho =>
   simp at ho
   subst ho
   have e18:ac.tmps.getD 18 undef=.pointer (some ⟨p,0,none⟩):=hv 1 18 rfl (by kernel_rfl)
   exact .inl ⟨rfl,zE γ (.pointer (some ⟨p,0,none⟩)) (by simp [go_sem,Act.eval,-Array.getD_eq_getD_getElem?,e18]) rfl (hD.same (by decide) (by decide) (by decide)) (fun _ _ _ _ h=>h)⟩
  | 3,ho =>
   simp at ho
   subst ho
   have e19:ac.tmps.getD 19 undef=.pointer (some ⟨p,0,none⟩):=hv 2 19 rfl (by kernel_rfl)
   exact .inl ⟨rfl,zE γ (.pointer (some ⟨p,0,none⟩)) (by simp [go_sem,Act.eval,-Array.getD_eq_getD_getElem?,e19]) rfl (hD.same (by decide) (by decide) (by decide)) (fun _ _ _ _ h=>h)⟩
  | 4,ho =>
   simp at ho
   subst ho
   have e20:ac.tmps.getD 20 undef=.pointer (some ⟨p,0,none⟩):=hv 3 20 rfl (by kernel_rfl)
   exact .inl ⟨rfl,zE γ (.pointer (some ⟨p,3,none⟩)) (by simp [go_sem,Act.eval,-Array.getD_eq_getD_getElem?,e20]) rfl (hD.same (by decide) (by decide) (by decide)) (fun _ _ _ _ h=>h)⟩
  | 5,ho =>
   simp at ho
   subst ho
   have e21:ac.tmps.getD 21 undef=.pointer (some ⟨p,3,none⟩):=hv 4 21 rfl (by kernel_rfl)
   have q8:L 8=false:=by
    cases h:L 8
    ·rfl
    ·exact absurd (hcl 8 _ rfl h 5 (by kernel_rfl)) (by rw [hL];decide)
   have q12:L 12=false:=by
    cases h:L 12
    ·rfl
    ·exact absurd (hcl 12 _ rfl h 8 (by kernel_rfl)) (by rw [q8];decide)
   have bb:=hD.bx
   rw [q12] at bb
   have c3:=bb.cell 0 rfl 3 rfl
   rw [Nat.add_zero] at c3
   exact .inl ⟨rfl,zE γ (.slice SA n sc) (by simp [go_sem,Act.eval,-Array.getD_eq_getD_getElem?,e21,c3]) rfl (hD.same (by decide) (by decide) (by decide)) (fun _ _ _ _ h=>h)⟩
  | 6,ho =>
   simp at ho
   subst ho
   have e3:ac.tmps.getD 3 undef=.pointer (some ⟨w.heap.size,0,none⟩):=hout 3 (by decide +kernel)
   have q7:L 7=false:=by
    cases h:L 7
    ·rfl
    ·exact absurd (hcl 7 _ rfl h 6 (by kernel_rfl)) (by rw [hL];decide)
   have q8:L 8=false:=by
    cases h:L 8
    ·rfl
    ·exact absurd (hcl 8 _ rfl h 7 (by kernel_rfl)) (by rw [q7];decide)
   have q12:L 12=false:=by
    cases h:L 12
    ·rfl
    ·exact absurd (hcl 12 _ rfl h 8 (by kernel_rfl)) (by rw [q8];decide)
   have bb:=(zA HX3).below (hD.bel q8 q12)
   have d0:=bb.cell 0 rfl 0 rfl
   have d1:=bb.cell 0 rfl 1 rfl
   have d2:=bb.cell 0 rfl 2 rfl
   have d3:=bb.cell 0 rfl 3 rfl
   rw [Nat.add_zero] at d0 d1 d2 d3
   exact .inl ⟨rfl,zE γ (.agg #[.int .i64 x.m,.int .i64 x.al,.int .i64 x.no,.slice A2 x.len c2]) (by simp [go_sem,Act.eval,-Array.getD_eq_getD_getElem?,e3,d0,d1,d2,d3]) rfl (hD.same (by decide) (by decide) (by decide)) (fun _ _ _ _ h=>h)⟩
  | 7,ho =>
   simp at ho
   subst ho
   have e23:ac.tmps.getD 23 undef=.agg #[.int .i64 x.m,.int .i64 x.al,.int .i64 x.no,.slice A2 x.len c2]:=hv 6 23 rfl (by kernel_rfl)
   have q8:L 8=false:=by
    cases h:L 8
    ·rfl
    ·exact absurd (hcl 8 _ rfl h 7 (by kernel_rfl)) (by rw [hL];decide)
   have q12:L 12=false:=by
    cases h:L 12
    ·rfl
    ·exact absurd (hcl 12 _ rfl h 8 (by kernel_rfl)) (by rw [q8];decide)
   exact .inl ⟨rfl,gho_makes (w1.heap.size,γ.2) (.slice (some ⟨w1.heap.size,0,none⟩) 1 1) (w2:=w1.alloc (.cells (zAB ⟨x.m,x.al,x.no,A2,x.len,c2,x.a⟩).toArray 44)) (by simp [go_sem,Act.eval,-Array.getD_eq_getD_getElem?,zAB,e23]) rfl (hD.make q8 q12) (fun j u hj hLj h=>by
    by_cases e:j=8
    ·subst e;rw [q8] at hLj;cases hLj
    ·simpa [hj,e] using h)⟩
  | 8,ho =>
   simp at ho
   subst ho
   have e22:ac.tmps.getD 22 undef=.slice SA n sc:=hv 5 22 rfl (by kernel_rfl)
   have e24:ac.tmps.getD 24 undef=.slice (some ⟨γ.1,0,none⟩) 1 1:=hv 7 24 rfl (by kernel_rfl)
   have q12:L 12=false:=by
    cases h:L 12
    ·rfl
    ·exact absurd (hcl 12 _ rfl h 8 (by kernel_rfl)) (by rw [hL];decide)
   have q7:L 7=true:=hed 7 (by kernel_rfl)
   obtain ⟨hlo,hbs⟩:=hD.bs q7 hL
   have hbl:=hD.bel hL q12
   have hnews:∀ j u,(zAB ⟨x.m,x.al,x.no,A2,x.len,c2,x.a⟩)[j]?=some u→w1.cell? ((⟨γ.1,0,none⟩:Addr).add j)=some u:=fun j u hj=>by have:=hbs.cell 0 rfl j hj;rw [Nat.add_zero] at this;rw [Addr.add_mid,Nat.zero_add];exact this
   obtain ⟨v',w2,hr,ho2,hg2,_,hw2⟩:=run_append_own_at (P:=Tryz.prog) w1 (p+1) 29 29 44 i37 _ 4 48 Tryz.underlying29 (zA HI) (zA HZ) (zA HS) (zA HBB) rfl (by decide) (.slice SA n sc) n cs (zb (zA HSo) hbl) ⟨γ.1,0,none⟩ 1 1 (zAB ⟨x.m,x.al,x.no,A2,x.len,c2,x.a⟩) rfl hnews (sysCells_one _) (by unfold maxLen;omega) (by omega) (by have:=hbl.size;omega)
   obtain ⟨g,cg,rfl,_,_⟩:=zAP ho2 (by omega)
   exact .inl ⟨rfl,gho_append (γ.1,g,cg) (.tmp 22) (.tmp 24) 29 rfl (.slice SA n sc) (.slice (some ⟨γ.1,0,none⟩) 1 1) (.slice (some ⟨g,0,none⟩) (n+1) cg) (by simp [Act.eval,-Array.getD_eq_getD_getElem?,e22]) (by simp [Act.eval,-Array.getD_eq_getD_getElem?,e24]) hr rfl (hD.app q12 hSp ho2 hg2 (hw2.imp (fun h=>h.symm) (fun h=>by have:=Option.some.inj h;simp only at this;have:=hbl.size;omega))) (fun j u hj hLj h=>by simpa [hj] using h)⟩
  | 9,ho =>
   simp at ho
   subst ho
   have e17:ac.tmps.getD 17 undef=.pointer (some ⟨p,0,none⟩):=hv 0 17 rfl (by kernel_rfl)
   exact .inl ⟨rfl,zE γ (.pointer (some ⟨p,0,none⟩)) (by simp [go_sem,Act.eval,-Array.getD_eq_getD_getElem?,e17]) rfl (hD.same (by decide) (by decide) (by decide)) (fun _ _ _ _ h=>h)⟩
  | 10,ho =>
   simp at ho
   subst ho
   have e26:ac.tmps.getD 26 undef=.pointer (some ⟨p,0,none⟩):=hv 9 26 rfl (by kernel_rfl)
   exact .inl ⟨rfl,zE γ (.pointer (some ⟨p,0,none⟩)) (by simp [go_sem,Act.eval,-Array.getD_eq_getD_getElem?,e26]) rfl (hD.same (by decide) (by decide) (by decide)) (fun _ _ _ _ h=>h)⟩
  | 11,ho =>
   simp at ho
   subst ho
   have e27:ac.tmps.getD 27 undef=.pointer (some ⟨p,0,none⟩):=hv 10 27 rfl (by kernel_rfl)
   exact .inl ⟨rfl,zE γ (.pointer (some ⟨p,3,none⟩)) (by simp [go_sem,Act.eval,-Array.getD_eq_getD_getElem?,e27]) rfl (hD.same (by decide) (by decide) (by decide)) (fun _ _ _ _ h=>h)⟩
  | 12,ho =>
   simp at ho
   subst ho
   have e28:ac.tmps.getD 28 undef=.pointer (some ⟨p,3,none⟩):=hv 11 28 rfl (by kernel_rfl)
   have e25:ac.tmps.getD 25 undef=.slice (some ⟨γ.2.1,0,none⟩) (n+1) γ.2.2:=hv 8 25 rfl (by kernel_rfl)
   have q8:L 8=true:=hed 8 (by kernel_rfl)
   have hbx:=hD.bx
   rw [hL] at hbx
   exact .inl ⟨rfl,gho_put1 γ 29 (.tmp 28) (.tmp 25) rfl p 3 (.slice (some ⟨γ.2.1,0,none⟩) (n+1) γ.2.2) (by simp [Act.eval,-Array.getD_eq_getD_getElem?,e28]) (by simp [Act.eval,-Array.getD_eq_getD_getElem?,e25]) rfl sz26 (zBS (hbx.there 0 rfl 5 rfl) 3 1 (by omega)) trivial (hD.put q8 hL (by omega)) (fun _ _ _ _ h=>h)⟩
  | ix+13,ho=>simp at ho
 case hend =>
  intro γ v L w9 hD hall hv
  have a7:=hall 7 (by decide)
  have a8:=hall 8 (by decide)
  have a12:=hall 12 (by decide)
  have hbx:=hD.bx
  rw [a12,if_pos rfl] at hbx
  obtain ⟨ho9,hw9⟩:=hD.own a8
  have htw:=hD.tw
  obtain ⟨gx,g,cg⟩:=γ
  dsimp only at hbx ho9 hw9
  have c3:=hbx.cell 0 rfl 3 rfl
  rw [Nat.add_zero] at c3
  have hnx:∀ k,k<2→¬ (w.heap.size+k=p∨(Value.slice SA n sc).ownBlock=some (w.heap.size+k)):=fun k hk h=>by
   rcases h with h | h
   ·omega
   ·have:=((zA HO).lt _ h).2;omega
  have HX9:=zB ((zA HX3).tw htw hnx)
  have HT9:=zB ((Tw.of_below (av:=fun b=>b=p∨(Value.slice SA n sc).ownBlock=some b) (zA HT3)).trans htw (fun _ _ h=>h))
  have hAb:∀ b,(Value.slice A2 x.len c2).ownBlock=some b→w.heap.size+2≤b∧b<W3.heap.size:=fun b hb=>by
   have:=(zA HO3).lt b hb
   exact ⟨by omega,this.2⟩
  have hgA:∀ b,(Value.slice A2 x.len c2).ownBlock=some b→b≠g:=fun b hb e=>by
   subst e
   rcases hw9 with h | h
   ·have:=((zA HO).lt _ h).2;have:=hAb _ hb;omega
   ·have:=hAb _ hb;omega
  have hO9:w9.ownsRow w1.heap.size 71 4 (.slice A2 x.len c2) x.len (zAj zAm (actL x.len x.a)):=own_tw (zA HO3) htw (fun b hb h=>by
   rcases h with h | h
   ·have:=hAb b hb;omega
   ·have:=((zA HO).lt _ h).2;have:=hAb b hb;omega)
  have HF9:=zB (Foot.own (av:=fun b=>b<w.heap.size+2∨b=g) hO9 (fun b hb h=>by
   rcases h with h | h
   ·have:=hAb b hb;omega
   ·exact hgA b hb h))
  have HB9:=zB hbx
  have HO9:=zB ho9
  have HW9:=zB hw9
  have HGL:Hid (p+1≤g∧g<w9.heap.size):=zB (ho9.lt g rfl)
  clear hv hall hD h0 a7 a8 a12 hbx ho9 hw9 htw hAb hgA hO9
  simp only [zl,List.getElem?_cons_zero,List.getElem?_cons_succ,Option.bind_some,List.length_cons,List.length_nil,Nat.reduceAdd]
  go_frame
  go_wp2_with ((refine zH rfl 64 (.tmp 4) (.tmp 35) rfl (w.heap.size+1) 0 [.int .i64 0,.int .i64 0,.int .i64 0,.slice none 0 0,.int .i64 ((n+1:Nat):Int)] rfl rfl (by simp [Value.oneCell']) sz64 ((zA HX9).there 1 rfl 5 rfl) ?_;intro W10 hW10;have HX10:=zB ((zA HX9).give 1 rfl [.int .i64 0,.int .i64 0,.int .i64 0,.slice none 0 0,.int .i64 ((n+1:Nat):Int)] rfl);have HT10:=zB ((zA HT9).sets (b:=w.heap.size+1) (o:=0) (vs:=[.int .i64 0,.int .i64 0,.int .i64 0,.slice none 0 0,.int .i64 ((n+1:Nat):Int)]) (.inr (by omega)));have HB10:=zB ((zA HB9).turn (cb:=w.heap.size+1) (o:=0) (vs:=[.int .i64 0,.int .i64 0,.int .i64 0,.slice none 0 0,.int .i64 ((n+1:Nat):Int)]) (.inr (by simp only [List.length_cons,List.length_nil];omega)));have HV10:=zB ((Tw.refl (fun b=>b=w.heap.size+1) w9).sets (b:=w.heap.size+1) (o:=0) (vs:=[.int .i64 0,.int .i64 0,.int .i64 0,.slice none 0 0,.int .i64 ((n+1:Nat):Int)]) (.inl rfl));rw [←hW10] at HX10 HT10 HB10 HV10;clear hW10))
  have r0:=(zA HX10).cell 1 rfl 0 rfl
  have r1:=(zA HX10).cell 1 rfl 1 rfl
  have r2:=(zA HX10).cell 1 rfl 2 rfl
  have r3:=(zA HX10).cell 1 rfl 3 rfl
  have r4:=(zA HX10).cell 1 rfl 4 rfl
  have hg9:g≠w.heap.size+1:=fun e=>by
   rcases zA HW9 with h | h
   ·have:=((zA HO).lt _ h).2;omega
   ·have:=(zA HX3).sz (by simp);simp at this;omega
  refine bodyPost_ret (v:=.agg #[.int .i64 0,.int .i64 0,.int .i64 0,.slice none 0 0,.int .i64 ((n+1:Nat):Int)]) (by simp [results,Tryz.results43,go_sem,r0,r1,r2,r3,r4]) rfl ⟨A2,c2,g,cg,rfl,zA HB10,own_tw (zA HO9) (zA HV10) (fun b hb h=>by have hb:=Option.some.inj hb;simp only at hb;omega),?_,zA HT10,(zA HW9).imp id (fun h=>by omega)⟩
  refine Foot.imp ((Foot.keep (Foot.less (zA HF9) (av':=fun b=>b<w.heap.size+2∨b=g) (fun b _ h=>h)) ((zA HV10).mono (fun b _ h=>.inl (by omega)))).less (fun b _ h=>h.imp (fun h=>by omega) id)) (fun W hW=>gat_acts (GAt.own actCells_len (c:=c2) (by rw [actL_len];exact hW)))
end Go.Proofs.YtnbleebilmghcacGreat
