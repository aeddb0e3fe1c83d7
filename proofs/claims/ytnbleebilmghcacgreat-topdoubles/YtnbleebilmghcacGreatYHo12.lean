/- package house: Play, when nothing is wrong. -/
import Derived.Test.YtnbleebilmghcacGreatYHo11
set_option linter.all false
set_option maxHeartbeats 2000000
set_option maxRecDepth 8000
namespace Go.Proofs.YtnbleebilmghcacGreat
open Go Go.RowKit
attribute [local go_sem ↓] Go.wp_at_zero Go.wp_at_succ
theorem zBV (mods:List ModI):∀ (l:List DoI) (r:List AnsI×HI),(zp mods l r).1.length=r.1.length+l.length
 | [],r=>by simp [zp]
 | d :: l,r=>by
  rw [zp,zBV mods l]
  simp only [List.length_append,List.length_cons,List.length_nil]
  omega
theorem ans_new (W:World) (x:AnsM):∀ j u,(zAl x)[j]?=some u→(W.alloc (.cells #[.int .i64 x.1.e,.int .i64 x.1.i,.int .i64 x.1.g,.slice x.2.1 x.1.bs.length x.2.2,.int .i64 x.1.n] 64)).cell? ((⟨W.heap.size,0,none⟩:Addr).add j)=some u:=fun j u hj=>by
 have h:=Bxs.start W [(zAl x,64)]
 have:=h.cell 0 rfl j hj
 rw [Nat.add_zero] at this
 rw [Addr.add_mid,Nat.zero_add]
 exact this
theorem play_own (M:Option Addr) (mc:Nat) (mods:List ModI) (LD:Option Addr) (lc:Nat) (l:List DoI) (w:World) (hM:GAt zi 3 w M mods) (hL:DosAt w LD l) (hw:wmF mods=(0,0)) (hl:l.length≤80) :
  Calls Tryz.prog 13 #[.slice M mods.length mc,.slice LD l.length lc] w fun e w'=>∃ (T:Option Addr) (tc:Nat) (G:Option Addr) (gc:Nat) (M':Option Addr) (mc':Nat) (SA:Option Addr) (sc:Nat) (CA:Option Addr) (cc:Nat) (ss:List SysI) (la:List AnsM),e=.returned (.tuple #[.agg #[.slice T (zL (zAH mods l).2.X).length tc,.slice G (zAH mods l).2.X.gens.length gc,.slice M' mods.length mc',.slice SA ss.length sc],.slice CA la.length cc,.agg #[.int .i64 0,.int .i64 0]]) ∧
   StAt w' T G (zL (zAH mods l).2.X) (zAH mods l).2.X∧GAt zi 3 w' M' mods∧SyssAt w' SA ss.length (fun j=>ss.getD j dS)∧ss.map toP=(zAH mods l).2.S∧AnsAt w' CA la∧la.map Prod.fst=(zAH mods l).1∧Below w.heap.size w w'∧∀ b,(Value.slice CA la.length cc).ownBlock=some b→w.heap.size≤b:=by
 have hml:mods.length≤6:=by
  unfold wmF at hw
  by_cases h:6<mods.length
  ·rw [if_pos h] at hw;cases hw
  ·omega
 have hCM:=fun W (hb:Below w.heap.size w W)=>copied_mods M mc mods W (by omega) (hM.below hb)
 have HCM:=zB hCM
 have HDL:=zB hL
 have hWM:=fun W (hb:Below w.heap.size w W)=>wrongm_any M mc mods W (hM.below hb)
 unfold zAT at hWM
 have hz:wmF mods=(0,0):=hw
 rw [hz] at hWM
 obtain ⟨f0,hf0⟩:∃ f0:Int,f0=0:=⟨_,rfl⟩
 clear f0 hf0
 have HWM:=zB hWM
 clear hWM hz hw hCM hL hM
 have d80:decide ((80:Int)<(l.length:Int))=false:=decide_eq_false (by omega)
 obtain ⟨i64',hi64,hz64,hs64,hb64⟩:=info_parts info64
 have HI:=zB hi64
 have HZ:=zB hz64
 have HS:=zB hs64
 have HBB:=zB hb64
 clear hi64 hz64 hs64 hb64
 obtain ⟨W0,hW0,hbx,hX0⟩:=zw w [([.slice none 0 0,.slice none 0 0,.slice none 0 0,.slice none 0 0],31),([.int .i64 0,.int .i64 0],35)]
 have HW0:Hid ((w.alloc (.cells #[.slice none 0 0,.slice none 0 0,.slice none 0 0,.slice none 0 0] 31)).alloc (.cells #[.int .i64 0,.int .i64 0] 35)=W0):=zB hW0
 clear hW0
 have HL0:=zB hbx
 have HX0:=zB hX0
 clear hbx hX0
 go_enter Tryz.func13,Tryz.ntmps13
 go_upto_region 1 with fail
 rw [zA HW0]
 go_wp2_with fail
 go_at_call 26
 refine (zA HWM W0 (zA HL0)).mono ?_
 rintro e wq ⟨rfl,hb1⟩
 obtain ⟨W2,hW2,hbx,hX2⟩:=zw wq [([.int .i64 0,.int .i64 0],35)]
 have HW2:Hid (wq.alloc (.cells #[.int .i64 0,.int .i64 0] 35)=W2):=zB hW2
 clear hW2
 have hb12:=hb1.trans (hbx.mono hb1.size)
 have HL2:=zB ((zA HL0).trans (hb12.mono (zA HL0).size))
 have HX2:=zB ((zA HX0).below hb12)
 have hz1:w.heap.size+2≤wq.heap.size:=((zA HX0).below hb1).sz (by simp)
 have HY2:=zB hX2
 have q0:=hX2.cell 0 rfl 0 rfl
 rw [Nat.add_zero] at q0
 clear hb1 hbx hb12 hX2 HX0 HWM
 go_upto_region 2 with fail
 rw [zA HW2]
 go_wp2_with fail
 go_at_call 27
 refine (zA HCM W2 (zA HL2)).mono ?_
 rintro e w3 ⟨M3,c3,rfl,ho3,hb3⟩
 obtain ⟨W4,hW4,hbx,hX4⟩:=zw w3 [([.slice none 0 0,.slice none 0 0,.slice M3 mods.length c3,.slice none 0 0,.slice none 0 0],82)]
 have HW4:Hid (w3.alloc (.cells #[.slice none 0 0,.slice none 0 0,.slice M3 mods.length c3,.slice none 0 0,.slice none 0 0] 82)=W4):=zB hW4
 clear hW4
 have hb34:=hb3.trans (hbx.mono hb3.size)
 have hz2:w.heap.size+2≤w3.heap.size:=by have:=((zA HX2).below hb3).sz (by simp);simpa using this
 have hzW:w.heap.size+2≤W2.heap.size:=by have:=(zA HX2).sz (by simp);simpa using this
 have HPL:Hid (PL w w3.heap.size M3 c3 mods none 0 none 0 none 0 none 0 emptyW [] [] W4):=zB
  ⟨⟨hX4,Foot.triv (fun W=>(stNew_empty W.heap.size W).st),(Foot.own (zb ho3 hbx) (fun g hg hh=>by
    rcases hh with e | e | e | e
    ·have:=(ho3.lt g hg).2;omega
    ·cases e
    ·cases e
    ·have:=(ho3.lt g hg).1;omega)).imp (fun W h=>GAt.own modCells_len h),World.ownsRow_nil _ _ _ _,Foot.triv (fun W s hs=>by cases hs)⟩,
   World.ownsRow_nil _ _ _ _,Foot.triv (fun W s hs=>by cases hs),(zA HX2).below hb34,(zA HL2).trans (hb34.mono (zA HL2).size),hz2⟩
 clear q0 ho3 hb3 hbx hb34 hX4 HX2 HY2 HL2 HCM hz1
 go_upto_region 7 with fail
 rw [zA HW4]
 go_wp2_with fail
 go_loopw [30] (fun x wr=>∃ (k:Nat) (T:Option Addr) (tc:Nat) (G:Option Addr) (gc:Nat) (SA:Option Addr) (sc:Nat) (CA:Option Addr) (cc:Nat) (X:Wd) (ss:List SysI) (la:List AnsM),k≤l.length∧x=.int .i64 (k:Int)∧PL w w3.heap.size M3 c3 mods T tc G gc SA sc CA cc X ss la wr∧zp mods (l.take k) ([],h0)=(la.map Prod.fst,⟨X,ss.map toP⟩)) (fun x _=>l.length - (intOf x).toNat)
 case atStart=>exact ⟨0,none,0,none,0,none,0,none,0,emptyW,[],[],Nat.zero_le _,rfl,zA HPL,rfl⟩
 case round =>
  clear HPL
  obtain ⟨k,T,tc,G,gc,SA,sc,CA,cc,X,ss,la,hk,rfl,hPL,hpl⟩:=hrel
  by_cases hlt:k<l.length
  ·have k0:(0:Int)≤(k:Int):=by omega
   have k1:(k:Int)<(l.length:Int):=by omega
   have hok:HOk mods ⟨X,ss.map toP⟩:=by
    have:=play_ok (mods:=mods) (l.take k) ([],h0) (h0_ok mods)
    rw [hpl] at this
    exact this
   have hsn:zp mods (l.take (k+1)) ([],h0)=(la.map Prod.fst++[(doF mods ⟨X,ss.map toP⟩ l[k]).1],(doF mods ⟨X,ss.map toP⟩ l[k]).2):=by
    rw [List.take_succ_eq_append_getElem hlt,zBx,hpl]
   have hkl:la.length≤80:=by
    have e1:=zBV mods (l.take k) ([],h0)
    rw [hpl] at e1
    simp only [List.length_map,List.length_nil,List.length_take] at e1
    omega
   have hdk:l[k]?=some l[k]:=List.getElem?_eq_getElem hlt
   obtain ⟨b,off,hLe,hdc⟩:=((zA HDL).below hPL.bel).at_ k _ hdk
   have hact:=(zA HDL).acts _ (List.getElem_mem hlt)
   generalize l[k]=d at *
   obtain ⟨wk,rfl⟩:∃ wk,wk=wr:=⟨_,rfl⟩
   have c0:=hdc 0 _ rfl
   have c1:=hdc 1 _ rfl
   have c2:=hdc 2 _ rfl
   have c3:=hdc 3 _ rfl
   have c4:=hdc 4 _ rfl
   have c5:=hdc 5 _ rfl
   have c6:=hdc 6 _ rfl
   have c7:=hdc 7 _ rfl
   have c8:=hdc 8 _ rfl
   have c9:=hdc 9 _ rfl
   have c10:=hdc 10 _ rfl
   have c11:=hdc 11 _ rfl
   rw [Nat.add_zero] at c0
   obtain ⟨W5,hW5,hbx,hX5⟩:=zw wk [([.int .i64 d.k,.int .i64 d.has,.int .i64 d.p,.int .i64 d.n,.int .i64 d.i,.int .i64 d.g,.int .i64 d.s.m,.int .i64 d.s.al,.int .i64 d.s.no,.slice d.s.A d.s.len d.s.cap,.int .i64 d.fa,.int .i64 d.fn],46)]
   have HW5:Hid (wk.alloc (.cells #[.int .i64 d.k,.int .i64 d.has,.int .i64 d.p,.int .i64 d.n,.int .i64 d.i,.int .i64 d.g,.int .i64 d.s.m,.int .i64 d.s.al,.int .i64 d.s.no,.slice d.s.A d.s.len d.s.cap,.int .i64 d.fa,.int .i64 d.fn] 46)=W5):=zB hW5
   clear hW5
   have hP5:=hPL.below hbx
   have hact5:=hact.below hP5.bel
   have hDO:=do_any _ _ _ _ _ _ _ _ _ _ _ mods X ss d W5 hP5.gh hP5.exl hact5 hml hok
   unfold doV at hDO
   have HDO:=zB hDO
   have HP5:=zB hP5
   have z0:=hX5.cell 0 rfl 0 rfl
   have z1:=hX5.cell 0 rfl 1 rfl
   have z2:=hX5.cell 0 rfl 2 rfl
   have z3:=hX5.cell 0 rfl 3 rfl
   have z4:=hX5.cell 0 rfl 4 rfl
   have z5:=hX5.cell 0 rfl 5 rfl
   have z6:=hX5.cell 0 rfl 6 rfl
   have z7:=hX5.cell 0 rfl 7 rfl
   have z8:=hX5.cell 0 rfl 8 rfl
   have z9:=hX5.cell 0 rfl 9 rfl
   have z10:=hX5.cell 0 rfl 10 rfl
   have z11:=hX5.cell 0 rfl 11 rfl
   rw [Nat.add_zero] at z0 z1 z2 z3 z4 z5 z6 z7 z8 z9 z10 z11
   have HSN:=zB hsn
   subst hLe
   clear hbx hP5 hact hact5 hDO hX5 hPL hpl hok hsn hdc hdk
   go_upto_region 10 with fail
   rw [zA HW5]
   clear c0 c1 c2 c3 c4 c5 c6 c7 c8 c9 c10 c11
   go_wp2_with fail
   go_at_call 28
   refine (zA HDO).mono ?_
   rintro e w6 ⟨T6,tc6,G6,gc6,SA6,sc6,ss6,A6,c6,rfl,hg6,hs6,ho6,ht6,hn6⟩
   obtain ⟨a,ha⟩:∃ a,a=(doF mods ⟨X,ss.map toP⟩ d).1:=⟨_,rfl⟩
   obtain ⟨h',hh'⟩:∃ h',h'=(doF mods ⟨X,ss.map toP⟩ d).2:=⟨_,rfl⟩
   rw [←ha] at ho6
   rw [←hh'] at hg6 hs6
   have HSN2:=zB (show zp mods (l.take (k+1)) ([],h0)=((la++[(a,A6,c6)]).map Prod.fst,⟨h'.X,ss6.map toP⟩) by rw [zA HSN,←ha,←hh',hs6,List.map_append];rfl)
   have hPD:=PL.did (zA HP5) (x:=(a,A6,c6)) hg6 ho6 ht6 hn6
   rw [←ha]
   unfold hansV
   obtain ⟨W7,hW7,hbx,hX7⟩:=zw w6 [([.int .i64 a.e,.int .i64 a.i,.int .i64 a.g,.slice A6 a.bs.length c6,.int .i64 a.n],64)]
   have HW7:Hid (w6.alloc (.cells #[.int .i64 a.e,.int .i64 a.i,.int .i64 a.g,.slice A6 a.bs.length c6,.int .i64 a.n] 64)=W7):=zB hW7
   clear hW7
   have hP7:=hPD.below hbx
   have HP7:=zB hP7
   have u4:=hP7.gh.bx.cell 0 rfl 4 rfl
   rw [Nat.add_zero] at u4
   have y0:=hX7.cell 0 rfl 0 rfl
   have y1:=hX7.cell 0 rfl 1 rfl
   have y2:=hX7.cell 0 rfl 2 rfl
   have y3:=hX7.cell 0 rfl 3 rfl
   have y4:=hX7.cell 0 rfl 4 rfl
   rw [Nat.add_zero] at y0 y1 y2 y3 y4
   generalize h'.X=X' at *
   clear hg6 hs6 ho6 ht6 hn6 hPD hbx hX7 hP7 ha hh' HDO HP5 HSN z0 z1 z2 z3 z4 z5 z6 z7 z8 z9 z10 z11
   go_upto_region 11 with fail
   rw [zA HW7]
   have hNS:=ans_new W7 (a,A6,c6)
   have HNS:=zB hNS
   clear hNS
   go_wp2_with (first
    | (at_builtin;refine zZ _ rfl (.tmp 37) (.tmp 39) 32 rfl (w3.heap.size+1) 64 i64' _ 5 56 Tryz.underlying32 (zA HI) (zA HZ) (zA HS) (zA HBB) rfl (by decide) _ la.length (zAj zAl la) rfl ((zA HP7).below (zAs W7 (.cells (zAl (a,A6,c6)).toArray 64))).co ⟨_,0,none⟩ 1 1 (zAl (a,A6,c6)) rfl rfl (zA HNS) (ansCells_one _) (by unfold maxLen;omega) (by omega) (Nat.le_trans (zA HP7).gh.lt (zAs _ _).size) (by omega) ?_;intro g capg w17 ho7 hg7 hw7;have HO7:=zB ho7;have HG7:=zB hg7;have HW77:=zB hw7;clear ho7 hg7 hw7;have HP8:=zB ((zA HP7).below (zAs W7 (.cells (zAl (a,A6,c6)).toArray 64)));have hbx8:=(zA HP8).gh.bx.tw (Tw.of_grown (av:=fun b=>(Value.slice CA la.length cc).ownBlock=some b) (zA HG7) (fun k hk=>hk)) (fun k hk e=>by simp only [List.length_cons,List.length_nil] at hk;have:=((zA HP8).co.lt _ e).1;omega);have HBX8:=zB hbx8;clear hbx8)
    | (refine zs rfl 32 (.tmp 41) (.tmp 40) rfl w3.heap.size 4 (.slice (some ⟨g,0,none⟩) (la.length+1) capg) rfl rfl rfl sz54 (zBS ((zA HBX8).there 0 rfl 5 rfl) 4 1 (by omega)) ?_;intro W9 hW9;have HPF:=zB ((zA HP8).kept (zA HO7) (zA HG7) (zA HW77));rw [←hW9] at HPF;clear hW9))
   go_roundw
   case rel=>exact ⟨k+1,_,_,_,_,_,_,_,_,_,_,_,by omega,by go_num,zA HPF,zA HSN2⟩
   case measure=>simp [intOf];omega
  ·have hkl:l.take k=l:=List.take_of_length_le (by omega)
   have dk:decide ((k:Int)<(l.length:Int))=false:=decide_eq_false (by omega)
   rw [hkl] at hpl
   have hpf:zAH mods l=(la.map Prod.fst,⟨X,ss.map toP⟩):=hpl
   have HPF:=zB hpf
   have HP9:=zB hPL
   obtain ⟨w9,rfl⟩:∃ w9,w9=wr:=⟨_,rfl⟩
   have h0:Bxs w.heap.size [(if (fun (_:Nat)=>false) 5=true then [.slice T (zL X).length tc,.slice G X.gens.length gc,.slice M3 mods.length c3,.slice SA ss.length sc] else [.slice none 0 0,.slice none 0 0,.slice none 0 0,.slice none 0 0],31),([.int .i64 0,.int .i64 0],35)] w9.drew∧Tw (fun b=>b=w.heap.size∨b=w.heap.size+1) w9 w9.drew:=⟨hPL.rb,Tw.of_below (Below.refl _ _).drew⟩
   clear hkl hpl hpf hPL
   have H0:=zB h0
   clear h0
   go_upto_region 13 with fail
   have h0:=zA H0
   refine za (fun (γ:Unit) ix v=>(([fun v=>v=.pointer (some ⟨w3.heap.size,0,none⟩),fun v=>v=.agg #[.slice T (zL X).length tc,.slice G X.gens.length gc,.slice M3 mods.length c3,.slice SA ss.length sc],fun v=>v=.pointer (some ⟨w3.heap.size,4,none⟩),fun v=>v=.slice CA la.length cc,fun v=>v=.agg #[.int .i64 0,.int .i64 0],fun _=>True,fun v=>v=.slice CA la.length cc,fun _=>True]:List (Value→Prop)).getD ix (fun _=>True)) v) (fun (_:Unit) L W=>Bxs w.heap.size [(if L 5=true then [.slice T (zL X).length tc,.slice G X.gens.length gc,.slice M3 mods.length c3,.slice SA ss.length sc] else [.slice none 0 0,.slice none 0 0,.slice none 0 0,.slice none 0 0],31),([.int .i64 0,.int .i64 0],35)] W∧Tw (fun b=>b=w.heap.size∨b=w.heap.size+1) w9 W) (()) (by kernel_rfl) (by kernel_rfl) (by kernel_rfl) h0 ?hstep ?hend
   case hstep =>
    intro γ ix o ho L ac w1 hD hL hed hcl hout hv
    match ix,ho with
    | 0,ho =>
     simp at ho
     subst ho
     have e8:ac.tmps.getD 8 undef=.pointer (some ⟨w3.heap.size,0,none⟩):=hout 8 (by decide +kernel)
     exact .inl ⟨rfl,zE γ (.pointer (some ⟨w3.heap.size,0,none⟩)) (by simp [go_sem,Act.eval,-Array.getD_eq_getD_getElem?,e8]) rfl (⟨by rw [zQ (by decide)];exact hD.1,hD.2⟩) (fun _ _ _ _ h=>h)⟩
    | 1,ho =>
     simp at ho
     subst ho
     have e43:ac.tmps.getD 43 undef=.pointer (some ⟨w3.heap.size,0,none⟩):=hv 0 43 rfl (by kernel_rfl)
     have hlo:=(zA HP9).lo
     have bb:=(zA HP9).gh.bx.tw hD.2 (fun k hk e=>by simp only [List.length_cons,List.length_nil] at hk;omega)
     have d0:=bb.cell 0 rfl 0 rfl
     have d1:=bb.cell 0 rfl 1 rfl
     have d2:=bb.cell 0 rfl 2 rfl
     have d3:=bb.cell 0 rfl 3 rfl
     rw [Nat.add_zero] at d0 d1 d2 d3
     exact .inl ⟨rfl,zE γ (.agg #[.slice T (zL X).length tc,.slice G X.gens.length gc,.slice M3 mods.length c3,.slice SA ss.length sc]) (by simp [go_sem,Act.eval,-Array.getD_eq_getD_getElem?,e43,d0,d1,d2,d3]) rfl (⟨by rw [zQ (by decide)];exact hD.1,hD.2⟩) (fun _ _ _ _ h=>h)⟩
    | 2,ho =>
     simp at ho
     subst ho
     have e8:ac.tmps.getD 8 undef=.pointer (some ⟨w3.heap.size,0,none⟩):=hout 8 (by decide +kernel)
     exact .inl ⟨rfl,zE γ (.pointer (some ⟨w3.heap.size,4,none⟩)) (by simp [go_sem,Act.eval,-Array.getD_eq_getD_getElem?,e8]) rfl (⟨by rw [zQ (by decide)];exact hD.1,hD.2⟩) (fun _ _ _ _ h=>h)⟩
    | 3,ho =>
     simp at ho
     subst ho
     have e45:ac.tmps.getD 45 undef=.pointer (some ⟨w3.heap.size,4,none⟩):=hv 2 45 rfl (by kernel_rfl)
     have hlo:=(zA HP9).lo
     have bb:=(zA HP9).gh.bx.tw hD.2 (fun k hk e=>by simp only [List.length_cons,List.length_nil] at hk;omega)
     have d4:=bb.cell 0 rfl 4 rfl
     rw [Nat.add_zero] at d4
     exact .inl ⟨rfl,zE γ (.slice CA la.length cc) (by simp [go_sem,Act.eval,-Array.getD_eq_getD_getElem?,e45,d4]) rfl (⟨by rw [zQ (by decide)];exact hD.1,hD.2⟩) (fun _ _ _ _ h=>h)⟩
    | 4,ho =>
     simp at ho
     subst ho
     exact .inl ⟨rfl,zE γ (.agg #[.int .i64 0,.int .i64 0]) (by simp [go_sem,Act.eval,-Array.getD_eq_getD_getElem?,]) rfl (⟨by rw [zQ (by decide)];exact hD.1,hD.2⟩) (fun _ _ _ _ h=>h)⟩
    | 5,ho =>
     simp at ho
     subst ho
     have e4:ac.tmps.getD 4 undef=.pointer (some ⟨w.heap.size,0,none⟩):=hout 4 (by decide +kernel)
     have e44:ac.tmps.getD 44 undef=.agg #[.slice T (zL X).length tc,.slice G X.gens.length gc,.slice M3 mods.length c3,.slice SA ss.length sc]:=hv 1 44 rfl (by kernel_rfl)
     have h1:=hD.1
     rw [hL] at h1
     refine .inl ⟨rfl,zBA γ 31 (.tmp 4) (.tmp 44) rfl w.heap.size 0 [.slice T (zL X).length tc,.slice G X.gens.length gc,.slice M3 mods.length c3,.slice SA ss.length sc] (by simp [Act.eval,-Array.getD_eq_getD_getElem?,e4]) (by simp [Act.eval,-Array.getD_eq_getD_getElem?,e44]) (by simp [Value.oneCell']) sz53 (h1.there 0 rfl 4 rfl) trivial ⟨?_,hD.2.sets (.inl (.inl rfl))⟩ (fun _ _ _ _ h=>h)⟩
     rw [zAx]
     exact h1.give 0 rfl [.slice T (zL X).length tc,.slice G X.gens.length gc,.slice M3 mods.length c3,.slice SA ss.length sc] rfl
    | 6,ho =>
     simp at ho
     subst ho
     have e46:ac.tmps.getD 46 undef=.slice CA la.length cc:=hv 3 46 rfl (by kernel_rfl)
     exact .inl ⟨rfl,zE γ (.slice CA la.length cc) (by simp [go_sem,Act.eval,-Array.getD_eq_getD_getElem?,e46]) rfl (⟨by rw [zQ (by decide)];exact hD.1,hD.2⟩) (fun _ _ _ _ h=>h)⟩
    | 7,ho =>
     simp at ho
     subst ho
     have e6:ac.tmps.getD 6 undef=.pointer (some ⟨w.heap.size+1,0,none⟩):=hout 6 (by decide +kernel)
     have e47:ac.tmps.getD 47 undef=.agg #[.int .i64 0,.int .i64 0]:=hv 4 47 rfl (by kernel_rfl)
     refine .inl ⟨rfl,zBA γ 35 (.tmp 6) (.tmp 47) rfl (w.heap.size+1) 0 [.int .i64 0,.int .i64 0] (by simp [Act.eval,-Array.getD_eq_getD_getElem?,e6]) (by simp [Act.eval,-Array.getD_eq_getD_getElem?,e47]) (by simp [Value.oneCell']) sz29 (hD.1.there 1 rfl 2 rfl) trivial ⟨?_,hD.2.sets (.inl (.inr rfl))⟩ (fun _ _ _ _ h=>h)⟩
     rw [zQ (by decide)]
     exact hD.1.give 1 rfl [.int .i64 0,.int .i64 0] rfl
    | ix+8,ho=>simp at ho
   case hend =>
    intro γ v L W10 hD hall hv
    have v6:v 6=.slice CA la.length cc:=hv 6 5 rfl
    obtain ⟨hB,hT⟩:=hD
    rw [hall 5 (by decide),if_pos rfl] at hB
    have r0:=hB.cell 0 rfl 0 rfl
    have r1:=hB.cell 0 rfl 1 rfl
    have r2:=hB.cell 0 rfl 2 rfl
    have r3:=hB.cell 0 rfl 3 rfl
    have r4:=hB.cell 1 rfl 0 rfl
    have r5:=hB.cell 1 rfl 1 rfl
    rw [Nat.add_zero] at r0 r1 r2 r3
    have HT:=zB hT
    clear hv hall h0 hB hT
    simp only [zl,List.getElem?_cons_zero,List.getElem?_cons_succ,Option.bind_some,List.length_cons,List.length_nil,Nat.reduceAdd,v6]
    clear v6
    go_frame
    go_wp2
    have hP9:=zA HP9
    have hlo:=hP9.lo
    have hT:=zA HT
    have hTA:Tw (Av w3.heap.size (.slice SA ss.length sc) (fun b=>(Value.slice CA la.length cc).ownBlock=some b∨b<w.heap.size+2)) w9 W10:=hT.mono (fun b _ hb=>.inr (.inr (.inr (by omega))))
    have hpf:=zA HPF
    rw [hpf]
    refine bodyPost_ret (v:=.tuple #[.agg #[.slice T (zL X).length tc,.slice G X.gens.length gc,.slice M3 mods.length c3,.slice SA ss.length sc],.slice CA la.length cc,.agg #[.int .i64 0,.int .i64 0]]) (by simp [results,Tryz.results13,go_sem,r0,r1,r2,r3,r4,r5]) rfl ⟨T,tc,G,gc,M3,c3,SA,sc,CA,cc,ss,la,rfl,(hP9.gh.st.keep hTA).here,(hP9.gh.md.keep hTA).here,syss_own (own_tw hP9.gh.so hT (fun g hg hh=>by have:=(hP9.gh.so.lt g hg).1;omega)) (hP9.gh.ac.keep hTA).here dS,rfl,⟨GAt.own ansCells_len (own_tw hP9.co hT (fun g hg hh=>by have:=(hP9.co.lt g hg).1;omega)),(hP9.bs.keep hTA).here⟩,rfl,hP9.bel.trans (hT.below hP9.bel.size (fun k hk hh=>by omega)),fun b hb=>by have:=(hP9.co.lt b hb).1;omega⟩
theorem zBU (M:Option Addr) (mc:Nat) (mods:List ModI) (LD:Option Addr) (lc:Nat) (l:List DoI) (w:World) (hM:GAt zi 3 w M mods) (hL:DosAt w LD l) (hw:wmF mods=(0,0)) (hl:l.length≤80) :
  Calls Tryz.prog 13 #[.slice M mods.length mc,.slice LD l.length lc] w fun e w'=>∃ (T:Option Addr) (tc:Nat) (G:Option Addr) (gc:Nat) (M':Option Addr) (mc':Nat) (SA:Option Addr) (sc:Nat) (CA:Option Addr) (cc:Nat) (ss:List SysI) (la:List AnsM),e=.returned (.tuple #[.agg #[.slice T (zL (zAH mods l).2.X).length tc,.slice G (zAH mods l).2.X.gens.length gc,.slice M' mods.length mc',.slice SA ss.length sc],.slice CA la.length cc,.agg #[.int .i64 0,.int .i64 0]]) ∧
   StAt w' T G (zL (zAH mods l).2.X) (zAH mods l).2.X∧GAt zi 3 w' M' mods∧SyssAt w' SA ss.length (fun j=>ss.getD j dS)∧ss.map toP=(zAH mods l).2.S∧AnsAt w' CA la∧la.map Prod.fst=(zAH mods l).1∧Below w.heap.size w w':=by
 refine (play_own M mc mods LD lc l w hM hL hw hl).mono ?_
 rintro e w' ⟨T,tc,G,gc,M',mc',SA,sc,CA,cc,ss,la,h0,h1,h2,h3,h4,h5,h6,h7,_⟩
 exact ⟨T,tc,G,gc,M',mc',SA,sc,CA,cc,ss,la,h0,h1,h2,h3,h4,h5,h6,h7⟩
end Go.Proofs.YtnbleebilmghcacGreat
