/- What the document's WrongTable tells of any table. -/
import Derived.Test.YtnbleebilmghcabGreatWK
set_option linter.all false
set_option maxHeartbeats 4000000
set_option maxRecDepth 8000
namespace Go.Proofs.YtnbleebilmghcabGreat
open Go Go.RowKit
attribute [local go_sem ↓] Go.wp_at_zero Go.wp_at_succ
theorem zEk (has:Int) (bs:List (Int×Int)) (cols:List (List Int)) (A:Option Addr) (c:Nat) (C:Option Addr) (cc:Nat) (w:World) (hbA:BsAt w A bs) (hcC:ColsX w C cols) (hf:FewX ⟨has,bs,cols⟩) :
  Calls Tryz.prog 54 #[.agg #[.int .i64 has,.slice A bs.length c,.slice C cols.length cc]] w fun e w'=>e=.returned (.int .i64 (wtF ⟨has,bs,cols⟩))∧Below w.heap.size w w':=by
 obtain ⟨R,hR⟩:∃ R,R=wtF ⟨has,bs,cols⟩:=⟨_,rfl⟩
 rw [←hR]
 have hcc:cols.length≤4194304:=hf.c
 have hbb:bs.length≤4194304:=hf.b
 have HF:=zB hf
 have HWT:=zB hR
 have HBS:=zB hbA
 have HCX:=zB hcC
 clear hf hR hbA hcC
 obtain ⟨W1,hW1,hbx,hX1⟩:=zET w [([.int .i64 has,.slice A bs.length c,.slice C cols.length cc],75)]
 have HW1:Hid (w.alloc (.cells #[.int .i64 has,.slice A bs.length c,.slice C cols.length cc] 75)=W1):=zB hW1
 clear hW1
 have HL1:=zB hbx
 have HX1:=zB hX1
 have z0:=hX1.cell 0 rfl 0 rfl
 rw [Nat.add_zero] at z0
 have HSE:=zB (zAs has)
 clear hbx hX1
 go_enter Tryz.func54,Tryz.ntmps54
 go_upto_region 1 with fail
 rw [zA HW1]
 go_wp2_with fail
 go_at_call 45
 refine (zA HSE W1).mono ?_
 rintro e w2 ⟨rfl,hw⟩
 obtain rfl:=hw.symm
 clear z0
 cases hs:zAR has
 ·have HR:Hid (R=3):=zB (by rw [zA HWT,zPN hs])
  clear hs
  go_wp2
  go_ret
  rw [zA HR]
  exact ⟨rfl,zA HL1⟩
 ·have hs2:=hs
  unfold zAR at hs2
  have hs2:=of_decide_eq_true hs2
  have HLI:=zB (fun W=>zEu has W hs2.1 hs2.2)
  by_cases hb0:bs.length=0
  ·have HR:Hid (R=4):=zB (by rw [zA HWT,zPA hs (.inl hb0)])
   have hz:((bs.length:Int) == 0)=true:=by rw [hb0];rfl
   clear hs
   go_wp2_with fail
   have h0:Below W1.heap.size W1 W1.drew:=(Below.refl _ _).drew
   refine zd (fun (γ:Option Addr×Nat) ix v=>(([fun v=>v=.pointer (some ⟨w.heap.size,1,none⟩),fun v=>v=.slice A bs.length c,fun v=>v=.int .i64 (bs.length:Int),fun v=>v=.bool true,fun v=>v=.bool true,fun v=>v=undef,fun v=>v=undef,fun v=>v=undef,fun v=>v=undef,fun v=>v=undef,fun v=>v=undef,fun v=>v=undef,fun v=>v=undef,fun v=>v=.bool true]:List (Value→Prop)).getD ix (fun _=>True)) v) (fun (_:Option Addr×Nat) (_:Nat→Bool) W=>Below W1.heap.size W1 W) ((none,0)) (by kernel_rfl) (by kernel_rfl) (by kernel_rfl) h0 ?hstep ?hend
   case hstep =>
    intro γ ix o ho L ac w1 hD hL hed hcl hout hv
    match ix,ho with
    | 0,ho =>
     simp at ho
     subst ho
     have e1:ac.tmps.getD 1 undef=.pointer (some ⟨w.heap.size,0,none⟩):=hout 1 (by decide +kernel)
     exact .inl ⟨rfl,zF γ _ (by simp [go_sem,Act.eval,-Array.getD_eq_getD_getElem?,e1]) rfl (hD) (fun _ _ _ _ h=>h)⟩
    | 1,ho =>
     simp at ho
     subst ho
     have e12:ac.tmps.getD 12 undef=_:=hv 0 12 rfl (by kernel_rfl)
     have bb:=(zA HX1).below hD
     have c0:=bb.cell 0 rfl 1 rfl
     rw [Nat.add_zero] at c0
     exact .inl ⟨rfl,zF γ _ (by simp [go_sem,Act.eval,-Array.getD_eq_getD_getElem?,e12,c0]) rfl (hD) (fun _ _ _ _ h=>h)⟩
    | 2,ho =>
     simp at ho
     subst ho
     have e13:ac.tmps.getD 13 undef=_:=hv 1 13 rfl (by kernel_rfl)
     exact .inl ⟨rfl,zF γ _ (by simp [go_sem,Act.eval,-Array.getD_eq_getD_getElem?,e13]) rfl (hD) (fun _ _ _ _ h=>h)⟩
    | 3,ho =>
     simp at ho
     subst ho
     have e14:ac.tmps.getD 14 undef=_:=hv 2 14 rfl (by kernel_rfl)
     exact .inl ⟨rfl,zF γ _ (by simp [go_sem,Act.eval,-Array.getD_eq_getD_getElem?,e14,hz,hb0]) rfl (hD) (fun _ _ _ _ h=>h)⟩
    | 4,ho =>
     simp at ho
     subst ho
     have e15:ac.tmps.getD 15 undef=.bool true:=hv 3 15 rfl (by kernel_rfl)
     exact .inl ⟨rfl,zF γ _ (by simp [go_sem,Act.eval,-Array.getD_eq_getD_getElem?,e15]) rfl (hD) (fun _ _ _ _ h=>h)⟩
    | 5,ho =>
     simp at ho
     subst ho
     have eg:ac.tmps.getD 16 undef=.bool !false:=hv 4 16 rfl (by kernel_rfl)
     exact .inr ⟨zj rfl rfl eg,rfl,hD⟩
    | 6,ho =>
     simp at ho
     subst ho
     have eg:ac.tmps.getD 16 undef=.bool !false:=hv 4 16 rfl (by kernel_rfl)
     exact .inr ⟨zj rfl rfl eg,rfl,hD⟩
    | 7,ho =>
     simp at ho
     subst ho
     have eg:ac.tmps.getD 16 undef=.bool !false:=hv 4 16 rfl (by kernel_rfl)
     exact .inr ⟨zj rfl rfl eg,rfl,hD⟩
    | 8,ho =>
     simp at ho
     subst ho
     have eg:ac.tmps.getD 16 undef=.bool !false:=hv 4 16 rfl (by kernel_rfl)
     exact .inr ⟨zj rfl rfl eg,rfl,hD⟩
    | 9,ho =>
     simp at ho
     subst ho
     have eg:ac.tmps.getD 16 undef=.bool !false:=hv 4 16 rfl (by kernel_rfl)
     exact .inr ⟨zj rfl rfl eg,rfl,hD⟩
    | 10,ho =>
     simp at ho
     subst ho
     have eg:ac.tmps.getD 16 undef=.bool !false:=hv 4 16 rfl (by kernel_rfl)
     exact .inr ⟨zj rfl rfl eg,rfl,hD⟩
    | 11,ho =>
     simp at ho
     subst ho
     have eg:ac.tmps.getD 16 undef=.bool !false:=hv 4 16 rfl (by kernel_rfl)
     exact .inr ⟨zj rfl rfl eg,rfl,hD⟩
    | 12,ho =>
     simp at ho
     subst ho
     have eg:ac.tmps.getD 16 undef=.bool !false:=hv 4 16 rfl (by kernel_rfl)
     exact .inr ⟨zj rfl rfl eg,rfl,hD⟩
    | 13,ho =>
     simp at ho
     subst ho
     have e16:ac.tmps.getD 16 undef=.bool true:=hv 4 16 rfl (by kernel_rfl)
     exact .inl ⟨rfl,zF γ _ (by simp [go_sem,Act.eval,-Array.getD_eq_getD_getElem?,e16]) rfl (hD) (fun _ _ _ _ h=>h)⟩
    | ix+14,ho=>simp at ho
   case hend =>
    intro γ v L w9 hD hall hv
    have v13:v 13=.bool true:=hv 13 25 rfl
    have HB9:=zB ((zA HL1).trans (hD.mono (zA HL1).size))
    have HB0:=zB hD
    clear hv hall hD h0
    simp only [zu,List.getElem?_cons_zero,List.getElem?_cons_succ,Option.bind_some,List.length_cons,List.length_nil,Nat.reduceAdd,v13]
    clear v13
    go_frame
    go_wp2
    go_ret
    rw [zA HR]
    exact ⟨rfl,zA HB9⟩
  ·have hz:((bs.length:Int) == 0)=false:=beq_eq_false_iff_ne.2 (by omega)
   have hz2:bs≠[]:=fun e=>hb0 (by rw [e];rfl)
   by_cases hcl:cols.length=(zO has 8).length
   ·have HWT2:Hid (R=if zBM bs.length cols cols.length 0=0 then (if zDm bs=true then (0:Int) else 2) else zBM bs.length cols cols.length 0):=zB (by rw [zA HWT,zPM hs hb0 hcl])
    have hlc:((cols.length:Int) != ((zO has 8).length:Int))=false:=by rw [hcl];simp
    clear hs HWT
    go_wp2_with fail
    have h0:Below W1.heap.size W1 W1.drew:=(Below.refl _ _).drew
    refine zd (fun (γ:Option Addr×Nat) ix v=>if ix=10 then v=.slice γ.1 (zO has 8).length γ.2 else (([fun v=>v=.pointer (some ⟨w.heap.size,1,none⟩),fun v=>v=.slice A bs.length c,fun v=>v=.int .i64 (bs.length:Int),fun v=>v=.bool false,fun v=>v=.bool false,fun v=>v=.pointer (some ⟨w.heap.size,2,none⟩),fun v=>v=.slice C cols.length cc,fun v=>v=.int .i64 (cols.length:Int),fun v=>v=.pointer (some ⟨w.heap.size,0,none⟩),fun v=>v=.int .i64 has,fun _=>True,fun v=>v=.int .i64 ((zO has 8).length:Int),fun v=>v=.bool false,fun v=>v=.bool false]:List (Value→Prop)).getD ix (fun _=>True)) v) (fun (_:Option Addr×Nat) (_:Nat→Bool) W=>Below W1.heap.size W1 W) ((none,0)) (by kernel_rfl) (by kernel_rfl) (by kernel_rfl) h0 ?hstep ?hend
    case hstep =>
     intro γ ix o ho L ac w1 hD hL hed hcl hout hv
     match ix,ho with
     | 0,ho =>
      simp at ho
      subst ho
      have e1:ac.tmps.getD 1 undef=.pointer (some ⟨w.heap.size,0,none⟩):=hout 1 (by decide +kernel)
      exact .inl ⟨rfl,zF γ _ (by simp [go_sem,Act.eval,-Array.getD_eq_getD_getElem?,e1]) rfl (hD) (fun _ _ _ _ h=>h)⟩
     | 1,ho =>
      simp at ho
      subst ho
      have e12:ac.tmps.getD 12 undef=_:=hv 0 12 rfl (by kernel_rfl)
      have bb:=(zA HX1).below hD
      have c0:=bb.cell 0 rfl 1 rfl
      rw [Nat.add_zero] at c0
      exact .inl ⟨rfl,zF γ _ (by simp [go_sem,Act.eval,-Array.getD_eq_getD_getElem?,e12,c0]) rfl (hD) (fun _ _ _ _ h=>h)⟩
     | 2,ho =>
      simp at ho
      subst ho
      have e13:ac.tmps.getD 13 undef=_:=hv 1 13 rfl (by kernel_rfl)
      exact .inl ⟨rfl,zF γ _ (by simp [go_sem,Act.eval,-Array.getD_eq_getD_getElem?,e13]) rfl (hD) (fun _ _ _ _ h=>h)⟩
     | 3,ho =>
      simp at ho
      subst ho
      have e14:ac.tmps.getD 14 undef=_:=hv 2 14 rfl (by kernel_rfl)
      exact .inl ⟨rfl,zF γ _ (by simp [go_sem,Act.eval,-Array.getD_eq_getD_getElem?,e14,hz,hz2]) rfl (hD) (fun _ _ _ _ h=>h)⟩
     | 4,ho =>
      simp at ho
      subst ho
      have e15:ac.tmps.getD 15 undef=.bool false:=hv 3 15 rfl (by kernel_rfl)
      exact .inl ⟨rfl,zF γ _ (by simp [go_sem,Act.eval,-Array.getD_eq_getD_getElem?,e15]) rfl (hD) (fun _ _ _ _ h=>h)⟩
     | 5,ho =>
      simp at ho
      subst ho
      have eg:ac.tmps.getD 16 undef=.bool false:=hv 4 16 rfl (by kernel_rfl)
      have e1:ac.tmps.getD 1 undef=.pointer (some ⟨w.heap.size,0,none⟩):=hout 1 (by decide +kernel)
      exact .inl ⟨zX rfl rfl eg,zF γ _ (by simp [go_sem,Act.eval,-Array.getD_eq_getD_getElem?,e1]) rfl (hD) (fun _ _ _ _ h=>h)⟩
     | 6,ho =>
      simp at ho
      subst ho
      have eg:ac.tmps.getD 16 undef=.bool false:=hv 4 16 rfl (by kernel_rfl)
      have e17:ac.tmps.getD 17 undef=_:=hv 5 17 rfl (by kernel_rfl)
      have bb:=(zA HX1).below hD
      have c0:=bb.cell 0 rfl 2 rfl
      rw [Nat.add_zero] at c0
      exact .inl ⟨zX rfl rfl eg,zF γ _ (by simp [go_sem,Act.eval,-Array.getD_eq_getD_getElem?,e17,c0]) rfl (hD) (fun _ _ _ _ h=>h)⟩
     | 7,ho =>
      simp at ho
      subst ho
      have eg:ac.tmps.getD 16 undef=.bool false:=hv 4 16 rfl (by kernel_rfl)
      have e18:ac.tmps.getD 18 undef=_:=hv 6 18 rfl (by kernel_rfl)
      exact .inl ⟨zX rfl rfl eg,zF γ _ (by simp [go_sem,Act.eval,-Array.getD_eq_getD_getElem?,e18]) rfl (hD) (fun _ _ _ _ h=>h)⟩
     | 8,ho =>
      simp at ho
      subst ho
      have eg:ac.tmps.getD 16 undef=.bool false:=hv 4 16 rfl (by kernel_rfl)
      have e1:ac.tmps.getD 1 undef=.pointer (some ⟨w.heap.size,0,none⟩):=hout 1 (by decide +kernel)
      exact .inl ⟨zX rfl rfl eg,zF γ _ (by simp [go_sem,Act.eval,-Array.getD_eq_getD_getElem?,e1]) rfl (hD) (fun _ _ _ _ h=>h)⟩
     | 9,ho =>
      simp at ho
      subst ho
      have eg:ac.tmps.getD 16 undef=.bool false:=hv 4 16 rfl (by kernel_rfl)
      have e20:ac.tmps.getD 20 undef=_:=hv 8 20 rfl (by kernel_rfl)
      have bb:=(zA HX1).below hD
      have c0:=bb.cell 0 rfl 0 rfl
      rw [Nat.add_zero] at c0
      exact .inl ⟨zX rfl rfl eg,zF γ _ (by simp [go_sem,Act.eval,-Array.getD_eq_getD_getElem?,e20,c0]) rfl (hD) (fun _ _ _ _ h=>h)⟩
     | 10,ho =>
      simp at ho
      subst ho
      have eg:ac.tmps.getD 16 undef=.bool false:=hv 4 16 rfl (by kernel_rfl)
      have e21:ac.tmps.getD 21 undef=_:=hv 9 21 rfl (by kernel_rfl)
      refine .inl ⟨zX rfl rfl eg,zAQ 65 #[.int .i64 has] (by simp [go_sem,Act.eval,-Array.getD_eq_getD_getElem?,e21]) ?_⟩
      refine (zA HLI w1).mono ?_
      rintro e w6 ⟨vh,rfl,hh,hb6⟩
      obtain ⟨Ah,ch,rfl⟩:=zAV hh
      exact ⟨_,(Ah,ch),rfl,rfl,hD.trans (hb6.mono hD.size),fun j u hj hLj h=>by simpa [hj] using h⟩
     | 11,ho =>
      simp at ho
      subst ho
      have eg:ac.tmps.getD 16 undef=.bool false:=hv 4 16 rfl (by kernel_rfl)
      have e22:ac.tmps.getD 22 undef=_:=hv 10 22 rfl (by kernel_rfl)
      exact .inl ⟨zX rfl rfl eg,zF γ _ (by simp [go_sem,Act.eval,-Array.getD_eq_getD_getElem?,e22]) rfl (hD) (fun _ _ _ _ h=>h)⟩
     | 12,ho =>
      simp at ho
      subst ho
      have eg:ac.tmps.getD 16 undef=.bool false:=hv 4 16 rfl (by kernel_rfl)
      have e19:ac.tmps.getD 19 undef=_:=hv 7 19 rfl (by kernel_rfl)
      have e23:ac.tmps.getD 23 undef=_:=hv 11 23 rfl (by kernel_rfl)
      exact .inl ⟨zX rfl rfl eg,zF γ _ (by simp [go_sem,Act.eval,-Array.getD_eq_getD_getElem?,e19,e23,hlc,hcl]) rfl (hD) (fun _ _ _ _ h=>h)⟩
     | 13,ho =>
      simp at ho
      subst ho
      have e16:ac.tmps.getD 16 undef=.bool false:=hv 4 16 rfl (by kernel_rfl)
      have e24:ac.tmps.getD 24 undef=.bool false:=hv 12 24 rfl (by kernel_rfl)
      exact .inl ⟨rfl,zF γ _ (by simp [go_sem,Act.eval,-Array.getD_eq_getD_getElem?,e16,e24]) rfl (hD) (fun _ _ _ _ h=>h)⟩
     | ix+14,ho=>simp at ho
    case hend =>
     intro γ v L w9 hD hall hv
     have v13:v 13=.bool false:=hv 13 25 rfl
     have HB9:=zB ((zA HL1).trans (hD.mono (zA HL1).size))
     have HB0:=zB hD
     clear hv hall hD h0
     simp only [zu,List.getElem?_cons_zero,List.getElem?_cons_succ,Option.bind_some,List.length_cons,List.length_nil,Nat.reduceAdd,v13]
     clear v13
     go_frame
     clear hb0 hcl hz hz2 hlc HSE HLI
     have HX9:=zB ((zA HX1).below (zA HB0))
     have y2:=(zA HX9).cell 0 rfl 2 rfl
     rw [Nat.add_zero] at y2
     go_wp2_with fail
     clear y2
     go_loopw [29] (fun x wr=>∃ k:Nat,k≤cols.length∧x=.int .i64 (k:Int)∧zBM bs.length cols (cols.length - k) k=zBM bs.length cols cols.length 0∧Below w9.heap.size w9 wr) (fun x _=>cols.length - (intOf x).toNat)
     case atStart=>exact ⟨0,Nat.zero_le _,rfl,rfl,Below.refl _ _⟩
     case round =>
      obtain ⟨k,hk,rfl,hcs,hbr⟩:=hrel
      have hL:=(zA HB9).trans (hbr.mono (zA HB9).size)
      have HXr:=zB ((zA HX9).below hbr)
      by_cases hlt:k<cols.length
      ·have k0:(0:Int)≤(k:Int):=by omega
       have k1:(k:Int)<(cols.length:Int):=by omega
       rw [zII _ _ _ _ hlt] at hcs
       obtain ⟨cb,co,hCe,Ak,ck,hck,hik⟩:=((zA HCX).below hL) k hlt
       obtain ⟨lk,hlk⟩:∃ lk,lk=cols.getD k []:=⟨_,rfl⟩
       rw [←hlk] at hck hik hcs
       have hkl:lk.length≤4194304:=by rw [hlk];exact (zA HF).k k hlt
       have y1:=(zA HXr).cell 0 rfl 1 rfl
       rw [Nat.add_zero] at y1
       have hck:wr.cell? ⟨cb,co+k,none⟩=some (.slice Ak lk.length ck):=hck
       subst hCe
       have HIK:=zB hik
       have HLr:=zB hL
       have HCS:=zB hcs
       have HBR:=zB hbr
       clear hL hcs hbr hik hlk
       by_cases hlb:lk.length=bs.length
       ·have hne2:((lk.length:Int) != (bs.length:Int))=false:=by rw [hlb];simp
        have HLB:=zB hlb
        clear hlb
        go_wp2_with fail
        clear hne2 y1 hck
        obtain ⟨wo,rfl⟩:∃ wo,wo=wr:=⟨_,rfl⟩
        go_loopw [41] (fun x wr=>∃ j:Nat,j≤lk.length∧x=.int .i64 (j:Int)∧(∀ i,i<j→zBY (lk.getD i 0)=true)∧Below wo.heap.size wo wr) (fun x _=>lk.length - (intOf x).toNat)
        case atStart=>exact ⟨0,Nat.zero_le _,rfl,fun i hi=>by omega,Below.refl _ _⟩
        case round =>
         obtain ⟨j,hj,rfl,hv,hb⟩:=hrel
         have HV:=zB hv
         have HBj:=zB hb
         clear hv
         by_cases hjl:j<lk.length
         ·have j0:(0:Int)≤(j:Int):=by omega
          have j1:(j:Int)<(lk.length:Int):=by omega
          obtain ⟨b,off,rfl,c0'⟩:=(zA HIK).below hb j hjl
          obtain ⟨x,hx⟩:∃ x,x=lk.getD j 0:=⟨_,rfl⟩
          have c0:wr.cell? ⟨b,off+j,none⟩=some (.int .i64 x):=by rw [hx];exact c0'
          clear c0'
          have hVL:=zx x
          have HX:=zB hx
          clear hx hb
          cases hxv:zBY x
          ·rw [hxv] at hVL
           have HVL:=zB hVL
           have HR:Hid (R=3):=zB (by
            have e:wcF bs.length lk=3:=by unfold wcF;rw [if_pos (zA HLB),if_neg (fun h=>by have:=h j hjl;rw [←zA HX,hxv] at this;cases this)]
            have hcs:=zA HCS
            rw [e,if_neg (by decide)] at hcs
            rw [zA HWT2,←hcs];rfl)
           have HBE:=zB ((zA HLr).trans ((zA HBj).mono (zA HLr).size))
           clear hVL HV hxv
           go_wp2_with ((go_at_call 97;refine (zA HVL _).mono ?_;rintro e w1 ⟨rfl,hw⟩;obtain rfl:=hw.symm))
           go_ret
           rw [zA HR]
           exact ⟨rfl,zA HBE⟩
          ·rw [hxv] at hVL
           have HVL:=zB hVL
           have HXV:=zB hxv
           clear hVL hxv
           go_wp2_with ((go_at_call 97;refine (zA HVL _).mono ?_;rintro e w1 ⟨rfl,hw⟩;obtain rfl:=hw.symm))
           go_roundw
           case rel=>exact ⟨j+1,by omega,by go_num,fun i hi=>by
            rcases Nat.lt_or_ge i j with h | h
            ·exact zA HV i h
            ·obtain rfl:i=j:=by omega
             rw [←zA HX];exact zA HXV,zA HBj⟩
           case measure=>simp [intOf];omega
         ·obtain rfl:j=lk.length:=by omega
          have HC2:=zB (show zBM bs.length cols (cols.length - (k+1)) (k+1)=zBM bs.length cols cols.length 0 from by
           have e:wcF bs.length lk=0:=by unfold wcF;rw [if_pos (zA HLB),if_pos (zA HV)]
           have hcs:=zA HCS
           rw [e,if_pos rfl] at hcs
           exact hcs)
          have hd:decide ((lk.length:Int)<(lk.length:Int))=false:=decide_eq_false (by omega)
          have HBE:=zB ((zA HBR).trans ((zA HBj).mono (zA HBR).size))
          clear hb
          go_wp2
          go_roundw
          case rel=>exact ⟨k+1,by omega,by go_num,zA HC2,zA HBE⟩
          case measure=>simp [intOf];omega
       ·have hne:((lk.length:Int) == (bs.length:Int))=false:=beq_eq_false_iff_ne.2 (by omega)
        have hne2:((lk.length:Int) != (bs.length:Int))=true:=by simp;omega
        have HR:Hid (R=4):=zB (by
         have e:wcF bs.length lk=4:=by unfold wcF;rw [if_neg hlb]
         have hcs:=zA HCS
         rw [e,if_neg (by decide)] at hcs
         rw [zA HWT2,←hcs];rfl)
        clear hlb
        go_wp2
        go_ret
        rw [zA HR]
        exact ⟨rfl,zA HLr⟩
      ·obtain rfl:k=cols.length:=by omega
       rw [Nat.sub_self] at hcs
       have hcs:zBM bs.length cols cols.length 0=0:=hcs.symm
       have HWT3:Hid (R=if zDm bs=true then (0:Int) else 2):=zB (by rw [zA HWT2,if_pos hcs])
       have dk:decide ((cols.length:Int)<(cols.length:Int))=false:=decide_eq_false (by omega)
       have HLr:=zB hL
       obtain ⟨wo,rfl⟩:∃ wo,wo=wr:=⟨_,rfl⟩
       clear hcs hbr hL HWT2 HX9 HB9 HB0
       go_wp2_with fail
       go_loopw [7] (fun x wr=>∃ j:Nat,1≤j∧(j≤bs.length∨j=1)∧x=.int .i64 (j:Int)∧(∀ i,i<j→1≤i→(bs.getD (i - 1) (0,0)).1<(bs.getD i (0,0)).1)∧Below wo.heap.size wo wr) (fun x _=>bs.length - (intOf x).toNat)
       case atStart=>exact ⟨1,Nat.le_refl _,by omega,rfl,fun i h1 h2=>by omega,Below.refl _ _⟩
       case round =>
        obtain ⟨j,hj1,hj2,rfl,hu,hb⟩:=hrel
        have HU:=zB hu
        have hXw:=(zA HXr).below hb
        have y1:=hXw.cell 0 rfl 1 rfl
        rw [Nat.add_zero] at y1
        have hLw:=(zA HLr).trans (hb.mono (zA HLr).size)
        have HBj:=zB hb
        clear hu hXw
        by_cases hlt:j<bs.length
        ·obtain ⟨k,hk⟩:∃ k,j=k+1:=⟨j - 1,by omega⟩
         have j0:(0:Int)≤(j:Int):=by omega
         have j1:(j:Int)<(bs.length:Int):=by omega
         have k0:(0:Int)≤(k:Int):=by omega
         have k1:(k:Int)<(bs.length:Int):=by omega
         have hw1:IntKind.i64.wrap ((j:Int) - 1)=(k:Int):=by rw [IntWalk.i64_in _ (by omega)];omega
         obtain ⟨b,off,hAe,c0,_⟩:=(zA HBS).below hLw k (by omega)
         obtain ⟨b',off',e',d0,_⟩:=(zA HBS).below hLw j hlt
         rw [hAe] at e'
         simp only [Option.some.injEq,Addr.mk.injEq,and_true] at e'
         obtain ⟨rfl,rfl⟩:=e'
         have s0:=zN c0
         have s1:=zN d0
         have s2:=zN y1
         have hsub:Nonempty (Sub wr):=⟨⟨wr,Below.refl _ _⟩⟩
         have hkj:bs.getD (j - 1) (0,0)=bs.getD k (0,0):=by rw [hk];rfl
         obtain ⟨p,hp⟩:∃ p,p=(bs.getD k (0,0)).1:=⟨_,rfl⟩
         obtain ⟨qq,hq⟩:∃ q,q=(bs.getD j (0,0)).1:=⟨_,rfl⟩
         rw [←hp] at s0
         rw [←hq] at s1
         have HK:Hid ((bs.getD (j - 1) (0,0)).1=p∧(bs.getD j (0,0)).1=qq):=zB ⟨by rw [hkj,hp],hq.symm⟩
         have HLw:=zB hLw
         subst hAe
         clear c0 d0 hb hp hq hkj hk hLw
         by_cases hpq:p<qq
         ·have hd:decide (qq≤p)=false:=decide_eq_false (by omega)
          have HPQ:=zB hpq
          clear hpq
          go_wp2_with fail
          refine zU (by kernel_rfl) (by kernel_rfl) ?_
          repeat (go_big_quiet_step (fail))
          refine wpQuiet_nil ?_
          rintro w9 ⟨xs,hxs⟩
          have hb9:=xs.bel
          rw [←hxs] at hb9
          have HB9:=zB ((zA HLw).trans (hb9.mono (zA HLw).size))
          have HB0:=zB hb9
          clear hxs hb9 xs
          clear hsub s0 s1 s2
          go_wp2
          go_roundw
          case rel=>exact ⟨j+1,by omega,.inl (by omega),by go_num,fun i h1 h2=>by
           rcases Nat.lt_or_ge i j with h | h
           ·exact zA HU i h h2
           ·obtain rfl:i=j:=by omega
            rw [(zA HK).1,(zA HK).2];exact zA HPQ,(zA HBj).trans ((zA HB0).mono (zA HBj).size)⟩
          case measure=>simp [intOf];omega
         ·have hd:decide (qq≤p)=true:=decide_eq_true (by omega)
          have HR:Hid (R=2):=zB (by rw [zA HWT3,if_neg (fun h=>by
           have:=of_decide_eq_true h j hlt hj1
           rw [(zA HK).1,(zA HK).2] at this
           exact hpq this)])
          clear hpq
          go_wp2_with fail
          refine zU (by kernel_rfl) (by kernel_rfl) ?_
          repeat (go_big_quiet_step (fail))
          refine wpQuiet_nil ?_
          rintro w9 ⟨xs,hxs⟩
          have hb9:=xs.bel
          rw [←hxs] at hb9
          have HB9:=zB ((zA HLw).trans (hb9.mono (zA HLw).size))
          have HB0:=zB hb9
          clear hxs hb9 xs
          clear hsub s0 s1 s2
          go_wp2
          go_ret
          rw [zA HR]
          exact ⟨rfl,zA HB9⟩
        ·have HR:Hid (R=0):=zB (by rw [zA HWT3];exact if_pos (decide_eq_true fun i h1 h2=>zA HU i (by omega) h2))
         have hd:decide ((j:Int)<(bs.length:Int))=false:=decide_eq_false (by omega)
         have HLw:=zB hLw
         clear hb hLw
         go_wp2
         go_ret
         rw [zA HR]
         exact ⟨rfl,zA HLw⟩
   ·have HR:Hid (R=4):=zB (by rw [zA HWT,zPA hs (.inr hcl)])
    have hlc:((cols.length:Int) != ((zO has 8).length:Int))=true:=by simp;omega
    clear hs
    go_wp2_with fail
    have h0:Below W1.heap.size W1 W1.drew:=(Below.refl _ _).drew
    refine zd (fun (γ:Option Addr×Nat) ix v=>if ix=10 then v=.slice γ.1 (zO has 8).length γ.2 else (([fun v=>v=.pointer (some ⟨w.heap.size,1,none⟩),fun v=>v=.slice A bs.length c,fun v=>v=.int .i64 (bs.length:Int),fun v=>v=.bool false,fun v=>v=.bool false,fun v=>v=.pointer (some ⟨w.heap.size,2,none⟩),fun v=>v=.slice C cols.length cc,fun v=>v=.int .i64 (cols.length:Int),fun v=>v=.pointer (some ⟨w.heap.size,0,none⟩),fun v=>v=.int .i64 has,fun _=>True,fun v=>v=.int .i64 ((zO has 8).length:Int),fun v=>v=.bool true,fun v=>v=.bool true]:List (Value→Prop)).getD ix (fun _=>True)) v) (fun (_:Option Addr×Nat) (_:Nat→Bool) W=>Below W1.heap.size W1 W) ((none,0)) (by kernel_rfl) (by kernel_rfl) (by kernel_rfl) h0 ?hstep ?hend
    case hstep =>
     intro γ ix o ho L ac w1 hD hL hed hcl hout hv
     match ix,ho with
     | 0,ho =>
      simp at ho
      subst ho
      have e1:ac.tmps.getD 1 undef=.pointer (some ⟨w.heap.size,0,none⟩):=hout 1 (by decide +kernel)
      exact .inl ⟨rfl,zF γ _ (by simp [go_sem,Act.eval,-Array.getD_eq_getD_getElem?,e1]) rfl (hD) (fun _ _ _ _ h=>h)⟩
     | 1,ho =>
      simp at ho
      subst ho
      have e12:ac.tmps.getD 12 undef=_:=hv 0 12 rfl (by kernel_rfl)
      have bb:=(zA HX1).below hD
      have c0:=bb.cell 0 rfl 1 rfl
      rw [Nat.add_zero] at c0
      exact .inl ⟨rfl,zF γ _ (by simp [go_sem,Act.eval,-Array.getD_eq_getD_getElem?,e12,c0]) rfl (hD) (fun _ _ _ _ h=>h)⟩
     | 2,ho =>
      simp at ho
      subst ho
      have e13:ac.tmps.getD 13 undef=_:=hv 1 13 rfl (by kernel_rfl)
      exact .inl ⟨rfl,zF γ _ (by simp [go_sem,Act.eval,-Array.getD_eq_getD_getElem?,e13]) rfl (hD) (fun _ _ _ _ h=>h)⟩
     | 3,ho =>
      simp at ho
      subst ho
      have e14:ac.tmps.getD 14 undef=_:=hv 2 14 rfl (by kernel_rfl)
      exact .inl ⟨rfl,zF γ _ (by simp [go_sem,Act.eval,-Array.getD_eq_getD_getElem?,e14,hz,hz2]) rfl (hD) (fun _ _ _ _ h=>h)⟩
     | 4,ho =>
      simp at ho
      subst ho
      have e15:ac.tmps.getD 15 undef=.bool false:=hv 3 15 rfl (by kernel_rfl)
      exact .inl ⟨rfl,zF γ _ (by simp [go_sem,Act.eval,-Array.getD_eq_getD_getElem?,e15]) rfl (hD) (fun _ _ _ _ h=>h)⟩
     | 5,ho =>
      simp at ho
      subst ho
      have eg:ac.tmps.getD 16 undef=.bool false:=hv 4 16 rfl (by kernel_rfl)
      have e1:ac.tmps.getD 1 undef=.pointer (some ⟨w.heap.size,0,none⟩):=hout 1 (by decide +kernel)
      exact .inl ⟨zX rfl rfl eg,zF γ _ (by simp [go_sem,Act.eval,-Array.getD_eq_getD_getElem?,e1]) rfl (hD) (fun _ _ _ _ h=>h)⟩
     | 6,ho =>
      simp at ho
      subst ho
      have eg:ac.tmps.getD 16 undef=.bool false:=hv 4 16 rfl (by kernel_rfl)
      have e17:ac.tmps.getD 17 undef=_:=hv 5 17 rfl (by kernel_rfl)
      have bb:=(zA HX1).below hD
      have c0:=bb.cell 0 rfl 2 rfl
      rw [Nat.add_zero] at c0
      exact .inl ⟨zX rfl rfl eg,zF γ _ (by simp [go_sem,Act.eval,-Array.getD_eq_getD_getElem?,e17,c0]) rfl (hD) (fun _ _ _ _ h=>h)⟩
     | 7,ho =>
      simp at ho
      subst ho
      have eg:ac.tmps.getD 16 undef=.bool false:=hv 4 16 rfl (by kernel_rfl)
      have e18:ac.tmps.getD 18 undef=_:=hv 6 18 rfl (by kernel_rfl)
      exact .inl ⟨zX rfl rfl eg,zF γ _ (by simp [go_sem,Act.eval,-Array.getD_eq_getD_getElem?,e18]) rfl (hD) (fun _ _ _ _ h=>h)⟩
     | 8,ho =>
      simp at ho
      subst ho
      have eg:ac.tmps.getD 16 undef=.bool false:=hv 4 16 rfl (by kernel_rfl)
      have e1:ac.tmps.getD 1 undef=.pointer (some ⟨w.heap.size,0,none⟩):=hout 1 (by decide +kernel)
      exact .inl ⟨zX rfl rfl eg,zF γ _ (by simp [go_sem,Act.eval,-Array.getD_eq_getD_getElem?,e1]) rfl (hD) (fun _ _ _ _ h=>h)⟩
     | 9,ho =>
      simp at ho
      subst ho
      have eg:ac.tmps.getD 16 undef=.bool false:=hv 4 16 rfl (by kernel_rfl)
      have e20:ac.tmps.getD 20 undef=_:=hv 8 20 rfl (by kernel_rfl)
      have bb:=(zA HX1).below hD
      have c0:=bb.cell 0 rfl 0 rfl
      rw [Nat.add_zero] at c0
      exact .inl ⟨zX rfl rfl eg,zF γ _ (by simp [go_sem,Act.eval,-Array.getD_eq_getD_getElem?,e20,c0]) rfl (hD) (fun _ _ _ _ h=>h)⟩
     | 10,ho =>
      simp at ho
      subst ho
      have eg:ac.tmps.getD 16 undef=.bool false:=hv 4 16 rfl (by kernel_rfl)
      have e21:ac.tmps.getD 21 undef=_:=hv 9 21 rfl (by kernel_rfl)
      refine .inl ⟨zX rfl rfl eg,zAQ 65 #[.int .i64 has] (by simp [go_sem,Act.eval,-Array.getD_eq_getD_getElem?,e21]) ?_⟩
      refine (zA HLI w1).mono ?_
      rintro e w6 ⟨vh,rfl,hh,hb6⟩
      obtain ⟨Ah,ch,rfl⟩:=zAV hh
      exact ⟨_,(Ah,ch),rfl,rfl,hD.trans (hb6.mono hD.size),fun j u hj hLj h=>by simpa [hj] using h⟩
     | 11,ho =>
      simp at ho
      subst ho
      have eg:ac.tmps.getD 16 undef=.bool false:=hv 4 16 rfl (by kernel_rfl)
      have e22:ac.tmps.getD 22 undef=_:=hv 10 22 rfl (by kernel_rfl)
      exact .inl ⟨zX rfl rfl eg,zF γ _ (by simp [go_sem,Act.eval,-Array.getD_eq_getD_getElem?,e22]) rfl (hD) (fun _ _ _ _ h=>h)⟩
     | 12,ho =>
      simp at ho
      subst ho
      have eg:ac.tmps.getD 16 undef=.bool false:=hv 4 16 rfl (by kernel_rfl)
      have e19:ac.tmps.getD 19 undef=_:=hv 7 19 rfl (by kernel_rfl)
      have e23:ac.tmps.getD 23 undef=_:=hv 11 23 rfl (by kernel_rfl)
      exact .inl ⟨zX rfl rfl eg,zF γ _ (by simp [go_sem,Act.eval,-Array.getD_eq_getD_getElem?,e19,e23,hlc,hcl]) rfl (hD) (fun _ _ _ _ h=>h)⟩
     | 13,ho =>
      simp at ho
      subst ho
      have e16:ac.tmps.getD 16 undef=.bool false:=hv 4 16 rfl (by kernel_rfl)
      have e24:ac.tmps.getD 24 undef=.bool true:=hv 12 24 rfl (by kernel_rfl)
      exact .inl ⟨rfl,zF γ _ (by simp [go_sem,Act.eval,-Array.getD_eq_getD_getElem?,e16,e24]) rfl (hD) (fun _ _ _ _ h=>h)⟩
     | ix+14,ho=>simp at ho
    case hend =>
     intro γ v L w9 hD hall hv
     have v13:v 13=.bool true:=hv 13 25 rfl
     have HB9:=zB ((zA HL1).trans (hD.mono (zA HL1).size))
     have HB0:=zB hD
     clear hv hall hD h0
     simp only [zu,List.getElem?_cons_zero,List.getElem?_cons_succ,Option.bind_some,List.length_cons,List.length_nil,Nat.reduceAdd,v13]
     clear v13
     go_frame
     go_wp2
     go_ret
     rw [zA HR]
     exact ⟨rfl,zA HB9⟩
end Go.Proofs.YtnbleebilmghcabGreat
