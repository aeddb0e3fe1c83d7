/- The law's closed fact; two empty houses are alike. -/
import Derived.Test.YtnbleebilmghcacGreatYHo12
set_option linter.all false
set_option maxHeartbeats 2000000
set_option maxRecDepth 8000
namespace Go.Proofs.YtnbleebilmghcacGreat
open Go Go.RowKit
attribute [local go_sem ↓] Go.wp_at_zero Go.wp_at_succ
def nD (d:DoI):DoI:=⟨d.k,d.has,d.p,d.n,d.i,d.g,toP d.s,d.fa,d.fn⟩
theorem doF_nD (mods:List ModI) (h:HI) (d:DoI):doF mods h (nD d)=doF mods h d:=rfl
theorem zBL (mods:List ModI):∀ (l:List DoI) (r:List AnsI×HI),zp mods (l.map nD) r=zp mods l r
 | [],r=>rfl
 | d :: l,r=>by
  show zp mods (l.map nD) (r.1++[(doF mods r.2 (nD d)).1],(doF mods r.2 (nD d)).2)=_
  rw [doF_nD,zBL mods l]
  rfl
def sA (g:Nat):SysI:=⟨0,1,0,some ⟨g,0,none⟩,1,1,fun _=>⟨4,0,0,2⟩⟩
def dA0:DoI:=⟨1,1,0,5,0,0,dS,0,0⟩
def dA1 (g:Nat):DoI:=⟨5,0,0,0,0,0,sA g,0,0⟩
def dA2:DoI:=⟨6,0,0,0,0,0,dS,0,0⟩
def dA3:DoI:=⟨7,0,0,0,0,0,dS,0,0⟩
def mA:List ModI:=[⟨1,1,false⟩]
theorem alive_pure:((zAH mA [dA0,dA1 0,dA2,dA3]).1.map (·.n)=[0,1,1,7])∧(zAH mA [dA0,dA1 0,dA2,dA3]).2.S.length=1:=by decide +kernel
theorem alive_g (g:Nat):((zAH mA [dA0,dA1 g,dA2,dA3]).1.map (·.n)=[0,1,1,7])∧(zAH mA [dA0,dA1 g,dA2,dA3]).2.S.length=1:=by
 have e:zAH mA [dA0,dA1 g,dA2,dA3]=zAH mA [dA0,dA1 0,dA2,dA3]:=by
  unfold zAH
  rw [←zBL mA [dA0,dA1 g,dA2,dA3],←zBL mA [dA0,dA1 0,dA2,dA3]]
  rfl
 rw [e]
 exact alive_pure
theorem zBt (w:World):Calls Tryz.prog 12 #[] w fun e w'=>e=.returned (.bool true)∧Below w.heap.size w w':=by
 obtain ⟨W0,hW0,hbx,hX0⟩:=zw w [([.int .i64 1,.int .i64 1,.bool false],48),([.int .i64 4,.int .i64 0,.int .i64 0,.int .i64 2],71),([.int .i64 1,.int .i64 1,.int .i64 0,.int .i64 5,.int .i64 0,.int .i64 0,.int .i64 0,.int .i64 0,.int .i64 0,.slice none 0 0,.int .i64 0,.int .i64 0,.int .i64 5,.int .i64 0,.int .i64 0,.int .i64 0,.int .i64 0,.int .i64 0,.int .i64 0,.int .i64 1,.int .i64 0,.slice (some ⟨w.heap.size+1,0,none⟩) 1 1,.int .i64 0,.int .i64 0,.int .i64 6,.int .i64 0,.int .i64 0,.int .i64 0,.int .i64 0,.int .i64 0,.int .i64 0,.int .i64 0,.int .i64 0,.slice none 0 0,.int .i64 0,.int .i64 0,.int .i64 7,.int .i64 0,.int .i64 0,.int .i64 0,.int .i64 0,.int .i64 0,.int .i64 0,.int .i64 0,.int .i64 0,.slice none 0 0,.int .i64 0,.int .i64 0],46)]
 have HW0:Hid (((w.alloc (.cells #[.int .i64 1,.int .i64 1,.bool false] 48)).alloc (.cells #[.int .i64 4,.int .i64 0,.int .i64 0,.int .i64 2] 71)).alloc (.cells #[.int .i64 1,.int .i64 1,.int .i64 0,.int .i64 5,.int .i64 0,.int .i64 0,.int .i64 0,.int .i64 0,.int .i64 0,.slice none 0 0,.int .i64 0,.int .i64 0,.int .i64 5,.int .i64 0,.int .i64 0,.int .i64 0,.int .i64 0,.int .i64 0,.int .i64 0,.int .i64 1,.int .i64 0,.slice (some ⟨w.heap.size+1,0,none⟩) 1 1,.int .i64 0,.int .i64 0,.int .i64 6,.int .i64 0,.int .i64 0,.int .i64 0,.int .i64 0,.int .i64 0,.int .i64 0,.int .i64 0,.int .i64 0,.slice none 0 0,.int .i64 0,.int .i64 0,.int .i64 7,.int .i64 0,.int .i64 0,.int .i64 0,.int .i64 0,.int .i64 0,.int .i64 0,.int .i64 0,.int .i64 0,.slice none 0 0,.int .i64 0,.int .i64 0] 46)=W0):=zB hW0
 clear hW0
 have hM:GAt zi 3 W0 (some ⟨w.heap.size,0,none⟩) mA:=fun j x hx=>by
  match j,hx with
  | 0,hx =>
   injection hx with hx
   subst hx
   refine ⟨w.heap.size,0,rfl,fun i u hu=>?_⟩
   have:=hX0.cell 0 rfl i hu
   simpa using this
  | j+1,hx=>simp [mA] at hx
 have hD:DosAt W0 (some ⟨w.heap.size+2,0,none⟩) [dA0,dA1 (w.heap.size+1),dA2,dA3]:=by
  have c:=fun i u hu=>hX0.cell 2 rfl i (u:=u) hu
  refine ⟨fun j x hx=>⟨w.heap.size+2,0,rfl,?_⟩,fun d hd=>?_⟩
  ·match j,hx with
   | 0,hx=>injection hx with hx;subst hx;intro i u hu;have hi:i<12:=(List.getElem?_eq_some_iff.1 hu).1;refine c (0+0*12+i) u ?_;rcases (by omega:i=0∨i=1∨i=2∨i=3∨i=4∨i=5∨i=6∨i=7∨i=8∨i=9∨i=10∨i=11) with rfl | rfl | rfl | rfl | rfl | rfl | rfl | rfl | rfl | rfl | rfl | rfl <;> exact hu
   | 1,hx=>injection hx with hx;subst hx;intro i u hu;have hi:i<12:=(List.getElem?_eq_some_iff.1 hu).1;refine c (0+1*12+i) u ?_;rcases (by omega:i=0∨i=1∨i=2∨i=3∨i=4∨i=5∨i=6∨i=7∨i=8∨i=9∨i=10∨i=11) with rfl | rfl | rfl | rfl | rfl | rfl | rfl | rfl | rfl | rfl | rfl | rfl <;> exact hu
   | 2,hx=>injection hx with hx;subst hx;intro i u hu;have hi:i<12:=(List.getElem?_eq_some_iff.1 hu).1;refine c (0+2*12+i) u ?_;rcases (by omega:i=0∨i=1∨i=2∨i=3∨i=4∨i=5∨i=6∨i=7∨i=8∨i=9∨i=10∨i=11) with rfl | rfl | rfl | rfl | rfl | rfl | rfl | rfl | rfl | rfl | rfl | rfl <;> exact hu
   | 3,hx=>injection hx with hx;subst hx;intro i u hu;have hi:i<12:=(List.getElem?_eq_some_iff.1 hu).1;refine c (0+3*12+i) u ?_;rcases (by omega:i=0∨i=1∨i=2∨i=3∨i=4∨i=5∨i=6∨i=7∨i=8∨i=9∨i=10∨i=11) with rfl | rfl | rfl | rfl | rfl | rfl | rfl | rfl | rfl | rfl | rfl | rfl <;> exact hu
   | j+4,hx=>simp at hx
  ·have hn:∀ W,ActsAt W dS.A dS.len dS.a:=fun W j hj=>by simp [dS] at hj
   simp only [List.mem_cons,List.not_mem_nil,or_false] at hd
   rcases hd with rfl | rfl | rfl | rfl
   ·exact hn _
   ·intro j hj
    have hj:j<1:=hj
    obtain rfl:j=0:=by omega
    exact ⟨w.heap.size+1,0,rfl,hX0.cell 1 rfl 0 rfl,hX0.cell 1 rfl 1 rfl,hX0.cell 1 rfl 2 rfl,hX0.cell 1 rfl 3 rfl⟩
   ·exact hn _
   ·exact hn _
 have hPL:=zBU (some ⟨w.heap.size,0,none⟩) 1 mA (some ⟨w.heap.size+2,0,none⟩) 4 _ W0 hM hD (by decide +kernel) (by simp)
 obtain ⟨ha1,ha2⟩:=alive_g (w.heap.size+1)
 generalize zAH mA [dA0,dA1 (w.heap.size+1),dA2,dA3]=pf at *
 have HPL:=zB hPL
 have HA1:=zB ha1
 have HA2:=zB ha2
 have HL0:=zB hbx
 clear hPL ha1 ha2 hM hD hX0 hbx
 go_enter Tryz.func12,Tryz.ntmps12
 go_wp2_with fail
 go_at_call 13
 rw [zA HW0]
 refine (zA HPL).mono ?_
 rintro e w1 ⟨T,tc,G,gc,M',mc',SA,sc,CA,cc,ss,la,rfl,_,_,_,hss,hAN,hla,hb1⟩
 have hl4:la.length=4:=by
  have:=congrArg List.length (zA HA1)
  rw [←hla] at this
  simpa using this
 have hs1:ss.length=1:=by
  have:=zA HA2
  rw [←hss,List.length_map] at this
  exact this
 rw [hl4,hs1]
 have hn:∀ j (hj:j<la.length),some (la[j].1.n)=([0,1,1,7]:List Int)[j]?:=fun j hj=>by
  have:=congrArg (fun l=>l[j]?) (zA HA1)
  simp only [←hla,List.map_map,List.getElem?_map,List.getElem?_eq_getElem hj] at this
  exact this
 have n3:la[3].1.n=7:=by have:=hn 3 (by omega);simpa using this
 have n2:la[2].1.n=1:=by have:=hn 2 (by omega);simpa using this
 obtain ⟨b,off,hCA,hc3⟩:=hAN.at_ 3 la[3] (List.getElem?_eq_getElem (by omega))
 obtain ⟨b',off',hCA',hc2⟩:=hAN.at_ 2 la[2] (List.getElem?_eq_getElem (by omega))
 rw [hCA] at hCA'
 simp only [Option.some.injEq,Addr.mk.injEq,and_true] at hCA'
 obtain ⟨rfl,rfl⟩:=hCA'
 have y3:=hc3 4 _ rfl
 have y2:=hc2 4 _ rfl
 rw [n3] at y3
 rw [n2] at y2
 subst hCA
 obtain ⟨W2,hW2,hbx,hX2⟩:=zw w1 [([.slice T (zL pf.2.X).length tc,.slice G pf.2.X.gens.length gc,.slice M' mA.length mc',.slice SA 1 sc],31),([.int .i64 0,.int .i64 0],35)]
 have HW2:Hid ((w1.alloc (.cells #[.slice T (zL pf.2.X).length tc,.slice G pf.2.X.gens.length gc,.slice M' mA.length mc',.slice SA 1 sc] 31)).alloc (.cells #[.int .i64 0,.int .i64 0] 35)=W2):=zB hW2
 clear hW2
 have HL2:=zB ((zA HL0).trans ((hb1.trans (hbx.mono hb1.size)).mono (zA HL0).size))
 have y3:=zC hbx y3
 have y2:=zC hbx y2
 have q0:=hX2.cell 1 rfl 0 rfl
 have q1:=hX2.cell 0 rfl 3 rfl
 rw [Nat.add_zero] at q1
 clear hAN hla hss hn hc3 hc2 n3 n2 hl4 hs1 hX2 hbx hb1 HPL HA1 HA2
 go_upto_region 2 with fail
 rw [zA HW2]
 go_wp2
 go_ret
 exact ⟨rfl,zA HL2⟩
end Go.Proofs.YtnbleebilmghcacGreat
