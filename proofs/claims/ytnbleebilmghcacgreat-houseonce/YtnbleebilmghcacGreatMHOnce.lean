/- The law HouseOnce. -/
import Derived.Test.YtnbleebilmghcacGreatMHoOpen
import Derived.Test.YtnbleebilmghcacGreatMOnMap
set_option linter.all false
set_option maxHeartbeats 2000000
set_option maxRecDepth 8000
namespace Go.Proofs.YtnbleebilmghcacGreat
open Go Go.RowKit
attribute [local go_sem ↓] Go.wp_at_zero Go.wp_at_succ
theorem do_wf {mods:List ModI} {h:HI} {d:DoI} (hk:d.k=1) (he:(doF mods h d).1.e=0):Wfb ((doF mods h d).1.i,(doF mods h d).1.g):=by
 unfold doF at he ⊢
 rw [if_pos hk] at he ⊢
 exact spawn_wf he
theorem honce_wrong (M:Option Addr) (mc:Nat) (mods:List ModI) (LD:Option Addr) (lc:Nat) (l:List DoI) (w:World) (hM:GAt zj 3 w M mods) (hw:(wmF mods).1≠0) :
  Calls Tryz.prog 6 #[.slice M mods.length mc,.slice LD l.length lc] w fun e w'=>e=.returned (.bool true)∧Below w.heap.size w w':=by
 have hPL:=fun W (hb:Below w.heap.size w W)=>play_wrong M mc mods LD lc l W (hM.below hb) hw
 obtain ⟨f0,hf0⟩:∃ f0,f0=(wmF mods).1:=⟨_,rfl⟩
 generalize (wmF mods).2=f1 at *
 rw [←hf0] at hPL hw
 have hne:(f0 == 0)=false:=by simpa using hw
 clear hw hf0
 have HPL:=zB hPL
 clear hPL hM
 go_enter Tryz.func6,Tryz.ntmps6
 go_wp2_with fail
 go_at_call 12
 refine (zBo w).mono ?_
 rintro e w0 ⟨rfl,hb0⟩
 have HL0:=zB hb0
 clear hb0
 go_wp2_with fail
 go_at_call 13
 refine (zA HPL w0 (zA HL0)).mono ?_
 rintro e w1 ⟨rfl,hb1⟩
 obtain ⟨W2,hW2,hbx,hX2⟩:=zx w1 [([.slice none 0 0,.slice none 0 0,.slice none 0 0,.slice none 0 0],31),([.int .i64 f0,.int .i64 f1],35)]
 have HW2:Hid ((w1.alloc (.cells #[.slice none 0 0,.slice none 0 0,.slice none 0 0,.slice none 0 0] 31)).alloc (.cells #[.int .i64 f0,.int .i64 f1] 35)=W2):=zB hW2
 clear hW2
 have HL2:=zB ((zA HL0).trans ((hb1.trans (hbx.mono hb1.size)).mono (zA HL0).size))
 have q0:=hX2.cell 1 rfl 0 rfl
 clear hb1 hbx hX2 HPL
 go_upto_region 4 with fail
 rw [zA HW2]
 go_wp2
 go_ret
 exact ⟨rfl,zA HL2⟩
theorem honce_many (M:Option Addr) (mc:Nat) (mods:List ModI) (LD:Option Addr) (lc:Nat) (l:List DoI) (w:World) (hM:GAt zj 3 w M mods) (hw:wmF mods=(0,0)) (hl:80<l.length) :
  Calls Tryz.prog 6 #[.slice M mods.length mc,.slice LD l.length lc] w fun e w'=>e=.returned (.bool true)∧Below w.heap.size w w':=by
 have hPL:=fun W (hb:Below w.heap.size w W)=>play_many M mc mods LD lc l W (hM.below hb) hw hl
 clear hw hl
 have HPL:=zB hPL
 clear hPL hM
 go_enter Tryz.func6,Tryz.ntmps6
 go_wp2_with fail
 go_at_call 12
 refine (zBo w).mono ?_
 rintro e w0 ⟨rfl,hb0⟩
 have HL0:=zB hb0
 clear hb0
 go_wp2_with fail
 go_at_call 13
 refine (zA HPL w0 (zA HL0)).mono ?_
 rintro e w1 ⟨rfl,hb1⟩
 obtain ⟨W2,hW2,hbx,hX2⟩:=zx w1 [([.slice none 0 0,.slice none 0 0,.slice none 0 0,.slice none 0 0],31),([.int .i64 4,.int .i64 0],35)]
 have HW2:Hid ((w1.alloc (.cells #[.slice none 0 0,.slice none 0 0,.slice none 0 0,.slice none 0 0] 31)).alloc (.cells #[.int .i64 4,.int .i64 0] 35)=W2):=zB hW2
 clear hW2
 have HL2:=zB ((zA HL0).trans ((hb1.trans (hbx.mono hb1.size)).mono (zA HL0).size))
 have q0:=hX2.cell 1 rfl 0 rfl
 clear hb1 hbx hX2 HPL
 go_upto_region 4 with fail
 rw [zA HW2]
 go_wp2
 go_ret
 exact ⟨rfl,zA HL2⟩
theorem honce_ok (M:Option Addr) (mc:Nat) (mods:List ModI) (LD:Option Addr) (lc:Nat) (l:List DoI) (w:World) (hM:GAt zj 3 w M mods) (hL:DosAt w LD l) (hw:wmF mods=(0,0)) (hl:l.length≤80) :
  Calls Tryz.prog 6 #[.slice M mods.length mc,.slice LD l.length lc] w fun e w'=>e=.returned (.bool true)∧Below w.heap.size w w':=by
 have hPL:=fun W (hb:Below w.heap.size w W)=>zCQ M mc mods LD lc l W (hM.below hb) (hL.below hb) hw hl
 have hget:=play_get mods l
 have hcn:=came_new mods l
 have hcs:∀ k (hk:k<l.length),zCW mods l (k+1)=if l[k].k=1∧(doF mods (hAt mods l k) l[k]).1.e=0 then zCW mods l k++[((doF mods (hAt mods l k) l[k]).1.i,(doF mods (hAt mods l k) l[k]).1.g)] else zCW mods l k:=fun k hk=>by rw [zCW,dif_pos hk]
 have hwf:∀ k (hk:k<l.length),l[k].k=1→(doF mods (hAt mods l k) l[k]).1.e=0→Wfb ((doF mods (hAt mods l k) l[k]).1.i,(doF mods (hAt mods l k) l[k]).1.g):=fun k hk h1 he=>do_wf h1 he
 have hget:∀ k (hk:k<l.length),(zAa mods l).1[k]?=some (doF mods (hAt mods l k) l[k]).1:=hget
 have hplen:=zCR mods l ([],h0)
 change (zAa mods l).1.length=_ at hplen
 simp only [List.length_nil,Nat.zero_add] at hplen
 generalize zAa mods l=pf at *
 obtain ⟨pa,h⟩:=pf
 obtain ⟨X,S⟩:=h
 dsimp only at hPL hget hplen
 have HPL:=zB hPL
 have HDL:=zB hL
 have HGET:=zB hget
 have HCN:=zB hcn
 have HCS:=zB hcs
 have HWF:=zB hwf
 have HPA:=zB hplen
 clear hPL hM hL hw hget hplen hcn hcs hwf
 have hmm:=@run_makeMap Tryz.prog
 have HMM:=zB hmm
 clear hmm
 go_enter Tryz.func6,Tryz.ntmps6
 go_wp2_with fail
 go_at_call 12
 refine (zBo w).mono ?_
 rintro e w0 ⟨rfl,hb0⟩
 have HL0:=zB hb0
 clear hb0
 go_wp2_with fail
 go_at_call 13
 refine (zA HPL w0 (zA HL0)).mono ?_
 rintro e w1 ⟨T1,tc1,G1,gc1,M1,mc1,SA1,sc1,CA1,cc1,ss1,la1,rfl,_,_,_,_,hAN1,hla1,hb1⟩
 obtain ⟨W2,hW2,hbx,hX2⟩:=zx w1 [([.slice T1 (zL X).length tc1,.slice G1 X.gens.length gc1,.slice M1 mods.length mc1,.slice SA1 ss1.length sc1],31),([.int .i64 0,.int .i64 0],35)]
 have HW2:Hid ((w1.alloc (.cells #[.slice T1 (zL X).length tc1,.slice G1 X.gens.length gc1,.slice M1 mods.length mc1,.slice SA1 ss1.length sc1] 31)).alloc (.cells #[.int .i64 0,.int .i64 0] 35)=W2):=zB hW2
 clear hW2
 have HL2:=zB ((zA HL0).trans ((hb1.trans (hbx.mono hb1.size)).mono (zA HL0).size))
 have HAN2:=zB (hAN1.below hbx)
 have hll:la1.length=l.length:=by
  have:=congrArg List.length hla1
  rw [List.length_map,zA HPA] at this
  exact this
 have HLE:Hid (∀ k (hk:k<l.length),∃ x,la1[k]?=some x∧x.1=(doF mods (hAt mods l k) l[k]).1):=zB (fun k hk=>by
  have h1:k<la1.length:=by omega
  refine ⟨la1[k],List.getElem?_eq_getElem h1,?_⟩
  have:=zA HGET k hk
  rw [←hla1,List.getElem?_map,List.getElem?_eq_getElem h1] at this
  exact Option.some.inj this)
 have q0:=hX2.cell 1 rfl 0 rfl
 rw [hll]
 clear hb1 hbx hX2 hAN1 hla1 HPL hll
 go_upto_region 4 with fail
 rw [zA HW2]
 have hmm:=zA HMM
 go_wp2_with fail
 clear q0 hmm
 have hb3:=zAo W2 (.map #[] 0)
 have HO3:Hid ((W2.alloc (.map #[] 0)).ownsMap Tryz.prog 39 (plainElem (H:=Unit) Tryz.prog 4) W2.heap.size 0 (.map [])):=zB (World.ownsMap_made _ _ _ _)
 obtain ⟨W3,hW3⟩:∃ W3,W3=W2.alloc (.map #[] 0):=⟨_,rfl⟩
 rw [←hW3] at hb3 HO3
 have HB3:=zB hb3
 rw [←hW3]
 have hz3:W2.heap.size≤W3.heap.size:=hb3.size
 clear hb3 hW3
 go_loopw [26] (fun x wr=>∃ (k:Nat) (D:DataW Unit),k≤l.length∧x=.int .i64 (k:Int)∧wr.ownsMap Tryz.prog 39 (plainElem Tryz.prog 4) W2.heap.size k D∧KB D (zCW mods l k)∧Below W2.heap.size W2 wr) (fun x _=>l.length - (intOf x).toNat)
 case atStart=>exact ⟨0,_,Nat.zero_le _,rfl,zA HO3,KB.start,zA HB3⟩
 case round =>
  obtain ⟨k,D,hk,rfl,ho,hkb,hbr⟩:=hrel
  by_cases hlt:k<l.length
  ·have k0:(0:Int)≤(k:Int):=by omega
   have k1:(k:Int)<(l.length:Int):=by omega
   obtain ⟨x,hx,hxe⟩:=zA HLE k hlt
   have hcs:=zA HCS k hlt
   have hcn:=zA HCN k hlt
   have hwf:=zA HWF k hlt
   have hdk:l[k]?=some l[k]:=List.getElem?_eq_getElem hlt
   have hLr:=(zA HL2).trans (hbr.mono (zA HL2).size)
   obtain ⟨b,off,hLe,hdc⟩:=((zA HDL).below hLr).at_ k _ hdk
   obtain ⟨ba,oa,hCe,hac⟩:=((zA HAN2).below hbr).at_ k _ hx
   rw [←hxe] at hcs hcn hwf
   have x0:=hac 0 _ rfl
   have x1:=hac 1 _ rfl
   have x2:=hac 2 _ rfl
   rw [Nat.add_zero] at x0
   generalize x.1.e=er at *
   generalize x.1.i=bi at *
   generalize x.1.g=bg at *
   generalize l[k]=d at *
   obtain ⟨c2,hc2⟩:∃ c2,c2=zCW mods l (k+1):=⟨_,rfl⟩
   rw [←hc2] at hcs
   have HC2:=zB hc2
   clear hc2
   generalize zCW mods l k=cm at *
   obtain ⟨wk,rfl⟩:∃ wk,wk=wr:=⟨_,rfl⟩
   have c0:=hdc 0 _ rfl
   have c1:=hdc 1 _ rfl
   have c2:=hdc 2 _ rfl
   have c3:=hdc 3 _ rfl
   have c4:=hdc 4 _ rfl
   have c5:=hdc 5 _ rfl
   have c6:=hdc 6 _ rfl
   have c7:=hdc 7 _ rfl
   have c8:=hdc 8 _ rfl
   have c9:=hdc 9 _ rfl
   have c10:=hdc 10 _ rfl
   have c11:=hdc 11 _ rfl
   rw [Nat.add_zero] at c0
   obtain ⟨W4,hW4,hbx,hX4⟩:=zx wk [([.int .i64 d.k,.int .i64 d.has,.int .i64 d.p,.int .i64 d.n,.int .i64 d.i,.int .i64 d.g,.int .i64 d.s.m,.int .i64 d.s.al,.int .i64 d.s.no,.slice d.s.A d.s.len d.s.cap,.int .i64 d.fa,.int .i64 d.fn],46)]
   have HW4:Hid (wk.alloc (.cells #[.int .i64 d.k,.int .i64 d.has,.int .i64 d.p,.int .i64 d.n,.int .i64 d.i,.int .i64 d.g,.int .i64 d.s.m,.int .i64 d.s.al,.int .i64 d.s.no,.slice d.s.A d.s.len d.s.cap,.int .i64 d.fa,.int .i64 d.fn] 46)=W4):=zB hW4
   clear hW4
   have ho4:W4.ownsMap Tryz.prog 39 (plainElem (H:=Unit) Tryz.prog 4) W2.heap.size k D:=by
    have:=ho.kept (w':=W4) (row:=none) (grown_of_below hbx) (by simp)
    exact this
   have HO4:=zB ho4
   have HB4:=zB (hbr.trans (hbx.mono hbr.size))
   have x0:=zD hbx x0
   have x1:=zD hbx x1
   have x2:=zD hbx x2
   have z0:=hX4.cell 0 rfl 0 rfl
   rw [Nat.add_zero] at z0
   have HCS2:=zB hcs
   have HCN2:=zB hcn
   have HWF2:=zB hwf
   have HKB:=zB hkb
   subst hLe
   subst hCe
   clear ho hbr hLr hdc hdk hac hx hxe hcs hcn hwf hkb hbx hX4 ho4
   go_upto_region 10 with fail
   rw [zA HW4]
   clear c0 c1 c2 c3 c4 c5 c6 c7 c8 c9 c10 c11
   by_cases h1:d.k=1
   ·by_cases he:er=0
    ·have hb:=zA HWF2 h1 he
     have hnew:=zA HCN2 h1 he
     have hc:=zA HCS2
     rw [if_pos ⟨h1,he⟩] at hc
     have hlook:=KB.look (zA HO4) (zA HKB) hb
     rw [show decide ((bi,bg)∈cm)=false from decide_eq_false hnew] at hlook
     have HKEY:=zB (key39 hb.1 hb.2)
     have HKP:=zB ((zA HKB).put hb)
     have HCC:=zB hc
     rw [h1] at z0
     subst he
     clear hb hnew hc h1 HWF2 HCN2 HCS2
     go_wp2_with (first
      | (at_mapUpdate;refine wpList_mapUpdate_own _ rfl _ _ _ 67 rfl 39 4 law39 Tryz.underlying67 _ W2.heap.size k D rfl (zA HO4) (by unfold maxLen;omega) _ _ (kb (bi,bg)) rfl rfl (zA HKEY) _ [] (plainElem_bool Tryz.underlying4 true) ?_;intro w5 ho5 hg5;have HO5:=zB ho5;have HB5:=zB ((zA HB4).grown hg5 (zA HB4).size (fun j hj=>by cases hj;exact Nat.le_refl _));clear ho5 hg5))
     go_roundw
     case rel=>exact ⟨k+1,_,by omega,by go_num,zA HO5,by rw [←zA HC2,zA HCC];exact zA HKP,zA HB5⟩
     case measure=>simp [intOf];omega
    ·have hne:(er == 0)=false:=by simpa using he
     have hne2:(er != 0)=true:=by simpa using he
     have hc:=zA HCS2
     rw [if_neg (fun e=>he e.2)] at hc
     have HCC:=zB hc
     rw [h1] at z0
     clear hc h1 he HWF2 HCN2 HCS2
     go_wp2
     go_roundw
     case rel=>exact ⟨k+1,D,by omega,by go_num,(zA HO4).mono (Nat.le_succ _),by rw [←zA HC2,zA HCC];exact zA HKB,zA HB4⟩
     case measure=>simp [intOf];omega
   ·have hne:(d.k == 1)=false:=by simpa using h1
    have hne2:(d.k != 1)=true:=by simpa using h1
    have hc:=zA HCS2
    rw [if_neg (fun e=>h1 e.1)] at hc
    have HCC:=zB hc
    clear hc h1 HWF2 HCN2 HCS2
    go_wp2
    go_roundw
    case rel=>exact ⟨k+1,D,by omega,by go_num,(zA HO4).mono (Nat.le_succ _),by rw [←zA HC2,zA HCC];exact zA HKB,zA HB4⟩
    case measure=>simp [intOf];omega
  ·obtain rfl:k=l.length:=by omega
   have HLE:=zB ((zA HL2).trans (hbr.mono (zA HL2).size))
   clear ho hkb hbr
   go_wp2
   go_ret
   exact ⟨rfl,zA HLE⟩
theorem honce_law (M:Option Addr) (mods:List ModI) (mc:Nat) (LD:Option Addr) (l:List DoI) (lc:Nat) (w:World) (hM:GAt zj 3 w M mods) (hL:DosAt w LD l) :
  Calls Tryz.prog 6 #[.slice M mods.length mc,.slice LD l.length lc] w fun e w'=>e=.returned (.bool true)∧Below w.heap.size w w':=by
 by_cases h:(wmF mods).1=0
 ·by_cases hl:l.length≤80
  ·exact honce_ok M mc mods LD lc l w hM hL (wm_zero h) hl
  ·exact honce_many M mc mods LD lc l w hM (wm_zero h) (by omega)
 ·exact honce_wrong M mc mods LD lc l w hM h
end Go.Proofs.YtnbleebilmghcacGreat
