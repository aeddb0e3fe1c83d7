/- Bat6, Bat7, Bat8 -/
import Derived.Shelf.Spec.SlicesGrow
import Derived.Test.YtnbleebilmghcacGreatKS
set_option linter.all false
set_option maxHeartbeats 2000000
set_option maxRecDepth 8000
namespace Go.Proofs.YtnbleebilmghcacGreat
open Go.Shelf
def growI_ren : Go.Shelf.Ren := ⟨fun | 4 => 123 | n => n, fun | 22 => 26 | 25 => 3 | 3 => 3 | 4 => 4 | 9 => 9 | 20 => 20 | 0 => 0 | n => n, fun | n => n⟩
theorem growI : Go.Proofs.Lays8.n4 Tryz.prog growI_ren := {
  mixed := by kernel_rfl
  f4 := ⟨Tryz.f123.name, by decide, Tryz.func123.trans (congrArg some (by kernel_rfl))⟩
  t0 := Tryz.underlying0
  a0 := Tryz.isAgg0
  z0 := Tryz.sizeOf0
  v0 := Tryz.zeroValue0
  t3 := Tryz.underlying3
  a3 := Tryz.isAgg3
  z3 := Tryz.sizeOf3
  v3 := Tryz.zeroValue3
  t4 := Tryz.underlying4
  a4 := Tryz.isAgg4
  z4 := Tryz.sizeOf4
  v4 := Tryz.zeroValue4
  t9 := Tryz.underlying9
  a9 := Tryz.isAgg9
  z9 := Tryz.sizeOf9
  v9 := Tryz.zeroValue9
  t20 := Tryz.underlying20
  a20 := Tryz.isAgg20
  z20 := Tryz.sizeOf20
  v20 := Tryz.zeroValue20
  t22 := Tryz.underlying26
  a22 := Tryz.isAgg26
  z22 := Tryz.sizeOf26
  v22 := Tryz.zeroValue26 }
open Go Go.RowKit
attribute [local go_sem ↓] Go.wp_at_zero Go.wp_at_succ
theorem grow_zero (w:World):Calls Tryz.prog 123 #[.slice none 0 0,.int .i64 0] w fun e w'=>e=.returned (.slice none 0 0)∧w'=w :=
 Any8.slices_Grow_room growI none 0 0 0 w (Nat.le_refl _) (by decide) (by decide) (by decide)
theorem grow_some (n:Nat) (w:World) (h0:0<n) (h:n≤100000):Calls Tryz.prog 123 #[.slice none 0 0,.int .i64 (n:Int)] w fun e w'=>∃ cap,e=.returned (.slice (some ⟨w.heap.size,0,none⟩) 0 cap)∧w'.ownsRow w.heap.size 3 1 (.slice (some ⟨w.heap.size,0,none⟩) 0 cap) 0 []∧Below w.heap.size w w':=by
 obtain ⟨i3,hi3,hz3,hs3,hb3⟩:=info_parts info3
 have h1:=Any8.slices_Grow_grow growI i3 (.int .i64 0) hi3 hz3 (by rw [hs3];decide) none 0 0 n [] w (Nat.le_refl _) (by omega) (by rw [hb3];omega) (by omega) (by rw [hs3];rfl) (fun _=>rfl) (fun a h=>by cases h)
 refine Calls.mono h1 ?_
 rintro e w' ⟨rfl,rfl⟩
 refine ⟨_,rfl,?_,((Below.refl _ _).drew).alloc (Nat.le_refl _) _⟩
 have hcm:=grownCap_le_maxLen w (0+n) 0 3 (by unfold maxLen;omega)
 refine World.ownsRow_made w.drew _ _ (Nat.le_refl _) hcm ?_
 have hge:=grownCap_ge w (0+n) 0 3
 have ht:growI_ren.t 25=3:=rfl
 rw [ht]
 simp only [Array.size_append,size_zeroCells,List.size_toArray,List.length_nil]
 simp only [show (Value.int IntKind.i64 0).cells.size=1 from rfl]
 omega
theorem grow_any (n:Nat) (w:World) (h:n≤100000):Calls Tryz.prog 123 #[.slice none 0 0,.int .i64 (n:Int)] w fun e w'=>∃ A cap,e=.returned (.slice A 0 cap)∧w'.ownsRow w.heap.size 3 1 (.slice A 0 cap) 0 []∧Below w.heap.size w w':=by
 cases n with
 | zero =>
  refine Calls.mono (grow_zero w) ?_
  rintro e w' ⟨rfl,rfl⟩
  exact ⟨none,0,rfl,World.ownsRow_nil _ _ _ _,Below.refl _ _⟩
 | succ n =>
  refine Calls.mono (grow_some (n+1) w (by omega) h) ?_
  rintro e w' ⟨cap,rfl,h1,h2⟩
  exact ⟨_,cap,rfl,h1,h2⟩
def zBl (bs:List (List Nat)) (k:Nat):List Nat:=(bs.take k).flatten
theorem flatTo_succ (bs:List (List Nat)) (k:Nat) (h:k<bs.length):zBl bs (k+1)=zBl bs k++bs.getD k []:=by
 unfold zBl
 rw [List.take_succ_eq_append_getElem h,List.flatten_append,List.getD_eq_getElem?_getD,List.getElem?_eq_getElem h];simp
theorem flatTo_len (bs:List (List Nat)) (m:Nat) (h:∀ k,k<bs.length→(bs.getD k []).length≤m):∀ k,k≤bs.length→(zBl bs k).length≤k*m
 | 0,_=>by simp [zBl]
 | k+1,hk=>by
  have:=flatTo_len bs m h k (by omega)
  have:=h k (by omega)
  rw [flatTo_succ bs k (by omega),List.length_append,Nat.succ_mul];omega
theorem flatTo_all (bs:List (List Nat)):zBl bs bs.length=bs.flatten:=by unfold zBl;rw [List.take_length]
theorem intsOf_app (a b:List Nat):zBF (a++b)=zBF a++zBF b:=by unfold zBF;simp
theorem intsOf_one (l:List Nat):∀ u∈zBF l,u.oneCell'=true:=fun u hu=>by
 unfold zBF at hu
 obtain ⟨x,_,rfl⟩:=List.mem_map.1 hu
 rfl
theorem nums_cells {w:World} {b off:Nat} {l:List Nat} (h:NumsAt w (some ⟨b,off,none⟩) l):∀ j u,(zBF l)[j]?=some u→w.cell? ((⟨b,off,none⟩:Addr).add j)=some u:=by
 intro j u hj
 unfold zBF at hj
 rw [List.getElem?_map] at hj
 have hl:j<l.length:=by
  by_cases h1:j<l.length
  ·exact h1
  ·rw [List.getElem?_eq_none (by omega)] at hj;cases hj
 obtain ⟨b',off',e,hc⟩:=h j hl
 simp only [Option.some.injEq,Addr.mk.injEq,and_true] at e
 obtain ⟨rfl,rfl⟩:=e
 rw [List.getElem?_eq_getElem hl] at hj
 simp only [Option.map_some,Option.some.injEq] at hj
 rw [List.getD_eq_getElem?_getD,List.getElem?_eq_getElem hl] at hc
 have hadd:(⟨b,off,none⟩:Addr).add j=⟨b,off+j,none⟩:=by unfold Addr.add;split <;> simp_all
 rw [hadd,hc,←hj]
 rfl
theorem concat_any (B:Option Addr) (bs:List (List Nat)) (cap:Nat) (w:World) (hl:bs.length≤100) (hl2:∀ k,k<bs.length→(bs.getD k []).length≤100) (hne:∀ k,k<bs.length→0<(bs.getD k []).length) (hB:BatsAt w B bs) :
  Calls Tryz.prog 102 #[.slice B bs.length cap] w fun e w'=>∃ A cap',e=.returned (.slice A bs.flatten.length cap')∧NumsAt w' A bs.flatten∧Below w.heap.size w w':=by
 have hfl:=flatTo_len bs 100 hl2
 obtain ⟨i3,hi3,hz3,hs3,hb3⟩:=info_parts info3
 have HI3:=zB hi3
 have HZ3:=zB hz3
 have HS3:=zB hs3
 have HB3:=zB hb3
 clear hi3 hz3 hs3 hb3
 have HB:=zB hB
 have HFL:=zB hfl
 have HL2:=zB hl2
 have HNE:=zB hne
 clear hB hfl hl2 hne
 go_enter Tryz.func102,Tryz.ntmps102
 go_wp2
 go_loop [3,11] (fun t i=>∃ k:Nat,k≤bs.length∧i=.int .i64 k∧t=.int .i64 ((zBl bs k).length:Nat)) (fun _ i=>bs.length - (intOf i).toNat)
 case atStart=>exact ⟨0,Nat.zero_le _,rfl,rfl⟩
 case round =>
  obtain ⟨k,hk,rfl,rfl⟩:=hrel
  have hfk:=zA HFL k hk
  have hk100:k*100≤10000:=by omega
  by_cases hlt:k<bs.length
  ·have k0:(0:Int)≤(k:Int):=by omega
   have k1:(k:Int)<(bs.length:Int):=by omega
   obtain ⟨b,off,A,c,rfl,hc,hn⟩:=zA HB k hlt
   have h100:=zA HL2 k hlt
   have HS:Hid ((zBl bs (k+1)).length=(zBl bs k).length+(bs.getD k []).length):=by rw [flatTo_succ bs k hlt,List.length_append];exact zB rfl
   clear hn HB HFL HL2 HNE
   generalize (bs.getD k []).length=m at *
   generalize (zBl bs k).length=t at *
   have ht0:¬ ((t:Int)+(m:Int)<0):=by omega
   go_wp2
   go_round
   case rel=>exact ⟨k+1,by omega,by go_num,by rw [zA HS];go_num⟩
   case measure=>simp [intOf];omega
  ·obtain rfl:k=bs.length:=by omega
   have HC1:=zB (grow_any (zBl bs bs.length).length w (by omega))
   have HFA:=zB (flatTo_all bs)
   generalize (zBl bs bs.length).length=t at *
   go_wp2_with (first
    | (go_at_call 123;refine (zA HC1).mono ?_;rintro e w5 ⟨A5,cap5,rfl,ho5,hb5⟩;have HO5:=zB ho5;have HB5:=zB hb5;clear ho5 hb5))
   clear HC1
   go_loopw [6,27] (fun v i wr=>∃ k:Nat,k≤bs.length∧i=.int .i64 k∧wr.ownsRow w.heap.size 3 1 v (zBl bs k).length (zBF (zBl bs k))∧Below w.heap.size w wr) (fun _ i _=>bs.length - (intOf i).toNat)
   case atStart=>exact ⟨0,Nat.zero_le _,rfl,zA HO5,zA HB5⟩
   case round =>
    clear HO5 HB5
    obtain ⟨k,hk',rfl,ho,hb⟩:=hrel
    have hfk:=zA HFL k hk'
    have hk100:k*100≤10000:=by omega
    by_cases hlt2:k<bs.length
    ·have k0:(0:Int)≤(k:Int):=by omega
     have k1:(k:Int)<(bs.length:Int):=by omega
     obtain ⟨b,off,A,c,rfl,hc,hn⟩:=zA HB k hlt2
     have h100:=zA HL2 k hlt2
     have hpos:=zA HNE k hlt2
     obtain ⟨b2,off2,rfl,_⟩:=hn 0 hpos
     have hc:=zC hb hc
     have HN:=zB (nums_cells (hn.below hb))
     have HS:=zB (flatTo_succ bs k hlt2)
     have HO:=zB ho
     have HBW:=zB hb
     have hsz:=hb.size
     clear hn HB HFL HL2 HNE ho hb
     generalize bs.getD k []=l at *
     generalize zBl bs k=fl at *
     go_wp2_with (first
      | (at_builtin;refine zZ _ rfl (.tmp 31) (.tmp 32) 26 rfl w.heap.size 3 i3 (.int .i64 0) 1 8 Tryz.underlying26 (zA HI3) (zA HZ3) (zA HS3) (zA HB3) rfl (by decide) _ fl.length (zBF fl) rfl (zA HO) ⟨b2,off2,none⟩ l.length c (zBF l) rfl (by simp [zBF]) (zA HN) (intsOf_one l) (by unfold maxLen;omega) (by omega) hsz hpos ?_;intro g capg w7 ho7 hg7 hw7;have HO7:=zB ho7;have HG7:=zB hg7;clear ho7 hg7 hw7))
     go_roundw
     case rel=>exact ⟨k+1,by omega,by go_num,by rw [zA HS,intsOf_app,List.length_append];exact zA HO7,(zA HBW).grown (zA HG7) hsz (fun j hj=>((zA HO).lt j hj).1)⟩
     case measure=>simp [intOf];omega
    ·obtain rfl:k=bs.length:=by omega
     have ho':=ho
     rw [zA HFA] at ho'
     obtain ⟨A,c,rfl,hn⟩:=numsAt_own ho'
     have HN:=zB hn
     have HBW:=zB hb
     clear ho ho' hn hb HB HFL HL2 HNE
     go_wp2
     go_ret
     exact ⟨A,c,rfl,zA HN,zA HBW⟩
theorem order_any (B:Option Addr) (bs:List (List Nat)) (cap:Nat) (w:World) (hl:bs.length≤100) (hl2:∀ k,k<bs.length→(bs.getD k []).length≤100) (hne:∀ k,k<bs.length→0<(bs.getD k []).length) (hB:BatsAt w B bs) :
  Calls Tryz.prog 70 #[.slice B bs.length cap] w fun e w'=>∃ A cap',e=.returned (.slice A bs.flatten.length cap')∧NumsAt w' A bs.flatten∧Below w.heap.size w w':=by
 have HC:=zB (concat_any B bs cap w hl hl2 hne hB)
 clear hl2 hne hB
 generalize bs.flatten.length=m at *
 go_enter Tryz.func70,Tryz.ntmps70
 go_wp2_with (first
  | (go_at_call 102;refine (zA HC).mono ?_;rintro e w5 ⟨A,c,rfl,hn,hb5⟩;have HN:=zB hn;have HB5:=zB hb5;clear hb5 hn))
 go_ret
 exact ⟨A,c,rfl,zA HN,zA HB5⟩
end Go.Proofs.YtnbleebilmghcacGreat
namespace Go.Proofs.YtnbleebilmghcacGreat
open Go Go.RowKit
attribute [local go_sem ↓] Go.wp_at_zero Go.wp_at_succ
def actM (p:Int):Nat→ActI:=fun _=>⟨4,p,0,1⟩
def sysM (p q:Int) (g:Nat):SysI:=⟨0,q,0,some ⟨g,0,none⟩,1,1,actM p⟩
def three (g0 g1 g2:Nat):Nat→SysI:=fun j=>if j=0 then sysM 0 1 g0 else if j=1 then sysM 0 1 g1 else sysM 1 2 g2
theorem w0:wrF 0 1 0 (actM 0) 1=(0,0):=by decide +kernel
theorem w1:wrF 0 2 0 (actM 1) 1=(0,0):=by decide +kernel
end Go.Proofs.YtnbleebilmghcacGreat
namespace Go.Proofs.YtnbleebilmghcacGreat
open Go Go.RowKit Go.WideMaps Go.Maps
theorem flat_set:∀ (B:List (List Nat)) (a x:Nat),a<B.length→(B.set a (B.getD a []++[x])).flatten.Perm (B.flatten++[x])
 | [],a,_,h=>by simp at h
 | l :: r,0,x,_=>by
  simp only [List.set_cons_zero,List.getD_cons_zero,List.flatten_cons,List.append_assoc]
  exact List.Perm.append_left l List.perm_append_comm
 | l :: r,a+1,x,h=>by
  have:=flat_set r a x (by simpa using h)
  simp only [List.set_cons_succ,List.getD_cons_succ,List.flatten_cons,List.append_assoc]
  exact List.Perm.append_left l this
theorem putB_perm (B:List (List Nat)) (a x:Nat) (h:a≤B.length):(putB B a x).flatten.Perm (B.flatten++[x]):=by
 unfold putB
 by_cases e:a=B.length
 ·rw [if_pos e,List.flatten_append];simp
 ·rw [if_neg e];exact flat_set B a x (by omega)
theorem mkB_perm (cl:Nat→Nat→Bool):∀ n,(mkB cl n).flatten.Perm (List.range n)
 | 0=>by simp [mkB]
 | n+1=>by
  have h:=putB_perm (mkB cl n) (lev cl n) n (bhd_le _ _ _)
  rw [List.range_succ]
  exact h.trans (List.Perm.append_right [n] (mkB_perm cl n))
end Go.Proofs.YtnbleebilmghcacGreat
