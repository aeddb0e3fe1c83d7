/- RStore, RAll, RTl -/
import Derived.Deep.CutBlock
import Derived.Test.YtnbleebilmghcabGreatWS
import Derived.Test.YtnbleebilmghcabGreatXRRun
set_option linter.all false
set_option maxHeartbeats 8000000
set_option maxRecDepth 8000
namespace Go.Proofs.YtnbleebilmghcabGreat
open Go Go.RowKit
attribute [local go_sem ↓] Go.wp_at_zero Go.wp_at_succ
theorem zNk (T:Option Addr) (tcap:Nat) (G:Option Addr) (gcap:Nat) (l:List TabX) (tabs:List TabI) (Y:Wd) (s:SysI) (w:World) (h:AnyS w T G l tabs Y) (h0:(zBB l tabs Y).1≠0) :
  Calls Tryz.prog 11 #[.agg #[.slice T l.length tcap,.slice G Y.gens.length gcap],zIx s] w fun e w'=>e=.returned (.tuple #[.agg #[.slice none 0 0,.slice none 0 0],.int .i64 (zBB l tabs Y).1])∧Below w.heap.size w w':=by
 have hSW:=fun W (hb:Below w.heap.size w W)=>zAp T tcap G gcap l tabs Y W (h.below hb).tog h.hY (h.below hb).gens h.hrl
 unfold stV at hSW
 generalize (zBB l tabs Y).2=sa at *
 generalize (zBB l tabs Y).1=se at *
 have hse2:(se == 0)=false:=by simpa using h0
 have hse3:(se != 0)=true:=by simpa using h0
 have HSW:=zB hSW
 clear hSW h h0
 obtain ⟨W0,hW0⟩:∃ W0,W0=zt w [([.slice T l.length tcap,.slice G Y.gens.length gcap],25),([.int .i64 s.m,.int .i64 s.al,.int .i64 s.no,.slice s.A s.len s.cap],37),([.slice none 0 0,.slice none 0 0],25)]:=⟨_,rfl⟩
 have hX0:=Bxs.start w [([.slice T l.length tcap,.slice G Y.gens.length gcap],25),([.int .i64 s.m,.int .i64 s.al,.int .i64 s.no,.slice s.A s.len s.cap],37),([.slice none 0 0,.slice none 0 0],25)]
 have hb0:=allocs_below [([.slice T l.length tcap,.slice G Y.gens.length gcap],25),([.int .i64 s.m,.int .i64 s.al,.int .i64 s.no,.slice s.A s.len s.cap],37),([.slice none 0 0,.slice none 0 0],25)] w
 rw [←hW0] at hX0 hb0
 have hW0':((w.alloc (.cells #[.slice T l.length tcap,.slice G Y.gens.length gcap] 25)).alloc (.cells #[.int .i64 s.m,.int .i64 s.al,.int .i64 s.no,.slice s.A s.len s.cap] 37)).alloc (.cells #[.slice none 0 0,.slice none 0 0] 25)=W0:=hW0.symm
 have HW0:=zB hW0'
 clear hW0 hW0'
 have c0:=hX0.cell 0 rfl 0 rfl
 have c1:=hX0.cell 0 rfl 1 rfl
 rw [Nat.add_zero] at c0 c1
 have HB0:=zB hX0
 have HL0:=zB hb0
 clear hX0 hb0
 unfold zIx zDV
 go_enter Tryz.func11,Tryz.ntmps11
 go_upto_region 1 with fail
 rw [zA HW0]
 clear HW0
 go_wp2_with fail
 go_at_call 27
 refine (zA HSW _ (zA HL0)).mono ?_
 rintro e w5 ⟨rfl,hb5⟩
 obtain ⟨W6,hW6⟩:∃ W6,W6=zt w5 [([.int .i64 se,.int .i64 sa],29)]:=⟨_,rfl⟩
 have hX6:=Bxs.start w5 [([.int .i64 se,.int .i64 sa],29)]
 have hb6:=allocs_below [([.int .i64 se,.int .i64 sa],29)] w5
 rw [←hW6] at hX6 hb6
 have hW6':w5.alloc (.cells #[.int .i64 se,.int .i64 sa] 29)=W6:=hW6.symm
 have HW6:=zB hW6'
 clear hW6 hW6'
 have hb56:=hb5.trans (hb6.mono hb5.size)
 have hB6:=(zA HB0).below hb56
 have HZw5:Hid (w.heap.size+3≤w5.heap.size):=zB (by have:=((zA HB0).below hb5).sz (by simp);simpa using this)
 have f0:=hX6.cell 0 rfl 0 rfl
 rw [Nat.add_zero] at f0
 have hL6:=(zA HL0).trans (hb56.mono (zA HL0).size)
 have HB6:=zB hB6
 have HL6:=zB hL6
 have HX6:=zB hX6
 clear c0 c1 hB6 hL6 hX6 hb5 hb6 hb56 HB0 HL0 HSW
 go_upto_region 2 with fail
 rw [zA HW6]
 clear HW6
 go_wp2_with fail
 clear f0
 obtain ⟨WE,rfl⟩:∃ WE,WE=W6:=⟨_,rfl⟩
 have HBE:=HB6
 have HXE:=HX6
 have HLE:=HL6
 have h0:(fun (_:Unit) (_:Nat→Bool) W=>Bxs w.heap.size [([.slice T l.length tcap,.slice G Y.gens.length gcap],25),([.int .i64 s.m,.int .i64 s.al,.int .i64 s.no,.slice s.A s.len s.cap],37),([.slice none 0 0,.slice none 0 0],25)] W∧Bxs w5.heap.size [([.int .i64 se,.int .i64 sa],29)] W∧Below w.heap.size w W) () (fun _=>false) WE.drew:=⟨(zA HBE).below (Below.refl _ _).drew,(zA HXE).below (Below.refl _ _).drew,(zA HLE).drew⟩
 refine zd (fun (γ:Unit) ix v=>(([fun v=>v=.agg #[.slice none 0 0,.slice none 0 0],fun v=>v=.pointer (some ⟨w5.heap.size,0,none⟩),fun v=>v=.int .i64 se,fun _=>True,fun v=>v=.int .i64 se]:List (Value→Prop)).getD ix (fun _=>True)) v) (fun (_:Unit) (_:Nat→Bool) W=>Bxs w.heap.size [([.slice T l.length tcap,.slice G Y.gens.length gcap],25),([.int .i64 s.m,.int .i64 s.al,.int .i64 s.no,.slice s.A s.len s.cap],37),([.slice none 0 0,.slice none 0 0],25)] W∧Bxs w5.heap.size [([.int .i64 se,.int .i64 sa],29)] W∧Below w.heap.size w W) (()) (by kernel_rfl) (by kernel_rfl) (by kernel_rfl) h0 ?hstep ?hend
 case hstep =>
  intro γ ix o ho L ac w1 hD hL hed hcl hout hv
  match ix,ho with
  | 0,ho =>
   simp at ho
   subst ho
   exact .inl ⟨rfl,zF γ _ (by simp [go_sem,Act.eval,-Array.getD_eq_getD_getElem?,]) rfl (hD) (fun _ _ _ _ h=>h)⟩
  | 1,ho =>
   simp at ho
   subst ho
   have e6:ac.tmps.getD 6 undef=.pointer (some ⟨w5.heap.size,0,none⟩):=hout 6 (by decide +kernel)
   exact .inl ⟨rfl,zF γ _ (by simp [go_sem,Act.eval,-Array.getD_eq_getD_getElem?,e6]) rfl (hD) (fun _ _ _ _ h=>h)⟩
  | 2,ho =>
   simp at ho
   subst ho
   have e16:ac.tmps.getD 16 undef=_:=hv 1 16 rfl (by kernel_rfl)
   have c0:=hD.2.1.cell 0 rfl 0 rfl
   rw [Nat.add_zero] at c0
   exact .inl ⟨rfl,zF γ _ (by simp [go_sem,Act.eval,-Array.getD_eq_getD_getElem?,e16,c0]) rfl (hD) (fun _ _ _ _ h=>h)⟩
  | 3,ho =>
   simp at ho
   subst ho
   have e4:ac.tmps.getD 4 undef=.pointer (some ⟨w.heap.size+2,0,none⟩):=hout 4 (by decide +kernel)
   have e15:ac.tmps.getD 15 undef=_:=hv 0 15 rfl (by kernel_rfl)
   have hg:=hD.1.give 2 rfl [.slice none 0 0,.slice none 0 0] rfl
   refine .inl ⟨rfl,zAu γ 25 (.tmp 4) (.tmp 15) rfl (w.heap.size+2) 0 [.slice none 0 0,.slice none 0 0] (by simp [Act.eval,-Array.getD_eq_getD_getElem?,e4]) (by simp [Act.eval,-Array.getD_eq_getD_getElem?,e15]) (by simp [Value.oneCell']) size71 (hD.1.there 2 rfl 2 rfl) trivial ⟨?_,hD.2.1.turn (.inl (by have:=zA HZw5;omega)),zI (w.heap.size+2) (by omega) _ 0 _ hD.2.2⟩ (fun _ _ _ _ h=>h)⟩
   exact hg
  | 4,ho =>
   simp at ho
   subst ho
   have e17:ac.tmps.getD 17 undef=.int .i64 se:=hv 2 17 rfl (by kernel_rfl)
   exact .inl ⟨rfl,zF γ _ (by simp [go_sem,Act.eval,-Array.getD_eq_getD_getElem?,e17]) rfl (hD) (fun _ _ _ _ h=>h)⟩
  | ix+5,ho=>simp at ho
 case hend =>
  intro γ v L w9 hD hall hv
  have v4:v 4=.int .i64 se:=hv 4 5 rfl
  have t0:=hD.1.cell 2 rfl 0 rfl
  have t1:=hD.1.cell 2 rfl 1 rfl
  have HD:=zB hD.2.2
  clear hv hall hD h0
  simp only [zu,List.getElem?_cons_zero,List.getElem?_cons_succ,Option.bind_some,List.length_cons,List.length_nil,Nat.reduceAdd,v4]
  clear v4
  go_frame
  go_wp2
  refine bodyPost_ret (v:=.tuple #[.agg #[.slice none 0 0,.slice none 0 0],.int .i64 se]) (by simp [results,Tryz.results11,go_sem,t0,t1]) rfl ⟨rfl,zA HD⟩
theorem zGn (T:Option Addr) (tcap:Nat) (G:Option Addr) (gcap:Nat) (tabs:List TabI) (Y:Wd) (s:SysI) (w:World) (h:StAt w T G tabs Y) (hA:ActsAt w s.A s.len s.a) (hw:(wrF s.m s.al s.no s.a s.len).1≠0) :
  Calls Tryz.prog 11 #[.agg #[.slice T tabs.length tcap,.slice G Y.gens.length gcap],zIx s] w fun e w'=>∃ T' tc' G' gc',e=.returned (.tuple #[.agg #[.slice T' (za (zCi Y s).2).length tc',.slice G' (zCi Y s).2.gens.length gc'],.int .i64 (zCi Y s).1])∧SQ w.heap.size w' G Y.gens.length T' G' (zCi Y s).2∧Below w.heap.size w w':=by
 obtain ⟨hAny,hE,hml⟩:=AnyS.of h
 have hSW:=fun W (hb:Below w.heap.size w W)=>zAp T tcap G gcap (tabs.map toX) tabs Y W (hAny.below hb).tog hAny.hY (hAny.below hb).gens hAny.hrl
 rw [hE,hml] at hSW
 have hWR:=fun W (hb:Below w.heap.size w W)=>zFU s.m s.al s.no s.A s.len s.cap s.a W (hA.below hb)
 unfold stV at hSW
 unfold zDV zAX at hWR
 clear hAny hE hml
 have eR:zCi Y s=((wrF s.m s.al s.no s.a s.len).1,emptyW):=by unfold zCi zIP;rw [if_pos hw]
 rw [eR]
 generalize (wrF s.m s.al s.no s.a s.len).2=wa at *
 generalize (wrF s.m s.al s.no s.a s.len).1=we at *
 have hwe2:(we == 0)=false:=by simpa using hw
 have hwe3:(we != 0)=true:=by simpa using hw
 have HSW:=zB hSW
 have HWR:=zB hWR
 clear hSW hWR h hA eR hw
 show Calls Tryz.prog 11 #[.agg #[.slice T tabs.length tcap,.slice G Y.gens.length gcap],zIx s] w fun e w'=>∃ T' tc' G' gc',e=.returned (.tuple #[.agg #[.slice T' (za emptyW).length tc',.slice G' emptyW.gens.length gc'],.int .i64 we])∧SQ w.heap.size w' G Y.gens.length T' G' emptyW∧Below w.heap.size w w'
 obtain ⟨W0,hW0⟩:∃ W0,W0=zt w [([.slice T tabs.length tcap,.slice G Y.gens.length gcap],25),([.int .i64 s.m,.int .i64 s.al,.int .i64 s.no,.slice s.A s.len s.cap],37),([.slice none 0 0,.slice none 0 0],25)]:=⟨_,rfl⟩
 have hX0:=Bxs.start w [([.slice T tabs.length tcap,.slice G Y.gens.length gcap],25),([.int .i64 s.m,.int .i64 s.al,.int .i64 s.no,.slice s.A s.len s.cap],37),([.slice none 0 0,.slice none 0 0],25)]
 have hb0:=allocs_below [([.slice T tabs.length tcap,.slice G Y.gens.length gcap],25),([.int .i64 s.m,.int .i64 s.al,.int .i64 s.no,.slice s.A s.len s.cap],37),([.slice none 0 0,.slice none 0 0],25)] w
 rw [←hW0] at hX0 hb0
 have hW0':((w.alloc (.cells #[.slice T tabs.length tcap,.slice G Y.gens.length gcap] 25)).alloc (.cells #[.int .i64 s.m,.int .i64 s.al,.int .i64 s.no,.slice s.A s.len s.cap] 37)).alloc (.cells #[.slice none 0 0,.slice none 0 0] 25)=W0:=hW0.symm
 have HW0:=zB hW0'
 clear hW0 hW0'
 have c0:=hX0.cell 0 rfl 0 rfl
 have c1:=hX0.cell 0 rfl 1 rfl
 rw [Nat.add_zero] at c0 c1
 have HB0:=zB hX0
 have HL0:=zB hb0
 clear hX0 hb0
 unfold zIx zDV
 go_enter Tryz.func11,Tryz.ntmps11
 go_upto_region 1 with fail
 rw [zA HW0]
 clear HW0
 go_wp2_with fail
 go_at_call 27
 refine (zA HSW _ (zA HL0)).mono ?_
 rintro e w5 ⟨rfl,hb5⟩
 obtain ⟨W6,hW6⟩:∃ W6,W6=zt w5 [([.int .i64 0,.int .i64 0],29)]:=⟨_,rfl⟩
 have hX6:=Bxs.start w5 [([.int .i64 0,.int .i64 0],29)]
 have hb6:=allocs_below [([.int .i64 0,.int .i64 0],29)] w5
 rw [←hW6] at hX6 hb6
 have hW6':w5.alloc (.cells #[.int .i64 0,.int .i64 0] 29)=W6:=hW6.symm
 have HW6:=zB hW6'
 clear hW6 hW6'
 have hb56:=hb5.trans (hb6.mono hb5.size)
 have hB6:=(zA HB0).below hb56
 have HZw5:Hid (w.heap.size+3≤w5.heap.size):=zB (by have:=((zA HB0).below hb5).sz (by simp);simpa using this)
 have f0:=hX6.cell 0 rfl 0 rfl
 rw [Nat.add_zero] at f0
 have hL6:=(zA HL0).trans (hb56.mono (zA HL0).size)
 have HB6:=zB hB6
 have HL6:=zB hL6
 have HX6:=zB hX6
 clear c0 c1 hB6 hL6 hX6 hb5 hb6 hb56 HB0 HL0 HSW
 go_upto_region 2 with fail
 rw [zA HW6]
 clear HW6
 have s0:=(zA HB6).cell 1 rfl 0 rfl
 have s1:=(zA HB6).cell 1 rfl 1 rfl
 have s2:=(zA HB6).cell 1 rfl 2 rfl
 have s3:=(zA HB6).cell 1 rfl 3 rfl
 go_wp2_with fail
 go_at_call 29
 refine (zA HWR _ (zA HL6)).mono ?_
 rintro e w7 ⟨rfl,hb7⟩
 obtain ⟨W8,hW8⟩:∃ W8,W8=zt w7 [([.int .i64 we,.int .i64 wa],29)]:=⟨_,rfl⟩
 have hX8:=Bxs.start w7 [([.int .i64 we,.int .i64 wa],29)]
 have hb8:=allocs_below [([.int .i64 we,.int .i64 wa],29)] w7
 rw [←hW8] at hX8 hb8
 have hW8':w7.alloc (.cells #[.int .i64 we,.int .i64 wa] 29)=W8:=hW8.symm
 have HW8:=zB hW8'
 clear hW8 hW8'
 have hb78:=hb7.trans (hb8.mono hb7.size)
 have hB8:=(zA HB6).below hb78
 have HZw7:Hid (w.heap.size+3≤w7.heap.size):=zB (by have:=((zA HB6).below hb7).sz (by simp);simpa using this)
 clear f0 s0 s1 s2 s3
 have f0:=hX8.cell 0 rfl 0 rfl
 rw [Nat.add_zero] at f0
 have hL8:=(zA HL6).trans (hb78.mono (zA HL6).size)
 have HBE:=zB hB8
 have HLE:=zB hL8
 have HXE:=zB hX8
 clear hB8 hL8 hX8 hb7 hb8 hb78 HB6 HL6 HX6 HWR
 go_upto_region 5 with fail
 rw [zA HW8]
 clear HW8
 obtain ⟨WE,rfl⟩:∃ WE,WE=W8:=⟨_,rfl⟩
 go_wp2_with fail
 clear f0
 have h0:(fun (_:Unit) (_:Nat→Bool) W=>Bxs w.heap.size [([.slice T tabs.length tcap,.slice G Y.gens.length gcap],25),([.int .i64 s.m,.int .i64 s.al,.int .i64 s.no,.slice s.A s.len s.cap],37),([.slice none 0 0,.slice none 0 0],25)] W∧Bxs w7.heap.size [([.int .i64 we,.int .i64 wa],29)] W∧Below w.heap.size w W) () (fun _=>false) WE.drew:=⟨(zA HBE).below (Below.refl _ _).drew,(zA HXE).below (Below.refl _ _).drew,(zA HLE).drew⟩
 refine zd (fun (γ:Unit) ix v=>(([fun v=>v=.agg #[.slice none 0 0,.slice none 0 0],fun v=>v=.pointer (some ⟨w7.heap.size,0,none⟩),fun v=>v=.int .i64 we,fun _=>True,fun v=>v=.int .i64 we]:List (Value→Prop)).getD ix (fun _=>True)) v) (fun (_:Unit) (_:Nat→Bool) W=>Bxs w.heap.size [([.slice T tabs.length tcap,.slice G Y.gens.length gcap],25),([.int .i64 s.m,.int .i64 s.al,.int .i64 s.no,.slice s.A s.len s.cap],37),([.slice none 0 0,.slice none 0 0],25)] W∧Bxs w7.heap.size [([.int .i64 we,.int .i64 wa],29)] W∧Below w.heap.size w W) (()) (by kernel_rfl) (by kernel_rfl) (by kernel_rfl) h0 ?hstep ?hend
 case hstep =>
  intro γ ix o ho L ac w1 hD hL hed hcl hout hv
  match ix,ho with
  | 0,ho =>
   simp at ho
   subst ho
   exact .inl ⟨rfl,zF γ _ (by simp [go_sem,Act.eval,-Array.getD_eq_getD_getElem?,]) rfl (hD) (fun _ _ _ _ h=>h)⟩
  | 1,ho =>
   simp at ho
   subst ho
   have e7:ac.tmps.getD 7 undef=.pointer (some ⟨w7.heap.size,0,none⟩):=hout 7 (by decide +kernel)
   exact .inl ⟨rfl,zF γ _ (by simp [go_sem,Act.eval,-Array.getD_eq_getD_getElem?,e7]) rfl (hD) (fun _ _ _ _ h=>h)⟩
  | 2,ho =>
   simp at ho
   subst ho
   have e24:ac.tmps.getD 24 undef=_:=hv 1 24 rfl (by kernel_rfl)
   have c0:=hD.2.1.cell 0 rfl 0 rfl
   rw [Nat.add_zero] at c0
   exact .inl ⟨rfl,zF γ _ (by simp [go_sem,Act.eval,-Array.getD_eq_getD_getElem?,e24,c0]) rfl (hD) (fun _ _ _ _ h=>h)⟩
  | 3,ho =>
   simp at ho
   subst ho
   have e4:ac.tmps.getD 4 undef=.pointer (some ⟨w.heap.size+2,0,none⟩):=hout 4 (by decide +kernel)
   have e23:ac.tmps.getD 23 undef=_:=hv 0 23 rfl (by kernel_rfl)
   have hg:=hD.1.give 2 rfl [.slice none 0 0,.slice none 0 0] rfl
   refine .inl ⟨rfl,zAu γ 25 (.tmp 4) (.tmp 23) rfl (w.heap.size+2) 0 [.slice none 0 0,.slice none 0 0] (by simp [Act.eval,-Array.getD_eq_getD_getElem?,e4]) (by simp [Act.eval,-Array.getD_eq_getD_getElem?,e23]) (by simp [Value.oneCell']) size71 (hD.1.there 2 rfl 2 rfl) trivial ⟨?_,hD.2.1.turn (.inl (by have:=zA HZw7;omega)),zI (w.heap.size+2) (by omega) _ 0 _ hD.2.2⟩ (fun _ _ _ _ h=>h)⟩
   exact hg
  | 4,ho =>
   simp at ho
   subst ho
   have e25:ac.tmps.getD 25 undef=.int .i64 we:=hv 2 25 rfl (by kernel_rfl)
   exact .inl ⟨rfl,zF γ _ (by simp [go_sem,Act.eval,-Array.getD_eq_getD_getElem?,e25]) rfl (hD) (fun _ _ _ _ h=>h)⟩
  | ix+5,ho=>simp at ho
 case hend =>
  intro γ v L w9 hD hall hv
  have v4:v 4=.int .i64 we:=hv 4 5 rfl
  have t0:=hD.1.cell 2 rfl 0 rfl
  have t1:=hD.1.cell 2 rfl 1 rfl
  have HD:=zB hD.2.2
  clear hv hall hD h0
  simp only [zu,List.getElem?_cons_zero,List.getElem?_cons_succ,Option.bind_some,List.length_cons,List.length_nil,Nat.reduceAdd,v4]
  clear v4
  go_frame
  go_wp2
  refine bodyPost_ret (v:=.tuple #[.agg #[.slice none 0 0,.slice none 0 0],.int .i64 we]) (by simp [results,Tryz.results11,go_sem,t0,t1]) rfl ⟨none,0,none,0,rfl,SQ.empty _ _ _ _,zA HD⟩
theorem zKO (T:Option Addr) (tcap:Nat) (G:Option Addr) (gcap:Nat) (tabs:List TabI) (Y:Wd) (s:SysI) (w:World) (h:StAt w T G tabs Y) (hA:ActsAt w s.A s.len s.a) (hw:(wrF s.m s.al s.no s.a s.len).1=0) :
  Calls Tryz.prog 11 #[.agg #[.slice T tabs.length tcap,.slice G Y.gens.length gcap],zIx s] w fun e w'=>∃ T' tc' G' gc',e=.returned (.tuple #[.agg #[.slice T' (za (zCi Y s).2).length tc',.slice G' (zCi Y s).2.gens.length gc'],.int .i64 (zCi Y s).1])∧SQ w.heap.size w' G Y.gens.length T' G' (zCi Y s).2∧Below w.heap.size w w':=by
 obtain ⟨hAny,hE,hml⟩:=AnyS.of h
 have hSW:=fun W (hb:Below w.heap.size w W)=>zAp T tcap G gcap (tabs.map toX) tabs Y W (hAny.below hb).tog hAny.hY (hAny.below hb).gens hAny.hrl
 rw [hE,hml] at hSW
 have hWR:=fun W (hb:Below w.heap.size w W)=>zFU s.m s.al s.no s.A s.len s.cap s.a W (hA.below hb)
 unfold stV at hSW
 unfold zDV zAX at hWR
 clear hAny hE hml
 have eR:zCi Y s=zBa s.a s.len (zCv Y s.al s.no Y.rows.length) Y:=by unfold zCi zIP;rw [if_neg (by simpa using hw)]
 have hr:=h.right
 have hRU:=fun A c W (hb:Below w.heap.size w W) (hW:WldAt W A c G gcap Y)=>zMI A c G gcap Y s.m s.al s.no s.A s.len s.cap s.a W hW hr (hA.below hb) hw
 have hRZ:(zCi Y s).1=0→RightW (zCi Y s).2:=fun e=>zGk hr e
 have hNZ:(zCi Y s).1≠0→(zCi Y s).2=emptyW:=fun e=>zKN e
 have hWO:=fun W (hb:Below w.heap.size w W)=>zKL T tcap G gcap tabs Y W (h.below hb)
 have hGW:=zHl h.gens
 rw [←eR] at hRU
 obtain ⟨Z,hZ⟩:∃ Z,Z=(zCi Y s).2:=⟨_,rfl⟩
 obtain ⟨err,herr⟩:∃ err,err=(zCi Y s).1:=⟨_,rfl⟩
 rw [←hZ,←herr] at hRU hRZ hNZ ⊢
 rw [hw] at hWR
 generalize (wrF s.m s.al s.no s.a s.len).2=wa at *
 have HSW:=zB hSW
 have HWR:=zB hWR
 have HRU:=zB hRU
 have HRZ:=zB hRZ
 have HNZ:=zB hNZ
 have HWO:=zB hWO
 have HGW:=zB hGW
 clear hSW hWR hRU hRZ hNZ hWO hGW h hA eR hw hr hZ herr
 obtain ⟨W0,hW0⟩:∃ W0,W0=zt w [([.slice T tabs.length tcap,.slice G Y.gens.length gcap],25),([.int .i64 s.m,.int .i64 s.al,.int .i64 s.no,.slice s.A s.len s.cap],37),([.slice none 0 0,.slice none 0 0],25)]:=⟨_,rfl⟩
 have hX0:=Bxs.start w [([.slice T tabs.length tcap,.slice G Y.gens.length gcap],25),([.int .i64 s.m,.int .i64 s.al,.int .i64 s.no,.slice s.A s.len s.cap],37),([.slice none 0 0,.slice none 0 0],25)]
 have hb0:=allocs_below [([.slice T tabs.length tcap,.slice G Y.gens.length gcap],25),([.int .i64 s.m,.int .i64 s.al,.int .i64 s.no,.slice s.A s.len s.cap],37),([.slice none 0 0,.slice none 0 0],25)] w
 rw [←hW0] at hX0 hb0
 have hW0':((w.alloc (.cells #[.slice T tabs.length tcap,.slice G Y.gens.length gcap] 25)).alloc (.cells #[.int .i64 s.m,.int .i64 s.al,.int .i64 s.no,.slice s.A s.len s.cap] 37)).alloc (.cells #[.slice none 0 0,.slice none 0 0] 25)=W0:=hW0.symm
 have HW0:=zB hW0'
 clear hW0 hW0'
 have c0:=hX0.cell 0 rfl 0 rfl
 have c1:=hX0.cell 0 rfl 1 rfl
 rw [Nat.add_zero] at c0 c1
 have HB0:=zB hX0
 have HL0:=zB hb0
 clear hX0 hb0
 unfold zIx zDV
 go_enter Tryz.func11,Tryz.ntmps11
 go_upto_region 1 with fail
 rw [zA HW0]
 clear HW0
 go_wp2_with fail
 go_at_call 27
 refine (zA HSW _ (zA HL0)).mono ?_
 rintro e w5 ⟨rfl,hb5⟩
 obtain ⟨W6,hW6⟩:∃ W6,W6=zt w5 [([.int .i64 0,.int .i64 0],29)]:=⟨_,rfl⟩
 have hX6:=Bxs.start w5 [([.int .i64 0,.int .i64 0],29)]
 have hb6:=allocs_below [([.int .i64 0,.int .i64 0],29)] w5
 rw [←hW6] at hX6 hb6
 have hW6':w5.alloc (.cells #[.int .i64 0,.int .i64 0] 29)=W6:=hW6.symm
 have HW6:=zB hW6'
 clear hW6 hW6'
 have hb56:=hb5.trans (hb6.mono hb5.size)
 have hB6:=(zA HB0).below hb56
 have HZw5:Hid (w.heap.size+3≤w5.heap.size):=zB (by have:=((zA HB0).below hb5).sz (by simp);simpa using this)
 have f0:=hX6.cell 0 rfl 0 rfl
 rw [Nat.add_zero] at f0
 have hL6:=(zA HL0).trans (hb56.mono (zA HL0).size)
 have HB6:=zB hB6
 have HL6:=zB hL6
 have HX6:=zB hX6
 clear c0 c1 hB6 hL6 hX6 hb5 hb6 hb56 HB0 HL0 HSW
 go_upto_region 2 with fail
 rw [zA HW6]
 clear HW6
 have s0:=(zA HB6).cell 1 rfl 0 rfl
 have s1:=(zA HB6).cell 1 rfl 1 rfl
 have s2:=(zA HB6).cell 1 rfl 2 rfl
 have s3:=(zA HB6).cell 1 rfl 3 rfl
 go_wp2_with fail
 go_at_call 29
 refine (zA HWR _ (zA HL6)).mono ?_
 rintro e w7 ⟨rfl,hb7⟩
 obtain ⟨W8,hW8⟩:∃ W8,W8=zt w7 [([.int .i64 0,.int .i64 wa],29)]:=⟨_,rfl⟩
 have hX8:=Bxs.start w7 [([.int .i64 0,.int .i64 wa],29)]
 have hb8:=allocs_below [([.int .i64 0,.int .i64 wa],29)] w7
 rw [←hW8] at hX8 hb8
 have hW8':w7.alloc (.cells #[.int .i64 0,.int .i64 wa] 29)=W8:=hW8.symm
 have HW8:=zB hW8'
 clear hW8 hW8'
 have hb78:=hb7.trans (hb8.mono hb7.size)
 have hB8:=(zA HB6).below hb78
 have HZw7:Hid (w.heap.size+3≤w7.heap.size):=zB (by have:=((zA HB6).below hb7).sz (by simp);simpa using this)
 clear f0 s0 s1 s2 s3
 have f0:=hX8.cell 0 rfl 0 rfl
 rw [Nat.add_zero] at f0
 have hL8:=(zA HL6).trans (hb78.mono (zA HL6).size)
 have HBE:=zB hB8
 have HLE:=zB hL8
 have HXE:=zB hX8
 clear hB8 hL8 hX8 hb7 hb8 hb78 HB6 HL6 HX6 HWR
 go_upto_region 5 with fail
 rw [zA HW8]
 clear HW8
 obtain ⟨WE,rfl⟩:∃ WE,WE=W8:=⟨_,rfl⟩
 have HZE:Hid (w.heap.size+3≤WE.heap.size):=zB (by have:=(zA HBE).sz (by simp);simpa using this)
 have HGO:Hid (∀ c o,G=some ⟨c,o,none⟩→0<Y.gens.length→c<WE.heap.size):=zB (fun c o e hl=>by have:=zA HGW c o e hl;have:=zA HZE;omega)
 go_upto_region 7 with fail
 clear f0
 have h0:=D7.start WE G gcap Y Z
 refine zd (fun (γ:G7) ix v=>if ix=1 then v=.agg #[.slice γ.a Y.rows.length γ.c,.slice G Y.gens.length gcap] else if ix=3 then v=.tuple #[.agg #[.slice γ.A4 Z.rows.length γ.c4,.slice γ.G4 Z.gens.length γ.gc4],.int .i64 err] else if ix=4 then v=.tuple #[.agg #[.slice γ.A4 Z.rows.length γ.c4,.slice γ.G4 Z.gens.length γ.gc4],.int .i64 err] else if ix=5 then v=.agg #[.slice γ.A4 Z.rows.length γ.c4,.slice γ.G4 Z.gens.length γ.gc4] else if ix=7 then v=.pointer (some ⟨γ.p,0,none⟩) else (([fun v=>v=.agg #[.slice T tabs.length tcap,.slice G Y.gens.length gcap],fun _=>True,fun v=>v=.agg #[.int .i64 s.m,.int .i64 s.al,.int .i64 s.no,.slice s.A s.len s.cap],fun _=>True,fun _=>True,fun _=>True,fun v=>v=.int .i64 err,fun _=>True,fun _=>True,fun v=>v=.int .i64 err]:List (Value→Prop)).getD ix (fun _=>True)) v) (fun γ L W=>D7 WE G gcap Y Z γ L W) (⟨none,0,none,0,none,0,0⟩) (by kernel_rfl) (by kernel_rfl) (by kernel_rfl) h0 ?hstep ?hend
 case hstep =>
  intro γ ix o ho L ac w1 hD hL hed hcl hout hv
  match ix,ho with
  | 0,ho =>
   simp at ho
   subst ho
   have e2:ac.tmps.getD 2 undef=.pointer (some ⟨w.heap.size,0,none⟩):=hout 2 (by decide +kernel)
   have bb:=(zA HBE).below hD.bel
   have c0:=bb.cell 0 rfl 0 rfl
   have c1:=bb.cell 0 rfl 1 rfl
   rw [Nat.add_zero] at c0 c1
   exact .inl ⟨rfl,zF γ _ (by simp [go_sem,Act.eval,-Array.getD_eq_getD_getElem?,e2,c0,c1]) rfl (hD.same (by decide) (by decide) (by decide) (by decide)) (fun _ _ _ _ h=>h)⟩
  | 1,ho =>
   simp at ho
   subst ho
   have e27:ac.tmps.getD 27 undef=_:=hv 0 27 rfl (by kernel_rfl)
   have q3:L 3=false:=by
    cases h:L 3
    ·rfl
    ·exact absurd (hcl 3 _ rfl h 1 (by kernel_rfl)) (by rw [hL];decide)
   refine .inl ⟨rfl,zAQ 31 #[.agg #[.slice T tabs.length tcap,.slice G Y.gens.length gcap]] (by simp [go_sem,Act.eval,-Array.getD_eq_getD_getElem?,e27]) ?_⟩
   refine (zA HWO w1 ((zA HLE).trans (hD.bel.mono (zA HLE).size))).mono ?_
   rintro e w6 ⟨A6,c6,rfl,hw6,hf6,hb6⟩
   exact ⟨_,⟨A6,c6,γ.A4,γ.c4,γ.G4,γ.gc4,γ.p⟩,rfl,rfl,hD.world q3 hb6 hw6 hf6 (zA HGO),fun j u hj hLj h=>by simpa [hj] using h⟩
  | 2,ho =>
   simp at ho
   subst ho
   have e3:ac.tmps.getD 3 undef=.pointer (some ⟨w.heap.size+1,0,none⟩):=hout 3 (by decide +kernel)
   have bb:=(zA HBE).below hD.bel
   have c0:=bb.cell 1 rfl 0 rfl
   have c1:=bb.cell 1 rfl 1 rfl
   have c2:=bb.cell 1 rfl 2 rfl
   have c3:=bb.cell 1 rfl 3 rfl
   exact .inl ⟨rfl,zF γ _ (by simp [go_sem,Act.eval,-Array.getD_eq_getD_getElem?,e3,c0,c1,c2,c3]) rfl (hD.same (by decide) (by decide) (by decide) (by decide)) (fun _ _ _ _ h=>h)⟩
  | 3,ho =>
   simp at ho
   subst ho
   have e28:ac.tmps.getD 28 undef=_:=hv 1 28 rfl (by kernel_rfl)
   have e29:ac.tmps.getD 29 undef=_:=hv 2 29 rfl (by kernel_rfl)
   have q8:L 8=false:=by
    cases h:L 8
    ·rfl
    ·exact absurd (hcl 4 _ rfl (hcl 5 _ rfl (hcl 8 _ rfl h 5 (by kernel_rfl)) 4 (by kernel_rfl)) 3 (by kernel_rfl)) (by rw [hL];decide)
   have q1:L 1=true:=hed 1 (by kernel_rfl)
   refine .inl ⟨rfl,zAQ 30 #[.agg #[.slice γ.a Y.rows.length γ.c,.slice G Y.gens.length gcap],.agg #[.int .i64 s.m,.int .i64 s.al,.int .i64 s.no,.slice s.A s.len s.cap]] (by simp [go_sem,Act.eval,-Array.getD_eq_getD_getElem?,e28,e29]) ?_⟩
   refine (zA HRU γ.a γ.c w1 ((zA HLE).trans (hD.bel.mono (zA HLE).size)) (hD.wl q1).1).mono ?_
   rintro e w6 ⟨A6,c6,G6,gc6,rfl,hF6,hb6⟩
   exact ⟨_,⟨γ.a,γ.c,A6,c6,G6,gc6,γ.p⟩,rfl,rfl,hD.run q1 q8 hb6 hF6,fun j u hj hLj h=>by
    have q4:j≠4:=fun e=>by subst e;exact absurd (hcl 4 _ rfl hLj 3 (by kernel_rfl)) (by rw [hL];decide)
    have q5:j≠5:=fun e=>by subst e;exact absurd (hcl 4 _ rfl (hcl 5 _ rfl hLj 4 (by kernel_rfl)) 3 (by kernel_rfl)) (by rw [hL];decide)
    simpa [hj,q4,q5] using h⟩
  | 4,ho =>
   simp at ho
   subst ho
   have e30:ac.tmps.getD 30 undef=_:=hv 3 30 rfl (by kernel_rfl)
   exact .inl ⟨rfl,zF γ _ (by simp [go_sem,Act.eval,-Array.getD_eq_getD_getElem?,e30]) rfl (hD.same (by decide) (by decide) (by decide) (by decide)) (fun _ _ _ _ h=>h)⟩
  | 5,ho =>
   simp at ho
   subst ho
   have e26:ac.tmps.getD 26 undef=_:=hv 4 26 rfl (by kernel_rfl)
   exact .inl ⟨rfl,zF γ _ (by simp [go_sem,Act.eval,-Array.getD_eq_getD_getElem?,e26]) rfl (hD.same (by decide) (by decide) (by decide) (by decide)) (fun _ _ _ _ h=>h)⟩
  | 6,ho =>
   simp at ho
   subst ho
   have e26:ac.tmps.getD 26 undef=_:=hv 4 26 rfl (by kernel_rfl)
   exact .inl ⟨rfl,zF γ _ (by simp [go_sem,Act.eval,-Array.getD_eq_getD_getElem?,e26]) rfl (hD.same (by decide) (by decide) (by decide) (by decide)) (fun _ _ _ _ h=>h)⟩
  | 7,ho =>
   simp at ho
   subst ho
   have q8:L 8=false:=by
    cases h:L 8
    ·rfl
    ·exact absurd (hcl 8 _ rfl h 7 (by kernel_rfl)) (by rw [hL];decide)
   exact .inl ⟨rfl,zBu ⟨γ.a,γ.c,γ.A4,γ.c4,γ.G4,γ.gc4,w1.heap.size⟩ (.pointer (some ⟨w1.heap.size,0,none⟩)) (w2:=w1.alloc (.cells #[.slice none 0 0,.slice none 0 0] 43)) (by simp [go_sem,Act.eval]) rfl (hD.make q8) (fun j u hj hLj h=>by simpa [hj] using h)⟩
  | 8,ho =>
   simp at ho
   subst ho
   have e8:ac.tmps.getD 8 undef=_:=hv 7 8 rfl (by kernel_rfl)
   have e31:ac.tmps.getD 31 undef=_:=hv 5 31 rfl (by kernel_rfl)
   have q5:L 5=true:=hed 5 (by kernel_rfl)
   have q7:L 7=true:=hed 7 (by kernel_rfl)
   have q3:L 3=true:=hcl 4 _ rfl (hcl 5 _ rfl q5 4 (by kernel_rfl)) 3 (by kernel_rfl)
   have hx:=(hD.bx q7).2
   rw [hL] at hx
   have hth:=hx.there 0 rfl 2 rfl
   exact .inl ⟨rfl,zAu γ 43 (.tmp 8) (.tmp 31) rfl γ.p 0 [.slice γ.A4 Z.rows.length γ.c4,.slice γ.G4 Z.gens.length γ.gc4] (by simp [Act.eval,-Array.getD_eq_getD_getElem?,e8]) (by simp [Act.eval,-Array.getD_eq_getD_getElem?,e31]) (by simp [Value.oneCell']) size38 hth trivial (hD.put q3 q7 hL) (fun _ _ _ _ h=>h)⟩
  | 9,ho =>
   simp at ho
   subst ho
   have e32:ac.tmps.getD 32 undef=_:=hv 6 32 rfl (by kernel_rfl)
   exact .inl ⟨rfl,zF γ _ (by simp [go_sem,Act.eval,-Array.getD_eq_getD_getElem?,e32]) rfl (hD.same (by decide) (by decide) (by decide) (by decide)) (fun _ _ _ _ h=>h)⟩
  | ix+10,ho=>simp at ho
 case hend =>
  intro γ v L w9 hD hall hv
  have v9:v 9=.int .i64 err:=hv 9 9 rfl
  have v7:v 7=.pointer (some ⟨γ.p,0,none⟩):=hv 7 8 rfl
  have hx:=hD.bx (hall 7 (by decide))
  rw [hall 8 (by decide),if_pos rfl] at hx
  have hF:=hD.wf (hall 3 (by decide))
  have hwl:=(hD.wl (hall 1 (by decide))).2
  have hbe:=hD.bel
  obtain ⟨a,c,A4,c4,G4,gc4,pp⟩:=γ
  simp only at hx hF hwl v7
  have HB9:=zB ((zA HBE).below hbe)
  have HL9:=zB ((zA HLE).trans (hbe.mono (zA HLE).size))
  have HF9:=zB hF
  have HWL:=zB hwl
  have HP9:=zB hx.1
  have n0:=hx.2.cell 0 rfl 0 rfl
  have n1:=hx.2.cell 0 rfl 1 rfl
  rw [Nat.add_zero] at n0 n1
  clear hv hall hD h0 hx hF hbe hwl
  simp only [zu,List.getElem?_cons_zero,List.getElem?_cons_succ,Option.bind_some,List.length_cons,List.length_nil,Nat.reduceAdd,v9,v7]
  clear v9 v7
  go_frame
  by_cases he:err=0
  ·subst he
   have hrz:=zA HRZ rfl
   have hRO:=fun W (hb:Below w9.heap.size w9 W)=>zNn A4 c4 G4 gc4 Z W ((zA HF9).at_.below hb) hrz
   unfold zi zM stV at hRO
   have HRO:=zB hRO
   clear hRO hrz
   go_wp2_with fail
   go_at_call 32
   refine (zA HRO _ (Below.refl _ _)).mono ?_
   rintro e w10 ⟨T10,tc10,rfl,hS10,hb10⟩
   have HB10:=zB ((zA HB9).below hb10)
   have HL10:=zB ((zA HL9).trans (hb10.mono (zA HL9).size))
   have HS10:=zB hS10
   have HI10:=zB ((zA HF9).at_.below hb10).gens
   have HZ9:Hid (w.heap.size+3≤w9.heap.size):=zB (by have:=(zA HB9).sz (by simp);simpa using this)
   have HOLD:Hid (∀ c o,G4=some ⟨c,o,none⟩→0<Z.gens.length→(0<Y.gens.length∧∃ o',G=some ⟨c,o',none⟩)∨WE.heap.size≤c):=zB (fun c' o e hl=>by
    rcases (zA HF9).blk c' (.inr ⟨hl,o,e⟩) with (⟨_,o',e'⟩ | ⟨hl',o',e'⟩) | h'
    ·exact .inr (zA HWL c' o' e')
    ·exact .inl ⟨hl',o',e'⟩
    ·exact .inr h')
   clear hS10 hb10 n0 n1
   go_wp2_with (refine zG rfl 25 (.tmp 4) (.tmp 38) rfl (w.heap.size+2) 0 [.slice T10 (za Z).length tc10,.slice G4 Z.gens.length gc4] rfl rfl (by simp [Value.oneCell']) size71 ((zA HB10).there 2 rfl 2 rfl) ?_;intro W11 hW;have q1:=(zA HB10).give 2 rfl [.slice T10 (za Z).length tc10,.slice G4 Z.gens.length gc4] rfl;have q3:=zI (w.heap.size+2) (by omega) [.slice T10 (za Z).length tc10,.slice G4 Z.gens.length gc4] 0 _ (zA HL10);have hT:=zCO (w.heap.size+2) [.slice T10 (za Z).length tc10,.slice G4 Z.gens.length gc4] 0 w10;have hz:=zDc (w.heap.size+2) [.slice T10 (za Z).length tc10,.slice G4 Z.gens.length gc4] 0 w10;rw [←hW] at q1 q3 hT hz;have HB11:=zB q1;have HL11:=zB q3;have HT11:=zB hT;have HZ11:=zB hz;clear hW q1 q3 hT hz)
   have t0:=(zA HB11).cell 2 rfl 0 rfl
   have t1:=(zA HB11).cell 2 rfl 1 rfl
   refine bodyPost_ret (v:=.tuple #[.agg #[.slice T10 (za Z).length tc10,.slice G4 Z.gens.length gc4],.int .i64 0]) (by simp [results,Tryz.results11,go_sem,t0,t1]) rfl ⟨T10,tc10,G4,gc4,rfl,⟨fun W' ha hg=>?_,?_,fun c o e hl=>?_⟩,zA HL11⟩
   ·refine zA HS10 W' (fun g' h1 h2=>?_) hg
    have hz:=zA HZ11
    have:=zA HZ9
    exact (ha g' (by omega) (by omega)).trans (zA HT11 g' (by omega))
   ·refine zLJ (zA HI10) fun c o e hl=>zA HT11 c ?_
    rcases zA HOLD c o e hl with ⟨hl',o',e'⟩ | h'
    ·have:=zA HGO c o' e' hl'
     have:=zA HGW c o' e' hl'
     omega
    ·have:=zA HZE
     omega
   ·rcases zA HOLD c o e hl with h' | h'
    ·exact .inl h'
    ·exact .inr (by have:=zA HZE;omega)
  ·have heb:(err == 0)=false:=by simpa using he
   have heb2:(err != 0)=true:=by simpa using he
   go_wp2_with (refine zG rfl 25 (.tmp 4) (.tmp 35) rfl (w.heap.size+2) 0 [.slice none 0 0,.slice none 0 0] rfl rfl (by simp [Value.oneCell']) size71 ((zA HB9).there 2 rfl 2 rfl) ?_;intro W11 hW;have q1:=(zA HB9).give 2 rfl [.slice none 0 0,.slice none 0 0] rfl;have q3:=zI (w.heap.size+2) (by omega) [.slice none 0 0,.slice none 0 0] 0 _ (zA HL9);rw [←hW] at q1 q3;have HB11:=zB q1;have HL11:=zB q3;clear hW q1 q3)
   have t0:=(zA HB11).cell 2 rfl 0 rfl
   have t1:=(zA HB11).cell 2 rfl 1 rfl
   refine bodyPost_ret (v:=.tuple #[.agg #[.slice none 0 0,.slice none 0 0],.int .i64 err]) (by simp [results,Tryz.results11,go_sem,t0,t1]) rfl ?_
   have hz0:=zA HNZ he
   subst hz0
   exact ⟨none,0,none,0,rfl,SQ.empty _ _ _ _,zA HL11⟩
theorem zOb (T:Option Addr) (tcap:Nat) (G:Option Addr) (gcap:Nat) (l:List TabX) (tabs:List TabI) (Y:Wd) (s:SysI) (w:World) (h:AnyS w T G l tabs Y) (hA:ActsAt w s.A s.len s.a) :
  Calls Tryz.prog 11 #[.agg #[.slice T l.length tcap,.slice G Y.gens.length gcap],zIx s] w fun e w'=>∃ T' tc' G' gc',e=.returned (.tuple #[.agg #[.slice T' (za (zGl (zBB l tabs Y).1 Y s).2).length tc',.slice G' (zGl (zBB l tabs Y).1 Y s).2.gens.length gc'],.int .i64 (zGl (zBB l tabs Y).1 Y s).1])∧SQ w.heap.size w' G Y.gens.length T' G' (zGl (zBB l tabs Y).1 Y s).2∧Below w.heap.size w w':=by
 unfold zGl
 by_cases h0:(zBB l tabs Y).1=0
 ·rw [if_neg (by simpa using h0)]
  obtain ⟨_,hl,hAt⟩:=h.stat h0
  rw [hl]
  by_cases hw:(wrF s.m s.al s.no s.a s.len).1=0
  ·exact zKO T tcap G gcap tabs Y s w hAt hA hw
  ·exact zGn T tcap G gcap tabs Y s w hAt hA hw
 ·rw [if_pos h0]
  exact (zNk T tcap G gcap l tabs Y s w h h0).mono fun e w' ⟨he,hb⟩=>⟨none,0,none,0,he,SQ.empty _ _ _ _,hb⟩
end Go.Proofs.YtnbleebilmghcabGreat
set_option maxHeartbeats 4000000
set_option maxRecDepth 8000
namespace Go.Proofs.YtnbleebilmghcabGreat
open Go Go.RowKit
attribute [local go_sem ↓] Go.wp_at_zero Go.wp_at_succ
theorem zMT (T:Option Addr) (tcap:Nat) (G:Option Addr) (gcap:Nat) (l:List TabX) (tabs:List TabI) (Y:Wd) (L:Option Addr) (n lcap:Nat) (w:World) (h:AnyS w T G l tabs Y) (h0:(zBB l tabs Y).1≠0) :
 Calls Tryz.prog 8 #[.agg #[.slice T l.length tcap,.slice G Y.gens.length gcap],.slice L n lcap] w fun e w'=>e=.returned (.tuple #[.agg #[.slice none 0 0,.slice none 0 0],.agg #[.int .i64 (zBB l tabs Y).1,.int .i64 0]])∧Below w.heap.size w w':=by
 have hSW:=fun W (hb:Below w.heap.size w W)=>zAp T tcap G gcap l tabs Y W (h.below hb).tog h.hY (h.below hb).gens h.hrl
 unfold stV at hSW
 generalize (zBB l tabs Y).2=sa at *
 generalize (zBB l tabs Y).1=se at *
 have hse2:(se == 0)=false:=by simpa using h0
 have hse3:(se != 0)=true:=by simpa using h0
 have HSW:=zB hSW
 clear hSW h h0
 obtain ⟨W0,hW0⟩:∃ W0,W0=zt w [([.slice T l.length tcap,.slice G Y.gens.length gcap],25),([.slice none 0 0,.slice none 0 0],25),([.int .i64 0,.int .i64 0],29)]:=⟨_,rfl⟩
 have hX0:=Bxs.start w [([.slice T l.length tcap,.slice G Y.gens.length gcap],25),([.slice none 0 0,.slice none 0 0],25),([.int .i64 0,.int .i64 0],29)]
 have hb0:=allocs_below [([.slice T l.length tcap,.slice G Y.gens.length gcap],25),([.slice none 0 0,.slice none 0 0],25),([.int .i64 0,.int .i64 0],29)] w
 rw [←hW0] at hX0 hb0
 have hW0':((w.alloc (.cells #[.slice T l.length tcap,.slice G Y.gens.length gcap] 25)).alloc (.cells #[.slice none 0 0,.slice none 0 0] 25)).alloc (.cells #[.int .i64 0,.int .i64 0] 29)=W0:=hW0.symm
 have HW0:=zB hW0'
 clear hW0 hW0'
 have c0:=hX0.cell 0 rfl 0 rfl
 have c1:=hX0.cell 0 rfl 1 rfl
 rw [Nat.add_zero] at c0 c1
 have HB0:=zB hX0
 have HL0:=zB hb0
 clear hX0 hb0
 go_enter Tryz.func8,Tryz.ntmps8
 go_upto_region 1 with fail
 rw [zA HW0]
 clear HW0
 go_wp2_with fail
 go_at_call 27
 refine (zA HSW _ (zA HL0)).mono ?_
 rintro e w5 ⟨rfl,hb5⟩
 obtain ⟨W6,hW6⟩:∃ W6,W6=zt w5 [([.int .i64 se,.int .i64 sa],29)]:=⟨_,rfl⟩
 have hX6:=Bxs.start w5 [([.int .i64 se,.int .i64 sa],29)]
 have hb6:=allocs_below [([.int .i64 se,.int .i64 sa],29)] w5
 rw [←hW6] at hX6 hb6
 have hW6':w5.alloc (.cells #[.int .i64 se,.int .i64 sa] 29)=W6:=hW6.symm
 have HW6:=zB hW6'
 clear hW6 hW6'
 have hb56:=hb5.trans (hb6.mono hb5.size)
 have hB6:=(zA HB0).below hb56
 have HZ5:Hid (w.heap.size+3≤w5.heap.size):=zB (by have:=((zA HB0).below hb5).sz (by simp);simpa using this)
 have f0:=hX6.cell 0 rfl 0 rfl
 rw [Nat.add_zero] at f0
 have hL6:=(zA HL0).trans (hb56.mono (zA HL0).size)
 have HB6:=zB hB6
 have HL6:=zB hL6
 have HX6:=zB hX6
 clear c0 c1 hB6 hL6 hX6 hb5 hb6 hb56 HB0 HL0 HSW
 go_upto_region 2 with fail
 rw [zA HW6]
 clear HW6
 go_wp2_with fail
 clear f0
 have h0:(fun (_:Unit) (L:Nat→Bool) W=>Bxs w.heap.size [([.slice T l.length tcap,.slice G Y.gens.length gcap],25),([.slice none 0 0,.slice none 0 0],25),(if L 5=true then [.int .i64 se,.int .i64 0] else [.int .i64 0,.int .i64 0],29)] W∧Bxs w5.heap.size [([.int .i64 se,.int .i64 sa],29)] W∧Below w.heap.size w W) () (fun _=>false) W6.drew:=⟨(zA HB6).below (Below.refl _ _).drew,(zA HX6).below (Below.refl _ _).drew,(zA HL6).drew⟩
 refine zd (fun (γ:Unit) ix v=>(([fun v=>v=.agg #[.slice none 0 0,.slice none 0 0],fun v=>v=.pointer (some ⟨w5.heap.size,0,none⟩),fun v=>v=.int .i64 se,fun v=>v=.agg #[.int .i64 se,.int .i64 0],fun _=>True,fun _=>True]:List (Value→Prop)).getD ix (fun _=>True)) v) (fun (_:Unit) (L:Nat→Bool) W=>Bxs w.heap.size [([.slice T l.length tcap,.slice G Y.gens.length gcap],25),([.slice none 0 0,.slice none 0 0],25),(if L 5=true then [.int .i64 se,.int .i64 0] else [.int .i64 0,.int .i64 0],29)] W∧Bxs w5.heap.size [([.int .i64 se,.int .i64 sa],29)] W∧Below w.heap.size w W) (()) (by kernel_rfl) (by kernel_rfl) (by kernel_rfl) h0 ?hstep ?hend
 case hstep =>
  intro γ ix o ho L ac w1 hD hL hed hcl hout hv
  match ix,ho with
  | 0,ho =>
   simp at ho
   subst ho
   exact .inl ⟨rfl,zF γ _ (by simp [go_sem,Act.eval,-Array.getD_eq_getD_getElem?,]) rfl (by rw [zL (by decide)];exact hD) (fun _ _ _ _ h=>h)⟩
  | 1,ho =>
   simp at ho
   subst ho
   have e6:ac.tmps.getD 6 undef=.pointer (some ⟨w5.heap.size,0,none⟩):=hout 6 (by decide +kernel)
   exact .inl ⟨rfl,zF γ _ (by simp [go_sem,Act.eval,-Array.getD_eq_getD_getElem?,e6]) rfl (by rw [zL (by decide)];exact hD) (fun _ _ _ _ h=>h)⟩
  | 2,ho =>
   simp at ho
   subst ho
   have e17:ac.tmps.getD 17 undef=_:=hv 1 17 rfl (by kernel_rfl)
   have c0:=hD.2.1.cell 0 rfl 0 rfl
   rw [Nat.add_zero] at c0
   exact .inl ⟨rfl,zF γ _ (by simp [go_sem,Act.eval,-Array.getD_eq_getD_getElem?,e17,c0]) rfl (by rw [zL (by decide)];exact hD) (fun _ _ _ _ h=>h)⟩
  | 3,ho =>
   simp at ho
   subst ho
   have e18:ac.tmps.getD 18 undef=.int .i64 se:=hv 2 18 rfl (by kernel_rfl)
   exact .inl ⟨rfl,zF γ _ (by simp [go_sem,Act.eval,-Array.getD_eq_getD_getElem?,e18]) rfl (by rw [zL (by decide)];exact hD) (fun _ _ _ _ h=>h)⟩
  | 4,ho =>
   simp at ho
   subst ho
   have e4:ac.tmps.getD 4 undef=.pointer (some ⟨w.heap.size+1,0,none⟩):=hout 4 (by decide +kernel)
   have e16:ac.tmps.getD 16 undef=_:=hv 0 16 rfl (by kernel_rfl)
   have hg:=hD.1.give 1 rfl [.slice none 0 0,.slice none 0 0] rfl
   refine .inl ⟨rfl,zAu γ 25 (.tmp 4) (.tmp 16) rfl (w.heap.size+1) 0 [.slice none 0 0,.slice none 0 0] (by simp [Act.eval,-Array.getD_eq_getD_getElem?,e4]) (by simp [Act.eval,-Array.getD_eq_getD_getElem?,e16]) (by simp [Value.oneCell']) size71 (hD.1.there 1 rfl 2 rfl) trivial ⟨?_,hD.2.1.turn (.inl (by have:=zA HZ5;omega)),zI (w.heap.size+1) (by omega) _ 0 _ hD.2.2⟩ (fun _ _ _ _ h=>h)⟩
   rw [zL (by decide)]
   exact hg
  | 5,ho =>
   simp at ho
   subst ho
   have e5:ac.tmps.getD 5 undef=.pointer (some ⟨w.heap.size+2,0,none⟩):=hout 5 (by decide +kernel)
   have e19:ac.tmps.getD 19 undef=_:=hv 3 19 rfl (by kernel_rfl)
   have hg:=hD.1.give 2 rfl [.int .i64 se,.int .i64 0] (by rw [hL];rfl)
   refine .inl ⟨rfl,zAu γ 29 (.tmp 5) (.tmp 19) rfl (w.heap.size+2) 0 [.int .i64 se,.int .i64 0] (by simp [Act.eval,-Array.getD_eq_getD_getElem?,e5]) (by simp [Act.eval,-Array.getD_eq_getD_getElem?,e19]) (by simp [Value.oneCell']) size43t (hD.1.there 2 rfl 2 (by rw [hL];rfl)) trivial ⟨?_,hD.2.1.turn (.inl (by have:=zA HZ5;omega)),zI (w.heap.size+2) (by omega) _ 0 _ hD.2.2⟩ (fun _ _ _ _ h=>h)⟩
   rw [zAw,if_pos rfl]
   exact hg
  | ix+6,ho=>simp at ho
 case hend =>
  intro γ v L w9 hD hall hv
  rw [hall 5 (by decide),if_pos rfl] at hD
  have t0:=hD.1.cell 1 rfl 0 rfl
  have t1:=hD.1.cell 1 rfl 1 rfl
  have u0:=hD.1.cell 2 rfl 0 rfl
  have u1:=hD.1.cell 2 rfl 1 rfl
  have HD:=zB hD.2.2
  clear hv hall hD h0
  simp only [zu,List.getElem?_cons_zero,List.getElem?_cons_succ,Option.bind_some,List.length_cons,List.length_nil,Nat.reduceAdd]
  go_frame
  go_wp2
  refine bodyPost_ret (v:=.tuple #[.agg #[.slice none 0 0,.slice none 0 0],.agg #[.int .i64 se,.int .i64 0]]) (by simp [results,Tryz.results8,go_sem,t0,t1,u0,u1]) rfl ⟨rfl,zA HD⟩
theorem zOc (T:Option Addr) (tcap:Nat) (G:Option Addr) (gcap:Nat) (tabs:List TabI) (Y:Wd) (s:SysI) (w:World) (h:StAt w T G tabs Y) (hA:ActsAt w s.A s.len s.a) :
  Calls Tryz.prog 11 #[.agg #[.slice T tabs.length tcap,.slice G Y.gens.length gcap],zIx s] w fun e w'=>∃ T' tc' G' gc',e=.returned (.tuple #[.agg #[.slice T' (za (zCi Y s).2).length tc',.slice G' (zCi Y s).2.gens.length gc'],.int .i64 (zCi Y s).1])∧SQ w.heap.size w' G Y.gens.length T' G' (zCi Y s).2∧Below w.heap.size w w':=by
 by_cases hw:(wrF s.m s.al s.no s.a s.len).1=0
 ·exact zKO T tcap G gcap tabs Y s w h hA hw
 ·exact zGn T tcap G gcap tabs Y s w h hA hw
theorem zJT (T:Option Addr) (tcap:Nat) (G:Option Addr) (gcap:Nat) (tabs:List TabI) (Y:Wd) (L:Option Addr) (n lcap:Nat) (S:Nat→SysI) (w:World) (h:StAt w T G tabs Y) (hn:n≤4194304) (hS:SyssAt w L n S) :
  Calls Tryz.prog 8 #[.agg #[.slice T tabs.length tcap,.slice G Y.gens.length gcap],.slice L n lcap] w fun e w'=>∃ T' tc' G' gc',e=.returned (.tuple #[.agg #[.slice T' (za (zBg S n 0 Y).2).length tc',.slice G' (zBg S n 0 Y).2.gens.length gc'],.agg #[.int .i64 (zBg S n 0 Y).1.1,.int .i64 (zBg S n 0 Y).1.2]])∧StAt w' T' G' (za (zBg S n 0 Y).2) (zBg S n 0 Y).2∧Below w.heap.size w w':=by
 obtain ⟨hAny,hE,hml⟩:=AnyS.of h
 have hSW:=fun W (hb:Below w.heap.size w W)=>zAp T tcap G gcap (tabs.map toX) tabs Y W (hAny.below hb).tog hAny.hY (hAny.below hb).gens hAny.hrl
 rw [hE,hml] at hSW
 unfold stV at hSW
 have hSD:=fun W (hb:Below w.heap.size w W)=>SD.start (B:=w.heap.size+3) h hb
 have hGL:=zHl h.gens
 obtain ⟨RR,hRR⟩:∃ RR,RR=zBg S n 0 Y:=⟨_,rfl⟩
 rw [←hRR]
 have HRR:=zB hRR
 have HSW:=zB hSW
 have HSD:=zB hSD
 have HS:=zB hS
 have HGL:=zB hGL
 clear hSW hSD hRR hAny hE hml h hS hGL
 obtain ⟨W0,hW0⟩:∃ W0,W0=zt w [([.slice T tabs.length tcap,.slice G Y.gens.length gcap],25),([.slice none 0 0,.slice none 0 0],25),([.int .i64 0,.int .i64 0],29)]:=⟨_,rfl⟩
 have hX0:=Bxs.start w [([.slice T tabs.length tcap,.slice G Y.gens.length gcap],25),([.slice none 0 0,.slice none 0 0],25),([.int .i64 0,.int .i64 0],29)]
 have hb0:=allocs_below [([.slice T tabs.length tcap,.slice G Y.gens.length gcap],25),([.slice none 0 0,.slice none 0 0],25),([.int .i64 0,.int .i64 0],29)] w
 rw [←hW0] at hX0 hb0
 have hW0':((w.alloc (.cells #[.slice T tabs.length tcap,.slice G Y.gens.length gcap] 25)).alloc (.cells #[.slice none 0 0,.slice none 0 0] 25)).alloc (.cells #[.int .i64 0,.int .i64 0] 29)=W0:=hW0.symm
 have HW0:=zB hW0'
 clear hW0 hW0'
 have c0:=hX0.cell 0 rfl 0 rfl
 have c1:=hX0.cell 0 rfl 1 rfl
 rw [Nat.add_zero] at c0 c1
 have HB0:=zB hX0
 have HL0:=zB hb0
 clear hX0 hb0
 go_enter Tryz.func8,Tryz.ntmps8
 go_upto_region 1 with fail
 rw [zA HW0]
 clear HW0
 go_wp2_with fail
 go_at_call 27
 refine (zA HSW _ (zA HL0)).mono ?_
 rintro e w5 ⟨rfl,hb5⟩
 obtain ⟨W6,hW6⟩:∃ W6,W6=zt w5 [([.int .i64 0,.int .i64 0],29)]:=⟨_,rfl⟩
 have hX6:=Bxs.start w5 [([.int .i64 0,.int .i64 0],29)]
 have hb6:=allocs_below [([.int .i64 0,.int .i64 0],29)] w5
 rw [←hW6] at hX6 hb6
 have hW6':w5.alloc (.cells #[.int .i64 0,.int .i64 0] 29)=W6:=hW6.symm
 have HW6:=zB hW6'
 clear hW6 hW6'
 have hb56:=hb5.trans (hb6.mono hb5.size)
 have f0:=hX6.cell 0 rfl 0 rfl
 rw [Nat.add_zero] at f0
 have HB6:=zB ((zA HB0).below hb56)
 have HL6:=zB ((zA HL0).trans (hb56.mono (zA HL0).size))
 clear c0 c1 hX6 hb5 hb6 hb56 HB0 HL0 HSW
 go_upto_region 2 with fail
 rw [zA HW6]
 clear HW6
 go_wp2_with fail
 clear f0
 go_loopw [22] (fun x wr=>∃ j:Nat,j≤n∧x=.int .i64 (j:Int)∧∃ Tc tcc Gc gcc tabc Yc,Bxs w.heap.size [([.slice Tc tabc.length tcc,.slice Gc Yc.gens.length gcc],25),([.slice none 0 0,.slice none 0 0],25),([.int .i64 0,.int .i64 0],29)] wr∧Below w.heap.size w wr∧SD w.heap.size (w.heap.size+3) wr Tc Gc tabc Yc∧(∀ c o,Gc=some ⟨c,o,none⟩→0<Yc.gens.length→c<w.heap.size∨w.heap.size+3≤c)∧RR=zBg S (n - j) j Yc) (fun x _=>n - (intOf x).toNat)
 case atStart=>exact ⟨0,Nat.zero_le _,rfl,T,tcap,G,gcap,tabs,Y,zA HB6,zA HL6,zA HSD _ (zA HL6),fun c o e hl=>.inl (zA HGL c o e hl),zA HRR⟩
 case round =>
  clear HB6 HL6 HSD HRR
  obtain ⟨j,hj,rfl,Tc,tcc,Gc,gcc,tabc,Yc,hB,hL,hD,hGc,hRc⟩:=hrel
  by_cases hlt:j<n
  ·have j0:(0:Int)≤(j:Int):=by omega
   have j1:(j:Int)<(n:Int):=by omega
   rw [zIn S n j Yc hlt] at hRc
   obtain ⟨b,off,hLe,hSy⟩:=(zA HS).below hL j hlt
   obtain ⟨s,hs⟩:∃ s,s=S j:=⟨_,rfl⟩
   rw [←hs] at hSy hRc
   have c0:=hSy.c0
   have c1:=hSy.c1
   have c2:=hSy.c2
   have c3:=hSy.c3
   obtain ⟨wq,rfl⟩:∃ wq,wq=wr:=⟨_,rfl⟩
   obtain ⟨W4,hW4⟩:∃ W4,W4=zt wq [([.int .i64 s.m,.int .i64 s.al,.int .i64 s.no,.slice s.A s.len s.cap],37)]:=⟨_,rfl⟩
   have hX4:=Bxs.start wq [([.int .i64 s.m,.int .i64 s.al,.int .i64 s.no,.slice s.A s.len s.cap],37)]
   have hb4:=allocs_below [([.int .i64 s.m,.int .i64 s.al,.int .i64 s.no,.slice s.A s.len s.cap],37)] wq
   rw [←hW4] at hX4 hb4
   have hW4':wq.alloc (.cells #[.int .i64 s.m,.int .i64 s.al,.int .i64 s.no,.slice s.A s.len s.cap] 37)=W4:=hW4.symm
   have HW4:=zB hW4'
   clear hW4 hW4'
   have hB4:=hB.below hb4
   have hL4:=hL.trans (hb4.mono hL.size)
   have hD4:=hD.below hb4
   have hRS:=zOc Tc tcc Gc gcc tabc Yc s W4 hD4.at_ (hSy.acts.below hb4)
   have HZ4:Hid (w.heap.size+3≤W4.heap.size):=zB (by have:=hB4.sz (by simp);simpa using this)
   obtain ⟨Z,hZ⟩:∃ Z,Z=(zCi Yc s).2:=⟨_,rfl⟩
   obtain ⟨err,herr⟩:∃ err,err=(zCi Yc s).1:=⟨_,rfl⟩
   rw [←hZ,←herr] at hRS hRc
   unfold zIx zDV at hRS
   have s0:=hB4.cell 0 rfl 0 rfl
   have s1:=hB4.cell 0 rfl 1 rfl
   have y0:=hX4.cell 0 rfl 0 rfl
   have y1:=hX4.cell 0 rfl 1 rfl
   have y2:=hX4.cell 0 rfl 2 rfl
   have y3:=hX4.cell 0 rfl 3 rfl
   rw [Nat.add_zero] at s0 s1 y0 y1 y2 y3
   have HRS:=zB hRS
   have HB4:=zB hB4
   have HL4:=zB hL4
   have HRC:=zB hRc
   have HGC:=zB hGc
   clear hB hL hD hGc hRc hSy hB4 hL4 hD4 hRS hb4 hX4 hZ herr hs
   subst hLe
   go_upto_region 7 with fail
   rw [zA HW4]
   clear HW4 c0 c1 c2 c3
   go_wp2_with fail
   go_at_call 11
   refine (zA HRS).mono ?_
   rintro e w5' ⟨T5,tc5,G5,gc5,rfl,hQ5,hb5⟩
   obtain ⟨W7,hW7⟩:∃ W7,W7=zt w5' [([.slice T5 (za Z).length tc5,.slice G5 Z.gens.length gc5],25)]:=⟨_,rfl⟩
   have hX7:=Bxs.start w5' [([.slice T5 (za Z).length tc5,.slice G5 Z.gens.length gc5],25)]
   have hb7:=allocs_below [([.slice T5 (za Z).length tc5,.slice G5 Z.gens.length gc5],25)] w5'
   rw [←hW7] at hX7 hb7
   have hW7':w5'.alloc (.cells #[.slice T5 (za Z).length tc5,.slice G5 Z.gens.length gc5] 25)=W7:=hW7.symm
   have HW7:=zB hW7'
   clear hW7 hW7'
   have hb57:=hb5.trans (hb7.mono hb5.size)
   have HB7:=zB ((zA HB4).below hb57)
   have HL7:=zB ((zA HL4).trans (hb57.mono (zA HL4).size))
   have hG5:∀ c o,G5=some ⟨c,o,none⟩→0<Z.gens.length→c<w.heap.size∨w.heap.size+3≤c:=fun c o e hl=>by
    rcases hQ5.old c o e hl with ⟨hl',o',e'⟩ | h'
    ·exact zA HGC c o' e' hl'
    ·exact .inr (Nat.le_trans (zA HZ4) h')
   have hD5:SD w.heap.size (w.heap.size+3) w5' T5 G5 (za Z) Z:=SD.mk hQ5.st (zA HZ4) hQ5.gens hG5
   have HS7:=zB (hD5.below hb7)
   have n0:=hX7.cell 0 rfl 0 rfl
   have n1:=hX7.cell 0 rfl 1 rfl
   rw [Nat.add_zero] at n0 n1
   have HG5:=zB hG5
   clear s0 s1 y0 y1 y2 y3 hX7 hb5 hb7 hb57 hQ5 hG5 hD5 HB4 HL4 HRS HGC
   go_upto_region 8 with fail
   rw [zA HW7]
   clear HW7
   by_cases he:err=0
   ·subst he
    have hR2:=zA HRC
    rw [if_neg (by simp)] at hR2
    have HR2:=zB hR2
    clear hR2
    go_wp2_with (refine zG rfl 25 (.tmp 2) (.tmp 39) rfl (w.heap.size+0) 0 [.slice T5 (za Z).length tc5,.slice G5 Z.gens.length gc5] rfl rfl (by simp [Value.oneCell']) size71 ((zA HB7).there 0 rfl 2 rfl) ?_;intro W8 hW;have q1:=(zA HB7).give 0 rfl [.slice T5 (za Z).length tc5,.slice G5 Z.gens.length gc5] rfl;have q3:=zI (w.heap.size+0) (by omega) [.slice T5 (za Z).length tc5,.slice G5 Z.gens.length gc5] 0 _ (zA HL7);have q4:=(zA HS7).put (b:=w.heap.size+0) (o:=0) (vs:=[.slice T5 (za Z).length tc5,.slice G5 Z.gens.length gc5]) (by omega) (by omega);rw [←hW] at q1 q3 q4;have HB8:=zB q1;have HL8:=zB q3;have HS8:=zB q4;clear hW q1 q3 q4)
    go_roundw
    case rel=>exact ⟨j+1,by omega,by go_num,T5,tc5,G5,gc5,za Z,Z,zA HB8,zA HL8,zA HS8,zA HG5,zA HR2⟩
    case measure=>simp [intOf];omega
   ·have hne:(err == 0)=false:=by simpa using he
    have hne2:(err != 0)=true:=by simpa using he
    have hR2:=zA HRC
    rw [if_pos he] at hR2
    have HR2:=zB hR2
    clear hR2 HRC
    go_wp2_with (first
     | (refine zG rfl 25 (.tmp 4) (.tmp 35) rfl (w.heap.size+1) 0 [.slice none 0 0,.slice none 0 0] rfl rfl (by simp [Value.oneCell']) size71 ((zA HB7).there 1 rfl 2 rfl) ?_;intro W8 hW;have q1:=(zA HB7).give 1 rfl [.slice none 0 0,.slice none 0 0] rfl;have q3:=zI (w.heap.size+1) (by omega) [.slice none 0 0,.slice none 0 0] 0 _ (zA HL7);rw [←hW] at q1 q3;have HB8:=zB q1;have HL8:=zB q3;clear hW q1 q3)
     | (refine zG rfl 29 (.tmp 5) (.tmp 38) rfl (w.heap.size+2) 0 [.int .i64 err,.int .i64 (j:Int)] rfl rfl (by simp [Value.oneCell']) size43t ((zA HB8).there 2 rfl 2 rfl) ?_;intro W9 hW;have q1:=(zA HB8).give 2 rfl [.int .i64 err,.int .i64 (j:Int)] rfl;have q3:=zI (w.heap.size+2) (by omega) [.int .i64 err,.int .i64 (j:Int)] 0 _ (zA HL8);rw [←hW] at q1 q3;have HB9:=zB q1;have HL9:=zB q3;clear hW q1 q3))
    have t0:=(zA HB9).cell 1 rfl 0 rfl
    have t1:=(zA HB9).cell 1 rfl 1 rfl
    have u0:=(zA HB9).cell 2 rfl 0 rfl
    have u1:=(zA HB9).cell 2 rfl 1 rfl
    refine bodyPost_ret (v:=.tuple #[.agg #[.slice none 0 0,.slice none 0 0],.agg #[.int .i64 err,.int .i64 (j:Int)]]) (by simp [results,Tryz.results8,go_sem,t0,t1,u0,u1]) rfl ?_
    rw [zA HR2]
    exact ⟨none,0,none,0,rfl,(SQ.empty 0 _ none 0).at_,zA HL9⟩
  ·obtain rfl:j=n:=by omega
   have s0:=hB.cell 0 rfl 0 rfl
   have s1:=hB.cell 0 rfl 1 rfl
   rw [Nat.add_zero] at s0 s1
   have HB7:=zB hB
   have HL7:=zB hL
   have HS7:=zB hD
   have hR2:=hRc
   rw [Nat.sub_self,zBg] at hR2
   have HR2:=zB hR2
   clear hB hL hD hGc hRc hR2
   go_wp2_with (first
    | (refine zG rfl 25 (.tmp 4) (.tmp 41) rfl (w.heap.size+1) 0 [.slice Tc tabc.length tcc,.slice Gc Yc.gens.length gcc] rfl rfl (by simp [Value.oneCell']) size71 ((zA HB7).there 1 rfl 2 rfl) ?_;intro W8 hW;have q1:=(zA HB7).give 1 rfl [.slice Tc tabc.length tcc,.slice Gc Yc.gens.length gcc] rfl;have q3:=zI (w.heap.size+1) (by omega) [.slice Tc tabc.length tcc,.slice Gc Yc.gens.length gcc] 0 _ (zA HL7);have q4:=(zA HS7).put (b:=w.heap.size+1) (o:=0) (vs:=[.slice Tc tabc.length tcc,.slice Gc Yc.gens.length gcc]) (by omega) (by omega);rw [←hW] at q1 q3 q4;have HB8:=zB q1;have HL8:=zB q3;have HS8:=zB q4;clear hW q1 q3 q4)
    | (refine zG rfl 29 (.tmp 5) (.tmp 42) rfl (w.heap.size+2) 0 [.int .i64 0,.int .i64 0] rfl rfl (by simp [Value.oneCell']) size43t ((zA HB8).there 2 rfl 2 rfl) ?_;intro W9 hW;have q1:=(zA HB8).give 2 rfl [.int .i64 0,.int .i64 0] rfl;have q3:=zI (w.heap.size+2) (by omega) [.int .i64 0,.int .i64 0] 0 _ (zA HL8);have q4:=(zA HS8).put (b:=w.heap.size+2) (o:=0) (vs:=[.int .i64 0,.int .i64 0]) (by omega) (by omega);rw [←hW] at q1 q3 q4;have HB9:=zB q1;have HL9:=zB q3;have HS9:=zB q4;clear hW q1 q3 q4))
   have t0:=(zA HB9).cell 1 rfl 0 rfl
   have t1:=(zA HB9).cell 1 rfl 1 rfl
   have u0:=(zA HB9).cell 2 rfl 0 rfl
   have u1:=(zA HB9).cell 2 rfl 1 rfl
   refine bodyPost_ret (v:=.tuple #[.agg #[.slice Tc tabc.length tcc,.slice Gc Yc.gens.length gcc],.agg #[.int .i64 0,.int .i64 0]]) (by simp [results,Tryz.results8,go_sem,t0,t1,u0,u1]) rfl ?_
   rw [zA HR2]
   have hAt:=(zA HS9).at_
   have hTb:=zNc hAt
   subst hTb
   exact ⟨Tc,tcc,Gc,gcc,rfl,hAt,zA HL9⟩
theorem zNo (T:Option Addr) (tcap:Nat) (G:Option Addr) (gcap:Nat) (l:List TabX) (tabs:List TabI) (Y:Wd) (L:Option Addr) (n lcap:Nat) (S:Nat→SysI) (w:World) (h:AnyS w T G l tabs Y) (hn:n≤4194304) (hS:SyssAt w L n S) :
  Calls Tryz.prog 8 #[.agg #[.slice T l.length tcap,.slice G Y.gens.length gcap],.slice L n lcap] w fun e w'=>∃ T' tc' G' gc',e=.returned (.tuple #[.agg #[.slice T' (za (zFS (zBB l tabs Y).1 S n Y).2).length tc',.slice G' (zFS (zBB l tabs Y).1 S n Y).2.gens.length gc'],.agg #[.int .i64 (zFS (zBB l tabs Y).1 S n Y).1.1,.int .i64 (zFS (zBB l tabs Y).1 S n Y).1.2]])∧StAt w' T' G' (za (zFS (zBB l tabs Y).1 S n Y).2) (zFS (zBB l tabs Y).1 S n Y).2∧Below w.heap.size w w':=by
 unfold zFS
 by_cases h0:(zBB l tabs Y).1=0
 ·rw [if_neg (by simpa using h0)]
  obtain ⟨_,hl,hAt⟩:=h.stat h0
  rw [hl]
  exact zJT T tcap G gcap tabs Y L n lcap S w hAt hn hS
 ·rw [if_pos h0]
  exact (zMT T tcap G gcap l tabs Y L n lcap w h h0).mono fun e w' ⟨he,hb⟩=>⟨none,0,none,0,he,(SQ.empty 0 _ none 0).at_,hb⟩
end Go.Proofs.YtnbleebilmghcabGreat
set_option maxHeartbeats 8000000
set_option maxRecDepth 8000
namespace Go.Proofs.YtnbleebilmghcabGreat
open Go Go.RowKit
attribute [local go_sem ↓] Go.wp_at_zero Go.wp_at_succ
theorem rtells_law (T:Option Addr) (tcap:Nat) (G:Option Addr) (gcap:Nat) (l:List TabX) (tabs:List TabI) (Y:Wd) (L:Option Addr) (n lcap:Nat) (S:Nat→SysI) (w:World) (h:AnyS w T G l tabs Y) (hn:n≤4194304) (hS:SyssAt w L n S) :
  Calls Tryz.prog 3 #[.agg #[.slice T l.length tcap,.slice G Y.gens.length gcap],.slice L n lcap] w fun e w'=>e=.returned (.bool true)∧Below w.heap.size w w':=by
 have hA1:=fun W (hb:Below w.heap.size w W)=>zNT T tcap G gcap l tabs Y L n lcap S W (h.below hb) hn (hS.below hb)
 have hA2:=fun W (hb:Below w.heap.size w W)=>zNo T tcap G gcap l tabs Y L n lcap S W (h.below hb) hn (hS.below hb)
 have hR1:=fun s W (hb:Below w.heap.size w W) (hA:ActsAt W s.A s.len s.a)=>zOa T tcap G gcap l tabs Y s W (h.below hb) hA
 have hR2:=fun s W (hb:Below w.heap.size w W) (hA:ActsAt W s.A s.len s.a)=>zOb T tcap G gcap l tabs Y s W (h.below hb) hA
 generalize (zBB l tabs Y).1=se at *
 obtain ⟨Z,hZ⟩:∃ Z,Z=(zFS se S n Y).2:=⟨_,rfl⟩
 obtain ⟨e1,he1⟩:∃ e1,e1=(zFS se S n Y).1.1:=⟨_,rfl⟩
 obtain ⟨e2,he2⟩:∃ e2,e2=(zFS se S n Y).1.2:=⟨_,rfl⟩
 rw [←hZ,←he1,←he2] at hA1 hA2
 unfold stV at hA1 hR1
 unfold zIx zDV at hR1 hR2
 have HA1:=zB hA1
 have HA2:=zB hA2
 have HR1:=zB hR1
 have HR2:=zB hR2
 have HS:=zB hS
 clear hA1 hA2 hR1 hR2 hS h hZ he1 he2
 obtain ⟨W0,hW0⟩:∃ W0,W0=zt w [([.slice T l.length tcap,.slice G Y.gens.length gcap],25)]:=⟨_,rfl⟩
 have hX0:=Bxs.start w [([.slice T l.length tcap,.slice G Y.gens.length gcap],25)]
 have hb0:=allocs_below [([.slice T l.length tcap,.slice G Y.gens.length gcap],25)] w
 rw [←hW0] at hX0 hb0
 have hW0':w.alloc (.cells #[.slice T l.length tcap,.slice G Y.gens.length gcap] 25)=W0:=hW0.symm
 have HW0:=zB hW0'
 clear hW0 hW0'
 have c0:=hX0.cell 0 rfl 0 rfl
 have c1:=hX0.cell 0 rfl 1 rfl
 rw [Nat.add_zero] at c0 c1
 have HB0:=zB hX0
 have HL0:=zB hb0
 clear hX0 hb0
 go_enter Tryz.func3,Tryz.ntmps3
 go_upto_region 1 with fail
 rw [zA HW0]
 clear HW0
 go_wp2_with fail
 go_at_call 7
 refine (zA HA1 _ (zA HL0)).mono ?_
 rintro e w1 ⟨T1,tc1,G1,gc1,rfl,hN1,hb1⟩
 obtain ⟨W2,hW2⟩:∃ W2,W2=zt w1 [([.slice T1 (za Z).length tc1,.slice G1 Z.gens.length gc1],25),([.int .i64 e1,.int .i64 e2],29)]:=⟨_,rfl⟩
 have hX2:=Bxs.start w1 [([.slice T1 (za Z).length tc1,.slice G1 Z.gens.length gc1],25),([.int .i64 e1,.int .i64 e2],29)]
 have hb2:=allocs_below [([.slice T1 (za Z).length tc1,.slice G1 Z.gens.length gc1],25),([.int .i64 e1,.int .i64 e2],29)] w1
 rw [←hW2] at hX2 hb2
 have hW2':(w1.alloc (.cells #[.slice T1 (za Z).length tc1,.slice G1 Z.gens.length gc1] 25)).alloc (.cells #[.int .i64 e1,.int .i64 e2] 29)=W2:=hW2.symm
 have HW2:=zB hW2'
 clear hW2 hW2'
 have hb12:=hb1.trans (hb2.mono hb1.size)
 have hB2:=(zA HB0).below hb12
 clear c0 c1
 have c0:=hB2.cell 0 rfl 0 rfl
 have c1:=hB2.cell 0 rfl 1 rfl
 rw [Nat.add_zero] at c0 c1
 have HB2:=zB hB2
 have HL2:=zB ((zA HL0).trans (hb12.mono (zA HL0).size))
 have HX2:=zB hX2
 have HN2:=zB (hN1.st.below hb2)
 clear hB2 hX2 hN1 hb1 hb2 hb12 HB0 HL0 HA1
 go_upto_region 2 with fail
 rw [zA HW2]
 clear HW2
 go_wp2_with fail
 go_at_call 8
 refine (zA HA2 _ (zA HL2)).mono ?_
 rintro e w3 ⟨T2,tc2,G2,gc2,rfl,hN3,hb3⟩
 obtain ⟨W4,hW4⟩:∃ W4,W4=zt w3 [([.slice T2 (za Z).length tc2,.slice G2 Z.gens.length gc2],25),([.int .i64 e1,.int .i64 e2],29)]:=⟨_,rfl⟩
 have hX4:=Bxs.start w3 [([.slice T2 (za Z).length tc2,.slice G2 Z.gens.length gc2],25),([.int .i64 e1,.int .i64 e2],29)]
 have hb4:=allocs_below [([.slice T2 (za Z).length tc2,.slice G2 Z.gens.length gc2],25),([.int .i64 e1,.int .i64 e2],29)] w3
 rw [←hW4] at hX4 hb4
 have hW4':(w3.alloc (.cells #[.slice T2 (za Z).length tc2,.slice G2 Z.gens.length gc2] 25)).alloc (.cells #[.int .i64 e1,.int .i64 e2] 29)=W4:=hW4.symm
 have HW4:=zB hW4'
 clear hW4 hW4'
 have hb34:=hb3.trans (hb4.mono hb3.size)
 have hX2':=(zA HX2).below hb34
 clear c0 c1
 have c0:=hX2'.cell 0 rfl 0 rfl
 have c1:=hX2'.cell 0 rfl 1 rfl
 have c2:=hX2'.cell 1 rfl 0 rfl
 have c3:=hX2'.cell 1 rfl 1 rfl
 have d0:=hX4.cell 0 rfl 0 rfl
 have d1:=hX4.cell 0 rfl 1 rfl
 have d2:=hX4.cell 1 rfl 0 rfl
 have d3:=hX4.cell 1 rfl 1 rfl
 rw [Nat.add_zero] at c0 c1 d0 d1
 have HB4:=zB ((zA HB2).below hb34)
 have HL4:=zB ((zA HL2).trans (hb34.mono (zA HL2).size))
 have hSM:=zKK W4 T1 tc1 G1 gc1 T2 tc2 G2 gc2 ((zA HN2).below hb34) (hN3.below hb4)
 have HSM:=zB hSM
 clear hX2' hX4 hN3 hb3 hb4 hb34 hSM HB2 HL2 HX2 HN2 HA2
 go_upto_region 3 with fail
 rw [zA HW4]
 clear HW4
 go_wp2_with fail
 go_at_call 9
 refine (zA HSM).mono ?_
 rintro e w5 ⟨rfl,hb5⟩
 have HB5:=zB ((zA HB4).below hb5)
 have HL5:=zB ((zA HL4).trans (hb5.mono (zA HL4).size))
 clear c0 c1 c2 c3 d0 d1 d2 d3 hb5 HB4 HL4 HSM
 go_wp2_with fail
 go_loopw [38] (fun x wr=>∃ j:Nat,j≤n∧x=.int .i64 (j:Int)∧Bxs w.heap.size [([.slice T l.length tcap,.slice G Y.gens.length gcap],25)] wr∧Below w.heap.size w wr) (fun x _=>n - (intOf x).toNat)
 case atStart=>exact ⟨0,Nat.zero_le _,rfl,zA HB5,zA HL5⟩
 case round =>
  clear HB5 HL5
  obtain ⟨j,hj,rfl,hB,hL⟩:=hrel
  by_cases hlt:j<n
  ·have j0:(0:Int)≤(j:Int):=by omega
   have j1:(j:Int)<(n:Int):=by omega
   obtain ⟨b,off,hLe,hSy⟩:=(zA HS).below hL j hlt
   obtain ⟨s,hs⟩:∃ s,s=S j:=⟨_,rfl⟩
   rw [←hs] at hSy
   have c0:=hSy.c0
   have c1:=hSy.c1
   have c2:=hSy.c2
   have c3:=hSy.c3
   have hP:=zA HR1 s
   have hQ:=zA HR2 s
   obtain ⟨Q,hq⟩:∃ Q,Q=(zGl se Y s).2:=⟨_,rfl⟩
   obtain ⟨err,herr⟩:∃ err,err=(zGl se Y s).1:=⟨_,rfl⟩
   rw [←hq,←herr] at hP hQ
   obtain ⟨wq,rfl⟩:∃ wq,wq=wr:=⟨_,rfl⟩
   obtain ⟨W6,hW6⟩:∃ W6,W6=zt wq [([.int .i64 s.m,.int .i64 s.al,.int .i64 s.no,.slice s.A s.len s.cap],37)]:=⟨_,rfl⟩
   have hX6:=Bxs.start wq [([.int .i64 s.m,.int .i64 s.al,.int .i64 s.no,.slice s.A s.len s.cap],37)]
   have hb6:=allocs_below [([.int .i64 s.m,.int .i64 s.al,.int .i64 s.no,.slice s.A s.len s.cap],37)] wq
   rw [←hW6] at hX6 hb6
   have hW6':wq.alloc (.cells #[.int .i64 s.m,.int .i64 s.al,.int .i64 s.no,.slice s.A s.len s.cap] 37)=W6:=hW6.symm
   have HW6:=zB hW6'
   clear hW6 hW6'
   have hB6:=hB.below hb6
   have s0:=hB6.cell 0 rfl 0 rfl
   have s1:=hB6.cell 0 rfl 1 rfl
   have y0:=hX6.cell 0 rfl 0 rfl
   have y1:=hX6.cell 0 rfl 1 rfl
   have y2:=hX6.cell 0 rfl 2 rfl
   have y3:=hX6.cell 0 rfl 3 rfl
   rw [Nat.add_zero] at s0 s1 y0 y1 y2 y3
   have HP:=zB hP
   have HQ:=zB hQ
   have HAC:=zB (hSy.acts.below hb6)
   have HB6:=zB hB6
   have HX6:=zB hX6
   have HL6:=zB (hL.trans (hb6.mono hL.size))
   clear hP hQ hq herr hSy hB hL hB6 hX6 hb6 hs
   subst hLe
   go_upto_region 8 with fail
   rw [zA HW6]
   clear HW6 c0 c1 c2 c3
   go_wp2_with fail
   go_at_call 10
   refine (zA HP _ (zA HL6) (zA HAC)).mono ?_
   rintro e w7 ⟨T5,tc5,G5,gc5,rfl,hN7,hb7⟩
   obtain ⟨W8,hW8⟩:∃ W8,W8=zt w7 [([.slice T5 (za Q).length tc5,.slice G5 Q.gens.length gc5],25)]:=⟨_,rfl⟩
   have hX8:=Bxs.start w7 [([.slice T5 (za Q).length tc5,.slice G5 Q.gens.length gc5],25)]
   have hb8:=allocs_below [([.slice T5 (za Q).length tc5,.slice G5 Q.gens.length gc5],25)] w7
   rw [←hW8] at hX8 hb8
   have hW8':w7.alloc (.cells #[.slice T5 (za Q).length tc5,.slice G5 Q.gens.length gc5] 25)=W8:=hW8.symm
   have HW8:=zB hW8'
   clear hW8 hW8'
   have hb78:=hb7.trans (hb8.mono hb7.size)
   have hB8:=(zA HB6).below hb78
   have hX6':=(zA HX6).below hb78
   clear s0 s1 y0 y1 y2 y3
   have s0:=hB8.cell 0 rfl 0 rfl
   have s1:=hB8.cell 0 rfl 1 rfl
   have y0:=hX6'.cell 0 rfl 0 rfl
   have y1:=hX6'.cell 0 rfl 1 rfl
   have y2:=hX6'.cell 0 rfl 2 rfl
   have y3:=hX6'.cell 0 rfl 3 rfl
   rw [Nat.add_zero] at s0 s1 y0 y1 y2 y3
   have HB8:=zB hB8
   have HX8:=zB hX8
   have HL8:=zB ((zA HL6).trans (hb78.mono (zA HL6).size))
   have HN8:=zB (hN7.st.below hb8)
   have HAC8:=zB ((zA HAC).below hb78)
   clear hB8 hX6' hX8 hN7 hb7 hb8 hb78 HB6 HX6 HL6 HAC HP
   go_upto_region 9 with fail
   rw [zA HW8]
   clear HW8
   go_wp2_with fail
   go_at_call 11
   refine (zA HQ _ (zA HL8) (zA HAC8)).mono ?_
   rintro e w9 ⟨T6,tc6,G6,gc6,rfl,hQ9,hb9⟩
   obtain ⟨W10,hW10⟩:∃ W10,W10=zt w9 [([.slice T6 (za Q).length tc6,.slice G6 Q.gens.length gc6],25)]:=⟨_,rfl⟩
   have hX10:=Bxs.start w9 [([.slice T6 (za Q).length tc6,.slice G6 Q.gens.length gc6],25)]
   have hb10:=allocs_below [([.slice T6 (za Q).length tc6,.slice G6 Q.gens.length gc6],25)] w9
   rw [←hW10] at hX10 hb10
   have hW10':w9.alloc (.cells #[.slice T6 (za Q).length tc6,.slice G6 Q.gens.length gc6] 25)=W10:=hW10.symm
   have HW10:=zB hW10'
   clear hW10 hW10'
   have hb910:=hb9.trans (hb10.mono hb9.size)
   have hX8':=(zA HX8).below hb910
   clear s0 s1 y0 y1 y2 y3
   have s0:=hX8'.cell 0 rfl 0 rfl
   have s1:=hX8'.cell 0 rfl 1 rfl
   have y0:=hX10.cell 0 rfl 0 rfl
   have y1:=hX10.cell 0 rfl 1 rfl
   rw [Nat.add_zero] at s0 s1 y0 y1
   have hSM:=zKK W10 T5 tc5 G5 gc5 T6 tc6 G6 gc6 ((zA HN8).below hb910) (hQ9.at_.below hb10)
   have HSM:=zB hSM
   have HB10:=zB ((zA HB8).below hb910)
   have HL10:=zB ((zA HL8).trans (hb910.mono (zA HL8).size))
   clear hX8' hX10 hQ9 hb9 hb10 hb910 hSM HB8 HX8 HL8 HN8 HAC8 HQ
   go_upto_region 10 with fail
   rw [zA HW10]
   clear HW10
   go_wp2_with fail
   go_at_call 9
   refine (zA HSM).mono ?_
   rintro e w11 ⟨rfl,hb11⟩
   have HB11:=zB ((zA HB10).below hb11)
   have HL11:=zB ((zA HL10).trans (hb11.mono (zA HL10).size))
   clear s0 s1 y0 y1 hb11 HB10 HL10 HSM
   go_wp2
   go_roundw
   case rel=>exact ⟨j+1,by omega,by go_num,zA HB11,zA HL11⟩
   case measure=>simp [intOf];omega
  ·obtain rfl:j=n:=by omega
   have HE:=zB hL
   clear hB hL
   go_wp2
   go_ret
   exact ⟨rfl,zA HE⟩
end Go.Proofs.YtnbleebilmghcabGreat
