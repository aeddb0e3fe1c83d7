/- Two systems, two houses that are alike. -/
import Derived.Test.YtnbleebilmghcacGreatYRnSame
import Derived.Test.YtnbleebilmghcacGreatYHo13
set_option linter.all false
set_option maxHeartbeats 2000000
set_option maxRecDepth 8000
namespace Go.Proofs.YtnbleebilmghcacGreat
open Go Go.RowKit
attribute [local go_sem ↓] Go.wp_at_zero Go.wp_at_succ
theorem eqFil (a b:Int) (w:World):(Op.equalIn 10000 41 (.agg #[.int .i64 a,.int .i64 b]) (.agg #[.int .i64 a,.int .i64 b])).run Tryz.prog w=.ok true w:=by
 have hS:Tryz.prog.underlying 41=some (.struct (Tryz.prog.fieldsOf 41)):=by kernel_rfl
 rw [show (10000:Nat)=9999+1 from rfl,run_equalIn_agg w 9999 41 _ _ hS (by kernel_rfl)]
 simp only [Program.fieldsOf,Tryz.underlying41]
 go_simp
theorem neqFil (a b:Int) (w:World):(binOp .neq 41 (.agg #[.int .i64 a,.int .i64 b]) (.agg #[.int .i64 a,.int .i64 b])).run Tryz.prog w=.ok (.bool false) w:=by
 rw [run_neq_struct,eqFil];rfl
theorem eqAct (a b c d:Int) (w:World):(Op.equalIn 10000 71 (.agg #[.int .i64 a,.int .i64 b,.int .i64 c,.int .i64 d]) (.agg #[.int .i64 a,.int .i64 b,.int .i64 c,.int .i64 d])).run Tryz.prog w=.ok true w:=by
 have hS:Tryz.prog.underlying 71=some (.struct (Tryz.prog.fieldsOf 71)):=by kernel_rfl
 rw [show (10000:Nat)=9999+1 from rfl,run_equalIn_agg w 9999 71 _ _ hS (by kernel_rfl)]
 simp only [Program.fieldsOf,Tryz.underlying71]
 go_simp
theorem neqAct (a b c d:Int) (w:World):(binOp .neq 71 (.agg #[.int .i64 a,.int .i64 b,.int .i64 c,.int .i64 d]) (.agg #[.int .i64 a,.int .i64 b,.int .i64 c,.int .i64 d])).run Tryz.prog w=.ok (.bool false) w:=by
 rw [run_neq_struct,eqAct];rfl
theorem eqMod (a b:Int) (c:Bool) (w:World):(Op.equalIn 10000 48 (.agg #[.int .i64 a,.int .i64 b,.bool c]) (.agg #[.int .i64 a,.int .i64 b,.bool c])).run Tryz.prog w=.ok true w:=by
 have hS:Tryz.prog.underlying 48=some (.struct (Tryz.prog.fieldsOf 48)):=by kernel_rfl
 rw [show (10000:Nat)=9999+1 from rfl,run_equalIn_agg w 9999 48 _ _ hS (by kernel_rfl)]
 simp only [Program.fieldsOf,Tryz.underlying48]
 go_simp
theorem neqMod (a b:Int) (c:Bool) (w:World):(binOp .neq 48 (.agg #[.int .i64 a,.int .i64 b,.bool c]) (.agg #[.int .i64 a,.int .i64 b,.bool c])).run Tryz.prog w=.ok (.bool false) w:=by
 rw [run_neq_struct,eqMod];rfl
theorem samesys_true (m al no:Int) (len:Nat) (a:Nat→ActI) (A:Option Addr) (cap:Nat) (A2:Option Addr) (cap2:Nat) (w:World) (hl:len≤8) (h1:ActsAt w A len a) (h2:ActsAt w A2 len a) :
  Calls Tryz.prog 35 #[zCL m al no A len cap,zCL m al no A2 len cap2] w fun e w'=>e=.returned (.bool true)∧Below w.heap.size w w':=by
 obtain ⟨W0,hW0,hbx,hX0⟩:=zw w [([.int .i64 m,.int .i64 al,.int .i64 no,.slice A len cap],44),([.int .i64 m,.int .i64 al,.int .i64 no,.slice A2 len cap2],44)]
 have HW0:Hid ((w.alloc (.cells #[.int .i64 m,.int .i64 al,.int .i64 no,.slice A len cap] 44)).alloc (.cells #[.int .i64 m,.int .i64 al,.int .i64 no,.slice A2 len cap2] 44)=W0):=zB hW0
 clear hW0
 have HL0:=zB hbx
 have HX0:=zB hX0
 have H1:=zB h1
 have H2:=zB h2
 have hqf:=neqFil
 have hqa:=neqAct
 have HQF:=zB hqf
 have HQA:=zB hqa
 have y0:=hX0.cell 0 rfl 0 rfl
 have z0:=hX0.cell 1 rfl 0 rfl
 have y1:=hX0.cell 0 rfl 1 rfl
 have z1:=hX0.cell 1 rfl 1 rfl
 have y2:=hX0.cell 0 rfl 2 rfl
 have z2:=hX0.cell 1 rfl 2 rfl
 have y3:=hX0.cell 0 rfl 3 rfl
 have z3:=hX0.cell 1 rfl 3 rfl
 rw [Nat.add_zero] at y0 y1 y2 y3
 clear hbx hX0 h1 h2 hqf hqa
 unfold zCL
 go_enter Tryz.func35,Tryz.ntmps35
 go_upto_region 1 with fail
 rw [zA HW0]
 have hqf:=zA HQF
 go_wp2_with fail
 clear hqf y0 y1 y2 y3 z0 z1 z2 z3
 go_loopw [30] (fun x wr=>∃ k:Nat,k≤len∧x=.int .i64 (k:Int)∧Below W0.heap.size W0 wr) (fun x _=>len - (intOf x).toNat)
 case atStart=>exact ⟨0,Nat.zero_le _,rfl,Below.refl _ _⟩
 case round =>
  obtain ⟨k,hk,rfl,hbr⟩:=hrel
  by_cases hlt:k<len
  ·have k0:(0:Int)≤(k:Int):=by omega
   have k1:(k:Int)<(len:Int):=by omega
   have hL:=(zA HL0).trans (hbr.mono (zA HL0).size)
   obtain ⟨b1,o1,rfl,c0,c1,c2,c3⟩:=(zA H1).below hL k hlt
   obtain ⟨b2,o2,rfl,e0,e1,e2,e3⟩:=(zA H2).below hL k hlt
   have hX:=(zA HX0).below hbr
   have hne:Nonempty (Sub wr):=⟨⟨wr,Below.refl _ _⟩⟩
   have c0:=zK c0
   have c1:=zK c1
   have c2:=zK c2
   have c3:=zK c3
   have e0:=zK e0
   have e1:=zK e1
   have e2:=zK e2
   have e3:=zK e3
   have s0:=zK (hX.cell 0 rfl 3 rfl)
   have s1:=zK (hX.cell 1 rfl 3 rfl)
   simp only [Nat.add_zero] at s0
   generalize a k=y at *
   have HBR:=zB hbr
   have hqa:=zA HQA
   clear hbr hX hL
   go_wp2_with fail
   refine zAI (by kernel_rfl) (by kernel_rfl) ?_
   repeat (go_big_quiet_step (fail))
   refine wpQuiet_nil ?_
   rintro w4 ⟨xs,hxs⟩
   have hb4:=xs.bel
   rw [←hxs] at hb4
   have HB4:=zB ((zA HBR).trans (hb4.mono (zA HBR).size))
   clear hxs xs hb4 hne c0 c1 c2 c3 e0 e1 e2 e3 s0 s1 hqa
   go_wp2
   go_roundw
   case rel=>exact ⟨k+1,by omega,by go_num,zA HB4⟩
   case measure=>simp [intOf];omega
  ·have dk:decide ((k:Int)<(len:Int))=false:=decide_eq_false (by omega)
   have HE:=zB ((zA HL0).trans (hbr.mono (zA HL0).size))
   clear hbr
   go_wp2
   go_ret
   exact ⟨rfl,zA HE⟩
theorem samehouse_true (T1:Option Addr) (tc1:Nat) (G1:Option Addr) (gc1:Nat) (M1:Option Addr) (mc1:Nat) (SA1:Option Addr) (sc1:Nat) (T2:Option Addr) (tc2:Nat) (G2:Option Addr) (gc2:Nat) (M2:Option Addr) (mc2:Nat) (SA2:Option Addr) (sc2:Nat) (X:Wd) (mods:List ModI) (n:Nat) (S1 S2:Nat→SysI) (w:World)
  (hn:n≤12) (hml:mods.length≤6) (h1:StAt w T1 G1 (zL X) X) (h2:StAt w T2 G2 (zL X) X) (hM1:GAt zi 3 w M1 mods) (hM2:GAt zi 3 w M2 mods) (hS1:SyssAt w SA1 n S1) (hS2:SyssAt w SA2 n S2) (hss:∀ j,j<n→toP (S1 j)=toP (S2 j)) (h8:∀ j,j<n→(S1 j).len≤8) :
  Calls Tryz.prog 19 #[.agg #[.slice T1 (zL X).length tc1,.slice G1 X.gens.length gc1,.slice M1 mods.length mc1,.slice SA1 n sc1],.agg #[.slice T2 (zL X).length tc2,.slice G2 X.gens.length gc2,.slice M2 mods.length mc2,.slice SA2 n sc2]] w fun e w'=>e=.returned (.bool true)∧Below w.heap.size w w':=by
 obtain ⟨hzl,hzg,_⟩:=zAJ ((zm X).2 h1.right)
 have hSS:=fun W (hb:Below w.heap.size w W)=>samest_true T1 tc1 G1 gc1 T2 tc2 G2 gc2 (zL X) X.gens W h1.few (by omega) (fun t ht=>(h1.each t ht).few) (h1.below hb).tbs (h1.below hb).gens (h2.below hb).tbs (h2.below hb).gens
 unfold stV at hSS
 obtain ⟨W0,hW0,hbx,hX0⟩:=zw w [([.slice T1 (zL X).length tc1,.slice G1 X.gens.length gc1,.slice M1 mods.length mc1,.slice SA1 n sc1],31),([.slice T2 (zL X).length tc2,.slice G2 X.gens.length gc2,.slice M2 mods.length mc2,.slice SA2 n sc2],31)]
 have HW0:Hid ((w.alloc (.cells #[.slice T1 (zL X).length tc1,.slice G1 X.gens.length gc1,.slice M1 mods.length mc1,.slice SA1 n sc1] 31)).alloc (.cells #[.slice T2 (zL X).length tc2,.slice G2 X.gens.length gc2,.slice M2 mods.length mc2,.slice SA2 n sc2] 31)=W0):=zB hW0
 clear hW0
 have HSS:=zB hSS
 have HL0:=zB hbx
 have HX0:=zB hX0
 have HM1:=zB hM1
 have HM2:=zB hM2
 have HS1:=zB hS1
 have HS2:=zB hS2
 have HE:=zB hss
 have H8:=zB h8
 have hqm:=neqMod
 have HQM:=zB hqm
 have a0:=hX0.cell 0 rfl 0 rfl
 have b0:=hX0.cell 1 rfl 0 rfl
 have a1:=hX0.cell 0 rfl 1 rfl
 have b1:=hX0.cell 1 rfl 1 rfl
 rw [Nat.add_zero] at a0 a1
 clear hSS hbx hX0 hM1 hM2 hS1 hS2 hss h8 hqm h1 h2
 go_enter Tryz.func19,Tryz.ntmps19
 go_upto_region 1 with fail
 rw [zA HW0]
 go_wp2_with fail
 go_at_call 18
 refine (zA HSS W0 (zA HL0)).mono ?_
 rintro e w1 ⟨rfl,hb1⟩
 have hX1:=(zA HX0).below hb1
 have HX1:=zB hX1
 have HL1:=zB ((zA HL0).trans (hb1.mono (zA HL0).size))
 clear a0 a1 b0 b1
 have a2:=hX1.cell 0 rfl 2 rfl
 have b2:=hX1.cell 1 rfl 2 rfl
 have a3:=hX1.cell 0 rfl 3 rfl
 have b3:=hX1.cell 1 rfl 3 rfl
 rw [Nat.add_zero] at a2 a3
 clear hb1 hX1 HX0 HSS
 go_wp2_with fail
 clear a2 a3 b2 b3
 go_loopw [34] (fun x wr=>∃ k:Nat,k≤mods.length∧x=.int .i64 (k:Int)∧Below w1.heap.size w1 wr) (fun x _=>mods.length - (intOf x).toNat)
 case atStart=>exact ⟨0,Nat.zero_le _,rfl,Below.refl _ _⟩
 case round =>
  obtain ⟨k,hk,rfl,hbr⟩:=hrel
  by_cases hlt:k<mods.length
  ·have k0:(0:Int)≤(k:Int):=by omega
   have k1:(k:Int)<(mods.length:Int):=by omega
   have hL:=(zA HL1).trans (hbr.mono (zA HL1).size)
   have hmg:mods[k]?=some (mods.getD k dM):=by rw [List.getD_eq_getElem?_getD,List.getElem?_eq_getElem hlt];rfl
   obtain ⟨b1,o1,rfl,c⟩:=((zA HM1).below hL) k _ hmg
   obtain ⟨b2,o2,rfl,e⟩:=((zA HM2).below hL) k _ hmg
   have hX:=(zA HX1).below hbr
   have hne:Nonempty (Sub wr):=⟨⟨wr,Below.refl _ _⟩⟩
   have c0:=zK (c 0 _ rfl)
   have c1:=zK (c 1 _ rfl)
   have c2:=zK (c 2 _ rfl)
   have e0:=zK (e 0 _ rfl)
   have e1:=zK (e 1 _ rfl)
   have e2:=zK (e 2 _ rfl)
   have s0:=zK (hX.cell 0 rfl 2 rfl)
   have s1:=zK (hX.cell 1 rfl 2 rfl)
   simp only [Nat.add_zero] at s0 c0 e0
   generalize mods.getD k dM=y at *
   have HBR:=zB hbr
   have hqm:=zA HQM
   clear hbr hX hL hmg c e
   go_wp2_with fail
   refine zAI (by kernel_rfl) (by kernel_rfl) ?_
   repeat (go_big_quiet_step (fail))
   refine wpQuiet_nil ?_
   rintro w4 ⟨xs,hxs⟩
   have hb4:=xs.bel
   rw [←hxs] at hb4
   have HB4:=zB ((zA HBR).trans (hb4.mono (zA HBR).size))
   clear hxs xs hb4 hne c0 c1 c2 e0 e1 e2 s0 s1 hqm
   go_wp2
   go_roundw
   case rel=>exact ⟨k+1,by omega,by go_num,zA HB4⟩
   case measure=>simp [intOf];omega
  ·have dk:decide ((k:Int)<(mods.length:Int))=false:=decide_eq_false (by omega)
   have hX2:=(zA HX1).below hbr
   have a3:=hX2.cell 0 rfl 3 rfl
   rw [Nat.add_zero] at a3
   have HX2:=zB hX2
   have HL2:=zB ((zA HL1).trans (hbr.mono (zA HL1).size))
   obtain ⟨w2,rfl⟩:∃ w2,w2=wr:=⟨_,rfl⟩
   clear hbr hX2
   go_wp2_with fail
   clear a3
   go_loopw [52] (fun x wr=>∃ j:Nat,j≤n∧x=.int .i64 (j:Int)∧Below w2.heap.size w2 wr) (fun x _=>n - (intOf x).toNat)
   case atStart=>exact ⟨0,Nat.zero_le _,rfl,Below.refl _ _⟩
   case round =>
    obtain ⟨j,hj,rfl,hbr⟩:=hrel
    by_cases hlt:j<n
    ·have j0:(0:Int)≤(j:Int):=by omega
     have j1:(j:Int)<(n:Int):=by omega
     have hL:=(zA HL2).trans (hbr.mono (zA HL2).size)
     obtain ⟨b1,o1,hA1,c⟩:=((zA HS1).below hL) j hlt
     obtain ⟨b2,o2,hA2,e⟩:=((zA HS2).below hL) j hlt
     have heq:=zA HE j hlt
     have hl8:=zA H8 j hlt
     obtain ⟨c0,c1,c2,c3,ca⟩:=c
     obtain ⟨e0,e1,e2,e3,ea⟩:=e
     generalize S1 j=s at *
     generalize S2 j=t at *
     obtain ⟨m,al,no,A,len,cap,a⟩:=s
     obtain ⟨m',al',no',A',len',cap',a'⟩:=t
     have heq:toP ⟨m,al,no,A,len,cap,a⟩=toP ⟨m',al',no',A',len',cap',a'⟩:=heq
     unfold toP at heq
     simp only [SysI.mk.injEq,true_and] at heq
     obtain ⟨rfl,rfl,rfl,rfl,rfl⟩:=heq
     dsimp only at c0 c1 c2 c3 ca e0 e1 e2 e3 ea hl8
     have hX:=(zA HX2).below hbr
     have hne:Nonempty (Sub wr):=⟨⟨wr,Below.refl _ _⟩⟩
     have hSY:=fun x:Sub wr=>samesys_true m al no len a A cap A' cap' x.val hl8 (ca.below x.bel) (ea.below x.bel)
     unfold zCL at hSY
     have HSY:=zB hSY
     have c0:=zK c0
     have c1:=zK c1
     have c2:=zK c2
     have c3:=zK c3
     have e0:=zK e0
     have e1:=zK e1
     have e2:=zK e2
     have e3:=zK e3
     have s0:=zK (hX.cell 0 rfl 3 rfl)
     have s1:=zK (hX.cell 1 rfl 3 rfl)
     simp only [Nat.add_zero] at s0
     have HBR:=zB hbr
     subst hA1
     subst hA2
     clear hbr hX hL ca ea hSY hl8
     go_wp2_with fail
     refine zAI (by kernel_rfl) (by kernel_rfl) ?_
     repeat (go_big_quiet_step ((go_at_call 35;exact zBI (zA HSY _))))
     refine wpQuiet_nil ?_
     rintro w4 ⟨xs,hxs⟩
     have hb4:=xs.bel
     rw [←hxs] at hb4
     have HB4:=zB ((zA HBR).trans (hb4.mono (zA HBR).size))
     clear hxs xs hb4 hne c0 c1 c2 c3 e0 e1 e2 e3 s0 s1
     go_wp2
     go_roundw
     case rel=>exact ⟨j+1,by omega,by go_num,zA HB4⟩
     case measure=>simp [intOf];omega
    ·have dj:decide ((j:Int)<(n:Int))=false:=decide_eq_false (by omega)
     have HE9:=zB ((zA HL2).trans (hbr.mono (zA HL2).size))
     clear hbr
     go_wp2
     go_ret
     exact ⟨rfl,zA HE9⟩
end Go.Proofs.YtnbleebilmghcacGreat
