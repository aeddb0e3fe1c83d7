/- The law TopBlind. -/
import Derived.Test.YtnbleebilmghcacGreatMTlReg
set_option linter.all false
set_option maxHeartbeats 8000000
set_option maxRecDepth 8000
namespace Go.Proofs.YtnbleebilmghcacGreat
open Go Go.RowKit
attribute [local go_sem ↓] Go.wp_at_zero Go.wp_at_succ
theorem size31:(Tryz.prog.info? 31).map (·.size)=some 4:=by kernel_rfl
theorem size35:(Tryz.prog.info? 35).map (·.size)=some 2:=by kernel_rfl
theorem tlb_o0 (r u:Int) (lf:Bool) (fi ti:Int)  (h:r<0) (w:World) :
  Calls Tryz.prog 8 #[.int .i64 r,.int .i64 u,.bool lf,.int .i64 fi,.int .i64 ti] w fun e w'=>e=.returned (.bool true)∧Below w.heap.size w w':=by
 have d0:decide (r<0)=true:=decide_eq_true h
 clear h
 go_enter Tryz.func8,Tryz.ntmps8
 go_wp2_with fail
 go_at_call 20
 refine (zAw w).mono ?_
 rintro e w0 ⟨rfl,hb0⟩
 have HL0:=zB hb0
 clear hb0
 go_wp2
 go_ret
 exact ⟨rfl,zA HL0⟩
theorem tlb_o1 (r u:Int) (lf:Bool) (fi ti:Int) (n0:¬ r<0) (h:255<r) (w:World) :
  Calls Tryz.prog 8 #[.int .i64 r,.int .i64 u,.bool lf,.int .i64 fi,.int .i64 ti] w fun e w'=>e=.returned (.bool true)∧Below w.heap.size w w':=by
 have d0:decide (r<0)=false:=decide_eq_false n0
 have d1:decide (255<r)=true:=decide_eq_true h
 clear h n0
 go_enter Tryz.func8,Tryz.ntmps8
 go_wp2_with fail
 go_at_call 20
 refine (zAw w).mono ?_
 rintro e w0 ⟨rfl,hb0⟩
 have HL0:=zB hb0
 clear hb0
 go_wp2
 go_ret
 exact ⟨rfl,zA HL0⟩
theorem tlb_o2 (r u:Int) (lf:Bool) (fi ti:Int) (n0:¬ r<0) (n1:¬ 255<r) (h:u<0) (w:World) :
  Calls Tryz.prog 8 #[.int .i64 r,.int .i64 u,.bool lf,.int .i64 fi,.int .i64 ti] w fun e w'=>e=.returned (.bool true)∧Below w.heap.size w w':=by
 have d0:decide (r<0)=false:=decide_eq_false n0
 have d1:decide (255<r)=false:=decide_eq_false n1
 have d2:decide (u<0)=true:=decide_eq_true h
 clear h n0 n1
 go_enter Tryz.func8,Tryz.ntmps8
 go_wp2_with fail
 go_at_call 20
 refine (zAw w).mono ?_
 rintro e w0 ⟨rfl,hb0⟩
 have HL0:=zB hb0
 clear hb0
 go_wp2
 go_ret
 exact ⟨rfl,zA HL0⟩
theorem tlb_o3 (r u:Int) (lf:Bool) (fi ti:Int) (n0:¬ r<0) (n1:¬ 255<r) (n2:¬ u<0) (h:255<u) (w:World) :
  Calls Tryz.prog 8 #[.int .i64 r,.int .i64 u,.bool lf,.int .i64 fi,.int .i64 ti] w fun e w'=>e=.returned (.bool true)∧Below w.heap.size w w':=by
 have d0:decide (r<0)=false:=decide_eq_false n0
 have d1:decide (255<r)=false:=decide_eq_false n1
 have d2:decide (u<0)=false:=decide_eq_false n2
 have d3:decide (255<u)=true:=decide_eq_true h
 clear h n0 n1 n2
 go_enter Tryz.func8,Tryz.ntmps8
 go_wp2_with fail
 go_at_call 20
 refine (zAw w).mono ?_
 rintro e w0 ⟨rfl,hb0⟩
 have HL0:=zB hb0
 clear hb0
 go_wp2
 go_ret
 exact ⟨rfl,zA HL0⟩
theorem tlb_o4 (r u:Int) (lf:Bool) (fi ti:Int) (n0:¬ r<0) (n1:¬ 255<r) (n2:¬ u<0) (n3:¬ 255<u) (h:fi<0) (w:World) :
  Calls Tryz.prog 8 #[.int .i64 r,.int .i64 u,.bool lf,.int .i64 fi,.int .i64 ti] w fun e w'=>e=.returned (.bool true)∧Below w.heap.size w w':=by
 have d0:decide (r<0)=false:=decide_eq_false n0
 have d1:decide (255<r)=false:=decide_eq_false n1
 have d2:decide (u<0)=false:=decide_eq_false n2
 have d3:decide (255<u)=false:=decide_eq_false n3
 have d4:decide (fi<0)=true:=decide_eq_true h
 clear h n0 n1 n2 n3
 go_enter Tryz.func8,Tryz.ntmps8
 go_wp2_with fail
 go_at_call 20
 refine (zAw w).mono ?_
 rintro e w0 ⟨rfl,hb0⟩
 have HL0:=zB hb0
 clear hb0
 go_wp2
 go_ret
 exact ⟨rfl,zA HL0⟩
theorem tlb_o5 (r u:Int) (lf:Bool) (fi ti:Int) (n0:¬ r<0) (n1:¬ 255<r) (n2:¬ u<0) (n3:¬ 255<u) (n4:¬ fi<0) (h:8≤fi) (w:World) :
  Calls Tryz.prog 8 #[.int .i64 r,.int .i64 u,.bool lf,.int .i64 fi,.int .i64 ti] w fun e w'=>e=.returned (.bool true)∧Below w.heap.size w w':=by
 have d0:decide (r<0)=false:=decide_eq_false n0
 have d1:decide (255<r)=false:=decide_eq_false n1
 have d2:decide (u<0)=false:=decide_eq_false n2
 have d3:decide (255<u)=false:=decide_eq_false n3
 have d4:decide (fi<0)=false:=decide_eq_false n4
 have d5:decide (8≤fi)=true:=decide_eq_true h
 clear h n0 n1 n2 n3 n4
 go_enter Tryz.func8,Tryz.ntmps8
 go_wp2_with fail
 go_at_call 20
 refine (zAw w).mono ?_
 rintro e w0 ⟨rfl,hb0⟩
 have HL0:=zB hb0
 clear hb0
 go_wp2
 go_ret
 exact ⟨rfl,zA HL0⟩
theorem tlb_o6 (r u:Int) (lf:Bool) (fi ti:Int) (n0:¬ r<0) (n1:¬ 255<r) (n2:¬ u<0) (n3:¬ 255<u) (n4:¬ fi<0) (n5:¬ 8≤fi) (h:ti<0) (w:World) :
  Calls Tryz.prog 8 #[.int .i64 r,.int .i64 u,.bool lf,.int .i64 fi,.int .i64 ti] w fun e w'=>e=.returned (.bool true)∧Below w.heap.size w w':=by
 have d0:decide (r<0)=false:=decide_eq_false n0
 have d1:decide (255<r)=false:=decide_eq_false n1
 have d2:decide (u<0)=false:=decide_eq_false n2
 have d3:decide (255<u)=false:=decide_eq_false n3
 have d4:decide (fi<0)=false:=decide_eq_false n4
 have d5:decide (8≤fi)=false:=decide_eq_false n5
 have d6:decide (ti<0)=true:=decide_eq_true h
 clear h n0 n1 n2 n3 n4 n5
 go_enter Tryz.func8,Tryz.ntmps8
 go_wp2_with fail
 go_at_call 20
 refine (zAw w).mono ?_
 rintro e w0 ⟨rfl,hb0⟩
 have HL0:=zB hb0
 clear hb0
 go_wp2
 go_ret
 exact ⟨rfl,zA HL0⟩
theorem tlb_o7 (r u:Int) (lf:Bool) (fi ti:Int) (n0:¬ r<0) (n1:¬ 255<r) (n2:¬ u<0) (n3:¬ 255<u) (n4:¬ fi<0) (n5:¬ 8≤fi) (n6:¬ ti<0) (h:8≤ti) (w:World) :
  Calls Tryz.prog 8 #[.int .i64 r,.int .i64 u,.bool lf,.int .i64 fi,.int .i64 ti] w fun e w'=>e=.returned (.bool true)∧Below w.heap.size w w':=by
 have d0:decide (r<0)=false:=decide_eq_false n0
 have d1:decide (255<r)=false:=decide_eq_false n1
 have d2:decide (u<0)=false:=decide_eq_false n2
 have d3:decide (255<u)=false:=decide_eq_false n3
 have d4:decide (fi<0)=false:=decide_eq_false n4
 have d5:decide (8≤fi)=false:=decide_eq_false n5
 have d6:decide (ti<0)=false:=decide_eq_false n6
 have d7:decide (8≤ti)=true:=decide_eq_true h
 clear h n0 n1 n2 n3 n4 n5 n6
 go_enter Tryz.func8,Tryz.ntmps8
 go_wp2_with fail
 go_at_call 20
 refine (zAw w).mono ?_
 rintro e w0 ⟨rfl,hb0⟩
 have HL0:=zB hb0
 clear hb0
 go_wp2
 go_ret
 exact ⟨rfl,zA HL0⟩
theorem bl_bitF:∀ m:Fin 256,∀ k:Fin 8,(bits .and .i64 ((m.val:Int) / 2 ^ k.val) 1 == 1)=bt (m.val:Int) k.val:=by decide +kernel
theorem bl_bit (r:Int) (f:Nat) (hr:0≤r∧r≤255) (hf:f<8):(bits .and .i64 (r / 2 ^ f) 1 == 1)=bt r f:=by
 obtain ⟨m,rfl⟩:=zCV r hr.1 hr.2
 exact bl_bitF m ⟨f,hf⟩
theorem bl_mods {W:World} {g:Nat} {r u:Int} {lf:Bool} (h:Bxs g [([.int .i64 r,.int .i64 u,.bool lf],48)] W):GAt zj 3 W (some ⟨g,0,none⟩) [⟨r,u,lf⟩]:=fun j x hx=>by
 match j,hx with
 | 0,hx =>
  injection hx with hx
  subst hx
  refine ⟨g,0,rfl,fun i u hu=>?_⟩
  have:=h.cell 0 rfl i hu
  simpa using this
 | j+1,hx=>simp at hx
theorem bl_dos {W:World} {f t g1 g2 g3 gd:Nat} (h1:Bxs g1 [(zl ⟨2,(t:Int),(f:Int),0⟩,71)] W) (h2:Bxs g2 [(zl ⟨6,0,0,0⟩,71)] W) (h3:Bxs g3 [(zl ⟨7,zAE (t:Int),0,0⟩,71)] W) (hd:Bxs gd [(zAl zAK (blA f t g1 g2 g3),46)] W):DosAt W (some ⟨gd,0,none⟩) (blA f t g1 g2 g3):=by
 refine ⟨fun j x hx=>⟨gd,0,rfl,fun i v hv=>?_⟩,fun d hd'=>?_⟩
 ·have hi:i<12:=by have:=(List.getElem?_eq_some_iff.1 hv).1;rw [zBS] at this;exact this
  have:=hd.cell 0 rfl (j*12+i) (u:=v) (by rw [flatC_get zBS _ j i hi,hx];exact hv)
  rw [Nat.zero_add]
  rw [Nat.add_zero] at this
  exact this
 ·simp only [blA,List.mem_cons,List.not_mem_nil,or_false] at hd'
  rcases hd' with rfl | rfl | rfl
  ·exact acts_one h1
  ·exact acts_one h2
  ·exact acts_one h3
theorem bl_play (r u:Int) (lf:Bool) (f t:Nat) (hr:0≤r∧r≤255) (hu:0≤u∧u≤255) (hf:f<8) (ht:t<8) (g1 g2 g3 gd gm:Nat) (W:World) (hm:Bxs gm [([.int .i64 r,.int .i64 u,.bool lf],48)] W) (h1:Bxs g1 [(zl ⟨2,(t:Int),(f:Int),0⟩,71)] W) (h2:Bxs g2 [(zl ⟨6,0,0,0⟩,71)] W) (h3:Bxs g3 [(zl ⟨7,zAE (t:Int),0,0⟩,71)] W) (hd:Bxs gd [(zAl zAK (blA f t g1 g2 g3),46)] W) :
  Calls Tryz.prog 13 #[.slice (some ⟨gm,0,none⟩) 1 1,.slice (some ⟨gd,0,none⟩) 3 3] W fun e w'=>∃ (h4:List Value) (b o cc:Nat),e=.returned (.tuple #[.agg h4.toArray,.slice (some ⟨b,o,none⟩) 3 cc,.agg #[.int .i64 0,.int .i64 0]])∧h4.length=4∧(∀ v∈h4,v.oneCell'=true)∧W.heap.size≤b∧b<w'.heap.size ∧
   (∀ (j:Nat) (e:Int),([if (bt r f && bt u t)=true then 0 else 8,if (bt r f && lf)=true then 0 else 8,if (bt u t && lf)=true then 0 else 8]:List Int)[j]?=some e→w'.cell? ⟨b,o+j*5,none⟩=some (.int .i64 e))∧Below W.heap.size W w':=by
 have hwm:wmF [⟨r,u,lf⟩]=(0,0):=by
  have e1:zAg r=true:=decide_eq_true hr
  have e2:zAg u=true:=decide_eq_true hu
  unfold wmF
  rw [if_neg (by simp)]
  show wmTo [⟨r,u,lf⟩] 1 0=_
  rw [wmTo,if_pos (by show (zAg r && zAg u)=true;rw [e1,e2];rfl)]
  rfl
 have hP:=play_own (some ⟨gm,0,none⟩) 1 [⟨r,u,lf⟩] (some ⟨gd,0,none⟩) 3 (blA f t g1 g2 g3) W (bl_mods hm) (bl_dos h1 h2 h3 hd) hwm (by simp [blA])
 have he:=bl_e r u lf f t hr hu hf ht g1 g2 g3
 refine Calls.mono hP ?_
 rintro e w' ⟨T,tc,G,gc,M',mc',SA,sc,CA,cc,ss,la,rfl,_,_,_,_,hAN,hla,hb,hown⟩
 have hes:la.map (fun x=>x.1.e)=[if (bt r f && bt u t)=true then 0 else 8,if (bt r f && lf)=true then 0 else 8,if (bt u t && lf)=true then 0 else 8]:=by
  rw [←he,←hla,List.map_map]
  rfl
 have hl3:la.length=3:=by
  have:=congrArg List.length hes
  simpa using this
 obtain ⟨b,o,hCA,hc0⟩:=hAN.at_ 0 la[0] (List.getElem?_eq_getElem (by omega))
 subst hCA
 have hc:=hc0 0 _ rfl
 refine ⟨_,b,o,cc,by rw [hl3],rfl,by simp [Value.oneCell'],hown b rfl,World.block_lt_of_cell? w' _ hc,fun j e hje=>?_,hb⟩
 rw [←hes] at hje
 rw [List.getElem?_map] at hje
 cases hx:la[j]? with
 | none=>rw [hx] at hje;cases hje
 | some x =>
  rw [hx] at hje
  have hje:=Option.some.inj hje
  obtain ⟨b',o',hCA',hc'⟩:=hAN.at_ j x hx
  injection hCA' with hCA'
  injection hCA' with q1 q2
  subst q1
  subst q2
  have:=hc' 0 _ rfl
  rw [Nat.add_zero] at this
  rw [←hje]
  exact this
theorem tlb_ok (r u:Int) (lf:Bool) (f t:Nat) (hr:0≤r∧r≤255) (hu:0≤u∧u≤255) (hf:f<8) (ht:t<8) (w:World) :
  Calls Tryz.prog 8 #[.int .i64 r,.int .i64 u,.bool lf,.int .i64 (f:Int),.int .i64 (t:Int)] w fun e w'=>e=.returned (.bool true)∧Below w.heap.size w w':=by
 have d0:decide (r<0)=false:=decide_eq_false (by omega)
 have d1:decide (255<r)=false:=decide_eq_false (by omega)
 have d2:decide (u<0)=false:=decide_eq_false (by omega)
 have d3:decide (255<u)=false:=decide_eq_false (by omega)
 have d4:decide ((f:Int)<0)=false:=decide_eq_false (by omega)
 have d5:decide ((8:Int)≤(f:Int))=false:=decide_eq_false (by omega)
 have d6:decide ((t:Int)<0)=false:=decide_eq_false (by omega)
 have d7:decide ((8:Int)≤(t:Int))=false:=decide_eq_false (by omega)
 have HPL0:=zB (bl_play r u lf f t hr hu hf ht)
 have HRB:=zB (bl_bit r f hr hf)
 have HUB:=zB (bl_bit u t hu ht)
 have hsf:IntKind.i64.wrap ((2:Int) ^ f)=zAE (f:Int):=by
  rcases (by omega:f=0∨f=1∨f=2∨f=3∨f=4∨f=5∨f=6∨f=7) with rfl | rfl | rfl | rfl | rfl | rfl | rfl | rfl <;> decide +kernel
 have hst:IntKind.i64.wrap ((2:Int) ^ t)=zAE (t:Int):=by
  rcases (by omega:t=0∨t=1∨t=2∨t=3∨t=4∨t=5∨t=6∨t=7) with rfl | rfl | rfl | rfl | rfl | rfl | rfl | rfl <;> decide +kernel
 have hf0:(0:Int)≤(f:Int):=by omega
 have hf1:(f:Int)<8:=by omega
 have ht0:(0:Int)≤(t:Int):=by omega
 have ht1:(t:Int)<8:=by omega
 have HSF:=zB hsf
 have HST:=zB hst
 clear hr hu hsf hst
 go_enter Tryz.func8,Tryz.ntmps8
 go_wp2_with fail
 go_at_call 20
 refine (zAw w).mono ?_
 rintro e w0 ⟨rfl,hb0⟩
 obtain ⟨W1,hW1,hbx,hX1⟩:=zx w0 [([.int .i64 r,.int .i64 u,.bool lf],48)]
 have HW1:Hid (w0.alloc (.cells #[.int .i64 r,.int .i64 u,.bool lf] 48)=W1):=zB hW1
 clear hW1
 have HL1:=zB (hb0.trans (hbx.mono hb0.size))
 have HM1:=zB hX1
 clear hb0 hbx hX1
 go_upto_region 6 with fail
 rw [zA HW1]
 have HPL:Hid (∀ (g1 g2 g3 gd:Nat) (W:World),Below W1.heap.size W1 W→Bxs g1 [(zl ⟨2,(t:Int),(f:Int),0⟩,71)] W→Bxs g2 [(zl ⟨6,0,0,0⟩,71)] W→Bxs g3 [(zl ⟨7,zAE (t:Int),0,0⟩,71)] W→Bxs gd [(zAl zAK (blA f t g1 g2 g3),46)] W→_):=zB (fun g1 g2 g3 gd W hb=>zA HPL0 g1 g2 g3 gd w0.heap.size W ((zA HM1).below hb))
 have h0:=R6.start W1 f t [if (bt r f && bt u t)=true then 0 else 8,if (bt r f && lf)=true then 0 else 8,if (bt u t && lf)=true then 0 else 8]
 have hsf:=zA HSF
 have hst:=zA HST
 go_wp2_with fail
 refine zY (fun (γ:G6) ix v=>if ix=6 then v=.slice (some ⟨γ.g1,0,none⟩) 1 1 else if ix=7 then v=.agg #[.int .i64 5,.int .i64 0,.int .i64 0,.int .i64 0,.int .i64 0,.int .i64 0,.int .i64 0,.int .i64 (zAE (f:Int)),.int .i64 0,.slice (some ⟨γ.g1,0,none⟩) 1 1,.int .i64 0,.int .i64 0] else if ix=11 then v=.slice (some ⟨γ.g2,0,none⟩) 1 1 else if ix=12 then v=.agg #[.int .i64 5,.int .i64 0,.int .i64 0,.int .i64 0,.int .i64 0,.int .i64 0,.int .i64 0,.int .i64 (zAE (f:Int)),.int .i64 0,.slice (some ⟨γ.g2,0,none⟩) 1 1,.int .i64 0,.int .i64 0] else if ix=16 then v=.slice (some ⟨γ.g3,0,none⟩) 1 1 else if ix=17 then v=.agg #[.int .i64 5,.int .i64 0,.int .i64 0,.int .i64 0,.int .i64 0,.int .i64 0,.int .i64 0,.int .i64 0,.int .i64 0,.slice (some ⟨γ.g3,0,none⟩) 1 1,.int .i64 0,.int .i64 0] else if ix=18 then v=.slice (some ⟨γ.gd,0,none⟩) 3 3 else if ix=19 then v=.tuple #[.agg γ.h4.toArray,.slice γ.ca γ.cl γ.cc,.agg #[.int .i64 0,.int .i64 0]] else if ix=20 then v=.tuple #[.agg γ.h4.toArray,.slice γ.ca γ.cl γ.cc,.agg #[.int .i64 0,.int .i64 0]] else if ix=21 then v=.agg γ.h4.toArray else if ix=22 then v=.slice γ.ca γ.cl γ.cc else if ix=24 then v=.pointer (some ⟨γ.p12,0,none⟩) else if ix=25 then v=.pointer (some ⟨γ.p14,0,none⟩) else if ix=27 then v=.slice γ.ca γ.cl γ.cc else (([fun v=>v=.slice (some ⟨w0.heap.size,0,none⟩) 1 1,fun v=>v=.int .i64 (f:Int),fun v=>v=.int .i64 (zAE (f:Int)),fun v=>v=.int .i64 (t:Int),fun v=>v=.int .i64 (f:Int),fun v=>v=.agg #[.int .i64 2,.int .i64 (t:Int),.int .i64 (f:Int),.int .i64 0],fun _=>True,fun _=>True,fun v=>v=.int .i64 (f:Int),fun v=>v=.int .i64 (zAE (f:Int)),fun v=>v=.agg #[.int .i64 6,.int .i64 0,.int .i64 0,.int .i64 0],fun _=>True,fun _=>True,fun v=>v=.int .i64 (t:Int),fun v=>v=.int .i64 (zAE (t:Int)),fun v=>v=.agg #[.int .i64 7,.int .i64 (zAE (t:Int)),.int .i64 0,.int .i64 0],fun _=>True,fun _=>True,fun _=>True,fun _=>True,fun _=>True,fun _=>True,fun _=>True,fun v=>v=.agg #[.int .i64 0,.int .i64 0],fun _=>True,fun _=>True,fun _=>True,fun _=>True,fun _=>True]:List (Value→Prop)).getD ix (fun _=>True)) v) (fun (γ:G6) L W=>R6 W1 f t [if (bt r f && bt u t)=true then 0 else 8,if (bt r f && lf)=true then 0 else 8,if (bt u t && lf)=true then 0 else 8] γ L W) (g6) (by kernel_rfl) (by kernel_rfl) (by kernel_rfl) h0 ?hstep ?hend
 case hstep =>
  intro γ ix o ho L ac w1 hD hL hed hcl hout hv
  match ix,ho with
  | 0,ho =>
   simp at ho
   subst ho
   have e11:ac.tmps.getD 11 undef=.slice (some ⟨w0.heap.size,0,none⟩) 1 1:=hout 11 (by decide +kernel)
   exact .inl ⟨rfl,zE γ (.slice (some ⟨w0.heap.size,0,none⟩) 1 1) (by simp [go_sem,Act.eval,-Array.getD_eq_getD_getElem?,e11]) rfl (hD.same (i:=0) (by decide)) (fun _ _ _ _ h=>h)⟩
  | 1,ho =>
   simp at ho
   subst ho
   have e3:ac.tmps.getD 3 undef=.int .i64 (f:Int):=hout 3 (by decide +kernel)
   exact .inl ⟨rfl,zE γ (.int .i64 (f:Int)) (by simp [go_sem,Act.eval,-Array.getD_eq_getD_getElem?,e3]) rfl (hD.same (i:=1) (by decide)) (fun _ _ _ _ h=>h)⟩
  | 2,ho =>
   simp at ho
   subst ho
   have e59:ac.tmps.getD 59 undef=.int .i64 (f:Int):=hv 1 59 rfl (by kernel_rfl)
   exact .inl ⟨rfl,zE γ (.int .i64 (zAE (f:Int))) (by simp [go_sem,Act.eval,-Array.getD_eq_getD_getElem?,e59,hf0,hf1,hsf]) rfl (hD.same (i:=2) (by decide)) (fun _ _ _ _ h=>h)⟩
  | 3,ho =>
   simp at ho
   subst ho
   have e4:ac.tmps.getD 4 undef=.int .i64 (t:Int):=hout 4 (by decide +kernel)
   exact .inl ⟨rfl,zE γ (.int .i64 (t:Int)) (by simp [go_sem,Act.eval,-Array.getD_eq_getD_getElem?,e4]) rfl (hD.same (i:=3) (by decide)) (fun _ _ _ _ h=>h)⟩
  | 4,ho =>
   simp at ho
   subst ho
   have e3:ac.tmps.getD 3 undef=.int .i64 (f:Int):=hout 3 (by decide +kernel)
   exact .inl ⟨rfl,zE γ (.int .i64 (f:Int)) (by simp [go_sem,Act.eval,-Array.getD_eq_getD_getElem?,e3]) rfl (hD.same (i:=4) (by decide)) (fun _ _ _ _ h=>h)⟩
  | 5,ho =>
   simp at ho
   subst ho
   have e61:ac.tmps.getD 61 undef=.int .i64 (t:Int):=hv 3 61 rfl (by kernel_rfl)
   have e62:ac.tmps.getD 62 undef=.int .i64 (f:Int):=hv 4 62 rfl (by kernel_rfl)
   exact .inl ⟨rfl,zE γ (.agg #[.int .i64 2,.int .i64 (t:Int),.int .i64 (f:Int),.int .i64 0]) (by simp [go_sem,Act.eval,-Array.getD_eq_getD_getElem?,e61,e62]) rfl (hD.same (i:=5) (by decide)) (fun _ _ _ _ h=>h)⟩
  | 6,ho =>
   simp at ho
   subst ho
   have e63:ac.tmps.getD 63 undef=.agg #[.int .i64 2,.int .i64 (t:Int),.int .i64 (f:Int),.int .i64 0]:=hv 5 63 rfl (by kernel_rfl)
   have q7:L 7=false:=by
    cases h:L 7
    ·rfl
    ·exact absurd (hcl 7 _ rfl h 6 (by kernel_rfl)) (by rw [hL];decide)
   have q18:L 18=false:=by
    cases h:L 18
    ·rfl
    ·exact absurd (hcl 18 _ rfl h 7 (by kernel_rfl)) (by rw [q7];decide)
   refine .inl ⟨rfl,zAf ⟨w1.heap.size,γ.g2,γ.g3,γ.gd,γ.p12,γ.p14,γ.h4,γ.ca,γ.cl,γ.cc⟩ (.slice (some ⟨w1.heap.size,0,none⟩) 1 1) (w2:=w1.alloc (.cells #[.int .i64 2,.int .i64 (t:Int),.int .i64 (f:Int),.int .i64 0] 71)) (by simp [go_sem,Act.eval,-Array.getD_eq_getD_getElem?,e63]) rfl (hD.mk1 q18) ?_⟩
   exact (fun j u hj hLj h=>by
    by_cases e7:j=7
    ·rw [e7,q7] at hLj;cases hLj
    by_cases e18:j=18
    ·rw [e18,q18] at hLj;cases hLj
    simpa [hj,e7,e18] using h)
  | 7,ho =>
   simp at ho
   subst ho
   have e60:ac.tmps.getD 60 undef=.int .i64 (zAE (f:Int)):=hv 2 60 rfl (by kernel_rfl)
   have e64:ac.tmps.getD 64 undef=.slice (some ⟨γ.g1,0,none⟩) 1 1:=hv 6 64 rfl (by kernel_rfl)
   refine .inl ⟨rfl,zc 22 #[.int .i64 (zAE (f:Int)),.slice (some ⟨γ.g1,0,none⟩) 1 1] (by simp [go_sem,Act.eval,-Array.getD_eq_getD_getElem?,e60,e64]) ?_⟩
   refine (tsys_any (zAE (f:Int)) (some ⟨γ.g1,0,none⟩) 1 1 w1).mono ?_
   rintro e w6 ⟨rfl,hb6⟩
   exact ⟨_,γ,rfl,rfl,(hD.same (i:=7) (by decide)).below hb6,fun _ _ _ _ h=>h⟩
  | 8,ho =>
   simp at ho
   subst ho
   have e3:ac.tmps.getD 3 undef=.int .i64 (f:Int):=hout 3 (by decide +kernel)
   exact .inl ⟨rfl,zE γ (.int .i64 (f:Int)) (by simp [go_sem,Act.eval,-Array.getD_eq_getD_getElem?,e3]) rfl (hD.same (i:=8) (by decide)) (fun _ _ _ _ h=>h)⟩
  | 9,ho =>
   simp at ho
   subst ho
   have e66:ac.tmps.getD 66 undef=.int .i64 (f:Int):=hv 8 66 rfl (by kernel_rfl)
   exact .inl ⟨rfl,zE γ (.int .i64 (zAE (f:Int))) (by simp [go_sem,Act.eval,-Array.getD_eq_getD_getElem?,e66,hf0,hf1,hsf]) rfl (hD.same (i:=9) (by decide)) (fun _ _ _ _ h=>h)⟩
  | 10,ho =>
   simp at ho
   subst ho
   exact .inl ⟨rfl,zE γ (.agg #[.int .i64 6,.int .i64 0,.int .i64 0,.int .i64 0]) (by simp [go_sem,Act.eval,-Array.getD_eq_getD_getElem?,]) rfl (hD.same (i:=10) (by decide)) (fun _ _ _ _ h=>h)⟩
  | 11,ho =>
   simp at ho
   subst ho
   have e68:ac.tmps.getD 68 undef=.agg #[.int .i64 6,.int .i64 0,.int .i64 0,.int .i64 0]:=hv 10 68 rfl (by kernel_rfl)
   have q12:L 12=false:=by
    cases h:L 12
    ·rfl
    ·exact absurd (hcl 12 _ rfl h 11 (by kernel_rfl)) (by rw [hL];decide)
   have q18:L 18=false:=by
    cases h:L 18
    ·rfl
    ·exact absurd (hcl 18 _ rfl h 12 (by kernel_rfl)) (by rw [q12];decide)
   refine .inl ⟨rfl,zAf ⟨γ.g1,w1.heap.size,γ.g3,γ.gd,γ.p12,γ.p14,γ.h4,γ.ca,γ.cl,γ.cc⟩ (.slice (some ⟨w1.heap.size,0,none⟩) 1 1) (w2:=w1.alloc (.cells #[.int .i64 6,.int .i64 0,.int .i64 0,.int .i64 0] 71)) (by simp [go_sem,Act.eval,-Array.getD_eq_getD_getElem?,e68]) rfl (hD.mk2 q18) ?_⟩
   exact (fun j u hj hLj h=>by
    by_cases e12:j=12
    ·rw [e12,q12] at hLj;cases hLj
    by_cases e18:j=18
    ·rw [e18,q18] at hLj;cases hLj
    simpa [hj,e12,e18] using h)
  | 12,ho =>
   simp at ho
   subst ho
   have e67:ac.tmps.getD 67 undef=.int .i64 (zAE (f:Int)):=hv 9 67 rfl (by kernel_rfl)
   have e69:ac.tmps.getD 69 undef=.slice (some ⟨γ.g2,0,none⟩) 1 1:=hv 11 69 rfl (by kernel_rfl)
   refine .inl ⟨rfl,zc 22 #[.int .i64 (zAE (f:Int)),.slice (some ⟨γ.g2,0,none⟩) 1 1] (by simp [go_sem,Act.eval,-Array.getD_eq_getD_getElem?,e67,e69]) ?_⟩
   refine (tsys_any (zAE (f:Int)) (some ⟨γ.g2,0,none⟩) 1 1 w1).mono ?_
   rintro e w6 ⟨rfl,hb6⟩
   exact ⟨_,γ,rfl,rfl,(hD.same (i:=12) (by decide)).below hb6,fun _ _ _ _ h=>h⟩
  | 13,ho =>
   simp at ho
   subst ho
   have e4:ac.tmps.getD 4 undef=.int .i64 (t:Int):=hout 4 (by decide +kernel)
   exact .inl ⟨rfl,zE γ (.int .i64 (t:Int)) (by simp [go_sem,Act.eval,-Array.getD_eq_getD_getElem?,e4]) rfl (hD.same (i:=13) (by decide)) (fun _ _ _ _ h=>h)⟩
  | 14,ho =>
   simp at ho
   subst ho
   have e71:ac.tmps.getD 71 undef=.int .i64 (t:Int):=hv 13 71 rfl (by kernel_rfl)
   exact .inl ⟨rfl,zE γ (.int .i64 (zAE (t:Int))) (by simp [go_sem,Act.eval,-Array.getD_eq_getD_getElem?,e71,ht0,ht1,hst]) rfl (hD.same (i:=14) (by decide)) (fun _ _ _ _ h=>h)⟩
  | 15,ho =>
   simp at ho
   subst ho
   have e72:ac.tmps.getD 72 undef=.int .i64 (zAE (t:Int)):=hv 14 72 rfl (by kernel_rfl)
   exact .inl ⟨rfl,zE γ (.agg #[.int .i64 7,.int .i64 (zAE (t:Int)),.int .i64 0,.int .i64 0]) (by simp [go_sem,Act.eval,-Array.getD_eq_getD_getElem?,e72]) rfl (hD.same (i:=15) (by decide)) (fun _ _ _ _ h=>h)⟩
  | 16,ho =>
   simp at ho
   subst ho
   have e73:ac.tmps.getD 73 undef=.agg #[.int .i64 7,.int .i64 (zAE (t:Int)),.int .i64 0,.int .i64 0]:=hv 15 73 rfl (by kernel_rfl)
   have q17:L 17=false:=by
    cases h:L 17
    ·rfl
    ·exact absurd (hcl 17 _ rfl h 16 (by kernel_rfl)) (by rw [hL];decide)
   have q18:L 18=false:=by
    cases h:L 18
    ·rfl
    ·exact absurd (hcl 18 _ rfl h 17 (by kernel_rfl)) (by rw [q17];decide)
   refine .inl ⟨rfl,zAf ⟨γ.g1,γ.g2,w1.heap.size,γ.gd,γ.p12,γ.p14,γ.h4,γ.ca,γ.cl,γ.cc⟩ (.slice (some ⟨w1.heap.size,0,none⟩) 1 1) (w2:=w1.alloc (.cells #[.int .i64 7,.int .i64 (zAE (t:Int)),.int .i64 0,.int .i64 0] 71)) (by simp [go_sem,Act.eval,-Array.getD_eq_getD_getElem?,e73]) rfl (hD.mk3 q18) ?_⟩
   exact (fun j u hj hLj h=>by
    by_cases e17:j=17
    ·rw [e17,q17] at hLj;cases hLj
    by_cases e18:j=18
    ·rw [e18,q18] at hLj;cases hLj
    simpa [hj,e17,e18] using h)
  | 17,ho =>
   simp at ho
   subst ho
   have e74:ac.tmps.getD 74 undef=.slice (some ⟨γ.g3,0,none⟩) 1 1:=hv 16 74 rfl (by kernel_rfl)
   refine .inl ⟨rfl,zc 22 #[.int .i64 0,.slice (some ⟨γ.g3,0,none⟩) 1 1] (by simp [go_sem,Act.eval,-Array.getD_eq_getD_getElem?,e74]) ?_⟩
   refine (tsys_any 0 (some ⟨γ.g3,0,none⟩) 1 1 w1).mono ?_
   rintro e w6 ⟨rfl,hb6⟩
   exact ⟨_,γ,rfl,rfl,(hD.same (i:=17) (by decide)).below hb6,fun _ _ _ _ h=>h⟩
  | 18,ho =>
   simp at ho
   subst ho
   have e65:ac.tmps.getD 65 undef=.agg #[.int .i64 5,.int .i64 0,.int .i64 0,.int .i64 0,.int .i64 0,.int .i64 0,.int .i64 0,.int .i64 (zAE (f:Int)),.int .i64 0,.slice (some ⟨γ.g1,0,none⟩) 1 1,.int .i64 0,.int .i64 0]:=hv 7 65 rfl (by kernel_rfl)
   have e70:ac.tmps.getD 70 undef=.agg #[.int .i64 5,.int .i64 0,.int .i64 0,.int .i64 0,.int .i64 0,.int .i64 0,.int .i64 0,.int .i64 (zAE (f:Int)),.int .i64 0,.slice (some ⟨γ.g2,0,none⟩) 1 1,.int .i64 0,.int .i64 0]:=hv 12 70 rfl (by kernel_rfl)
   have e75:ac.tmps.getD 75 undef=.agg #[.int .i64 5,.int .i64 0,.int .i64 0,.int .i64 0,.int .i64 0,.int .i64 0,.int .i64 0,.int .i64 0,.int .i64 0,.slice (some ⟨γ.g3,0,none⟩) 1 1,.int .i64 0,.int .i64 0]:=hv 17 75 rfl (by kernel_rfl)
   have q19:L 19=false:=by
    cases h:L 19
    ·rfl
    ·exact absurd (hcl 19 _ rfl h 18 (by kernel_rfl)) (by rw [hL];decide)
   refine .inl ⟨rfl,zAf ⟨γ.g1,γ.g2,γ.g3,w1.heap.size,γ.p12,γ.p14,γ.h4,γ.ca,γ.cl,γ.cc⟩ (.slice (some ⟨w1.heap.size,0,none⟩) 3 3) (w2:=w1.alloc (.cells (zAl zAK (blA f t γ.g1 γ.g2 γ.g3)).toArray 46)) (by simp [go_sem,Act.eval,-Array.getD_eq_getD_getElem?,e65,e70,e75,zAl,blA,zAK,sysD]) rfl hD.mkd (fun j u hj hLj h=>by simpa [hj] using h)⟩
  | 19,ho =>
   simp at ho
   subst ho
   have e58:ac.tmps.getD 58 undef=.slice (some ⟨w0.heap.size,0,none⟩) 1 1:=hv 0 58 rfl (by kernel_rfl)
   have e76:ac.tmps.getD 76 undef=.slice (some ⟨γ.gd,0,none⟩) 3 3:=hv 18 76 rfl (by kernel_rfl)
   have q20:L 20=false:=by
    cases h:L 20
    ·rfl
    ·exact absurd (hcl 20 _ rfl h 19 (by kernel_rfl)) (by rw [hL];decide)
   have q21:L 21=false:=by
    cases h:L 21
    ·rfl
    ·exact absurd (hcl 21 _ rfl h 20 (by kernel_rfl)) (by rw [q20];decide)
   have q22:L 22=false:=by
    cases h:L 22
    ·rfl
    ·exact absurd (hcl 22 _ rfl h 20 (by kernel_rfl)) (by rw [q20];decide)
   have q27:L 27=false:=by
    cases h:L 27
    ·rfl
    ·exact absurd (hcl 27 _ rfl h 22 (by kernel_rfl)) (by rw [q22];decide)
   have t6:L 6=true:=hcl 7 _ rfl (hcl 18 _ rfl (hed 18 (by kernel_rfl)) 7 (by kernel_rfl)) 6 (by kernel_rfl)
   have t11:L 11=true:=hcl 12 _ rfl (hcl 18 _ rfl (hed 18 (by kernel_rfl)) 12 (by kernel_rfl)) 11 (by kernel_rfl)
   have t16:L 16=true:=hcl 17 _ rfl (hcl 18 _ rfl (hed 18 (by kernel_rfl)) 17 (by kernel_rfl)) 16 (by kernel_rfl)
   have t18:L 18=true:=hed 18 (by kernel_rfl)
   refine .inl ⟨rfl,zc 13 #[.slice (some ⟨w0.heap.size,0,none⟩) 1 1,.slice (some ⟨γ.gd,0,none⟩) 3 3] (by simp [go_sem,Act.eval,-Array.getD_eq_getD_getElem?,e58,e76]) ?_⟩
   refine (zA HPL γ.g1 γ.g2 γ.g3 γ.gd w1 hD.bel (hD.a1 t6).here (hD.a2 t11).here (hD.a3 t16).here (hD.dd t18).here).mono ?_
   rintro e w6 ⟨h4,b,o,cc,rfl,p1,p2,p3,p4,p5,hb6⟩
   refine ⟨_,⟨γ.g1,γ.g2,γ.g3,γ.gd,γ.p12,γ.p14,h4,some ⟨b,o,none⟩,3,cc⟩,rfl,rfl,hD.played hb6 p1 p2 rfl p3 p4 p5,?_⟩
   exact (fun j u hj hLj h=>by
    by_cases e20:j=20
    ·rw [e20,q20] at hLj;cases hLj
    by_cases e21:j=21
    ·rw [e21,q21] at hLj;cases hLj
    by_cases e22:j=22
    ·rw [e22,q22] at hLj;cases hLj
    by_cases e27:j=27
    ·rw [e27,q27] at hLj;cases hLj
    simpa [hj,e20,e21,e22,e27] using h)
  | 20,ho =>
   simp at ho
   subst ho
   have e77:ac.tmps.getD 77 undef=.tuple #[.agg γ.h4.toArray,.slice γ.ca γ.cl γ.cc,.agg #[.int .i64 0,.int .i64 0]]:=hv 19 77 rfl (by kernel_rfl)
   exact .inl ⟨rfl,zE γ (.tuple #[.agg γ.h4.toArray,.slice γ.ca γ.cl γ.cc,.agg #[.int .i64 0,.int .i64 0]]) (by simp [go_sem,Act.eval,-Array.getD_eq_getD_getElem?,e77]) rfl (hD.same (i:=20) (by decide)) (fun _ _ _ _ h=>h)⟩
  | 21,ho =>
   simp at ho
   subst ho
   have e57:ac.tmps.getD 57 undef=.tuple #[.agg γ.h4.toArray,.slice γ.ca γ.cl γ.cc,.agg #[.int .i64 0,.int .i64 0]]:=hv 20 57 rfl (by kernel_rfl)
   exact .inl ⟨rfl,zE γ (.agg γ.h4.toArray) (by simp [go_sem,Act.eval,-Array.getD_eq_getD_getElem?,e57]) rfl (hD.same (i:=21) (by decide)) (fun _ _ _ _ h=>h)⟩
  | 22,ho =>
   simp at ho
   subst ho
   have e57:ac.tmps.getD 57 undef=.tuple #[.agg γ.h4.toArray,.slice γ.ca γ.cl γ.cc,.agg #[.int .i64 0,.int .i64 0]]:=hv 20 57 rfl (by kernel_rfl)
   exact .inl ⟨rfl,zE γ (.slice γ.ca γ.cl γ.cc) (by simp [go_sem,Act.eval,-Array.getD_eq_getD_getElem?,e57]) rfl (hD.same (i:=22) (by decide)) (fun _ _ _ _ h=>h)⟩
  | 23,ho =>
   simp at ho
   subst ho
   have e57:ac.tmps.getD 57 undef=.tuple #[.agg γ.h4.toArray,.slice γ.ca γ.cl γ.cc,.agg #[.int .i64 0,.int .i64 0]]:=hv 20 57 rfl (by kernel_rfl)
   exact .inl ⟨rfl,zE γ (.agg #[.int .i64 0,.int .i64 0]) (by simp [go_sem,Act.eval,-Array.getD_eq_getD_getElem?,e57]) rfl (hD.same (i:=23) (by decide)) (fun _ _ _ _ h=>h)⟩
  | 24,ho =>
   simp at ho
   subst ho
   exact .inl ⟨rfl,zAf ⟨γ.g1,γ.g2,γ.g3,γ.gd,w1.heap.size,γ.p14,γ.h4,γ.ca,γ.cl,γ.cc⟩ (.pointer (some ⟨w1.heap.size,0,none⟩)) (w2:=w1.alloc (.cells #[.slice none 0 0,.slice none 0 0,.slice none 0 0,.slice none 0 0] 31)) (by simp [go_sem,Act.eval]) rfl (hD.mk12 hL (c:=[.slice none 0 0,.slice none 0 0,.slice none 0 0,.slice none 0 0]) rfl) (fun j u hj hLj h=>by simpa [hj] using h)⟩
  | 25,ho =>
   simp at ho
   subst ho
   exact .inl ⟨rfl,zAf ⟨γ.g1,γ.g2,γ.g3,γ.gd,γ.p12,w1.heap.size,γ.h4,γ.ca,γ.cl,γ.cc⟩ (.pointer (some ⟨w1.heap.size,0,none⟩)) (w2:=w1.alloc (.cells #[.int .i64 0,.int .i64 0] 35)) (by simp [go_sem,Act.eval]) rfl (hD.mk14 hL) (fun j u hj hLj h=>by simpa [hj] using h)⟩
  | 26,ho =>
   simp at ho
   subst ho
   have e12:ac.tmps.getD 12 undef=.pointer (some ⟨γ.p12,0,none⟩):=hv 24 12 rfl (by kernel_rfl)
   have e78:ac.tmps.getD 78 undef=.agg γ.h4.toArray:=hv 21 78 rfl (by kernel_rfl)
   have t19:L 19=true:=hcl 20 _ rfl (hcl 21 _ rfl (hed 21 (by kernel_rfl)) 20 (by kernel_rfl)) 19 (by kernel_rfl)
   have t24:L 24=true:=hed 24 (by kernel_rfl)
   obtain ⟨p1,p2,_⟩:=hD.an t19
   obtain ⟨_,c,hc,hbx⟩:=hD.b12 t24
   exact .inl ⟨rfl,zAd γ 31 (.tmp 12) (.tmp 78) rfl γ.p12 0 γ.h4 (by simp [Act.eval,-Array.getD_eq_getD_getElem?,e12]) (by simp [Act.eval,-Array.getD_eq_getD_getElem?,e78]) p2 (by rw [p1];exact size31) (by rw [p1];exact hbx.there 0 rfl 4 hc) trivial ((hD.put12 t24 p1).same (i:=26) (by decide)) (fun _ _ _ _ h=>h)⟩
  | 27,ho =>
   simp at ho
   subst ho
   have e79:ac.tmps.getD 79 undef=.slice γ.ca γ.cl γ.cc:=hv 22 79 rfl (by kernel_rfl)
   exact .inl ⟨rfl,zE γ (.slice γ.ca γ.cl γ.cc) (by simp [go_sem,Act.eval,-Array.getD_eq_getD_getElem?,e79]) rfl (hD.same (i:=27) (by decide)) (fun _ _ _ _ h=>h)⟩
  | 28,ho =>
   simp at ho
   subst ho
   have e14:ac.tmps.getD 14 undef=.pointer (some ⟨γ.p14,0,none⟩):=hv 25 14 rfl (by kernel_rfl)
   have e80:ac.tmps.getD 80 undef=.agg #[.int .i64 0,.int .i64 0]:=hv 23 80 rfl (by kernel_rfl)
   have t25:L 25=true:=hed 25 (by kernel_rfl)
   obtain ⟨_,hbx⟩:=hD.b14 t25
   exact .inl ⟨rfl,zAd γ 35 (.tmp 14) (.tmp 80) rfl γ.p14 0 [.int .i64 0,.int .i64 0] (by simp [Act.eval,-Array.getD_eq_getD_getElem?,e14]) (by simp [Act.eval,-Array.getD_eq_getD_getElem?,e80]) (by simp [Value.oneCell']) size35 (hbx.there 0 rfl 2 rfl) trivial ((hD.put14 t25).same (i:=28) (by decide)) (fun _ _ _ _ h=>h)⟩
  | ix+29,ho=>simp at ho
 case hend =>
  intro γ v L w2 hD hall hv
  have v27:v 27=.slice γ.ca γ.cl γ.cc:=hv 27 13 rfl
  have v25:v 25=.pointer (some ⟨γ.p14,0,none⟩):=hv 25 14 rfl
  obtain ⟨_,_,hcl,b,o,hca,hfo⟩:=hD.an (hall 19 (by decide))
  have hc:=hfo.here
  obtain ⟨_,hb14⟩:=hD.b14 (hall 25 (by decide))
  have q0:=hb14.cell 0 rfl 0 rfl
  rw [Nat.add_zero] at q0
  have HL2:=zB ((zA HL1).trans (hD.bel.mono (zA HL1).size))
  have y0:=hc 0 _ rfl
  have y1:=hc 1 _ rfl
  have y2:=hc 2 _ rfl
  obtain ⟨g1,g2,g3,gd,p12,p14,h4,ca,cl,cc⟩:=γ
  dsimp only at v27 v25 hcl hca q0
  subst hcl
  subst hca
  clear hv hall hD h0 hc hfo hb14 HPL HPL0 HM1 HL1 HW1 HSF HST hsf hst
  simp only [zn,List.getElem?_cons_zero,List.getElem?_cons_succ,Option.bind_some,List.length_cons,List.length_nil,Nat.reduceAdd,v27,v25]
  clear v27 v25
  go_frame
  go_wp2_with fail
  have hsub:Nonempty (Sub w2):=⟨⟨w2,Below.refl _ _⟩⟩
  refine zAW (by kernel_rfl) (by kernel_rfl) ?_
  repeat (go_big_quiet_step (fail))
  refine wpQuiet_nil ?_
  rintro w3 ⟨xs,hxs⟩
  have hb3:=xs.bel
  rw [←hxs] at hb3
  have HL3:=zB ((zA HL2).trans (hb3.mono (zA HL2).size))
  have y0:=zD hb3 y0
  have y1:=zD hb3 y1
  have y2:=zD hb3 y2
  simp only [Nat.zero_mul,Nat.one_mul,Nat.add_zero,Nat.reduceMul] at y0 y1 y2
  have hlt:=World.block_lt_of_cell? w3 _ y0
  dsimp only at hlt
  rw [zA HRB,zA HUB]
  clear hxs hb3 hsub q0 HL2 HRB HUB xs
  generalize bt r f=br at *
  generalize bt u t=bu at *
  cases br <;> cases bu <;> cases lf
  all_goals
   simp only [Bool.and_true,Bool.and_false,Bool.and_self,Bool.false_eq_true,if_true,if_false] at y0 y1 y2
   go_wp2_with fail
   refine wp_loop_rounds 4 ?_
   repeat (rw [rounds_succ];go_wp2)
   go_ret
   exact ⟨rfl,(zA HL3).trans ((zAo _ _).mono (zA HL3).size)⟩
theorem tlb_law (r u:Int) (lf:Bool) (fi ti:Int) (w:World) :
  Calls Tryz.prog 8 #[.int .i64 r,.int .i64 u,.bool lf,.int .i64 fi,.int .i64 ti] w fun e w'=>e=.returned (.bool true)∧Below w.heap.size w w':=by
 by_cases h0:r<0
 ·exact tlb_o0 r u lf fi ti  h0 w
 by_cases h1:255<r
 ·exact tlb_o1 r u lf fi ti h0 h1 w
 by_cases h2:u<0
 ·exact tlb_o2 r u lf fi ti h0 h1 h2 w
 by_cases h3:255<u
 ·exact tlb_o3 r u lf fi ti h0 h1 h2 h3 w
 by_cases h4:fi<0
 ·exact tlb_o4 r u lf fi ti h0 h1 h2 h3 h4 w
 by_cases h5:8≤fi
 ·exact tlb_o5 r u lf fi ti h0 h1 h2 h3 h4 h5 w
 by_cases h6:ti<0
 ·exact tlb_o6 r u lf fi ti h0 h1 h2 h3 h4 h5 h6 w
 by_cases h7:8≤ti
 ·exact tlb_o7 r u lf fi ti h0 h1 h2 h3 h4 h5 h6 h7 w
 obtain ⟨f,rfl⟩:∃ f:Nat,fi=(f:Int):=⟨fi.toNat,by omega⟩
 obtain ⟨t,rfl⟩:∃ t:Nat,ti=(t:Int):=⟨ti.toNat,by omega⟩
 exact tlb_ok r u lf f t (by omega) (by omega) (by omega) (by omega) w
end Go.Proofs.YtnbleebilmghcacGreat
