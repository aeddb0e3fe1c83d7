/- STl0, STl -/
import Derived.Deep.CutBlock
import Derived.Test.YtnbleebilmghcaaWL
import Derived.Test.YtnbleebilmghcaaWO
import Derived.Test.YtnbleebilmghcaaWT
import Derived.Test.YtnbleebilmghcaaWS
import Derived.Test.YtnbleebilmghcaaVROf
import Derived.Test.YtnbleebilmghcaaWW
set_option linter.all false
namespace Go.Proofs.Ytnbleebilmghcaa
open Go Go.RowKit
theorem same_st {Y:Wd} (W:World) (T:Option Addr) (tc:Nat) (G:Option Addr) (gc:Nat) (T':Option Addr) (tc':Nat) (G':Option Addr) (gc':Nat) (h:StAt W T G (zU Y) Y) (h':StAt W T' G' (zU Y) Y) :
  Calls Try.prog 56 #[.agg #[.slice T (zU Y).length tc,.slice G Y.gens.length gc],.agg #[.slice T' (zU Y).length tc',.slice G' Y.gens.length gc']] W fun e w'=>e=.returned (.bool true)∧Below W.heap.size W w':=by
 have hr:=zq ((zk Y).2 h.right)
 have:=samex_true T tc G gc T' tc' G' gc' ((zU Y).map toX) Y.gens W (by rw [List.length_map];have:=h.few;omega) (by omega) (fun i hi=>by
  rw [List.length_map] at hi
  rw [zBv _ hi]
  exact (h.each _ (List.getElem_mem hi)).fewX) h.tbs.x h.gens h'.tbs.x h'.gens
 rwa [List.length_map] at this
theorem same_no (W:World) (T:Option Addr) (tc:Nat) (G:Option Addr) (gc:Nat) :
  Calls Try.prog 56 #[.agg #[.slice T 0 tc,.slice G 0 gc],.agg #[.slice none 0 0,.slice none 0 0]] W fun e w'=>e=.returned (.bool true)∧Below W.heap.size W w' :=
 samex_true T tc G gc none 0 none 0 [] [] W (by simp) (by simp) (fun i hi=>absurd hi (Nat.not_lt_zero _)) (fun i hi=>absurd hi (Nat.not_lt_zero _)) (fun i hi=>absurd hi (Nat.not_lt_zero _)) (fun i hi=>absurd hi (Nat.not_lt_zero _)) (fun i hi=>absurd hi (Nat.not_lt_zero _))
theorem rTo_snd (R:Nat→RowI) (gn:Nat) (f:Nat→Int):∀ m j,(rTo R gn f m j).1=0→(rTo R gn f m j).2=0
 | 0,_,_=>rfl
 | m+1,j,h=>by
  unfold rTo at h ⊢
  split at h
  ·rename_i h0
   rw [if_pos h0]
   exact rTo_snd R gn f m (j+1) h
  ·rename_i h0
   exact absurd h h0
theorem gTo_snd (f:Nat→Int) (r:Int×Int) (hr:r.1=0→r.2=0):∀ m j,(gTo f r m j).1=0→(gTo f r m j).2=0
 | 0,_,h=>hr h
 | m+1,j,h=>by
  unfold gTo at h ⊢
  split at h
  ·exact absurd (show (3:Int)=0 from h) (by decide)
  ·rename_i h0
   rw [if_neg h0]
   exact gTo_snd f r hr m (j+1) h
theorem wrong_snd {X:Wd} (h:(zN X).1=0):(zN X).2=0:=by
 unfold zN zAL at h ⊢
 split at h
 ·exact absurd h (by decide)
 ·rename_i h0
  rw [if_neg h0]
  exact gTo_snd _ _ (rTo_snd _ _ _ _ _) _ _ h
theorem of_all (A:Option Addr) (cap:Nat) (G:Option Addr) (gcap:Nat) (X:Wd) (w:World) (hn0:X.rows.length≤9223372036854775807) (hX:WldAt w A cap G gcap X) :
  Calls Try.prog 60 #[.agg #[.slice A X.rows.length cap,.slice G X.gens.length gcap]] w fun e w'=>∃ T tn tc G' gn gc',e=.returned (.tuple #[.agg #[.slice T tn tc,.slice G' gn gc'],.agg #[.int .i64 (zN X).1,.int .i64 (zN X).2]])∧(((zN X).1=0→RightW X∧tn=(zU X).length∧gn=X.gens.length∧StAt w' T G' (zU X) X)∧((zN X).1≠0→tn=0∧gn=0))∧Below w.heap.size w w':=by
 by_cases h:(zN X).1=0
 ·have hr:=(zk X).1 h
  refine (of_right A cap G gcap X w hX hr).mono ?_
  rintro e w1 ⟨T,tc,G',gc',rfl,hN,hb⟩
  refine ⟨T,_,tc,G',_,gc',?_,⟨fun _=>⟨hr,rfl,rfl,hN.st⟩,fun e=>absurd h e⟩,hb⟩
  rw [wrong_snd h,h]
  rfl
 ·refine (of_wrong A cap G gcap X w hn0 hX h).mono ?_
  rintro e w1 ⟨rfl,hb⟩
  exact ⟨none,0,0,none,0,0,rfl,⟨fun e=>absurd e h,fun _=>⟨rfl,rfl⟩⟩,hb⟩
theorem rworld_st (T:Option Addr) (tcap:Nat) (G:Option Addr) (gcap:Nat) (tabs:List TabI) (Y:Wd) (w:World) (h:StAt w T G tabs Y) (hY:Y.rows=insTo (tabs.flatMap (·.rows)) (tabs.flatMap (·.rows)).length) :
  Calls Try.prog 59 #[.agg #[.slice T tabs.length tcap,.slice G Y.gens.length gcap]] w fun e w'=>∃ A' c',e=.returned (.agg #[.slice A' Y.rows.length c',.slice G Y.gens.length gcap])∧WldAt w' A' c' G gcap Y∧Below w.heap.size w w':=by
 have hr:=zq ((zk Y).2 h.right)
 have hp:=h.perm.length_eq
 have hf:=h.few
 refine (rworld_any T tcap G gcap tabs Y.gens w h.tbs h.each (by omega) (by omega)).mono ?_
 rintro e w1 ⟨v,rfl,ho,hb⟩
 rw [←hY,hp] at ho
 obtain ⟨A',c',rfl⟩:∃ A' c',v=.slice A' Y.rows.length c':=by
  rcases ho.2 with ⟨e,h0⟩ | ⟨g,cap,cur,e,_⟩
  ·exact ⟨none,0,by rw [e,h0]⟩
  ·exact ⟨_,cap,e⟩
 exact ⟨A',c',rfl,⟨zAk ho,h.gens.below hb⟩,hb⟩
theorem none_of {Z:Wd} (h:Z=emptyW):(zU Z).length=0∧Z.gens.length=0:=by
 subst h
 exact ⟨rfl,rfl⟩
end Go.Proofs.Ytnbleebilmghcaa
set_option maxHeartbeats 16000000
set_option maxRecDepth 8000
namespace Go.Proofs.Ytnbleebilmghcaa
open Go Go.RowKit
attribute [local go_sem ↓] Go.wp_at_zero Go.wp_at_succ
theorem stells_law (T:Option Addr) (tcap:Nat) (G:Option Addr) (gcap:Nat) (l:List TabX) (tabs:List TabI) (Y:Wd) (A:Option Addr) (cap:Nat) (GX:Option Addr) (gxc:Nat) (X:Wd) (i g has p n:Int) (w:World) (hTog:TogAt w T l tabs) (hY:Y.rows=insTo (tabs.flatMap (·.rows)) (tabs.flatMap (·.rows)).length) (hG:IntsL w G Y.gens) (hgl:Y.gens.length≤4194304) (hrl:(tabs.flatMap (·.rows)).length≤4194304) (hn0:X.rows.length≤9223372036854775807) (hX:WldAt w A cap GX gxc X) :
  Calls Try.prog 9 #[.agg #[.slice T l.length tcap,.slice G Y.gens.length gcap],.agg #[.slice A X.rows.length cap,.slice GX X.gens.length gxc],.agg #[.int .i64 i,.int .i64 g],.int .i64 has,.int .i64 p,.int .i64 n] w fun e w'=>e=.returned (.bool true)∧Below w.heap.size w w':=by
 have hSW:=fun W (hb:Below w.heap.size w W)=>swrong_all T tcap G gcap l tabs Y W (hTog.below hb) hY (hG.below hb) hgl hrl
 have hRW:=fun W (hb:Below w.heap.size w W)=>rwrongstore_all T tcap G gcap l tabs Y W (hTog.below hb) hY (hG.below hb) hrl
 have hSO:=fun W (hb:Below w.heap.size w W)=>sown_any T tcap G gcap l Y.gens W hTog.fewl hgl hTog.few (hTog.below hb).tbs (hG.below hb)
 have hSS:=fun W T' c' G' gc' (hb:Below w.heap.size w W) (h1:TabsX W T' l) (h2:IntsL W G' Y.gens)=>samex_true T' c' G' gc' T tcap G gcap l Y.gens W hTog.fewl hgl hTog.few h1 h2 (hTog.below hb).tbs (hG.below hb)
 have hOF:=fun W (hb:Below w.heap.size w W)=>of_all A cap GX gxc X W hn0 (hX.below hb)
 have hPW:=fun W (hb:Below w.heap.size w W)=>zp A X.rows.length cap GX X.gens.length gxc (fun j=>X.rows.getD j dR) (fun j=>X.gens.getD j 0) W (by omega) (hX.below hb).rows (hX.below hb).gens
 have hRO:=fun (hr:RightW X) W (hb:Below w.heap.size w W)=>rof_any A cap GX gxc X W (hX.below hb) hr
 have eW:zAL (fun j=>X.rows.getD j dR) X.rows.length X.gens.length (fun j=>X.gens.getD j 0)=zN X:=rfl
 rw [eW] at hPW
 clear eW
 unfold stV at hSW hRW
 unfold zAE zQ at hPW
 unfold zAA zQ stV at hRO
 have hST:(zCU l tabs Y).1=0→(zCU l tabs Y).2=0∧l.length=tabs.length∧StAt w T G tabs Y:=fun h0=>by
  obtain ⟨a,b,c,_⟩:=hTog.stat hY hG h0
  exact ⟨by rw [c],b,a⟩
 have hBP:=fun (h0:(zCU l tabs Y).1≠0) W (hb:Below w.heap.size w W)=>sput_bad T tcap G gcap l tabs Y i g p n W (hTog.below hb) hY (hG.below hb) hgl hrl h0
 have hBS:=fun (h0:(zCU l tabs Y).1≠0) W (hb:Below w.heap.size w W)=>sspawn_bad T tcap G gcap l tabs Y has n W (hTog.below hb) hY (hG.below hb) hgl hrl h0
 unfold stV zW at hBP hBS
 generalize (zN X).2=wa at *
 generalize (zN X).1=we at *
 generalize (zCU l tabs Y).2=sa at *
 generalize (zCU l tabs Y).1=se at *
 have HSW:=zB hSW
 have HRW:=zB hRW
 have HSO:=zB hSO
 have HSS:=zB hSS
 have HOF:=zB hOF
 have HPW:=zB hPW
 have HRO:=zB hRO
 have HST:=zB hST
 have HBP:=zB hBP
 have HBS:=zB hBS
 have HY:=zB hY
 clear hSW hRW hSO hSS hOF hPW hRO hST hBP hBS hTog hX hG hgl hrl hn0 hY
 have hfld:=run_field43
 obtain ⟨W0,hW0⟩:∃ W0,W0=zAy w [([.slice T l.length tcap,.slice G Y.gens.length gcap],71),([.slice A X.rows.length cap,.slice GX X.gens.length gxc],38),([.int .i64 i,.int .i64 g],40)]:=⟨_,rfl⟩
 have hX0:=Bxs.start w [([.slice T l.length tcap,.slice G Y.gens.length gcap],71),([.slice A X.rows.length cap,.slice GX X.gens.length gxc],38),([.int .i64 i,.int .i64 g],40)]
 have hb0:=allocs_below [([.slice T l.length tcap,.slice G Y.gens.length gcap],71),([.slice A X.rows.length cap,.slice GX X.gens.length gxc],38),([.int .i64 i,.int .i64 g],40)] w
 rw [←hW0] at hX0 hb0
 have hW0':((w.alloc (.cells #[.slice T l.length tcap,.slice G Y.gens.length gcap] 71)).alloc (.cells #[.slice A X.rows.length cap,.slice GX X.gens.length gxc] 38)).alloc (.cells #[.int .i64 i,.int .i64 g] 40)=W0:=hW0.symm
 have HW0:=zB hW0'
 clear hW0 hW0'
 have HB0:=zB hX0
 have HL0:=zB hb0
 clear hX0 hb0
 go_enter Try.func9,Try.ntmps9
 go_upto_region 1 with fail
 rw [zA HW0]
 clear HW0
 go_cut [54] from 29 to 54 (fun c wc=>c=.bool false∧Below W0.heap.size W0 wc)
 case first =>
  by_cases hse:se=0
  ·subst hse
   obtain ⟨hsa,hlen,hAt⟩:=zA HST rfl
   subst hsa
   have hWO:=fun W (hb:Below w.heap.size w W)=>sworld_any T tcap G gcap tabs Y W (hAt.below hb)
   have hRD:=fun W (hb:Below w.heap.size w W)=>rworld_st T tcap G gcap tabs Y W (hAt.below hb) (zA HY)
   unfold stV zAA zQ at hWO
   rw [←hlen] at hWO hRD
   obtain ⟨hyl,hygl,_⟩:=zq ((zk Y).2 hAt.right)
   have HWO:=zB hWO
   have HRD:=zB hRD
   clear hWO hRD hlen hAt
   have h0:(fun (γ:Value×Value×Value) L W=>Below W0.heap.size W0 W∧(L 7=true→∃ T' c' G' gc',γ.1=.agg #[.slice T' l.length c',.slice G' Y.gens.length gc']∧TabsX W T' l∧IntsL W G' Y.gens)∧(L 19=true→∃ A' c' G' gc',γ.2.1=.agg #[.slice A' Y.rows.length c',.slice G' Y.gens.length gc']∧WldAt W A' c' G' gc' Y)∧(L 21=true→∃ A' c' G' gc',γ.2.2=.agg #[.slice A' Y.rows.length c',.slice G' Y.gens.length gc']∧WldAt W A' c' G' gc' Y)) (undef,undef,undef) (fun _=>false) W0.drew:=⟨(Below.refl _ _).drew,fun e=>(by cases e),fun e=>(by cases e),fun e=>(by cases e)⟩
   refine zc (fun (γ:Value×Value×Value) ix v=>if ix=7 then v=γ.1 else if ix=19 then v=γ.2.1 else if ix=21 then v=γ.2.2 else (([fun v=>v=.agg #[.slice T l.length tcap,.slice G Y.gens.length gcap],fun v=>v=.agg #[.int .i64 0,.int .i64 0],fun v=>v=.agg #[.slice T l.length tcap,.slice G Y.gens.length gcap],fun v=>v=.agg #[.int .i64 0,.int .i64 0],fun v=>v=.bool false,fun v=>v=.bool false,fun v=>v=.agg #[.slice T l.length tcap,.slice G Y.gens.length gcap],fun _=>True,fun v=>v=.agg #[.slice T l.length tcap,.slice G Y.gens.length gcap],fun v=>v=.bool true,fun v=>v=.bool false,fun v=>v=.bool false,fun v=>v=.bool false,fun v=>v=.agg #[.slice T l.length tcap,.slice G Y.gens.length gcap],fun v=>v=.agg #[.int .i64 0,.int .i64 0],fun v=>v=.int .i64 0,fun v=>v=.bool true,fun v=>v=.bool true,fun v=>v=.agg #[.slice T l.length tcap,.slice G Y.gens.length gcap],fun _=>True,fun v=>v=.agg #[.slice T l.length tcap,.slice G Y.gens.length gcap],fun _=>True,fun v=>v=.bool true,fun v=>v=.bool false,fun v=>v=.bool false,fun v=>v=.bool false]:List (Value→Prop)).getD ix (fun _=>True)) v) (fun (γ:Value×Value×Value) L W=>Below W0.heap.size W0 W∧(L 7=true→∃ T' c' G' gc',γ.1=.agg #[.slice T' l.length c',.slice G' Y.gens.length gc']∧TabsX W T' l∧IntsL W G' Y.gens)∧(L 19=true→∃ A' c' G' gc',γ.2.1=.agg #[.slice A' Y.rows.length c',.slice G' Y.gens.length gc']∧WldAt W A' c' G' gc' Y)∧(L 21=true→∃ A' c' G' gc',γ.2.2=.agg #[.slice A' Y.rows.length c',.slice G' Y.gens.length gc']∧WldAt W A' c' G' gc' Y)) ((undef,undef,undef)) (by kernel_rfl) (by kernel_rfl) (by kernel_rfl) h0 ?hstep ?hend
   case hstep =>
    intro γ ix o ho L ac w1 hD hL hed hcl hout hv
    match ix,ho with
    | 0,ho =>
     simp at ho
     subst ho
     have e6:ac.tmps.getD 6 undef=.pointer (some ⟨w.heap.size,0,none⟩):=hout 6 (by decide +kernel)
     have bb:=(zA HB0).below hD.1
     have c0:=bb.cell 0 rfl 0 rfl
     have c1:=bb.cell 0 rfl 1 rfl
     rw [Nat.add_zero] at c0 c1
     exact .inl ⟨rfl,zC γ (.agg #[.slice T l.length tcap,.slice G Y.gens.length gcap]) (by simp [go_sem,Act.eval,-Array.getD_eq_getD_getElem?,e6,c0,c1]) rfl (⟨hD.1,by rw [zJ (by decide)];exact hD.2.1,by rw [zJ (by decide)];exact hD.2.2.1,by rw [zJ (by decide)];exact hD.2.2.2⟩) (fun _ _ _ _ h=>h)⟩
    | 1,ho =>
     simp at ho
     subst ho
     have e29:ac.tmps.getD 29 undef=.agg #[.slice T l.length tcap,.slice G Y.gens.length gcap]:=hv 0 29 rfl (by kernel_rfl)
     refine .inl ⟨rfl,zj 54 #[.agg #[.slice T l.length tcap,.slice G Y.gens.length gcap]] (by simp [go_sem,Act.eval,-Array.getD_eq_getD_getElem?,e29]) ?_⟩
     refine (zA HSW _ ((zA HL0).trans (hD.1.mono (zA HL0).size))).mono ?_
     rintro e w6 ⟨rfl,hb6⟩
     exact ⟨_,γ,rfl,rfl,⟨hD.1.trans (hb6.mono hD.1.size),fun e=>(by obtain ⟨a,b,c,d,x,y,z⟩:=hD.2.1 (by rwa [zJ (by decide)] at e);exact ⟨a,b,c,d,x,y.below hb6,z.below hb6⟩),fun e=>(by obtain ⟨a,b,c,d,x,y⟩:=hD.2.2.1 (by rwa [zJ (by decide)] at e);exact ⟨a,b,c,d,x,y.below hb6⟩),fun e=>(by obtain ⟨a,b,c,d,x,y⟩:=hD.2.2.2 (by rwa [zJ (by decide)] at e);exact ⟨a,b,c,d,x,y.below hb6⟩)⟩,fun _ _ _ _ h=>h⟩
    | 2,ho =>
     simp at ho
     subst ho
     have e6:ac.tmps.getD 6 undef=.pointer (some ⟨w.heap.size,0,none⟩):=hout 6 (by decide +kernel)
     have bb:=(zA HB0).below hD.1
     have c0:=bb.cell 0 rfl 0 rfl
     have c1:=bb.cell 0 rfl 1 rfl
     rw [Nat.add_zero] at c0 c1
     exact .inl ⟨rfl,zC γ (.agg #[.slice T l.length tcap,.slice G Y.gens.length gcap]) (by simp [go_sem,Act.eval,-Array.getD_eq_getD_getElem?,e6,c0,c1]) rfl (⟨hD.1,by rw [zJ (by decide)];exact hD.2.1,by rw [zJ (by decide)];exact hD.2.2.1,by rw [zJ (by decide)];exact hD.2.2.2⟩) (fun _ _ _ _ h=>h)⟩
    | 3,ho =>
     simp at ho
     subst ho
     have e31:ac.tmps.getD 31 undef=.agg #[.slice T l.length tcap,.slice G Y.gens.length gcap]:=hv 2 31 rfl (by kernel_rfl)
     refine .inl ⟨rfl,zj 55 #[.agg #[.slice T l.length tcap,.slice G Y.gens.length gcap]] (by simp [go_sem,Act.eval,-Array.getD_eq_getD_getElem?,e31]) ?_⟩
     refine (zA HRW _ ((zA HL0).trans (hD.1.mono (zA HL0).size))).mono ?_
     rintro e w6 ⟨rfl,hb6⟩
     exact ⟨_,γ,rfl,rfl,⟨hD.1.trans (hb6.mono hD.1.size),fun e=>(by obtain ⟨a,b,c,d,x,y,z⟩:=hD.2.1 (by rwa [zJ (by decide)] at e);exact ⟨a,b,c,d,x,y.below hb6,z.below hb6⟩),fun e=>(by obtain ⟨a,b,c,d,x,y⟩:=hD.2.2.1 (by rwa [zJ (by decide)] at e);exact ⟨a,b,c,d,x,y.below hb6⟩),fun e=>(by obtain ⟨a,b,c,d,x,y⟩:=hD.2.2.2 (by rwa [zJ (by decide)] at e);exact ⟨a,b,c,d,x,y.below hb6⟩)⟩,fun _ _ _ _ h=>h⟩
    | 4,ho =>
     simp at ho
     subst ho
     have e30:ac.tmps.getD 30 undef=.agg #[.int .i64 0,.int .i64 0]:=hv 1 30 rfl (by kernel_rfl)
     have e32:ac.tmps.getD 32 undef=.agg #[.int .i64 0,.int .i64 0]:=hv 3 32 rfl (by kernel_rfl)
     exact .inl ⟨rfl,zC γ (.bool false) (by simp [go_sem,Act.eval,-Array.getD_eq_getD_getElem?,e30,e32]) rfl (⟨hD.1,by rw [zJ (by decide)];exact hD.2.1,by rw [zJ (by decide)];exact hD.2.2.1,by rw [zJ (by decide)];exact hD.2.2.2⟩) (fun _ _ _ _ h=>h)⟩
    | 5,ho =>
     simp at ho
     subst ho
     have e33:ac.tmps.getD 33 undef=.bool false:=hv 4 33 rfl (by kernel_rfl)
     exact .inl ⟨rfl,zC γ (.bool false) (by simp [go_sem,Act.eval,-Array.getD_eq_getD_getElem?,e33]) rfl (⟨hD.1,by rw [zJ (by decide)];exact hD.2.1,by rw [zJ (by decide)];exact hD.2.2.1,by rw [zJ (by decide)];exact hD.2.2.2⟩) (fun _ _ _ _ h=>h)⟩
    | 6,ho =>
     simp at ho
     subst ho
     have eg:ac.tmps.getD 34 undef=.bool false:=hv 5 34 rfl (by kernel_rfl)
     have e6:ac.tmps.getD 6 undef=.pointer (some ⟨w.heap.size,0,none⟩):=hout 6 (by decide +kernel)
     have bb:=(zA HB0).below hD.1
     have c0:=bb.cell 0 rfl 0 rfl
     have c1:=bb.cell 0 rfl 1 rfl
     rw [Nat.add_zero] at c0 c1
     exact .inl ⟨zH rfl rfl eg,zC γ (.agg #[.slice T l.length tcap,.slice G Y.gens.length gcap]) (by simp [go_sem,Act.eval,-Array.getD_eq_getD_getElem?,e6,c0,c1]) rfl (⟨hD.1,by rw [zJ (by decide)];exact hD.2.1,by rw [zJ (by decide)];exact hD.2.2.1,by rw [zJ (by decide)];exact hD.2.2.2⟩) (fun _ _ _ _ h=>h)⟩
    | 7,ho =>
     simp at ho
     subst ho
     have eg:ac.tmps.getD 34 undef=.bool false:=hv 5 34 rfl (by kernel_rfl)
     have e35:ac.tmps.getD 35 undef=.agg #[.slice T l.length tcap,.slice G Y.gens.length gcap]:=hv 6 35 rfl (by kernel_rfl)
     refine .inl ⟨zH rfl rfl eg,zj 57 #[.agg #[.slice T l.length tcap,.slice G Y.gens.length gcap]] (by simp [go_sem,Act.eval,-Array.getD_eq_getD_getElem?,e35]) ?_⟩
     refine (zA HSO _ ((zA HL0).trans (hD.1.mono (zA HL0).size))).mono ?_
     rintro e w6 ⟨T6,c6,G6,gc6,rfl,hx6,hg6,hb6⟩
     exact ⟨_,(.agg #[.slice T6 l.length c6,.slice G6 Y.gens.length gc6],γ.2),rfl,rfl,⟨hD.1.trans (hb6.mono hD.1.size),fun _=>⟨T6,c6,G6,gc6,rfl,hx6,hg6⟩,fun e=>(by obtain ⟨a,b,c,d,x,y⟩:=hD.2.2.1 (by rwa [zJ (by decide)] at e);exact ⟨a,b,c,d,x,y.below hb6⟩),fun e=>(by obtain ⟨a,b,c,d,x,y⟩:=hD.2.2.2 (by rwa [zJ (by decide)] at e);exact ⟨a,b,c,d,x,y.below hb6⟩)⟩,fun j u hj hLj h=>by simpa [hj] using h⟩
    | 8,ho =>
     simp at ho
     subst ho
     have eg:ac.tmps.getD 34 undef=.bool false:=hv 5 34 rfl (by kernel_rfl)
     have e6:ac.tmps.getD 6 undef=.pointer (some ⟨w.heap.size,0,none⟩):=hout 6 (by decide +kernel)
     have bb:=(zA HB0).below hD.1
     have c0:=bb.cell 0 rfl 0 rfl
     have c1:=bb.cell 0 rfl 1 rfl
     rw [Nat.add_zero] at c0 c1
     exact .inl ⟨zH rfl rfl eg,zC γ (.agg #[.slice T l.length tcap,.slice G Y.gens.length gcap]) (by simp [go_sem,Act.eval,-Array.getD_eq_getD_getElem?,e6,c0,c1]) rfl (⟨hD.1,by rw [zJ (by decide)];exact hD.2.1,by rw [zJ (by decide)];exact hD.2.2.1,by rw [zJ (by decide)];exact hD.2.2.2⟩) (fun _ _ _ _ h=>h)⟩
    | 9,ho =>
     simp at ho
     subst ho
     have eg:ac.tmps.getD 34 undef=.bool false:=hv 5 34 rfl (by kernel_rfl)
     have e36:ac.tmps.getD 36 undef=γ.1:=hv 7 36 rfl (by kernel_rfl)
     have e37:ac.tmps.getD 37 undef=.agg #[.slice T l.length tcap,.slice G Y.gens.length gcap]:=hv 8 37 rfl (by kernel_rfl)
     obtain ⟨T1,c1,G1,gc1,hγ,hx1,hx2⟩:=hD.2.1 (hed 7 (by kernel_rfl))
     rw [hγ] at e36
     refine .inl ⟨zH rfl rfl eg,zj 56 #[.agg #[.slice T1 l.length c1,.slice G1 Y.gens.length gc1],.agg #[.slice T l.length tcap,.slice G Y.gens.length gcap]] (by simp [go_sem,Act.eval,-Array.getD_eq_getD_getElem?,e36,e37]) ?_⟩
     refine (zA HSS _ T1 c1 G1 gc1 ((zA HL0).trans (hD.1.mono (zA HL0).size)) hx1 hx2).mono ?_
     rintro e w6 ⟨rfl,hb6⟩
     exact ⟨_,γ,rfl,rfl,⟨hD.1.trans (hb6.mono hD.1.size),fun e=>(by obtain ⟨a,b,c,d,x,y,z⟩:=hD.2.1 (by rwa [zJ (by decide)] at e);exact ⟨a,b,c,d,x,y.below hb6,z.below hb6⟩),fun e=>(by obtain ⟨a,b,c,d,x,y⟩:=hD.2.2.1 (by rwa [zJ (by decide)] at e);exact ⟨a,b,c,d,x,y.below hb6⟩),fun e=>(by obtain ⟨a,b,c,d,x,y⟩:=hD.2.2.2 (by rwa [zJ (by decide)] at e);exact ⟨a,b,c,d,x,y.below hb6⟩)⟩,fun _ _ _ _ h=>h⟩
    | 10,ho =>
     simp at ho
     subst ho
     have eg:ac.tmps.getD 34 undef=.bool false:=hv 5 34 rfl (by kernel_rfl)
     have e38:ac.tmps.getD 38 undef=.bool true:=hv 9 38 rfl (by kernel_rfl)
     exact .inl ⟨zH rfl rfl eg,zC γ (.bool false) (by simp [go_sem,Act.eval,-Array.getD_eq_getD_getElem?,e38]) rfl (⟨hD.1,by rw [zJ (by decide)];exact hD.2.1,by rw [zJ (by decide)];exact hD.2.2.1,by rw [zJ (by decide)];exact hD.2.2.2⟩) (fun _ _ _ _ h=>h)⟩
    | 11,ho =>
     simp at ho
     subst ho
     have e34:ac.tmps.getD 34 undef=.bool false:=hv 5 34 rfl (by kernel_rfl)
     have e39:ac.tmps.getD 39 undef=.bool false:=hv 10 39 rfl (by kernel_rfl)
     exact .inl ⟨rfl,zC γ (.bool false) (by simp [go_sem,Act.eval,-Array.getD_eq_getD_getElem?,e34,e39]) rfl (⟨hD.1,by rw [zJ (by decide)];exact hD.2.1,by rw [zJ (by decide)];exact hD.2.2.1,by rw [zJ (by decide)];exact hD.2.2.2⟩) (fun _ _ _ _ h=>h)⟩
    | 12,ho =>
     simp at ho
     subst ho
     have e40:ac.tmps.getD 40 undef=.bool false:=hv 11 40 rfl (by kernel_rfl)
     exact .inl ⟨rfl,zC γ (.bool false) (by simp [go_sem,Act.eval,-Array.getD_eq_getD_getElem?,e40]) rfl (⟨hD.1,by rw [zJ (by decide)];exact hD.2.1,by rw [zJ (by decide)];exact hD.2.2.1,by rw [zJ (by decide)];exact hD.2.2.2⟩) (fun _ _ _ _ h=>h)⟩
    | 13,ho =>
     simp at ho
     subst ho
     have eg:ac.tmps.getD 41 undef=.bool false:=hv 12 41 rfl (by kernel_rfl)
     have e6:ac.tmps.getD 6 undef=.pointer (some ⟨w.heap.size,0,none⟩):=hout 6 (by decide +kernel)
     have bb:=(zA HB0).below hD.1
     have c0:=bb.cell 0 rfl 0 rfl
     have c1:=bb.cell 0 rfl 1 rfl
     rw [Nat.add_zero] at c0 c1
     exact .inl ⟨zH rfl rfl eg,zC γ (.agg #[.slice T l.length tcap,.slice G Y.gens.length gcap]) (by simp [go_sem,Act.eval,-Array.getD_eq_getD_getElem?,e6,c0,c1]) rfl (⟨hD.1,by rw [zJ (by decide)];exact hD.2.1,by rw [zJ (by decide)];exact hD.2.2.1,by rw [zJ (by decide)];exact hD.2.2.2⟩) (fun _ _ _ _ h=>h)⟩
    | 14,ho =>
     simp at ho
     subst ho
     have eg:ac.tmps.getD 41 undef=.bool false:=hv 12 41 rfl (by kernel_rfl)
     have e42:ac.tmps.getD 42 undef=.agg #[.slice T l.length tcap,.slice G Y.gens.length gcap]:=hv 13 42 rfl (by kernel_rfl)
     refine .inl ⟨zH rfl rfl eg,zj 55 #[.agg #[.slice T l.length tcap,.slice G Y.gens.length gcap]] (by simp [go_sem,Act.eval,-Array.getD_eq_getD_getElem?,e42]) ?_⟩
     refine (zA HRW _ ((zA HL0).trans (hD.1.mono (zA HL0).size))).mono ?_
     rintro e w6 ⟨rfl,hb6⟩
     exact ⟨_,γ,rfl,rfl,⟨hD.1.trans (hb6.mono hD.1.size),fun e=>(by obtain ⟨a,b,c,d,x,y,z⟩:=hD.2.1 (by rwa [zJ (by decide)] at e);exact ⟨a,b,c,d,x,y.below hb6,z.below hb6⟩),fun e=>(by obtain ⟨a,b,c,d,x,y⟩:=hD.2.2.1 (by rwa [zJ (by decide)] at e);exact ⟨a,b,c,d,x,y.below hb6⟩),fun e=>(by obtain ⟨a,b,c,d,x,y⟩:=hD.2.2.2 (by rwa [zJ (by decide)] at e);exact ⟨a,b,c,d,x,y.below hb6⟩)⟩,fun _ _ _ _ h=>h⟩
    | 15,ho =>
     simp at ho
     subst ho
     have eg:ac.tmps.getD 41 undef=.bool false:=hv 12 41 rfl (by kernel_rfl)
     have e43:ac.tmps.getD 43 undef=.agg #[.int .i64 0,.int .i64 0]:=hv 14 43 rfl (by kernel_rfl)
     exact .inl ⟨zH rfl rfl eg,zC γ (.int .i64 0) (by simp [go_sem,Act.eval,-Array.getD_eq_getD_getElem?,e43,hfld]) rfl (⟨hD.1,by rw [zJ (by decide)];exact hD.2.1,by rw [zJ (by decide)];exact hD.2.2.1,by rw [zJ (by decide)];exact hD.2.2.2⟩) (fun _ _ _ _ h=>h)⟩
    | 16,ho =>
     simp at ho
     subst ho
     have eg:ac.tmps.getD 41 undef=.bool false:=hv 12 41 rfl (by kernel_rfl)
     have e44:ac.tmps.getD 44 undef=.int .i64 0:=hv 15 44 rfl (by kernel_rfl)
     exact .inl ⟨zH rfl rfl eg,zC γ (.bool true) (by simp [go_sem,Act.eval,-Array.getD_eq_getD_getElem?,e44]) rfl (⟨hD.1,by rw [zJ (by decide)];exact hD.2.1,by rw [zJ (by decide)];exact hD.2.2.1,by rw [zJ (by decide)];exact hD.2.2.2⟩) (fun _ _ _ _ h=>h)⟩
    | 17,ho =>
     simp at ho
     subst ho
     have eg:ac.tmps.getD 41 undef=.bool false:=hv 12 41 rfl (by kernel_rfl)
     have e45:ac.tmps.getD 45 undef=.bool true:=hv 16 45 rfl (by kernel_rfl)
     exact .inl ⟨zH rfl rfl eg,zC γ (.bool true) (by simp [go_sem,Act.eval,-Array.getD_eq_getD_getElem?,e45]) rfl (⟨hD.1,by rw [zJ (by decide)];exact hD.2.1,by rw [zJ (by decide)];exact hD.2.2.1,by rw [zJ (by decide)];exact hD.2.2.2⟩) (fun _ _ _ _ h=>h)⟩
    | 18,ho =>
     simp at ho
     subst ho
     have eg:ac.tmps.getD 46 undef=.bool true:=hv 17 46 rfl (by kernel_rfl)
     have e6:ac.tmps.getD 6 undef=.pointer (some ⟨w.heap.size,0,none⟩):=hout 6 (by decide +kernel)
     have bb:=(zA HB0).below hD.1
     have c0:=bb.cell 0 rfl 0 rfl
     have c1:=bb.cell 0 rfl 1 rfl
     rw [Nat.add_zero] at c0 c1
     exact .inl ⟨zH rfl rfl eg,zC γ (.agg #[.slice T l.length tcap,.slice G Y.gens.length gcap]) (by simp [go_sem,Act.eval,-Array.getD_eq_getD_getElem?,e6,c0,c1]) rfl (⟨hD.1,by rw [zJ (by decide)];exact hD.2.1,by rw [zJ (by decide)];exact hD.2.2.1,by rw [zJ (by decide)];exact hD.2.2.2⟩) (fun _ _ _ _ h=>h)⟩
    | 19,ho =>
     simp at ho
     subst ho
     have eg:ac.tmps.getD 46 undef=.bool true:=hv 17 46 rfl (by kernel_rfl)
     have e47:ac.tmps.getD 47 undef=.agg #[.slice T l.length tcap,.slice G Y.gens.length gcap]:=hv 18 47 rfl (by kernel_rfl)
     refine .inl ⟨zH rfl rfl eg,zj 58 #[.agg #[.slice T l.length tcap,.slice G Y.gens.length gcap]] (by simp [go_sem,Act.eval,-Array.getD_eq_getD_getElem?,e47]) ?_⟩
     refine (zA HWO _ ((zA HL0).trans (hD.1.mono (zA HL0).size))).mono ?_
     rintro e w6 ⟨A6,c6,G6,gc6,rfl,hN6,hb6⟩
     exact ⟨_,(γ.1,.agg #[.slice A6 Y.rows.length c6,.slice G6 Y.gens.length gc6],γ.2.2),rfl,rfl,⟨hD.1.trans (hb6.mono hD.1.size),fun e=>(by obtain ⟨a,b,c,d,x,y,z⟩:=hD.2.1 (by rwa [zJ (by decide)] at e);exact ⟨a,b,c,d,x,y.below hb6,z.below hb6⟩),fun _=>⟨A6,c6,G6,gc6,rfl,hN6.toWldAt⟩,fun e=>(by obtain ⟨a,b,c,d,x,y⟩:=hD.2.2.2 (by rwa [zJ (by decide)] at e);exact ⟨a,b,c,d,x,y.below hb6⟩)⟩,fun j u hj hLj h=>by simpa [hj] using h⟩
    | 20,ho =>
     simp at ho
     subst ho
     have eg:ac.tmps.getD 46 undef=.bool true:=hv 17 46 rfl (by kernel_rfl)
     have e6:ac.tmps.getD 6 undef=.pointer (some ⟨w.heap.size,0,none⟩):=hout 6 (by decide +kernel)
     have bb:=(zA HB0).below hD.1
     have c0:=bb.cell 0 rfl 0 rfl
     have c1:=bb.cell 0 rfl 1 rfl
     rw [Nat.add_zero] at c0 c1
     exact .inl ⟨zH rfl rfl eg,zC γ (.agg #[.slice T l.length tcap,.slice G Y.gens.length gcap]) (by simp [go_sem,Act.eval,-Array.getD_eq_getD_getElem?,e6,c0,c1]) rfl (⟨hD.1,by rw [zJ (by decide)];exact hD.2.1,by rw [zJ (by decide)];exact hD.2.2.1,by rw [zJ (by decide)];exact hD.2.2.2⟩) (fun _ _ _ _ h=>h)⟩
    | 21,ho =>
     simp at ho
     subst ho
     have eg:ac.tmps.getD 46 undef=.bool true:=hv 17 46 rfl (by kernel_rfl)
     have e49:ac.tmps.getD 49 undef=.agg #[.slice T l.length tcap,.slice G Y.gens.length gcap]:=hv 20 49 rfl (by kernel_rfl)
     refine .inl ⟨zH rfl rfl eg,zj 59 #[.agg #[.slice T l.length tcap,.slice G Y.gens.length gcap]] (by simp [go_sem,Act.eval,-Array.getD_eq_getD_getElem?,e49]) ?_⟩
     refine (zA HRD _ ((zA HL0).trans (hD.1.mono (zA HL0).size))).mono ?_
     rintro e w6 ⟨A6,c6,rfl,hN6,hb6⟩
     exact ⟨_,(γ.1,γ.2.1,.agg #[.slice A6 Y.rows.length c6,.slice G Y.gens.length gcap]),rfl,rfl,⟨hD.1.trans (hb6.mono hD.1.size),fun e=>(by obtain ⟨a,b,c,d,x,y,z⟩:=hD.2.1 (by rwa [zJ (by decide)] at e);exact ⟨a,b,c,d,x,y.below hb6,z.below hb6⟩),fun e=>(by obtain ⟨a,b,c,d,x,y⟩:=hD.2.2.1 (by rwa [zJ (by decide)] at e);exact ⟨a,b,c,d,x,y.below hb6⟩),fun _=>⟨A6,c6,G,gcap,rfl,hN6⟩⟩,fun j u hj hLj h=>by simpa [hj] using h⟩
    | 22,ho =>
     simp at ho
     subst ho
     have eg:ac.tmps.getD 46 undef=.bool true:=hv 17 46 rfl (by kernel_rfl)
     have e48:ac.tmps.getD 48 undef=γ.2.1:=hv 19 48 rfl (by kernel_rfl)
     have e50:ac.tmps.getD 50 undef=γ.2.2:=hv 21 50 rfl (by kernel_rfl)
     obtain ⟨A1,c1,G1,gc1,hγ,hx1⟩:=hD.2.2.1 (hed 19 (by kernel_rfl))
     obtain ⟨A2,c2,G2,gc2,hγ2,hx2⟩:=hD.2.2.2 (hed 21 (by kernel_rfl))
     rw [hγ] at e48
     rw [hγ2] at e50
     refine .inl ⟨zH rfl rfl eg,zj 36 #[.agg #[.slice A1 Y.rows.length c1,.slice G1 Y.gens.length gc1],.agg #[.slice A2 Y.rows.length c2,.slice G2 Y.gens.length gc2]] (by simp [go_sem,Act.eval,-Array.getD_eq_getD_getElem?,e48,e50]) ?_⟩
     refine (same_ws hyl hygl w1 A1 c1 G1 gc1 A2 c2 G2 gc2 hx1 hx2).mono ?_
     rintro e w6 ⟨rfl,hb6⟩
     exact ⟨_,γ,rfl,rfl,⟨hD.1.trans (hb6.mono hD.1.size),fun e=>(by obtain ⟨a,b,c,d,x,y,z⟩:=hD.2.1 (by rwa [zJ (by decide)] at e);exact ⟨a,b,c,d,x,y.below hb6,z.below hb6⟩),fun e=>(by obtain ⟨a,b,c,d,x,y⟩:=hD.2.2.1 (by rwa [zJ (by decide)] at e);exact ⟨a,b,c,d,x,y.below hb6⟩),fun e=>(by obtain ⟨a,b,c,d,x,y⟩:=hD.2.2.2 (by rwa [zJ (by decide)] at e);exact ⟨a,b,c,d,x,y.below hb6⟩)⟩,fun _ _ _ _ h=>h⟩
    | 23,ho =>
     simp at ho
     subst ho
     have eg:ac.tmps.getD 46 undef=.bool true:=hv 17 46 rfl (by kernel_rfl)
     have e51:ac.tmps.getD 51 undef=.bool true:=hv 22 51 rfl (by kernel_rfl)
     exact .inl ⟨zH rfl rfl eg,zC γ (.bool false) (by simp [go_sem,Act.eval,-Array.getD_eq_getD_getElem?,e51]) rfl (⟨hD.1,by rw [zJ (by decide)];exact hD.2.1,by rw [zJ (by decide)];exact hD.2.2.1,by rw [zJ (by decide)];exact hD.2.2.2⟩) (fun _ _ _ _ h=>h)⟩
    | 24,ho =>
     simp at ho
     subst ho
     have eg:ac.tmps.getD 41 undef=.bool false:=hv 12 41 rfl (by kernel_rfl)
     have e46:ac.tmps.getD 46 undef=.bool true:=hv 17 46 rfl (by kernel_rfl)
     have e52:ac.tmps.getD 52 undef=.bool false:=hv 23 52 rfl (by kernel_rfl)
     exact .inl ⟨zH rfl rfl eg,zC γ (.bool false) (by simp [go_sem,Act.eval,-Array.getD_eq_getD_getElem?,e46,e52]) rfl (⟨hD.1,by rw [zJ (by decide)];exact hD.2.1,by rw [zJ (by decide)];exact hD.2.2.1,by rw [zJ (by decide)];exact hD.2.2.2⟩) (fun _ _ _ _ h=>h)⟩
    | 25,ho =>
     simp at ho
     subst ho
     have e41:ac.tmps.getD 41 undef=.bool false:=hv 12 41 rfl (by kernel_rfl)
     have e53:ac.tmps.getD 53 undef=.bool false:=hv 24 53 rfl (by kernel_rfl)
     exact .inl ⟨rfl,zC γ (.bool false) (by simp [go_sem,Act.eval,-Array.getD_eq_getD_getElem?,e41,e53]) rfl (⟨hD.1,by rw [zJ (by decide)];exact hD.2.1,by rw [zJ (by decide)];exact hD.2.2.1,by rw [zJ (by decide)];exact hD.2.2.2⟩) (fun _ _ _ _ h=>h)⟩
    | ix+26,ho=>simp at ho
   case hend =>
    intro γ v L w4 hD hall hv
    have v25:v 25=.bool false:=hv 25 54 rfl
    have hb4:=hD.1
    clear hv hall hD h0
    simp only [zt,List.getElem?_cons_zero,List.getElem?_cons_succ,Option.bind_some,List.length_cons,List.length_nil,Nat.reduceAdd,v25]
    clear v25
    go_frame
    go_wp2_with fail
    go_meet
    case rel=>exact ⟨rfl,hb4⟩
  ·have hse2:(se == 0)=false:=by simpa using hse
   have h0:(fun (γ:Value×Value×Value) L W=>Below W0.heap.size W0 W∧(L 7=true→∃ T' c' G' gc',γ.1=.agg #[.slice T' l.length c',.slice G' Y.gens.length gc']∧TabsX W T' l∧IntsL W G' Y.gens)) (undef,undef,undef) (fun _=>false) W0.drew:=⟨(Below.refl _ _).drew,fun e=>(by cases e)⟩
   refine zc (fun (γ:Value×Value×Value) ix v=>if ix=7 then v=γ.1 else (([fun v=>v=.agg #[.slice T l.length tcap,.slice G Y.gens.length gcap],fun v=>v=.agg #[.int .i64 se,.int .i64 sa],fun v=>v=.agg #[.slice T l.length tcap,.slice G Y.gens.length gcap],fun v=>v=.agg #[.int .i64 se,.int .i64 sa],fun v=>v=.bool false,fun v=>v=.bool false,fun v=>v=.agg #[.slice T l.length tcap,.slice G Y.gens.length gcap],fun _=>True,fun v=>v=.agg #[.slice T l.length tcap,.slice G Y.gens.length gcap],fun v=>v=.bool true,fun v=>v=.bool false,fun v=>v=.bool false,fun v=>v=.bool false,fun v=>v=.agg #[.slice T l.length tcap,.slice G Y.gens.length gcap],fun v=>v=.agg #[.int .i64 se,.int .i64 sa],fun v=>v=.int .i64 se,fun v=>v=.bool false,fun v=>v=.bool false,fun v=>v=undef,fun v=>v=undef,fun v=>v=undef,fun v=>v=undef,fun v=>v=undef,fun v=>v=undef,fun v=>v=.bool false,fun v=>v=.bool false]:List (Value→Prop)).getD ix (fun _=>True)) v) (fun (γ:Value×Value×Value) L W=>Below W0.heap.size W0 W∧(L 7=true→∃ T' c' G' gc',γ.1=.agg #[.slice T' l.length c',.slice G' Y.gens.length gc']∧TabsX W T' l∧IntsL W G' Y.gens)) ((undef,undef,undef)) (by kernel_rfl) (by kernel_rfl) (by kernel_rfl) h0 ?hstep ?hend
   case hstep =>
    intro γ ix o ho L ac w1 hD hL hed hcl hout hv
    match ix,ho with
    | 0,ho =>
     simp at ho
     subst ho
     have e6:ac.tmps.getD 6 undef=.pointer (some ⟨w.heap.size,0,none⟩):=hout 6 (by decide +kernel)
     have bb:=(zA HB0).below hD.1
     have c0:=bb.cell 0 rfl 0 rfl
     have c1:=bb.cell 0 rfl 1 rfl
     rw [Nat.add_zero] at c0 c1
     exact .inl ⟨rfl,zC γ (.agg #[.slice T l.length tcap,.slice G Y.gens.length gcap]) (by simp [go_sem,Act.eval,-Array.getD_eq_getD_getElem?,e6,c0,c1]) rfl (⟨hD.1,by rw [zJ (by decide)];exact hD.2⟩) (fun _ _ _ _ h=>h)⟩
    | 1,ho =>
     simp at ho
     subst ho
     have e29:ac.tmps.getD 29 undef=.agg #[.slice T l.length tcap,.slice G Y.gens.length gcap]:=hv 0 29 rfl (by kernel_rfl)
     refine .inl ⟨rfl,zj 54 #[.agg #[.slice T l.length tcap,.slice G Y.gens.length gcap]] (by simp [go_sem,Act.eval,-Array.getD_eq_getD_getElem?,e29]) ?_⟩
     refine (zA HSW _ ((zA HL0).trans (hD.1.mono (zA HL0).size))).mono ?_
     rintro e w6 ⟨rfl,hb6⟩
     exact ⟨_,γ,rfl,rfl,⟨hD.1.trans (hb6.mono hD.1.size),fun e=>(by obtain ⟨a,b,c,d,x,y,z⟩:=hD.2 (by rwa [zJ (by decide)] at e);exact ⟨a,b,c,d,x,y.below hb6,z.below hb6⟩)⟩,fun _ _ _ _ h=>h⟩
    | 2,ho =>
     simp at ho
     subst ho
     have e6:ac.tmps.getD 6 undef=.pointer (some ⟨w.heap.size,0,none⟩):=hout 6 (by decide +kernel)
     have bb:=(zA HB0).below hD.1
     have c0:=bb.cell 0 rfl 0 rfl
     have c1:=bb.cell 0 rfl 1 rfl
     rw [Nat.add_zero] at c0 c1
     exact .inl ⟨rfl,zC γ (.agg #[.slice T l.length tcap,.slice G Y.gens.length gcap]) (by simp [go_sem,Act.eval,-Array.getD_eq_getD_getElem?,e6,c0,c1]) rfl (⟨hD.1,by rw [zJ (by decide)];exact hD.2⟩) (fun _ _ _ _ h=>h)⟩
    | 3,ho =>
     simp at ho
     subst ho
     have e31:ac.tmps.getD 31 undef=.agg #[.slice T l.length tcap,.slice G Y.gens.length gcap]:=hv 2 31 rfl (by kernel_rfl)
     refine .inl ⟨rfl,zj 55 #[.agg #[.slice T l.length tcap,.slice G Y.gens.length gcap]] (by simp [go_sem,Act.eval,-Array.getD_eq_getD_getElem?,e31]) ?_⟩
     refine (zA HRW _ ((zA HL0).trans (hD.1.mono (zA HL0).size))).mono ?_
     rintro e w6 ⟨rfl,hb6⟩
     exact ⟨_,γ,rfl,rfl,⟨hD.1.trans (hb6.mono hD.1.size),fun e=>(by obtain ⟨a,b,c,d,x,y,z⟩:=hD.2 (by rwa [zJ (by decide)] at e);exact ⟨a,b,c,d,x,y.below hb6,z.below hb6⟩)⟩,fun _ _ _ _ h=>h⟩
    | 4,ho =>
     simp at ho
     subst ho
     have e30:ac.tmps.getD 30 undef=.agg #[.int .i64 se,.int .i64 sa]:=hv 1 30 rfl (by kernel_rfl)
     have e32:ac.tmps.getD 32 undef=.agg #[.int .i64 se,.int .i64 sa]:=hv 3 32 rfl (by kernel_rfl)
     exact .inl ⟨rfl,zC γ (.bool false) (by simp [go_sem,Act.eval,-Array.getD_eq_getD_getElem?,e30,e32]) rfl (⟨hD.1,by rw [zJ (by decide)];exact hD.2⟩) (fun _ _ _ _ h=>h)⟩
    | 5,ho =>
     simp at ho
     subst ho
     have e33:ac.tmps.getD 33 undef=.bool false:=hv 4 33 rfl (by kernel_rfl)
     exact .inl ⟨rfl,zC γ (.bool false) (by simp [go_sem,Act.eval,-Array.getD_eq_getD_getElem?,e33]) rfl (⟨hD.1,by rw [zJ (by decide)];exact hD.2⟩) (fun _ _ _ _ h=>h)⟩
    | 6,ho =>
     simp at ho
     subst ho
     have eg:ac.tmps.getD 34 undef=.bool false:=hv 5 34 rfl (by kernel_rfl)
     have e6:ac.tmps.getD 6 undef=.pointer (some ⟨w.heap.size,0,none⟩):=hout 6 (by decide +kernel)
     have bb:=(zA HB0).below hD.1
     have c0:=bb.cell 0 rfl 0 rfl
     have c1:=bb.cell 0 rfl 1 rfl
     rw [Nat.add_zero] at c0 c1
     exact .inl ⟨zH rfl rfl eg,zC γ (.agg #[.slice T l.length tcap,.slice G Y.gens.length gcap]) (by simp [go_sem,Act.eval,-Array.getD_eq_getD_getElem?,e6,c0,c1]) rfl (⟨hD.1,by rw [zJ (by decide)];exact hD.2⟩) (fun _ _ _ _ h=>h)⟩
    | 7,ho =>
     simp at ho
     subst ho
     have eg:ac.tmps.getD 34 undef=.bool false:=hv 5 34 rfl (by kernel_rfl)
     have e35:ac.tmps.getD 35 undef=.agg #[.slice T l.length tcap,.slice G Y.gens.length gcap]:=hv 6 35 rfl (by kernel_rfl)
     refine .inl ⟨zH rfl rfl eg,zj 57 #[.agg #[.slice T l.length tcap,.slice G Y.gens.length gcap]] (by simp [go_sem,Act.eval,-Array.getD_eq_getD_getElem?,e35]) ?_⟩
     refine (zA HSO _ ((zA HL0).trans (hD.1.mono (zA HL0).size))).mono ?_
     rintro e w6 ⟨T6,c6,G6,gc6,rfl,hx6,hg6,hb6⟩
     exact ⟨_,(.agg #[.slice T6 l.length c6,.slice G6 Y.gens.length gc6],γ.2),rfl,rfl,⟨hD.1.trans (hb6.mono hD.1.size),fun _=>⟨T6,c6,G6,gc6,rfl,hx6,hg6⟩⟩,fun j u hj hLj h=>by simpa [hj] using h⟩
    | 8,ho =>
     simp at ho
     subst ho
     have eg:ac.tmps.getD 34 undef=.bool false:=hv 5 34 rfl (by kernel_rfl)
     have e6:ac.tmps.getD 6 undef=.pointer (some ⟨w.heap.size,0,none⟩):=hout 6 (by decide +kernel)
     have bb:=(zA HB0).below hD.1
     have c0:=bb.cell 0 rfl 0 rfl
     have c1:=bb.cell 0 rfl 1 rfl
     rw [Nat.add_zero] at c0 c1
     exact .inl ⟨zH rfl rfl eg,zC γ (.agg #[.slice T l.length tcap,.slice G Y.gens.length gcap]) (by simp [go_sem,Act.eval,-Array.getD_eq_getD_getElem?,e6,c0,c1]) rfl (⟨hD.1,by rw [zJ (by decide)];exact hD.2⟩) (fun _ _ _ _ h=>h)⟩
    | 9,ho =>
     simp at ho
     subst ho
     have eg:ac.tmps.getD 34 undef=.bool false:=hv 5 34 rfl (by kernel_rfl)
     have e36:ac.tmps.getD 36 undef=γ.1:=hv 7 36 rfl (by kernel_rfl)
     have e37:ac.tmps.getD 37 undef=.agg #[.slice T l.length tcap,.slice G Y.gens.length gcap]:=hv 8 37 rfl (by kernel_rfl)
     obtain ⟨T1,c1,G1,gc1,hγ,hx1,hx2⟩:=hD.2 (hed 7 (by kernel_rfl))
     rw [hγ] at e36
     refine .inl ⟨zH rfl rfl eg,zj 56 #[.agg #[.slice T1 l.length c1,.slice G1 Y.gens.length gc1],.agg #[.slice T l.length tcap,.slice G Y.gens.length gcap]] (by simp [go_sem,Act.eval,-Array.getD_eq_getD_getElem?,e36,e37]) ?_⟩
     refine (zA HSS _ T1 c1 G1 gc1 ((zA HL0).trans (hD.1.mono (zA HL0).size)) hx1 hx2).mono ?_
     rintro e w6 ⟨rfl,hb6⟩
     exact ⟨_,γ,rfl,rfl,⟨hD.1.trans (hb6.mono hD.1.size),fun e=>(by obtain ⟨a,b,c,d,x,y,z⟩:=hD.2 (by rwa [zJ (by decide)] at e);exact ⟨a,b,c,d,x,y.below hb6,z.below hb6⟩)⟩,fun _ _ _ _ h=>h⟩
    | 10,ho =>
     simp at ho
     subst ho
     have eg:ac.tmps.getD 34 undef=.bool false:=hv 5 34 rfl (by kernel_rfl)
     have e38:ac.tmps.getD 38 undef=.bool true:=hv 9 38 rfl (by kernel_rfl)
     exact .inl ⟨zH rfl rfl eg,zC γ (.bool false) (by simp [go_sem,Act.eval,-Array.getD_eq_getD_getElem?,e38]) rfl (⟨hD.1,by rw [zJ (by decide)];exact hD.2⟩) (fun _ _ _ _ h=>h)⟩
    | 11,ho =>
     simp at ho
     subst ho
     have e34:ac.tmps.getD 34 undef=.bool false:=hv 5 34 rfl (by kernel_rfl)
     have e39:ac.tmps.getD 39 undef=.bool false:=hv 10 39 rfl (by kernel_rfl)
     exact .inl ⟨rfl,zC γ (.bool false) (by simp [go_sem,Act.eval,-Array.getD_eq_getD_getElem?,e34,e39]) rfl (⟨hD.1,by rw [zJ (by decide)];exact hD.2⟩) (fun _ _ _ _ h=>h)⟩
    | 12,ho =>
     simp at ho
     subst ho
     have e40:ac.tmps.getD 40 undef=.bool false:=hv 11 40 rfl (by kernel_rfl)
     exact .inl ⟨rfl,zC γ (.bool false) (by simp [go_sem,Act.eval,-Array.getD_eq_getD_getElem?,e40]) rfl (⟨hD.1,by rw [zJ (by decide)];exact hD.2⟩) (fun _ _ _ _ h=>h)⟩
    | 13,ho =>
     simp at ho
     subst ho
     have eg:ac.tmps.getD 41 undef=.bool false:=hv 12 41 rfl (by kernel_rfl)
     have e6:ac.tmps.getD 6 undef=.pointer (some ⟨w.heap.size,0,none⟩):=hout 6 (by decide +kernel)
     have bb:=(zA HB0).below hD.1
     have c0:=bb.cell 0 rfl 0 rfl
     have c1:=bb.cell 0 rfl 1 rfl
     rw [Nat.add_zero] at c0 c1
     exact .inl ⟨zH rfl rfl eg,zC γ (.agg #[.slice T l.length tcap,.slice G Y.gens.length gcap]) (by simp [go_sem,Act.eval,-Array.getD_eq_getD_getElem?,e6,c0,c1]) rfl (⟨hD.1,by rw [zJ (by decide)];exact hD.2⟩) (fun _ _ _ _ h=>h)⟩
    | 14,ho =>
     simp at ho
     subst ho
     have eg:ac.tmps.getD 41 undef=.bool false:=hv 12 41 rfl (by kernel_rfl)
     have e42:ac.tmps.getD 42 undef=.agg #[.slice T l.length tcap,.slice G Y.gens.length gcap]:=hv 13 42 rfl (by kernel_rfl)
     refine .inl ⟨zH rfl rfl eg,zj 55 #[.agg #[.slice T l.length tcap,.slice G Y.gens.length gcap]] (by simp [go_sem,Act.eval,-Array.getD_eq_getD_getElem?,e42]) ?_⟩
     refine (zA HRW _ ((zA HL0).trans (hD.1.mono (zA HL0).size))).mono ?_
     rintro e w6 ⟨rfl,hb6⟩
     exact ⟨_,γ,rfl,rfl,⟨hD.1.trans (hb6.mono hD.1.size),fun e=>(by obtain ⟨a,b,c,d,x,y,z⟩:=hD.2 (by rwa [zJ (by decide)] at e);exact ⟨a,b,c,d,x,y.below hb6,z.below hb6⟩)⟩,fun _ _ _ _ h=>h⟩
    | 15,ho =>
     simp at ho
     subst ho
     have eg:ac.tmps.getD 41 undef=.bool false:=hv 12 41 rfl (by kernel_rfl)
     have e43:ac.tmps.getD 43 undef=.agg #[.int .i64 se,.int .i64 sa]:=hv 14 43 rfl (by kernel_rfl)
     exact .inl ⟨zH rfl rfl eg,zC γ (.int .i64 se) (by simp [go_sem,Act.eval,-Array.getD_eq_getD_getElem?,e43,hfld]) rfl (⟨hD.1,by rw [zJ (by decide)];exact hD.2⟩) (fun _ _ _ _ h=>h)⟩
    | 16,ho =>
     simp at ho
     subst ho
     have eg:ac.tmps.getD 41 undef=.bool false:=hv 12 41 rfl (by kernel_rfl)
     have e44:ac.tmps.getD 44 undef=.int .i64 se:=hv 15 44 rfl (by kernel_rfl)
     exact .inl ⟨zH rfl rfl eg,zC γ (.bool false) (by simp [go_sem,Act.eval,-Array.getD_eq_getD_getElem?,e44,hse]) rfl (⟨hD.1,by rw [zJ (by decide)];exact hD.2⟩) (fun _ _ _ _ h=>h)⟩
    | 17,ho =>
     simp at ho
     subst ho
     have eg:ac.tmps.getD 41 undef=.bool false:=hv 12 41 rfl (by kernel_rfl)
     have e45:ac.tmps.getD 45 undef=.bool false:=hv 16 45 rfl (by kernel_rfl)
     exact .inl ⟨zH rfl rfl eg,zC γ (.bool false) (by simp [go_sem,Act.eval,-Array.getD_eq_getD_getElem?,e45]) rfl (⟨hD.1,by rw [zJ (by decide)];exact hD.2⟩) (fun _ _ _ _ h=>h)⟩
    | 18,ho =>
     simp at ho
     subst ho
     have eg:ac.tmps.getD 46 undef=.bool !true:=hv 17 46 rfl (by kernel_rfl)
     exact .inr ⟨zP rfl rfl eg,rfl,⟨hD.1,by rw [zJ (by decide)];exact hD.2⟩⟩
    | 19,ho =>
     simp at ho
     subst ho
     have eg:ac.tmps.getD 46 undef=.bool !true:=hv 17 46 rfl (by kernel_rfl)
     exact .inr ⟨zP rfl rfl eg,rfl,⟨hD.1,by rw [zJ (by decide)];exact hD.2⟩⟩
    | 20,ho =>
     simp at ho
     subst ho
     have eg:ac.tmps.getD 46 undef=.bool !true:=hv 17 46 rfl (by kernel_rfl)
     exact .inr ⟨zP rfl rfl eg,rfl,⟨hD.1,by rw [zJ (by decide)];exact hD.2⟩⟩
    | 21,ho =>
     simp at ho
     subst ho
     have eg:ac.tmps.getD 46 undef=.bool !true:=hv 17 46 rfl (by kernel_rfl)
     exact .inr ⟨zP rfl rfl eg,rfl,⟨hD.1,by rw [zJ (by decide)];exact hD.2⟩⟩
    | 22,ho =>
     simp at ho
     subst ho
     have eg:ac.tmps.getD 46 undef=.bool !true:=hv 17 46 rfl (by kernel_rfl)
     exact .inr ⟨zP rfl rfl eg,rfl,⟨hD.1,by rw [zJ (by decide)];exact hD.2⟩⟩
    | 23,ho =>
     simp at ho
     subst ho
     have eg:ac.tmps.getD 46 undef=.bool !true:=hv 17 46 rfl (by kernel_rfl)
     exact .inr ⟨zP rfl rfl eg,rfl,⟨hD.1,by rw [zJ (by decide)];exact hD.2⟩⟩
    | 24,ho =>
     simp at ho
     subst ho
     have eg:ac.tmps.getD 41 undef=.bool false:=hv 12 41 rfl (by kernel_rfl)
     have e46:ac.tmps.getD 46 undef=.bool false:=hv 17 46 rfl (by kernel_rfl)
     exact .inl ⟨zH rfl rfl eg,zC γ (.bool false) (by simp [go_sem,Act.eval,-Array.getD_eq_getD_getElem?,e46]) rfl (⟨hD.1,by rw [zJ (by decide)];exact hD.2⟩) (fun _ _ _ _ h=>h)⟩
    | 25,ho =>
     simp at ho
     subst ho
     have e41:ac.tmps.getD 41 undef=.bool false:=hv 12 41 rfl (by kernel_rfl)
     have e53:ac.tmps.getD 53 undef=.bool false:=hv 24 53 rfl (by kernel_rfl)
     exact .inl ⟨rfl,zC γ (.bool false) (by simp [go_sem,Act.eval,-Array.getD_eq_getD_getElem?,e41,e53]) rfl (⟨hD.1,by rw [zJ (by decide)];exact hD.2⟩) (fun _ _ _ _ h=>h)⟩
    | ix+26,ho=>simp at ho
   case hend =>
    intro γ v L w4 hD hall hv
    have v25:v 25=.bool false:=hv 25 54 rfl
    have hb4:=hD.1
    clear hv hall hD h0
    simp only [zt,List.getElem?_cons_zero,List.getElem?_cons_succ,Option.bind_some,List.length_cons,List.length_nil,Nat.reduceAdd,v25]
    clear v25
    go_frame
    go_wp2_with fail
    go_meet
    case rel=>exact ⟨rfl,hb4⟩
 case rest =>
  obtain ⟨rfl,hbc⟩:=hcut
  obtain ⟨w1,rfl⟩:∃ w1,w1=wc:=⟨_,rfl⟩
  have hB1:=(zA HB0).below hbc
  have hL1:=(zA HL0).trans (hbc.mono (zA HL0).size)
  have c0:=hB1.cell 1 rfl 0 rfl
  have c1:=hB1.cell 1 rfl 1 rfl
  have HB1:=zB hB1
  have HL1:=zB hL1
  clear hB1 hL1 hbc HB0 HL0
  go_wp2_with fail
  go_at_call 60
  refine (zA HOF _ (zA HL1)).mono ?_
  rintro e w2 ⟨T2,n2,tc2,G2,g2,gc2,rfl,hXX,hb2⟩
  obtain ⟨W3,hW3⟩:∃ W3,W3=zAy w2 [([.slice T2 n2 tc2,.slice G2 g2 gc2],71),([.int .i64 we,.int .i64 wa],43)]:=⟨_,rfl⟩
  have hX3:=Bxs.start w2 [([.slice T2 n2 tc2,.slice G2 g2 gc2],71),([.int .i64 we,.int .i64 wa],43)]
  have hb3:=allocs_below [([.slice T2 n2 tc2,.slice G2 g2 gc2],71),([.int .i64 we,.int .i64 wa],43)] w2
  rw [←hW3] at hX3 hb3
  have hW3':(w2.alloc (.cells #[.slice T2 n2 tc2,.slice G2 g2 gc2] 71)).alloc (.cells #[.int .i64 we,.int .i64 wa] 43)=W3:=hW3.symm
  have HW3:=zB hW3'
  clear hW3 hW3'
  have hb23:=hb2.trans (hb3.mono hb2.size)
  have hL3:=(zA HL1).trans (hb23.mono (zA HL1).size)
  have hB3:=(zA HB1).below hb23
  have HC3:=zB hX3
  have HXX:Hid ((we=0→RightW X∧n2=(zU X).length∧g2=X.gens.length∧StAt W3 T2 G2 (zU X) X)∧(we≠0→n2=0∧g2=0)):=zB ⟨fun e=>by
   obtain ⟨a,b,c,d⟩:=hXX.1 e
   exact ⟨a,b,c,d.below hb3⟩,hXX.2⟩
  clear c0 c1
  have c0:=hB3.cell 1 rfl 0 rfl
  have c1:=hB3.cell 1 rfl 1 rfl
  have HB3:=zB hB3
  have HL3:=zB hL3
  clear hB3 hL3 hX3 hb3 hb2 hb23 hXX HB1 HL1 HOF
  go_upto_region 4 with fail
  rw [zA HW3]
  clear HW3
  go_wp2_with fail
  go_at_call 35
  refine (zA HPW _ (zA HL3)).mono ?_
  rintro e w4 ⟨rfl,hb4⟩
  obtain ⟨W5,hW5⟩:∃ W5,W5=zAy w4 [([.int .i64 we,.int .i64 wa],43)]:=⟨_,rfl⟩
  have hX5:=Bxs.start w4 [([.int .i64 we,.int .i64 wa],43)]
  have hb5:=allocs_below [([.int .i64 we,.int .i64 wa],43)] w4
  rw [←hW5] at hX5 hb5
  have hW5':w4.alloc (.cells #[.int .i64 we,.int .i64 wa] 43)=W5:=hW5.symm
  have HW5:=zB hW5'
  clear hW5 hW5'
  have hb45:=hb4.trans (hb5.mono hb4.size)
  have HL5:=zB ((zA HL3).trans (hb45.mono (zA HL3).size))
  have HB5:=zB ((zA HB3).below hb45)
  have HC5:=zB ((zA HC3).below hb45)
  have HD5:=zB hX5
  have HXX5:Hid ((we=0→RightW X∧n2=(zU X).length∧g2=X.gens.length∧StAt W5 T2 G2 (zU X) X)∧(we≠0→n2=0∧g2=0)):=zB ⟨fun e=>by
   obtain ⟨a,b,c,d⟩:=(zA HXX).1 e
   exact ⟨a,b,c,d.below hb45⟩,(zA HXX).2⟩
  clear c0 c1 hX5 hb5 hb4 hb45 HXX HB3 HC3 HL3 HPW
  go_upto_region 5 with fail
  rw [zA HW5]
  clear HW5
  go_cut [87] from 62 to 87 (fun c wc=>c=.bool false∧Below W5.heap.size W5 wc)
  case first =>
   by_cases hwe:we=0
   ·subst hwe
    obtain ⟨hxr,hn2,hg2,hXS⟩:=(zA HXX5).1 rfl
    subst hn2 hg2
    have HXS:=zB hXS
    clear hXS
    have h0:(fun (γ:Value) L W=>Below W5.heap.size W5 W∧(L 10=true→∃ T' c',γ=.agg #[.slice T' (zU X).length c',.slice GX X.gens.length gxc]∧StAt W T' GX (zU X) X)) undef (fun _=>false) W5.drew:=⟨(Below.refl _ _).drew,fun e=>by cases e⟩
    refine zc (fun (γ:Value) ix v=>if ix=10 then v=γ else (([fun v=>v=.agg #[.int .i64 0,.int .i64 wa],fun v=>v=.agg #[.int .i64 0,.int .i64 wa],fun v=>v=.bool false,fun v=>v=.bool false,fun v=>v=.pointer (some ⟨w4.heap.size,0,none⟩),fun v=>v=.int .i64 0,fun v=>v=.bool true,fun v=>v=.bool true,fun v=>v=.agg #[.slice T2 (zU X).length tc2,.slice G2 X.gens.length gc2],fun v=>v=.agg #[.slice A X.rows.length cap,.slice GX X.gens.length gxc],fun _=>True,fun v=>v=.bool true,fun v=>v=.bool false,fun v=>v=.bool false,fun v=>v=.bool false,fun v=>v=.bool false,fun v=>v=.pointer (some ⟨w4.heap.size,0,none⟩),fun v=>v=.int .i64 0,fun v=>v=.bool false,fun v=>v=.bool false,fun v=>v=undef,fun v=>v=undef,fun v=>v=undef,fun v=>v=undef,fun v=>v=.bool false,fun v=>v=.bool false]:List (Value→Prop)).getD ix (fun _=>True)) v) (fun (γ:Value) L W=>Below W5.heap.size W5 W∧(L 10=true→∃ T' c',γ=.agg #[.slice T' (zU X).length c',.slice GX X.gens.length gxc]∧StAt W T' GX (zU X) X)) (undef) (by kernel_rfl) (by kernel_rfl) (by kernel_rfl) h0 ?hstep ?hend
    case hstep =>
     intro γ ix o ho L ac w1 hD hL hed hcl hout hv
     match ix,ho with
     | 0,ho =>
      simp at ho
      subst ho
      have e14:ac.tmps.getD 14 undef=.pointer (some ⟨w2.heap.size+1,0,none⟩):=hout 14 (by decide +kernel)
      have bb:=(zA HC5).below hD.1
      have c0:=bb.cell 1 rfl 0 rfl
      have c1:=bb.cell 1 rfl 1 rfl
      exact .inl ⟨rfl,zC γ (.agg #[.int .i64 0,.int .i64 wa]) (by simp [go_sem,Act.eval,-Array.getD_eq_getD_getElem?,e14,c0,c1]) rfl (⟨hD.1,by rw [zJ (by decide)];exact hD.2⟩) (fun _ _ _ _ h=>h)⟩
     | 1,ho =>
      simp at ho
      subst ho
      have e15:ac.tmps.getD 15 undef=.pointer (some ⟨w4.heap.size,0,none⟩):=hout 15 (by decide +kernel)
      have bb:=(zA HD5).below hD.1
      have c0:=bb.cell 0 rfl 0 rfl
      have c1:=bb.cell 0 rfl 1 rfl
      rw [Nat.add_zero] at c0 c1
      exact .inl ⟨rfl,zC γ (.agg #[.int .i64 0,.int .i64 wa]) (by simp [go_sem,Act.eval,-Array.getD_eq_getD_getElem?,e15,c0,c1]) rfl (⟨hD.1,by rw [zJ (by decide)];exact hD.2⟩) (fun _ _ _ _ h=>h)⟩
     | 2,ho =>
      simp at ho
      subst ho
      have e62:ac.tmps.getD 62 undef=.agg #[.int .i64 0,.int .i64 wa]:=hv 0 62 rfl (by kernel_rfl)
      have e63:ac.tmps.getD 63 undef=.agg #[.int .i64 0,.int .i64 wa]:=hv 1 63 rfl (by kernel_rfl)
      exact .inl ⟨rfl,zC γ (.bool false) (by simp [go_sem,Act.eval,-Array.getD_eq_getD_getElem?,e62,e63]) rfl (⟨hD.1,by rw [zJ (by decide)];exact hD.2⟩) (fun _ _ _ _ h=>h)⟩
     | 3,ho =>
      simp at ho
      subst ho
      have e64:ac.tmps.getD 64 undef=.bool false:=hv 2 64 rfl (by kernel_rfl)
      exact .inl ⟨rfl,zC γ (.bool false) (by simp [go_sem,Act.eval,-Array.getD_eq_getD_getElem?,e64]) rfl (⟨hD.1,by rw [zJ (by decide)];exact hD.2⟩) (fun _ _ _ _ h=>h)⟩
     | 4,ho =>
      simp at ho
      subst ho
      have eg:ac.tmps.getD 65 undef=.bool false:=hv 3 65 rfl (by kernel_rfl)
      have e15:ac.tmps.getD 15 undef=.pointer (some ⟨w4.heap.size,0,none⟩):=hout 15 (by decide +kernel)
      exact .inl ⟨zH rfl rfl eg,zC γ (.pointer (some ⟨w4.heap.size,0,none⟩)) (by simp [go_sem,Act.eval,-Array.getD_eq_getD_getElem?,e15]) rfl (⟨hD.1,by rw [zJ (by decide)];exact hD.2⟩) (fun _ _ _ _ h=>h)⟩
     | 5,ho =>
      simp at ho
      subst ho
      have eg:ac.tmps.getD 65 undef=.bool false:=hv 3 65 rfl (by kernel_rfl)
      have e66:ac.tmps.getD 66 undef=.pointer (some ⟨w4.heap.size,0,none⟩):=hv 4 66 rfl (by kernel_rfl)
      have bb:=(zA HD5).below hD.1
      have c0:=bb.cell 0 rfl 0 rfl
      rw [Nat.add_zero] at c0
      exact .inl ⟨zH rfl rfl eg,zC γ (.int .i64 0) (by simp [go_sem,Act.eval,-Array.getD_eq_getD_getElem?,e66,c0]) rfl (⟨hD.1,by rw [zJ (by decide)];exact hD.2⟩) (fun _ _ _ _ h=>h)⟩
     | 6,ho =>
      simp at ho
      subst ho
      have eg:ac.tmps.getD 65 undef=.bool false:=hv 3 65 rfl (by kernel_rfl)
      have e67:ac.tmps.getD 67 undef=.int .i64 0:=hv 5 67 rfl (by kernel_rfl)
      exact .inl ⟨zH rfl rfl eg,zC γ (.bool true) (by simp [go_sem,Act.eval,-Array.getD_eq_getD_getElem?,e67]) rfl (⟨hD.1,by rw [zJ (by decide)];exact hD.2⟩) (fun _ _ _ _ h=>h)⟩
     | 7,ho =>
      simp at ho
      subst ho
      have eg:ac.tmps.getD 65 undef=.bool false:=hv 3 65 rfl (by kernel_rfl)
      have e68:ac.tmps.getD 68 undef=.bool true:=hv 6 68 rfl (by kernel_rfl)
      exact .inl ⟨zH rfl rfl eg,zC γ (.bool true) (by simp [go_sem,Act.eval,-Array.getD_eq_getD_getElem?,e68]) rfl (⟨hD.1,by rw [zJ (by decide)];exact hD.2⟩) (fun _ _ _ _ h=>h)⟩
     | 8,ho =>
      simp at ho
      subst ho
      have eg:ac.tmps.getD 69 undef=.bool true:=hv 7 69 rfl (by kernel_rfl)
      have e13:ac.tmps.getD 13 undef=.pointer (some ⟨w2.heap.size,0,none⟩):=hout 13 (by decide +kernel)
      have bb:=(zA HC5).below hD.1
      have c0:=bb.cell 0 rfl 0 rfl
      have c1:=bb.cell 0 rfl 1 rfl
      rw [Nat.add_zero] at c0 c1
      exact .inl ⟨zH rfl rfl eg,zC γ (.agg #[.slice T2 (zU X).length tc2,.slice G2 X.gens.length gc2]) (by simp [go_sem,Act.eval,-Array.getD_eq_getD_getElem?,e13,c0,c1]) rfl (⟨hD.1,by rw [zJ (by decide)];exact hD.2⟩) (fun _ _ _ _ h=>h)⟩
     | 9,ho =>
      simp at ho
      subst ho
      have eg:ac.tmps.getD 69 undef=.bool true:=hv 7 69 rfl (by kernel_rfl)
      have e7:ac.tmps.getD 7 undef=.pointer (some ⟨w.heap.size+1,0,none⟩):=hout 7 (by decide +kernel)
      have bb:=(zA HB5).below hD.1
      have c0:=bb.cell 1 rfl 0 rfl
      have c1:=bb.cell 1 rfl 1 rfl
      exact .inl ⟨zH rfl rfl eg,zC γ (.agg #[.slice A X.rows.length cap,.slice GX X.gens.length gxc]) (by simp [go_sem,Act.eval,-Array.getD_eq_getD_getElem?,e7,c0,c1]) rfl (⟨hD.1,by rw [zJ (by decide)];exact hD.2⟩) (fun _ _ _ _ h=>h)⟩
     | 10,ho =>
      simp at ho
      subst ho
      have eg:ac.tmps.getD 69 undef=.bool true:=hv 7 69 rfl (by kernel_rfl)
      have e71:ac.tmps.getD 71 undef=.agg #[.slice A X.rows.length cap,.slice GX X.gens.length gxc]:=hv 9 71 rfl (by kernel_rfl)
      refine .inl ⟨zH rfl rfl eg,zj 61 #[.agg #[.slice A X.rows.length cap,.slice GX X.gens.length gxc]] (by simp [go_sem,Act.eval,-Array.getD_eq_getD_getElem?,e71]) ?_⟩
      refine (zA HRO hxr _ ((zA HL5).trans (hD.1.mono (zA HL5).size))).mono ?_
      rintro e w6 ⟨T6,c6,rfl,hx6,hb6⟩
      exact ⟨_,.agg #[.slice T6 (zU X).length c6,.slice GX X.gens.length gxc],rfl,rfl,⟨hD.1.trans (hb6.mono hD.1.size),fun _=>⟨T6,c6,rfl,hx6⟩⟩,fun j u hj hLj h=>by simpa [hj] using h⟩
     | 11,ho =>
      simp at ho
      subst ho
      have eg:ac.tmps.getD 69 undef=.bool true:=hv 7 69 rfl (by kernel_rfl)
      have e70:ac.tmps.getD 70 undef=.agg #[.slice T2 (zU X).length tc2,.slice G2 X.gens.length gc2]:=hv 8 70 rfl (by kernel_rfl)
      have e72:ac.tmps.getD 72 undef=γ:=hv 10 72 rfl (by kernel_rfl)
      obtain ⟨T1,c1,hγ,hx1⟩:=hD.2 (hed 10 (by kernel_rfl))
      rw [hγ] at e72
      refine .inl ⟨zH rfl rfl eg,zj 56 #[.agg #[.slice T2 (zU X).length tc2,.slice G2 X.gens.length gc2],.agg #[.slice T1 (zU X).length c1,.slice GX X.gens.length gxc]] (by simp [go_sem,Act.eval,-Array.getD_eq_getD_getElem?,e70,e72]) ?_⟩
      refine (same_st w1 T2 tc2 G2 gc2 T1 c1 GX gxc ((zA HXS).below hD.1) hx1).mono ?_
      rintro e w6 ⟨rfl,hb6⟩
      exact ⟨_,γ,rfl,rfl,⟨hD.1.trans (hb6.mono hD.1.size),fun e=>(by obtain ⟨a,b,x,y⟩:=hD.2 (by rwa [zJ (by decide)] at e);exact ⟨a,b,x,y.below hb6⟩)⟩,fun _ _ _ _ h=>h⟩
     | 12,ho =>
      simp at ho
      subst ho
      have eg:ac.tmps.getD 69 undef=.bool true:=hv 7 69 rfl (by kernel_rfl)
      have e73:ac.tmps.getD 73 undef=.bool true:=hv 11 73 rfl (by kernel_rfl)
      exact .inl ⟨zH rfl rfl eg,zC γ (.bool false) (by simp [go_sem,Act.eval,-Array.getD_eq_getD_getElem?,e73]) rfl (⟨hD.1,by rw [zJ (by decide)];exact hD.2⟩) (fun _ _ _ _ h=>h)⟩
     | 13,ho =>
      simp at ho
      subst ho
      have eg:ac.tmps.getD 65 undef=.bool false:=hv 3 65 rfl (by kernel_rfl)
      have e69:ac.tmps.getD 69 undef=.bool true:=hv 7 69 rfl (by kernel_rfl)
      have e74:ac.tmps.getD 74 undef=.bool false:=hv 12 74 rfl (by kernel_rfl)
      exact .inl ⟨zH rfl rfl eg,zC γ (.bool false) (by simp [go_sem,Act.eval,-Array.getD_eq_getD_getElem?,e69,e74]) rfl (⟨hD.1,by rw [zJ (by decide)];exact hD.2⟩) (fun _ _ _ _ h=>h)⟩
     | 14,ho =>
      simp at ho
      subst ho
      have e65:ac.tmps.getD 65 undef=.bool false:=hv 3 65 rfl (by kernel_rfl)
      have e75:ac.tmps.getD 75 undef=.bool false:=hv 13 75 rfl (by kernel_rfl)
      exact .inl ⟨rfl,zC γ (.bool false) (by simp [go_sem,Act.eval,-Array.getD_eq_getD_getElem?,e65,e75]) rfl (⟨hD.1,by rw [zJ (by decide)];exact hD.2⟩) (fun _ _ _ _ h=>h)⟩
     | 15,ho =>
      simp at ho
      subst ho
      have e76:ac.tmps.getD 76 undef=.bool false:=hv 14 76 rfl (by kernel_rfl)
      exact .inl ⟨rfl,zC γ (.bool false) (by simp [go_sem,Act.eval,-Array.getD_eq_getD_getElem?,e76]) rfl (⟨hD.1,by rw [zJ (by decide)];exact hD.2⟩) (fun _ _ _ _ h=>h)⟩
     | 16,ho =>
      simp at ho
      subst ho
      have eg:ac.tmps.getD 77 undef=.bool false:=hv 15 77 rfl (by kernel_rfl)
      have e15:ac.tmps.getD 15 undef=.pointer (some ⟨w4.heap.size,0,none⟩):=hout 15 (by decide +kernel)
      exact .inl ⟨zH rfl rfl eg,zC γ (.pointer (some ⟨w4.heap.size,0,none⟩)) (by simp [go_sem,Act.eval,-Array.getD_eq_getD_getElem?,e15]) rfl (⟨hD.1,by rw [zJ (by decide)];exact hD.2⟩) (fun _ _ _ _ h=>h)⟩
     | 17,ho =>
      simp at ho
      subst ho
      have eg:ac.tmps.getD 77 undef=.bool false:=hv 15 77 rfl (by kernel_rfl)
      have e78:ac.tmps.getD 78 undef=.pointer (some ⟨w4.heap.size,0,none⟩):=hv 16 78 rfl (by kernel_rfl)
      have bb:=(zA HD5).below hD.1
      have c0:=bb.cell 0 rfl 0 rfl
      rw [Nat.add_zero] at c0
      exact .inl ⟨zH rfl rfl eg,zC γ (.int .i64 0) (by simp [go_sem,Act.eval,-Array.getD_eq_getD_getElem?,e78,c0]) rfl (⟨hD.1,by rw [zJ (by decide)];exact hD.2⟩) (fun _ _ _ _ h=>h)⟩
     | 18,ho =>
      simp at ho
      subst ho
      have eg:ac.tmps.getD 77 undef=.bool false:=hv 15 77 rfl (by kernel_rfl)
      have e79:ac.tmps.getD 79 undef=.int .i64 0:=hv 17 79 rfl (by kernel_rfl)
      exact .inl ⟨zH rfl rfl eg,zC γ (.bool false) (by simp [go_sem,Act.eval,-Array.getD_eq_getD_getElem?,e79]) rfl (⟨hD.1,by rw [zJ (by decide)];exact hD.2⟩) (fun _ _ _ _ h=>h)⟩
     | 19,ho =>
      simp at ho
      subst ho
      have eg:ac.tmps.getD 77 undef=.bool false:=hv 15 77 rfl (by kernel_rfl)
      have e80:ac.tmps.getD 80 undef=.bool false:=hv 18 80 rfl (by kernel_rfl)
      exact .inl ⟨zH rfl rfl eg,zC γ (.bool false) (by simp [go_sem,Act.eval,-Array.getD_eq_getD_getElem?,e80]) rfl (⟨hD.1,by rw [zJ (by decide)];exact hD.2⟩) (fun _ _ _ _ h=>h)⟩
     | 20,ho =>
      simp at ho
      subst ho
      have eg:ac.tmps.getD 81 undef=.bool !true:=hv 19 81 rfl (by kernel_rfl)
      exact .inr ⟨zP rfl rfl eg,rfl,⟨hD.1,by rw [zJ (by decide)];exact hD.2⟩⟩
     | 21,ho =>
      simp at ho
      subst ho
      have eg:ac.tmps.getD 81 undef=.bool !true:=hv 19 81 rfl (by kernel_rfl)
      exact .inr ⟨zP rfl rfl eg,rfl,⟨hD.1,by rw [zJ (by decide)];exact hD.2⟩⟩
     | 22,ho =>
      simp at ho
      subst ho
      have eg:ac.tmps.getD 81 undef=.bool !true:=hv 19 81 rfl (by kernel_rfl)
      exact .inr ⟨zP rfl rfl eg,rfl,⟨hD.1,by rw [zJ (by decide)];exact hD.2⟩⟩
     | 23,ho =>
      simp at ho
      subst ho
      have eg:ac.tmps.getD 81 undef=.bool !true:=hv 19 81 rfl (by kernel_rfl)
      exact .inr ⟨zP rfl rfl eg,rfl,⟨hD.1,by rw [zJ (by decide)];exact hD.2⟩⟩
     | 24,ho =>
      simp at ho
      subst ho
      have eg:ac.tmps.getD 77 undef=.bool false:=hv 15 77 rfl (by kernel_rfl)
      have e81:ac.tmps.getD 81 undef=.bool false:=hv 19 81 rfl (by kernel_rfl)
      exact .inl ⟨zH rfl rfl eg,zC γ (.bool false) (by simp [go_sem,Act.eval,-Array.getD_eq_getD_getElem?,e81]) rfl (⟨hD.1,by rw [zJ (by decide)];exact hD.2⟩) (fun _ _ _ _ h=>h)⟩
     | 25,ho =>
      simp at ho
      subst ho
      have e77:ac.tmps.getD 77 undef=.bool false:=hv 15 77 rfl (by kernel_rfl)
      have e86:ac.tmps.getD 86 undef=.bool false:=hv 24 86 rfl (by kernel_rfl)
      exact .inl ⟨rfl,zC γ (.bool false) (by simp [go_sem,Act.eval,-Array.getD_eq_getD_getElem?,e77,e86]) rfl (⟨hD.1,by rw [zJ (by decide)];exact hD.2⟩) (fun _ _ _ _ h=>h)⟩
     | ix+26,ho=>simp at ho
    case hend =>
     intro γ v L w6 hD hall hv
     have v25:v 25=.bool false:=hv 25 87 rfl
     have hb6:=hD.1
     clear hv hall hD h0
     simp only [zt,List.getElem?_cons_zero,List.getElem?_cons_succ,Option.bind_some,List.length_cons,List.length_nil,Nat.reduceAdd,v25]
     clear v25
     go_frame
     go_wp2_with fail
     go_meet
     case rel=>exact ⟨rfl,hb6⟩
   ·obtain ⟨hn2,hg2⟩:=(zA HXX5).2 hwe
    subst hn2 hg2
    have h0:(fun (γ:Value) (L:Nat→Bool) W=>Below W5.heap.size W5 W∧True) undef (fun _=>false) W5.drew:=⟨(Below.refl _ _).drew,trivial⟩
    refine zc (fun (γ:Value) ix v=>(([fun v=>v=.agg #[.int .i64 we,.int .i64 wa],fun v=>v=.agg #[.int .i64 we,.int .i64 wa],fun v=>v=.bool false,fun v=>v=.bool false,fun v=>v=.pointer (some ⟨w4.heap.size,0,none⟩),fun v=>v=.int .i64 we,fun v=>v=.bool false,fun v=>v=.bool false,fun v=>v=undef,fun v=>v=undef,fun v=>v=undef,fun v=>v=undef,fun v=>v=undef,fun v=>v=.bool false,fun v=>v=.bool false,fun v=>v=.bool false,fun v=>v=.pointer (some ⟨w4.heap.size,0,none⟩),fun v=>v=.int .i64 we,fun v=>v=.bool true,fun v=>v=.bool true,fun v=>v=.agg #[.slice T2 0 tc2,.slice G2 0 gc2],fun v=>v=.agg #[.slice none 0 0,.slice none 0 0],fun v=>v=.bool true,fun v=>v=.bool false,fun v=>v=.bool false,fun v=>v=.bool false]:List (Value→Prop)).getD ix (fun _=>True)) v) (fun (γ:Value) (L:Nat→Bool) W=>Below W5.heap.size W5 W∧True) (undef) (by kernel_rfl) (by kernel_rfl) (by kernel_rfl) h0 ?hstep ?hend
    case hstep =>
     intro γ ix o ho L ac w1 hD hL hed hcl hout hv
     match ix,ho with
     | 0,ho =>
      simp at ho
      subst ho
      have e14:ac.tmps.getD 14 undef=.pointer (some ⟨w2.heap.size+1,0,none⟩):=hout 14 (by decide +kernel)
      have bb:=(zA HC5).below hD.1
      have c0:=bb.cell 1 rfl 0 rfl
      have c1:=bb.cell 1 rfl 1 rfl
      exact .inl ⟨rfl,zC γ (.agg #[.int .i64 we,.int .i64 wa]) (by simp [go_sem,Act.eval,-Array.getD_eq_getD_getElem?,e14,c0,c1]) rfl (⟨hD.1,trivial⟩) (fun _ _ _ _ h=>h)⟩
     | 1,ho =>
      simp at ho
      subst ho
      have e15:ac.tmps.getD 15 undef=.pointer (some ⟨w4.heap.size,0,none⟩):=hout 15 (by decide +kernel)
      have bb:=(zA HD5).below hD.1
      have c0:=bb.cell 0 rfl 0 rfl
      have c1:=bb.cell 0 rfl 1 rfl
      rw [Nat.add_zero] at c0 c1
      exact .inl ⟨rfl,zC γ (.agg #[.int .i64 we,.int .i64 wa]) (by simp [go_sem,Act.eval,-Array.getD_eq_getD_getElem?,e15,c0,c1]) rfl (⟨hD.1,trivial⟩) (fun _ _ _ _ h=>h)⟩
     | 2,ho =>
      simp at ho
      subst ho
      have e62:ac.tmps.getD 62 undef=.agg #[.int .i64 we,.int .i64 wa]:=hv 0 62 rfl (by kernel_rfl)
      have e63:ac.tmps.getD 63 undef=.agg #[.int .i64 we,.int .i64 wa]:=hv 1 63 rfl (by kernel_rfl)
      exact .inl ⟨rfl,zC γ (.bool false) (by simp [go_sem,Act.eval,-Array.getD_eq_getD_getElem?,e62,e63]) rfl (⟨hD.1,trivial⟩) (fun _ _ _ _ h=>h)⟩
     | 3,ho =>
      simp at ho
      subst ho
      have e64:ac.tmps.getD 64 undef=.bool false:=hv 2 64 rfl (by kernel_rfl)
      exact .inl ⟨rfl,zC γ (.bool false) (by simp [go_sem,Act.eval,-Array.getD_eq_getD_getElem?,e64]) rfl (⟨hD.1,trivial⟩) (fun _ _ _ _ h=>h)⟩
     | 4,ho =>
      simp at ho
      subst ho
      have eg:ac.tmps.getD 65 undef=.bool false:=hv 3 65 rfl (by kernel_rfl)
      have e15:ac.tmps.getD 15 undef=.pointer (some ⟨w4.heap.size,0,none⟩):=hout 15 (by decide +kernel)
      exact .inl ⟨zH rfl rfl eg,zC γ (.pointer (some ⟨w4.heap.size,0,none⟩)) (by simp [go_sem,Act.eval,-Array.getD_eq_getD_getElem?,e15]) rfl (⟨hD.1,trivial⟩) (fun _ _ _ _ h=>h)⟩
     | 5,ho =>
      simp at ho
      subst ho
      have eg:ac.tmps.getD 65 undef=.bool false:=hv 3 65 rfl (by kernel_rfl)
      have e66:ac.tmps.getD 66 undef=.pointer (some ⟨w4.heap.size,0,none⟩):=hv 4 66 rfl (by kernel_rfl)
      have bb:=(zA HD5).below hD.1
      have c0:=bb.cell 0 rfl 0 rfl
      rw [Nat.add_zero] at c0
      exact .inl ⟨zH rfl rfl eg,zC γ (.int .i64 we) (by simp [go_sem,Act.eval,-Array.getD_eq_getD_getElem?,e66,c0]) rfl (⟨hD.1,trivial⟩) (fun _ _ _ _ h=>h)⟩
     | 6,ho =>
      simp at ho
      subst ho
      have eg:ac.tmps.getD 65 undef=.bool false:=hv 3 65 rfl (by kernel_rfl)
      have e67:ac.tmps.getD 67 undef=.int .i64 we:=hv 5 67 rfl (by kernel_rfl)
      exact .inl ⟨zH rfl rfl eg,zC γ (.bool false) (by simp [go_sem,Act.eval,-Array.getD_eq_getD_getElem?,e67,hwe]) rfl (⟨hD.1,trivial⟩) (fun _ _ _ _ h=>h)⟩
     | 7,ho =>
      simp at ho
      subst ho
      have eg:ac.tmps.getD 65 undef=.bool false:=hv 3 65 rfl (by kernel_rfl)
      have e68:ac.tmps.getD 68 undef=.bool false:=hv 6 68 rfl (by kernel_rfl)
      exact .inl ⟨zH rfl rfl eg,zC γ (.bool false) (by simp [go_sem,Act.eval,-Array.getD_eq_getD_getElem?,e68]) rfl (⟨hD.1,trivial⟩) (fun _ _ _ _ h=>h)⟩
     | 8,ho =>
      simp at ho
      subst ho
      have eg:ac.tmps.getD 69 undef=.bool !true:=hv 7 69 rfl (by kernel_rfl)
      exact .inr ⟨zP rfl rfl eg,rfl,⟨hD.1,trivial⟩⟩
     | 9,ho =>
      simp at ho
      subst ho
      have eg:ac.tmps.getD 69 undef=.bool !true:=hv 7 69 rfl (by kernel_rfl)
      exact .inr ⟨zP rfl rfl eg,rfl,⟨hD.1,trivial⟩⟩
     | 10,ho =>
      simp at ho
      subst ho
      have eg:ac.tmps.getD 69 undef=.bool !true:=hv 7 69 rfl (by kernel_rfl)
      exact .inr ⟨zP rfl rfl eg,rfl,⟨hD.1,trivial⟩⟩
     | 11,ho =>
      simp at ho
      subst ho
      have eg:ac.tmps.getD 69 undef=.bool !true:=hv 7 69 rfl (by kernel_rfl)
      exact .inr ⟨zP rfl rfl eg,rfl,⟨hD.1,trivial⟩⟩
     | 12,ho =>
      simp at ho
      subst ho
      have eg:ac.tmps.getD 69 undef=.bool !true:=hv 7 69 rfl (by kernel_rfl)
      exact .inr ⟨zP rfl rfl eg,rfl,⟨hD.1,trivial⟩⟩
     | 13,ho =>
      simp at ho
      subst ho
      have eg:ac.tmps.getD 65 undef=.bool false:=hv 3 65 rfl (by kernel_rfl)
      have e69:ac.tmps.getD 69 undef=.bool false:=hv 7 69 rfl (by kernel_rfl)
      exact .inl ⟨zH rfl rfl eg,zC γ (.bool false) (by simp [go_sem,Act.eval,-Array.getD_eq_getD_getElem?,e69]) rfl (⟨hD.1,trivial⟩) (fun _ _ _ _ h=>h)⟩
     | 14,ho =>
      simp at ho
      subst ho
      have e65:ac.tmps.getD 65 undef=.bool false:=hv 3 65 rfl (by kernel_rfl)
      have e75:ac.tmps.getD 75 undef=.bool false:=hv 13 75 rfl (by kernel_rfl)
      exact .inl ⟨rfl,zC γ (.bool false) (by simp [go_sem,Act.eval,-Array.getD_eq_getD_getElem?,e65,e75]) rfl (⟨hD.1,trivial⟩) (fun _ _ _ _ h=>h)⟩
     | 15,ho =>
      simp at ho
      subst ho
      have e76:ac.tmps.getD 76 undef=.bool false:=hv 14 76 rfl (by kernel_rfl)
      exact .inl ⟨rfl,zC γ (.bool false) (by simp [go_sem,Act.eval,-Array.getD_eq_getD_getElem?,e76]) rfl (⟨hD.1,trivial⟩) (fun _ _ _ _ h=>h)⟩
     | 16,ho =>
      simp at ho
      subst ho
      have eg:ac.tmps.getD 77 undef=.bool false:=hv 15 77 rfl (by kernel_rfl)
      have e15:ac.tmps.getD 15 undef=.pointer (some ⟨w4.heap.size,0,none⟩):=hout 15 (by decide +kernel)
      exact .inl ⟨zH rfl rfl eg,zC γ (.pointer (some ⟨w4.heap.size,0,none⟩)) (by simp [go_sem,Act.eval,-Array.getD_eq_getD_getElem?,e15]) rfl (⟨hD.1,trivial⟩) (fun _ _ _ _ h=>h)⟩
     | 17,ho =>
      simp at ho
      subst ho
      have eg:ac.tmps.getD 77 undef=.bool false:=hv 15 77 rfl (by kernel_rfl)
      have e78:ac.tmps.getD 78 undef=.pointer (some ⟨w4.heap.size,0,none⟩):=hv 16 78 rfl (by kernel_rfl)
      have bb:=(zA HD5).below hD.1
      have c0:=bb.cell 0 rfl 0 rfl
      rw [Nat.add_zero] at c0
      exact .inl ⟨zH rfl rfl eg,zC γ (.int .i64 we) (by simp [go_sem,Act.eval,-Array.getD_eq_getD_getElem?,e78,c0]) rfl (⟨hD.1,trivial⟩) (fun _ _ _ _ h=>h)⟩
     | 18,ho =>
      simp at ho
      subst ho
      have eg:ac.tmps.getD 77 undef=.bool false:=hv 15 77 rfl (by kernel_rfl)
      have e79:ac.tmps.getD 79 undef=.int .i64 we:=hv 17 79 rfl (by kernel_rfl)
      exact .inl ⟨zH rfl rfl eg,zC γ (.bool true) (by simp [go_sem,Act.eval,-Array.getD_eq_getD_getElem?,e79,hwe]) rfl (⟨hD.1,trivial⟩) (fun _ _ _ _ h=>h)⟩
     | 19,ho =>
      simp at ho
      subst ho
      have eg:ac.tmps.getD 77 undef=.bool false:=hv 15 77 rfl (by kernel_rfl)
      have e80:ac.tmps.getD 80 undef=.bool true:=hv 18 80 rfl (by kernel_rfl)
      exact .inl ⟨zH rfl rfl eg,zC γ (.bool true) (by simp [go_sem,Act.eval,-Array.getD_eq_getD_getElem?,e80]) rfl (⟨hD.1,trivial⟩) (fun _ _ _ _ h=>h)⟩
     | 20,ho =>
      simp at ho
      subst ho
      have eg:ac.tmps.getD 81 undef=.bool true:=hv 19 81 rfl (by kernel_rfl)
      have e13:ac.tmps.getD 13 undef=.pointer (some ⟨w2.heap.size,0,none⟩):=hout 13 (by decide +kernel)
      have bb:=(zA HC5).below hD.1
      have c0:=bb.cell 0 rfl 0 rfl
      have c1:=bb.cell 0 rfl 1 rfl
      rw [Nat.add_zero] at c0 c1
      exact .inl ⟨zH rfl rfl eg,zC γ (.agg #[.slice T2 0 tc2,.slice G2 0 gc2]) (by simp [go_sem,Act.eval,-Array.getD_eq_getD_getElem?,e13,c0,c1]) rfl (⟨hD.1,trivial⟩) (fun _ _ _ _ h=>h)⟩
     | 21,ho =>
      simp at ho
      subst ho
      have eg:ac.tmps.getD 81 undef=.bool true:=hv 19 81 rfl (by kernel_rfl)
      exact .inl ⟨zH rfl rfl eg,zC γ (.agg #[.slice none 0 0,.slice none 0 0]) (by simp [go_sem,Act.eval,-Array.getD_eq_getD_getElem?,]) rfl (⟨hD.1,trivial⟩) (fun _ _ _ _ h=>h)⟩
     | 22,ho =>
      simp at ho
      subst ho
      have eg:ac.tmps.getD 81 undef=.bool true:=hv 19 81 rfl (by kernel_rfl)
      have e82:ac.tmps.getD 82 undef=.agg #[.slice T2 0 tc2,.slice G2 0 gc2]:=hv 20 82 rfl (by kernel_rfl)
      have e83:ac.tmps.getD 83 undef=.agg #[.slice none 0 0,.slice none 0 0]:=hv 21 83 rfl (by kernel_rfl)
      refine .inl ⟨zH rfl rfl eg,zj 56 #[.agg #[.slice T2 0 tc2,.slice G2 0 gc2],.agg #[.slice none 0 0,.slice none 0 0]] (by simp [go_sem,Act.eval,-Array.getD_eq_getD_getElem?,e82,e83]) ?_⟩
      refine (same_no w1 T2 tc2 G2 gc2).mono ?_
      rintro e w6 ⟨rfl,hb6⟩
      exact ⟨_,γ,rfl,rfl,⟨hD.1.trans (hb6.mono hD.1.size),trivial⟩,fun _ _ _ _ h=>h⟩
     | 23,ho =>
      simp at ho
      subst ho
      have eg:ac.tmps.getD 81 undef=.bool true:=hv 19 81 rfl (by kernel_rfl)
      have e84:ac.tmps.getD 84 undef=.bool true:=hv 22 84 rfl (by kernel_rfl)
      exact .inl ⟨zH rfl rfl eg,zC γ (.bool false) (by simp [go_sem,Act.eval,-Array.getD_eq_getD_getElem?,e84]) rfl (⟨hD.1,trivial⟩) (fun _ _ _ _ h=>h)⟩
     | 24,ho =>
      simp at ho
      subst ho
      have eg:ac.tmps.getD 77 undef=.bool false:=hv 15 77 rfl (by kernel_rfl)
      have e81:ac.tmps.getD 81 undef=.bool true:=hv 19 81 rfl (by kernel_rfl)
      have e85:ac.tmps.getD 85 undef=.bool false:=hv 23 85 rfl (by kernel_rfl)
      exact .inl ⟨zH rfl rfl eg,zC γ (.bool false) (by simp [go_sem,Act.eval,-Array.getD_eq_getD_getElem?,e81,e85]) rfl (⟨hD.1,trivial⟩) (fun _ _ _ _ h=>h)⟩
     | 25,ho =>
      simp at ho
      subst ho
      have e77:ac.tmps.getD 77 undef=.bool false:=hv 15 77 rfl (by kernel_rfl)
      have e86:ac.tmps.getD 86 undef=.bool false:=hv 24 86 rfl (by kernel_rfl)
      exact .inl ⟨rfl,zC γ (.bool false) (by simp [go_sem,Act.eval,-Array.getD_eq_getD_getElem?,e77,e86]) rfl (⟨hD.1,trivial⟩) (fun _ _ _ _ h=>h)⟩
     | ix+26,ho=>simp at ho
    case hend =>
     intro γ v L w6 hD hall hv
     have v25:v 25=.bool false:=hv 25 87 rfl
     have hb6:=hD.1
     clear hv hall hD h0
     simp only [zt,List.getElem?_cons_zero,List.getElem?_cons_succ,Option.bind_some,List.length_cons,List.length_nil,Nat.reduceAdd,v25]
     clear v25
     go_frame
     go_wp2_with fail
     go_meet
     case rel=>exact ⟨rfl,hb6⟩
  case rest =>
   obtain ⟨rfl,hbc⟩:=hcut
   obtain ⟨w6,rfl⟩:∃ w6,w6=wc:=⟨_,rfl⟩
   have hL6:=(zA HL5).trans (hbc.mono (zA HL5).size)
   have hB6:=(zA HB5).below hbc
   have c0:=hB6.cell 0 rfl 0 rfl
   have c1:=hB6.cell 0 rfl 1 rfl
   rw [Nat.add_zero] at c0 c1
   have HB6:=zB hB6
   have HL6:=zB hL6
   clear hB6 hL6 hbc HB5 HC5 HD5 HL5 HXX5 HSW HSO HSS HRO
   go_wp2_with fail
   go_at_call 55
   refine (zA HRW _ (zA HL6)).mono ?_
   rintro e w7 ⟨rfl,hb7⟩
   have hB7:=(zA HB6).below hb7
   have HL7:=zB ((zA HL6).trans (hb7.mono (zA HL6).size))
   clear c0 c1
   have c0:=hB7.cell 0 rfl 0 rfl
   have c1:=hB7.cell 0 rfl 1 rfl
   have b0:=hB7.cell 2 rfl 0 rfl
   have b1:=hB7.cell 2 rfl 1 rfl
   rw [Nat.add_zero] at c0 c1
   have HB7:=zB hB7
   clear hB7 hb7 HB6 HL6
   by_cases hse:se=0
   ·subst hse
    obtain ⟨hsa,hlen,hAt⟩:=zA HST rfl
    subst hsa
    have hRD:=fun W (hb:Below w.heap.size w W)=>rworld_st T tcap G gcap tabs Y W (hAt.below hb) (zA HY)
    have hAT:=fun W (hb:Below w.heap.size w W)=>hAt.below hb
    rw [←hlen] at hRD
    obtain ⟨hyl,hygl,_⟩:=zq ((zk Y).2 hAt.right)
    have HRD:=zB hRD
    have HAT:=zB hAT
    have HLN:=zB hlen
    clear hRD hAT hlen hAt HST HBS HBP
    go_wp2_with fail
    go_at_call 59
    refine (zA HRD _ (zA HL7)).mono ?_
    rintro e w8 ⟨AV,cv,rfl,hV8,hb8⟩
    obtain ⟨W9,hW9⟩:∃ W9,W9=zAy w8 [([.slice AV Y.rows.length cv,.slice G Y.gens.length gcap],38)]:=⟨_,rfl⟩
    have hX9:=Bxs.start w8 [([.slice AV Y.rows.length cv,.slice G Y.gens.length gcap],38)]
    have hb9:=allocs_below [([.slice AV Y.rows.length cv,.slice G Y.gens.length gcap],38)] w8
    rw [←hW9] at hX9 hb9
    have hW9':w8.alloc (.cells #[.slice AV Y.rows.length cv,.slice G Y.gens.length gcap] 38)=W9:=hW9.symm
    have HW9:=zB hW9'
    clear hW9 hW9'
    have hb89:=hb8.trans (hb9.mono hb8.size)
    have hL9:=(zA HL7).trans (hb89.mono (zA HL7).size)
    have HB9:=zB ((zA HB7).below hb89)
    have HC9:=zB hX9
    have HV9:=zB (hV8.below hb9)
    have HA9:=zB (zA HAT _ hL9)
    have HGN:Hid (∀ Z:Wd,(Z.gens≠[]→Y.gens≠[])→Z.gens≠[]→∀ c o,G=some ⟨c,o,none⟩→c<W9.heap.size):=zB fun Z h hz=>gens_at (zA HV9).gens (h hz)
    have HL9:=zB hL9
    clear c0 c1 b0 b1 hb8 hb9 hb89 hL9 hX9 hV8 HB7 HL7 HRD HAT
    go_upto_region 12 with fail
    rw [zA HW9]
    clear HW9
    go_wp2_with fail
    go_loopw [125] (fun x wr=>∃ k:Int,(k=0∨k=1∨k=2∨k=3∨k=4)∧x=.int .i64 k∧Below W9.heap.size W9 wr) (fun x _=>4 - (intOf x).toNat)
    case atStart=>exact ⟨0,by omega,rfl,Below.refl _ _⟩
    case round =>
     obtain ⟨k,hk,rfl,hbr⟩:=hrel
     by_cases hk4:k=4
     ·subst hk4
      have HE:=zB hbr
      clear hbr
      go_wp2
      go_ret
      exact ⟨rfl,(zA HL9).trans ((zA HE).mono (zA HL9).size)⟩
     ·have hk3:k=0∨k=1∨k=2∨k=3:=by omega
      have hkd:decide (k<4)=true:=decide_eq_true (by omega)
      have hkw:IntKind.i64.wrap (k+1)=k+1:=IntWalk.i64_in _ (by omega)
      clear hk
      obtain ⟨wk,rfl⟩:∃ wk,wk=wr:=⟨_,rfl⟩
      have hz0:W9.heap.size≤wk.heap.size:=hbr.size
      obtain ⟨W4,hW4⟩:∃ W4,W4=zAy wk [([.slice none 0 0,.slice none 0 0],71),([.slice none 0 0,.slice none 0 0],38),([.int .i64 0,.int .i64 0],40),([.int .i64 0,.int .i64 0],40)]:=⟨_,rfl⟩
      have hX4:=Bxs.start wk [([.slice none 0 0,.slice none 0 0],71),([.slice none 0 0,.slice none 0 0],38),([.int .i64 0,.int .i64 0],40),([.int .i64 0,.int .i64 0],40)]
      have hb4:=allocs_below [([.slice none 0 0,.slice none 0 0],71),([.slice none 0 0,.slice none 0 0],38),([.int .i64 0,.int .i64 0],40),([.int .i64 0,.int .i64 0],40)] wk
      rw [←hW4] at hX4 hb4
      have hW4':(((wk.alloc (.cells #[.slice none 0 0,.slice none 0 0] 71)).alloc (.cells #[.slice none 0 0,.slice none 0 0] 38)).alloc (.cells #[.int .i64 0,.int .i64 0] 40)).alloc (.cells #[.int .i64 0,.int .i64 0] 40)=W4:=hW4.symm
      have HW4:=zB hW4'
      clear hW4 hW4'
      have hz4:wk.heap.size+4≤W4.heap.size:=hX4.sz (by simp)
      have hL4:Below W9.heap.size W9 W4:=hbr.trans (hb4.mono hbr.size)
      have HL4:=zB hL4
      have HD4:=zB hX4
      have HZ0:=zB hz0
      have HZ4:=zB hz4
      clear hX4 hb4 hL4 hbr hz0 hz4
      go_upto_block 2 with fail
      rw [zA HW4]
      clear HW4
      go_cut [27,28,125] from 125 to 222 (fun x y z wc=>z=.int .i64 k∧∃ (Z:Wd) (err ci cg:Int) (T5:Option Addr) (tc5:Nat) (G5:Option Addr) (gc5:Nat) (A8:Option Addr) (c8:Nat) (G8:Option Addr) (gc8:Nat),x=.int .i64 err∧y=.int .i64 err∧(err≠0→(zU Z).length=0∧Z.gens.length=0)∧Bxs wk.heap.size [([.slice T5 (zU Z).length tc5,.slice G5 Z.gens.length gc5],71),([.slice A8 Z.rows.length c8,.slice G8 Z.gens.length gc8],38),([.int .i64 ci,.int .i64 cg],40),([.int .i64 ci,.int .i64 cg],40)] wc∧Below W9.heap.size W9 wc∧StAt wc T5 G5 (zU Z) Z∧WldAt wc A8 c8 G8 gc8 Z)
      case first =>
       rcases hk3 with rfl | rfl | rfl | rfl
       ·have hSC:=fun W (h:StAt W T G tabs Y)=>sspawn_any T tcap G gcap tabs Y has n W h
        have hPC:=fun W (h:WldAt W AV cv G gcap Y)=>rspawn_any AV cv G gcap Y has n W (by omega) h
        have hNO:(zh Y has n).1≠0→(zU ((zh Y has n).2.2)).length=0∧((zh Y has n).2.2).gens.length=0:=fun e=>none_of (spawn_no e)
        have hGN:((zh Y has n).2.2).gens≠[]→∀ c o,(none:Option Addr)=some ⟨c,o,none⟩→c<W9.heap.size:=fun _ c o e=>by cases e
        obtain ⟨Z,hZ⟩:∃ Z,Z=(zh Y has n).2.2:=⟨_,rfl⟩
        obtain ⟨err,herr⟩:∃ err,err=(zh Y has n).1:=⟨_,rfl⟩
        rw [←hZ,←herr] at hSC hPC hNO
        rw [←hZ] at hGN
        obtain ⟨ci,hci⟩:∃ ci,ci=(zh Y has n).2.1.1:=⟨_,rfl⟩
        obtain ⟨cg,hcg⟩:∃ cg,cg=(zh Y has n).2.1.2:=⟨_,rfl⟩
        rw [←hci,←hcg] at hSC hPC
        clear hci hcg
        unfold stV zW at hSC
        unfold zAA zQ zW at hPC
        rw [←zA HLN] at hSC
        have HSC:=zB hSC
        have HPC:=zB hPC
        have HNO:=zB hNO
        have HGZ:=zB hGN
        clear hSC hPC hNO hZ herr hGN
        have hB4:=(zA HB9).below (zA HL4)
        have s0:=hB4.cell 0 rfl 0 rfl
        have s1:=hB4.cell 0 rfl 1 rfl
        rw [Nat.add_zero] at s0 s1
        have b0:=hB4.cell 2 rfl 0 rfl
        have b1:=hB4.cell 2 rfl 1 rfl
        clear hB4
        go_wp2_with fail
        go_at_call 62
        refine (zA HSC _ ((zA HA9).below (zA HL4))).mono ?_
        rintro e w5 ⟨T5,tc5,G5,gc5,rfl,hN5,hb5⟩
        have HD5:=zB ((zA HD4).below hb5)
        have HL5:=zB ((zA HL4).trans (hb5.mono (zA HL4).size))
        have HN5:=zB (hN5.le (base':=wk.heap.size+4) (zA HZ4))
        clear hN5 hb5 s0 s1 b0 b1
        go_wp2_with (first
         | (refine zG rfl 71 (.tmp 23) (.tmp 150) rfl (wk.heap.size+0) 0 [.slice T5 (zU Z).length tc5,.slice G5 Z.gens.length gc5] rfl rfl (by simp [Value.oneCell']) size71 ((zA HD5).there 0 rfl 2 rfl) ?_;intro W6 hW;have q1:=(zA HD5).give 0 rfl [.slice T5 (zU Z).length tc5,.slice G5 Z.gens.length gc5] rfl;have q3:=zM (wk.heap.size+0) (by have:=zA HZ0;omega) [.slice T5 (zU Z).length tc5,.slice G5 Z.gens.length gc5] 0 _ (zA HL5);have q5:=(zA HN5).putc (b:=wk.heap.size+0) (o:=0) (vs:=[.slice T5 (zU Z).length tc5,.slice G5 Z.gens.length gc5]) (by omega);rw [←hW] at q1 q3 q5;have HD6:=zB q1;have HL6:=zB q3;have HN6:=zB q5;clear hW q1 q3 q5)
         | (refine zG rfl 40 (.tmp 25) (.tmp 151) rfl (wk.heap.size+2) 0 [.int .i64 ci,.int .i64 cg] rfl rfl (by simp [Value.oneCell']) size40 ((zA HD6).there 2 rfl 2 rfl) ?_;intro W7 hW;have q1:=(zA HD6).give 2 rfl [.int .i64 ci,.int .i64 cg] rfl;have q3:=zM (wk.heap.size+2) (by have:=zA HZ0;omega) [.int .i64 ci,.int .i64 cg] 0 _ (zA HL6);have q5:=(zA HN6).putc (b:=wk.heap.size+2) (o:=0) (vs:=[.int .i64 ci,.int .i64 cg]) (by omega);rw [←hW] at q1 q3 q5;have HD7:=zB q1;have HL7:=zB q3;have HN7:=zB q5;clear hW q1 q3 q5;have hC:=(zA HC9).below (zA HL7);have hB:=(zA HB9).below (zA HL7);have a0:=hC.cell 0 rfl 0 rfl;have a1:=hC.cell 0 rfl 1 rfl;rw [Nat.add_zero] at a0 a1;have b0:=hB.cell 2 rfl 0 rfl;have b1:=hB.cell 2 rfl 1 rfl;clear hC hB))
        go_at_call 41
        refine (zA HPC _ ((zA HV9).below (zA HL7))).mono ?_
        rintro e w8 ⟨A8,c8,G8,gc8,rfl,hY8,hb8⟩
        have HD8:=zB ((zA HD7).below hb8)
        have HL8:=zB ((zA HL7).trans (hb8.mono (zA HL7).size))
        have HN8:=zB ((zA HN7).below hb8)
        have HZ8:Hid (wk.heap.size+4≤W7.heap.size):=zB (by have:=(zA HD7).sz (by simp);simpa using this)
        have HY8:=zB hY8
        clear hY8 hb8 a0 a1 b0 b1
        go_wp2_with (first
         | (refine zG rfl 38 (.tmp 24) (.tmp 158) rfl (wk.heap.size+1) 0 [.slice A8 Z.rows.length c8,.slice G8 Z.gens.length gc8] rfl rfl (by simp [Value.oneCell']) size38 ((zA HD8).there 1 rfl 2 rfl) ?_;intro W9b hW;have q1:=(zA HD8).give 1 rfl [.slice A8 Z.rows.length c8,.slice G8 Z.gens.length gc8] rfl;have q3:=zM (wk.heap.size+1) (by have:=zA HZ0;omega) [.slice A8 Z.rows.length c8,.slice G8 Z.gens.length gc8] 0 _ (zA HL8);have q5:=(zA HN8).putc (b:=wk.heap.size+1) (o:=0) (vs:=[.slice A8 Z.rows.length c8,.slice G8 Z.gens.length gc8]) (by omega);have q6:=(zA HY8).sets (zA HGZ) (b:=wk.heap.size+1) (o:=0) (vs:=[.slice A8 Z.rows.length c8,.slice G8 Z.gens.length gc8]) (by have:=zA HZ8;omega) (by have:=zA HZ0;omega);rw [←hW] at q1 q3 q5 q6;have HD9b:=zB q1;have HL9b:=zB q3;have HN9b:=zB q5;have HY9b:=zB q6;clear hW q1 q3 q5 q6)
         | (refine zG rfl 40 (.tmp 26) (.tmp 159) rfl (wk.heap.size+3) 0 [.int .i64 ci,.int .i64 cg] rfl rfl (by simp [Value.oneCell']) size40 ((zA HD9b).there 3 rfl 2 rfl) ?_;intro W10 hW;have q1:=(zA HD9b).give 3 rfl [.int .i64 ci,.int .i64 cg] rfl;have q3:=zM (wk.heap.size+3) (by have:=zA HZ0;omega) [.int .i64 ci,.int .i64 cg] 0 _ (zA HL9b);have q5:=(zA HN9b).putc (b:=wk.heap.size+3) (o:=0) (vs:=[.int .i64 ci,.int .i64 cg]) (by omega);have q6:=(zA HY9b).sets (zA HGZ) (b:=wk.heap.size+3) (o:=0) (vs:=[.int .i64 ci,.int .i64 cg]) (by have:=zA HZ8;omega) (by have:=zA HZ0;omega);rw [←hW] at q1 q3 q5 q6;have HD10:=zB q1;have HL10:=zB q3;have HN10:=zB q5;have HY10:=zB q6;clear hW q1 q3 q5 q6))
        go_meet
        case rel=>exact ⟨rfl,Z,err,ci,cg,T5,tc5,G5,gc5,A8,c8,G8,gc8,rfl,rfl,zA HNO,zA HD10,zA HL10,(zA HN10).st,(zA HY10).toWldAt⟩
       ·have hSC:=fun W (h:StAt W T G tabs Y)=>skill_any T tcap G gcap tabs Y i g W h
        have hPC:=fun W (h:WldAt W AV cv G gcap Y)=>rkill_any AV cv G gcap Y i g W (by omega) h
        have hNO:(zAR Y i g).1≠0→(zU ((zAR Y i g).2)).length=0∧((zAR Y i g).2).gens.length=0:=fun e=>none_of (kill_no e)
        have hGN:((zAR Y i g).2).gens≠[]→∀ c o,G=some ⟨c,o,none⟩→c<W9.heap.size:=zA HGN _ (kill_gens Y i g)
        obtain ⟨Z,hZ⟩:∃ Z,Z=(zAR Y i g).2:=⟨_,rfl⟩
        obtain ⟨err,herr⟩:∃ err,err=(zAR Y i g).1:=⟨_,rfl⟩
        rw [←hZ,←herr] at hSC hPC hNO
        rw [←hZ] at hGN
        unfold stV zW at hSC
        unfold zAA zQ zW at hPC
        rw [←zA HLN] at hSC
        have HSC:=zB hSC
        have HPC:=zB hPC
        have HNO:=zB hNO
        have HGZ:=zB hGN
        clear hSC hPC hNO hZ herr hGN
        have hB4:=(zA HB9).below (zA HL4)
        have s0:=hB4.cell 0 rfl 0 rfl
        have s1:=hB4.cell 0 rfl 1 rfl
        rw [Nat.add_zero] at s0 s1
        have b0:=hB4.cell 2 rfl 0 rfl
        have b1:=hB4.cell 2 rfl 1 rfl
        clear hB4
        go_wp2_with fail
        go_at_call 64
        refine (zA HSC _ ((zA HA9).below (zA HL4))).mono ?_
        rintro e w5 ⟨T5,tc5,G5,gc5,rfl,hN5,hb5⟩
        have HD5:=zB ((zA HD4).below hb5)
        have HL5:=zB ((zA HL4).trans (hb5.mono (zA HL4).size))
        have HN5:=zB (hN5.le (base':=wk.heap.size+4) (zA HZ4))
        clear hN5 hb5 s0 s1 b0 b1
        go_wp2_with (first
         | (refine zG rfl 71 (.tmp 23) (.tmp 167) rfl (wk.heap.size+0) 0 [.slice T5 (zU Z).length tc5,.slice G5 Z.gens.length gc5] rfl rfl (by simp [Value.oneCell']) size71 ((zA HD5).there 0 rfl 2 rfl) ?_;intro W6 hW;have q1:=(zA HD5).give 0 rfl [.slice T5 (zU Z).length tc5,.slice G5 Z.gens.length gc5] rfl;have q3:=zM (wk.heap.size+0) (by have:=zA HZ0;omega) [.slice T5 (zU Z).length tc5,.slice G5 Z.gens.length gc5] 0 _ (zA HL5);have q5:=(zA HN5).putc (b:=wk.heap.size+0) (o:=0) (vs:=[.slice T5 (zU Z).length tc5,.slice G5 Z.gens.length gc5]) (by omega);rw [←hW] at q1 q3 q5;have HD6:=zB q1;have HL6:=zB q3;have HN6:=zB q5;clear hW q1 q3 q5;have hC:=(zA HC9).below (zA HL6);have hB:=(zA HB9).below (zA HL6);have a0:=hC.cell 0 rfl 0 rfl;have a1:=hC.cell 0 rfl 1 rfl;rw [Nat.add_zero] at a0 a1;have b0:=hB.cell 2 rfl 0 rfl;have b1:=hB.cell 2 rfl 1 rfl;clear hC hB))
        go_at_call 43
        refine (zA HPC _ ((zA HV9).below (zA HL6))).mono ?_
        rintro e w8 ⟨A8,c8,G8,gc8,rfl,hY8,hb8⟩
        have HD8:=zB ((zA HD6).below hb8)
        have HL8:=zB ((zA HL6).trans (hb8.mono (zA HL6).size))
        have HN8:=zB ((zA HN6).below hb8)
        have HZ8:Hid (wk.heap.size+4≤W6.heap.size):=zB (by have:=(zA HD6).sz (by simp);simpa using this)
        have HY8:=zB hY8
        clear hY8 hb8 a0 a1 b0 b1
        go_wp2_with (first
         | (refine zG rfl 38 (.tmp 24) (.tmp 173) rfl (wk.heap.size+1) 0 [.slice A8 Z.rows.length c8,.slice G8 Z.gens.length gc8] rfl rfl (by simp [Value.oneCell']) size38 ((zA HD8).there 1 rfl 2 rfl) ?_;intro W9b hW;have q1:=(zA HD8).give 1 rfl [.slice A8 Z.rows.length c8,.slice G8 Z.gens.length gc8] rfl;have q3:=zM (wk.heap.size+1) (by have:=zA HZ0;omega) [.slice A8 Z.rows.length c8,.slice G8 Z.gens.length gc8] 0 _ (zA HL8);have q5:=(zA HN8).putc (b:=wk.heap.size+1) (o:=0) (vs:=[.slice A8 Z.rows.length c8,.slice G8 Z.gens.length gc8]) (by omega);have q6:=(zA HY8).sets (zA HGZ) (b:=wk.heap.size+1) (o:=0) (vs:=[.slice A8 Z.rows.length c8,.slice G8 Z.gens.length gc8]) (by have:=zA HZ8;omega) (by have:=zA HZ0;omega);rw [←hW] at q1 q3 q5 q6;have HD9b:=zB q1;have HL9b:=zB q3;have HN9b:=zB q5;have HY9b:=zB q6;clear hW q1 q3 q5 q6))
        go_meet
        case rel=>exact ⟨rfl,Z,err,0,0,T5,tc5,G5,gc5,A8,c8,G8,gc8,rfl,rfl,zA HNO,zA HD9b,zA HL9b,(zA HN9b).st,(zA HY9b).toWldAt⟩
       ·have hSC:=fun W (h:StAt W T G tabs Y)=>sput_any T tcap G gcap tabs Y i g p n W h
        have hPC:=fun W (h:WldAt W AV cv G gcap Y)=>rput_any AV cv G gcap Y i g p n W (by omega) h
        have hNO:(zBy Y i g p n).1≠0→(zU ((zBy Y i g p n).2)).length=0∧((zBy Y i g p n).2).gens.length=0:=fun e=>none_of (ch_no e)
        have hGN:((zBy Y i g p n).2).gens≠[]→∀ c o,G=some ⟨c,o,none⟩→c<W9.heap.size:=zA HGN _ (ch_gens Y i g _)
        obtain ⟨Z,hZ⟩:∃ Z,Z=(zBy Y i g p n).2:=⟨_,rfl⟩
        obtain ⟨err,herr⟩:∃ err,err=(zBy Y i g p n).1:=⟨_,rfl⟩
        rw [←hZ,←herr] at hSC hPC hNO
        rw [←hZ] at hGN
        unfold stV zW at hSC
        unfold zAA zQ zW at hPC
        rw [←zA HLN] at hSC
        have HSC:=zB hSC
        have HPC:=zB hPC
        have HNO:=zB hNO
        have HGZ:=zB hGN
        clear hSC hPC hNO hZ herr hGN
        have hB4:=(zA HB9).below (zA HL4)
        have s0:=hB4.cell 0 rfl 0 rfl
        have s1:=hB4.cell 0 rfl 1 rfl
        rw [Nat.add_zero] at s0 s1
        have b0:=hB4.cell 2 rfl 0 rfl
        have b1:=hB4.cell 2 rfl 1 rfl
        clear hB4
        go_wp2_with fail
        go_at_call 63
        refine (zA HSC _ ((zA HA9).below (zA HL4))).mono ?_
        rintro e w5 ⟨T5,tc5,G5,gc5,rfl,hN5,hb5⟩
        have HD5:=zB ((zA HD4).below hb5)
        have HL5:=zB ((zA HL4).trans (hb5.mono (zA HL4).size))
        have HN5:=zB (hN5.le (base':=wk.heap.size+4) (zA HZ4))
        clear hN5 hb5 s0 s1 b0 b1
        go_wp2_with (first
         | (refine zG rfl 71 (.tmp 23) (.tmp 183) rfl (wk.heap.size+0) 0 [.slice T5 (zU Z).length tc5,.slice G5 Z.gens.length gc5] rfl rfl (by simp [Value.oneCell']) size71 ((zA HD5).there 0 rfl 2 rfl) ?_;intro W6 hW;have q1:=(zA HD5).give 0 rfl [.slice T5 (zU Z).length tc5,.slice G5 Z.gens.length gc5] rfl;have q3:=zM (wk.heap.size+0) (by have:=zA HZ0;omega) [.slice T5 (zU Z).length tc5,.slice G5 Z.gens.length gc5] 0 _ (zA HL5);have q5:=(zA HN5).putc (b:=wk.heap.size+0) (o:=0) (vs:=[.slice T5 (zU Z).length tc5,.slice G5 Z.gens.length gc5]) (by omega);rw [←hW] at q1 q3 q5;have HD6:=zB q1;have HL6:=zB q3;have HN6:=zB q5;clear hW q1 q3 q5;have hC:=(zA HC9).below (zA HL6);have hB:=(zA HB9).below (zA HL6);have a0:=hC.cell 0 rfl 0 rfl;have a1:=hC.cell 0 rfl 1 rfl;rw [Nat.add_zero] at a0 a1;have b0:=hB.cell 2 rfl 0 rfl;have b1:=hB.cell 2 rfl 1 rfl;clear hC hB))
        go_at_call 45
        refine (zA HPC _ ((zA HV9).below (zA HL6))).mono ?_
        rintro e w8 ⟨A8,c8,G8,gc8,rfl,hY8,hb8⟩
        have HD8:=zB ((zA HD6).below hb8)
        have HL8:=zB ((zA HL6).trans (hb8.mono (zA HL6).size))
        have HN8:=zB ((zA HN6).below hb8)
        have HZ8:Hid (wk.heap.size+4≤W6.heap.size):=zB (by have:=(zA HD6).sz (by simp);simpa using this)
        have HY8:=zB hY8
        clear hY8 hb8 a0 a1 b0 b1
        go_wp2_with (first
         | (refine zG rfl 38 (.tmp 24) (.tmp 191) rfl (wk.heap.size+1) 0 [.slice A8 Z.rows.length c8,.slice G8 Z.gens.length gc8] rfl rfl (by simp [Value.oneCell']) size38 ((zA HD8).there 1 rfl 2 rfl) ?_;intro W9b hW;have q1:=(zA HD8).give 1 rfl [.slice A8 Z.rows.length c8,.slice G8 Z.gens.length gc8] rfl;have q3:=zM (wk.heap.size+1) (by have:=zA HZ0;omega) [.slice A8 Z.rows.length c8,.slice G8 Z.gens.length gc8] 0 _ (zA HL8);have q5:=(zA HN8).putc (b:=wk.heap.size+1) (o:=0) (vs:=[.slice A8 Z.rows.length c8,.slice G8 Z.gens.length gc8]) (by omega);have q6:=(zA HY8).sets (zA HGZ) (b:=wk.heap.size+1) (o:=0) (vs:=[.slice A8 Z.rows.length c8,.slice G8 Z.gens.length gc8]) (by have:=zA HZ8;omega) (by have:=zA HZ0;omega);rw [←hW] at q1 q3 q5 q6;have HD9b:=zB q1;have HL9b:=zB q3;have HN9b:=zB q5;have HY9b:=zB q6;clear hW q1 q3 q5 q6))
        go_meet
        case rel=>exact ⟨rfl,Z,err,0,0,T5,tc5,G5,gc5,A8,c8,G8,gc8,rfl,rfl,zA HNO,zA HD9b,zA HL9b,(zA HN9b).st,(zA HY9b).toWldAt⟩
       ·have hSC:=fun W (h:StAt W T G tabs Y)=>sdrop_any T tcap G gcap tabs Y i g p W h
        have hPC:=fun W (h:WldAt W AV cv G gcap Y)=>rdrop_any AV cv G gcap Y i g p W (by omega) h
        have hNO:(zAU Y i g p).1≠0→(zU ((zAU Y i g p).2)).length=0∧((zAU Y i g p).2).gens.length=0:=fun e=>none_of (ch_no e)
        have hGN:((zAU Y i g p).2).gens≠[]→∀ c o,G=some ⟨c,o,none⟩→c<W9.heap.size:=zA HGN _ (ch_gens Y i g _)
        obtain ⟨Z,hZ⟩:∃ Z,Z=(zAU Y i g p).2:=⟨_,rfl⟩
        obtain ⟨err,herr⟩:∃ err,err=(zAU Y i g p).1:=⟨_,rfl⟩
        rw [←hZ,←herr] at hSC hPC hNO
        rw [←hZ] at hGN
        unfold stV zW at hSC
        unfold zAA zQ zW at hPC
        rw [←zA HLN] at hSC
        have HSC:=zB hSC
        have HPC:=zB hPC
        have HNO:=zB hNO
        have HGZ:=zB hGN
        clear hSC hPC hNO hZ herr hGN
        have hB4:=(zA HB9).below (zA HL4)
        have s0:=hB4.cell 0 rfl 0 rfl
        have s1:=hB4.cell 0 rfl 1 rfl
        rw [Nat.add_zero] at s0 s1
        have b0:=hB4.cell 2 rfl 0 rfl
        have b1:=hB4.cell 2 rfl 1 rfl
        clear hB4
        go_wp2_with fail
        go_at_call 65
        refine (zA HSC _ ((zA HA9).below (zA HL4))).mono ?_
        rintro e w5 ⟨T5,tc5,G5,gc5,rfl,hN5,hb5⟩
        have HD5:=zB ((zA HD4).below hb5)
        have HL5:=zB ((zA HL4).trans (hb5.mono (zA HL4).size))
        have HN5:=zB (hN5.le (base':=wk.heap.size+4) (zA HZ4))
        clear hN5 hb5 s0 s1 b0 b1
        go_wp2_with (first
         | (refine zG rfl 71 (.tmp 23) (.tmp 134) rfl (wk.heap.size+0) 0 [.slice T5 (zU Z).length tc5,.slice G5 Z.gens.length gc5] rfl rfl (by simp [Value.oneCell']) size71 ((zA HD5).there 0 rfl 2 rfl) ?_;intro W6 hW;have q1:=(zA HD5).give 0 rfl [.slice T5 (zU Z).length tc5,.slice G5 Z.gens.length gc5] rfl;have q3:=zM (wk.heap.size+0) (by have:=zA HZ0;omega) [.slice T5 (zU Z).length tc5,.slice G5 Z.gens.length gc5] 0 _ (zA HL5);have q5:=(zA HN5).putc (b:=wk.heap.size+0) (o:=0) (vs:=[.slice T5 (zU Z).length tc5,.slice G5 Z.gens.length gc5]) (by omega);rw [←hW] at q1 q3 q5;have HD6:=zB q1;have HL6:=zB q3;have HN6:=zB q5;clear hW q1 q3 q5;have hC:=(zA HC9).below (zA HL6);have hB:=(zA HB9).below (zA HL6);have a0:=hC.cell 0 rfl 0 rfl;have a1:=hC.cell 0 rfl 1 rfl;rw [Nat.add_zero] at a0 a1;have b0:=hB.cell 2 rfl 0 rfl;have b1:=hB.cell 2 rfl 1 rfl;clear hC hB))
        go_at_call 47
        refine (zA HPC _ ((zA HV9).below (zA HL6))).mono ?_
        rintro e w8 ⟨A8,c8,G8,gc8,rfl,hY8,hb8⟩
        have HD8:=zB ((zA HD6).below hb8)
        have HL8:=zB ((zA HL6).trans (hb8.mono (zA HL6).size))
        have HN8:=zB ((zA HN6).below hb8)
        have HZ8:Hid (wk.heap.size+4≤W6.heap.size):=zB (by have:=(zA HD6).sz (by simp);simpa using this)
        have HY8:=zB hY8
        clear hY8 hb8 a0 a1 b0 b1
        go_wp2_with (first
         | (refine zG rfl 38 (.tmp 24) (.tmp 141) rfl (wk.heap.size+1) 0 [.slice A8 Z.rows.length c8,.slice G8 Z.gens.length gc8] rfl rfl (by simp [Value.oneCell']) size38 ((zA HD8).there 1 rfl 2 rfl) ?_;intro W9b hW;have q1:=(zA HD8).give 1 rfl [.slice A8 Z.rows.length c8,.slice G8 Z.gens.length gc8] rfl;have q3:=zM (wk.heap.size+1) (by have:=zA HZ0;omega) [.slice A8 Z.rows.length c8,.slice G8 Z.gens.length gc8] 0 _ (zA HL8);have q5:=(zA HN8).putc (b:=wk.heap.size+1) (o:=0) (vs:=[.slice A8 Z.rows.length c8,.slice G8 Z.gens.length gc8]) (by omega);have q6:=(zA HY8).sets (zA HGZ) (b:=wk.heap.size+1) (o:=0) (vs:=[.slice A8 Z.rows.length c8,.slice G8 Z.gens.length gc8]) (by have:=zA HZ8;omega) (by have:=zA HZ0;omega);rw [←hW] at q1 q3 q5 q6;have HD9b:=zB q1;have HL9b:=zB q3;have HN9b:=zB q5;have HY9b:=zB q6;clear hW q1 q3 q5 q6))
        go_meet
        case rel=>exact ⟨rfl,Z,err,0,0,T5,tc5,G5,gc5,A8,c8,G8,gc8,rfl,rfl,zA HNO,zA HD9b,zA HL9b,(zA HN9b).st,(zA HY9b).toWldAt⟩
      case rest =>
       obtain ⟨rfl,Z,err,ci,cg,T5,tc5,G5,gc5,A8,c8,G8,gc8,rfl,rfl,hNO,hBQ,hLQ,hSQ,hYQ⟩:=hcut
       obtain ⟨Wq,rfl⟩:∃ Wq,Wq=wc:=⟨_,rfl⟩
       have HBQ:=zB hBQ
       have HLQ:=zB hLQ
       have HSQ:=zB hSQ
       have HYQ:=zB hYQ
       have HK3:=zB hk3
       clear hBQ hLQ hSQ hYQ HD4 HL4 hk3
       go_upto_region 31 with fail
       by_cases he0:err=0
       ·subst he0
        have h0:(fun (γ:Value) L W=>Below Wq.heap.size Wq W∧(L 14=true→∃ T' c',γ=.agg #[.slice T' (zU Z).length c',.slice G8 Z.gens.length gc8]∧StAt W T' G8 (zU Z) Z)) undef (fun _=>false) Wq.drew:=⟨(Below.refl _ _).drew,fun e=>by cases e⟩
        refine zc (fun (γ:Value) ix v=>if ix=14 then v=γ else (([fun v=>v=.int .i64 0,fun v=>v=.int .i64 0,fun v=>v=.bool false,fun v=>v=.bool false,fun v=>v=.agg #[.int .i64 ci,.int .i64 cg],fun v=>v=.agg #[.int .i64 ci,.int .i64 cg],fun v=>v=.bool false,fun v=>v=.bool false,fun v=>v=.bool false,fun v=>v=.int .i64 0,fun v=>v=.bool true,fun v=>v=.bool true,fun v=>v=.agg #[.slice T5 (zU Z).length tc5,.slice G5 Z.gens.length gc5],fun v=>v=.agg #[.slice A8 Z.rows.length c8,.slice G8 Z.gens.length gc8],fun _=>True,fun v=>v=.bool true,fun v=>v=.bool false,fun v=>v=.bool false,fun v=>v=.bool false,fun v=>v=.bool false,fun v=>v=.int .i64 0,fun v=>v=.bool false,fun v=>v=.bool false,fun v=>v=undef,fun v=>v=undef,fun v=>v=undef,fun v=>v=undef,fun v=>v=.bool false,fun v=>v=.bool false]:List (Value→Prop)).getD ix (fun _=>True)) v) (fun (γ:Value) L W=>Below Wq.heap.size Wq W∧(L 14=true→∃ T' c',γ=.agg #[.slice T' (zU Z).length c',.slice G8 Z.gens.length gc8]∧StAt W T' G8 (zU Z) Z)) (undef) (by kernel_rfl) (by kernel_rfl) (by kernel_rfl) h0 ?hstep ?hend
        case hstep =>
         intro γ ix o ho L ac w1 hD hL hed hcl hout hv
         match ix,ho with
         | 0,ho =>
          simp at ho
          subst ho
          have e27:ac.tmps.getD 27 undef=.int .i64 0:=hout 27 (by decide +kernel)
          exact .inl ⟨rfl,zC γ (.int .i64 0) (by simp [go_sem,Act.eval,-Array.getD_eq_getD_getElem?,e27]) rfl (⟨hD.1,by rw [zJ (by decide)];exact hD.2⟩) (fun _ _ _ _ h=>h)⟩
         | 1,ho =>
          simp at ho
          subst ho
          have e28:ac.tmps.getD 28 undef=.int .i64 0:=hout 28 (by decide +kernel)
          exact .inl ⟨rfl,zC γ (.int .i64 0) (by simp [go_sem,Act.eval,-Array.getD_eq_getD_getElem?,e28]) rfl (⟨hD.1,by rw [zJ (by decide)];exact hD.2⟩) (fun _ _ _ _ h=>h)⟩
         | 2,ho =>
          simp at ho
          subst ho
          have e193:ac.tmps.getD 193 undef=.int .i64 0:=hv 0 193 rfl (by kernel_rfl)
          have e194:ac.tmps.getD 194 undef=.int .i64 0:=hv 1 194 rfl (by kernel_rfl)
          exact .inl ⟨rfl,zC γ (.bool false) (by simp [go_sem,Act.eval,-Array.getD_eq_getD_getElem?,e193,e194]) rfl (⟨hD.1,by rw [zJ (by decide)];exact hD.2⟩) (fun _ _ _ _ h=>h)⟩
         | 3,ho =>
          simp at ho
          subst ho
          have e195:ac.tmps.getD 195 undef=.bool false:=hv 2 195 rfl (by kernel_rfl)
          exact .inl ⟨rfl,zC γ (.bool false) (by simp [go_sem,Act.eval,-Array.getD_eq_getD_getElem?,e195]) rfl (⟨hD.1,by rw [zJ (by decide)];exact hD.2⟩) (fun _ _ _ _ h=>h)⟩
         | 4,ho =>
          simp at ho
          subst ho
          have eg:ac.tmps.getD 196 undef=.bool false:=hv 3 196 rfl (by kernel_rfl)
          have e25:ac.tmps.getD 25 undef=.pointer (some ⟨wk.heap.size+2,0,none⟩):=hout 25 (by decide +kernel)
          have bb:=(zA HBQ).below hD.1
          have c0:=bb.cell 2 rfl 0 rfl
          have c1:=bb.cell 2 rfl 1 rfl
          exact .inl ⟨zH rfl rfl eg,zC γ (.agg #[.int .i64 ci,.int .i64 cg]) (by simp [go_sem,Act.eval,-Array.getD_eq_getD_getElem?,e25,c0,c1]) rfl (⟨hD.1,by rw [zJ (by decide)];exact hD.2⟩) (fun _ _ _ _ h=>h)⟩
         | 5,ho =>
          simp at ho
          subst ho
          have eg:ac.tmps.getD 196 undef=.bool false:=hv 3 196 rfl (by kernel_rfl)
          have e26:ac.tmps.getD 26 undef=.pointer (some ⟨wk.heap.size+3,0,none⟩):=hout 26 (by decide +kernel)
          have bb:=(zA HBQ).below hD.1
          have c0:=bb.cell 3 rfl 0 rfl
          have c1:=bb.cell 3 rfl 1 rfl
          exact .inl ⟨zH rfl rfl eg,zC γ (.agg #[.int .i64 ci,.int .i64 cg]) (by simp [go_sem,Act.eval,-Array.getD_eq_getD_getElem?,e26,c0,c1]) rfl (⟨hD.1,by rw [zJ (by decide)];exact hD.2⟩) (fun _ _ _ _ h=>h)⟩
         | 6,ho =>
          simp at ho
          subst ho
          have eg:ac.tmps.getD 196 undef=.bool false:=hv 3 196 rfl (by kernel_rfl)
          have e197:ac.tmps.getD 197 undef=.agg #[.int .i64 ci,.int .i64 cg]:=hv 4 197 rfl (by kernel_rfl)
          have e198:ac.tmps.getD 198 undef=.agg #[.int .i64 ci,.int .i64 cg]:=hv 5 198 rfl (by kernel_rfl)
          exact .inl ⟨zH rfl rfl eg,zC γ (.bool false) (by simp [go_sem,Act.eval,-Array.getD_eq_getD_getElem?,e197,e198]) rfl (⟨hD.1,by rw [zJ (by decide)];exact hD.2⟩) (fun _ _ _ _ h=>h)⟩
         | 7,ho =>
          simp at ho
          subst ho
          have e196:ac.tmps.getD 196 undef=.bool false:=hv 3 196 rfl (by kernel_rfl)
          have e199:ac.tmps.getD 199 undef=.bool false:=hv 6 199 rfl (by kernel_rfl)
          exact .inl ⟨rfl,zC γ (.bool false) (by simp [go_sem,Act.eval,-Array.getD_eq_getD_getElem?,e196,e199]) rfl (⟨hD.1,by rw [zJ (by decide)];exact hD.2⟩) (fun _ _ _ _ h=>h)⟩
         | 8,ho =>
          simp at ho
          subst ho
          have e200:ac.tmps.getD 200 undef=.bool false:=hv 7 200 rfl (by kernel_rfl)
          exact .inl ⟨rfl,zC γ (.bool false) (by simp [go_sem,Act.eval,-Array.getD_eq_getD_getElem?,e200]) rfl (⟨hD.1,by rw [zJ (by decide)];exact hD.2⟩) (fun _ _ _ _ h=>h)⟩
         | 9,ho =>
          simp at ho
          subst ho
          have eg:ac.tmps.getD 201 undef=.bool false:=hv 8 201 rfl (by kernel_rfl)
          have e27:ac.tmps.getD 27 undef=.int .i64 0:=hout 27 (by decide +kernel)
          exact .inl ⟨zH rfl rfl eg,zC γ (.int .i64 0) (by simp [go_sem,Act.eval,-Array.getD_eq_getD_getElem?,e27]) rfl (⟨hD.1,by rw [zJ (by decide)];exact hD.2⟩) (fun _ _ _ _ h=>h)⟩
         | 10,ho =>
          simp at ho
          subst ho
          have eg:ac.tmps.getD 201 undef=.bool false:=hv 8 201 rfl (by kernel_rfl)
          have e202:ac.tmps.getD 202 undef=.int .i64 0:=hv 9 202 rfl (by kernel_rfl)
          exact .inl ⟨zH rfl rfl eg,zC γ (.bool true) (by simp [go_sem,Act.eval,-Array.getD_eq_getD_getElem?,e202]) rfl (⟨hD.1,by rw [zJ (by decide)];exact hD.2⟩) (fun _ _ _ _ h=>h)⟩
         | 11,ho =>
          simp at ho
          subst ho
          have eg:ac.tmps.getD 201 undef=.bool false:=hv 8 201 rfl (by kernel_rfl)
          have e203:ac.tmps.getD 203 undef=.bool true:=hv 10 203 rfl (by kernel_rfl)
          exact .inl ⟨zH rfl rfl eg,zC γ (.bool true) (by simp [go_sem,Act.eval,-Array.getD_eq_getD_getElem?,e203]) rfl (⟨hD.1,by rw [zJ (by decide)];exact hD.2⟩) (fun _ _ _ _ h=>h)⟩
         | 12,ho =>
          simp at ho
          subst ho
          have eg:ac.tmps.getD 204 undef=.bool true:=hv 11 204 rfl (by kernel_rfl)
          have e23:ac.tmps.getD 23 undef=.pointer (some ⟨wk.heap.size,0,none⟩):=hout 23 (by decide +kernel)
          have bb:=(zA HBQ).below hD.1
          have c0:=bb.cell 0 rfl 0 rfl
          have c1:=bb.cell 0 rfl 1 rfl
          rw [Nat.add_zero] at c0 c1
          exact .inl ⟨zH rfl rfl eg,zC γ (.agg #[.slice T5 (zU Z).length tc5,.slice G5 Z.gens.length gc5]) (by simp [go_sem,Act.eval,-Array.getD_eq_getD_getElem?,e23,c0,c1]) rfl (⟨hD.1,by rw [zJ (by decide)];exact hD.2⟩) (fun _ _ _ _ h=>h)⟩
         | 13,ho =>
          simp at ho
          subst ho
          have eg:ac.tmps.getD 204 undef=.bool true:=hv 11 204 rfl (by kernel_rfl)
          have e24:ac.tmps.getD 24 undef=.pointer (some ⟨wk.heap.size+1,0,none⟩):=hout 24 (by decide +kernel)
          have bb:=(zA HBQ).below hD.1
          have c0:=bb.cell 1 rfl 0 rfl
          have c1:=bb.cell 1 rfl 1 rfl
          exact .inl ⟨zH rfl rfl eg,zC γ (.agg #[.slice A8 Z.rows.length c8,.slice G8 Z.gens.length gc8]) (by simp [go_sem,Act.eval,-Array.getD_eq_getD_getElem?,e24,c0,c1]) rfl (⟨hD.1,by rw [zJ (by decide)];exact hD.2⟩) (fun _ _ _ _ h=>h)⟩
         | 14,ho =>
          simp at ho
          subst ho
          have eg:ac.tmps.getD 204 undef=.bool true:=hv 11 204 rfl (by kernel_rfl)
          have e206:ac.tmps.getD 206 undef=.agg #[.slice A8 Z.rows.length c8,.slice G8 Z.gens.length gc8]:=hv 13 206 rfl (by kernel_rfl)
          refine .inl ⟨zH rfl rfl eg,zj 61 #[.agg #[.slice A8 Z.rows.length c8,.slice G8 Z.gens.length gc8]] (by simp [go_sem,Act.eval,-Array.getD_eq_getD_getElem?,e206]) ?_⟩
          refine (rof_any A8 c8 G8 gc8 Z w1 ((zA HYQ).below hD.1) (zA HSQ).right).mono ?_
          rintro e w6 ⟨T6,c6,rfl,hx6,hb6⟩
          exact ⟨_,.agg #[.slice T6 (zU Z).length c6,.slice G8 Z.gens.length gc8],rfl,rfl,⟨hD.1.trans (hb6.mono hD.1.size),fun _=>⟨T6,c6,rfl,hx6⟩⟩,fun j u hj hLj h=>by simpa [hj] using h⟩
         | 15,ho =>
          simp at ho
          subst ho
          have eg:ac.tmps.getD 204 undef=.bool true:=hv 11 204 rfl (by kernel_rfl)
          have e205:ac.tmps.getD 205 undef=.agg #[.slice T5 (zU Z).length tc5,.slice G5 Z.gens.length gc5]:=hv 12 205 rfl (by kernel_rfl)
          have e207:ac.tmps.getD 207 undef=γ:=hv 14 207 rfl (by kernel_rfl)
          obtain ⟨T1,c1,hγ,hx1⟩:=hD.2 (hed 14 (by kernel_rfl))
          rw [hγ] at e207
          refine .inl ⟨zH rfl rfl eg,zj 56 #[.agg #[.slice T5 (zU Z).length tc5,.slice G5 Z.gens.length gc5],.agg #[.slice T1 (zU Z).length c1,.slice G8 Z.gens.length gc8]] (by simp [go_sem,Act.eval,-Array.getD_eq_getD_getElem?,e205,e207]) ?_⟩
          refine (same_st w1 T5 tc5 G5 gc5 T1 c1 G8 gc8 ((zA HSQ).below hD.1) hx1).mono ?_
          rintro e w6 ⟨rfl,hb6⟩
          exact ⟨_,γ,rfl,rfl,⟨hD.1.trans (hb6.mono hD.1.size),fun e=>(by obtain ⟨a,b,x,y⟩:=hD.2 (by rwa [zJ (by decide)] at e);exact ⟨a,b,x,y.below hb6⟩)⟩,fun _ _ _ _ h=>h⟩
         | 16,ho =>
          simp at ho
          subst ho
          have eg:ac.tmps.getD 204 undef=.bool true:=hv 11 204 rfl (by kernel_rfl)
          have e208:ac.tmps.getD 208 undef=.bool true:=hv 15 208 rfl (by kernel_rfl)
          exact .inl ⟨zH rfl rfl eg,zC γ (.bool false) (by simp [go_sem,Act.eval,-Array.getD_eq_getD_getElem?,e208]) rfl (⟨hD.1,by rw [zJ (by decide)];exact hD.2⟩) (fun _ _ _ _ h=>h)⟩
         | 17,ho =>
          simp at ho
          subst ho
          have eg:ac.tmps.getD 201 undef=.bool false:=hv 8 201 rfl (by kernel_rfl)
          have e204:ac.tmps.getD 204 undef=.bool true:=hv 11 204 rfl (by kernel_rfl)
          have e209:ac.tmps.getD 209 undef=.bool false:=hv 16 209 rfl (by kernel_rfl)
          exact .inl ⟨zH rfl rfl eg,zC γ (.bool false) (by simp [go_sem,Act.eval,-Array.getD_eq_getD_getElem?,e204,e209]) rfl (⟨hD.1,by rw [zJ (by decide)];exact hD.2⟩) (fun _ _ _ _ h=>h)⟩
         | 18,ho =>
          simp at ho
          subst ho
          have e201:ac.tmps.getD 201 undef=.bool false:=hv 8 201 rfl (by kernel_rfl)
          have e210:ac.tmps.getD 210 undef=.bool false:=hv 17 210 rfl (by kernel_rfl)
          exact .inl ⟨rfl,zC γ (.bool false) (by simp [go_sem,Act.eval,-Array.getD_eq_getD_getElem?,e201,e210]) rfl (⟨hD.1,by rw [zJ (by decide)];exact hD.2⟩) (fun _ _ _ _ h=>h)⟩
         | 19,ho =>
          simp at ho
          subst ho
          have e211:ac.tmps.getD 211 undef=.bool false:=hv 18 211 rfl (by kernel_rfl)
          exact .inl ⟨rfl,zC γ (.bool false) (by simp [go_sem,Act.eval,-Array.getD_eq_getD_getElem?,e211]) rfl (⟨hD.1,by rw [zJ (by decide)];exact hD.2⟩) (fun _ _ _ _ h=>h)⟩
         | 20,ho =>
          simp at ho
          subst ho
          have eg:ac.tmps.getD 212 undef=.bool false:=hv 19 212 rfl (by kernel_rfl)
          have e27:ac.tmps.getD 27 undef=.int .i64 0:=hout 27 (by decide +kernel)
          exact .inl ⟨zH rfl rfl eg,zC γ (.int .i64 0) (by simp [go_sem,Act.eval,-Array.getD_eq_getD_getElem?,e27]) rfl (⟨hD.1,by rw [zJ (by decide)];exact hD.2⟩) (fun _ _ _ _ h=>h)⟩
         | 21,ho =>
          simp at ho
          subst ho
          have eg:ac.tmps.getD 212 undef=.bool false:=hv 19 212 rfl (by kernel_rfl)
          have e213:ac.tmps.getD 213 undef=.int .i64 0:=hv 20 213 rfl (by kernel_rfl)
          exact .inl ⟨zH rfl rfl eg,zC γ (.bool false) (by simp [go_sem,Act.eval,-Array.getD_eq_getD_getElem?,e213]) rfl (⟨hD.1,by rw [zJ (by decide)];exact hD.2⟩) (fun _ _ _ _ h=>h)⟩
         | 22,ho =>
          simp at ho
          subst ho
          have eg:ac.tmps.getD 212 undef=.bool false:=hv 19 212 rfl (by kernel_rfl)
          have e214:ac.tmps.getD 214 undef=.bool false:=hv 21 214 rfl (by kernel_rfl)
          exact .inl ⟨zH rfl rfl eg,zC γ (.bool false) (by simp [go_sem,Act.eval,-Array.getD_eq_getD_getElem?,e214]) rfl (⟨hD.1,by rw [zJ (by decide)];exact hD.2⟩) (fun _ _ _ _ h=>h)⟩
         | 23,ho =>
          simp at ho
          subst ho
          have eg:ac.tmps.getD 215 undef=.bool !true:=hv 22 215 rfl (by kernel_rfl)
          exact .inr ⟨zP rfl rfl eg,rfl,⟨hD.1,by rw [zJ (by decide)];exact hD.2⟩⟩
         | 24,ho =>
          simp at ho
          subst ho
          have eg:ac.tmps.getD 215 undef=.bool !true:=hv 22 215 rfl (by kernel_rfl)
          exact .inr ⟨zP rfl rfl eg,rfl,⟨hD.1,by rw [zJ (by decide)];exact hD.2⟩⟩
         | 25,ho =>
          simp at ho
          subst ho
          have eg:ac.tmps.getD 215 undef=.bool !true:=hv 22 215 rfl (by kernel_rfl)
          exact .inr ⟨zP rfl rfl eg,rfl,⟨hD.1,by rw [zJ (by decide)];exact hD.2⟩⟩
         | 26,ho =>
          simp at ho
          subst ho
          have eg:ac.tmps.getD 215 undef=.bool !true:=hv 22 215 rfl (by kernel_rfl)
          exact .inr ⟨zP rfl rfl eg,rfl,⟨hD.1,by rw [zJ (by decide)];exact hD.2⟩⟩
         | 27,ho =>
          simp at ho
          subst ho
          have eg:ac.tmps.getD 212 undef=.bool false:=hv 19 212 rfl (by kernel_rfl)
          have e215:ac.tmps.getD 215 undef=.bool false:=hv 22 215 rfl (by kernel_rfl)
          exact .inl ⟨zH rfl rfl eg,zC γ (.bool false) (by simp [go_sem,Act.eval,-Array.getD_eq_getD_getElem?,e215]) rfl (⟨hD.1,by rw [zJ (by decide)];exact hD.2⟩) (fun _ _ _ _ h=>h)⟩
         | 28,ho =>
          simp at ho
          subst ho
          have e212:ac.tmps.getD 212 undef=.bool false:=hv 19 212 rfl (by kernel_rfl)
          have e220:ac.tmps.getD 220 undef=.bool false:=hv 27 220 rfl (by kernel_rfl)
          exact .inl ⟨rfl,zC γ (.bool false) (by simp [go_sem,Act.eval,-Array.getD_eq_getD_getElem?,e212,e220]) rfl (⟨hD.1,by rw [zJ (by decide)];exact hD.2⟩) (fun _ _ _ _ h=>h)⟩
         | ix+29,ho=>simp at ho
        case hend =>
         intro γ v L w11 hD hall hv
         have v28:v 28=.bool false:=hv 28 221 rfl
         have HE:=zB ((zA HLQ).trans (hD.1.mono (zA HLQ).size))
         clear hv hall hD h0
         simp only [zt,List.getElem?_cons_zero,List.getElem?_cons_succ,Option.bind_some,List.length_cons,List.length_nil,Nat.reduceAdd,v28]
         clear v28
         go_frame
         go_wp2
         go_roundw
         case rel=>exact ⟨k+1,by have:=zA HK3;omega,rfl,zA HE⟩
         case measure=>have:=zA HK3;simp [intOf];omega
       ·obtain ⟨hz1,hz2⟩:=hNO he0
        have h0:(fun (γ:Value) (L:Nat→Bool) W=>Below Wq.heap.size Wq W∧True) undef (fun _=>false) Wq.drew:=⟨(Below.refl _ _).drew,trivial⟩
        refine zc (fun (γ:Value) ix v=>(([fun v=>v=.int .i64 err,fun v=>v=.int .i64 err,fun v=>v=.bool false,fun v=>v=.bool false,fun v=>v=.agg #[.int .i64 ci,.int .i64 cg],fun v=>v=.agg #[.int .i64 ci,.int .i64 cg],fun v=>v=.bool false,fun v=>v=.bool false,fun v=>v=.bool false,fun v=>v=.int .i64 err,fun v=>v=.bool false,fun v=>v=.bool false,fun v=>v=undef,fun v=>v=undef,fun v=>v=undef,fun v=>v=undef,fun v=>v=undef,fun v=>v=.bool false,fun v=>v=.bool false,fun v=>v=.bool false,fun v=>v=.int .i64 err,fun v=>v=.bool true,fun v=>v=.bool true,fun v=>v=.agg #[.slice T5 0 tc5,.slice G5 0 gc5],fun v=>v=.agg #[.slice none 0 0,.slice none 0 0],fun v=>v=.bool true,fun v=>v=.bool false,fun v=>v=.bool false,fun v=>v=.bool false]:List (Value→Prop)).getD ix (fun _=>True)) v) (fun (γ:Value) (L:Nat→Bool) W=>Below Wq.heap.size Wq W∧True) (undef) (by kernel_rfl) (by kernel_rfl) (by kernel_rfl) h0 ?hstep ?hend
        case hstep =>
         intro γ ix o ho L ac w1 hD hL hed hcl hout hv
         match ix,ho with
         | 0,ho =>
          simp at ho
          subst ho
          have e27:ac.tmps.getD 27 undef=.int .i64 err:=hout 27 (by decide +kernel)
          exact .inl ⟨rfl,zC γ (.int .i64 err) (by simp [go_sem,Act.eval,-Array.getD_eq_getD_getElem?,e27]) rfl (⟨hD.1,trivial⟩) (fun _ _ _ _ h=>h)⟩
         | 1,ho =>
          simp at ho
          subst ho
          have e28:ac.tmps.getD 28 undef=.int .i64 err:=hout 28 (by decide +kernel)
          exact .inl ⟨rfl,zC γ (.int .i64 err) (by simp [go_sem,Act.eval,-Array.getD_eq_getD_getElem?,e28]) rfl (⟨hD.1,trivial⟩) (fun _ _ _ _ h=>h)⟩
         | 2,ho =>
          simp at ho
          subst ho
          have e193:ac.tmps.getD 193 undef=.int .i64 err:=hv 0 193 rfl (by kernel_rfl)
          have e194:ac.tmps.getD 194 undef=.int .i64 err:=hv 1 194 rfl (by kernel_rfl)
          exact .inl ⟨rfl,zC γ (.bool false) (by simp [go_sem,Act.eval,-Array.getD_eq_getD_getElem?,e193,e194]) rfl (⟨hD.1,trivial⟩) (fun _ _ _ _ h=>h)⟩
         | 3,ho =>
          simp at ho
          subst ho
          have e195:ac.tmps.getD 195 undef=.bool false:=hv 2 195 rfl (by kernel_rfl)
          exact .inl ⟨rfl,zC γ (.bool false) (by simp [go_sem,Act.eval,-Array.getD_eq_getD_getElem?,e195]) rfl (⟨hD.1,trivial⟩) (fun _ _ _ _ h=>h)⟩
         | 4,ho =>
          simp at ho
          subst ho
          have eg:ac.tmps.getD 196 undef=.bool false:=hv 3 196 rfl (by kernel_rfl)
          have e25:ac.tmps.getD 25 undef=.pointer (some ⟨wk.heap.size+2,0,none⟩):=hout 25 (by decide +kernel)
          have bb:=(zA HBQ).below hD.1
          have c0:=bb.cell 2 rfl 0 rfl
          have c1:=bb.cell 2 rfl 1 rfl
          exact .inl ⟨zH rfl rfl eg,zC γ (.agg #[.int .i64 ci,.int .i64 cg]) (by simp [go_sem,Act.eval,-Array.getD_eq_getD_getElem?,e25,c0,c1]) rfl (⟨hD.1,trivial⟩) (fun _ _ _ _ h=>h)⟩
         | 5,ho =>
          simp at ho
          subst ho
          have eg:ac.tmps.getD 196 undef=.bool false:=hv 3 196 rfl (by kernel_rfl)
          have e26:ac.tmps.getD 26 undef=.pointer (some ⟨wk.heap.size+3,0,none⟩):=hout 26 (by decide +kernel)
          have bb:=(zA HBQ).below hD.1
          have c0:=bb.cell 3 rfl 0 rfl
          have c1:=bb.cell 3 rfl 1 rfl
          exact .inl ⟨zH rfl rfl eg,zC γ (.agg #[.int .i64 ci,.int .i64 cg]) (by simp [go_sem,Act.eval,-Array.getD_eq_getD_getElem?,e26,c0,c1]) rfl (⟨hD.1,trivial⟩) (fun _ _ _ _ h=>h)⟩
         | 6,ho =>
          simp at ho
          subst ho
          have eg:ac.tmps.getD 196 undef=.bool false:=hv 3 196 rfl (by kernel_rfl)
          have e197:ac.tmps.getD 197 undef=.agg #[.int .i64 ci,.int .i64 cg]:=hv 4 197 rfl (by kernel_rfl)
          have e198:ac.tmps.getD 198 undef=.agg #[.int .i64 ci,.int .i64 cg]:=hv 5 198 rfl (by kernel_rfl)
          exact .inl ⟨zH rfl rfl eg,zC γ (.bool false) (by simp [go_sem,Act.eval,-Array.getD_eq_getD_getElem?,e197,e198]) rfl (⟨hD.1,trivial⟩) (fun _ _ _ _ h=>h)⟩
         | 7,ho =>
          simp at ho
          subst ho
          have e196:ac.tmps.getD 196 undef=.bool false:=hv 3 196 rfl (by kernel_rfl)
          have e199:ac.tmps.getD 199 undef=.bool false:=hv 6 199 rfl (by kernel_rfl)
          exact .inl ⟨rfl,zC γ (.bool false) (by simp [go_sem,Act.eval,-Array.getD_eq_getD_getElem?,e196,e199]) rfl (⟨hD.1,trivial⟩) (fun _ _ _ _ h=>h)⟩
         | 8,ho =>
          simp at ho
          subst ho
          have e200:ac.tmps.getD 200 undef=.bool false:=hv 7 200 rfl (by kernel_rfl)
          exact .inl ⟨rfl,zC γ (.bool false) (by simp [go_sem,Act.eval,-Array.getD_eq_getD_getElem?,e200]) rfl (⟨hD.1,trivial⟩) (fun _ _ _ _ h=>h)⟩
         | 9,ho =>
          simp at ho
          subst ho
          have eg:ac.tmps.getD 201 undef=.bool false:=hv 8 201 rfl (by kernel_rfl)
          have e27:ac.tmps.getD 27 undef=.int .i64 err:=hout 27 (by decide +kernel)
          exact .inl ⟨zH rfl rfl eg,zC γ (.int .i64 err) (by simp [go_sem,Act.eval,-Array.getD_eq_getD_getElem?,e27]) rfl (⟨hD.1,trivial⟩) (fun _ _ _ _ h=>h)⟩
         | 10,ho =>
          simp at ho
          subst ho
          have eg:ac.tmps.getD 201 undef=.bool false:=hv 8 201 rfl (by kernel_rfl)
          have e202:ac.tmps.getD 202 undef=.int .i64 err:=hv 9 202 rfl (by kernel_rfl)
          exact .inl ⟨zH rfl rfl eg,zC γ (.bool false) (by simp [go_sem,Act.eval,-Array.getD_eq_getD_getElem?,e202,he0]) rfl (⟨hD.1,trivial⟩) (fun _ _ _ _ h=>h)⟩
         | 11,ho =>
          simp at ho
          subst ho
          have eg:ac.tmps.getD 201 undef=.bool false:=hv 8 201 rfl (by kernel_rfl)
          have e203:ac.tmps.getD 203 undef=.bool false:=hv 10 203 rfl (by kernel_rfl)
          exact .inl ⟨zH rfl rfl eg,zC γ (.bool false) (by simp [go_sem,Act.eval,-Array.getD_eq_getD_getElem?,e203]) rfl (⟨hD.1,trivial⟩) (fun _ _ _ _ h=>h)⟩
         | 12,ho =>
          simp at ho
          subst ho
          have eg:ac.tmps.getD 204 undef=.bool !true:=hv 11 204 rfl (by kernel_rfl)
          exact .inr ⟨zP rfl rfl eg,rfl,⟨hD.1,trivial⟩⟩
         | 13,ho =>
          simp at ho
          subst ho
          have eg:ac.tmps.getD 204 undef=.bool !true:=hv 11 204 rfl (by kernel_rfl)
          exact .inr ⟨zP rfl rfl eg,rfl,⟨hD.1,trivial⟩⟩
         | 14,ho =>
          simp at ho
          subst ho
          have eg:ac.tmps.getD 204 undef=.bool !true:=hv 11 204 rfl (by kernel_rfl)
          exact .inr ⟨zP rfl rfl eg,rfl,⟨hD.1,trivial⟩⟩
         | 15,ho =>
          simp at ho
          subst ho
          have eg:ac.tmps.getD 204 undef=.bool !true:=hv 11 204 rfl (by kernel_rfl)
          exact .inr ⟨zP rfl rfl eg,rfl,⟨hD.1,trivial⟩⟩
         | 16,ho =>
          simp at ho
          subst ho
          have eg:ac.tmps.getD 204 undef=.bool !true:=hv 11 204 rfl (by kernel_rfl)
          exact .inr ⟨zP rfl rfl eg,rfl,⟨hD.1,trivial⟩⟩
         | 17,ho =>
          simp at ho
          subst ho
          have eg:ac.tmps.getD 201 undef=.bool false:=hv 8 201 rfl (by kernel_rfl)
          have e204:ac.tmps.getD 204 undef=.bool false:=hv 11 204 rfl (by kernel_rfl)
          exact .inl ⟨zH rfl rfl eg,zC γ (.bool false) (by simp [go_sem,Act.eval,-Array.getD_eq_getD_getElem?,e204]) rfl (⟨hD.1,trivial⟩) (fun _ _ _ _ h=>h)⟩
         | 18,ho =>
          simp at ho
          subst ho
          have e201:ac.tmps.getD 201 undef=.bool false:=hv 8 201 rfl (by kernel_rfl)
          have e210:ac.tmps.getD 210 undef=.bool false:=hv 17 210 rfl (by kernel_rfl)
          exact .inl ⟨rfl,zC γ (.bool false) (by simp [go_sem,Act.eval,-Array.getD_eq_getD_getElem?,e201,e210]) rfl (⟨hD.1,trivial⟩) (fun _ _ _ _ h=>h)⟩
         | 19,ho =>
          simp at ho
          subst ho
          have e211:ac.tmps.getD 211 undef=.bool false:=hv 18 211 rfl (by kernel_rfl)
          exact .inl ⟨rfl,zC γ (.bool false) (by simp [go_sem,Act.eval,-Array.getD_eq_getD_getElem?,e211]) rfl (⟨hD.1,trivial⟩) (fun _ _ _ _ h=>h)⟩
         | 20,ho =>
          simp at ho
          subst ho
          have eg:ac.tmps.getD 212 undef=.bool false:=hv 19 212 rfl (by kernel_rfl)
          have e27:ac.tmps.getD 27 undef=.int .i64 err:=hout 27 (by decide +kernel)
          exact .inl ⟨zH rfl rfl eg,zC γ (.int .i64 err) (by simp [go_sem,Act.eval,-Array.getD_eq_getD_getElem?,e27]) rfl (⟨hD.1,trivial⟩) (fun _ _ _ _ h=>h)⟩
         | 21,ho =>
          simp at ho
          subst ho
          have eg:ac.tmps.getD 212 undef=.bool false:=hv 19 212 rfl (by kernel_rfl)
          have e213:ac.tmps.getD 213 undef=.int .i64 err:=hv 20 213 rfl (by kernel_rfl)
          exact .inl ⟨zH rfl rfl eg,zC γ (.bool true) (by simp [go_sem,Act.eval,-Array.getD_eq_getD_getElem?,e213,he0]) rfl (⟨hD.1,trivial⟩) (fun _ _ _ _ h=>h)⟩
         | 22,ho =>
          simp at ho
          subst ho
          have eg:ac.tmps.getD 212 undef=.bool false:=hv 19 212 rfl (by kernel_rfl)
          have e214:ac.tmps.getD 214 undef=.bool true:=hv 21 214 rfl (by kernel_rfl)
          exact .inl ⟨zH rfl rfl eg,zC γ (.bool true) (by simp [go_sem,Act.eval,-Array.getD_eq_getD_getElem?,e214]) rfl (⟨hD.1,trivial⟩) (fun _ _ _ _ h=>h)⟩
         | 23,ho =>
          simp at ho
          subst ho
          have eg:ac.tmps.getD 215 undef=.bool true:=hv 22 215 rfl (by kernel_rfl)
          have e23:ac.tmps.getD 23 undef=.pointer (some ⟨wk.heap.size,0,none⟩):=hout 23 (by decide +kernel)
          have bb:=(zA HBQ).below hD.1
          have c0:=bb.cell 0 rfl 0 rfl
          have c1:=bb.cell 0 rfl 1 rfl
          rw [Nat.add_zero] at c0 c1
          rw [hz1] at c0
          rw [hz2] at c1
          exact .inl ⟨zH rfl rfl eg,zC γ (.agg #[.slice T5 0 tc5,.slice G5 0 gc5]) (by simp [go_sem,Act.eval,-Array.getD_eq_getD_getElem?,e23,c0,c1]) rfl (⟨hD.1,trivial⟩) (fun _ _ _ _ h=>h)⟩
         | 24,ho =>
          simp at ho
          subst ho
          have eg:ac.tmps.getD 215 undef=.bool true:=hv 22 215 rfl (by kernel_rfl)
          exact .inl ⟨zH rfl rfl eg,zC γ (.agg #[.slice none 0 0,.slice none 0 0]) (by simp [go_sem,Act.eval,-Array.getD_eq_getD_getElem?,]) rfl (⟨hD.1,trivial⟩) (fun _ _ _ _ h=>h)⟩
         | 25,ho =>
          simp at ho
          subst ho
          have eg:ac.tmps.getD 215 undef=.bool true:=hv 22 215 rfl (by kernel_rfl)
          have e216:ac.tmps.getD 216 undef=.agg #[.slice T5 0 tc5,.slice G5 0 gc5]:=hv 23 216 rfl (by kernel_rfl)
          have e217:ac.tmps.getD 217 undef=.agg #[.slice none 0 0,.slice none 0 0]:=hv 24 217 rfl (by kernel_rfl)
          refine .inl ⟨zH rfl rfl eg,zj 56 #[.agg #[.slice T5 0 tc5,.slice G5 0 gc5],.agg #[.slice none 0 0,.slice none 0 0]] (by simp [go_sem,Act.eval,-Array.getD_eq_getD_getElem?,e216,e217]) ?_⟩
          refine (same_no w1 T5 tc5 G5 gc5).mono ?_
          rintro e w6 ⟨rfl,hb6⟩
          exact ⟨_,γ,rfl,rfl,⟨hD.1.trans (hb6.mono hD.1.size),trivial⟩,fun _ _ _ _ h=>h⟩
         | 26,ho =>
          simp at ho
          subst ho
          have eg:ac.tmps.getD 215 undef=.bool true:=hv 22 215 rfl (by kernel_rfl)
          have e218:ac.tmps.getD 218 undef=.bool true:=hv 25 218 rfl (by kernel_rfl)
          exact .inl ⟨zH rfl rfl eg,zC γ (.bool false) (by simp [go_sem,Act.eval,-Array.getD_eq_getD_getElem?,e218]) rfl (⟨hD.1,trivial⟩) (fun _ _ _ _ h=>h)⟩
         | 27,ho =>
          simp at ho
          subst ho
          have eg:ac.tmps.getD 212 undef=.bool false:=hv 19 212 rfl (by kernel_rfl)
          have e215:ac.tmps.getD 215 undef=.bool true:=hv 22 215 rfl (by kernel_rfl)
          have e219:ac.tmps.getD 219 undef=.bool false:=hv 26 219 rfl (by kernel_rfl)
          exact .inl ⟨zH rfl rfl eg,zC γ (.bool false) (by simp [go_sem,Act.eval,-Array.getD_eq_getD_getElem?,e215,e219]) rfl (⟨hD.1,trivial⟩) (fun _ _ _ _ h=>h)⟩
         | 28,ho =>
          simp at ho
          subst ho
          have e212:ac.tmps.getD 212 undef=.bool false:=hv 19 212 rfl (by kernel_rfl)
          have e220:ac.tmps.getD 220 undef=.bool false:=hv 27 220 rfl (by kernel_rfl)
          exact .inl ⟨rfl,zC γ (.bool false) (by simp [go_sem,Act.eval,-Array.getD_eq_getD_getElem?,e212,e220]) rfl (⟨hD.1,trivial⟩) (fun _ _ _ _ h=>h)⟩
         | ix+29,ho=>simp at ho
        case hend =>
         intro γ v L w11 hD hall hv
         have v28:v 28=.bool false:=hv 28 221 rfl
         have HE:=zB ((zA HLQ).trans (hD.1.mono (zA HLQ).size))
         clear hv hall hD h0
         simp only [zt,List.getElem?_cons_zero,List.getElem?_cons_succ,Option.bind_some,List.length_cons,List.length_nil,Nat.reduceAdd,v28]
         clear v28
         go_frame
         go_wp2
         go_roundw
         case rel=>exact ⟨k+1,by have:=zA HK3;omega,rfl,zA HE⟩
         case measure=>have:=zA HK3;simp [intOf];omega
   ·have hse2:(se == 0)=false:=by simpa using hse
    have hse3:(se != 0)=true:=by simpa using hse
    have HBS2:=zB (zA HBS hse)
    have HBP2:=zB (zA HBP hse)
    clear HBS HBP HST
    go_wp2_with fail
    go_at_call 62
    refine (zA HBS2 _ (zA HL7)).mono ?_
    rintro e w8 ⟨rfl,hb8⟩
    obtain ⟨W9,hW9⟩:∃ W9,W9=zAy w8 [([.slice none 0 0,.slice none 0 0],71),([.int .i64 0,.int .i64 0],40)]:=⟨_,rfl⟩
    have hX9:=Bxs.start w8 [([.slice none 0 0,.slice none 0 0],71),([.int .i64 0,.int .i64 0],40)]
    have hb9:=allocs_below [([.slice none 0 0,.slice none 0 0],71),([.int .i64 0,.int .i64 0],40)] w8
    rw [←hW9] at hX9 hb9
    have hW9':(w8.alloc (.cells #[.slice none 0 0,.slice none 0 0] 71)).alloc (.cells #[.int .i64 0,.int .i64 0] 40)=W9:=hW9.symm
    have HW9:=zB hW9'
    clear hW9 hW9'
    have hb89:=hb8.trans (hb9.mono hb8.size)
    have hB9:=(zA HB7).below hb89
    have HL9:=zB ((zA HL7).trans (hb89.mono (zA HL7).size))
    clear c0 c1 b0 b1
    have c0:=hB9.cell 0 rfl 0 rfl
    have c1:=hB9.cell 0 rfl 1 rfl
    have b0:=hB9.cell 2 rfl 0 rfl
    have b1:=hB9.cell 2 rfl 1 rfl
    rw [Nat.add_zero] at c0 c1
    have HB9:=zB hB9
    clear hB9 hb8 hb9 hb89 hX9 HB7 HL7 HBS2
    go_upto_region 9 with fail
    rw [zA HW9]
    clear HW9
    go_wp2_with fail
    go_at_call 63
    refine (zA HBP2 _ (zA HL9)).mono ?_
    rintro e w10 ⟨rfl,hb10⟩
    obtain ⟨W11,hW11⟩:∃ W11,W11=zAy w10 [([.slice none 0 0,.slice none 0 0],71)]:=⟨_,rfl⟩
    have hX11:=Bxs.start w10 [([.slice none 0 0,.slice none 0 0],71)]
    have hb11:=allocs_below [([.slice none 0 0,.slice none 0 0],71)] w10
    rw [←hW11] at hX11 hb11
    have hW11':w10.alloc (.cells #[.slice none 0 0,.slice none 0 0] 71)=W11:=hW11.symm
    have HW11:=zB hW11'
    clear hW11 hW11'
    have hb1011:=hb10.trans (hb11.mono hb10.size)
    have hB11:=(zA HB9).below hb1011
    have HL11:=zB ((zA HL9).trans (hb1011.mono (zA HL9).size))
    clear c0 c1 b0 b1
    have c0:=hB11.cell 0 rfl 0 rfl
    have c1:=hB11.cell 0 rfl 1 rfl
    rw [Nat.add_zero] at c0 c1
    have HX11:=zB hX11
    clear hB11 hb10 hb11 hb1011 hX11 HB9 HL9 HBP2
    go_upto_region 10 with fail
    rw [zA HW11]
    clear HW11
    go_wp2_with fail
    go_at_call 55
    refine (zA HRW _ (zA HL11)).mono ?_
    rintro e w12 ⟨rfl,hb12⟩
    have hX12:=(zA HX11).below hb12
    have HL12:=zB ((zA HL11).trans (hb12.mono (zA HL11).size))
    clear c0 c1
    have c0:=hX12.cell 0 rfl 0 rfl
    have c1:=hX12.cell 0 rfl 1 rfl
    rw [Nat.add_zero] at c0 c1
    clear hX12 hb12 HX11 HL11
    go_wp2_with fail
    go_at_call 56
    refine (same_no _ none 0 none 0).mono ?_
    rintro e w13 ⟨rfl,hb13⟩
    have HL13:=zB ((zA HL12).trans (hb13.mono (zA HL12).size))
    clear hb13 c0 c1
    go_wp2
    go_ret
    exact ⟨rfl,zA HL13⟩
end Go.Proofs.Ytnbleebilmghcaa
