/- RnTurn, RnOn -/
import Derived.Test.YtnbleebilmghcacGreatJV
set_option linter.all false
set_option maxHeartbeats 4000000
set_option maxRecDepth 8000
namespace Go.Proofs.YtnbleebilmghcacGreat
open Go Go.RowKit
attribute [local go_sem ↓] Go.wp_at_zero Go.wp_at_succ
structure TB (w:World) (A G:Option Addr) (X:Wd) (i g:Int) (Ac:Option Addr) (cc:Nat) (Gc:Option Addr) (gcc:Nat) (Xc:Wd) (W:World):Prop where
 bx:Bxs w.heap.size [([.slice Ac Xc.rows.length cc,.slice Gc Xc.gens.length gcc],51),([.int .i64 i,.int .i64 g],39),([.slice none 0 0,.slice none 0 0],51)] W
 bel:Below w.heap.size w W
 wf:WF (w.heap.size+3) A G X W Ac cc Gc gcc Xc
theorem TB.below {w:World} {A G:Option Addr} {X:Wd} {i g:Int} {Ac:Option Addr} {cc:Nat} {Gc:Option Addr} {gcc:Nat} {Xc:Wd} {W W1:World} (h:TB w A G X i g Ac cc Gc gcc Xc W) (hb:Below W.heap.size W W1):TB w A G X i g Ac cc Gc gcc Xc W1 :=
 ⟨h.bx.below hb,h.bel.trans (hb.mono h.bel.size),h.wf.below hb⟩
theorem TB.sz {w:World} {A G:Option Addr} {X:Wd} {i g:Int} {Ac:Option Addr} {cc:Nat} {Gc:Option Addr} {gcc:Nat} {Xc:Wd} {W:World} (h:TB w A G X i g Ac cc Gc gcc Xc W):w.heap.size+3≤W.heap.size:=by
 have:=h.bx.sz (by simp)
 simpa using this
theorem turn_step (i g:Int) (a:Nat→ActI) (len j:Nat) (X:Wd) (h:j<len):zq i g a (len - j) j X=if (zCM X i g (a j)).1≠0 then ((zCM X i g (a j)).1,emptyW) else if (a j).k=6 then (0,(zCM X i g (a j)).2) else zq i g a (len - (j+1)) (j+1) (zCM X i g (a j)).2:=by
 rw [show len - j=(len - (j+1))+1 by omega,zq]
theorem turn_any (A:Option Addr) (cap:Nat) (G:Option Addr) (gcap:Nat) (X:Wd) (i g:Int) (A1:Option Addr) (len acap:Nat) (a:Nat→ActI) (w:World) (hn0:X.rows.length≤9223372036854775807) (hX:WldAt w A cap G gcap X) (hr:RightW X) (hlen:len≤8) (hA:ActsAt w A1 len a) :
  Calls Tryz.prog 55 #[zz A cap G gcap X,zS i g,.slice A1 len acap] w fun e w'=>∃ A' c' G' gc',e=.returned (.tuple #[zz A' c' G' gc' (zq i g a len 0 X).2,.int .i64 (zq i g a len 0 X).1])∧WF w.heap.size A G X w' A' c' G' gc' (zq i g a len 0 X).2∧Below w.heap.size w w':=by
 have hB0:=Bxs.start w [([.slice A X.rows.length cap,.slice G X.gens.length gcap],51),([.int .i64 i,.int .i64 g],39),([.slice none 0 0,.slice none 0 0],51)]
 have hb0:=allocs_below [([.slice A X.rows.length cap,.slice G X.gens.length gcap],51),([.int .i64 i,.int .i64 g],39),([.slice none 0 0,.slice none 0 0],51)] w
 obtain ⟨W0,hW0⟩:∃ W0,W0=zAQ w [([.slice A X.rows.length cap,.slice G X.gens.length gcap],51),([.int .i64 i,.int .i64 g],39),([.slice none 0 0,.slice none 0 0],51)]:=⟨_,rfl⟩
 rw [←hW0] at hB0 hb0
 have hW0':((w.alloc (.cells #[.slice A X.rows.length cap,.slice G X.gens.length gcap] 51)).alloc (.cells #[.int .i64 i,.int .i64 g] 39)).alloc (.cells #[.slice none 0 0,.slice none 0 0] 51)=W0:=hW0.symm
 have HNB:Hid (∀ k,¬ Blk A G X (w.heap.size+k)):=zB (fun k hb=>by have:=blk_lt hX hb;omega)
 have hT0:TB w A G X i g A cap G gcap X W0:=⟨hB0,hb0,WF.refl (hX.below hb0)⟩
 have HT0:=zB hT0
 have HW0:=zB hW0'
 have HA:=zB hA
 have HR:=zB hr
 clear hW0 hW0' hB0 hb0 hX hA hT0 hr
 obtain ⟨R,hR⟩:∃ R,R=zq i g a len 0 X:=⟨_,rfl⟩
 rw [←hR]
 have HRR:=zB hR
 clear hR
 unfold zz zR zS
 go_enter Tryz.func55,Tryz.ntmps55
 go_upto_region 1 with fail
 rw [zA HW0]
 go_wp2_with fail
 go_loopw [14] (fun x wr=>∃ j:Nat,j≤len∧x=.int .i64 (j:Int)∧∃ Ac cc Gc gcc Xc,TB w A G X i g Ac cc Gc gcc Xc wr∧RightW Xc∧R=zq i g a (len - j) j Xc) (fun x _=>len - (intOf x).toNat)
 case atStart=>exact ⟨0,Nat.zero_le _,rfl,A,cap,G,gcap,X,zA HT0,zA HR,zA HRR⟩
 case round =>
  clear HT0 HRR HR
  obtain ⟨j,hj,rfl,Ac,cc,Gc,gcc,Xc,hT,hrc,hRc⟩:=hrel
  have hxl:=(zAT ((zr Xc).2 hrc)).1
  by_cases hlt:j<len
  ·have j0:(0:Int)≤(j:Int):=by omega
   have j1:(j:Int)<(len:Int):=by omega
   rw [turn_step i g a len j Xc hlt] at hRc
   obtain ⟨b,off,hAe,c0,c1,c2,c3⟩:=(zA HA).below hT.bel j hlt
   obtain ⟨y,hy⟩:∃ y,y=a j:=⟨_,rfl⟩
   rw [←hy] at c0 c1 c2 c3 hRc
   obtain ⟨W4,hW4⟩:∃ W4,W4=wr.alloc (.cells #[.int .i64 y.k,.int .i64 y.p,.int .i64 y.f,.int .i64 y.n] 71):=⟨_,rfl⟩
   have hb4:Below wr.heap.size wr W4:=by rw [hW4];exact zAS _ _
   have hT4:=hT.below hb4
   have hAC:=act_any Ac cc Gc gcc Xc i g y W4 (by omega) hT4.wf.at_
   have hAN:=fun h=>act_no (X:=Xc) (i:=i) (g:=g) (y:=y) h
   have hAR:=fun h=>zBY hrc (i:=i) (g:=g) (y:=y) h
   obtain ⟨Y,hY⟩:∃ Y,Y=(zCM Xc i g y).2:=⟨_,rfl⟩
   obtain ⟨err,herr⟩:∃ err,err=(zCM Xc i g y).1:=⟨_,rfl⟩
   rw [←hY,←herr] at hAC hAN hAR hRc
   unfold zz zR zS zCe at hAC
   have w0:=hT4.bx.cell 0 rfl 0 rfl
   have w1:=hT4.bx.cell 0 rfl 1 rfl
   rw [Nat.add_zero] at w0 w1
   have b0:=hT4.bx.cell 1 rfl 0 rfl
   have b1:=hT4.bx.cell 1 rfl 1 rfl
   have hW4':wr.alloc (.cells #[.int .i64 y.k,.int .i64 y.p,.int .i64 y.f,.int .i64 y.n] 71)=W4:=hW4.symm
   have HY4:Hid (W4.cell? ⟨wr.heap.size,0,none⟩=some (.int .i64 y.k)):=zB (by rw [hW4];simp)
   have a0:=zA HY4
   have a1:W4.cell? ⟨wr.heap.size,1,none⟩=some (.int .i64 y.p):=by rw [hW4];simp
   have a2:W4.cell? ⟨wr.heap.size,2,none⟩=some (.int .i64 y.f):=by rw [hW4];simp
   have a3:W4.cell? ⟨wr.heap.size,3,none⟩=some (.int .i64 y.n):=by rw [hW4];simp
   have HW4:=zB hW4'
   have HAC:=zB hAC
   have HAN:=zB hAN
   have HAR:=zB hAR
   have HT4:=zB hT4
   have HZR:Hid (w.heap.size+3≤wr.heap.size):=zB hT.sz
   have HRC:=zB hRc
   clear hT hT4 hb4 hAC hAN hAR hY herr hW4 hW4' hRc hrc hy
   subst hAe
   go_upto_region 4 with fail
   rw [zA HW4]
   clear c0 c1 c2 c3
   go_wp2_with fail
   go_at_call 83
   refine (zA HAC).mono ?_
   rintro e w5 ⟨A4,c4,G4,gc4,rfl,hF5,hb5⟩
   have h5:=(zA HT4).below hb5
   have h6:=h5.below (zAS w5 (.cells #[.slice A4 Y.rows.length c4,.slice G4 Y.gens.length gc4] 51))
   have hF6:WF (w.heap.size+3) A G X (w5.alloc (.cells #[.slice A4 Y.rows.length c4,.slice G4 Y.gens.length gc4] 51)) A4 c4 G4 gc4 Y:=((zA HT4).wf.trans hF5 (zA HT4).sz).below (zAS _ _)
   have k0:=zD (zAS w5 (.cells #[.slice A4 Y.rows.length c4,.slice G4 Y.gens.length gc4] 51)) (zD hb5 (zA HY4))
   have n0:(w5.alloc (.cells #[.slice A4 Y.rows.length c4,.slice G4 Y.gens.length gc4] 51)).cell? ⟨w5.heap.size,0,none⟩=some (.slice A4 Y.rows.length c4):=by simp
   have n1:(w5.alloc (.cells #[.slice A4 Y.rows.length c4,.slice G4 Y.gens.length gc4] 51)).cell? ⟨w5.heap.size,1,none⟩=some (.slice G4 Y.gens.length gc4):=by simp
   have lw:w5.heap.size≠w.heap.size:=by have:=h5.sz;omega
   obtain ⟨W6,hW6⟩:∃ W6,W6=w5.alloc (.cells #[.slice A4 Y.rows.length c4,.slice G4 Y.gens.length gc4] 51):=⟨_,rfl⟩
   rw [←hW6] at h6 hF6 k0 n0 n1
   have hW6':w5.alloc (.cells #[.slice A4 Y.rows.length c4,.slice G4 Y.gens.length gc4] 51)=W6:=hW6.symm
   have HW6:=zB hW6'
   have HB6:=zB h6.bx
   have HL6:=zB h6.bel
   have HF6:=zB hF6
   clear hF5 hb5 h5 h6 hF6 hW6 hW6' HAC HT4 HY4 w0 w1 b0 b1 a0 a1 a2 a3
   by_cases he:err=0
   ·subst he
    have HRY:=zB (zA HAR rfl)
    clear HAN HAR
    by_cases hk6:y.k=6
    ·go_upto_region 5 with fail
     rw [zA HW6]
     go_wp2_with (first
      | (refine zH rfl 51 (.tmp 3) (.tmp 29) rfl (w.heap.size+0) 0 [.slice A4 Y.rows.length c4,.slice G4 Y.gens.length gc4] rfl rfl (by simp [Value.oneCell']) size38 ((zA HB6).there 0 rfl 2 rfl) ?_;intro W7 hW;have q1:=(zA HB6).give 0 rfl [.slice A4 Y.rows.length c4,.slice G4 Y.gens.length gc4] rfl;have q3:=zF (w.heap.size+0) (by omega) [.slice A4 Y.rows.length c4,.slice G4 Y.gens.length gc4] 0 _ (zA HL6);have q4:=zAo (k:=0) (o:=0) (vs:=[.slice A4 Y.rows.length c4,.slice G4 Y.gens.length gc4]) (zA HF6) (zA HNB) (by omega);have q5:=(zT (b:=w.heap.size+0) (o:=0) (vs:=[.slice A4 Y.rows.length c4,.slice G4 Y.gens.length gc4]) (p:=⟨wr.heap.size,0,none⟩) (by have:=zA HZR;simp only [ne_eq];omega)).trans k0;rw [←hW] at q1 q3 q4 q5;have HB7:=zB q1;have HL7:=zB q3;have HF7:=zB q4;have k5:=q5;have w0:=(zA HB7).cell 0 rfl 0 rfl;have w1:=(zA HB7).cell 0 rfl 1 rfl;rw [Nat.add_zero] at w0 w1;clear hW q1 q3 q4 q5)
      | (refine zH rfl 51 (.tmp 6) (.tmp 34) rfl (w.heap.size+2) 0 [.slice A4 Y.rows.length c4,.slice G4 Y.gens.length gc4] rfl rfl (by simp [Value.oneCell']) size38 ((zA HB7).there 2 rfl 2 rfl) ?_;intro W8 hW;have q1:=(zA HB7).give 2 rfl [.slice A4 Y.rows.length c4,.slice G4 Y.gens.length gc4] rfl;have q3:=zF (w.heap.size+2) (by omega) [.slice A4 Y.rows.length c4,.slice G4 Y.gens.length gc4] 0 _ (zA HL7);have q4:=zAo (k:=2) (o:=0) (vs:=[.slice A4 Y.rows.length c4,.slice G4 Y.gens.length gc4]) (zA HF7) (zA HNB) (by omega);rw [←hW] at q1 q3 q4;have HB8:=zB q1;have HL8:=zB q3;have HF8:=zB q4;clear hW q1 q3 q4))
     have hR2:=zA HRC
     rw [if_neg (by simp),if_pos hk6] at hR2
     have t0:=(zA HB8).cell 2 rfl 0 rfl
     have t1:=(zA HB8).cell 2 rfl 1 rfl
     refine bodyPost_ret (v:=.tuple #[.agg #[.slice A4 Y.rows.length c4,.slice G4 Y.gens.length gc4],.int .i64 0]) (by simp [results,Tryz.results55,go_sem,t0,t1]) rfl ?_
     rw [hR2]
     exact ⟨A4,c4,G4,gc4,rfl,(zA HF8).le (by omega),zA HL8⟩
    ·go_upto_region 5 with fail
     rw [zA HW6]
     go_wp2_with (refine zH rfl 51 (.tmp 3) (.tmp 29) rfl (w.heap.size+0) 0 [.slice A4 Y.rows.length c4,.slice G4 Y.gens.length gc4] rfl rfl (by simp [Value.oneCell']) size38 ((zA HB6).there 0 rfl 2 rfl) ?_;intro W7 hW;have q1:=(zA HB6).give 0 rfl [.slice A4 Y.rows.length c4,.slice G4 Y.gens.length gc4] rfl;have q3:=zF (w.heap.size+0) (by omega) [.slice A4 Y.rows.length c4,.slice G4 Y.gens.length gc4] 0 _ (zA HL6);have q4:=zAo (k:=0) (o:=0) (vs:=[.slice A4 Y.rows.length c4,.slice G4 Y.gens.length gc4]) (zA HF6) (zA HNB) (by omega);have q5:=(zT (b:=w.heap.size+0) (o:=0) (vs:=[.slice A4 Y.rows.length c4,.slice G4 Y.gens.length gc4]) (p:=⟨wr.heap.size,0,none⟩) (by have:=zA HZR;simp only [ne_eq];omega)).trans k0;rw [←hW] at q1 q3 q4 q5;have HB7:=zB q1;have HL7:=zB q3;have HF7:=zB q4;have k5:=q5;have w0:=(zA HB7).cell 0 rfl 0 rfl;have w1:=(zA HB7).cell 0 rfl 1 rfl;rw [Nat.add_zero] at w0 w1;clear hW q1 q3 q4 q5)
     have hR2:=zA HRC
     rw [if_neg (by simp),if_neg hk6] at hR2
     have HR2:=zB hR2
     clear hR2
     go_roundw
     case rel=>exact ⟨j+1,by omega,by go_num,A4,c4,G4,gc4,Y,⟨zA HB7,zA HL7,zA HF7⟩,zA HRY,zA HR2⟩
     case measure=>simp [intOf];omega
   ·skip
    have hR2:=zA HRC
    rw [if_pos he] at hR2
    have HR2:=zB hR2
    clear hR2 HAN HAR HRC
    have hne:(err == 0)=false:=by simpa using he
    go_upto_region 5 with fail
    rw [zA HW6]
    go_wp2_with (refine zH rfl 51 (.tmp 6) (.tmp 27) rfl (w.heap.size+2) 0 [.slice none 0 0,.slice none 0 0] rfl rfl (by simp [Value.oneCell']) size38 ((zA HB6).there 2 rfl 2 rfl) ?_;intro W8 hW;have q1:=(zA HB6).give 2 rfl [.slice none 0 0,.slice none 0 0] rfl;have q3:=zF (w.heap.size+2) (by omega) [.slice none 0 0,.slice none 0 0] 0 _ (zA HL6);rw [←hW] at q1 q3;have HB8:=zB q1;have HL8:=zB q3;clear hW q1 q3)
    have t0:=(zA HB8).cell 2 rfl 0 rfl
    have t1:=(zA HB8).cell 2 rfl 1 rfl
    refine bodyPost_ret (v:=.tuple #[.agg #[.slice none 0 0,.slice none 0 0],.int .i64 err]) (by simp [results,Tryz.results55,go_sem,t0,t1]) rfl ?_
    rw [zA HR2]
    exact ⟨none,0,none,0,rfl,WF.empty _ _ _ _ _,zA HL8⟩
  ·obtain rfl:j=len:=by omega
   have w0:=hT.bx.cell 0 rfl 0 rfl
   have w1:=hT.bx.cell 0 rfl 1 rfl
   rw [Nat.add_zero] at w0 w1
   have HB7:=zB hT.bx
   have HL7:=zB hT.bel
   have HF7:=zB hT.wf
   have hR2:=hRc
   rw [Nat.sub_self,zq] at hR2
   have HR2:=zB hR2
   clear hT hRc hR2
   go_wp2_with (refine zH rfl 51 (.tmp 6) (.tmp 34) rfl (w.heap.size+2) 0 [.slice Ac Xc.rows.length cc,.slice Gc Xc.gens.length gcc] rfl rfl (by simp [Value.oneCell']) size38 ((zA HB7).there 2 rfl 2 rfl) ?_;intro W8 hW;have q1:=(zA HB7).give 2 rfl [.slice Ac Xc.rows.length cc,.slice Gc Xc.gens.length gcc] rfl;have q3:=zF (w.heap.size+2) (by omega) [.slice Ac Xc.rows.length cc,.slice Gc Xc.gens.length gcc] 0 _ (zA HL7);have q4:=zAo (k:=2) (o:=0) (vs:=[.slice Ac Xc.rows.length cc,.slice Gc Xc.gens.length gcc]) (zA HF7) (zA HNB) (by omega);rw [←hW] at q1 q3 q4;have HB8:=zB q1;have HL8:=zB q3;have HF8:=zB q4;clear hW q1 q3 q4)
   have t0:=(zA HB8).cell 2 rfl 0 rfl
   have t1:=(zA HB8).cell 2 rfl 1 rfl
   refine bodyPost_ret (v:=.tuple #[.agg #[.slice Ac Xc.rows.length cc,.slice Gc Xc.gens.length gcc],.int .i64 0]) (by simp [results,Tryz.results55,go_sem,t0,t1]) rfl ?_
   rw [zA HR2]
   exact ⟨Ac,cc,Gc,gcc,rfl,(zA HF8).le (by omega),zA HL8⟩
end Go.Proofs.YtnbleebilmghcacGreat
set_option maxHeartbeats 4000000
set_option maxRecDepth 8000
namespace Go.Proofs.YtnbleebilmghcacGreat
open Go Go.RowKit
attribute [local go_sem ↓] Go.wp_at_zero Go.wp_at_succ
theorem wr_len {m al no:Int} {a:Nat→ActI} {len:Nat} (h:(wrF m al no a len).1=0):len≤8:=((zBi m al no a len).1 h).2.1
theorem runTo_step (a:Nat→ActI) (len:Nat) (l:List (Int×Int)) (j:Nat) (X:Wd) (h:j<l.length):zAh a len (l.drop j) X=if (zq (l.getD j (0,0)).1 (l.getD j (0,0)).2 a len 0 X).1≠0 then ((zq (l.getD j (0,0)).1 (l.getD j (0,0)).2 a len 0 X).1,emptyW) else zAh a len (l.drop (j+1)) (zq (l.getD j (0,0)).1 (l.getD j (0,0)).2 a len 0 X).2:=by
 rw [List.drop_eq_getElem_cons h,zAh,List.getD_eq_getElem?_getD,List.getElem?_eq_getElem h]
 rfl
theorem bs_puts {W:World} {A:Option Addr} {l:List (Int×Int)} (h:BsAt W A l) {b o:Nat} {vs:List Value} (hb:∀ o',A=some ⟨b,o',none⟩→l.length=0):BsAt (W.setCells b o vs) A l:=fun j hj=>by
 obtain ⟨b',off,e,h1,h2⟩:=h j hj
 have hne:b'≠b:=fun e'=>by
  have:=hb off (by rw [e,e'])
  omega
 exact ⟨b',off,e,(zT hne).trans h1,(zT hne).trans h2⟩
structure OB (w:World) (A G:Option Addr) (X:Wd) (m al no:Int) (sl:Value) (Ac:Option Addr) (cc:Nat) (Gc:Option Addr) (gcc:Nat) (Xc:Wd) (W:World):Prop where
 bx:Bxs w.heap.size [([.slice Ac Xc.rows.length cc,.slice Gc Xc.gens.length gcc],51),([.int .i64 m,.int .i64 al,.int .i64 no,sl],44),([.slice none 0 0,.slice none 0 0],51)] W
 bel:Below w.heap.size w W
 wf:WF (w.heap.size+3) A G X W Ac cc Gc gcc Xc
section
variable {w:World} {A G:Option Addr} {X:Wd} {m al no:Int} {sl:Value} {Ac:Option Addr} {cc:Nat} {Gc:Option Addr} {gcc:Nat} {Xc:Wd} {W W1:World}
theorem OB.below (h:OB w A G X m al no sl Ac cc Gc gcc Xc W) (hb:Below W.heap.size W W1):OB w A G X m al no sl Ac cc Gc gcc Xc W1 :=
 ⟨h.bx.below hb,h.bel.trans (hb.mono h.bel.size),h.wf.below hb⟩
theorem OB.sz (h:OB w A G X m al no sl Ac cc Gc gcc Xc W):w.heap.size+3≤W.heap.size:=by
 have:=h.bx.sz (by simp)
 simpa using this
end
theorem runon_wrong (A:Option Addr) (cap:Nat) (G:Option Addr) (gcap:Nat) (X:Wd) (m al no:Int) (A1:Option Addr) (len acap:Nat) (a:Nat→ActI) (w:World) (hX:WldAt w A cap G gcap X) (hr:RightW X) (hA:ActsAt w A1 len a) (hw:(wrF m al no a len).1≠0) :
  Calls Tryz.prog 32 #[zz A cap G gcap X,zCQ m al no A1 len acap] w fun e w'=>e=.returned (.tuple #[zz none 0 none 0 emptyW,.int .i64 (wrF m al no a len).1])∧Below w.heap.size w w':=by
 have hB0:=Bxs.start w [([.slice A X.rows.length cap,.slice G X.gens.length gcap],51),([.int .i64 m,.int .i64 al,.int .i64 no,.slice A1 len acap],44),([.slice none 0 0,.slice none 0 0],51)]
 have hb0:=allocs_below [([.slice A X.rows.length cap,.slice G X.gens.length gcap],51),([.int .i64 m,.int .i64 al,.int .i64 no,.slice A1 len acap],44),([.slice none 0 0,.slice none 0 0],51)] w
 obtain ⟨W0,hW0⟩:∃ W0,W0=zAQ w [([.slice A X.rows.length cap,.slice G X.gens.length gcap],51),([.int .i64 m,.int .i64 al,.int .i64 no,.slice A1 len acap],44),([.slice none 0 0,.slice none 0 0],51)]:=⟨_,rfl⟩
 rw [←hW0] at hB0 hb0
 have hW0':((w.alloc (.cells #[.slice A X.rows.length cap,.slice G X.gens.length gcap] 51)).alloc (.cells #[.int .i64 m,.int .i64 al,.int .i64 no,.slice A1 len acap] 44)).alloc (.cells #[.slice none 0 0,.slice none 0 0] 51)=W0:=hW0.symm
 have HNB:Hid (∀ k,¬ Blk A G X (w.heap.size+k)):=zB (fun k hb=>by have:=blk_lt hX hb;omega)
 have hO0:OB w A G X m al no (.slice A1 len acap) A cap G gcap X W0:=⟨hB0,hb0,WF.refl (hX.below hb0)⟩
 have hWR:=wrong_any m al no A1 len acap a W0 (hA.below hb0)
 unfold zCQ zAV at hWR
 have s0:=hB0.cell 1 rfl 0 rfl
 have s1:=hB0.cell 1 rfl 1 rfl
 have s2:=hB0.cell 1 rfl 2 rfl
 have s3:=hB0.cell 1 rfl 3 rfl
 have HO0:=zB hO0
 have HW0:=zB hW0'
 have HA:=zB hA
 clear hW0 hW0' hB0 hb0 hX hA hO0
 generalize (wrF m al no a len).2=wa at *
 generalize (wrF m al no a len).1=we at *
 have HWR:=zB hWR
 clear hWR
 unfold zz zR zCQ emptyW
 go_enter Tryz.func32,Tryz.ntmps32
 go_upto_region 1 with fail
 rw [zA HW0]
 go_wp2_with ((go_at_call 53;refine (zA HWR).mono ?_;rintro e w5 ⟨rfl,hb5⟩;have h5:=(zA HO0).below hb5;have HZ5:=zB h5.sz;have HO6:=zB (h5.below (zAS w5 (.cells #[.int .i64 we,.int .i64 wa] 35)));clear hb5 h5 s0 s1 s2 s3))
 have h0:Bxs w.heap.size [([.slice A X.rows.length cap,.slice G X.gens.length gcap],51),([.int .i64 m,.int .i64 al,.int .i64 no,.slice A1 len acap],44),([.slice none 0 0,.slice none 0 0],51)] (w5.alloc (.cells #[.int .i64 we,.int .i64 wa] 35)).drew∧Below w.heap.size w (w5.alloc (.cells #[.int .i64 we,.int .i64 wa] 35)).drew∧(w5.alloc (.cells #[.int .i64 we,.int .i64 wa] 35)).drew.cell? ⟨w5.heap.size,0,none⟩=some (.int .i64 we):=⟨(zA HO6).bx.below (Below.refl _ _).drew,(zA HO6).bel.drew,by show (w5.alloc _).cell? _=_;simp⟩
 refine zi (fun (γ:Unit) ix v=>(([fun v=>v=.agg #[.slice none 0 0,.slice none 0 0],fun v=>v=.pointer (some ⟨w5.heap.size,0,none⟩),fun v=>v=.int .i64 we,fun _=>True,fun v=>v=.int .i64 we]:List (Value→Prop)).getD ix (fun _=>True)) v) (fun (_:Unit) (_:Nat→Bool) W=>Bxs w.heap.size [([.slice A X.rows.length cap,.slice G X.gens.length gcap],51),([.int .i64 m,.int .i64 al,.int .i64 no,.slice A1 len acap],44),([.slice none 0 0,.slice none 0 0],51)] W∧Below w.heap.size w W∧W.cell? ⟨w5.heap.size,0,none⟩=some (.int .i64 we)) (()) (by kernel_rfl) (by kernel_rfl) (by kernel_rfl) h0 ?hstep ?hend
 case hstep =>
  intro γ ix o ho L ac w1 hD hL hed hcl hout hv
  match ix,ho with
  | 0,ho =>
   simp at ho
   subst ho
   exact .inl ⟨rfl,zG γ (.agg #[.slice none 0 0,.slice none 0 0]) (by simp [go_sem,Act.eval,-Array.getD_eq_getD_getElem?,]) rfl (hD) (fun _ _ _ _ h=>h)⟩
  | 1,ho =>
   simp at ho
   subst ho
   have e6:ac.tmps.getD 6 undef=.pointer (some ⟨w5.heap.size,0,none⟩):=hout 6 (by decide +kernel)
   exact .inl ⟨rfl,zG γ (.pointer (some ⟨w5.heap.size,0,none⟩)) (by simp [go_sem,Act.eval,-Array.getD_eq_getD_getElem?,e6]) rfl (hD) (fun _ _ _ _ h=>h)⟩
  | 2,ho =>
   simp at ho
   subst ho
   have e17:ac.tmps.getD 17 undef=.pointer (some ⟨w5.heap.size,0,none⟩):=hv 1 17 rfl (by kernel_rfl)
   have c0:=hD.2.2
   exact .inl ⟨rfl,zG γ (.int .i64 we) (by simp [go_sem,Act.eval,-Array.getD_eq_getD_getElem?,e17,c0]) rfl (hD) (fun _ _ _ _ h=>h)⟩
  | 3,ho =>
   simp at ho
   subst ho
   have e4:ac.tmps.getD 4 undef=.pointer (some ⟨w.heap.size+2,0,none⟩):=hout 4 (by decide +kernel)
   have e16:ac.tmps.getD 16 undef=.agg #[.slice none 0 0,.slice none 0 0]:=hv 0 16 rfl (by kernel_rfl)
   have hg:=hD.1.give 2 rfl [.slice none 0 0,.slice none 0 0] rfl
   exact .inl ⟨rfl,zBS γ 51 (.tmp 4) (.tmp 16) rfl (w.heap.size+2) 0 [.slice none 0 0,.slice none 0 0] (by simp [Act.eval,-Array.getD_eq_getD_getElem?,e4]) (by simp [Act.eval,-Array.getD_eq_getD_getElem?,e16]) (by simp [Value.oneCell']) size38 (hD.1.there 2 rfl 2 rfl) trivial ⟨hg,zF (w.heap.size+2) (by omega) _ 0 _ hD.2.1,(zT (by have:=zA HZ5;simp only [ne_eq];omega)).trans hD.2.2⟩ (fun _ _ _ _ h=>h)⟩
  | 4,ho =>
   simp at ho
   subst ho
   have e18:ac.tmps.getD 18 undef=.int .i64 we:=hv 2 18 rfl (by kernel_rfl)
   exact .inl ⟨rfl,zG γ (.int .i64 we) (by simp [go_sem,Act.eval,-Array.getD_eq_getD_getElem?,e18]) rfl (hD) (fun _ _ _ _ h=>h)⟩
  | ix+5,ho=>simp at ho
 case hend =>
  intro γ v L w9 hD hall hv
  have v4:v 4=.int .i64 we:=hv 4 5 rfl
  have HD:=zB hD
  clear hv hall hD h0
  simp only [zn,List.getElem?_cons_zero,List.getElem?_cons_succ,Option.bind_some,List.length_cons,List.length_nil,Nat.reduceAdd,v4]
  clear v4
  go_frame
  go_wp2
  have t0:=(zA HD).1.cell 2 rfl 0 rfl
  have t1:=(zA HD).1.cell 2 rfl 1 rfl
  refine bodyPost_ret (v:=.tuple #[.agg #[.slice none 0 0,.slice none 0 0],.int .i64 we]) (by simp [results,Tryz.results32,go_sem,t0,t1]) rfl ⟨rfl,(zA HD).2.1⟩
theorem runon_right (A:Option Addr) (cap:Nat) (G:Option Addr) (gcap:Nat) (X:Wd) (m al no:Int) (A1:Option Addr) (len acap:Nat) (a:Nat→ActI) (w:World) (hX:WldAt w A cap G gcap X) (hr:RightW X) (hA:ActsAt w A1 len a) (hw:(wrF m al no a len).1=0) :
  Calls Tryz.prog 32 #[zz A cap G gcap X,zCQ m al no A1 len acap] w fun e w'=>∃ A' c' G' gc',e=.returned (.tuple #[zz A' c' G' gc' (zAh a len (zBQ X al no X.rows.length) X).2,.int .i64 (zAh a len (zBQ X al no X.rows.length) X).1])∧WF w.heap.size A G X w' A' c' G' gc' (zAh a len (zBQ X al no X.rows.length) X).2∧Below w.heap.size w w':=by
 have hl60:=(zAT ((zr X).2 hr)).1
 have hlen:=wr_len hw
 have hB0:=Bxs.start w [([.slice A X.rows.length cap,.slice G X.gens.length gcap],51),([.int .i64 m,.int .i64 al,.int .i64 no,.slice A1 len acap],44),([.slice none 0 0,.slice none 0 0],51)]
 have hb0:=allocs_below [([.slice A X.rows.length cap,.slice G X.gens.length gcap],51),([.int .i64 m,.int .i64 al,.int .i64 no,.slice A1 len acap],44),([.slice none 0 0,.slice none 0 0],51)] w
 obtain ⟨W0,hW0⟩:∃ W0,W0=zAQ w [([.slice A X.rows.length cap,.slice G X.gens.length gcap],51),([.int .i64 m,.int .i64 al,.int .i64 no,.slice A1 len acap],44),([.slice none 0 0,.slice none 0 0],51)]:=⟨_,rfl⟩
 rw [←hW0] at hB0 hb0
 have hW0':((w.alloc (.cells #[.slice A X.rows.length cap,.slice G X.gens.length gcap] 51)).alloc (.cells #[.int .i64 m,.int .i64 al,.int .i64 no,.slice A1 len acap] 44)).alloc (.cells #[.slice none 0 0,.slice none 0 0] 51)=W0:=hW0.symm
 have HNB:Hid (∀ k,¬ Blk A G X (w.heap.size+k)):=zB (fun k hb=>by have:=blk_lt hX hb;omega)
 have hO0:OB w A G X m al no (.slice A1 len acap) A cap G gcap X W0:=⟨hB0,hb0,WF.refl (hX.below hb0)⟩
 have hWR:=wrong_any m al no A1 len acap a W0 (hA.below hb0)
 unfold zCQ zAV at hWR
 have s0:=hB0.cell 1 rfl 0 rfl
 have s1:=hB0.cell 1 rfl 1 rfl
 have s2:=hB0.cell 1 rfl 2 rfl
 have s3:=hB0.cell 1 rfl 3 rfl
 have HO0:=zB hO0
 have HW0:=zB hW0'
 have HA:=zB hA
 clear hW0 hW0' hB0 hb0 hX hA hO0
 rw [hw] at hWR
 generalize (wrF m al no a len).2=wa at *
 have HWR:=zB hWR
 have HR:=zB hr
 have hMA:=fun W (hW:WldAt W A cap G gcap X)=>match_any A cap G gcap X al no W (by omega) hW
 unfold zz zR at hMA
 have HMA:=zB hMA
 have hbl:=bsTo_len X al no X.rows.length
 clear hWR hr hMA hw
 obtain ⟨bs,hbs⟩:∃ bs,bs=zBQ X al no X.rows.length:=⟨_,rfl⟩
 rw [←hbs] at HMA hbl ⊢
 clear hbs
 obtain ⟨R,hR⟩:∃ R,R=zAh a len bs X:=⟨_,rfl⟩
 rw [←hR]
 have HRR:=zB hR
 clear hR
 unfold zz zR zCQ
 go_enter Tryz.func32,Tryz.ntmps32
 go_upto_region 1 with fail
 rw [zA HW0]
 go_wp2_with ((go_at_call 53;refine (zA HWR).mono ?_;rintro e w5 ⟨rfl,hb5⟩;have h6:=(((zA HO0).below hb5).below (zAS w5 (.cells #[.int .i64 0,.int .i64 wa] 35)));have x0:=h6.bx.cell 0 rfl 0 rfl;have x1:=h6.bx.cell 0 rfl 1 rfl;rw [Nat.add_zero] at x0 x1;have x2:=h6.bx.cell 1 rfl 1 rfl;have x3:=h6.bx.cell 1 rfl 2 rfl;have HO6:=zB h6;clear hb5 h6 s0 s1 s2 s3))
 go_at_call 54
 refine (zA HMA _ (zA HO6).wf.at_).mono ?_
 rintro e w7 ⟨v7,rfl,ho7,hb7⟩
 obtain ⟨Ab,cb,rfl,hBs⟩:=bs_own ho7
 have HO7:=zB ((zA HO6).below hb7)
 have HBS:=zB hBs
 have HBB:Hid (∀ o',Ab=some ⟨w.heap.size+0,o',none⟩→bs.length=0):=zB (fun o' e=>by
  rcases Nat.eq_zero_or_pos bs.length with h | h
  ·exact h
  ·have h1:=(ho7.lt (w.heap.size+0) (by rw [e];rfl)).1
   have h2:=(zA HO6).sz
   omega)
 clear ho7 hb7 hBs x0 x1 x2 x3 HO6
 go_wp2_with fail
 go_loopw [24] (fun x wr=>∃ j:Nat,j≤bs.length∧x=.int .i64 (j:Int)∧∃ Ac cc Gc gcc Xc,OB w A G X m al no (.slice A1 len acap) Ac cc Gc gcc Xc wr∧BsAt wr Ab bs∧RightW Xc∧R=zAh a len (bs.drop j) Xc) (fun x _=>bs.length - (intOf x).toNat)
 case atStart=>exact ⟨0,Nat.zero_le _,rfl,A,cap,G,gcap,X,zA HO7,zA HBS,zA HR,zA HRR⟩
 case round =>
  clear HO7 HBS HRR HR
  obtain ⟨j,hj,rfl,Ac,cc,Gc,gcc,Xc,hO,hB,hrc,hRc⟩:=hrel
  have hxl:=(zAT ((zr Xc).2 hrc)).1
  by_cases hlt:j<bs.length
  ·have j0:(0:Int)≤(j:Int):=by omega
   have j1:(j:Int)<(bs.length:Int):=by omega
   rw [runTo_step a len bs j Xc hlt] at hRc
   obtain ⟨b,off,hAe,c0,c1⟩:=hB j hlt
   obtain ⟨i,hi⟩:∃ i,i=(bs.getD j (0,0)).1:=⟨_,rfl⟩
   obtain ⟨g,hg⟩:∃ g,g=(bs.getD j (0,0)).2:=⟨_,rfl⟩
   rw [←hi,←hg] at hRc
   rw [←hi] at c0
   rw [←hg] at c1
   obtain ⟨W4,hW4⟩:∃ W4,W4=wr.alloc (.cells #[.int .i64 i,.int .i64 g] 39):=⟨_,rfl⟩
   have hb4:Below wr.heap.size wr W4:=by rw [hW4];exact zAS _ _
   have hO4:=hO.below hb4
   have hTU:=turn_any Ac cc Gc gcc Xc i g A1 len acap a W4 (by omega) hO4.wf.at_ hrc hlen ((zA HA).below hO4.bel)
   have hTN:=fun h=>turn_no i g a len 0 Xc h
   have hTR:=fun h=>zBK i g a len 0 Xc hrc h
   obtain ⟨Y,hY⟩:∃ Y,Y=(zq i g a len 0 Xc).2:=⟨_,rfl⟩
   obtain ⟨err,herr⟩:∃ err,err=(zq i g a len 0 Xc).1:=⟨_,rfl⟩
   rw [←hY,←herr] at hTU hTN hTR hRc
   unfold zz zR zS at hTU
   have w0:=hO4.bx.cell 0 rfl 0 rfl
   have w1:=hO4.bx.cell 0 rfl 1 rfl
   rw [Nat.add_zero] at w0 w1
   have s3:=hO4.bx.cell 1 rfl 3 rfl
   have b0:W4.cell? ⟨wr.heap.size,0,none⟩=some (.int .i64 i):=by rw [hW4];simp
   have b1:W4.cell? ⟨wr.heap.size,1,none⟩=some (.int .i64 g):=by rw [hW4];simp
   have hW4':wr.alloc (.cells #[.int .i64 i,.int .i64 g] 39)=W4:=hW4.symm
   have HW4:=zB hW4'
   have HTU:=zB hTU
   have HTN:=zB hTN
   have HTR:=zB hTR
   have HO4:=zB hO4
   have HB4:=zB (hB.below hb4)
   have HRC:=zB hRc
   have HAL:Hid (0<bs.length→Ab=some ⟨b,off,none⟩):=zB (fun _=>hAe)
   clear hO hO4 hb4 hTU hTN hTR hY herr hW4 hW4' hRc hrc hi hg hB
   subst hAe
   go_upto_region 7 with fail
   rw [zA HW4]
   clear c0 c1
   go_wp2_with fail
   go_at_call 55
   refine (zA HTU).mono ?_
   rintro e w5 ⟨A4,c4,G4,gc4,rfl,hF5,hb5⟩
   have h5:=(zA HO4).below hb5
   have h6:=h5.below (zAS w5 (.cells #[.slice A4 Y.rows.length c4,.slice G4 Y.gens.length gc4] 51))
   have hF6:WF (w.heap.size+3) A G X (w5.alloc (.cells #[.slice A4 Y.rows.length c4,.slice G4 Y.gens.length gc4] 51)) A4 c4 G4 gc4 Y:=((zA HO4).wf.trans hF5 (zA HO4).sz).below (zAS _ _)
   have hB6:=((zA HB4).below hb5).below (zAS w5 (.cells #[.slice A4 Y.rows.length c4,.slice G4 Y.gens.length gc4] 51))
   have n0:(w5.alloc (.cells #[.slice A4 Y.rows.length c4,.slice G4 Y.gens.length gc4] 51)).cell? ⟨w5.heap.size,0,none⟩=some (.slice A4 Y.rows.length c4):=by simp
   have n1:(w5.alloc (.cells #[.slice A4 Y.rows.length c4,.slice G4 Y.gens.length gc4] 51)).cell? ⟨w5.heap.size,1,none⟩=some (.slice G4 Y.gens.length gc4):=by simp
   obtain ⟨W6,hW6⟩:∃ W6,W6=w5.alloc (.cells #[.slice A4 Y.rows.length c4,.slice G4 Y.gens.length gc4] 51):=⟨_,rfl⟩
   rw [←hW6] at h6 hF6 n0 n1 hB6
   have hW6':w5.alloc (.cells #[.slice A4 Y.rows.length c4,.slice G4 Y.gens.length gc4] 51)=W6:=hW6.symm
   have HW6:=zB hW6'
   have HB6:=zB h6.bx
   have HL6:=zB h6.bel
   have HF6:=zB hF6
   have HBS6:=zB hB6
   clear hF5 hb5 h5 h6 hF6 hB6 hW6 hW6' HTU HO4 HB4 w0 w1 b0 b1 s3
   by_cases he:err=0
   ·subst he
    have HRY:=zB (zA HTR rfl)
    clear HTN HTR
    go_upto_region 8 with fail
    rw [zA HW6]
    go_wp2_with (refine zH rfl 51 (.tmp 2) (.tmp 40) rfl (w.heap.size+0) 0 [.slice A4 Y.rows.length c4,.slice G4 Y.gens.length gc4] rfl rfl (by simp [Value.oneCell']) size38 ((zA HB6).there 0 rfl 2 rfl) ?_;intro W7 hW;have q1:=(zA HB6).give 0 rfl [.slice A4 Y.rows.length c4,.slice G4 Y.gens.length gc4] rfl;have q3:=zF (w.heap.size+0) (by omega) [.slice A4 Y.rows.length c4,.slice G4 Y.gens.length gc4] 0 _ (zA HL6);have q4:=zAo (k:=0) (o:=0) (vs:=[.slice A4 Y.rows.length c4,.slice G4 Y.gens.length gc4]) (zA HF6) (zA HNB) (by omega);have q5:=bs_puts (zA HBS6) (b:=w.heap.size+0) (o:=0) (vs:=[.slice A4 Y.rows.length c4,.slice G4 Y.gens.length gc4]) (zA HBB);rw [←hW] at q1 q3 q4 q5;have HB7:=zB q1;have HL7:=zB q3;have HF7:=zB q4;have HBS7:=zB q5;clear hW q1 q3 q4 q5)
    have hR2:=zA HRC
    rw [if_neg (by simp)] at hR2
    have HR2:=zB hR2
    clear hR2
    go_roundw
    case rel=>exact ⟨j+1,by omega,by go_num,A4,c4,G4,gc4,Y,⟨zA HB7,zA HL7,zA HF7⟩,zA HBS7,zA HRY,zA HR2⟩
    case measure=>simp [intOf];omega
   ·skip
    have hR2:=zA HRC
    rw [if_pos he] at hR2
    have HR2:=zB hR2
    clear hR2 HTN HTR HRC
    have hne:(err == 0)=false:=by simpa using he
    go_upto_region 8 with fail
    rw [zA HW6]
    go_wp2_with (refine zH rfl 51 (.tmp 4) (.tmp 38) rfl (w.heap.size+2) 0 [.slice none 0 0,.slice none 0 0] rfl rfl (by simp [Value.oneCell']) size38 ((zA HB6).there 2 rfl 2 rfl) ?_;intro W8 hW;have q1:=(zA HB6).give 2 rfl [.slice none 0 0,.slice none 0 0] rfl;have q3:=zF (w.heap.size+2) (by omega) [.slice none 0 0,.slice none 0 0] 0 _ (zA HL6);rw [←hW] at q1 q3;have HB8:=zB q1;have HL8:=zB q3;clear hW q1 q3)
    have t0:=(zA HB8).cell 2 rfl 0 rfl
    have t1:=(zA HB8).cell 2 rfl 1 rfl
    refine bodyPost_ret (v:=.tuple #[.agg #[.slice none 0 0,.slice none 0 0],.int .i64 err]) (by simp [results,Tryz.results32,go_sem,t0,t1]) rfl ?_
    rw [zA HR2]
    exact ⟨none,0,none,0,rfl,WF.empty _ _ _ _ _,zA HL8⟩
  ·obtain rfl:j=bs.length:=by omega
   have w0:=hO.bx.cell 0 rfl 0 rfl
   have w1:=hO.bx.cell 0 rfl 1 rfl
   rw [Nat.add_zero] at w0 w1
   have HB7:=zB hO.bx
   have HL7:=zB hO.bel
   have HF7:=zB hO.wf
   have hR2:=hRc
   rw [List.drop_length,zAh] at hR2
   have HR2:=zB hR2
   clear hO hRc hR2 hB
   go_wp2_with (refine zH rfl 51 (.tmp 4) (.tmp 42) rfl (w.heap.size+2) 0 [.slice Ac Xc.rows.length cc,.slice Gc Xc.gens.length gcc] rfl rfl (by simp [Value.oneCell']) size38 ((zA HB7).there 2 rfl 2 rfl) ?_;intro W8 hW;have q1:=(zA HB7).give 2 rfl [.slice Ac Xc.rows.length cc,.slice Gc Xc.gens.length gcc] rfl;have q3:=zF (w.heap.size+2) (by omega) [.slice Ac Xc.rows.length cc,.slice Gc Xc.gens.length gcc] 0 _ (zA HL7);have q4:=zAo (k:=2) (o:=0) (vs:=[.slice Ac Xc.rows.length cc,.slice Gc Xc.gens.length gcc]) (zA HF7) (zA HNB) (by omega);rw [←hW] at q1 q3 q4;have HB8:=zB q1;have HL8:=zB q3;have HF8:=zB q4;clear hW q1 q3 q4)
   have t0:=(zA HB8).cell 2 rfl 0 rfl
   have t1:=(zA HB8).cell 2 rfl 1 rfl
   refine bodyPost_ret (v:=.tuple #[.agg #[.slice Ac Xc.rows.length cc,.slice Gc Xc.gens.length gcc],.int .i64 0]) (by simp [results,Tryz.results32,go_sem,t0,t1]) rfl ?_
   rw [zA HR2]
   exact ⟨Ac,cc,Gc,gcc,rfl,(zA HF8).le (by omega),zA HL8⟩
theorem runon_any (A:Option Addr) (cap:Nat) (G:Option Addr) (gcap:Nat) (X:Wd) (m al no:Int) (A1:Option Addr) (len acap:Nat) (a:Nat→ActI) (w:World) (hX:WldAt w A cap G gcap X) (hr:RightW X) (hA:ActsAt w A1 len a) :
  Calls Tryz.prog 32 #[zz A cap G gcap X,zCQ m al no A1 len acap] w fun e w'=>∃ A' c' G' gc',e=.returned (.tuple #[zz A' c' G' gc' (runF X m al no a len).2,.int .i64 (runF X m al no a len).1])∧WF w.heap.size A G X w' A' c' G' gc' (runF X m al no a len).2∧Below w.heap.size w w':=by
 unfold runF
 by_cases h:(wrF m al no a len).1=0
 ·rw [if_neg (by simpa using h)]
  exact runon_right A cap G gcap X m al no A1 len acap a w hX hr hA h
 ·rw [if_pos h]
  exact (runon_wrong A cap G gcap X m al no A1 len acap a w hX hr hA h).mono fun e w' ⟨he,hb⟩=>⟨none,0,none,0,he,WF.empty _ _ _ _ _,hb⟩
end Go.Proofs.YtnbleebilmghcacGreat
