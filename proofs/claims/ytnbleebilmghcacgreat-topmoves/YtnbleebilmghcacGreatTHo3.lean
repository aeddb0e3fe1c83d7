/- package house: spawn. -/
import Derived.Test.YtnbleebilmghcacGreatTHo2
set_option linter.all false
set_option maxHeartbeats 2000000
set_option maxRecDepth 8000
namespace Go.Proofs.YtnbleebilmghcacGreat
open Go Go.RowKit
attribute [local go_sem ↓] Go.wp_at_zero Go.wp_at_succ
theorem bec_tw {p:Nat} {u2 u3 u4:Value} {err:Int} {Y:Wd} {w w':World} (h:Bec p u2 u3 u4 err Y w w'):Tw (fun b=>b=p) w w':=by
 unfold Bec at h
 split at h
 ·obtain ⟨_,_,_,_,_,_,h⟩:=h;exact h
 ·exact Tw.of_below h
theorem bec_box {p:Nat} {u2 u3 u4:Value} {err:Int} {Y:Wd} {w w':World} (h:Bec p u2 u3 u4 err Y w w') {B:Nat} {l:List (List Value×TypeId)} (hb:Bxs B l w) (hp:p<B):Bxs B l w':=hb.tw (bec_tw h) (fun k _=>by omega)
theorem bec_put {p:Nat} {u2 u3 u4:Value} {err:Int} {Y:Wd} {w W0 W1:World} {us:List Value} (h:Bec p u2 u3 u4 err Y W0 W1) (h0:Below w.heap.size w W0) (hB:Bxs p [(us,82)] w) {c o:Nat} {vs:List Value} (hc:w.heap.size≤c) (hc2:c<W0.heap.size):Bec p u2 u3 u4 err Y w (W1.setCells c o vs):=by
 have hp:p<w.heap.size:=hB.lt (k:=0) rfl
 unfold Bec at h ⊢
 split at h
 ·rename_i he
  obtain ⟨T,tc,G,gc,h1,h2,h3⟩:=h
  rw [if_pos he]
  refine ⟨T,tc,G,gc,h1.turn (by simp only [List.length_cons,List.length_nil];omega),?_,((Tw.of_below (av:=fun b=>b=p) h0).trans h3 (fun _ _ h=>h)).sets (.inr hc)⟩
  exact (h2.tw ((Tw.refl (fun b=>b=c) W1).sets (.inl rfl)) (fun g hg=>by subst hg;exact hc2)).le h0.size
 ·rename_i he
  rw [if_neg he]
  exact zF c hc vs o W1 (h0.trans (h.mono h0.size))
theorem spawnh_any (p:Nat) (T:Option Addr) (tc:Nat) (G:Option Addr) (gc:Nat) (u2 u3 u4:Value) (X:Wd) (has n:Int) (w:World) (hB:Bxs p [([.slice T (zK X).length tc,.slice G X.gens.length gc,u2,u3,u4],82)] w) (hS:StAt w T G (zK X) X) :
  Calls Tryz.prog 38 #[.pointer (some ⟨p,0,none⟩),.int .i64 has,.int .i64 n] w fun e w'=>e=.returned (.agg #[.int .i64 (zW X has n).1,.int .i64 (zW X has n).2.1.1,.int .i64 (zW X has n).2.1.2,.slice none 0 0,.int .i64 0])∧Bec p u2 u3 u4 (zW X has n).1 (zW X has n).2.2 w w':=by
 have hC:=fun W (hb:Below w.heap.size w W)=>sspawn_any T tc G gc (zK X) X has n W (hS.below hb)
 unfold stV zS at hC
 obtain ⟨err,herr⟩:∃ err,err=(zW X has n).1:=⟨_,rfl⟩
 obtain ⟨bi,hbi⟩:∃ bi,bi=(zW X has n).2.1.1:=⟨_,rfl⟩
 obtain ⟨bg,hbg⟩:∃ bg,bg=(zW X has n).2.1.2:=⟨_,rfl⟩
 obtain ⟨Y,hY⟩:∃ Y,Y=(zW X has n).2.2:=⟨_,rfl⟩
 rw [←herr,←hbi,←hbg,←hY] at hC ⊢
 have hBE:=fun T' tc' G' gc' W h=>zCL p T' (zK Y).length tc' G' Y.gens.length gc' err (.slice T (zK X).length tc) (.slice G X.gens.length gc) u2 u3 u4 W h
 unfold stV at hBE
 have HC:=zB hC
 have HBE:=zB hBE
 clear hC hBE hS herr hbi hbg hY
 obtain ⟨W0,hW0,hbx,hX0⟩:=zAL w [([.int .i64 0,.int .i64 0,.int .i64 0,.slice none 0 0,.int .i64 0],64)]
 have HW0:Hid (w.alloc (.cells #[.int .i64 0,.int .i64 0,.int .i64 0,.slice none 0 0,.int .i64 0] 64)=W0):=zB hW0
 clear hW0
 have HZ0:Hid (w.heap.size<W0.heap.size):=zB (hX0.lt (k:=0) rfl)
 have hp:p<w.heap.size:=hB.lt (k:=0) rfl
 have hP0:=hB.below hbx
 have HB:=zB hB
 have HL0:=zB hbx
 have HX0:=zB hX0
 have HP0:=zB hP0
 have s0:=hP0.cell 0 rfl 0 rfl
 have s1:=hP0.cell 0 rfl 1 rfl
 rw [Nat.add_zero] at s0 s1
 clear hbx hX0 hB hP0
 go_enter Tryz.func38,Tryz.ntmps38
 go_upto_region 1 with fail
 rw [zA HW0]
 go_wp2_with fail
 go_at_call 59
 refine (zA HC W0 (zA HL0)).mono ?_
 rintro e w1 ⟨T2,tc2,G2,gc2,rfl,hN2,hb2⟩
 obtain ⟨W2,hW2,hbx,hX2⟩:=zAL w1 [([.slice T2 (zK Y).length tc2,.slice G2 Y.gens.length gc2],28),([.int .i64 bi,.int .i64 bg],39)]
 have HW2:Hid ((w1.alloc (.cells #[.slice T2 (zK Y).length tc2,.slice G2 Y.gens.length gc2] 28)).alloc (.cells #[.int .i64 bi,.int .i64 bg] 39)=W2):=zB hW2
 clear hW2
 have hb02:=hb2.trans (hbx.mono hb2.size)
 have HL2:=zB ((zA HL0).trans (hb02.mono (zA HL0).size))
 have hP2:=(zA HP0).below hb02
 have HX2:=zB ((zA HX0).below hb02)
 have HN2:=zB (hN2.below hbx)
 have HY2:=zB hX2
 have hlt1:w.heap.size<w1.heap.size:=Nat.lt_of_lt_of_le ((zA HX0).lt (k:=0) rfl) hb2.size
 have q0:=hX2.cell 0 rfl 0 rfl
 have q1:=hX2.cell 0 rfl 1 rfl
 rw [Nat.add_zero] at q0 q1
 have HP2:=zB hP2
 clear s0 s1 hbx hN2 hb2 hb02 hX2 hP2 HX0 HP0 HC
 go_upto_region 2 with fail
 rw [zA HW2]
 go_wp2_with fail
 go_at_call 39
 refine (zA HBE T2 tc2 G2 gc2 W2 (zA HP2)).mono ?_
 rintro e w3 ⟨rfl,h1,h2⟩
 obtain ⟨W4,hW4,hbx,hX4⟩:=zAL w3 [([.int .i64 err,.int .i64 0,.int .i64 0,.slice none 0 0,.int .i64 0],64)]
 have HW4:Hid (w3.alloc (.cells #[.int .i64 err,.int .i64 0,.int .i64 0,.slice none 0 0,.int .i64 0] 64)=W4):=zB hW4
 clear hW4
 have hsz2:w1.heap.size+2≤W2.heap.size:=(zA HY2).sz (by simp)
 have hsz3:W2.heap.size≤w3.heap.size:=h2.size
 have hT4:Tw (fun b=>b=p) w W4:=((Tw.of_below (av:=fun b=>b=p) (zA HL2)).trans h2 (fun _ _ h=>h)).trans (Tw.of_below (av:=fun b=>b=p) hbx) (fun _ _ h=>h)
 have HT4:=zB hT4
 have HN3:=zB ((zA HN2).tw h2 (fun g hg=>by subst hg;exact Nat.lt_of_lt_of_le hp (zA HL0).size))
 have HV4:=zB (Tw.of_below (av:=fun b=>b=w.heap.size) hbx)
 have HP4:=zB (h1.below hbx)
 have HX4:=zB (((zA HX2).tw h2 (fun k hk=>by simp at hk;subst hk;omega)).below hbx)
 have hY4:=(((zA HY2).tw h2 (fun k hk=>by omega)).below hbx)
 have HZ4:=zB hX4
 have b0:=hY4.cell 1 rfl 0 rfl
 have b1:=hY4.cell 1 rfl 1 rfl
 clear q0 q1 hbx h1 h2 hT4 hY4 hX4 HX2 HY2 HN2 HP2 HL2 HBE
 go_upto_region 3 with fail
 rw [zA HW4]
 go_wp2_with (first
  | (refine zH rfl 39 (.tmp 28) (.tmp 27) rfl w3.heap.size 1 [.int .i64 bi,.int .i64 bg] rfl rfl (by simp [Value.oneCell']) sz61 (zBL ((zA HZ4).there 0 rfl 5 rfl) 1 2 (by omega)) ?_;intro W5 hW5;have hZ5:=(zA HZ4).part 0 rfl 1 [.int .i64 bi,.int .i64 bg] (by simp);rw [Nat.add_zero,←hW5] at hZ5;have y0:=hZ5.cell 0 rfl 0 rfl;have y1:=hZ5.cell 0 rfl 1 rfl;have y2:=hZ5.cell 0 rfl 2 rfl;have y3:=hZ5.cell 0 rfl 3 rfl;have y4:=hZ5.cell 0 rfl 4 rfl;rw [Nat.add_zero] at y0 y1 y2 y3 y4;have HT5:=zB ((zA HT4).sets (b:=w3.heap.size) (o:=1) (vs:=[.int .i64 bi,.int .i64 bg]) (.inr (by omega)));have HV5:=zB ((zA HV4).sets (b:=w3.heap.size) (o:=1) (vs:=[.int .i64 bi,.int .i64 bg]) (.inr (Nat.le_refl _)));have HP5:=zB ((zA HP4).turn (cb:=w3.heap.size) (o:=1) (vs:=[.int .i64 bi,.int .i64 bg]) (.inr (by simp only [List.length_cons,List.length_nil];omega)));have HX5:=zB ((zA HX4).turn (cb:=w3.heap.size) (o:=1) (vs:=[.int .i64 bi,.int .i64 bg]) (.inr (by simp only [List.length_cons,List.length_nil];omega)));rw [←hW5] at HT5 HV5 HP5 HX5;clear hW5 hZ5)
  | (refine zH rfl 64 (.tmp 6) (.tmp 29) rfl w.heap.size 0 [.int .i64 err,.int .i64 bi,.int .i64 bg,.slice none 0 0,.int .i64 0] rfl rfl (by simp [Value.oneCell']) sz64 ((zA HX5).there 0 rfl 5 rfl) ?_;intro W6 hW6;have HX6:=zB ((zA HX5).give 0 rfl [.int .i64 err,.int .i64 bi,.int .i64 bg,.slice none 0 0,.int .i64 0] rfl);have HT6:=zB ((zA HT5).sets (b:=w.heap.size) (o:=0) (vs:=[.int .i64 err,.int .i64 bi,.int .i64 bg,.slice none 0 0,.int .i64 0]) (.inr (Nat.le_refl _)));have HV6:=zB ((zA HV5).sets (b:=w.heap.size) (o:=0) (vs:=[.int .i64 err,.int .i64 bi,.int .i64 bg,.slice none 0 0,.int .i64 0]) (.inl rfl));have HP6:=zB ((zA HP5).turn (cb:=w.heap.size) (o:=0) (vs:=[.int .i64 err,.int .i64 bi,.int .i64 bg,.slice none 0 0,.int .i64 0]) (.inr (by simp only [List.length_cons,List.length_nil];omega)));rw [←hW6] at HT6 HV6 HP6;rw [Nat.add_zero,←hW6] at HX6;clear hW6))
 have r0:=(zA HX6).cell 0 rfl 0 rfl
 have r1:=(zA HX6).cell 0 rfl 1 rfl
 have r2:=(zA HX6).cell 0 rfl 2 rfl
 have r3:=(zA HX6).cell 0 rfl 3 rfl
 have r4:=(zA HX6).cell 0 rfl 4 rfl
 rw [Nat.add_zero] at r0 r1 r2 r3 r4
 refine bodyPost_ret (v:=.agg #[.int .i64 err,.int .i64 bi,.int .i64 bg,.slice none 0 0,.int .i64 0]) (by simp [results,Tryz.results38,go_sem,r0,r1,r2,r3,r4]) rfl ⟨rfl,?_⟩
 have hP6:=zA HP6
 unfold Bec
 by_cases he:err=0
 ·rw [if_pos he] at hP6 ⊢
  exact ⟨_,_,_,_,hP6,((zA HN3).tw (zA HV6) (fun g hg=>by subst hg;exact (zA HZ0))).le (zA HL0).size,zA HT6⟩
 ·rw [if_neg he] at hP6 ⊢
  exact tw_same (zA HT6) (zA HB) hP6
theorem do_spawn (p:Nat) (T:Option Addr) (tc:Nat) (G:Option Addr) (gc:Nat) (u2 u3 u4:Value) (X:Wd) (d:DoI) (w:World) (hB:Bxs p [([.slice T (zK X).length tc,.slice G X.gens.length gc,u2,u3,u4],82)] w) (hS:StAt w T G (zK X) X) (hk:d.k=1) :
  Calls Tryz.prog 28 #[.pointer (some ⟨p,0,none⟩),doV d] w fun e w'=>e=.returned (.agg #[.int .i64 (zW X d.has d.n).1,.int .i64 (zW X d.has d.n).2.1.1,.int .i64 (zW X d.has d.n).2.1.2,.slice none 0 0,.int .i64 0])∧Bec p u2 u3 u4 (zW X d.has d.n).1 (zW X d.has d.n).2.2 w w':=by
 have hC:=fun W h (hb:Below w.heap.size w W)=>spawnh_any p T tc G gc u2 u3 u4 X d.has d.n W h (hS.below hb)
 obtain ⟨err,herr⟩:∃ err,err=(zW X d.has d.n).1:=⟨_,rfl⟩
 obtain ⟨bi,hbi⟩:∃ bi,bi=(zW X d.has d.n).2.1.1:=⟨_,rfl⟩
 obtain ⟨bg,hbg⟩:∃ bg,bg=(zW X d.has d.n).2.1.2:=⟨_,rfl⟩
 obtain ⟨Y,hY⟩:∃ Y,Y=(zW X d.has d.n).2.2:=⟨_,rfl⟩
 rw [←herr,←hbi,←hbg,←hY] at hC ⊢
 have HC:=zB hC
 clear hC hS herr hbi hbg hY
 obtain ⟨W0,hW0,hbx,hX0⟩:=zAL w [([.int .i64 d.k,.int .i64 d.has,.int .i64 d.p,.int .i64 d.n,.int .i64 d.i,.int .i64 d.g,.int .i64 d.s.m,.int .i64 d.s.al,.int .i64 d.s.no,.slice d.s.A d.s.len d.s.cap,.int .i64 d.fa,.int .i64 d.fn],46),([.int .i64 0,.int .i64 0,.int .i64 0,.slice none 0 0,.int .i64 0],64)]
 have HW0:Hid ((w.alloc (.cells #[.int .i64 d.k,.int .i64 d.has,.int .i64 d.p,.int .i64 d.n,.int .i64 d.i,.int .i64 d.g,.int .i64 d.s.m,.int .i64 d.s.al,.int .i64 d.s.no,.slice d.s.A d.s.len d.s.cap,.int .i64 d.fa,.int .i64 d.fn] 46)).alloc (.cells #[.int .i64 0,.int .i64 0,.int .i64 0,.slice none 0 0,.int .i64 0] 64)=W0):=zB hW0
 clear hW0
 have hP0:=hB.below hbx
 have HB:=zB hB
 have HL0:=zB hbx
 have HX0:=zB hX0
 have HP0:=zB hP0
 have z0:=hX0.cell 0 rfl 0 rfl
 have z1:=hX0.cell 0 rfl 1 rfl
 have z3:=hX0.cell 0 rfl 3 rfl
 have hsz:w.heap.size+2≤W0.heap.size:=hX0.sz (by simp)
 rw [Nat.add_zero] at z0 z1 z3
 rw [hk] at z0
 clear hk
 clear hbx hX0 hB hP0
 unfold doV
 go_enter Tryz.func28,Tryz.ntmps28
 go_upto_region 1 with fail
 rw [zA HW0]
 go_wp2_with (first
  | (go_at_call 38;refine (zA HC W0 (zA HP0) (zA HL0)).mono ?_;rintro e w1 ⟨rfl,hbc⟩;have HBC:=zB hbc;have HX1:=zB (bec_box hbc (zA HX0) ((zA HB).lt (k:=0) rfl));clear hbc)
  | (refine zH rfl 64 (.tmp 4) (.tmp 14) rfl (w.heap.size+1) 0 [.int .i64 err,.int .i64 bi,.int .i64 bg,.slice none 0 0,.int .i64 0] rfl rfl (by simp [Value.oneCell']) sz64 ((zA HX1).there 1 rfl 5 rfl) ?_;intro W2 hW2;have HX2:=zB ((zA HX1).give 1 rfl [.int .i64 err,.int .i64 bi,.int .i64 bg,.slice none 0 0,.int .i64 0] rfl);have HBE:=zB (bec_put (zA HBC) (zA HL0) (zA HB) (c:=w.heap.size+1) (vs:=[.int .i64 err,.int .i64 bi,.int .i64 bg,.slice none 0 0,.int .i64 0]) (o:=0) (by omega) (by omega));rw [←hW2] at HX2 HBE;clear hW2))
 have r0:=(zA HX2).cell 1 rfl 0 rfl
 have r1:=(zA HX2).cell 1 rfl 1 rfl
 have r2:=(zA HX2).cell 1 rfl 2 rfl
 have r3:=(zA HX2).cell 1 rfl 3 rfl
 have r4:=(zA HX2).cell 1 rfl 4 rfl
 refine bodyPost_ret (v:=.agg #[.int .i64 err,.int .i64 bi,.int .i64 bg,.slice none 0 0,.int .i64 0]) (by simp [results,Tryz.results28,go_sem,r0,r1,r2,r3,r4]) rfl ⟨rfl,zA HBE⟩
end Go.Proofs.YtnbleebilmghcacGreat
