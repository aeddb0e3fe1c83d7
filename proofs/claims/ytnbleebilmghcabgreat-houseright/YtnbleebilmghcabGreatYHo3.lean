/- package house: spawn. -/
import Derived.Test.YtnbleebilmghcabGreatYHo2
set_option linter.all false
set_option maxHeartbeats 2000000
set_option maxRecDepth 8000
namespace Go.Proofs.YtnbleebilmghcabGreat
open Go Go.RowKit
attribute [local go_sem ↓] Go.wp_at_zero Go.wp_at_succ
theorem bec_tw {p:Nat} {u2 u3 u4:Value} {err:Int} {Y:Wd} {w w':World} (h:Bec p u2 u3 u4 err Y w w'):Tw (fun b=>b=p) w w':=by
 unfold Bec at h
 split at h
 ·obtain ⟨_,_,_,_,_,_,h⟩:=h;exact h
 ·exact Tw.of_below h
theorem bec_box {p:Nat} {u2 u3 u4:Value} {err:Int} {Y:Wd} {w w':World} (h:Bec p u2 u3 u4 err Y w w') {B:Nat} {l:List (List Value×TypeId)} (hb:Bxs B l w) (hp:p<B):Bxs B l w':=hb.tw (bec_tw h) (fun k _=>by omega)
theorem bec_put {p:Nat} {u2 u3 u4:Value} {err:Int} {Y:Wd} {w W0 W1:World} {us:List Value} (h:Bec p u2 u3 u4 err Y W0 W1) (h0:Below w.heap.size w W0) (hB:Bxs p [(us,87)] w) {c o:Nat} {vs:List Value} (hc:w.heap.size≤c) (hc2:c<W0.heap.size):Bec p u2 u3 u4 err Y w (W1.setCells c o vs):=by
 have hp:p<w.heap.size:=hB.lt (k:=0) rfl
 unfold Bec at h ⊢
 split at h
 ·rename_i he
  obtain ⟨T,tc,G,gc,h1,h2,h3⟩:=h
  rw [if_pos he]
  refine ⟨T,tc,G,gc,h1.turn (by simp only [List.length_cons,List.length_nil];omega),?_,((Tw.of_below (av:=fun b=>b=p) h0).trans h3 (fun _ _ h=>h)).sets (.inr hc)⟩
  exact (h2.tw ((Tw.refl (fun b=>b=c) W1).sets (.inl rfl)) (fun g hg=>by subst hg;exact hc2)).le h0.size
 ·rename_i he
  rw [if_neg he]
  exact below_setCells c hc vs o W1 (h0.trans (h.mono h0.size))
theorem spawnh_any (p:Nat) (T:Option Addr) (tc:Nat) (G:Option Addr) (gc:Nat) (u2 u3 u4:Value) (X:Wd) (has n:Int) (w:World) (hB:Bxs p [([.slice T (tabsW X).length tc,.slice G X.gens.length gc,u2,u3,u4],87)] w) (hS:StAt w T G (tabsW X) X) :
  Calls Tryz.prog 72 #[.pointer (some ⟨p,0,none⟩),.int .i64 has,.int .i64 n] w fun e w'=>e=.returned (.agg #[.int .i64 (spawnF X has n).1,.int .i64 (spawnF X has n).2.1.1,.int .i64 (spawnF X has n).2.1.2,.slice none 0 0,.int .i64 0])∧Bec p u2 u3 u4 (spawnF X has n).1 (spawnF X has n).2.2 w w':=by
 have hC:=fun W (hb:Below w.heap.size w W)=>sspawn_any T tc G gc (tabsW X) X has n W (hS.below hb)
 unfold stV beingV at hC
 obtain ⟨err,herr⟩:∃ err,err=(spawnF X has n).1:=⟨_,rfl⟩
 obtain ⟨bi,hbi⟩:∃ bi,bi=(spawnF X has n).2.1.1:=⟨_,rfl⟩
 obtain ⟨bg,hbg⟩:∃ bg,bg=(spawnF X has n).2.1.2:=⟨_,rfl⟩
 obtain ⟨Y,hY⟩:∃ Y,Y=(spawnF X has n).2.2:=⟨_,rfl⟩
 rw [←herr,←hbi,←hbg,←hY] at hC ⊢
 have hBE:=fun T' tc' G' gc' W h=>become_any p T' (tabsW Y).length tc' G' Y.gens.length gc' err (.slice T (tabsW X).length tc) (.slice G X.gens.length gc) u2 u3 u4 W h
 unfold stV at hBE
 have HC:=hide hC
 have HBE:=hide hBE
 clear hC hBE hS herr hbi hbg hY
 obtain ⟨W0,hW0,hbx,hX0⟩:=boxed w [([.int .i64 0,.int .i64 0,.int .i64 0,.slice none 0 0,.int .i64 0],64)]
 have HW0:Hid (w.alloc (.cells #[.int .i64 0,.int .i64 0,.int .i64 0,.slice none 0 0,.int .i64 0] 64)=W0):=hide hW0
 clear hW0
 have HZ0:Hid (w.heap.size<W0.heap.size):=hide (hX0.lt (k:=0) rfl)
 have hp:p<w.heap.size:=hB.lt (k:=0) rfl
 have hP0:=hB.below hbx
 have HB:=hide hB
 have HL0:=hide hbx
 have HX0:=hide hX0
 have HP0:=hide hP0
 have s0:=hP0.cell 0 rfl 0 rfl
 have s1:=hP0.cell 0 rfl 1 rfl
 rw [Nat.add_zero] at s0 s1
 clear hbx hX0 hB hP0
 go_enter Tryz.func72,Tryz.ntmps72
 go_upto_region 1 with fail
 rw [unhide HW0]
 go_wp2_with fail
 go_at_call 108
 refine (unhide HC W0 (unhide HL0)).mono ?_
 rintro e w1 ⟨T2,tc2,G2,gc2,rfl,hN2,hb2⟩
 obtain ⟨W2,hW2,hbx,hX2⟩:=boxed w1 [([.slice T2 (tabsW Y).length tc2,.slice G2 Y.gens.length gc2],25),([.int .i64 bi,.int .i64 bg],61)]
 have HW2:Hid ((w1.alloc (.cells #[.slice T2 (tabsW Y).length tc2,.slice G2 Y.gens.length gc2] 25)).alloc (.cells #[.int .i64 bi,.int .i64 bg] 61)=W2):=hide hW2
 clear hW2
 have hb02:=hb2.trans (hbx.mono hb2.size)
 have HL2:=hide ((unhide HL0).trans (hb02.mono (unhide HL0).size))
 have hP2:=(unhide HP0).below hb02
 have HX2:=hide ((unhide HX0).below hb02)
 have HN2:=hide (hN2.below hbx)
 have HY2:=hide hX2
 have hlt1:w.heap.size<w1.heap.size:=Nat.lt_of_lt_of_le ((unhide HX0).lt (k:=0) rfl) hb2.size
 have q0:=hX2.cell 0 rfl 0 rfl
 have q1:=hX2.cell 0 rfl 1 rfl
 rw [Nat.add_zero] at q0 q1
 have HP2:=hide hP2
 clear s0 s1 hbx hN2 hb2 hb02 hX2 hP2 HX0 HP0 HC
 go_upto_region 2 with fail
 rw [unhide HW2]
 go_wp2_with fail
 go_at_call 73
 refine (unhide HBE T2 tc2 G2 gc2 W2 (unhide HP2)).mono ?_
 rintro e w3 ⟨rfl,h1,h2⟩
 obtain ⟨W4,hW4,hbx,hX4⟩:=boxed w3 [([.int .i64 err,.int .i64 0,.int .i64 0,.slice none 0 0,.int .i64 0],64)]
 have HW4:Hid (w3.alloc (.cells #[.int .i64 err,.int .i64 0,.int .i64 0,.slice none 0 0,.int .i64 0] 64)=W4):=hide hW4
 clear hW4
 have hsz2:w1.heap.size+2≤W2.heap.size:=(unhide HY2).sz (by simp)
 have hsz3:W2.heap.size≤w3.heap.size:=h2.size
 have hT4:Tw (fun b=>b=p) w W4:=((Tw.of_below (av:=fun b=>b=p) (unhide HL2)).trans h2 (fun _ _ h=>h)).trans (Tw.of_below (av:=fun b=>b=p) hbx) (fun _ _ h=>h)
 have HT4:=hide hT4
 have HN3:=hide ((unhide HN2).tw h2 (fun g hg=>by subst hg;exact Nat.lt_of_lt_of_le hp (unhide HL0).size))
 have HV4:=hide (Tw.of_below (av:=fun b=>b=w.heap.size) hbx)
 have HP4:=hide (h1.below hbx)
 have HX4:=hide (((unhide HX2).tw h2 (fun k hk=>by simp at hk;subst hk;omega)).below hbx)
 have hY4:=(((unhide HY2).tw h2 (fun k hk=>by omega)).below hbx)
 have HZ4:=hide hX4
 have b0:=hY4.cell 1 rfl 0 rfl
 have b1:=hY4.cell 1 rfl 1 rfl
 clear q0 q1 hbx h1 h2 hT4 hY4 hX4 HX2 HY2 HN2 HP2 HL2 HBE
 go_upto_region 3 with fail
 rw [unhide HW4]
 go_wp2_with (first
  | (refine wpList_putN rfl 61 (.tmp 28) (.tmp 27) rfl w3.heap.size 1 [.int .i64 bi,.int .i64 bg] rfl rfl (by simp [Value.oneCell']) sz61 (there_part ((unhide HZ4).there 0 rfl 5 rfl) 1 2 (by omega)) ?_;intro W5 hW5;have hZ5:=(unhide HZ4).part 0 rfl 1 [.int .i64 bi,.int .i64 bg] (by simp);rw [Nat.add_zero,←hW5] at hZ5;have y0:=hZ5.cell 0 rfl 0 rfl;have y1:=hZ5.cell 0 rfl 1 rfl;have y2:=hZ5.cell 0 rfl 2 rfl;have y3:=hZ5.cell 0 rfl 3 rfl;have y4:=hZ5.cell 0 rfl 4 rfl;rw [Nat.add_zero] at y0 y1 y2 y3 y4;have HT5:=hide ((unhide HT4).sets (b:=w3.heap.size) (o:=1) (vs:=[.int .i64 bi,.int .i64 bg]) (.inr (by omega)));have HV5:=hide ((unhide HV4).sets (b:=w3.heap.size) (o:=1) (vs:=[.int .i64 bi,.int .i64 bg]) (.inr (Nat.le_refl _)));have HP5:=hide ((unhide HP4).turn (cb:=w3.heap.size) (o:=1) (vs:=[.int .i64 bi,.int .i64 bg]) (.inr (by simp only [List.length_cons,List.length_nil];omega)));have HX5:=hide ((unhide HX4).turn (cb:=w3.heap.size) (o:=1) (vs:=[.int .i64 bi,.int .i64 bg]) (.inr (by simp only [List.length_cons,List.length_nil];omega)));rw [←hW5] at HT5 HV5 HP5 HX5;clear hW5 hZ5)
  | (refine wpList_putN rfl 64 (.tmp 6) (.tmp 29) rfl w.heap.size 0 [.int .i64 err,.int .i64 bi,.int .i64 bg,.slice none 0 0,.int .i64 0] rfl rfl (by simp [Value.oneCell']) sz64 ((unhide HX5).there 0 rfl 5 rfl) ?_;intro W6 hW6;have HX6:=hide ((unhide HX5).give 0 rfl [.int .i64 err,.int .i64 bi,.int .i64 bg,.slice none 0 0,.int .i64 0] rfl);have HT6:=hide ((unhide HT5).sets (b:=w.heap.size) (o:=0) (vs:=[.int .i64 err,.int .i64 bi,.int .i64 bg,.slice none 0 0,.int .i64 0]) (.inr (Nat.le_refl _)));have HV6:=hide ((unhide HV5).sets (b:=w.heap.size) (o:=0) (vs:=[.int .i64 err,.int .i64 bi,.int .i64 bg,.slice none 0 0,.int .i64 0]) (.inl rfl));have HP6:=hide ((unhide HP5).turn (cb:=w.heap.size) (o:=0) (vs:=[.int .i64 err,.int .i64 bi,.int .i64 bg,.slice none 0 0,.int .i64 0]) (.inr (by simp only [List.length_cons,List.length_nil];omega)));rw [←hW6] at HT6 HV6 HP6;rw [Nat.add_zero,←hW6] at HX6;clear hW6))
 have r0:=(unhide HX6).cell 0 rfl 0 rfl
 have r1:=(unhide HX6).cell 0 rfl 1 rfl
 have r2:=(unhide HX6).cell 0 rfl 2 rfl
 have r3:=(unhide HX6).cell 0 rfl 3 rfl
 have r4:=(unhide HX6).cell 0 rfl 4 rfl
 rw [Nat.add_zero] at r0 r1 r2 r3 r4
 refine bodyPost_ret (v:=.agg #[.int .i64 err,.int .i64 bi,.int .i64 bg,.slice none 0 0,.int .i64 0]) (by simp [results,Tryz.results72,go_sem,r0,r1,r2,r3,r4]) rfl ⟨rfl,?_⟩
 have hP6:=unhide HP6
 unfold Bec
 by_cases he:err=0
 ·rw [if_pos he] at hP6 ⊢
  exact ⟨_,_,_,_,hP6,((unhide HN3).tw (unhide HV6) (fun g hg=>by subst hg;exact (unhide HZ0))).le (unhide HL0).size,unhide HT6⟩
 ·rw [if_neg he] at hP6 ⊢
  exact tw_same (unhide HT6) (unhide HB) hP6
theorem do_spawn (p:Nat) (T:Option Addr) (tc:Nat) (G:Option Addr) (gc:Nat) (u2 u3 u4:Value) (X:Wd) (d:DoI) (w:World) (hB:Bxs p [([.slice T (tabsW X).length tc,.slice G X.gens.length gc,u2,u3,u4],87)] w) (hS:StAt w T G (tabsW X) X) (hk:d.k=1) :
  Calls Tryz.prog 42 #[.pointer (some ⟨p,0,none⟩),doV d] w fun e w'=>e=.returned (.agg #[.int .i64 (spawnF X d.has d.n).1,.int .i64 (spawnF X d.has d.n).2.1.1,.int .i64 (spawnF X d.has d.n).2.1.2,.slice none 0 0,.int .i64 0])∧Bec p u2 u3 u4 (spawnF X d.has d.n).1 (spawnF X d.has d.n).2.2 w w':=by
 have hC:=fun W h (hb:Below w.heap.size w W)=>spawnh_any p T tc G gc u2 u3 u4 X d.has d.n W h (hS.below hb)
 obtain ⟨err,herr⟩:∃ err,err=(spawnF X d.has d.n).1:=⟨_,rfl⟩
 obtain ⟨bi,hbi⟩:∃ bi,bi=(spawnF X d.has d.n).2.1.1:=⟨_,rfl⟩
 obtain ⟨bg,hbg⟩:∃ bg,bg=(spawnF X d.has d.n).2.1.2:=⟨_,rfl⟩
 obtain ⟨Y,hY⟩:∃ Y,Y=(spawnF X d.has d.n).2.2:=⟨_,rfl⟩
 rw [←herr,←hbi,←hbg,←hY] at hC ⊢
 have HC:=hide hC
 clear hC hS herr hbi hbg hY
 obtain ⟨W0,hW0,hbx,hX0⟩:=boxed w [([.int .i64 d.k,.int .i64 d.has,.int .i64 d.p,.int .i64 d.n,.int .i64 d.i,.int .i64 d.g,.int .i64 d.s.m,.int .i64 d.s.al,.int .i64 d.s.no,.slice d.s.A d.s.len d.s.cap,.int .i64 d.fa,.int .i64 d.fn],89),([.int .i64 0,.int .i64 0,.int .i64 0,.slice none 0 0,.int .i64 0],64)]
 have HW0:Hid ((w.alloc (.cells #[.int .i64 d.k,.int .i64 d.has,.int .i64 d.p,.int .i64 d.n,.int .i64 d.i,.int .i64 d.g,.int .i64 d.s.m,.int .i64 d.s.al,.int .i64 d.s.no,.slice d.s.A d.s.len d.s.cap,.int .i64 d.fa,.int .i64 d.fn] 89)).alloc (.cells #[.int .i64 0,.int .i64 0,.int .i64 0,.slice none 0 0,.int .i64 0] 64)=W0):=hide hW0
 clear hW0
 have hP0:=hB.below hbx
 have HB:=hide hB
 have HL0:=hide hbx
 have HX0:=hide hX0
 have HP0:=hide hP0
 have z0:=hX0.cell 0 rfl 0 rfl
 have z1:=hX0.cell 0 rfl 1 rfl
 have z3:=hX0.cell 0 rfl 3 rfl
 have hsz:w.heap.size+2≤W0.heap.size:=hX0.sz (by simp)
 rw [Nat.add_zero] at z0 z1 z3
 rw [hk] at z0
 clear hk
 clear hbx hX0 hB hP0
 unfold doV
 go_enter Tryz.func42,Tryz.ntmps42
 go_upto_region 1 with fail
 rw [unhide HW0]
 go_wp2_with (first
  | (go_at_call 72;refine (unhide HC W0 (unhide HP0) (unhide HL0)).mono ?_;rintro e w1 ⟨rfl,hbc⟩;have HBC:=hide hbc;have HX1:=hide (bec_box hbc (unhide HX0) ((unhide HB).lt (k:=0) rfl));clear hbc)
  | (refine wpList_putN rfl 64 (.tmp 4) (.tmp 14) rfl (w.heap.size+1) 0 [.int .i64 err,.int .i64 bi,.int .i64 bg,.slice none 0 0,.int .i64 0] rfl rfl (by simp [Value.oneCell']) sz64 ((unhide HX1).there 1 rfl 5 rfl) ?_;intro W2 hW2;have HX2:=hide ((unhide HX1).give 1 rfl [.int .i64 err,.int .i64 bi,.int .i64 bg,.slice none 0 0,.int .i64 0] rfl);have HBE:=hide (bec_put (unhide HBC) (unhide HL0) (unhide HB) (c:=w.heap.size+1) (vs:=[.int .i64 err,.int .i64 bi,.int .i64 bg,.slice none 0 0,.int .i64 0]) (o:=0) (by omega) (by omega));rw [←hW2] at HX2 HBE;clear hW2))
 have r0:=(unhide HX2).cell 1 rfl 0 rfl
 have r1:=(unhide HX2).cell 1 rfl 1 rfl
 have r2:=(unhide HX2).cell 1 rfl 2 rfl
 have r3:=(unhide HX2).cell 1 rfl 3 rfl
 have r4:=(unhide HX2).cell 1 rfl 4 rfl
 refine bodyPost_ret (v:=.agg #[.int .i64 err,.int .i64 bi,.int .i64 bg,.slice none 0 0,.int .i64 0]) (by simp [results,Tryz.results42,go_sem,r0,r1,r2,r3,r4]) rfl ⟨rfl,unhide HBE⟩
end Go.Proofs.YtnbleebilmghcabGreat
