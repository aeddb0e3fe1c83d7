/- SFour, SGet -/
import Derived.Test.YtnbleebilmghcacGreatJO
set_option linter.all false
set_option maxHeartbeats 4000000
set_option maxRecDepth 8000
namespace Go.Proofs.YtnbleebilmghcacGreat
open Go Go.RowKit
attribute [local go_sem ↓] Go.wp_at_zero Go.wp_at_succ
theorem skill_any (T:Option Addr) (tcap:Nat) (G:Option Addr) (gcap:Nat) (tabs:List TabI) (X:Wd) (i g:Int) (w:World) (h:StAt w T G tabs X) :
  Calls Tryz.prog 40 #[stV T tabs.length tcap G X.gens.length gcap,zS i g] w fun e w'=>∃ T' tc' G' gc',e=.returned (.tuple #[stV T' (zK (zAR X i g).2).length tc' G' (zAR X i g).2.gens.length gc',.int .i64 (zAR X i g).1])∧StNew w.heap.size w' T' G' (zK (zAR X i g).2) (zAR X i g).2∧Below w.heap.size w w':=by
 have hl:=(zAT ((zr X).2 h.right)).1
 have hBX:=Bxs.start w [([.slice T tabs.length tcap,.slice G X.gens.length gcap],28),([.int .i64 i,.int .i64 g],39),([.slice none 0 0,.slice none 0 0],28)]
 have hb:=allocs_below [([.slice T tabs.length tcap,.slice G X.gens.length gcap],28),([.int .i64 i,.int .i64 g],39),([.slice none 0 0,.slice none 0 0],28)] w
 have hs:=allocs_size [([.slice T tabs.length tcap,.slice G X.gens.length gcap],28),([.int .i64 i,.int .i64 g],39),([.slice none 0 0,.slice none 0 0],28)] w
 obtain ⟨W,hW⟩:∃ W,W=zAQ w [([.slice T tabs.length tcap,.slice G X.gens.length gcap],28),([.int .i64 i,.int .i64 g],39),([.slice none 0 0,.slice none 0 0],28)]:=⟨_,rfl⟩
 rw [←hW] at hBX hb hs
 have hCH:=zCR 61 [.pointer (some ⟨w.heap.size+1,0,none⟩)] T tcap G gcap tabs X (zAR X i g).2 (zAR X i g).1 0 [] W (h.below hb) (by rw [hs];simp) (fun e=>(kill_keeps e).1) kill_no (becomes_kill X (w.heap.size+1) g i W hl (hBX.cell 1 rfl 0 rfl) (hBX.cell 1 rfl 1 rfl)) enters100
 obtain ⟨Y,hY⟩:∃ Y,Y=(zAR X i g).2:=⟨_,rfl⟩
 obtain ⟨err,herr⟩:∃ err,err=(zAR X i g).1:=⟨_,rfl⟩
 rw [←hY,←herr] at hCH ⊢
 have hW':((w.alloc (.cells #[.slice T tabs.length tcap,.slice G X.gens.length gcap] 28)).alloc (.cells #[.int .i64 i,.int .i64 g] 39)).alloc (.cells #[.slice none 0 0,.slice none 0 0] 28)=W:=hW.symm
 have HW:=zB hW'
 have HB:=zB hBX
 have HBL:=zB hb
 have HS:=zB hs
 unfold stV at hCH
 have HCH:=zB hCH
 clear hW hW' hBX hb hs hCH h hY herr hl
 unfold stV zS
 go_enter Tryz.func40,Tryz.ntmps40
 go_wp2_with fail
 go_at_call 60
 rw [zA HW]
 refine (zA HCH).mono ?_
 rintro e w4 ⟨T4,tc4,G4,gc4,rfl,hN4,hb4⟩
 have hb4:Below W.heap.size W w4:=hb4
 have HB4:=zB ((zA HB).below hb4)
 have HL4:=zB ((zA HBL).trans (hb4.mono (zA HBL).size))
 have HN4:=zB (hN4.le (base':=w.heap.size+3) (by rw [zA HS];simp))
 clear hN4 hb4 HW HB HBL HCH HS
 go_wp2_with ((refine zH rfl 28 (.tmp 4) (.tmp 9) rfl (w.heap.size+2) 0 [.slice T4 (zK Y).length tc4,.slice G4 Y.gens.length gc4] rfl rfl (by simp [Value.oneCell']) size71 ((zA HB4).there 2 rfl 2 rfl) ?_;intro W8 hW8;have hB8:=(zA HB4).give 2 rfl [.slice T4 (zK Y).length tc4,.slice G4 Y.gens.length gc4] rfl;have hN8:=(zA HN4).putc (b:=w.heap.size+2) (o:=0) (vs:=[.slice T4 (zK Y).length tc4,.slice G4 Y.gens.length gc4]) (by omega);have hL8:=zF (w.heap.size+2) (by omega) [.slice T4 (zK Y).length tc4,.slice G4 Y.gens.length gc4] 0 w4 (zA HL4);rw [←hW8] at hB8 hN8 hL8;have HB8:=zB hB8;have HN8:=zB hN8;have HL8:=zB hL8;clear hW8 hB8 hN8 hL8))
 have t0:=(zA HB8).cell 2 rfl 0 rfl
 have t1:=(zA HB8).cell 2 rfl 1 rfl
 refine bodyPost_ret (v:=.tuple #[.agg #[.slice T4 (zK Y).length tc4,.slice G4 Y.gens.length gc4],.int .i64 err]) (by simp [results,Tryz.results40,go_sem,t0,t1]) rfl ⟨T4,tc4,G4,gc4,rfl,(zA HN8).le (by omega),zA HL8⟩
theorem sput_any (T:Option Addr) (tcap:Nat) (G:Option Addr) (gcap:Nat) (tabs:List TabI) (X:Wd) (i g p n:Int) (w:World) (h:StAt w T G tabs X) :
  Calls Tryz.prog 41 #[stV T tabs.length tcap G X.gens.length gcap,zS i g,.int .i64 p,.int .i64 n] w fun e w'=>∃ T' tc' G' gc',e=.returned (.tuple #[stV T' (zK (zCN X i g p n).2).length tc' G' (zCN X i g p n).2.gens.length gc',.int .i64 (zCN X i g p n).1])∧StNew w.heap.size w' T' G' (zK (zCN X i g p n).2) (zCN X i g p n).2∧Below w.heap.size w w':=by
 have hl:=(zAT ((zr X).2 h.right)).1
 have hBX:=Bxs.start w [([.slice T tabs.length tcap,.slice G X.gens.length gcap],28),([.int .i64 i,.int .i64 g],39),([.int .i64 p],3),([.int .i64 n],3),([.slice none 0 0,.slice none 0 0],28)]
 have hb:=allocs_below [([.slice T tabs.length tcap,.slice G X.gens.length gcap],28),([.int .i64 i,.int .i64 g],39),([.int .i64 p],3),([.int .i64 n],3),([.slice none 0 0,.slice none 0 0],28)] w
 have hs:=allocs_size [([.slice T tabs.length tcap,.slice G X.gens.length gcap],28),([.int .i64 i,.int .i64 g],39),([.int .i64 p],3),([.int .i64 n],3),([.slice none 0 0,.slice none 0 0],28)] w
 obtain ⟨W,hW⟩:∃ W,W=zAQ w [([.slice T tabs.length tcap,.slice G X.gens.length gcap],28),([.int .i64 i,.int .i64 g],39),([.int .i64 p],3),([.int .i64 n],3),([.slice none 0 0,.slice none 0 0],28)]:=⟨_,rfl⟩
 rw [←hW] at hBX hb hs
 have hCH:=zCR 63 [.pointer (some ⟨w.heap.size+1,0,none⟩),.pointer (some ⟨w.heap.size+2,0,none⟩),.pointer (some ⟨w.heap.size+3,0,none⟩)] T tcap G gcap tabs X (zCN X i g p n).2 (zCN X i g p n).1 0 [] W (h.below hb) (by rw [hs];simp) (fun e=>(put_keeps e).1) ch_no (becomes_put X (w.heap.size+1) (w.heap.size+2) (w.heap.size+3) g i n p W hl (hBX.cell 1 rfl 0 rfl) (hBX.cell 1 rfl 1 rfl) (hBX.cell 2 rfl 0 rfl) (hBX.cell 3 rfl 0 rfl)) enters99
 obtain ⟨Y,hY⟩:∃ Y,Y=(zCN X i g p n).2:=⟨_,rfl⟩
 obtain ⟨err,herr⟩:∃ err,err=(zCN X i g p n).1:=⟨_,rfl⟩
 rw [←hY,←herr] at hCH ⊢
 have hW':((((w.alloc (.cells #[.slice T tabs.length tcap,.slice G X.gens.length gcap] 28)).alloc (.cells #[.int .i64 i,.int .i64 g] 39)).alloc (.cells #[.int .i64 p] 3)).alloc (.cells #[.int .i64 n] 3)).alloc (.cells #[.slice none 0 0,.slice none 0 0] 28)=W:=hW.symm
 have HW:=zB hW'
 have HB:=zB hBX
 have HBL:=zB hb
 have HS:=zB hs
 unfold stV at hCH
 have HCH:=zB hCH
 clear hW hW' hBX hb hs hCH h hY herr hl
 unfold stV zS
 go_enter Tryz.func41,Tryz.ntmps41
 go_wp2_with fail
 go_at_call 60
 rw [zA HW]
 refine (zA HCH).mono ?_
 rintro e w4 ⟨T4,tc4,G4,gc4,rfl,hN4,hb4⟩
 have hb4:Below W.heap.size W w4:=hb4
 have HB4:=zB ((zA HB).below hb4)
 have HL4:=zB ((zA HBL).trans (hb4.mono (zA HBL).size))
 have HN4:=zB (hN4.le (base':=w.heap.size+5) (by rw [zA HS];simp))
 clear hN4 hb4 HW HB HBL HCH HS
 go_wp2_with ((refine zH rfl 28 (.tmp 8) (.tmp 13) rfl (w.heap.size+4) 0 [.slice T4 (zK Y).length tc4,.slice G4 Y.gens.length gc4] rfl rfl (by simp [Value.oneCell']) size71 ((zA HB4).there 4 rfl 2 rfl) ?_;intro W8 hW8;have hB8:=(zA HB4).give 4 rfl [.slice T4 (zK Y).length tc4,.slice G4 Y.gens.length gc4] rfl;have hN8:=(zA HN4).putc (b:=w.heap.size+4) (o:=0) (vs:=[.slice T4 (zK Y).length tc4,.slice G4 Y.gens.length gc4]) (by omega);have hL8:=zF (w.heap.size+4) (by omega) [.slice T4 (zK Y).length tc4,.slice G4 Y.gens.length gc4] 0 w4 (zA HL4);rw [←hW8] at hB8 hN8 hL8;have HB8:=zB hB8;have HN8:=zB hN8;have HL8:=zB hL8;clear hW8 hB8 hN8 hL8))
 have t0:=(zA HB8).cell 4 rfl 0 rfl
 have t1:=(zA HB8).cell 4 rfl 1 rfl
 refine bodyPost_ret (v:=.tuple #[.agg #[.slice T4 (zK Y).length tc4,.slice G4 Y.gens.length gc4],.int .i64 err]) (by simp [results,Tryz.results41,go_sem,t0,t1]) rfl ⟨T4,tc4,G4,gc4,rfl,(zA HN8).le (by omega),zA HL8⟩
theorem sdrop_any (T:Option Addr) (tcap:Nat) (G:Option Addr) (gcap:Nat) (tabs:List TabI) (X:Wd) (i g p:Int) (w:World) (h:StAt w T G tabs X) :
  Calls Tryz.prog 42 #[stV T tabs.length tcap G X.gens.length gcap,zS i g,.int .i64 p] w fun e w'=>∃ T' tc' G' gc',e=.returned (.tuple #[stV T' (zK (zAW X i g p).2).length tc' G' (zAW X i g p).2.gens.length gc',.int .i64 (zAW X i g p).1])∧StNew w.heap.size w' T' G' (zK (zAW X i g p).2) (zAW X i g p).2∧Below w.heap.size w w':=by
 have hl:=(zAT ((zr X).2 h.right)).1
 have hBX:=Bxs.start w [([.slice T tabs.length tcap,.slice G X.gens.length gcap],28),([.int .i64 i,.int .i64 g],39),([.int .i64 p],3),([.slice none 0 0,.slice none 0 0],28)]
 have hb:=allocs_below [([.slice T tabs.length tcap,.slice G X.gens.length gcap],28),([.int .i64 i,.int .i64 g],39),([.int .i64 p],3),([.slice none 0 0,.slice none 0 0],28)] w
 have hs:=allocs_size [([.slice T tabs.length tcap,.slice G X.gens.length gcap],28),([.int .i64 i,.int .i64 g],39),([.int .i64 p],3),([.slice none 0 0,.slice none 0 0],28)] w
 obtain ⟨W,hW⟩:∃ W,W=zAQ w [([.slice T tabs.length tcap,.slice G X.gens.length gcap],28),([.int .i64 i,.int .i64 g],39),([.int .i64 p],3),([.slice none 0 0,.slice none 0 0],28)]:=⟨_,rfl⟩
 rw [←hW] at hBX hb hs
 have hCH:=zCR 65 [.pointer (some ⟨w.heap.size+1,0,none⟩),.pointer (some ⟨w.heap.size+2,0,none⟩)] T tcap G gcap tabs X (zAW X i g p).2 (zAW X i g p).1 0 [] W (h.below hb) (by rw [hs];simp) (fun e=>(drop_keeps e).1) ch_no (becomes_drop X (w.heap.size+1) (w.heap.size+2) g i p W hl (hBX.cell 1 rfl 0 rfl) (hBX.cell 1 rfl 1 rfl) (hBX.cell 2 rfl 0 rfl)) enters101
 obtain ⟨Y,hY⟩:∃ Y,Y=(zAW X i g p).2:=⟨_,rfl⟩
 obtain ⟨err,herr⟩:∃ err,err=(zAW X i g p).1:=⟨_,rfl⟩
 rw [←hY,←herr] at hCH ⊢
 have hW':(((w.alloc (.cells #[.slice T tabs.length tcap,.slice G X.gens.length gcap] 28)).alloc (.cells #[.int .i64 i,.int .i64 g] 39)).alloc (.cells #[.int .i64 p] 3)).alloc (.cells #[.slice none 0 0,.slice none 0 0] 28)=W:=hW.symm
 have HW:=zB hW'
 have HB:=zB hBX
 have HBL:=zB hb
 have HS:=zB hs
 unfold stV at hCH
 have HCH:=zB hCH
 clear hW hW' hBX hb hs hCH h hY herr hl
 unfold stV zS
 go_enter Tryz.func42,Tryz.ntmps42
 go_wp2_with fail
 go_at_call 60
 rw [zA HW]
 refine (zA HCH).mono ?_
 rintro e w4 ⟨T4,tc4,G4,gc4,rfl,hN4,hb4⟩
 have hb4:Below W.heap.size W w4:=hb4
 have HB4:=zB ((zA HB).below hb4)
 have HL4:=zB ((zA HBL).trans (hb4.mono (zA HBL).size))
 have HN4:=zB (hN4.le (base':=w.heap.size+4) (by rw [zA HS];simp))
 clear hN4 hb4 HW HB HBL HCH HS
 go_wp2_with ((refine zH rfl 28 (.tmp 6) (.tmp 11) rfl (w.heap.size+3) 0 [.slice T4 (zK Y).length tc4,.slice G4 Y.gens.length gc4] rfl rfl (by simp [Value.oneCell']) size71 ((zA HB4).there 3 rfl 2 rfl) ?_;intro W8 hW8;have hB8:=(zA HB4).give 3 rfl [.slice T4 (zK Y).length tc4,.slice G4 Y.gens.length gc4] rfl;have hN8:=(zA HN4).putc (b:=w.heap.size+3) (o:=0) (vs:=[.slice T4 (zK Y).length tc4,.slice G4 Y.gens.length gc4]) (by omega);have hL8:=zF (w.heap.size+3) (by omega) [.slice T4 (zK Y).length tc4,.slice G4 Y.gens.length gc4] 0 w4 (zA HL4);rw [←hW8] at hB8 hN8 hL8;have HB8:=zB hB8;have HN8:=zB hN8;have HL8:=zB hL8;clear hW8 hB8 hN8 hL8))
 have t0:=(zA HB8).cell 3 rfl 0 rfl
 have t1:=(zA HB8).cell 3 rfl 1 rfl
 refine bodyPost_ret (v:=.tuple #[.agg #[.slice T4 (zK Y).length tc4,.slice G4 Y.gens.length gc4],.int .i64 err]) (by simp [results,Tryz.results42,go_sem,t0,t1]) rfl ⟨T4,tc4,G4,gc4,rfl,(zA HN8).le (by omega),zA HL8⟩
theorem sspawn_any (T:Option Addr) (tcap:Nat) (G:Option Addr) (gcap:Nat) (tabs:List TabI) (X:Wd) (has n:Int) (w:World) (h:StAt w T G tabs X) :
  Calls Tryz.prog 59 #[stV T tabs.length tcap G X.gens.length gcap,.int .i64 has,.int .i64 n] w fun e w'=>∃ T' tc' G' gc',e=.returned (.tuple #[stV T' (zK (zW X has n).2.2).length tc' G' (zW X has n).2.2.gens.length gc',zS (zW X has n).2.1.1 (zW X has n).2.1.2,.int .i64 (zW X has n).1])∧StNew w.heap.size w' T' G' (zK (zW X has n).2.2) (zW X has n).2.2∧Below w.heap.size w w':=by
 have hl:=(zAT ((zr X).2 h.right)).1
 have hBX:=Bxs.start w [([.slice T tabs.length tcap,.slice G X.gens.length gcap],28),([.int .i64 has],3),([.int .i64 n],3),([.slice none 0 0,.slice none 0 0],28),([.int .i64 0,.int .i64 0],39),([.int .i64 0,.int .i64 0],39)]
 have hb:=allocs_below [([.slice T tabs.length tcap,.slice G X.gens.length gcap],28),([.int .i64 has],3),([.int .i64 n],3),([.slice none 0 0,.slice none 0 0],28),([.int .i64 0,.int .i64 0],39),([.int .i64 0,.int .i64 0],39)] w
 have hs:=allocs_size [([.slice T tabs.length tcap,.slice G X.gens.length gcap],28),([.int .i64 has],3),([.int .i64 n],3),([.slice none 0 0,.slice none 0 0],28),([.int .i64 0,.int .i64 0],39),([.int .i64 0,.int .i64 0],39)] w
 obtain ⟨W,hW⟩:∃ W,W=zAQ w [([.slice T tabs.length tcap,.slice G X.gens.length gcap],28),([.int .i64 has],3),([.int .i64 n],3),([.slice none 0 0,.slice none 0 0],28),([.int .i64 0,.int .i64 0],39),([.int .i64 0,.int .i64 0],39)]:=⟨_,rfl⟩
 rw [←hW] at hBX hb hs
 have hcb:B13 (w.heap.size+5) (.int .i64 0) (.int .i64 0) W:=⟨hBX.cell 5 rfl 0 rfl,hBX.cell 5 rfl 1 rfl,fun j=>hBX.free 5 rfl j⟩
 have hCH:=zCR 88 [.pointer (some ⟨w.heap.size+1,0,none⟩),.pointer (some ⟨w.heap.size+2,0,none⟩),.pointer (some ⟨w.heap.size+5,0,none⟩)] T tcap G gcap tabs X (zW X has n).2.2 (zW X has n).1 (w.heap.size+5) _ W (h.below hb) (by rw [hs];simp) (fun e=>(zBm e 0 0).1) spawn_no (becomes_spawn X (w.heap.size+1) (w.heap.size+2) (w.heap.size+5) has n W hl (hBX.cell 1 rfl 0 rfl) (hBX.cell 2 rfl 0 rfl) hcb (by rw [hs];simp)) enters98
 obtain ⟨Y,hY⟩:∃ Y,Y=(zW X has n).2.2:=⟨_,rfl⟩
 obtain ⟨err,herr⟩:∃ err,err=(zW X has n).1:=⟨_,rfl⟩
 obtain ⟨ci,hci⟩:∃ ci,ci=(zW X has n).2.1.1:=⟨_,rfl⟩
 obtain ⟨cg,hcg⟩:∃ cg,cg=(zW X has n).2.1.2:=⟨_,rfl⟩
 rw [←hY,←herr,←hci,←hcg] at hCH ⊢
 have hW':(((((w.alloc (.cells #[.slice T tabs.length tcap,.slice G X.gens.length gcap] 28)).alloc (.cells #[.int .i64 has] 3)).alloc (.cells #[.int .i64 n] 3)).alloc (.cells #[.slice none 0 0,.slice none 0 0] 28)).alloc (.cells #[.int .i64 0,.int .i64 0] 39)).alloc (.cells #[.int .i64 0,.int .i64 0] 39)=W:=hW.symm
 have HW:=zB hW'
 have HB:=zB hBX
 have HBL:=zB hb
 have HS:=zB hs
 unfold stV at hCH
 have HCH:=zB hCH
 clear hW hW' hBX hb hs hCH h hY herr hl hci hcg hcb
 unfold stV zS
 go_enter Tryz.func59,Tryz.ntmps59
 go_wp2_with fail
 go_at_call 60
 rw [zA HW]
 refine (zA HCH).mono ?_
 rintro e w4 ⟨T4,tc4,G4,gc4,rfl,hN4,hb4⟩
 have hB4:=((zA HB).give 5 rfl [.int .i64 ci,.int .i64 cg] rfl).below (by rw [zt];exact hb4)
 have hz4:w.heap.size+6≤w4.heap.size:=by
  have:=hb4.size
  rw [zt,zA HS] at this
  simpa using this
 have hL4:Below w.heap.size w w4:=(zF (w.heap.size+5) (by omega) _ 0 _ (zA HBL)).trans (hb4.mono (zA HBL).size)
 have hN4:=hN4.le (base':=w.heap.size+6) (by rw [zA HS];simp)
 have h0:Bxs w.heap.size [([.slice T tabs.length tcap,.slice G X.gens.length gcap],28),([.int .i64 has],3),([.int .i64 n],3),([.slice none 0 0,.slice none 0 0],28),([.int .i64 0,.int .i64 0],39),([.int .i64 ci,.int .i64 cg],39)] (w4.alloc (.cells #[.slice T4 (zK Y).length tc4,.slice G4 Y.gens.length gc4] 28)).drew∧(w4.alloc (.cells #[.slice T4 (zK Y).length tc4,.slice G4 Y.gens.length gc4] 28)).drew.cell? ⟨w4.heap.size,0,none⟩=some (.slice T4 (zK Y).length tc4)∧(w4.alloc (.cells #[.slice T4 (zK Y).length tc4,.slice G4 Y.gens.length gc4] 28)).drew.cell? ⟨w4.heap.size,1,none⟩=some (.slice G4 Y.gens.length gc4)∧StNew (w.heap.size+6) (w4.alloc (.cells #[.slice T4 (zK Y).length tc4,.slice G4 Y.gens.length gc4] 28)).drew T4 G4 (zK Y) Y∧Below w.heap.size w (w4.alloc (.cells #[.slice T4 (zK Y).length tc4,.slice G4 Y.gens.length gc4] 28)).drew :=
  ⟨hB4.below (zAS _ _).drew,by show (w4.alloc _).cell? _=_;simp,by show (w4.alloc _).cell? _=_;simp,hN4.below (zAS _ _).drew,(hL4.trans ((zAS _ _).mono hL4.size)).drew⟩
 have HZ:=zB hz4
 clear hB4 hL4 hN4 hb4 hz4 HW HB HBL HCH HS
 go_wp2_with fail
 refine zi (fun (γ:Unit) ix v=>(([fun v=>v=.agg #[.slice T4 (zK Y).length tc4,.slice G4 Y.gens.length gc4],fun v=>v=.agg #[.int .i64 ci,.int .i64 cg],fun v=>v=.int .i64 err,fun _=>True,fun _=>True,fun v=>v=.int .i64 err]:List (Value→Prop)).getD ix (fun _=>True)) v) (fun (_:Unit) L W=>Bxs w.heap.size [([.slice T tabs.length tcap,.slice G X.gens.length gcap],28),([.int .i64 has],3),([.int .i64 n],3),(if L 3=true then [.slice T4 (zK Y).length tc4,.slice G4 Y.gens.length gc4] else [.slice none 0 0,.slice none 0 0],28),(if L 4=true then [.int .i64 ci,.int .i64 cg] else [.int .i64 0,.int .i64 0],39),([.int .i64 ci,.int .i64 cg],39)] W∧W.cell? ⟨w4.heap.size,0,none⟩=some (.slice T4 (zK Y).length tc4)∧W.cell? ⟨w4.heap.size,1,none⟩=some (.slice G4 Y.gens.length gc4)∧StNew (w.heap.size+6) W T4 G4 (zK Y) Y∧Below w.heap.size w W) (()) (by kernel_rfl) (by kernel_rfl) (by kernel_rfl) h0 ?hstep ?hend
 case hstep =>
  intro γ ix o ho L ac w1 hD hL hed hcl hout hv
  match ix,ho with
  | 0,ho =>
   simp at ho
   subst ho
   have e10:ac.tmps.getD 10 undef=.pointer (some ⟨w4.heap.size,0,none⟩):=hout 10 (by decide +kernel)
   have c0:=hD.2.1
   have c1:=hD.2.2.1
   exact .inl ⟨rfl,zG γ (.agg #[.slice T4 (zK Y).length tc4,.slice G4 Y.gens.length gc4]) (by simp [go_sem,Act.eval,-Array.getD_eq_getD_getElem?,e10,c0,c1]) rfl (by rw [zQ (by decide),zQ (by decide)];exact hD) (fun _ _ _ _ h=>h)⟩
  | 1,ho =>
   simp at ho
   subst ho
   have e9:ac.tmps.getD 9 undef=.pointer (some ⟨w.heap.size+5,0,none⟩):=hout 9 (by decide +kernel)
   have c0:=hD.1.cell 5 rfl 0 rfl
   have c1:=hD.1.cell 5 rfl 1 rfl
   exact .inl ⟨rfl,zG γ (.agg #[.int .i64 ci,.int .i64 cg]) (by simp [go_sem,Act.eval,-Array.getD_eq_getD_getElem?,e9,c0,c1]) rfl (by rw [zQ (by decide),zQ (by decide)];exact hD) (fun _ _ _ _ h=>h)⟩
  | 2,ho =>
   simp at ho
   subst ho
   have e11:ac.tmps.getD 11 undef=.int .i64 err:=hout 11 (by decide +kernel)
   exact .inl ⟨rfl,zG γ (.int .i64 err) (by simp [go_sem,Act.eval,-Array.getD_eq_getD_getElem?,e11]) rfl (by rw [zQ (by decide),zQ (by decide)];exact hD) (fun _ _ _ _ h=>h)⟩
  | 3,ho =>
   simp at ho
   subst ho
   have e6:ac.tmps.getD 6 undef=.pointer (some ⟨w.heap.size+3,0,none⟩):=hout 6 (by decide +kernel)
   have e18:ac.tmps.getD 18 undef=.agg #[.slice T4 (zK Y).length tc4,.slice G4 Y.gens.length gc4]:=hv 0 18 rfl (by kernel_rfl)
   have hg:=hD.1.give 3 rfl [.slice T4 (zK Y).length tc4,.slice G4 Y.gens.length gc4] (by rw [hL];rfl)
   refine .inl ⟨rfl,zBS γ 28 (.tmp 6) (.tmp 18) rfl (w.heap.size+3) 0 [.slice T4 (zK Y).length tc4,.slice G4 Y.gens.length gc4] (by simp [Act.eval,-Array.getD_eq_getD_getElem?,e6]) (by simp [Act.eval,-Array.getD_eq_getD_getElem?,e18]) (by simp [Value.oneCell']) size71 (hD.1.there 3 rfl 2 (by rw [hL];rfl)) trivial ⟨?_,(zT (by have:=zA HZ;simp only [ne_eq];omega)).trans hD.2.1,(zT (by have:=zA HZ;simp only [ne_eq];omega)).trans hD.2.2.1,hD.2.2.2.1.putc (by omega),zF (w.heap.size+3) (by omega) _ 0 _ hD.2.2.2.2⟩ (fun _ _ _ _ h=>h)⟩
   rw [zQ (i:=3) (j:=4) (by decide),zAx,if_pos rfl]
   exact hg
  | 4,ho =>
   simp at ho
   subst ho
   have e7:ac.tmps.getD 7 undef=.pointer (some ⟨w.heap.size+4,0,none⟩):=hout 7 (by decide +kernel)
   have e19:ac.tmps.getD 19 undef=.agg #[.int .i64 ci,.int .i64 cg]:=hv 1 19 rfl (by kernel_rfl)
   have hg:=hD.1.give 4 rfl [.int .i64 ci,.int .i64 cg] (by rw [hL];rfl)
   refine .inl ⟨rfl,zBS γ 39 (.tmp 7) (.tmp 19) rfl (w.heap.size+4) 0 [.int .i64 ci,.int .i64 cg] (by simp [Act.eval,-Array.getD_eq_getD_getElem?,e7]) (by simp [Act.eval,-Array.getD_eq_getD_getElem?,e19]) (by simp [Value.oneCell']) size40 (hD.1.there 4 rfl 2 (by rw [hL];rfl)) trivial ⟨?_,(zT (by have:=zA HZ;simp only [ne_eq];omega)).trans hD.2.1,(zT (by have:=zA HZ;simp only [ne_eq];omega)).trans hD.2.2.1,hD.2.2.2.1.putc (by omega),zF (w.heap.size+4) (by omega) _ 0 _ hD.2.2.2.2⟩ (fun _ _ _ _ h=>h)⟩
   rw [zQ (i:=4) (j:=3) (by decide),zAx,if_pos rfl]
   exact hg
  | 5,ho =>
   simp at ho
   subst ho
   have e20:ac.tmps.getD 20 undef=.int .i64 err:=hv 2 20 rfl (by kernel_rfl)
   exact .inl ⟨rfl,zG γ (.int .i64 err) (by simp [go_sem,Act.eval,-Array.getD_eq_getD_getElem?,e20]) rfl (by rw [zQ (by decide),zQ (by decide)];exact hD) (fun _ _ _ _ h=>h)⟩
  | ix+6,ho=>simp at ho
 case hend =>
  intro γ v L w9 hD hall hv
  rw [hall 3 (by decide),hall 4 (by decide),if_pos rfl,if_pos rfl] at hD
  have v8:v 5=.int .i64 err:=hv 5 8 rfl
  have HD:=zB hD
  clear hv hall hD h0
  simp only [zn,List.getElem?_cons_zero,List.getElem?_cons_succ,Option.bind_some,List.length_cons,List.length_nil,Nat.reduceAdd,v8]
  clear v8
  go_frame
  go_wp2
  have t0:=(zA HD).1.cell 3 rfl 0 rfl
  have t1:=(zA HD).1.cell 3 rfl 1 rfl
  have s0:=(zA HD).1.cell 4 rfl 0 rfl
  have s1:=(zA HD).1.cell 4 rfl 1 rfl
  refine bodyPost_ret (v:=.tuple #[.agg #[.slice T4 (zK Y).length tc4,.slice G4 Y.gens.length gc4],.agg #[.int .i64 ci,.int .i64 cg],.int .i64 err]) (by simp [results,Tryz.results59,go_sem,t0,t1,s0,s1]) rfl ⟨T4,tc4,G4,gc4,rfl,(zA HD).2.2.2.1.le (by omega),(zA HD).2.2.2.2⟩
end Go.Proofs.YtnbleebilmghcacGreat
namespace Go.Proofs.YtnbleebilmghcacGreat
open Go Go.RowKit
attribute [local go_sem ↓] Go.wp_at_zero Go.wp_at_succ
def zBW (X:Wd) (i g p:Int):Int×Bool:=getI (fun j=>X.rows.getD j dR) X.rows.length i g p
end Go.Proofs.YtnbleebilmghcacGreat
