/- run.All, run.Run of a store with which nothing is wrong. -/
import Derived.Test.YtnbleebilmghcacGreatKW
set_option linter.all false
set_option maxHeartbeats 4000000
set_option maxRecDepth 8000
namespace Go.Proofs.YtnbleebilmghcacGreat
open Go Go.RowKit
attribute [local go_sem ↓] Go.wp_at_zero Go.wp_at_succ
structure SysI where
 m:Int
 al:Int
 no:Int
 A:Option Addr
 len:Nat
 cap:Nat
 a:Nat→ActI
def sysI (s:SysI):Value:=zCL s.m s.al s.no s.A s.len s.cap
structure SysAt (w:World) (b o:Nat) (s:SysI):Prop where
 c0:w.cell? ⟨b,o,none⟩=some (.int .i64 s.m)
 c1:w.cell? ⟨b,o+1,none⟩=some (.int .i64 s.al)
 c2:w.cell? ⟨b,o+2,none⟩=some (.int .i64 s.no)
 c3:w.cell? ⟨b,o+3,none⟩=some (.slice s.A s.len s.cap)
 acts:ActsAt w s.A s.len s.a
theorem SysAt.below {w w1:World} {b o:Nat} {s:SysI} (h:SysAt w b o s) (hb:Below w.heap.size w w1):SysAt w1 b o s :=
 ⟨zC hb h.c0,zC hb h.c1,zC hb h.c2,zC hb h.c3,h.acts.below hb⟩
def SyssAt (w:World) (L:Option Addr) (n:Nat) (S:Nat→SysI):Prop:=∀ j,j<n→∃ b off,L=some ⟨b,off,none⟩∧SysAt w b (off+j*4) (S j)
theorem SyssAt.below {w w1:World} {L:Option Addr} {n:Nat} {S:Nat→SysI} (h:SyssAt w L n S) (hb:Below w.heap.size w w1):SyssAt w1 L n S:=fun j hj=>by
 obtain ⟨b,off,h0,h1⟩:=h j hj
 exact ⟨b,off,h0,h1.below hb⟩
def runS (X:Wd) (s:SysI):Int×Wd:=runF X s.m s.al s.no s.a s.len
def zAE (S:Nat→SysI):Nat→Nat→Wd→(Int×Int)×Wd
 | 0,_,X=>((0,0),X)
 | n+1,j,X=>if (runS X (S j)).1≠0 then (((runS X (S j)).1,(j:Int)),emptyW) else zAE S n (j+1) (runS X (S j)).2
theorem all_step (S:Nat→SysI) (n j:Nat) (X:Wd) (h:j<n):zAE S (n - j) j X=if (runS X (S j)).1≠0 then (((runS X (S j)).1,(j:Int)),emptyW) else zAE S (n - (j+1)) (j+1) (runS X (S j)).2:=by
 rw [show n - j=(n - (j+1))+1 by omega,zAE]
structure QB (w:World) (u0 u1:Value) (bw:Nat) (Ac:Option Addr) (cc:Nat) (Gc:Option Addr) (gcc:Nat) (Xc:Wd) (W:World):Prop where
 bx:Bxs w.heap.size [([u0,u1],28),([.slice none 0 0,.slice none 0 0],28),([.int .i64 0,.int .i64 0],35)] W
 wb:Bxs bw [([.slice Ac Xc.rows.length cc,.slice Gc Xc.gens.length gcc],51)] W
 lo:w.heap.size+3≤bw
 bel:Below w.heap.size w W
 at_:WldAt W Ac cc Gc gcc Xc
 nb:∀ b,Blk Ac Gc Xc b→w.heap.size+3≤b∧b≠bw
section
variable {w:World} {u0 u1:Value} {bw:Nat} {Ac:Option Addr} {cc:Nat} {Gc:Option Addr} {gcc:Nat} {Xc:Wd} {W W1:World}
theorem QB.below (h:QB w u0 u1 bw Ac cc Gc gcc Xc W) (hb:Below W.heap.size W W1):QB w u0 u1 bw Ac cc Gc gcc Xc W1 :=
 ⟨h.bx.below hb,h.wb.below hb,h.lo,h.bel.trans (hb.mono h.bel.size),h.at_.below hb,h.nb⟩
theorem QB.lt (h:QB w u0 u1 bw Ac cc Gc gcc Xc W):bw<W.heap.size:=by
 have:=h.wb.sz (by simp)
 simp at this
 omega
end
theorem all_any (T:Option Addr) (tcap:Nat) (G:Option Addr) (gcap:Nat) (tabs:List TabI) (X:Wd) (L:Option Addr) (n lcap:Nat) (S:Nat→SysI) (w:World) (h:StAt w T G tabs X) (hn:n≤1000) (hS:SyssAt w L n S) :
  Calls Tryz.prog 17 #[stV T tabs.length tcap G X.gens.length gcap,.slice L n lcap] w fun e w'=>∃ T' tc' G' gc',e=.returned (.tuple #[stV T' (zL (zAE S n 0 X).2).length tc' G' (zAE S n 0 X).2.gens.length gc',.agg #[.int .i64 (zAE S n 0 X).1.1,.int .i64 (zAE S n 0 X).1.2]])∧StNew w.heap.size w' T' G' (zL (zAE S n 0 X).2) (zAE S n 0 X).2∧Below w.heap.size w w':=by
 have hr:=h.right
 have hB0:=Bxs.start w [([.slice T tabs.length tcap,.slice G X.gens.length gcap],28),([.slice none 0 0,.slice none 0 0],28),([.int .i64 0,.int .i64 0],35)]
 have hb0:=allocs_below [([.slice T tabs.length tcap,.slice G X.gens.length gcap],28),([.slice none 0 0,.slice none 0 0],28),([.int .i64 0,.int .i64 0],35)] w
 have hs0:=allocs_size [([.slice T tabs.length tcap,.slice G X.gens.length gcap],28),([.slice none 0 0,.slice none 0 0],28),([.int .i64 0,.int .i64 0],35)] w
 obtain ⟨W0,hW0⟩:∃ W0,W0=zAQ w [([.slice T tabs.length tcap,.slice G X.gens.length gcap],28),([.slice none 0 0,.slice none 0 0],28),([.int .i64 0,.int .i64 0],35)]:=⟨_,rfl⟩
 rw [←hW0] at hB0 hb0 hs0
 have hW0':((w.alloc (.cells #[.slice T tabs.length tcap,.slice G X.gens.length gcap] 28)).alloc (.cells #[.slice none 0 0,.slice none 0 0] 28)).alloc (.cells #[.int .i64 0,.int .i64 0] 35)=W0:=hW0.symm
 have hWR:=fun W (hb:Below w.heap.size w W)=>swrong_any T tcap G gcap tabs X W (h.below hb)
 have hWO:=fun W (hb:Below w.heap.size w W)=>sworld_any T tcap G gcap tabs X W (h.below hb)
 unfold stV at hWR
 unfold stV zAD zR at hWO
 have s0:=hB0.cell 0 rfl 0 rfl
 have s1:=hB0.cell 0 rfl 1 rfl
 rw [Nat.add_zero] at s0 s1
 have HZ0:Hid (w.heap.size+3≤W0.heap.size):=zB (by rw [hs0];simp)
 have HB0:=zB hB0
 have HL0:=zB hb0
 have HW0:=zB hW0'
 have HS:=zB hS
 have HR:=zB hr
 have HWR:=zB hWR
 have HWO:=zB hWO
 clear hW0 hW0' hB0 hb0 h hS hr hWR hWO hs0
 obtain ⟨R,hR⟩:∃ R,R=zAE S n 0 X:=⟨_,rfl⟩
 rw [←hR]
 have HRR:=zB hR
 clear hR
 unfold stV
 go_enter Tryz.func17,Tryz.ntmps17
 go_upto_region 1 with fail
 rw [zA HW0]
 go_wp2_with fail
 go_at_call 31
 refine (zA HWR _ (zA HL0)).mono ?_
 rintro e w5 ⟨rfl,hb5⟩
 have hb6:=zAs w5 (.cells #[.int .i64 0,.int .i64 0] 35)
 have h6:=((zA HB0).below hb5).below hb6
 have hl5:=(zA HL0).trans (hb5.mono (zA HL0).size)
 have hl6:=hl5.trans (hb6.mono hl5.size)
 have HZ6:Hid (w.heap.size+3≤(w5.alloc (.cells #[.int .i64 0,.int .i64 0] 35)).heap.size):=zB (Nat.le_trans (Nat.le_trans (zA HZ0) hb5.size) hb6.size)
 clear s0 s1
 have s0:=h6.cell 0 rfl 0 rfl
 have s1:=h6.cell 0 rfl 1 rfl
 rw [Nat.add_zero] at s0 s1
 have HB6:=zB h6
 have HL6:=zB hl6
 clear hb5 hb6 h6 hl5 hl6 HB0 HL0 HWR
 go_wp2_with fail
 go_at_call 14
 refine (zA HWO _ (zA HL6)).mono ?_
 rintro e w7 ⟨A7,c7,G7,gc7,rfl,hN7,hb7⟩
 have hb8:=zAs w7 (.cells #[.slice A7 X.rows.length c7,.slice G7 X.gens.length gc7] 51)
 have hQ:QB w (.slice T tabs.length tcap) (.slice G X.gens.length gcap) w7.heap.size A7 c7 G7 gc7 X (w7.alloc (.cells #[.slice A7 X.rows.length c7,.slice G7 X.gens.length gc7] 51)) :=
  ⟨((zA HB6).below hb7).below hb8,Bxs.start w7 [([.slice A7 X.rows.length c7,.slice G7 X.gens.length gc7],51)],Nat.le_trans (zA HZ6) hb7.size,((zA HL6).trans (hb7.mono (zA HL6).size)).trans (hb8.mono ((zA HL6).trans (hb7.mono (zA HL6).size)).size),hN7.toWldAt.below hb8,fun b hb=>⟨Nat.le_trans (zA HZ6) (blk_fresh hN7 hb),fun e=>by have:=blk_lt hN7.toWldAt hb;omega⟩⟩
 have HQ:=zB hQ
 clear hN7 hb7 hb8 hQ s0 s1 HB6 HL6 HWO
 go_wp2_with fail
 go_loopw [25] (fun x wr=>∃ j:Nat,j≤n∧x=.int .i64 (j:Int)∧∃ Ac cc Gc gcc Xc,QB w (.slice T tabs.length tcap) (.slice G X.gens.length gcap) w7.heap.size Ac cc Gc gcc Xc wr∧RightW Xc∧R=zAE S (n - j) j Xc) (fun x _=>n - (intOf x).toNat)
 case atStart=>exact ⟨0,Nat.zero_le _,rfl,A7,c7,G7,gc7,X,zA HQ,zA HR,zA HRR⟩
 case round =>
  clear HQ HRR HR
  obtain ⟨j,hj,rfl,Ac,cc,Gc,gcc,Xc,hQ,hrc,hRc⟩:=hrel
  have hxl:=(zAJ ((zm Xc).2 hrc)).1
  by_cases hlt:j<n
  ·have j0:(0:Int)≤(j:Int):=by omega
   have j1:(j:Int)<(n:Int):=by omega
   rw [all_step S n j Xc hlt] at hRc
   obtain ⟨b,off,hLe,hSy⟩:=(zA HS).below hQ.bel j hlt
   obtain ⟨s,hs⟩:∃ s,s=S j:=⟨_,rfl⟩
   rw [←hs] at hSy hRc
   have c0:=hSy.c0
   have c1:=hSy.c1
   have c2:=hSy.c2
   have c3:=hSy.c3
   obtain ⟨W4,hW4⟩:∃ W4,W4=wr.alloc (.cells #[.int .i64 s.m,.int .i64 s.al,.int .i64 s.no,.slice s.A s.len s.cap] 44):=⟨_,rfl⟩
   have hb4:Below wr.heap.size wr W4:=by rw [hW4];exact zAs _ _
   have hQ4:=hQ.below hb4
   have hRU:=runon_any Ac cc Gc gcc Xc s.m s.al s.no s.A s.len s.cap s.a W4 hQ4.at_ hrc (hSy.acts.below hb4)
   have hRN:=fun hh=>run_no (X:=Xc) (m:=s.m) (al:=s.al) (no:=s.no) (a:=s.a) (len:=s.len) hh
   have hRR:=fun hh=>run_right hrc (m:=s.m) (al:=s.al) (no:=s.no) (a:=s.a) (len:=s.len) hh
   rw [show runF Xc s.m s.al s.no s.a s.len=runS Xc s from rfl] at hRU hRN hRR
   obtain ⟨Y,hY⟩:∃ Y,Y=(runS Xc s).2:=⟨_,rfl⟩
   obtain ⟨err,herr⟩:∃ err,err=(runS Xc s).1:=⟨_,rfl⟩
   rw [←hY,←herr] at hRU hRN hRR hRc
   unfold zAD zR zCL at hRU
   have w0:=hQ4.wb.cell 0 rfl 0 rfl
   have w1:=hQ4.wb.cell 0 rfl 1 rfl
   rw [Nat.add_zero] at w0 w1
   have y0:W4.cell? ⟨wr.heap.size,0,none⟩=some (.int .i64 s.m):=by rw [hW4];simp
   have y1:W4.cell? ⟨wr.heap.size,1,none⟩=some (.int .i64 s.al):=by rw [hW4];simp
   have y2:W4.cell? ⟨wr.heap.size,2,none⟩=some (.int .i64 s.no):=by rw [hW4];simp
   have y3:W4.cell? ⟨wr.heap.size,3,none⟩=some (.slice s.A s.len s.cap):=by rw [hW4];simp
   have hW4':wr.alloc (.cells #[.int .i64 s.m,.int .i64 s.al,.int .i64 s.no,.slice s.A s.len s.cap] 44)=W4:=hW4.symm
   have HW4:=zB hW4'
   have HRU:=zB hRU
   have HRN:=zB hRN
   have HRI:=zB hRR
   have HQ4:=zB hQ4
   have HRC:=zB hRc
   clear hQ hQ4 hb4 hRU hRN hRR hY herr hW4 hW4' hRc hrc hs hSy
   subst hLe
   go_upto_region 8 with fail
   rw [zA HW4]
   clear c0 c1 c2 c3
   go_wp2_with fail
   go_at_call 32
   refine (zA HRU).mono ?_
   rintro e w5 ⟨A4,c4,G4,gc4,rfl,hF5,hb5⟩
   have h5:=(zA HQ4).below hb5
   have h6:=h5.below (zAs w5 (.cells #[.slice A4 Y.rows.length c4,.slice G4 Y.gens.length gc4] 51))
   have hX6:=hF5.at_.below (zAs w5 (.cells #[.slice A4 Y.rows.length c4,.slice G4 Y.gens.length gc4] 51))
   have hnb:∀ b,Blk A4 G4 Y b→w.heap.size+3≤b∧b≠w7.heap.size:=fun b hb=>by
    rcases hF5.blk b hb with h | h
    ·exact (zA HQ4).nb b h
    ·have h1:=(zA HQ4).lt
     have h2:=(zA HQ4).lo
     omega
   have n0:(w5.alloc (.cells #[.slice A4 Y.rows.length c4,.slice G4 Y.gens.length gc4] 51)).cell? ⟨w5.heap.size,0,none⟩=some (.slice A4 Y.rows.length c4):=by simp
   have n1:(w5.alloc (.cells #[.slice A4 Y.rows.length c4,.slice G4 Y.gens.length gc4] 51)).cell? ⟨w5.heap.size,1,none⟩=some (.slice G4 Y.gens.length gc4):=by simp
   obtain ⟨W6,hW6⟩:∃ W6,W6=w5.alloc (.cells #[.slice A4 Y.rows.length c4,.slice G4 Y.gens.length gc4] 51):=⟨_,rfl⟩
   rw [←hW6] at h6 hX6 n0 n1
   have hW6':w5.alloc (.cells #[.slice A4 Y.rows.length c4,.slice G4 Y.gens.length gc4] 51)=W6:=hW6.symm
   have HW6:=zB hW6'
   have HQ6:=zB h6
   have HB6:=zB h6.bx
   have HL6:=zB h6.bel
   have HX6:=zB hX6
   have HNB:=zB hnb
   clear hF5 hb5 h5 h6 hX6 hW6 hW6' hnb HRU HQ4 w0 w1 y0 y1 y2 y3
   by_cases he:err=0
   ·subst he
    have HRY:=zB (zA HRI rfl)
    clear HRN HRI
    go_upto_region 9 with fail
    rw [zA HW6]
    go_wp2_with (refine zH rfl 51 (.tmp 7) (.tmp 42) rfl (w7.heap.size+0) 0 [.slice A4 Y.rows.length c4,.slice G4 Y.gens.length gc4] rfl rfl (by simp [Value.oneCell']) size38 ((zA HQ6).wb.there 0 rfl 2 rfl) ?_;intro W7 hW;have q1:=(zA HQ6).wb.give 0 rfl [.slice A4 Y.rows.length c4,.slice G4 Y.gens.length gc4] rfl;have q2:=(zA HQ6).bx.turn (cb:=w7.heap.size+0) (o:=0) (vs:=[.slice A4 Y.rows.length c4,.slice G4 Y.gens.length gc4]) (.inr (by have:=(zA HQ6).lo;simp only [List.length_cons,List.length_nil];omega));have q3:=zG (w7.heap.size+0) (by have:=(zA HQ6).lo;omega) [.slice A4 Y.rows.length c4,.slice G4 Y.gens.length gc4] 0 _ (zA HL6);have q4:=wld_puts (zA HX6) (b:=w7.heap.size+0) (o:=0) (vs:=[.slice A4 Y.rows.length c4,.slice G4 Y.gens.length gc4]) (fun hb=>((zA HNB) _ hb).2 rfl);rw [←hW] at q1 q2 q3 q4;have HQ7:Hid (QB w (.slice T tabs.length tcap) (.slice G X.gens.length gcap) w7.heap.size A4 c4 G4 gc4 Y W7):=zB ⟨q2,q1,(zA HQ6).lo,q3,q4,zA HNB⟩;clear hW q1 q2 q3 q4)
    have hR2:=zA HRC
    rw [if_neg (by simp)] at hR2
    have HR2:=zB hR2
    clear hR2
    go_roundw
    case rel=>exact ⟨j+1,by omega,by go_num,A4,c4,G4,gc4,Y,zA HQ7,zA HRY,zA HR2⟩
    case measure=>simp [intOf];omega
   ·have hR2:=zA HRC
    rw [if_pos he] at hR2
    have HR2:=zB hR2
    clear hR2 HRN HRI HRC
    have hne:(err == 0)=false:=by simpa using he
    go_upto_region 9 with fail
    rw [zA HW6]
    go_wp2_with (first
     | (refine zH rfl 28 (.tmp 4) (.tmp 38) rfl (w.heap.size+1) 0 [.slice none 0 0,.slice none 0 0] rfl rfl (by simp [Value.oneCell']) size71 ((zA HB6).there 1 rfl 2 rfl) ?_;intro W8 hW;have q1:=(zA HB6).give 1 rfl [.slice none 0 0,.slice none 0 0] rfl;have q3:=zG (w.heap.size+1) (by omega) [.slice none 0 0,.slice none 0 0] 0 _ (zA HL6);rw [←hW] at q1 q3;have HB8:=zB q1;have HL8:=zB q3;clear hW q1 q3)
     | (refine zH rfl 35 (.tmp 5) (.tmp 41) rfl (w.heap.size+2) 0 [.int .i64 err,.int .i64 (j:Int)] rfl rfl (by simp [Value.oneCell']) size43t ((zA HB8).there 2 rfl 2 rfl) ?_;intro W9 hW;have q1:=(zA HB8).give 2 rfl [.int .i64 err,.int .i64 (j:Int)] rfl;have q3:=zG (w.heap.size+2) (by omega) [.int .i64 err,.int .i64 (j:Int)] 0 _ (zA HL8);rw [←hW] at q1 q3;have HB9:=zB q1;have HL9:=zB q3;clear hW q1 q3))
    have t0:=(zA HB9).cell 1 rfl 0 rfl
    have t1:=(zA HB9).cell 1 rfl 1 rfl
    have u0:=(zA HB9).cell 2 rfl 0 rfl
    have u1:=(zA HB9).cell 2 rfl 1 rfl
    refine bodyPost_ret (v:=.tuple #[.agg #[.slice none 0 0,.slice none 0 0],.agg #[.int .i64 err,.int .i64 (j:Int)]]) (by simp [results,Tryz.results17,go_sem,t0,t1,u0,u1]) rfl ?_
    rw [zA HR2]
    exact ⟨none,0,none,0,rfl,stNew_empty _ _,zA HL9⟩
  ·obtain rfl:j=n:=by omega
   have w0:=hQ.wb.cell 0 rfl 0 rfl
   have w1:=hQ.wb.cell 0 rfl 1 rfl
   rw [Nat.add_zero] at w0 w1
   have hOF:=of_right Ac cc Gc gcc Xc wr hQ.at_ hrc
   unfold zAD zR stV at hOF
   have HOF:=zB hOF
   have HZ:Hid (w.heap.size+3≤wr.heap.size):=zB (by have:=hQ.bx.sz (by simp);simpa using this)
   have HQ:=zB hQ
   have hR2:=hRc
   rw [Nat.sub_self,zAE] at hR2
   have HR2:=zB hR2
   clear hQ hRc hR2 hOF hrc
   go_wp2_with fail
   go_at_call 33
   refine (zA HOF).mono ?_
   rintro e w8 ⟨T8,tc8,G8,gc8,rfl,hN8,hb8⟩
   have h8:=(zA HQ).below hb8
   have HB7:=zB h8.bx
   have HL7:=zB h8.bel
   have HN7:=zB (hN8.le (base':=w.heap.size+3) (zA HZ))
   clear hN8 hb8 h8 w0 w1 HOF HQ
   go_wp2_with (first
    | (refine zH rfl 28 (.tmp 4) (.tmp 46) rfl (w.heap.size+1) 0 [.slice T8 (zL Xc).length tc8,.slice G8 Xc.gens.length gc8] rfl rfl (by simp [Value.oneCell']) size71 ((zA HB7).there 1 rfl 2 rfl) ?_;intro W8 hW;have q1:=(zA HB7).give 1 rfl [.slice T8 (zL Xc).length tc8,.slice G8 Xc.gens.length gc8] rfl;have q3:=zG (w.heap.size+1) (by omega) [.slice T8 (zL Xc).length tc8,.slice G8 Xc.gens.length gc8] 0 _ (zA HL7);have q4:=(zA HN7).putc (b:=w.heap.size+1) (o:=0) (vs:=[.slice T8 (zL Xc).length tc8,.slice G8 Xc.gens.length gc8]) (by omega);rw [←hW] at q1 q3 q4;have HB8:=zB q1;have HL8:=zB q3;have HN8:=zB q4;clear hW q1 q3 q4)
    | (refine zH rfl 35 (.tmp 5) (.tmp 47) rfl (w.heap.size+2) 0 [.int .i64 0,.int .i64 0] rfl rfl (by simp [Value.oneCell']) size43t ((zA HB8).there 2 rfl 2 rfl) ?_;intro W9 hW;have q1:=(zA HB8).give 2 rfl [.int .i64 0,.int .i64 0] rfl;have q3:=zG (w.heap.size+2) (by omega) [.int .i64 0,.int .i64 0] 0 _ (zA HL8);have q4:=(zA HN8).putc (b:=w.heap.size+2) (o:=0) (vs:=[.int .i64 0,.int .i64 0]) (by omega);rw [←hW] at q1 q3 q4;have HB9:=zB q1;have HL9:=zB q3;have HN9:=zB q4;clear hW q1 q3 q4))
   have t0:=(zA HB9).cell 1 rfl 0 rfl
   have t1:=(zA HB9).cell 1 rfl 1 rfl
   have u0:=(zA HB9).cell 2 rfl 0 rfl
   have u1:=(zA HB9).cell 2 rfl 1 rfl
   refine bodyPost_ret (v:=.tuple #[.agg #[.slice T8 (zL Xc).length tc8,.slice G8 Xc.gens.length gc8],.agg #[.int .i64 0,.int .i64 0]]) (by simp [results,Tryz.results17,go_sem,t0,t1,u0,u1]) rfl ?_
   rw [zA HR2]
   exact ⟨T8,tc8,G8,gc8,rfl,(zA HN9).le (by omega),zA HL9⟩
end Go.Proofs.YtnbleebilmghcacGreat
