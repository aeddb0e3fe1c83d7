/- RnAll, RAny0, RAny, RStore0, RAll0 -/
import Derived.Deep.CutBlock
import Derived.Test.YtnbleebilmghcabGreatWG
import Derived.Test.YtnbleebilmghcabGreatWY
import Derived.Test.YtnbleebilmghcabGreatXRRun0
import Derived.Test.YtnbleebilmghcabGreatWL
import Derived.Test.YtnbleebilmghcabGreatWO
import Derived.Test.YtnbleebilmghcabGreatXROf
import Derived.Test.YtnbleebilmghcabGreatXRWst
set_option linter.all false
set_option maxHeartbeats 4000000
set_option maxRecDepth 8000
namespace Go.Proofs.YtnbleebilmghcabGreat
open Go Go.RowKit
attribute [local go_sem ↓] Go.wp_at_zero Go.wp_at_succ
structure SysI where
 m:Int
 al:Int
 no:Int
 A:Option Addr
 len:Nat
 cap:Nat
 a:Nat→ActI
def zIx (s:SysI):Value:=zDV s.m s.al s.no s.A s.len s.cap
structure SysAt (w:World) (b o:Nat) (s:SysI):Prop where
 c0:w.cell? ⟨b,o,none⟩=some (.int .i64 s.m)
 c1:w.cell? ⟨b,o+1,none⟩=some (.int .i64 s.al)
 c2:w.cell? ⟨b,o+2,none⟩=some (.int .i64 s.no)
 c3:w.cell? ⟨b,o+3,none⟩=some (.slice s.A s.len s.cap)
 acts:ActsAt w s.A s.len s.a
theorem SysAt.below {w w1:World} {b o:Nat} {s:SysI} (h:SysAt w b o s) (hb:Below w.heap.size w w1):SysAt w1 b o s :=
 ⟨zC hb h.c0,zC hb h.c1,zC hb h.c2,zC hb h.c3,h.acts.below hb⟩
def SyssAt (w:World) (L:Option Addr) (n:Nat) (S:Nat→SysI):Prop:=∀ j,j<n→∃ b off,L=some ⟨b,off,none⟩∧SysAt w b (off+j*4) (S j)
theorem SyssAt.below {w w1:World} {L:Option Addr} {n:Nat} {S:Nat→SysI} (h:SyssAt w L n S) (hb:Below w.heap.size w w1):SyssAt w1 L n S:=fun j hj=>by
 obtain ⟨b,off,h0,h1⟩:=h j hj
 exact ⟨b,off,h0,h1.below hb⟩
def zCi (X:Wd) (s:SysI):Int×Wd:=zIP X s.m s.al s.no s.a s.len
def zBg (S:Nat→SysI):Nat→Nat→Wd→(Int×Int)×Wd
 | 0,_,X=>((0,0),X)
 | n+1,j,X=>if (zCi X (S j)).1≠0 then (((zCi X (S j)).1,(j:Int)),emptyW) else zBg S n (j+1) (zCi X (S j)).2
theorem zIn (S:Nat→SysI) (n j:Nat) (X:Wd) (h:j<n):zBg S (n - j) j X=if (zCi X (S j)).1≠0 then (((zCi X (S j)).1,(j:Int)),emptyW) else zBg S (n - (j+1)) (j+1) (zCi X (S j)).2:=by
 rw [show n - j=(n - (j+1))+1 by omega,zBg]
structure QB (w:World) (u0 u1:Value) (bw:Nat) (Ac:Option Addr) (cc:Nat) (Gc:Option Addr) (gcc:Nat) (Xc:Wd) (W:World):Prop where
 bx:Bxs w.heap.size [([u0,u1],25),([.slice none 0 0,.slice none 0 0],25),([.int .i64 0,.int .i64 0],29)] W
 wb:Bxs bw [([.slice Ac Xc.rows.length cc,.slice Gc Xc.gens.length gcc],43)] W
 lo:w.heap.size+3≤bw
 bel:Below w.heap.size w W
 at_:WldAt W Ac cc Gc gcc Xc
 nb:∀ b,Blk Ac Gc Xc b→w.heap.size+3≤b∧b≠bw
section
variable {w:World} {u0 u1:Value} {bw:Nat} {Ac:Option Addr} {cc:Nat} {Gc:Option Addr} {gcc:Nat} {Xc:Wd} {W W1:World}
theorem QB.below (h:QB w u0 u1 bw Ac cc Gc gcc Xc W) (hb:Below W.heap.size W W1):QB w u0 u1 bw Ac cc Gc gcc Xc W1 :=
 ⟨h.bx.below hb,h.wb.below hb,h.lo,h.bel.trans (hb.mono h.bel.size),h.at_.below hb,h.nb⟩
theorem QB.lt (h:QB w u0 u1 bw Ac cc Gc gcc Xc W):bw<W.heap.size:=by
 have:=h.wb.sz (by simp)
 simp at this
 omega
end
theorem zOK (T:Option Addr) (tcap:Nat) (G:Option Addr) (gcap:Nat) (tabs:List TabI) (X:Wd) (L:Option Addr) (n lcap:Nat) (S:Nat→SysI) (w:World) (h:StAt w T G tabs X) (hn:n≤4194304) (hS:SyssAt w L n S) :
  Calls Tryz.prog 7 #[stV T tabs.length tcap G X.gens.length gcap,.slice L n lcap] w fun e w'=>∃ T' tc' G' gc',e=.returned (.tuple #[stV T' (za (zBg S n 0 X).2).length tc' G' (zBg S n 0 X).2.gens.length gc',.agg #[.int .i64 (zBg S n 0 X).1.1,.int .i64 (zBg S n 0 X).1.2]])∧StNew w.heap.size w' T' G' (za (zBg S n 0 X).2) (zBg S n 0 X).2∧Below w.heap.size w w':=by
 have hr:=h.right
 have hB0:=Bxs.start w [([.slice T tabs.length tcap,.slice G X.gens.length gcap],25),([.slice none 0 0,.slice none 0 0],25),([.int .i64 0,.int .i64 0],29)]
 have hb0:=allocs_below [([.slice T tabs.length tcap,.slice G X.gens.length gcap],25),([.slice none 0 0,.slice none 0 0],25),([.int .i64 0,.int .i64 0],29)] w
 have hs0:=allocs_size [([.slice T tabs.length tcap,.slice G X.gens.length gcap],25),([.slice none 0 0,.slice none 0 0],25),([.int .i64 0,.int .i64 0],29)] w
 obtain ⟨W0,hW0⟩:∃ W0,W0=zt w [([.slice T tabs.length tcap,.slice G X.gens.length gcap],25),([.slice none 0 0,.slice none 0 0],25),([.int .i64 0,.int .i64 0],29)]:=⟨_,rfl⟩
 rw [←hW0] at hB0 hb0 hs0
 have hW0':((w.alloc (.cells #[.slice T tabs.length tcap,.slice G X.gens.length gcap] 25)).alloc (.cells #[.slice none 0 0,.slice none 0 0] 25)).alloc (.cells #[.int .i64 0,.int .i64 0] 29)=W0:=hW0.symm
 have hWR:=fun W (hb:Below w.heap.size w W)=>zIy T tcap G gcap tabs X W (h.below hb)
 have hWO:=fun W (hb:Below w.heap.size w W)=>zJA T tcap G gcap tabs X W (h.below hb)
 unfold stV at hWR
 unfold stV zi zM at hWO
 have s0:=hB0.cell 0 rfl 0 rfl
 have s1:=hB0.cell 0 rfl 1 rfl
 rw [Nat.add_zero] at s0 s1
 have HZ0:Hid (w.heap.size+3≤W0.heap.size):=zB (by rw [hs0];simp)
 have HB0:=zB hB0
 have HL0:=zB hb0
 have HW0:=zB hW0'
 have HS:=zB hS
 have HR:=zB hr
 have HWR:=zB hWR
 have HWO:=zB hWO
 clear hW0 hW0' hB0 hb0 h hS hr hWR hWO hs0
 obtain ⟨R,hR⟩:∃ R,R=zBg S n 0 X:=⟨_,rfl⟩
 rw [←hR]
 have HRR:=zB hR
 clear hR
 unfold stV
 go_enter Tryz.func7,Tryz.ntmps7
 go_upto_region 1 with fail
 rw [zA HW0]
 go_wp2_with fail
 go_at_call 24
 refine (zA HWR _ (zA HL0)).mono ?_
 rintro e w5 ⟨rfl,hb5⟩
 have hb6:=zAS w5 (.cells #[.int .i64 0,.int .i64 0] 29)
 have h6:=((zA HB0).below hb5).below hb6
 have hl5:=(zA HL0).trans (hb5.mono (zA HL0).size)
 have hl6:=hl5.trans (hb6.mono hl5.size)
 have HZ6:Hid (w.heap.size+3≤(w5.alloc (.cells #[.int .i64 0,.int .i64 0] 29)).heap.size):=zB (Nat.le_trans (Nat.le_trans (zA HZ0) hb5.size) hb6.size)
 clear s0 s1
 have s0:=h6.cell 0 rfl 0 rfl
 have s1:=h6.cell 0 rfl 1 rfl
 rw [Nat.add_zero] at s0 s1
 have HB6:=zB h6
 have HL6:=zB hl6
 clear hb5 hb6 h6 hl5 hl6 HB0 HL0 HWR
 go_wp2_with fail
 go_at_call 25
 refine (zA HWO _ (zA HL6)).mono ?_
 rintro e w7 ⟨A7,c7,G7,gc7,rfl,hN7,hb7⟩
 have hb8:=zAS w7 (.cells #[.slice A7 X.rows.length c7,.slice G7 X.gens.length gc7] 43)
 have hQ:QB w (.slice T tabs.length tcap) (.slice G X.gens.length gcap) w7.heap.size A7 c7 G7 gc7 X (w7.alloc (.cells #[.slice A7 X.rows.length c7,.slice G7 X.gens.length gc7] 43)) :=
  ⟨((zA HB6).below hb7).below hb8,Bxs.start w7 [([.slice A7 X.rows.length c7,.slice G7 X.gens.length gc7],43)],Nat.le_trans (zA HZ6) hb7.size,((zA HL6).trans (hb7.mono (zA HL6).size)).trans (hb8.mono ((zA HL6).trans (hb7.mono (zA HL6).size)).size),hN7.toWldAt.below hb8,fun b hb=>⟨Nat.le_trans (zA HZ6) (zHK hN7 hb),fun e=>by have:=zCG hN7.toWldAt hb;omega⟩⟩
 have HQ:=zB hQ
 clear hN7 hb7 hb8 hQ s0 s1 HB6 HL6 HWO
 go_wp2_with fail
 go_loopw [25] (fun x wr=>∃ j:Nat,j≤n∧x=.int .i64 (j:Int)∧∃ Ac cc Gc gcc Xc,QB w (.slice T tabs.length tcap) (.slice G X.gens.length gcap) w7.heap.size Ac cc Gc gcc Xc wr∧RightW Xc∧R=zBg S (n - j) j Xc) (fun x _=>n - (intOf x).toNat)
 case atStart=>exact ⟨0,Nat.zero_le _,rfl,A7,c7,G7,gc7,X,zA HQ,zA HR,zA HRR⟩
 case round =>
  clear HQ HRR HR
  obtain ⟨j,hj,rfl,Ac,cc,Gc,gcc,Xc,hQ,hrc,hRc⟩:=hrel
  have hxl:=(zk ((zf Xc).2 hrc)).1
  by_cases hlt:j<n
  ·have j0:(0:Int)≤(j:Int):=by omega
   have j1:(j:Int)<(n:Int):=by omega
   rw [zIn S n j Xc hlt] at hRc
   obtain ⟨b,off,hLe,hSy⟩:=(zA HS).below hQ.bel j hlt
   obtain ⟨s,hs⟩:∃ s,s=S j:=⟨_,rfl⟩
   rw [←hs] at hSy hRc
   have c0:=hSy.c0
   have c1:=hSy.c1
   have c2:=hSy.c2
   have c3:=hSy.c3
   obtain ⟨W4,hW4⟩:∃ W4,W4=wr.alloc (.cells #[.int .i64 s.m,.int .i64 s.al,.int .i64 s.no,.slice s.A s.len s.cap] 37):=⟨_,rfl⟩
   have hb4:Below wr.heap.size wr W4:=by rw [hW4];exact zAS _ _
   have hQ4:=hQ.below hb4
   have hRU:=zKM Ac cc Gc gcc Xc s.m s.al s.no s.A s.len s.cap s.a W4 hQ4.at_ hrc (hSy.acts.below hb4)
   have hRN:=fun hh=>zKN (X:=Xc) (m:=s.m) (al:=s.al) (no:=s.no) (a:=s.a) (len:=s.len) hh
   have hRR:=fun hh=>zGk hrc (m:=s.m) (al:=s.al) (no:=s.no) (a:=s.a) (len:=s.len) hh
   rw [show zIP Xc s.m s.al s.no s.a s.len=zCi Xc s from rfl] at hRU hRN hRR
   obtain ⟨Y,hY⟩:∃ Y,Y=(zCi Xc s).2:=⟨_,rfl⟩
   obtain ⟨err,herr⟩:∃ err,err=(zCi Xc s).1:=⟨_,rfl⟩
   rw [←hY,←herr] at hRU hRN hRR hRc
   unfold zi zM zDV at hRU
   have w0:=hQ4.wb.cell 0 rfl 0 rfl
   have w1:=hQ4.wb.cell 0 rfl 1 rfl
   rw [Nat.add_zero] at w0 w1
   have y0:W4.cell? ⟨wr.heap.size,0,none⟩=some (.int .i64 s.m):=by rw [hW4];simp
   have y1:W4.cell? ⟨wr.heap.size,1,none⟩=some (.int .i64 s.al):=by rw [hW4];simp
   have y2:W4.cell? ⟨wr.heap.size,2,none⟩=some (.int .i64 s.no):=by rw [hW4];simp
   have y3:W4.cell? ⟨wr.heap.size,3,none⟩=some (.slice s.A s.len s.cap):=by rw [hW4];simp
   have hW4':wr.alloc (.cells #[.int .i64 s.m,.int .i64 s.al,.int .i64 s.no,.slice s.A s.len s.cap] 37)=W4:=hW4.symm
   have HW4:=zB hW4'
   have HRU:=zB hRU
   have HRN:=zB hRN
   have HRI:=zB hRR
   have HQ4:=zB hQ4
   have HRC:=zB hRc
   clear hQ hQ4 hb4 hRU hRN hRR hY herr hW4 hW4' hRc hrc hs hSy
   subst hLe
   go_upto_region 8 with fail
   rw [zA HW4]
   clear c0 c1 c2 c3
   go_wp2_with fail
   go_at_call 26
   refine (zA HRU).mono ?_
   rintro e w5 ⟨A4,c4,G4,gc4,rfl,hF5,hb5⟩
   have h5:=(zA HQ4).below hb5
   have h6:=h5.below (zAS w5 (.cells #[.slice A4 Y.rows.length c4,.slice G4 Y.gens.length gc4] 43))
   have hX6:=hF5.at_.below (zAS w5 (.cells #[.slice A4 Y.rows.length c4,.slice G4 Y.gens.length gc4] 43))
   have hnb:∀ b,Blk A4 G4 Y b→w.heap.size+3≤b∧b≠w7.heap.size:=fun b hb=>by
    rcases hF5.blk b hb with h | h
    ·exact (zA HQ4).nb b h
    ·have h1:=(zA HQ4).lt
     have h2:=(zA HQ4).lo
     omega
   have n0:(w5.alloc (.cells #[.slice A4 Y.rows.length c4,.slice G4 Y.gens.length gc4] 43)).cell? ⟨w5.heap.size,0,none⟩=some (.slice A4 Y.rows.length c4):=by simp
   have n1:(w5.alloc (.cells #[.slice A4 Y.rows.length c4,.slice G4 Y.gens.length gc4] 43)).cell? ⟨w5.heap.size,1,none⟩=some (.slice G4 Y.gens.length gc4):=by simp
   obtain ⟨W6,hW6⟩:∃ W6,W6=w5.alloc (.cells #[.slice A4 Y.rows.length c4,.slice G4 Y.gens.length gc4] 43):=⟨_,rfl⟩
   rw [←hW6] at h6 hX6 n0 n1
   have hW6':w5.alloc (.cells #[.slice A4 Y.rows.length c4,.slice G4 Y.gens.length gc4] 43)=W6:=hW6.symm
   have HW6:=zB hW6'
   have HQ6:=zB h6
   have HB6:=zB h6.bx
   have HL6:=zB h6.bel
   have HX6:=zB hX6
   have HNB:=zB hnb
   clear hF5 hb5 h5 h6 hX6 hW6 hW6' hnb HRU HQ4 w0 w1 y0 y1 y2 y3
   by_cases he:err=0
   ·subst he
    have HRY:=zB (zA HRI rfl)
    clear HRN HRI
    go_upto_region 9 with fail
    rw [zA HW6]
    go_wp2_with (refine zG rfl 43 (.tmp 7) (.tmp 42) rfl (w7.heap.size+0) 0 [.slice A4 Y.rows.length c4,.slice G4 Y.gens.length gc4] rfl rfl (by simp [Value.oneCell']) size38 ((zA HQ6).wb.there 0 rfl 2 rfl) ?_;intro W7 hW;have q1:=(zA HQ6).wb.give 0 rfl [.slice A4 Y.rows.length c4,.slice G4 Y.gens.length gc4] rfl;have q2:=(zA HQ6).bx.turn (cb:=w7.heap.size+0) (o:=0) (vs:=[.slice A4 Y.rows.length c4,.slice G4 Y.gens.length gc4]) (.inr (by have:=(zA HQ6).lo;simp only [List.length_cons,List.length_nil];omega));have q3:=zI (w7.heap.size+0) (by have:=(zA HQ6).lo;omega) [.slice A4 Y.rows.length c4,.slice G4 Y.gens.length gc4] 0 _ (zA HL6);have q4:=zDh (zA HX6) (b:=w7.heap.size+0) (o:=0) (vs:=[.slice A4 Y.rows.length c4,.slice G4 Y.gens.length gc4]) (fun hb=>((zA HNB) _ hb).2 rfl);rw [←hW] at q1 q2 q3 q4;have HQ7:Hid (QB w (.slice T tabs.length tcap) (.slice G X.gens.length gcap) w7.heap.size A4 c4 G4 gc4 Y W7):=zB ⟨q2,q1,(zA HQ6).lo,q3,q4,zA HNB⟩;clear hW q1 q2 q3 q4)
    have hR2:=zA HRC
    rw [if_neg (by simp)] at hR2
    have HR2:=zB hR2
    clear hR2
    go_roundw
    case rel=>exact ⟨j+1,by omega,by go_num,A4,c4,G4,gc4,Y,zA HQ7,zA HRY,zA HR2⟩
    case measure=>simp [intOf];omega
   ·have hR2:=zA HRC
    rw [if_pos he] at hR2
    have HR2:=zB hR2
    clear hR2 HRN HRI HRC
    have hne:(err == 0)=false:=by simpa using he
    go_upto_region 9 with fail
    rw [zA HW6]
    go_wp2_with (first
     | (refine zG rfl 25 (.tmp 4) (.tmp 38) rfl (w.heap.size+1) 0 [.slice none 0 0,.slice none 0 0] rfl rfl (by simp [Value.oneCell']) size71 ((zA HB6).there 1 rfl 2 rfl) ?_;intro W8 hW;have q1:=(zA HB6).give 1 rfl [.slice none 0 0,.slice none 0 0] rfl;have q3:=zI (w.heap.size+1) (by omega) [.slice none 0 0,.slice none 0 0] 0 _ (zA HL6);rw [←hW] at q1 q3;have HB8:=zB q1;have HL8:=zB q3;clear hW q1 q3)
     | (refine zG rfl 29 (.tmp 5) (.tmp 41) rfl (w.heap.size+2) 0 [.int .i64 err,.int .i64 (j:Int)] rfl rfl (by simp [Value.oneCell']) size43t ((zA HB8).there 2 rfl 2 rfl) ?_;intro W9 hW;have q1:=(zA HB8).give 2 rfl [.int .i64 err,.int .i64 (j:Int)] rfl;have q3:=zI (w.heap.size+2) (by omega) [.int .i64 err,.int .i64 (j:Int)] 0 _ (zA HL8);rw [←hW] at q1 q3;have HB9:=zB q1;have HL9:=zB q3;clear hW q1 q3))
    have t0:=(zA HB9).cell 1 rfl 0 rfl
    have t1:=(zA HB9).cell 1 rfl 1 rfl
    have u0:=(zA HB9).cell 2 rfl 0 rfl
    have u1:=(zA HB9).cell 2 rfl 1 rfl
    refine bodyPost_ret (v:=.tuple #[.agg #[.slice none 0 0,.slice none 0 0],.agg #[.int .i64 err,.int .i64 (j:Int)]]) (by simp [results,Tryz.results7,go_sem,t0,t1,u0,u1]) rfl ?_
    rw [zA HR2]
    exact ⟨none,0,none,0,rfl,zDW _ _,zA HL9⟩
  ·obtain rfl:j=n:=by omega
   have w0:=hQ.wb.cell 0 rfl 0 rfl
   have w1:=hQ.wb.cell 0 rfl 1 rfl
   rw [Nat.add_zero] at w0 w1
   have hOF:=zMd Ac cc Gc gcc Xc wr hQ.at_ hrc
   unfold zi zM stV at hOF
   have HOF:=zB hOF
   have HZ:Hid (w.heap.size+3≤wr.heap.size):=zB (by have:=hQ.bx.sz (by simp);simpa using this)
   have HQ:=zB hQ
   have hR2:=hRc
   rw [Nat.sub_self,zBg] at hR2
   have HR2:=zB hR2
   clear hQ hRc hR2 hOF hrc
   go_wp2_with fail
   go_at_call 13
   refine (zA HOF).mono ?_
   rintro e w8 ⟨T8,tc8,G8,gc8,rfl,hN8,hb8⟩
   have h8:=(zA HQ).below hb8
   have HB7:=zB h8.bx
   have HL7:=zB h8.bel
   have HN7:=zB (hN8.le (base':=w.heap.size+3) (zA HZ))
   clear hN8 hb8 h8 w0 w1 HOF HQ
   go_wp2_with (first
    | (refine zG rfl 25 (.tmp 4) (.tmp 46) rfl (w.heap.size+1) 0 [.slice T8 (za Xc).length tc8,.slice G8 Xc.gens.length gc8] rfl rfl (by simp [Value.oneCell']) size71 ((zA HB7).there 1 rfl 2 rfl) ?_;intro W8 hW;have q1:=(zA HB7).give 1 rfl [.slice T8 (za Xc).length tc8,.slice G8 Xc.gens.length gc8] rfl;have q3:=zI (w.heap.size+1) (by omega) [.slice T8 (za Xc).length tc8,.slice G8 Xc.gens.length gc8] 0 _ (zA HL7);have q4:=(zA HN7).putc (b:=w.heap.size+1) (o:=0) (vs:=[.slice T8 (za Xc).length tc8,.slice G8 Xc.gens.length gc8]) (by omega);rw [←hW] at q1 q3 q4;have HB8:=zB q1;have HL8:=zB q3;have HN8:=zB q4;clear hW q1 q3 q4)
    | (refine zG rfl 29 (.tmp 5) (.tmp 47) rfl (w.heap.size+2) 0 [.int .i64 0,.int .i64 0] rfl rfl (by simp [Value.oneCell']) size43t ((zA HB8).there 2 rfl 2 rfl) ?_;intro W9 hW;have q1:=(zA HB8).give 2 rfl [.int .i64 0,.int .i64 0] rfl;have q3:=zI (w.heap.size+2) (by omega) [.int .i64 0,.int .i64 0] 0 _ (zA HL8);have q4:=(zA HN8).putc (b:=w.heap.size+2) (o:=0) (vs:=[.int .i64 0,.int .i64 0]) (by omega);rw [←hW] at q1 q3 q4;have HB9:=zB q1;have HL9:=zB q3;have HN9:=zB q4;clear hW q1 q3 q4))
   have t0:=(zA HB9).cell 1 rfl 0 rfl
   have t1:=(zA HB9).cell 1 rfl 1 rfl
   have u0:=(zA HB9).cell 2 rfl 0 rfl
   have u1:=(zA HB9).cell 2 rfl 1 rfl
   refine bodyPost_ret (v:=.tuple #[.agg #[.slice T8 (za Xc).length tc8,.slice G8 Xc.gens.length gc8],.agg #[.int .i64 0,.int .i64 0]]) (by simp [results,Tryz.results7,go_sem,t0,t1,u0,u1]) rfl ?_
   rw [zA HR2]
   exact ⟨T8,tc8,G8,gc8,rfl,(zA HN9).le (by omega),zA HL9⟩
end Go.Proofs.YtnbleebilmghcabGreat
namespace Go.Proofs.YtnbleebilmghcabGreat
open Go Go.RowKit
structure AnyS (w:World) (T G:Option Addr) (l:List TabX) (tabs:List TabI) (Y:Wd):Prop where
 tog:TogAt w T l tabs
 hY:Y.rows=insTo (tabs.flatMap (·.rows)) (tabs.flatMap (·.rows)).length
 gens:IntsL w G Y.gens
 hgl:Y.gens.length≤4194304
 hrl:(tabs.flatMap (·.rows)).length≤4194304
theorem AnyS.below {w w1:World} {T G:Option Addr} {l:List TabX} {tabs:List TabI} {Y:Wd} (h:AnyS w T G l tabs Y) (hb:Below w.heap.size w w1):AnyS w1 T G l tabs Y:=⟨h.tog.below hb,h.hY,h.gens.below hb,h.hgl,h.hrl⟩
theorem AnyS.stat {w:World} {T G:Option Addr} {l:List TabX} {tabs:List TabI} {Y:Wd} (h:AnyS w T G l tabs Y) (h0:(zBB l tabs Y).1=0):(zBB l tabs Y).2=0∧l.length=tabs.length∧StAt w T G tabs Y:=by
 obtain ⟨a,b,c,_⟩:=h.tog.stat h.hY h.gens h0
 exact ⟨by rw [c],b,a⟩
theorem AnyS.of {w:World} {T G:Option Addr} {tabs:List TabI} {X:Wd} (h:StAt w T G tabs X):AnyS w T G (tabs.map toX) tabs X∧zBB (tabs.map toX) tabs X=(0,0)∧(tabs.map toX).length=tabs.length:=by
 have hw0:=(zf X).2 h.right
 obtain ⟨hl,hgl,_⟩:=zk hw0
 have hml:(tabs.map toX).length=tabs.length:=List.length_map _
 have htf:=h.few
 have hT:TogAt w T (tabs.map toX) tabs:=⟨h.tbs.x,by omega,fun i hi=>by rw [zBV tabs (by omega)];exact (h.each _ (List.getElem_mem (by omega))).fewX,by omega,fun i hi=>zBV tabs hi,h.each,fun i hi=>zNF h.each h.up hi,fun hi=>by omega⟩
 exact ⟨⟨hT,zDb h.right h.perm,h.gens,by omega,by rw [h.perm.length_eq];omega⟩,by unfold zBB;rw [if_neg (by omega),hw0],hml⟩
def zFS (se:Int) (S:Nat→SysI) (n:Nat) (Y:Wd):(Int×Int)×Wd:=if se≠0 then ((se,0),emptyW) else zBg S n 0 Y
def zGl (se:Int) (Y:Wd) (s:SysI):Int×Wd:=if se≠0 then (se,emptyW) else zCi Y s
theorem zKK {Y:Wd} (W:World) (T:Option Addr) (tc:Nat) (G:Option Addr) (gc:Nat) (T':Option Addr) (tc':Nat) (G':Option Addr) (gc':Nat) (h:StAt W T G (za Y) Y) (h':StAt W T' G' (za Y) Y) :
  Calls Tryz.prog 9 #[.agg #[.slice T (za Y).length tc,.slice G Y.gens.length gc],.agg #[.slice T' (za Y).length tc',.slice G' Y.gens.length gc']] W fun e w'=>e=.returned (.bool true)∧Below W.heap.size W w':=by
 have hr:=zk ((zf Y).2 h.right)
 have:=zJG T tc G gc T' tc' G' gc' ((za Y).map toX) Y.gens W (by rw [List.length_map];have:=h.few;omega) (by omega) (fun i hi=>by
  rw [List.length_map] at hi
  rw [zBV _ hi]
  exact (h.each _ (List.getElem_mem hi)).fewX) h.tbs.x h.gens h'.tbs.x h'.gens
 rwa [List.length_map] at this
structure Agr (w0 B:Nat) (W W':World):Prop where
 os:W'.os=W.os
 tape:W'.tape=W.tape
 output:W'.output=W.output
 size:W.heap.size≤W'.heap.size
 block:∀ g,(g<w0∨B≤g)→g<W.heap.size→W'.heap[g]?=W.heap[g]?
def SD (w0 B:Nat) (W:World) (T G:Option Addr) (tabs:List TabI) (Y:Wd):Prop:=∀ W',Agr w0 B W W'→StAt W' T G tabs Y
section
variable {w0 B:Nat} {W W1:World} {T G:Option Addr} {tabs:List TabI} {Y:Wd}
theorem SD.at_ (h:SD w0 B W T G tabs Y):StAt W T G tabs Y:=h W ⟨rfl,rfl,rfl,Nat.le_refl _,fun _ _ _=>rfl⟩
theorem SD.below (h:SD w0 B W T G tabs Y) (hb:Below W.heap.size W W1):SD w0 B W1 T G tabs Y:=fun W' ha =>
 h W' ⟨ha.os.trans hb.os,ha.tape.trans hb.tape,ha.output.trans hb.output,Nat.le_trans hb.size ha.size,fun g h1 h2=>(ha.block g h1 (Nat.lt_of_lt_of_le h2 hb.size)).trans (hb.block g h2)⟩
theorem SD.start {w:World} (h:StAt w T G tabs Y) (hb:Below w.heap.size w W):SD w.heap.size B W T G tabs Y:=fun W' ha =>
 h.below ⟨ha.os.trans hb.os,ha.tape.trans hb.tape,ha.output.trans hb.output,Nat.le_trans hb.size ha.size,fun k hk=>(ha.block k (.inl hk) (Nat.lt_of_lt_of_le hk hb.size)).trans (hb.block k hk)⟩
theorem SD.put (h:SD w0 B W T G tabs Y) {b o:Nat} {vs:List Value} (h0:w0≤b) (h1:b<B):SD w0 B (W.setCells b o vs) T G tabs Y:=fun W' ha=>by
 have hb:=zI (w0:=W) b (Nat.zero_le b) vs o W (Below.refl 0 W)
 refine h W' ⟨ha.os.trans hb.os,ha.tape.trans hb.tape,ha.output.trans hb.output,Nat.le_trans hb.size ha.size,fun g h2 h3=>?_⟩
 exact (ha.block g h2 (Nat.lt_of_lt_of_le h3 hb.size)).trans (zCO b vs o W g (by omega))
theorem zLJ {l:List Int} (h:IntsL W G l) (hg:∀ c o,G=some ⟨c,o,none⟩→0<l.length→W1.heap[c]?=W.heap[c]?):IntsL W1 G l:=fun j hj=>by
 obtain ⟨b,off,e,hc⟩:=h j hj
 exact ⟨b,off,e,(World.cell?_of_block (w:=W) (hg b off e (by omega))).trans hc⟩
theorem zHl {l:List Int} (h:IntsL W G l):∀ c o,G=some ⟨c,o,none⟩→0<l.length→c<W.heap.size:=fun c o e hl=>by
 obtain ⟨b',o',e',hr⟩:=h 0 hl
 rw [e] at e'
 simp only [Option.some.injEq,Addr.mk.injEq,and_true] at e'
 rw [e'.1]
 exact World.block_lt_of_cell? W _ hr
theorem SD.mk {base:Nat} (hS:zNA base W T G tabs Y) (hB:B≤base) (hI:IntsL W G Y.gens) (hG:∀ c o,G=some ⟨c,o,none⟩→0<Y.gens.length→c<w0∨B≤c):SD w0 B W T G tabs Y:=fun W' ha =>
 hS W' (fun g h1 h2=>ha.block g (.inr (Nat.le_trans hB h1)) h2) (zLJ hI fun c o e hl=>ha.block c (hG c o e hl) (zHl hI c o e hl))
end
structure SQ (base:Nat) (W:World) (G:Option Addr) (n:Nat) (T' G':Option Addr) (Z:Wd):Prop where
 st:zNA base W T' G' (za Z) Z
 gens:IntsL W G' Z.gens
 old:∀ c o,G'=some ⟨c,o,none⟩→0<Z.gens.length→(0<n∧∃ o',G=some ⟨c,o',none⟩)∨base≤c
theorem SQ.at_ {base:Nat} {W:World} {G:Option Addr} {n:Nat} {T' G':Option Addr} {Z:Wd} (h:SQ base W G n T' G' Z):StAt W T' G' (za Z) Z:=h.st W (fun _ _ _=>rfl) h.gens
theorem SQ.empty (base:Nat) (W:World) (G:Option Addr) (n:Nat):SQ base W G n none none emptyW:=⟨fun W' _ _=>zDW base W' W' (fun _ _ _=>rfl),fun j hj=>by simp [emptyW] at hj,fun c o e=>by cases e⟩
theorem zKL (T:Option Addr) (tcap:Nat) (G:Option Addr) (gcap:Nat) (tabs:List TabI) (Y:Wd) (w:World) (h:StAt w T G tabs Y) :
  Calls Tryz.prog 31 #[.agg #[.slice T tabs.length tcap,.slice G Y.gens.length gcap]] w fun e w'=>∃ A' c',e=.returned (.agg #[.slice A' Y.rows.length c',.slice G Y.gens.length gcap])∧WldAt w' A' c' G gcap Y∧(∀ c o,A'=some ⟨c,o,none⟩→w.heap.size≤c)∧Below w.heap.size w w':=by
 have hr:=zk ((zf Y).2 h.right)
 have hp:=h.perm.length_eq
 have hf:=h.few
 refine (zFV T tcap G gcap tabs Y.gens w h.tbs h.each (by omega) (by omega)).mono ?_
 rintro e w1 ⟨v,rfl,ho,hb⟩
 rw [←zDb h.right h.perm,hp] at ho
 obtain ⟨A',c',rfl⟩:∃ A' c',v=.slice A' Y.rows.length c':=by
  rcases ho.2 with ⟨e,h0⟩ | ⟨g,cap,cur,e,_⟩
  ·exact ⟨none,0,by rw [e,h0]⟩
  ·exact ⟨_,cap,e⟩
 exact ⟨A',c',rfl,⟨zAt ho,h.gens.below hb⟩,fun c o e=>(ho.lt c (by rw [e];rfl)).1,hb⟩
end Go.Proofs.YtnbleebilmghcabGreat
set_option maxHeartbeats 4000000
set_option maxRecDepth 8000
namespace Go.Proofs.YtnbleebilmghcabGreat
open Go Go.RowKit
attribute [local go_sem ↓] Go.wp_at_zero Go.wp_at_succ
theorem zIz (T:Option Addr) (tcap:Nat) (G:Option Addr) (gcap:Nat) (l:List TabX) (tabs:List TabI) (Y:Wd) (w:World) (h:AnyS w T G l tabs Y) :
  Calls Tryz.prog 24 #[stV T l.length tcap G Y.gens.length gcap] w fun e w'=>e=.returned (.agg #[.int .i64 (zBB l tabs Y).1,.int .i64 (zBB l tabs Y).2])∧Below w.heap.size w w':=by
 obtain ⟨h,hY,hG,hgl,hrl⟩:=h
 have hTO:=fun W (hb:Below w.heap.size w W)=>zEP T tcap G gcap l tabs Y W (h.below hb) hY (hG.below hb) hgl hrl
 unfold stV zi zM at hTO
 have hBB:=BB.start w (.slice T l.length tcap) (.slice G Y.gens.length gcap) (.int .i64 0) (.int .i64 0) 25 29
 generalize (zBB l tabs Y).1=e0 at *
 generalize (zBB l tabs Y).2=e1 at *
 generalize zKA l tabs Y=X at *
 have HTO:=zB hTO
 have HBB:=zB hBB
 clear hTO hBB h hY hG hgl hrl
 unfold stV
 go_enter Tryz.func24,Tryz.ntmps24
 go_wp2_with (first
  | (go_at_call 51;refine (zA HTO _ (zA HBB).bel).mono ?_;rintro e w1 ⟨A1,c1,G1,gc1,rfl,hN,hb1⟩;have HB1:=zB (((zA HBB).below hb1).below (zCx w1 (.cells #[.slice A1 X.rows.length c1,.slice G1 X.gens.length gc1] 43) (.cells #[.int .i64 e0,.int .i64 e1] 29)));clear hN hb1)
  | (refine zG rfl 29 (.tmp 2) (.tmp 10) rfl (w.heap.size+1) 0 [.int .i64 e0,.int .i64 e1] rfl rfl (by simp [Value.oneCell']) size43t (zCz (zA HB1).s) ?_;intro W3 hW3;have hC:=(zA HB1).give (.int .i64 e0) (.int .i64 e1);rw [←hW3] at hC;have HC:=zB hC;clear hW3 hC))
 have t0:=(zA HC).s.e0
 have t1:=(zA HC).s.e1
 refine bodyPost_ret (v:=.agg #[.int .i64 e0,.int .i64 e1]) (by simp [results,Tryz.results24,go_sem,t0,t1]) rfl ⟨rfl,(zA HC).bel⟩
theorem zOJ (T:Option Addr) (tcap:Nat) (G:Option Addr) (gcap:Nat) (l:List TabX) (tabs:List TabI) (Y:Wd) (L:Option Addr) (n lcap:Nat) (w:World) (h:AnyS w T G l tabs Y) (h0:(zBB l tabs Y).1≠0) :
  Calls Tryz.prog 7 #[.agg #[.slice T l.length tcap,.slice G Y.gens.length gcap],.slice L n lcap] w fun e w'=>e=.returned (.tuple #[.agg #[.slice none 0 0,.slice none 0 0],.agg #[.int .i64 (zBB l tabs Y).1,.int .i64 0]])∧Below w.heap.size w w':=by
 have hSW:=fun W (hb:Below w.heap.size w W)=>zIz T tcap G gcap l tabs Y W (h.below hb)
 unfold stV at hSW
 generalize (zBB l tabs Y).2=sa at *
 generalize (zBB l tabs Y).1=se at *
 have hse2:(se == 0)=false:=by simpa using h0
 have hse3:(se != 0)=true:=by simpa using h0
 have HSW:=zB hSW
 clear hSW h h0
 obtain ⟨W0,hW0⟩:∃ W0,W0=zt w [([.slice T l.length tcap,.slice G Y.gens.length gcap],25),([.slice none 0 0,.slice none 0 0],25),([.int .i64 0,.int .i64 0],29)]:=⟨_,rfl⟩
 have hX0:=Bxs.start w [([.slice T l.length tcap,.slice G Y.gens.length gcap],25),([.slice none 0 0,.slice none 0 0],25),([.int .i64 0,.int .i64 0],29)]
 have hb0:=allocs_below [([.slice T l.length tcap,.slice G Y.gens.length gcap],25),([.slice none 0 0,.slice none 0 0],25),([.int .i64 0,.int .i64 0],29)] w
 rw [←hW0] at hX0 hb0
 have hW0':((w.alloc (.cells #[.slice T l.length tcap,.slice G Y.gens.length gcap] 25)).alloc (.cells #[.slice none 0 0,.slice none 0 0] 25)).alloc (.cells #[.int .i64 0,.int .i64 0] 29)=W0:=hW0.symm
 have HW0:=zB hW0'
 clear hW0 hW0'
 have c0:=hX0.cell 0 rfl 0 rfl
 have c1:=hX0.cell 0 rfl 1 rfl
 rw [Nat.add_zero] at c0 c1
 have HB0:=zB hX0
 have HL0:=zB hb0
 clear hX0 hb0
 go_enter Tryz.func7,Tryz.ntmps7
 go_upto_region 1 with fail
 rw [zA HW0]
 clear HW0
 go_wp2_with fail
 go_at_call 24
 refine (zA HSW _ (zA HL0)).mono ?_
 rintro e w5 ⟨rfl,hb5⟩
 obtain ⟨W6,hW6⟩:∃ W6,W6=zt w5 [([.int .i64 se,.int .i64 sa],29)]:=⟨_,rfl⟩
 have hX6:=Bxs.start w5 [([.int .i64 se,.int .i64 sa],29)]
 have hb6:=allocs_below [([.int .i64 se,.int .i64 sa],29)] w5
 rw [←hW6] at hX6 hb6
 have hW6':w5.alloc (.cells #[.int .i64 se,.int .i64 sa] 29)=W6:=hW6.symm
 have HW6:=zB hW6'
 clear hW6 hW6'
 have hb56:=hb5.trans (hb6.mono hb5.size)
 have hB6:=(zA HB0).below hb56
 have HZ5:Hid (w.heap.size+3≤w5.heap.size):=zB (by have:=((zA HB0).below hb5).sz (by simp);simpa using this)
 have f0:=hX6.cell 0 rfl 0 rfl
 rw [Nat.add_zero] at f0
 have hL6:=(zA HL0).trans (hb56.mono (zA HL0).size)
 have HB6:=zB hB6
 have HL6:=zB hL6
 have HX6:=zB hX6
 clear c0 c1 hB6 hL6 hX6 hb5 hb6 hb56 HB0 HL0 HSW
 go_upto_region 2 with fail
 rw [zA HW6]
 clear HW6
 go_wp2_with fail
 clear f0
 have h0:(fun (_:Unit) (L:Nat→Bool) W=>Bxs w.heap.size [([.slice T l.length tcap,.slice G Y.gens.length gcap],25),([.slice none 0 0,.slice none 0 0],25),(if L 5=true then [.int .i64 se,.int .i64 0] else [.int .i64 0,.int .i64 0],29)] W∧Bxs w5.heap.size [([.int .i64 se,.int .i64 sa],29)] W∧Below w.heap.size w W) () (fun _=>false) W6.drew:=⟨(zA HB6).below (Below.refl _ _).drew,(zA HX6).below (Below.refl _ _).drew,(zA HL6).drew⟩
 refine zd (fun (γ:Unit) ix v=>(([fun v=>v=.agg #[.slice none 0 0,.slice none 0 0],fun v=>v=.pointer (some ⟨w5.heap.size,0,none⟩),fun v=>v=.int .i64 se,fun v=>v=.agg #[.int .i64 se,.int .i64 0],fun _=>True,fun _=>True]:List (Value→Prop)).getD ix (fun _=>True)) v) (fun (_:Unit) (L:Nat→Bool) W=>Bxs w.heap.size [([.slice T l.length tcap,.slice G Y.gens.length gcap],25),([.slice none 0 0,.slice none 0 0],25),(if L 5=true then [.int .i64 se,.int .i64 0] else [.int .i64 0,.int .i64 0],29)] W∧Bxs w5.heap.size [([.int .i64 se,.int .i64 sa],29)] W∧Below w.heap.size w W) (()) (by kernel_rfl) (by kernel_rfl) (by kernel_rfl) h0 ?hstep ?hend
 case hstep =>
  intro γ ix o ho L ac w1 hD hL hed hcl hout hv
  match ix,ho with
  | 0,ho =>
   simp at ho
   subst ho
   exact .inl ⟨rfl,zF γ _ (by simp [go_sem,Act.eval,-Array.getD_eq_getD_getElem?,]) rfl (by rw [zL (by decide)];exact hD) (fun _ _ _ _ h=>h)⟩
  | 1,ho =>
   simp at ho
   subst ho
   have e6:ac.tmps.getD 6 undef=.pointer (some ⟨w5.heap.size,0,none⟩):=hout 6 (by decide +kernel)
   exact .inl ⟨rfl,zF γ _ (by simp [go_sem,Act.eval,-Array.getD_eq_getD_getElem?,e6]) rfl (by rw [zL (by decide)];exact hD) (fun _ _ _ _ h=>h)⟩
  | 2,ho =>
   simp at ho
   subst ho
   have e18:ac.tmps.getD 18 undef=_:=hv 1 18 rfl (by kernel_rfl)
   have c0:=hD.2.1.cell 0 rfl 0 rfl
   rw [Nat.add_zero] at c0
   exact .inl ⟨rfl,zF γ _ (by simp [go_sem,Act.eval,-Array.getD_eq_getD_getElem?,e18,c0]) rfl (by rw [zL (by decide)];exact hD) (fun _ _ _ _ h=>h)⟩
  | 3,ho =>
   simp at ho
   subst ho
   have e19:ac.tmps.getD 19 undef=.int .i64 se:=hv 2 19 rfl (by kernel_rfl)
   exact .inl ⟨rfl,zF γ _ (by simp [go_sem,Act.eval,-Array.getD_eq_getD_getElem?,e19]) rfl (by rw [zL (by decide)];exact hD) (fun _ _ _ _ h=>h)⟩
  | 4,ho =>
   simp at ho
   subst ho
   have e4:ac.tmps.getD 4 undef=.pointer (some ⟨w.heap.size+1,0,none⟩):=hout 4 (by decide +kernel)
   have e17:ac.tmps.getD 17 undef=_:=hv 0 17 rfl (by kernel_rfl)
   have hg:=hD.1.give 1 rfl [.slice none 0 0,.slice none 0 0] rfl
   refine .inl ⟨rfl,zAu γ 25 (.tmp 4) (.tmp 17) rfl (w.heap.size+1) 0 [.slice none 0 0,.slice none 0 0] (by simp [Act.eval,-Array.getD_eq_getD_getElem?,e4]) (by simp [Act.eval,-Array.getD_eq_getD_getElem?,e17]) (by simp [Value.oneCell']) size71 (hD.1.there 1 rfl 2 rfl) trivial ⟨?_,hD.2.1.turn (.inl (by have:=zA HZ5;omega)),zI (w.heap.size+1) (by omega) _ 0 _ hD.2.2⟩ (fun _ _ _ _ h=>h)⟩
   rw [zL (by decide)]
   exact hg
  | 5,ho =>
   simp at ho
   subst ho
   have e5:ac.tmps.getD 5 undef=.pointer (some ⟨w.heap.size+2,0,none⟩):=hout 5 (by decide +kernel)
   have e20:ac.tmps.getD 20 undef=_:=hv 3 20 rfl (by kernel_rfl)
   have hg:=hD.1.give 2 rfl [.int .i64 se,.int .i64 0] (by rw [hL];rfl)
   refine .inl ⟨rfl,zAu γ 29 (.tmp 5) (.tmp 20) rfl (w.heap.size+2) 0 [.int .i64 se,.int .i64 0] (by simp [Act.eval,-Array.getD_eq_getD_getElem?,e5]) (by simp [Act.eval,-Array.getD_eq_getD_getElem?,e20]) (by simp [Value.oneCell']) size43t (hD.1.there 2 rfl 2 (by rw [hL];rfl)) trivial ⟨?_,hD.2.1.turn (.inl (by have:=zA HZ5;omega)),zI (w.heap.size+2) (by omega) _ 0 _ hD.2.2⟩ (fun _ _ _ _ h=>h)⟩
   rw [zAw,if_pos rfl]
   exact hg
  | ix+6,ho=>simp at ho
 case hend =>
  intro γ v L w9 hD hall hv
  rw [hall 5 (by decide),if_pos rfl] at hD
  have t0:=hD.1.cell 1 rfl 0 rfl
  have t1:=hD.1.cell 1 rfl 1 rfl
  have u0:=hD.1.cell 2 rfl 0 rfl
  have u1:=hD.1.cell 2 rfl 1 rfl
  have HD:=zB hD.2.2
  clear hv hall hD h0
  simp only [zu,List.getElem?_cons_zero,List.getElem?_cons_succ,Option.bind_some,List.length_cons,List.length_nil,Nat.reduceAdd]
  go_frame
  go_wp2
  refine bodyPost_ret (v:=.tuple #[.agg #[.slice none 0 0,.slice none 0 0],.agg #[.int .i64 se,.int .i64 0]]) (by simp [results,Tryz.results7,go_sem,t0,t1,u0,u1]) rfl ⟨rfl,zA HD⟩
theorem zNT (T:Option Addr) (tcap:Nat) (G:Option Addr) (gcap:Nat) (l:List TabX) (tabs:List TabI) (Y:Wd) (L:Option Addr) (n lcap:Nat) (S:Nat→SysI) (w:World) (h:AnyS w T G l tabs Y) (hn:n≤4194304) (hS:SyssAt w L n S) :
  Calls Tryz.prog 7 #[.agg #[.slice T l.length tcap,.slice G Y.gens.length gcap],.slice L n lcap] w fun e w'=>∃ T' tc' G' gc',e=.returned (.tuple #[stV T' (za (zFS (zBB l tabs Y).1 S n Y).2).length tc' G' (zFS (zBB l tabs Y).1 S n Y).2.gens.length gc',.agg #[.int .i64 (zFS (zBB l tabs Y).1 S n Y).1.1,.int .i64 (zFS (zBB l tabs Y).1 S n Y).1.2]])∧StNew w.heap.size w' T' G' (za (zFS (zBB l tabs Y).1 S n Y).2) (zFS (zBB l tabs Y).1 S n Y).2∧Below w.heap.size w w':=by
 unfold zFS
 by_cases h0:(zBB l tabs Y).1=0
 ·rw [if_neg (by simpa using h0)]
  obtain ⟨_,hl,hAt⟩:=h.stat h0
  have:=zOK T tcap G gcap tabs Y L n lcap S w hAt hn hS
  rw [←hl] at this
  exact this
 ·rw [if_pos h0]
  exact (zOJ T tcap G gcap l tabs Y L n lcap w h h0).mono fun e w' ⟨he,hb⟩=>⟨none,0,none,0,he,zDW _ _,hb⟩
theorem zOa (T:Option Addr) (tcap:Nat) (G:Option Addr) (gcap:Nat) (l:List TabX) (tabs:List TabI) (X:Wd) (s:SysI) (w:World) (h:AnyS w T G l tabs X) (hA:ActsAt w s.A s.len s.a) :
  Calls Tryz.prog 10 #[stV T l.length tcap G X.gens.length gcap,zIx s] w fun e w'=>∃ T' tc' G' gc',e=.returned (.tuple #[stV T' (za (zGl (zBB l tabs X).1 X s).2).length tc' G' (zGl (zBB l tabs X).1 X s).2.gens.length gc',.int .i64 (zGl (zBB l tabs X).1 X s).1])∧StNew w.heap.size w' T' G' (za (zGl (zBB l tabs X).1 X s).2) (zGl (zBB l tabs X).1 X s).2∧Below w.heap.size w w':=by
 have hB0:=Bxs.start w [([.slice T l.length tcap,.slice G X.gens.length gcap],25),([.int .i64 s.m,.int .i64 s.al,.int .i64 s.no,.slice s.A s.len s.cap],37),([.slice none 0 0,.slice none 0 0],25)]
 have hb0:=allocs_below [([.slice T l.length tcap,.slice G X.gens.length gcap],25),([.int .i64 s.m,.int .i64 s.al,.int .i64 s.no,.slice s.A s.len s.cap],37),([.slice none 0 0,.slice none 0 0],25)] w
 have hs0:=allocs_size [([.slice T l.length tcap,.slice G X.gens.length gcap],25),([.int .i64 s.m,.int .i64 s.al,.int .i64 s.no,.slice s.A s.len s.cap],37),([.slice none 0 0,.slice none 0 0],25)] w
 obtain ⟨W0,hW0⟩:∃ W0,W0=zt w [([.slice T l.length tcap,.slice G X.gens.length gcap],25),([.int .i64 s.m,.int .i64 s.al,.int .i64 s.no,.slice s.A s.len s.cap],37),([.slice none 0 0,.slice none 0 0],25)]:=⟨_,rfl⟩
 rw [←hW0] at hB0 hb0 hs0
 have hW0':((w.alloc (.cells #[.slice T l.length tcap,.slice G X.gens.length gcap] 25)).alloc (.cells #[.int .i64 s.m,.int .i64 s.al,.int .i64 s.no,.slice s.A s.len s.cap] 37)).alloc (.cells #[.slice none 0 0,.slice none 0 0] 25)=W0:=hW0.symm
 have hb1:=zAS W0 (.cells #[.int .i64 s.m,.int .i64 s.al,.int .i64 s.no,.slice s.A s.len s.cap] 37)
 have hSY:SyssAt (W0.alloc (.cells #[.int .i64 s.m,.int .i64 s.al,.int .i64 s.no,.slice s.A s.len s.cap] 37)) (some ⟨W0.heap.size,0,none⟩) 1 (fun _=>s):=fun j hj=>by
  obtain rfl:j=0:=by omega
  exact ⟨W0.heap.size,0,rfl,by simp,by simp,by simp,by simp,(hA.below hb0).below hb1⟩
 have hAL:=zNT T tcap G gcap l tabs X (some ⟨W0.heap.size,0,none⟩) 1 1 (fun _=>s) _ ((h.below hb0).below hb1) (by decide) hSY
 generalize (zBB l tabs X).1=se at *
 have eA:(zFS se (fun _=>s) 1 X).2=(zGl se X s).2∧(zFS se (fun _=>s) 1 X).1.1=(zGl se X s).1:=by
  unfold zFS zGl
  by_cases h:se=0
  ·rw [if_neg (by simpa using h),if_neg (by simpa using h)]
   have e:zBg (fun _=>s) 1 0 X=if (zCi X s).1≠0 then (((zCi X s).1,0),emptyW) else ((0,0),(zCi X s).2):=rfl
   rw [e]
   split
   ·rename_i e;exact ⟨(zKN e).symm,rfl⟩
   ·rename_i e;exact ⟨rfl,(Decidable.not_not.1 e).symm⟩
  ·rw [if_pos h,if_pos h]
   exact ⟨rfl,rfl⟩
 rw [eA.1,eA.2] at hAL
 obtain ⟨Y,hY⟩:∃ Y,Y=(zGl se X s).2:=⟨_,rfl⟩
 obtain ⟨err,herr⟩:∃ err,err=(zGl se X s).1:=⟨_,rfl⟩
 rw [←hY,←herr] at hAL ⊢
 generalize (zFS se (fun _=>s) 1 X).1.2=ea at *
 unfold stV at hAL
 have s0:=hB0.cell 0 rfl 0 rfl
 have s1:=hB0.cell 0 rfl 1 rfl
 rw [Nat.add_zero] at s0 s1
 have y0:=hB0.cell 1 rfl 0 rfl
 have y1:=hB0.cell 1 rfl 1 rfl
 have y2:=hB0.cell 1 rfl 2 rfl
 have y3:=hB0.cell 1 rfl 3 rfl
 have HZ0:Hid (w.heap.size+3≤W0.heap.size):=zB (by rw [hs0];simp)
 have HAL:=zB hAL
 have HB0:=zB (hB0.below hb1)
 have HL0:=zB (hb0.trans (hb1.mono hb0.size))
 have HS1:Hid ((W0.alloc (.cells #[.int .i64 s.m,.int .i64 s.al,.int .i64 s.no,.slice s.A s.len s.cap] 37)).heap.size=W0.heap.size+1):=zB (by simp)
 have HW0:=zB hW0'
 clear hW0 hW0' hB0 hb0 hb1 h hA hSY hAL eA hY herr hs0
 unfold stV zIx zDV
 go_enter Tryz.func10,Tryz.ntmps10
 go_upto_region 1 with fail
 rw [zA HW0]
 go_wp2_with fail
 go_at_call 7
 refine (zA HAL).mono ?_
 rintro e w5 ⟨T5,tc5,G5,gc5,rfl,hN5,hb5⟩
 have hB5:=(zA HB0).below hb5
 have hL5:=(zA HL0).trans (hb5.mono (zA HL0).size)
 have HZ5:Hid (w.heap.size+3≤w5.heap.size):=zB (by have:=zA HZ0;have:=hb5.size;have:=zA HS1;omega)
 have hN5:=hN5.le (base':=w.heap.size+3) (by have:=zA HZ0;have:=zA HS1;omega)
 have hb6:=zCx w5 (.cells #[.slice T5 (za Y).length tc5,.slice G5 Y.gens.length gc5] 25) (.cells #[.int .i64 err,.int .i64 ea] 29)
 have h0:Bxs w.heap.size [([.slice T l.length tcap,.slice G X.gens.length gcap],25),([.int .i64 s.m,.int .i64 s.al,.int .i64 s.no,.slice s.A s.len s.cap],37),([.slice none 0 0,.slice none 0 0],25)] ((w5.alloc (.cells #[.slice T5 (za Y).length tc5,.slice G5 Y.gens.length gc5] 25)).alloc (.cells #[.int .i64 err,.int .i64 ea] 29)).drew∧Below w.heap.size w ((w5.alloc (.cells #[.slice T5 (za Y).length tc5,.slice G5 Y.gens.length gc5] 25)).alloc (.cells #[.int .i64 err,.int .i64 ea] 29)).drew∧((w5.alloc (.cells #[.slice T5 (za Y).length tc5,.slice G5 Y.gens.length gc5] 25)).alloc (.cells #[.int .i64 err,.int .i64 ea] 29)).drew.cell? ⟨w5.heap.size,0,none⟩=some (.slice T5 (za Y).length tc5)∧((w5.alloc (.cells #[.slice T5 (za Y).length tc5,.slice G5 Y.gens.length gc5] 25)).alloc (.cells #[.int .i64 err,.int .i64 ea] 29)).drew.cell? ⟨w5.heap.size,1,none⟩=some (.slice G5 Y.gens.length gc5)∧((w5.alloc (.cells #[.slice T5 (za Y).length tc5,.slice G5 Y.gens.length gc5] 25)).alloc (.cells #[.int .i64 err,.int .i64 ea] 29)).drew.cell? ⟨w5.heap.size+1,0,none⟩=some (.int .i64 err)∧StNew (w.heap.size+3) ((w5.alloc (.cells #[.slice T5 (za Y).length tc5,.slice G5 Y.gens.length gc5] 25)).alloc (.cells #[.int .i64 err,.int .i64 ea] 29)).drew T5 G5 (za Y) Y:=by
  have hx:=Bxs.start w5 [([.slice T5 (za Y).length tc5,.slice G5 Y.gens.length gc5],25),([.int .i64 err,.int .i64 ea],29)]
  exact ⟨hB5.below hb6.drew,(hL5.trans (hb6.mono hL5.size)).drew,hx.cell 0 rfl 0 rfl,hx.cell 0 rfl 1 rfl,hx.cell 1 rfl 0 rfl,hN5.below hb6.drew⟩
 clear hN5 hb5 hB5 hL5 hb6 s0 s1 y0 y1 y2 y3 HAL HB0 HL0 HW0
 go_wp2_with fail
 refine zd (fun (γ:Unit) ix v=>(([fun v=>v=.agg #[.slice T5 (za Y).length tc5,.slice G5 Y.gens.length gc5],fun v=>v=.pointer (some ⟨w5.heap.size+1,0,none⟩),fun v=>v=.int .i64 err,fun _=>True,fun v=>v=.int .i64 err]:List (Value→Prop)).getD ix (fun _=>True)) v) (fun (_:Unit) L W=>Bxs w.heap.size [([.slice T l.length tcap,.slice G X.gens.length gcap],25),([.int .i64 s.m,.int .i64 s.al,.int .i64 s.no,.slice s.A s.len s.cap],37),(if L 3=true then [.slice T5 (za Y).length tc5,.slice G5 Y.gens.length gc5] else [.slice none 0 0,.slice none 0 0],25)] W∧Below w.heap.size w W∧W.cell? ⟨w5.heap.size,0,none⟩=some (.slice T5 (za Y).length tc5)∧W.cell? ⟨w5.heap.size,1,none⟩=some (.slice G5 Y.gens.length gc5)∧W.cell? ⟨w5.heap.size+1,0,none⟩=some (.int .i64 err)∧StNew (w.heap.size+3) W T5 G5 (za Y) Y) (()) (by kernel_rfl) (by kernel_rfl) (by kernel_rfl) h0 ?hstep ?hend
 case hstep =>
  intro γ ix o ho L ac w1 hD hL hed hcl hout hv
  match ix,ho with
  | 0,ho =>
   simp at ho
   subst ho
   have e6:ac.tmps.getD 6 undef=.pointer (some ⟨w5.heap.size,0,none⟩):=hout 6 (by decide +kernel)
   have c0:=hD.2.2.1
   have c1:=hD.2.2.2.1
   exact .inl ⟨rfl,zF γ _ (by simp [go_sem,Act.eval,-Array.getD_eq_getD_getElem?,e6,c0,c1]) rfl (by rw [zL (by decide)];exact hD) (fun _ _ _ _ h=>h)⟩
  | 1,ho =>
   simp at ho
   subst ho
   have e7:ac.tmps.getD 7 undef=.pointer (some ⟨w5.heap.size+1,0,none⟩):=hout 7 (by decide +kernel)
   exact .inl ⟨rfl,zF γ _ (by simp [go_sem,Act.eval,-Array.getD_eq_getD_getElem?,e7]) rfl (by rw [zL (by decide)];exact hD) (fun _ _ _ _ h=>h)⟩
  | 2,ho =>
   simp at ho
   subst ho
   have e16:ac.tmps.getD 16 undef=_:=hv 1 16 rfl (by kernel_rfl)
   have c0:=hD.2.2.2.2.1
   exact .inl ⟨rfl,zF γ _ (by simp [go_sem,Act.eval,-Array.getD_eq_getD_getElem?,e16,c0]) rfl (by rw [zL (by decide)];exact hD) (fun _ _ _ _ h=>h)⟩
  | 3,ho =>
   simp at ho
   subst ho
   have e4:ac.tmps.getD 4 undef=.pointer (some ⟨w.heap.size+2,0,none⟩):=hout 4 (by decide +kernel)
   have e15:ac.tmps.getD 15 undef=_:=hv 0 15 rfl (by kernel_rfl)
   have hg:=hD.1.give 2 rfl [.slice T5 (za Y).length tc5,.slice G5 Y.gens.length gc5] (by rw [hL];rfl)
   refine .inl ⟨rfl,zAu γ 25 (.tmp 4) (.tmp 15) rfl (w.heap.size+2) 0 [.slice T5 (za Y).length tc5,.slice G5 Y.gens.length gc5] (by simp [Act.eval,-Array.getD_eq_getD_getElem?,e4]) (by simp [Act.eval,-Array.getD_eq_getD_getElem?,e15]) (by simp [Value.oneCell']) size71 (hD.1.there 2 rfl 2 (by rw [hL];rfl)) trivial ⟨?_,zI (w.heap.size+2) (by omega) _ 0 _ hD.2.1,(zW (by have:=zA HZ5;simp only [ne_eq];omega)).trans hD.2.2.1,(zW (by have:=zA HZ5;simp only [ne_eq];omega)).trans hD.2.2.2.1,(zW (by have:=zA HZ5;simp only [ne_eq];omega)).trans hD.2.2.2.2.1,hD.2.2.2.2.2.putc (by omega)⟩ (fun _ _ _ _ h=>h)⟩
   rw [zAw,if_pos rfl]
   exact hg
  | 4,ho =>
   simp at ho
   subst ho
   have e17:ac.tmps.getD 17 undef=_:=hv 2 17 rfl (by kernel_rfl)
   exact .inl ⟨rfl,zF γ _ (by simp [go_sem,Act.eval,-Array.getD_eq_getD_getElem?,e17]) rfl (by rw [zL (by decide)];exact hD) (fun _ _ _ _ h=>h)⟩
  | ix+5,ho=>simp at ho
 case hend =>
  intro γ v L w9 hD hall hv
  rw [hall 3 (by decide),if_pos rfl] at hD
  have v4:v 4=.int .i64 err:=hv 4 5 rfl
  have HD:=zB hD
  clear hv hall hD h0
  simp only [zu,List.getElem?_cons_zero,List.getElem?_cons_succ,Option.bind_some,List.length_cons,List.length_nil,Nat.reduceAdd,v4]
  clear v4
  go_frame
  go_wp2
  have t0:=(zA HD).1.cell 2 rfl 0 rfl
  have t1:=(zA HD).1.cell 2 rfl 1 rfl
  refine bodyPost_ret (v:=.tuple #[.agg #[.slice T5 (za Y).length tc5,.slice G5 Y.gens.length gc5],.int .i64 err]) (by simp [results,Tryz.results10,go_sem,t0,t1]) rfl ⟨T5,tc5,G5,gc5,rfl,(zA HD).2.2.2.2.2.le (by omega),(zA HD).2.1⟩
end Go.Proofs.YtnbleebilmghcabGreat
namespace Go.Proofs.YtnbleebilmghcabGreat
open Go Go.RowKit
structure G7 where
 a:Option Addr
 c:Nat
 A4:Option Addr
 c4:Nat
 G4:Option Addr
 gc4:Nat
 p:Nat
structure D7 (W7:World) (G:Option Addr) (gcap:Nat) (Y Z:Wd) (γ:G7) (L:Nat→Bool) (W:World):Prop where
 bel:Below W7.heap.size W7 W
 wl:L 1=true→WldAt W γ.a γ.c G gcap Y∧∀ c o,γ.a=some ⟨c,o,none⟩→W7.heap.size≤c
 wf:L 3=true→WF W7.heap.size γ.a G Y W γ.A4 γ.c4 γ.G4 γ.gc4 Z
 bx:L 7=true→W7.heap.size≤γ.p∧Bxs γ.p [(if L 8=true then [.slice γ.A4 Z.rows.length γ.c4,.slice γ.G4 Z.gens.length γ.gc4] else [.slice none 0 0,.slice none 0 0],43)] W
 n1:L 1=true→L 7=true→¬ Blk γ.a G Y γ.p
 n3:L 3=true→L 7=true→¬ Blk γ.A4 γ.G4 Z γ.p
section
variable {W7:World} {G:Option Addr} {gcap:Nat} {Y Z:Wd} {γ:G7} {L:Nat→Bool} {W W1:World}
theorem D7.start (W7:World) (G:Option Addr) (gcap:Nat) (Y Z:Wd):D7 W7 G gcap Y Z ⟨none,0,none,0,none,0,0⟩ (fun _=>false) W7.drew :=
 ⟨(Below.refl _ _).drew,(fun e=>by cases e),(fun e=>by cases e),(fun e=>by cases e),(fun e=>by cases e),(fun e=>by cases e)⟩
theorem D7.same (h:D7 W7 G gcap Y Z γ L W) {i:Nat} (h1:1≠i) (h3:3≠i) (h7:7≠i) (h8:8≠i):D7 W7 G gcap Y Z γ (upd L i) W :=
 ⟨h.bel,by rw [zL h1];exact h.wl,by rw [zL h3];exact h.wf,by rw [zL h7,zL h8];exact h.bx,by rw [zL h1,zL h7];exact h.n1,by rw [zL h3,zL h7];exact h.n3⟩
theorem D7.world (h:D7 W7 G gcap Y Z γ L W) (h3:L 3=false) (hb:Below W.heap.size W W1) {A6:Option Addr} {c6:Nat} (hw:WldAt W1 A6 c6 G gcap Y) (hf:∀ c o,A6=some ⟨c,o,none⟩→W.heap.size≤c) (hG:∀ c o,G=some ⟨c,o,none⟩→0<Y.gens.length→c<W7.heap.size):D7 W7 G gcap Y Z ⟨A6,c6,γ.A4,γ.c4,γ.G4,γ.gc4,γ.p⟩ (upd L 1) W1:=by
 refine ⟨h.bel.trans (hb.mono h.bel.size),fun _=>⟨hw,fun c o e=>Nat.le_trans h.bel.size (hf c o e)⟩,fun e=>?_,fun e=>?_,fun _ e=>?_,fun e=>?_⟩
 ·rw [zL (by decide),h3] at e;cases e
 ·rw [zL (by decide)] at e ⊢
  exact ⟨(h.bx e).1,(h.bx e).2.below hb⟩
 ·rw [zL (by decide)] at e
  have hp:=(h.bx e).2.lt (k:=0) rfl
  have hq:=(h.bx e).1
  rintro (⟨_,o,e2⟩ | ⟨hl,o,e2⟩)
  ·have:=hf _ o e2;simp only at this;omega
  ·have:=hG _ o e2 hl;simp only at this;omega
 ·rw [zL (by decide),h3] at e;cases e
theorem D7.run (h:D7 W7 G gcap Y Z γ L W) (h1:L 1=true) (h8:L 8=false) (hb:Below W.heap.size W W1) {A6:Option Addr} {c6:Nat} {G6:Option Addr} {gc6:Nat} (hF:WF W.heap.size γ.a G Y W1 A6 c6 G6 gc6 Z):D7 W7 G gcap Y Z ⟨γ.a,γ.c,A6,c6,G6,gc6,γ.p⟩ (upd L 3) W1:=by
 refine ⟨h.bel.trans (hb.mono h.bel.size),fun e=>?_,fun _=>hF.le h.bel.size,fun e=>?_,fun e1 e=>?_,fun _ e=>?_⟩
 ·exact ⟨(h.wl h1).1.below hb,(h.wl h1).2⟩
 ·rw [zL (by decide)] at e ⊢
  rw [h8]
  have:=h.bx e
  rw [h8] at this
  exact ⟨this.1,this.2.below hb⟩
 ·rw [zL (by decide)] at e
  exact h.n1 h1 e
 ·rw [zL (by decide)] at e
  have hp:=(h.bx e).2.lt (k:=0) rfl
  exact fun hk=>(hF.blk _ hk).elim (h.n1 h1 e) (fun h2=>by simp only at h2;omega)
theorem D7.make (h:D7 W7 G gcap Y Z γ L W) (h8:L 8=false):D7 W7 G gcap Y Z ⟨γ.a,γ.c,γ.A4,γ.c4,γ.G4,γ.gc4,W.heap.size⟩ (upd L 7) (W.alloc (.cells #[.slice none 0 0,.slice none 0 0] 43)):=by
 have hb:=zAS W (.cells #[.slice none 0 0,.slice none 0 0] 43)
 refine ⟨h.bel.trans (hb.mono h.bel.size),fun e=>?_,fun e=>?_,fun _=>⟨h.bel.size,?_⟩,fun e _=>?_,fun e _=>?_⟩
 ·rw [zL (by decide)] at e;exact ⟨(h.wl e).1.below hb,(h.wl e).2⟩
 ·rw [zL (by decide)] at e;exact (h.wf e).below hb
 ·rw [zL (by decide),h8];exact Bxs.start W [([.slice none 0 0,.slice none 0 0],43)]
 ·rw [zL (by decide)] at e;exact fun hk=>absurd (zCG (h.wl e).1 hk) (Nat.lt_irrefl _)
 ·rw [zL (by decide)] at e;exact fun hk=>absurd (zCG (h.wf e).at_ hk) (Nat.lt_irrefl _)
theorem D7.put (h:D7 W7 G gcap Y Z γ L W) (h3:L 3=true) (h7:L 7=true) (h8:L 8=false):D7 W7 G gcap Y Z γ (upd L 8) (W.setCells γ.p 0 [.slice γ.A4 Z.rows.length γ.c4,.slice γ.G4 Z.gens.length γ.gc4]):=by
 have hx:=h.bx h7
 rw [h8] at hx
 refine ⟨zI γ.p hx.1 _ 0 _ h.bel,fun e=>?_,fun e=>⟨zDh (h.wf h3).at_ (h.n3 h3 h7),(h.wf h3).blk⟩,fun _=>⟨hx.1,?_⟩,fun e _=>?_,fun e _=>h.n3 h3 h7⟩
 ·rw [zL (by decide)] at e
  exact ⟨zDh (h.wl e).1 (h.n1 e h7),(h.wl e).2⟩
 ·rw [zAw,if_pos rfl]
  exact hx.2.give 0 rfl _ rfl
 ·rw [zL (by decide)] at e;exact h.n1 e h7
end
end Go.Proofs.YtnbleebilmghcabGreat
namespace Go.Proofs.YtnbleebilmghcabGreat
open Go Go.RowKit
theorem zPE {α:Type} (f:α→Int):∀ (l1 l2:List α),l1.Pairwise (fun a b=>f a<f b)→l2.Pairwise (fun a b=>f a<f b)→(∀ x,x∈l1↔x∈l2)→l1=l2
 | [],[],_,_,_=>rfl
 | [],b :: l2,_,_,h=>by have:=(h b).2 (by simp);simp at this
 | a :: l1,[],_,_,h=>by have:=(h a).1 (by simp);simp at this
 | a :: l1,b :: l2,h1,h2,h=>by
  rw [List.pairwise_cons] at h1 h2
  have hab:a=b:=by
   rcases List.mem_cons.1 ((h a).1 (by simp)) with e | ha
   ·exact e
   ·rcases List.mem_cons.1 ((h b).2 (by simp)) with e | hb
    ·exact e.symm
    ·have:=h1.1 b hb
     have:=h2.1 a ha
     omega
  subst hab
  refine congrArg _ (zPE f l1 l2 h1.2 h2.2 fun x=>⟨fun hx=>?_,fun hx=>?_⟩)
  ·rcases List.mem_cons.1 ((h x).1 (by simp [hx])) with e | h'
   ·subst e
    have:=h1.1 x hx
    omega
   ·exact h'
  ·rcases List.mem_cons.1 ((h x).2 (by simp [hx])) with e | h'
   ·subst e
    have:=h2.1 x hx
    omega
   ·exact h'
theorem zIL {α:Type} (f:α→Int) (l:List α) (h:∀ j (hj:j+1<l.length),f (l[j]'(by omega))<f l[j+1]):l.Pairwise (fun a b=>f a<f b):=by
 rw [List.pairwise_iff_getElem]
 intro i j hi hj hij
 induction j with
 | zero=>omega
 | succ j ih =>
  by_cases e:i=j
  ·subst e;exact h i hj
  ·have h1:=ih (by omega) (by omega)
   have h2:=h j hj
   omega
theorem zNc {w:World} {T G:Option Addr} {tabs:List TabI} {Y:Wd} (h:StAt w T G tabs Y):tabs=za Y:=by
 have hpw:tabs.Pairwise (fun a b=>a.has<b.has):=zIL (fun t=>t.has) tabs h.up
 have hmem:∀ r,r∈Y.rows↔∃ t∈tabs,r∈t.rows:=fun r=>by rw [←h.perm.mem_iff,List.mem_flatMap]
 have hinj:∀ t∈tabs,∀ t'∈tabs,t.has=t'.has→t=t':=fun t ht t' ht' e=>by
  obtain ⟨i,hi,rfl⟩:=List.mem_iff_getElem.1 ht
  obtain ⟨j,hj,rfl⟩:=List.mem_iff_getElem.1 ht'
  rcases Nat.lt_trichotomy i j with hij | hij | hij
  ·have:=List.pairwise_iff_getElem.1 hpw i j hi hj hij;omega
  ·subst hij;rfl
  ·have:=List.pairwise_iff_getElem.1 hpw j i hj hi hij;omega
 have heach:∀ t∈tabs,t.rows=Y.rows.filter (fun x=>x.has == t.has):=fun t ht=>by
  have hR:=h.each t ht
  refine zPE RowI.ix _ _ (zIL RowI.ix _ fun j hj=>?_) ((zBW h.right).filter _) fun r=>?_
  ·have:=hR.up j hj
   rwa [zAF _ _ (by omega),zAF _ _ hj] at this
  ·rw [List.mem_filter,hmem]
   constructor
   ·intro hr
    exact ⟨⟨t,ht,hr⟩,by simpa using (hR.has r hr).1⟩
   ·rintro ⟨⟨t',ht',hr⟩,e⟩
    have e1:=((h.each t' ht').has r hr).1
    have e2:r.has=t.has:=by simpa using e
    rw [hinj t ht t' ht' (by omega)]
    exact hr
 have hg:=zBE Y
 refine zPE (fun t=>t.has) _ _ hpw hg.up fun t=>⟨fun ht=>?_,fun ht=>?_⟩
 ·have hone:=(h.each t ht).one
  obtain ⟨r,hr⟩:=List.exists_mem_of_length_pos hone
  have hrY:=(hmem r).2 ⟨t,ht,hr⟩
  obtain ⟨t',ht',hr'⟩:=List.mem_flatMap.1 (hg.perm.mem_iff.2 hrY)
  have e1:=((h.each t ht).has r hr).1
  have e2:r.has=t'.has:=by
   rw [hg.each t' ht',List.mem_filter] at hr'
   simpa using hr'.2
  have e3:t.rows=t'.rows:=by rw [heach t ht,hg.each t' ht',←e1,←e2]
  have:t=t':=by
   cases t;cases t'
   simp only at e1 e2 e3
   rw [e3,←e1,←e2]
  rw [this]
  exact ht'
 ·obtain ⟨r,hr⟩:=List.exists_mem_of_ne_nil _ (hg.ne t ht)
  have hrY:=hg.perm.mem_iff.1 (List.mem_flatMap.2 ⟨t,ht,hr⟩)
  obtain ⟨t',ht',hr'⟩:=(hmem r).1 hrY
  have e1:=((h.each t' ht').has r hr').1
  have e2:r.has=t.has:=by
   rw [hg.each t ht,List.mem_filter] at hr
   simpa using hr.2
  have e3:t.rows=t'.rows:=by rw [hg.each t ht,heach t' ht',←e1,←e2]
  have:t=t':=by
   cases t;cases t'
   simp only at e1 e2 e3
   rw [e3,←e1,←e2]
  rw [this]
  exact ht'
end Go.Proofs.YtnbleebilmghcabGreat
