/- The document's Run over a right world. -/
import Derived.Deep.CutBlock
import Derived.Test.YtnbleebilmghcabGreatWC
import Derived.Test.YtnbleebilmghcabGreatXRRun0
set_option linter.all false
set_option maxHeartbeats 8000000
set_option maxRecDepth 8000
namespace Go.Proofs.YtnbleebilmghcabGreat
open Go Go.RowKit
attribute [local go_sem ↓] Go.wp_at_zero Go.wp_at_succ
theorem zMI (A:Option Addr) (cap:Nat) (G:Option Addr) (gcap:Nat) (X:Wd) (m al no:Int) (A1:Option Addr) (len acap:Nat) (a:Nat→ActI) (w:World) (hX:WldAt w A cap G gcap X) (hr:RightW X) (hA:ActsAt w A1 len a) (hw:(wrF m al no a len).1=0) :
  Calls Tryz.prog 30 #[.agg #[.slice A X.rows.length cap,.slice G X.gens.length gcap],.agg #[.int .i64 m,.int .i64 al,.int .i64 no,.slice A1 len acap]] w fun e w'=>∃ A' c' G' gc',e=.returned (.tuple #[.agg #[.slice A' (zBa a len (zCv X al no X.rows.length) X).2.rows.length c',.slice G' (zBa a len (zCv X al no X.rows.length) X).2.gens.length gc'],.int .i64 (zBa a len (zCv X al no X.rows.length) X).1])∧WF w.heap.size A G X w' A' c' G' gc' (zBa a len (zCv X al no X.rows.length) X).2∧Below w.heap.size w w':=by
 obtain ⟨hhd,hlen,hok⟩:=(zFa m al no a len).1 hw
 have hrg:∀ q,q<len→rgB (a q).k (a q).p (a q).f (a q).n=true∧1≤(a q).k∧(a q).k≤7:=fun q hq=>zIJ _ _ _ _ _ (hok q hq)
 have hal:zAR al=true:=by unfold zCa at hhd;simp only [Bool.and_eq_true] at hhd;exact hhd.1.2
 have hno:zAR no=true:=by unfold zCa at hhd;simp only [Bool.and_eq_true] at hhd;exact hhd.2
 obtain ⟨hl60,hgl60,_⟩:=zk ((zf X).2 hr)
 have hset:∀ j,j<X.rows.length→zAR (X.rows.getD j dR).has=true:=fun j hj=>by
  have:=(zAd (hr.rv j hj)).1
  show zAR (zR X j).has=true
  unfold zAR
  simpa using this
 obtain ⟨W0,hW0⟩:∃ W0,W0=zt w [([.slice A X.rows.length cap,.slice G X.gens.length gcap],43),([.int .i64 m,.int .i64 al,.int .i64 no,.slice A1 len acap],37),([.slice none 0 0,.slice none 0 0],43)]:=⟨_,rfl⟩
 have hX0:=Bxs.start w [([.slice A X.rows.length cap,.slice G X.gens.length gcap],43),([.int .i64 m,.int .i64 al,.int .i64 no,.slice A1 len acap],37),([.slice none 0 0,.slice none 0 0],43)]
 have hb0:=allocs_below [([.slice A X.rows.length cap,.slice G X.gens.length gcap],43),([.int .i64 m,.int .i64 al,.int .i64 no,.slice A1 len acap],37),([.slice none 0 0,.slice none 0 0],43)] w
 rw [←hW0] at hX0 hb0
 have hW0':((w.alloc (.cells #[.slice A X.rows.length cap,.slice G X.gens.length gcap] 43)).alloc (.cells #[.int .i64 m,.int .i64 al,.int .i64 no,.slice A1 len acap] 37)).alloc (.cells #[.slice none 0 0,.slice none 0 0] 43)=W0:=hW0.symm
 have HW0:=zB hW0'
 clear hW0 hW0'
 have hO0:OB w A G X m al no (.slice A1 len acap) A cap G gcap X W0:=⟨hX0,hb0,WF.refl (hX.below hb0)⟩
 have HNB:Hid (∀ k,¬ Blk A G X (w.heap.size+k)):=zB (fun k hb=>by have:=zCG hX hb;omega)
 have hMT:=zJQ A cap G gcap X al no W0 (by omega) (hX.below hb0) hal hno hset
 have hHS:∀ b∈zCv X al no X.rows.length,Here X b:=fun b hb=>zOH hr hb
 have hPW:=zMt hr al no X.rows.length
 have hbl:(zCv X al no X.rows.length).length≤60:=by
  unfold zCv
  rw [List.length_map]
  refine Nat.le_trans (List.length_filter_le _ _) ?_
  rw [List.length_take]
  omega
 have w0:=hX0.cell 0 rfl 0 rfl
 have w1:=hX0.cell 0 rfl 1 rfl
 rw [Nat.add_zero] at w0 w1
 have s1:=hX0.cell 1 rfl 1 rfl
 have s2:=hX0.cell 1 rfl 2 rfl
 obtain ⟨bs,hbs⟩:∃ bs,bs=zCv X al no X.rows.length:=⟨_,rfl⟩
 rw [←hbs] at hMT hHS hPW hbl ⊢
 obtain ⟨RR,hRR⟩:∃ RR,RR=zBa a len bs X:=⟨_,rfl⟩
 rw [←hRR]
 unfold zi zM at hMT
 have HMT:=zB hMT
 have HHS:=zB hHS
 have HPW:=zB hPW
 have HRR:=zB hRR
 have HA:=zB hA
 have HR:=zB hr
 have HO0:=zB hO0
 have HRG:=zB hrg
 clear hMT hHS hPW hRR hA hr hO0 hrg hX0 hb0 hX hbs hal hno hset hhd hok hw
 go_enter Tryz.func30,Tryz.ntmps30
 go_upto_region 1 with fail
 rw [zA HW0]
 clear HW0
 go_wp2_with fail
 go_at_call 57
 refine (zA HMT).mono ?_
 rintro e w1' ⟨v1,rfl,ho1,hb1⟩
 obtain ⟨AB,cb,rfl,hBS⟩:=zIl ho1
 have HR1:Hid (RU w A G X m al no (.slice A1 len acap) AB bs A cap G gcap X w1'):=zB ⟨(zA HO0).below hb1,hBS⟩
 have HAB:Hid (∀ o',AB=some ⟨w.heap.size,o',none⟩→bs.length=0):=zB (fun o' e=>by
  have h1:=(ho1.lt w.heap.size (by rw [e];rfl)).1
  have h2:=(zA HO0).sz
  omega)
 clear ho1 hb1 hBS w0 w1 s1 s2 HO0 HMT
 go_wp2_with fail
 go_loopw [20] (fun x wr=>∃ j:Nat,j≤bs.length∧x=.int .i64 (j:Int)∧∃ Ac cc Gc gcc Xc,RU w A G X m al no (.slice A1 len acap) AB bs Ac cc Gc gcc Xc wr∧RightW Xc∧(∀ b∈bs.drop j,Here Xc b)∧RR=zBa a len (bs.drop j) Xc) (fun x _=>bs.length - (intOf x).toNat)
 case atStart=>exact ⟨0,Nat.zero_le _,rfl,A,cap,G,gcap,X,zA HR1,zA HR,zA HHS,zA HRR⟩
 case round =>
  clear HR1 HRR HR HHS
  obtain ⟨j,hj,rfl,Ac,cc,Gc,gcc,Xc,hO,hrc,hHs,hRc⟩:=hrel
  by_cases hlt:j<bs.length
  ·have j0:(0:Int)≤(j:Int):=by omega
   have j1:(j:Int)<(bs.length:Int):=by omega
   rw [zFX a len bs j Xc hlt] at hRc
   obtain ⟨ob,oo,hAe,c0,c1⟩:=hO.bs j hlt
   have hdr:bs.drop j=bs.getD j (0,0) :: bs.drop (j+1):=by
    rw [List.drop_eq_getElem_cons hlt,List.getD_eq_getElem?_getD,List.getElem?_eq_getElem hlt]
    rfl
   have hne:∀ b∈bs.drop (j+1),b≠bs.getD j (0,0):=by
    have hp:=List.Pairwise.sublist (List.drop_sublist j bs) (zA HPW)
    rw [hdr] at hp
    exact fun b hb e=>(List.pairwise_cons.1 hp).1 b hb e.symm
   have hHi:Here Xc (bs.getD j (0,0)):=hHs _ (by rw [hdr];exact List.mem_cons_self ..)
   have hHr:∀ b∈bs.drop (j+1),Here Xc b:=fun b hb=>hHs b (by rw [hdr];exact List.mem_cons_of_mem _ hb)
   obtain ⟨i,hi⟩:∃ i,i=(bs.getD j (0,0)).1:=⟨_,rfl⟩
   obtain ⟨g,hg⟩:∃ g,g=(bs.getD j (0,0)).2:=⟨_,rfl⟩
   have hig:bs.getD j (0,0)=(i,g):=by rw [hi,hg]
   rw [←hi,←hg] at hRc
   rw [←hi] at c0
   rw [←hg] at c1
   rw [hig] at hne hHi
   obtain ⟨TT,hTT⟩:∃ TT,TT=zAW i g a len 0 Xc:=⟨_,rfl⟩
   rw [←hTT] at hRc
   obtain ⟨wo,rfl⟩:∃ wo,wo=wr:=⟨_,rfl⟩
   obtain ⟨W4,hW4⟩:∃ W4,W4=zt wo [([.int .i64 i,.int .i64 g],61)]:=⟨_,rfl⟩
   have hX4:=Bxs.start wo [([.int .i64 i,.int .i64 g],61)]
   have hb4:=allocs_below [([.int .i64 i,.int .i64 g],61)] wo
   rw [←hW4] at hX4 hb4
   have hW4':wo.alloc (.cells #[.int .i64 i,.int .i64 g] 61)=W4:=hW4.symm
   have HW4:=zB hW4'
   clear hW4 hW4'
   have hI4:RV w A G X m al no (.slice A1 len acap) AB bs wo.heap.size i g Ac cc Gc gcc Xc W4:=⟨hO.below hb4,hX4⟩
   have HBB:Hid (w.heap.size<wo.heap.size):=zB (by have:=hO.ob.sz;omega)
   have s3:=hI4.rb.ob.bx.cell 1 rfl 3 rfl
   have HI4:=zB hI4
   have HRC:=zB hrc
   have HHI:=zB hHi
   have HHR:=zB hHr
   have HNE:=zB hne
   have HTT:=zB hTT
   have HRX:=zB hRc
   clear hI4 hO hX4 hb4 hHs hrc hHi hHr hne hTT hRc hdr hi hg hig
   subst hAe
   go_upto_region 4 with fail
   rw [zA HW4]
   clear HW4 c0 c1
   go_wp2_with fail
   clear s3
   go_loopw [27] (fun x wr=>∃ q:Nat,q≤len∧x=.int .i64 (q:Int)∧∃ Ad cd Gd gcd Xd,RV w A G X m al no (.slice A1 len acap) (some ⟨ob,oo,none⟩) bs wo.heap.size i g Ad cd Gd gcd Xd wr∧RightW Xd∧Here Xd (i,g)∧(∀ b∈bs.drop (j+1),Here Xd b)∧TT=zAW i g a (len - q) q Xd) (fun x _=>len - (intOf x).toNat)
   case atStart=>exact ⟨0,Nat.zero_le _,rfl,Ac,cc,Gc,gcc,Xc,zA HI4,zA HRC,zA HHI,zA HHR,zA HTT⟩
   case round =>
    clear HI4 HRC HHI HHR HTT
    obtain ⟨q,hq,rfl,Ad,cd,Gd,gcd,Xd,hI,hrd,hHi,hHr,hTd⟩:=hrel
    by_cases hql:q<len
    ·have q0:(0:Int)≤(q:Int):=by omega
     have q1:(q:Int)<(len:Int):=by omega
     rw [zGf i g a len q Xd hql] at hTd
     obtain ⟨b,off,hAe,e0,e1,e2,e3⟩:=(zA HA).below hI.rb.ob.bel q hql
     obtain ⟨hrgy,hk1,hk7⟩:=zA HRG q hql
     obtain ⟨y,hy⟩:∃ y,y=a q:=⟨_,rfl⟩
     rw [←hy] at e0 e1 e2 e3 hTd hrgy hk1 hk7
     clear hy
     obtain ⟨hl6,_,_⟩:=zk ((zf Xd).2 hrd)
     obtain ⟨kk,hkk,hfk⟩:=hHi
     have hfk:zAN Xd i g=(kk:Int):=hfk
     obtain ⟨wq,rfl⟩:∃ wq,wq=wr:=⟨_,rfl⟩
     obtain ⟨W5,hW5⟩:∃ W5,W5=zt wq [([.int .i64 y.k,.int .i64 y.p,.int .i64 y.f,.int .i64 y.n],95)]:=⟨_,rfl⟩
     have hX5:=Bxs.start wq [([.int .i64 y.k,.int .i64 y.p,.int .i64 y.f,.int .i64 y.n],95)]
     have hb5:=allocs_below [([.int .i64 y.k,.int .i64 y.p,.int .i64 y.f,.int .i64 y.n],95)] wq
     rw [←hW5] at hX5 hb5
     have hW5':wq.alloc (.cells #[.int .i64 y.k,.int .i64 y.p,.int .i64 y.f,.int .i64 y.n] 95)=W5:=hW5.symm
     have HW5:=zB hW5'
     clear hW5 hW5'
     have hI5:=hI.below hb5
     have hz5:w.heap.size+3≤W5.heap.size:=hI5.rb.ob.sz
     have w0:=hI5.rb.ob.bx.cell 0 rfl 0 rfl
     have w1:=hI5.rb.ob.bx.cell 0 rfl 1 rfl
     rw [Nat.add_zero] at w0 w1
     have b0:=hI5.be.cell 0 rfl 0 rfl
     have b1:=hI5.be.cell 0 rfl 1 rfl
     have d0:=hX5.cell 0 rfl 0 rfl
     rw [Nat.add_zero] at b0 b1 d0
     have HI5:=zB hI5
     have HX5:=zB hX5
     have HRD:=zB hrd
     have HHR:=zB hHr
     have HTD:=zB hTd
     have HRY:=zB hrgy
     have HKK:=zB (And.intro hkk hfk)
     have HZ5:=zB hz5
     have HK1:=zB (And.intro hk1 hk7)
     have HHI:Hid (Here Xd (i,g)):=zB ⟨kk,hkk,hfk⟩
     clear hI hI5 hb5 hX5 hrd hHr hTd hrgy hkk hfk hz5 hk1 hk7
     subst hAe
     go_upto_region 7 with fail
     rw [zA HW5]
     clear HW5 e0 e1 e2 e3
     by_cases hk6:y.k=6
     ·have hz:=zNU (zA HRD) (zA HHI) (zA HK1) (zA HRY) (by rw [hk6];decide)
      have hRK:=zKX Ad cd Gd gcd Xd i g W5 (by omega) (zA HI5).rb.ob.wf.at_
      have eA:zBw Xd i g y=zAn Xd i g:=by unfold zBw;rw [if_pos hk6]
      have hHR2:∀ b∈bs.drop (j+1),Here (zAn Xd i g).2 b:=fun b hb=>(zA HHR b hb).keeps (by rw [←eA];exact zFN (zA HRD) hz b.1 b.2 (zA HNE b hb))
      have hrY:RightW (zAn Xd i g).2:=by rw [←eA];exact zCR (zA HRD) hz
      have hT2:=zA HTD
      rw [if_neg (by rw [hz];simp),if_pos hk6,eA] at hT2
      have hR2:=zA HRX
      rw [hT2,if_neg (by simp)] at hR2
      have hgn:=zLH Xd i g
      obtain ⟨Y,hY⟩:∃ Y,Y=(zAn Xd i g).2:=⟨_,rfl⟩
      obtain ⟨err,herr⟩:∃ err,err=(zAn Xd i g).1:=⟨_,rfl⟩
      rw [←hY] at hRK hHR2 hrY hR2 hgn
      rw [←herr] at hRK
      unfold zi zM zS at hRK
      have HRK:=zB hRK
      have HHR2:=zB hHR2
      have HRY2:=zB hrY
      have HR2:=zB hR2
      have HGN:=zB hgn
      clear hz hRK eA hHR2 hrY hT2 hR2 hgn hY herr HTD HHR HRY HHI
      go_wp2_with fail
      go_at_call 58
      refine (zA HRK).mono ?_
      rintro e w6 ⟨A4,c4,G4,gc4,rfl,hD6,hb6⟩
      have hI6:=(zA HI5).below hb6
      have HF6:=zB (hI6.rb.doc (zA HZ5) hD6 (fun e=>.inr ⟨rfl,zA HGN e⟩))
      have HI6:=zB hI6
      clear hI6 hD6 hb6 w0 w1 b0 b1 d0 HI5 HX5
      go_wp2_with (refine zG rfl 43 (.tmp 2) (.tmp 38) rfl (w.heap.size+0) 0 [.slice A4 Y.rows.length c4,.slice G4 Y.gens.length gc4] rfl rfl (by simp [Value.oneCell']) size38 ((zA HI6).rb.ob.bx.there 0 rfl 2 rfl) ?_;intro W7 hW;have q1:=(zA HI6).put (zA HF6) (zA HNB) (zA HAB) (zA HBB);rw [←hW] at q1;have HI7:=zB q1;clear hW q1)
      go_roundw
      case rel=>exact ⟨j+1,by omega,by go_num,A4,c4,G4,gc4,Y,(zA HI7).rb,zA HRY2,zA HHR2,zA HR2⟩
      case measure=>simp [intOf];omega
     ·have hz:=zNU (zA HRD) (zA HHI) (zA HK1) (zA HRY)
      have hRW:=zCC (zA HKK).2 hl6 Ad cd Gd gcd W5 (zA HI5).rb.ob.wf.at_
      have HOK:=zB hz
      have HRW:=zB hRW
      clear hz hRW
      have hk6b:(y.k == 6)=false:=by simpa using hk6
      go_wp2_with fail
      go_at_call 59
      refine (zA HRW).mono ?_
      rintro e w6 ⟨bv,ov,rfl,hrow,hb6⟩
      have hI6:=(zA HI5).below hb6
      have hX6:=(zA HX5).below hb6
      have HZ6:Hid (w.heap.size+3≤w6.heap.size):=zB hI6.rb.ob.sz
      clear w0 w1 b0 b1 d0
      have w0:=hI6.rb.ob.bx.cell 0 rfl 0 rfl
      have w1:=hI6.rb.ob.bx.cell 0 rfl 1 rfl
      rw [Nat.add_zero] at w0 w1
      have b0:=hI6.be.cell 0 rfl 0 rfl
      have b1:=hI6.be.cell 0 rfl 1 rfl
      have d0:=hX6.cell 0 rfl 0 rfl
      have d1:=hX6.cell 0 rfl 1 rfl
      have d3:=hX6.cell 0 rfl 3 rfl
      rw [Nat.add_zero] at b0 b1 d0 d1 d3
      have HI6:=zB hI6
      have HX6:=zB hX6
      have HRO:=zB hrow
      clear hI6 hX6 hrow hb6 HI5 HX5 HRW HZ5
      by_cases hk7:y.k=7
      ·have hRK:=zJM Ad cd Gd gcd Xd y.p y.n w6 (by omega) (zA HI6).rb.ob.wf.at_
       have eA:zBw Xd i g y=((zw Xd y.p y.n).1,(zw Xd y.p y.n).2.2):=by unfold zBw;rw [if_neg hk6,if_pos hk7]
       have hT2:=zA HTD
       have hAR:=fun h=>zCR (zA HRD) (i:=i) (g:=g) (y:=y) h
       have hAH:=fun h=>zIo (zA HRD) (i:=i) (g:=g) (y:=y) h hk6 (zA HHI)
       have hAK:(zBw Xd i g y).1=0→∀ b∈bs.drop (j+1),Here (zBw Xd i g y).2 b:=fun h b hb=>(zA HHR b hb).keeps (zFN (zA HRD) h b.1 b.2 (zA HNE b hb))
       rw [eA] at hT2 hAR hAH hAK
       rw [if_neg hk6] at hT2
       obtain ⟨Y,hY⟩:∃ Y,Y=(zw Xd y.p y.n).2.2:=⟨_,rfl⟩
       obtain ⟨err,herr⟩:∃ err,err=(zw Xd y.p y.n).1:=⟨_,rfl⟩
       obtain ⟨ci,hci⟩:∃ ci,ci=(zw Xd y.p y.n).2.1.1:=⟨_,rfl⟩
       obtain ⟨cg,hcg⟩:∃ cg,cg=(zw Xd y.p y.n).2.1.2:=⟨_,rfl⟩
       rw [←hY,←herr] at hRK hT2 hAR hAH hAK
       rw [←hci,←hcg] at hRK
       unfold zi zM zS at hRK
       have HRK:=zB hRK
       have HT2:=zB hT2
       have HAR:=zB hAR
       have HAH:=zB hAH
       have HAK:=zB hAK
       clear hRK eA hT2 hAR hAH hAK hY herr hci hcg HTD HHR HRY HHI HOK HRO
       go_wp2_with fail
       go_at_call 60
       refine (zA HRK).mono ?_
       rintro e w7 ⟨A4,c4,G4,gc4,rfl,hD7,hb7⟩
       obtain ⟨W8,hW8⟩:∃ W8,W8=zt w7 [([.slice A4 Y.rows.length c4,.slice G4 Y.gens.length gc4],43),([.int .i64 ci,.int .i64 cg],61)]:=⟨_,rfl⟩
       have hX8:=Bxs.start w7 [([.slice A4 Y.rows.length c4,.slice G4 Y.gens.length gc4],43),([.int .i64 ci,.int .i64 cg],61)]
       have hb8:=allocs_below [([.slice A4 Y.rows.length c4,.slice G4 Y.gens.length gc4],43),([.int .i64 ci,.int .i64 cg],61)] w7
       rw [←hW8] at hX8 hb8
       have hW8':(w7.alloc (.cells #[.slice A4 Y.rows.length c4,.slice G4 Y.gens.length gc4] 43)).alloc (.cells #[.int .i64 ci,.int .i64 cg] 61)=W8:=hW8.symm
       have HW8:=zB hW8'
       clear hW8 hW8'
       have hI8:=((zA HI6).below hb7).below hb8
       have HF8:=zB (((((zA HI6).below hb7).rb.doc (zA HZ6) hD7 (fun e=>.inl rfl))).below hb8)
       have n0:=hX8.cell 0 rfl 0 rfl
       have n1:=hX8.cell 0 rfl 1 rfl
       rw [Nat.add_zero] at n0 n1
       have HI8:=zB hI8
       clear hI8 hX8 hb8 hD7 hb7 w0 w1 b0 b1 d0 d1 d3 HI6 HX6 HRK
       go_upto_region 14 with fail
       rw [zA HW8]
       clear HW8
       by_cases he:err=0
       ·subst he
        have hT3:=zA HT2
        rw [if_neg (by simp)] at hT3
        have HT3:=zB hT3
        clear hT3 HT2
        go_wp2_with (refine zG rfl 43 (.tmp 2) (.tmp 63) rfl (w.heap.size+0) 0 [.slice A4 Y.rows.length c4,.slice G4 Y.gens.length gc4] rfl rfl (by simp [Value.oneCell']) size38 ((zA HI8).rb.ob.bx.there 0 rfl 2 rfl) ?_;intro W9 hW;have q1:=(zA HI8).put (zA HF8) (zA HNB) (zA HAB) (zA HBB);rw [←hW] at q1;have HI9:=zB q1;clear hW q1)
        go_roundw
        case rel=>exact ⟨q+1,by omega,by go_num,A4,c4,G4,gc4,Y,zA HI9,zA HAR rfl,zA HAH rfl,zA HAK rfl,zA HT3⟩
        case measure=>simp [intOf];omega
       ·have hneb:(err == 0)=false:=by simpa using he
        have hneb2:(err != 0)=true:=by simpa using he
        have hR2:=zA HRX
        have hT3:=zA HT2
        rw [if_pos he] at hT3
        rw [hT3,if_pos he] at hR2
        have HR2:=zB hR2
        have HB9:=zB (zA HI8).rb.ob.bx
        have HL9:=zB (zA HI8).rb.ob.bel
        clear hR2 hT3 HT2 HAR HAH HAK
        go_wp2_with (refine zG rfl 43 (.tmp 4) (.tmp 61) rfl (w.heap.size+2) 0 [.slice none 0 0,.slice none 0 0] rfl rfl (by simp [Value.oneCell']) size38 ((zA HB9).there 2 rfl 2 rfl) ?_;intro W10 hW;have q1:=(zA HB9).give 2 rfl [.slice none 0 0,.slice none 0 0] rfl;have q3:=zI (w.heap.size+2) (by omega) [.slice none 0 0,.slice none 0 0] 0 _ (zA HL9);rw [←hW] at q1 q3;have HB10:=zB q1;have HL10:=zB q3;clear hW q1 q3)
        have t0:=(zA HB10).cell 2 rfl 0 rfl
        have t1:=(zA HB10).cell 2 rfl 1 rfl
        refine bodyPost_ret (v:=.tuple #[.agg #[.slice none 0 0,.slice none 0 0],.int .i64 err]) (by simp [results,Tryz.results30,go_sem,t0,t1]) rfl ?_
        rw [zA HR2]
        exact ⟨none,0,none,0,rfl,WF.empty _ _ _ _ _,zA HL10⟩
      ·have hz:=zA HOK hk7
       have HAH:=zB (zIo (zA HRD) hz hk6 (zA HHI))
       have HAR:=zB (zCR (zA HRD) hz)
       have HAK:Hid (∀ b∈bs.drop (j+1),Here (zBw Xd i g y).2 b):=zB (fun b hb=>(zA HHR b hb).keeps (zFN (zA HRD) hz b.1 b.2 (by have:=zA HNE b hb;exact this)))
       have hT2:=zA HTD
       rw [if_neg (by rw [hz];simp),if_neg hk6] at hT2
       have HT2:=zB hT2
       clear hz hT2 HTD HOK HHR
       have hk7b:(y.k == 7)=false:=by simpa using hk7
       by_cases hk5:y.k=5
       ·obtain ⟨hbd,_⟩:=zAd ((zA HRD).rv kk (zA HKK).1)
        have hp5:zAE y.p=true:=by have:=zA HRY;rw [hk5] at this;exact this
        have hgh:=(zDK (zA HRD) (zA HKK).1 (zA HKK).2 hp5).2
        have hHS:=fun W=>zDo (zR Xd kk).has y.p W hbd.1 hbd.2
        have z2:=zN (zA HRO).c2
        have t1:=zN d1
        have hsub:Nonempty (Sub w6):=⟨⟨w6,Below.refl _ _⟩⟩
        generalize zR Xd kk=row at *
        cases hb:zFH row.has y.p
        ·rw [hb] at hHS hgh
         have eA:zBw Xd i g y=(0,Xd):=by unfold zBw;rw [if_neg hk6,if_neg hk7,if_pos hk5,if_neg (by rw [hgh];simp)]
         have hT3:=zA HT2
         rw [eA] at hT3
         have HT3:=zB hT3
         have HAK2:=zA HAK
         rw [eA] at HAK2
         have HAK3:=zB HAK2
         have HHS:=zB hHS
         clear hHS hgh eA hT3 HAK2 hb HT2 HAK HAR HAH hbd hp5
         go_wp2_with fail
         refine zU (by kernel_rfl) (by kernel_rfl) ?_
         repeat (go_big_quiet_step ((go_at_call 61;exact zBn (zA HHS _))))
         refine wpQuiet_nil ?_
         rintro w9 ⟨xs,hxs⟩
         have hb9:=xs.bel
         rw [←hxs] at hb9
         have HI9:=zB ((zA HI6).below hb9)
         clear hxs hb9 xs z2 t1 hsub
         go_wp2
         go_roundw
         case rel=>exact ⟨q+1,by omega,by go_num,Ad,cd,Gd,gcd,Xd,zA HI9,zA HRD,zA HHI,zA HAK3,zA HT3⟩
         case measure=>simp [intOf];omega
        ·rw [hb] at hHS hgh
         have eA:zBw Xd i g y=zAf Xd i g y.p:=by unfold zBw;rw [if_neg hk6,if_neg hk7,if_pos hk5,if_pos hgh]
         have hRK:=fun W (h:WldAt W Ad cd Gd gcd Xd)=>zKd Ad cd Gd gcd Xd i g y.p W (by omega) h
         have hgn:(zAf Xd i g y.p).2.gens≠[]→Xd.gens≠[]:=zLd Xd i g _
         rw [eA] at HT2 HAR HAH HAK
         obtain ⟨Y,hY⟩:∃ Y,Y=(zAf Xd i g y.p).2:=⟨_,rfl⟩
         obtain ⟨err,herr⟩:∃ err,err=(zAf Xd i g y.p).1:=⟨_,rfl⟩
         rw [←hY] at HT2 HAR HAH HAK hRK hgn
         rw [←herr] at hRK
         unfold zi zM zS at hRK
         have HRK:=zB hRK
         have HGN:=zB hgn
         have HHS:=zB hHS
         clear hHS hgh eA hRK hgn hY herr hb hbd hp5
         go_wp2_with fail
         refine zU (by kernel_rfl) (by kernel_rfl) ?_
         repeat (go_big_quiet_step ((go_at_call 61;exact zBn (zA HHS _))))
         refine wpQuiet_nil ?_
         rintro w9 ⟨xs,hxs⟩
         have hb9:=xs.bel
         rw [←hxs] at hb9
         have hI9:=(zA HI6).below hb9
         have hX9:=(zA HX6).below hb9
         clear w0 w1 b0 b1 d0 d1 d3
         have w0:=hI9.rb.ob.bx.cell 0 rfl 0 rfl
         have w1:=hI9.rb.ob.bx.cell 0 rfl 1 rfl
         have b0:=hI9.be.cell 0 rfl 0 rfl
         have b1:=hI9.be.cell 0 rfl 1 rfl
         have d1:=hX9.cell 0 rfl 1 rfl
         rw [Nat.add_zero] at w0 w1 b0 b1 d1
         have HZ9:Hid (w.heap.size+3≤w9.heap.size):=zB hI9.rb.ob.sz
         have HI9:=zB hI9
         clear hxs hb9 xs z2 t1 hsub hI9 hX9
         go_wp2_with fail
         go_at_call 62
         refine (zA HRK _ (zA HI9).rb.ob.wf.at_).mono ?_
         rintro e w10 ⟨A4,c4,G4,gc4,rfl,hD10,hb10⟩
         have hI10:=(zA HI9).below hb10
         have HF10:=zB (hI10.rb.doc (zA HZ9) hD10 (fun e=>.inr ⟨rfl,zA HGN e⟩))
         have HI10:=zB hI10
         clear hI10 hD10 hb10 w0 w1 b0 b1 d1
         go_wp2_with (refine zG rfl 43 (.tmp 2) (.tmp 79) rfl (w.heap.size+0) 0 [.slice A4 Y.rows.length c4,.slice G4 Y.gens.length gc4] rfl rfl (by simp [Value.oneCell']) size38 ((zA HI10).rb.ob.bx.there 0 rfl 2 rfl) ?_;intro W11 hW;have q1:=(zA HI10).put (zA HF10) (zA HNB) (zA HAB) (zA HBB);rw [←hW] at q1;have HI11:=zB q1;clear hW q1)
         go_roundw
         case rel=>exact ⟨q+1,by omega,by go_num,A4,c4,G4,gc4,Y,zA HI11,zA HAR,zA HAH,zA HAK,zA HT2⟩
         case measure=>simp [intOf];omega
       ·have hk5b:(y.k == 5)=false:=by simpa using hk5
        have hk4:y.k=1∨y.k=2∨y.k=3∨y.k=4:=by have:=zA HK1;omega
        have eA:zBw Xd i g y=zDF Xd i g y.p (zBv (zGW Xd i g y)):=by unfold zBw;rw [if_neg hk6,if_neg hk7,if_neg hk5]
        have hAM:=zMx (zA HRD) (zA HKK).1 (zA HKK).2 (zA HRY)
        rw [eA] at HT2 HAR HAH HAK
        generalize zGW Xd i g y=am at *
        have hRK:=fun W (h:WldAt W Ad cd Gd gcd Xd)=>zML Ad cd Gd gcd Xd i g y.p (zBv am) W (by omega) h
        have hgn:(zDF Xd i g y.p (zBv am)).2.gens≠[]→Xd.gens≠[]:=zLd Xd i g _
        obtain ⟨Y,hY⟩:∃ Y,Y=(zDF Xd i g y.p (zBv am)).2:=⟨_,rfl⟩
        obtain ⟨err,herr⟩:∃ err,err=(zDF Xd i g y.p (zBv am)).1:=⟨_,rfl⟩
        rw [←hY] at HT2 HAR HAH HAK hRK hgn
        rw [←herr] at hRK
        unfold zi zM zS at hRK
        have HRK:=zB hRK
        have HGN:=zB hgn
        have HAM:=zB hAM
        clear eA hAM hRK hgn hY herr
        go_upto_block 4 with fail
        go_cut [11,27] from 27 to 129 (fun x z wc=>z=.int .i64 (q:Int)∧x=.int .i64 am∧Below w6.heap.size w6 wc)
        case first =>
         rcases hk4 with hkz | hkz | hkz | hkz
         ·have HAM2:=zB ((zA HAM).2.2.2 hkz)
          go_wp2_with fail
          go_meet
          case rel=>exact ⟨rfl,by rw [zA HAM2],Below.refl _ _⟩
         ·obtain ⟨ham,hpf⟩:=((zA HAM).1 hkz)
          have hP:=of_decide_eq_true hpf
          obtain ⟨f',hf'⟩:∃ f':Nat,y.f=(f':Int):=⟨y.f.toNat,by omega⟩
          rw [hf'] at hP
          have kf0:=hP.1
          have kf1:=hP.2
          have vf:=zN ((zA HRO).v f' (by omega))
          rw [hf',Int.toNat_natCast] at ham
          clear hP
          have d2:=((zA HX6).cell 0 rfl 2 rfl)
          rw [Nat.add_zero] at d2
          rw [hf'] at d2
          have t1:=zN d1
          have t2:=zN d2
          have t3:=zN d3
          have hsub:Nonempty (Sub w6):=⟨⟨w6,Below.refl _ _⟩⟩
          have HAM2:=zB ham
          generalize (zR Xd kk).v=rv at *
          clear ham hpf hf'
          go_wp2_with fail
          refine zU (by kernel_rfl) (by kernel_rfl) ?_
          repeat (go_big_quiet_step (fail))
          refine wpQuiet_nil ?_
          rintro w9 ⟨xs,hxs⟩
          have hb9:=xs.bel
          rw [←hxs] at hb9
          have HB9:=zB hb9
          clear hxs hb9 xs hsub
          go_wp2_with fail
          go_meet
          case rel=>exact ⟨rfl,by rw [zA HAM2],zA HB9⟩
         ·obtain ⟨ham,hpf,hpp⟩:=((zA HAM).2.1 hkz)
          have hP:=of_decide_eq_true hpf
          obtain ⟨f',hf'⟩:∃ f':Nat,y.f=(f':Int):=⟨y.f.toNat,by omega⟩
          rw [hf'] at hP
          have kf0:=hP.1
          have kf1:=hP.2
          have vf:=zN ((zA HRO).v f' (by omega))
          rw [hf',Int.toNat_natCast] at ham
          clear hP
          have hP:=of_decide_eq_true hpp
          obtain ⟨p',hp'⟩:∃ p':Nat,y.p=(p':Int):=⟨y.p.toNat,by omega⟩
          rw [hp'] at hP
          have kp0:=hP.1
          have kp1:=hP.2
          have vp:=zN ((zA HRO).v p' (by omega))
          rw [hp',Int.toNat_natCast] at ham
          clear hP
          have d2:=((zA HX6).cell 0 rfl 2 rfl)
          rw [Nat.add_zero] at d2
          rw [hf'] at d2
          rw [hp'] at d1
          have t1:=zN d1
          have t2:=zN d2
          have t3:=zN d3
          have hsub:Nonempty (Sub w6):=⟨⟨w6,Below.refl _ _⟩⟩
          have HAM2:=zB ham
          generalize (zR Xd kk).v=rv at *
          clear ham hpf hf' hpp hp'
          go_wp2_with fail
          refine zU (by kernel_rfl) (by kernel_rfl) ?_
          repeat (go_big_quiet_step (fail))
          refine wpQuiet_nil ?_
          rintro w9 ⟨xs,hxs⟩
          have hb9:=xs.bel
          rw [←hxs] at hb9
          have HB9:=zB hb9
          clear hxs hb9 xs hsub
          go_wp2_with fail
          go_meet
          case rel=>exact ⟨rfl,by rw [zA HAM2,IntWalk.i64_left],zA HB9⟩
         ·obtain ⟨ham,hpp⟩:=((zA HAM).2.2.1 hkz)
          have hP:=of_decide_eq_true hpp
          obtain ⟨p',hp'⟩:∃ p':Nat,y.p=(p':Int):=⟨y.p.toNat,by omega⟩
          rw [hp'] at hP
          have kp0:=hP.1
          have kp1:=hP.2
          have vp:=zN ((zA HRO).v p' (by omega))
          rw [hp',Int.toNat_natCast] at ham
          clear hP
          have d2:=((zA HX6).cell 0 rfl 2 rfl)
          rw [Nat.add_zero] at d2
          rw [hp'] at d1
          have t1:=zN d1
          have t2:=zN d2
          have t3:=zN d3
          have hsub:Nonempty (Sub w6):=⟨⟨w6,Below.refl _ _⟩⟩
          have HAM2:=zB ham
          generalize (zR Xd kk).v=rv at *
          clear ham hpp hp'
          go_wp2_with fail
          refine zU (by kernel_rfl) (by kernel_rfl) ?_
          repeat (go_big_quiet_step (fail))
          refine wpQuiet_nil ?_
          rintro w9 ⟨xs,hxs⟩
          have hb9:=xs.bel
          rw [←hxs] at hb9
          have HB9:=zB hb9
          clear hxs hb9 xs hsub
          go_wp2_with fail
          go_meet
          case rel=>exact ⟨rfl,by rw [zA HAM2,IntWalk.i64_left],zA HB9⟩
        case rest =>
         obtain ⟨rfl,rfl,hbc⟩:=hcut
         obtain ⟨Wc,rfl⟩:∃ Wc,Wc=wc:=⟨_,rfl⟩
         have HI9:=zB ((zA HI6).below hbc)
         have HX9:=zB ((zA HX6).below hbc)
         clear hbc w0 w1 b0 b1 d0 d1 d3 HAM HRO HKK HRY HHI HI6 HX6
         go_upto_region 26 with fail
         have h0:(fun (γ:Value) L W=>(L 10=false→Below Wc.heap.size Wc W)∧(L 6=true→∃ A4 c4 G4 gc4,γ=.agg #[.slice A4 Y.rows.length c4,.slice G4 Y.gens.length gc4]∧(L 10=false→WF (w.heap.size+3) A G X W A4 c4 G4 gc4 Y)∧(L 10=true→RV w A G X m al no (.slice (some ⟨b,off,none⟩) len acap) (some ⟨ob,oo,none⟩) bs wo.heap.size i g A4 c4 G4 gc4 Y W))) undef (fun _=>false) Wc.drew:=⟨fun _=>(Below.refl _ _).drew,fun e=>by cases e⟩
         refine zd (fun (γ:Value) ix v=>if ix=6 then v=.tuple #[γ,.int .i64 err] else if ix=7 then v=.tuple #[γ,.int .i64 err] else if ix=8 then v=γ else (([fun v=>v=.agg #[.slice Ad Xd.rows.length cd,.slice Gd Xd.gens.length gcd],fun v=>v=.agg #[.int .i64 i,.int .i64 g],fun v=>v=.pointer (some ⟨wq.heap.size,1,none⟩),fun v=>v=.int .i64 y.p,fun v=>v=.int .i64 am,fun v=>v=.int .i64 (zBv am),fun _=>True,fun _=>True,fun _=>True,fun v=>v=.int .i64 err,fun _=>True]:List (Value→Prop)).getD ix (fun _=>True)) v) (fun (γ:Value) L W=>(L 10=false→Below Wc.heap.size Wc W)∧(L 6=true→∃ A4 c4 G4 gc4,γ=.agg #[.slice A4 Y.rows.length c4,.slice G4 Y.gens.length gc4]∧(L 10=false→WF (w.heap.size+3) A G X W A4 c4 G4 gc4 Y)∧(L 10=true→RV w A G X m al no (.slice (some ⟨b,off,none⟩) len acap) (some ⟨ob,oo,none⟩) bs wo.heap.size i g A4 c4 G4 gc4 Y W))) (undef) (by kernel_rfl) (by kernel_rfl) (by kernel_rfl) h0 ?hstep ?hend
         case hstep =>
          intro γ ix o ho L ac w1 hD hL hed hcl hout hv
          match ix,ho with
          | 0,ho =>
           simp at ho
           subst ho
           have e2:ac.tmps.getD 2 undef=.pointer (some ⟨w.heap.size,0,none⟩):=hout 2 (by decide +kernel)
           have q10:L 10=false:=by
            cases h:L 10
            ·rfl
            ·exact absurd (hcl 6 _ rfl (hcl 7 _ rfl (hcl 8 _ rfl (hcl 10 _ rfl h 8 (by kernel_rfl)) 7 (by kernel_rfl)) 6 (by kernel_rfl)) 0 (by kernel_rfl)) (by rw [hL];decide)
           have hB:=hD.1 q10
           have hbx:=((zA HI9).below hB).rb.ob.bx
           have c0:=hbx.cell 0 rfl 0 rfl
           have c1:=hbx.cell 0 rfl 1 rfl
           rw [Nat.add_zero] at c0 c1
           exact .inl ⟨rfl,zF γ _ (by simp [go_sem,Act.eval,-Array.getD_eq_getD_getElem?,e2,c0,c1]) rfl (by rw [zL (by decide),zL (by decide)];exact hD) (fun _ _ _ _ h=>h)⟩
          | 1,ho =>
           simp at ho
           subst ho
           have e7:ac.tmps.getD 7 undef=.pointer (some ⟨wo.heap.size,0,none⟩):=hout 7 (by decide +kernel)
           have q10:L 10=false:=by
            cases h:L 10
            ·rfl
            ·exact absurd (hcl 6 _ rfl (hcl 7 _ rfl (hcl 8 _ rfl (hcl 10 _ rfl h 8 (by kernel_rfl)) 7 (by kernel_rfl)) 6 (by kernel_rfl)) 1 (by kernel_rfl)) (by rw [hL];decide)
           have hB:=hD.1 q10
           have hbx:=((zA HI9).below hB).be
           have c0:=hbx.cell 0 rfl 0 rfl
           have c1:=hbx.cell 0 rfl 1 rfl
           rw [Nat.add_zero] at c0 c1
           exact .inl ⟨rfl,zF γ _ (by simp [go_sem,Act.eval,-Array.getD_eq_getD_getElem?,e7,c0,c1]) rfl (by rw [zL (by decide),zL (by decide)];exact hD) (fun _ _ _ _ h=>h)⟩
          | 2,ho =>
           simp at ho
           subst ho
           have e9:ac.tmps.getD 9 undef=.pointer (some ⟨wq.heap.size,0,none⟩):=hout 9 (by decide +kernel)
           exact .inl ⟨rfl,zF γ _ (by simp [go_sem,Act.eval,-Array.getD_eq_getD_getElem?,e9]) rfl (by rw [zL (by decide),zL (by decide)];exact hD) (fun _ _ _ _ h=>h)⟩
          | 3,ho =>
           simp at ho
           subst ho
           have e122:ac.tmps.getD 122 undef=_:=hv 2 122 rfl (by kernel_rfl)
           have q10:L 10=false:=by
            cases h:L 10
            ·rfl
            ·exact absurd (hcl 6 _ rfl (hcl 7 _ rfl (hcl 8 _ rfl (hcl 10 _ rfl h 8 (by kernel_rfl)) 7 (by kernel_rfl)) 6 (by kernel_rfl)) 3 (by kernel_rfl)) (by rw [hL];decide)
           have hB:=hD.1 q10
           have hbx:=((zA HX9).below hB)
           have c0:=hbx.cell 0 rfl 1 rfl
           rw [Nat.add_zero] at c0
           exact .inl ⟨rfl,zF γ _ (by simp [go_sem,Act.eval,-Array.getD_eq_getD_getElem?,e122,c0]) rfl (by rw [zL (by decide),zL (by decide)];exact hD) (fun _ _ _ _ h=>h)⟩
          | 4,ho =>
           simp at ho
           subst ho
           have e11:ac.tmps.getD 11 undef=.int .i64 am:=hout 11 (by decide +kernel)
           exact .inl ⟨rfl,zF γ _ (by simp [go_sem,Act.eval,-Array.getD_eq_getD_getElem?,e11]) rfl (by rw [zL (by decide),zL (by decide)];exact hD) (fun _ _ _ _ h=>h)⟩
          | 5,ho =>
           simp at ho
           subst ho
           have e124:ac.tmps.getD 124 undef=.int .i64 am:=hv 4 124 rfl (by kernel_rfl)
           refine .inl ⟨rfl,zAQ 64 #[.int .i64 am] (by simp [go_sem,Act.eval,-Array.getD_eq_getD_getElem?,e124]) ?_⟩
           refine (zKe am w1).mono ?_
           rintro e w6 ⟨rfl,hw6⟩
           obtain rfl:=hw6.symm
           exact ⟨_,γ,rfl,rfl,by rw [zL (by decide),zL (by decide)];exact hD,fun _ _ _ _ h=>h⟩
          | 6,ho =>
           simp at ho
           subst ho
           have e120:ac.tmps.getD 120 undef=_:=hv 0 120 rfl (by kernel_rfl)
           have e121:ac.tmps.getD 121 undef=_:=hv 1 121 rfl (by kernel_rfl)
           have e123:ac.tmps.getD 123 undef=_:=hv 3 123 rfl (by kernel_rfl)
           have e125:ac.tmps.getD 125 undef=_:=hv 5 125 rfl (by kernel_rfl)
           have q10:L 10=false:=by
            cases h:L 10
            ·rfl
            ·exact absurd (hcl 7 _ rfl (hcl 8 _ rfl (hcl 10 _ rfl h 8 (by kernel_rfl)) 7 (by kernel_rfl)) 6 (by kernel_rfl)) (by rw [hL];decide)
           have hB:=hD.1 q10
           refine .inl ⟨rfl,zAQ 63 #[.agg #[.slice Ad Xd.rows.length cd,.slice Gd Xd.gens.length gcd],.agg #[.int .i64 i,.int .i64 g],.int .i64 y.p,.int .i64 (zBv am)] (by simp [go_sem,Act.eval,-Array.getD_eq_getD_getElem?,e120,e121,e123,e125]) ?_⟩
           have hI1:=(zA HI9).below hB
           refine (zA HRK w1 hI1.rb.ob.wf.at_).mono ?_
           rintro e w6 ⟨A6,c6,G6,gc6,rfl,hD6,hb6⟩
           have hF6:=(hI1.below hb6).rb.doc hI1.rb.ob.sz hD6 (fun e=>.inr ⟨rfl,zA HGN e⟩)
           exact ⟨_,.agg #[.slice A6 Y.rows.length c6,.slice G6 Y.gens.length gc6],rfl,rfl,⟨fun _=>hB.trans (hb6.mono hB.size),fun _=>⟨A6,c6,G6,gc6,rfl,fun _=>hF6,fun e=>by rw [zL (by decide),q10] at e;cases e⟩⟩,fun j u hj hLj h=>by
            have q7:j≠7:=fun e=>by subst e;exact absurd (hcl 7 _ rfl hLj 6 (by kernel_rfl)) (by rw [hL];decide)
            have q8:j≠8:=fun e=>by subst e;exact absurd (hcl 7 _ rfl (hcl 8 _ rfl hLj 7 (by kernel_rfl)) 6 (by kernel_rfl)) (by rw [hL];decide)
            simpa [hj,q7,q8] using h⟩
          | 7,ho =>
           simp at ho
           subst ho
           have e126:ac.tmps.getD 126 undef=_:=hv 6 126 rfl (by kernel_rfl)
           exact .inl ⟨rfl,zF γ _ (by simp [go_sem,Act.eval,-Array.getD_eq_getD_getElem?,e126]) rfl (by rw [zL (by decide),zL (by decide)];exact hD) (fun _ _ _ _ h=>h)⟩
          | 8,ho =>
           simp at ho
           subst ho
           have e119:ac.tmps.getD 119 undef=_:=hv 7 119 rfl (by kernel_rfl)
           obtain ⟨A5,c5,G5,gc5,hγ,_⟩:=hD.2 (hcl 7 _ rfl (hed 7 (by kernel_rfl)) 6 (by kernel_rfl))
           exact .inl ⟨rfl,zF γ γ (by rw [hγ] at e119 ⊢;simp [go_sem,Act.eval,-Array.getD_eq_getD_getElem?,e119]) rfl (by rw [zL (by decide),zL (by decide)];exact hD) (fun _ _ _ _ h=>h)⟩
          | 9,ho =>
           simp at ho
           subst ho
           have e119:ac.tmps.getD 119 undef=_:=hv 7 119 rfl (by kernel_rfl)
           exact .inl ⟨rfl,zF γ _ (by simp [go_sem,Act.eval,-Array.getD_eq_getD_getElem?,e119]) rfl (by rw [zL (by decide),zL (by decide)];exact hD) (fun _ _ _ _ h=>h)⟩
          | 10,ho =>
           simp at ho
           subst ho
           have e2:ac.tmps.getD 2 undef=.pointer (some ⟨w.heap.size,0,none⟩):=hout 2 (by decide +kernel)
           have e127:ac.tmps.getD 127 undef=γ:=hv 8 127 rfl (by kernel_rfl)
           have q8:L 8=true:=hed 8 (by kernel_rfl)
           have q6:L 6=true:=hcl 7 _ rfl (hcl 8 _ rfl q8 7 (by kernel_rfl)) 6 (by kernel_rfl)
           obtain ⟨A5,c5,G5,gc5,hγ,hF5,_⟩:=hD.2 q6
           have hB:=hD.1 hL
           have hI1:=(zA HI9).below hB
           refine .inl ⟨rfl,zAu γ 43 (.tmp 2) (.tmp 127) rfl (w.heap.size+0) 0 [.slice A5 Y.rows.length c5,.slice G5 Y.gens.length gc5] (by simp [Act.eval,-Array.getD_eq_getD_getElem?,e2]) (by rw [hγ] at e127;simp [Act.eval,-Array.getD_eq_getD_getElem?,e127]) (by simp [Value.oneCell']) size38 (hI1.rb.ob.bx.there 0 rfl 2 rfl) trivial ⟨fun e=>(by rw [zAw] at e;cases e),fun _=>⟨A5,c5,G5,gc5,hγ,fun e=>(by rw [zAw] at e;cases e),fun _=>hI1.put (hF5 hL) (zA HNB) (zA HAB) (zA HBB)⟩⟩ (fun _ _ _ _ h=>h)⟩
          | ix+11,ho=>simp at ho
         case hend =>
          intro γ v L w11 hD hall hv
          obtain ⟨A4,c4,G4,gc4,rfl,_,hI11⟩:=hD.2 (hall 6 (by decide))
          have HI11:=zB (hI11 (hall 10 (by decide)))
          clear hv hall hD h0 hI11
          simp only [zu,List.getElem?_cons_zero,List.getElem?_cons_succ,Option.bind_some,List.length_cons,List.length_nil,Nat.reduceAdd]
          go_frame
          go_wp2
          go_roundw
          case rel=>exact ⟨q+1,by omega,by go_num,A4,c4,G4,gc4,Y,zA HI11,zA HAR,zA HAH,zA HAK,zA HT2⟩
          case measure=>simp [intOf];omega
    ·obtain rfl:q=len:=by omega
     have hR2:=zA HRX
     rw [hTd,Nat.sub_self,zAW,if_neg (by simp)] at hR2
     have HR2:=zB hR2
     have HO2:=zB hI.rb
     have HRD:=zB hrd
     have HHR:=zB hHr
     clear hR2 hI hrd hHi hHr hTd
     go_wp2
     go_roundw
     case rel=>exact ⟨j+1,by omega,by go_num,Ad,cd,Gd,gcd,Xd,zA HO2,zA HRD,zA HHR,zA HR2⟩
     case measure=>simp [intOf];omega
  ·obtain rfl:j=bs.length:=by omega
   have w0:=hO.ob.bx.cell 0 rfl 0 rfl
   have w1:=hO.ob.bx.cell 0 rfl 1 rfl
   rw [Nat.add_zero] at w0 w1
   have HB7:=zB hO.ob.bx
   have HL7:=zB hO.ob.bel
   have HF7:=zB hO.ob.wf
   have hR2:=hRc
   rw [List.drop_length,zBa] at hR2
   have HR2:=zB hR2
   clear hO hRc hR2 hrc hHs
   go_wp2_with (refine zG rfl 43 (.tmp 4) (.tmp 131) rfl (w.heap.size+2) 0 [.slice Ac Xc.rows.length cc,.slice Gc Xc.gens.length gcc] rfl rfl (by simp [Value.oneCell']) size38 ((zA HB7).there 2 rfl 2 rfl) ?_;intro W8 hW;have q1:=(zA HB7).give 2 rfl [.slice Ac Xc.rows.length cc,.slice Gc Xc.gens.length gcc] rfl;have q3:=zI (w.heap.size+2) (by omega) [.slice Ac Xc.rows.length cc,.slice Gc Xc.gens.length gcc] 0 _ (zA HL7);have q4:=zAc (k:=2) (o:=0) (vs:=[.slice Ac Xc.rows.length cc,.slice Gc Xc.gens.length gcc]) (zA HF7) (zA HNB) (by omega);rw [←hW] at q1 q3 q4;have HB8:=zB q1;have HL8:=zB q3;have HF8:=zB q4;clear hW q1 q3 q4)
   have t0:=(zA HB8).cell 2 rfl 0 rfl
   have t1:=(zA HB8).cell 2 rfl 1 rfl
   refine bodyPost_ret (v:=.tuple #[.agg #[.slice Ac Xc.rows.length cc,.slice Gc Xc.gens.length gcc],.int .i64 0]) (by simp [results,Tryz.results30,go_sem,t0,t1]) rfl ?_
   rw [zA HR2]
   exact ⟨Ac,cc,Gc,gcc,rfl,(zA HF8).le (by omega),zA HL8⟩
end Go.Proofs.YtnbleebilmghcabGreat
