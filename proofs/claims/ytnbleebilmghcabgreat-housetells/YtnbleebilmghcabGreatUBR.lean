/- The document's Run over a right world. -/
import Derived.Test.YtnbleebilmghcabGreatUAV
import Derived.Test.YtnbleebilmghcabGreatUAZ
import Derived.Test.YtnbleebilmghcabGreatUBM
set_option linter.all false
set_option maxRecDepth 8000
set_option maxHeartbeats 8000000
open Go.Value renaming int→I,slice→S,pointer→Ae,agg→Af,tuple→Ai,oneCell'→Ar
open Go.IntKind renaming i64→K
open Option renaming none→N,some→O
open Go.Obj renaming cells→Al
open Go.Operand renaming tmp→Am
open Go.Ending renaming returned→Ao
open Array renaming getD_eq_getD_getElem?→Ap
open Go.Act renaming eval→Aq
open Go.Proofs.Tryz renaming prog→Au
namespace Go.Proofs.YtnbleebilmghcabGreat
open Go Go.RowKit
attribute [local go_sem ↓] Go.wp_at_zero Go.wp_at_succ
theorem aX(A:Option Addr)(cap:Nat)(G:Option Addr)(gcap:Nat)(X:Wd)(m al no:Int)(A1:Option Addr)(len acap:Nat)(a:Nat→F')(w:World)(hX:FX w A cap G gcap X)(hr:FK X)(hA:GZ w A1 len a)(hw:(MA m al no a len).1=0):
  Calls Au 30 #[Af #[S A X.rows.length cap,S G X.gens.length gcap],Af #[I K m,I K al,I K no,S A1 len acap]] w fun e w'=>∃A' c' G' gc',e=Ao (Ai #[Af #[S A' (Gq a len (GV X al no X.rows.length) X).2.rows.length c',S G' (Gq a len (GV X al no X.rows.length) X).2.gens.length gc'],I K (Gq a len (GV X al no X.rows.length) X).1])∧WF w.heap.size A G X w' A' c' G' gc' (Gq a len (GV X al no X.rows.length) X).2∧Below w.heap.size w w':=by
 obtain⟨hhd,hlen,hok⟩:=(Ie m al no a len).1 hw;have hrg:∀q,q<len→Iq (a q).k (a q).p (a q).f (a q).n=true∧1≤(a q).k∧(a q).k≤7:=fun q hq=>KH _ _ _ _ _ (hok q hq);have hal:FV al=true:=by unfold Is at hhd;simp only[AP]at hhd;exact hhd.1.2
 have hno:FV no=true:=by unfold Is at hhd;simp only[AP]at hhd;exact hhd.2
 obtain⟨hl60,hgl60,_⟩:=GD ((F7 X).2 hr);have hset:∀j,j<X.rows.length→FV (X.rows.getD j dR).has=true:=fun j hj=>by
  have:=(Hz (hr.rv j hj)).1;show FV (E' X j).has=true;unfold FV;simpa using this
 obtain⟨W0,hW0⟩:∃W0,W0=GQ w [([S A X.rows.length cap,S G X.gens.length gcap],43),([I K m,I K al,I K no,S A1 len acap],37),([S N 0 0,S N 0 0],43)]:=⟨_,rfl⟩;have hX0:=GJ.start w [([S A X.rows.length cap,S G X.gens.length gcap],43),([I K m,I K al,I K no,S A1 len acap],37),([S N 0 0,S N 0 0],43)];have hb0:=F6 [([S A X.rows.length cap,S G X.gens.length gcap],43),([I K m,I K al,I K no,S A1 len acap],37),([S N 0 0,S N 0 0],43)] w;rw[←hW0]at hX0 hb0;have hW0':((w.alloc (Al #[S A X.rows.length cap,S G X.gens.length gcap] 43)).alloc (Al #[I K m,I K al,I K no,S A1 len acap] 37)).alloc (Al #[S N 0 0,S N 0 0] 43)=W0:=hW0.symm;have HW0:=An hW0';clear hW0 hW0'
 have hO0:OB w A G X m al no (S A1 len acap) A cap G gcap X W0:=⟨hX0,hb0,WF.refl (hX.below hb0)⟩;have HNB:Hid (∀k,¬ OU A G X (w.heap.size+k)):=An (fun k hb=>by have:=IS hX hb;omega);have hMT:=WL A cap G gcap X al no W0 (by omega) (hX.below hb0) hal hno hset;have hHS:∀b∈GV X al no X.rows.length,Mv X b:=fun b hb=>gz hr hb;have hPW:=es hr al no X.rows.length;have hbl:(GV X al no X.rows.length).length≤60:=by
  unfold GV;rw[Bj];refine AU (BT _ _) ?_;rw[AZ];omega
 obtain⟨w0,w1⟩:=hX0.g2 R;have s1:=hX0.cell 1 R 1 R;have s2:=hX0.cell 1 R 2 R;obtain⟨bs,hbs⟩:∃bs,bs=GV X al no X.rows.length:=⟨_,rfl⟩;rw[←hbs]at hMT hHS hPW hbl⊢;obtain⟨RR,hRR⟩:∃RR,RR=Gq a len bs X:=⟨_,rfl⟩;rw[←hRR];unfold Up FF at hMT;have HMT:=An hMT;have HHS:=An hHS;have HPW:=An hPW;have HRR:=An hRR;have HA:=An hA;have HR:=An hr;have HO0:=An hO0;have HRG:=An hrg;clear hMT hHS hPW hRR hA hr hO0 hrg hX0 hb0 hX hbs hal hno hset hhd hok hw;go_enter Tryz.func30,Tryz.ntmps30
 go_upto_region 1 with fail
 rw[AN HW0];clear HW0;go_wp2_with fail
 go_at_call 57;refine(AN HMT).mono ?_;rintro e w1'⟨v1,rfl,ho1,hb1⟩;obtain⟨AB,cb,rfl,hBS⟩:=Rd ho1;have HR1:Hid (RU w A G X m al no (S A1 len acap) AB bs A cap G gcap X w1'):=An ⟨(AN HO0).below hb1,hBS⟩;have HAB:Hid (∀o',AB=O ⟨w.heap.size,o',N⟩→bs.length=0):=An (fun o' e=>by
  have h1:=(ho1.lt w.heap.size (by rw[e];rfl)).1;have h2:=(AN HO0).sz;omega)
 clear ho1 hb1 hBS w0 w1 s1 s2 HO0 HMT;go_wp2_with fail
 go_loopw [20] (fun x wr=>∃j:Nat,j≤bs.length∧x=I K (j:Int)∧∃Ac cc Gc gcc Xc,RU w A G X m al no (S A1 len acap) AB bs Ac cc Gc gcc Xc wr∧FK Xc∧(∀b∈bs.drop j,Mv Xc b)∧RR=Gq a len (bs.drop j) Xc) (fun x _=>bs.length - (intOf x).toNat)
 case atStart=>exact⟨0,AS _,rfl,A,cap,G,gcap,X,AN HR1,AN HR,AN HHS,AN HRR⟩
 case round =>
  clear HR1 HRR HR HHS;obtain⟨j,hj,rfl,Ac,cc,Gc,gcc,Xc,hO,hrc,hHs,hRc⟩:=hrel;by_cases hlt:j<bs.length
  ·have j0:(0:Int)≤(j:Int):=(by omega);have j1:(j:Int)<(bs.length:Int):=(by omega);rw[QX a len bs j Xc hlt]at hRc;obtain⟨ob,oo,hAe,c0,c1⟩:=hO.bs j hlt;have hdr:bs.drop j=bs.getD j (0,0):: bs.drop (j+1):=by
    rw[CP hlt,Az,AE hlt];rfl
   have hne:∀b∈bs.drop (j+1),b≠bs.getD j (0,0):=by
    have hp:=Fg (List.drop_sublist j bs) (AN HPW);rw[hdr]at hp;exact fun b hb e=>(Ce.1 hp).1 b hb e.symm
   have hHi:Mv Xc (bs.getD j (0,0)):=hHs _ (by rw[hdr];exact List.mem_cons_self ..);have hHr:∀b∈bs.drop (j+1),Mv Xc b:=fun b hb=>hHs b (by rw[hdr];exact List.mem_cons_of_mem _ hb);obtain⟨i,hi⟩:∃i,i=(bs.getD j (0,0)).1:=⟨_,rfl⟩;obtain⟨g,hg⟩:∃g,g=(bs.getD j (0,0)).2:=⟨_,rfl⟩;have hig:bs.getD j (0,0)=(i,g):=(by rw[hi,hg]);rw[←hi,←hg]at hRc;rw[←hi]at c0;rw[←hg]at c1;rw[hig]at hne hHi;obtain⟨TT,hTT⟩:∃TT,TT=GP i g a len 0 Xc:=⟨_,rfl⟩;rw[←hTT]at hRc;obtain⟨wo,rfl⟩:∃wo,wo=wr:=⟨_,rfl⟩;obtain⟨W4,hW4⟩:∃W4,W4=GQ wo [([I K i,I K g],61)]:=⟨_,rfl⟩;have hX4:=GJ.start wo [([I K i,I K g],61)];have hb4:=F6 [([I K i,I K g],61)] wo;rw[←hW4]at hX4 hb4;have hW4':wo.alloc (Al #[I K i,I K g] 61)=W4:=hW4.symm;have HW4:=An hW4';clear hW4 hW4'
   have hI4:RV w A G X m al no (S A1 len acap) AB bs wo.heap.size i g Ac cc Gc gcc Xc W4:=⟨hO.below hb4,hX4⟩;have HBB:Hid (w.heap.size<wo.heap.size):=An (by have:=hO.ob.sz;omega);have s3:=hI4.rb.ob.bx.cell 1 R 3 R;have HI4:=An hI4;have HRC:=An hrc;have HHI:=An hHi;have HHR:=An hHr;have HNE:=An hne;have HTT:=An hTT;have HRX:=An hRc;clear hI4 hO hX4 hb4 hHs hrc hHi hHr hne hTT hRc hdr hi hg hig;subst hAe;go_upto_region 4 with fail
   rw[AN HW4];clear HW4 c0 c1;go_wp2_with fail
   clear s3;go_loopw [27] (fun x wr=>∃q:Nat,q≤len∧x=I K (q:Int)∧∃Ad cd Gd gcd Xd,RV w A G X m al no (S A1 len acap) (O ⟨ob,oo,N⟩) bs wo.heap.size i g Ad cd Gd gcd Xd wr∧FK Xd∧Mv Xd (i,g)∧(∀b∈bs.drop (j+1),Mv Xd b)∧TT=GP i g a (len - q) q Xd) (fun x _=>len - (intOf x).toNat)
   case atStart=>exact⟨0,AS _,rfl,Ac,cc,Gc,gcc,Xc,AN HI4,AN HRC,AN HHI,AN HHR,AN HTT⟩
   case round =>
    clear HI4 HRC HHI HHR HTT;obtain⟨q,hq,rfl,Ad,cd,Gd,gcd,Xd,hI,hrd,hHi,hHr,hTd⟩:=hrel;by_cases hql:q<len
    ·have q0:(0:Int)≤(q:Int):=(by omega);have q1:(q:Int)<(len:Int):=(by omega);rw[SD i g a len q Xd hql]at hTd;obtain⟨b,off,hAe,e0,e1,e2,e3⟩:=(AN HA).below hI.rb.ob.bel q hql;obtain⟨hrgy,hk1,hk7⟩:=AN HRG q hql;obtain⟨y,hy⟩:∃y,y=a q:=⟨_,rfl⟩;rw[←hy]at e0 e1 e2 e3 hTd hrgy hk1 hk7;clear hy;obtain⟨hl6,_,_⟩:=GD ((F7 Xd).2 hrd);obtain⟨kk,hkk,hfk⟩:=hHi;have hfk:Ga Xd i g=(kk:Int):=hfk;obtain⟨wq,rfl⟩:∃wq,wq=wr:=⟨_,rfl⟩;obtain⟨W5,hW5⟩:∃W5,W5=GQ wq [([I K y.k,I K y.p,I K y.f,I K y.n],95)]:=⟨_,rfl⟩;have hX5:=GJ.start wq [([I K y.k,I K y.p,I K y.f,I K y.n],95)];have hb5:=F6 [([I K y.k,I K y.p,I K y.f,I K y.n],95)] wq;rw[←hW5]at hX5 hb5;have hW5':wq.alloc (Al #[I K y.k,I K y.p,I K y.f,I K y.n] 95)=W5:=hW5.symm;have HW5:=An hW5';clear hW5 hW5'
     have hI5:=hI.below hb5;have hz5:w.heap.size+3≤W5.heap.size:=hI5.rb.ob.sz;obtain⟨w0,w1⟩:=hI5.rb.ob.bx.g2 R;obtain⟨b0,b1⟩:=hI5.be.g2 R;have d0:=hX5.cell 0 R 0 R;rw[Ay]at d0;have HI5:=An hI5;have HX5:=An hX5;have HRD:=An hrd;have HHR:=An hHr;have HTD:=An hTd;have HRY:=An hrgy;have HKK:=An (And.intro hkk hfk);have HZ5:=An hz5;have HK1:=An (And.intro hk1 hk7);have HHI:Hid (Mv Xd (i,g)):=An ⟨kk,hkk,hfk⟩;clear hI hI5 hb5 hX5 hrd hHr hTd hrgy hkk hfk hz5 hk1 hk7;subst hAe;go_upto_region 7 with fail
     rw[AN HW5];clear HW5 e0 e1 e2 e3;by_cases hk6:y.k=6
     ·have hz:=fL (AN HRD) (AN HHI) (AN HK1) (AN HRY) (by rw[hk6];decide);have hRK:=SO Ad cd Gd gcd Xd i g W5 (by omega) (AN HI5).rb.ob.wf.at_;have eA:Hn Xd i g y=GS Xd i g:=(by unfold Hn;rw[AF hk6]);have hHR2:∀b∈bs.drop (j+1),Mv (GS Xd i g).2 b:=fun b hb=>(AN HHR b hb).keeps (by rw[←eA];exact L6 (AN HRD) hz b.1 b.2 (AN HNE b hb));have hrY:FK (GS Xd i g).2:=(by rw[←eA];exact Ip (AN HRD) hz);have hT2:=AN HTD;rw[AA (by rw[hz];simp),AF hk6,eA]at hT2;have hR2:=AN HRX;rw[hT2,AA (by simp)]at hR2;have hgn:=PF Xd i g;obtain⟨Y,hY⟩:∃Y,Y=(GS Xd i g).2:=⟨_,rfl⟩;obtain⟨err,herr⟩:∃err,err=(GS Xd i g).1:=⟨_,rfl⟩;rw[←hY]at hRK hHR2 hrY hR2 hgn;rw[←herr]at hRK;unfold Up FF FJ at hRK;have HRK:=An hRK;have HHR2:=An hHR2;have HRY2:=An hrY;have HR2:=An hR2;have HGN:=An hgn;clear hz hRK eA hHR2 hrY hT2 hR2 hgn hY herr HTD HHR HRY HHI;go_wp2_with fail
      go_at_call 58;refine(AN HRK).mono ?_;rintro e w6⟨A4,c4,G4,gc4,rfl,hD6,hb6⟩;have hI6:=(AN HI5).below hb6;have HF6:=An (hI6.rb.doc (AN HZ5) hD6 (fun e=>.inr ⟨rfl,AN HGN e⟩));have HI6:=An hI6;clear hI6 hD6 hb6 w0 w1 b0 b1 d0 HI5 HX5;go_wp2_with(refine As R 43 (Am 2) (Am 38) R (w.heap.size+0) 0 [S A4 Y.rows.length c4,S G4 Y.gens.length gc4] R R (by simp[Ar]) F8 ((AN HI6).rb.ob.bx.there 0 R 2 R) ?_;intro W7 hW;have q1:=(AN HI6).put (AN HF6) (AN HNB) (AN HAB) (AN HBB);rw[←hW]at q1;have HI7:=An q1;clear hW q1)
      go_roundw
      case rel=>exact⟨j+1,by omega,by go_num,A4,c4,G4,gc4,Y,(AN HI7).rb,AN HRY2,AN HHR2,AN HR2⟩
      case measure=>simp[intOf];omega
     ·have hz:=fL (AN HRD) (AN HHI) (AN HK1) (AN HRY);have hRW:=KM (AN HKK).2 hl6 Ad cd Gd gcd W5 (AN HI5).rb.ob.wf.at_;have HOK:=An hz;have HRW:=An hRW;clear hz hRW;have hk6b:(y.k == 6)=false:=(by simpa using hk6);go_wp2_with fail
      go_at_call 59;refine(AN HRW).mono ?_;rintro e w6⟨bv,ov,rfl,hrow,hb6⟩;have hI6:=(AN HI5).below hb6;have hX6:=(AN HX5).below hb6;have HZ6:Hid (w.heap.size+3≤w6.heap.size):=An hI6.rb.ob.sz;clear w0 w1 b0 b1 d0;obtain⟨w0,w1⟩:=hI6.rb.ob.bx.g2 R;obtain⟨b0,b1⟩:=hI6.be.g2 R;obtain⟨d0,d1⟩:=hX6.g2 R;have d3:=hX6.cell 0 R 3 R;rw[Ay]at d3;have HI6:=An hI6;have HX6:=An hX6;have HRO:=An hrow;clear hI6 hX6 hrow hb6 HI5 HX5 HRW HZ5;by_cases hk7:y.k=7
      ·have hRK:=QZ Ad cd Gd gcd Xd y.p y.n w6 (by omega) (AN HI6).rb.ob.wf.at_;have eA:Hn Xd i g y=((FQ Xd y.p y.n).1,(FQ Xd y.p y.n).2.2):=(by unfold Hn;rw[AA hk6,AF hk7]);have hT2:=AN HTD;have hAR:=fun h=>Ip (AN HRD) (i:=i) (g:=g) (y:=y) h;have hAH:=fun h=>Vd (AN HRD) (i:=i) (g:=g) (y:=y) h hk6 (AN HHI);have hAK:(Hn Xd i g y).1=0→∀b∈bs.drop (j+1),Mv (Hn Xd i g y).2 b:=fun h b hb=>(AN HHR b hb).keeps (L6 (AN HRD) h b.1 b.2 (AN HNE b hb));rw[eA]at hT2 hAR hAH hAK;rw[AA hk6]at hT2;obtain⟨Y,hY⟩:∃Y,Y=(FQ Xd y.p y.n).2.2:=⟨_,rfl⟩;obtain⟨err,herr⟩:∃err,err=(FQ Xd y.p y.n).1:=⟨_,rfl⟩;obtain⟨ci,hci⟩:∃ci,ci=(FQ Xd y.p y.n).2.1.1:=⟨_,rfl⟩;obtain⟨cg,hcg⟩:∃cg,cg=(FQ Xd y.p y.n).2.1.2:=⟨_,rfl⟩;rw[←hY,←herr]at hRK hT2 hAR hAH hAK;rw[←hci,←hcg]at hRK;unfold Up FF FJ at hRK;have HRK:=An hRK;have HT2:=An hT2;have HAR:=An hAR;have HAH:=An hAH;have HAK:=An hAK;clear hRK eA hT2 hAR hAH hAK hY herr hci hcg HTD HHR HRY HHI HOK HRO;go_wp2_with fail
       go_at_call 60;refine(AN HRK).mono ?_;rintro e w7⟨A4,c4,G4,gc4,rfl,hD7,hb7⟩;obtain⟨W8,hW8⟩:∃W8,W8=GQ w7 [([S A4 Y.rows.length c4,S G4 Y.gens.length gc4],43),([I K ci,I K cg],61)]:=⟨_,rfl⟩;have hX8:=GJ.start w7 [([S A4 Y.rows.length c4,S G4 Y.gens.length gc4],43),([I K ci,I K cg],61)];have hb8:=F6 [([S A4 Y.rows.length c4,S G4 Y.gens.length gc4],43),([I K ci,I K cg],61)] w7;rw[←hW8]at hX8 hb8;have hW8':(w7.alloc (Al #[S A4 Y.rows.length c4,S G4 Y.gens.length gc4] 43)).alloc (Al #[I K ci,I K cg] 61)=W8:=hW8.symm;have HW8:=An hW8';clear hW8 hW8'
       have hI8:=((AN HI6).below hb7).below hb8;have HF8:=An (((((AN HI6).below hb7).rb.doc (AN HZ6) hD7 (fun e=>.inl R))).below hb8);obtain⟨n0,n1⟩:=hX8.g2 R;have HI8:=An hI8;clear hI8 hX8 hb8 hD7 hb7 w0 w1 b0 b1 d0 d1 d3 HI6 HX6 HRK;go_upto_region 14 with fail
       rw[AN HW8];clear HW8;by_cases he:err=0
       ·subst he;have hT3:=AN HT2;rw[AA (by simp)]at hT3;have HT3:=An hT3;clear hT3 HT2;go_wp2_with(refine As R 43 (Am 2) (Am 63) R (w.heap.size+0) 0 [S A4 Y.rows.length c4,S G4 Y.gens.length gc4] R R (by simp[Ar]) F8 ((AN HI8).rb.ob.bx.there 0 R 2 R) ?_;intro W9 hW;have q1:=(AN HI8).put (AN HF8) (AN HNB) (AN HAB) (AN HBB);rw[←hW]at q1;have HI9:=An q1;clear hW q1)
        go_roundw
        case rel=>exact⟨q+1,by omega,by go_num,A4,c4,G4,gc4,Y,AN HI9,AN HAR R,AN HAH R,AN HAK R,AN HT3⟩
        case measure=>simp[intOf];omega
       ·have hneb:(err == 0)=false:=(by simpa using he);have hneb2:(err != 0)=true:=(by simpa using he);have hR2:=AN HRX;have hT3:=AN HT2;rw[AF he]at hT3;rw[hT3,AF he]at hR2;have HR2:=An hR2;have HB9:=An (AN HI8).rb.ob.bx;have HL9:=An (AN HI8).rb.ob.bel;clear hR2 hT3 HT2 HAR HAH HAK;go_wp2_with(first|(refine As R 43 (Am 4) (Am 61) R (w.heap.size+2) 0 [S N 0 0,S N 0 0] R R (by simp[Ar]) F8 ((AN HB9).there 2 R 2 R) ?_;intro W10 hW;have q1:=(AN HB9).give 2 R [S N 0 0,S N 0 0] R;have q3:=Bv (w.heap.size+2) (by omega) [S N 0 0,S N 0 0] 0 _ (AN HL9);rw[←hW]at q1 q3;have HB10:=An q1;have HL10:=An q3;clear hW q1 q3)|(obtain⟨t0,t1⟩:=(AN HB10).f2 2 R;refine AG (by simp[results,Tryz.results30,go_sem,t0,t1]<;>rfl) R ?_;rw[AN HR2];exact⟨N,0,N,0,rfl,WF.empty _ _ _ _ _,AN HL10⟩))
      ·have hz:=AN HOK hk7;have HAH:=An (Vd (AN HRD) hz hk6 (AN HHI));have HAR:=An (Ip (AN HRD) hz);have HAK:Hid (∀b∈bs.drop (j+1),Mv (Hn Xd i g y).2 b):=An (fun b hb=>(AN HHR b hb).keeps (L6 (AN HRD) hz b.1 b.2 (by have:=AN HNE b hb;exact this)));have hT2:=AN HTD;rw[AA (by rw[hz];simp),AA hk6]at hT2;have HT2:=An hT2;clear hz hT2 HTD HOK HHR;have hk7b:(y.k == 7)=false:=(by simpa using hk7);by_cases hk5:y.k=5
       ·obtain⟨hbd,_⟩:=Hz ((AN HRD).rv kk (AN HKK).1);have hp5:F5 y.p=true:=(by have:=AN HRY;rw[hk5]at this;exact this);have hgh:=(K3 (AN HRD) (AN HKK).1 (AN HKK).2 hp5).2;have hHS:=fun W=>M6 (E' Xd kk).has y.p W hbd.1 hbd.2;have z2:=B1 (AN HRO).c2;have t1:=B1 d1;have hsub:Nonempty (Hm w6):=⟨⟨w6,AD _ _⟩⟩;generalize E' Xd kk=row at *
        cases hb:Kz row.has y.p
        ·rw[hb]at hHS hgh;have eA:Hn Xd i g y=(0,Xd):=(by unfold Hn;rw[AA hk6,AA hk7,AF hk5,AA (by rw[hgh];simp)]);have hT3:=AN HT2;rw[eA]at hT3;have HT3:=An hT3;have HAK2:=AN HAK;rw[eA]at HAK2;have HAK3:=An HAK2;have HHS:=An hHS;clear hHS hgh eA hT3 HAK2 hb HT2 HAK HAR HAH hbd hp5;go_wp2_with fail
         refine FN (by kernel_rfl) (by kernel_rfl) ?_
         repeat(go_big_quiet_step((go_at_call 61;exact Gf (AN HHS _))))
         refine Bg ?_;rintro w9⟨xs,hxs⟩;have hb9:=xs.bel;rw[←hxs]at hb9;have HI9:=An ((AN HI6).below hb9);clear hxs hb9 xs z2 t1 hsub;go_wp2;go_roundw
         case rel=>exact⟨q+1,by omega,by go_num,Ad,cd,Gd,gcd,Xd,AN HI9,AN HRD,AN HHI,AN HAK3,AN HT3⟩
         case measure=>simp[intOf];omega
        ·rw[hb]at hHS hgh;have eA:Hn Xd i g y=GK Xd i g y.p:=(by unfold Hn;rw[AA hk6,AA hk7,AF hk5,AF hgh]);have hRK:=fun W (h:FX W Ad cd Gd gcd Xd)=>SS Ad cd Gd gcd Xd i g y.p W (by omega) h;have hgn:(GK Xd i g y.p).2.gens≠[]→Xd.gens≠[]:=Nc Xd i g _;rw[eA]at HT2 HAR HAH HAK;obtain⟨Y,hY⟩:∃Y,Y=(GK Xd i g y.p).2:=⟨_,rfl⟩;obtain⟨err,herr⟩:∃err,err=(GK Xd i g y.p).1:=⟨_,rfl⟩;rw[←hY]at HT2 HAR HAH HAK hRK hgn;rw[←herr]at hRK;unfold Up FF FJ at hRK;have HRK:=An hRK;have HGN:=An hgn;have HHS:=An hHS;clear hHS hgh eA hRK hgn hY herr hb hbd hp5;go_wp2_with fail
         refine FN (by kernel_rfl) (by kernel_rfl) ?_
         repeat(go_big_quiet_step((go_at_call 61;exact Gf (AN HHS _))))
         refine Bg ?_;rintro w9⟨xs,hxs⟩;have hb9:=xs.bel;rw[←hxs]at hb9;have hI9:=(AN HI6).below hb9;have hX9:=(AN HX6).below hb9;clear w0 w1 b0 b1 d0 d1 d3;obtain⟨w0,w1⟩:=hI9.rb.ob.bx.g2 R;obtain⟨b0,b1⟩:=hI9.be.g2 R;have d1:=hX9.cell 0 R 1 R;rw[Ay]at d1;have HZ9:Hid (w.heap.size+3≤w9.heap.size):=An hI9.rb.ob.sz;have HI9:=An hI9;clear hxs hb9 xs z2 t1 hsub hI9 hX9;go_wp2_with fail
         go_at_call 62;refine(AN HRK _ (AN HI9).rb.ob.wf.at_).mono ?_;rintro e w10⟨A4,c4,G4,gc4,rfl,hD10,hb10⟩;have hI10:=(AN HI9).below hb10;have HF10:=An (hI10.rb.doc (AN HZ9) hD10 (fun e=>.inr ⟨rfl,AN HGN e⟩));have HI10:=An hI10;clear hI10 hD10 hb10 w0 w1 b0 b1 d1;go_wp2_with(refine As R 43 (Am 2) (Am 79) R (w.heap.size+0) 0 [S A4 Y.rows.length c4,S G4 Y.gens.length gc4] R R (by simp[Ar]) F8 ((AN HI10).rb.ob.bx.there 0 R 2 R) ?_;intro W11 hW;have q1:=(AN HI10).put (AN HF10) (AN HNB) (AN HAB) (AN HBB);rw[←hW]at q1;have HI11:=An q1;clear hW q1)
         go_roundw
         case rel=>exact⟨q+1,by omega,by go_num,A4,c4,G4,gc4,Y,AN HI11,AN HAR,AN HAH,AN HAK,AN HT2⟩
         case measure=>simp[intOf];omega
       ·have hk5b:(y.k == 5)=false:=(by simpa using hk5);have hk4:y.k=1∨y.k=2∨y.k=3∨y.k=4:=(by have:=AN HK1;omega);have eA:Hn Xd i g y=Hc Xd i g y.p (IC (L5 Xd i g y)):=(by unfold Hn;rw[AA hk6,AA hk7,AA hk5]);have hAM:=fI (AN HRD) (AN HKK).1 (AN HKK).2 (AN HRY);rw[eA]at HT2 HAR HAH HAK;generalize L5 Xd i g y=am at *;have hRK:=fun W (h:FX W Ad cd Gd gcd Xd)=>UM Ad cd Gd gcd Xd i g y.p (IC am) W (by omega) h;have hgn:(Hc Xd i g y.p (IC am)).2.gens≠[]→Xd.gens≠[]:=Nc Xd i g _;obtain⟨Y,hY⟩:∃Y,Y=(Hc Xd i g y.p (IC am)).2:=⟨_,rfl⟩;obtain⟨err,herr⟩:∃err,err=(Hc Xd i g y.p (IC am)).1:=⟨_,rfl⟩;rw[←hY]at HT2 HAR HAH HAK hRK hgn;rw[←herr]at hRK;unfold Up FF FJ at hRK;have HRK:=An hRK;have HGN:=An hgn;have HAM:=An hAM;clear eA hAM hRK hgn hY herr;go_upto_block 4 with fail
        go_cut [11,27]from 27 to 129 (fun x z wc=>z=I K (q:Int)∧x=I K am∧Below w6.heap.size w6 wc)
        case first =>
         rcases hk4 with hkz|hkz|hkz|hkz
         ·have HAM2:=An ((AN HAM).2.2.2 hkz);go_wp2_with fail
          go_meet
          case rel=>exact⟨rfl,by rw[AN HAM2],AD _ _⟩
         ·obtain⟨ham,hpf⟩:=((AN HAM).1 hkz);have hP:=AM hpf;obtain⟨f',hf'⟩:∃f':Nat,y.f=(f':Int):=⟨y.f.toNat,by omega⟩;rw[hf']at hP;have kf0:=hP.1;have kf1:=hP.2;have vf:=B1 ((AN HRO).v f' (by omega));rw[hf',Bi]at ham;clear hP;have d2:=((AN HX6).cell 0 R 2 R);rw[Ay]at d2;rw[hf']at d2;have t1:=B1 d1;have t2:=B1 d2;have t3:=B1 d3;have hsub:Nonempty (Hm w6):=⟨⟨w6,AD _ _⟩⟩;have HAM2:=An ham;generalize (E' Xd kk).v=rv at *;clear ham hpf hf';go_wp2_with fail
          refine FN (by kernel_rfl) (by kernel_rfl) ?_
          repeat(go_big_quiet_step(fail))
          refine Bg ?_;rintro w9⟨xs,hxs⟩;have hb9:=xs.bel;rw[←hxs]at hb9;have HB9:=An hb9;clear hxs hb9 xs hsub;go_wp2_with fail
          go_meet
          case rel=>exact⟨rfl,by rw[AN HAM2],AN HB9⟩
         ·obtain⟨ham,hpf,hpp⟩:=((AN HAM).2.1 hkz);have hP:=AM hpf;obtain⟨f',hf'⟩:∃f':Nat,y.f=(f':Int):=⟨y.f.toNat,by omega⟩;rw[hf']at hP;have kf0:=hP.1;have kf1:=hP.2;have vf:=B1 ((AN HRO).v f' (by omega));rw[hf',Bi]at ham;clear hP;have hP:=AM hpp;obtain⟨p',hp'⟩:∃p':Nat,y.p=(p':Int):=⟨y.p.toNat,by omega⟩;rw[hp']at hP;have kp0:=hP.1;have kp1:=hP.2;have vp:=B1 ((AN HRO).v p' (by omega));rw[hp',Bi]at ham;clear hP;have d2:=((AN HX6).cell 0 R 2 R);rw[Ay]at d2;rw[hf']at d2;rw[hp']at d1;have t1:=B1 d1;have t2:=B1 d2;have t3:=B1 d3;have hsub:Nonempty (Hm w6):=⟨⟨w6,AD _ _⟩⟩;have HAM2:=An ham;generalize (E' Xd kk).v=rv at *;clear ham hpf hf' hpp hp';go_wp2_with fail
          refine FN (by kernel_rfl) (by kernel_rfl) ?_
          repeat(go_big_quiet_step(fail))
          refine Bg ?_;rintro w9⟨xs,hxs⟩;have hb9:=xs.bel;rw[←hxs]at hb9;have HB9:=An hb9;clear hxs hb9 xs hsub;go_wp2_with fail
          go_meet
          case rel=>exact⟨rfl,by rw[AN HAM2,EE],AN HB9⟩
         ·obtain⟨ham,hpp⟩:=((AN HAM).2.2.1 hkz);have hP:=AM hpp;obtain⟨p',hp'⟩:∃p':Nat,y.p=(p':Int):=⟨y.p.toNat,by omega⟩;rw[hp']at hP;have kp0:=hP.1;have kp1:=hP.2;have vp:=B1 ((AN HRO).v p' (by omega));rw[hp',Bi]at ham;clear hP;have d2:=((AN HX6).cell 0 R 2 R);rw[Ay]at d2;rw[hp']at d1;have t1:=B1 d1;have t2:=B1 d2;have t3:=B1 d3;have hsub:Nonempty (Hm w6):=⟨⟨w6,AD _ _⟩⟩;have HAM2:=An ham;generalize (E' Xd kk).v=rv at *;clear ham hpp hp';go_wp2_with fail
          refine FN (by kernel_rfl) (by kernel_rfl) ?_
          repeat(go_big_quiet_step(fail))
          refine Bg ?_;rintro w9⟨xs,hxs⟩;have hb9:=xs.bel;rw[←hxs]at hb9;have HB9:=An hb9;clear hxs hb9 xs hsub;go_wp2_with fail
          go_meet
          case rel=>exact⟨rfl,by rw[AN HAM2,EE],AN HB9⟩
        case rest =>
         obtain⟨rfl,rfl,hbc⟩:=hcut;obtain⟨Wc,rfl⟩:∃Wc,Wc=wc:=⟨_,rfl⟩;have HI9:=An ((AN HI6).below hbc);have HX9:=An ((AN HX6).below hbc);clear hbc w0 w1 b0 b1 d0 d1 d3 HAM HRO HKK HRY HHI HI6 HX6;go_upto_region 26 with fail
         have h0:(fun(γ:Value) L W=>(L 10=false→Below Wc.heap.size Wc W)∧(L 6=true→∃A4 c4 G4 gc4,γ=Af #[S A4 Y.rows.length c4,S G4 Y.gens.length gc4]∧(L 10=false→WF (w.heap.size+3) A G X W A4 c4 G4 gc4 Y)∧(L 10=true→RV w A G X m al no (S (O ⟨b,off,N⟩) len acap) (O ⟨ob,oo,N⟩) bs wo.heap.size i g A4 c4 G4 gc4 Y W))) undef (fun _=>false) Wc.drew:=⟨fun _=>Fv.drew,fun e=>by cases e⟩;refine FW (fun(γ:Value)=>[Af #[S Ad Xd.rows.length cd,S Gd Xd.gens.length gcd],Af #[I K i,I K g],Ae (O ⟨wq.heap.size,1,N⟩),I K y.p,I K am,I K (IC am),Ai #[γ,I K err],Ai #[γ,I K err],γ,I K err,undef]) (fun(γ:Value) L W=>(L 10=false→Below Wc.heap.size Wc W)∧(L 6=true→∃A4 c4 G4 gc4,γ=Af #[S A4 Y.rows.length c4,S G4 Y.gens.length gc4]∧(L 10=false→WF (w.heap.size+3) A G X W A4 c4 G4 gc4 Y)∧(L 10=true→RV w A G X m al no (S (O ⟨b,off,N⟩) len acap) (O ⟨ob,oo,N⟩) bs wo.heap.size i g A4 c4 G4 gc4 Y W))) (undef) (by kernel_rfl) (by kernel_rfl) (by kernel_rfl) (by kernel_rfl) h0 ?hstep ?hend
         case hstep =>
          intro F γ hout hkn ix o ho L w1 hD hL hed hcl;simp only[Hu,G9,Br,Bx]at hkn;have e2:F.tmps.getD 2 undef=Ae (O ⟨w.heap.size,0,N⟩):=hout 2 (by decide +kernel);have e7:F.tmps.getD 7 undef=Ae (O ⟨wo.heap.size,0,N⟩):=hout 7 (by decide +kernel);have e9:F.tmps.getD 9 undef=Ae (O ⟨wq.heap.size,0,N⟩):=hout 9 (by decide +kernel);have e11:F.tmps.getD 11 undef=I K am:=hout 11 (by decide +kernel)
          match ix,ho with
          |2,ho|4,ho|7,ho|9,ho =>
           simp at ho;subst ho;exact .inl ⟨rfl,FB γ _ (by simp[go_sem,Aq,-Ap,hkn,e9,e11]) R hD (fun _ _ _=>rfl)⟩
          |0,ho =>
           simp at ho;subst ho;have q10:L 10=false:=FA hcl hL 11 10 (by kernel_rfl);have hB:=hD.1 q10;have hbx:=((AN HI9).below hB).rb.ob.bx;obtain⟨c0,c1⟩:=hbx.g2 R;exact .inl ⟨rfl,FB γ _ (by simp[go_sem,Aq,-Ap,e2,c0,c1]) R hD (fun _ _ _=>rfl)⟩
          |1,ho =>
           simp at ho;subst ho;have q10:L 10=false:=FA hcl hL 11 10 (by kernel_rfl);have hB:=hD.1 q10;have hbx:=((AN HI9).below hB).be;obtain⟨c0,c1⟩:=hbx.g2 R;exact .inl ⟨rfl,FB γ _ (by simp[go_sem,Aq,-Ap,e7,c0,c1]) R hD (fun _ _ _=>rfl)⟩
          |3,ho =>
           simp at ho;subst ho;have q10:L 10=false:=FA hcl hL 11 10 (by kernel_rfl);have hB:=hD.1 q10;have hbx:=((AN HX9).below hB);have c0:=hbx.cell 0 R 1 R;rw[Ay]at c0;exact .inl ⟨rfl,FB γ _ (by simp[go_sem,Aq,-Ap,hkn,c0]) R hD (fun _ _ _=>rfl)⟩
          |5,ho =>
           simp at ho;subst ho;refine .inl ⟨rfl,GU 64 #[I K am] (by simp[go_sem,Aq,-Ap,hkn]) ?_⟩;refine(Yj am w1).mono ?_;rintro e w6⟨rfl,hw6⟩;obtain rfl:=hw6.symm;exact⟨_,γ,rfl,rfl,by rw[Fx (by decide),Fx (by decide)];exact hD,fun _ _ _=>rfl⟩
          |6,ho =>
           simp at ho;subst ho;have q10:L 10=false:=FA hcl hL 11 10 (by kernel_rfl);have hB:=hD.1 q10;refine .inl ⟨rfl,GU 63 #[Af #[S Ad Xd.rows.length cd,S Gd Xd.gens.length gcd],Af #[I K i,I K g],I K y.p,I K (IC am)] (by simp[go_sem,Aq,-Ap,hkn]) ?_⟩;have hI1:=(AN HI9).below hB;refine(AN HRK w1 hI1.rb.ob.wf.at_).mono ?_;rintro e w6⟨A6,c6,G6,gc6,rfl,hD6,hb6⟩;have hF6:=(hI1.below hb6).rb.doc hI1.rb.ob.sz hD6 (fun e=>.inr ⟨rfl,AN HGN e⟩);exact⟨_,Af #[S A6 Y.rows.length c6,S G6 Y.gens.length gc6],rfl,rfl,⟨fun _=>hB.trans (hb6.mono hB.size),fun _=>⟨A6,c6,G6,gc6,rfl,fun _=>hF6,fun e=>by rw[Fx (by decide),q10]at e;cases e⟩⟩,I5 hcl hL 11 [7,8] (by kernel_rfl) (fun j h1 h2=>by match j with|0|1|2|3|4|5|9|10=>rfl|6=>exact absurd R h1|7|8=>simp at h2|j+11=>rfl)⟩
          |8,ho =>
           simp at ho;subst ho;have e119:F.tmps.getD 119 undef=Ai #[γ,I K err]:=(by simp only[hkn]);obtain⟨A5,c5,G5,gc5,hγ,_⟩:=hD.2 (hcl 7 _ R (hed 7 (by kernel_rfl)) 6 (by kernel_rfl));exact .inl ⟨rfl,FB γ γ (by rw[hγ]at e119⊢;simp[go_sem,Aq,-Ap,e119]) R (by rw[Fx (by decide),Fx (by decide)];exact hD) (fun _ _ _=>rfl)⟩
          |10,ho =>
           simp at ho;subst ho;have e127:F.tmps.getD 127 undef=γ:=(by simp only[hkn]);have q8:L 8=true:=hed 8 (by kernel_rfl);have q6:L 6=true:=hcl 7 _ R (hcl 8 _ R q8 7 (by kernel_rfl)) 6 (by kernel_rfl);obtain⟨A5,c5,G5,gc5,hγ,hF5,_⟩:=hD.2 q6;have hB:=hD.1 hL;have hI1:=(AN HI9).below hB;refine .inl ⟨rfl,Gy γ 43 (Am 2) (Am 127) R (w.heap.size+0) 0 [S A5 Y.rows.length c5,S G5 Y.gens.length gc5] (by simp[Aq,-Ap,e2]) (by rw[hγ]at e127;simp[Aq,-Ap,e127]) (by simp[Ar]) F8 (hI1.rb.ob.bx.there 0 R 2 R) R ⟨fun e=>(by rw[IF]at e;cases e),fun _=>⟨A5,c5,G5,gc5,hγ,fun e=>(by rw[IF]at e;cases e),fun _=>hI1.put (hF5 hL) (AN HNB) (AN HAB) (AN HBB)⟩⟩ (fun _ _ _=>rfl)⟩
          |ix+11,ho=>simp at ho
         case hend =>
          intro γ L w11 hD hall;obtain⟨A4,c4,G4,gc4,rfl,_,hI11⟩:=hD.2 (hall 6 (by decide));have HI11:=An (hI11 (hall 10 (by decide)));clear hall hD h0 hI11;simp only[GN,AI,AH,Ba,AJ,AK,Nat.reduceAdd,Bf,Be];go_frame;go_wp2;go_roundw
          case rel=>exact⟨q+1,by omega,by go_num,A4,c4,G4,gc4,Y,AN HI11,AN HAR,AN HAH,AN HAK,AN HT2⟩
          case measure=>simp[intOf];omega
    ·obtain rfl:q=len:=(by omega);have hR2:=AN HRX;rw[hTd,BR,GP,AA (by simp)]at hR2;have HR2:=An hR2;have HO2:=An hI.rb;have HRD:=An hrd;have HHR:=An hHr;clear hR2 hI hrd hHi hHr hTd;go_wp2;go_roundw
     case rel=>exact⟨j+1,by omega,by go_num,Ad,cd,Gd,gcd,Xd,AN HO2,AN HRD,AN HHR,AN HR2⟩
     case measure=>simp[intOf];omega
  ·obtain rfl:j=bs.length:=(by omega);obtain⟨w0,w1⟩:=hO.ob.bx.g2 R;have HB7:=An hO.ob.bx;have HL7:=An hO.ob.bel;have HF7:=An hO.ob.wf;have hR2:=hRc;rw[D9,Gq]at hR2;have HR2:=An hR2;clear hO hRc hR2 hrc hHs;go_wp2_with(first|(refine As R 43 (Am 4) (Am 131) R (w.heap.size+2) 0 [S Ac Xc.rows.length cc,S Gc Xc.gens.length gcc] R R (by simp[Ar]) F8 ((AN HB7).there 2 R 2 R) ?_;intro W8 hW;have q1:=(AN HB7).give 2 R [S Ac Xc.rows.length cc,S Gc Xc.gens.length gcc] R;have q3:=Bv (w.heap.size+2) (by omega) [S Ac Xc.rows.length cc,S Gc Xc.gens.length gcc] 0 _ (AN HL7);have q4:=IE (k:=2) (o:=0) (vs:=[S Ac Xc.rows.length cc,S Gc Xc.gens.length gcc]) (AN HF7) (AN HNB) (by omega);rw[←hW]at q1 q3 q4;have HB8:=An q1;have HL8:=An q3;have HF8:=An q4;clear hW q1 q3 q4)|(obtain⟨t0,t1⟩:=(AN HB8).f2 2 R;refine AG (by simp[results,Tryz.results30,go_sem,t0,t1]<;>rfl) R ?_;rw[AN HR2];exact⟨Ac,cc,Gc,gcc,rfl,(AN HF8).le (by omega),AN HL8⟩))
end Go.Proofs.YtnbleebilmghcabGreat
