/- package house: tick. -/
import Derived.Test.YtnbleebilmghcabGreatUBF
import Derived.Test.YtnbleebilmghcabGreatUBC
set_option linter.all false
set_option maxRecDepth 8000
set_option maxHeartbeats 4000000
open Go.Value renaming int→I,slice→S,pointer→Ae,agg→Af,oneCell'→Ar
open Go.IntKind renaming i64→K
open Option renaming none→N,some→O
open Go.Obj renaming cells→Al
open Go.Operand renaming tmp→Am
open Go.Ending renaming returned→Ao
open Go.Proofs.Tryz renaming prog→Au
namespace Go.Proofs.YtnbleebilmghcabGreat
open Go Go.RowKit
attribute [local go_sem ↓] Go.wp_at_zero Go.wp_at_succ
theorem X0(S:Nat→GG):∀m j,(∀i,i<m→(sw (S (j+i))).1=0)→(Nj S m j).1=0
 |0,_,_=>rfl
 |m+1,j,h=>by
  have h0:=h 0 (by omega);rw[Ay]at h0;rw[Nj,AF h0];exact X0 S m (j+1) fun i hi=>by have:=h (i+1) (by omega);rwa[show j+(i+1)=j+1+i by omega]at this
theorem VJ{S:Nat→GG}{n:Nat}(hn:n≤12)(h:∀ j,j<n→(sw (S j)).1=0):(en S n).1=0:=by
 unfold en;rw[AA (by omega)];exact X0 S n 0 fun i hi=>by rw[AT];exact h i hi
theorem U5(bs:List (List Nat)):KS false bs=bs.flatten:=by simp[KS]
theorem kM:(Tryz.prog.info? 3).map (·.size)=some 1:=by kernel_rfl
theorem Z7(p:Nat)(T:Option Addr)(tc:Nat)(G:Option Addr)(gc:Nat)(u2 u4:Value)(SA:Option Addr)(n sc:Nat)(S:Nat→GG)(X:Wd)(w:World)(hB:GJ p [([.slice T (FG X).length tc,.slice G X.gens.length gc,u2,.slice SA n sc,u4],87)] w)(hS:Ir w T G (FG X) X)(hL:Iw w SA n S)(hn:n≤12)(hsw:∀ j,j<n→(sw (S j)).1=0):
  Calls Au 78 #[Ae (O ⟨p,0,N⟩)] w fun e w'=>e=Ao (Af #[I K (GX S n 0 X).1.1,I K 0,I K 0,.slice N 0 0,I K (if(GX S n 0 X).1.1=0 then(((IM (He S) n).length:Nat):Int)else 0)])∧Ro p u2 (.slice SA n sc) u4 (GX S n 0 X).1.1 (GX S n 0 X).2 w w':=by
 have hw:=VJ hn hsw;obtain⟨hq1,hq2⟩:=VQ hS.right hsw false;have hMK:=fun W (hb:Below w.heap.size w W)=>Wh SA n sc S W (hL.below hb) hw;have hAM:=fun A c W (hb:Below w.heap.size w W) (hS':Iw W A n (fun k=>S ((KS false (IM (He S) n)).getD k 0)))=>iB T tc G gc (FG X) X A n c (fun k=>S ((KS false (IM (He S) n)).getD k 0)) W (hS.below hb) (by omega) hS';unfold GC at hMK;unfold JN at hAM;rw[hq1,hq2]at hAM;generalize (GX (fun k=>S ((KS false (IM (He S) n)).getD k 0)) n 0 X).1.2=at2 at *;obtain⟨e1,he1⟩:∃e1,e1=(GX S n 0 X).1.1:=⟨_,rfl⟩;obtain⟨Y,hY⟩:∃Y,Y=(GX S n 0 X).2:=⟨_,rfl⟩;rw[←he1,←hY]at hAM⊢;have hblen:=MT (He S) n;have HLENS:=(fun k hk=>Qt (He S) n k hk);have HNE:=(fun k hk=>CD.2 (jL (He S) n k hk));have HLT:=(eM (t:=false) (cl:=He S) (n:=n));have HFL:=(ZM (t:=false) (cl:=He S) (n:=n));generalize IM (He S) n=bs at *;rw[U5]at hAM HLT HFL;have hOR:=fun B c W h=>Ys B bs c W (by omega) (fun k hk=>by have:=HLENS k hk;omega) (fun k hk=>HNE k hk) h;have hBE:=fun T' tc' G' gc' W h=>K9 p T' (FG Y).length tc' G' Y.gens.length gc' e1 (.slice T (FG X).length tc) (.slice G X.gens.length gc) u2 (.slice SA n sc) u4 W h;unfold JN at hBE;generalize bs.flatten=fl at *;obtain⟨i37,hi37,hz37,hs37,hb37⟩:=BC b8;clear hw hsw hq1 hq2 he1 hY hS HLENS HNE;obtain⟨W0,hW0,hbx,hX0⟩:=Gs w [([I K 0,I K 0,I K 0,.slice N 0 0,I K 0],64)];have HW0:Hid (w.alloc (Al #[I K 0,I K 0,I K 0,.slice N 0 0,I K 0] 64)=W0):=An hW0;clear hW0;have hp:p<w.heap.size:=hB.lt (k:=0) R;have hz0:w.heap.size<W0.heap.size:=hX0.lt (k:=0) R;have hP0:=hB.below hbx;have HL0:=An hbx;have s3:=hP0.cell 0 R 3 R;rw[Ay]at s3;clear hbx;go_enter Tryz.func78,Tryz.ntmps78
 go_upto_region 1 with fail
 rw[AN HW0];go_wp2_with fail
 go_at_call 14;refine(hMK W0 (AN HL0)).mono ?_;rintro e w1⟨B,bcap,rfl,hBt,hb1⟩;obtain⟨W2,hW2,hbx,hX2⟩:=Gs w1 [([I K 0,I K 0],29)];have HW2:Hid (w1.alloc (Al #[I K 0,I K 0] 29)=W2):=An hW2;clear hW2;have hb02:=hb1.trans (hbx.mono hb1.size);have HL2:=An ((AN HL0).trans (hb02.mono (AN HL0).size));have HX2:=(hX0.below hb02);have HP2:=(hP0.below hb02);have HBT:=(hBt.below hbx);clear s3 hb1 hbx hb02 hX2 hBt hX0 hP0 hMK;go_upto_region 2 with fail
 rw[AN HW2];go_wp2_with fail
 go_at_call 34;refine(hOR B bcap W2 HBT).mono ?_;rintro e w3⟨NA,nc,rfl,hNA,hb3⟩;have HL3:=An ((AN HL2).trans (hb3.mono (AN HL2).size));have HX3:=(HX2.below hb3);have HP3:=(HP2.below hb3);have hz3:w.heap.size<w3.heap.size:=by have:=HX2.lt (k:=0) R;have:=hb3.size;omega
 clear hb3 HX2 HP2 HBT hOR HW2;go_wp2_with fail
 go_loopw [5,23] (fun v x wr=>∃k:Nat,k≤fl.length∧x=I K (k:Int)∧wr.ownsRow w3.heap.size 37 4 v k (Gj ((fl.take k).map S))∧Below w3.heap.size w3 wr) (fun _ x _=>fl.length - (intOf x).toNat)
 case atStart=>exact⟨0,AS _,rfl,Bn _ _ _ _,AD _ _⟩
 case round =>
  obtain⟨k,hk,rfl,ho,hbr⟩:=hrel;have hfl:=HFL;have hk12:fl.length≤12:=by omega
  by_cases hlt:k<fl.length
  ·have k0:(0:Int)≤(k:Int):=(by omega);have k1:(k:Int)<(fl.length:Int):=(by omega);obtain⟨b2,off2,rfl,hc2⟩:=hNA k hlt;have hc2:=AW hbr hc2;have hx:fl.getD k 0<n:=HLT _ (RG fl k hlt);have HNX:Hid (Gj ((fl.take (k+1)).map S)=Gj ((fl.take k).map S)++GI (S (fl.getD k 0))):=by
    rw[Z9 _ k hlt,CH,List.map_singleton,Kn];exact An R
   have hLr:=(AN HL3).trans (hbr.mono (AN HL3).size);have q3:=(HP3.below hbr).cell 0 R 3 R;rw[Ay]at q3;generalize Gj ((fl.take k).map S)=cs at *;generalize fl.getD k 0=x at *;have x0:(0:Int)≤(x:Int):=(by omega);have x1:(x:Int)<(n:Int):=(by omega);obtain⟨b4,o4,hSA,hsys⟩:=(hL.below hLr) x hx;obtain⟨y0,y1,y2,y3,hact⟩:=hsys;generalize S x=s at *;have HNS:=(YN wr s);subst hSA;clear hact hLr hfl;go_wp2_with(first
    |(at_builtin;refine FY _ R (Am 27) (Am 36) 26 R w3.heap.size 37 i37 _ 4 48 Tryz.underlying26 hi37 hz37 hs37 hb37 R (by decide) _ k cs R (ho.alloc _) ⟨_,0,N⟩ 1 1 (GI s) R R HNS (MF s) (by unfold maxLen;have:=HFL;omega) (by have:=HFL;omega) (AU hbr.size (GF _ _).size) (by omega) ?_;intro g capg w17 ho7 hg7 hw7;have HB7:=((hbr.alloc hbr.size _).grown hg7 (AU hbr.size (GF _ _).size) (fun q hq=>(ho.lt q hq).1));clear hg7 hw7))
   go_roundw
   case rel=>exact⟨k+1,by omega,by go_num,by rw[AN HNX];exact ho7,HB7⟩
   case measure=>simp[intOf];omega
  ·obtain rfl:k=fl.length:=(by omega);rw[BN]at ho;have hlen:(fl.map S).length=n:=(by rw[Bj,hfl]);rw[hfl]at ho;obtain⟨A6,c6,rfl⟩:=Hw ho;have hSM:Iw wr A6 n (fun k=>S (fl.getD k 0)):=by
    have:=M0 (l:=fl.map S) (A:=A6) (c:=c6) (by rw[hlen];exact ho) (fun s hs=>by
     obtain⟨x,hx,rfl⟩:=Cn.1 hs;obtain⟨_,_,_,h⟩:=hL x (HLT x hx);exact h.acts.below ((AN HL3).trans (hbr.mono (AN HL3).size))) (S 0)
    rw[hlen]at this;intro j hj;have:=this j hj;have e:(fl.map S).getD j (S 0)=S (fl.getD j 0):=by
     have h1:j<fl.length:=(by omega);rw[Az,Bw,Az,AE h1];rfl
    simp only[e]at this;exact this
   have hL6:=(AN HL3).trans (hbr.mono (AN HL3).size);have hP6:=HP3.below hbr;have HX6:=(HX3.below hbr);obtain⟨s0,s1⟩:=hP6.g2 R;have HL6:=An hL6;have hz6:w.heap.size<wr.heap.size:=(by have:=hbr.size;omega);clear hL6 hlen hfl hL hNA HX3 HP3;obtain⟨w6,rfl⟩:∃w6,w6=wr:=⟨_,rfl⟩;go_wp2_with fail
   go_at_call 7;refine(hAM _ _ _ (AN HL6) hSM).mono ?_;rintro e w7⟨T7,tc7,G7,gc7,rfl,hN7,hb7⟩;obtain⟨W8,hW8,hbx,hX8⟩:=Gs w7 [([.slice T7 (FG Y).length tc7,.slice G7 Y.gens.length gc7],25),([I K e1,I K at2],29)];have HW8:Hid ((w7.alloc (Al #[.slice T7 (FG Y).length tc7,.slice G7 Y.gens.length gc7] 25)).alloc (Al #[I K e1,I K at2] 29)=W8):=An hW8;clear hW8;have hb78:=hb7.trans (hbx.mono hb7.size);have HL8:=((AN HL6).trans (hb78.mono (AN HL6).size));have HX8:=(HX6.below hb78);have HP8:=(hP6.below hb78);have HN8:=(hN7.below hbx);have hz8:w7.heap.size+2≤W8.heap.size:=hX8.sz (by simp);have hz7:w6.heap.size≤w7.heap.size:=hb7.size;obtain⟨q0,q1⟩:=hX8.g2 R;have q2:=hX8.cell 1 R 0 R;clear s0 s1 hb7 hbx hb78 hN7 hX8 HX6 hP6 hSM HL6 hAM;go_upto_region 9 with fail
   rw[AN HW8];go_wp2_with fail
   go_at_call 73;refine(hBE T7 tc7 G7 gc7 W8 HP8).mono ?_;rintro e w9⟨rfl,h1,h2⟩;obtain⟨W10,hW10,hbx,hX10⟩:=Gs w9 [([I K e1,I K 0,I K 0,.slice N 0 0,I K 0],64)];have HW10:Hid (w9.alloc (Al #[I K e1,I K 0,I K 0,.slice N 0 0,I K 0] 64)=W10):=An hW10;clear hW10;have hz9:W8.heap.size≤w9.heap.size:=h2.size;have HT10:=(((Tw.of_below (av:=fun b=>b=p) HL8).trans h2 (fun _ _ h=>h)).trans (Tw.of_below (av:=fun b=>b=p) hbx) (fun _ _ h=>h));have HN9:=(HN8.tw h2 (fun g hg=>by subst hg;omega));have HV10:=(Tw.of_below (av:=fun b=>b=w.heap.size) hbx);have HP10:=(h1.below hbx);have HX10:=((HX8.tw h2 (fun k hk=>by simp at hk;subst hk;omega)).below hbx);obtain⟨y0,y1,y2,y3,y4⟩:=hX10.g5 R;clear q0 q1 q2 h1 h2 hbx HX8 HP8 HL8 HN8 hBE;go_upto_region 10 with fail
   rw[AN HW10];by_cases he:e1=0
   ·subst he;clear y4;go_wp2_with(first
     |(refine FU R 3 (Am 59) (Am 58) R w9.heap.size 4 (I K (bs.length:Int)) R R R kM (Hj (hX10.there 0 R 5 R) 4 1 (by omega)) ?_;intro W11 hW11;have hZ11:=hX10.part 0 R 4 [I K (bs.length:Int)] (by simp);rw[Ay]at hZ11;have hZ11:=(show GJ w9.heap.size [([I K 0,I K 0,I K 0,.slice N 0 0,I K (bs.length:Int)],64)] W11 by rw[hW11];exact hZ11);clear y0 y1 y2 y3;have y0:=hZ11.cell 0 R 0 R;have y1:=hZ11.cell 0 R 1 R;have y2:=hZ11.cell 0 R 2 R;have y3:=hZ11.cell 0 R 3 R;have y4:=hZ11.cell 0 R 4 R;rw[Ay]at y0 y1 y2 y3 y4;have HT11:=(HT10.sets (b:=w9.heap.size) (o:=4) (vs:=[I K (bs.length:Int)]) (.inr (by omega)));have HV11:=(HV10.sets (b:=w9.heap.size) (o:=4) (vs:=[I K (bs.length:Int)]) (.inr Fu));have HP11:=(HP10.turn (cb:=w9.heap.size) (o:=4) (vs:=[I K (bs.length:Int)]) (.inr (by simp only[AJ,AK];omega)));have HX11:=(HX10.turn (cb:=w9.heap.size) (o:=4) (vs:=[I K (bs.length:Int)]) (.inr (by simp only[AJ,AK];omega)));replace HT11:=An (show Tw (fun b=>b=p) w W11 by rw[hW11];exact HT11);replace HV11:=An (show Tw (fun b=>b=w.heap.size) w9 W11 by rw[hW11];exact HV11);replace HP11:=An (show GJ p [(if(0:Int)=0 then [.slice T7 (FG Y).length tc7,.slice G7 Y.gens.length gc7,u2,.slice SA n sc,u4]else [.slice T (FG X).length tc,.slice G X.gens.length gc,u2,.slice SA n sc,u4],87)] W11 by rw[hW11];exact HP11);replace HX11:=An (show GJ w.heap.size [([I K 0,I K 0,I K 0,.slice N 0 0,I K 0],64)] W11 by rw[hW11];exact HX11);clear hW11 hZ11)
     |(refine As R 64 (Am 2) (Am 60) R w.heap.size 0 [I K 0,I K 0,I K 0,.slice N 0 0,I K (bs.length:Int)] R R (by simp[Ar]) JT (HX11.there 0 R 5 R) ?_;intro W12 hW12;have HX12:=(HX11.give 0 R [I K 0,I K 0,I K 0,.slice N 0 0,I K (bs.length:Int)] R);have HT12:=(HT11.sets (b:=w.heap.size) (o:=0) (vs:=[I K 0,I K 0,I K 0,.slice N 0 0,I K (bs.length:Int)]) (.inr Fu));have HV12:=(HV11.sets (b:=w.heap.size) (o:=0) (vs:=[I K 0,I K 0,I K 0,.slice N 0 0,I K (bs.length:Int)]) (.inl R));have HP12:=(HP11.turn (cb:=w.heap.size) (o:=0) (vs:=[I K 0,I K 0,I K 0,.slice N 0 0,I K (bs.length:Int)]) (.inr (by simp only[AJ,AK];omega)));rw[←hW12]at HT12 HV12 HP12;rw[Ay,←hW12]at HX12;clear hW12))
    obtain⟨r0,r1,r2,r3,r4⟩:=HX12.g5 R;refine AG (by simp[results,Tryz.results78,go_sem,r0,r1,r2,r3,r4]<;>rfl) R ⟨by simp,?_⟩
    have hP12:=HP12;unfold Ro;rw[AF R];simp only[BX]at hP12;exact⟨_,_,_,_,hP12,(HN9.tw HV12 (fun g hg=>by subst hg;omega)).le (by omega),HT12⟩
   ·have hne:(e1 == 0)=false:=(by simpa using he);go_wp2_with((refine As R 64 (Am 2) (Am 60) R w.heap.size 0 [I K e1,I K 0,I K 0,.slice N 0 0,I K 0] R R (by simp[Ar]) JT (HX10.there 0 R 5 R) ?_;intro W12 hW12;have HX12:=(HX10.give 0 R [I K e1,I K 0,I K 0,.slice N 0 0,I K 0] R);have HT12:=(HT10.sets (b:=w.heap.size) (o:=0) (vs:=[I K e1,I K 0,I K 0,.slice N 0 0,I K 0]) (.inr Fu));have HV12:=(HV10.sets (b:=w.heap.size) (o:=0) (vs:=[I K e1,I K 0,I K 0,.slice N 0 0,I K 0]) (.inl R));have HP12:=(HP10.turn (cb:=w.heap.size) (o:=0) (vs:=[I K e1,I K 0,I K 0,.slice N 0 0,I K 0]) (.inr (by simp only[AJ,AK];omega)));rw[←hW12]at HT12 HV12 HP12;rw[Ay,←hW12]at HX12;clear hW12))
    obtain⟨r0,r1,r2,r3,r4⟩:=HX12.g5 R;refine AG (by simp[results,Tryz.results78,go_sem,r0,r1,r2,r3,r4]<;>rfl) R ⟨by simp[he],?_⟩
    have hP12:=HP12;unfold Ro;rw[AA he]at hP12⊢;exact Sw HT12 hB hP12
end Go.Proofs.YtnbleebilmghcabGreat
