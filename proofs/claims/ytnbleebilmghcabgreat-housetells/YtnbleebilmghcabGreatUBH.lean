/- Ho4, Ho10 -/
import Derived.Test.YtnbleebilmghcabGreatUBE
import Derived.Test.YtnbleebilmghcabGreatUBD
set_option linter.all false
set_option maxRecDepth 8000
set_option maxHeartbeats 4000000
open Go.Value renaming int→I,slice→S,pointer→Ae,bool→Aj,oneCell'→Ar
open Go.IntKind renaming i64→K
open Option renaming none→N,some→O
open Go.Obj renaming cells→Al
open Go.Operand renaming tmp→Am
open Go.Ending renaming returned→Ao
open Go.Proofs.Tryz renaming prog→Au
namespace Go.Proofs.YtnbleebilmghcabGreat
open Go Go.RowKit
attribute [local go_sem ↓] Go.wp_at_zero Go.wp_at_succ
def GO(m:Ho):List Value:=[.int .i64 m.rd,.int .i64 m.wr,.bool m.lf]
def JY(y:F'):List Value:=[.int .i64 y.k,.int .i64 y.p,.int .i64 y.f,.int .i64 y.n]
theorem MS (m:Ho):(GO m).length=3:=rfl
theorem Oy (m:F'):(JY m).length=4:=rfl
theorem TH(m:Ho):∀u∈GO m,u.oneCell'=true:=fun u hu=>by
 simp only[GO,Bu,Ch,Dk]at hu;rcases hu with rfl|rfl|rfl <;>rfl
theorem Tk(m:F'):∀u∈JY m,u.oneCell'=true:=fun u hu=>by
 simp only[JY,Bu,Ch,Dk]at hu;rcases hu with rfl|rfl|rfl|rfl <;>rfl
def R8 (len:Nat) (a:Nat→F'):List F':=(List.range len).map a
theorem Rg (len:Nat) (a:Nat→F'):(R8 len a).length=len:=by simp [R8]
theorem fK{w:World}{A:Option Addr}{len:Nat}{a:Nat→F'}(h:GZ w A len a):L7 JY 4 w A (R8 len a):=fun j x hx=>by
 have hj:j<len:=by have:=(AX.1 hx).1;rwa[Rg]at this
 obtain⟨b,off,h0,h1,h2,h3,h4⟩:=h j hj;have hxe:x=a j:=by
  have:=hx;unfold R8 at this;rw[Bw,CE hj]at this;simpa using this.symm
 subst hxe;refine⟨b,off,h0,fun i u hu=>?_⟩
 match i,hu with
 |0,hu=>injection hu with e;subst e;exact h1
 |1,hu=>injection hu with e;subst e;exact h2
 |2,hu=>injection hu with e;subst e;exact h3
 |3,hu=>injection hu with e;subst e;exact h4
 |i+4,hu=>simp[JY]at hu
theorem eL{w:World}{A:Option Addr}{len:Nat}{a:Nat→F'}(h:L7 JY 4 w A (R8 len a)):GZ w A len a:=fun j hj=>by
 obtain⟨b,off,h0,hc⟩:=h j (a j) (by unfold R8;rw[Bw,CE hj];rfl);exact⟨b,off,h0,hc 0 _ R,hc 1 _ R,hc 2 _ R,hc 3 _ R⟩
theorem jT:(Tryz.prog.info? 95).map (fun i=>(i.zero,i.size,i.bytes))=some (some (.agg #[.int .i64 0,.int .i64 0,.int .i64 0,.int .i64 0]),4,32):=by kernel_rfl
theorem jU:(Tryz.prog.info? 69).map (fun i=>(i.zero,i.size,i.bytes))=some (some (.agg #[.int .i64 0,.int .i64 0,.bool false]),3,24):=by kernel_rfl
theorem VC(A:Option Addr)(cap:Nat)(len:Nat)(a:Nat→F')(w:World)(hl:len≤1000)(hG:GZ w A len a):
  Calls Au 117 #[S A len cap] w fun e w'=>∃A' c,e=Ao (S A' len c)∧w'.ownsRow w.heap.size 95 4 (S A' len c) len (It JY (R8 len a))∧Below w.heap.size w w':=by
 obtain⟨i3,hi3,hz3,hs3,hb3⟩:=BC jT;have hcp:=(fK hG).copies Oy Tk (by decide);rw[Rg]at hcp;clear hG;go_enter Tryz.func117,Tryz.ntmps117
 go_wp2_with((at_builtin;refine Do R fun _ hK=>I8 w _ _ 35 R w.heap.size 95 i3 _ 4 32 Tryz.underlying35 hi3 hz3 hs3 hb3 R (by decide) R A len cap (It JY (R8 len a)) R hcp (by unfold maxLen;omega) (by omega) Fu fun v' w' h1 h2=>hK _ _ ?_))
 go_ret;obtain⟨A',c,rfl⟩:=Hw h1;exact⟨A',c,rfl,h1,F0 h2 (fun k e=>by cases e) Fu⟩
theorem VA(A:Option Addr)(cap:Nat)(mods:List Ho)(w:World)(hl:mods.length≤1000)(hG:L7 GO 3 w A mods):
  Calls Au 41 #[S A mods.length cap] w fun e w'=>∃A' c,e=Ao (S A' mods.length c)∧w'.ownsRow w.heap.size 69 3 (S A' mods.length c) mods.length (It GO mods)∧Below w.heap.size w w':=by
 obtain⟨i3,hi3,hz3,hs3,hb3⟩:=BC jU;have hcp:=hG.copies MS TH (by decide);clear hG;go_enter Tryz.func41,Tryz.ntmps41
 go_wp2_with((at_builtin;refine Do R fun _ hK=>I8 w _ _ 50 R w.heap.size 69 i3 _ 3 24 Tryz.underlying50 hi3 hz3 hs3 hb3 R (by decide) R A mods.length cap (It GO mods) R hcp (by unfold maxLen;omega) (by omega) Fu fun v' w' h1 h2=>hK _ _ ?_))
 go_ret;obtain⟨A',c,rfl⟩:=Hw h1;exact⟨A',c,rfl,h1,F0 h2 (fun k e=>by cases e) Fu⟩
theorem Xn{m al no:Int}(h:Is m al no=true):0≤m:=by
 unfold Is at h;simp only[Bool.and_eq_true,decide_eq_true_eq]at h;omega
theorem Pg(p:Nat)(u0 u1 u4:Value)(M:Option Addr)(mc:Nat)(mods:List Ho)(SA:Option Addr)(n sc:Nat)(x:GG)(w:World)(hB:GJ p [([u0,u1,S M mods.length mc,S SA n sc,u4],87)] w)(hM:L7 GO 3 w M mods)(hA:GZ w x.A x.len x.a)(hml:mods.length≤6)(hn:n≤12):
  Calls Au 116 #[Ae (O ⟨p,0,N⟩),Rr x] w fun e w'=>e=Ao (I K (Ke mods n x))∧Below w.heap.size w w':=by
 obtain⟨m,al,no,A,len,cap,a⟩:=x;dsimp only at hA;unfold Ke;have hw:sw ⟨m,al,no,A,len,cap,a⟩=MA m al no a len:=rfl;rw[hw];dsimp only;clear hw;have hVS:=fun W (hb:Below w.heap.size w W)=>NM m al no A len cap a W (hA.below hb);have hrs:=fun h=>(Ie m al no a len).1 h;unfold Gz GC at hVS;obtain⟨e1,he1⟩:∃e1,e1=(MA m al no a len).1:=⟨_,rfl⟩;generalize (MA m al no a len).2=a1 at *;rw[←he1]at hVS hrs⊢;obtain⟨rv,hrv⟩:∃rv,(if e1≠0 then e1 else if(mods.length:Int)≤m then 5 else if Rx (mods.getD m.toNat dM).rd (mods.getD m.toNat dM).wr (mods.getD m.toNat dM).lf al no a len=false then 8 else if 12≤n then 4 else 0)=rv:=⟨_,rfl⟩;rw[hrv];have HRV:=An hrv;clear hrv;clear he1;obtain⟨W0,hW0,hbx,hX0⟩:=Gs w [([I K m,I K al,I K no,S A len cap],37)];have HW0:Hid (w.alloc (Al #[I K m,I K al,I K no,S A len cap] 37)=W0):=An hW0;clear hW0;have hP0:=hB.below hbx;have HL0:=An hbx;obtain⟨y0,y1,y2,y3⟩:=hX0.g4 R;clear hbx hB;unfold Rr Gz;go_enter Tryz.func116,Tryz.ntmps116
 go_upto_region 1 with fail
 rw[AN HW0];go_wp2_with fail
 go_at_call 22;refine(hVS W0 (AN HL0)).mono ?_;rintro e w1⟨rfl,hb1⟩;obtain⟨W2,hW2,hbx,hX2⟩:=Gs w1 [([I K e1,I K a1],29)];have HW2:Hid (w1.alloc (Al #[I K e1,I K a1] 29)=W2):=An hW2;clear hW2;have hb12:=hb1.trans (hbx.mono hb1.size);have HL2:=An ((AN HL0).trans (hb12.mono (AN HL0).size));have HX2:=(hX0.below hb12);have HP2:=(hP0.below hb12);have f0:=hX2.cell 0 R 0 R;rw[Ay]at f0;clear y0 y1 y2 y3 hb1 hbx hb12 hX2 hX0 hP0 hVS;go_upto_region 2 with fail
 rw[AN HW2];by_cases h1:e1=0
 ·subst h1;obtain⟨hhd,hl8,_⟩:=hrs R;have hm0:0≤m:=Xn hhd;obtain⟨k,rfl⟩:∃k:Nat,m=(k:Int):=⟨m.toNat,by omega⟩;rw[Bi]at HRV;have hne:Nonempty (Hm W2):=⟨⟨W2,AD _ _⟩⟩;have y0:=B1 (HX2.cell 0 R 0 R);have y1:=B1 (HX2.cell 0 R 1 R);have y2:=B1 (HX2.cell 0 R 2 R);have y3:=B1 (HX2.cell 0 R 3 R);have q2:=B1 (HP2.cell 0 R 2 R);have q3:=HP2.cell 0 R 3 R;rw[Ay]at q3;simp only[Ay]at y0 y1 y2 y3 q2;by_cases h2:(mods.length:Int)≤(k:Int)
  ·have HH:=(show rv=5 by rw[←AN HRV,AA (by simp),AF h2]);have d2:decide ((mods.length:Int)≤(k:Int))=true:=Bq h2;go_wp2_with fail
   refine FN (by kernel_rfl) (by kernel_rfl) ?_
   repeat(go_big_quiet_step(fail))
   refine Bg ?_;rintro w4⟨xs,hxs⟩;have hb4:=xs.bel;rw[←hxs]at hb4;have HL4:=An ((AN HL2).trans (hb4.mono (AN HL2).size));clear hxs xs hb4 hne y0 y1 y2 y3 q2 q3 f0;go_wp2;go_ret;have hh:=HH;subst hh;exact⟨rfl,AN HL4⟩
  ·have h2:=An h2;have d2:decide ((mods.length:Int)≤(k:Int))=false:=AO h2;have hk:k<mods.length:=(by omega);go_wp2_with fail
   refine FN (by kernel_rfl) (by kernel_rfl) ?_
   repeat(go_big_quiet_step(fail))
   refine Bg ?_;rintro w4⟨xs,hxs⟩;have hb4:=xs.bel;rw[←hxs]at hb4;have hL4:=(AN HL2).trans (hb4.mono (AN HL2).size);have hX4:=HX2.below hb4;have hP4:=HP2.below hb4;clear hxs xs hb4 hne y0 y1 y2 y3 q2 q3 f0;have hne:Nonempty (Hm w4):=⟨⟨w4,AD _ _⟩⟩;have y0:=B1 (hX4.cell 0 R 0 R);have y1:=B1 (hX4.cell 0 R 1 R);have y2:=B1 (hX4.cell 0 R 2 R);have y3:=B1 (hX4.cell 0 R 3 R);have q2:=B1 (hP4.cell 0 R 2 R);simp only[Ay]at y0 y1 y2 y3 q2;have hmg:mods[k]?=O (mods.getD k dM):=(by rw[Az,AE hk];rfl);obtain⟨b,off,hAe,hmc⟩:=(hM.below hL4) k _ hmg;have m0:=B1 (hmc 0 _ R);have m1:=B1 (hmc 1 _ R);have m2:=B1 (hmc 2 _ R);rw[Ay]at m0;have hMY:=fun x:Hm w4=>gE (mods.getD k dM).rd (mods.getD k dM).wr (mods.getD k dM).lf (k:Int) al no A len cap a x.val hl8 ((hA.below hL4).below x.bel);unfold Y4 Gz at hMY;generalize mods.getD k dM=mm at *;generalize Rx mm.rd mm.wr mm.lf al no a len=mb at *;have HL4:=An hL4;have k0:(0:Int)≤(k:Int):=(by omega);have k1:(k:Int)<(mods.length:Int):=(by omega);subst hAe;clear hL4 hX4 hmc hmg hk d2
   cases mb
   ·have HH:=(show rv=8 by rw[←AN HRV,AA (by simp),AA (by have:=h2;omega),AF R]);go_wp2_with fail
    refine FN (by kernel_rfl) (by kernel_rfl) ?_
    repeat(go_big_quiet_step((go_at_call 23;exact Gf (hMY _))))
    refine Bg ?_;rintro w6⟨xs,hxs⟩;have hb6:=xs.bel;rw[←hxs]at hb6;have HL6:=((AN HL4).trans (hb6.mono (AN HL4).size));clear hxs xs hb6 hne y0 y1 y2 y3 q2 m0 m1 m2;go_wp2;go_ret;have hh:=HH;subst hh;exact⟨rfl,HL6⟩
   ·have HH3:=An (show rv=(if 12≤n then(4:Int)else 0)from(AN HRV).symm.trans ((AA (by simp)).trans ((AA (by have:=h2;omega)).trans (AA (by simp)))));go_wp2_with fail
    refine FN (by kernel_rfl) (by kernel_rfl) ?_
    repeat(go_big_quiet_step((go_at_call 23;exact Gf (hMY _))))
    refine Bg ?_;rintro w6⟨xs,hxs⟩;have hb6:=xs.bel;rw[←hxs]at hb6;have q3:=(hP4.below hb6).cell 0 R 3 R;rw[Ay]at q3;have HL6:=((AN HL4).trans (hb6.mono (AN HL4).size));clear hxs xs hb6 hne y0 y1 y2 y3 q2 m0 m1 m2;by_cases h4:12≤n
    ·have HH:=(show rv=4 by rw[AN HH3,AF h4]);have d4:decide ((12:Int)≤(n:Int))=true:=Bq (by omega);go_wp2;go_ret;have hh:=HH;subst hh;exact⟨rfl,HL6⟩
    ·have HH:=(show rv=0 by rw[AN HH3,AA h4]);have d4:decide ((12:Int)≤(n:Int))=false:=AO (by omega);go_wp2;go_ret;have hh:=HH;subst hh;exact⟨rfl,HL6⟩
 ·have HH:=(show rv=e1 by rw[←AN HRV,AF h1]);have hne:(e1 == 0)=false:=by simpa using h1
  go_wp2;go_ret;have hh:=HH;subst hh;exact⟨rfl,AN HL2⟩
theorem Tz:(Tryz.prog.info? 29).map (·.size)=some 2:=by kernel_rfl
theorem PU{f h:FuncId}(hf:(f=17∧h=44)∨(f=18∧h=45))(hset:∀ (n:Int) (w:World),Calls Au h #[I K n] w fun e w'=>e=Ao (Aj (FV n))∧w'=w)(M:Option Addr)(mc:Nat)(mods:List Ho)(w:World)(hM:L7 GO 3 w M mods):
  Calls Au f #[S M mods.length mc] w fun e w'=>e=Ao (GC (Ns mods))∧Below w.heap.size w w':=by
 rcases hf with⟨rfl,rfl⟩|⟨rfl,rfl⟩
 all_goals
  obtain⟨rv,hrv⟩:∃rv,Ns mods=rv:=⟨_,rfl⟩;rw[hrv];unfold Ns at hrv;have HRV:=An hrv;clear hrv;obtain⟨W0,hW0,hbx,hX0⟩:=Gs w [([I K 0,I K 0],29)];have HW0:Hid (w.alloc (Al #[I K 0,I K 0] 29)=W0):=An hW0;clear hW0;unfold GC;by_cases h6:6<mods.length
  ·have d6:decide ((6:Int)<(mods.length:Int))=true:=Bq (by omega);have HV:=An (show rv=(4,0) by rw[←AN HRV,AF h6])
   (first|go_enter Tryz.func17,Tryz.ntmps17|go_enter Tryz.func18,Tryz.ntmps18)
   go_upto_region 1 with fail
   rw[AN HW0];go_wp2_with((refine As R 29 (Am 2) (Am 8) R w.heap.size 0 [I K 4,I K 0] R R (by simp[Ar]) Tz (hX0.there 0 R 2 R) ?_;intro W9 hW9;have HR:=(hX0.give 0 R [I K 4,I K 0] R);have HE:=(Bv (B:=w.heap.size) w.heap.size Fu [I K 4,I K 0] 0 _ hbx);rw[Ay]at HR;rw[←hW9]at HR HE;clear hW9))
   obtain⟨r0,r1⟩:=HR.g2 R;refine AG (by simp[results,Tryz.results17,Tryz.results18,go_sem,r0,r1]<;>rfl) R ⟨by rw[AN HV],HE⟩
  ·have d6:decide ((6:Int)<(mods.length:Int))=false:=AO (by omega);have HV:=An (show O2 mods mods.length 0=rv by rw[←AN HRV,AA h6]);have hml:mods.length≤6:=(by omega);clear h6
   (first|go_enter Tryz.func17,Tryz.ntmps17|go_enter Tryz.func18,Tryz.ntmps18)
   go_upto_region 1 with fail
   rw[AN HW0];go_wp2_with fail
   go_loopw [11] (fun x wr=>∃k:Nat,k≤mods.length∧x=I K (k:Int)∧O2 mods (mods.length - k) k=rv∧GJ w.heap.size [([I K 0,I K 0],29)] wr∧Below w.heap.size w wr) (fun x _=>mods.length - (intOf x).toNat)
   case atStart=>exact⟨0,AS _,rfl,AN HV,hX0,hbx⟩
   case round =>
    clear HV hX0 hbx;obtain⟨k,hk,rfl,hF,hX,hb⟩:=hrel;by_cases hlt:k<mods.length
    ·have k0:(0:Int)≤(k:Int):=(by omega);have k1:(k:Int)<(mods.length:Int):=(by omega);rw[fP mods mods.length k hlt]at hF;have hmg:mods[k]?=O (mods.getD k dM):=(by rw[Az,AE hlt];rfl);obtain⟨b,off,hAe,hmc⟩:=(hM.below hb) k _ hmg;have m0:=hmc 0 _ R;have m1:=hmc 1 _ R;have m2:=hmc 2 _ R;rw[Ay]at m0;generalize mods.getD k dM=m at *;have hSR:=hset m.rd;have hSW:=hset m.wr;obtain⟨wk,rfl⟩:∃wk,wk=wr:=⟨_,rfl⟩;obtain⟨W1,hW1,hbx,hX1⟩:=Gs wk [([I K m.rd,I K m.wr,Aj m.lf],69)];have HW1:Hid (wk.alloc (Al #[I K m.rd,I K m.wr,Aj m.lf] 69)=W1):=An hW1;clear hW1;have hX:=An (hX.below hbx);have hb:=An (hb.trans (hbx.mono hb.size));obtain⟨y0,y1⟩:=hX1.g2 R;have HF:=An hF;subst hAe;clear hF hmc hmg hX1;go_upto_region 6 with fail
     rw[AN HW1];clear m0 m1 m2
     cases h1:FV m.rd
     ·rw[h1]at hSR;have HV:=An (show rv=(3,(k:Int)) by rw[←AN HF,h1];rfl);clear h1;go_wp2_with fail
      (first|go_at_call 44|go_at_call 45)
      refine(hSR _).mono ?_;rintro e w2⟨rfl,hw⟩;obtain rfl:=hw.symm;go_wp2_with((refine As R 29 (Am 2) (Am 27) R w.heap.size 0 [I K 3,I K (k:Int)] R R (by simp[Ar]) Tz (hX.there 0 R 2 R) ?_;intro W9 hW9;have HR:=(hX.give 0 R [I K 3,I K (k:Int)] R);have HE:=(Bv (B:=w.heap.size) w.heap.size Fu [I K 3,I K (k:Int)] 0 _ hb);rw[Ay]at HR;rw[←hW9]at HR HE;clear hW9))
      obtain⟨r0,r1⟩:=HR.g2 R;refine AG (by simp[results,Tryz.results17,Tryz.results18,go_sem,r0,r1]<;>rfl) R ⟨by rw[AN HV],HE⟩
     ·cases h2:FV m.wr
      ·rw[h1]at hSR;rw[h2]at hSW;have HV:=An (show rv=(3,(k:Int)) by rw[←AN HF,h1,h2];rfl);clear h1 h2;go_wp2_with fail
       (first|go_at_call 44|go_at_call 45)
       refine(hSR _).mono ?_;rintro e w2⟨rfl,hw⟩;obtain rfl:=hw.symm;go_wp2_with fail
       (first|go_at_call 44|go_at_call 45)
       refine(hSW _).mono ?_;rintro e w2⟨rfl,hw⟩;obtain rfl:=hw.symm;go_wp2_with((refine As R 29 (Am 2) (Am 27) R w.heap.size 0 [I K 3,I K (k:Int)] R R (by simp[Ar]) Tz (hX.there 0 R 2 R) ?_;intro W9 hW9;have HR:=(hX.give 0 R [I K 3,I K (k:Int)] R);have HE:=(Bv (B:=w.heap.size) w.heap.size Fu [I K 3,I K (k:Int)] 0 _ hb);rw[Ay]at HR;rw[←hW9]at HR HE;clear hW9))
       obtain⟨r0,r1⟩:=HR.g2 R;refine AG (by simp[results,Tryz.results17,Tryz.results18,go_sem,r0,r1]<;>rfl) R ⟨by rw[AN HV],HE⟩
      ·rw[h1]at hSR;rw[h2]at hSW;have HV:=An (show O2 mods (mods.length - (k+1)) (k+1)=rv by rw[←AN HF,h1,h2];rfl);clear h1 h2;go_wp2_with fail
       (first|go_at_call 44|go_at_call 45)
       refine(hSR _).mono ?_;rintro e w2⟨rfl,hw⟩;obtain rfl:=hw.symm;go_wp2_with fail
       (first|go_at_call 44|go_at_call 45)
       refine(hSW _).mono ?_;rintro e w2⟨rfl,hw⟩;obtain rfl:=hw.symm;go_wp2;go_roundw
       case rel=>exact⟨k+1,by omega,by go_num,AN HV,hX,hb⟩
       case measure=>simp[intOf];omega
    ·have hkn:mods.length=k:=(by omega);rw[show mods.length - k=0 by omega]at hF;have HV:=An (show rv=(0,0)from hF.symm);have dk:decide ((k:Int)<(mods.length:Int))=false:=AO (by omega);clear hF hkn;go_wp2_with((refine As R 29 (Am 2) (Am 29) R w.heap.size 0 [I K 0,I K 0] R R (by simp[Ar]) Tz (hX.there 0 R 2 R) ?_;intro W9 hW9;have HR:=(hX.give 0 R [I K 0,I K 0] R);have HE:=(Bv (B:=w.heap.size) w.heap.size Fu [I K 0,I K 0] 0 _ hb);rw[Ay]at HR;rw[←hW9]at HR HE;clear hW9))
     obtain⟨r0,r1⟩:=HR.g2 R;refine AG (by simp[results,Tryz.results17,Tryz.results18,go_sem,r0,r1]<;>rfl) R ⟨by rw[AN HV],HE⟩
theorem L9(M:Option Addr)(mc:Nat)(mods:List Ho)(w:World)(hM:L7 GO 3 w M mods):
  Calls Au 17 #[S M mods.length mc] w fun e w'=>e=Ao (GC (Ns mods))∧Below w.heap.size w w':=PU (.inl ⟨rfl,rfl⟩) Hs M mc mods w hM
theorem LO(M:Option Addr)(mc:Nat)(mods:List Ho)(w:World)(hM:L7 GO 3 w M mods):
  Calls Au 18 #[S M mods.length mc] w fun e w'=>e=Ao (GC (Ns mods))∧Below w.heap.size w w':=PU (.inr ⟨rfl,rfl⟩) IG M mc mods w hM
end Go.Proofs.YtnbleebilmghcabGreat
