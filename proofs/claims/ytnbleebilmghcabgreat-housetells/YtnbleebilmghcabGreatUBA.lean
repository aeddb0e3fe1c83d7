/- RnTurn, RnOn, RnAll -/
import Derived.Test.YtnbleebilmghcabGreatUAW
import Derived.Test.YtnbleebilmghcabGreatUAY
import Derived.Test.YtnbleebilmghcabGreatUAU
set_option linter.all false
set_option maxRecDepth 8000
set_option maxHeartbeats 4000000
open Go.Value renaming int→I,slice→S,pointer→Ae,agg→Af,tuple→Ai,oneCell'→Ar
open Go.IntKind renaming i64→K
open Option renaming none→N,some→O
open Go.Obj renaming cells→Al
open Go.Operand renaming tmp→Am
open Go.Ending renaming returned→Ao
open Array renaming getD_eq_getD_getElem?→Ap
open Go.Act renaming eval→Aq
open Go.Proofs.Tryz renaming prog→Au
namespace Go.Proofs.YtnbleebilmghcabGreat
open Go Go.RowKit
attribute [local go_sem ↓] Go.wp_at_zero Go.wp_at_succ
structure TB(w:World)(A G:Option Addr)(X:Wd)(i g:Int)(Ac:Option Addr)(cc:Nat)(Gc:Option Addr)(gcc:Nat)(Xc:Wd)(W:World):Prop where
 bx:GJ w.heap.size [([.slice Ac Xc.rows.length cc,.slice Gc Xc.gens.length gcc],43),([.int .i64 i,.int .i64 g],61),([.slice none 0 0,.slice none 0 0],43)] W
 bel:Below w.heap.size w W
 wf:WF (w.heap.size+3) A G X W Ac cc Gc gcc Xc
theorem TB.below{w:World}{A G:Option Addr}{X:Wd}{i g:Int}{Ac:Option Addr}{cc:Nat}{Gc:Option Addr}{gcc:Nat}{Xc:Wd}{W W1:World}(h:TB w A G X i g Ac cc Gc gcc Xc W)(hb:Below W.heap.size W W1):TB w A G X i g Ac cc Gc gcc Xc W1 :=
 ⟨h.bx.below hb,h.bel.trans (hb.mono h.bel.size),h.wf.below hb⟩
theorem TB.sz{w:World}{A G:Option Addr}{X:Wd}{i g:Int}{Ac:Option Addr}{cc:Nat}{Gc:Option Addr}{gcc:Nat}{Xc:Wd}{W:World}(h:TB w A G X i g Ac cc Gc gcc Xc W):w.heap.size+3≤W.heap.size:=by
 have:=h.bx.sz (by simp);simpa using this
theorem SD (i g:Int) (a:Nat→F') (len j:Nat) (X:Wd) (h:j<len):GP i g a (len - j) j X=if (Hn X i g (a j)).1≠0 then ((Hn X i g (a j)).1,FL) else if (a j).k=6 then (0,(Hn X i g (a j)).2) else GP i g a (len - (j+1)) (j+1) (Hn X i g (a j)).2:=by
 rw [show len - j=(len - (j+1))+1 by omega,GP]
theorem Z5(A:Option Addr)(cap:Nat)(G:Option Addr)(gcap:Nat)(X:Wd)(i g:Int)(A1:Option Addr)(len acap:Nat)(a:Nat→F')(w:World)(hn0:X.rows.length≤9223372036854775807)(hX:FX w A cap G gcap X)(hr:FK X)(hlen:len≤8)(hA:GZ w A1 len a):
  Calls Au 53 #[Up A cap G gcap X,FJ i g,S A1 len acap] w fun e w'=>∃A' c' G' gc',e=Ao (Ai #[Up A' c' G' gc' (GP i g a len 0 X).2,I K (GP i g a len 0 X).1])∧WF w.heap.size A G X w' A' c' G' gc' (GP i g a len 0 X).2∧Below w.heap.size w w':=by
 have hB0:=GJ.start w [([S A X.rows.length cap,S G X.gens.length gcap],43),([I K i,I K g],61),([S N 0 0,S N 0 0],43)];have hb0:=F6 [([S A X.rows.length cap,S G X.gens.length gcap],43),([I K i,I K g],61),([S N 0 0,S N 0 0],43)] w;obtain⟨W0,hW0⟩:∃W0,W0=GQ w [([S A X.rows.length cap,S G X.gens.length gcap],43),([I K i,I K g],61),([S N 0 0,S N 0 0],43)]:=⟨_,rfl⟩;rw[←hW0]at hB0 hb0;have hW0':((w.alloc (Al #[S A X.rows.length cap,S G X.gens.length gcap] 43)).alloc (Al #[I K i,I K g] 61)).alloc (Al #[S N 0 0,S N 0 0] 43)=W0:=hW0.symm;have HNB:(∀k,¬ OU A G X (w.heap.size+k)):=(fun k hb=>by have:=IS hX hb;omega);have hT0:TB w A G X i g A cap G gcap X W0:=⟨hB0,hb0,WF.refl (hX.below hb0)⟩;have HW0:=An hW0';clear hW0 hW0' hB0 hb0 hX;obtain⟨R,hR⟩:∃R,R=GP i g a len 0 X:=⟨_,rfl⟩;rw[←hR];unfold Up FF FJ;go_enter Tryz.func53,Tryz.ntmps53
 go_upto_region 1 with fail
 rw[AN HW0];go_wp2_with fail
 go_loopw [14] (fun x wr=>∃j:Nat,j≤len∧x=I K (j:Int)∧∃Ac cc Gc gcc Xc,TB w A G X i g Ac cc Gc gcc Xc wr∧FK Xc∧R=GP i g a (len - j) j Xc) (fun x _=>len - (intOf x).toNat)
 case atStart=>exact⟨0,AS _,rfl,A,cap,G,gcap,X,hT0,hr,hR⟩
 case round =>
  clear hT0 hR hr;obtain⟨j,hj,rfl,Ac,cc,Gc,gcc,Xc,hT,hrc,hRc⟩:=hrel;have hxl:=(GD ((F7 Xc).2 hrc)).1;by_cases hlt:j<len
  ·have j0:(0:Int)≤(j:Int):=(by omega);have j1:(j:Int)<(len:Int):=(by omega);rw[SD i g a len j Xc hlt]at hRc;obtain⟨b,off,hAe,c0,c1,c2,c3⟩:=hA.below hT.bel j hlt;obtain⟨y,hy⟩:∃y,y=a j:=⟨_,rfl⟩;rw[←hy]at c0 c1 c2 c3 hRc;obtain⟨W4,hW4⟩:∃W4,W4=wr.alloc (Al #[I K y.k,I K y.p,I K y.f,I K y.n] 95):=⟨_,rfl⟩;have hb4:Below wr.heap.size wr W4:=(by rw[hW4];exact GF _ _);have hT4:=hT.below hb4;have hAC:=iF Ac cc Gc gcc Xc i g y W4 (by omega) hT4.wf.at_;have hAN:=fun h=>jq (X:=Xc) (i:=i) (g:=g) (y:=y) h;have hAR:=fun h=>Ip hrc (i:=i) (g:=g) (y:=y) h;obtain⟨Y,hY⟩:∃Y,Y=(Hn Xc i g y).2:=⟨_,rfl⟩;obtain⟨err,herr⟩:∃err,err=(Hn Xc i g y).1:=⟨_,rfl⟩;rw[←hY,←herr]at hAC hAN hAR hRc;unfold Up FF FJ H9 at hAC;obtain⟨w0,w1⟩:=hT4.bx.g2 rfl;obtain⟨b0,b1⟩:=hT4.bx.f2 1 rfl;have hW4':wr.alloc (Al #[I K y.k,I K y.p,I K y.f,I K y.n] 95)=W4:=hW4.symm;have HY4:Hid (W4.cell? ⟨wr.heap.size,0,N⟩=O (I K y.k)):=An (by rw[hW4];simp);have a0:=AN HY4;have a1:W4.cell? ⟨wr.heap.size,1,N⟩=O (I K y.p):=(by rw[hW4];simp);have a2:W4.cell? ⟨wr.heap.size,2,N⟩=O (I K y.f):=(by rw[hW4];simp);have a3:W4.cell? ⟨wr.heap.size,3,N⟩=O (I K y.n):=(by rw[hW4];simp);have HW4:=An hW4';have HZR:(w.heap.size+3≤wr.heap.size):=hT.sz;clear hT hb4 hY herr hW4 hW4' hrc hy;subst hAe;go_upto_region 4 with fail
   rw[AN HW4];clear c0 c1 c2 c3;go_wp2_with fail
   go_at_call 96;refine hAC.mono ?_;rintro e w5⟨A4,c4,G4,gc4,rfl,hF5,hb5⟩;have h5:=hT4.below hb5;have h6:=h5.below (GF w5 (Al #[S A4 Y.rows.length c4,S G4 Y.gens.length gc4] 43));have hF6:WF (w.heap.size+3) A G X (w5.alloc (Al #[S A4 Y.rows.length c4,S G4 Y.gens.length gc4] 43)) A4 c4 G4 gc4 Y:=(hT4.wf.trans hF5 hT4.sz).below (GF _ _);have k0:=AW (GF w5 (Al #[S A4 Y.rows.length c4,S G4 Y.gens.length gc4] 43)) (AW hb5 (AN HY4));have n0:(w5.alloc (Al #[S A4 Y.rows.length c4,S G4 Y.gens.length gc4] 43)).cell? ⟨w5.heap.size,0,N⟩=O (S A4 Y.rows.length c4):=(by simp);have n1:(w5.alloc (Al #[S A4 Y.rows.length c4,S G4 Y.gens.length gc4] 43)).cell? ⟨w5.heap.size,1,N⟩=O (S G4 Y.gens.length gc4):=(by simp);have lw:w5.heap.size≠w.heap.size:=(by have:=h5.sz;omega);obtain⟨W6,hW6⟩:∃W6,W6=w5.alloc (Al #[S A4 Y.rows.length c4,S G4 Y.gens.length gc4] 43):=⟨_,rfl⟩;rw[←hW6]at h6 hF6 k0 n0 n1;have hW6':w5.alloc (Al #[S A4 Y.rows.length c4,S G4 Y.gens.length gc4] 43)=W6:=hW6.symm;have HW6:=An hW6';have HB6:=h6.bx;have HL6:=h6.bel;clear hF5 hb5 h5 h6 hW6 hW6' hAC hT4 HY4 w0 w1 b0 b1 a0 a1 a2 a3;by_cases he:err=0
   ·subst he;have HRY:=(hAR rfl);clear hAN hAR;by_cases hk6:y.k=6
    ·go_upto_region 5 with fail
     rw[AN HW6];go_wp2_with(first
      |(refine As rfl 43 (Am 3) (Am 29) rfl (w.heap.size+0) 0 [S A4 Y.rows.length c4,S G4 Y.gens.length gc4] rfl rfl (by simp[Ar]) F8 (HB6.there 0 rfl 2 rfl) ?_;intro W7 hW;have q1:=HB6.give 0 rfl [S A4 Y.rows.length c4,S G4 Y.gens.length gc4] rfl;have q3:=Bv (w.heap.size+0) (by omega) [S A4 Y.rows.length c4,S G4 Y.gens.length gc4] 0 _ HL6;have q4:=IE (k:=0) (o:=0) (vs:=[S A4 Y.rows.length c4,S G4 Y.gens.length gc4]) hF6 HNB (by omega);have q5:=(FZ (b:=w.heap.size+0) (o:=0) (vs:=[S A4 Y.rows.length c4,S G4 Y.gens.length gc4]) (p:=⟨wr.heap.size,0,N⟩) (by have:=HZR;simp only[ne_eq];omega)).trans k0;rw[←hW]at q1 q3 q4 q5;have HB7:=q1;have HL7:=q3;have HF7:=q4;have k5:=q5;have w0:=HB7.cell 0 rfl 0 rfl;have w1:=HB7.cell 0 rfl 1 rfl;rw[Ay]at w0 w1;clear hW q1 q3 q4 q5)
      |(refine As rfl 43 (Am 6) (Am 34) rfl (w.heap.size+2) 0 [S A4 Y.rows.length c4,S G4 Y.gens.length gc4] rfl rfl (by simp[Ar]) F8 (HB7.there 2 rfl 2 rfl) ?_;intro W8 hW;have q1:=HB7.give 2 rfl [S A4 Y.rows.length c4,S G4 Y.gens.length gc4] rfl;have q3:=Bv (w.heap.size+2) (by omega) [S A4 Y.rows.length c4,S G4 Y.gens.length gc4] 0 _ HL7;have q4:=IE (k:=2) (o:=0) (vs:=[S A4 Y.rows.length c4,S G4 Y.gens.length gc4]) HF7 HNB (by omega);rw[←hW]at q1 q3 q4;have HB8:=q1;have HL8:=q3;have HF8:=q4;clear hW q1 q3 q4))
     have hR2:=hRc;rw[AA (by simp),AF hk6]at hR2;obtain⟨t0,t1⟩:=HB8.f2 2 rfl;refine AG (by simp[results,Tryz.results53,go_sem,t0,t1]<;>rfl) rfl ?_
     rw[hR2];exact⟨A4,c4,G4,gc4,rfl,HF8.le (by omega),HL8⟩
    ·go_upto_region 5 with fail
     rw[AN HW6];go_wp2_with(refine As rfl 43 (Am 3) (Am 29) rfl (w.heap.size+0) 0 [S A4 Y.rows.length c4,S G4 Y.gens.length gc4] rfl rfl (by simp[Ar]) F8 (HB6.there 0 rfl 2 rfl) ?_;intro W7 hW;have q1:=HB6.give 0 rfl [S A4 Y.rows.length c4,S G4 Y.gens.length gc4] rfl;have q3:=Bv (w.heap.size+0) (by omega) [S A4 Y.rows.length c4,S G4 Y.gens.length gc4] 0 _ HL6;have q4:=IE (k:=0) (o:=0) (vs:=[S A4 Y.rows.length c4,S G4 Y.gens.length gc4]) hF6 HNB (by omega);have q5:=(FZ (b:=w.heap.size+0) (o:=0) (vs:=[S A4 Y.rows.length c4,S G4 Y.gens.length gc4]) (p:=⟨wr.heap.size,0,N⟩) (by have:=HZR;simp only[ne_eq];omega)).trans k0;rw[←hW]at q1 q3 q4 q5;have HB7:=q1;have HL7:=q3;have HF7:=q4;have k5:=q5;have w0:=HB7.cell 0 rfl 0 rfl;have w1:=HB7.cell 0 rfl 1 rfl;rw[Ay]at w0 w1;clear hW q1 q3 q4 q5)
     have hR2:=hRc;rw[AA (by simp),AA hk6]at hR2;have HR2:=An hR2;clear hR2;go_roundw
     case rel=>exact⟨j+1,by omega,by go_num,A4,c4,G4,gc4,Y,⟨HB7,HL7,HF7⟩,HRY,AN HR2⟩
     case measure=>simp[intOf];omega
   ·skip
    have hR2:=hRc;rw[AF he]at hR2;have HR2:=An hR2;clear hR2 hAN hAR hRc;have hne:(err == 0)=false:=(by simpa using he);go_upto_region 5 with fail
    rw[AN HW6];go_wp2_with(refine As rfl 43 (Am 6) (Am 27) rfl (w.heap.size+2) 0 [S N 0 0,S N 0 0] rfl rfl (by simp[Ar]) F8 (HB6.there 2 rfl 2 rfl) ?_;intro W8 hW;have q1:=HB6.give 2 rfl [S N 0 0,S N 0 0] rfl;have q3:=Bv (w.heap.size+2) (by omega) [S N 0 0,S N 0 0] 0 _ HL6;rw[←hW]at q1 q3;have HB8:=q1;have HL8:=q3;clear hW q1 q3)
    obtain⟨t0,t1⟩:=HB8.f2 2 rfl;refine AG (by simp[results,Tryz.results53,go_sem,t0,t1]<;>rfl) rfl ?_
    rw[AN HR2];exact⟨N,0,N,0,rfl,WF.empty _ _ _ _ _,HL8⟩
  ·obtain rfl:j=len:=(by omega);obtain⟨w0,w1⟩:=hT.bx.g2 rfl;have HB7:=hT.bx;have HL7:=hT.bel;have HF7:=hT.wf;have hR2:=hRc;rw[BR,GP]at hR2;have HR2:=An hR2;clear hT hR2;go_wp2_with(refine As rfl 43 (Am 6) (Am 34) rfl (w.heap.size+2) 0 [S Ac Xc.rows.length cc,S Gc Xc.gens.length gcc] rfl rfl (by simp[Ar]) F8 (HB7.there 2 rfl 2 rfl) ?_;intro W8 hW;have q1:=HB7.give 2 rfl [S Ac Xc.rows.length cc,S Gc Xc.gens.length gcc] rfl;have q3:=Bv (w.heap.size+2) (by omega) [S Ac Xc.rows.length cc,S Gc Xc.gens.length gcc] 0 _ HL7;have q4:=IE (k:=2) (o:=0) (vs:=[S Ac Xc.rows.length cc,S Gc Xc.gens.length gcc]) HF7 HNB (by omega);rw[←hW]at q1 q3 q4;have HB8:=q1;have HL8:=q3;have HF8:=q4;clear hW q1 q3 q4)
   obtain⟨t0,t1⟩:=HB8.f2 2 rfl;refine AG (by simp[results,Tryz.results53,go_sem,t0,t1]<;>rfl) rfl ?_
   rw[AN HR2];exact⟨Ac,cc,Gc,gcc,rfl,HF8.le (by omega),HL8⟩
theorem ia {m al no:Int} {a:Nat→F'} {len:Nat} (h:(MA m al no a len).1=0):len≤8:=((Ie m al no a len).1 h).2.1
theorem QX(a:Nat→F')(len:Nat)(l:List (Int×Int))(j:Nat)(X:Wd)(h:j<l.length):Gq a len (l.drop j) X=if(GP (l.getD j (0,0)).1 (l.getD j (0,0)).2 a len 0 X).1≠0 then((GP (l.getD j (0,0)).1 (l.getD j (0,0)).2 a len 0 X).1,FL)else Gq a len (l.drop (j+1)) (GP (l.getD j (0,0)).1 (l.getD j (0,0)).2 a len 0 X).2:=by
 rw[List.drop_eq_getElem_cons h,Gq,List.getD_eq_getElem?_getD,List.getElem?_eq_getElem h];rfl
theorem X2{W:World}{A:Option Addr}{l:List (Int×Int)}(h:LB W A l){b o:Nat}{vs:List Value}(hb:∀ o',A=O ⟨b,o',N⟩→l.length=0):LB (W.setCells b o vs) A l:=fun j hj=>by
 obtain⟨b',off,e,h1,h2⟩:=h j hj;have hne:b'≠b:=fun e'=>by
  have:=hb off (by rw[e,e']);omega
 exact⟨b',off,e,(FZ hne).trans h1,(FZ hne).trans h2⟩
structure OB(w:World)(A G:Option Addr)(X:Wd)(m al no:Int)(sl:Value)(Ac:Option Addr)(cc:Nat)(Gc:Option Addr)(gcc:Nat)(Xc:Wd)(W:World):Prop where
 bx:GJ w.heap.size [([.slice Ac Xc.rows.length cc,.slice Gc Xc.gens.length gcc],43),([.int .i64 m,.int .i64 al,.int .i64 no,sl],37),([.slice none 0 0,.slice none 0 0],43)] W
 bel:Below w.heap.size w W
 wf:WF (w.heap.size+3) A G X W Ac cc Gc gcc Xc
section
variable {w:World} {A G:Option Addr} {X:Wd} {m al no:Int} {sl:Value} {Ac:Option Addr} {cc:Nat} {Gc:Option Addr} {gcc:Nat} {Xc:Wd} {W W1:World}
theorem OB.below(h:OB w A G X m al no sl Ac cc Gc gcc Xc W)(hb:Below W.heap.size W W1):OB w A G X m al no sl Ac cc Gc gcc Xc W1 :=
 ⟨h.bx.below hb,h.bel.trans (hb.mono h.bel.size),h.wf.below hb⟩
theorem OB.sz (h:OB w A G X m al no sl Ac cc Gc gcc Xc W):w.heap.size+3≤W.heap.size:=by
 have:=h.bx.sz (by simp);simpa using this
end
theorem UH(A:Option Addr)(cap:Nat)(G:Option Addr)(gcap:Nat)(X:Wd)(m al no:Int)(A1:Option Addr)(len acap:Nat)(a:Nat→F')(w:World)(hX:FX w A cap G gcap X)(hr:FK X)(hA:GZ w A1 len a)(hw:(MA m al no a len).1≠0):
  Calls Au 26 #[Up A cap G gcap X,Gz m al no A1 len acap] w fun e w'=>e=Ao (Ai #[Up N 0 N 0 FL,I K (MA m al no a len).1])∧Below w.heap.size w w':=by
 have hB0:=GJ.start w [([S A X.rows.length cap,S G X.gens.length gcap],43),([I K m,I K al,I K no,S A1 len acap],37),([S N 0 0,S N 0 0],43)];have hb0:=F6 [([S A X.rows.length cap,S G X.gens.length gcap],43),([I K m,I K al,I K no,S A1 len acap],37),([S N 0 0,S N 0 0],43)] w;obtain⟨W0,hW0⟩:∃W0,W0=GQ w [([S A X.rows.length cap,S G X.gens.length gcap],43),([I K m,I K al,I K no,S A1 len acap],37),([S N 0 0,S N 0 0],43)]:=⟨_,rfl⟩;rw[←hW0]at hB0 hb0;have hW0':((w.alloc (Al #[S A X.rows.length cap,S G X.gens.length gcap] 43)).alloc (Al #[I K m,I K al,I K no,S A1 len acap] 37)).alloc (Al #[S N 0 0,S N 0 0] 43)=W0:=hW0.symm;have HNB:Hid (∀k,¬ OU A G X (w.heap.size+k)):=An (fun k hb=>by have:=IS hX hb;omega);have hO0:OB w A G X m al no (S A1 len acap) A cap G gcap X W0:=⟨hB0,hb0,WF.refl (hX.below hb0)⟩;have hWR:=NM m al no A1 len acap a W0 (hA.below hb0);unfold Gz GC at hWR;obtain⟨s0,s1,s2,s3⟩:=hB0.f4 1 R;have HW0:=An hW0';clear hW0 hW0' hB0 hb0 hX;generalize (MA m al no a len).2=wa at *;generalize (MA m al no a len).1=we at *;unfold Up FF Gz FL;go_enter Tryz.func26,Tryz.ntmps26
 go_upto_region 1 with fail
 rw[AN HW0];go_wp2_with((go_at_call 22;refine hWR.mono ?_;rintro e w5⟨rfl,hb5⟩;have h5:=hO0.below hb5;have HZ5:=h5.sz;have HO6:=(h5.below (GF w5 (Al #[I K we,I K wa] 29)));clear hb5 h5 s0 s1 s2 s3))
 have h0:GJ w.heap.size [([S A X.rows.length cap,S G X.gens.length gcap],43),([I K m,I K al,I K no,S A1 len acap],37),([S N 0 0,S N 0 0],43)] (w5.alloc (Al #[I K we,I K wa] 29)).drew∧Below w.heap.size w (w5.alloc (Al #[I K we,I K wa] 29)).drew∧(w5.alloc (Al #[I K we,I K wa] 29)).drew.cell? ⟨w5.heap.size,0,N⟩=O (I K we):=⟨HO6.bx.below Fv.drew,HO6.bel.drew,by show(w5.alloc _).cell? _=_;simp⟩;refine FW (fun(γ:Unit)=>[Af #[S N 0 0,S N 0 0],Ae (O ⟨w5.heap.size,0,N⟩),I K we,undef,I K we]) (fun(_:Unit) (_:Nat→Bool) W=>GJ w.heap.size [([S A X.rows.length cap,S G X.gens.length gcap],43),([I K m,I K al,I K no,S A1 len acap],37),([S N 0 0,S N 0 0],43)] W∧Below w.heap.size w W∧W.cell? ⟨w5.heap.size,0,N⟩=O (I K we)) (()) (by kernel_rfl) (by kernel_rfl) (by kernel_rfl) (by kernel_rfl) h0 ?hstep ?hend
 case hstep =>
  intro F γ hout hkn ix o ho L w1 hD hL hed hcl;simp only[Hu,G9,Br,Bx]at hkn;have e4:F.tmps.getD 4 undef=Ae (O ⟨w.heap.size+2,0,N⟩):=hout 4 (by decide +kernel);have e6:F.tmps.getD 6 undef=Ae (O ⟨w5.heap.size,0,N⟩):=hout 6 (by decide +kernel)
  match ix,ho with
  |0,ho|1,ho|4,ho =>
   simp at ho;subst ho;exact .inl ⟨rfl,FB γ _ (by simp[go_sem,Aq,-Ap,hkn,e6]) R hD (fun _ _ _=>rfl)⟩
  |2,ho =>
   simp at ho;subst ho;have c0:=hD.2.2;exact .inl ⟨rfl,FB γ _ (by simp[go_sem,Aq,-Ap,hkn,c0]) R hD (fun _ _ _=>rfl)⟩
  |3,ho =>
   simp at ho;subst ho;have hg:=hD.1.give 2 R [S N 0 0,S N 0 0] R;exact .inl ⟨rfl,Gy γ 43 (Am 4) (Am 16) R (w.heap.size+2) 0 [S N 0 0,S N 0 0] (by simp[Aq,-Ap,e4]) (by simp[Aq,-Ap,hkn]) (by simp[Ar]) F8 (hD.1.there 2 R 2 R) R ⟨hg,Bv (w.heap.size+2) (by omega) _ 0 _ hD.2.1,(FZ (by have:=HZ5;simp only[ne_eq];omega)).trans hD.2.2⟩ (fun _ _ _=>rfl)⟩
  |ix+5,ho=>simp at ho
 case hend =>
  intro γ L w9 hD hall;clear hall h0;simp only[GN,AI,AH,Ba,AJ,AK,Nat.reduceAdd,Bf,Be];go_frame;go_wp2;obtain⟨t0,t1⟩:=hD.1.f2 2 R;refine AG (by simp[results,Tryz.results26,go_sem,t0,t1]<;>rfl) R ⟨rfl,hD.2.1⟩
theorem UI(A:Option Addr)(cap:Nat)(G:Option Addr)(gcap:Nat)(X:Wd)(m al no:Int)(A1:Option Addr)(len acap:Nat)(a:Nat→F')(w:World)(hX:FX w A cap G gcap X)(hr:FK X)(hA:GZ w A1 len a)(hw:(MA m al no a len).1=0):
  Calls Au 26 #[Up A cap G gcap X,Gz m al no A1 len acap] w fun e w'=>∃A' c' G' gc',e=Ao (Ai #[Up A' c' G' gc' (Gq a len (GV X al no X.rows.length) X).2,I K (Gq a len (GV X al no X.rows.length) X).1])∧WF w.heap.size A G X w' A' c' G' gc' (Gq a len (GV X al no X.rows.length) X).2∧Below w.heap.size w w':=by
 have hl60:=(GD ((F7 X).2 hr)).1;have hlen:=ia hw;have hB0:=GJ.start w [([S A X.rows.length cap,S G X.gens.length gcap],43),([I K m,I K al,I K no,S A1 len acap],37),([S N 0 0,S N 0 0],43)];have hb0:=F6 [([S A X.rows.length cap,S G X.gens.length gcap],43),([I K m,I K al,I K no,S A1 len acap],37),([S N 0 0,S N 0 0],43)] w;obtain⟨W0,hW0⟩:∃W0,W0=GQ w [([S A X.rows.length cap,S G X.gens.length gcap],43),([I K m,I K al,I K no,S A1 len acap],37),([S N 0 0,S N 0 0],43)]:=⟨_,rfl⟩;rw[←hW0]at hB0 hb0;have hW0':((w.alloc (Al #[S A X.rows.length cap,S G X.gens.length gcap] 43)).alloc (Al #[I K m,I K al,I K no,S A1 len acap] 37)).alloc (Al #[S N 0 0,S N 0 0] 43)=W0:=hW0.symm;have HNB:(∀k,¬ OU A G X (w.heap.size+k)):=(fun k hb=>by have:=IS hX hb;omega);have hO0:OB w A G X m al no (S A1 len acap) A cap G gcap X W0:=⟨hB0,hb0,WF.refl (hX.below hb0)⟩;have hWR:=NM m al no A1 len acap a W0 (hA.below hb0);unfold Gz GC at hWR;obtain⟨s0,s1,s2,s3⟩:=hB0.f4 1 rfl;have HW0:=An hW0';clear hW0 hW0' hB0 hb0 hX;rw[hw]at hWR;generalize (MA m al no a len).2=wa at *;have hMA:=fun W (hW:FX W A cap G gcap X)=>Sc A cap G gcap X al no W (by omega) hW;unfold Up FF at hMA;have hbl:=Ot X al no X.rows.length;clear hw;obtain⟨bs,hbs⟩:∃bs,bs=GV X al no X.rows.length:=⟨_,rfl⟩;rw[←hbs]at hMA hbl⊢;clear hbs;obtain⟨R,hR⟩:∃R,R=Gq a len bs X:=⟨_,rfl⟩;rw[←hR];unfold Up FF Gz;go_enter Tryz.func26,Tryz.ntmps26
 go_upto_region 1 with fail
 rw[AN HW0];go_wp2_with((go_at_call 22;refine hWR.mono ?_;rintro e w5⟨rfl,hb5⟩;have h6:=((hO0.below hb5).below (GF w5 (Al #[I K 0,I K wa] 29)));have x0:=h6.bx.cell 0 rfl 0 rfl;have x1:=h6.bx.cell 0 rfl 1 rfl;rw[Ay]at x0 x1;have x2:=h6.bx.cell 1 rfl 1 rfl;have x3:=h6.bx.cell 1 rfl 2 rfl;clear hb5 s0 s1 s2 s3))
 go_at_call 52;refine(hMA _ h6.wf.at_).mono ?_;rintro e w7⟨v7,rfl,ho7,hb7⟩;obtain⟨Ab,cb,rfl,hBs⟩:=Rd ho7;have HO7:=(h6.below hb7);have HBB:Hid (∀o',Ab=O ⟨w.heap.size+0,o',N⟩→bs.length=0):=An (fun o' e=>by
  rcases DX bs.length with h|h
  ·exact h
  ·have h1:=(ho7.lt (w.heap.size+0) (by rw[e];rfl)).1;have h2:=h6.sz;omega)
 clear ho7 hb7 x0 x1 x2 x3 h6;go_wp2_with fail
 go_loopw [24] (fun x wr=>∃j:Nat,j≤bs.length∧x=I K (j:Int)∧∃Ac cc Gc gcc Xc,OB w A G X m al no (S A1 len acap) Ac cc Gc gcc Xc wr∧LB wr Ab bs∧FK Xc∧R=Gq a len (bs.drop j) Xc) (fun x _=>bs.length - (intOf x).toNat)
 case atStart=>exact⟨0,AS _,rfl,A,cap,G,gcap,X,HO7,hBs,hr,hR⟩
 case round =>
  clear HO7 hBs hR hr;obtain⟨j,hj,rfl,Ac,cc,Gc,gcc,Xc,hO,hB,hrc,hRc⟩:=hrel;have hxl:=(GD ((F7 Xc).2 hrc)).1;by_cases hlt:j<bs.length
  ·have j0:(0:Int)≤(j:Int):=(by omega);have j1:(j:Int)<(bs.length:Int):=(by omega);rw[QX a len bs j Xc hlt]at hRc;obtain⟨b,off,hAe,c0,c1⟩:=hB j hlt;obtain⟨i,hi⟩:∃i,i=(bs.getD j (0,0)).1:=⟨_,rfl⟩;obtain⟨g,hg⟩:∃g,g=(bs.getD j (0,0)).2:=⟨_,rfl⟩;rw[←hi,←hg]at hRc;rw[←hi]at c0;rw[←hg]at c1;obtain⟨W4,hW4⟩:∃W4,W4=wr.alloc (Al #[I K i,I K g] 61):=⟨_,rfl⟩;have hb4:Below wr.heap.size wr W4:=(by rw[hW4];exact GF _ _);have hO4:=hO.below hb4;have hTU:=Z5 Ac cc Gc gcc Xc i g A1 len acap a W4 (by omega) hO4.wf.at_ hrc hlen (hA.below hO4.bel);have hTN:=fun h=>XS i g a len 0 Xc h;have hTR:=fun h=>Jb i g a len 0 Xc hrc h;obtain⟨Y,hY⟩:∃Y,Y=(GP i g a len 0 Xc).2:=⟨_,rfl⟩;obtain⟨err,herr⟩:∃err,err=(GP i g a len 0 Xc).1:=⟨_,rfl⟩;rw[←hY,←herr]at hTU hTN hTR hRc;unfold Up FF FJ at hTU;obtain⟨w0,w1⟩:=hO4.bx.g2 rfl;have s3:=hO4.bx.cell 1 rfl 3 rfl;have b0:W4.cell? ⟨wr.heap.size,0,N⟩=O (I K i):=(by rw[hW4];simp);have b1:W4.cell? ⟨wr.heap.size,1,N⟩=O (I K g):=(by rw[hW4];simp);have hW4':wr.alloc (Al #[I K i,I K g] 61)=W4:=hW4.symm;have HW4:=An hW4';have HB4:=(hB.below hb4);have HAL:Hid (0<bs.length→Ab=O ⟨b,off,N⟩):=An (fun _=>hAe);clear hO hb4 hY herr hW4 hW4' hrc hi hg hB;subst hAe;go_upto_region 7 with fail
   rw[AN HW4];clear c0 c1;go_wp2_with fail
   go_at_call 53;refine hTU.mono ?_;rintro e w5⟨A4,c4,G4,gc4,rfl,hF5,hb5⟩;have h5:=hO4.below hb5;have h6:=h5.below (GF w5 (Al #[S A4 Y.rows.length c4,S G4 Y.gens.length gc4] 43));have hF6:WF (w.heap.size+3) A G X (w5.alloc (Al #[S A4 Y.rows.length c4,S G4 Y.gens.length gc4] 43)) A4 c4 G4 gc4 Y:=(hO4.wf.trans hF5 hO4.sz).below (GF _ _);have hB6:=(HB4.below hb5).below (GF w5 (Al #[S A4 Y.rows.length c4,S G4 Y.gens.length gc4] 43));have n0:(w5.alloc (Al #[S A4 Y.rows.length c4,S G4 Y.gens.length gc4] 43)).cell? ⟨w5.heap.size,0,N⟩=O (S A4 Y.rows.length c4):=(by simp);have n1:(w5.alloc (Al #[S A4 Y.rows.length c4,S G4 Y.gens.length gc4] 43)).cell? ⟨w5.heap.size,1,N⟩=O (S G4 Y.gens.length gc4):=(by simp);obtain⟨W6,hW6⟩:∃W6,W6=w5.alloc (Al #[S A4 Y.rows.length c4,S G4 Y.gens.length gc4] 43):=⟨_,rfl⟩;rw[←hW6]at h6 hF6 n0 n1 hB6;have hW6':w5.alloc (Al #[S A4 Y.rows.length c4,S G4 Y.gens.length gc4] 43)=W6:=hW6.symm;have HW6:=An hW6';have HB6:=h6.bx;have HL6:=h6.bel;clear hF5 hb5 h5 hW6 hW6' hTU hO4 HB4 w0 w1 b0 b1 s3;by_cases he:err=0
   ·subst he;have HRY:=(hTR rfl);clear hTN hTR;go_upto_region 8 with fail
    rw[AN HW6];go_wp2_with(refine As rfl 43 (Am 2) (Am 40) rfl (w.heap.size+0) 0 [S A4 Y.rows.length c4,S G4 Y.gens.length gc4] rfl rfl (by simp[Ar]) F8 (HB6.there 0 rfl 2 rfl) ?_;intro W7 hW;have q1:=HB6.give 0 rfl [S A4 Y.rows.length c4,S G4 Y.gens.length gc4] rfl;have q3:=Bv (w.heap.size+0) (by omega) [S A4 Y.rows.length c4,S G4 Y.gens.length gc4] 0 _ HL6;have q4:=IE (k:=0) (o:=0) (vs:=[S A4 Y.rows.length c4,S G4 Y.gens.length gc4]) hF6 HNB (by omega);have q5:=X2 hB6 (b:=w.heap.size+0) (o:=0) (vs:=[S A4 Y.rows.length c4,S G4 Y.gens.length gc4]) (AN HBB);rw[←hW]at q1 q3 q4 q5;have HB7:=q1;have HL7:=q3;have HF7:=q4;clear hW q1 q3 q4)
    have hR2:=hRc;rw[AA (by simp)]at hR2;have HR2:=An hR2;clear hR2;go_roundw
    case rel=>exact⟨j+1,by omega,by go_num,A4,c4,G4,gc4,Y,⟨HB7,HL7,HF7⟩,q5,HRY,AN HR2⟩
    case measure=>simp[intOf];omega
   ·skip
    have hR2:=hRc;rw[AF he]at hR2;have HR2:=An hR2;clear hR2 hTN hTR hRc;have hne:(err == 0)=false:=(by simpa using he);go_upto_region 8 with fail
    rw[AN HW6];go_wp2_with(refine As rfl 43 (Am 4) (Am 38) rfl (w.heap.size+2) 0 [S N 0 0,S N 0 0] rfl rfl (by simp[Ar]) F8 (HB6.there 2 rfl 2 rfl) ?_;intro W8 hW;have q1:=HB6.give 2 rfl [S N 0 0,S N 0 0] rfl;have q3:=Bv (w.heap.size+2) (by omega) [S N 0 0,S N 0 0] 0 _ HL6;rw[←hW]at q1 q3;have HB8:=q1;have HL8:=q3;clear hW q1 q3)
    obtain⟨t0,t1⟩:=HB8.f2 2 rfl;refine AG (by simp[results,Tryz.results26,go_sem,t0,t1]<;>rfl) rfl ?_
    rw[AN HR2];exact⟨N,0,N,0,rfl,WF.empty _ _ _ _ _,HL8⟩
  ·obtain rfl:j=bs.length:=(by omega);obtain⟨w0,w1⟩:=hO.bx.g2 rfl;have HB7:=hO.bx;have HL7:=hO.bel;have HF7:=hO.wf;have hR2:=hRc;rw[D9,Gq]at hR2;have HR2:=An hR2;clear hO hR2 hB;go_wp2_with(refine As rfl 43 (Am 4) (Am 42) rfl (w.heap.size+2) 0 [S Ac Xc.rows.length cc,S Gc Xc.gens.length gcc] rfl rfl (by simp[Ar]) F8 (HB7.there 2 rfl 2 rfl) ?_;intro W8 hW;have q1:=HB7.give 2 rfl [S Ac Xc.rows.length cc,S Gc Xc.gens.length gcc] rfl;have q3:=Bv (w.heap.size+2) (by omega) [S Ac Xc.rows.length cc,S Gc Xc.gens.length gcc] 0 _ HL7;have q4:=IE (k:=2) (o:=0) (vs:=[S Ac Xc.rows.length cc,S Gc Xc.gens.length gcc]) HF7 HNB (by omega);rw[←hW]at q1 q3 q4;have HB8:=q1;have HL8:=q3;have HF8:=q4;clear hW q1 q3 q4)
   obtain⟨t0,t1⟩:=HB8.f2 2 rfl;refine AG (by simp[results,Tryz.results26,go_sem,t0,t1]<;>rfl) rfl ?_
   rw[AN HR2];exact⟨Ac,cc,Gc,gcc,rfl,HF8.le (by omega),HL8⟩
theorem YV(A:Option Addr)(cap:Nat)(G:Option Addr)(gcap:Nat)(X:Wd)(m al no:Int)(A1:Option Addr)(len acap:Nat)(a:Nat→F')(w:World)(hX:FX w A cap G gcap X)(hr:FK X)(hA:GZ w A1 len a):
  Calls Au 26 #[Up A cap G gcap X,Gz m al no A1 len acap] w fun e w'=>∃A' c' G' gc',e=Ao (Ai #[Up A' c' G' gc' (Jl X m al no a len).2,I K (Jl X m al no a len).1])∧WF w.heap.size A G X w' A' c' G' gc' (Jl X m al no a len).2∧Below w.heap.size w w':=by
 unfold Jl;by_cases h:(MA m al no a len).1=0
 ·rw[AA (by simpa using h)];exact UI A cap G gcap X m al no A1 len acap a w hX hr hA h
 ·rw[AF h];exact(UH A cap G gcap X m al no A1 len acap a w hX hr hA h).mono fun e w' ⟨he,hb⟩=>⟨N,0,N,0,he,WF.empty _ _ _ _ _,hb⟩
structure GG where
 m:Int
 al:Int
 no:Int
 A:Option Addr
 len:Nat
 cap:Nat
 a:Nat→F'
def Rr (s:GG):Value:=Gz s.m s.al s.no s.A s.len s.cap
structure Rj(w:World)(b o:Nat)(s:GG):Prop where
 c0:w.cell? ⟨b,o,none⟩=some (.int .i64 s.m)
 c1:w.cell? ⟨b,o+1,none⟩=some (.int .i64 s.al)
 c2:w.cell? ⟨b,o+2,none⟩=some (.int .i64 s.no)
 c3:w.cell? ⟨b,o+3,none⟩=some (.slice s.A s.len s.cap)
 acts:GZ w s.A s.len s.a
theorem Rj.below{w w1:World}{b o:Nat}{s:GG}(h:Rj w b o s)(hb:Below w.heap.size w w1):Rj w1 b o s :=
 ⟨AW hb h.c0,AW hb h.c1,AW hb h.c2,AW hb h.c3,h.acts.below hb⟩
def Iw(w:World)(L:Option Addr)(n:Nat)(S:Nat→GG):Prop:=∀j,j<n→∃b off,L=some ⟨b,off,none⟩∧Rj w b (off+j*4) (S j)
theorem Iw.below{w w1:World}{L:Option Addr}{n:Nat}{S:Nat→GG}(h:Iw w L n S)(hb:Below w.heap.size w w1):Iw w1 L n S:=fun j hj=>by
 obtain⟨b,off,h0,h1⟩:=h j hj;exact⟨b,off,h0,h1.below hb⟩
def I' (X:Wd) (s:GG):Int×Wd:=Jl X s.m s.al s.no s.a s.len
def GX (S:Nat→GG):Nat→Nat→Wd→(Int×Int)×Wd
 | 0,_,X=>((0,0),X)
 | n+1,j,X=>if (I' X (S j)).1≠0 then (((I' X (S j)).1,(j:Int)),FL) else GX S n (j+1) (I' X (S j)).2
theorem VZ (S:Nat→GG) (n j:Nat) (X:Wd) (h:j<n):GX S (n - j) j X=if (I' X (S j)).1≠0 then (((I' X (S j)).1,(j:Int)),FL) else GX S (n - (j+1)) (j+1) (I' X (S j)).2:=by
 rw [show n - j=(n - (j+1))+1 by omega,GX]
structure QB(w:World)(u0 u1:Value)(bw:Nat)(Ac:Option Addr)(cc:Nat)(Gc:Option Addr)(gcc:Nat)(Xc:Wd)(W:World):Prop where
 bx:GJ w.heap.size [([u0,u1],25),([.slice none 0 0,.slice none 0 0],25),([.int .i64 0,.int .i64 0],29)] W
 wb:GJ bw [([.slice Ac Xc.rows.length cc,.slice Gc Xc.gens.length gcc],43)] W
 lo:w.heap.size+3≤bw
 bel:Below w.heap.size w W
 at_:FX W Ac cc Gc gcc Xc
 nb:∀b,OU Ac Gc Xc b→w.heap.size+3≤b∧b≠bw
section
variable {w:World} {u0 u1:Value} {bw:Nat} {Ac:Option Addr} {cc:Nat} {Gc:Option Addr} {gcc:Nat} {Xc:Wd} {W W1:World}
theorem QB.below(h:QB w u0 u1 bw Ac cc Gc gcc Xc W)(hb:Below W.heap.size W W1):QB w u0 u1 bw Ac cc Gc gcc Xc W1 :=
 ⟨h.bx.below hb,h.wb.below hb,h.lo,h.bel.trans (hb.mono h.bel.size),h.at_.below hb,h.nb⟩
theorem QB.lt (h:QB w u0 u1 bw Ac cc Gc gcc Xc W):bw<W.heap.size:=by
 have:=h.wb.sz (by simp);simp at this;omega
end
theorem iB(T:Option Addr)(tcap:Nat)(G:Option Addr)(gcap:Nat)(tabs:List Gu)(X:Wd)(L:Option Addr)(n lcap:Nat)(S:Nat→GG)(w:World)(h:Ir w T G tabs X)(hn:n≤4194304)(hS:Iw w L n S):
  Calls Au 7 #[JN T tabs.length tcap G X.gens.length gcap,.slice L n lcap] w fun e w'=>∃T' tc' G' gc',e=Ao (Ai #[JN T' (FG (GX S n 0 X).2).length tc' G' (GX S n 0 X).2.gens.length gc',Af #[I K (GX S n 0 X).1.1,I K (GX S n 0 X).1.2]])∧IN w.heap.size w' T' G' (FG (GX S n 0 X).2) (GX S n 0 X).2∧Below w.heap.size w w':=by
 have hr:=h.right;have hB0:=GJ.start w [([.slice T tabs.length tcap,.slice G X.gens.length gcap],25),([.slice N 0 0,.slice N 0 0],25),([I K 0,I K 0],29)];have hb0:=F6 [([.slice T tabs.length tcap,.slice G X.gens.length gcap],25),([.slice N 0 0,.slice N 0 0],25),([I K 0,I K 0],29)] w;have hs0:=Hh [([.slice T tabs.length tcap,.slice G X.gens.length gcap],25),([.slice N 0 0,.slice N 0 0],25),([I K 0,I K 0],29)] w;obtain⟨W0,hW0⟩:∃W0,W0=GQ w [([.slice T tabs.length tcap,.slice G X.gens.length gcap],25),([.slice N 0 0,.slice N 0 0],25),([I K 0,I K 0],29)]:=⟨_,rfl⟩;rw[←hW0]at hB0 hb0 hs0;have hW0':((w.alloc (Al #[.slice T tabs.length tcap,.slice G X.gens.length gcap] 25)).alloc (Al #[.slice N 0 0,.slice N 0 0] 25)).alloc (Al #[I K 0,I K 0] 29)=W0:=hW0.symm;have hWR:=fun W (hb:Below w.heap.size w W)=>Vw T tcap G gcap tabs X W (h.below hb);have hWO:=fun W (hb:Below w.heap.size w W)=>Nz T tcap G gcap tabs X W (h.below hb);unfold JN at hWR;unfold JN Up FF at hWO;obtain⟨s0,s1⟩:=hB0.g2 rfl;have HZ0:(w.heap.size+3≤W0.heap.size):=(by rw[hs0];simp);have HL0:=An hb0;have HW0:=An hW0';clear hW0 hW0' hb0 h hs0;obtain⟨R,hR⟩:∃R,R=GX S n 0 X:=⟨_,rfl⟩;rw[←hR];unfold JN;go_enter Tryz.func7,Tryz.ntmps7
 go_upto_region 1 with fail
 rw[AN HW0];go_wp2_with fail
 go_at_call 24;refine(hWR _ (AN HL0)).mono ?_;rintro e w5⟨rfl,hb5⟩;have hb6:=GF w5 (Al #[I K 0,I K 0] 29);have h6:=(hB0.below hb5).below hb6;have hl5:=(AN HL0).trans (hb5.mono (AN HL0).size);have hl6:=hl5.trans (hb6.mono hl5.size);have HZ6:(w.heap.size+3≤(w5.alloc (Al #[I K 0,I K 0] 29)).heap.size):=(AU (AU HZ0 hb5.size) hb6.size);clear s0 s1;obtain⟨s0,s1⟩:=h6.g2 rfl;have HB6:=h6;have HL6:=An hl6;clear hb5 hb6 h6 hl5 hl6 hB0 HL0 hWR;go_wp2_with fail
 go_at_call 25;refine(hWO _ (AN HL6)).mono ?_;rintro e w7⟨A7,c7,G7,gc7,rfl,hN7,hb7⟩;have hb8:=GF w7 (Al #[.slice A7 X.rows.length c7,.slice G7 X.gens.length gc7] 43);have hQ:QB w (.slice T tabs.length tcap) (.slice G X.gens.length gcap) w7.heap.size A7 c7 G7 gc7 X (w7.alloc (Al #[.slice A7 X.rows.length c7,.slice G7 X.gens.length gc7] 43)):=
  ⟨(HB6.below hb7).below hb8,GJ.start w7 [([.slice A7 X.rows.length c7,.slice G7 X.gens.length gc7],43)],AU HZ6 hb7.size,((AN HL6).trans (hb7.mono (AN HL6).size)).trans (hb8.mono ((AN HL6).trans (hb7.mono (AN HL6).size)).size),hN7.toFX.below hb8,fun b hb=>⟨AU HZ6 (Sm hN7 hb),fun e=>by have:=IS hN7.toFX hb;omega⟩⟩
 clear hN7 hb7 hb8 s0 s1 HB6 HL6 hWO;go_wp2_with fail
 go_loopw [25] (fun x wr=>∃j:Nat,j≤n∧x=I K (j:Int)∧∃Ac cc Gc gcc Xc,QB w (.slice T tabs.length tcap) (.slice G X.gens.length gcap) w7.heap.size Ac cc Gc gcc Xc wr∧FK Xc∧R=GX S (n - j) j Xc) (fun x _=>n - (intOf x).toNat)
 case atStart=>exact⟨0,AS _,rfl,A7,c7,G7,gc7,X,hQ,hr,hR⟩
 case round =>
  clear hQ hR hr;obtain⟨j,hj,rfl,Ac,cc,Gc,gcc,Xc,hQ,hrc,hRc⟩:=hrel;have hxl:=(GD ((F7 Xc).2 hrc)).1;by_cases hlt:j<n
  ·have j0:(0:Int)≤(j:Int):=(by omega);have j1:(j:Int)<(n:Int):=(by omega);rw[VZ S n j Xc hlt]at hRc;obtain⟨b,off,hLe,hSy⟩:=hS.below hQ.bel j hlt;obtain⟨s,hs⟩:∃s,s=S j:=⟨_,rfl⟩;rw[←hs]at hSy hRc;have c0:=hSy.c0;have c1:=hSy.c1;have c2:=hSy.c2;have c3:=hSy.c3;obtain⟨W4,hW4⟩:∃W4,W4=wr.alloc (Al #[I K s.m,I K s.al,I K s.no,.slice s.A s.len s.cap] 37):=⟨_,rfl⟩;have hb4:Below wr.heap.size wr W4:=(by rw[hW4];exact GF _ _);have hQ4:=hQ.below hb4;have hRU:=YV Ac cc Gc gcc Xc s.m s.al s.no s.A s.len s.cap s.a W4 hQ4.at_ hrc (hSy.acts.below hb4);have hRN:=fun hh=>aU (X:=Xc) (m:=s.m) (al:=s.al) (no:=s.no) (a:=s.a) (len:=s.len) hh;have hRR:=fun hh=>NQ hrc (m:=s.m) (al:=s.al) (no:=s.no) (a:=s.a) (len:=s.len) hh;rw[show Jl Xc s.m s.al s.no s.a s.len=I' Xc s from rfl]at hRU hRN hRR;obtain⟨Y,hY⟩:∃Y,Y=(I' Xc s).2:=⟨_,rfl⟩;obtain⟨err,herr⟩:∃err,err=(I' Xc s).1:=⟨_,rfl⟩;rw[←hY,←herr]at hRU hRN hRR hRc;unfold Up FF Gz at hRU;obtain⟨w0,w1⟩:=hQ4.wb.g2 rfl;have y0:W4.cell? ⟨wr.heap.size,0,N⟩=O (I K s.m):=(by rw[hW4];simp);have y1:W4.cell? ⟨wr.heap.size,1,N⟩=O (I K s.al):=(by rw[hW4];simp);have y2:W4.cell? ⟨wr.heap.size,2,N⟩=O (I K s.no):=(by rw[hW4];simp);have y3:W4.cell? ⟨wr.heap.size,3,N⟩=O (.slice s.A s.len s.cap):=(by rw[hW4];simp);have hW4':wr.alloc (Al #[I K s.m,I K s.al,I K s.no,.slice s.A s.len s.cap] 37)=W4:=hW4.symm;have HW4:=An hW4';clear hb4 hY herr hW4 hW4' hrc hs hSy;subst hLe;go_upto_region 8 with fail
   rw[AN HW4];clear c0 c1 c2 c3;go_wp2_with fail
   go_at_call 26;refine hRU.mono ?_;rintro e w5⟨A4,c4,G4,gc4,rfl,hF5,hb5⟩;have h5:=hQ4.below hb5;have h6:=h5.below (GF w5 (Al #[.slice A4 Y.rows.length c4,.slice G4 Y.gens.length gc4] 43));have hX6:=hF5.at_.below (GF w5 (Al #[.slice A4 Y.rows.length c4,.slice G4 Y.gens.length gc4] 43));have hnb:∀b,OU A4 G4 Y b→w.heap.size+3≤b∧b≠w7.heap.size:=fun b hb=>by
    rcases hF5.blk b hb with h|h
    ·exact hQ4.nb b h
    ·have h1:=hQ4.lt;have h2:=hQ4.lo;omega
   have n0:(w5.alloc (Al #[.slice A4 Y.rows.length c4,.slice G4 Y.gens.length gc4] 43)).cell? ⟨w5.heap.size,0,N⟩=O (.slice A4 Y.rows.length c4):=(by simp);have n1:(w5.alloc (Al #[.slice A4 Y.rows.length c4,.slice G4 Y.gens.length gc4] 43)).cell? ⟨w5.heap.size,1,N⟩=O (.slice G4 Y.gens.length gc4):=(by simp);obtain⟨W6,hW6⟩:∃W6,W6=w5.alloc (Al #[.slice A4 Y.rows.length c4,.slice G4 Y.gens.length gc4] 43):=⟨_,rfl⟩;rw[←hW6]at h6 hX6 n0 n1;have hW6':w5.alloc (Al #[.slice A4 Y.rows.length c4,.slice G4 Y.gens.length gc4] 43)=W6:=hW6.symm;have HW6:=An hW6';have HQ6:=h6;have HB6:=h6.bx;have HL6:=An h6.bel;clear hF5 hb5 h5 h6 hW6 hW6' hRU hQ4 w0 w1 y0 y1 y2 y3;by_cases he:err=0
   ·subst he;have HRY:=(hRR rfl);clear hRN hRR;go_upto_region 9 with fail
    rw[AN HW6];go_wp2_with(refine As rfl 43 (Am 7) (Am 42) rfl (w7.heap.size+0) 0 [.slice A4 Y.rows.length c4,.slice G4 Y.gens.length gc4] rfl rfl (by simp[Ar]) F8 (HQ6.wb.there 0 rfl 2 rfl) ?_;intro W7 hW;have q1:=HQ6.wb.give 0 rfl [.slice A4 Y.rows.length c4,.slice G4 Y.gens.length gc4] rfl;have q2:=HQ6.bx.turn (cb:=w7.heap.size+0) (o:=0) (vs:=[.slice A4 Y.rows.length c4,.slice G4 Y.gens.length gc4]) (.inr (by have:=HQ6.lo;simp only[AJ,AK];omega));have q3:=Bv (w7.heap.size+0) (by have:=HQ6.lo;omega) [.slice A4 Y.rows.length c4,.slice G4 Y.gens.length gc4] 0 _ (AN HL6);have q4:=Mw hX6 (b:=w7.heap.size+0) (o:=0) (vs:=[.slice A4 Y.rows.length c4,.slice G4 Y.gens.length gc4]) (fun hb=>(hnb _ hb).2 rfl);rw[←hW]at q1 q2 q3 q4;have HQ7:(QB w (.slice T tabs.length tcap) (.slice G X.gens.length gcap) w7.heap.size A4 c4 G4 gc4 Y W7):=⟨q2,q1,HQ6.lo,q3,q4,hnb⟩;clear hW q1 q2 q3 q4)
    have hR2:=hRc;rw[AA (by simp)]at hR2;have HR2:=An hR2;clear hR2;go_roundw
    case rel=>exact⟨j+1,by omega,by go_num,A4,c4,G4,gc4,Y,HQ7,HRY,AN HR2⟩
    case measure=>simp[intOf];omega
   ·have hR2:=hRc;rw[AF he]at hR2;have HR2:=An hR2;clear hR2 hRN hRR hRc;have hne:(err == 0)=false:=(by simpa using he);go_upto_region 9 with fail
    rw[AN HW6];go_wp2_with(first
     |(refine As rfl 25 (Am 4) (Am 38) rfl (w.heap.size+1) 0 [.slice N 0 0,.slice N 0 0] rfl rfl (by simp[Ar]) Kq (HB6.there 1 rfl 2 rfl) ?_;intro W8 hW;have q1:=HB6.give 1 rfl [.slice N 0 0,.slice N 0 0] rfl;have q3:=Bv (w.heap.size+1) (by omega) [.slice N 0 0,.slice N 0 0] 0 _ (AN HL6);rw[←hW]at q1 q3;have HB8:=q1;have HL8:=q3;clear hW q1 q3)
     |(refine As rfl 29 (Am 5) (Am 41) rfl (w.heap.size+2) 0 [I K err,I K (j:Int)] rfl rfl (by simp[Ar]) MJ (HB8.there 2 rfl 2 rfl) ?_;intro W9 hW;have q1:=HB8.give 2 rfl [I K err,I K (j:Int)] rfl;have q3:=Bv (w.heap.size+2) (by omega) [I K err,I K (j:Int)] 0 _ HL8;rw[←hW]at q1 q3;have HB9:=q1;have HL9:=q3;clear hW q1 q3))
    obtain⟨t0,t1⟩:=HB9.f2 1 rfl;obtain⟨u0,u1⟩:=HB9.f2 2 rfl;refine AG (by simp[results,Tryz.results7,go_sem,t0,t1,u0,u1]<;>rfl) rfl ?_
    rw[AN HR2];exact⟨N,0,N,0,rfl,LM _ _,HL9⟩
  ·obtain rfl:j=n:=(by omega);obtain⟨w0,w1⟩:=hQ.wb.g2 rfl;have hOF:=bQ Ac cc Gc gcc Xc wr hQ.at_ hrc;unfold Up FF JN at hOF;have HZ:(w.heap.size+3≤wr.heap.size):=(by have:=hQ.bx.sz (by simp);simpa using this);have hR2:=hRc;rw[BR,GX]at hR2;have HR2:=An hR2;clear hR2 hrc;go_wp2_with fail
   go_at_call 13;refine hOF.mono ?_;rintro e w8⟨T8,tc8,G8,gc8,rfl,hN8,hb8⟩;have h8:=hQ.below hb8;have HB7:=h8.bx;have HL7:=h8.bel;have HN7:=(hN8.le (base':=w.heap.size+3) HZ);clear hN8 hb8 h8 w0 w1 hOF hQ;go_wp2_with(first
    |(refine As rfl 25 (Am 4) (Am 46) rfl (w.heap.size+1) 0 [.slice T8 (FG Xc).length tc8,.slice G8 Xc.gens.length gc8] rfl rfl (by simp[Ar]) Kq (HB7.there 1 rfl 2 rfl) ?_;intro W8 hW;have q1:=HB7.give 1 rfl [.slice T8 (FG Xc).length tc8,.slice G8 Xc.gens.length gc8] rfl;have q3:=Bv (w.heap.size+1) (by omega) [.slice T8 (FG Xc).length tc8,.slice G8 Xc.gens.length gc8] 0 _ HL7;have q4:=HN7.putc (b:=w.heap.size+1) (o:=0) (vs:=[.slice T8 (FG Xc).length tc8,.slice G8 Xc.gens.length gc8]) (by omega);rw[←hW]at q1 q3 q4;have HB8:=q1;have HL8:=q3;have HN8:=q4;clear hW q1 q3 q4)
    |(refine As rfl 29 (Am 5) (Am 47) rfl (w.heap.size+2) 0 [I K 0,I K 0] rfl rfl (by simp[Ar]) MJ (HB8.there 2 rfl 2 rfl) ?_;intro W9 hW;have q1:=HB8.give 2 rfl [I K 0,I K 0] rfl;have q3:=Bv (w.heap.size+2) (by omega) [I K 0,I K 0] 0 _ HL8;have q4:=HN8.putc (b:=w.heap.size+2) (o:=0) (vs:=[I K 0,I K 0]) (by omega);rw[←hW]at q1 q3 q4;have HB9:=q1;have HL9:=q3;have HN9:=q4;clear hW q1 q3 q4))
   obtain⟨t0,t1⟩:=HB9.f2 1 rfl;obtain⟨u0,u1⟩:=HB9.f2 2 rfl;refine AG (by simp[results,Tryz.results7,go_sem,t0,t1,u0,u1]<;>rfl) rfl ?_
   rw[AN HR2];exact⟨T8,tc8,G8,gc8,rfl,HN9.le (by omega),HL9⟩
end Go.Proofs.YtnbleebilmghcabGreat
