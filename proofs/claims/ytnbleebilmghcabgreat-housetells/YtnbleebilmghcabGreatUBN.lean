/- The document's Wrong, of a world. -/
import Derived.Test.YtnbleebilmghcabGreatUAC
import Derived.Test.YtnbleebilmghcabGreatUAM
import Derived.Test.YtnbleebilmghcabGreatUAP
set_option linter.all false
set_option maxRecDepth 8000
set_option maxHeartbeats 8000000
open Go.Value renaming int→I,pointer→Ae,agg→Af,oneCell'→Ar
open Go.IntKind renaming i64→K
open Option renaming none→N,some→O
open Go.Operand renaming tmp→Am
open Go.Ending renaming returned→Ao
open Go.Proofs.Tryz renaming prog→Au
namespace Go.Proofs.YtnbleebilmghcabGreat
open Go Go.RowKit
attribute [local go_sem ↓] Go.wp_at_zero Go.wp_at_succ
theorem Kr:(Au.info? 29).map (·.size)=O 2:=by kernel_rfl
theorem VB.ab{w W:World}{A:Option Addr}{n E:Nat}{G:Option Addr}{F D:Nat}(h:VB w A n E G F D W):AB w (w.heap.size+1) (I K 0) (I K 0) W:=⟨h.bel,by omega,h.t0,h.t1,h.f⟩
theorem aW(x:D7)(k:Nat)(w:World)(h:k<8):
  Sem.run Au (Instr.index 114 (Af #[I K (x.v 0),I K (x.v 1),I K (x.v 2),I K (x.v 3),I K (x.v 4),I K (x.v 5),I K (x.v 6),I K (x.v 7)]) (I K (k:Int))) w=.ok (I K (x.v k)) w:=by
 rcases(by omega:k=0∨k=1∨k=2∨k=3∨k=4∨k=5∨k=6∨k=7)with rfl|rfl|rfl|rfl|rfl|rfl|rfl|rfl
 all_goals simp[Instr.index,go_sem]
theorem Yz(x:D7)(k:Nat):Ng x (k+1)=(Ng x k && bO x k):=by
 unfold Ng;rw[CY,EK];simp
theorem bM(x:D7)(k:Nat)(D:k<8)(h:bO x k=false):Ng x 8=false:=by
 unfold Ng;rw[Ez];exact⟨k,Bh.2 D,by simp[h]⟩
theorem La(e j:Int)(b:Nat)(w:World)(h:w.cell? ⟨b,0,N⟩=O (I K j)):
  Calls Au 98 #[I K e,Ae (O ⟨b,0,N⟩)] w fun r D=>r=Ao (Af #[I K e,I K j])∧Below w.heap.size w D:=by
 have E:=AL w _ h;go_enter Tryz.func98,Tryz.ntmps98
 go_wp2;refine AG (v:=Af #[I K e,I K j]) (by simp[results,Tryz.results98,go_sem]) R ⟨rfl,?_⟩;go_grown
theorem Gh(A:Option Addr)(n hl:Nat)(G:Option Addr)(gn he:Nat)(R:Nat→D7)(f:Nat→Int)(w:World)(hn:n≤9223372036854775807)(hR:JR w A n R)(hG:LA w G gn f):
  Calls Au 55 #[FF A n hl G gn he] w fun e w'=>e=Ao (Gr (Hk R n gn f))∧Below w.heap.size w w':=by
 have L:=An (VB.start w A n hl G gn he);have r0:=L.r0;have r1:=L.r1;unfold Hk Gr FF;by_cases hP:60<gn
 ·have hQ:(60:Int)<(gn:Int):=by omega
  rw[AF hP];clear r0 r1;go_enter Tryz.func55,Tryz.ntmps55
  go_wp2;refine AG (v:=Af #[I K 4,I K 0]) (by simp[results,Tryz.results55,go_sem]) rfl ⟨rfl,?_⟩;go_grown
 ·have hQ:¬ (60:Int)<(gn:Int):=by omega
  rw[AA hP];obtain⟨PV,hI⟩:∃v,v=Xp f (Rv R gn f n 0) gn 0:=⟨_,rfl⟩;rw[←hI];go_enter Tryz.func55,Tryz.ntmps55
  go_wp2;go_loopw [19] (fun i wr=>∃j:Nat,j≤gn∧i=I K j∧PV=Xp f (Rv R gn f n 0) (gn - j) j∧VB w A n hl G gn he wr) (fun i _=>gn - (intOf i).toNat)
  case atStart=>exact⟨0,AS _,rfl,hI,L⟩
  case round =>
   clear r0 r1 L hI;obtain⟨j,hj,rfl,hF,L⟩:=hrel;by_cases hm:j<gn
   ·have j0:(0:Int)≤(j:Int):=(by omega);have j1:(j:Int)<(gn:Int):=(by omega);obtain⟨b,ht,rfl,hg⟩:=hG j hm;have hg:=AW L.bel hg;have HS:=An (hF.trans (Uz f (Rv R gn f n 0) gn j hm));clear hF hG hR;generalize f j=gj at *;by_cases g1:gj<1
    ·go_wp2_with(first
      |(refine As rfl 29 (Am 2) (Am 31) rfl (w.heap.size+1) 0 [I K 3,I K (j:Int)] rfl rfl (by simp[Ar]) Kr L.ab.there ?_;intro W9 E;have D:=L.ab.give (I K 3) (I K (j:Int));rw[←E]at D;clear E))
     have Y:=D.t0;have Z:=D.t1;have hv:=(AN HS).trans (AF (.inl g1));refine AG (v:=Af #[I K 3,I K (j:Int)]) (by simp[results,Tryz.results55,go_sem,Y,Z]) rfl ⟨by rw[hv],D.bel⟩
    ·by_cases g2:1000<gj
     ·go_wp2_with(first
       |(refine As rfl 29 (Am 2) (Am 31) rfl (w.heap.size+1) 0 [I K 3,I K (j:Int)] rfl rfl (by simp[Ar]) Kr L.ab.there ?_;intro W9 E;have D:=L.ab.give (I K 3) (I K (j:Int));rw[←E]at D;clear E))
      have Y:=D.t0;have Z:=D.t1;have hv:=(AN HS).trans (AF (.inr g2));refine AG (v:=Af #[I K 3,I K (j:Int)]) (by simp[results,Tryz.results55,go_sem,Y,Z]) rfl ⟨by rw[hv],D.bel⟩
     ·go_wp2;go_roundw
      case rel=>exact⟨j+1,by omega,by go_num,(AN HS).trans (AA (by omega)),L⟩
      case measure=>simp[intOf];omega
   ·obtain rfl:j=gn:=(by omega);have hu:PV=Rv R j f n 0:=(by rw[hF,BR];rfl);have r0:=L.r0;have r1:=L.r1;have hS:=An hu;clear hF hu;go_wp2;clear r0 r1;go_loopw [36] (fun i wr=>∃k:Nat,k≤n∧i=I K k∧PV=Rv R j f (n - k) k∧VB w A n hl G j he wr) (fun i _=>n - (intOf i).toNat)
    case atStart=>exact⟨0,AS _,rfl,AN hS,L⟩
    case round =>
     clear hS L;obtain⟨k,hk,rfl,hF,L⟩:=hrel;obtain⟨W0,cg⟩:∃W,W=wr:=⟨_,rfl⟩;subst cg;by_cases hm:k<n
     ·have k0:(0:Int)≤(k:Int):=(by omega);have k1:(k:Int)<(n:Int):=(by omega);obtain⟨b,ht,hA,J⟩:=hR k hm;have J:=J.below L.bel;have c0:=J.c0;have c1:=J.c1;have c2:=J.c2;have c3:=J.v 0 (by omega);have c4:=J.v 1 (by omega);have c5:=J.v 2 (by omega);have c6:=J.v 3 (by omega);have c7:=J.v 4 (by omega);have c8:=J.v 5 (by omega);have c9:=J.v 6 (by omega);have hw:=J.v 7 (by omega);simp only[Bt,Nat.reduceAdd]at c3 c4 c5 c6 c7 c8 c9 hw;simp only[←Bt]at c3 c4 c5 c6 c7 c8 c9 hw;have HS:=An (hF.trans (UW R j f n k hm));have hi:=(fun W=>IG (R k).has W);have hy:(0<k→∃o',A=O ⟨b,o',N⟩∧W0.cell? ⟨b,o'+(k - 1)*11,N⟩=O (I K (R (k - 1)).ix)):=fun hT=>by
       obtain⟨b',cp,hz,hJ⟩:=hR (k - 1) (by omega);rw[hA]at hz;injection hz with hz;injection hz with e1 e2;subst e1 e2;exact⟨ht,hA,(hJ.below L.bel).c0⟩
      subst hA;have HW:Hid (Mk R j f k=if N4 (R k)=false∨(R k).ix<0∨(j:Int)≤(R k).ix then 3 else if 0<k∧(R k).ix≤(R (k - 1)).ix then 2 else if(R k).gen=f (R k).ix.toNat then 0 else 7):=rfl;generalize Mk R j f k=wi at *;clear hF J hR;generalize (R (k - 1)).ix=hU at *;obtain⟨x,hx⟩:∃x,x=R k:=⟨_,rfl⟩;rw[←hx]at c0 c1 c2 c3 c4 c5 c6 c7 c8 c9 hw hi HW;clear hx;by_cases hb:FV x.has=true
      ·have ho:=ML hb;rw[hb]at hi;go_wp2_with(first
        |(go_at_call 45;refine(hi _).mono ?_;rintro e w5⟨rfl,U⟩;subst U))
       clear hi c0 c1 c2 c3 c4 c5 c6 c7 c8 c9 hw;go_loopw [50] (fun i wr=>∃q:Nat,q≤8∧i=I K q∧Ng x q=true∧VB w (O ⟨b,ht,N⟩) n hl G j he wr∧wr.cell? ⟨W0.heap.size,0,N⟩=O (I K (k:Int))∧wr.cell? ⟨W0.heap.size+1,0,N⟩=O (I K x.ix)∧wr.cell? ⟨W0.heap.size+1,1,N⟩=O (I K x.gen)∧wr.cell? ⟨W0.heap.size+1,2,N⟩=O (I K x.has)∧Below W0.heap.size W0 wr) (fun i _=>8 - (intOf i).toNat)
       case atStart=>exact⟨0,AS _,rfl,rfl,L.below (IT _ _ _),by simp[go_sem],by simp[go_sem],by simp[go_sem],by simp[go_sem],IT _ _ _⟩
       case round =>
        clear L;obtain⟨q,hq,rfl,hB,L,d0,d1,d2,d3,hf⟩:=hrel;by_cases hX:q<8
        ·have q0:(0:Int)≤(q:Int):=(by omega);have q1:(q:Int)<8:=(by omega);have cq:=fun W=>aW x q W hX;have hC:=(fun W=>Gm (x.v q) W);have hD:=fun W=>M6 x.has (q:Int) W ho.1 ho.2;rw[←eJ x.has (q:Int) ho.1 ho.2]at hD;have e1:(bits .and K x.has (Ge (q:Int)) != 0)=IR x.has (q:Int):=rfl;rw[e1]at hD;have M:bO x q=(Hx (x.v q) && (x.v q == 0 || IR x.has (q:Int))):=rfl;have hY:=An (Yz x q);have hZ:=(bM x q hX);have hK:=An hf;have ca:=(fun(h:Ng x 8=false)=>(AN HW).trans (AF (.inl (by unfold N4;rw[hb,h];rfl))));clear hf HW hy e1;generalize bO x q=ok at *;generalize IR x.has (q:Int)=ha at *;generalize ch:x.v q=vq at *;clear ch;generalize Hx vq=va at *
         cases va
         ·have hh:ok=false:=(by rw[M];rfl);clear M;subst hh;have hc:wi=3:=ca (hZ rfl);subst hc;go_wp2_with(first
           |(go_at_call 97;refine(hC _).mono ?_;rintro e w5⟨rfl,U⟩;subst U)
           |(go_at_call 98;refine(La 3 (k:Int) W0.heap.size _ d0).mono ?_;rintro e w6⟨rfl,H⟩;have F:=(L.below H).ab;clear H)
           |(refine As rfl 29 (Am 2) (Am 69) rfl (w.heap.size+1) 0 [I K 3,I K (k:Int)] rfl rfl (by simp[Ar]) Kr F.there ?_;intro W9 E;have D:=F.give (I K 3) (I K (k:Int));rw[←E]at D;clear E))
          have Y:=D.t0;have Z:=D.t1;have hv:=(AN HS).trans (AA (by decide));refine AG (v:=Af #[I K 3,I K (k:Int)]) (by simp[results,Tryz.results55,go_sem,Y,Z]) rfl ⟨by rw[hv],D.bel⟩
         ·by_cases hL:vq=0
          ·have hh:ok=true:=(by rw[M,hL];rfl);clear M;subst hh;subst hL;go_wp2_with(first
            |(go_at_call 97;refine(hC _).mono ?_;rintro e w5⟨rfl,U⟩;subst U))
           go_roundw
           case rel=>exact⟨q+1,by omega,by go_num,by rw[AN hY,hB];rfl,L,d0,d1,d2,d3,AN hK⟩
           case measure=>simp[intOf];omega
          ·have ci:(vq == 0)=false:=(by simpa using hL);rw[ci]at M
           cases ha
           ·have hh:ok=false:=(by rw[M];rfl);clear M;subst hh;have hc:wi=3:=ca (hZ rfl);subst hc;go_wp2_with(first
             |(go_at_call 97;refine(hC _).mono ?_;rintro e w5⟨rfl,U⟩;subst U)
             |(go_at_call 61;refine(hD _).mono ?_;rintro e w5⟨rfl,V⟩;replace d0:=AW V d0;have hM:=(L.below V);clear V)
             |(go_at_call 98;refine(La 3 (k:Int) W0.heap.size _ d0).mono ?_;rintro e w6⟨rfl,H⟩;have F:=(hM.below H).ab;clear H)
             |(refine As rfl 29 (Am 2) (Am 69) rfl (w.heap.size+1) 0 [I K 3,I K (k:Int)] rfl rfl (by simp[Ar]) Kr F.there ?_;intro W9 E;have D:=F.give (I K 3) (I K (k:Int));rw[←E]at D;clear E))
            have Y:=D.t0;have Z:=D.t1;have hv:=(AN HS).trans (AA (by decide));refine AG (v:=Af #[I K 3,I K (k:Int)]) (by simp[results,Tryz.results55,go_sem,Y,Z]) rfl ⟨by rw[hv],D.bel⟩
           ·have hh:ok=true:=(by rw[M];rfl);clear M;subst hh;go_wp2_with(first
             |(go_at_call 97;refine(hC _).mono ?_;rintro e w5⟨rfl,U⟩;subst U)
             |(go_at_call 61;refine(hD _).mono ?_;rintro e w5⟨rfl,V⟩;replace d0:=AW V d0;replace d1:=AW V d1;replace d2:=AW V d2;replace d3:=AW V d3;have hM:=(L.below V);have cc:=((AN hK).trans (V.mono (AN hK).size));clear V))
            go_roundw
            case rel=>exact⟨q+1,by omega,by go_num,by rw[AN hY,hB];rfl,hM,d0,d1,d2,d3,cc⟩
            case measure=>simp[intOf];omega
        ·obtain rfl:q=8:=(by omega);have hE:N4 x=true:=(by unfold N4;rw[hb,hB];rfl);have r0:=L.r0;have r1:=L.r1;rw[hE]at HW;have hW:=AN HW;have hp:0<k→∃o',(O ⟨b,ht,N⟩:Option Addr)=O ⟨b,o',N⟩∧wr.cell? ⟨b,o'+(k - 1)*11,N⟩=O (I K hU):=fun h=>by
          obtain⟨o',h1,h2⟩:=hy h;exact⟨o',h1,AW hf h2⟩
         clear HW hy hB hb ho hE;obtain⟨ix,hH,cr,v⟩:=x;dsimp only at *;by_cases i0:ix<0
         ·have hc:wi=3:=hW.trans (AF (.inr (.inl i0)));subst hc;clear hW hp hf;go_wp2_with(first
           |(go_at_call 98;refine(La 3 (k:Int) W0.heap.size _ d0).mono ?_;rintro e w6⟨rfl,H⟩;have F:=(L.below H).ab;clear H)
           |(refine As rfl 29 (Am 2) (Am 84) rfl (w.heap.size+1) 0 [I K 3,I K (k:Int)] rfl rfl (by simp[Ar]) Kr F.there ?_;intro W9 E;have D:=F.give (I K 3) (I K (k:Int));rw[←E]at D;clear E))
          have Y:=D.t0;have Z:=D.t1;have hv:=(AN HS).trans (AA (by decide));refine AG (v:=Af #[I K 3,I K (k:Int)]) (by simp[results,Tryz.results55,go_sem,Y,Z]) rfl ⟨by rw[hv],D.bel⟩
         ·by_cases i1:(j:Int)≤ix
          ·have hc:wi=3:=hW.trans (AF (.inr (.inr i1)));subst hc;clear hW hp hf;go_wp2_with(first
            |(go_at_call 98;refine(La 3 (k:Int) W0.heap.size _ d0).mono ?_;rintro e w6⟨rfl,H⟩;have F:=(L.below H).ab;clear H)
            |(refine As rfl 29 (Am 2) (Am 84) rfl (w.heap.size+1) 0 [I K 3,I K (k:Int)] rfl rfl (by simp[Ar]) Kr F.there ?_;intro W9 E;have D:=F.give (I K 3) (I K (k:Int));rw[←E]at D;clear E))
           have Y:=D.t0;have Z:=D.t1;have hv:=(AN HS).trans (AA (by decide));refine AG (v:=Af #[I K 3,I K (k:Int)]) (by simp[results,Tryz.results55,go_sem,Y,Z]) rfl ⟨by rw[hv],D.bel⟩
          ·obtain⟨m,rfl⟩:∃m:Nat,ix=(m:Int):=⟨ix.toNat,by omega⟩;have cj:m<j:=(by omega);have m1:(m:Int)<(j:Int):=(by omega);have m0:(0:Int)≤(m:Int):=(by omega);rw[AA (by rintro(h|h|h);cases h;omega;omega),Bi]at hW;obtain⟨bg,og,rfl,cd⟩:=hG m cj;have cd:=AW L.bel cd;clear hG;generalize f m=fm at *;have ck:k=0∨∃k',k=k'+1:=by
            rcases k with _|k'
            ·exact .inl rfl
            ·exact .inr ⟨k',rfl⟩
           rcases ck with hT|⟨k',rfl⟩
           ·have cm:¬ (0:Int)<(k:Int):=(by omega);rw[AA (by omega)]at hW;clear hp hf hT;by_cases hd:hH=fm
            ·have hN:wi=0:=hW.trans (AF hd);subst hd hN;clear hW;go_wp2;go_quiet(fail)
             go_wp2;go_roundw
             case rel=>exact⟨k+1,by omega,by go_num,(AN HS).trans (AF trivial),L.below (Gt Fv _)⟩
             case measure=>simp[intOf];omega
            ·have hO:wi=7:=hW.trans (AA hd);have ce:¬ fm=hH:=fun h=>hd h.symm;subst hO;clear hW;go_wp2;go_quiet(fail)
             go_wp2_with(first
              |(go_at_call 98;refine(La 7 (k:Int) W0.heap.size _ (AW (Gt Fv _) d0)).mono ?_;rintro e w6⟨rfl,H⟩;have F:=((L.below (Gt Fv _)).below H).ab;clear H)
              |(refine As rfl 29 (Am 2) (Am 111) rfl (w.heap.size+1) 0 [I K 7,I K (k:Int)] rfl rfl (by simp[Ar]) Kr F.there ?_;intro W9 E;have D:=F.give (I K 7) (I K (k:Int));rw[←E]at D;clear E))
             have Y:=D.t0;have Z:=D.t1;have hv:=(AN HS).trans (AA (by decide));refine AG (v:=Af #[I K 7,I K (k:Int)]) (by simp[results,Tryz.results55,go_sem,Y,Z]) rfl ⟨by rw[hv],D.bel⟩
           ·obtain⟨o',hr,cn⟩:=hp (by omega);injection hr with hr;injection hr with _ hr;subst hr;rw[Dw]at cn;have cm:(0:Int)<((k':Int)+1):=(by omega);have ct:(0:Int)≤(k':Int):=(by omega);have cu:(k':Int)<(n:Int):=(by omega);have cv:wr.cell? ⟨W0.heap.size,0,N⟩=O (I K ((k':Int)+1)):=(by rw[d0];simp);clear hp hf;by_cases cf:(m:Int)≤hU
            ·have co:wi=2:=hW.trans (AF ⟨by omega,cf⟩);subst co;clear hW;go_wp2_with(first
              |(go_at_call 98;refine(La 2 ((k'+1:Nat):Int) W0.heap.size _ d0).mono ?_;rintro e w6⟨rfl,H⟩;have F:=(L.below H).ab;clear H)
              |(refine As rfl 29 (Am 2) (Am 100) rfl (w.heap.size+1) 0 [I K 2,I K ((k'+1:Nat):Int)] rfl rfl (by simp[Ar]) Kr F.there ?_;intro W9 E;have D:=F.give (I K 2) (I K ((k'+1:Nat):Int));rw[←E]at D;clear E))
             have Y:=D.t0;have Z:=D.t1;have hv:=(AN HS).trans (AA (by decide));refine AG (v:=Af #[I K 2,I K ((k'+1:Nat):Int)]) (by simp[results,Tryz.results55,go_sem,Y,Z]) rfl ⟨by rw[hv],D.bel⟩
            ·rw[AA (fun h=>cf h.2)]at hW;by_cases hd:hH=fm
             ·have hN:wi=0:=hW.trans (AF hd);subst hd hN;clear hW;go_wp2;go_quiet(fail)
              go_wp2;go_roundw
              case rel=>exact⟨k'+1+1,by omega,by go_num,(AN HS).trans (AF trivial),L.below (Gt Fv _)⟩
              case measure=>simp[intOf];omega
             ·have hO:wi=7:=hW.trans (AA hd);have ce:¬ fm=hH:=fun h=>hd h.symm;subst hO;clear hW;go_wp2;go_quiet(fail)
              go_wp2_with(first
               |(go_at_call 98;refine(La 7 ((k'+1:Nat):Int) W0.heap.size _ (AW (Gt Fv _) d0)).mono ?_;rintro e w6⟨rfl,H⟩;have F:=((L.below (Gt Fv _)).below H).ab;clear H)
               |(refine As rfl 29 (Am 2) (Am 111) rfl (w.heap.size+1) 0 [I K 7,I K ((k'+1:Nat):Int)] rfl rfl (by simp[Ar]) Kr F.there ?_;intro W9 E;have D:=F.give (I K 7) (I K ((k'+1:Nat):Int));rw[←E]at D;clear E))
              have Y:=D.t0;have Z:=D.t1;have hv:=(AN HS).trans (AA (by decide));refine AG (v:=Af #[I K 7,I K ((k'+1:Nat):Int)]) (by simp[results,Tryz.results55,go_sem,Y,Z]) rfl ⟨by rw[hv],D.bel⟩
      ·have hs:FV x.has=false:=(by simpa using hb);have hE:N4 x=false:=(by unfold N4;rw[hs];rfl);have hc:wi=3:=(AN HW).trans (AF (.inl hE));subst hc;rw[hs]at hi;clear HW hy;go_wp2_with(first
        |(go_at_call 45;refine(hi _).mono ?_;rintro e w5⟨rfl,U⟩;subst U)
        |(go_at_call 98;refine(La 3 (k:Int) W0.heap.size _ (by simp[go_sem])).mono ?_;rintro e w6⟨rfl,H⟩;have F:=(L.below (Zf _ _ _ H)).ab;clear H)
        |(refine As rfl 29 (Am 2) (Am 47) rfl (w.heap.size+1) 0 [I K 3,I K (k:Int)] rfl rfl (by simp[Ar]) Kr F.there ?_;intro W9 E;have D:=F.give (I K 3) (I K (k:Int));rw[←E]at D;clear E))
       have Y:=D.t0;have Z:=D.t1;have hv:=(AN HS).trans (AA (by decide));refine AG (v:=Af #[I K 3,I K (k:Int)]) (by simp[results,Tryz.results55,go_sem,Y,Z]) rfl ⟨by rw[hv],D.bel⟩
     ·obtain rfl:k=n:=(by omega);have hu:PV=(0,0):=(by rw[hF,BR];rfl);have F:=L.ab;clear hF hR;go_wp2_with(first
       |(refine As rfl 29 (Am 2) (Am 113) rfl (w.heap.size+1) 0 [I K 0,I K 0] rfl rfl (by simp[Ar]) Kr F.there ?_;intro W9 E;have D:=F.give (I K 0) (I K 0);rw[←E]at D;clear E))
      have Y:=D.t0;have Z:=D.t1;have hv:=hu;refine AG (v:=Af #[I K 0,I K 0]) (by simp[results,Tryz.results55,go_sem,Y,Z]) rfl ⟨by rw[hv],D.bel⟩
end Go.Proofs.YtnbleebilmghcabGreat
