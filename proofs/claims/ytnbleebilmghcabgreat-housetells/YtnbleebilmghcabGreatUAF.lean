/- PRows, PGet, PRight, PWrong -/
import Derived.Test.YtnbleebilmghcabGreatRows
import Derived.Test.YtnbleebilmghcabGreatUAA
import Derived.Test.YtnbleebilmghcabGreatUAE
set_option linter.all false
set_option maxRecDepth 8000
set_option maxHeartbeats 4000000
open Go.Value renaming int→I,slice→S,pointer→Ae,agg→Af,tuple→Ai,bool→Aj
open Go.IntKind renaming i64→K
open Option renaming none→N,some→O
open Go.Obj renaming cells→Al
open Go.Ending renaming returned→Ao
open Go.Proofs.Tryz renaming prog→Au
namespace Go.Proofs.YtnbleebilmghcabGreat
open Go Go.RowKit
attribute [local go_sem ↓] Go.wp_at_zero Go.wp_at_succ
structure D7 where
  ix:Int
  gen:Int
  has:Int
  v:Nat→Int
def Hi(x:D7):Value:=Af #[I K x.ix,I K x.gen,I K x.has,I K (x.v 0),I K (x.v 1),I K (x.v 2),I K (x.v 3),I K (x.v 4),I K (x.v 5),I K (x.v 6),I K (x.v 7)]
structure Hb(w:World)(b o:Nat)(x:D7):Prop where
  c0:w.cell? ⟨b,o,N⟩=O (I K x.ix)
  c1:w.cell? ⟨b,o+1,N⟩=O (I K x.gen)
  c2:w.cell? ⟨b,o+2,N⟩=O (I K x.has)
  v:∀k,k<8→w.cell? ⟨b,o+3+k,N⟩=O (I K (x.v k))
theorem Hb.below{w w1:World}{b o:Nat}{x:D7}(h:Hb w b o x)(D:Below w.heap.size w w1):Hb w1 b o x :=
  ⟨AW D h.c0,AW D h.c1,AW D h.c2,fun k E=>AW D (h.v k E)⟩
def JR(w:World)(A:Option Addr)(n:Nat)(R:Nat→D7):Prop:=∀j,j<n→∃b off,A=O ⟨b,off,N⟩∧Hb w b (off+j*11) (R j)
theorem JR.below{w w1:World}{A:Option Addr}{n:Nat}{R:Nat→D7}(h:JR w A n R)(E:Below w.heap.size w w1):JR w1 A n R:=fun j F=>by
  obtain⟨b,D,h0,H⟩:=h j F
  exact⟨b,D,h0,H.below E⟩
def TP(x:D7)(i g:Int):Bool:=x.ix == i && x.gen == g
theorem ZN(x:D7)(i g:Int)(b:Nat)(w:World)(h0:w.cell? ⟨b,0,N⟩=O (I K i))(D:w.cell? ⟨b,1,N⟩=O (I K g)):
    Calls Au 158 #[Hi x,Ae (O ⟨b,0,N⟩)] w fun e h=>e=Ao (Aj (TP x i g))∧Below w.heap.size w h:=by
  have E:b<w.heap.size:=AL w _ h0
  unfold Hi
  go_enter Tryz.func158,Tryz.ntmps158
  go_wp2
  all_goals
    go_ret
    exact⟨by simp[TP, *],by go_grown⟩
def Mt(R:Nat→D7)(i g:Int):Nat→Nat→Int
  |0,_=>-1
  |n+1,j=>if TP (R j) i g then(j:Int)else Mt R i g n (j+1)
theorem U7(R:Nat→D7)(i g:Int)(n j:Nat)(h:j<n):Mt R i g (n - j) j=if TP (R j) i g then(j:Int)else Mt R i g (n - (j+1)) (j+1):=by
  rw[show n - j=(n - (j+1))+1 by omega,Mt]
theorem R2(A:Option Addr)(n M:Nat)(R:Nat→D7)(i g:Int)(b:Nat)(w:World)(hn:n≤9223372036854775807)(U:JR w A n R)(h0:w.cell? ⟨b,0,N⟩=O (I K i))(V:w.cell? ⟨b,1,N⟩=O (I K g)):
    Calls Au 157 #[S A n M,.func (.func 158) #[] #[Ae (O ⟨b,0,N⟩)]] w fun e w'=>e=Ao (I K (Mt R i g n 0))∧Below w.heap.size w w':=by
  go_enter Tryz.func157,Tryz.ntmps157
  go_wp2
  go_loopw [8] (fun x wr=>∃j:Nat,j≤n∧x=I K j∧Mt R i g n 0=Mt R i g (n - j) j∧Below w.heap.size w wr) (fun x _=>n - (intOf x).toNat)
  case atStart=>exact⟨0,AS _,rfl,rfl,AD _ _⟩
  case round =>
    obtain⟨j,hj,rfl,hF,D⟩:=hrel
    have Y:=An hF
    clear hF
    by_cases E:j<n
    · have j0:(0:Int)≤(j:Int):=by omega
      have j1:(j:Int)<(n:Int):=by omega
      obtain⟨b',ha,rfl,h⟩:=U j E
      have h:=h.below D
      have c0:=h.c0
      have c1:=h.c1
      have c2:=h.c2
      have c3:=h.v 0 (by omega)
      have c4:=h.v 1 (by omega)
      have c5:=h.v 2 (by omega)
      have c6:=h.v 3 (by omega)
      have c7:=h.v 4 (by omega)
      have c8:=h.v 5 (by omega)
      have c9:=h.v 6 (by omega)
      have F:=h.v 7 (by omega)
      simp only[Bt,Nat.reduceAdd]at c3 c4 c5 c6 c7 c8 c9 F
      simp only[←Bt]at c3 c4 c5 c6 c7 c8 c9 F
      have HS:=An (U7 R i g n j E)
      have HC:=(ZN (R j) i g b wr (AW D h0) (AW D V))
      have H:=An D
      clear h D U h0 V
      generalize TP (R j) i g=ok at *
      cases ok
      all_goals
        go_wp2_with(first
          |(go_at_call 158;refine HC.mono ?_;rintro e w5⟨rfl,J⟩;have L:=((AN H).trans (J.mono (AN H).size));clear J))
        first
        | (go_ret
           have Z:Mt R i g n 0=(j:Int):=(AN Y).trans ((AN HS).trans (by simp))
           rw[Z]
           exact⟨rfl,L⟩)
        | (go_roundw
           case rel=>exact⟨j+1,by omega,by go_num,(AN Y).trans ((AN HS).trans (by simp)),L⟩
           case measure=>simp[intOf];omega)
    · obtain rfl:j=n:=by omega
      have Z:Mt R i g j 0=-1:=by rw[AN Y,BR];rfl
      have HB:=D
      clear D U h0 V
      go_wp2
      go_ret
      rw[Z]
      exact⟨rfl,HB⟩
def FJ(i g:Int):Value:=Af #[I K i,I K g]
theorem On(A:Option Addr)(n h:Nat)(R:Nat→D7)(i g:Int)(w:World)(L:n≤9223372036854775807)(H:JR w A n R):
    Calls Au 144 #[S A n h,FJ i g] w fun e M=>e=Ao (I K (Mt R i g n 0))∧Below w.heap.size w M:=by
  have E:Below w.heap.size w (w.alloc (Al #[I K i,I K g] 61)):=Fv.alloc Fu _
  have U:=(R2 A n h R i g w.heap.size _ L (H.below E) (by simp) (by simp))
  have J:=An E
  clear E H
  unfold FJ
  go_enter Tryz.func144,Tryz.ntmps144
  go_wp2_with(first
    |(go_at_call 157;refine U.mono ?_;rintro e V⟨rfl,D⟩;have F:=((AN J).trans (D.mono (AN J).size));clear D))
  go_ret
  exact⟨rfl,F⟩
theorem Lz(R:Nat→D7)(i g:Int):∀n j,Mt R i g n j=-1∨∃k:Nat,j≤k∧k<j+n∧Mt R i g n j=(k:Int)∧TP (R k) i g=true
  |0,_=>.inl rfl
  | n+1,j=>by
    unfold Mt
    cases h:TP (R j) i g
    · simp only[Cy,BG]
      rcases Lz R i g n (j+1)with D|⟨k,D,H,E,F⟩
      ·exact .inl D
      ·exact .inr ⟨k,by omega,by omega,E,F⟩
    · simp only[BX]
      exact .inr ⟨j,by omega,by omega,rfl,h⟩
def FF(A:Option Addr)(n cap:Nat)(G:Option Addr)(gn gcap:Nat):Value:=Af #[S A n cap,S G gn gcap]
def IR(h p:Int):Bool:=bits .and K h (Ge p) != 0
def RD(R:Nat→D7)(n:Nat)(i g p:Int):Int×Bool :=
 if Mt R i g n 0<0 then(0,false)else if IR (R (Mt R i g n 0).toNat).has p then((R (Mt R i g n 0).toNat).v p.toNat,true)else(0,false)
theorem Lw(h p:Int)(D:IR h p=true):∃k:Nat,k<8∧p=(k:Int):=by
 by_cases E:F5 p=true
 ·have:=AM E;exact⟨p.toNat,by omega,by omega⟩
 ·exfalso;have e:Ge p=0:=by unfold Ge;rw[AA];simpa[F5]using E
  unfold IR at D;rw[e]at D;have F:bits .and K h 0=0:=by
   have H:bits .and K h 0=IntKind.i64.wrap (((BitVec.ofInt 64 h &&& BitVec.ofInt 64 0).toNat:Nat):Int):=rfl;rw[H];simp[CS]
  rw[F]at D;simp at D
structure GW(w:World)(A:Option Addr)(n cap:Nat)(W:World):Prop where
 bel:Below w.heap.size w W
 r:W.cell? ⟨w.heap.size,0,N⟩=O (S A n cap)
theorem P4(A:Option Addr)(n E:Nat)(G:Option Addr)(V F:Nat)(R:Nat→D7)(i g p:Int)(w:World)(hn:n≤9223372036854775807)(Y:JR w A n R):
  Calls Au 120 #[FF A n E G V F,FJ i g,I K p] w fun e w'=>e=Ao (Ai #[I K (RD R n i g p).1,Aj (RD R n i g p).2])∧Below w.heap.size w w':=by
 have M:Below w.heap.size w ((w.alloc (Al #[S A n E,S G V F] 43)).alloc (Al #[I K i,I K g] 61)):=by go_grown
 have U:=(On A n E R i g _ hn (Y.below M));have J:GW w A n E ((w.alloc (Al #[S A n E,S G V F] 43)).alloc (Al #[I K i,I K g] 61)):=⟨M,by simp[go_sem]⟩;clear M;unfold FF RD;unfold FJ at *;rcases Lz R i g n 0 with L|⟨k,_,hk,L,hi⟩
 ·rw[L]at U;have e:(if Mt R i g n 0<0 then((0:Int),false)else if IR (R (Mt R i g n 0).toNat).has p then((R (Mt R i g n 0).toNat).v p.toNat,true)else(0,false))=(0,false):=by rw[AF (by omega)]
  rw[e];clear e L;go_enter Tryz.func120,Tryz.ntmps120
  go_wp2_with(first
   |(go_at_call 144;refine U.mono ?_;rintro e w5⟨rfl,h⟩;have D:=(J.bel.trans (h.mono J.bel.size));clear h))
  go_ret2
  exact⟨rfl,D⟩
 ·rw[L]at U;have Z:k<n:=by omega
  have e:(if Mt R i g n 0<0 then((0:Int),false)else if IR (R (Mt R i g n 0).toNat).has p then((R (Mt R i g n 0).toNat).v p.toNat,true)else(0,false))=if IR (R k).has p then((R k).v p.toNat,true)else(0,false):=by
   rw[AA (by omega),L];rfl
  rw[e];clear e;obtain⟨b,hc,rfl,H⟩:=Y k Z;have hd:(0:Int)≤(k:Int):=by omega
  have he:(k:Int)<(n:Int):=by omega
  have hg:¬ (k:Int)<0:=by omega
  have HH:=(fun W=>Om (R k).has p W);have ha:=(Lw (R k).has p);clear Y L hi;unfold IR at *;generalize (bits .and K (R k).has (Ge p) != 0)=M at *
  cases M
  ·go_enter Tryz.func120,Tryz.ntmps120
   go_wp2_with(first
    |(go_at_call 144;refine U.mono ?_;rintro e w5⟨rfl,h⟩;have D:=(J.bel.trans (h.mono J.bel.size));have r0:=AW h J.r;have c2:=(H.below D).c2;clear h)
    |(go_at_call 126;refine(HH _).mono ?_;rintro e w6⟨rfl,hw⟩;obtain rfl:=hw.symm))
   go_ret2
   exact⟨rfl,D⟩
  ·obtain⟨q,hq,rfl⟩:=ha rfl;have hh:(0:Int)≤(q:Int):=(by omega);have hj:(q:Int)<8:=(by omega);go_enter Tryz.func120,Tryz.ntmps120
   go_wp2_with(first
    |(go_at_call 144;refine U.mono ?_;rintro e w5⟨rfl,h⟩;have D:=(J.bel.trans (h.mono J.bel.size));have r0:=AW h J.r;have c2:=(H.below D).c2;have cv:=(H.below D).v q hq;clear h)
    |(go_at_call 126;refine(HH _).mono ?_;rintro e w6⟨rfl,hw⟩;obtain rfl:=hw.symm))
   go_ret2
   exact⟨rfl,D⟩
def bO(x:D7)(k:Nat):Bool:=Hx (x.v k) && (x.v k == 0 || IR x.has (k:Int))
def Ng(x:D7)(t:Nat):Bool:=(List.range t).all (fun k=>bO x k)
def N4(x:D7):Bool:=FV x.has && Ng x 8
theorem Yy(x:D7)(t:Nat):Ng x (t+1)=(Ng x t && bO x t):=by
  unfold Ng;rw[CY,EK];simp
theorem WW(x:D7)(k t:Nat)(D:k<t)(h:bO x k=false):Ng x t=false:=by
  unfold Ng;rw[Ez];exact⟨k,Bh.2 D,by simp[h]⟩
theorem fh(v:Nat→Int)(k:Nat)(w:World)(h:k<8):
    Sem.run Au (Instr.index 114 (Af #[I K (v 0),I K (v 1),I K (v 2),I K (v 3),I K (v 4),I K (v 5),I K (v 6),I K (v 7)]) (I K (k:Int))) w=.ok (I K (v k)) w:=by
  rcases(by omega:k=0∨k=1∨k=2∨k=3∨k=4∨k=5∨k=6∨k=7)with rfl|rfl|rfl|rfl|rfl|rfl|rfl|rfl
  all_goals simp[Instr.index,go_sem]
theorem Ru(x:D7)(w:World):
    Calls Au 104 #[Hi x] w fun e Z=>e=Ao (Aj (N4 x))∧Below w.heap.size w Z:=by
  have D:=fun k W hk=>fh x.v k W hk;unfold Hi N4
  cases hs:FV x.has
  · go_enter Tryz.func104,Tryz.ntmps104
    go_wp2_with(first
      |(go_at_call 44;refine(Hs _ _).mono ?_;rintro e w1⟨rfl,E⟩;obtain rfl:=E.symm))
    go_ret;exact⟨by simp,by go_grown⟩
  · go_enter Tryz.func104,Tryz.ntmps104
    go_wp2_with(first
      |(go_at_call 44;refine(Hs _ _).mono ?_;rintro e w1⟨rfl,E⟩;obtain rfl:=E.symm))
    go_loop [11] (fun i=>∃t:Nat,t≤8∧i=I K t∧Ng x t=true) (fun i=>8 - (intOf i).toNat)
    case atStart=>exact⟨0,by omega,rfl,rfl⟩
    case round =>
      obtain⟨t,ht,rfl,F⟩:=hrel;have V:=An F;clear F;by_cases H:t<8
      · have t0:(0:Int)≤(t:Int):=by omega
        have t1:(t:Int)<8:=(by omega);have Y:=fun W=>D t W H;have HS:=An (Yy x t);have HF:=(WW x t 8 H);have M:Hid (bO x t=(Hx (x.v t) && (x.v t == 0 || IR x.has (t:Int)))):=rfl;have HV:=(fun W=>Il (x.v t) W);have HH:=(fun W=>Om x.has (t:Int) W);clear D;unfold IR at M;generalize bO x t=ok at *;generalize (bits .and K x.has (Ge (t:Int)) != 0)=U at *;generalize Hx (x.v t)=J at *;generalize x.v t=L at *;have hc:J=false∨(J=true∧L=0)∨(J=true∧¬ L=0∧U=false)∨(J=true∧¬ L=0∧U=true):=by
          by_cases h:L=0 <;>cases J <;>cases U <;>simp[h]
        rcases hc with rfl|⟨rfl,rfl⟩|⟨rfl,hz,rfl⟩|⟨rfl,hz,rfl⟩
        all_goals
          go_wp2_with(first
            |(go_at_call 124;refine(HV _).mono ?_;rintro e w1⟨rfl,E⟩;obtain rfl:=E.symm)
            |(go_at_call 126;refine(HH _).mono ?_;rintro e w1⟨rfl,E⟩;obtain rfl:=E.symm))
          first
          | (go_ret
             have hv:Ng x 8=false:=HF ((AN M).trans (by simp[*]));rw[hv];exact⟨rfl,by go_grown⟩)
          | (go_round
             case rel=>exact⟨t+1,by omega,by go_num,by rw[AN HS,AN V,AN M];simp[*]⟩
             case measure=>simp[intOf];omega)
      · obtain rfl:t=8:=by omega
        clear D;go_wp2;go_ret;exact⟨by rw[AN V];rfl,by go_grown⟩
def LA(w:World)(G:Option Addr)(n:Nat)(f:Nat→Int):Prop:=∀j,j<n→∃b off,G=O ⟨b,off,N⟩∧w.cell? ⟨b,off+j,N⟩=O (I K (f j))
theorem LA.below{w w1:World}{G:Option Addr}{n:Nat}{f:Nat→Int}(h:LA w G n f)(E:Below w.heap.size w w1):LA w1 G n f:=fun j F=>by
 obtain⟨b,D,h0,H⟩:=h j F;exact⟨b,D,h0,AW E H⟩
def Mk(R:Nat→D7)(gn:Nat)(f:Nat→Int)(j:Nat):Int :=
 if N4 (R j)=false∨(R j).ix<0∨(gn:Int)≤(R j).ix then 3 else if 0<j∧(R j).ix≤(R (j - 1)).ix then 2 else if(R j).gen=f (R j).ix.toNat then 0 else 7
theorem Gt{B:Nat}{a w:World}(h:Below B a w)(n:Nat):Below B a (w.drewN n):=⟨h.os,h.tape,h.output,h.size,h.block⟩
structure PW(w:World)(A:Option Addr)(n cap:Nat)(G:Option Addr)(gn gcap:Nat)(x:D7)(W:World):Prop where
 bel:Below w.heap.size w W
 r0:W.cell? ⟨w.heap.size,0,N⟩=O (S A n cap)
 r1:W.cell? ⟨w.heap.size,1,N⟩=O (S G gn gcap)
 d0:W.cell? ⟨w.heap.size+1,0,N⟩=O (I K x.ix)
 d1:W.cell? ⟨w.heap.size+1,1,N⟩=O (I K x.gen)
theorem PW.below{w:World}{A:Option Addr}{n E:Nat}{G:Option Addr}{H D:Nat}{x:D7}{W W1:World}(h:PW w A n E G H D x W)(F:Below W.heap.size W W1):PW w A n E G H D x W1 :=
 ⟨h.bel.trans (F.mono h.bel.size),AW F h.r0,AW F h.r1,AW F h.d0,AW F h.d1⟩
theorem PW.start(w:World)(A:Option Addr)(n D:Nat)(G:Option Addr)(E h:Nat)(x:D7):PW w A n D G E h x ((w.alloc (Al #[S A n D,S G E h] 43)).alloc (Al #[I K x.ix,I K x.gen,I K x.has,I K (x.v 0),I K (x.v 1),I K (x.v 2),I K (x.v 3),I K (x.v 4),I K (x.v 5),I K (x.v 6),I K (x.v 7)] 116)):=
 ⟨by go_grown,by simp[go_sem],by simp[go_sem],by simp[go_sem],by simp[go_sem]⟩
theorem Ss(A:Option Addr)(n U:Nat)(G:Option Addr)(M H:Nat)(R:Nat→D7)(f:Nat→Int)(j:Nat)(w:World)(hj:j<n)(hn:n≤9223372036854775807)(hR:JR w A n R)(hG:LA w G M f):
  Calls Au 67 #[FF A n U G M H,I K (j:Int)] w fun e w'=>e=Ao (I K (Mk R M f j))∧Below w.heap.size w w':=by
 have hP:=PW.start w A n U G M H (R j);obtain⟨b,he,rfl,D⟩:=hR j hj;have hf:Below w.heap.size w (w.alloc (Al #[S (O ⟨b,he,N⟩) n U,S G M H] 43)):=Fv.alloc Fu _;have c0:=D.c0;have c1:=D.c1;have c2:=D.c2;have c3:=D.v 0 (by omega);have c4:=D.v 1 (by omega);have c5:=D.v 2 (by omega);have c6:=D.v 3 (by omega);have c7:=D.v 4 (by omega);have c8:=D.v 5 (by omega);have c9:=D.v 6 (by omega);have V:=D.v 7 (by omega);simp only[Bt,Nat.reduceAdd]at c3 c4 c5 c6 c7 c8 c9 V;simp only[←Bt]at c3 c4 c5 c6 c7 c8 c9 V;have hz:b<w.heap.size:=AL w _ c0;have F:=(fun W=>Ru (R j) W);have hk:(0:Int)≤(j:Int):=by omega
 have hl:(j:Int)<(n:Int):=by omega
 clear D hf;unfold Hi at F;unfold FF Mk
 cases hv:N4 (R j)
 ·rw[hv]at F;simp only[true_or,BX];go_enter Tryz.func67,Tryz.ntmps67
  go_wp2_with(first
   |(go_at_call 104;refine(F _).mono ?_;rintro e w5⟨rfl,E⟩;have h:=An (hP.below E);clear E))
  go_ret;exact⟨rfl,h.bel⟩
 ·rw [hv]at F;by_cases Y:(R j).ix<0
  ·simp only[Y,true_or,or_true,BX];go_enter Tryz.func67,Tryz.ntmps67
   go_wp2_with(first
    |(go_at_call 104;refine(F _).mono ?_;rintro e w5⟨rfl,E⟩;have h:=An (hP.below E);clear E))
   go_ret;exact⟨rfl,h.bel⟩
  ·by_cases Z:(M:Int)≤(R j).ix
   ·simp only[Z,or_true,BX];go_enter Tryz.func67,Tryz.ntmps67
    go_wp2_with(first
     |(go_at_call 104;refine(F _).mono ?_;rintro e w5⟨rfl,E⟩;have h:=hP.below E;have r1:=h.r1;clear E))
    go_ret;exact⟨rfl,h.bel⟩
   ·simp only[Y,Z,C2,or_self,BG];have hq:∃q:Nat,q<M∧(R j).ix=(q:Int):=⟨(R j).ix.toNat,by omega,by omega⟩;obtain⟨q,hq,hb⟩:=hq;obtain⟨bg,og,rfl,cg⟩:=hG q hq;have hm:(0:Int)≤(q:Int):=(by omega);have ho:(q:Int)<(M:Int):=(by omega);have hr:¬ (q:Int)<0:=(by omega);have hs:¬ (M:Int)≤(q:Int):=(by omega);clear hG Y Z
    cases j with
    | zero =>
     generalize R 0=x at *;obtain⟨ix,ha,hg,v⟩:=x;dsimp only at *;subst hb;simp only[Nat.lt_irrefl,false_and,BG,Bi];simp only[E7,Ay]at c0 c1 c2 c3 c4 c5 c6 c7 c8 c9 V;clear hR;by_cases J:ha=f q
     all_goals
      first
      |(subst J;simp only[BX])
      |simp only[J,BG]
      go_enter Tryz.func67,Tryz.ntmps67
      go_wp2_with(first
       |(go_at_call 104;refine(F _).mono ?_;rintro e w5⟨rfl,E⟩;have h:=hP.below E;have r0:=h.r0;have r1:=h.r1;have d0:=h.d0;have d1:=h.d1;have cg:=AW h.bel cg;clear E))
      go_quiet(fail)
      go_wp2_with fail
      go_ret;exact⟨rfl,Gt h.bel _⟩
    | succ m =>
     obtain⟨b',hi,hc,L⟩:=hR m (by omega);simp only[Bc,Cr,Bx]at hc;obtain⟨rfl,rfl⟩:=hc;have hd:=L.c0;clear L hR;simp only[Dw,Nat.zero_lt_succ,Br];generalize R (m+1)=x at *;obtain⟨ix,ha,hg,v⟩:=x;dsimp only at *;subst hb;simp only[Bi];generalize (R m).ix=hh at *;have ht:(0:Int)<(m:Int)+1:=(by omega);have hu:(m:Int)<(n:Int):=(by omega);have hw:(0:Int)≤(m:Int):=(by omega);by_cases hp:(q:Int)≤hh
     ·simp only[hp,BX];go_enter Tryz.func67,Tryz.ntmps67
      go_wp2_with(first
       |(go_at_call 104;refine(F _).mono ?_;rintro e w5⟨rfl,E⟩;have h:=hP.below E;have r0:=h.r0;have r1:=h.r1;have d0:=h.d0;have d1:=h.d1;have pv:=AW h.bel hd;clear E))
      go_ret;exact⟨rfl,h.bel⟩
     ·simp only[hp,BG];by_cases J:ha=f q
      all_goals
       first
       |(subst J;simp only[BX])
       |simp only[J,BG]
       go_enter Tryz.func67,Tryz.ntmps67
       go_wp2_with(first
        |(go_at_call 104;refine(F _).mono ?_;rintro e w5⟨rfl,E⟩;have h:=hP.below E;have r0:=h.r0;have r1:=h.r1;have d0:=h.d0;have d1:=h.d1;have cg:=AW h.bel cg;have pv:=AW h.bel hd;clear E))
       go_quiet(fail)
       go_wp2_with fail
       go_ret;exact⟨rfl,Gt h.bel _⟩
end Go.Proofs.YtnbleebilmghcabGreat
