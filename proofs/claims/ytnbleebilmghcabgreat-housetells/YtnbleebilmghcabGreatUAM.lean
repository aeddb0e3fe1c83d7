/- PNext2, PSpawn0, PAlive -/
import Derived.Test.YtnbleebilmghcabGreatUAC
import Derived.Test.YtnbleebilmghcabGreatUAB
import Derived.Test.YtnbleebilmghcabGreatUAI
import Derived.Test.YtnbleebilmghcabGreatUAK
set_option linter.all false
set_option maxRecDepth 8000
set_option maxHeartbeats 4000000
open Go.Value renaming int→I,slice→S,pointer→Ae,agg→Af,tuple→Ai,bool→Aj,oneCell'→Ar,ownBlock→Ax
open Go.IntKind renaming i64→K
open Option renaming none→N,some→O
open Go.Obj renaming cells→Al
open Go.Operand renaming tmp→Am
open Go.Ending renaming returned→Ao
open Go.Proofs.Tryz renaming prog→Au
namespace Go.Proofs.YtnbleebilmghcabGreat
open Go Go.RowKit
attribute [local go_sem ↓] Go.wp_at_zero Go.wp_at_succ
theorem Im:(Au.info? 61).map (·.size)=O 2:=by kernel_rfl
def Gl(X:Wd):(Int×Int)×Int:=Kv X X.gens.length 0
theorem Sa(X:Wd)(n j:Nat)(h:j<n):Kv X (n - j) j=if KI X.rows X.rows.length j=false∧X.gens.getD j 0<1000 then((((j:Nat):Int),X.gens.getD j 0+1),0)else Kv X (n - (j+1)) (j+1):=by
  rw[show n - j=(n - (j+1))+1 by omega,Kv]
theorem bS(A:Option Addr)(H:Nat)(G:Option Addr)(E:Nat)(X:Wd)(w:World)(hn:X.rows.length≤140737488355328)(hi:X.gens.length≤140737488355328)(U:∀ j,j<X.gens.length→-9223372036854775808≤X.gens.getD j 0)(hX:FX w A H G E X):
    Calls Au 148 #[Up A H G E X] w fun e w'=>e=Ao (Ai #[FJ (Gl X).1.1 (Gl X).1.2,I K (Gl X).2])∧Below w.heap.size w w':=by
  obtain⟨W1,L⟩:∃W,W=w.alloc (Al #[S A X.rows.length H,S G X.gens.length E] 43):=⟨_,rfl⟩;have z1:W1.heap.size=w.heap.size+1:=by rw[L];simp
  have b1:Below w.heap.size w W1:=by rw[L];go_grown
  obtain⟨y0,y1,yf,yb⟩:=H' (W:=W1) (u0:=I K 0) (u1:=I K 0) (t:=61) z1;have V:AB w (w.heap.size+1) (I K 0) (I K 0) (W1.alloc (Al #[I K 0,I K 0] 61)):=⟨b1.trans (yb.mono b1.size),by omega,y0,y1,yf⟩;have hN:Tl w (S A X.rows.length H) (S G X.gens.length E) (W1.alloc (Al #[I K 0,I K 0] 61)):=(L▸Tl.start w _ _:Tl w (S A X.rows.length H) (S G X.gens.length E) W1).below yb;have hC:=ZF A H G E X (W1.alloc (Al #[I K 0,I K 0] 61)) hn hi (hX.below V.bel);rw[L]at hC V hN;have HG:=An hX.gens;have Y:=An U;have HU:=An (fun i h=>Z3 X.rows X.gens.length X.rows.length i h);clear L z1 b1 y0 y1 yf yb hX U;unfold Up FF FJ Gl at *;go_enter Tryz.func148,Tryz.ntmps148
  go_wp2_with(first
    |(go_at_call 162;refine hC.mono ?_;rintro e w5⟨u,rfl,hd,Z⟩;have ha:=hN.below Z;have r1:=ha.r1;have hk:=An hd;have J:=(V.below Z);clear hd Z))
  clear r1;go_loop [12] (fun i=>∃j:Nat,j≤X.gens.length∧i=I K j∧Kv X X.gens.length 0=Kv X (X.gens.length - j) j) (fun i=>X.gens.length - (intOf i).toNat)
  case atStart=>exact⟨0,AS _,rfl,rfl⟩
  case round =>
    obtain⟨j,hj,rfl,hF⟩:=hrel;have HF:=An hF;clear hF;by_cases M:j<X.gens.length
    · have j0:(0:Int)≤(j:Int):=by omega
      have j1:(j:Int)<(X.gens.length:Int):=(by omega);obtain⟨b,hl,hm,hg⟩:=(AN HG) j M;have hg:w5.cell? ⟨b,hl+j,N⟩=O (I K (X.gens.getD j 0)):=AW ha.bel hg;have ho:=F4 (AN hk) (AN HU j M);have U:=AN Y j M;have HS:=An (Sa X X.gens.length j M);subst hm;clear HG Y HU;generalize X.gens.getD j 0=gj at *;generalize KI X.rows X.rows.length j=ub at *;have hc:ub=true∨(ub=false∧gj<1000)∨(ub=false∧¬ gj<1000):=by
        cases ub
        · by_cases h:gj<1000
          ·exact .inr (.inl ⟨rfl,h⟩)
          ·exact .inr (.inr ⟨rfl,h⟩)
        ·exact .inl R
      rcases hc with rfl|⟨rfl,hb⟩|⟨rfl,hb⟩
      · go_wp2
        go_round
        case rel=>exact⟨j+1,by omega,by go_num,(AN HF).trans ((AN HS).trans (by simp))⟩
        case measure=>simp[intOf];omega
      · go_wp2_with(first
          |(refine As R 61 (Am 2) (Am 29) R (w.heap.size+1) 0 [I K (j:Int),I K (gj+1)] R R (by simp[Ar]) Im J.there ?_;intro W3 F;have D:=J.give (I K (j:Int)) (I K (gj+1));rw[←F]at D;clear F))
        have t0:=D.t0;have t1:=D.t1;have hv:=(AN HF).trans ((AN HS).trans (AF (by simpa using hb)));refine AG (by simp[results,Tryz.results148,go_sem,t0,t1]<;>rfl) R ⟨by rw[hv],D.bel⟩
      · go_wp2
        go_round
        case rel=>exact⟨j+1,by omega,by go_num,(AN HF).trans ((AN HS).trans (AA (fun h=>hb h.2)))⟩
        case measure=>simp[intOf];omega
    · obtain rfl:j=X.gens.length:=by omega
      have he:Kv X X.gens.length 0=if 60≤X.gens.length then((0,0),4)else((((X.gens.length:Nat):Int),1),0):=by rw[AN HF,BR];rfl
      have HV:=An he;have r1:=ha.r1;clear HG Y HU HF he;by_cases hf:60≤X.gens.length
      · have hh:(60:Int)≤(X.gens.length:Int):=by omega
        go_wp2_with(first
          |(refine As R 61 (Am 2) (Am 35) R (w.heap.size+1) 0 [I K 0,I K 0] R R (by simp[Ar]) Im J.there ?_;intro W3 F;have D:=J.give (I K 0) (I K 0);rw[←F]at D;clear F))
        have t0:=D.t0;have t1:=D.t1;have hv:=(AN HV).trans (AF hf);refine AG (by simp[results,Tryz.results148,go_sem,t0,t1]<;>rfl) R ⟨by rw[hv],D.bel⟩
      · have hh:¬ (60:Int)≤(X.gens.length:Int):=by omega
        go_wp2_with(first
          |(refine As R 61 (Am 2) (Am 39) R (w.heap.size+1) 0 [I K (X.gens.length:Int),I K 1] R R (by simp[Ar]) Im J.there ?_;intro W3 F;have D:=J.give (I K (X.gens.length:Int)) (I K 1);rw[←F]at D;clear F))
        have t0:=D.t0;have t1:=D.t1;have hv:=(AN HV).trans (AA hf);refine AG (by simp[results,Tryz.results148,go_sem,t0,t1]<;>rfl) R ⟨by rw[hv],D.bel⟩
def NG(R:Nat→D7)(i:Int):Nat→Nat→Int
  |0,_=>-1
  |n+1,j=>if i<(R j).ix then(j:Int)else NG R i n (j+1)
theorem ZH(R:Nat→D7)(i:Int)(n j:Nat)(h:j<n):NG R i (n - j) j=if i<(R j).ix then(j:Int)else NG R i (n - (j+1)) (j+1):=by
  rw[show n - j=(n - (j+1))+1 by omega,NG]
theorem WS(x:D7)(i:Int)(b:Nat)(w:World)(h0:w.cell? ⟨b,0,N⟩=O (I K i)):
    Calls Au 165 #[Hi x,Ae (O ⟨b,0,N⟩)] w fun e h=>e=Ao (Aj (decide (i<x.ix)))∧Below w.heap.size w h:=by
  have D:b<w.heap.size:=AL w _ h0;unfold Hi;go_enter Tryz.func165,Tryz.ntmps165
  go_wp2
  all_goals
    go_ret;exact⟨by simp[*],by go_grown⟩
theorem Q5(A:Option Addr)(n U:Nat)(R:Nat→D7)(i:Int)(b:Nat)(w:World)(hn:n≤140737488355328)(V:JR w A n R)(h0:w.cell? ⟨b,0,N⟩=O (I K i)):
    Calls Au 157 #[S A n U,.func (.func 165) #[] #[Ae (O ⟨b,0,N⟩)]] w fun e w'=>e=Ao (I K (NG R i n 0))∧Below w.heap.size w w':=by
  go_enter Tryz.func157,Tryz.ntmps157
  go_wp2;go_loopw [8] (fun x wr=>∃j:Nat,j≤n∧x=I K j∧NG R i n 0=NG R i (n - j) j∧Below w.heap.size w wr) (fun x _=>n - (intOf x).toNat)
  case atStart=>exact⟨0,AS _,rfl,rfl,AD _ _⟩
  case round =>
    obtain⟨j,hj,rfl,hF,D⟩:=hrel;have Y:=An hF;clear hF;by_cases E:j<n
    · have j0:(0:Int)≤(j:Int):=by omega
      have j1:(j:Int)<(n:Int):=(by omega);obtain⟨b',ha,rfl,h⟩:=V j E;have h:=h.below D;have c0:=h.c0;have c1:=h.c1;have c2:=h.c2;have c3:=h.v 0 (by omega);have c4:=h.v 1 (by omega);have c5:=h.v 2 (by omega);have c6:=h.v 3 (by omega);have c7:=h.v 4 (by omega);have c8:=h.v 5 (by omega);have c9:=h.v 6 (by omega);have F:=h.v 7 (by omega);simp only[Bt,Nat.reduceAdd]at c3 c4 c5 c6 c7 c8 c9 F;simp only[←Bt]at c3 c4 c5 c6 c7 c8 c9 F;have HS:=An (ZH R i n j E);have HC:=(WS (R j) i b wr (AW D h0));have H:=An D;clear h D V h0;by_cases ok:i<(R j).ix
      all_goals
        try(have J:decide (i<(R j).ix)=true:=by simpa using ok)
        try(have J:decide (i<(R j).ix)=false:=by simpa using ok)
        rw[J]at HC;go_wp2_with(first
          |(go_at_call 165;refine HC.mono ?_;rintro e w5⟨rfl,L⟩;have M:=((AN H).trans (L.mono (AN H).size));clear L))
        first
        | (go_ret
           have Z:NG R i n 0=(j:Int):=(AN Y).trans ((AN HS).trans (AF (by omega)));rw[Z];exact⟨rfl,M⟩)
        | (go_roundw
           case rel=>exact⟨j+1,by omega,by go_num,(AN Y).trans ((AN HS).trans (AA (by omega))),M⟩
           case measure=>simp[intOf];omega)
    · obtain rfl:j=n:=by omega
      have Z:NG R i j 0=-1:=(by rw[AN Y,BR];rfl);have HB:=D;clear D V h0;go_wp2;go_ret;rw[Z];exact⟨rfl,HB⟩
def Hy(rows:List D7)(i:Int):Nat:=if NG (fun j=>rows.getD j dR) i rows.length 0<0 then rows.length else(NG (fun j=>rows.getD j dR) i rows.length 0).toNat
theorem NY(R:Nat→D7)(i:Int):∀n j,NG R i n j=-1∨∃k:Nat,j≤k∧k<j+n∧NG R i n j=(k:Int)∧i<(R k).ix
  |0,_=>.inl rfl
  | n+1,j=>by
    unfold NG;by_cases h:i<(R j).ix
    ·rw[AF h];exact .inr ⟨j,by omega,by omega,rfl,h⟩
    · rw[AA h]
      rcases NY R i n (j+1)with D|⟨k,D,H,E,F⟩
      ·exact .inl D
      ·exact .inr ⟨k,by omega,by omega,E,F⟩
theorem SW(A:Option Addr)(H:Nat)(D:List D7)(i:Int)(w:World)(V:D.length≤140737488355328)(U:Lc w A D):
    Calls Au 151 #[S A D.length H,I K i] w fun e Y=>e=Ao (I K ((Hy D i:Nat):Int))∧Below w.heap.size w Y:=by
  have M:Below w.heap.size w (w.alloc (Al #[I K i] 3)):=Fv.alloc Fu _;have J:=Q5 A D.length H (fun j=>D.getD j dR) i w.heap.size _ V (U.below M) (by simp);have L:=An M;clear M U;unfold Hy;rcases NY (fun j=>D.getD j dR) i D.length 0 with h|⟨k,_,hk,h,_⟩
  · rw[h]at J⊢
    clear h;go_enter Tryz.func151,Tryz.ntmps151
    go_wp2_with(first
      |(go_at_call 157;refine J.mono ?_;rintro e Z⟨rfl,E⟩;have F:=((AN L).trans (E.mono (AN L).size));clear E))
    go_ret;exact⟨by simp,F⟩
  · rw[h]at J⊢
    have kk:¬ (k:Int)<0:=(by omega);clear h;go_enter Tryz.func151,Tryz.ntmps151
    go_wp2_with(first
      |(go_at_call 157;refine J.mono ?_;rintro e Z⟨rfl,E⟩;have F:=((AN L).trans (E.mono (AN L).size));clear E))
    go_ret;exact⟨by simp[kk],F⟩
def MR(i g has n:Int):D7:=⟨i,g,has,fun k=>if k<8∧tb has k=true then n else 0⟩
def KQ(i g has n:Int)(j:Nat):D7:=⟨i,g,has,fun k=>if(((FR has 8).take j).contains (k:Int))=true then n else 0⟩
theorem Xk(h:Int)(k:Nat):(FR h 8).contains (k:Int)=decide (k<8∧tb h k=true):=by
  rw[Ec,Ed];unfold FR;simp;constructor
  · rintro⟨a,⟨D,E⟩,F⟩
    have:a=k:=(by exact_mod_cast F);subst this;exact⟨D,E⟩
  · rintro⟨D,E⟩
    exact⟨k,⟨D,E⟩,rfl⟩
theorem Y2(i g h n:Int)(j:Nat)(D:(FR h 8).length≤j):KQ i g h n j=MR i g h n:=by
  unfold KQ MR;congr 1;funext k;rw[BY D,Xk];simp
theorem Wg(i g h n:Int)(j p:Nat)(E:j<(FR h 8).length)(D:(FR h 8)[j]?=O (p:Int)):KQ i g h n (j+1)=⟨i,g,h,fun k=>if k=p then n else(KQ i g h n j).v k⟩:=by
  unfold KQ;congr 1;funext k;dsimp only;rw[A0 E];rw[AE E]at D;simp only[Bc]at D;rw[D];by_cases e:k=p
  ·subst e;simp
  · have:¬ ((k:Int)=(p:Int)):=by omega
    simp[e,this,Ed]
theorem Y9(h:Int)(j:Nat)(D:j<(FR h 8).length):∃p:Nat,p<8∧(FR h 8)[j]?=O (p:Int):=by
  have E:(FR h 8)[j]∈FR h 8:=Bm D;rw[AE D];generalize (FR h 8)[j]=y at *;unfold FR at E;obtain⟨p,F,e⟩:=Cn.1 E;rw[BU,Bh]at F;exact⟨p,F.1,by rw[←e];rfl⟩
theorem jQ(h:Int)(w:World)(h0:0≤h)(F:h≤255):Calls Au 106 #[I K h] w fun e D=>∃B A c,w.heap.size≤B∧e=Ao (S A (FR h 8).length c)∧D.ownsRow B 3 1 (S A (FR h 8).length c) (FR h 8).length ((FR h 8).map (I K))∧Below w.heap.size w D :=
  (Qx h w h0 F).mono fun e D ⟨v,H,E,J⟩=>by
    obtain⟨A,c,rfl⟩:=Hw E;exact⟨w.heap.size,A,c,AC _,H,E,J⟩
theorem Qs(i g D n:Int)(w:World)(h0:0≤D)(h1:D≤255):
    Calls Au 152 #[FJ i g,I K D,I K n] w fun e w'=>e=Ao (Hi (MR i g D n))∧Below w.heap.size w w':=by
  obtain⟨W1,M⟩:∃W,W=w.alloc (Al #[I K i,I K g] 61):=⟨_,rfl⟩;have b1:Below w.heap.size w W1:=by rw[M];exact Fv.alloc Fu _
  have z1:W1.heap.size=w.heap.size+1:=by rw[M];simp
  have e0:KQ i g D n 0=⟨i,g,D,fun _=>0⟩:=by unfold KQ;simp
  have H:=RB.start W1 dR (KQ i g D n 0);have F:RB w (w.heap.size+2) (w.heap.size+1) (KQ i g D n 0) dR ((W1.alloc (Al (D' dR).toArray 116)).alloc (Al (D' (KQ i g D n 0)).toArray 116)):=by
    rw[z1]at H;exact⟨b1.trans (H.bel.mono b1.size),by omega,by omega,by omega,H.s,H.r,H.fs,H.fr⟩
  have hL:=fun W=>jQ D W h0 h1;have U:(w.heap.size+3≤((W1.alloc (Al (D' dR).toArray 116)).alloc (Al (D' (KQ i g D n 0)).toArray 116)).heap.size):=by show _≤_;simp;omega
  have ha:=An e0;rw[M,e0]at F U;unfold D' dR at F U;clear H e0 b1 z1 M;have ht:=Kf D 8;unfold FJ;go_enter Tryz.func152,Tryz.ntmps152
  go_wp2_with(first
    |(go_at_call 106;refine(hL _).mono ?_;rintro e w5⟨B,A5,c5,hB,rfl,hb,hc⟩;have hu:=AU U hB;have V:=F.below hc;rw[←AN ha]at V;clear hc hB))
  clear F hL U ha;have hd:=(Y9 D);have he:=(Wg i g D n);have hf:=An (Y2 i g D n);have hg:(∀j p:Nat,(FR D 8)[j]?=O (p:Int)→((FR D 8).map (I K))[j]?=O (I K (p:Int))):=fun j p h=>by rw[Bw,h];rfl
  generalize (FR D 8).map (I K)=xs at *;generalize hv:(FR D 8).length=Y at *;go_loopw [16] (fun t wr=>∃j:Nat,j≤Y∧t=I K j∧RB w (w.heap.size+2) (w.heap.size+1) (KQ i g D n j) dR wr∧wr.ownsRow B 3 1 (S A5 Y c5) Y xs) (fun t _=>Y - (intOf t).toNat)
  case atStart=>exact⟨0,AS _,rfl,V,hb⟩
  case round =>
    clear V hb;obtain⟨j,hj,rfl,F,ho⟩:=hrel;by_cases hh:j<Y
    · obtain⟨p,hi,hp⟩:=hd j hh
      obtain⟨gl,cl,hA,hs,_⟩:=Gi ho (by omega);simp only[A9,Br]at hA;obtain⟨rfl,rfl⟩:=hA;have hn:=F4 ho (hg j p hp);have j0:(0:Int)≤(j:Int):=(by omega);have j1:(j:Int)<(Y:Int):=(by omega);have p0:(0:Int)≤(p:Int):=(by omega);have p1:(p:Int)<8:=(by omega);have hq:=An (he j p hh hp);clear hp;go_wp2_with(first
        |(refine FU R 3 (Am 23) (Am 21) R (w.heap.size+2) (3+p) (I K n) R R R KZ (Gx (show wr.cell? ⟨w.heap.size+2,3+p,N⟩=O _ from by have:=F.r.v p hi;rwa[AT]at this) F.fr) ?_;intro W2 hk;have hr:=An hk;clear hk))
      have Z:=F.setV p hi n;have hl:=B7 ho (a:=⟨w.heap.size+2,3+p,N⟩) (by simp[Ax];omega) (I K n);rw[←AN hr]at Z hl;have e:(⟨(KQ i g D n j).ix,(KQ i g D n j).gen,(KQ i g D n j).has,fun k=>if k=p then n else(KQ i g D n j).v k⟩:D7)=KQ i g D n (j+1):=(AN hq).symm;rw[e]at Z;clear e;go_roundw
      case rel=>exact⟨j+1,by omega,by go_num,Z,hl⟩
      case measure=>simp[intOf];omega
    · obtain rfl:j=Y:=by omega
      rw[AN hf j (by omega)]at F;obtain⟨z,hz⟩:∃z,z=MR i g D n:=⟨_,rfl⟩;rw[←hz]at F;have HZ:=An hz;clear hz;have c0:=F.r.c0;have c1:=F.r.c1;have c2:=F.r.c2;have c3:=F.r.v 0 (by decide);have c4:=F.r.v 1 (by decide);have J:=F.r.v 2 (by decide);have c6:=F.r.v 3 (by decide);have c7:=F.r.v 4 (by decide);have c8:=F.r.v 5 (by decide);have c9:=F.r.v 6 (by decide);have L:=F.r.v 7 (by decide);simp only[AT,Nat.reduceAdd]at c0 c1 c2 c3 c4 J c6 c7 c8 c9 L;clear hd he hf hg;go_wp2_with(first
        |(refine As R 116 (Am 6) (Am 25) R (w.heap.size+1) 0 (D' z) R R (F9 z) N2 (LQ F.s F.fs) ?_;intro W3 hm;have E:=F.give z;rw[←hm]at E;clear hm))
      clear c0 c1 c2 c3 c4 J c6 c7 c8 c9 L;have E:=E;have c0:=E.s.c0;have c1:=E.s.c1;have c2:=E.s.c2;have c3:=E.s.v 0 (by decide);have c4:=E.s.v 1 (by decide);have J:=E.s.v 2 (by decide);have c6:=E.s.v 3 (by decide);have c7:=E.s.v 4 (by decide);have c8:=E.s.v 5 (by decide);have c9:=E.s.v 6 (by decide);have L:=E.s.v 7 (by decide);simp only[AT,Nat.reduceAdd]at c0 c1 c2 c3 c4 J c6 c7 c8 c9 L;refine AG (by simp[results,Tryz.results152,go_sem,c0,c1,c2,c3,c4,J,c6,c7,c8,c9,L]<;>rfl) R ⟨by rw[←AN HZ];rfl,E.bel⟩
theorem QR:(Au.info? 23).map (·.size)=O 1:=by kernel_rfl
def Iy(gens:List Int)(i g:Int):List Int:=if i=(gens.length:Int)then gens++[g]else gens.set i.toNat g
def FQ(X:Wd)(has n:Int):Int×(Int×Int)×Wd :=
 if(FP X).1≠0 then((FP X).1,(0,0),FL)else if(FV has && Hx n)=false then(3,(0,0),FL)else
  if(Gl X).2≠0 then((Gl X).2,(0,0),FL)else(0,(Gl X).1,⟨Ix X.rows (Hy X.rows (Gl X).1.1) (MR (Gl X).1.1 (Gl X).1.2 has n),Iy X.gens (Gl X).1.1 (Gl X).1.2⟩)
structure SB(w:World)(u0 u1 y0 y1 z0 z1:Value)(W:World):Prop where
 bel:Below w.heap.size w W
 sz:w.heap.size+3≤W.heap.size
 r0:W.cell? ⟨w.heap.size,0,N⟩=O u0
 r1:W.cell? ⟨w.heap.size,1,N⟩=O u1
 t0:W.cell? ⟨w.heap.size+1,0,N⟩=O y0
 t1:W.cell? ⟨w.heap.size+1,1,N⟩=O y1
 s0:W.cell? ⟨w.heap.size+2,0,N⟩=O z0
 s1:W.cell? ⟨w.heap.size+2,1,N⟩=O z1
 f:∀i,W.frozen? ⟨w.heap.size+1,i,N⟩=false
 k:∀i,W.frozen? ⟨w.heap.size+2,i,N⟩=false
section
variable {w W W1:World} {u0 u1 y0 y1 z0 z1:Value}
theorem SB.keep(h:SB w u0 u1 y0 y1 z0 z1 W)(D:Below (w.heap.size+3) W W1):SB w u0 u1 y0 y1 z0 z1 W1 :=
 ⟨h.bel.trans (D.mono (by omega)),AU h.sz D.size,(D.cell (p:=⟨w.heap.size,0,N⟩) (by simp)).trans h.r0,(D.cell (p:=⟨w.heap.size,1,N⟩) (by simp)).trans h.r1,(D.cell (p:=⟨w.heap.size+1,0,N⟩) (by simp)).trans h.t0,(D.cell (p:=⟨w.heap.size+1,1,N⟩) (by simp)).trans h.t1,
  (D.cell (p:=⟨w.heap.size+2,0,N⟩) (by simp)).trans h.s0,(D.cell (p:=⟨w.heap.size+2,1,N⟩) (by simp)).trans h.s1,fun i=>(D.frozen (p:=⟨w.heap.size+1,i,N⟩) (by simp)).trans (h.f i),fun i=>(D.frozen (p:=⟨w.heap.size+2,i,N⟩) (by simp)).trans (h.k i)⟩
theorem SB.below(h:SB w u0 u1 y0 y1 z0 z1 W)(D:Below W.heap.size W W1):SB w u0 u1 y0 y1 z0 z1 W1:=h.keep (D.mono h.sz)
theorem SB.thereA(h:SB w u0 u1 y0 y1 z0 z1 W):W.there (w.heap.size+1) 0 2:=fun j D=>by
 rcases(by omega:j=0∨j=1)with rfl|rfl
 ·exact⟨by rw[AT,h.t0];rfl,h.f _⟩
 ·exact⟨by rw[AT,h.t1];rfl,h.f _⟩
theorem SB.thereB(h:SB w u0 u1 y0 y1 z0 z1 W):W.there (w.heap.size+2) 0 2:=fun j D=>by
 rcases(by omega:j=0∨j=1)with rfl|rfl
 ·exact⟨by rw[AT,h.s0];rfl,h.k _⟩
 ·exact⟨by rw[AT,h.s1];rfl,h.k _⟩
theorem SB.giveA(h:SB w u0 u1 y0 y1 z0 z1 W)(D E:Value):SB w u0 u1 D E z0 z1 (W.setCells (w.heap.size+1) 0 [D,E]):=by
 have o:∀p:Addr,p.block≠w.heap.size+1→(W.setCells (w.heap.size+1) 0 [D,E]).cell? p=W.cell? p:=fun p H=>FZ H;have s:=fun j F=>Cv (w.heap.size+1) [D,E] 0 W (fun j F=>(h.thereA j F).1) j F;exact⟨Bv (w.heap.size+1) (by omega) [D,E] 0 W h.bel,by rw[Gk];exact h.sz,(o _ (by simp)).trans h.r0,(o _ (by simp)).trans h.r1,s 0 (by simp),s 1 (by simp),(o _ (by simp)).trans h.s0,(o _ (by simp)).trans h.s1,fun i=>by rw[BP];exact h.f i,fun i=>by rw[BP];exact h.k i⟩
theorem SB.giveB(h:SB w u0 u1 y0 y1 z0 z1 W)(D E:Value):SB w u0 u1 y0 y1 D E (W.setCells (w.heap.size+2) 0 [D,E]):=by
 have o:∀p:Addr,p.block≠w.heap.size+2→(W.setCells (w.heap.size+2) 0 [D,E]).cell? p=W.cell? p:=fun p H=>FZ H;have s:=fun j F=>Cv (w.heap.size+2) [D,E] 0 W (fun j F=>(h.thereB j F).1) j F;exact⟨Bv (w.heap.size+2) (by omega) [D,E] 0 W h.bel,by rw[Gk];exact h.sz,(o _ (by simp)).trans h.r0,(o _ (by simp)).trans h.r1,(o _ (by simp)).trans h.t0,(o _ (by simp)).trans h.t1,s 0 (by simp),s 1 (by simp),fun i=>by rw[BP];exact h.f i,fun i=>by rw[BP];exact h.k i⟩
end
theorem SB.start(w:World)(u0 u1:Value):SB w u0 u1 (S N 0 0) (S N 0 0) (I K 0) (I K 0) (((w.alloc (Al #[u0,u1] 43)).alloc (Al #[S N 0 0,S N 0 0] 43)).alloc (Al #[I K 0,I K 0] 61)):=by
 obtain⟨w1,h⟩:∃W,W=w.alloc (Al #[u0,u1] 43):=⟨_,rfl⟩;have z1:w1.heap.size=w.heap.size+1:=by rw[h];simp
 have E:=Tl.start w u0 u1;rw[←h]at E⊢;clear h;obtain⟨F,H,af,J⟩:=H' (W:=w1) (u0:=S N 0 0) (u1:=S N 0 0) (t:=43) z1;obtain⟨w2,L⟩:∃W,W=w1.alloc (Al #[S N 0 0,S N 0 0] 43):=⟨_,rfl⟩;rw[←L]at F H af J⊢;have M:w2.heap.size=w.heap.size+2:=by rw[L];simp;omega
 obtain⟨c0,c1,U,cb⟩:=H' (W:=w2) (u0:=I K 0) (u1:=I K 0) (t:=61) M;have D:=(E.below J).below cb;exact⟨D.bel,by simp;omega,D.r0,D.r1,AW cb F,AW cb H,c0,c1,fun i=>(cb.frozen (p:=⟨w.heap.size+1,i,N⟩) (by show w.heap.size+1<w2.heap.size;omega)).trans (af i),U⟩
theorem MV(W:World)(b i:Nat)(v:Value):W.grownBy (W.setCell ⟨b,i,N⟩ v) (O b):=
 ⟨rfl,rfl,rfl,by simp,fun k D h=>Dy W ⟨b,i,N⟩ v k (fun e=>h (by rw[e]))⟩
theorem L4{W:World}{p:Addr}{v:Value}(h:W.cell? p=O v):p.block<W.heap.size:=AL W p h
structure ZB(w:World)(u0 u1:Value)(b10 b12 B:Nat)(i g:Int)(c0 c1 v5 v8:Value)(rows:List D7)(gens:List Int)(W:World):Prop where
 sb:SB w u0 u1 (S N 0 0) (S N 0 0) (I K 0) (I K 0) W
 i0:W.cell? ⟨b10,0,N⟩=O (I K i)
 i1:W.cell? ⟨b10,1,N⟩=O (I K g)
 o0:W.cell? ⟨b12,0,N⟩=O c0
 o1:W.cell? ⟨b12,1,N⟩=O c1
 fz:∀j,W.frozen? ⟨b12,j,N⟩=false
 p5:W.ownsRow B 116 11 v5 rows.length (At rows)
 p8:W.ownsRow B 3 1 v8 gens.length (FD gens)
 hB:w.heap.size+3≤B
 h10:b10<B
 h12:B≤b12
 ty:∃cs,W.heap[b12]?=O (Al cs 43 (0,0))
theorem Ht{W:World}{B:Nat}{e:TypeId}{D n:Nat}{v:Value}{H:List Value}(h:W.ownsRow B e D v n H){b:Nat}{t:TypeId}(E:∃ cs,W.heap[b]?=O (Al cs t (0,0)))(J:t≠e):v.ownBlock≠O b:=by
 obtain⟨cs,E⟩:=E;rcases h.2 with⟨rfl,_⟩|⟨g,L,M,rfl,_,U,_⟩
 ·simp[Ax]
 ·intro F;simp only[Ax,Bc]at F;subst F;rw[U]at E;simp only[Bc,Obj.cells.injEq]at E;exact J E.2.1.symm
theorem ZB.n5{w W:World}{u0 u1:Value}{b10 b12 B:Nat}{i g:Int}{c0 c1 v5 v8:Value}{rows:List D7}{gens:List Int}(h:ZB w u0 u1 b10 b12 B i g c0 c1 v5 v8 rows gens W):v5.ownBlock≠O b12:=Ht h.p5 h.ty (by decide)
theorem ZB.n8{w W:World}{u0 u1:Value}{b10 b12 B:Nat}{i g:Int}{c0 c1 v5 v8:Value}{rows:List D7}{gens:List Int}(h:ZB w u0 u1 b10 b12 B i g c0 c1 v5 v8 rows gens W):v8.ownBlock≠O b12:=Ht h.p8 h.ty (by decide)
section
variable {w W W1:World} {u0 u1:Value} {b10 b12 B:Nat} {i g:Int} {c0 c1 v5 v8 v5' v8':Value} {rows rows':List D7} {gens gens':List Int}
theorem ZB.below(h:ZB w u0 u1 b10 b12 B i g c0 c1 v5 v8 rows gens W)(D:Below W.heap.size W W1):ZB w u0 u1 b10 b12 B i g c0 c1 v5 v8 rows gens W1 :=
 ⟨h.sb.below D,AW D h.i0,AW D h.i1,AW D h.o0,AW D h.o1,fun j=>(D.frozen (p:=⟨b12,j,N⟩) (show b12<_ from L4 h.o0)).trans (h.fz j),FT h.p5 D,FT h.p8 D,h.hB,h.h10,h.h12,h.ty.imp fun cs e=>(D.block b12 (L4 h.o0)).trans e⟩
theorem ZB.grown(h:ZB w u0 u1 b10 b12 B i g c0 c1 v5 v8 rows gens W){D:Option Nat}(F:W.grownBy W1 D)(L:∀ k,D=O k→B≤k)(J:D≠O b12)
  (M:W1.ownsRow B 116 11 v5' rows'.length (At rows')) (U:W1.ownsRow B 3 1 v8' gens'.length (FD gens')):ZB w u0 u1 b10 b12 B i g c0 c1 v5' v8' rows' gens' W1:=by
 have V:B≤W.heap.size:=AU h.h12 (DD (L4 h.o0));have H:(O b10:Option Nat)≠D:=fun e=>by have:=L b10 e.symm;have:=h.h10;omega
 have E:(O b12:Option Nat)≠D:=fun e=>J e.symm;exact⟨h.sb.keep ((F0 F L V).mono h.hB),F.cell h.i0 H,F.cell h.i1 H,F.cell h.o0 E,F.cell h.o1 E,fun j=>(F.frozen_far ⟨b12,j,N⟩ (show b12<_ from L4 h.o0) E).trans (h.fz j),M,U,h.hB,h.h10,h.h12,h.ty.imp fun cs e=>(F.block b12 (L4 h.o0) E).trans e⟩
theorem ZB.row8(h:ZB w u0 u1 b10 b12 B i g c0 c1 v5 v8 rows gens W):∀k,v8.ownBlock=O k→B≤k:=fun k e=>(h.p8.lt k e).1
theorem ZB.row5(h:ZB w u0 u1 b10 b12 B i g c0 c1 v5 v8 rows gens W):∀k,v5.ownBlock=O k→B≤k:=fun k e=>(h.p5.lt k e).1
theorem ZB.give8(h:ZB w u0 u1 b10 b12 B i g c0 c1 v5 v8 rows gens W)(D:W.grownBy W1 v8.ownBlock)(E:W1.ownsRow B 3 1 v8' gens'.length (FD gens')):ZB w u0 u1 b10 b12 B i g c0 c1 v5 v8' rows gens' W1 :=
 h.grown D h.row8 h.n8 (h.p5.kept D (F1 h.p5 h.p8 (by decide))) E
theorem ZB.give5(h:ZB w u0 u1 b10 b12 B i g c0 c1 v5 v8 rows gens W)(D:W.grownBy W1 v5.ownBlock)(E:W1.ownsRow B 116 11 v5' rows'.length (At rows')):ZB w u0 u1 b10 b12 B i g c0 c1 v5' v8 rows' gens W1 :=
 h.grown D h.row5 h.n5 E (h.p8.kept D (F1 h.p8 h.p5 (by decide)))
theorem ZB.there12(h:ZB w u0 u1 b10 b12 B i g c0 c1 v5 v8 rows gens W)(k:Nat)(D:k<2):W.there b12 k 1:=by
 rcases(by omega:k=0∨k=1)with rfl|rfl
 ·exact Gx h.o0 h.fz
 ·exact Gx h.o1 h.fz
theorem ZB.set12(h:ZB w u0 u1 b10 b12 B i g c0 c1 v5 v8 rows gens W)(k:Nat)(H:k<2)(v:Value):ZB w u0 u1 b10 b12 B i g (if k=0 then v else c0) (if k=1 then v else c1) v5 v8 rows gens (W.setCell ⟨b12,k,N⟩ v):=by
 have E:=MV W b12 k v;have F:Below B W (W.setCell ⟨b12,k,N⟩ v):=Fv.setCell (p:=⟨b12,k,N⟩) h.h12 v;have D:(O b10:Option Nat)≠O b12:=fun e=>by have:=Bd e;have:=h.h10;have:=h.h12;omega
 refine⟨h.sb.keep (F.mono h.hB),E.cell h.i0 D,E.cell h.i1 D,?_,?_,fun j=>by rw[Bz];exact h.fz j,h.p5.kept E (.inr h.n5),h.p8.kept E (.inr h.n8),h.hB,h.h10,h.h12,h.ty.elim fun cs e=>⟨_,D1 W b12 k cs 43 v e⟩⟩
 ·rcases(by omega:k=0∨k=1)with rfl|rfl
  ·exact J0 h.o0
  ·exact Gb (Lb (by decide)) h.o0
 ·rcases(by omega:k=0∨k=1)with rfl|rfl
  ·exact Gb (Lb (by decide)) h.o1
  ·exact J0 h.o1
theorem ZB.set1(h:ZB w u0 u1 b10 b12 B i g c0 c1 v5 v8 rows gens W)(v:Value):ZB w u0 u1 b10 b12 B i g c0 v v5 v8 rows gens (W.setCell ⟨b12,1,N⟩ v):=by
 have:=ZB.set12 h 1 (by decide) v;simpa using this
theorem ZB.set0(h:ZB w u0 u1 b10 b12 B i g c0 c1 v5 v8 rows gens W)(v:Value):ZB w u0 u1 b10 b12 B i g v c1 v5 v8 rows gens (W.setCell ⟨b12,0,N⟩ v):=by
 have:=ZB.set12 h 0 (by decide) v;simpa using this
theorem Mn(l:List Int)(k:Nat)(x:Int):(FD l).set k (I K x)=FD (l.set k x):=by
 unfold FD;rw[List.map_set]
theorem ZB.setG{D H E:Nat}(h:ZB w u0 u1 b10 b12 B i g c0 c1 v5 (S (O ⟨D,0,N⟩) E H) rows gens W)(F:E=gens.length)(k:Nat)(J:k<gens.length)(x:Int):
  ZB w u0 u1 b10 b12 B i g c0 c1 v5 (S (O ⟨D,0,N⟩) E H) rows (gens.set k x) (W.setCell ⟨D,k,N⟩ (I K x)):=by
 subst F;have q:=NX h.p8 (j:=k) (by rw[IY];omega) (I K x);rw[Mn]at q;exact h.give8 (MV W D k (I K x)) (by rw[By];exact q)
theorem ZB.thereG{E H F:Nat}(h:ZB w u0 u1 b10 b12 B i g c0 c1 v5 (S (O ⟨E,0,N⟩) F H) rows gens W)(D:F=gens.length)(k:Nat)(J:k<gens.length):W.there E k 1:=by
 subst D;exact Hl h.p8 k 1 (by rw[IY];omega)
theorem ZB.start{u0 u1:Value}(h:SB w u0 u1 (S N 0 0) (S N 0 0) (I K 0) (I K 0) W)(h0:W.cell? ⟨b10,0,N⟩=O (I K i))(H:W.cell? ⟨b10,1,N⟩=O (I K g))(J:W.ownsRow B 116 11 v5 rows.length (At rows))(L:W.ownsRow B 3 1 v8 gens.length (FD gens))
  (M:w.heap.size+3≤B) (E:b10<B) (F:B≤W.heap.size):ZB w u0 u1 b10 W.heap.size B i g v5 v8 v5 v8 rows gens (W.alloc (Al #[v5,v8] 43)):=by
 have D:Below W.heap.size W (W.alloc (Al #[v5,v8] 43)):=Fv.alloc Fu _;obtain⟨U,V,af,Y⟩:=H' (W:=W) (u0:=v5) (u1:=v8) (t:=43) R;exact⟨h.below D,AW D h0,AW D H,U,V,af,FT J D,FT L D,M,E,F,⟨#[v5,v8],(by show(W.heap.push _)[W.heap.size]?=_;simp)⟩⟩
end
theorem Vf.below{w w1:World}{D:Nat}{r:D7}(h:Vf w D r)(E:Below w.heap.size w w1):Vf w1 D r:=⟨(E.block D (Bk.1 h.h).1).trans h.h⟩
theorem Su(W:World)(r:D7):Vf (W.alloc (Al (D' r).toArray 116)) W.heap.size r:=⟨by show(W.heap.push _)[W.heap.size]?=_;simp⟩
theorem Js{W:World}{D:Nat}{A:Option Addr}{c:Nat}{rows:List D7}(h:W.ownsRow D 116 11 (S A rows.length c) rows.length (At rows)):Lc W A rows:=by
 obtain⟨F,H,e,E⟩:=JG h;simp only[A9,Br]at e;rw[e.1];exact E
theorem Of{W:World}{D:Nat}{A:Option Addr}{c:Nat}{l:List Int}(h:W.ownsRow D 3 1 (S A l.length c) l.length (FD l)):JE W A l:=by
 obtain⟨F,H,e,E⟩:=J8 h;simp only[A9,Br]at e;rw[e.1];exact E
theorem Xf(X:Wd):∀m j,m+j=X.gens.length→(Kv X m j).2=0→∃k:Nat,(Kv X m j).1.1=(k:Int)∧k≤X.gens.length
 |0,j,h,h0=>by
  unfold Kv at h0⊢;split at h0
  ·simp at h0
  ·rename_i D;rw[AA D];exact⟨X.gens.length,rfl,AC _⟩
 |m+1,j,h,h0=>by
  unfold Kv at h0⊢;split at h0
  ·rename_i D;rw[AF D];exact⟨j,rfl,by omega⟩
  ·rename_i D;rw[AA D];exact Xf X m (j+1) (by omega) h0
theorem Xh(X:Wd)(h:(Gl X).2=0):∃k:Nat,(Gl X).1.1=(k:Int)∧k≤X.gens.length:=Xf X _ 0 (by omega) h
theorem Jt{w:World}{D base' E n:Nat}{e:TypeId}{v:Value}{J:List Value}(h:w.ownsRow D e E v n J)(L:base'≤D):w.ownsRow base' e E v n J:=by
 refine⟨h.1,?_⟩;rcases h.2 with M|⟨g,F,H,U,V,Y⟩
 ·exact .inl M
 ·exact .inr ⟨g,F,H,U,AU L V,Y⟩
theorem Uf(A:Option Addr)(D:Nat)(rows:List D7)(G:Option Addr)(h:Nat)(gens:List Int)(w:World)(U:rows.length*88≤140737488355328)(M:gens.length*8≤140737488355328)(V:Lc w A rows)(Y:JE w G gens):
  Calls Au 149 #[FF A rows.length D G gens.length h] w fun e E=>∃F H J L,e=Ao (Af #[S F rows.length H,S J gens.length L])∧E.ownsRow w.heap.size 116 11 (S F rows.length H) rows.length (At rows)∧E.ownsRow w.heap.size 3 1 (S J gens.length L) gens.length (FD gens)∧Below w.heap.size w E :=
 (bE A D rows G h gens w U M V Y).mono fun e E ⟨F,H,J,L,Z,h5,h8,hb⟩=>⟨F,H,J,L,Z,Jt h5 (by omega),Jt h8 (by omega),hb⟩
theorem Yq(A:Option Addr)(D:Nat)(rows:List D7)(G:Option Addr)(h:Nat)(gens:List Int)(w:World)(Y:rows.length*88≤140737488355328)(L:gens.length*8≤140737488355328)(Z:0<gens.length)(hR:Lc w A rows)(hG:JE w G gens):
  Calls Au 149 #[FF A rows.length D G gens.length h] w fun e E=>∃F H M J,e=Ao (Af #[S F rows.length H,S (O ⟨M,0,N⟩) gens.length J])∧E.ownsRow w.heap.size 116 11 (S F rows.length H) rows.length (At rows)∧E.ownsRow w.heap.size 3 1 (S (O ⟨M,0,N⟩) gens.length J) gens.length (FD gens)∧Below w.heap.size w E :=
 (Uf A D rows G h gens w Y L hR hG).mono fun e E ⟨F,H,A8,J,he,h5,U,hb⟩=>by
  obtain⟨g,c,V,_⟩:=Gi U Z;simp only[A9,Br]at V;obtain⟨rfl,rfl⟩:=V;exact⟨F,H,g,J,he,h5,U,hb⟩
theorem ZB.app8{w W W1:World}{u0 u1:Value}{b10 b12 B:Nat}{i g:Int}{c0 c1 v5 v8:Value}{rows:List D7}{gens:List Int}{D E:Nat}(h:ZB w u0 u1 b10 b12 B i g c0 c1 v5 v8 rows gens W)
  (F:W1.ownsRow B 3 1 (S (O ⟨D,0,N⟩) (gens.length+1) E) (gens.length+1) (FD gens++[I K 0])) (H:W.grownBy W1 v8.ownBlock):
  ZB w u0 u1 b10 b12 B i g c0 c1 v5 (S (O ⟨D,0,N⟩) (gens++[0]).length E) rows (gens++[0]) W1:=by
 refine h.give8 H ?_;rw[show(gens++[(0:Int)]).length=gens.length+1 by simp,show FD (gens++[0])=FD gens++[I K 0] by simp[FD]];exact F
theorem ZB.base{w W:World}{u0 u1:Value}{b10 b12 B:Nat}{i g:Int}{c0 c1 v5 v8:Value}{rows:List D7}{gens:List Int}(h:ZB w u0 u1 b10 b12 B i g c0 c1 v5 v8 rows gens W):B≤W.heap.size:=AU h.h12 (DD (L4 h.o0))
structure FE(w:World)(b10 b12 B:Nat)(i g:Int)(v5 v8:Value)(rows:List D7)(gens:List Int)(W:World):Prop where
 i0:W.cell? ⟨b10,0,N⟩=O (I K i)
 i1:W.cell? ⟨b10,1,N⟩=O (I K g)
 o0:W.cell? ⟨b12,0,N⟩=O v5
 o1:W.cell? ⟨b12,1,N⟩=O v8
 p5:W.ownsRow B 116 11 v5 rows.length (At rows)
 p8:W.ownsRow B 3 1 v8 gens.length (FD gens)
 hB:w.heap.size+3≤B
 h10:w.heap.size+3≤b10
 h12:B≤b12
section
variable {w W W1:World} {b10 b12 B:Nat} {i g:Int} {v5 v8:Value} {rows:List D7} {gens:List Int}
theorem FE.below(h:FE w b10 b12 B i g v5 v8 rows gens W)(D:Below W.heap.size W W1):FE w b10 b12 B i g v5 v8 rows gens W1 :=
 ⟨AW D h.i0,AW D h.i1,AW D h.o0,AW D h.o1,FT h.p5 D,FT h.p8 D,h.hB,h.h10,h.h12⟩
theorem FE.sets(h:FE w b10 b12 B i g v5 v8 rows gens W){b o:Nat}{vs:List Value}(D:b<w.heap.size+3):FE w b10 b12 B i g v5 v8 rows gens (W.setCells b o vs):=by
 have:=h.hB;have:=h.h10;have:=h.h12;exact⟨(FZ (by simp;omega)).trans h.i0,(FZ (by simp;omega)).trans h.i1,(FZ (by simp;omega)).trans h.o0,(FZ (by simp;omega)).trans h.o1,Gg (by omega) vs o W h.p5,Gg (by omega) vs o W h.p8,h.hB,h.h10,h.h12⟩
theorem ZB.fin{u0 u1 c0 c1:Value}(h:ZB w u0 u1 b10 b12 B i g v5 v8 v5 v8 rows gens W)(D:w.heap.size+3≤b10):FE w b10 b12 B i g v5 v8 rows gens W:=⟨h.i0,h.i1,h.o0,h.o1,h.p5,h.p8,h.hB,D,h.h12⟩
end
theorem FE.wld{w W:World}{b10 b12 B D E F H n m:Nat}{i g:Int}{rows:List D7}{gens:List Int}(h:FE w b10 b12 B i g (S (O ⟨D,0,N⟩) n E) (S (O ⟨F,0,N⟩) m H) rows gens W)(J:n=rows.length)(L:m=gens.length):Gv w.heap.size W (O ⟨D,0,N⟩) E (O ⟨F,0,N⟩) H ⟨rows,gens⟩:=by
 subst J L;have:=h.hB;exact⟨⟨Js h.p5,Of h.p8⟩,Hf h.p5 (by omega),Hf h.p8 (by omega)⟩
theorem KO(rows:List D7)(i:Int):Hy rows i≤rows.length:=by
 unfold Hy;rcases NY (fun j=>rows.getD j dR) i rows.length 0 with h|⟨k,_,D,h,_⟩
 ·rw[h];simp
 ·rw[h,AA (by omega)];simp;omega
theorem I0(w1:World)(o:Obj){w2:World}(h:Below (w1.alloc o).heap.size (w1.alloc o) w2):Below w1.heap.size w1 w2:=by
 have D:=(AD w1.heap.size w1).alloc Fu o;exact D.trans (h.mono D.size)
theorem Zf(w1:World)(o p:Obj){w2:World}(h:Below ((w1.alloc o).alloc p).heap.size ((w1.alloc o).alloc p) w2):Below w1.heap.size w1 w2:=I0 w1 o (I0 _ p h)
theorem GF(w1:World)(o:Obj):Below w1.heap.size w1 (w1.alloc o):=Fv.alloc Fu o
theorem IT(w1:World)(o p:Obj):Below w1.heap.size w1 ((w1.alloc o).alloc p):=I0 w1 o (GF _ p)
def kr:Wd:=(FQ FL 5 7).2.2
theorem lF:(FQ FL 5 7).1=0∧(FQ FL 5 7).2.1=(0,1):=by decide +kernel
theorem lE:RD (fun j=>kr.rows.getD j dR) kr.rows.length 0 1 2=(7,true):=by decide +kernel
end Go.Proofs.YtnbleebilmghcabGreat
