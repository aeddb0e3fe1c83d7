/- PKill, PIns2, PSpawn -/
import Derived.Test.YtnbleebilmghcabGreatUAB
import Derived.Test.YtnbleebilmghcabGreatUAI
import Derived.Test.YtnbleebilmghcabGreatUAK
import Derived.Test.YtnbleebilmghcabGreatUAM
set_option linter.all false
set_option maxRecDepth 8000
set_option maxHeartbeats 8000000
open Go.Value renaming int→I,slice→S,agg→Af,tuple→Ai,bool→Aj,oneCell'→Ar,ownBlock→Ax
open Go.IntKind renaming i64→K
open Option renaming none→N,some→O
open Go.Obj renaming cells→Al
open Go.Operand renaming tmp→Am
open Go.Ending renaming returned→Ao
open Go.Act renaming eval→Aq
open Go.Proofs.Tryz renaming prog→Au
namespace Go.Proofs.YtnbleebilmghcabGreat
open Go Go.RowKit
attribute [local go_sem ↓] Go.wp_at_zero Go.wp_at_succ
def GS(X:Wd)(i g:Int):Int×Wd :=
 if(FP X).1≠0 then((FP X).1,FL)else if Ga X i g<0 then(5,FL)else(0,⟨X.rows.eraseIdx (Ga X i g).toNat,X.gens⟩)
theorem Lf:(Au.info? 41).map (·.size)=O 1:=by kernel_rfl
theorem Q9{w D:World}{g:Nat}{p:Addr}{u:Value}(h:w.grownBy D (O g))(E:w.cell? p=O u)(F:p.block≠g):D.cell? p=O u:=h.cell E (by simpa using F)
theorem Ww{w D:World}{g b:Nat}(h:w.grownBy D (O g))(E:b<w.heap.size)(F:b≠g)(i:Nat):D.frozen? ⟨b,i,N⟩=w.frozen? ⟨b,i,N⟩:=World.frozen?_of_block (h.block b E (by simpa using F))
structure L8(b:Nat)(u0 u1:Value)(W:World):Prop where
 e0:W.cell? ⟨b,0,N⟩=O u0
 e1:W.cell? ⟨b,1,N⟩=O u1
 f:∀i,W.frozen? ⟨b,i,N⟩=false
theorem L8.start(w:World)(u0 u1:Value):L8 w.heap.size u0 u1 (w.alloc (Al #[u0,u1] 43)):=⟨by simp,by simp,fun i=>by simp[go_sem]⟩
theorem L8.grown{b g:Nat}{u0 u1:Value}{W W1:World}(h:L8 b u0 u1 W)(D:W.grownBy W1 (O g))(E:b≠g):L8 b u0 u1 W1 :=
 ⟨Q9 D h.e0 E,Q9 D h.e1 E,fun i=>(Ww D (AL W ⟨b,0,N⟩ h.e0) E i).trans (h.f i)⟩
theorem L8.set0{b:Nat}{u0 u1:Value}{W:World}(h:L8 b u0 u1 W)(v:Value):L8 b v u1 (W.setCell ⟨b,0,N⟩ v):=
 ⟨J0 h.e0,Gb (Lb (by omega)) h.e1,fun i=>by simpa using h.f i⟩
theorem U'{w W W1:World}{u0 u1 D E:Value}{i g:Int}{F B:Nat}(h:CW w u0 u1 i g D E W)(H:W.grownBy W1 (O F))(L:B≤F)(M:w.heap.size+3≤B):CW w u0 u1 i g D E W1 :=
 h.keep (Fv.grown H h.sz (fun k J=>by cases J;omega))
theorem eS{w W W1:World}{u0 u1 D E:Value}{i g:Int}{b o:Nat}{v:Value}(h:CW w u0 u1 i g D E W)(F:W1=W.setCell ⟨b,o,N⟩ v)(H:w.heap.size+3≤b):CW w u0 u1 i g D E W1:=by
 subst F;exact h.keep (Fv.setCell (p:=⟨b,o,N⟩) H v)
theorem VD(A:Option Addr)(hg:Nat)(G:Option Addr)(H:Nat)(X:Wd)(i g:Int)(w:World)(cp:X.rows.length≤9223372036854775807)(hX:FX w A hg G H X):
  Calls Au 140 #[Up A hg G H X,FJ i g,.func (.func 141) #[] #[]] w fun e w'=>∃A' c' G' hS,e=Ao (Ai #[Up A' c' G' hS (GS X i g).2,I K (GS X i g).1])∧Gv w.heap.size w' A' c' G' hS (GS X i g).2∧Below w.heap.size w w':=by
 have hT:=CW.start w (S A X.rows.length hg) (S G X.gens.length H) i g;have hP:=fun W (hb:Below w.heap.size w W)=>J2 A X.rows.length hg G X.gens.length H (fun j=>X.rows.getD j dR) (fun j=>X.gens.getD j 0) W (by omega) (hX.rows.below hb) (hX.gens.below hb);have eW:Hk (fun j=>X.rows.getD j dR) X.rows.length X.gens.length (fun j=>X.gens.getD j 0)=FP X:=rfl;rw[eW]at hP;unfold Gr FF at hP;have hF:=fun W (hb:Below w.heap.size w W)=>On A X.rows.length hg (fun j=>X.rows.getD j dR) i g W (by omega) (hX.rows.below hb);have eF:Mt (fun j=>X.rows.getD j dR) i g X.rows.length 0=Ga X i g:=rfl;rw[eF]at hF;unfold FJ at hF;have HP:=An hP;have HF:=An hF;have HX:=An hX;have hh:=An hT;clear hP hF hT eW eF hX;unfold GS;unfold Up FF FJ;by_cases hj:(FP X).1=0
 ·rw[AA (by simpa using hj)];obtain⟨hn,ck⟩:=NT hj;rw[hj]at HP;generalize (FP X).2=wa at *;rcases Lz (fun j=>X.rows.getD j dR) i g X.rows.length 0 with hf|⟨k,_,hk,hf,hi⟩
  ·have hl:Ga X i g=-1:=hf;rw[hl]at HF⊢;rw[AF (by decide)];unfold FL;clear hf hl hj;go_enter Tryz.func140,Tryz.ntmps140
   go_wp2_with(first
    |(go_at_call 35;refine(AN HP _ (AN hh).bel).mono ?_;rintro e w5⟨rfl,J⟩;have D:=(AN hh).below J;have E:=D.below (Fv.alloc Fu (Al #[I K 0,I K wa] 29));have r0:=E.r0;have r1:=E.r1;have s0:=E.s0;have s1:=E.s1;have hm:=An E;clear J D E)
    |(go_at_call 144;refine(AN HF _ (AN hm).bel).mono ?_;rintro e w7⟨rfl,ho⟩;have L:=(AN hm).below ho;have hp:=An L;clear ho L r0 r1 s0 s1)
    |(refine As R 43 (Am 6) (Am 28) R (w.heap.size+2) 0 [S N 0 0,S N 0 0] R R (by simp[Ar]) F8 (AN hp).there ?_;intro W3 hU;have hN:=(AN hp).give (S N 0 0) (S N 0 0);rw[←hU]at hN;have hO:=An hN;clear hU hN))
   have t0:=(AN hO).t0;have t1:=(AN hO).t1;refine AG (by simp[results,Tryz.results140,go_sem,t0,t1]<;>rfl) R ⟨N,0,N,0,rfl,Ha _ _,(AN hO).bel⟩
  ·have hl:Ga X i g=(k:Int):=hf;have hC:k<X.rows.length:=(by omega);rw[hl]at HF⊢;rw[AA (by omega:¬ (k:Int)<0),Bi];have cq:(0:Int)≤(k:Int):=(by omega);have cr:(k:Int)<(X.rows.length:Int):=(by omega);have ct:¬ (k:Int)<0:=(by omega);obtain⟨b,hV,hA,V⟩:=(AN HX).rows k hC;subst hA;have V:Hb w b (hV+k*11) (X.rows.getD k dR):=V;have hY:=An V;have hZ:=An (fun W (hW:Below w.heap.size w W)=>ZC (X.rows.getD k dR) W);have hE:=An (fun W (hb:Below w.heap.size w W)=>Qn k (O ⟨b,hV,N⟩) hg X.rows G H X.gens W hC hn ck ((AN HX).rows.below hb) ((AN HX).gens.below hb));have ca:=An (fun(B U M:Nat) (W:World) (h:W.ownsRow B 116 11 (S (O ⟨U,0,N⟩) X.rows.length M) X.rows.length (At X.rows))=>XA B U M k X.rows W hC h);have hG:(X.rows.eraseIdx k).length=X.rows.length - 1:=List.length_eraseIdx_of_lt hC;have hH:=An hG;clear V hf hl hi hj HX hG;generalize X.rows.getD k dR=x at *;unfold FF at hE;unfold Hi dR at hZ;go_enter Tryz.func140,Tryz.ntmps140
   go_wp2_with(first
    |(go_at_call 35;refine(AN HP _ (AN hh).bel).mono ?_;rintro e w5⟨rfl,J⟩;have D:=(AN hh).below J;have E:=D.below (Fv.alloc Fu (Al #[I K 0,I K wa] 29));have r0:=E.r0;have r1:=E.r1;have s0:=E.s0;have s1:=E.s1;have hm:=An E;clear J D E)
    |(go_at_call 144;refine(AN HF _ (AN hm).bel).mono ?_;rintro e w7⟨rfl,ho⟩;have L:=(AN hm).below ho;have F:=(AN hY).below L.bel;clear r0 r1 s0 s1;have r0:=L.r0;have r1:=L.r1;have c0:=F.c0;have c1:=F.c1;have c2:=F.c2;have c3:=F.v 0 (by omega);have c4:=F.v 1 (by omega);have M:=F.v 2 (by omega);have c6:=F.v 3 (by omega);have c7:=F.v 4 (by omega);have c8:=F.v 5 (by omega);have c9:=F.v 6 (by omega);have hQ:=F.v 7 (by omega);simp only[Bt,Nat.reduceAdd]at c3 c4 M c6 c7 c8 c9 hQ;simp only[←Bt]at c3 c4 M c6 c7 c8 c9 hQ;have hp:=An L;clear ho L F)
    |(go_at_call 141;refine(AN hZ _ (AN hp).bel).mono ?_;rintro e w9⟨rfl,cc⟩;have cd:=(AN hp).below cc;have Y:=cd.below (Fv.alloc Fu (Al #[I K 0,I K 0,I K 0,I K 0,I K 0,I K 0,I K 0,I K 0,I K 0,I K 0,I K 0] 116));clear r0 r1 c0 c1 c2 c3 c4 M c6 c7 c8 c9 hQ;have r0:=Y.r0;have r1:=Y.r1;have Z:=An Y;clear cc cd Y)
    |(go_at_call 149;refine(AN hE _ (AN Z).bel).mono ?_;rintro e hD⟨B,U,M,A8,c8,hB,rfl,hq,hr,hs⟩;have ce:=AU (AN Z).sz hB;clear hB;clear r0 r1;have ht:=An hq;have hR:=An hr;have hI:=AU (AN Z).sz hs.size;have hJ:=An (((AN Z).below hs).below (Fv.alloc Fu (Al #[S (O ⟨U,0,N⟩) X.rows.length M,S A8 X.gens.length c8] 43)));clear hq hr hs)
    |(go_at_call 156;refine(AN ca B U M _ ((AN ht).alloc _)).mono ?_;rintro e cu⟨rfl,hK,hu⟩;have hL:=(L8.start hD (S (O ⟨U,0,N⟩) X.rows.length M) (S A8 X.gens.length c8)).grown hu (Eb ((AN ht).lt U R).2);have hv:=An hL;have cf:=An hK;have hw:=An hu;clear hL hK hu)
    |(refine FU R 41 (Am 54) (Am 53) R hD.heap.size 0 (S (O ⟨U,0,N⟩) (X.rows.length - 1) M) R R R Lf (Gx (AN hv).e0 (AN hv).f) ?_;intro cv hx;have ha:=(AN hv).set0 (S (O ⟨U,0,N⟩) (X.rows.length - 1) M);rw[←hx]at ha;have e0:=ha.e0;have e1:=ha.e1;have hd:=An hx;clear ha hx)
    |(refine As R 43 (Am 6) (Am 55) R (w.heap.size+2) 0 [S (O ⟨U,0,N⟩) (X.rows.length - 1) M,S A8 X.gens.length c8] R R (by simp[Ar]) F8 (eS (U' (AN hJ) (AN hw) ((AN ht).lt U R).1 ce) (AN hd) hI).there ?_;intro cg hM;have hy:=An hM;clear hM))
   have cm:=(AN ht).lt U R;have he:=(eS (U' (AN hJ) (AN hw) cm.1 ce) (AN hd) hI).give (S (O ⟨U,0,N⟩) (X.rows.length - 1) M) (S A8 X.gens.length c8);rw[←AN hy]at he;have t0:=he.t0;have t1:=he.t1;have hq:cg.ownsRow B 116 11 (S (O ⟨U,0,N⟩) (X.rows.eraseIdx k).length M) (X.rows.eraseIdx k).length (At (X.rows.eraseIdx k)):=by
    rw[AN hy];refine Gg (by omega) _ _ _ ?_;rw[AN hd,AN hH];exact B7 (AN cf) (a:=⟨hD.heap.size,0,N⟩) (by simp[Ax];omega) _
   have hr:cg.ownsRow B 3 1 (S A8 X.gens.length c8) X.gens.length (FD X.gens):=by
    rw[AN hy];refine Gg (by omega) _ _ _ ?_;rw[AN hd];have h8:=((AN hR).alloc (Al #[S (O ⟨U,0,N⟩) X.rows.length M,S A8 X.gens.length c8] 43)).kept (AN hw) (F1 (AN hR) (AN ht) (by decide));refine B7 h8 (a:=⟨hD.heap.size,0,N⟩) (fun hc=>?_) _;have:=((AN hR).lt _ hc).2;simp at this
   obtain⟨A1,c1,ch,cn⟩:=JG hq;obtain⟨A2,c2,ci,co⟩:=J8 hr;simp only[A9,Br]at ch ci;obtain⟨rfl,rfl⟩:=ch;obtain⟨rfl,rfl⟩:=ci;refine AG (by simp[results,Tryz.results140,go_sem,t0,t1]<;>rfl) R ⟨O ⟨U,0,N⟩,M,A8,c8,by rw[AN hH],⟨⟨cn,co⟩,Hf hq (by omega),Hf hr (by omega)⟩,he.bel⟩
 ·rw[AF hj];generalize (FP X).2=wa at *;generalize (FP X).1=we at *;unfold FL;go_enter Tryz.func140,Tryz.ntmps140
  go_wp2_with(first
   |(go_at_call 35;refine(AN HP _ (AN hh).bel).mono ?_;rintro e w5⟨rfl,J⟩;have D:=(AN hh).below J;have hz:w.heap.size+1+1<w5.heap.size:=D.sz;have t0:w5.cell? ⟨w.heap.size+1+1,0,N⟩=O (S N 0 0):=D.t0;have t1:w5.cell? ⟨w.heap.size+1+1,1,N⟩=O (S N 0 0):=D.t1;have f0:w5.frozen? ⟨w.heap.size+1+1,0,N⟩=false:=D.f 0;have f1:w5.frozen? ⟨w.heap.size+1+1,1,N⟩=false:=D.f 1;have cj:=An D;clear J D))
  go_region
  all_goals(try go_wp2)
  all_goals
   refine AG (by simp[results,Tryz.results140,go_sem,t0,t1,hz]<;>rfl) R ⟨N,0,N,0,rfl,Ha _ _,?_⟩
   exact Gt ((((AN cj).bel.setCell (p:=⟨w.heap.size+1+1,0,N⟩) (by simp;omega) _).setCell (p:=⟨w.heap.size+1+1,1,N⟩) (by simp;omega) _).alloc (by simpa using(AN cj).bel.size) _) 1
theorem Uo(A:Option Addr)(F:Nat)(G:Option Addr)(h:Nat)(X:Wd)(i g:Int)(w:World)(hb:X.rows.length≤9223372036854775807)(hX:FX w A F G h X):
  Calls Au 111 #[Up A F G h X,FJ i g] w fun e w'=>∃M U V D,e=Ao (Ai #[Up M U V D (GS X i g).2,I K (GS X i g).1])∧Gv w.heap.size w' M U V D (GS X i g).2∧Below w.heap.size w w':=by
 obtain⟨W1,E⟩:∃W,W=(w.alloc (Al #[S A X.rows.length F,S G X.gens.length h] 43)).alloc (Al #[I K i,I K g] 61):=⟨_,rfl⟩;have z1:W1.heap.size=w.heap.size+2:=by rw[E];simp
 have b1:Below w.heap.size w W1:=by rw[E];go_grown
 obtain⟨y0,y1,yf,yb⟩:=H' (W:=W1) (u0:=S N 0 0) (u1:=S N 0 0) (t:=43) z1;have J:AB w (w.heap.size+2) (S N 0 0) (S N 0 0) (W1.alloc (Al #[S N 0 0,S N 0 0] 43)):=⟨b1.trans (yb.mono b1.size),by omega,y0,y1,yf⟩;have hC:=VD A F G h X i g (W1.alloc (Al #[S N 0 0,S N 0 0] 43)) hb (hX.below J.bel);rw[E]at hC J;have HZ:=(show w.heap.size+2<(W1.alloc (Al #[S N 0 0,S N 0 0] 43)).heap.size by simp;omega);rw[E]at HZ;clear E z1 b1 y0 y1 yf yb hX;generalize GS X i g=z at *;obtain⟨er,Z⟩:=z;dsimp only at *;unfold Up FF FJ at *;go_enter Tryz.func111,Tryz.ntmps111
 go_wp2_with(first
  |(go_at_call 140;refine hC.mono ?_;rintro e w5⟨M,U,V,D,rfl,hN,Y⟩;have ha:=(J.below Y);clear Y)
  |(refine As R 43 (Am 4) (Am 9) R (w.heap.size+2) 0 [S M Z.rows.length U,S V Z.gens.length D] R R (by simp[Ar]) F8 ha.there ?_;intro W3 L;have H:=ha.give (S M Z.rows.length U) (S V Z.gens.length D);rw[←L]at H;have hc:=An L;clear L))
 have t0:=H.t0;have t1:=H.t1;refine AG (by simp[results,Tryz.results111,go_sem,t0,t1]<;>rfl) R ⟨M,U,V,D,rfl,?_,H.bel⟩
 rw[AN hc];exact(hN.sets HZ).mono (by have:=HZ;omega)
set_option maxRecDepth 100000
theorem YT{w:World}{B n g D:Nat}{H:List Value}(h:w.ownsRow B 116 11 (S (O ⟨g,0,N⟩) n D) n H)(M:0<D):∃F,w.shape? g=O (116,F)∧F≠0:=by
 obtain⟨E,J,U,V,L,Y⟩:=I4 h;exact⟨E.size,by simp[World.shape?,J],by rw[L];omega⟩
theorem fZ(w:World):(Go.sizeOf 116).run Au w=.ok 11 w:=by kernel_rfl
theorem Wl(B:Nat)(A:Option Addr)(D:Nat)(h:List D7)(r:D7)(vb:Nat)(w:World)(hn:h.length≤1000)(hB:B≤w.heap.size)(ho:w.ownsRow B 116 11 (S A h.length D) h.length (At h))(hv:Vf w vb r):
  Calls Au 150 #[S A h.length D,I K (h.length:Int),S (O ⟨vb,0,N⟩) 1 1] w fun e w'=>∃g' c',e=Ao (S (O ⟨g',0,N⟩) (h.length+1) c')∧w'.ownsRow B 116 11 (S (O ⟨g',0,N⟩) (h.length+1) c') (h.length+1) (At (h++[r]))∧w.grownBy w' (S A h.length D).ownBlock:=by
 obtain⟨Z,F,H,J,L⟩:=BC OC;have HE:Hid (At (h++[r])=At h++D' r):=by rw[Jk];exact An (by unfold At;simp)
 have hb:h.length≤D:=by
  rcases ho.2 with⟨Y,h0⟩|⟨g,c,ha,Y,_,_,h1,_⟩
  ·omega
  ·simp only[A9,Br]at Y;omega
 have hc:D≤9223372036854775807:=by
  rcases ho.2 with⟨Y,h0⟩|⟨g,c,ha,Y,_,_,_,h1,_⟩
  ·simp only[A9]at Y;omega
  ·simp only[A9,Br]at Y;unfold maxLen at h1;omega
 have q0:(0:Int)≤(h.length:Int):=by omega
 generalize At h=xs at *;generalize At (h++[r])=ys at *;generalize h.length=n at *
 cases A with
 | none =>
  go_enter Tryz.func150,Tryz.ntmps150
  go_wp2_with(first
   |(at_builtin;refine FY _ R (Am 23) (Am 24) 41 R B 116 Z _ 11 88 Tryz.underlying41 F H J L R (by decide) _ n xs R ho ⟨vb,0,N⟩ 1 1 (D' r) R R hv.src (F9 r) (by unfold maxLen;omega) (by omega) hB (by omega) ?_;intro g E w7 M U V;clear V))
  go_ret;exact⟨g,E,rfl,by rw[AN HE];exact M,U⟩
 | some a =>
  obtain⟨b,o,sp⟩:=a;go_enter Tryz.func150,Tryz.ntmps150
  go_wp2_with(first
   |(at_builtin;refine FY _ R (Am 23) (Am 24) 41 R B 116 Z _ 11 88 Tryz.underlying41 F H J L R (by decide) _ n xs R ho ⟨vb,0,N⟩ 1 1 (D' r) R R hv.src (F9 r) (by unfold maxLen;omega) (by omega) hB (by omega) ?_;intro g E w7 M U V;clear V))
  all_goals
   go_ret;exact⟨g,E,rfl,by rw[AN HE];exact M,U⟩
theorem TQ(B g E k:Nat)(D:List D7)(r:D7)(F:Nat)(w:World)(hk:k<D.length)(hc:D.length+1≤E)(hb:F≠g)(ho:w.ownsRow B 116 11 (S (O ⟨g,0,N⟩) D.length E) D.length (At D))(hv:Vf w F r):
  Calls Au 150 #[S (O ⟨g,0,N⟩) D.length E,I K (k:Int),S (O ⟨F,0,N⟩) 1 1] w fun e w'=>∃g' c',e=Ao (S (O ⟨g',0,N⟩) (D.length+1) c')∧w'.ownsRow B 116 11 (S (O ⟨g',0,N⟩) (D.length+1) c') (D.length+1) (At (Ix D k r))∧w.grownBy w' (O g):=by
 obtain⟨hr,c1,c2,c3,c4,c5⟩:=I4 ho;obtain⟨xs,hL,hd⟩:=bG ho hc;have Z:(Au.info? 116).map (·.size)=O 11:=N2;have H:xs.length=(D.length+1)*11:=hL.1;obtain⟨kB,he,V⟩:=YT ho (by omega);have hf:w.shape? F=O (116,11):=by simp[World.shape?,hv.h,D']
 have hg:w.frozen? ⟨F,0,N⟩=false:=by simp[World.frozen?,hv.h]
 have hh:w.frozen? ⟨F,11,N⟩=false:=by simp[World.frozen?,hv.h]
 have hm:∀lb cb,(callFunc 163 #[S (O ⟨F,0,N⟩) 1 1,S (O ⟨g,(k+1)*11,N⟩) lb cb]).run Au w=.ok (.value (Aj false)) w:=fun lb cb=>by
  rw[Fr Tryz.func163 (by kernel_rfl) (by kernel_rfl) (by kernel_rfl) (e:=Extern.SlicesOverlaps.overlaps #[41,41] #[4]) (by kernel_rfl),
   Fb w 41 4 116 Tryz.underlying41 11 fZ ⟨F,0,N⟩ ⟨g,(k+1)*11,N⟩ 1 1 lb cb hb 116 116 11 kB hf he V hg hh]
  rfl
 have L:=MZ D k;have J:∀ty dc sc,(Builtin.copy_ #[41,41] ty #[S (O ⟨g,(k+1)*11,N⟩) (D.length+1 - (k+1)) dc,S (O ⟨g,k*11,N⟩) (D.length+1 - k) sc]).run Au w.drew=.ok (goInt ((D.length - k:Nat):Int)) (w.drew.setCells g ((k+1)*11) (At (D.drop k))):=fun ty dc sc =>
  I9 w.drew 41 41 ty 116 g ((k+1)*11) (D.length+1 - (k+1)) dc ⟨g,k*11,N⟩ (D.length+1 - k) sc (D.length - k) 11 (At (D.drop k)) Tryz.underlying41 Z (by simp only[Dz];split <;>omega) L (Xe (Hg ho) k (by omega)) (Hl (Hg hL) _ _ (by rw[H,L];omega)) (Iz _)
 have M:=Ib (At (D.drop k)) ((k+1)*11) _ _ (Hg hL) (by rw[H,L];omega);have ha:(Ih xs ((k+1)*11) (At (D.drop k))).length=(D.length+1)*11:=by rw[JF];exact H
 obtain⟨W1,U⟩:∃W1,W1=w.drew.setCells g ((k+1)*11) (At (D.drop k)):=⟨_,rfl⟩;rw[←U]at J M;have hi:Vf W1 F r:=by rw[U];exact Vf.sets (⟨hv.h⟩:Vf w.drew F r) hb
 have Y:∀ty dc,(Builtin.copy_ #[41,41] ty #[S (O ⟨g,k*11,N⟩) (D.length+1 - k) dc,S (O ⟨F,0,N⟩) 1 1]).run Au W1=.ok (goInt 1) (W1.setCells g (k*11) (D' r)):=fun ty dc =>
  I9 W1 41 41 ty 116 g (k*11) (D.length+1 - k) dc ⟨F,0,N⟩ 1 1 1 11 (D' r) Tryz.underlying41 Z (by simp only[Dz];split <;>omega) (by rw[F2]) hi.src (Hl M _ _ (by rw[ha,F2];omega)) (F9 r)
 have hj:=Ib (D' r) (k*11) _ _ M (by rw[ha,F2];omega);rw[ZD D k r xs (by omega) H (YK hd (by omega))]at hj;have hl:w.grownBy W1 (O g):=by rw[U];exact Je (b:=g) (o:=0) _ _ _ ⟨rfl,rfl,rfl,AC _,fun _ _ _=>rfl⟩
 have hn:w.grownBy (W1.setCells g (k*11) (D' r)) (O g):=Je (b:=g) (o:=0) _ _ _ hl;have hp:=An J;have hq:=An Y;unfold maxLen at c3;clear hl M ha hi U hL hd H ho hv hf hg hh he V c1 c4 c5 L J Y Z;generalize At (Ix D k r)=ys at *;generalize At (D.drop k)=mv at *;generalize D.length=n at *;have q0:(0:Int)≤(k:Int):=by omega
 have q1:(k:Int)≤(n:Int):=by omega
 have q2:¬ ((k:Int)=(n:Int)):=by omega
 have q3:¬ ((E:Int)<(n:Int)+1):=by omega
 have q4:(n:Int)+1≤(E:Int):=by omega
 have q5:(0:Int)≤(k:Int)+1:=by omega
 have q6:(k:Int)+1≤(n:Int)+1:=by omega
 have q7:(k:Int)≤(n:Int)+1:=by omega
 have q8:((k:Int)+1).toNat=k+1:=by omega
 have q9:¬ E=k+1:=by omega
 have hs:¬ E=k:=by omega
 have ht:((n:Int)+1).toNat=n+1:=by omega
 have hu:IntKind.i64.wrap ((k:Int)+1)=(k:Int)+1:=by rw[CS];omega
 go_enter Tryz.func150,Tryz.ntmps150
 go_wp2_with(simp only[hm])
 go_region_law (refine KE R (Am 73) (Am 76) 41 41 R _ _ (by simp[Aq,Act.put];rfl) (by simp[Aq,Act.put];rfl) (AN hp _ _ _) ?_)
 have hw:=AN hq 3 (E - k);go_wp2_with fail
 go_ret;exact⟨g,E,rfl,hj,hn⟩
theorem LK{P:Program}(w:World){ops:Array Oper}{D:List Oper}{o:Oper}{a:Act}{Q:Exit→Act→World→Prop}(E:o.guard=N)(d s:Operand)(t F:TypeId)
  (L:o.op=.call { callee:=.builtin .append,args:=#[d,s],argTypes:=#[t,F] }) (v u:Value) (M:a.eval d=v) (U:a.eval s=u) {H:Value} {J:World}
  (V:(Builtin.append_ #[t,F] o.type #[v,u]).run P w=.ok H J) (h:∀W1,W1=J→wpList P ops Q D (a.put o.dst H) W1):wpList P ops Q (o :: D) a w :=
 Do E fun _ Y=>by
  unfold Oper.wp execOp;simp only[L,resolve,invoke,builtin,Db,Dp,CJ,Dq,BZ,DE,M,U,V];exact Y _ _ (h _ R)
theorem Lx{w:World}{G:Nat}{D:Option Nat}(F:w.heap.size≤G):∀(vs:List Value) (o:Nat) (W:World),w.grownBy W D→w.grownBy (W.setCells G o vs) D
 |[],_,_,h=>h
 | u :: r,o,W,h=>Lx F r (o+1) _ ⟨h.os,h.tape,h.output,by rw[World.size_setCell];exact h.size,fun k H E=>by
   rw[Dy W ⟨G,o,N⟩ u k (by show k≠G;omega)];exact h.block k H E⟩
theorem Us(B g E k:Nat)(D:List D7)(r:D7)(vb:Nat)(w:World)(hn:D.length≤1000)(hk:k<D.length)(hc:E<D.length+1)(hB:B≤w.heap.size)(ho:w.ownsRow B 116 11 (S (O ⟨g,0,N⟩) D.length E) D.length (At D))(hv:Vf w vb r):
  Calls Au 150 #[S (O ⟨g,0,N⟩) D.length E,I K (k:Int),S (O ⟨vb,0,N⟩) 1 1] w fun e w'=>∃g' c',e=Ao (S (O ⟨g',0,N⟩) (D.length+1) c')∧w'.ownsRow B 116 11 (S (O ⟨g',0,N⟩) (D.length+1) c') (D.length+1) (At (Ix D k r))∧w.grownBy w' (O g):=by
 obtain⟨hr,he,hf,J,L⟩:=BC OC;obtain⟨hM,c1,c2,c3,c4,c5⟩:=I4 ho;have hN:=(ho.lt g R).2;have hi:(Au.info? 116).map (·.size)=O 11:=N2;have hs:k+(D.length+1 - k)=D.length+1:=by omega
 have hg:(Builtin.firstCells hr.size k (S (O ⟨g,0,N⟩) k E)).run Au w.drew=.ok (At (D.take k)).toArray w.drew:=by
  rw[J];refine Fq w.drew 11 k ⟨g,0,N⟩ k E (At (D.take k)) (by rw[Fy,AZ];congr 1;omega) (fun j u hj=>?_);rw[KF,AT];refine F4 (Hg ho) ?_;rw[←OJ,CR]at hj;split at hj
  ·exact hj
  ·cases hj
 obtain⟨C,hC⟩:∃C,C=grownCap w (D.length+1) E 116:=⟨_,rfl⟩;have ht:D.length+1≤C:=by rw[hC];exact Fk w _ _ _
 have hu:C≤maxLen:=by rw[hC];exact Et w _ _ _ (by unfold maxLen;omega)
 have hw:∀M,(Builtin.append_ #[41,3] M #[S (O ⟨g,0,N⟩) k E,I K ((D.length+1 - k:Nat):Int)]).run Au w =
   .ok (S (O ⟨w.heap.size,0,N⟩) (D.length+1) C) (w.drew.alloc (Al ((At (D.take k)).toArray++Builtin.zeroCells (Af #[I K 0,I K 0,I K 0,I K 0,I K 0,I K 0,I K 0,I K 0,I K 0,I K 0,I K 0]).cells (D.length+1 - k)++Builtin.zeroCells (Af #[I K 0,I K 0,I K 0,I K 0,I K 0,I K 0,I K 0,I K 0,I K 0,I K 0,I K 0]).cells (C - (D.length+1))) 116)):=fun M=>by
  have h:=EX w 41 3 M 116 hr _ K K Tryz.underlying41 Tryz.underlying3 he hf (O ⟨g,0,N⟩) k E (At (D.take k)) hg (D.length+1 - k) (by omega) (by rw[J];decide) (by omega) (by omega) (by rw[L];omega) (by rw[L,hs];exact growslice_fits (by omega) (by omega));rw[hs,←hC]at h;exact h
 obtain⟨W1,H⟩:∃W1,W1=w.drew.alloc (Al ((At (D.take k)).toArray++Builtin.zeroCells (Af #[I K 0,I K 0,I K 0,I K 0,I K 0,I K 0,I K 0,I K 0,I K 0,I K 0,I K 0]).cells (D.length+1 - k)++Builtin.zeroCells (Af #[I K 0,I K 0,I K 0,I K 0,I K 0,I K 0,I K 0,I K 0,I K 0,I K 0,I K 0]).cells (C - (D.length+1))) 116):=⟨_,rfl⟩;rw[←H]at hw;have hl:(At (D.take k)).length=k*11:=by rw[Fy,AZ];congr 1;omega
 obtain⟨xs,ha,hx⟩:∃xs,W1.ownsRow B 116 11 (S (O ⟨w.heap.size,0,N⟩) (D.length+1) C) (D.length+1) xs∧xs.take (k*11)=At (D.take k):=by
  have hh:∀m,(Builtin.zeroCells (Af #[I K 0,I K 0,I K 0,I K 0,I K 0,I K 0,I K 0,I K 0,I K 0,I K 0,I K 0]).cells m).size=m*11:=fun m=>EN _ m;rw[H];have U:((At (D.take k)).toArray++Builtin.zeroCells (Af #[I K 0,I K 0,I K 0,I K 0,I K 0,I K 0,I K 0,I K 0,I K 0,I K 0,I K 0]).cells (D.length+1 - k)++Builtin.zeroCells (Af #[I K 0,I K 0,I K 0,I K 0,I K 0,I K 0,I K 0,I K 0,I K 0,I K 0,I K 0]).cells (C - (D.length+1))).size=C*11:=by
   rw[Di,Di,hh,hh,Ex,hl];omega
  refine⟨_,⟨?_,.inr ⟨w.heap.size,C,_,rfl,hB,heap_alloc_new w.drew _,ht,hu,U,rfl⟩⟩,?_⟩
  ·rw[AZ,show ∀a:Array Value,a.toList.length=a.size from fun _=>DU,U];omega
  ·rw[CV,Cp (by omega),DT,DT,BJ]
   conv=>lhs;rw[←hl]
   exact EQ
 have V:xs.length=(D.length+1)*11:=ha.1;have hy:W1.ownsRow B 116 11 (S (O ⟨g,0,N⟩) D.length E) D.length (At D):=by rw[H];exact(Hg ho).alloc _
 have hz:w.grownBy W1 (O g):=by rw[H];exact⟨rfl,rfl,rfl,by simp,fun k hk _=>Ea w.drew _ k hk⟩
 have hH:vb<w.heap.size:=lt_of_block hv.h;have hA:Vf W1 vb r:=⟨by rw[H];exact(Ea w.drew _ vb hH).trans hv.h⟩;have Y:∀M dc,(Builtin.copy_ #[41,41] M #[S (O ⟨w.heap.size,k*11,N⟩) (D.length+1 - k) dc,S (O ⟨vb,0,N⟩) 1 1]).run Au W1=.ok (goInt 1) (W1.setCells w.heap.size (k*11) (D' r)):=fun M dc =>
  I9 W1 41 41 M 116 w.heap.size (k*11) (D.length+1 - k) dc ⟨vb,0,N⟩ 1 1 1 11 (D' r) Tryz.underlying41 hi (by simp only[Dz];split <;>omega) (by rw[F2]) hA.src (Hl ha _ _ (by rw[V,F2];omega)) (F9 r)
 have hb:=Ib (D' r) (k*11) _ _ ha (by rw[V,F2];omega);have hm:=JW (b:=w.heap.size) (by simp[Ax];omega) (D' r) (k*11) _ hy;have F:=Lx (G:=w.heap.size) Fu (D' r) (k*11) _ hz;obtain⟨W2,hD⟩:∃W2,W2=W1.setCells w.heap.size (k*11) (D' r):=⟨_,rfl⟩;rw[←hD]at Y hb hm F;have hp:(Ih xs (k*11) (D' r)).length=(D.length+1)*11:=by rw[JF];exact V
 have hd:=MZ D k;have Z:∀M dc sc,(Builtin.copy_ #[41,41] M #[S (O ⟨w.heap.size,(k+1)*11,N⟩) (D.length+1 - (k+1)) dc,S (O ⟨g,k*11,N⟩) (D.length - k) sc]).run Au W2.drew=.ok (goInt ((D.length - k:Nat):Int)) (W2.drew.setCells w.heap.size ((k+1)*11) (At (D.drop k))):=fun M dc sc =>
  I9 W2.drew 41 41 M 116 w.heap.size ((k+1)*11) (D.length+1 - (k+1)) dc ⟨g,k*11,N⟩ (D.length - k) sc (D.length - k) 11 (At (D.drop k)) Tryz.underlying41 hi (by simp only[Dz];split <;>omega) hd (Xe (Hg hm) k (by omega)) (Hl (Hg hb) _ _ (by rw[hp,hd];omega)) (Iz _)
 have hq:=Ib (At (D.drop k)) ((k+1)*11) _ _ (Hg hb) (by rw[hp,hd];omega);rw[ZE D k r xs (by omega) V hx]at hq;have hE:w.grownBy (W2.drew.setCells w.heap.size ((k+1)*11) (At (D.drop k))) (O g):=Lx Fu _ _ _ ⟨F.os,F.tape,F.output,F.size,F.block⟩;obtain⟨W3,hF⟩:∃W3,W3=W2.drew.setCells w.heap.size ((k+1)*11) (At (D.drop k)):=⟨_,rfl⟩;rw[←hF]at Z hq hE;have hI:=An Y;have hJ:=An Z;unfold maxLen at c3 hu;clear Y Z H hD hF ha hb hy hm hz F hA hx V hp hd hg hC hl ho hv c1 c4 c5 hi he hf J L;generalize At (Ix D k r)=ys at *;generalize D.length=n at *;have q0:(0:Int)≤(k:Int):=by omega
 have q1:(k:Int)≤(n:Int):=by omega
 have q2:¬ ((k:Int)=(n:Int)):=by omega
 have q3:(E:Int)<(n:Int)+1:=by omega
 have q5:(0:Int)≤(k:Int)+1:=by omega
 have q6:(k:Int)+1≤(n:Int)+1:=by omega
 have q7:(k:Int)≤(n:Int)+1:=by omega
 have q8:((k:Int)+1).toNat=k+1:=by omega
 have q9:¬ C=k+1:=by omega
 have hO:¬ C=k:=by omega
 have hL:¬ E=k:=by omega
 have hP:IntKind.i64.wrap ((k:Int)+1)=(k:Int)+1:=by rw[CS];omega
 have hQ:(k:Int)≤(E:Int):=by omega
 have hK:(n:Int)+1 - (k:Int)=((n+1 - k:Nat):Int):=by omega
 have hR:k≤n:=by omega
 have hS:=AN hI 3 (C - k);go_enter Tryz.func150,Tryz.ntmps150
 go_wp2_with(first
  |(at_builtin;refine LK _ R (Am 34) (Am 39) 41 3 R (S (O ⟨g,0,N⟩) k E) (I K ((n+1 - k:Nat):Int)) R (by first|rfl|simp[Aq,hK]) (hw _) ?_;intro hT hG;obtain rfl:=hG))
 go_region_law (refine KE R (Am 50) (Am 53) 41 41 R _ _ (by simp[Aq,Act.put];rfl) (by simp[Aq,Act.put];rfl) (AN hJ _ _ _) ?_)
 go_wp2_with fail
 go_ret;exact⟨w.heap.size,C,rfl,hq,hE⟩
theorem Q0(B:Nat)(A:Option Addr)(E k:Nat)(D:List D7)(r:D7)(F:Nat)(w:World)(M:D.length≤1000)(hk:k≤D.length)(U:B≤w.heap.size)(J:∀ c o,A=O ⟨c,o,N⟩→F≠c)(H:w.ownsRow B 116 11 (S A D.length E) D.length (At D))(L:Vf w F r):
  Calls Au 150 #[S A D.length E,I K (k:Int),S (O ⟨F,0,N⟩) 1 1] w fun e V=>∃Y Z,e=Ao (S (O ⟨Y,0,N⟩) (D.length+1) Z)∧V.ownsRow B 116 11 (S (O ⟨Y,0,N⟩) (D.length+1) Z) (D.length+1) (At (Ix D k r))∧w.grownBy V (S A D.length E).ownBlock:=by
 by_cases h:k=D.length
 ·subst h;rw[bz];exact Wl B A E D r F w M U H L
 ·obtain⟨g,c,hA,_⟩:=Gi H (by omega);simp only[A9,Br]at hA;obtain⟨rfl,rfl⟩:=hA;by_cases hc:D.length+1≤E
  ·exact TQ B g E k D r F w (by omega) hc (J g 0 R) H L
  ·exact Us B g E k D r F w M (by omega) (by omega) U H L
set_option maxRecDepth 8000
theorem SH(A:Option Addr)(hd:Nat)(G:Option Addr)(M:Nat)(X:Wd)(hf n:Int)(w:World)(cT:X.rows.length≤9223372036854775807)(hX:FX w A hd G M X):
  Calls Au 132 #[Up A hd G M X,I K hf,I K n] w fun e w'=>∃A' c' G' ct,e=Ao (Ai #[Up A' c' G' ct (FQ X hf n).2.2,FJ (FQ X hf n).2.1.1 (FQ X hf n).2.1.2,I K (FQ X hf n).1])∧Gv w.heap.size w' A' c' G' ct (FQ X hf n).2.2∧Below w.heap.size w w':=by
 have cu:=SB.start w (S A X.rows.length hd) (S G X.gens.length M);have hP:=fun W (hb:Below w.heap.size w W)=>J2 A X.rows.length hd G X.gens.length M (fun j=>X.rows.getD j dR) (fun j=>X.gens.getD j 0) W (by omega) (hX.rows.below hb) (hX.gens.below hb);have eW:Hk (fun j=>X.rows.getD j dR) X.rows.length X.gens.length (fun j=>X.gens.getD j 0)=FP X:=rfl;rw[eW]at hP;unfold Gr FF at hP;have HP:=An hP;have HX:=An hX;have hg:=An cu;clear hP cu eW hX;unfold FQ;unfold Up FF FJ;by_cases hH:(FP X).1=0
 ·rw [AA (by simpa using hH)];obtain⟨cU,cW,cN⟩:=GD hH;obtain⟨hn,cv⟩:=NT hH;rw[hH]at HP;generalize (FP X).2=wa at *
  cases hs:FV hf
  ·simp only[El,BX];unfold FL;go_enter Tryz.func132,Tryz.ntmps132
   go_wp2_with(first
    |(go_at_call 35;refine(AN HP _ (AN hg).bel).mono ?_;rintro e w5⟨rfl,V⟩;have U:=(AN hg).below V;have E:=U.below (Fv.alloc Fu (Al #[I K 0,I K wa] 29));have r0:=E.r0;have r1:=E.r1;have Y:=An E;clear V U E)
    |(go_at_call 44;refine(Hs _ _).mono ?_;rintro e w1⟨rfl,hw⟩;obtain rfl:=hw.symm)
    |(go_at_call 124;refine(Il _ _).mono ?_;rintro e w1⟨rfl,hw⟩;obtain rfl:=hw.symm)
    |(refine As R 43 (Am 6) (Am 30) R (w.heap.size+1) 0 [S N 0 0,S N 0 0] R R (by simp[Ar]) F8 (AN Y).thereA ?_;intro W3 F;have hk:=(AN Y).giveA (S N 0 0) (S N 0 0);rw[←F]at hk;have hA:=An hk;clear F hk)
    |(refine As R 61 (Am 7) (Am 31) R (w.heap.size+2) 0 [I K 0,I K 0] R R (by simp[Ar]) Im (AN hA).thereB ?_;intro W4 hB;have J:=(AN hA).giveB (I K 0) (I K 0);rw[←hB]at J;have D:=An J;clear hB J))
   have t0:=(AN D).t0;have t1:=(AN D).t1;have s0:=(AN D).s0;have s1:=(AN D).s1;refine AG (by simp[results,Tryz.results132,go_sem,t0,t1,s0,s1]<;>rfl) R ⟨N,0,N,0,rfl,Ha _ _,(AN D).bel⟩
  ·cases hv:Hx n
   ·simp only[DM,BX];unfold FL;go_enter Tryz.func132,Tryz.ntmps132
    go_wp2_with(first
     |(go_at_call 35;refine(AN HP _ (AN hg).bel).mono ?_;rintro e w5⟨rfl,V⟩;have U:=(AN hg).below V;have E:=U.below (Fv.alloc Fu (Al #[I K 0,I K wa] 29));have r0:=E.r0;have r1:=E.r1;have Y:=An E;clear V U E)
     |(go_at_call 44;refine(Hs _ _).mono ?_;rintro e w1⟨rfl,hw⟩;obtain rfl:=hw.symm)
     |(go_at_call 124;refine(Il _ _).mono ?_;rintro e w1⟨rfl,hw⟩;obtain rfl:=hw.symm)
     |(refine As R 43 (Am 6) (Am 30) R (w.heap.size+1) 0 [S N 0 0,S N 0 0] R R (by simp[Ar]) F8 (AN Y).thereA ?_;intro W3 F;have hk:=(AN Y).giveA (S N 0 0) (S N 0 0);rw[←F]at hk;have hA:=An hk;clear F hk)
     |(refine As R 61 (Am 7) (Am 31) R (w.heap.size+2) 0 [I K 0,I K 0] R R (by simp[Ar]) Im (AN hA).thereB ?_;intro W4 hB;have J:=(AN hA).giveB (I K 0) (I K 0);rw[←hB]at J;have D:=An J;clear hB J))
    have t0:=(AN D).t0;have t1:=(AN D).t1;have s0:=(AN D).s0;have s1:=(AN D).s1;refine AG (by simp[results,Tryz.results132,go_sem,t0,t1,s0,s1]<;>rfl) R ⟨N,0,N,0,rfl,Ha _ _,(AN D).bel⟩
   ·simp only[E2,C2,BG];have cd:=fun W (hb:Below w.heap.size w W)=>bS A hd G M X W (by omega) (by omega) (fun j hj=>by have:=cN j hj;omega) ((AN HX).below hb);unfold Up FF FJ at cd;have hW:=An cd;clear cd;by_cases hh:(Gl X).2=0
    ·rw [AA (by simpa using hh)];obtain⟨k,ce,cX⟩:=Xh X hh;rw[hh,ce]at hW;rw[ce];generalize (Gl X).1.2=Z at *;clear ce hh;have hY:0≤hf∧hf≤255:=(by unfold FV at hs;simpa using hs);obtain⟨hY,cw⟩:=hY;obtain⟨r,cf⟩:∃r,MR (k:Int) Z hf n=r:=⟨_,rfl⟩;rw[cf];by_cases cO:k=X.gens.length
     ·subst cO;have cP:(X.gens.length:Int)<((X.gens.length+1:Nat):Int):=(by omega);have cx:X.gens.length<(X.gens++[(0:Int)]).length:=(by simp);have cy:X.gens.length+1=(X.gens++[(0:Int)]).length:=(by simp);have cz:=An cx;have cg:=An cy;have cA:X.gens++[Z]=(X.gens++[(0:Int)]).set X.gens.length Z:=(by simp);obtain⟨i3,cB,cC,cD,cE⟩:=BC info3;have cQ:=An cB;have cF:=An cC;have cG:=An cD;have cH:=An cE;clear cB cC cD cE;unfold Iy;rw[AF R,cA];clear cA cx cy;have hF:=fun W (hb:Below w.heap.size w W)=>Uf A hd X.rows G M X.gens W hn cv ((AN HX).below hb).rows ((AN HX).below hb).gens;unfold FF at hF;have ch:=An hF;clear hF;go_enter Tryz.func132,Tryz.ntmps132
      go_wp2_with(first
      |(go_at_call 35;refine(AN HP _ (AN hg).bel).mono ?_;rintro e w5⟨rfl,V⟩;have U:=(AN hg).below V;have E:=U.below (Fv.alloc Fu (Al #[I K 0,I K wa] 29));have r0:=E.r0;have r1:=E.r1;have Y:=An E;clear V U E)
      |(go_at_call 44;refine(Hs _ _).mono ?_;rintro e w1⟨rfl,hw⟩;obtain rfl:=hw.symm)
      |(go_at_call 124;refine(Il _ _).mono ?_;rintro e w1⟨rfl,hw⟩;obtain rfl:=hw.symm)
      |(go_at_call 148;refine(AN hW _ (AN Y).bel).mono ?_;rintro e w6⟨rfl,hD⟩;have J:=(AN Y).below hD;have ci:=An J.sz;have hc:=J.below (Fv.alloc Fu (Al #[I K (X.gens.length:Int),I K Z] 61));have ca:=hc.r0;have cc:=hc.r1;have ht:=An hc;have cj:Hid ((w6.alloc (Al #[I K (X.gens.length:Int),I K Z] 61)).cell? ⟨w6.heap.size,0,N⟩=O (I K (X.gens.length:Int))):=An (by simp);have ck:Hid ((w6.alloc (Al #[I K (X.gens.length:Int),I K Z] 61)).cell? ⟨w6.heap.size,1,N⟩=O (I K Z)):=An (by simp);clear hD J hc r0 r1)
      |(go_at_call 149;refine(AN ch _ (AN ht).bel).mono ?_;rintro e w8⟨A5,c5,A8,c8,rfl,q5,q8,hm⟩;have H:=ZB.start ((AN ht).below hm) (AW hm (AN cj)) (AW hm (AN ck)) q5 q8 (AN ht).sz (by simp) hm.size;rw[show(w6.alloc (Al #[I K (X.gens.length:Int),I K Z] 61)).heap.size=w6.heap.size+1 from by simp]at H;have i0:=H.i0;have i1:=H.i1;have o0:=H.o0;have o1:=H.o1;have hu:=H.below (Fv.alloc Fu (Al #[I K 0] 3));have hC:=KU (w8.alloc (Al #[S A5 X.rows.length c5,S A8 X.gens.length c8] 43)) (I K 0) 3;rw[show(w8.alloc (Al #[S A5 X.rows.length c5,S A8 X.gens.length c8] 43)).heap.size=w8.heap.size+1 from by simp]at hC;have HC:=An hC;have hx:=An hu;clear hm q5 q8 H hu hC ca cc)
      |(at_builtin;refine FY _ R (Am 51) (Am 52) 23 R _ 3 i3 _ 1 8 Tryz.underlying23 (AN cQ) (AN cF) (AN cG) (AN cH) R (by decide) (S A8 X.gens.length c8) X.gens.length (FD X.gens) R (AN hx).p8 ⟨w8.heap.size+1,0,N⟩ 1 1 [I K 0] R R (AN HC) (by simp[Ar]) (by unfold maxLen;omega) (by omega) (AN hx).base (by omega) ?_;intro g8 c9 w9 q9 cI cR;have cm:=(AN hx).app8 q9 cI;rw[←AN cg]at cm;have cJ:=An cm;clear i0 i1 o0 o1 q9 cI cR cm)
      |(refine FU R 23 (Am 54) (Am 53) R w8.heap.size 1 (S (O ⟨g8,0,N⟩) (X.gens.length+1) c9) R R R QR ((AN cJ).there12 1 (by decide)) ?_;intro W8 cK;have H:=(AN cJ).set1 (S (O ⟨g8,0,N⟩) (X.gens.length+1) c9);rw[←cK]at H;have i0:=H.i0;have i1:=H.i1;have o0:=H.o0;have o1:=H.o1;have hE:=An H;clear cK H;go_frame)
      |(refine FU R 3 (Am 61) (Am 60) R g8 X.gens.length (I K Z) R R R KZ ((AN hE).thereG (AN cg) X.gens.length (AN cz)) ?_;intro W5 hJ;have hG:=(AN hE).setG (AN cg) X.gens.length (AN cz) Z;rw[←hJ]at hG;have hK:=An hG;clear hJ hG))
      go_frame;refine Nk 1 [0,1,2,3,4,5,6,7,8,9,10,11,12] [13] [0,1,2,3,4,5,6,7,8,9,10,13] [11,12,14] (fun W=>ZB w (S A X.rows.length hd) (S G X.gens.length M) w6.heap.size w8.heap.size (w6.heap.size+1) (X.gens.length:Int) Z (S A5 X.rows.length c5) (S (O ⟨g8,0,N⟩) (X.gens.length+1) c9) (S A5 X.rows.length c5) (S (O ⟨g8,0,N⟩) (X.gens.length+1) c9) X.rows ((X.gens++[(0:Int)]).set X.gens.length Z) W)
       (by kernel_rfl) (by kernel_rfl) (by kernel_rfl) (by kernel_rfl) (by kernel_rfl) (by kernel_rfl) (by kernel_rfl) (fun w1 x h=>h.below x.bel) (AN hK) ?_
      apply Exists.intro;refine⟨?hq,?hp,?hl⟩
      case hq =>
       intro l w1 hl hI;simp only[Jp,AI,AH,Cd,B0,B3]at hl;subst hl;have hh:Nonempty (Hm w1):=⟨⟨w1,AD _ _⟩⟩;have q0:=B1 hI.o0;have q1:=B1 hI.i0;have q2:=B1 hI.i1;have hM:=fun x:Hm w1=>SW A5 c5 X.rows (X.gens.length:Int) x.val (by omega) (Js (hI.below x.bel).p5);have hy:=fun x:Hm w1=>Qs (X.gens.length:Int) Z hf n x.val hY cw;rw[cf]at hy;unfold FJ Hi at hy;have cn:=An hM;have co:=An hy;clear hI hM hy
       repeat(go_big_quiet_step((first|(go_at_call 151;exact Gf (AN cn _))|(go_at_call 152;exact Gf (AN co _)))))
       exact Bg R
      case hp =>
       intro l w1 hl;simp only[Jp,AI,AH,Cd,B0,B3]at hl;subst hl;have hh:Nonempty (Hm w1):=⟨⟨w1,AD _ _⟩⟩
       repeat(go_big_quiet_step(fail))
       exact Bg R
      case hl =>
       intro l hl x;simp only[Jp,AI,AH,Cd,B0,B3]at hl;subst hl;have hZ:=(AN hK).below x.bel;have HZ:=An hZ;clear hZ;unfold Ja;go_wp2;refine Jj fun x2=>⟨fun _=>?_,?_⟩
       ·exact((AN HZ).below (Fv.alloc Fu _)).below x2.bel
       ·have hz:=((AN HZ).below (Fv.alloc Fu _)).below x2.bel;have hN:=(Su x.val r).below x2.bel;have hO:=Q0 _ A5 c5 (Hy X.rows (X.gens.length:Int)) X.rows r x.val.heap.size x2.val (by omega) (KO _ _) hz.base (fun c o e=>by have:=((AN HZ).p5.lt c (by rw[e];rfl)).2;omega) hz.p5 hN;have cp:=An hO;have cq:=An hz;clear hO hz hN;unfold Ja;go_wp2_with(go_at_call 150;refine(AN cp).mono ?_;rintro e w3⟨g5,ha,rfl,hQ,hR⟩)
        refine Jj fun x3=>⟨fun h=>absurd h (by decide),?_⟩;have cr:(Ix X.rows (Hy X.rows (X.gens.length:Int)) r).length=X.rows.length+1:=Ky _ _ _ (KO _ _);have hS:=((AN cq).give5 (v5':=S (O ⟨g5,0,N⟩) (X.rows.length+1) ha) (rows':=Ix X.rows (Hy X.rows (X.gens.length:Int)) r) hR (by rw[cr];exact hQ)).below x3.bel;have hT:=An hS;clear hS hQ hR;unfold Ja;refine FU R 41 (Am 75) (Am 74) R w8.heap.size 0 (S (O ⟨g5,0,N⟩) (X.rows.length+1) ha) R R R Lf ((AN hT).there12 0 (by decide)) ?_;intro W9 hU;unfold wpList;refine Jj fun x4=>⟨fun h=>absurd h (by decide),?_⟩;have hu:=((AN hT).set0 (S (O ⟨g5,0,N⟩) (X.rows.length+1) ha));rw[←hU]at hu;have hx:=An (hu.below x4.bel);clear hu hU;unfold Ja;go_wp2;go_frame;refine Ik [0,1,4] [2,3] (fun L W=>∃y0 y1 z0 z1,SB w (S A X.rows.length hd) (S G X.gens.length M) y0 y1 z0 z1 W∧(L 2=true→y0=S (O ⟨g5,0,N⟩) (X.rows.length+1) ha∧y1=S (O ⟨g8,0,N⟩) (X.gens.length+1) c9)∧(L 3=true→z0=I K (X.gens.length:Int)∧z1=I K Z)∧FE w w6.heap.size w8.heap.size (w6.heap.size+1) (X.gens.length:Int) Z (S (O ⟨g5,0,N⟩) (X.rows.length+1) ha) (S (O ⟨g8,0,N⟩) (X.gens.length+1) c9) (Ix X.rows (Hy X.rows (X.gens.length:Int)) r) ((X.gens++[(0:Int)]).set X.gens.length Z) W)
         (by kernel_rfl) (by kernel_rfl) (by kernel_rfl) (by kernel_rfl) (by kernel_rfl) (by kernel_rfl) (by kernel_rfl) ?_ ?_ ?_ ?_
        ·rintro L w1 x⟨y0,y1,z0,z1,h1,h2,h3,h4⟩;exact⟨y0,y1,z0,z1,h1.below x.bel,h2,h3,h4.below x.bel⟩
        ·rintro L L' w1 he⟨y0,y1,z0,z1,h1,h2,h3,h4⟩;exact⟨y0,y1,z0,z1,h1,by rw[he 2 (by simp)];exact h2,by rw[he 3 (by simp)];exact h3,h4⟩
        ·exact⟨_,_,_,_,(AN hx).sb,fun h=>(by cases h),fun h=>(by cases h),(AN hx).fin (c0:=I K 0) (c1:=I K 0) (AN ci)⟩
        ·apply Exists.intro;refine⟨?hq,?hl,?hend⟩
         case hq =>
          rintro l L w1 hl⟨y0,y1,z0,z1,h1,h2,h3,h4⟩;simp only[Jp,AI,AH,Cd,B0,B3]at hl;subst hl;have hh:Nonempty (Hm w1):=⟨⟨w1,AD _ _⟩⟩;have q0:=B1 h4.o0;have q1:=B1 h4.o1;have q2:=B1 h4.i0;have q3:=B1 h4.i1;clear h1 h2 h3 h4
          repeat(go_big_quiet_step(fail))
          exact Bg R
         case hl =>
          rintro i o hi ho L w1⟨y0,y1,z0,z1,h1,h2,h3,h4⟩ hL;simp only[Bu,Ch,Dk]at hi;rcases hi with rfl|rfl
          ·simp only[AI,AH,Bc]at ho;subst ho;refine As R 43 (Am 6) (Am 76) R (w.heap.size+1) 0 [S (O ⟨g5,0,N⟩) (X.rows.length+1) ha,S (O ⟨g8,0,N⟩) (X.gens.length+1) c9] R R (by simp[Ar]) F8 h1.thereA ?_;intro W3 F;unfold wpList;exact⟨rfl,rfl,_,_,z0,z1,by rw[F];exact h1.giveA _ _,fun _=>⟨rfl,rfl⟩,fun h=>h3 h,by rw[F];exact h4.sets (by omega)⟩
          ·simp only[AI,AH,Bc]at ho;subst ho;refine As R 61 (Am 7) (Am 77) R (w.heap.size+2) 0 [I K (X.gens.length:Int),I K Z] R R (by simp[Ar]) Im h1.thereB ?_;intro W3 F;unfold wpList;exact⟨rfl,rfl,y0,y1,_,_,by rw[F];exact h1.giveB _ _,fun h=>h2 h,fun _=>⟨rfl,rfl⟩,by rw[F];exact h4.sets (by omega)⟩
         case hend =>
          rintro L w1⟨y0,y1,z0,z1,h1,h2,h3,h4⟩ hr;obtain⟨rfl,rfl⟩:=h2 (hr 2 (by simp));obtain⟨rfl,rfl⟩:=h3 (hr 3 (by simp));have D:=An h1;have HE:=An h4;clear h1 h2 h3 h4 hr;go_wp2;have t0:=(AN D).t0;have t1:=(AN D).t1;have s0:=(AN D).s0;have s1:=(AN D).s1;have hV:(Ix X.rows (Hy X.rows (X.gens.length:Int)) r).length=X.rows.length+1:=Ky _ _ _ (KO _ _);refine AG (by simp[results,Tryz.results132,go_sem,t0,t1,s0,s1]<;>rfl) R ⟨O ⟨g5,0,N⟩,ha,O ⟨g8,0,N⟩,c9,?_,?_,(AN D).bel⟩
          ·simp[hV]
          ·exact(AN HE).wld hV.symm (by simp)
     ·have cL:¬ ((k:Int)=(X.gens.length:Int)):=(by omega);have cY:k<X.gens.length:=(by omega);have cP:(k:Int)<(X.gens.length:Int):=(by omega);unfold Iy;rw[AA cL];have hF:=fun W (hb:Below w.heap.size w W)=>Yq A hd X.rows G M X.gens W hn cv (by omega) ((AN HX).below hb).rows ((AN HX).below hb).gens;unfold FF at hF;have ch:=An hF;clear hF;go_enter Tryz.func132,Tryz.ntmps132
      go_wp2_with(first
      |(go_at_call 35;refine(AN HP _ (AN hg).bel).mono ?_;rintro e w5⟨rfl,V⟩;have U:=(AN hg).below V;have E:=U.below (Fv.alloc Fu (Al #[I K 0,I K wa] 29));have r0:=E.r0;have r1:=E.r1;have Y:=An E;clear V U E)
      |(go_at_call 44;refine(Hs _ _).mono ?_;rintro e w1⟨rfl,hw⟩;obtain rfl:=hw.symm)
      |(go_at_call 124;refine(Il _ _).mono ?_;rintro e w1⟨rfl,hw⟩;obtain rfl:=hw.symm)
      |(go_at_call 148;refine(AN hW _ (AN Y).bel).mono ?_;rintro e w6⟨rfl,hD⟩;have J:=(AN Y).below hD;have ci:=An J.sz;have hc:=J.below (Fv.alloc Fu (Al #[I K (k:Int),I K Z] 61));have ca:=hc.r0;have cc:=hc.r1;have ht:=An hc;have cj:Hid ((w6.alloc (Al #[I K (k:Int),I K Z] 61)).cell? ⟨w6.heap.size,0,N⟩=O (I K (k:Int))):=An (by simp);have ck:Hid ((w6.alloc (Al #[I K (k:Int),I K Z] 61)).cell? ⟨w6.heap.size,1,N⟩=O (I K Z)):=An (by simp);clear hD J hc r0 r1)
      |(go_at_call 149;refine(AN ch _ (AN ht).bel).mono ?_;rintro e w8⟨A5,c5,g8,c8,rfl,q5,q8,hm⟩;have H:=ZB.start ((AN ht).below hm) (AW hm (AN cj)) (AW hm (AN ck)) q5 q8 (AN ht).sz (by simp) hm.size;rw[show(w6.alloc (Al #[I K (k:Int),I K Z] 61)).heap.size=w6.heap.size+1 from by simp]at H;have i0:=H.i0;have i1:=H.i1;have o0:=H.o0;have o1:=H.o1;have hE:=An H;clear hm q5 q8 H ca cc)
      |(refine FU R 3 (Am 61) (Am 60) R g8 k (I K Z) R R R KZ ((AN hE).thereG R k (by omega)) ?_;intro W5 hJ;have hG:=(AN hE).setG R k (by omega) Z;rw[←hJ]at hG;have hK:=An hG;clear hJ hG))
      go_frame;refine Nk 1 [0,1,2,3,4,5,6,7,8,9,10,11,12] [13] [0,1,2,3,4,5,6,7,8,9,10,13] [11,12,14] (fun W=>ZB w (S A X.rows.length hd) (S G X.gens.length M) w6.heap.size w8.heap.size (w6.heap.size+1) (k:Int) Z (S A5 X.rows.length c5) (S (O ⟨g8,0,N⟩) X.gens.length c8) (S A5 X.rows.length c5) (S (O ⟨g8,0,N⟩) X.gens.length c8) X.rows (X.gens.set k Z) W)
       (by kernel_rfl) (by kernel_rfl) (by kernel_rfl) (by kernel_rfl) (by kernel_rfl) (by kernel_rfl) (by kernel_rfl) (fun w1 x h=>h.below x.bel) (AN hK) ?_
      apply Exists.intro;refine⟨?hq,?hp,?hl⟩
      case hq =>
       intro l w1 hl hI;simp only[Jp,AI,AH,Cd,B0,B3]at hl;subst hl;have hh:Nonempty (Hm w1):=⟨⟨w1,AD _ _⟩⟩;have q0:=B1 hI.o0;have q1:=B1 hI.i0;have q2:=B1 hI.i1;have hM:=fun x:Hm w1=>SW A5 c5 X.rows (k:Int) x.val (by omega) (Js (hI.below x.bel).p5);have hy:=fun x:Hm w1=>Qs (k:Int) Z hf n x.val hY cw;rw[cf]at hy;unfold FJ Hi at hy;have cn:=An hM;have co:=An hy;clear hI hM hy
       repeat(go_big_quiet_step((first|(go_at_call 151;exact Gf (AN cn _))|(go_at_call 152;exact Gf (AN co _)))))
       exact Bg R
      case hp =>
       intro l w1 hl;simp only[Jp,AI,AH,Cd,B0,B3]at hl;subst hl;have hh:Nonempty (Hm w1):=⟨⟨w1,AD _ _⟩⟩
       repeat(go_big_quiet_step(fail))
       exact Bg R
      case hl =>
       intro l hl x;simp only[Jp,AI,AH,Cd,B0,B3]at hl;subst hl;have hZ:=(AN hK).below x.bel;have HZ:=An hZ;clear hZ;unfold Ja;go_wp2;refine Jj fun x2=>⟨fun _=>?_,?_⟩
       ·exact((AN HZ).below (Fv.alloc Fu _)).below x2.bel
       ·have hz:=((AN HZ).below (Fv.alloc Fu _)).below x2.bel;have hN:=(Su x.val r).below x2.bel;have hO:=Q0 _ A5 c5 (Hy X.rows (k:Int)) X.rows r x.val.heap.size x2.val (by omega) (KO _ _) hz.base (fun c o e=>by have:=((AN HZ).p5.lt c (by rw[e];rfl)).2;omega) hz.p5 hN;have cp:=An hO;have cq:=An hz;clear hO hz hN;unfold Ja;go_wp2_with(go_at_call 150;refine(AN cp).mono ?_;rintro e w3⟨g5,ha,rfl,hQ,hR⟩)
        refine Jj fun x3=>⟨fun h=>absurd h (by decide),?_⟩;have cr:(Ix X.rows (Hy X.rows (k:Int)) r).length=X.rows.length+1:=Ky _ _ _ (KO _ _);have hS:=((AN cq).give5 (v5':=S (O ⟨g5,0,N⟩) (X.rows.length+1) ha) (rows':=Ix X.rows (Hy X.rows (k:Int)) r) hR (by rw[cr];exact hQ)).below x3.bel;have hT:=An hS;clear hS hQ hR;unfold Ja;refine FU R 41 (Am 75) (Am 74) R w8.heap.size 0 (S (O ⟨g5,0,N⟩) (X.rows.length+1) ha) R R R Lf ((AN hT).there12 0 (by decide)) ?_;intro W9 hU;unfold wpList;refine Jj fun x4=>⟨fun h=>absurd h (by decide),?_⟩;have hu:=((AN hT).set0 (S (O ⟨g5,0,N⟩) (X.rows.length+1) ha));rw[←hU]at hu;have hx:=An (hu.below x4.bel);clear hu hU;unfold Ja;go_wp2;go_frame;refine Ik [0,1,4] [2,3] (fun L W=>∃y0 y1 z0 z1,SB w (S A X.rows.length hd) (S G X.gens.length M) y0 y1 z0 z1 W∧(L 2=true→y0=S (O ⟨g5,0,N⟩) (X.rows.length+1) ha∧y1=S (O ⟨g8,0,N⟩) X.gens.length c8)∧(L 3=true→z0=I K (k:Int)∧z1=I K Z)∧FE w w6.heap.size w8.heap.size (w6.heap.size+1) (k:Int) Z (S (O ⟨g5,0,N⟩) (X.rows.length+1) ha) (S (O ⟨g8,0,N⟩) X.gens.length c8) (Ix X.rows (Hy X.rows (k:Int)) r) (X.gens.set k Z) W)
         (by kernel_rfl) (by kernel_rfl) (by kernel_rfl) (by kernel_rfl) (by kernel_rfl) (by kernel_rfl) (by kernel_rfl) ?_ ?_ ?_ ?_
        ·rintro L w1 x⟨y0,y1,z0,z1,h1,h2,h3,h4⟩;exact⟨y0,y1,z0,z1,h1.below x.bel,h2,h3,h4.below x.bel⟩
        ·rintro L L' w1 he⟨y0,y1,z0,z1,h1,h2,h3,h4⟩;exact⟨y0,y1,z0,z1,h1,by rw[he 2 (by simp)];exact h2,by rw[he 3 (by simp)];exact h3,h4⟩
        ·exact⟨_,_,_,_,(AN hx).sb,fun h=>(by cases h),fun h=>(by cases h),(AN hx).fin (c0:=I K 0) (c1:=I K 0) (AN ci)⟩
        ·apply Exists.intro;refine⟨?hq,?hl,?hend⟩
         case hq =>
          rintro l L w1 hl⟨y0,y1,z0,z1,h1,h2,h3,h4⟩;simp only[Jp,AI,AH,Cd,B0,B3]at hl;subst hl;have hh:Nonempty (Hm w1):=⟨⟨w1,AD _ _⟩⟩;have q0:=B1 h4.o0;have q1:=B1 h4.o1;have q2:=B1 h4.i0;have q3:=B1 h4.i1;clear h1 h2 h3 h4
          repeat(go_big_quiet_step(fail))
          exact Bg R
         case hl =>
          rintro i o hi ho L w1⟨y0,y1,z0,z1,h1,h2,h3,h4⟩ hL;simp only[Bu,Ch,Dk]at hi;rcases hi with rfl|rfl
          ·simp only[AI,AH,Bc]at ho;subst ho;refine As R 43 (Am 6) (Am 76) R (w.heap.size+1) 0 [S (O ⟨g5,0,N⟩) (X.rows.length+1) ha,S (O ⟨g8,0,N⟩) X.gens.length c8] R R (by simp[Ar]) F8 h1.thereA ?_;intro W3 F;unfold wpList;exact⟨rfl,rfl,_,_,z0,z1,by rw[F];exact h1.giveA _ _,fun _=>⟨rfl,rfl⟩,fun h=>h3 h,by rw[F];exact h4.sets (by omega)⟩
          ·simp only[AI,AH,Bc]at ho;subst ho;refine As R 61 (Am 7) (Am 77) R (w.heap.size+2) 0 [I K (k:Int),I K Z] R R (by simp[Ar]) Im h1.thereB ?_;intro W3 F;unfold wpList;exact⟨rfl,rfl,y0,y1,_,_,by rw[F];exact h1.giveB _ _,fun h=>h2 h,fun _=>⟨rfl,rfl⟩,by rw[F];exact h4.sets (by omega)⟩
         case hend =>
          rintro L w1⟨y0,y1,z0,z1,h1,h2,h3,h4⟩ hr;obtain⟨rfl,rfl⟩:=h2 (hr 2 (by simp));obtain⟨rfl,rfl⟩:=h3 (hr 3 (by simp));have D:=An h1;have HE:=An h4;clear h1 h2 h3 h4 hr;go_wp2;have t0:=(AN D).t0;have t1:=(AN D).t1;have s0:=(AN D).s0;have s1:=(AN D).s1;have hV:(Ix X.rows (Hy X.rows (k:Int)) r).length=X.rows.length+1:=Ky _ _ _ (KO _ _);refine AG (by simp[results,Tryz.results132,go_sem,t0,t1,s0,s1]<;>rfl) R ⟨O ⟨g5,0,N⟩,ha,O ⟨g8,0,N⟩,c8,?_,?_,(AN D).bel⟩
          ·simp[hV]
          ·exact(AN HE).wld hV.symm (by simp)
    ·rw[AF hh];generalize (Gl X).1.1=ni at *;generalize (Gl X).1.2=Z at *;generalize (Gl X).2=ne at *;unfold FL;go_enter Tryz.func132,Tryz.ntmps132
     go_wp2_with(first
     |(go_at_call 35;refine(AN HP _ (AN hg).bel).mono ?_;rintro e w5⟨rfl,V⟩;have U:=(AN hg).below V;have E:=U.below (Fv.alloc Fu (Al #[I K 0,I K wa] 29));have r0:=E.r0;have r1:=E.r1;have Y:=An E;clear V U E)
     |(go_at_call 44;refine(Hs _ _).mono ?_;rintro e w1⟨rfl,hw⟩;obtain rfl:=hw.symm)
     |(go_at_call 124;refine(Il _ _).mono ?_;rintro e w1⟨rfl,hw⟩;obtain rfl:=hw.symm)
     |(go_at_call 148;refine(AN hW _ (AN Y).bel).mono ?_;rintro e w6⟨rfl,hD⟩;have J:=(AN Y).below hD;have hc:=J.below (Fv.alloc Fu (Al #[I K ni,I K Z] 61));have ca:=hc.r0;have cc:=hc.r1;have ht:=An hc;clear hD J hc r0 r1)
     |(refine As R 43 (Am 6) (Am 39) R (w.heap.size+1) 0 [S N 0 0,S N 0 0] R R (by simp[Ar]) F8 (AN ht).thereA ?_;intro W3 F;have hk:=(AN ht).giveA (S N 0 0) (S N 0 0);rw[←F]at hk;have hA:=An hk;clear F hk)
     |(refine As R 61 (Am 7) (Am 40) R (w.heap.size+2) 0 [I K 0,I K 0] R R (by simp[Ar]) Im (AN hA).thereB ?_;intro W4 hB;have J:=(AN hA).giveB (I K 0) (I K 0);rw[←hB]at J;have D:=An J;clear hB J))
     have t0:=(AN D).t0;have t1:=(AN D).t1;have s0:=(AN D).s0;have s1:=(AN D).s1;refine AG (by simp[results,Tryz.results132,go_sem,t0,t1,s0,s1]<;>rfl) R ⟨N,0,N,0,rfl,Ha _ _,(AN D).bel⟩
 ·rw[AF hH];generalize (FP X).2=wa at *;generalize (FP X).1=we at *;unfold FL;go_enter Tryz.func132,Tryz.ntmps132
  go_wp2_with(first
   |(go_at_call 35;refine(AN HP _ (AN hg).bel).mono ?_;rintro e w5⟨rfl,V⟩;have U:=(AN hg).below V;have E:=U.below (Fv.alloc Fu (Al #[I K we,I K wa] 29));have Y:=An E;have hE:=An U.sz;clear V U E))
  have cM:(w5.alloc (Al #[I K we,I K wa] 29)).cell? ⟨w5.heap.size,0,N⟩=O (I K we):=by simp
  have cS:=An cM;clear cM;refine Ik [0,1,2,3,6] [4,5] (fun _ W=>SB w (S A X.rows.length hd) (S G X.gens.length M) (S N 0 0) (S N 0 0) (I K 0) (I K 0) W∧W.cell? ⟨w5.heap.size,0,N⟩=O (I K we)) (by kernel_rfl) (by kernel_rfl) (by kernel_rfl) (by kernel_rfl) (by kernel_rfl) (by kernel_rfl) (by kernel_rfl)
   (fun L w1 x h=>⟨h.1.below x.bel,AW x.bel h.2⟩) (fun _ _ _ _ h=>h) ⟨AN Y,AN cS⟩ ?_
  apply Exists.intro;refine⟨?hq,?hl,?hend⟩
  case hq =>
   intro l L w1 hl hI;simp only[Jp,AI,AH,Cd,B0,B3]at hl;subst hl;have hh:Nonempty (Hm w1):=⟨⟨w1,AD _ _⟩⟩;have f0:=B1 hI.2;clear hI
   repeat(go_big_quiet_step(fail))
   exact Bg R
  case hl =>
   intro i o hi ho L w1 hI hL;simp only[Bu,Ch,Dk]at hi;rcases hi with rfl|rfl
   ·simp only[AI,AH,Bc]at ho;subst ho;refine As R 43 (Am 6) (Am 18) R (w.heap.size+1) 0 [S N 0 0,S N 0 0] R R (by simp[Ar]) F8 hI.1.thereA ?_;intro W3 F;unfold wpList;refine⟨rfl,rfl,by rw[F];exact hI.1.giveA _ _,?_⟩;rw[F];exact(FZ (by have:=AN hE;simp only[ne_eq];omega)).trans hI.2
   ·simp only[AI,AH,Bc]at ho;subst ho;refine As R 61 (Am 7) (Am 19) R (w.heap.size+2) 0 [I K 0,I K 0] R R (by simp[Ar]) Im hI.1.thereB ?_;intro W3 F;unfold wpList;refine⟨rfl,rfl,by rw[F];exact hI.1.giveB _ _,?_⟩;rw[F];exact(FZ (by have:=AN hE;simp only[ne_eq];omega)).trans hI.2
  case hend =>
   intro L w1 hI _;have D:=An hI.1;clear hI;go_wp2;have t0:=(AN D).t0;have t1:=(AN D).t1;have s0:=(AN D).s0;have s1:=(AN D).s1;refine AG (by simp[results,Tryz.results132,go_sem,t0,t1,s0,s1]<;>rfl) R ⟨N,0,N,0,rfl,Ha _ _,(AN D).bel⟩
end Go.Proofs.YtnbleebilmghcabGreat
