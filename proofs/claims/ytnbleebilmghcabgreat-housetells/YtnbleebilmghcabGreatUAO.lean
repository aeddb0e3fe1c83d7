/- PRow, PNew, PRKill, PRWith, PRMath -/
import Derived.Test.YtnbleebilmghcabGreatUAK
import Derived.Test.YtnbleebilmghcabGreatUAN
import Derived.Test.YtnbleebilmghcabGreatUAQ
import Derived.Test.YtnbleebilmghcabGreatUBN
set_option linter.all false
set_option maxRecDepth 8000
set_option maxHeartbeats 8000000
open Go.Value renaming int→I,slice→S,pointer→Ae,agg→Af,tuple→Ai,bool→Aj,oneCell'→Ar
open Go.IntKind renaming i64→K
open Option renaming none→N,some→O
open Go.Obj renaming cells→Al
open Go.Operand renaming tmp→Am
open Go.Ending renaming returned→Ao
open Go.Proofs.Tryz renaming prog→Au
namespace Go.Proofs.YtnbleebilmghcabGreat
open Go Go.RowKit
attribute [local go_sem ↓] Go.wp_at_zero Go.wp_at_succ j7
structure RX(w:World)(u0 u1 y0 y1:Value)(W:World):Prop where
  bel:Below w.heap.size w W
  r0:W.cell? ⟨w.heap.size,0,N⟩=O u0
  r1:W.cell? ⟨w.heap.size,1,N⟩=O u1
  d0:W.cell? ⟨w.heap.size+1,0,N⟩=O y0
  d1:W.cell? ⟨w.heap.size+1,1,N⟩=O y1
theorem RX.below{w W W1:World}{u0 u1 E F:Value}(h:RX w u0 u1 E F W)(D:Below W.heap.size W W1):RX w u0 u1 E F W1 :=
  ⟨h.bel.trans (D.mono h.bel.size),AW D h.r0,AW D h.r1,AW D h.d0,AW D h.d1⟩
theorem RX.start(w:World)(u0 u1 h D:Value)(s t:TypeId):RX w u0 u1 h D ((w.alloc (Al #[u0,u1] s)).alloc (Al #[h,D] t)):=by
  obtain⟨F,H,af,E⟩:=H' (W:=w) (u0:=u0) (u1:=u1) (t:=s) R;have J:(w.alloc (Al #[u0,u1] s)).heap.size=w.heap.size+1:=by simp
  obtain⟨c0,c1,L,cb⟩:=H' (W:=w.alloc (Al #[u0,u1] s)) (u0:=h) (u1:=D) (t:=t) J;exact⟨E.trans (cb.mono E.size),AW cb F,AW cb H,c0,c1⟩
theorem XX(A:Option Addr)(n H:Nat)(G:Option Addr)(U E:Nat)(R:Nat→D7)(i g:Int)(w:World)(hn:n≤140737488355328)(V:JR w A n R):
    Calls Au 59 #[FF A n H G U E,FJ i g] w fun e w'=>(∃p,e=Ao (Ae p)∧((Mt R i g n 0=-1∧p=N)∨∃(k b F:Nat),k<n∧Mt R i g n 0=(k:Int)∧A=O ⟨b,F,N⟩∧p=O ⟨b,F+k*11,N⟩))∧Below w.heap.size w w':=by
  have M:=RX.start w (S A n H) (S G U E) (I K i) (I K g) 43 61;have Z:=M.r0;unfold FF FJ;go_enter Tryz.func59,Tryz.ntmps59
  go_wp2;go_loopw [9] (fun x wr=>∃j:Nat,j≤n∧x=I K j∧Mt R i g n 0=Mt R i g (n - j) j∧RX w (S A n H) (S G U E) (I K i) (I K g) wr) (fun x _=>n - (intOf x).toNat)
  case atStart=>exact⟨0,AS _,rfl,rfl,M⟩
  case round =>
    clear Z;obtain⟨j,hj,rfl,hF,D⟩:=hrel;have Y:=An hF;clear hF;by_cases J:j<n
    · have j0:(0:Int)≤(j:Int):=by omega
      have j1:(j:Int)<(n:Int):=(by omega);obtain⟨b',F,rfl,h⟩:=V j J;have h:=h.below D.bel;have c0:=h.c0;have c1:=h.c1;have Z:=D.r0;have d0:=D.d0;have d1:=D.d1;have L:=(U7 R i g n j J);unfold TP at L;clear h V M;by_cases h1:(R j).ix=i <;>by_cases h2:(R j).gen=g
      all_goals
        have e1:((R j).ix == i && (R j).gen == g)=(decide ((R j).ix=i) && decide ((R j).gen=g)):=(by simp[Bool.beq_eq_decide_eq]);rw[e1]at L;simp only[h1,h2,decide_true,DW,Bool.and_true,Bool.and_false,DM,El,BX,BG,Cy]at L;go_wp2;go_quiet(fail)
        go_wp2
        first
        | (go_ret
           exact⟨⟨_,rfl,.inr ⟨j,b',F,J,(AN Y).trans L,rfl,rfl⟩⟩,Gt D.bel _⟩)
        | (go_roundw
           case rel=>exact⟨j+1,by omega,by go_num,(AN Y).trans L,D.below (Gt Fv _)⟩
           case measure=>simp[intOf];omega)
    · obtain rfl:j=n:=by omega
      have hv:Mt R i g j 0=-1:=(by rw[AN Y,BR];rfl);have HB:=D.bel;clear V M;go_wp2;go_ret;exact⟨⟨N,rfl,.inl ⟨hv,rfl⟩⟩,HB⟩
theorem JR.congr{w:World}{A:Option Addr}{n:Nat}{R E:Nat→D7}(h:JR w A n R)(e:∀ j,j<n→D' (R j)=D' (E j)):JR w A n E:=fun j F=>by
  obtain⟨b,D,h0,H⟩:=h j F;refine⟨b,D,h0,?_⟩;rw[IW]at H⊢;rw[←e j F];exact H
theorem LA.congr{w:World}{G:Option Addr}{n:Nat}{f E:Nat→Int}(h:LA w G n f)(e:∀ j,j<n→f j=E j):LA w G n E:=fun j F=>by
  obtain⟨b,D,h0,H⟩:=h j F;exact⟨b,D,h0,by rw[←e j F];exact H⟩
attribute [local go_sem ↓] Go.wp_at_zero Go.wp_at_succ
theorem Qa{X:Wd}{i g:Int}(h:Ga X i g=-1)(U:X.rows.length≤60)(A:Option Addr)(c:Nat)(G:Option Addr)(D:Nat)(W:World)(F:FX W A c G D X):
  Calls Au 59 #[Af #[S A X.rows.length c,S G X.gens.length D],Af #[I K i,I K g]] W fun e E=>e=Ao (Ae N)∧Below W.heap.size W E:=by
 refine(XX A X.rows.length c G X.gens.length D (fun j=>X.rows.getD j dR) i g W (by omega) F.rows).mono fun e E ⟨⟨p,H,J⟩,L⟩=>⟨?_,L⟩;have V:Mt (fun j=>X.rows.getD j dR) i g X.rows.length 0=-1:=h;rcases J with⟨_,rfl⟩|⟨k,b,M,_,Y,_⟩
 ·exact H
 ·omega
theorem KM{X:Wd}{i g:Int}{k:Nat}(h:Ga X i g=(k:Int))(hl:X.rows.length≤60)(A:Option Addr)(c:Nat)(G:Option Addr)(E:Nat)(W:World)(H:FX W A c G E X):
  Calls Au 59 #[Af #[S A X.rows.length c,S G X.gens.length E],Af #[I K i,I K g]] W fun e F=>∃b o,e=Ao (Ae (O ⟨b,o,N⟩))∧Hb F b o (E' X k)∧Below W.heap.size W F:=by
 refine(XX A X.rows.length c G X.gens.length E (fun j=>X.rows.getD j dR) i g W (by omega) H.rows).mono fun e F ⟨⟨p,U,V⟩,J⟩=>?_;have hf:Mt (fun j=>X.rows.getD j dR) i g X.rows.length 0=(k:Int):=h;rcases V with⟨e1,rfl⟩|⟨L,b,Y,Z,e2,hA,rfl⟩
 ·omega
 ·have:L=k:=by omega
  subst this;obtain⟨b',M,D,hr⟩:=H.rows L Z;rw[hA]at D;injection D with D;injection D with h1 h2;subst h1 h2;exact⟨b,_,U,hr.below J,J⟩
theorem kd(i g h g2:Int)(w:World):(Op.equalIn 10000 61 (Af #[I K i,I K g]) (Af #[I K h,I K g2])).run Au w=.ok (i == h && g == g2) w:=by
 have D:Au.underlying 61=O (.struct (Au.fieldsOf 61)):=by kernel_rfl
 rw[show(10000:Nat)=9999+1 from rfl,Dg w 9999 61 _ _ D (by kernel_rfl)];simp only[Program.fieldsOf,Tryz.underlying61];by_cases E:i=h <;>by_cases F:g=g2
 all_goals go_simp
theorem iR(i g h g2:Int)(w:World):(binOp .neq 61 (Af #[I K i,I K g]) (Af #[I K h,I K g2])).run Au w=.ok (Aj (!(i == h && g == g2))) w:=by
 rw[DB,kd];rfl
structure Hd(B:Nat)(w:World)(G0 A:Option Addr)(cap:Nat)(G:Option Addr)(gcap:Nat)(X:Wd):Prop extends FX w A cap G gcap X where
 fa:∀c o,A=O ⟨c,o,N⟩→B≤c
 fg:G=G0∨∀c o,G=O ⟨c,o,N⟩→B≤c
theorem Gp(B:Nat)(w:World)(D:Option Addr):Hd B w D N 0 N 0 FL:=⟨Mx w,fun _ _ h=>(by cases h),.inr fun _ _ h=>(by cases h)⟩
structure OL(x:Nat)(v u1:Value)(l:List D7)(W:World):Prop where
 box:L8 x v u1 W
 own:W.ownsRow (x+1) 116 11 v l.length (At l)
theorem OL.lx{x:Nat}{v u1:Value}{l:List D7}{W:World}(h:OL x v u1 l W):x<W.heap.size:=AL W ⟨x,0,N⟩ h.box.e0
theorem OL.below{x:Nat}{v u1:Value}{l:List D7}{W W1:World}(h:OL x v u1 l W)(D:Below W.heap.size W W1):OL x v u1 l W1:=⟨h.box.keep (D.mono h.lx),FT h.own D⟩
theorem OL.start(w:World)(u1:Value):OL w.heap.size (S N 0 0) u1 [] (w.alloc (Al #[S N 0 0,u1] 43)):=⟨L8.start w _ _,Bn _ _ _ _⟩
theorem OL.app{x g D:Nat}{v u1:Value}{l:List D7}{W W1:World}(h:OL x v u1 l W)(r:D7)(H:W1.ownsRow (x+1) 116 11 (S (O ⟨g,0,N⟩) (l.length+1) D) (l.length+1) (At l++D' r))(J:W.grownBy W1 v.ownBlock):
  OL x (S (O ⟨g,0,N⟩) (l.length+1) D) u1 (l++[r]) (W1.setCell ⟨x,0,N⟩ (S (O ⟨g,0,N⟩) (l.length+1) D))∧Below x W (W1.setCell ⟨x,0,N⟩ (S (O ⟨g,0,N⟩) (l.length+1) D)):=by
 have E:Below (x+1) W W1:=F0 J (fun k L=>(h.own.lt k L).1) h.lx;have F:Below x W W1:=E.mono (Ei x);refine⟨⟨(h.box.keep E).set0 _,?_⟩,F.setCell (p:=⟨x,0,N⟩) Fu _⟩;have M:At (l++[r])=At l++D' r:=by rw[Jk,Sj]
 rw[M,AV,Bp];exact Cs H (a:=⟨x,0,N⟩) (by simp) _
theorem OL.there{x:Nat}{v u1:Value}{l:List D7}{W W1:World}(h:OL x v u1 l W)(D:Below (x+1) W W1):W1.there x 0 1:=Gx (h.box.keep D).e0 (h.box.keep D).f
theorem TZ{X:Wd}(U:FK X){k:Nat}(E:k<X.rows.length){i g:Int}(M:(E' X k).ix=i)(V:(E' X k).gen=g):X.rows.filter (fun r=>!TP r i g)=X.rows.eraseIdx k:=by
 have F:∀j,j<X.rows.length→TP (E' X j) i g=decide (j=k):=fun j D=>by
  by_cases e:j=k
  ·subst e;rw[(Oj _ _ _).2 ⟨M,V⟩];simp
  ·have:TP (E' X j) i g=false:=by
    rw[Bool.eq_false_iff];intro h;exact e (U.one D E (by rw[((Oj _ _ _).1 h).1,M]))
   rw[this];simp[e]
 have H:∀j (D:j<X.rows.length),X.rows[j]=E' X j:=fun j D=>by unfold E';rw[Az,AE D];rfl
 have Y:X.rows=X.rows.take k++X.rows[k]:: X.rows.drop (k+1):=by rw[E9];exact(BS k X.rows).symm
 have Z:X.rows.eraseIdx k=X.rows.take k++X.rows.drop (k+1):=EB X.rows k;rw[Z]
 conv=>lhs;rw[Y]
 rw[Cf,List.filter_cons];have J:(!TP X.rows[k] i g)=false:=by rw[H k E,F k E];simp
 rw[J];have t1:(X.rows.take k).filter (fun r=>!TP r i g)=X.rows.take k:=by
  rw[Fs];intro a L;obtain⟨j,D,rfl⟩:=BL L;rw[AZ]at D;rw[List.getElem_take,H j (by omega),F j (by omega)];simp;omega
 have t2:(X.rows.drop (k+1)).filter (fun r=>!TP r i g)=X.rows.drop (k+1):=by
  rw[Fs];intro a L;obtain⟨j,D,rfl⟩:=BL L;rw[Cq]at D;rw[Ey,H (k+1+j) (by omega),F (k+1+j) (by omega)];simp;omega
 rw[t1,t2];rfl
def J7(X:Wd)(i g:Int)(j:Nat):List D7:=(X.rows.take j).filter fun r=>!TP r i g
theorem Uq(X:Wd)(i g:Int)(j:Nat)(h:j<X.rows.length):J7 X i g (j+1)=if TP (X.rows.getD j dR) i g=true then J7 X i g j else J7 X i g j++[X.rows.getD j dR]:=by
 unfold J7;rw[A0 h,Cf,Az,AE h,C9]
 cases D:TP X.rows[j] i g <;>simp[D]
theorem Wi(X:Wd)(i g:Int)(j:Nat):(J7 X i g j).length≤j:=by
 unfold J7;exact AU (BT _ _) (by rw[AZ];omega)
theorem SO(A:Option Addr)(L:Nat)(G:Option Addr)(D:Nat)(X:Wd)(i g:Int)(w:World)(hT:X.rows.length≤9223372036854775807)(hX:FX w A L G D X):
  Calls Au 58 #[Up A L G D X,FJ i g] w fun e w'=>∃A' c' G' hm,e=Ao (Ai #[Up A' c' G' hm (GS X i g).2,I K (GS X i g).1])∧Hd w.heap.size w' G A' c' G' hm (GS X i g).2∧Below w.heap.size w w':=by
 have M:=CW.start w (S A X.rows.length L) (S G X.gens.length D) i g;have hP:=fun W (hb:Below w.heap.size w W)=>Gh A X.rows.length L G X.gens.length D (fun j=>X.rows.getD j dR) (fun j=>X.gens.getD j 0) W (by omega) (hX.rows.below hb) (hX.gens.below hb);have eW:Hk (fun j=>X.rows.getD j dR) X.rows.length X.gens.length (fun j=>X.gens.getD j 0)=FP X:=rfl;rw[eW]at hP;unfold Gr FF at hP;clear eW;unfold GS;by_cases Y:(FP X).1=0
 ·rw [AA (by simpa using Y)];obtain⟨hl,hU,_⟩:=GD Y;have hr:=(F7 X).1 Y;rw[Y]at hP;generalize (FP X).2=wa at *;rcases If X i g with hf|⟨k,hk,hf,h1,h2⟩
  ·have hR:=fun W (h:FX W A L G D X)=>Qa hf hl A L G D W h;rw[hf,AF (by decide)];clear hf Y;unfold Up FF FJ FL;go_enter Tryz.func58,Tryz.ntmps58
   go_wp2_with(first
    |(go_at_call 55;refine(hP _ M.bel).mono ?_;rintro e w5⟨rfl,U⟩;have J:=M.below U;have F:=J.below (Fv.alloc Fu (Al #[I K 0,I K wa] 29));have r0:=F.r0;have r1:=F.r1;have s0:=F.s0;have s1:=F.s1;clear U)
    |(go_at_call 59;refine(hR _ (hX.below F.bel)).mono ?_;rintro e w7⟨rfl,Z⟩;have V:=F.below Z;clear Z r0 r1 s0 s1)
    |(refine As R 43 (Am 4) (Am 22) R (w.heap.size+2) 0 [S N 0 0,S N 0 0] R R (by simp[Ar]) F8 V.there ?_;intro W3 ha;have H:=V.give (S N 0 0) (S N 0 0);rw[←ha]at H;clear ha))
   have t0:=H.t0;have t1:=H.t1;refine AG (by simp[results,Tryz.results58,go_sem,t0,t1]<;>rfl) R ⟨N,0,N,0,rfl,Gp _ _ _,H.bel⟩
  ·have hR:=fun W (h:FX W A L G D X)=>KM hf hl A L G D W h;rw[hf,AA (by omega),Bi,←TZ hr hk h1 h2];have hn:X.rows.filter (fun r=>!TP r i g)=J7 X i g X.rows.length:=(by unfold J7;rw[BN]);rw[hn];obtain⟨hJ,ho,hp,hs,ht⟩:=BC OC;clear hf Y hn h1 h2 hk hr;unfold Up FF FJ;go_enter Tryz.func58,Tryz.ntmps58
   go_wp2_with(first
    |(go_at_call 55;refine(hP _ M.bel).mono ?_;rintro e w5⟨rfl,U⟩;have J:=M.below U;have F:=J.below (Fv.alloc Fu (Al #[I K 0,I K wa] 29));have r0:=F.r0;have r1:=F.r1;have s0:=F.s0;have s1:=F.s1;clear U)
    |(go_at_call 59;refine(hR _ (hX.below F.bel)).mono ?_;rintro e w7⟨b7,o7,rfl,_,Z⟩;have V:=F.below Z;clear r0 r1 s0 s1;have r0:=V.r0;have r1:=V.r1;have lr:=AL w7 _ r0;clear Z))
   have he:=(OL.start w7 (S G X.gens.length D));have hu:=V.sz;clear r0 r1;obtain⟨x,hx⟩:∃x,x=w7.heap.size:=⟨_,rfl⟩;rw[←hx]at he hu⊢;have H:=An (V.below (GF w7 (Al #[S N 0 0,S G X.gens.length D] 43)));clear hx V;go_loopw [29] (fun t wr=>∃(j:Nat) (v:Value),j≤X.rows.length∧t=I K j∧CW w (S A X.rows.length L) (S G X.gens.length D) i g (S N 0 0) (S N 0 0) wr∧OL x v (S G X.gens.length D) (J7 X i g j) wr) (fun t _=>X.rows.length - (intOf t).toNat)
   case atStart=>exact⟨0,_,AS _,rfl,H,he⟩
   case round =>
    clear H he;obtain⟨j,v,hj,rfl,hC,hO⟩:=hrel;by_cases hv:j<X.rows.length
    ·have j0:(0:Int)≤(j:Int):=(by omega);have j1:(j:Int)<(X.rows.length:Int):=(by omega);obtain⟨b,hK,hA,E⟩:=hX.rows j hv;have E:Hb wr b (hK+j*11) (X.rows.getD j dR):=E.below hC.bel;have c0:=E.c0;have c1:=E.c1;have c2:=E.c2;have c3:=E.v 0 (by omega);have c4:=E.v 1 (by omega);have c5:=E.v 2 (by omega);have c6:=E.v 3 (by omega);have c7:=E.v 4 (by omega);have c8:=E.v 5 (by omega);have c9:=E.v 6 (by omega);have hw:=E.v 7 (by omega);simp only[Bt,Nat.reduceAdd]at c3 c4 c5 c6 c7 c8 c9 hw;simp only[←Bt]at c3 c4 c5 c6 c7 c8 c9 hw;have s0:=hC.s0;have s1:=hC.s1;have ls:=AL wr _ s0;have hV:=CG ls;have e0:=hO.box.e0;have lx:=hO.lx;have hD:=An (Uq X i g j hv);have hW:=Wi X i g j;have hc:TP (X.rows.getD j dR) i g=((X.rows.getD j dR).ix == i && (X.rows.getD j dR).gen == g):=rfl;subst hA;clear E hX hP hR M;generalize J7 X i g j=l at *;generalize X.rows.getD j dR=y at *;by_cases hB:TP y i g=true
     ·have hg:=An ((AN hD).trans (AF hB));have hy:=(Oj y i g).1 hB;have hq:∀W,(binOp .neq 61 (Af #[I K y.ix,I K y.gen]) (Af #[I K i,I K g])).run Au W=.ok (Aj false) W:=fun W=>(by rw[iR,←hc,hB];rfl);clear hc hB hy;go_wp2;go_roundw
      case rel=>exact⟨j+1,v,by omega,by go_num,hC.below (GF _ _),by rw[AN hg];exact hO.below (GF _ _)⟩
      case measure=>simp[intOf];omega
     ·have hg:=An ((AN hD).trans (AA hB));have hE:TP y i g=false:=(by simpa using hB);have hq:∀W,(binOp .neq 61 (Af #[I K y.ix,I K y.gen]) (Af #[I K i,I K g])).run Au W=.ok (Aj true) W:=fun W=>(by rw[iR,←hc,hE];rfl);clear hc hB hE;go_wp2_with(first
       |(at_builtin;refine FY _ R (Am 38) (Am 40) 41 R (x+1) 116 hJ _ 11 88 Tryz.underlying41 ho hp hs ht R (by decide) v l.length (At l) R (hO.below (IT _ _ _)).own ⟨wr.heap.size+1,0,N⟩ 1 1 (D' y) R R (by have:=Kc (wr.alloc (Al #[I K y.ix,I K y.gen,I K y.has,I K (y.v 0),I K (y.v 1),I K (y.v 2),I K (y.v 3),I K (y.v 4),I K (y.v 5),I K (y.v 6),I K (y.v 7)] 116)) y;simpa using this) (F9 y) (by unfold maxLen;omega) (by omega) (by simp;omega) (by omega) ?_;intro g5 hS w9 hF hh hL;have hM:=(F0 hh (fun k hk=>((hO.own).lt k hk).1) (by simp;omega));have hG:=(OL.app (hO.below (IT _ _ _)) y hF hh);clear hF hh hL)
       |(refine FU R 41 (Am 42) (Am 41) R x 0 _ R R R Lf ((hO.below (IT _ _ _)).there hM) ?_;intro hY hd;have hH:=An hd;clear hd))
      go_roundw
      case rel =>
       rw[AN hH];exact⟨j+1,_,by omega,by go_num,(hC.below (IT _ _ _)).keep (hG.2.mono hu),by rw[AN hg];exact hG.1⟩
      case measure=>simp[intOf];omega
    ·obtain rfl:j=X.rows.length:=(by omega);obtain⟨A',c',rfl,hN⟩:=JG hO.own;have e0:=hO.box.e0;have e1:=hO.box.e1;clear hN hP hR M;go_wp2_with(first
      |(refine As R 43 (Am 4) (Am 44) R (w.heap.size+2) 0 [S A' (J7 X i g X.rows.length).length c',S G X.gens.length D] R R (by simp[Ar]) F8 hC.there ?_;intro W3 ha;have H:=hC.give (S A' (J7 X i g X.rows.length).length c') (S G X.gens.length D);have hi:=Gg (b:=w.heap.size+2) (by omega) [S A' (J7 X i g X.rows.length).length c',S G X.gens.length D] 0 _ hO.own;rw[←ha]at H hi;clear ha))
     have t0:=H.t0;have t1:=H.t1;obtain⟨A2,c2,hI,hQ⟩:=JG hi;simp only[A9,Br]at hI;obtain⟨rfl,rfl⟩:=hI;refine AG (by simp[results,Tryz.results58,go_sem,t0,t1]<;>rfl) R ⟨A',c',G,D,rfl,⟨⟨hQ,(hX.below H.bel).gens⟩,Hf hi (by omega),.inl R⟩,H.bel⟩
 ·rw[AF Y];generalize (FP X).2=wa at *;generalize (FP X).1=we at *;unfold Up FF FJ FL;go_enter Tryz.func58,Tryz.ntmps58
  go_wp2_with(first
   |(go_at_call 55;refine(hP _ M.bel).mono ?_;rintro e w5⟨rfl,U⟩;have J:=M.below U;have hz:w.heap.size+1+1<w5.heap.size:=J.sz;have t0:w5.cell? ⟨w.heap.size+1+1,0,N⟩=O (S N 0 0):=J.t0;have t1:w5.cell? ⟨w.heap.size+1+1,1,N⟩=O (S N 0 0):=J.t1;have f0:w5.frozen? ⟨w.heap.size+1+1,0,N⟩=false:=J.f 0;have f1:w5.frozen? ⟨w.heap.size+1+1,1,N⟩=false:=J.f 1;clear U))
  go_region
  all_goals(try go_wp2)
  all_goals
   refine AG (by simp[results,Tryz.results58,go_sem,t0,t1,hz]<;>rfl) R ⟨N,0,N,0,rfl,Gp _ _ _,?_⟩
   exact Gt (((J.bel.setCell (p:=⟨w.heap.size+1+1,0,N⟩) (by simp;omega) _).setCell (p:=⟨w.heap.size+1+1,1,N⟩) (by simp;omega) _).alloc (by simpa using J.bel.size) _) 1
def PZ(r:D7)(s:Bool×List D7)(y:D7):Bool×List D7 :=
 (s.1 || decide (r.ix≤y.ix),(if s.1=false∧r.ix≤y.ix then s.2++[r]else s.2)++(if y.ix=r.ix then []else [y]))
def IP(rows:List D7)(r:D7)(j:Nat):Bool×List D7:=(rows.take j).foldl (PZ r) (false,[])
def Lo(rows:List D7)(r:D7):List D7:=if(IP rows r rows.length).1=false then(IP rows r rows.length).2++[r]else(IP rows r rows.length).2
theorem Jf(D:List D7)(r:D7)(j:Nat)(h:j<D.length):IP D r (j+1)=PZ r (IP D r j) (D.getD j dR):=by
 unfold IP;rw[A0 h,List.foldl_append,Az,AE h];rfl
theorem Nu(D:List D7)(r:D7):∀j,j≤D.length→(IP D r j).2.length≤2*j
 |0,_=>by simp[IP]
 |j+1,h=>by
  rw[Jf D r j (by omega)];have:=Nu D r j (by omega);unfold PZ;simp only[AV];split <;>split <;>simp <;>omega
theorem Lg{W:World}{b:Nat}{y:D7}(h:Hb W b 0 y):W.cell? ⟨b,0,N⟩=O (I K y.ix)∧W.cell? ⟨b,1,N⟩=O (I K y.gen)∧W.cell? ⟨b,2,N⟩=O (I K y.has)∧W.cell? ⟨b,3,N⟩=O (I K (y.v 0))∧W.cell? ⟨b,4,N⟩=O (I K (y.v 1))∧W.cell? ⟨b,5,N⟩=O (I K (y.v 2))∧W.cell? ⟨b,6,N⟩=O (I K (y.v 3))∧W.cell? ⟨b,7,N⟩=O (I K (y.v 4))∧W.cell? ⟨b,8,N⟩=O (I K (y.v 5))∧W.cell? ⟨b,9,N⟩=O (I K (y.v 6))∧W.cell? ⟨b,10,N⟩=O (I K (y.v 7)):=by
 have h0:=h.c0;have D:=h.c1;have E:=h.c2;refine⟨by simpa using h0,by simpa using D,by simpa using E,?_,?_,?_,?_,?_,?_,?_,?_⟩
 ·simpa using h.v 0 (by omega)
 ·simpa using h.v 1 (by omega)
 ·simpa using h.v 2 (by omega)
 ·simpa using h.v 3 (by omega)
 ·simpa using h.v 4 (by omega)
 ·simpa using h.v 5 (by omega)
 ·simpa using h.v 6 (by omega)
 ·simpa using h.v 7 (by omega)
theorem O6(W:World)(y:D7):Hb (W.alloc (Al #[I K y.ix,I K y.gen,I K y.has,I K (y.v 0),I K (y.v 1),I K (y.v 2),I K (y.v 3),I K (y.v 4),I K (y.v 5),I K (y.v 6),I K (y.v 7)] 116)) W.heap.size 0 y:=by
 refine(IW _ _ _ _).2 fun i u h=>?_;have:=Kc W y i u h;rwa[KF]at this
theorem OL.row{x b:Nat}{v u1:Value}{l:List D7}{W W1:World}{y:D7}{z:Value}(h:OL x v u1 l W)(D:W.grownBy W1 v.ownBlock)(E:Hb W b 0 y)(F:b≠x)(H:∀ g',v.ownBlock=O g'→b≠g'):Hb (W1.setCell ⟨x,0,N⟩ z) b 0 y:=by
 refine(IW _ _ _ _).2 fun i u J=>?_;have L:=(IW _ _ _ _).1 E i u J;have M:W1.cell? ⟨b,0+i,N⟩=O u:=D.cell L (fun e=>H b e.symm R);exact Gb (fun e=>F (B8 Addr.block e).symm) M
structure WB(w:World)(y0 y1:Value)(r:D7)(W:World):Prop where
 bel:Below w.heap.size w W
 sz:w.heap.size+3≤W.heap.size
 r:Hb W (w.heap.size+1) 0 r
 t0:W.cell? ⟨w.heap.size+1+1,0,N⟩=O y0
 t1:W.cell? ⟨w.heap.size+1+1,1,N⟩=O y1
 f:∀i,W.frozen? ⟨w.heap.size+1+1,i,N⟩=false
section
variable {w W W1:World} {y0 y1:Value} {r:D7}
theorem WB.keep(h:WB w y0 y1 r W)(D:Below (w.heap.size+3) W W1):WB w y0 y1 r W1 :=
 ⟨h.bel.trans (D.mono (by omega)),AU h.sz D.size,(IW _ _ _ _).2 fun i u E=>(D.cell (p:=⟨w.heap.size+1,0+i,N⟩) (by simp)).trans ((IW _ _ _ _).1 h.r i u E),(D.cell (p:=⟨w.heap.size+1+1,0,N⟩) (by simp)).trans h.t0,(D.cell (p:=⟨w.heap.size+1+1,1,N⟩) (by simp)).trans h.t1,fun i=>(D.frozen (p:=⟨w.heap.size+1+1,i,N⟩) (by simp)).trans (h.f i)⟩
theorem WB.below(h:WB w y0 y1 r W)(D:Below W.heap.size W W1):WB w y0 y1 r W1:=h.keep (D.mono h.sz)
theorem WB.there(h:WB w y0 y1 r W):W.there (w.heap.size+1+1) 0 2:=fun j D=>by
 rcases(by omega:j=0∨j=1)with rfl|rfl
 ·exact⟨by rw[AT,h.t0];rfl,h.f _⟩
 ·exact⟨by rw[AT,h.t1];rfl,h.f _⟩
theorem WB.give(h:WB w y0 y1 r W)(D E:Value):(W.setCells (w.heap.size+1+1) 0 [D,E]).cell? ⟨w.heap.size+1+1,0,N⟩=O D∧(W.setCells (w.heap.size+1+1) 0 [D,E]).cell? ⟨w.heap.size+1+1,1,N⟩=O E∧Below w.heap.size w (W.setCells (w.heap.size+1+1) 0 [D,E]):=by
 have s:=fun j F=>Cv (w.heap.size+1+1) [D,E] 0 W (fun j F=>(h.there j F).1) j F;exact⟨s 0 (by simp),s 1 (by simp),Bv (w.heap.size+1+1) (by omega) [D,E] 0 W h.bel⟩
end
theorem WB.start(w:World)(u0 u1:Value)(r:D7):WB w (S N 0 0) (S N 0 0) r (((w.alloc (Al #[u0,u1] 43)).alloc (Al #[I K r.ix,I K r.gen,I K r.has,I K (r.v 0),I K (r.v 1),I K (r.v 2),I K (r.v 3),I K (r.v 4),I K (r.v 5),I K (r.v 6),I K (r.v 7)] 116)).alloc (Al #[S N 0 0,S N 0 0] 43)):=by
 obtain⟨w1,h⟩:∃W,W=w.alloc (Al #[u0,u1] 43):=⟨_,rfl⟩;have L:w1.heap.size=w.heap.size+1:=by rw[h];simp
 have F:Below w.heap.size w w1:=by rw[h];exact GF _ _
 rw[←h];clear h;have E:=O6 w1 r;rw[L]at E;obtain⟨w2,D⟩:∃W,W=w1.alloc (Al #[I K r.ix,I K r.gen,I K r.has,I K (r.v 0),I K (r.v 1),I K (r.v 2),I K (r.v 3),I K (r.v 4),I K (r.v 5),I K (r.v 6),I K (r.v 7)] 116):=⟨_,rfl⟩;have M:w2.heap.size=w.heap.size+1+1:=by rw[D];simp;omega
 have U:Below w1.heap.size w1 w2:=by rw[D];exact GF _ _
 rw[←D]at E⊢;clear D;obtain⟨V,Y,Z,H⟩:=H' (W:=w2) (u0:=S N 0 0) (u1:=S N 0 0) (t:=43) M;have J:=F.trans (U.mono F.size);exact⟨J.trans (H.mono J.size),by simp;omega,E.below H,V,Y,Z⟩
theorem NP(A:Option Addr)(ht:Nat)(G:Option Addr)(E:Nat)(X:Wd)(r:D7)(w:World)(hn:X.rows.length≤1000000)(hX:FX w A ht G E X):
  Calls Au 101 #[Up A ht G E X,Hi r] w fun e w'=>∃A' c',e=Ao (Af #[S A' (Lo X.rows r).length c',S G X.gens.length E])∧w'.ownsRow w.heap.size 116 11 (S A' (Lo X.rows r).length c') (Lo X.rows r).length (At (Lo X.rows r))∧Below w.heap.size w w':=by
 obtain⟨hr,ha,hb,hc,hd⟩:=BC OC;have hH:=WB.start w (S A X.rows.length ht) (S G X.gens.length E) r;have hI:=(hH.below (GF _ (Al #[S N 0 0,S G X.gens.length E] 43)));have hJ:(((w.alloc (Al #[S A X.rows.length ht,S G X.gens.length E] 43)).alloc (Al #[I K r.ix,I K r.gen,I K r.has,I K (r.v 0),I K (r.v 1),I K (r.v 2),I K (r.v 3),I K (r.v 4),I K (r.v 5),I K (r.v 6),I K (r.v 7)] 116)).alloc (Al #[S N 0 0,S N 0 0] 43)).heap.size=w.heap.size+1+1+1:=by simp
 have hy:=(OL.start (((w.alloc (Al #[S A X.rows.length ht,S G X.gens.length E] 43)).alloc (Al #[I K r.ix,I K r.gen,I K r.has,I K (r.v 0),I K (r.v 1),I K (r.v 2),I K (r.v 3),I K (r.v 4),I K (r.v 5),I K (r.v 6),I K (r.v 7)] 116)).alloc (Al #[S N 0 0,S N 0 0] 43)) (S G X.gens.length E));rw[hJ]at hy;clear hH hJ;unfold Up FF Hi;go_enter Tryz.func101,Tryz.ntmps101
 go_wp2;obtain⟨x,hx⟩:∃x,x=w.heap.size+1+1+1:=⟨_,rfl⟩;rw[←hx]at hy⊢;have hh:w.heap.size+3≤x:=by omega
 clear hx;go_loopw [6,15] (fun d t wr=>∃(j:Nat) (v:Value),j≤X.rows.length∧t=I K j∧d=Aj (IP X.rows r j).1∧WB w (S N 0 0) (S N 0 0) r wr∧OL x v (S G X.gens.length E) (IP X.rows r j).2 wr) (fun _ t _=>X.rows.length - (intOf t).toNat)
 case atStart=>exact⟨0,_,AS _,rfl,rfl,hI,hy⟩
 case round =>
  clear hI hy;obtain⟨j,v,hj,rfl,rfl,hC,U⟩:=hrel;by_cases hK:j<X.rows.length
  ·have j0:(0:Int)≤(j:Int):=(by omega);have j1:(j:Int)<(X.rows.length:Int):=(by omega);obtain⟨b,hS,hA,F⟩:=hX.rows j hK;have F:Hb wr b (hS+j*11) (X.rows.getD j dR):=F.below hC.bel;have c0:=F.c0;have c1:=F.c1;have c2:=F.c2;have c3:=F.v 0 (by omega);have c4:=F.v 1 (by omega);have c5:=F.v 2 (by omega);have c6:=F.v 3 (by omega);have c7:=F.v 4 (by omega);have c8:=F.v 5 (by omega);have c9:=F.v 6 (by omega);have hL:=F.v 7 (by omega);simp only[Bt,Nat.reduceAdd]at c3 c4 c5 c6 c7 c8 c9 hL;simp only[←Bt]at c3 c4 c5 c6 c7 c8 c9 hL;obtain⟨d0,d1,d2,d3,d4,d5,d6,d7,d8,d9,hT⟩:=Lg hC.r;have ls:=AL wr _ d0;have ce:=CG ls;have e0:=U.box.e0;have lx:=U.lx;have hi:=(Jf X.rows r j hK);have hU:=Nu X.rows r j (by omega);subst hA;clear F hX;generalize IP X.rows r j=s at *;obtain⟨dn,l⟩:=s;dsimp only at *;generalize X.rows.getD j dR=y at *;unfold PZ at hi;dsimp only at hi;have hM:=(fun g' (h:v.ownBlock=O g')=>(U.own.lt g' h).2);by_cases hl:y.ix=r.ix
   ·have hm:r.ix≤y.ix:=(by omega);have cf:(y.ix != r.ix)=false:=(by rw[hl];simp);have cg:(y.ix == r.ix)=true:=(by rw[hl];simp);have hN:=An hl;clear hl
    cases dn
    ·have V:=An hi;go_wp2_with(first
      |(at_builtin;refine FY _ R (Am 31) (Am 33) 41 R (x+1) 116 hr _ 11 88 Tryz.underlying41 ha hb hc hd R (by decide) v l.length (At l) R (U.below (IT _ _ _)).own ⟨wr.heap.size+1,0,N⟩ 1 1 (D' r) R R (by have:=Kc (wr.alloc (Al #[I K y.ix,I K y.gen,I K y.has,I K (y.v 0),I K (y.v 1),I K (y.v 2),I K (y.v 3),I K (y.v 4),I K (y.v 5),I K (y.v 6),I K (y.v 7)] 116)) r;simpa using this) (F9 r) (by unfold maxLen;(try simp only[AV,Bp]);omega) (by(try simp only[AV,Bp]);omega) (by simp;omega) (by omega) ?_;intro g9 D w9 ho Y hw;have he:=(F0 Y (fun k hk=>(U.own.lt k hk).1) (show x+1≤_ by simp;omega));have hf:=(OL.app (U.below (IT _ _ _)) r ho Y);have hD:=(fun z=>OL.row (z:=z) (U.below (IT _ _ _)) Y ((O6 wr y).below (GF _ _)) (Eb U.lx) (fun g' h=>Eb (hM g' h)));clear ho Y hw)
      |(refine FU R 41 (Am 35) (Am 34) R x 0 (S (O ⟨g9,0,N⟩) (l.length+1) D) R R R Lf ((U.below (IT _ _ _)).there he) ?_;intro hs H;have M:=hf;have hp:=hD (S (O ⟨g9,0,N⟩) (l.length+1) D);have L:=(hC.below (IT _ _ _)).keep (M.2.mono hh);rw[←H]at M hp L;have e2:=M.1.box.e0;obtain⟨q0,q1,q2,q3,q4,q5,q6,q7,q8,q9,hV⟩:=Lg hp;obtain⟨p0,p1,p2,p3,p4,p5,p6,p7,p8,p9,hW⟩:=Lg L.r;have J:=M;have Z:=L;have hY:=M.1.lx;clear H M hp L))
     go_roundw
     case rel=>exact⟨j+1,_,by omega,by go_num,by rw[AN V];simp[hm],Z,by rw[AN V];simpa[hm,AN hN]using J.1⟩
     case measure=>simp[intOf];omega
    ·have V:=An hi;go_wp2;go_roundw
     case rel=>exact⟨j+1,v,by omega,by go_num,by rw[AN V];simp,hC.below (GF _ _),by rw[AN V];simpa[AN hN]using U.below (GF _ _)⟩
     case measure=>simp[intOf];omega
   ·cases dn
    ·by_cases hm:r.ix≤y.ix
     ·have V:=An hi;go_wp2_with(first
       |(at_builtin;refine FY _ R (Am 31) (Am 33) 41 R (x+1) 116 hr _ 11 88 Tryz.underlying41 ha hb hc hd R (by decide) v l.length (At l) R (U.below (IT _ _ _)).own ⟨wr.heap.size+1,0,N⟩ 1 1 (D' r) R R (by have:=Kc (wr.alloc (Al #[I K y.ix,I K y.gen,I K y.has,I K (y.v 0),I K (y.v 1),I K (y.v 2),I K (y.v 3),I K (y.v 4),I K (y.v 5),I K (y.v 6),I K (y.v 7)] 116)) r;simpa using this) (F9 r) (by unfold maxLen;(try simp only[AV,Bp]);omega) (by(try simp only[AV,Bp]);omega) (by simp;omega) (by omega) ?_;intro g9 D w9 ho Y hw;have he:=(F0 Y (fun k hk=>(U.own.lt k hk).1) (show x+1≤_ by simp;omega));have hf:=(OL.app (U.below (IT _ _ _)) r ho Y);have hD:=(fun z=>OL.row (z:=z) (U.below (IT _ _ _)) Y ((O6 wr y).below (GF _ _)) (Eb U.lx) (fun g' h=>Eb (hM g' h)));clear ho Y hw)
       |(refine FU R 41 (Am 35) (Am 34) R x 0 (S (O ⟨g9,0,N⟩) (l.length+1) D) R R R Lf ((U.below (IT _ _ _)).there he) ?_;intro hs H;have M:=hf;have hp:=hD (S (O ⟨g9,0,N⟩) (l.length+1) D);have L:=(hC.below (IT _ _ _)).keep (M.2.mono hh);rw[←H]at M hp L;have e2:=M.1.box.e0;obtain⟨q0,q1,q2,q3,q4,q5,q6,q7,q8,q9,hV⟩:=Lg hp;obtain⟨p0,p1,p2,p3,p4,p5,p6,p7,p8,p9,hW⟩:=Lg L.r;have J:=M;have Z:=L;have hY:=M.1.lx;clear H M hp L)
       |(at_builtin;refine FY _ R (Am 44) (Am 46) 41 R (x+1) 116 hr _ 11 88 Tryz.underlying41 ha hb hc hd R (by decide) (S (O ⟨g9,0,N⟩) (l.length+1) D) (l++[r]).length (At (l++[r])) R (J.1.below (GF _ _)).own ⟨hs.heap.size,0,N⟩ 1 1 (D' y) R R (by have:=Kc hs y;simpa using this) (F9 y) (by unfold maxLen;(try simp only[AV,Bp]);omega) (by(try simp only[AV,Bp]);omega) (by simp;omega) (by omega) ?_;intro g8 hP w8 ho Y hw;have hZ:=(F0 Y (fun k hk=>(J.1.own.lt k hk).1) (show x+1≤_ by simp;omega));have ca:=(OL.app (J.1.below (GF _ _)) y ho Y); clear ho Y hw)
       |(refine FU R 41 (Am 48) (Am 47) R x 0 (S (O ⟨g8,0,N⟩) (l.length+1+1) hP) R R R Lf ((J.1.below (GF _ _)).there hZ) ?_;intro ch hB;have M:=ca;simp only[AV,Bp]at M;have L:=(Z.below (GF _ _)).keep (M.2.mono hh);rw[←hB]at M L;have hQ:=M;have hR:=L;clear hB M L))
      go_roundw
      case rel=>exact⟨j+1,_,by omega,by go_num,by rw[AN V];simp[hm],hR,by rw[AN V];simpa[hm,hl]using hQ.1⟩
      case measure=>simp[intOf];omega
     ·have V:=An hi;go_wp2_with(first
       |(at_builtin;refine FY _ R (Am 44) (Am 46) 41 R (x+1) 116 hr _ 11 88 Tryz.underlying41 ha hb hc hd R (by decide) v l.length (At l) R (U.below (IT _ _ _)).own ⟨wr.heap.size+1,0,N⟩ 1 1 (D' y) R R (by have:=Kc (wr.alloc (Al #[I K y.ix,I K y.gen,I K y.has,I K (y.v 0),I K (y.v 1),I K (y.v 2),I K (y.v 3),I K (y.v 4),I K (y.v 5),I K (y.v 6),I K (y.v 7)] 116)) y;simpa using this) (F9 y) (by unfold maxLen;(try simp only[AV,Bp]);omega) (by(try simp only[AV,Bp]);omega) (by simp;omega) (by omega) ?_;intro g9 D w9 ho Y hw;have he:=(F0 Y (fun k hk=>(U.own.lt k hk).1) (show x+1≤_ by simp;omega));have hf:=(OL.app (U.below (IT _ _ _)) y ho Y); clear ho Y hw)
       |(refine FU R 41 (Am 48) (Am 47) R x 0 (S (O ⟨g9,0,N⟩) (l.length+1) D) R R R Lf ((U.below (IT _ _ _)).there he) ?_;intro hs H;have M:=hf;have L:=(hC.below (IT _ _ _)).keep (M.2.mono hh);rw[←H]at M L;have J:=M;have Z:=L;clear H M L))
      go_roundw
      case rel=>exact⟨j+1,_,by omega,by go_num,by rw[AN V];simp[hm],Z,by rw[AN V];simpa[hm,hl]using J.1⟩
      case measure=>simp[intOf];omega
    ·have V:=An hi;go_wp2_with(first
      |(at_builtin;refine FY _ R (Am 44) (Am 46) 41 R (x+1) 116 hr _ 11 88 Tryz.underlying41 ha hb hc hd R (by decide) v l.length (At l) R (U.below (IT _ _ _)).own ⟨wr.heap.size+1,0,N⟩ 1 1 (D' y) R R (by have:=Kc (wr.alloc (Al #[I K y.ix,I K y.gen,I K y.has,I K (y.v 0),I K (y.v 1),I K (y.v 2),I K (y.v 3),I K (y.v 4),I K (y.v 5),I K (y.v 6),I K (y.v 7)] 116)) y;simpa using this) (F9 y) (by unfold maxLen;(try simp only[AV,Bp]);omega) (by(try simp only[AV,Bp]);omega) (by simp;omega) (by omega) ?_;intro g9 D w9 ho Y hw;have he:=(F0 Y (fun k hk=>(U.own.lt k hk).1) (show x+1≤_ by simp;omega));have hf:=(OL.app (U.below (IT _ _ _)) y ho Y); clear ho Y hw)
      |(refine FU R 41 (Am 48) (Am 47) R x 0 (S (O ⟨g9,0,N⟩) (l.length+1) D) R R R Lf ((U.below (IT _ _ _)).there he) ?_;intro hs H;have M:=hf;have L:=(hC.below (IT _ _ _)).keep (M.2.mono hh);rw[←H]at M L;have J:=M;have Z:=L;clear H M L))
     go_roundw
     case rel=>exact⟨j+1,_,by omega,by go_num,by rw[AN V];simp,Z,by rw[AN V];simpa[hl]using J.1⟩
     case measure=>simp[intOf];omega
  ·obtain rfl:j=X.rows.length:=(by omega);have hU:=Nu X.rows r X.rows.length Fu;obtain⟨d0,d1,d2,d3,d4,d5,d6,d7,d8,d9,hT⟩:=Lg hC.r;have e0:=U.box.e0;have e1:=U.box.e1;have lx:=U.lx;clear hX;have hz:Hid (Lo X.rows r=if(IP X.rows r X.rows.length).1=false then(IP X.rows r X.rows.length).2++[r]else(IP X.rows r X.rows.length).2):=rfl;generalize IP X.rows r X.rows.length=s at *;obtain⟨dn,l⟩:=s;dsimp only at *
   cases dn
   ·have HV:=An ((AN hz).trans (AF R));clear hz;go_wp2_with(first
     |(at_builtin;refine FY _ R (Am 53) (Am 55) 41 R (x+1) 116 hr _ 11 88 Tryz.underlying41 ha hb hc hd R (by decide) v l.length (At l) R (U.below (GF _ _)).own ⟨wr.heap.size,0,N⟩ 1 1 (D' r) R R (by have:=Kc wr r;simpa using this) (F9 r) (by unfold maxLen;(try simp only[AV,Bp]);omega) (by(try simp only[AV,Bp]);omega) (by simp;omega) (by omega) ?_;intro g9 D w9 ho Y hw;have he:=(F0 Y (fun k hk=>(U.own.lt k hk).1) (show x+1≤_ by simp;omega));have hf:=(OL.app (U.below (GF _ _)) r ho Y); clear ho Y hw)
     |(refine FU R 41 (Am 57) (Am 56) R x 0 (S (O ⟨g9,0,N⟩) (l.length+1) D) R R R Lf ((U.below (GF _ _)).there he) ?_;intro hs H;have M:=hf;rw[←H]at M;have e2:=M.1.box.e0;have e3:=M.1.box.e1;have J:=M;clear H M e0 e1)
     |(refine As R 43 (Am 4) (Am 58) R (w.heap.size+1+1) 0 [S (O ⟨g9,0,N⟩) (l.length+1) D,S G X.gens.length E] R R (by simp[Ar]) F8 ((hC.below (GF _ _)).keep (J.2.mono hh)).there ?_;intro W3 hu;have hG:=((hC.below (GF _ _)).keep (J.2.mono hh)).give (S (O ⟨g9,0,N⟩) (l.length+1) D) (S G X.gens.length E);have hq:=Gg (b:=w.heap.size+1+1) (by omega) [S (O ⟨g9,0,N⟩) (l.length+1) D,S G X.gens.length E] 0 _ J.1.own;rw[←hu]at hG hq;clear hu))
    obtain⟨t0,t1,hE⟩:=hG;obtain⟨A2,c2,hv,cc⟩:=JG hq;simp only[A9]at hv;obtain⟨rfl,_,rfl⟩:=hv;refine AG (by simp[results,Tryz.results101,go_sem,t0,t1]<;>rfl) R ⟨O ⟨g9,0,N⟩,D,by rw[AN HV];simp,by have:=Jt hq (show w.heap.size≤x+1 by omega);rw[AN HV];simp only[AV,Bp]at this⊢;exact this,hE⟩
   ·have HV:=An ((AN hz).trans (AA (by simp)));clear hz;obtain⟨A',c',rfl,cd⟩:=JG U.own;clear cd;go_wp2_with(first
     |(refine As R 43 (Am 4) (Am 58) R (w.heap.size+1+1) 0 [S A' l.length c',S G X.gens.length E] R R (by simp[Ar]) F8 hC.there ?_;intro W3 hu;have hG:=hC.give (S A' l.length c') (S G X.gens.length E);have hq:=Gg (b:=w.heap.size+1+1) (by omega) [S A' l.length c',S G X.gens.length E] 0 _ U.own;rw[←hu]at hG hq;clear hu))
    obtain⟨t0,t1,hE⟩:=hG;obtain⟨A2,c2,hv,cc⟩:=JG hq;simp only[A9,Br]at hv;obtain⟨rfl,rfl⟩:=hv;refine AG (by simp[results,Tryz.results101,go_sem,t0,t1]<;>rfl) R ⟨A',c',by rw[AN HV],by rw[AN HV];exact Jt hq (show w.heap.size≤x+1 by omega),hE⟩
end Go.Proofs.YtnbleebilmghcabGreat
namespace Go.Proofs.YtnbleebilmghcabGreat
open Go Go.RowKit
set_option maxRecDepth 8000
theorem RF(D:List D7)(j:Nat)(h:j<D.length):D.getD j dR=D[j]:=by rw[Az,AE h];rfl
theorem Nt(D:List D7)(r:D7)(p:Nat)(E:p≤D.length)(h:∀ t,t<p→(D.getD t dR).ix<r.ix):∀j,j≤p→IP D r j=(false,D.take j)
 |0,_=>by simp[IP]
 |j+1,hj=>by
  have J:=h j (by omega);rw[Jf D r j (by omega),Nt D r p E h j (by omega)];have F:¬ r.ix≤(D.getD j dR).ix:=by omega
  have H:¬ (D.getD j dR).ix=r.ix:=by omega
  rw[A0 (by omega:j<D.length),←RF D j (by omega)];generalize D.getD j dR=y at *;unfold PZ;simp[F,H]
theorem My(D:List D7)(r:D7)(q:Nat)(E:(IP D r q).1=true)(h:∀ t,q≤t→t<D.length→r.ix<(D.getD t dR).ix):∀d,q+d≤D.length→IP D r (q+d)=(true,(IP D r q).2++(D.drop q).take d)
 |0,_=>by simp[←E]
 | d+1,hj=>by
  have H:=h (q+d) (by omega) (by omega);rw[show q+(d+1)=(q+d)+1 by omega,Jf D r (q+d) (by omega),My D r q E h d (by omega)];have F:¬ (D.getD (q+d) dR).ix=r.ix:=by omega
  have e:(D.drop q).take (d+1)=(D.drop q).take d++[D.getD (q+d) dR]:=by
   rw[A0 (by rw[Cq];omega),Ey,←RF D (q+d) (by omega)]
  rw[e];generalize D.getD (q+d) dR=y at *;unfold PZ;simp[F]
theorem Zx{X:Wd}(M:FK X)(r:D7)(U:∀ j,j<X.rows.length→(E' X j).ix≠r.ix):Lo X.rows r=Ix X.rows (Hy X.rows r.ix) r:=by
 obtain⟨J,V,L⟩:=N8 M r.ix;generalize Hy X.rows r.ix=p at *;have h:=Nt X.rows r p J (fun t Y=>by
  have D:=V t Y;have F:=U t (by omega);have H:(X.rows.getD t dR).ix≤r.ix:=D;have h4:(X.rows.getD t dR).ix≠r.ix:=F;omega)
 unfold Ix;rcases Nat.eq_or_lt_of_le J with e|E
 ·have D:=h p Fu;rw[e]at D;unfold Lo;rw[D,AF R,e,D9]
 ·have D:=h p Fu;have hx:r.ix<(X.rows.getD p dR).ix:=L p Fu E;have F:IP X.rows r (p+1)=(true,X.rows.take p++[r]++[X.rows.getD p dR]):=by
   rw[Jf X.rows r p E,D];have Z:r.ix≤(X.rows.getD p dR).ix:=(by omega);have a2:¬ (X.rows.getD p dR).ix=r.ix:=(by omega);generalize X.rows.getD p dR=y at *;unfold PZ;simp[Z,a2]
  have H:=My X.rows r (p+1) (by rw[F]) (fun t D F=>L t (by omega) F) (X.rows.length - (p+1)) (by omega);rw[show p+1+(X.rows.length - (p+1))=X.rows.length by omega,F]at H;unfold Lo;rw[H,AA (by simp)];have e1:(X.rows.drop (p+1)).take (X.rows.length - (p+1))=X.rows.drop (p+1):=by
   rw[←Cq];exact BN
  show X.rows.take p++[r]++[X.rows.getD p dR]++(X.rows.drop (p+1)).take (X.rows.length - (p+1))=_;rw[e1,RF X.rows p E,BJ,BJ];simp[E9]
theorem Tr{X:Wd}(F:FK X){k:Nat}(D:k<X.rows.length)(r:D7)(E:r.ix=(E' X k).ix):Lo X.rows r=X.rows.set k r:=by
 have H:=Nt X.rows r k (by omega) (fun t L=>by rw[E];exact F.lt' L D) k Fu;have h:IP X.rows r (k+1)=(true,X.rows.take k++[r]):=by
  rw[Jf X.rows r k D,H];have M:(X.rows.getD k dR).ix=r.ix:=E.symm;generalize X.rows.getD k dR=y at *;unfold PZ;simp[M]
 have J:=My X.rows r (k+1) (by rw[h]) (fun t H h=>by rw[E];exact F.lt' (by omega) h) (X.rows.length - (k+1)) (by omega);rw[show k+1+(X.rows.length - (k+1))=X.rows.length by omega,h]at J;unfold Lo;rw[J,AA (by simp)];have U:(X.rows.drop (k+1)).take (X.rows.length - (k+1))=X.rows.drop (k+1):=by
  rw[←Cq];exact BN
 show X.rows.take k++[r]++(X.rows.drop (k+1)).take (X.rows.length - (k+1))=_;rw[U,Ew,AF D];simp
end Go.Proofs.YtnbleebilmghcabGreat
