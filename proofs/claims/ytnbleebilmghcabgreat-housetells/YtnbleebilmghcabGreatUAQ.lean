/- PMath2, SBox, SAdd, SAdd2, SPos, SBin, SInsT, SFill, SGrp, STof, STake -/
import Derived.Test.YtnbleebilmghcabGreatUAC
import Derived.Test.YtnbleebilmghcabGreatUAM
import Derived.Test.YtnbleebilmghcabGreatUAL
import Derived.Test.YtnbleebilmghcabGreatUAP
import Derived.Test.YtnbleebilmghcabGreatUAR
import Derived.Test.YtnbleebilmghcabGreatUAN
set_option linter.all false
set_option maxHeartbeats 8000000
open Go.Value renaming int→I,slice→S,pointer→Ae,agg→Af,tuple→Ai,bool→Aj,ownBlock→Ax
open Go.IntKind renaming i64→K
open Option renaming none→N,some→O
open Go.Obj renaming cells→Al
open Go.Operand renaming tmp→Am
open Go.Ending renaming returned→Ao
open Array renaming getD_eq_getD_getElem?→Ap
open Go.Act renaming eval→Aq
open Go.Proofs.Tryz renaming prog→Au
namespace Go.Proofs.YtnbleebilmghcabGreat
open Go Go.RowKit
theorem VF{X:Wd}{i g:Int}{C:D7→D7×Bool×Int}(h:(OH X i g C).1=0):
  FK X∧∃k:Nat,k<X.rows.length∧Ga X i g=(k:Int)∧(E' X k).ix=i∧(E' X k).gen=g∧(C (E' X k)).2.2=0∧(OH X i g C).2=⟨X.rows.set k (C (E' X k)).1,X.gens⟩:=by
 unfold OH at h⊢;by_cases c1:(FP X).1≠0
 ·rw[AF c1]at h;exact absurd h c1
 ·rw[AA c1]at h⊢;have E:(FP X).1=0:=C7.1 c1;refine⟨(F7 X).1 E,?_⟩;rcases If X i g with F|⟨k,H,F,J,L⟩
  ·rw[AF (by omega)]at h;cases h
  ·rw[AA (by omega),F,Bi]at h⊢;have M:X.rows.getD k dR=E' X k:=rfl;rw[M]at h⊢;by_cases D:(C (E' X k)).2.2≠0
   ·rw[AF D]at h;exact absurd h D
   ·rw[AA D];exact⟨k,H,rfl,J,L,C7.1 D,rfl⟩
theorem ke{X:Wd}(h:FK X){i g:Int}{k:Nat}(D:Ga X i g=(k:Int))(C:D7→D7×Bool×Int):
  OH X i g C=if(C (E' X k)).2.2≠0 then((C (E' X k)).2.2,FL)else(0,⟨X.rows.set k (C (E' X k)).1,X.gens⟩):=by
 unfold OH;rw[AA (by have:=(F7 X).2 h;omega),AA (by omega),D,Bi];rfl
theorem N9{X:Wd}{i g:Int}(h:(GS X i g).1=0):
  FK X∧∃k:Nat,k<X.rows.length∧Ga X i g=(k:Int)∧(E' X k).ix=i∧(E' X k).gen=g∧(GS X i g).2=⟨X.rows.eraseIdx k,X.gens⟩:=by
 unfold GS at h⊢;by_cases c1:(FP X).1≠0
 ·rw[AF c1]at h;exact absurd h c1
 ·rw[AA c1]at h⊢;have D:(FP X).1=0:=C7.1 c1;refine⟨(F7 X).1 D,?_⟩;rcases If X i g with E|⟨k,F,E,H,J⟩
  ·rw[AF (by omega)]at h;cases h
  ·rw[AA (by omega),E,Bi];exact⟨k,F,rfl,H,J,rfl⟩
theorem QQ{X:Wd}{D n:Int}(h:(FQ X D n).1=0):
  FK X∧∃(k:Nat) (g:Int),(FQ X D n).2.1=((k:Int),g)∧(FQ X D n).2.2=⟨Ix X.rows (Hy X.rows (k:Int)) (MR (k:Int) g D n),Iy X.gens (k:Int) g⟩∧k≤X.gens.length ∧
   (∀j,j<X.rows.length→(E' X j).ix≠(k:Int))∧(k<X.gens.length→g=X.gens.getD k 0+1)∧FK (FQ X D n).2.2:=by
 unfold FQ at h⊢;by_cases c1:(FP X).1≠0
 ·rw[AF c1]at h;exact absurd h c1
 ·rw [AA c1]at h⊢;have F:=(F7 X).1 (C7.1 c1);refine⟨F,?_⟩;by_cases Y:(FV D && Hx n)=false
  ·rw[AF Y]at h;cases h
  ·rw[AA Y]at h⊢;have H:FV D=true∧Hx n=true:=(by simpa using Y);by_cases U:(Gl X).2≠0
   ·rw[AF U]at h;exact absurd h U
   ·rw[AA U];obtain⟨k,hk,J⟩:=PC X X.gens.length 0 (by omega) (C7.1 U);have L:(Gl X).1.1=(k:Int):=hk;have V:∀j,j<X.rows.length→(E' X j).ix≠(k:Int):=fun j hj e=>by
     rcases J with⟨_,V,_⟩|⟨e2,_⟩
     ·exact V j hj e
     ·have:=F.il j hj;omega
    have hg:1≤(Gl X).1.2∧(Gl X).1.2≤1000:=by
     show 1≤(Kv X X.gens.length 0).1.2∧(Kv X X.gens.length 0).1.2≤1000;rcases J with⟨E,_,h2,Z⟩|⟨_,_,Z⟩
     ·have:=F.gv k E;omega
     ·omega
    have ha:k<60:=by
     have:=F.gl;rcases J with⟨E,_⟩|⟨E,h2,_⟩<;>omega
    have M:k≤X.gens.length:=by rcases J with⟨E,_⟩|⟨E,_⟩<;>omega
    rw[L];refine⟨k,(Gl X).1.2,EO L R,rfl,M,V,fun hb=>?_,?_⟩
    ·rcases J with⟨_,_,_,Z⟩|⟨E,_⟩
     ·exact Z
     ·omega
    ·exact Yf F M ha V (r:=MR (k:Int) (Gl X).1.2 D n) R (iv _ _ H.1 H.2) hg
theorem gK(X:Wd)(p:Nat)(D:p≤X.rows.length)(r:D7)(G:List Int)(j:Nat)(F:j<X.rows.length):∃E,E<(Ix X.rows p r).length∧E' ⟨Ix X.rows p r,G⟩ E=E' X j:=by
 have H:(Ix X.rows p r).length=X.rows.length+1:=Ky _ _ _ D;by_cases h:j<p
 ·exact⟨j,by omega,by rw[NS X p D,AF h]⟩
 ·exact⟨j+1,by omega,by rw[NS X p D,AA (by omega),AA (by omega)];rfl⟩
theorem bq(X:Wd)(p:Nat)(D:p≤X.rows.length)(r:D7)(G:List Int)(j:Nat)(F:j<(Ix X.rows p r).length):E' ⟨Ix X.rows p r,G⟩ j=r∨∃t,t<X.rows.length∧E' ⟨Ix X.rows p r,G⟩ j=E' X t:=by
 have H:(Ix X.rows p r).length=X.rows.length+1:=Ky _ _ _ D;rw[NS X p D];by_cases h:j<p
 ·exact .inr ⟨j,by omega,by rw[AF h]⟩
 ·by_cases E:j=p
  ·exact .inl (by rw[AA h,AF E])
  ·exact .inr ⟨j - 1,by omega,by rw[AA h,AA E]⟩
theorem RQ(X:Wd)(k:Nat)(D:k<X.rows.length)(G:List Int)(j:Nat)(E:j<(X.rows.eraseIdx k).length):∃t,t<X.rows.length∧t≠k∧E' ⟨X.rows.eraseIdx k,G⟩ j=E' X t:=by
 have F:(X.rows.eraseIdx k).length+1=X.rows.length:=by rw[Ej,AF D];omega
 rw[LP];by_cases h:j<k
 ·exact⟨j,by omega,by omega,by rw[AF h]⟩
 ·exact⟨j+1,by omega,by omega,by rw[AA h]⟩
theorem ZO(X:Wd)(k:Nat)(E:k<X.rows.length)(G:List Int)(j:Nat)(H:j<X.rows.length)(F:j≠k):∃D,D<(X.rows.eraseIdx k).length∧E' ⟨X.rows.eraseIdx k,G⟩ D=E' X j:=by
 have J:(X.rows.eraseIdx k).length+1=X.rows.length:=by rw[Ej,AF E];omega
 by_cases h:j<k
 ·exact⟨j,by omega,by rw[LP,AF h]⟩
 ·exact⟨j - 1,by omega,by rw[LP,AA (by omega),show j - 1+1=j by omega]⟩
def I6(X Y:Wd)(i g:Int):Prop:=∀k:Nat,k<X.rows.length→Ga X i g=(k:Int)→∃j:Nat,j<Y.rows.length∧Ga Y i g=(j:Int)∧E' Y j=E' X k
theorem Qz{X Y:Wd}{i g:Int}(V:FK X)(L:FK Y)(h:∀ k,k<X.rows.length→(E' X k).ix=i→(E' X k).gen=g→∃ j,j<Y.rows.length∧E' Y j=E' X k):I6 X Y i g:=fun k M Z=>by
 rcases If X i g with e|⟨D,U,e,E,F⟩
 ·omega
 ·have:D=k:=by omega
  subst this;obtain⟨j,H,J⟩:=h D M E F;refine⟨j,H,?_,J⟩;have:=Na L H;rwa[J,E,F]at this
theorem KK{X:Wd}{D n:Int}(h:(FQ X D n).1=0)(i g:Int):FK (FQ X D n).2.2∧I6 X (FQ X D n).2.2 i g:=by
 obtain⟨F,k,J,_,e,L,M,_,E⟩:=QQ h;refine⟨E,Qz F E fun j H _ _=>?_⟩;rw[e];exact gK X _ (KO _ _) _ _ j H
theorem MU{X:Wd}{i g:Int}(h:(GS X i g).1=0):FK (GS X i g).2∧∀E F,(E,F)≠(i,g)→I6 X (GS X i g).2 E F:=by
 obtain⟨L,k,M,hf,U,V,e⟩:=N9 h;have D:FK (GS X i g).2:=by rw[e];exact UR L M
 refine⟨D,fun E F H=>Qz L D fun j Y Z e2=>?_⟩;rw[e];refine ZO X k M _ j Y fun J=>H ?_;subst J;rw[←Z,←e2,U,V]
theorem SJ{X:Wd}(L:FK X){i g:Int}{k:Nat}(Z:k<X.rows.length)(M:(E' X k).ix=i)(U:(E' X k).gen=g){r:D7}(h:FK ⟨X.rows.set k r,X.gens⟩):∀D E,(D,E)≠(i,g)→I6 X ⟨X.rows.set k r,X.gens⟩ D E:=fun D E F=>by
 refine Qz L h fun j J V Y=>⟨j,by simpa using J,?_⟩;rw[JH X k r X.gens j J,AA fun H=>F ?_];subst H;rw[←V,←Y,M,U]
theorem Ym{x:D7}{p n:Int}(h:(LF x p n).2.2=0):F5 p=true∧Hx n=true∧(LF x p n).1=M7 x p n:=by
 unfold LF at h⊢
 cases c:(F5 p && Hx n)
 ·rw[c]at h;simp at h
 ·simpa using c
theorem Wz{x:D7}{p:Int}(h:(Jz x p).2.2=0):IR x.has p=true∧(Jz x p).1=K5 x p:=by
 unfold Jz at h⊢
 cases c:IR x.has p
 ·rw[c]at h;simp at h
 ·simp
theorem Qg{X:Wd}{i g p n:Int}(h:(Hc X i g p n).1=0):
  FK X∧F5 p=true∧Hx n=true∧∃k:Nat,k<X.rows.length∧Ga X i g=(k:Int)∧(E' X k).ix=i∧(E' X k).gen=g∧(Hc X i g p n).2=⟨X.rows.set k (M7 (E' X k) p n),X.gens⟩∧FK (Hc X i g p n).2:=by
 obtain⟨D,k,E,L,M,U,V,e⟩:=VF h;obtain⟨F,H,Y⟩:=Ym V;have J:(Hc X i g p n).2=⟨X.rows.set k (M7 (E' X k) p n),X.gens⟩:=by rw[←Y];exact e
 refine⟨D,F,H,k,E,L,M,U,J,?_⟩;rw[J];exact SQ D E R R (iu (D.rv k E) F H)
theorem PN{X:Wd}{i g p:Int}(h:(GK X i g p).1=0):
  FK X∧∃k:Nat,k<X.rows.length∧Ga X i g=(k:Int)∧(E' X k).ix=i∧(E' X k).gen=g∧IR (E' X k).has p=true∧(GK X i g p).2=⟨X.rows.set k (K5 (E' X k) p),X.gens⟩∧FK (GK X i g p).2:=by
 obtain⟨D,k,E,J,L,M,U,e⟩:=VF h;obtain⟨F,V⟩:=Wz U;have H:(GK X i g p).2=⟨X.rows.set k (K5 (E' X k) p),X.gens⟩:=by rw[←V];exact e
 refine⟨D,k,E,J,L,M,F,H,?_⟩;rw[H];exact SQ D E R R (ff (D.rv k E) F)
theorem NV{X:Wd}{i g p n:Int}(h:(Hc X i g p n).1=0):FK (Hc X i g p n).2∧∀E F,(E,F)≠(i,g)→I6 X (Hc X i g p n).2 E F:=by
 obtain⟨H,_,_,k,J,U,L,M,e,D⟩:=Qg h;refine⟨D,?_⟩;rw[e]at D⊢;exact SJ H J L M D
theorem MY{X:Wd}{i g p:Int}(h:(GK X i g p).1=0):FK (GK X i g p).2∧∀E F,(E,F)≠(i,g)→I6 X (GK X i g p).2 E F:=by
 obtain⟨H,k,J,U,L,M,_,e,D⟩:=PN h;refine⟨D,?_⟩;rw[e]at D⊢;exact SJ H J L M D
theorem T5{X:Wd}{D n:Int}(h:(FQ X D n).1≠0):(FQ X D n).2.2=FL:=by
 unfold FQ at h⊢;split at h
 ·rw[AF ‹_›]
 ·rename_i c1;rw[AA c1];split at h
  ·rw[AF ‹_›]
  ·rename_i E;rw[AA E];split at h
   ·rw[AF ‹_›]
   ·exact absurd R h
theorem Xl{X:Wd}{i g:Int}(h:(GS X i g).1≠0):(GS X i g).2=FL:=by
 unfold GS at h⊢;split at h
 ·rw[AF ‹_›]
 ·rename_i c1;rw[AA c1];split at h
  ·rw[AF ‹_›]
  ·exact absurd R h
theorem Xx{X:Wd}{i g:Int}{C:D7→D7×Bool×Int}(h:(OH X i g C).1≠0):(OH X i g C).2=FL:=by
 unfold OH at h⊢;split at h
 ·rw[AF ‹_›]
 ·rename_i c1;rw[AA c1];split at h
  ·rw[AF ‹_›]
  ·rename_i D;rw[AA D];split at h
   ·rw[AF ‹_›]
   ·exact absurd R h
theorem L8.keep{b:Nat}{u0 u1:Value}{W W1:World}(h:L8 b u0 u1 W)(D:Below (b+1) W W1):L8 b u0 u1 W1 :=
 ⟨(D.cell (p:=⟨b,0,N⟩) (by simp)).trans h.e0,(D.cell (p:=⟨b,1,N⟩) (by simp)).trans h.e1,fun i=>(D.frozen (p:=⟨b,i,N⟩) (by simp)).trans (h.f i)⟩
theorem Sj(r:D7):At [r]=D' r:=by simp[At]
theorem Kc(W:World)(r:D7):∀j u,(D' r)[j]?=O u→(W.alloc (Al #[I K r.ix,I K r.gen,I K r.has,I K (r.v 0),I K (r.v 1),I K (r.v 2),I K (r.v 3),I K (r.v 4),I K (r.v 5),I K (r.v 6),I K (r.v 7)] 116)).cell? ((⟨W.heap.size,0,N⟩:Addr).add j)=O u:=(Su W r).src
attribute [local go_sem ↓] Go.wp_at_zero Go.wp_at_succ
theorem SX{w w1:World}{base D n N:Nat}{e:TypeId}{v:Value}{V:List Value}(h:w.ownsRow base e D v n V)(F:∀ g,v.ownBlock=O g→g<N)(Y:Below N w w1):w1.ownsRow base e D v n V:=by
 refine⟨h.1,?_⟩;rcases h.2 with Z|⟨g,H,J,rfl,M,U,E⟩
 ·exact .inl Z
 ·refine .inr ⟨g,H,J,rfl,M,?_,E⟩;rw[Y.block g (F g R)];exact U
structure AR(w:World)(base bx N:Nat)(u0 u1 u2 vh:Value)(L:List Int)(v:Value)(rows:List D7)(W:World):Prop where
 bel:Below base w W
 box:W.heap[bx]?=O (Al #[u0,u1,u2] 75 (0,0))
 held:W.ownsRow 0 3 1 vh L.length (FD L)
 own:W.ownsRow base 116 11 v rows.length (At rows)
 bN:base≤N
 xN:bx<N
 hN:∀g,vh.ownBlock=O g→g<N
 vN:∀g,v.ownBlock=O g→g<N
 sN:N≤W.heap.size
section
variable {w W W1:World} {base bx N:Nat} {u0 u1 u2 vh:Value} {L:List Int} {v:Value} {rows:List D7}
theorem AR.keep(h:AR w base bx N u0 u1 u2 vh L v rows W)(D:Below N W W1):AR w base bx N u0 u1 u2 vh L v rows W1 :=
 ⟨h.bel.trans (D.mono h.bN),(D.block bx h.xN).trans h.box,SX h.held h.hN D,SX h.own h.vN D,h.bN,h.xN,h.hN,h.vN,AU h.sN D.size⟩
theorem AR.below(h:AR w base bx N u0 u1 u2 vh L v rows W)(D:Below W.heap.size W W1):AR w base bx N u0 u1 u2 vh L v rows W1:=h.keep (D.mono h.sN)
theorem AR.up(h:AR w base bx N u0 u1 u2 vh L v rows W):AR w base bx W.heap.size u0 u1 u2 vh L v rows W :=
 ⟨h.bel,h.box,h.held,h.own,AU h.bN h.sN,Bs h.xN h.sN,fun g e=>Bs (h.hN g e) h.sN,fun g e=>Bs (h.vN g e) h.sN,AC _⟩
theorem AR.cell(h:AR w base bx N u0 u1 u2 vh L v rows W):W.cell? ⟨bx,0,none⟩=O u0∧W.cell? ⟨bx,1,none⟩=O u1∧W.cell? ⟨bx,2,none⟩=O u2:=by
 refine⟨?_,?_,?_⟩<;>simp[World.cell?,h.box]
theorem AR.app{g E:Nat}(h:AR w base bx N u0 u1 u2 vh L v rows W)(r:D7)(F:W1.ownsRow base 116 11 (S (O ⟨g,0,none⟩) (rows.length+1) E) (rows.length+1) (At rows++D' r))(D:W.grownBy W1 v.ownBlock):
  AR w base bx W1.heap.size u0 u1 u2 vh L (S (O ⟨g,0,none⟩) (rows.length+1) E) (rows++[r]) W1:=by
 have H:At (rows++[r])=At rows++D' r:=by rw[Jk,Sj]
 have J:Below base W W1:=F0 D (fun k e=>(h.own.lt k e).1) (AU h.bN h.sN);refine⟨h.bel.trans J,(D.block bx (Bs h.xN h.sN) (fun e=>Ht h.own ⟨_,h.box⟩ (by decide) e.symm)).trans h.box,h.held.kept D (F1 h.held h.own (by decide)),?_,AU (AU h.bN h.sN) D.size,Bs h.xN (AU h.sN D.size),fun k e=>Bs (h.hN k e) (AU h.sN D.size),fun k e=>(F.lt k e).2,AC _⟩;rw[H,AV,Bp];exact F
end
theorem Wu(h p:Int)(h0:0≤h)(H:h≤255):IR h p=Kz h p:=by
 by_cases E:0≤p∧p<8
 ·obtain⟨m,rfl⟩:=BD h0;obtain⟨q,rfl⟩:=BD E.1;have D:∀m:Fin 256,∀q:Fin 8,IR (m.val:Int) (q.val:Int)=Kz (m.val:Int) (q.val:Int):=by decide +kernel
  exact D ⟨m,by omega⟩ ⟨q,by omega⟩
 ·have F:Kz h p=false:=by unfold Kz;simp;omega
  rw[F]
  cases e:IR h p
  ·rfl
  ·obtain⟨k,J,rfl⟩:=Lw h p e;omega
def Jr(r:D7)(k:Nat):D7:=⟨r.ix,r.gen,r.has,fun p=>if((FR r.has 8).take k).contains (p:Int)=true then r.v p else 0⟩
theorem TA(r:D7)(k p:Nat)(D:k<(FR r.has 8).length)(E:(FR r.has 8).getD k 0=(p:Int)):Jr r (k+1)=⟨r.ix,r.gen,r.has,fun q=>if q=p then r.v p else(Jr r k).v q⟩:=by
 unfold Jr;congr 1;funext q;rw[A0 D];have e:(FR r.has 8)[k]=(p:Int):=by rw[←E,Az,AE D];rfl
 rw[e];by_cases h:q=p
 ·subst h;simp
 ·have:¬ (q:Int)=(p:Int):=by omega
  simp[h,this]
theorem Ud(r:D7)(E:N4 r=true):D' (Jr r (FR r.has 8).length)=D' r:=by
 have h:∀p,p<8→(Jr r (FR r.has 8).length).v p=r.v p:=fun p F=>by
  show(if((FR r.has 8).take (FR r.has 8).length).contains (p:Int)=true then r.v p else 0)=r.v p;rw[BN,Xk];by_cases D:tb r.has p=true
  ·simp[F,D]
  ·have:=((Hz E).2 p F).2;have H:=(Hz E).1;have J:IR r.has (p:Int)=tb r.has p:=by
    rw[Wu _ _ H.1 H.2];unfold Kz;have:decide (0≤(p:Int)∧(p:Int)<8)=true:=(by simp;omega);rw[this];simp
   rw[J]at this;simp only[D,and_false,DW,Cy,BG];rcases this with h|h
   ·exact h.symm
   ·exact absurd h D
 unfold D';rw[h 0 (by omega),h 1 (by omega),h 2 (by omega),h 3 (by omega),h 4 (by omega),h 5 (by omega),h 6 (by omega),h 7 (by omega)];rfl
set_option maxRecDepth 8000
theorem Ks{W:World}{b:Nat}{y:D7}(h:Hb W b 0 y):W.cell? ⟨b,0,N⟩=O (I K y.ix)∧W.cell? ⟨b,1,N⟩=O (I K y.gen)∧W.cell? ⟨b,2,N⟩=O (I K y.has)∧W.cell? ⟨b,3,N⟩=O (I K (y.v 0))∧W.cell? ⟨b,4,N⟩=O (I K (y.v 1))∧W.cell? ⟨b,5,N⟩=O (I K (y.v 2))∧W.cell? ⟨b,6,N⟩=O (I K (y.v 3))∧W.cell? ⟨b,7,N⟩=O (I K (y.v 4))∧W.cell? ⟨b,8,N⟩=O (I K (y.v 5))∧W.cell? ⟨b,9,N⟩=O (I K (y.v 6))∧W.cell? ⟨b,10,N⟩=O (I K (y.v 7)):=
 ⟨h.c0,h.c1,h.c2,h.v 0 (by omega),h.v 1 (by omega),h.v 2 (by omega),h.v 3 (by omega),h.v 4 (by omega),h.v 5 (by omega),h.v 6 (by omega),h.v 7 (by omega)⟩
theorem AR.start{w w1:World}{h:Nat}{u0 u1 E v H:Value}{l:List D7}{L:List Int}(J:w.ownsRow h 116 11 v l.length (At l))(V:h≤w.heap.size)(D:Below (w.alloc (Al #[u0,u1,E] 75)).heap.size (w.alloc (Al #[u0,u1,E] 75)) w1)
  (M:w1.ownsRow (w.alloc (Al #[u0,u1,E] 75)).heap.size 3 1 H L.length (L.map (I K))):AR w h w.heap.size w1.heap.size u0 u1 E H L v l w1:=by
 have Y:(w.alloc (Al #[u0,u1,E] 75)).heap.size=w.heap.size+1:=by simp
 have U:=GF w (Al #[u0,u1,E] 75);have Z:=D.size;have F:(w.alloc (Al #[u0,u1,E] 75)).heap[w.heap.size]?=O (Al #[u0,u1,E] 75 (0,0)):=by show(w.heap.push _)[w.heap.size]?=_;simp
 refine⟨(U.mono V).trans (D.mono (by omega)),(D.block w.heap.size (by omega)).trans F,Jt M (by omega),FT (FT J U) D,by omega,by omega,fun g e=>(M.lt g e).2,fun g e=>?_,AC _⟩;have:=(J.lt g e).2;omega
theorem Vb(v:Value)(l:List D7)(t:Gu)(A:Option Addr)(c:Nat)(C:Option Addr)(cc:Nat)(w0 w:World)(base:Nat)(hv:w.ownsRow base 116 11 v l.length (At l))(hb:base≤w.heap.size)(h0:Below w0.heap.size w0 w)(hb0:w0.heap.size≤base)(hbs:LB w0 A (Vi t))(hco:Rm w0 C t)(hr:JZ t)(hl:l.length≤4194304):
  Calls Au 91 #[v,Af #[I K t.has,S A t.rows.length c,S C (FR t.has 8).length cc]] w fun e w'=>∃v',e=Ao v'∧w'.ownsRow base 116 11 v' (l++t.rows).length (At (l++t.rows))∧Below base w w':=by
 have hs0:=ML hr.set;have hLI:=fun W=>Qx t.has W hs0.1 hs0.2;obtain⟨i61,hi61,hz61,hs61,hb61⟩:=BC OC;have nf:=hr.few;have ml:=Kf t.has 8;have H0:=An h0;obtain⟨u0,hu0⟩:∃u,u=I K t.has:=⟨_,rfl⟩;obtain⟨u1,hu1⟩:∃u,u=S A t.rows.length c:=⟨_,rfl⟩;obtain⟨u2,hu2⟩:∃u,u=S C (FR t.has 8).length cc:=⟨_,rfl⟩;clear hs0 h0;go_enter Tryz.func91,Tryz.ntmps91
 go_wp2_with((go_at_call 106;refine(hLI _).mono ?_;rintro e w1⟨vh,rfl,hh,hb1⟩;obtain⟨Ah,ch,rfl⟩:=Hw hh;have hA:=AR.start hv hb hb1 hh;obtain⟨a0,a1,a2⟩:=hA.cell;have HA:=hA;clear hA hh hb1))
 go_loopw [0,17] (fun x y wr=>∃i:Nat,i≤t.rows.length∧y=I K i∧∃N,AR w base w.heap.size N (I K t.has) (S A t.rows.length c) (S C (FR t.has 8).length cc) (S Ah (FR t.has 8).length ch) (FR t.has 8) x (l++t.rows.take i) wr) (fun _ y _=>t.rows.length - (intOf y).toNat)
 case atStart=>exact⟨0,AS _,rfl,_,by simpa using HA⟩
 case round =>
  clear a0 a1 a2 HA hv;obtain⟨wo,rfl⟩:∃wo,wo=wr:=⟨wr,rfl⟩;obtain⟨i,hi,rfl,N,hA⟩:=hrel;have H0W:=((AN H0).trans (hA.bel.mono hb0));by_cases hlt:i<t.rows.length
  ·have i0:(0:Int)≤(i:Int):=(by omega);have i1:(i:Int)<(t.rows.length:Int):=(by omega);obtain⟨r,hrr⟩:∃r,r=t.rows[i]:=⟨_,rfl⟩;have hrh:=hr.has r (by rw[hrr];exact Bm hlt);obtain⟨bb,bo,hAb,g0,g1⟩:=hbs i (by rw[Md];exact hlt);have hbv:(Vi t).getD i (0,0)=(r.ix,r.gen):=by
    unfold Vi;rw[Az,AE (by simpa using hlt),hrr];simp
   rw[hbv]at g0 g1;have g0:=AW H0W g0;have g1:=AW H0W g1;dsimp only at g0 g1;obtain⟨a0,a1,a2⟩:=hA.cell;have lbx:w.heap.size<wo.heap.size:=Bs hA.xN hA.sN;have HTK:=An (A0 hlt);have HRR:=An hrr;have HRH:=An hrh;have HAU:=hA.up;obtain⟨h5,h6⟩:=Me (wo.alloc (Al #[I K r.ix,I K r.gen] 61)) ⟨r.ix,r.gen,t.has,fun _=>0⟩ 116;have hz5:(wo.alloc (Al #[I K r.ix,I K r.gen] 61)).heap.size=wo.heap.size+1:=(by simp);rw[hz5]at h5 h6;have hp0:Hb ((wo.alloc (Al #[I K r.ix,I K r.gen] 61)).alloc (Al #[I K r.ix,I K r.gen,I K t.has,I K 0,I K 0,I K 0,I K 0,I K 0,I K 0,I K 0,I K 0] 116)) (wo.heap.size+1) 0 (Jr r 0):=⟨h5.c0,h5.c1,by rw[show(Jr r 0).has=t.has from hrh.1];exact h5.c2,fun p hp=>by rw[show(Jr r 0).v p=0 from by simp[Jr]];exact h5.v p hp⟩;have HA2:=(HAU.below (IT wo (Al #[I K r.ix,I K r.gen] 61) (Al #[I K r.ix,I K r.gen,I K t.has,I K 0,I K 0,I K 0,I K 0,I K 0,I K 0,I K 0,I K 0] 116)));clear hA hbv hrr hrh h5 hz5;subst hAb;go_wp2;go_loopw [28] (fun x wr=>∃k:Nat,k≤(FR t.has 8).length∧x=I K k∧AR w base w.heap.size wo.heap.size (I K t.has) (S (O ⟨bb,bo,none⟩) t.rows.length c) (S C (FR t.has 8).length cc) (S Ah (FR t.has 8).length ch) (FR t.has 8) u0 (l++t.rows.take i) wr∧Hb wr (wo.heap.size+1) 0 (Jr r k)∧(∀q,wr.frozen? ⟨wo.heap.size+1,q,none⟩=false)) (fun x _=>(FR t.has 8).length - (intOf x).toNat)
   case atStart=>exact⟨0,AS _,rfl,HA2,hp0,h6⟩
   case round =>
    clear HA2 hp0 h6 g0 g1 a0 a1 a2;obtain⟨k,hk,rfl,hA,hRo,hFr⟩:=hrel;by_cases hlk:k<(FR t.has 8).length
    ·have k0:(0:Int)≤(k:Int):=(by omega);have k1:(k:Int)<((FR t.has 8).length:Int):=(by omega);obtain⟨p,hp,hpk⟩:∃p:Nat,p<8∧(FR t.has 8).getD k 0=(p:Int):=by
      have hm:(FR t.has 8).getD k 0∈FR t.has 8:=by
       rw[Az,AE hlk];exact Bm hlk
      generalize (FR t.has 8).getD k 0=z at *;unfold FR at hm;rw[Cn]at hm;obtain⟨q,hq,e⟩:=hm;rw[BU,Bh]at hq;exact⟨q,hq.1,e.symm⟩
     obtain⟨gh,ch',hvh,_,_⟩:=Gi hA.held (by omega);simp only[A9,Br]at hvh;obtain⟨hvA,hvc⟩:=hvh;have hcell:wr.cell? ⟨gh,k,none⟩=O (I K (p:Int)):=by
      have hh:=hA.held;rw[hvA]at hh;refine F4 hh ?_;unfold FD;rw[Bw,AE hlk];rw[Az,AE hlk]at hpk;simpa using hpk
     obtain⟨b',o',hC,A1,c1,d0,hI⟩:=hco k hlk;obtain⟨b2,o2,hA1,d1⟩:=hI i (by rw[KT];exact hlt);have hwi:Below w0.heap.size w0 wr:=(AN H0).trans (hA.bel.mono hb0);have d0:=AW hwi d0;have d1:wr.cell? ⟨b2,o2+i,none⟩=O (I K (r.v p)):=by
      have e:(Oq t k).getD i 0=r.v p:=by
       unfold Oq;rw[hpk,Bi,Az,AE (by simpa using hlt),AN HRR];simp
      rw[←e];exact AW hwi d1
     obtain⟨a0,a1,a2⟩:=hA.cell;have HST:=An (TA r k p (by rw[(AN HRH).1];exact hlk) (by rw[(AN HRH).1];exact hpk));have p0:(0:Int)≤(p:Int):=(by omega);have p1:(p:Int)<8:=(by omega);have HAA:=hA;clear hA hpk hwi;subst hC hA1 hvA hvc;go_wp2_with((refine FU R 3 (Am 43) (Am 41) R (wo.heap.size+1) (3+p) (I K (r.v p)) R R R KZ (by have:=Gx (hRo.v p hp) hFr;rwa[AT]at this) ?_;intro W13 hW13;have hY:=LS hRo p hp (r.v p);rw[AT,←hW13]at hY;have hZ:=HAA.keep ((AD wo.heap.size wr).setCell (p:=⟨wo.heap.size+1,3+p,none⟩) (by simp) (I K (r.v p)));rw[←hW13]at hZ;have HFN:Hid (∀q,W13.frozen? ⟨wo.heap.size+1,q,none⟩=false):=An (fun q=>by rw[hW13];simpa using hFr q);clear hW13))
     go_roundw
     case rel=>exact⟨k+1,by omega,by go_num,hZ,by rw[AN HST];exact hY,AN HFN⟩
     case measure=>simp[intOf];omega
    ·obtain rfl:k=(FR t.has 8).length:=(by omega);have hec:=Ud r (AN HRH).2;rw[(AN HRH).1]at hec;generalize Jr r (FR t.has 8).length=y at *;have HEC:=An hec;obtain⟨p0,p1,p2,p3,p4,p5,p6,p7,p8,p9,p10⟩:=Ks hRo;have HAA:=hA;have hlen:(l++t.rows.take i).length=l.length+i:=(by rw[AV,AZ];omega);have HLN:=An hlen;clear hA hec hlen;go_wp2_with(first
      |(at_builtin;refine FY _ R (Am 45) (Am 47) 41 R base 116 i61 _ 11 88 Tryz.underlying41 hi61 hz61 hs61 hb61 R (by decide) u0 (l++t.rows.take i).length (At (l++t.rows.take i)) R (HAA.below (GF _ _)).own ⟨wr.heap.size,0,none⟩ 1 1 (D' r) R R (by rw[←AN HEC];exact Kc wr y) (F9 r) (by have:=AN HLN;unfold maxLen;omega) (by have:=AN HLN;omega) (by have:=HAA.sN;have:=HAA.bN;simp;omega) (by omega) ?_;intro g9 cap9 w9 ho hg hw;have HF:=(AR.app (HAA.below (GF wr (Al #[I K y.ix,I K y.gen,I K y.has,I K (y.v 0),I K (y.v 1),I K (y.v 2),I K (y.v 3),I K (y.v 4),I K (y.v 5),I K (y.v 6),I K (y.v 7)] 116))) r ho hg);clear ho hg hw))
     go_roundw
     case rel=>exact⟨i+1,by omega,by go_num,_,by rw[AN HTK,←AN HRR,←BJ];have hF:=HF;rw[AN HLN]at hF;exact hF⟩
     case measure=>simp[intOf];omega
  ·obtain rfl:i=t.rows.length:=(by omega);have hE:=hA.own;rw[BN]at hE;have HBE:=hA.bel;clear hA;go_wp2;go_ret;exact⟨_,rfl,hE,HBE⟩
end Go.Proofs.YtnbleebilmghcabGreat
namespace Go.Proofs.YtnbleebilmghcabGreat
open Go Go.RowKit
set_option maxRecDepth 8000
def Mm(rows:List D7)(x:Int):Nat→Nat
 |0=>0
 |n+1=>if x<(rows.getD n dR).ix then Mm rows x n else n+1
def gM(rows:List D7)(r:D7):List D7:=rows.take (Mm rows r.ix rows.length)++r :: rows.drop (Mm rows r.ix rows.length)
theorem Qj(h:List D7)(x:Int):∀n,Mm h x n≤n
 |0=>AC _
 |n+1=>by
  unfold Mm;split
  ·exact Nat.le_succ_of_le (Qj h x n)
  ·exact AC _
theorem Ua(D:List D7)(x:Int):∀n j,Mm D x n≤j→j<n→x<(D.getD j dR).ix
 |0,j,_,h=>by omega
 | n+1,j,h1,h2=>by
  unfold Mm at h1;split at h1
  ·rename_i e;rcases Bo j n with h|h
   ·exact Ua D x n j h1 h
   ·obtain rfl:j=n:=(by omega);exact e
  ·omega
theorem UZ(D:List D7)(x:Int):∀n,0<Mm D x n→¬ x<(D.getD (Mm D x n - 1) dR).ix
 |0,h=>by unfold Mm at h;omega
 |n+1,h=>by
  unfold Mm at h⊢;split
  ·rename_i e;rw[AF e]at h;exact UZ D x n h
  ·rename_i e;exact e
def KR(all:List D7):Nat→List D7
 |0=>[]
 |n+1=>gM (KR all n) (all.getD n dR)
theorem OA(D:List D7):∀m,m≤D.length→∃s,SP id s 0 m∧LC (fun p=>(D.getD p dR).ix) s 0 m∧KR D m=GY (fun k=>D.getD k dR) s m
 |0,_=>⟨id,SP.refl _ _ _,fun i j U Y Z=>by omega,rfl⟩
 | m+1,hm=>by
  obtain⟨s,U,Y,Z⟩:=OA D m (by omega);have J:s m=m:=U.out (by omega);have ha:∀k,k<m→s k<m:=fun k hk=>by
   obtain⟨j,_,H,e⟩:=U.mem Fw hk;rw[e];exact H
  have E:(KR D m).length=m:=by rw[Z,GT]
  have F:∀k,k<m→((KR D m).getD k dR)=D.getD (s k) dR:=fun k hk=>by rw[Z,JV _ _ _ _ hk]
  obtain⟨q,V⟩:∃q,q=Mm (KR D m) (D.getD m dR).ix m:=⟨_,rfl⟩;have L:q≤m:=by rw[V];exact Qj _ _ _
  have hb:∀j,q≤j→j<m→(D.getD m dR).ix<(D.getD (s j) dR).ix:=fun j M H=>by
   rw[←F j H];exact Ua _ _ m j (by rw[←V];exact M) H
  have hc:∀j,0≤j→j<q→¬ (D.getD m dR).ix<(D.getD (s j) dR).ix:=fun j _ H=>by
   have hl:=UZ (KR D m) (D.getD m dR).ix m (by omega);rw[←V,F (q - 1) (by omega)]at hl;rcases Bo j (q - 1)with h|h
   ·have:=Y j (q - 1) Fw h (by omega);unfold tl at this;dsimp only at this;omega
   ·obtain rfl:j=q - 1:=(by omega);exact hl
  have hH:IV (fun p=>(D.getD p dR).ix) s 0 m (m+1):=⟨Y,fun i j i1 i2 i3=>by omega,fun i j _ i2 M H=>by
   obtain rfl:j=m:=(by omega);rw[J];exact ha i i2⟩
  have hS:=Qu hH (AS q) L (fun j M H=>by rw[J];exact hc j M H) (fun j M H=>by rw[J];exact hb j M H);refine⟨KX s q m (m+1),(U.wide Fu (Ei _)).trans ((S8 s q m (m+1) L (Ei _)).wide Fw Fu),hS,?_⟩;show gM (KR D m) (D.getD m dR)=_;unfold gM;rw[E,←V];refine Ca (by simp only[AV,AZ,AJ,Cq,E,GT];omega) fun k k1 k2=>?_;rw[GT]at k2;have e2:(GY (fun k=>D.getD k dR) (KX s q m (m+1)) (m+1))[k]'(by rw[GT];exact k2)=D.getD (KX s q m (m+1) k) dR:=by simp[GY]
  rw[e2];have e3:∀j (hj:j<(KR D m).length),(KR D m)[j]=D.getD (s j) dR:=fun j hj=>by
   rw[←F j (by omega),Hr _ _ hj]
  by_cases c1:k<q
  ·rw[List.getElem_append_left (by simp only[AZ,E];omega),List.getElem_take,e3,JI s q m (m+1) k L (.inl c1) (Ei _)]
  ·rw[EW (by simp only[AZ,E];omega)];simp only[AZ,E,Cp L];by_cases c2:k=q
   ·subst c2;simp only[BR,Cb];rw[Jc s k m (m+1) k Fu (by omega),show k+(m - k)=m by omega,J]
   ·obtain⟨d,hd⟩:∃d,k - q=d+1:=⟨k - q - 1,by omega⟩;simp only[hd,C0,Ey];rw[e3,Jd s q m (m+1) k (by omega) (by omega)];congr 2;omega
theorem Wo(h:List D7){t:Nat→Nat}(D:SP id t 0 h.length)(E:LC (fun p=>(h.getD p dR).ix) t 0 h.length):GY (fun k=>h.getD k dR) t h.length=KR h h.length:=by
 obtain⟨s,F,H,J⟩:=OA h h.length Fu;rw[J];exact WQ _ _ _ _ fun k L=>V3 F D H E k L
theorem PH(h:List D7):∀m,(KR h m).length=m
 |0=>rfl
 |m+1=>by
  have:=PH h m;have:=Qj (KR h m) (h.getD m dR).ix (KR h m).length;unfold KR gM;simp only[AV,AZ,AJ,Cq];omega
attribute [local go_sem ↓] Go.wp_at_zero Go.wp_at_succ
def TC(w:World)(T:Option Addr)(n:Nat)(H:Nat→Int)(u1 u2:Nat→Value):Prop:=∀j,j<n→∃b o,T=O ⟨b,o,N⟩∧w.cell? ⟨b,o+j*3,N⟩=O (I K (H j))∧w.cell? ⟨b,o+j*3+1,N⟩=O (u1 j)∧w.cell? ⟨b,o+j*3+2,N⟩=O (u2 j)
theorem TC.below{w w1:World}{T:Option Addr}{n:Nat}{H:Nat→Int}{u1 E:Nat→Value}(h:TC w T n H u1 E)(D:Below w.heap.size w w1):TC w1 T n H u1 E:=fun j F=>by
 obtain⟨b,o,e,J,L,M⟩:=h j F;exact⟨b,o,e,AW D J,AW D L,AW D M⟩
theorem Ma(h a:Int)(x y:Value)(w:World):Calls Au 137 #[Af #[I K h,x,y],I K a] w fun e D=>e=Ao (I K (NJ h a))∧Below w.heap.size w D:=by
 have E:=(Pn h a);go_enter Tryz.func137,Tryz.ntmps137
 go_wp2_with((go_at_call 94;refine(E _).mono ?_;rintro e w1⟨rfl,F⟩;obtain rfl:=F.symm))
 go_ret;exact⟨rfl,GF _ _⟩
theorem VK(T:Option Addr)(hd n:Nat)(H:Nat→Int)(u1 u2:Nat→Value)(a:Int)(w:World)(hn:n≤1000)(hT:TC w T n H u1 u2)(he:∀ i j,i<j→j<n→H i<H j):
  Calls Au 136 #[S T n hd,I K a,.func (.func 137) #[] #[]] w fun e w'=>∃i:Nat,i≤n∧e=Ao (Ai #[I K (i:Int),Aj (decide (i<n∧H i=a))])∧(∀x,x<i→H x<a)∧(∀x,i≤x→x<n→a≤H x)∧Below w.heap.size w w':=by
 go_enter Tryz.func136,Tryz.ntmps136
 go_wp2;go_loopw [9,10] (fun t u wr=>∃(i j:Nat),t=I K (i:Int)∧u=I K (j:Int)∧i≤j∧j≤n∧Below w.heap.size w wr∧(∀x,x<i→H x<a)∧(∀x,j≤x→x<n→a≤H x)) (fun t u _=>(intOf u).toNat - (intOf t).toNat)
 case atStart=>exact⟨0,n,rfl,rfl,AS _,AC _,AD _ _,fun x h=>by omega,fun x h1 h2=>by omega⟩
 case round =>
  obtain⟨i,j,rfl,rfl,hi,hh,Z,M,J⟩:=hrel;by_cases hj:i<j
  ·have i1:(i:Int)<(j:Int):=(by omega);obtain⟨c,hc⟩:∃c:Nat,((i:Int)+(j:Int)) / 2=(c:Int):=⟨(i+j) / 2,by omega⟩;have c0:(0:Int)≤(c:Int):=(by omega);have c1:(c:Int)<(n:Int):=(by omega);have U:(i≤c∧c<j):=(by omega);obtain⟨b,o,rfl,d0,d1,d2⟩:=hT.below Z c (by omega);have L:=An Z;clear Z;by_cases D:H c<a
   ·have D:=An D;have hf:NJ (H c) a<0:=(JX _ _).2 D;go_wp2_with((go_at_call 137;refine(Ma _ _ _ _ _).mono ?_;rintro e w1⟨rfl,E⟩;have F:=((AN L).trans (E.mono (AN L).size));clear E))
    go_roundw
    case rel =>
     obtain⟨q1,q2⟩:=U;exact⟨c+1,j,by go_num,rfl,by omega,hh,F,fun x hx=>by
      rcases Bo x c with h|h
      ·have:=he x c h (by omega);have:=D;omega
      ·rw[show x=c by omega];exact D,J⟩
    case measure=>have:=U;simp[intOf];omega
   ·have D:=An D;have hf:¬ NJ (H c) a<0:=fun h=>D ((JX _ _).1 h);go_wp2_with((go_at_call 137;refine(Ma _ _ _ _ _).mono ?_;rintro e w1⟨rfl,E⟩;have F:=((AN L).trans (E.mono (AN L).size));clear E))
    go_roundw
    case rel =>
     obtain⟨q1,q2⟩:=U;exact⟨i,c,rfl,rfl,q1,by omega,F,M,fun x h1 h2=>by
      have q3:=D;rcases Bo c x with h|h
      ·have:=he c x h h2;omega
      ·rw[show x=c by omega];omega⟩
    case measure=>have:=U;simp[intOf];omega
  ·obtain rfl:i=j:=(by omega);have i1:¬ (i:Int)<(i:Int):=(by omega);by_cases V:i<n
   ·have n1:(i:Int)<(n:Int):=(by omega);have n0:(0:Int)≤(i:Int):=(by omega);obtain⟨b,o,rfl,d0,d1,d2⟩:=hT.below Z i V;have L:=An Z;clear Z;have hg:=J i Fu V;by_cases Y:H i=a
    ·have ha:=An Y;have h0:NJ (H i) a=0:=(by unfold NJ;rw[AA (by omega),AA (by omega)]);clear Y hg;go_wp2_with((go_at_call 137;refine(Ma _ _ _ _ _).mono ?_;rintro e w1⟨rfl,E⟩;have F:=((AN L).trans (E.mono (AN L).size));clear E))
     go_ret2
     exact⟨i,by omega,by simp[V,AN ha],M,J,F⟩
    ·have ha:=An Y;have h0:NJ (H i) a=1:=(by unfold NJ;rw[AA (by omega),AF (by omega)]);clear Y hg;go_wp2_with((go_at_call 137;refine(Ma _ _ _ _ _).mono ?_;rintro e w1⟨rfl,E⟩;have F:=((AN L).trans (E.mono (AN L).size));clear E))
     go_ret2
     exact⟨i,by omega,by simp[AN ha],M,J,F⟩
   ·have n1:¬ (i:Int)<(n:Int):=(by omega);have L:=An Z;clear Z;go_wp2;go_ret2
    exact⟨i,by omega,by simp[V],M,J,AN L⟩
set_option maxRecDepth 100000
structure T3 where
 h:Int
 a:Option Addr
 n:Nat
 c:Nat
 C:Option Addr
 m:Nat
 d:Nat
def GM(x:T3):List Value:=[I K x.h,S x.a x.n x.c,S x.C x.m x.d]
def FC(l:List T3):List Value:=l.flatMap GM
theorem Hp(x:T3):(GM x).length=3:=rfl
theorem Wp:(Au.info? 75).map (fun i=>(i.zero,i.size,i.bytes))=O (O (Af #[I K 0,S N 0 0,S N 0 0]),3,56):=by kernel_rfl
theorem aO:(Au.info? 75).map (·.size)=O 3:=by kernel_rfl
theorem Ig:∀h:List T3,(FC h).length=h.length*3
 |[]=>rfl
 |x :: r=>by
  have:=Ig r;unfold FC at this⊢;rw[BM,AV,Hp,this,AJ];omega
theorem Nq(h:List T3):∀u∈FC h,u.oneCell'=true:=by
 intro u D;unfold FC at D;obtain⟨x,_,E⟩:=C1.1 D;simp only[GM,Bu,Ch,Dk]at E;rcases E with rfl|rfl|rfl|rfl|rfl|rfl|rfl|rfl|rfl|rfl|rfl <;>rfl
theorem K7(a b:List T3):FC (a++b)=FC a++FC b:=by unfold FC;rw[Dt]
theorem Po(D:List T3)(k:Nat):(FC D).take (k*3)=FC (D.take k):=by
 by_cases h:k≤D.length
 ·have e:D=D.take k++D.drop k:=(BS k D).symm;have E:(FC (D.take k)).length=k*3:=by rw[Ig,AZ];congr 1;omega
  conv=>lhs;rw[e,K7]
  rw[Ck (by omega),BY (by omega)]
 ·rw[BY (by rw[Ig];omega),BY (by omega)]
theorem LL(x:T3):∀u∈GM x,u.oneCell'=true:=fun u h=>by
 unfold GM at h;simp only[Bu,Ch,Dk]at h;rcases h with rfl|rfl|rfl <;>rfl
def Nh(rows:List T3)(k:Nat)(r:T3):List T3:=rows.take k++r :: rows.drop k
theorem Q2(h:List T3)(k:Nat)(r:T3):FC (Nh h k r)=FC (h.take k)++GM r++FC (h.drop k):=by
 unfold Nh;rw[K7,BJ];rfl
theorem bu(h:List T3)(r:T3):Nh h h.length r=h++[r]:=by unfold Nh;simp
theorem LX(h:List T3)(k:Nat):(FC (h.drop k)).length=(h.length - k)*3:=by rw[Ig,Cq]
theorem Wm(h:List T3)(k:Nat)(r:T3)(D:List Value)(U:k≤h.length)(E:D.length=(h.length+1)*3)(L:D.take (k*3)=FC (h.take k)):
  Ih (Ih D ((k+1)*3) (FC (h.drop k))) (k*3) (GM r)=FC (Nh h k r):=by
 have F:=LX h k;rw[Q2];generalize FC (h.drop k)=J at *;have M:Ih D ((k+1)*3) J=D.take ((k+1)*3)++J:=by
  rw[JU _ _ _ (by rw[F,E];omega),DF (by rw[F,E];omega),CN]
 have H:(D.take ((k+1)*3)).length=(k+1)*3:=by rw[AZ,E];omega
 rw[M,JU _ _ _ (by rw[AV,H,F,Hp];omega),←L,Hp];rw[Ck (by rw[H];omega),CV,Cp (by omega)];congr 1;rw[show k*3+3=(D.take ((k+1)*3)).length by rw[H];omega,List.drop_left]
theorem Wn(h:List T3)(k:Nat)(r:T3)(E:List Value)(M:k≤h.length)(F:E.length=(h.length+1)*3)(L:E.take (k*3)=FC (h.take k)):
  Ih (Ih E (k*3) (GM r)) ((k+1)*3) (FC (h.drop k))=FC (Nh h k r):=by
 have H:=LX h k;rw[Q2];generalize FC (h.drop k)=U at *;have D:(Ih E (k*3) (GM r)).length=(h.length+1)*3:=by rw[JF];exact F
 rw[JU _ _ _ (by rw[H,D];omega),DF (by rw[H,D];omega),CN,←L];congr 1;have J:(E.take (k*3)).length=k*3:=by rw[AZ,F];omega
 rw[JU _ _ _ (by rw[F,Hp];omega),Ck (by rw[AV,J,Hp];omega),BY (by rw[AV,J,Hp];omega)]
theorem Yp{W:World}{B n g D:Nat}{H:List Value}(h:W.ownsRow B 75 3 (S (O ⟨g,0,N⟩) n D) n H)(J:n+1≤D):∃L,W.ownsRow B 75 3 (S (O ⟨g,0,N⟩) (n+1) D) (n+1) L∧L.take (n*3)=H:=by
 obtain⟨E,U,Z,V,M,Y⟩:=I4 h;have F:=(h.lt g R).1;refine⟨E.toList.take ((n+1)*3),⟨by rw[AZ,DU,M,Cp];exact Dm _ J,.inr ⟨g,D,E,rfl,F,U,J,V,M,rfl⟩⟩,?_⟩;rw[CV,Cp (by omega),Y]
theorem Vv{E:List Value}{D:List T3}{n k:Nat}(h:E.take (n*3)=FC D)(F:k≤n):E.take (k*3)=FC (D.take k):=by
 rw[←Po,←h,CV,Cp (by omega)]
theorem Ue{W:World}{B n g E:Nat}{D:List T3}(h:W.ownsRow B 75 3 (S (O ⟨g,0,N⟩) n E) n (FC D))(k:Nat)(J:k≤D.length):∀j v,(FC (D.drop k))[j]?=O v→W.cell? ((⟨g,k*3,N⟩:Addr).add j)=O v:=by
 intro j v F;rw[KF];refine F4 h ?_;have e:D=D.take k++D.drop k:=(BS _ D).symm;have H:(FC (D.take k)).length=k*3:=by rw[Ig,AZ];congr 1;omega
 rw[←F]
 conv=>lhs;rw[e,K7]
 rw[BI (by omega),H];congr 1;omega
structure XO(w:World)(vb:Nat)(r:T3):Prop where
 h:w.heap[vb]?=O (Al (GM r).toArray 75 (0,0))
theorem XO.src{w:World}{D:Nat}{r:T3}(h:XO w D r):∀j v,(GM r)[j]?=O v→w.cell? ((⟨D,0,N⟩:Addr).add j)=O v:=by
 intro j v E;rw[KF,AT,EF w D j _ 75 (0,0) h.h];simpa using E
theorem XO.sets{w:World}{D g o:Nat}{r:T3}{vs:List Value}(h:XO w D r)(E:D≠g):XO (w.setCells g o vs) D r:=by
 refine⟨?_⟩;have:∀(vs:List Value) (o:Nat) (W:World),W.heap[D]?=O (Al (GM r).toArray 75 (0,0))→(W.setCells g o vs).heap[D]?=O (Al (GM r).toArray 75 (0,0)):=fun vs=>by
  induction vs with
  |nil=>intro o W h;exact h
  |cons u rr ih=>intro o W h;exact ih (o+1) _ (by rw[Dy W ⟨g,o,N⟩ u D E];exact h)
 exact this vs o w h.h
theorem V7{w:World}{B n g D:Nat}{H:List Value}(h:w.ownsRow B 75 3 (S (O ⟨g,0,N⟩) n D) n H)(M:0<D):∃F,w.shape? g=O (75,F)∧F≠0:=by
 obtain⟨E,J,U,V,L,Y⟩:=I4 h;exact⟨E.size,by simp[World.shape?,J],by rw[L];omega⟩
theorem fY(w:World):(Go.sizeOf 75).run Au w=.ok 3 w:=by kernel_rfl
theorem Ut(B:Nat)(A:Option Addr)(D:Nat)(h:List T3)(r:T3)(vb:Nat)(w:World)(hn:h.length≤1000)(hB:B≤w.heap.size)(ho:w.ownsRow B 75 3 (S A h.length D) h.length (FC h))(hv:XO w vb r):
  Calls Au 138 #[S A h.length D,I K (h.length:Int),S (O ⟨vb,0,N⟩) 1 1] w fun e w'=>∃g' c',e=Ao (S (O ⟨g',0,N⟩) (h.length+1) c')∧w'.ownsRow B 75 3 (S (O ⟨g',0,N⟩) (h.length+1) c') (h.length+1) (FC (h++[r]))∧w.grownBy w' (S A h.length D).ownBlock:=by
 obtain⟨Z,F,H,J,L⟩:=BC Wp;have HE:Hid (FC (h++[r])=FC h++GM r):=by rw[K7];exact An (by unfold FC;simp)
 have hb:h.length≤D:=by
  rcases ho.2 with⟨Y,h0⟩|⟨g,c,ha,Y,_,_,h1,_⟩
  ·omega
  ·simp only[A9,Br]at Y;omega
 have hc:D≤9223372036854775807:=by
  rcases ho.2 with⟨Y,h0⟩|⟨g,c,ha,Y,_,_,_,h1,_⟩
  ·simp only[A9]at Y;omega
  ·simp only[A9,Br]at Y;unfold maxLen at h1;omega
 have q0:(0:Int)≤(h.length:Int):=by omega
 generalize FC h=xs at *;generalize FC (h++[r])=ys at *;generalize h.length=n at *
 cases A with
 | none =>
  go_enter Tryz.func138,Tryz.ntmps138
  go_wp2_with(first
   |(at_builtin;refine FY _ R (Am 23) (Am 24) 22 R B 75 Z _ 3 56 Tryz.underlying22 F H J L R (by decide) _ n xs R ho ⟨vb,0,N⟩ 1 1 (GM r) R R hv.src (LL r) (by unfold maxLen;omega) (by omega) hB (by omega) ?_;intro g E w7 M U V;clear V))
  go_ret;exact⟨g,E,rfl,by rw[AN HE];exact M,U⟩
 | some a =>
  obtain⟨b,o,sp⟩:=a;go_enter Tryz.func138,Tryz.ntmps138
  go_wp2_with(first
   |(at_builtin;refine FY _ R (Am 23) (Am 24) 22 R B 75 Z _ 3 56 Tryz.underlying22 F H J L R (by decide) _ n xs R ho ⟨vb,0,N⟩ 1 1 (GM r) R R hv.src (LL r) (by unfold maxLen;omega) (by omega) hB (by omega) ?_;intro g E w7 M U V;clear V))
  all_goals
   go_ret;exact⟨g,E,rfl,by rw[AN HE];exact M,U⟩
theorem Rz(B g E k:Nat)(D:List T3)(r:T3)(F:Nat)(w:World)(hk:k<D.length)(hc:D.length+1≤E)(hb:F≠g)(ho:w.ownsRow B 75 3 (S (O ⟨g,0,N⟩) D.length E) D.length (FC D))(hv:XO w F r):
  Calls Au 138 #[S (O ⟨g,0,N⟩) D.length E,I K (k:Int),S (O ⟨F,0,N⟩) 1 1] w fun e w'=>∃g' c',e=Ao (S (O ⟨g',0,N⟩) (D.length+1) c')∧w'.ownsRow B 75 3 (S (O ⟨g',0,N⟩) (D.length+1) c') (D.length+1) (FC (Nh D k r))∧w.grownBy w' (O g):=by
 obtain⟨hr,c1,c2,c3,c4,c5⟩:=I4 ho;obtain⟨xs,hL,hd⟩:=Yp ho hc;have Z:(Au.info? 75).map (·.size)=O 3:=aO;have H:xs.length=(D.length+1)*3:=hL.1;obtain⟨kB,he,V⟩:=V7 ho (by omega);have hf:w.shape? F=O (75,3):=by simp[World.shape?,hv.h,GM]
 have hg:w.frozen? ⟨F,0,N⟩=false:=by simp[World.frozen?,hv.h]
 have hh:w.frozen? ⟨F,3,N⟩=false:=by simp[World.frozen?,hv.h]
 have hm:∀lb cb,(callFunc 154 #[S (O ⟨F,0,N⟩) 1 1,S (O ⟨g,(k+1)*3,N⟩) lb cb]).run Au w=.ok (.value (Aj false)) w:=fun lb cb=>by
  rw[Fr Tryz.func154 (by kernel_rfl) (by kernel_rfl) (by kernel_rfl) (e:=Extern.SlicesOverlaps.overlaps #[22,22] #[4]) (by kernel_rfl),
   Fb w 22 4 75 Tryz.underlying22 3 fY ⟨F,0,N⟩ ⟨g,(k+1)*3,N⟩ 1 1 lb cb hb 75 75 3 kB hf he V hg hh]
  rfl
 have L:=LX D k;have J:∀ty dc sc,(Builtin.copy_ #[22,22] ty #[S (O ⟨g,(k+1)*3,N⟩) (D.length+1 - (k+1)) dc,S (O ⟨g,k*3,N⟩) (D.length+1 - k) sc]).run Au w.drew=.ok (goInt ((D.length - k:Nat):Int)) (w.drew.setCells g ((k+1)*3) (FC (D.drop k))):=fun ty dc sc =>
  I9 w.drew 22 22 ty 75 g ((k+1)*3) (D.length+1 - (k+1)) dc ⟨g,k*3,N⟩ (D.length+1 - k) sc (D.length - k) 3 (FC (D.drop k)) Tryz.underlying22 Z (by simp only[Dz];split <;>omega) L (Ue (Hg ho) k (by omega)) (Hl (Hg hL) _ _ (by rw[H,L];omega)) (Nq _)
 have M:=Ib (FC (D.drop k)) ((k+1)*3) _ _ (Hg hL) (by rw[H,L];omega);have ha:(Ih xs ((k+1)*3) (FC (D.drop k))).length=(D.length+1)*3:=by rw[JF];exact H
 obtain⟨W1,U⟩:∃W1,W1=w.drew.setCells g ((k+1)*3) (FC (D.drop k)):=⟨_,rfl⟩;rw[←U]at J M;have hi:XO W1 F r:=by rw[U];exact XO.sets (⟨hv.h⟩:XO w.drew F r) hb
 have Y:∀ty dc,(Builtin.copy_ #[22,22] ty #[S (O ⟨g,k*3,N⟩) (D.length+1 - k) dc,S (O ⟨F,0,N⟩) 1 1]).run Au W1=.ok (goInt 1) (W1.setCells g (k*3) (GM r)):=fun ty dc =>
  I9 W1 22 22 ty 75 g (k*3) (D.length+1 - k) dc ⟨F,0,N⟩ 1 1 1 3 (GM r) Tryz.underlying22 Z (by simp only[Dz];split <;>omega) (by rw[Hp]) hi.src (Hl M _ _ (by rw[ha,Hp];omega)) (LL r)
 have hj:=Ib (GM r) (k*3) _ _ M (by rw[ha,Hp];omega);rw[Wm D k r xs (by omega) H (Vv hd (by omega))]at hj;have hl:w.grownBy W1 (O g):=by rw[U];exact Je (b:=g) (o:=0) _ _ _ ⟨rfl,rfl,rfl,AC _,fun _ _ _=>rfl⟩
 have hn:w.grownBy (W1.setCells g (k*3) (GM r)) (O g):=Je (b:=g) (o:=0) _ _ _ hl;have hp:=An J;have hq:=An Y;unfold maxLen at c3;clear hl M ha hi U hL hd H ho hv hf hg hh he V c1 c4 c5 L J Y Z;generalize FC (Nh D k r)=ys at *;generalize FC (D.drop k)=mv at *;generalize D.length=n at *;have q0:(0:Int)≤(k:Int):=by omega
 have q1:(k:Int)≤(n:Int):=by omega
 have q2:¬ ((k:Int)=(n:Int)):=by omega
 have q3:¬ ((E:Int)<(n:Int)+1):=by omega
 have q4:(n:Int)+1≤(E:Int):=by omega
 have q5:(0:Int)≤(k:Int)+1:=by omega
 have q6:(k:Int)+1≤(n:Int)+1:=by omega
 have q7:(k:Int)≤(n:Int)+1:=by omega
 have q8:((k:Int)+1).toNat=k+1:=by omega
 have q9:¬ E=k+1:=by omega
 have hs:¬ E=k:=by omega
 have ht:((n:Int)+1).toNat=n+1:=by omega
 have hu:IntKind.i64.wrap ((k:Int)+1)=(k:Int)+1:=by rw[CS];omega
 go_enter Tryz.func138,Tryz.ntmps138
 go_wp2_with(simp only[hm])
 go_region_law (refine KE R (Am 73) (Am 76) 22 22 R _ _ (by simp[Aq,Act.put];rfl) (by simp[Aq,Act.put];rfl) (AN hp _ _ _) ?_)
 have hw:=AN hq 3 (E - k);go_wp2_with fail
 go_ret;exact⟨g,E,rfl,hj,hn⟩
theorem TR(B g E k:Nat)(D:List T3)(r:T3)(vb:Nat)(w:World)(hn:D.length≤1000)(hk:k<D.length)(hc:E<D.length+1)(hB:B≤w.heap.size)(ho:w.ownsRow B 75 3 (S (O ⟨g,0,N⟩) D.length E) D.length (FC D))(hv:XO w vb r):
  Calls Au 138 #[S (O ⟨g,0,N⟩) D.length E,I K (k:Int),S (O ⟨vb,0,N⟩) 1 1] w fun e w'=>∃g' c',e=Ao (S (O ⟨g',0,N⟩) (D.length+1) c')∧w'.ownsRow B 75 3 (S (O ⟨g',0,N⟩) (D.length+1) c') (D.length+1) (FC (Nh D k r))∧w.grownBy w' (O g):=by
 obtain⟨hr,he,hf,J,L⟩:=BC Wp;obtain⟨hM,c1,c2,c3,c4,c5⟩:=I4 ho;have hN:=(ho.lt g R).2;have hi:(Au.info? 75).map (·.size)=O 3:=aO;have hs:k+(D.length+1 - k)=D.length+1:=by omega
 have hg:(Builtin.firstCells hr.size k (S (O ⟨g,0,N⟩) k E)).run Au w.drew=.ok (FC (D.take k)).toArray w.drew:=by
  rw[J];refine Fq w.drew 3 k ⟨g,0,N⟩ k E (FC (D.take k)) (by rw[Ig,AZ];congr 1;omega) (fun j u hj=>?_);rw[KF,AT];refine F4 (Hg ho) ?_;rw[←Po,CR]at hj;split at hj
  ·exact hj
  ·cases hj
 obtain⟨C,hC⟩:∃C,C=grownCap w (D.length+1) E 75:=⟨_,rfl⟩;have ht:D.length+1≤C:=by rw[hC];exact Fk w _ _ _
 have hu:C≤maxLen:=by rw[hC];exact Et w _ _ _ (by unfold maxLen;omega)
 have hw:∀M,(Builtin.append_ #[22,3] M #[S (O ⟨g,0,N⟩) k E,I K ((D.length+1 - k:Nat):Int)]).run Au w =
   .ok (S (O ⟨w.heap.size,0,N⟩) (D.length+1) C) (w.drew.alloc (Al ((FC (D.take k)).toArray++Builtin.zeroCells (Af #[I K 0,S N 0 0,S N 0 0]).cells (D.length+1 - k)++Builtin.zeroCells (Af #[I K 0,S N 0 0,S N 0 0]).cells (C - (D.length+1))) 75)):=fun M=>by
  have h:=EX w 22 3 M 75 hr _ K K Tryz.underlying22 Tryz.underlying3 he hf (O ⟨g,0,N⟩) k E (FC (D.take k)) hg (D.length+1 - k) (by omega) (by rw[J];decide) (by omega) (by omega) (by rw[L];omega) (by rw[L,hs];exact growslice_fits (by omega) (by omega));rw[hs,←hC]at h;exact h
 obtain⟨W1,H⟩:∃W1,W1=w.drew.alloc (Al ((FC (D.take k)).toArray++Builtin.zeroCells (Af #[I K 0,S N 0 0,S N 0 0]).cells (D.length+1 - k)++Builtin.zeroCells (Af #[I K 0,S N 0 0,S N 0 0]).cells (C - (D.length+1))) 75):=⟨_,rfl⟩;rw[←H]at hw;have hl:(FC (D.take k)).length=k*3:=by rw[Ig,AZ];congr 1;omega
 obtain⟨xs,ha,hx⟩:∃xs,W1.ownsRow B 75 3 (S (O ⟨w.heap.size,0,N⟩) (D.length+1) C) (D.length+1) xs∧xs.take (k*3)=FC (D.take k):=by
  have hh:∀m,(Builtin.zeroCells (Af #[I K 0,S N 0 0,S N 0 0]).cells m).size=m*3:=fun m=>EN _ m;rw[H];have U:((FC (D.take k)).toArray++Builtin.zeroCells (Af #[I K 0,S N 0 0,S N 0 0]).cells (D.length+1 - k)++Builtin.zeroCells (Af #[I K 0,S N 0 0,S N 0 0]).cells (C - (D.length+1))).size=C*3:=by
   rw[Di,Di,hh,hh,Ex,hl];omega
  refine⟨_,⟨?_,.inr ⟨w.heap.size,C,_,rfl,hB,heap_alloc_new w.drew _,ht,hu,U,rfl⟩⟩,?_⟩
  ·rw[AZ,show ∀a:Array Value,a.toList.length=a.size from fun _=>DU,U];omega
  ·rw[CV,Cp (by omega),DT,DT,BJ]
   conv=>lhs;rw[←hl]
   exact EQ
 have V:xs.length=(D.length+1)*3:=ha.1;have hy:W1.ownsRow B 75 3 (S (O ⟨g,0,N⟩) D.length E) D.length (FC D):=by rw[H];exact(Hg ho).alloc _
 have hz:w.grownBy W1 (O g):=by rw[H];exact⟨rfl,rfl,rfl,by simp,fun k hk _=>Ea w.drew _ k hk⟩
 have hH:vb<w.heap.size:=lt_of_block hv.h;have hA:XO W1 vb r:=⟨by rw[H];exact(Ea w.drew _ vb hH).trans hv.h⟩;have Y:∀M dc,(Builtin.copy_ #[22,22] M #[S (O ⟨w.heap.size,k*3,N⟩) (D.length+1 - k) dc,S (O ⟨vb,0,N⟩) 1 1]).run Au W1=.ok (goInt 1) (W1.setCells w.heap.size (k*3) (GM r)):=fun M dc =>
  I9 W1 22 22 M 75 w.heap.size (k*3) (D.length+1 - k) dc ⟨vb,0,N⟩ 1 1 1 3 (GM r) Tryz.underlying22 hi (by simp only[Dz];split <;>omega) (by rw[Hp]) hA.src (Hl ha _ _ (by rw[V,Hp];omega)) (LL r)
 have hb:=Ib (GM r) (k*3) _ _ ha (by rw[V,Hp];omega);have hm:=JW (b:=w.heap.size) (by simp[Ax];omega) (GM r) (k*3) _ hy;have F:=Lx (G:=w.heap.size) Fu (GM r) (k*3) _ hz;obtain⟨W2,hD⟩:∃W2,W2=W1.setCells w.heap.size (k*3) (GM r):=⟨_,rfl⟩;rw[←hD]at Y hb hm F;have hp:(Ih xs (k*3) (GM r)).length=(D.length+1)*3:=by rw[JF];exact V
 have hd:=LX D k;have Z:∀M dc sc,(Builtin.copy_ #[22,22] M #[S (O ⟨w.heap.size,(k+1)*3,N⟩) (D.length+1 - (k+1)) dc,S (O ⟨g,k*3,N⟩) (D.length - k) sc]).run Au W2.drew=.ok (goInt ((D.length - k:Nat):Int)) (W2.drew.setCells w.heap.size ((k+1)*3) (FC (D.drop k))):=fun M dc sc =>
  I9 W2.drew 22 22 M 75 w.heap.size ((k+1)*3) (D.length+1 - (k+1)) dc ⟨g,k*3,N⟩ (D.length - k) sc (D.length - k) 3 (FC (D.drop k)) Tryz.underlying22 hi (by simp only[Dz];split <;>omega) hd (Ue (Hg hm) k (by omega)) (Hl (Hg hb) _ _ (by rw[hp,hd];omega)) (Nq _)
 have hq:=Ib (FC (D.drop k)) ((k+1)*3) _ _ (Hg hb) (by rw[hp,hd];omega);rw[Wn D k r xs (by omega) V hx]at hq;have hE:w.grownBy (W2.drew.setCells w.heap.size ((k+1)*3) (FC (D.drop k))) (O g):=Lx Fu _ _ _ ⟨F.os,F.tape,F.output,F.size,F.block⟩;obtain⟨W3,hF⟩:∃W3,W3=W2.drew.setCells w.heap.size ((k+1)*3) (FC (D.drop k)):=⟨_,rfl⟩;rw[←hF]at Z hq hE;have hI:=An Y;have hJ:=An Z;unfold maxLen at c3 hu;clear Y Z H hD hF ha hb hy hm hz F hA hx V hp hd hg hC hl ho hv c1 c4 c5 hi he hf J L;generalize FC (Nh D k r)=ys at *;generalize D.length=n at *;have q0:(0:Int)≤(k:Int):=by omega
 have q1:(k:Int)≤(n:Int):=by omega
 have q2:¬ ((k:Int)=(n:Int)):=by omega
 have q3:(E:Int)<(n:Int)+1:=by omega
 have q5:(0:Int)≤(k:Int)+1:=by omega
 have q6:(k:Int)+1≤(n:Int)+1:=by omega
 have q7:(k:Int)≤(n:Int)+1:=by omega
 have q8:((k:Int)+1).toNat=k+1:=by omega
 have q9:¬ C=k+1:=by omega
 have hO:¬ C=k:=by omega
 have hL:¬ E=k:=by omega
 have hP:IntKind.i64.wrap ((k:Int)+1)=(k:Int)+1:=by rw[CS];omega
 have hQ:(k:Int)≤(E:Int):=by omega
 have hK:(n:Int)+1 - (k:Int)=((n+1 - k:Nat):Int):=by omega
 have hR:k≤n:=by omega
 have hS:=AN hI 3 (C - k);go_enter Tryz.func138,Tryz.ntmps138
 go_wp2_with(first
  |(at_builtin;refine LK _ R (Am 34) (Am 39) 22 3 R (S (O ⟨g,0,N⟩) k E) (I K ((n+1 - k:Nat):Int)) R (by first|rfl|simp[Aq,hK]) (hw _) ?_;intro hT hG;obtain rfl:=hG))
 go_region_law (refine KE R (Am 50) (Am 53) 22 22 R _ _ (by simp[Aq,Act.put];rfl) (by simp[Aq,Act.put];rfl) (AN hJ _ _ _) ?_)
 go_wp2_with fail
 go_ret;exact⟨w.heap.size,C,rfl,hq,hE⟩
theorem Uu(B:Nat)(A:Option Addr)(E k:Nat)(D:List T3)(r:T3)(F:Nat)(w:World)(M:D.length≤1000)(hk:k≤D.length)(U:B≤w.heap.size)(J:∀ c o,A=O ⟨c,o,N⟩→F≠c)(H:w.ownsRow B 75 3 (S A D.length E) D.length (FC D))(L:XO w F r):
  Calls Au 138 #[S A D.length E,I K (k:Int),S (O ⟨F,0,N⟩) 1 1] w fun e V=>∃Y Z,e=Ao (S (O ⟨Y,0,N⟩) (D.length+1) Z)∧V.ownsRow B 75 3 (S (O ⟨Y,0,N⟩) (D.length+1) Z) (D.length+1) (FC (Nh D k r))∧w.grownBy V (S A D.length E).ownBlock:=by
 by_cases h:k=D.length
 ·subst h;rw[bu];exact Ut B A E D r F w M U H L
 ·obtain⟨g,c,hA,_⟩:=Gi H (by omega);simp only[A9,Br]at hA;obtain⟨rfl,rfl⟩:=hA;by_cases hc:D.length+1≤E
  ·exact Rz B g E k D r F w (by omega) hc (J g 0 R) H L
  ·exact TR B g E k D r F w M (by omega) (by omega) U H L
end Go.Proofs.YtnbleebilmghcabGreat
namespace Go.Proofs.YtnbleebilmghcabGreat
open Go Go.RowKit
set_option maxRecDepth 100000
def P9(u v:Value):Prop:=u.ownBlock=N∨u.ownBlock≠v.ownBlock
theorem P9.symm{u v:Value}(h:P9 u v):P9 v u:=by
 rcases h with h|h
 ·cases D:v.ownBlock with
  |none=>exact .inl D
  |some g=>exact .inr (by rw[h,D];simp)
 ·exact .inr fun e=>h e.symm
theorem P9.nil(v:Value):P9 (S N 0 0) v:=.inl R
theorem P9.moved{W:World}{base:Nat}{e:TypeId}{D n:Nat}{u v F:Value}{H:List Value}(h:P9 u v)(J:W.ownsRow base e D u n H)(E:F.ownBlock=v.ownBlock∨F.ownBlock=O W.heap.size):P9 u F:=by
 rcases E with E|E
 ·rcases h with h|h
  ·exact .inl h
  ·exact .inr (by rw[E];exact h)
 ·refine .inr fun e=>?_;rw[E]at e;have:=(J.lt _ e).2;omega
def F3(h:Int):Nat:=(FR h 8).length
structure KC where
 A:Int→Option Addr×Nat
 C:Int→Option Addr×Nat
 K:Int→Nat→Value
structure JQ where
 hs:List Int
 B:Int→List (Int×Int)
 L:Int→Nat→List Int
def aV(m:KC)(d:JQ)(h:Int):Value:=S (m.A h).1 (d.B h).length (m.A h).2
def cV(m:KC)(h:Int):Value:=S (m.C h).1 (F3 h) (m.C h).2
def tt(m:KC)(d:JQ)(h:Int):T3:=⟨h,(m.A h).1,(d.B h).length,(m.A h).2,(m.C h).1,F3 h,(m.C h).2⟩
structure IU(base bx:Nat)(T G:Value)(gens:List Int)(m:KC)(d:JQ)(W:World):Prop where
 box:W.heap[bx]?=O (Al #[T,G] 125 (0,0))
 lo:base≤bx
 ownT:W.ownsRow base 75 3 T d.hs.length (FC (d.hs.map (tt m d)))
 ownG:W.ownsRow base 3 1 G gens.length (FD gens)
 ownA:∀h,W.ownsRow base 61 2 (aV m d h) (d.B h).length (Fz (d.B h))
 ownC:∀h,h∈d.hs→W.ownsRow base 23 1 (cV m h) (F3 h) ((List.range (F3 h)).map (m.K h))
 ownK:∀h k,W.ownsRow base 3 1 (m.K h k) (d.L h k).length (FD (d.L h k))
 sepA:∀h h',h≠h'→P9 (aV m d h) (aV m d h')
 sepC:∀h h',h∈d.hs→h'∈d.hs→h≠h'→P9 (cV m h) (cV m h')
 sepK:∀h k h' k',(h≠h'∨k≠k')→P9 (m.K h k) (m.K h' k')
 sepG:∀h k,P9 G (m.K h k)
 out:∀h,h ∉ d.hs→m.A h=(N,0)∧d.B h=[]∧∀k,m.K h k=S N 0 0
section
variable {base bx:Nat} {T G:Value} {gens:List Int} {m:KC} {d:JQ} {W W1:World}
theorem IU.lt(h:IU base bx T G gens m d W):bx<W.heap.size:=(Bk.1 h.box).1
theorem IU.sz(h:IU base bx T G gens m d W):base≤W.heap.size:=AU h.lo (DD h.lt)
theorem IU.below(h:IU base bx T G gens m d W)(D:Below W.heap.size W W1):IU base bx T G gens m d W1 :=
 ⟨(D.block bx h.lt).trans h.box,h.lo,FT h.ownT D,FT h.ownG D,fun x=>FT (h.ownA x) D,fun x E=>FT (h.ownC x E) D,fun x k=>FT (h.ownK x k) D,h.sepA,h.sepC,h.sepK,h.sepG,h.out⟩
theorem IU.cells(h:IU base bx T G gens m d W):W.cell? ⟨bx,0,N⟩=O T∧W.cell? ⟨bx,1,N⟩=O G:=by
 refine⟨?_,?_⟩<;>simp[World.cell?,h.box]
theorem IU.free(h:IU base bx T G gens m d W)(i:Nat):W.frozen? ⟨bx,i,N⟩=false:=by simp[World.frozen?,h.box]
theorem IU.boxT(h:IU base bx T G gens m d W):T.ownBlock≠O bx:=Ht h.ownT ⟨_,h.box⟩ (by decide)
end
theorem JC(w:World)(g j:Nat)(u:Value):w.grownBy (w.setCell ⟨g,j,N⟩ u) (O g):=⟨rfl,rfl,rfl,by simp,fun k _ h=>Cm w ⟨g,j,N⟩ k u (fun e=>h (by simp[e]))⟩
theorem Rb:∀(l:List T3) (i:Nat) (D:i<l.length) (a:Option Addr) (n c:Nat),(FC l).set (i*3+1) (S a n c)=FC (l.set i ⟨l[i].h,a,n,c,l[i].C,l[i].m,l[i].d⟩)
 |[],i,D,_,_,_=>by simp at D
 |x :: r,0,_,a,n,c=>by simp[FC,GM]
 |x :: r,i+1,D,a,n,c=>by
  have E:=Rb r i (by simpa using D) a n c;show(I K x.h :: S x.a x.n x.c :: S x.C x.m x.d :: FC r).set ((i+1)*3+1) _=I K x.h :: S x.a x.n x.c :: S x.C x.m x.d :: FC (r.set i _);rw[show(i+1)*3+1=i*3+1+1+1+1 by omega];simp only[Ev,E];rfl
theorem KA:∀(l:List T3) (j:Nat) (E:j<l.length),(FC l)[j*3]?=O (I K l[j].h)∧(FC l)[j*3+1]?=O (S l[j].a l[j].n l[j].c)∧(FC l)[j*3+2]?=O (S l[j].C l[j].m l[j].d)
 |[],j,h=>by simp at h
 |x :: r,0,_=>by simp[FC,GM]
 |x :: r,j+1,h=>by
  have D:=KA r j (by simpa using h);have e:FC (x :: r)=I K x.h :: S x.a x.n x.c :: S x.C x.m x.d :: FC r:=rfl;rw[e,show(j+1)*3=j*3+1+1+1 by omega,show j*3+1+1+1+1=(j*3+1)+1+1+1 by omega,show j*3+1+1+1+2=(j*3+2)+1+1+1 by omega];simpa only[AH,C0]using D
theorem Pk(f F:Int→T3):∀(D:List Int) (i:Nat) (H:i<D.length),D.Nodup→(∀h,h≠D[i]→F h=f h)→D.map F=(D.map f).set i (F D[i])
 |[],i,H,_,_=>by simp at H
 |x :: r,0,_,hn,h=>by
  rw[List.nodup_cons]at hn;simp only[BZ,Eu,Cb,B6,Br];refine CC fun y J=>h y ?_;intro e;rw[e]at J;exact hn.1 J
 |x :: r,i+1,H,hn,h=>by
  rw[List.nodup_cons]at hn;have E:i<r.length:=by simpa using H
  simp only[BZ,Ev,C0,B6];refine⟨h x ?_,Pk f F r i E hn.2 (by simpa using h)⟩;intro e;simp only[C0]at e;exact hn.1 (e▸Bm E)
def IL{α:Type}(f:Int→α)(x:Int)(v:α)(h:Int):α:=if h=x then v else f h
theorem fQ{α:Type}(f:Int→α)(x:Int)(v:α):IL f x v x=v:=AF R
theorem Sv{α:Type}(f:Int→α){x h:Int}(v:α)(e:h≠x):IL f x v h=f h:=AA e
def MD{α:Type}(f:Int→Nat→α)(x:Int)(k:Nat)(v:α)(h:Int)(j:Nat):α:=if h=x∧j=k then v else f h j
theorem MC{α:Type}(f:Int→Nat→α)(x:Int)(k:Nat)(v:α):MD f x k v x k=v:=AF ⟨rfl,rfl⟩
theorem KD{α:Type}(f:Int→Nat→α){x h:Int}{k j:Nat}(v:α)(e:h≠x∨j≠k):MD f x k v h j=f h j:=AA (by rintro⟨rfl,rfl⟩;simp at e)
section
variable {base bx:Nat} {T G:Value} {gens:List Int} {m:KC} {d:JQ} {W W2:World}
theorem IU.being(h:IU base bx T G gens m d W)(hn:d.hs.Nodup){i:Nat}(hi:i<d.hs.length){x:Int}(hx:d.hs[i]=x){M ct:Nat}(hT:T=S (O ⟨M,0,N⟩) d.hs.length ct){g D:Nat}(b:Int×Int)
  (U:W.grownBy W2 (aV m d x).ownBlock) (ho:W2.ownsRow base 61 2 (S (O ⟨g,0,N⟩) ((d.B x).length+1) D) ((d.B x).length+1) (Fz (d.B x)++[I .i64 b.1,I .i64 b.2])) (Y:O g=(aV m d x).ownBlock∨g=W.heap.size):
  IU base bx T G gens ⟨IL m.A x (O ⟨g,0,N⟩,D),m.C,m.K⟩ ⟨d.hs,IL d.B x (d.B x++[b]),d.L⟩ (W2.setCell ⟨M,i*3+1,N⟩ (S (O ⟨g,0,N⟩) ((d.B x).length+1) D)):=by
 have hs:=JC W2 M (i*3+1) (S (O ⟨g,0,N⟩) ((d.B x).length+1) D);have Z:T.ownBlock=O M:=by rw[hT];rfl
 have H:=h.ownT.kept U (F1 h.ownT (h.ownA x) (by decide));have tA:∀y,(aV ⟨IL m.A x (O ⟨g,0,N⟩,D),m.C,m.K⟩ ⟨d.hs,IL d.B x (d.B x++[b]),d.L⟩ y)=if y=x then S (O ⟨g,0,N⟩) ((d.B x).length+1) D else aV m d y:=fun y=>by
  unfold aV;by_cases e:y=x
  ·subst e;simp[IL]
  ·simp[IL,e]
 have ha:(S (O ⟨g,0,N⟩) ((d.B x).length+1) D).ownBlock=(aV m d x).ownBlock∨(S (O ⟨g,0,N⟩) ((d.B x).length+1) D).ownBlock=O W.heap.size:=by
  rcases Y with Y|Y
  ·exact .inl Y
  ·exact .inr (by rw[Y];rfl)
 have E:∀ {e:TypeId} {size n:Nat} {v:Value} {xs:List Value},e≠75→W2.ownsRow base e size v n xs→(W2.setCell ⟨M,i*3+1,N⟩ (S (O ⟨g,0,N⟩) ((d.B x).length+1) D)).ownsRow base e size v n xs:=fun he hb=>hb.kept hs (by
  have:=F1 hb H he;rw[Z]at this;exact this)
 refine⟨?_,h.lo,?_,E (by decide) (h.ownG.kept U (F1 h.ownG (h.ownA x) (by decide))),fun y=>?_,fun y F=>E (by decide) ((h.ownC y F).kept U (F1 (h.ownC y F) (h.ownA x) (by decide))),fun y k=>E (by decide) ((h.ownK y k).kept U (F1 (h.ownK y k) (h.ownA x) (by decide))),fun y y' J=>?_,h.sepC,h.sepK,h.sepG,fun y F=>?_⟩
 ·have hd:W2.heap[bx]?=W.heap[bx]?:=U.block bx h.lt (fun e=>Ht (h.ownA x) ⟨_,h.box⟩ (by decide) e.symm);rw[Cm W2 ⟨M,i*3+1,N⟩ bx _ (fun e=>h.boxT (by rw[Z];exact B8 O (by simpa using e.symm))),hd];exact h.box
 ·have e1:d.hs.map (tt ⟨IL m.A x (O ⟨g,0,N⟩,D),m.C,m.K⟩ ⟨d.hs,IL d.B x (d.B x++[b]),d.L⟩)=(d.hs.map (tt m d)).set i ⟨x,O ⟨g,0,N⟩,(d.B x).length+1,D,(m.C x).1,F3 x,(m.C x).2⟩:=by
   rw[Pk (tt m d) _ d.hs i hi hn (fun y F=>by rw[hx]at F;simp[tt,IL,F]),hx];simp[tt,IL]
  have e2:=Rb (d.hs.map (tt m d)) i (by simpa using hi) (O ⟨g,0,N⟩) ((d.B x).length+1) D;simp only[BO,hx]at e2;show World.ownsRow _ _ _ _ _ _ (FC (d.hs.map _));rw[e1];have e3:(FC (d.hs.map (tt m d))).set (i*3+1) (S (O ⟨g,0,N⟩) ((d.B x).length+1) D)=FC ((d.hs.map (tt m d)).set i ⟨x,O ⟨g,0,N⟩,(d.B x).length+1,D,(m.C x).1,F3 x,(m.C x).2⟩):=e2;rw[←e3];rw[hT]at H⊢;exact(H.stored (i*3+1) _).1
 ·rw[tA y];by_cases e:y=x
  ·subst e;show World.ownsRow _ _ _ _ _ (IL d.B y (d.B y++[b]) y).length (Fz (IL d.B y (d.B y++[b]) y));rw[AF R,fQ,AV,Bp,Re];exact E (by decide) ho
  ·show World.ownsRow _ _ _ _ _ (IL d.B x (d.B x++[b]) y).length (Fz (IL d.B x (d.B x++[b]) y));rw[AA e,Sv _ _ e];exact E (by decide) ((h.ownA y).kept U (h.sepA y x e))
 ·rw[tA y,tA y'];by_cases e:y=x
  ·rw[AF e,AA (fun V=>J (e.trans V.symm))];exact((h.sepA y' x (fun V=>J (e.trans V.symm))).moved (h.ownA y') ha).symm
  ·rw[AA e];by_cases V:y'=x
   ·rw[AF V];exact(h.sepA y x e).moved (h.ownA y) ha
   ·rw[AA V];exact h.sepA y y' J
 ·have hc:y≠x:=fun e=>F (by rw[e,←hx];exact Bm hi);obtain⟨a1,a2,a3⟩:=h.out y F;exact⟨(Sv _ _ hc).trans a1,(Sv _ _ hc).trans a2,a3⟩
theorem IU.col(h:IU base bx T G gens m d W){x:Int}(hx:x∈d.hs){k:Nat}(hk:k<F3 x){gc cc:Nat}(hC:cV m x=S (O ⟨gc,0,N⟩) (F3 x) cc){g D:Nat}(z:Int)
  (V:W.grownBy W2 (m.K x k).ownBlock) (ho:W2.ownsRow base 3 1 (S (O ⟨g,0,N⟩) ((d.L x k).length+1) D) ((d.L x k).length+1) (FD (d.L x k)++[I .i64 z])) (hm:O g=(m.K x k).ownBlock∨g=W.heap.size):
  IU base bx T G gens ⟨m.A,m.C,MD m.K x k (S (O ⟨g,0,N⟩) ((d.L x k).length+1) D)⟩ ⟨d.hs,d.B,MD d.L x k (d.L x k++[z])⟩ (W2.setCell ⟨gc,k,N⟩ (S (O ⟨g,0,N⟩) ((d.L x k).length+1) D)):=by
 have hs:=JC W2 gc k (S (O ⟨g,0,N⟩) ((d.L x k).length+1) D);have Y:(cV m x).ownBlock=O gc:=by rw[hC];rfl
 have Z:=(h.ownC x hx).kept V (F1 (h.ownC x hx) (h.ownK x k) (by decide));have ha:(S (O ⟨g,0,N⟩) ((d.L x k).length+1) D).ownBlock=(m.K x k).ownBlock∨(S (O ⟨g,0,N⟩) ((d.L x k).length+1) D).ownBlock=O W.heap.size:=by
  rcases hm with hm|hm
  ·exact .inl hm
  ·exact .inr (by rw[hm];rfl)
 have E:∀ {e:TypeId} {size n:Nat} {v:Value} {xs:List Value},e≠23→W2.ownsRow base e size v n xs→(W2.setCell ⟨gc,k,N⟩ (S (O ⟨g,0,N⟩) ((d.L x k).length+1) D)).ownsRow base e size v n xs:=fun he hc=>hc.kept hs (by
  have:=F1 hc Z he;rw[Y]at this;exact this)
 refine⟨?_,h.lo,E (by decide) (h.ownT.kept V (F1 h.ownT (h.ownK x k) (by decide))),E (by decide) (h.ownG.kept V (h.sepG x k)),fun y=>E (by decide) ((h.ownA y).kept V (F1 (h.ownA y) (h.ownK x k) (by decide))),fun y hy=>?_,fun y j=>?_,h.sepA,h.sepC,fun y j H M hb=>?_,fun y j=>?_,fun y hy=>?_⟩
 ·have hd:W2.heap[bx]?=W.heap[bx]?:=V.block bx h.lt (fun e=>Ht (h.ownK x k) ⟨_,h.box⟩ (by decide) e.symm);rw[Cm W2 ⟨gc,k,N⟩ bx _ (fun e=>Ht (h.ownC x hx) ⟨_,h.box⟩ (by decide) (by rw[Y];exact B8 O (by simpa using e.symm))),hd];exact h.box
 ·by_cases e:y=x
  ·subst e;have F:(List.range (F3 y)).map (MD m.K y k (S (O ⟨g,0,N⟩) ((d.L y k).length+1) D) y)=((List.range (F3 y)).map (m.K y)).set k (S (O ⟨g,0,N⟩) ((d.L y k).length+1) D):=by
    refine Ca (by simp) fun j h1 h2=>?_;rw[Dr];simp only[BO,CQ];by_cases ej:k=j
    ·subst ej;rw[AF R,MC]
    ·rw[AA ej,KD _ _ (.inr (BW ej))]
   show World.ownsRow _ _ _ _ (cV m y) _ ((List.range (F3 y)).map (MD m.K y k (S (O ⟨g,0,N⟩) ((d.L y k).length+1) D) y));rw[F];rw[hC]at Z⊢;exact(Z.stored k _).1
  ·have F:(List.range (F3 y)).map (MD m.K x k (S (O ⟨g,0,N⟩) ((d.L x k).length+1) D) y)=(List.range (F3 y)).map (m.K y):=CC fun j _=>KD _ _ (.inl e);show World.ownsRow _ _ _ _ (cV m y) _ ((List.range (F3 y)).map (MD m.K x k (S (O ⟨g,0,N⟩) ((d.L x k).length+1) D) y));rw[F];refine((h.ownC y hy).kept V (F1 (h.ownC y hy) (h.ownK x k) (by decide))).kept hs ?_;have:=h.sepC y x hy hx e;unfold P9 at this;rw[Y]at this;exact this
 ·show World.ownsRow _ _ _ _ (MD m.K x k _ y j) (MD d.L x k (d.L x k++[z]) y j).length (FD (MD d.L x k (d.L x k++[z]) y j));by_cases e:y=x∧j=k
  ·obtain⟨rfl,rfl⟩:=e;rw[MC,MC,AV,Bp];have:FD (d.L y j++[z])=FD (d.L y j)++[I .i64 z]:=(by simp[FD]);rw[this];exact E (by decide) ho
  ·have e':y≠x∨j≠k:=by
    by_cases F:y=x
    ·exact .inr fun J=>e ⟨F,J⟩
    ·exact .inl F
   rw[KD _ _ e',KD _ _ e'];exact E (by decide) ((h.ownK y j).kept V (h.sepK y j x k e'))
 ·show P9 (MD m.K x k _ y j) (MD m.K x k _ H M);by_cases e:y=x∧j=k
  ·obtain⟨rfl,rfl⟩:=e;have U:H≠y∨M≠j:=by
    rcases hb with h|h
    ·exact .inl h.symm
    ·exact .inr h.symm
   rw[MC,KD _ _ U];exact((h.sepK H M y j U).moved (h.ownK H M) ha).symm
  ·have F:y≠x∨j≠k:=by
    by_cases F:y=x
    ·exact .inr fun J=>e ⟨F,J⟩
    ·exact .inl F
   rw[KD _ _ F];by_cases e':H=x∧M=k
   ·obtain⟨rfl,rfl⟩:=e';rw[MC];exact(h.sepK y j H M hb).moved (h.ownK y j) ha
   ·have J:H≠x∨M≠k:=by
     by_cases F:H=x
     ·exact .inr fun J=>e' ⟨F,J⟩
     ·exact .inl F
    rw[KD _ _ J];exact h.sepK y j H M hb
 ·show P9 G (MD m.K x k _ y j);by_cases e:y=x∧j=k
  ·obtain⟨rfl,rfl⟩:=e;rw[MC];exact(h.sepG y j).moved h.ownG ha
  ·rw[KD _ _ (by
    by_cases F:y=x
    ·exact .inr fun J=>e ⟨F,J⟩
    ·exact .inl F)]
   exact h.sepG y j
 ·obtain⟨a1,a2,a3⟩:=h.out y hy;exact⟨a1,a2,fun j=>(KD _ _ (.inl (fun e=>hy (by subst e;exact hx)))).trans (a3 j)⟩
theorem IU.lay(h:IU base bx T G gens m d W){x:Int}(hx:x ∉ d.hs){i:Nat}(hi:i≤d.hs.length){M Y:Nat}(hC:W.ownsRow base 23 1 (S (O ⟨M,0,N⟩) (F3 x) Y) (F3 x) (List.replicate (F3 x) (S N 0 0)))(hc:∀ y∈d.hs,(cV m y).ownBlock≠O M)
  {T':Value} (hg:W.grownBy W2 T.ownBlock) (hT:W2.ownsRow base 75 3 T' (d.hs.length+1) (FC (Nh (d.hs.map (tt m d)) i ⟨x,N,0,0,O ⟨M,0,N⟩,F3 x,Y⟩))):
  IU base bx T' G gens ⟨m.A,IL m.C x (O ⟨M,0,N⟩,Y),m.K⟩ ⟨d.hs.take i++x :: d.hs.drop i,d.B,d.L⟩ (W2.setCell ⟨bx,0,N⟩ T'):=by
 have hs:=JC W2 bx 0 T';obtain⟨o1,o2,o3⟩:=h.out x hx;have hd:W2.heap[bx]?=O (Al #[T,G] 125 (0,0)):=(hg.block bx h.lt (fun e=>h.boxT e.symm)).trans h.box;have D:∀ {e:TypeId} {size n:Nat} {v:Value} {xs:List Value},e≠125→W2.ownsRow base e size v n xs→(W2.setCell ⟨bx,0,N⟩ T').ownsRow base e size v n xs:=fun he hf=>hf.kept hs (.inr (Ht hf ⟨_,hd⟩ (BW he)));have E:∀y,y∈d.hs.take i++x :: d.hs.drop i↔y=x∨y∈d.hs:=fun y=>by
  have e:y∈d.hs↔y∈d.hs.take i∨y∈d.hs.drop i:=by
   conv=>lhs;rw[←BS i d.hs]
   rw[BV]
  rw[BV,Bu,e];constructor
  ·rintro(h|h|h)
   ·exact .inr (.inl h)
   ·exact .inl h
   ·exact .inr (.inr h)
  ·rintro(h|h|h)
   ·exact .inr (.inl h)
   ·exact .inl h
   ·exact .inr (.inr h)
 have U:∀y,y≠x→cV ⟨m.A,IL m.C x (O ⟨M,0,N⟩,Y),m.K⟩ y=cV m y:=fun y F=>by simp[cV,IL,F]
 have ha:cV ⟨m.A,IL m.C x (O ⟨M,0,N⟩,Y),m.K⟩ x=S (O ⟨M,0,N⟩) (F3 x) Y:=by simp[cV,IL]
 have H:∀y,y∈d.hs→y≠x:=fun y F e=>hx (e▸F);refine⟨?_,h.lo,?_,D (by decide) (h.ownG.kept hg (F1 h.ownG h.ownT (by decide))),fun y=>D (by decide) ((h.ownA y).kept hg (F1 (h.ownA y) h.ownT (by decide))),fun y F=>?_,fun y k=>D (by decide) ((h.ownK y k).kept hg (F1 (h.ownK y k) h.ownT (by decide))),h.sepA,fun y Z F V hh=>?_,h.sepK,h.sepG,fun y F=>?_⟩
 ·have:=D1 W2 bx 0 #[T,G] 125 T' hd;simpa using this
 ·have e1:(d.hs.take i++x :: d.hs.drop i).map (tt ⟨m.A,IL m.C x (O ⟨M,0,N⟩,Y),m.K⟩ ⟨d.hs.take i++x :: d.hs.drop i,d.B,d.L⟩)=Nh (d.hs.map (tt m d)) i ⟨x,N,0,0,O ⟨M,0,N⟩,F3 x,Y⟩:=by
   unfold Nh;rw[CH,BZ,←List.map_take,←List.map_drop];congr 1
   ·refine CC fun y F=>?_;simp[tt,IL,H y (C6 F)]
   ·congr 1
    ·simp[tt,IL,o1,o2]
    ·refine CC fun y F=>?_;simp[tt,IL,H y (List.mem_of_mem_drop F)]
  have e2:(d.hs.take i++x :: d.hs.drop i).length=d.hs.length+1:=by simp;omega
  show World.ownsRow _ _ _ _ _ (d.hs.take i++x :: d.hs.drop i).length (FC ((d.hs.take i++x :: d.hs.drop i).map _));rw[e1,e2];exact D (by decide) hT
 ·rcases(E y).1 F with rfl|F
  ·rw[ha];have e1:(List.range (F3 y)).map (m.K y)=List.replicate (F3 y) (S N 0 0):=by
    refine Ca (by simp) fun j h1 h2=>?_;simp[o3]
   show World.ownsRow _ _ _ _ _ _ ((List.range (F3 y)).map (m.K y));rw[e1];exact D (by decide) (hC.kept hg (F1 hC h.ownT (by decide)))
  ·rw[U y (H y F)];exact D (by decide) ((h.ownC y F).kept hg (F1 (h.ownC y F) h.ownT (by decide)))
 ·rcases(E y).1 F with e|hb
  ·subst e;rcases(E Z).1 V with e'|J
   ·exact absurd e'.symm hh
   ·rw[ha,U Z (H Z J)];exact .inr fun e=>hc Z J e.symm
  ·rw[U y (H y hb)];rcases(E Z).1 V with e'|J
   ·subst e';rw[ha];exact .inr (hc y hb)
   ·rw[U Z (H Z J)];exact h.sepC y Z hb J hh
 ·have V:y ∉ d.hs:=fun e=>F ((E y).2 (.inr e));exact h.out y V
end
def JM:List Gu→D7→List Gu
 |[],r=>[⟨r.has,[r]⟩]
 |t :: l,r=>if t.has<r.has then t :: JM l r else if t.has=r.has then⟨t.has,t.rows++[r]⟩:: l else⟨r.has,[r]⟩:: t :: l
theorem SG:∀(l:List Gu) (r:D7) (x:Gu),x∈JM l r→x∈l∨x.has=r.has
 |[],r,x,h=>by
  simp only[JM,BH]at h;rw[h];exact .inr R
 | t :: l,r,x,h=>by
  unfold JM at h;split at h
  ·rw[Bu]at h;rcases h with h|h
   ·exact .inl (by rw[h];simp)
   ·rcases SG l r x h with h|h
    ·exact .inl (by simp[h])
    ·exact .inr h
  ·split at h
   ·rename_i e;rw[Bu]at h;rcases h with h|h
    ·rw[h];exact .inr e
    ·exact .inl (by simp[h])
   ·rw[Bu]at h;rcases h with h|h
    ·rw[h];exact .inr R
    ·exact .inl h
theorem Tv:∀(l:List Gu) (r:D7),l.Pairwise (fun a b=>a.has<b.has)→(JM l r).Pairwise (fun a b=>a.has<b.has)
 |[],r,_=>by simp[JM]
 | t :: l,r,h=>by
  rw[Ce]at h;unfold JM;split
  ·rename_i E;rw[Ce];refine⟨fun x D=>?_,Tv l r h.2⟩;rcases SG l r x D with D|D
   ·exact h.1 x D
   ·rw[D];exact E
  ·split
   ·rw[Ce];exact⟨h.1,h.2⟩
   ·rename_i F H;rw[Ce,Ce];refine⟨fun x D=>?_,h.1,h.2⟩;rw[Bu]at D;show r.has<x.has;rcases D with rfl|D
    ·omega
    ·have:=h.1 x D;omega
theorem QN:∀(l:List Gu) (r:D7),((JM l r).flatMap (·.rows)).Perm ((l.flatMap (·.rows))++[r])
 |[],r=>by simp[JM]
 | t :: l,r=>by
  unfold JM;split
  ·rw[BM,BM,BJ];exact(QN l r).append_left _
  ·split
   ·rw[BM,BM];show(t.rows++[r]++l.flatMap (·.rows)).Perm (t.rows++l.flatMap (·.rows)++[r]);rw[BJ,BJ];exact Fc.append_left _
   ·rw[BM];show([r]++(t :: l).flatMap (·.rows)).Perm _;exact Fc
theorem QO:∀(l:List Gu) (r:D7) (E:List D7),l.Pairwise (fun a b=>a.has<b.has)→(∀t∈l,t.rows=E.filter (fun x=>x.has == t.has))→((∀t∈l,t.has≠r.has)→E.filter (fun x=>x.has == r.has)=[])→∀t∈JM l r,t.rows=(E++[r]).filter (fun x=>x.has == t.has)
 |[],r,E,_,h,h0,t,D=>by
  simp only[JM,BH]at D;subst D;rw[Cf,h0 (fun t D=>by simp at D)];simp
 | s :: l,r,E,hp,h,h0,t,D=>by
  rw[Ce]at hp;have F:∀x,x∈s :: l→x.has≠r.has→x.rows=(E++[r]).filter (fun y=>y.has == x.has):=fun x H J=>by
   rw[Cf,←h x H];have:(r.has == x.has)=false:=(by simpa using fun e=>J e.symm);simp[this]
  unfold JM at D;split at D
  ·rename_i M;rw[Bu]at D;rcases D with rfl|D
   ·exact F t (by simp) (by omega)
   ·exact QO l r E hp.2 (fun t D=>h t (by simp[D])) (fun J=>h0 (fun x H=>by
     rw[Bu]at H;rcases H with rfl|H
     ·omega
     ·exact J x H)) t D
  ·split at D
   ·rename_i U L;rw[Bu]at D;rcases D with rfl|D
    ·show s.rows++[r]=_;rw[Cf,←h s (by simp)];simp[L]
    ·exact F t (by simp[D]) (by have:=hp.1 t D;omega)
   ·rename_i U L;rw[Bu]at D;rcases D with rfl|D
    ·show [r]=_;rw[Cf,h0 (fun x H=>by
      rw[Bu]at H;rcases H with rfl|H
      ·exact L
      ·have:=hp.1 x H;omega)]
     simp
    ·refine F t D ?_;rw[Bu]at D;rcases D with rfl|D
     ·exact L
     ·have:=hp.1 t D;omega
theorem Tx:∀(l:List Gu) (r:D7),(∀t∈l,t.rows≠[])→∀t∈JM l r,t.rows≠[]
 |[],r,_,t,D=>by
  simp only[JM,BH]at D;subst D;simp
 | s :: l,r,h,t,D=>by
  unfold JM at D;split at D
  ·rw[Bu]at D;rcases D with rfl|D
   ·exact h t (by simp)
   ·exact Tx l r (fun t D=>h t (by simp[D])) t D
  ·split at D
   ·rw[Bu]at D;rcases D with rfl|D
    ·simp
    ·exact h t (by simp[D])
   ·rw[Bu]at D;rcases D with rfl|D
    ·simp
    ·exact h t D
structure YG(l:List Gu)(rows:List D7):Prop where
 up:l.Pairwise (fun a b=>a.has<b.has)
 each:∀t∈l,t.rows=rows.filter (fun x=>x.has == t.has)
 ne:∀t∈l,t.rows≠[]
 perm:(l.flatMap (·.rows)).Perm rows
theorem YG.nil:YG [] []:=⟨List.Pairwise.nil,fun t h=>by simp at h,fun t h=>by simp at h,by simp⟩
theorem YG.take{l:List Gu}{D:List D7}(h:YG l D)(r:D7):YG (JM l r) (D++[r]):=by
 refine⟨Tv l r h.up,QO l r D h.up h.each ?_,Tx l r h.ne,(QN l r).trans (h.perm.append_right _)⟩;intro F;rw[Fa];intro x L;have H:=h.perm.mem_iff.2 L;rw[C1]at H;obtain⟨t,J,E⟩:=H;rw[h.each t J,BU]at E;have e:x.has=t.has:=by simpa using E.2
 have:=F t J;rw[e];simpa using this
def Jm(rows:List D7)(i:Nat):List Gu:=(rows.take i).foldl JM []
theorem Pa(D:List D7)(i:Nat)(h:i<D.length):Jm D (i+1)=JM (Jm D i) D[i]:=by
 unfold Jm;rw[A0 h,List.foldl_append];rfl
theorem ME(D:List D7):∀i,i≤D.length→YG (Jm D i) (D.take i)
 |0,_=>YG.nil
 |i+1,h=>by
  rw[Pa D i (by omega),A0 (by omega)];exact(ME D i (by omega)).take _
theorem Sg{X:Wd}(E:FK X){l:List Gu}(h:YG l X.rows):∀t∈l,JZ t:=fun t Y=>by
 have U:=h.each t Y;have H:=h.ne t Y;have Z:=(GD ((F7 X).2 E)).1;have D:∀r∈t.rows,r∈X.rows∧r.has=t.has:=fun r E=>by
  rw[U,BU]at E;exact⟨E.1,by simpa using E.2⟩
 have J:∀r∈X.rows,N4 r=true:=fun r V=>by
  obtain⟨j,L,rfl⟩:=BL V;have:=E.rv j L;unfold E' at this;rwa[Hr _ _ L]at this
 have F:t.rows.Pairwise (fun a b=>a.ix<b.ix):=by rw[U];exact(Kd E).filter _
 obtain⟨r,M⟩:=Ds _ H;refine⟨?_,CD.2 H,?_,fun r E=>⟨(D r E).2,J r (D r E).1⟩,fun j L=>?_⟩
 ·have h1:=(Hz (J r (D r M).1)).1;rw[(D r M).2]at h1;unfold FV;simpa using h1
 ·have:t.rows.length≤X.rows.length:=by rw[U];exact BT _ _
  omega
 ·rw[Hr _ _ (by omega),Hr _ _ L];exact(B9.1 F) j (j+1) (by omega) L (by omega)
set_option maxRecDepth 8000
attribute [local go_sem ↓] Go.wp_at_zero Go.wp_at_succ
def Tm:List Int→Int→List Int
 |[],x=>[x]
 |h :: l,x=>if h<x then h :: Tm l x else if h=x then h :: l else x :: h :: l
theorem Ux(l:List Gu)(r:D7):(JM l r).map (·.has)=Tm (l.map (·.has)) r.has:=by
 induction l with
 |nil=>rfl
 | cons t l ih =>
  unfold JM;rw[BZ];unfold Tm;split
  ·rw[BZ,ih]
  ·split
   ·rfl
   ·rfl
theorem eH(x:Int):∀(l:List Int) (i:Nat),i≤l.length→(∀y (h:y<l.length),y<i→l[y]<x)→(∀y (h:y<l.length),i≤y→x≤l[y]) →
  (∀(h:i<l.length),l[i]=x→Tm l x=l)∧((∀(h:i<l.length),l[i]≠x)→Tm l x=l.take i++x :: l.drop i)
 |[],i,hi,_,_=>by
  obtain rfl:i=0:=by simpa using hi
  exact⟨fun h=>by simp at h,fun _=>by simp[Tm]⟩
 |t :: l,0,hi,hlo,hhi=>by
  have h0:=hhi 0 (by simp) Fu;simp only[Cb]at h0;refine⟨fun h e=>?_,fun D=>?_⟩
  ·simp only[Cb]at e;unfold Tm;rw[AA (by omega),AF e]
  ·have:=D (by simp);simp only[Cb]at this;unfold Tm;rw[AA (by omega),AA this];simp
 |t :: l,i+1,hi,hlo,hhi=>by
  have h0:=hlo 0 (by simp) (by omega);simp only[Cb]at h0;obtain⟨E,g2⟩:=eH x l i (by simpa using hi) (fun y h F=>by have:=hlo (y+1) (by simpa using h) (by omega);simpa using this) (fun y h F=>by have:=hhi (y+1) (by simpa using h) (by omega);simpa using this);refine⟨fun h e=>?_,fun D=>?_⟩
  ·simp only[C0]at e;unfold Tm;rw[AF h0,E (by simpa using h) e]
  ·unfold Tm;rw[AF h0,g2 (fun h=>by have:=D (by simpa using h);simpa using this)];simp
theorem gN(l:List Int)(x:Int)(i:Nat)(h:i≤l.length):∃E:i<(l.take i++x :: l.drop i).length,(l.take i++x :: l.drop i)[i]=x:=by
 have D:(l.take i).length=i:=by rw[AZ];omega
 refine⟨by simp;omega,?_⟩;rw[EW (by omega)];simp[D]
theorem eE:(Au.info? 23).map (fun i=>(i.zero,i.size,i.bytes))=O (O (S N 0 0),1,24):=by kernel_rfl
theorem aP:(Au.info? 22).map (·.size)=O 1:=by kernel_rfl
theorem IU.tc{base bx:Nat}{A:Option Addr}{c:Nat}{G:Value}{gens:List Int}{m:KC}{d:JQ}{W:World}(h:IU base bx (S A d.hs.length c) G gens m d W):TC W A d.hs.length (fun j=>d.hs.getD j 0) (fun j=>aV m d (d.hs.getD j 0)) (fun j=>cV m (d.hs.getD j 0)):=fun j E=>by
 obtain⟨g,H,e,_,_⟩:=Gi h.ownT (by omega);simp only[A9,Br]at e;obtain⟨rfl,rfl⟩:=e;have D:d.hs.getD j 0=d.hs[j]:=by rw[Az,AE E];rfl
 obtain⟨c0,c1,F⟩:=KA (d.hs.map (tt m d)) j (by simpa using E);simp only[BO]at c0 c1 F;refine⟨g,0,rfl,?_,?_,?_⟩
 ·rw[AT];dsimp only;rw[D];exact F4 h.ownT c0
 ·rw[AT];dsimp only;rw[D];exact F4 h.ownT c1
 ·rw[AT];dsimp only;rw[D];exact F4 h.ownT F
def Kp(base bx:Nat)(T:Value)(W0 W:World):Prop:=Below base W0 W∧∀g,g<W0.heap.size→g≠bx→T.ownBlock≠O g→W.heap[g]?=W0.heap[g]?
theorem Kp.below{base bx:Nat}{T:Value}{W0 W W1:World}(h:Kp base bx T W0 W)(D:Below W.heap.size W W1)(F:base≤W.heap.size):Kp base bx T W0 W1 :=
 ⟨h.1.trans (D.mono F),fun g E H J=>(D.block g (Bs E h.1.size)).trans (h.2 g E H J)⟩
theorem Kp.refl(base bx:Nat)(T:Value)(W:World):Kp base bx T W W:=⟨AD _ _,fun _ _ _ _=>rfl⟩
def TD(base bx gl S i gC:Nat)(x:Int)(T G:Value)(gens:List Int)(m:KC)(d:JQ)(W0:World)(γ:Value)(L:Nat→Bool)(W:World):Prop :=
 (L 9=false→IU base bx T G gens m d W∧W.ownsRow base 23 1 (.slice (O ⟨gC,0,N⟩) (F3 x) (F3 x)) (F3 x) (List.replicate (F3 x) (.slice N 0 0))∧(L 8=false→W.heap.size=S∧W.heap[gl]?=O (Al (GM ⟨x,N,0,0,O ⟨gC,0,N⟩,F3 x,F3 x⟩).toArray 75 (0,0)))∧(L 8=true→XO W S ⟨x,N,0,0,O ⟨gC,0,N⟩,F3 x,F3 x⟩)) ∧
 (L 9=true→L 13=false→(∃g' c',γ=.slice (O ⟨g',0,N⟩) (d.hs.length+1) c')∧W.there bx 0 1∧IU base bx γ G gens ⟨m.A,IL m.C x (O ⟨gC,0,N⟩,F3 x),m.K⟩ ⟨d.hs.take i++x :: d.hs.drop i,d.B,d.L⟩ (W.setCell ⟨bx,0,N⟩ γ)) ∧
 (L 13=true→IU base bx γ G gens ⟨m.A,IL m.C x (O ⟨gC,0,N⟩,F3 x),m.K⟩ ⟨d.hs.take i++x :: d.hs.drop i,d.B,d.L⟩ W)∧Kp base bx T W0 W
section
variable {base bx gl S i gC:Nat} {x:Int} {T G:Value} {gens:List Int} {m:KC} {d:JQ} {W0 W:World} {γ:Value} {L:Nat→Bool}
theorem TD.quiet(h:TD base bx gl S i gC x T G gens m d W0 γ L W)(j:Nat)(E:8≠j)(F:9≠j)(D:13≠j):TD base bx gl S i gC x T G gens m d W0 γ (upd L j) W:=by
 unfold TD at h⊢;rw[Fx E,Fx F,Fx D];exact h
theorem TD.build(h:TD base bx gl S i gC x T G gens m d W0 γ L W)(H:L 8=false)(E:L 9=false)(Y:base≤S):TD base bx gl S i gC x T G gens m d W0 γ (upd L 8) (W.alloc (Al (GM ⟨x,N,0,0,O ⟨gC,0,N⟩,F3 x,F3 x⟩).toArray 75)):=by
 obtain⟨J,Z,M,U⟩:=h;obtain⟨F,V,D,_⟩:=J E;obtain⟨D,_⟩:=D H;refine⟨fun _=>⟨F.below (GF _ _),FT V (GF _ _),fun e=>?_,fun _=>⟨?_⟩⟩,fun e=>?_,fun e=>?_,U.below (GF _ _) F.sz⟩
 ·rw[IF]at e;cases e
 ·rw[←D];show(W.heap.push _)[W.heap.size]?=_;simp
 ·rw[Fx (by decide),E]at e;cases e
 ·rw[Fx (by decide)]at e;exact(M e).below (GF _ _)
theorem TD.call{W':World}{Z c':Nat}(h:TD base bx gl S i gC x T G gens m d W0 γ L W)(q9:L 9=false)(J:L 13=false)(hx:x ∉ d.hs)(hi:i≤d.hs.length)(M:∀ y∈d.hs,(cV m y).ownBlock≠O gC)(H:W.grownBy W' T.ownBlock)(ho:W'.ownsRow base 75 3 (.slice (O ⟨Z,0,N⟩) (d.hs.length+1) c') (d.hs.length+1) (FC (Nh (d.hs.map (tt m d)) i ⟨x,N,0,0,O ⟨gC,0,N⟩,F3 x,F3 x⟩))):TD base bx gl S i gC x T G gens m d W0 (.slice (O ⟨Z,0,N⟩) (d.hs.length+1) c') (upd L 9) W':=by
 obtain⟨U,V,h3,Y⟩:=h;obtain⟨D,f2,_⟩:=U q9;have E:W'.heap[bx]?=O (Al #[T,G] 125 (0,0)):=(H.block bx D.lt (fun e=>D.boxT e.symm)).trans D.box;refine⟨fun e=>?_,fun _ _=>⟨⟨_,_,rfl⟩,fun j hj=>?_,D.lay hx hi f2 M H ho⟩,fun e=>?_,Y.1.trans (F0 H (fun k e=>(D.ownT.lt k e).1) D.sz),fun g F U V=>(H.block g (Bs F Y.1.size) (fun e=>V e.symm)).trans (Y.2 g F U V)⟩
 ·rw[IF]at e;cases e
 ·obtain rfl:j=0:=by omega
  exact⟨by simp[World.cell?,E],by simp[World.frozen?,E]⟩
 ·rw[Fx (by decide),J]at e;cases e
theorem TD.store(h:TD base bx gl S i gC x T G gens m d W0 γ L W)(J:L 9=true)(E:L 13=false)(U:base≤bx):TD base bx gl S i gC x T G gens m d W0 γ (upd L 13) (W.setCell ⟨bx,0,N⟩ γ):=by
 obtain⟨Y,V,Z,M⟩:=h;refine⟨fun e=>?_,fun _ e=>?_,fun _=>(V J E).2.2,M.1.setCell (p:=⟨bx,0,N⟩) U _,fun g F D H=>(Cm W ⟨bx,0,N⟩ g γ (by simpa using D)).trans (M.2 g F D H)⟩
 ·rw[Fx (by decide),J]at e;cases e
 ·rw[IF]at e;cases e
end
theorem Ty(base bx:Nat)(T G:Value)(gens:List Int)(m:KC)(d:JQ)(x:Int)(W:World)(h:IU base bx T G gens m d W)(hB:∀ i j (hj:j<d.hs.length) (hC:i<j),d.hs[i]<d.hs[j])(co:d.hs.length≤900)(x0:0≤x)(x1:x≤255):
  Calls Au 105 #[Ae (O ⟨bx,0,N⟩),I K x] W fun e w'=>∃(i:Nat) (T':Value) (m':KC),e=Ao (I K (i:Int))∧(∃hi:i<(Tm d.hs x).length,(Tm d.hs x)[i]=x)∧IU base bx T' G gens m' ⟨Tm d.hs x,d.B,d.L⟩ w'∧Kp base bx T W w':=by
 obtain⟨A,c,rfl⟩:=Hw h.ownT;have hg:∀j (hj:j<d.hs.length),d.hs.getD j 0=d.hs[j]:=fun j hj=>by rw[Az,AE hj];rfl
 have hW:=VK A c d.hs.length (fun j=>d.hs.getD j 0) _ _ x W (by omega) h.tc (fun i j hC hj=>by rw[hg i (by omega),hg j hj];exact hB i j hj hC);have hc:=h.sz;have hX:=h.lo;obtain⟨b0,_⟩:=h.cells;have hY:=fun W=>PO x W x0 x1;obtain⟨hZ,hG,hH,hI,hk⟩:=BC eE;have HB:=An hk;have HG:=An hg;have ml:=Kf x 8;clear hk hg;go_enter Tryz.func105,Tryz.ntmps105
 go_wp2_with fail
 go_at_call 136;refine hW.mono ?_;rintro e w1⟨i,hd,rfl,hp,hq,Z⟩;clear b0;have M:∀y (Y:y<d.hs.length),y<i→d.hs[y]<x:=fun y Y hr=>by have:=hp y hr;rwa[AN HG y Y]at this
 have U:∀y (Y:y<d.hs.length),i≤y→x≤d.hs[y]:=fun y Y hr=>by have:=hq y hr Y;rwa[AN HG y Y]at this
 have hJ:=(eH x d.hs i hd M U);by_cases hf:i<d.hs.length∧d.hs.getD i 0=x
 ·rw[Bq hf];have ca:=hf.1;have ht:d.hs[i]=x:=by rw[←AN HG i hf.1];exact hf.2
  have cc:=An ht;have hu:=An (hJ.1 hf.1 ht);clear hf ht hp hq M U;go_wp2;go_ret;rw[AN hu];exact⟨i,_,m,rfl,⟨ca,AN cc⟩,h.below Z,(Kp.refl _ _ _ _).below Z hc⟩
 ·rw[AO hf];have hv:∀(hi:i<d.hs.length),d.hs[i]≠x:=fun hi e=>hf ⟨hi,by rw[AN HG i hi];exact e⟩;have hu:=An (hJ.2 hv);have cd:x ∉ d.hs:=fun hm=>by
   obtain⟨y,Y,e⟩:=BL hm;rcases CM y i with ce|rfl|cf
   ·have:=M y Y ce;omega
   ·exact hv Y e
   ·have h1:=U i (by omega) Fu;have h2:=hB i y Y cf;omega
  have he:=h.below Z;clear hf hp hq M U hv;go_wp2_with(first
   |(go_at_call 127;refine(hY _).mono ?_;rintro e w2⟨rfl,hw⟩;obtain rfl:=hw.symm)
   |(at_make;refine DI w1 R _ _ 46 R base 23 hZ _ 1 Tryz.underlying46 hG hH hI K K _ _ (F3 x) R R R R (by rw[AN HB];unfold F3;omega) (by unfold maxLen F3;omega) he.sz ?_;intro w3 hK hM))
  obtain⟨gC,hx⟩:∃gC,gC=w1.heap.size:=⟨_,rfl⟩;obtain⟨gl,hz⟩:∃gl,gl=w3.heap.size:=⟨_,rfl⟩;rw[←hx,←hz];have hA:Below w1.heap.size w1 w3:=F0 hM (fun k e=>by cases e) Fu;have V:=he.below hA;have hN:w3.ownsRow base 23 1 (.slice (O ⟨gC,0,N⟩) (F3 x) (F3 x)) (F3 x) (List.replicate (F3 x) (.slice N 0 0)):=by
   have:=hK;rw[Eh,show(Value.slice N 0 0).cells=#[.slice N 0 0]from rfl,Fi,←hx]at this;exact this
  have hO:∀y∈d.hs,(cV m y).ownBlock≠O gC:=fun y Y e=>by
   have:=(he.ownC y Y).lt gC e;omega
  obtain⟨W4,hh⟩:∃W4,W4=w3.alloc (Al #[I K x,.slice N 0 0,.slice (O ⟨gC,0,N⟩) (F3 x) (F3 x)] 75):=⟨_,rfl⟩;have E:Below w3.heap.size w3 W4:=by rw[hh];exact GF _ _
  have hP:W4.heap[gl]?=O (Al (GM ⟨x,N,0,0,O ⟨gC,0,N⟩,F3 x,F3 x⟩).toArray 75 (0,0)):=by
   rw[hh,hz];show(w3.heap.push _)[w3.heap.size]?=_;simp[GM]
  obtain⟨S,hS⟩:∃S,S=W4.heap.size:=⟨_,rfl⟩;have cg:base≤S:=by rw[hS];exact AU V.sz E.size
  have hQ:Kp base bx (.slice A d.hs.length c) W W4.drew:=((((Kp.refl _ _ _ _).below Z hc).below hA he.sz).below E V.sz).below Fv.drew (V.below E).sz;have h0:TD base bx gl S i gC x (.slice A d.hs.length c) G gens m d W undef (fun _=>false) W4.drew:=⟨fun _=>⟨(V.below E).below Fv.drew,Hg (FT hN E),fun _=>⟨hS.symm,hP⟩,fun e=>(by cases e)⟩,fun e=>(by cases e),fun e=>(by cases e),hQ⟩;have ch:Hid (∀w,IU base bx (.slice A d.hs.length c) G gens m d w→XO w S ⟨x,N,0,0,O ⟨gC,0,N⟩,F3 x,F3 x⟩→Calls Au 138 #[.slice A d.hs.length c,I K (i:Int),.slice (O ⟨S,0,N⟩) 1 1] w fun e w'=>∃g' c',e=Ao (.slice (O ⟨g',0,N⟩) (d.hs.length+1) c')∧w'.ownsRow base 75 3 (.slice (O ⟨g',0,N⟩) (d.hs.length+1) c') (d.hs.length+1) (FC (Nh (d.hs.map (tt m d)) i ⟨x,N,0,0,O ⟨gC,0,N⟩,F3 x,F3 x⟩))∧w.grownBy w' (Value.slice A d.hs.length c).ownBlock):=An fun w hF hV=>by
   have ci:=V.below E;have:=Uu base A c i (d.hs.map (tt m d)) ⟨x,N,0,0,O ⟨gC,0,N⟩,F3 x,F3 x⟩ S w (by rw[Bj];omega) (by rw[Bj];exact hd) hF.sz (fun c' o e=>by
    intro e2;have h1:=(ci.ownT.lt S (by rw[e2,e];rfl)).2;omega) (by rw[Bj];exact hF.ownT) hV
   rwa[Bj]at this
  have cj:=An hO;have hR:w3.alloc (Al #[I K x,.slice N 0 0,.slice (O ⟨gC,0,N⟩) (F3 x) (F3 x)] 75)=W4:=hh.symm;rw[hR];clear hA V hN hO E hP hR hh hK hM hx hz hS Z hQ;refine FW (fun(γ:Value)=>[Ae (O ⟨bx,0,N⟩),Ae (O ⟨bx,0,N⟩),Ae (O ⟨bx,0,N⟩),Ae (O ⟨bx,0,N⟩),Ae (O ⟨bx,0,N⟩),.slice A d.hs.length c,I K (i:Int),Af #[I K x,.slice N 0 0,.slice (O ⟨gC,0,N⟩) (F3 x) (F3 x)],.slice (O ⟨S,0,N⟩) 1 1,γ,Ae (O ⟨bx,0,N⟩),Ae (O ⟨bx,0,N⟩),Ae (O ⟨bx,0,N⟩),undef]) (TD base bx gl S i gC x (.slice A d.hs.length c) G gens m d W) (undef) (by kernel_rfl) (by kernel_rfl) (by kernel_rfl) (by kernel_rfl) h0 ?hstep ?hend
  case hstep =>
   intro F γ ha H ix o D L w1 J hL hT hb;simp only[Hu,G9,Br,Bx]at H;have e0:F.tmps.getD 0 undef=Ae (O ⟨bx,0,N⟩):=ha 0 (by decide +kernel);have e5:F.tmps.getD 5 undef=I K (i:Int):=ha 5 (by decide +kernel);have e7:F.tmps.getD 7 undef=Ae (O ⟨gl,0,N⟩):=ha 7 (by decide +kernel)
   match ix,D with
   |0,D|1,D|2,D|3,D|4,D|6,D|10,D|11,D|12,D =>
    simp at D;subst D;exact .inl ⟨rfl,FB γ _ (by simp[go_sem,Aq,-Ap,H,e0,e5]) R J (fun _ _ _=>rfl)⟩
   |5,D =>
    simp at D;subst D;have q9:L 9=false:=FA hb hL 14 9 (by kernel_rfl);have c0:=(J.1 q9).1.cells.1;exact .inl ⟨rfl,FB γ _ (by simp[go_sem,Aq,-Ap,H,c0]) R J (fun _ _ _=>rfl)⟩
   |7,D =>
    simp at D;subst D;have q8:L 8=false:=FA hb hL 14 8 (by kernel_rfl);have q9:L 9=false:=FA hb hL 14 9 (by kernel_rfl);have hl:=((J.1 q9).2.2.1 q8).2;have l0:w1.cell? ⟨gl,0,N⟩=O (I K x):=(by simp[World.cell?,hl,GM]);have l1:w1.cell? ⟨gl,1,N⟩=O (.slice N 0 0):=(by simp[World.cell?,hl,GM]);have l2:w1.cell? ⟨gl,2,N⟩=O (.slice (O ⟨gC,0,N⟩) (F3 x) (F3 x)):=(by simp[World.cell?,hl,GM]);exact .inl ⟨rfl,FB γ _ (by simp[go_sem,Aq,-Ap,e7,l0,l1,l2]) R J (fun _ _ _=>rfl)⟩
   |8,D =>
    simp at D;subst D;have q9:L 9=false:=FA hb hL 14 9 (by kernel_rfl);have hc:=((J.1 q9).2.2.1 hL).1;refine .inl ⟨rfl,J' γ (.slice (O ⟨S,0,N⟩) 1 1) (w2:=w1.alloc (Al (GM ⟨x,N,0,0,O ⟨gC,0,N⟩,F3 x,F3 x⟩).toArray 75)) (by simp[go_sem,Aq,-Ap,H,hc,GM]) R (J.build hL q9 cg) (fun _ _ _=>rfl)⟩
   |9,D =>
    simp at D;subst D;have ck:L 13=false:=FA hb hL 14 13 (by kernel_rfl);have q8:L 8=true:=hT 8 (by kernel_rfl);have hF:=J.1 hL;refine .inl ⟨rfl,GU 138 #[.slice A d.hs.length c,I K (i:Int),.slice (O ⟨S,0,N⟩) 1 1] (by simp[go_sem,Aq,-Ap,H]) ?_⟩;refine(AN ch w1 hF.1 (hF.2.2.2 q8)).mono ?_;rintro e w2⟨g',c',rfl,D,hg⟩;exact⟨_,.slice (O ⟨g',0,N⟩) (d.hs.length+1) c',rfl,rfl,J.call hL ck cd hd (AN cj) hg D,(fun j hj _=>by match j with|0|1|2|3|4|5|6|7|8|10|11|12|13=>rfl|9=>exact absurd R hj|j+14=>rfl)⟩
   |13,D =>
    simp at D;subst D;have cm:F.tmps.getD 34 undef=γ:=(by simp only[H]);have q9:L 9=true:=hT 9 (by kernel_rfl);have hF:=J.2.1 q9 hL;obtain⟨g',c',hγ⟩:=hF.1;have hU:F.tmps.getD 34 undef=γ:=cm;exact .inl ⟨rfl,K0 γ 22 (Am 37) (Am 34) R bx 0 γ (by simp[Aq,-Ap,H]) (by simpa[Aq,-Ap]using hU) (by rw[hγ];rfl) aP hF.2.1 R (J.store q9 hL hX) (fun _ _ _=>rfl)⟩
   |ix+14,D=>simp at D
  case hend =>
   intro γ L w5 J hn;have hE:=J.2.2.1 (hn 13 (by decide));have cn:=J.2.2.2;clear hn J h0;simp only[GN,AI,AH,Ba,AJ,AK,Nat.reduceAdd,Bf,Be];go_frame;go_wp2;go_ret;rw[AN hu];exact⟨i,γ,_,rfl,gN d.hs x i hd,hE,cn⟩
def XD(PRE:World→Prop)(W0 W1 W2 W3:World)(a b c:Nat)(L:Nat→Bool)(W:World):Prop :=
 (L c=false→PRE W)∧(L b=false→(L a=false→W=W0)∧(L a=true→W=W1))∧(L b=true→L c=false→W=W2)∧(L c=true→W=W3)
section
variable {PRE:World→Prop} {W0 W1 W2 W3 W:World} {a b c:Nat} {L:Nat→Bool}
theorem XD.start(h:PRE W0):XD PRE W0 W1 W2 W3 a b c (fun _=>false) W0:=⟨fun _=>h,fun _=>⟨fun _=>rfl,fun e=>(by cases e)⟩,fun e=>(by cases e),fun e=>(by cases e)⟩
theorem XD.quiet(h:XD PRE W0 W1 W2 W3 a b c L W)(j:Nat)(D:a≠j)(E:b≠j)(F:c≠j):XD PRE W0 W1 W2 W3 a b c (upd L j) W:=by
 unfold XD at h⊢;rw[Fx D,Fx E,Fx F];exact h
theorem XD.build(h:XD PRE W0 W1 W2 W3 a b c L W)(H:L a=false)(F:L b=false)(J:L c=false)(D:b≠a)(E:c≠a)(M:PRE W1):W=W0∧XD PRE W0 W1 W2 W3 a b c (upd L a) W1:=by
 refine⟨(h.2.1 F).1 H,fun _=>M,fun _=>⟨fun e=>?_,fun _=>rfl⟩,fun e=>?_,fun e=>?_⟩
 ·rw[IF]at e;cases e
 ·rw[Fx D,F]at e;cases e
 ·rw[Fx E,J]at e;cases e
theorem XD.app(h:XD PRE W0 W1 W2 W3 a b c L W)(E:L a=true)(F:L b=false)(H:L c=false)(D:c≠b)(J:PRE W2):W=W1∧XD PRE W0 W1 W2 W3 a b c (upd L b) W2:=by
 refine⟨(h.2.1 F).2 E,fun _=>J,fun e=>?_,fun _ _=>rfl,fun e=>?_⟩
 ·rw[IF]at e;cases e
 ·rw[Fx D,H]at e;cases e
theorem XD.store(h:XD PRE W0 W1 W2 W3 a b c L W)(E:L b=true)(F:L c=false)(D:b≠c):W=W2∧XD PRE W0 W1 W2 W3 a b c (upd L c) W3:=by
 refine⟨h.2.2.1 E F,fun e=>?_,fun e=>?_,fun _ e=>?_,fun _=>rfl⟩
 ·rw[IF]at e;cases e
 ·rw[Fx D,E]at e;cases e
 ·rw[IF]at e;cases e
end
theorem aQ:(Au.info? 62).map (·.size)=O 1:=by kernel_rfl
theorem jx(m:KC)(d:JQ){i:Nat}(D:i<d.hs.length){x:Int}(E:d.hs[i]=x):(FC (d.hs.map (tt m d)))[i*3]?=O (I K x)∧(FC (d.hs.map (tt m d)))[i*3+1]?=O (aV m d x)∧(FC (d.hs.map (tt m d)))[i*3+2]?=O (cV m x):=by
 obtain⟨c0,c1,h⟩:=KA (d.hs.map (tt m d)) i (by simpa using D);simp only[BO,E]at c0 c1 h;exact⟨c0,c1,h⟩
theorem IU.table{base bx D H:Nat}{G:Value}{gens:List Int}{m:KC}{d:JQ}{W:World}(h:IU base bx (S (O ⟨D,0,N⟩) d.hs.length H) G gens m d W){i:Nat}(J:i<d.hs.length){x:Int}(M:d.hs[i]=x):
  W.cell? ⟨D,i*3,N⟩=O (I K x)∧W.cell? ⟨D,i*3+1,N⟩=O (aV m d x)∧W.cell? ⟨D,i*3+2,N⟩=O (cV m x)∧W.there D (i*3+1) 1:=by
 obtain⟨c0,c1,E⟩:=KA (d.hs.map (tt m d)) i (by simpa using J);simp only[BO,M]at c0 c1 E;have F:=F4 h.ownT c1;exact⟨F4 h.ownT c0,F,F4 h.ownT E,Gx F (fun j=>KP h.ownT j)⟩
structure TK(base bx gr:Nat)(T G:Value)(gens:List Int)(m:KC)(d:JQ)(r:D7)(vh:Value)(lst:List Int)(W:World):Prop extends IU base bx T G gens m d W where
 rb:W.heap[gr]?=O (Al (D' r).toArray 116 (0,0))
 held:W.ownsRow base 3 1 vh lst.length (FD lst)
 sepH:∀h k,P9 vh (m.K h k)
theorem MN{W:World}{gr:Nat}{r:D7}(h:W.heap[gr]?=O (Al (D' r).toArray 116 (0,0))):Hb W gr 0 r:=(IW _ _ _ _).2 fun i u D=>by
 rw[AT,EF W gr i _ 116 (0,0) h];simpa using D
def LH(d:JQ)(r:D7)(k:Nat):JQ:=⟨d.hs,d.B,fun h j=>if h=r.has∧j<k then d.L h j++[r.v ((FR r.has 8).getD j 0).toNat]else d.L h j⟩
theorem ZX(d:JQ)(r:D7):LH d r 0=d:=by
 unfold LH;simp
theorem ZY(d:JQ)(r:D7)(k p:Nat)(F:(FR r.has 8).getD k 0=(p:Int)):(⟨(LH d r k).hs,(LH d r k).B,MD (LH d r k).L r.has k ((LH d r k).L r.has k++[r.v p])⟩:JQ)=LH d r (k+1):=by
 unfold LH;simp only[JQ.mk.injEq,Br];funext h j;unfold MD;dsimp only;by_cases e:h=r.has
 ·subst e;by_cases E:j=k
  ·subst E;rw[AF ⟨rfl,rfl⟩,AA (by simp),AF ⟨rfl,by omega⟩,F];simp
  ·rw[AA (by simp[E])];by_cases D:j<k
   ·rw[AF ⟨rfl,D⟩,AF ⟨rfl,by omega⟩]
   ·rw[AA (by simp[D]),AA (by simp;omega)]
 ·rw[AA (by simp[e]),AA (by simp[e]),AA (by simp[e])]
def XU(d:JQ)(r:D7):JQ:=LH ⟨Tm d.hs r.has,IL d.B r.has (d.B r.has++[(r.ix,r.gen)]),d.L⟩ r (F3 r.has)
section
variable {base bx gr:Nat} {T G:Value} {gens:List Int} {m:KC} {d:JQ} {r:D7} {vh:Value} {lst:List Int} {W W2:World}
theorem TK.below{W1:World}(h:TK base bx gr T G gens m d r vh lst W)(D:Below W.heap.size W W1):TK base bx gr T G gens m d r vh lst W1 :=
 ⟨h.toIU.below D,(D.block gr (Bk.1 h.rb).1).trans h.rb,FT h.held D,h.sepH⟩
theorem TK.col(h:TK base bx gr T G gens m d r vh lst W){x:Int}(M:x∈d.hs){k:Nat}(hk:k<F3 x){F cc:Nat}(Y:cV m x=S (O ⟨F,0,N⟩) (F3 x) cc){g D:Nat}(z:Int)
  (H:W.grownBy W2 (m.K x k).ownBlock) (ho:W2.ownsRow base 3 1 (S (O ⟨g,0,N⟩) ((d.L x k).length+1) D) ((d.L x k).length+1) (FD (d.L x k)++[I .i64 z])) (E:O g=(m.K x k).ownBlock∨g=W.heap.size):
  TK base bx gr T G gens ⟨m.A,m.C,MD m.K x k (S (O ⟨g,0,N⟩) ((d.L x k).length+1) D)⟩ ⟨d.hs,d.B,MD d.L x k (d.L x k++[z])⟩ r vh lst (W2.setCell ⟨F,k,N⟩ (S (O ⟨g,0,N⟩) ((d.L x k).length+1) D)):=by
 have U:(S (O ⟨g,0,N⟩) ((d.L x k).length+1) D).ownBlock=(m.K x k).ownBlock∨(S (O ⟨g,0,N⟩) ((d.L x k).length+1) D).ownBlock=O W.heap.size:=by
  rcases E with E|E
  ·exact .inl E
  ·exact .inr (by rw[E];rfl)
 have J:(cV m x).ownBlock=O F:=by rw[Y];rfl
 refine⟨h.toIU.col M hk Y z H ho E,?_,?_,fun y j=>?_⟩
 ·have V:W2.heap[gr]?=W.heap[gr]?:=H.block gr (Bk.1 h.rb).1 (fun e=>Ht (h.ownK x k) ⟨_,h.rb⟩ (by decide) e.symm);rw[Cm W2 ⟨F,k,N⟩ gr _ (fun e=>Ht (h.ownC x M) ⟨_,h.rb⟩ (by decide) (by rw[J];exact B8 O (by simpa using e.symm))),V];exact h.rb
 ·refine(h.held.kept H (h.sepH x k)).kept (JC W2 F k _) ?_;have:=F1 (h.held.kept H (h.sepH x k)) ((h.ownC x M).kept H (F1 (h.ownC x M) (h.ownK x k) (by decide))) (by decide);rw[J]at this;exact this
 ·show P9 vh (MD m.K x k _ y j);by_cases e:y=x∧j=k
  ·obtain⟨rfl,rfl⟩:=e;rw[MC];exact(h.sepH y j).moved h.held U
  ·rw[KD _ _ (by
    by_cases Z:y=x
    ·exact .inr fun e2=>e ⟨Z,e2⟩
    ·exact .inl Z)]
   exact h.sepH y j
end
theorem PS(base:Nat)(t e:TypeId)(i:TypeInfo)(z:Value)(h D:Nat)(ht:Tryz.prog.underlying t=some (.slice e))(hi:Tryz.prog.info? e=some i)(hz:i.zero=some z)(F:i.size=h)(Y:i.bytes=D)(Z:z.cells.size=h)(ha:0<h)(w:World)(v:Value)(n:Nat)(xs:List Value)(M:w.ownsRow base e h v n xs)
  (a:Addr) (E:List Value) (hl:E.length=h) (H:∀j u,E[j]?=some u→w.cell? (a.add j)=some u) (h1:∀u∈E,u.oneCell'=true) (hn:n≤1000) (hb:D≤100) (J:base≤w.heap.size):
  ∃g c U,(∀ty,(Builtin.append_ #[t,t] ty #[v,.slice (some a) 1 1]).run Tryz.prog w=.ok (.slice (some ⟨g,0,none⟩) (n+1) c) U)∧U.ownsRow base e h (.slice (some ⟨g,0,none⟩) (n+1) c) (n+1) (xs++E)∧w.grownBy U v.ownBlock∧(some g=v.ownBlock∨g=w.heap.size):=by
 have hc:(n+1)*D≤140737488355328:=Nat.le_trans (Nat.mul_le_mul (by omega:n+1≤1001) hb) (by decide);obtain⟨v',U,hr,h2,h3,_,V⟩:=run_append_own_at (P:=Tryz.prog) w base t 0 e i z h D ht hi hz F Y Z ha v n xs M a 1 1 E (by omega) H h1 (by unfold maxLen;omega) hc J;obtain⟨g,c,rfl,_,_⟩:=Gi h2 (by omega);refine⟨g,c,U,fun ty=>?_,h2,h3,?_⟩
 ·exact hr
 ·rcases V with V|V
  ·exact .inl V
  ·right;simpa[Value.ownBlock]using V
theorem X8{W0 W:World}{base:Nat}{e H:TypeId}{E D n J:Nat}{u v:Value}{M U:List Value}(h:W.ownsRow W0.heap.size e E u n M)(V:W0.ownsRow base H D v J U):P9 u v:=by
 cases F:u.ownBlock with
 |none=>exact .inl F
 |some g =>
  refine .inr fun e=>?_;rw[F]at e;have Y:=(h.lt g F).1;have Z:=(V.lt g e.symm).2;omega
theorem aA(base bx:Nat)(T G:Value)(gens:List Int)(m:KC)(d:JQ)(r:D7)(W:World)(h:IU base bx T G gens m d W)(dd:∀ i j (hj:j<d.hs.length) (ec:i<j),d.hs[i]<d.hs[j])(cr:(Tm d.hs r.has).Nodup)(cu:d.hs.length≤900)(x0:0≤r.has)(x1:r.has≤255)(cL:(d.B r.has).length≤1000)(de:∀ k,(d.L r.has k).length≤1000):
  Calls Tryz.prog 69 #[.pointer (some ⟨bx,0,none⟩),Hi r] W fun e w'=>∃(T':Value) (m':KC),e=.returned (.tuple #[])∧IU base bx T' G gens m' (XU d r) w'∧Below base W w':=by
 have df:=h.sz;have ml:=Kf r.has 8;obtain⟨dJ,cv,cw,cx,cy⟩:=info_parts Q4;obtain⟨i3,dg,dh,di,dj⟩:=info_parts info3;obtain⟨gr,cM⟩:∃gr,gr=W.heap.size:=⟨_,rfl⟩;obtain⟨Wr,cg⟩:∃Wr,Wr=W.alloc (.cells (D' r).toArray 116):=⟨_,rfl⟩;have cN:Below W.heap.size W Wr:=by rw[cg];exact GF _ _
 have dk:=h.below cN;have cO:Wr.heap[gr]?=some (.cells (D' r).toArray 116 (0,0)):=by
  rw[cg,cM];show(W.heap.push _)[W.heap.size]?=_;simp
 have dl:=Ty base bx T G gens m d r.has Wr dk dd cu x0 x1;have dm:=fun W=>Qx r.has W x0 x1;have dn:=(Array.getElem?_eq_some_iff.1 cO).1;have cz:gr≠bx:=by have:=h.lt;omega
 have dp:T.ownBlock≠some gr:=fun e=>by have:=(h.ownT.lt gr e).2;omega
 have cA:W.alloc (.cells #[.int .i64 r.ix,.int .i64 r.gen,.int .i64 r.has,.int .i64 (r.v 0),.int .i64 (r.v 1),.int .i64 (r.v 2),.int .i64 (r.v 3),.int .i64 (r.v 4),.int .i64 (r.v 5),.int .i64 (r.v 6),.int .i64 (r.v 7)] 116)=Wr:=cg.symm;have hz:Below base W Wr:=cN.mono df;have dK:=An cA;have dL:=An cM;have dN:=An dm;have dq:=An cO;have dr:=An hz;have cB:=An cv;have cC:=An cw;have cD:=An cx;have cE:=An cy;have dO:=An dg;have dP:=An dh;have dQ:=An di;have dU:=An dj;have cP:=An de;have ds:=An cr;have ci:(gr<Wr.heap.size∧gr≠bx∧T.ownBlock≠some gr):=⟨dn,cz,dp⟩;clear cv cw cx cy dg dh di dj cg cA cN dk cO dm hz h dd cr de cM dn cz dp;unfold Hi;go_enter Tryz.func69,Tryz.ntmps69
 go_wp2_with fail
 go_at_call 105;rw[AN dK,←AN dL];refine dl.mono ?_;rintro e wa⟨i,T',m1,rfl,⟨hi,ht⟩,hF,cQ⟩;obtain⟨M,hA⟩:∃M:JQ,M=⟨Tm d.hs r.has,d.B,d.L⟩:=⟨_,rfl⟩;have cR:Tm d.hs r.has=M.hs:=by rw[hA]
 have cS:d.B=M.B:=by rw[hA]
 have cT:d.L=M.L:=by rw[hA]
 have cj:Hid (XU d r=LH ⟨M.hs,IL M.B r.has (M.B r.has++[(r.ix,r.gen)]),M.L⟩ r (F3 r.has)):=An (by rw[hA];rfl);rw[←hA]at hF;have cm:=AN ds;rw[cR]at cm;obtain⟨hB,cF⟩:∃hB:i<M.hs.length,M.hs[i]=r.has:=by
  clear cR cS cT cj hF cm;subst hA;exact⟨hi,ht⟩
 clear hi ht;obtain⟨hi,ht⟩:∃hB:i<M.hs.length,M.hs[i]=r.has:=⟨hB,cF⟩;clear hB cF;rw[cS]at cL;rw[cT]at cP;clear cR cS cT hA ds dl;obtain⟨U,ct,rfl,_,_⟩:=Gi hF.ownT (by omega);have hG:wa.heap[gr]?=some (.cells (D' r).toArray 116 (0,0)):=(cQ.2 gr ci.1 ci.2.1 ci.2.2).trans (AN dq);have dt:=An ((AN dr).trans cQ.1);clear dr ci dq cQ;obtain⟨b0,_⟩:=hF.cells;have i0:(0:Int)≤(i:Int):=by omega
 have i1:(i:Int)<(M.hs.length:Int):=by omega
 obtain⟨_,ta,tc,dV⟩:=hF.table hi ht;obtain⟨r0,r1,r2,_⟩:=Ks (MN hG);obtain⟨W0,hl⟩:∃W0,W0=wa.drew:=⟨_,rfl⟩;obtain⟨S,hS⟩:∃S,S=W0.heap.size:=⟨_,rfl⟩;obtain⟨W1,hn⟩:∃W1,W1=W0.alloc (.cells #[.int .i64 r.ix,.int .i64 r.gen] 61):=⟨_,rfl⟩;have H:Below wa.heap.size wa W1:=by rw[hn,hl];exact(Below.refl _ _).drew.alloc (Nat.le_refl _) _
 have hb:=hF.below H;have hH:W1.heap[gr]?=some (.cells (D' r).toArray 116 (0,0)):=(H.block gr (Array.getElem?_eq_some_iff.1 hG).1).trans hG;have hu:∀j u,[Value.int .i64 r.ix,.int .i64 r.gen][j]?=some u→W1.cell? ((⟨S,0,none⟩:Addr).add j)=some u:=by rw[hn,hS];exact Oh W0 _ _ 61
 obtain⟨g8,c8,W2,hP,du,hQ,dv⟩:=PS base 62 61 dJ _ 2 16 Tryz.underlying62 (AN cB) (AN cC) (AN cD) (AN cE) rfl (by decide) W1 (aV m1 M r.has) (M.B r.has).length (Fz (M.B r.has)) (hb.ownA r.has) ⟨S,0,none⟩ [.int .i64 r.ix,.int .i64 r.gen] rfl hu (Og _ _) cL (by decide) hb.sz;obtain⟨W3,he⟩:∃W3,W3=W2.setCell ⟨U,i*3+1,none⟩ (.slice (some ⟨g8,0,none⟩) ((M.B r.has).length+1) c8):=⟨_,rfl⟩;have hf:=hb.being cm hi ht rfl (r.ix,r.gen) hQ du dv;rw[←he]at hf;have hE:=hb.ownT.kept hQ (F1 hb.ownT (hb.ownA r.has) (by decide));have cG:Below base W1 W2:=F0 hQ (fun k e=>((hb.ownA r.has).lt k e).1) hb.sz;have ha:W2.heap[gr]?=some (.cells (D' r).toArray 116 (0,0)):=(hQ.block gr (Array.getElem?_eq_some_iff.1 hH).1 (fun e=>Ht (hb.ownA r.has) ⟨_,hH⟩ (by decide) e.symm)).trans hH;have cH:W3.heap[gr]?=some (.cells (D' r).toArray 116 (0,0)):=by
  rw[he,heap_setCell_other W2 ⟨U,i*3+1,none⟩ gr _ (fun e=>Ht hE ⟨_,ha⟩ (by decide) (by simpa[Value.ownBlock]using e.symm))];exact ha
 have hJ:base≤U:=(hb.ownT.lt U rfl).1;have hR:Below base W W3:=by
  rw[he];exact(((AN dt).trans (H.mono hF.sz)).trans cG).setCell (p:=⟨U,i*3+1,none⟩) hJ _
 have cU:W2.cell? ⟨U,i*3+1,none⟩=some (aV m1 M r.has):=by
  obtain⟨_,c1,_⟩:=KA (M.hs.map (tt m1 M)) i (by simpa using hi);simp only[List.getElem_map,ht]at c1;exact F4 hE c1
 have dw:W2.there U (i*3+1) 1:=Gx cU (fun j=>KP hE j);have hU:Hid (W1.cell? ⟨U,i*3+1,none⟩=some (aV m1 M r.has)∧W1.cell? ⟨gr,0,none⟩=some (.int .i64 r.ix)∧W1.cell? ⟨gr,1,none⟩=some (.int .i64 r.gen)):=An ⟨AW H ta,AW H r0,AW H r1⟩;have hV:Hid (W2.cell? ⟨U,i*3+1,none⟩=some (aV m1 M r.has)∧W2.cell? ⟨gr,0,none⟩=some (.int .i64 r.ix)∧W2.cell? ⟨gr,1,none⟩=some (.int .i64 r.gen)):=An ⟨cU,(Ks (MN ha)).1,(Ks (MN ha)).2.1⟩;have h3:XD (fun W=>W.cell? ⟨U,i*3+1,none⟩=some (aV m1 M r.has)∧W.cell? ⟨gr,0,none⟩=some (.int .i64 r.ix)∧W.cell? ⟨gr,1,none⟩=some (.int .i64 r.gen)) W0 W1 W2 W3 7 8 11 (fun _=>false) wa.drew:=by rw[←hl];exact XD.start (by rw[hl];exact⟨ta,r0,r1⟩)
 have hW:=An hn;have hX:=An hS;have hY:=An hP;have hZ:=An dw;have ca:=An he;have dx:=An hf;have hI:=An cH;have cI:=An hR;have ed:=An hJ;have hr:Hid (∃hB:i<M.hs.length,M.hs[i]=r.has):=An ⟨hi,ht⟩;clear hn hS hP dw he hf cH hR hJ hi ht hl H hb hH hu du hQ dv hE cG ha cU hF hG ta tc dV r0 r1 cL cm dt cB cC cD cE df cu;go_wp2_with fail
 refine FW (fun(γ:Unit)=>[.pointer (some ⟨U,i*3,none⟩),.pointer (some ⟨U,i*3,none⟩),.pointer (some ⟨U,i*3,none⟩),.pointer (some ⟨U,i*3+1,none⟩),aV m1 M r.has,.pointer (some ⟨gr,0,none⟩),.agg #[.int .i64 r.ix,.int .i64 r.gen],.slice (some ⟨S,0,none⟩) 1 1,.slice (some ⟨g8,0,none⟩) ((M.B r.has).length+1) c8,.pointer (some ⟨U,i*3,none⟩),.pointer (some ⟨U,i*3+1,none⟩),undef]) (fun(_:Unit) L W=>XD (fun W=>W.cell? ⟨U,i*3+1,none⟩=some (aV m1 M r.has)∧W.cell? ⟨gr,0,none⟩=some (.int .i64 r.ix)∧W.cell? ⟨gr,1,none⟩=some (.int .i64 r.gen)) W0 W1 W2 W3 7 8 11 L W) (()) (by kernel_rfl) (by kernel_rfl) (by kernel_rfl) (by kernel_rfl) h3 ?hstep ?hend3
 case hstep =>
  intro F γ hc J ix o D L w1 Z Y cd E;simp only[Hu,G9,true_and,and_true]at J;have e3:F.tmps.getD 3 undef=.pointer (some ⟨gr,0,none⟩):=hc 3 (by decide +kernel);have e5:F.tmps.getD 5 undef=.pointer (some ⟨U,i*3,none⟩):=hc 5 (by decide +kernel)
  match ix,D with
  |0,D|1,D|2,D|3,D|5,D|9,D|10,D =>
   simp at D;subst D;exact .inl ⟨rfl,FB γ _ (by simp[go_sem,Act.eval,-Array.getD_eq_getD_getElem?,J,e5,e3]) rfl Z (fun _ _ _=>rfl)⟩
  |4,D =>
   simp at D;subst D;have q8:L 8=false:=FA E Y 12 8 (by kernel_rfl);have hv:L 11=false:=FA E Y 12 11 (by kernel_rfl);have c0:=(Z.1 hv).1;exact .inl ⟨rfl,FB γ _ (by simp[go_sem,Act.eval,-Array.getD_eq_getD_getElem?,J,c0]) rfl Z (fun _ _ _=>rfl)⟩
  |6,D =>
   simp at D;subst D;have q7:L 7=false:=FA E Y 12 7 (by kernel_rfl);have q8:L 8=false:=FA E Y 12 8 (by kernel_rfl);have hv:L 11=false:=FA E Y 12 11 (by kernel_rfl);obtain⟨_,c0,c1⟩:=Z.1 hv;exact .inl ⟨rfl,FB γ _ (by simp[go_sem,Act.eval,-Array.getD_eq_getD_getElem?,J,c0,c1]) rfl Z (fun _ _ _=>rfl)⟩
  |7,D =>
   simp at D;subst D;have dW:F.tmps.getD 25 undef=.agg #[.int .i64 r.ix,.int .i64 r.gen]:=(by simp only[J]);have q8:L 8=false:=FA E Y 12 8 (by kernel_rfl);have hv:L 11=false:=FA E Y 12 11 (by kernel_rfl);obtain⟨hw,hx⟩:=Z.build Y q8 hv (by decide) (by decide) (AN hU);subst hw;refine .inl ⟨rfl,J' γ (.slice (some ⟨S,0,none⟩) 1 1) (w2:=W1) (by rw[AN hW,AN hX];simp[go_sem,Act.eval,-Array.getD_eq_getD_getElem?,dW]) rfl hx (fun _ _ _=>rfl)⟩
  |8,D =>
   simp at D;subst D;have hv:L 11=false:=FA E Y 12 11 (by kernel_rfl);have q7:L 7=true:=cd 7 (by kernel_rfl);obtain⟨hw,hx⟩:=Z.app q7 Y hv (by decide) (AN hV);subst hw;exact .inl ⟨rfl,K2 γ (.tmp 23) (.tmp 26) 62 rfl (aV m1 M r.has) (.slice (some ⟨S,0,none⟩) 1 1) (.slice (some ⟨g8,0,none⟩) ((M.B r.has).length+1) c8) (by simp[Act.eval,-Array.getD_eq_getD_getElem?,J]) (by simp[Act.eval,-Array.getD_eq_getD_getElem?,J]) (AN hY _) rfl hx (fun _ _ _=>rfl)⟩
  |11,D =>
   simp at D;subst D;have q8:L 8=true:=cd 8 (by kernel_rfl);obtain⟨hw,hx⟩:=Z.store q8 Y (by decide);subst hw;exact .inl ⟨rfl,K0 γ 62 (.tmp 29) (.tmp 27) rfl U (i*3+1) (.slice (some ⟨g8,0,none⟩) ((M.B r.has).length+1) c8) (by simp[Act.eval,-Array.getD_eq_getD_getElem?,J]) (by simp[Act.eval,-Array.getD_eq_getD_getElem?,J]) rfl aQ (AN hZ) rfl (by rw[←AN ca];exact hx) (fun _ _ _=>rfl)⟩
  |ix+12,D=>simp at D
 case hend3 =>
  intro γ L w5 Z hy;rw[Z.2.2.2 (hy 11 (by decide))];clear hy Z h3;simp only[GN,List.getElem?_cons_zero,List.getElem?_cons_succ,Option.bind_some,List.length_cons,List.length_nil,Nat.reduceAdd,List.getD_cons_zero,List.getD_cons_succ];go_frame;obtain⟨d2,hM⟩:∃d2:JQ,d2=⟨M.hs,IL M.B r.has (M.B r.has++[(r.ix,r.gen)]),M.L⟩:=⟨_,rfl⟩;have hf:=AN dx;rw[←hM]at hf;have cn:M.hs=d2.hs:=by rw[hM]
  have cW:M.L=d2.L:=by rw[hM]
  rw[←hM]at cj;obtain⟨dy,cJ⟩:∃hB:i<d2.hs.length,d2.hs[i]=r.has:=by
   clear cn cW cj hf;subst hM;exact⟨(AN hr).choose,(AN hr).choose_spec⟩
  rw[cn]at hf;rw[cW]at cP;rw[cn];clear hr;have hr:Hid (∃hB:i<d2.hs.length,d2.hs[i]=r.has):=An ⟨dy,cJ⟩;clear dy cJ;clear hM dx cW hU hV hW hX hY hZ ca;obtain⟨_,_,r2,_⟩:=Ks (MN (AN hI));obtain⟨m2,dz⟩:∃m2:KC,m2=⟨IL m1.A r.has (some ⟨g8,0,none⟩,c8),m1.C,m1.K⟩:=⟨_,rfl⟩;rw[←dz]at hf;have ce:=hf;have dA:Hid (r.has∈d2.hs):=An (by obtain⟨h1,h2⟩:=AN hr;rw[←h2];exact List.getElem_mem h1);clear hf dz cn;go_wp2_with((go_at_call 106;refine(AN dN _).mono ?_;rintro e w4⟨vh,rfl,hh,co⟩;obtain⟨Ah,ch,rfl⟩:=Hw hh;have hK:TK base bx gr (.slice (some ⟨U,0,none⟩) d2.hs.length ct) G gens m2 (LH d2 r 0) r (.slice Ah (FR r.has 8).length ch) (FR r.has 8) w4:=⟨by rw[ZX];exact ce.below co,(co.block gr (Array.getElem?_eq_some_iff.1 (AN hI)).1).trans (AN hI),Jt hh ce.sz,fun y k=>X8 hh (ce.ownK y k)⟩;have HK:=An hK;have dB:=An ((AN cI).trans (co.mono ce.sz));clear hK hh co ce hI cI r2))
  go_loopw [34] (fun x wr=>∃k:Nat,k≤(FR r.has 8).length∧x=.int .i64 (k:Int)∧∃m,TK base bx gr (.slice (some ⟨U,0,none⟩) d2.hs.length ct) G gens m (LH d2 r k) r (.slice Ah (FR r.has 8).length ch) (FR r.has 8) wr∧Below base W wr) (fun x _=>(FR r.has 8).length - (intOf x).toNat)
  case atStart=>exact⟨0,Nat.zero_le _,rfl,m2,AN HK,AN dB⟩
  case round =>
   clear HK dB;obtain⟨k,hk,rfl,m,hT,hz⟩:=hrel;by_cases cf:k<(FR r.has 8).length
   ·have k0:(0:Int)≤(k:Int):=(by omega);have k1:(k:Int)<((FR r.has 8).length:Int):=(by omega);have dX:(k:Int)<(F3 r.has:Int):=k1;obtain⟨p,hp,cp⟩:∃p:Nat,p<8∧(FR r.has 8).getD k 0=(p:Int):=by
     have hm:(FR r.has 8).getD k 0∈FR r.has 8:=by
      rw[List.getD_eq_getElem?_getD,List.getElem?_eq_getElem cf];exact List.getElem_mem cf
     generalize (FR r.has 8).getD k 0=z at *;unfold FR at hm;rw[List.mem_map]at hm;obtain⟨q,hq,e⟩:=hm;rw[List.mem_filter,List.mem_range]at hq;exact⟨q,hq.1,e.symm⟩
    have p0:(0:Int)≤(p:Int):=(by omega);have p1:(p:Int)<8:=(by omega);obtain⟨gh,ee,dC,_,_⟩:=Gi hT.held (by omega);simp only[Value.slice.injEq,true_and]at dC;obtain⟨dD,dY⟩:=dC;have dZ:wr.cell? ⟨gh,k,none⟩=some (.int .i64 (p:Int)):=by
     have hh:=hT.held;rw[dD]at hh;refine F4 hh ?_;unfold FD;rw[List.getElem?_map,List.getElem?_eq_getElem cf];rw[List.getD_eq_getElem?_getD,List.getElem?_eq_getElem cf]at cp;simpa using cp
    have hg:=AN dA;have cX:k<F3 r.has:=cf;obtain⟨gc,cc,hC,_,_⟩:=Gi (hT.ownC r.has hg) (by omega);obtain⟨_,_,tc,_⟩:=IU.table (d:=LH d2 r k) hT.toIU (i:=i) (AN hr).choose (AN hr).choose_spec;rw[hC]at tc;have cY:((List.range (F3 r.has)).map (m.K r.has))[k]?=some (m.K r.has k):=(by simp[cX]);have oC:=hT.ownC r.has hg;rw[hC]at oC;have ck:=F4 oC cY;have rv:=(MN hT.rb).v p hp;rw[Nat.zero_add]at rv;obtain⟨W0,hl⟩:∃W0,W0=wr.drew:=⟨_,rfl⟩;obtain⟨S,hS⟩:∃S,S=W0.heap.size:=⟨_,rfl⟩;obtain⟨W1,hn⟩:∃W1,W1=W0.alloc (.cells #[.int .i64 (r.v p)] 3):=⟨_,rfl⟩;have H:Below wr.heap.size wr W1:=(by rw[hn,hl];exact(Below.refl _ _).drew.alloc (Nat.le_refl _) _);have V:=hT.below H;have hu:∀j u,[Value.int .i64 (r.v p)][j]?=some u→W1.cell? ((⟨S,0,none⟩:Addr).add j)=some u:=(by rw[hn,hS];exact KU W0 _ 3);have cK:(LH d2 r k).L r.has k=d2.L r.has k:=if_neg (by simp);obtain⟨g9,c9,W2,hP,dE,hN,dF⟩:=PS base 23 3 i3 _ 1 8 Tryz.underlying23 (AN dO) (AN dP) (AN dQ) (AN dU) rfl (by decide) W1 (m.K r.has k) ((LH d2 r k).L r.has k).length (FD ((LH d2 r k).L r.has k)) (V.ownK r.has k) ⟨S,0,none⟩ [.int .i64 (r.v p)] rfl hu (by simp[Value.oneCell']) (by rw[cK];exact AN cP k) (by decide) V.sz;obtain⟨W3,he⟩:∃W3,W3=W2.setCell ⟨gc,k,none⟩ (.slice (some ⟨g9,0,none⟩) (((LH d2 r k).L r.has k).length+1) c9):=⟨_,rfl⟩;have cZ:=V.col hg cX hC (r.v p) hN dE dF;rw[←he,ZY d2 r k p cp]at cZ;have cq:=(V.ownC r.has hg).kept hN (F1 (V.ownC r.has hg) (V.ownK r.has k) (by decide));rw[hC]at cq;have da:=F4 cq cY;have hE:=V.ownT.kept hN (F1 V.ownT (V.ownK r.has k) (by decide));have dG:W2.cell? ⟨U,i*3+2,none⟩=some (.slice (some ⟨gc,0,none⟩) (F3 r.has) cc):=by
     obtain⟨_,_,c2⟩:=jx m (LH d2 r k) (i:=i) (AN hr).choose (AN hr).choose_spec;rw[←hC];exact F4 hE c2
    have ha:W2.heap[gr]?=some (.cells (D' r).toArray 116 (0,0)):=(hN.block gr (Array.getElem?_eq_some_iff.1 V.rb).1 (fun e=>Ht (V.ownK r.has k) ⟨_,V.rb⟩ (by decide) e.symm)).trans V.rb;have db:=(MN ha).v p hp;rw[Nat.zero_add]at db;have hJ:base≤gc:=(oC.lt gc rfl).1;have hR:Below base W W3:=by
     rw[he];exact((hz.trans (H.mono hT.sz)).trans (F0 hN (fun k' e=>((V.ownK r.has k).lt k' e).1) V.sz)).setCell (p:=⟨gc,k,none⟩) hJ _
    have hU:Hid (W1.cell? ⟨U,i*3+2,none⟩=some (.slice (some ⟨gc,0,none⟩) (F3 r.has) cc)∧W1.cell? ⟨gc,k,none⟩=some (m.K r.has k)∧W1.cell? ⟨gr,3+p,none⟩=some (.int .i64 (r.v p))):=An ⟨AW H tc,AW H ck,AW H rv⟩;have hV:Hid (W2.cell? ⟨U,i*3+2,none⟩=some (.slice (some ⟨gc,0,none⟩) (F3 r.has) cc)∧W2.cell? ⟨gc,k,none⟩=some (m.K r.has k)∧W2.cell? ⟨gr,3+p,none⟩=some (.int .i64 (r.v p))):=An ⟨dG,da,db⟩;have h7:XD (fun W=>W.cell? ⟨U,i*3+2,none⟩=some (.slice (some ⟨gc,0,none⟩) (F3 r.has) cc)∧W.cell? ⟨gc,k,none⟩=some (m.K r.has k)∧W.cell? ⟨gr,3+p,none⟩=some (.int .i64 (r.v p))) W0 W1 W2 W3 16 17 19 (fun _=>false) wr.drew:=(by rw[←hl];exact XD.start (by rw[hl];exact⟨tc,ck,rv⟩));have hZ:=An (Gx da (fun j=>KP cq j));have hW:=An hn;have hX:=An hS;have hY:=An hP;have ca:=An he;have ea:=An cZ;have dc:=An hR;clear hn hS hP he cZ hR hJ hl H V hu dE hN dF cq hE dG da ha db oC ck rv tc hz cp cK cY hg cX hC;subst dD dY;go_wp2_with fail
    refine FW (fun(γ:Unit)=>[.pointer (some ⟨U,i*3,none⟩),.pointer (some ⟨U,i*3,none⟩),.pointer (some ⟨U,i*3+2,none⟩),.slice (some ⟨gc,0,none⟩) (F3 r.has) cc,.int .i64 (k:Int),.pointer (some ⟨U,i*3,none⟩),.pointer (some ⟨U,i*3,none⟩),.pointer (some ⟨U,i*3+2,none⟩),.slice (some ⟨gc,0,none⟩) (F3 r.has) cc,.int .i64 (k:Int),.pointer (some ⟨gc,k,none⟩),m.K r.has k,.int .i64 (p:Int),.pointer (some ⟨gr,3,none⟩),.pointer (some ⟨gr,3+p,none⟩),.int .i64 (r.v p),.slice (some ⟨S,0,none⟩) 1 1,.slice (some ⟨g9,0,none⟩) (((LH d2 r k).L r.has k).length+1) c9,.pointer (some ⟨gc,k,none⟩),undef]) (fun(_:Unit) L W=>XD (fun W=>W.cell? ⟨U,i*3+2,none⟩=some (.slice (some ⟨gc,0,none⟩) (F3 r.has) cc)∧W.cell? ⟨gc,k,none⟩=some (m.K r.has k)∧W.cell? ⟨gr,3+p,none⟩=some (.int .i64 (r.v p))) W0 W1 W2 W3 16 17 19 L W) (()) (by kernel_rfl) (by kernel_rfl) (by kernel_rfl) (by kernel_rfl) h7 ?hstep ?hend7
    case hstep =>
     intro F γ hc J ix o D L w1 Z Y cd E;simp only[Hu,G9,true_and,and_true]at J;have e3:F.tmps.getD 3 undef=.pointer (some ⟨gr,0,none⟩):=hc 3 (by decide +kernel);have e5:F.tmps.getD 5 undef=.pointer (some ⟨U,i*3,none⟩):=hc 5 (by decide +kernel);have e6:F.tmps.getD 6 undef=.int .i64 (k:Int):=hc 6 (by decide +kernel);have e7:F.tmps.getD 7 undef=.int .i64 (p:Int):=hc 7 (by decide +kernel)
     match ix,D with
     |0,D|1,D|2,D|4,D|5,D|6,D|7,D|9,D|10,D|12,D|13,D|14,D|18,D =>
      simp at D;subst D;exact .inl ⟨rfl,FB γ _ (by simp[go_sem,Act.eval,-Array.getD_eq_getD_getElem?,J,e5,e6,k0,dX,e7,e3,p0,p1]) rfl Z (fun _ _ _=>rfl)⟩
     |3,D =>
      simp at D;subst D;have ef:L 18=false:=FA E Y 20 18 (by kernel_rfl);have hd:L 19=false:=FA E Y 20 19 (by kernel_rfl);have c0:=(Z.1 hd).1;exact .inl ⟨rfl,FB γ _ (by simp[go_sem,Act.eval,-Array.getD_eq_getD_getElem?,J,c0]) rfl Z (fun _ _ _=>rfl)⟩
     |8,D =>
      simp at D;subst D;have eg:L 10=false:=FA E Y 20 10 (by kernel_rfl);have hv:L 11=false:=FA E Y 20 11 (by kernel_rfl);have hO:L 17=false:=FA E Y 20 17 (by kernel_rfl);have hd:L 19=false:=FA E Y 20 19 (by kernel_rfl);have c0:=(Z.1 hd).1;exact .inl ⟨rfl,FB γ _ (by simp[go_sem,Act.eval,-Array.getD_eq_getD_getElem?,J,c0]) rfl Z (fun _ _ _=>rfl)⟩
     |11,D =>
      simp at D;subst D;have hO:L 17=false:=FA E Y 20 17 (by kernel_rfl);have hd:L 19=false:=FA E Y 20 19 (by kernel_rfl);have c0:=(Z.1 hd).2.1;exact .inl ⟨rfl,FB γ _ (by simp[go_sem,Act.eval,-Array.getD_eq_getD_getElem?,J,c0]) rfl Z (fun _ _ _=>rfl)⟩
     |15,D =>
      simp at D;subst D;have dI:L 16=false:=FA E Y 20 16 (by kernel_rfl);have hO:L 17=false:=FA E Y 20 17 (by kernel_rfl);have hd:L 19=false:=FA E Y 20 19 (by kernel_rfl);have c0:=(Z.1 hd).2.2;exact .inl ⟨rfl,FB γ _ (by simp[go_sem,Act.eval,-Array.getD_eq_getD_getElem?,J,c0]) rfl Z (fun _ _ _=>rfl)⟩
     |16,D =>
      simp at D;subst D;have eb:F.tmps.getD 54 undef=.int .i64 (r.v p):=(by simp only[J]);have hO:L 17=false:=FA E Y 20 17 (by kernel_rfl);have hd:L 19=false:=FA E Y 20 19 (by kernel_rfl);obtain⟨hw,hx⟩:=Z.build Y hO hd (by decide) (by decide) (AN hU);subst hw;refine .inl ⟨rfl,J' γ (.slice (some ⟨S,0,none⟩) 1 1) (w2:=W1) (by rw[AN hW,AN hX];simp[go_sem,Act.eval,-Array.getD_eq_getD_getElem?,eb]) rfl hx (fun _ _ _=>rfl)⟩
     |17,D =>
      simp at D;subst D;have hd:L 19=false:=FA E Y 20 19 (by kernel_rfl);have dI:L 16=true:=cd 16 (by kernel_rfl);obtain⟨hw,hx⟩:=Z.app dI Y hd (by decide) (AN hV);subst hw;exact .inl ⟨rfl,K2 γ (.tmp 50) (.tmp 55) 23 rfl (m.K r.has k) (.slice (some ⟨S,0,none⟩) 1 1) (.slice (some ⟨g9,0,none⟩) (((LH d2 r k).L r.has k).length+1) c9) (by simp[Act.eval,-Array.getD_eq_getD_getElem?,J]) (by simp[Act.eval,-Array.getD_eq_getD_getElem?,J]) (AN hY _) rfl hx (fun _ _ _=>rfl)⟩
     |19,D =>
      simp at D;subst D;have hO:L 17=true:=cd 17 (by kernel_rfl);obtain⟨hw,hx⟩:=Z.store hO Y (by decide);subst hw;exact .inl ⟨rfl,K0 γ 23 (.tmp 57) (.tmp 56) rfl gc k (.slice (some ⟨g9,0,none⟩) (((LH d2 r k).L r.has k).length+1) c9) (by simp[Act.eval,-Array.getD_eq_getD_getElem?,J]) (by simp[Act.eval,-Array.getD_eq_getD_getElem?,J]) rfl QR (AN hZ) rfl (by rw[←AN ca];exact hx) (fun _ _ _=>rfl)⟩
     |ix+20,D=>simp at D
    case hend7 =>
     intro γ L w5 Z hy;rw[Z.2.2.2 (hy 19 (by decide))];clear hy Z h7 hU hV hZ hW hX hY ca;simp only[GN,List.getElem?_cons_zero,List.getElem?_cons_succ,Option.bind_some,List.length_cons,List.length_nil,Nat.reduceAdd,List.getD_cons_zero,List.getD_cons_succ];go_frame;go_wp2;go_roundw
     case rel=>exact⟨k+1,by omega,by go_num,_,AN ea,AN dc⟩
     case measure=>simp[intOf];omega
   ·obtain rfl:k=(FR r.has 8).length:=(by omega);have dc:=An hz;clear hz;go_wp2;exact bodyPost_end (by simp[results,Tryz.results69,go_sem]<;>rfl) rfl ⟨_,m,rfl,by rw[AN cj];exact hT.toIU,AN dc⟩
end Go.Proofs.YtnbleebilmghcabGreat
