/- PFit, PChange, PPut -/
import Derived.Test.YtnbleebilmghcabGreatUAJ
set_option linter.all false
set_option maxHeartbeats 4000000
open Go.Value renaming int→I,slice→S,pointer→Ae,agg→Af,tuple→Ai,oneCell'→Ar
open Go.IntKind renaming i64→K
open Option renaming none→N,some→O
open Go.Obj renaming cells→Al
open Go.Operand renaming tmp→Am
open Go.Ending renaming returned→Ao
open Go.Proofs.Tryz renaming prog→Au
namespace Go.Proofs.YtnbleebilmghcabGreat
open Go Go.RowKit
def E'(X:Wd)(j:Nat):D7:=X.rows.getD j dR
structure FK(X:Wd):Prop where
 gl:X.gens.length≤60
 gv:∀j,j<X.gens.length→1≤X.gens.getD j 0∧X.gens.getD j 0≤1000
 rv:∀j,j<X.rows.length→N4 (E' X j)=true
 i0:∀j,j<X.rows.length→0≤(E' X j).ix
 il:∀j,j<X.rows.length→(E' X j).ix<(X.gens.length:Int)
 up:∀j,j+1<X.rows.length→(E' X j).ix<(E' X (j+1)).ix
 ge:∀j,j<X.rows.length→(E' X j).gen=X.gens.getD (E' X j).ix.toNat 0
theorem Uy(f:Nat→Int)(r:Int×Int):∀m j,(Xp f r m j).1=0↔r.1=0∧∀t,j≤t→t<j+m→1≤f t∧f t≤1000
 |0,j=>by
  unfold Xp;exact⟨fun h=>⟨h,fun t D E=>by omega⟩,fun h=>h.1⟩
 | m+1,j=>by
  unfold Xp;split
  ·rename_i F;refine⟨fun h=>by simp at h,fun⟨_,h⟩=>?_⟩;have:=h j (by omega) (by omega);omega
  ·rename_i F;rw[Uy f r m (j+1)];refine⟨fun⟨D,E⟩=>⟨D,fun t H J=>?_⟩,fun⟨D,E⟩=>⟨D,fun t H J=>E t (by omega) (by omega)⟩⟩;by_cases e:t=j
   ·subst e;omega
   ·exact E t (by omega) (by omega)
theorem UV(R:Nat→D7)(E:Nat)(f:Nat→Int):∀m j,(Rv R E f m j).1=0↔∀t,j≤t→t<j+m→Mk R E f t=0
 |0,j=>by
  unfold Rv;exact⟨fun _ t F H=>by omega,fun _=>rfl⟩
 | m+1,j=>by
  unfold Rv;split
  ·rename_i D;rw[UV R E f m (j+1)];refine⟨fun h t F H=>?_,fun h t F H=>h t (by omega) (by omega)⟩;by_cases e:t=j
   ·subst e;exact D
   ·exact h t (by omega) (by omega)
  ·rename_i D;exact⟨fun h=>absurd h D,fun h=>absurd (h j (by omega) (by omega)) D⟩
theorem P'(R:Nat→D7)(D:Nat)(f:Nat→Int)(j:Nat):Mk R D f j=0↔N4 (R j)=true∧0≤(R j).ix∧(R j).ix<(D:Int)∧(0<j→(R (j - 1)).ix<(R j).ix)∧(R j).gen=f (R j).ix.toNat:=by
 unfold Mk;split
 ·rename_i h;constructor
  ·intro E;omega
  ·rintro⟨a,b,c,_⟩;rcases h with h|h|h
   ·rw[a]at h;cases h
   ·omega
   ·omega
 ·rename_i h;have J:N4 (R j)=true:=by cases e:N4 (R j)<;>simp_all
  have E:0≤(R j).ix∧(R j).ix<(D:Int):=by
   constructor
   ·exact Int.not_lt.1 fun e=>h (.inr (.inl e))
   ·exact Int.not_le.1 fun e=>h (.inr (.inr e))
  split
  ·rename_i F;refine⟨fun e=>by omega,fun⟨_,_,_,e,_⟩=>?_⟩;have:=e F.1;omega
  ·rename_i F;split
   ·rename_i H;exact⟨fun _=>⟨J,E.1,E.2,fun e=>Int.not_le.1 fun L=>F ⟨e,L⟩,H⟩,fun _=>rfl⟩
   ·rename_i H;exact⟨fun e=>by omega,fun⟨_,_,_,_,e⟩=>absurd e H⟩
theorem F7(X:Wd):(FP X).1=0↔FK X:=by
 unfold FP Hk;split
 ·rename_i h;exact⟨fun e=>by simp at e,fun e=>by have:=e.gl;omega⟩
 ·rename_i h;rw[Uy,UV];constructor
  ·rintro⟨J,L⟩;have H:∀j,j<X.rows.length→_:=fun j D=>(P' _ _ _ j).1 (J j Fw (by omega));exact⟨by omega,fun j D=>L j Fw (by omega),fun j D=>(H j D).1,fun j D=>(H j D).2.1,fun j D=>(H j D).2.2.1,fun j D=>(H (j+1) D).2.2.2.1 (by omega),fun j D=>(H j D).2.2.2.2⟩
  ·intro F;refine⟨fun t _ M=>(P' _ _ _ t).2 ?_,fun t _ M=>F.gv t (by omega)⟩;have E:t<X.rows.length:=(by omega);refine⟨F.rv t E,F.i0 t E,F.il t E,fun h0=>?_,F.ge t E⟩;obtain⟨s,rfl⟩:∃s,t=s+1:=⟨t - 1,by omega⟩;exact F.up s E
theorem FK.lt{X:Wd}(h:FK X):∀d i,i+d+1<X.rows.length→(E' X i).ix<(E' X (i+d+1)).ix
 |0,i,hi=>h.up i hi
 |d+1,i,hi=>Int.lt_trans (h.lt d i (by omega)) (h.up (i+d+1) hi)
theorem FK.lt'{X:Wd}(h:FK X){i j:Nat}(D:i<j)(E:j<X.rows.length):(E' X i).ix<(E' X j).ix:=by
 have:=h.lt (j - i - 1) i (by omega);rwa[show i+(j - i - 1)+1=j by omega]at this
theorem FK.one{X:Wd}(h:FK X){i j:Nat}(D:i<X.rows.length)(E:j<X.rows.length)(e:(E' X i).ix=(E' X j).ix):i=j:=by
 rcases CM i j with l|l|l
 ·have:=h.lt' l E;omega
 ·exact l
 ·have:=h.lt' l D;omega
theorem FK.ge_ix{X:Wd}(h:FK X):∀j,j<X.rows.length→(j:Int)≤(E' X j).ix
 |0,hj=>by have:=h.i0 0 hj;omega
 |j+1,hj=>by have:=h.ge_ix j (by omega);have:=h.up j hj;omega
theorem FK.len{X:Wd}(h:FK X):X.rows.length≤X.gens.length:=by
 rcases DX X.rows.length with e|e
 ·omega
 ·have D:=h.ge_ix (X.rows.length - 1) (by omega);have E:=h.il (X.rows.length - 1) (by omega);omega
theorem GD{X:Wd}(h:(FP X).1=0):X.rows.length≤60∧X.gens.length≤60∧∀j,j<X.gens.length→1≤X.gens.getD j 0:=by
 have D:=(F7 X).1 h;have:=D.len;have:=D.gl;exact⟨by omega,D.gl,fun j E=>(D.gv j E).1⟩
theorem NT{X:Wd}(h:(FP X).1=0):X.rows.length*88≤140737488355328∧X.gens.length*8≤140737488355328:=by
 obtain⟨D,E,_⟩:=GD h;omega
set_option maxRecDepth 8000
attribute [local go_sem ↓] Go.wp_at_zero Go.wp_at_succ
theorem F8:(Au.info? 43).map (·.size)=O 2:=by kernel_rfl
def OH(X:Wd)(i g:Int)(C:D7→D7×Bool×Int):Int×Wd :=
 if(FP X).1≠0 then((FP X).1,FL)else if Ga X i g<0 then(5,FL)else
  if(C (X.rows.getD (Ga X i g).toNat dR)).2.2≠0 then((C (X.rows.getD (Ga X i g).toNat dR)).2.2,FL)else(0,⟨X.rows.set (Ga X i g).toNat (C (X.rows.getD (Ga X i g).toNat dR)).1,X.gens⟩)
structure CW(w:World)(u0 u1:Value)(i g:Int)(y0 y1:Value)(W:World):Prop where
 bel:Below w.heap.size w W
 sz:w.heap.size+3≤W.heap.size
 r0:W.cell? ⟨w.heap.size,0,N⟩=O u0
 r1:W.cell? ⟨w.heap.size,1,N⟩=O u1
 s0:W.cell? ⟨w.heap.size+1,0,N⟩=O (I K i)
 s1:W.cell? ⟨w.heap.size+1,1,N⟩=O (I K g)
 t0:W.cell? ⟨w.heap.size+2,0,N⟩=O y0
 t1:W.cell? ⟨w.heap.size+2,1,N⟩=O y1
 f:∀i,W.frozen? ⟨w.heap.size+2,i,N⟩=false
section
variable {w W W1:World} {u0 u1:Value} {i g:Int} {y0 y1:Value}
theorem CW.keep(h:CW w u0 u1 i g y0 y1 W)(D:Below (w.heap.size+3) W W1):CW w u0 u1 i g y0 y1 W1 :=
 ⟨h.bel.trans (D.mono (by omega)),AU h.sz D.size,(D.cell (p:=⟨w.heap.size,0,N⟩) (by simp)).trans h.r0,(D.cell (p:=⟨w.heap.size,1,N⟩) (by simp)).trans h.r1,(D.cell (p:=⟨w.heap.size+1,0,N⟩) (by simp)).trans h.s0,(D.cell (p:=⟨w.heap.size+1,1,N⟩) (by simp)).trans h.s1,
  (D.cell (p:=⟨w.heap.size+2,0,N⟩) (by simp)).trans h.t0,(D.cell (p:=⟨w.heap.size+2,1,N⟩) (by simp)).trans h.t1,fun i=>(D.frozen (p:=⟨w.heap.size+2,i,N⟩) (by simp)).trans (h.f i)⟩
theorem CW.below(h:CW w u0 u1 i g y0 y1 W)(D:Below W.heap.size W W1):CW w u0 u1 i g y0 y1 W1:=h.keep (D.mono h.sz)
theorem CW.there(h:CW w u0 u1 i g y0 y1 W):W.there (w.heap.size+2) 0 2:=fun j D=>by
 rcases(by omega:j=0∨j=1)with rfl|rfl
 ·exact⟨by rw[AT,h.t0];rfl,h.f _⟩
 ·exact⟨by rw[AT,h.t1];rfl,h.f _⟩
theorem CW.give(h:CW w u0 u1 i g y0 y1 W)(D E:Value):CW w u0 u1 i g D E (W.setCells (w.heap.size+2) 0 [D,E]):=by
 have o:∀p:Addr,p.block≠w.heap.size+2→(W.setCells (w.heap.size+2) 0 [D,E]).cell? p=W.cell? p:=fun p H=>FZ H;have s:=fun j F=>Cv (w.heap.size+2) [D,E] 0 W (fun j F=>(h.there j F).1) j F;refine⟨Bv (w.heap.size+2) (by omega) [D,E] 0 W h.bel,by rw[Gk];exact h.sz,(o _ (by simp)).trans h.r0,(o _ (by simp)).trans h.r1,(o _ (by simp)).trans h.s0,(o _ (by simp)).trans h.s1,s 0 (by simp),s 1 (by simp),fun i=>by rw[BP];exact h.f i⟩
end
theorem CW.start(w:World)(u0 u1:Value)(i g:Int):CW w u0 u1 i g (S N 0 0) (S N 0 0) (((w.alloc (Al #[u0,u1] 43)).alloc (Al #[I K i,I K g] 61)).alloc (Al #[S N 0 0,S N 0 0] 43)):=by
 obtain⟨w1,h⟩:∃W,W=w.alloc (Al #[u0,u1] 43):=⟨_,rfl⟩;have J:w1.heap.size=w.heap.size+1:=by rw[h];simp
 have H:Below w.heap.size w w1:=by rw[h];exact Fv.alloc Fu _
 have L:w1.cell? ⟨w.heap.size,0,N⟩=O u0:=by rw[h];simp
 have M:w1.cell? ⟨w.heap.size,1,N⟩=O u1:=by rw[h];simp
 rw[←h];clear h;obtain⟨w2,D⟩:∃W,W=w1.alloc (Al #[I K i,I K g] 61):=⟨_,rfl⟩;have U:w2.heap.size=w.heap.size+2:=by rw[D];simp;omega
 have F:Below w1.heap.size w1 w2:=by rw[D];exact Fv.alloc Fu _
 have V:w2.cell? ⟨w.heap.size+1,0,N⟩=O (I K i):=by rw[D,←J];simp
 have Y:w2.cell? ⟨w.heap.size+1,1,N⟩=O (I K g):=by rw[D,←J];simp
 rw[←D];clear D;have E:Below w2.heap.size w2 (w2.alloc (Al #[S N 0 0,S N 0 0] 43)):=Fv.alloc Fu _;refine⟨(H.trans (F.mono H.size)).trans (E.mono (AU H.size F.size)),by simp;omega,AW E (AW F L),AW E (AW F M),AW E V,AW E Y,?_,?_,fun i=>?_⟩<;>rw[←U]<;>simp[go_sem]
theorem bE(A:Option Addr)(E:Nat)(h:List D7)(G:Option Addr)(D:Nat)(gens:List Int)(w:World)(Z:h.length*88≤140737488355328)(U:gens.length*8≤140737488355328)(hR:Lc w A h)(hG:JE w G gens):
  Calls Au 149 #[FF A h.length E G gens.length D] w fun e F=>∃H J L M,e=Ao (Af #[S H h.length J,S L gens.length M])∧F.ownsRow (w.heap.size+2) 116 11 (S H h.length J) h.length (At h)∧F.ownsRow (w.heap.size+2) 3 1 (S L gens.length M) gens.length (FD gens)∧Below w.heap.size w F :=
 (fy A E h G D gens w Z U hR hG).mono fun e F ⟨v5,v8,he,V,Y,hb⟩=>by
  obtain⟨H,J,rfl⟩:=Hw V;obtain⟨L,M,rfl⟩:=Hw Y;exact⟨H,J,L,M,he,V,Y,hb⟩
theorem Qn(k:Nat)(A:Option Addr)(E:Nat)(h:List D7)(G:Option Addr)(D:Nat)(gens:List Int)(w:World)(hk:k<h.length)(Y:h.length*88≤140737488355328)(M:gens.length*8≤140737488355328)(Z:Lc w A h)(hG:JE w G gens):
  Calls Au 149 #[FF A h.length E G gens.length D] w fun e F=>∃B g H J L,w.heap.size≤B∧e=Ao (Af #[S (O ⟨g,0,N⟩) h.length H,S J gens.length L])∧F.ownsRow B 116 11 (S (O ⟨g,0,N⟩) h.length H) h.length (At h)∧F.ownsRow B 3 1 (S J gens.length L) gens.length (FD gens)∧Below w.heap.size w F :=
 (bE A E h G D gens w Y M Z hG).mono fun e F ⟨A5,H,J,L,he,U,h8,hb⟩=>by
  obtain⟨g,c,V,_⟩:=Gi U (by omega);simp only[A9,Br]at V;obtain⟨rfl,rfl⟩:=V;exact⟨w.heap.size+2,g,H,J,L,by omega,he,U,h8,hb⟩
theorem iV{D E:World}{F o:Nat}{vs:List Value}{u0 u1:Value}{t:TypeId}(h:E=(D.alloc (Al #[u0,u1] t)).setCells F o vs)(H:F<D.heap.size):E.cell? ⟨D.heap.size,0,N⟩=O u0∧E.cell? ⟨D.heap.size,1,N⟩=O u1:=by
 subst h;exact⟨(FZ (by simp;omega)).trans (by simp),(FZ (by simp;omega)).trans (by simp)⟩
theorem gY{w W W1:World}{u0 u1 y0 y1:Value}{i g:Int}{D o:Nat}{vs:List Value}{B:Nat}(h:CW w u0 u1 i g y0 y1 W)(E:W1=W.setCells D o vs)(F:B≤D)(H:w.heap.size+3≤B):CW w u0 u1 i g y0 y1 W1:=by
 subst E;exact h.keep (Bv D (by omega) vs o W Fv)
theorem JW{D b:Nat}{e:TypeId}{E n:Nat}{v:Value}{F:List Value}(H:v.ownBlock≠O b):∀(vs:List Value) (o:Nat) (W:World),W.ownsRow D e E v n F→(W.setCells b o vs).ownsRow D e E v n F
 |[],_,_,h=>h
 |u :: r,o,_,h=>JW H r (o+1) _ (B7 h (a:=⟨b,o,N⟩) H u)
theorem bF{v:Value}{g n c:Nat}(h:v.ownBlock=N∨v.ownBlock≠(S (O ⟨g,0,N⟩) n c).ownBlock):v.ownBlock≠O g:=by
 rcases h with h|h
 ·rw[h];simp
 ·exact h
structure Gv(B:Nat)(w:World)(A:Option Addr)(cap:Nat)(G:Option Addr)(gcap:Nat)(X:Wd):Prop extends FX w A cap G gcap X where
 fa:∀c o,A=O ⟨c,o,N⟩→B≤c
 fg:∀c o,G=O ⟨c,o,N⟩→B≤c
theorem Mx(w:World):FX w N 0 N 0 FL:=⟨fun j h=>by simp[FL]at h,fun j h=>by simp[FL]at h⟩
theorem Ha(B:Nat)(w:World):Gv B w N 0 N 0 FL:=⟨Mx w,fun _ _ h=>(by cases h),fun _ _ h=>(by cases h)⟩
theorem Hf{W:World}{D B:Nat}{e:TypeId}{E n:Nat}{A:Option Addr}{c:Nat}{F:List Value}(h:W.ownsRow D e E (S A n c) n F)(H:B≤D):∀b o,A=O ⟨b,o,N⟩→B≤b:=fun b o e=>by
 subst e;exact AU H (h.lt b R).1
theorem Gv.below{B:Nat}{w w1:World}{A:Option Addr}{E:Nat}{G:Option Addr}{D:Nat}{X:Wd}(h:Gv B w A E G D X)(F:Below w.heap.size w w1):Gv B w1 A E G D X:=⟨h.toFX.below F,h.fa,h.fg⟩
theorem XF(A:Option Addr)(hl:Nat)(G:Option Addr)(M:Nat)(X:Wd)(i g:Int)(C:D7→D7×Bool×Int)(bp bn:Nat)(w:World)(cm:X.rows.length≤9223372036854775807)(hX:FX w A hl G M X)
  (hQ:∀x,(C x).2.1=decide ((C x).2.2=0)) (hC:∀W,Below w.heap.size w W→∀x,Calls Au 142 #[Hi x,Ae (O ⟨bp,0,N⟩),Ae (O ⟨bn,0,N⟩)] W fun e w'=>e=Ao (VV (C x))∧Below W.heap.size W w'):
  Calls Au 140 #[Up A hl G M X,FJ i g,.func (.func 142) #[] #[Ae (O ⟨bp,0,N⟩),Ae (O ⟨bn,0,N⟩)]] w fun e w'=>∃A' c' G' hR,e=Ao (Ai #[Up A' c' G' hR (OH X i g C).2,I K (OH X i g C).1])∧Gv w.heap.size w' A' c' G' hR (OH X i g C).2∧Below w.heap.size w w':=by
 have hS:=CW.start w (S A X.rows.length hl) (S G X.gens.length M) i g;have hP:=fun W (hb:Below w.heap.size w W)=>J2 A X.rows.length hl G X.gens.length M (fun j=>X.rows.getD j dR) (fun j=>X.gens.getD j 0) W (by omega) (hX.rows.below hb) (hX.gens.below hb);have eW:Hk (fun j=>X.rows.getD j dR) X.rows.length X.gens.length (fun j=>X.gens.getD j 0)=FP X:=rfl;rw[eW]at hP;unfold Gr FF at hP;have hF:=fun W (hb:Below w.heap.size w W)=>On A X.rows.length hl (fun j=>X.rows.getD j dR) i g W (by omega) (hX.rows.below hb);have eF:Mt (fun j=>X.rows.getD j dR) i g X.rows.length 0=Ga X i g:=rfl;rw[eF]at hF;unfold FJ at hF;have HP:=An hP;have HF:=An hF;have HX:=An hX;have U:=An hS;have hT:=An hC;have hU:=An hQ;clear hP hF hS hC hQ eW eF hX;unfold OH;unfold Up FF FJ;by_cases hm:(FP X).1=0
 ·rw [AA (by simpa using hm)];obtain⟨hn,ch⟩:=NT hm;rw[hm]at HP;generalize (FP X).2=wa at *;rcases Lz (fun j=>X.rows.getD j dR) i g X.rows.length 0 with hf|⟨k,_,hk,hf,hi⟩
  ·have hp:Ga X i g=-1:=hf;rw[hp]at HF⊢;rw[AF (by decide)];unfold FL;clear hf hp hm;go_enter Tryz.func140,Tryz.ntmps140
   go_wp2_with(first
    |(go_at_call 35;refine(AN HP _ (AN U).bel).mono ?_;rintro e w5⟨rfl,H⟩;have E:=(AN U).below H;have D:=E.below (Fv.alloc Fu (Al #[I K 0,I K wa] 29));have r0:=D.r0;have r1:=D.r1;have s0:=D.s0;have s1:=D.s1;have V:=An D;clear H E D)
    |(go_at_call 144;refine(AN HF _ (AN V).bel).mono ?_;rintro e w7⟨rfl,Y⟩;have F:=(AN V).below Y;have Z:=An F;clear Y F r0 r1 s0 s1)
    |(refine As R 43 (Am 6) (Am 28) R (w.heap.size+2) 0 [S N 0 0,S N 0 0] R R (by simp[Ar]) F8 (AN Z).there ?_;intro W3 hq;have ha:=(AN Z).give (S N 0 0) (S N 0 0);rw[←hq]at ha;have hc:=An ha;clear hq ha))
   have t0:=(AN hc).t0;have t1:=(AN hc).t1;refine AG (by simp[results,Tryz.results140,go_sem,t0,t1]<;>rfl) R ⟨N,0,N,0,rfl,Ha _ _,(AN hc).bel⟩
  ·have hp:Ga X i g=(k:Int):=hf;have hM:k<X.rows.length:=(by omega);rw[hp]at HF⊢;rw[AA (by omega:¬ (k:Int)<0),Bi];have cn:(0:Int)≤(k:Int):=(by omega);have co:(k:Int)<(X.rows.length:Int):=(by omega);have cp:¬ (k:Int)<0:=(by omega);obtain⟨b,hV,hA,hg⟩:=(AN HX).rows k hM;subst hA;have hg:Hb w b (hV+k*11) (X.rows.getD k dR):=hg;have hG:=An hg;have hN:=An (fun W hW=>AN hT W hW (X.rows.getD k dR));have hE:=AN hU (X.rows.getD k dR);have hH:=An (fun W (hb:Below w.heap.size w W)=>Qn k (O ⟨b,hV,N⟩) hl X.rows G M X.gens W hM hn ch ((AN HX).rows.below hb) ((AN HX).gens.below hb));have hI:=An (Fy X.rows);have hY:=An (N3 X.rows k (C (X.rows.getD k dR)).1 hM);clear hg hf hp hi hm hT hU HX;generalize X.rows.getD k dR=x at *;unfold VV at hN;unfold FF at hH;generalize C x=y at *;obtain⟨y,st,er⟩:=y;dsimp only at *;by_cases he:er=0
   ·have hO:st=true:=(by rw[hE];simpa using he);clear hE;subst hO;subst he;rw[AA (by simp)];unfold Hi at *;go_enter Tryz.func140,Tryz.ntmps140
    go_wp2_with(first
     |(go_at_call 35;refine(AN HP _ (AN U).bel).mono ?_;rintro e w5⟨rfl,H⟩;have E:=(AN U).below H;have D:=E.below (Fv.alloc Fu (Al #[I K 0,I K wa] 29));have r0:=D.r0;have r1:=D.r1;have s0:=D.s0;have s1:=D.s1;have V:=An D;clear H E D)
     |(go_at_call 144;refine(AN HF _ (AN V).bel).mono ?_;rintro e w7⟨rfl,Y⟩;have F:=(AN V).below Y;have h:=(AN hG).below F.bel;clear r0 r1 s0 s1;have r0:=F.r0;have r1:=F.r1;have c0:=h.c0;have c1:=h.c1;have c2:=h.c2;have c3:=h.v 0 (by omega);have c4:=h.v 1 (by omega);have c5:=h.v 2 (by omega);have c6:=h.v 3 (by omega);have c7:=h.v 4 (by omega);have c8:=h.v 5 (by omega);have c9:=h.v 6 (by omega);have hd:=h.v 7 (by omega);simp only[Bt,Nat.reduceAdd]at c3 c4 c5 c6 c7 c8 c9 hd;simp only[←Bt]at c3 c4 c5 c6 c7 c8 c9 hd;have Z:=An F;clear Y F h)
     |(go_at_call 142;refine(AN hN _ (AN Z).bel).mono ?_;rintro e w9⟨rfl,hr⟩;have hs:=(AN Z).below hr;have J:=hs.below (Fv.alloc Fu (Al #[I K y.ix,I K y.gen,I K y.has,I K (y.v 0),I K (y.v 1),I K (y.v 2),I K (y.v 3),I K (y.v 4),I K (y.v 5),I K (y.v 6),I K (y.v 7)] 116));clear r0 r1 c0 c1 c2 c3 c4 c5 c6 c7 c8 c9 hd;have r0:=J.r0;have r1:=J.r1;have L:=An J;clear hr hs J)
     |(go_at_call 149;refine(AN hH _ (AN L).bel).mono ?_;rintro e cq⟨B,g5,c5,A8,c8,hB,rfl,ht,hu,hv⟩;have hZ:=AU (AN L).sz hB;clear hB;clear r0 r1;have hy:=(((Me w9 y 116).1).below hv).below (Fv.alloc Fu (Al #[S (O ⟨g5,0,N⟩) X.rows.length c5,S A8 X.gens.length c8] 43));have d0:=hy.c0;have d1:=hy.c1;have d2:=hy.c2;have d3:=hy.v 0 (by omega);have d4:=hy.v 1 (by omega);have d5:=hy.v 2 (by omega);have d6:=hy.v 3 (by omega);have d7:=hy.v 4 (by omega);have d8:=hy.v 5 (by omega);have d9:=hy.v 6 (by omega);have ca:=hy.v 7 (by omega);simp only[AT,Nat.reduceAdd]at d0 d1 d2 d3 d4 d5 d6 d7 d8 d9 ca;have ho:=An ht;have cc:=An hu;have hJ:=An (((AN L).below hv).below (Fv.alloc Fu (Al #[S (O ⟨g5,0,N⟩) X.rows.length c5,S A8 X.gens.length c8] 43)));clear ht hu hv hy)
     |(refine As R 116 (Am 60) (Am 59) R g5 (k*11) (D' y) R R (F9 y) N2 (Hl ((AN ho).alloc _) (k*11) 11 (by rw[AN hI];omega)) ?_;intro cr hw;have hx:=iV hw ((AN ho).lt g5 R).2;have e0:=hx.1;have e1:=hx.2;have hh:=An hw;clear d0 d1 d2 d3 d4 d5 d6 d7 d8 d9 ca hx hw)
     |(refine As R 43 (Am 6) (Am 61) R (w.heap.size+2) 0 [S (O ⟨g5,0,N⟩) X.rows.length c5,S A8 X.gens.length c8] R R (by simp[Ar]) F8 (gY (AN hJ) (AN hh) ((AN ho).lt g5 R).1 hZ).there ?_;intro cd hK;have hD:=An hK;clear hK))
    have ci:=(AN ho).lt g5 R;have hj:=(gY (AN hJ) (AN hh) ci.1 hZ).give (S (O ⟨g5,0,N⟩) X.rows.length c5) (S A8 X.gens.length c8);rw[←AN hD]at hj;have t0:=hj.t0;have t1:=hj.t1;have hL:(X.rows.set k y).length=X.rows.length:=By;have ht:cd.ownsRow B 116 11 (S (O ⟨g5,0,N⟩) (X.rows.set k y).length c5) (X.rows.set k y).length (At (X.rows.set k y)):=by
     rw[AN hD];refine Gg (by omega) _ _ _ ?_;rw[AN hh,←AN hY,hL];exact Ib (D' y) (k*11) _ _ ((AN ho).alloc _) (by rw[AN hI,F2];omega)
    have hu:cd.ownsRow B 3 1 (S A8 X.gens.length c8) X.gens.length (FD X.gens):=by
     rw[AN hD];refine Gg (by omega) _ _ _ ?_;rw[AN hh];refine JW ?_ _ _ _ ((AN cc).alloc _);exact bF (F1 (AN cc) (AN ho) (by decide))
    obtain⟨A1,c1,ce,cj⟩:=JG ht;obtain⟨A2,c2,cf,ck⟩:=J8 hu;simp only[A9,Br]at ce cf;obtain⟨rfl,rfl⟩:=ce;obtain⟨rfl,rfl⟩:=cf;refine AG (by simp[results,Tryz.results140,go_sem,t0,t1]<;>rfl) R ⟨O ⟨g5,0,N⟩,c5,A8,c8,by rw[hL],⟨⟨cj,ck⟩,Hf ht (by omega),Hf hu (by omega)⟩,hj.bel⟩
   ·have hO:st=false:=(by rw[hE];simpa using he);clear hE;subst hO;rw[AF (by simpa using he)];unfold Hi at *;unfold FL;go_enter Tryz.func140,Tryz.ntmps140
    go_wp2_with(first
     |(go_at_call 35;refine(AN HP _ (AN U).bel).mono ?_;rintro e w5⟨rfl,H⟩;have E:=(AN U).below H;have D:=E.below (Fv.alloc Fu (Al #[I K 0,I K wa] 29));have r0:=D.r0;have r1:=D.r1;have s0:=D.s0;have s1:=D.s1;have V:=An D;clear H E D)
     |(go_at_call 144;refine(AN HF _ (AN V).bel).mono ?_;rintro e w7⟨rfl,Y⟩;have F:=(AN V).below Y;have h:=(AN hG).below F.bel;clear r0 r1 s0 s1;have r0:=F.r0;have r1:=F.r1;have c0:=h.c0;have c1:=h.c1;have c2:=h.c2;have c3:=h.v 0 (by omega);have c4:=h.v 1 (by omega);have c5:=h.v 2 (by omega);have c6:=h.v 3 (by omega);have c7:=h.v 4 (by omega);have c8:=h.v 5 (by omega);have c9:=h.v 6 (by omega);have hd:=h.v 7 (by omega);simp only[Bt,Nat.reduceAdd]at c3 c4 c5 c6 c7 c8 c9 hd;simp only[←Bt]at c3 c4 c5 c6 c7 c8 c9 hd;have Z:=An F;clear Y F h)
     |(go_at_call 142;refine(AN hN _ (AN Z).bel).mono ?_;rintro e w9⟨rfl,hr⟩;have hs:=(AN Z).below hr;have J:=hs.below (Fv.alloc Fu (Al #[I K y.ix,I K y.gen,I K y.has,I K (y.v 0),I K (y.v 1),I K (y.v 2),I K (y.v 3),I K (y.v 4),I K (y.v 5),I K (y.v 6),I K (y.v 7)] 116));clear r0 r1 c0 c1 c2 c3 c4 c5 c6 c7 c8 c9 hd;have L:=An J;clear hr hs J)
     |(refine As R 43 (Am 6) (Am 42) R (w.heap.size+2) 0 [S N 0 0,S N 0 0] R R (by simp[Ar]) F8 (AN L).there ?_;intro W3 hq;have ha:=(AN L).give (S N 0 0) (S N 0 0);rw[←hq]at ha;have hc:=An ha;clear hq ha))
    have t0:=(AN hc).t0;have t1:=(AN hc).t1;refine AG (by simp[results,Tryz.results140,go_sem,t0,t1]<;>rfl) R ⟨N,0,N,0,rfl,Ha _ _,(AN hc).bel⟩
 ·rw[AF hm];generalize (FP X).2=wa at *;generalize (FP X).1=we at *;unfold FL;go_enter Tryz.func140,Tryz.ntmps140
  go_wp2_with(first
   |(go_at_call 35;refine(AN HP _ (AN U).bel).mono ?_;rintro e w5⟨rfl,H⟩;have E:=(AN U).below H;have hz:w.heap.size+1+1<w5.heap.size:=E.sz;have t0:w5.cell? ⟨w.heap.size+1+1,0,N⟩=O (S N 0 0):=E.t0;have t1:w5.cell? ⟨w.heap.size+1+1,1,N⟩=O (S N 0 0):=E.t1;have f0:w5.frozen? ⟨w.heap.size+1+1,0,N⟩=false:=E.f 0;have f1:w5.frozen? ⟨w.heap.size+1+1,1,N⟩=false:=E.f 1;have cg:=An E;clear H E))
  go_region
  all_goals(try go_wp2)
  all_goals
   refine AG (by simp[results,Tryz.results140,go_sem,t0,t1,hz]<;>rfl) R ⟨N,0,N,0,rfl,Ha _ _,?_⟩
   exact Gt ((((AN cg).bel.setCell (p:=⟨w.heap.size+1+1,0,N⟩) (by simp;omega) _).setCell (p:=⟨w.heap.size+1+1,1,N⟩) (by simp;omega) _).alloc (by simpa using(AN cg).bel.size) _) 1
theorem VE(A:Option Addr)(hl:Nat)(G:Option Addr)(M:Nat)(X:Wd)(i g:Int)(C:D7→D7×Bool×Int)(bp:Nat)(w:World)(cm:X.rows.length≤9223372036854775807)(hX:FX w A hl G M X)
  (hQ:∀x,(C x).2.1=decide ((C x).2.2=0)) (hC:∀W,Below w.heap.size w W→∀x,Calls Au 143 #[Hi x,Ae (O ⟨bp,0,N⟩)] W fun e w'=>e=Ao (VV (C x))∧Below W.heap.size W w'):
  Calls Au 140 #[Up A hl G M X,FJ i g,.func (.func 143) #[] #[Ae (O ⟨bp,0,N⟩)]] w fun e w'=>∃A' c' G' hR,e=Ao (Ai #[Up A' c' G' hR (OH X i g C).2,I K (OH X i g C).1])∧Gv w.heap.size w' A' c' G' hR (OH X i g C).2∧Below w.heap.size w w':=by
 have hS:=CW.start w (S A X.rows.length hl) (S G X.gens.length M) i g;have hP:=fun W (hb:Below w.heap.size w W)=>J2 A X.rows.length hl G X.gens.length M (fun j=>X.rows.getD j dR) (fun j=>X.gens.getD j 0) W (by omega) (hX.rows.below hb) (hX.gens.below hb);have eW:Hk (fun j=>X.rows.getD j dR) X.rows.length X.gens.length (fun j=>X.gens.getD j 0)=FP X:=rfl;rw[eW]at hP;unfold Gr FF at hP;have hF:=fun W (hb:Below w.heap.size w W)=>On A X.rows.length hl (fun j=>X.rows.getD j dR) i g W (by omega) (hX.rows.below hb);have eF:Mt (fun j=>X.rows.getD j dR) i g X.rows.length 0=Ga X i g:=rfl;rw[eF]at hF;unfold FJ at hF;have HP:=An hP;have HF:=An hF;have HX:=An hX;have U:=An hS;have hT:=An hC;have hU:=An hQ;clear hP hF hS hC hQ eW eF hX;unfold OH;unfold Up FF FJ;by_cases hm:(FP X).1=0
 ·rw [AA (by simpa using hm)];obtain⟨hn,ch⟩:=NT hm;rw[hm]at HP;generalize (FP X).2=wa at *;rcases Lz (fun j=>X.rows.getD j dR) i g X.rows.length 0 with hf|⟨k,_,hk,hf,hi⟩
  ·have hp:Ga X i g=-1:=hf;rw[hp]at HF⊢;rw[AF (by decide)];unfold FL;clear hf hp hm;go_enter Tryz.func140,Tryz.ntmps140
   go_wp2_with(first
    |(go_at_call 35;refine(AN HP _ (AN U).bel).mono ?_;rintro e w5⟨rfl,H⟩;have E:=(AN U).below H;have D:=E.below (Fv.alloc Fu (Al #[I K 0,I K wa] 29));have r0:=D.r0;have r1:=D.r1;have s0:=D.s0;have s1:=D.s1;have V:=An D;clear H E D)
    |(go_at_call 144;refine(AN HF _ (AN V).bel).mono ?_;rintro e w7⟨rfl,Y⟩;have F:=(AN V).below Y;have Z:=An F;clear Y F r0 r1 s0 s1)
    |(refine As R 43 (Am 6) (Am 28) R (w.heap.size+2) 0 [S N 0 0,S N 0 0] R R (by simp[Ar]) F8 (AN Z).there ?_;intro W3 hq;have ha:=(AN Z).give (S N 0 0) (S N 0 0);rw[←hq]at ha;have hc:=An ha;clear hq ha))
   have t0:=(AN hc).t0;have t1:=(AN hc).t1;refine AG (by simp[results,Tryz.results140,go_sem,t0,t1]<;>rfl) R ⟨N,0,N,0,rfl,Ha _ _,(AN hc).bel⟩
  ·have hp:Ga X i g=(k:Int):=hf;have hM:k<X.rows.length:=(by omega);rw[hp]at HF⊢;rw[AA (by omega:¬ (k:Int)<0),Bi];have cn:(0:Int)≤(k:Int):=(by omega);have co:(k:Int)<(X.rows.length:Int):=(by omega);have cp:¬ (k:Int)<0:=(by omega);obtain⟨b,hV,hA,hg⟩:=(AN HX).rows k hM;subst hA;have hg:Hb w b (hV+k*11) (X.rows.getD k dR):=hg;have hG:=An hg;have hN:=An (fun W hW=>AN hT W hW (X.rows.getD k dR));have hE:=AN hU (X.rows.getD k dR);have hH:=An (fun W (hb:Below w.heap.size w W)=>Qn k (O ⟨b,hV,N⟩) hl X.rows G M X.gens W hM hn ch ((AN HX).rows.below hb) ((AN HX).gens.below hb));have hI:=An (Fy X.rows);have hY:=An (N3 X.rows k (C (X.rows.getD k dR)).1 hM);clear hg hf hp hi hm hT hU HX;generalize X.rows.getD k dR=x at *;unfold VV at hN;unfold FF at hH;generalize C x=y at *;obtain⟨y,st,er⟩:=y;dsimp only at *;by_cases he:er=0
   ·have hO:st=true:=(by rw[hE];simpa using he);clear hE;subst hO;subst he;rw[AA (by simp)];unfold Hi at *;go_enter Tryz.func140,Tryz.ntmps140
    go_wp2_with(first
     |(go_at_call 35;refine(AN HP _ (AN U).bel).mono ?_;rintro e w5⟨rfl,H⟩;have E:=(AN U).below H;have D:=E.below (Fv.alloc Fu (Al #[I K 0,I K wa] 29));have r0:=D.r0;have r1:=D.r1;have s0:=D.s0;have s1:=D.s1;have V:=An D;clear H E D)
     |(go_at_call 144;refine(AN HF _ (AN V).bel).mono ?_;rintro e w7⟨rfl,Y⟩;have F:=(AN V).below Y;have h:=(AN hG).below F.bel;clear r0 r1 s0 s1;have r0:=F.r0;have r1:=F.r1;have c0:=h.c0;have c1:=h.c1;have c2:=h.c2;have c3:=h.v 0 (by omega);have c4:=h.v 1 (by omega);have c5:=h.v 2 (by omega);have c6:=h.v 3 (by omega);have c7:=h.v 4 (by omega);have c8:=h.v 5 (by omega);have c9:=h.v 6 (by omega);have hd:=h.v 7 (by omega);simp only[Bt,Nat.reduceAdd]at c3 c4 c5 c6 c7 c8 c9 hd;simp only[←Bt]at c3 c4 c5 c6 c7 c8 c9 hd;have Z:=An F;clear Y F h)
     |(go_at_call 143;refine(AN hN _ (AN Z).bel).mono ?_;rintro e w9⟨rfl,hr⟩;have hs:=(AN Z).below hr;have J:=hs.below (Fv.alloc Fu (Al #[I K y.ix,I K y.gen,I K y.has,I K (y.v 0),I K (y.v 1),I K (y.v 2),I K (y.v 3),I K (y.v 4),I K (y.v 5),I K (y.v 6),I K (y.v 7)] 116));clear r0 r1 c0 c1 c2 c3 c4 c5 c6 c7 c8 c9 hd;have r0:=J.r0;have r1:=J.r1;have L:=An J;clear hr hs J)
     |(go_at_call 149;refine(AN hH _ (AN L).bel).mono ?_;rintro e cq⟨B,g5,c5,A8,c8,hB,rfl,ht,hu,hv⟩;have hZ:=AU (AN L).sz hB;clear hB;clear r0 r1;have hy:=(((Me w9 y 116).1).below hv).below (Fv.alloc Fu (Al #[S (O ⟨g5,0,N⟩) X.rows.length c5,S A8 X.gens.length c8] 43));have d0:=hy.c0;have d1:=hy.c1;have d2:=hy.c2;have d3:=hy.v 0 (by omega);have d4:=hy.v 1 (by omega);have d5:=hy.v 2 (by omega);have d6:=hy.v 3 (by omega);have d7:=hy.v 4 (by omega);have d8:=hy.v 5 (by omega);have d9:=hy.v 6 (by omega);have ca:=hy.v 7 (by omega);simp only[AT,Nat.reduceAdd]at d0 d1 d2 d3 d4 d5 d6 d7 d8 d9 ca;have ho:=An ht;have cc:=An hu;have hJ:=An (((AN L).below hv).below (Fv.alloc Fu (Al #[S (O ⟨g5,0,N⟩) X.rows.length c5,S A8 X.gens.length c8] 43)));clear ht hu hv hy)
     |(refine As R 116 (Am 60) (Am 59) R g5 (k*11) (D' y) R R (F9 y) N2 (Hl ((AN ho).alloc _) (k*11) 11 (by rw[AN hI];omega)) ?_;intro cr hw;have hx:=iV hw ((AN ho).lt g5 R).2;have e0:=hx.1;have e1:=hx.2;have hh:=An hw;clear d0 d1 d2 d3 d4 d5 d6 d7 d8 d9 ca hx hw)
     |(refine As R 43 (Am 6) (Am 61) R (w.heap.size+2) 0 [S (O ⟨g5,0,N⟩) X.rows.length c5,S A8 X.gens.length c8] R R (by simp[Ar]) F8 (gY (AN hJ) (AN hh) ((AN ho).lt g5 R).1 hZ).there ?_;intro cd hK;have hD:=An hK;clear hK))
    have ci:=(AN ho).lt g5 R;have hj:=(gY (AN hJ) (AN hh) ci.1 hZ).give (S (O ⟨g5,0,N⟩) X.rows.length c5) (S A8 X.gens.length c8);rw[←AN hD]at hj;have t0:=hj.t0;have t1:=hj.t1;have hL:(X.rows.set k y).length=X.rows.length:=By;have ht:cd.ownsRow B 116 11 (S (O ⟨g5,0,N⟩) (X.rows.set k y).length c5) (X.rows.set k y).length (At (X.rows.set k y)):=by
     rw[AN hD];refine Gg (by omega) _ _ _ ?_;rw[AN hh,←AN hY,hL];exact Ib (D' y) (k*11) _ _ ((AN ho).alloc _) (by rw[AN hI,F2];omega)
    have hu:cd.ownsRow B 3 1 (S A8 X.gens.length c8) X.gens.length (FD X.gens):=by
     rw[AN hD];refine Gg (by omega) _ _ _ ?_;rw[AN hh];refine JW ?_ _ _ _ ((AN cc).alloc _);exact bF (F1 (AN cc) (AN ho) (by decide))
    obtain⟨A1,c1,ce,cj⟩:=JG ht;obtain⟨A2,c2,cf,ck⟩:=J8 hu;simp only[A9,Br]at ce cf;obtain⟨rfl,rfl⟩:=ce;obtain⟨rfl,rfl⟩:=cf;refine AG (by simp[results,Tryz.results140,go_sem,t0,t1]<;>rfl) R ⟨O ⟨g5,0,N⟩,c5,A8,c8,by rw[hL],⟨⟨cj,ck⟩,Hf ht (by omega),Hf hu (by omega)⟩,hj.bel⟩
   ·have hO:st=false:=(by rw[hE];simpa using he);clear hE;subst hO;rw[AF (by simpa using he)];unfold Hi at *;unfold FL;go_enter Tryz.func140,Tryz.ntmps140
    go_wp2_with(first
     |(go_at_call 35;refine(AN HP _ (AN U).bel).mono ?_;rintro e w5⟨rfl,H⟩;have E:=(AN U).below H;have D:=E.below (Fv.alloc Fu (Al #[I K 0,I K wa] 29));have r0:=D.r0;have r1:=D.r1;have s0:=D.s0;have s1:=D.s1;have V:=An D;clear H E D)
     |(go_at_call 144;refine(AN HF _ (AN V).bel).mono ?_;rintro e w7⟨rfl,Y⟩;have F:=(AN V).below Y;have h:=(AN hG).below F.bel;clear r0 r1 s0 s1;have r0:=F.r0;have r1:=F.r1;have c0:=h.c0;have c1:=h.c1;have c2:=h.c2;have c3:=h.v 0 (by omega);have c4:=h.v 1 (by omega);have c5:=h.v 2 (by omega);have c6:=h.v 3 (by omega);have c7:=h.v 4 (by omega);have c8:=h.v 5 (by omega);have c9:=h.v 6 (by omega);have hd:=h.v 7 (by omega);simp only[Bt,Nat.reduceAdd]at c3 c4 c5 c6 c7 c8 c9 hd;simp only[←Bt]at c3 c4 c5 c6 c7 c8 c9 hd;have Z:=An F;clear Y F h)
     |(go_at_call 143;refine(AN hN _ (AN Z).bel).mono ?_;rintro e w9⟨rfl,hr⟩;have hs:=(AN Z).below hr;have J:=hs.below (Fv.alloc Fu (Al #[I K y.ix,I K y.gen,I K y.has,I K (y.v 0),I K (y.v 1),I K (y.v 2),I K (y.v 3),I K (y.v 4),I K (y.v 5),I K (y.v 6),I K (y.v 7)] 116));clear r0 r1 c0 c1 c2 c3 c4 c5 c6 c7 c8 c9 hd;have L:=An J;clear hr hs J)
     |(refine As R 43 (Am 6) (Am 42) R (w.heap.size+2) 0 [S N 0 0,S N 0 0] R R (by simp[Ar]) F8 (AN L).there ?_;intro W3 hq;have ha:=(AN L).give (S N 0 0) (S N 0 0);rw[←hq]at ha;have hc:=An ha;clear hq ha))
    have t0:=(AN hc).t0;have t1:=(AN hc).t1;refine AG (by simp[results,Tryz.results140,go_sem,t0,t1]<;>rfl) R ⟨N,0,N,0,rfl,Ha _ _,(AN hc).bel⟩
 ·rw[AF hm];generalize (FP X).2=wa at *;generalize (FP X).1=we at *;unfold FL;go_enter Tryz.func140,Tryz.ntmps140
  go_wp2_with(first
   |(go_at_call 35;refine(AN HP _ (AN U).bel).mono ?_;rintro e w5⟨rfl,H⟩;have E:=(AN U).below H;have hz:w.heap.size+1+1<w5.heap.size:=E.sz;have t0:w5.cell? ⟨w.heap.size+1+1,0,N⟩=O (S N 0 0):=E.t0;have t1:w5.cell? ⟨w.heap.size+1+1,1,N⟩=O (S N 0 0):=E.t1;have f0:w5.frozen? ⟨w.heap.size+1+1,0,N⟩=false:=E.f 0;have f1:w5.frozen? ⟨w.heap.size+1+1,1,N⟩=false:=E.f 1;have cg:=An E;clear H E))
  go_region
  all_goals(try go_wp2)
  all_goals
   refine AG (by simp[results,Tryz.results140,go_sem,t0,t1,hz]<;>rfl) R ⟨N,0,N,0,rfl,Ha _ _,?_⟩
   exact Gt ((((AN cg).bel.setCell (p:=⟨w.heap.size+1+1,0,N⟩) (by simp;omega) _).setCell (p:=⟨w.heap.size+1+1,1,N⟩) (by simp;omega) _).alloc (by simpa using(AN cg).bel.size) _) 1
def Hc(X:Wd)(i g p n:Int):Int×Wd:=OH X i g (fun x=>LF x p n)
def GK(X:Wd)(i g p:Int):Int×Wd:=OH X i g (fun x=>Jz x p)
theorem fw(p n:Int)(x:D7):(LF x p n).2.1=decide ((LF x p n).2.2=0):=by unfold LF;split <;>rfl
theorem eQ(p:Int)(x:D7):(Jz x p).2.1=decide ((Jz x p).2.2=0):=by unfold Jz;split <;>rfl
theorem H'{W:World}{u0 u1:Value}{t:TypeId}{b:Nat}(h:W.heap.size=b):(W.alloc (Al #[u0,u1] t)).cell? ⟨b,0,N⟩=O u0∧(W.alloc (Al #[u0,u1] t)).cell? ⟨b,1,N⟩=O u1∧(∀i,(W.alloc (Al #[u0,u1] t)).frozen? ⟨b,i,N⟩=false)∧Below W.heap.size W (W.alloc (Al #[u0,u1] t)):=by
 subst h;exact⟨by simp,by simp,fun i=>by simp[go_sem],Fv.alloc Fu _⟩
structure AB(w:World)(b:Nat)(y0 y1:Value)(W:World):Prop where
 bel:Below w.heap.size w W
 lo:w.heap.size≤b
 t0:W.cell? ⟨b,0,N⟩=O y0
 t1:W.cell? ⟨b,1,N⟩=O y1
 f:∀i,W.frozen? ⟨b,i,N⟩=false
section
variable {w W W1:World} {b:Nat} {y0 y1:Value}
theorem AB.below(h:AB w b y0 y1 W)(D:Below W.heap.size W W1):AB w b y0 y1 W1:=by
 have z:b<W.heap.size:=AL W ⟨b,0,N⟩ h.t0;exact⟨h.bel.trans (D.mono h.bel.size),h.lo,AW D h.t0,AW D h.t1,fun i=>(D.frozen (p:=⟨b,i,N⟩) z).trans (h.f i)⟩
theorem AB.there(h:AB w b y0 y1 W):W.there b 0 2:=fun j D=>by
 rcases(by omega:j=0∨j=1)with rfl|rfl
 ·exact⟨by rw[AT,h.t0];rfl,h.f _⟩
 ·exact⟨by rw[AT,h.t1];rfl,h.f _⟩
theorem AB.give(h:AB w b y0 y1 W)(D E:Value):AB w b D E (W.setCells b 0 [D,E]):=by
 have s:=fun j F=>Cv b [D,E] 0 W (fun j F=>(h.there j F).1) j F;exact⟨Bv b h.lo [D,E] 0 W h.bel,h.lo,s 0 (by simp),s 1 (by simp),fun i=>by rw[BP];exact h.f i⟩
end
theorem FX.sets{W:World}{A:Option Addr}{F:Nat}{G:Option Addr}{E:Nat}{X:Wd}{b o:Nat}{vs:List Value}(h:FX W A F G E X)(L:∀ c o',A=O ⟨c,o',N⟩→c≠b)(M:∀ c o',G=O ⟨c,o',N⟩→c≠b):FX (W.setCells b o vs) A F G E X:=by
 refine⟨fun j H=>?_,fun j H=>?_⟩
 ·obtain⟨c,D,e,J⟩:=h.rows j H;exact⟨c,D,e,Jn (L c D e) J⟩
 ·obtain⟨c,D,e,J⟩:=h.gens j H;exact⟨c,D,e,(FZ (M c D e)).trans J⟩
theorem Gv.sets{B:Nat}{W:World}{A:Option Addr}{E:Nat}{G:Option Addr}{D:Nat}{X:Wd}{b o:Nat}{vs:List Value}(h:Gv B W A E G D X)(H:b<B):Gv B (W.setCells b o vs) A E G D X :=
 ⟨h.toFX.sets (fun c F e=>by have:=h.fa c F e;omega) (fun c F e=>by have:=h.fg c F e;omega),h.fa,h.fg⟩
theorem Gv.mono{B F:Nat}{W:World}{A:Option Addr}{E:Nat}{G:Option Addr}{D:Nat}{X:Wd}(h:Gv B W A E G D X)(H:F≤B):Gv F W A E G D X :=
 ⟨h.toFX,fun c o e=>AU H (h.fa c o e),fun c o e=>AU H (h.fg c o e)⟩
theorem Xb(A:Option Addr)(F:Nat)(G:Option Addr)(D:Nat)(X:Wd)(i g p n:Int)(w:World)(hb:X.rows.length≤9223372036854775807)(hX:FX w A F G D X):
  Calls Au 113 #[Up A F G D X,FJ i g,I K p,I K n] w fun e w'=>∃M U V E,e=Ao (Ai #[Up M U V E (Hc X i g p n).2,I K (Hc X i g p n).1])∧Gv w.heap.size w' M U V E (Hc X i g p n).2∧Below w.heap.size w w':=by
 obtain⟨W1,h⟩:∃W,W=(((w.alloc (Al #[S A X.rows.length F,S G X.gens.length D] 43)).alloc (Al #[I K i,I K g] 61)).alloc (Al #[I K p] 3)).alloc (Al #[I K n] 3):=⟨_,rfl⟩;have z1:W1.heap.size=w.heap.size+4:=by rw[h];simp
 have b1:Below w.heap.size w W1:=by rw[h];go_grown
 have p1:W1.cell? ⟨w.heap.size+2,0,N⟩=O (I K p):=by rw[h];simp[go_sem]
 have n1:W1.cell? ⟨w.heap.size+3,0,N⟩=O (I K n):=by rw[h];simp[go_sem]
 obtain⟨y0,y1,yf,yb⟩:=H' (W:=W1) (u0:=S N 0 0) (u1:=S N 0 0) (t:=43) z1;have J:AB w (w.heap.size+4) (S N 0 0) (S N 0 0) (W1.alloc (Al #[S N 0 0,S N 0 0] 43)):=⟨b1.trans (yb.mono b1.size),by omega,y0,y1,yf⟩;have hC:=XF A F G D X i g (fun x=>LF x p n) (w.heap.size+2) (w.heap.size+3) (W1.alloc (Al #[S N 0 0,S N 0 0] 43)) hb (hX.below J.bel) (fw p n)
  (fun W hW x=>bC x p n (w.heap.size+2) (w.heap.size+3) W (AW hW (AW yb p1)) (AW hW (AW yb n1)))
 have e:OH X i g (fun x=>LF x p n)=Hc X i g p n:=rfl;rw[e]at hC;rw[h]at hC J;have HZ:=(show w.heap.size+4<(W1.alloc (Al #[S N 0 0,S N 0 0] 43)).heap.size by simp;omega);rw[h]at HZ;clear e h z1 b1 p1 n1 y0 y1 yf yb hX;generalize Hc X i g p n=z at *;obtain⟨er,Z⟩:=z;dsimp only at *;unfold Up FF FJ at *;go_enter Tryz.func113,Tryz.ntmps113
 go_wp2_with(first
  |(go_at_call 140;refine hC.mono ?_;rintro e w5⟨M,U,V,E,rfl,hN,Y⟩;have ha:=(J.below Y);clear Y)
  |(refine As R 43 (Am 8) (Am 14) R (w.heap.size+4) 0 [S M Z.rows.length U,S V Z.gens.length E] R R (by simp[Ar]) F8 ha.there ?_;intro W3 L;have H:=ha.give (S M Z.rows.length U) (S V Z.gens.length E);rw[←L]at H;have hc:=An L;clear L))
 have t0:=H.t0;have t1:=H.t1;refine AG (by simp[results,Tryz.results113,go_sem,t0,t1]<;>rfl) R ⟨M,U,V,E,rfl,?_,H.bel⟩
 rw[AN hc];exact(hN.sets HZ).mono (by have:=HZ;omega)
theorem U8(A:Option Addr)(F:Nat)(G:Option Addr)(h:Nat)(X:Wd)(i g p:Int)(w:World)(hb:X.rows.length≤9223372036854775807)(hX:FX w A F G h X):
  Calls Au 115 #[Up A F G h X,FJ i g,I K p] w fun e w'=>∃M U V D,e=Ao (Ai #[Up M U V D (GK X i g p).2,I K (GK X i g p).1])∧Gv w.heap.size w' M U V D (GK X i g p).2∧Below w.heap.size w w':=by
 obtain⟨W1,E⟩:∃W,W=((w.alloc (Al #[S A X.rows.length F,S G X.gens.length h] 43)).alloc (Al #[I K i,I K g] 61)).alloc (Al #[I K p] 3):=⟨_,rfl⟩;have z1:W1.heap.size=w.heap.size+3:=by rw[E];simp
 have b1:Below w.heap.size w W1:=by rw[E];go_grown
 have p1:W1.cell? ⟨w.heap.size+2,0,N⟩=O (I K p):=by rw[E];simp[go_sem]
 obtain⟨y0,y1,yf,yb⟩:=H' (W:=W1) (u0:=S N 0 0) (u1:=S N 0 0) (t:=43) z1;have J:AB w (w.heap.size+3) (S N 0 0) (S N 0 0) (W1.alloc (Al #[S N 0 0,S N 0 0] 43)):=⟨b1.trans (yb.mono b1.size),by omega,y0,y1,yf⟩;have hC:=VE A F G h X i g (fun x=>Jz x p) (w.heap.size+2) (W1.alloc (Al #[S N 0 0,S N 0 0] 43)) hb (hX.below J.bel) (eQ p)
  (fun W hW x=>ZS x p (w.heap.size+2) W (AW hW (AW yb p1)))
 have e:OH X i g (fun x=>Jz x p)=GK X i g p:=rfl;rw[e]at hC;rw[E]at hC J;have HZ:=(show w.heap.size+3<(W1.alloc (Al #[S N 0 0,S N 0 0] 43)).heap.size by simp;omega);rw[E]at HZ;clear e E z1 b1 p1 y0 y1 yf yb hX;generalize GK X i g p=z at *;obtain⟨er,Z⟩:=z;dsimp only at *;unfold Up FF FJ at *;go_enter Tryz.func115,Tryz.ntmps115
 go_wp2_with(first
  |(go_at_call 140;refine hC.mono ?_;rintro e w5⟨M,U,V,D,rfl,hN,Y⟩;have ha:=(J.below Y);clear Y)
  |(refine As R 43 (Am 6) (Am 12) R (w.heap.size+3) 0 [S M Z.rows.length U,S V Z.gens.length D] R R (by simp[Ar]) F8 ha.there ?_;intro W3 L;have H:=ha.give (S M Z.rows.length U) (S V Z.gens.length D);rw[←L]at H;have hc:=An L;clear L))
 have t0:=H.t0;have t1:=H.t1;refine AG (by simp[results,Tryz.results115,go_sem,t0,t1]<;>rfl) R ⟨M,U,V,D,rfl,?_,H.bel⟩
 rw[AN hc];exact(hN.sets HZ).mono (by have:=HZ;omega)
end Go.Proofs.YtnbleebilmghcabGreat
