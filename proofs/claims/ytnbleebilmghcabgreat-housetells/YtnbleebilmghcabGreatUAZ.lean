/- RnPure, RnWr, RnOrd, RRun0 -/
import Derived.Test.YtnbleebilmghcabGreatUAW
import Derived.Test.YtnbleebilmghcabGreatUAY
import Derived.Test.YtnbleebilmghcabGreatUBA
import Derived.Test.YtnbleebilmghcabGreatUBL
set_option linter.all false
open Go.Value renaming int→I,slice→S,agg→Af,tuple→Ai
open Go.IntKind renaming i64→K
open Option renaming none→N,some→O
open Go.Ending renaming returned→Ao
open Go.Proofs.Tryz renaming prog→Au
namespace Go.Proofs.YtnbleebilmghcabGreat
open Go Go.RowKit
theorem I6.refl'(X:Wd)(i g:Int):I6 X X i g:=fun k h D=>⟨k,h,D,rfl⟩
theorem I6.trans'{X Y Z:Wd}{i g:Int}(h:I6 X Y i g)(D:I6 Y Z i g):I6 X Z i g:=fun k E F=>by
 obtain⟨j,H,J,L⟩:=h k E F;obtain⟨l,M,U,V⟩:=D j H J;exact⟨l,M,U,V.trans L⟩
theorem L6{X:Wd}(H:FK X){i g:Int}{y:F'}(h:(Hn X i g y).1=0)(E F:Int)(D:(E,F)≠(i,g)):I6 X (Hn X i g y).2 E F:=by
 unfold Hn at h⊢;split
 ·rename_i e;rw[AF e]at h;exact(MU h).2 E F D
 ·rename_i e;rw[AA e]at h;split
  ·rename_i e;rw[AF e]at h;exact(KK h E F).2
  ·rename_i e;rw[AA e]at h;split
   ·rename_i e;rw[AF e]at h;split
    ·rename_i e;rw[AF e]at h;exact(MY h).2 E F D
    ·exact I6.refl' _ _ _
   ·rename_i e;rw[AA e]at h;exact(NV h).2 E F D
theorem Nx(i g:Int)(a:Nat→F')(E F:Int)(D:(E,F)≠(i,g)):∀n j X,FK X→(GP i g a n j X).1=0→I6 X (GP i g a n j X).2 E F
 |0,_,X,_,_=>I6.refl' _ _ _
 | n+1,j,X,hr,h=>by
  unfold GP at h⊢;by_cases e:(Hn X i g (a j)).1=0
  ·rw[AA (by simpa using e)]at h⊢;split
   ·exact L6 hr e E F D
   ·rename_i H;rw[AA H]at h;exact(L6 hr e E F D).trans' (Nx i g a E F D n (j+1) _ (Ip hr e) h)
  ·rw[AF e]at h;exact absurd h e
theorem Pe(a:Nat→F')(len:Nat)(D E:Int):∀l X,FK X→(D,E) ∉ l→(Gq a len l X).1=0→I6 X (Gq a len l X).2 D E
 |[],X,_,_,_=>I6.refl' _ _ _
 |b :: l,X,hr,hm,h=>by
  rw[Bu,not_or]at hm;unfold Gq at h⊢;by_cases e:(GP b.1 b.2 a len 0 X).1=0
  ·rw[AA (by simpa using e)]at h⊢;exact(Nx b.1 b.2 a D E hm.1 len 0 X hr e).trans' (Pe a len D E l _ (Jb _ _ _ _ _ _ hr e) hm.2 h)
  ·rw[AF e]at h;exact absurd h e
theorem U6{X:Wd}(h:FK X){j:Nat}(D:j<X.rows.length):Ga X (E' X j).ix (E' X j).gen=(j:Int):=Na h D
theorem jE{X:Wd}(E:FK X){m al no:Int}{a:Nat→F'}{len:Nat}(h:(Jl X m al no a len).1=0){j:Nat}(F:j<X.rows.length)(H:((E' X j).ix,(E' X j).gen) ∉ GV X al no X.rows.length):
  ∃k:Nat,k<(Jl X m al no a len).2.rows.length∧Ga (Jl X m al no a len).2 (E' X j).ix (E' X j).gen=(k:Int)∧E' (Jl X m al no a len).2 k=E' X j:=by
 have D:I6 X (Jl X m al no a len).2 (E' X j).ix (E' X j).gen:=by
  unfold Jl at h⊢;by_cases e:(MA m al no a len).1=0
  ·rw[AA (by simpa using e)]at h⊢;exact Pe a len _ _ _ X E H h
  ·rw[AF e]at h;exact absurd h e
 exact D j F (Na E F)
def Py(X:Wd)(i g:Int):Prop:=Ga X i g=-1∧∃k:Nat,i=(k:Int)∧k<X.gens.length∧g≤X.gens.getD k 0
theorem PJ{X Y:Wd}{i g:Int}(h:Py X i g)(H:Ga Y i g=-1)(E:∀ k:Nat,k<X.gens.length→k<Y.gens.length∧X.gens.getD k 0≤Y.gens.getD k 0):Py Y i g:=by
 obtain⟨_,k,e,F,D⟩:=h;exact⟨H,k,e,(E k F).1,Int.le_trans D (E k F).2⟩
theorem Ve{X:Wd}(hr:FK X){i g:Int}{y:F'}(h:(Hn X i g y).1=0){i' g':Int}(M:Py X i' g'):Py (Hn X i g y).2 i' g':=by
 have E:=fun j J=>Xq M.1 (j:=j) J;unfold Hn at h⊢;split
 ·rename_i e;rw[AF e]at h;obtain⟨_,k,D,_,_,_,L⟩:=N9 h;rw[L];refine PJ M (Ly fun j J=>?_) (fun k D=>⟨D,EI _⟩);obtain⟨t,ht,_,F⟩:=RQ X k D X.gens j J;rw[F];exact E t ht
 ·rename_i e;rw[AA e]at h;split
  ·rename_i e;rw[AF e]at h;obtain⟨_,k,U,_,L,D,hu,hg,_⟩:=QQ h;have hp:=(N8 hr (k:Int)).1;rw[L];obtain⟨_,q,eq,hq,ha⟩:=M;have V:q<(Iy X.gens (k:Int) U).length∧X.gens.getD q 0≤(Iy X.gens (k:Int) U).getD q 0:=by
    refine⟨by rw[Sd _ _ _ D];split <;>omega,?_⟩
    rw[RI _ _ _ D];by_cases F:q=k
    ·rw[AF F,hg (by omega),F];omega
    ·rw[AA F];exact EI _
   refine⟨Ly fun j J=>?_,q,eq,V.1,Int.le_trans ha V.2⟩;rcases bq X (Hy X.rows (k:Int)) hp (MR (k:Int) U y.p y.n) (Iy X.gens (k:Int) U) j J with F|⟨t,ht,F⟩
   ·rw[F];rintro⟨Y,Z⟩;have Y:(k:Int)=i':=Y;have Z:U=g':=Z;have hb:k=q:=(by omega);subst hb;have:=hg hq;omega
   ·rw[F];exact E t ht
  ·rename_i e;rw[AA e]at h;split
   ·rename_i e;rw[AF e]at h;split
    ·rename_i e;rw[AF e]at h;obtain⟨_,k,D,_,Y,Z,_,L,_⟩:=PN h;rw[L];refine PJ M (Ly fun j J=>?_) (fun k D=>⟨D,EI _⟩);have H:j<X.rows.length:=(by simpa using J);rw[JH X k _ _ j H];split
     ·rename_i F;intro hh;exact E k D hh
     ·exact E j H
    ·exact M
   ·rename_i e;rw[AA e]at h;obtain⟨_,_,_,k,D,_,Y,Z,L,_⟩:=Qg h;rw[L];refine PJ M (Ly fun j J=>?_) (fun k D=>⟨D,EI _⟩);have H:j<X.rows.length:=(by simpa using J);rw[JH X k _ _ j H];split
    ·rename_i F;intro hh;exact E k D hh
    ·exact E j H
def Nr(P:D7→D7→Prop)(lf:Prop)(X Y:Wd)(i g:Int):Prop:=∀k:Nat,k<X.rows.length→Ga X i g=(k:Int)→(lf∧Py Y i g)∨∃j:Nat,j<Y.rows.length∧Ga Y i g=(j:Int)∧P (E' X k) (E' Y j)
theorem Nr.trans{P:D7→D7→Prop}{D:Prop}(J:∀ a b c,P a b→P b c→P a c){X Y Z:Wd}{i g:Int}(h:Nr P D X Y i g)(L:Nr P D Y Z i g)(M:Py Y i g→Py Z i g):Nr P D X Z i g:=fun k U V=>by
 rcases h k U V with⟨E,F⟩|⟨j,hj,E,F⟩
 ·exact .inl ⟨E,M F⟩
 ·rcases L j hj E with H|⟨l,hl,H,h6⟩
  ·exact .inl H
  ·exact .inr ⟨l,hl,H,J _ _ _ F h6⟩
theorem I6.stays{P:D7→D7→Prop}{D:Prop}(E:∀ a,P a a){X Y:Wd}{i g:Int}(h:I6 X Y i g):Nr P D X Y i g:=fun k F H=>by
 obtain⟨j,J,L,M⟩:=h k F H;exact .inr ⟨j,J,L,by rw[M];exact E _⟩
def aa(X:Wd)(i g:Int)(y:F')(r:D7):D7:=if y.k=7 then r else if y.k=5 then(if(Ij X i g y.p).2=true then K5 r y.p else r)else M7 r y.p (IC (L5 X i g y))
theorem QS{X:Wd}(J:FK X){k:Nat}(E:k<X.rows.length){i g:Int}(L:(E' X k).ix=i)(M:(E' X k).gen=g){r:D7}(h:FK ⟨X.rows.set k r,X.gens⟩)(F:r.ix=i)(H:r.gen=g):Ga ⟨X.rows.set k r,X.gens⟩ i g=(k:Int):=by
 have D:k<(⟨X.rows.set k r,X.gens⟩:Wd).rows.length:=by simpa using E
 have e:E' ⟨X.rows.set k r,X.gens⟩ k=r:=by rw[JH X k r X.gens k E,AF R]
 have:=Na h D;rw[e,F,H]at this;exact this
theorem Vc{X:Wd}(U:FK X){i g:Int}{y:F'}(h:(Hn X i g y).1=0){k:Nat}(E:k<X.rows.length)(hf:Ga X i g=(k:Int)):
  (y.k=6∧Py (Hn X i g y).2 i g)∨(y.k≠6∧∃j:Nat,j<(Hn X i g y).2.rows.length∧Ga (Hn X i g y).2 i g=(j:Int)∧E' (Hn X i g y).2 j=aa X i g y (E' X k)):=by
 have L:(E' X k).ix=i∧(E' X k).gen=g:=by
  rcases If X i g with e|⟨D,_,e,H,J⟩
  ·omega
  ·have:D=k:=(by omega);subst this;exact⟨H,J⟩
 unfold Hn at h⊢;unfold aa;split
 ·rename_i e;rw[AF e]at h;left;refine⟨e,?_⟩;obtain⟨_,D,V,Y,H,J,Z⟩:=N9 h;have:D=k:=by omega
  subst this;rw[Z];have ha:=U.i0 D E;have hb:=U.il D E;have M:=U.ge D E;rw[L.1]at ha hb M;refine⟨Ly fun j hj=>?_,i.toNat,by omega,by show i.toNat<X.gens.length;omega,by rw[L.2]at M;exact Int.le_of_eq M⟩;obtain⟨t,ht,hc,e3⟩:=RQ X D E X.gens j hj;rw[e3];rintro⟨q1,q2⟩;exact hc (U.one ht E (by rw[q1,L.1]))
 ·rename_i e6;rw[AA e6]at h;right;refine⟨e6,?_⟩;split
  ·rename_i e;rw[AF e]at h;obtain⟨j,hj,h3,h4⟩:=(KK h i g).2 k E hf;exact⟨j,hj,h3,h4⟩
  ·rename_i e;rw[AA e]at h;split
   ·rename_i e;rw[AF e]at h;split
    ·rename_i e;rw[AF e]at h;obtain⟨_,D,V,Y,H,J,_,Z,F⟩:=PN h;have:D=k:=(by omega);subst this;rw[Z]at F⊢;exact⟨D,by simpa using E,QS U E H J F H J,by rw[JH X D _ _ D E,AF R]⟩
    ·exact⟨k,E,hf,rfl⟩
   ·rename_i e;rw[AA e]at h;obtain⟨_,_,_,D,V,Y,H,J,Z,F⟩:=Qg h;have:D=k:=(by omega);subst this;rw[Z]at F⊢;exact⟨D,by simpa using E,QS U E H J F H J,by rw[JH X D _ _ D E,AF R]⟩
theorem O4(i g:Int)(a:Nat→F')(D E:Int):∀n j X,FK X→(GP i g a n j X).1=0→Py X D E→Py (GP i g a n j X).2 D E
 |0,_,X,_,_,h=>h
 | n+1,j,X,hr,h,hG=>by
  unfold GP at h⊢;by_cases e:(Hn X i g (a j)).1=0
  ·rw[AA (by simpa using e)]at h⊢;split
   ·exact Ve hr e hG
   ·rename_i F;rw[AA F]at h;exact O4 i g a D E n (j+1) _ (Ip hr e) h (Ve hr e hG)
  ·rw[AF e]at h;exact absurd h e
theorem QK{P:D7→D7→Prop}{H:Prop}(E:∀ a,P a a)(M:∀ a b c,P a b→P b c→P a c)(i g:Int)(a:Nat→F')(N:Nat)(F:∀ j,j<N→(a j).k=6→H)(D:∀ j,j<N→(a j).k≠6→∀ (X:Wd) (k:Nat),FK X→k<X.rows.length→Ga X i g=(k:Int)→(Hn X i g (a j)).1=0→P (E' X k) (aa X i g (a j) (E' X k))):∀n j X,j+n≤N→FK X→(GP i g a n j X).1=0→Nr P H X (GP i g a n j X).2 i g
 |0,_,X,_,_,_=>(I6.refl' _ _ _).stays E
 | n+1,j,X,hN,hr,h=>by
  unfold GP at h⊢;by_cases e:(Hn X i g (a j)).1=0
  ·rw[AA (by simpa using e)]at h⊢;have U:Nr P H X (Hn X i g (a j)).2 i g:=fun k V Y=>by
    rcases Vc hr e V Y with⟨J,L⟩|⟨J,q,Z,h3,h4⟩
    ·exact .inl ⟨F j (by omega) J,L⟩
    ·exact .inr ⟨q,Z,h3,by rw[h4];exact D j (by omega) J X k hr V Y e⟩
   split
   ·exact U
   ·rename_i e2;rw[AA e2]at h;exact U.trans M (QK E M i g a N F D n (j+1) _ (by omega) (Ip hr e) h) (fun L=>O4 i g a i g n (j+1) _ (Ip hr e) h L)
  ·rw[AF e]at h;exact absurd h e
def bt(x:Int)(k:Nat):Bool:=(BitVec.ofInt 64 x).getLsbD k
theorem Mo(x y:Int)(k:Nat):bt (bits .or K x y) k=(bt x k || bt y k):=by
 unfold bt;rw[iQ,BitVec.getLsbD_or]
theorem ep(x y:Int)(k:Nat):bt (bits .and K x y) k=(bt x k && bt y k):=by
 unfold bt;rw[WZ,Cz]
theorem Zc(x y:Int)(k:Nat)(h:k<64):bt (bits .andNot K x y) k=(bt x k && !bt y k):=by
 unfold bt;rw[PB,Cz,Df];simp[h]
theorem X1(k:Nat):bt 0 k=false:=by unfold bt;simp
theorem gu:∀p:Fin 8,∀k:Fin 8,bt (Ge ((p.val:Nat):Int)) k.val=decide (k.val=p.val):=by decide +kernel
theorem Mc{p:Int}(h:F5 p=true){k:Nat}(D:k<8):bt (Ge p) k=decide (k=p.toNat):=by
 unfold F5 at h;have h:=AM h;have:=gu ⟨p.toNat,by omega⟩ ⟨k,D⟩;simp only[DS h.1]at this;exact this
theorem bH:∀m:Fin 256,∀k:Fin 8,bt (m.val:Int) k.val=true→bits .or K (m.val:Int) (Ge ((k.val:Nat):Int))=(m.val:Int):=by decide +kernel
theorem or_self{x p:Int}(h:FV x=true)(D:F5 p=true)(E:bt x p.toNat=true):bits .or K x (Ge p)=x:=by
 unfold FV at h;unfold F5 at D;have h:=AM h;have D:=AM D;obtain⟨m,rfl⟩:=KY x h.1 h.2;have:=bH m ⟨p.toNat,by omega⟩ E;simp only[DS D.1]at this;exact this
theorem fG:∀m:Fin 256,∀k:Fin 8,bits .and K (m.val:Int) (Ge ((k.val:Nat):Int))≠0→bt (m.val:Int) k.val=true:=by decide +kernel
theorem YD{x p:Int}(h:FV x=true)(D:F5 p=true)(E:bits .and K x (Ge p)≠0):bt x p.toNat=true:=by
 unfold FV at h;unfold F5 at D;have h:=AM h;have D:=AM D;obtain⟨m,rfl⟩:=KY x h.1 h.2;refine fG m ⟨p.toNat,by omega⟩ ?_;simp only[DS D.1];exact E
theorem Ws{x y:Int}(h:LG x y=true){k:Nat}(E:k<64)(D:bt x k=true):bt y k=true:=by
 unfold LG at h;have h:=(P8 x y).1 (by simpa using h);have e:(BitVec.ofInt 64 x &&& ~~~BitVec.ofInt 64 y).getLsbD k=false:=by rw[h];simp
 rw[Cz,Df]at e;unfold bt at D⊢;rw[D]at e;simpa[E]using e
theorem Qv{a n h:Int}(D:IJ a n h=true){k:Nat}(E:k<64)(F:bt a k=true):bt h k=true:=by
 unfold IJ at D;rw[AP]at D;exact Ws (x:=a) (y:=h) D.1 E F
theorem iN(al:Int)(a:Nat→F'):∀j k,bt (Lu al a j) k=true→bt al k=true
 |0,k,h=>h
 |j+1,k,h=>by
  unfold Lu at h;rw[ep,AP]at h;exact h.2
theorem Vp(a:Nat→F'){k:Nat}:∀n j,j<n→bt (R' (a j).k (a j).p) k=true→bt (I7 a n) k=true
 |0,j,h,_=>by omega
 |n+1,j,h,hb=>by
  unfold I7;rw[Mo,Cg];by_cases e:j=n
  ·subst e;exact .inr hb
  ·exact .inl (Vp a n j (by omega) hb)
theorem TF(al:Int)(a:Nat→F'):∀n j,j<n→Pj (a j).k (a j).p al=true→J5 al a n=true
 |0,j,h,_=>by omega
 |n+1,j,h,hb=>by
  unfold J5;rw[Cg];by_cases e:j=n
  ·subst e;exact .inr hb
  ·exact .inl (TF al a n j (by omega) hb)
theorem TN(a:Nat→F'):∀n j,j<n→(a j).k=6∨(a j).k=7→J6 a n=true
 |0,j,h,_=>by omega
 |n+1,j,h,hb=>by
  unfold J6;rw[Cg];by_cases e:j=n
  ·subst e;exact .inr (by simpa using hb)
  ·exact .inl (TN a n j (by omega) hb)
def Vk(al ws:Int)(mv:Bool)(r r':D7):Prop:=(∀k:Nat,k<8→bt ws k=false→r'.v k=r.v k∧bt r'.has k=bt r.has k)∧(mv=false→(∀k,k<8→bt al k=true→bt r.has k=true)→r'.has=r.has)
theorem Vk.refl(al h:Int)(D:Bool)(r:D7):Vk al h D r r:=⟨fun _ _ _=>⟨rfl,rfl⟩,fun _ _=>rfl⟩
theorem Vk.trans(al F:Int)(H:Bool)(a b c:D7)(h:Vk al F H a b)(J:Vk al F H b c):Vk al F H a c :=
 ⟨fun k D E=>⟨(J.1 k D E).1.trans (h.1 k D E).1,(J.1 k D E).2.trans (h.1 k D E).2⟩,fun L M=>by
  have e:=h.2 L M;rw[←e];exact J.2 L (by rw[e];exact M)⟩
theorem XZ{k p f n:Int}(h:Iq k p f n=true)(D:k≠6)(E:k≠7)(F:1≤k)(H:k≤7):F5 p=true:=by
 unfold Iq at h;split at h
 ·exact(AP _ _▸h).1
 ·split at h
  ·exact(AP _ _▸h).1
  ·split at h
   ·exact h
   ·omega
theorem eo{k p:Int}(E:k=1∨k=2∨k=3∨k=4∨k=5)(D:F5 p=true):bt (R' k p) p.toNat=true:=by
 unfold R';rw[AF E,Mo,X1,Er];unfold F5 at D;have h:=AM D;rw[Mc (by unfold F5;exact D) (by omega)];simp
theorem aS{x:D7}(h:N4 x=true):FV x.has=true:=by
 unfold N4 at h;rw[AP]at h;exact h.1
theorem iG{al no m:Int}{a:Nat→F'}{len j:Nat}(hw:(MA m al no a len).1=0)(U:j<len)(h6:(a j).k≠6){X:Wd}{i g:Int}{k:Nat}(hr:FK X)(hk:k<X.rows.length):Vk al (I7 a len) (J5 al a len) (E' X k) (aa X i g (a j) (E' X k)):=by
 obtain⟨Y,_,Z⟩:=(Ie m al no a len).1 hw;have ha:FV al=true:=by
  unfold Is at Y;rw[AP,AP]at Y;exact Y.1.2
 have D:Nd (a j).k (a j).p (a j).f (a j).n (Lu al a j)=0:=Z j U;obtain⟨hg,h1,h8⟩:=KH _ _ _ _ _ D;have hc:LG (Ji (a j).k (a j).p (a j).f) (Lu al a j)=true:=by
  unfold Nd at D;rw[AA (by omega),AA (by rw[hg];simp)]at D;split at D
  ·exact absurd D (by decide)
  ·rename_i e;simpa using e
 have L:FV (E' X k).has=true:=aS (hr.rv k hk);unfold aa;by_cases h7:(a j).k=7
 ·rw[AF h7];exact Vk.refl _ _ _ _
 ·rw [AA h7];have E:=XZ hg h6 h7 h1 h8;have F:0≤(a j).p∧(a j).p<8:=by unfold F5 at E;exact AM E
  have hd:bt (I7 a len) (a j).p.toNat=true:=Vp a len j U (eo (by omega) E);have H:∀q:Nat,q<8→bt (I7 a len) q=false→q≠(a j).p.toNat:=fun q _ h e=>by rw[e,hd]at h;cases h
  by_cases h5:(a j).k=5
  ·rw[AF h5];split
   ·refine⟨fun q h M=>⟨by show(if q=(a j).p.toNat then(0:Int)else _)=_;rw[AA (H q h M)],?_⟩,fun V _=>?_⟩
    ·show bt (bits .andNot K (E' X k).has (Ge (a j).p)) q=_;rw[Zc _ _ _ (by omega),Mc E h];simp[H q h M]
    ·have:=TF al a len j U (by unfold Pj;rw[AA (by omega)];simpa using h5);rw[V]at this;cases this
   ·exact Vk.refl _ _ _ _
  ·rw [AA h5];refine⟨fun q h M=>⟨by show(if q=(a j).p.toNat then _ else _)=_;rw[AA (H q h M)],?_⟩,fun V h=>?_⟩
   ·show bt (bits .or K (E' X k).has (Ge (a j).p)) q=_;rw[Mo,Mc E h];simp[H q h M]
   ·show bits .or K (E' X k).has (Ge (a j).p)=_;refine or_self L E (h _ (by have:=F.2;omega) ?_);by_cases he:(a j).k=1∨(a j).k=2
    ·have J:Pj (a j).k (a j).p al=false:=by
      cases e:Pj (a j).k (a j).p al with
      |false=>rfl
      |true=>rw[TF al a len j U e]at V;cases V
     unfold Pj at J;rw[AF he]at J;exact YD ha E (by simpa using J)
    ·refine iN al a j _ (Ws hc (by have:=F.2;omega) ?_);unfold Ji;rw[AA (by omega)];split
     ·rw[Mo,Mc E (by have:=F.2;omega)];simp
     ·rw[AF (by omega),Mo,Mc E (by have:=F.2;omega)];simp
theorem QY(a:Nat→F')(len:Nat)(i g:Int):∀l X,FK X→(Gq a len l X).1=0→Py X i g→Py (Gq a len l X).2 i g
 |[],X,_,_,h=>h
 |b :: l,X,hr,h,hG=>by
  unfold Gq at h⊢;by_cases e:(GP b.1 b.2 a len 0 X).1=0
  ·rw[AA (by simpa using e)]at h⊢;exact QY a len i g l _ (Jb _ _ _ _ _ _ hr e) h (O4 _ _ _ _ _ _ _ _ hr e hG)
  ·rw[AF e]at h;exact absurd h e
theorem Pc{al no m:Int}{a:Nat→F'}{len:Nat}(J:(MA m al no a len).1=0)(i g:Int):∀l X,FK X→(Gq a len l X).1=0→Nr (Vk al (I7 a len) (J5 al a len)) (J6 a len=true) X (Gq a len l X).2 i g
 |[],X,_,_=>(I6.refl' _ _ _).stays (Vk.refl _ _ _)
 | b :: l,X,D,h=>by
  unfold Gq at h⊢;by_cases e:(GP b.1 b.2 a len 0 X).1=0
  ·rw[AA (by simpa using e)]at h⊢;have E:=Jb _ _ _ _ _ _ D e;refine Nr.trans (Vk.trans _ _ _) ?_ (Pc J i g l _ E h) (fun M=>QY a len i g l _ E h M);by_cases L:(i,g)=b
   ·subst L;exact QK (Vk.refl _ _ _) (Vk.trans _ _ _) i g a len (fun j F H=>TN a len j F (.inl H)) (fun j F H X k D U _ _=>iG J F H D U) len 0 X (by omega) D e
   ·exact(Nx b.1 b.2 a i g L len 0 X D e).stays (Vk.refl _ _ _)
  ·rw[AF e]at h;exact absurd h e
theorem jN{X:Wd}{a n:Int}{i g:Int}(h:(i,g)∈GV X a n X.rows.length):∃k:Nat,k<X.rows.length∧(E' X k).ix=i∧(E' X k).gen=g∧IJ a n (E' X k).has=true:=by
 unfold GV at h;rw[BN]at h;obtain⟨r,F,e⟩:=Cn.1 h;obtain⟨H,J⟩:=BU.1 F;obtain⟨k,E,L⟩:=BL H;have D:E' X k=r:=by unfold E';rw[Az,AE E,C9,L]
 simp only[Dv]at e;exact⟨k,E,by rw[D];exact e.1,by rw[D];exact e.2,by rw[D];exact J⟩
theorem kR{X:Wd}(E:FK X){m al no:Int}{a:Nat→F'}{len:Nat}(h:(Jl X m al no a len).1=0){j:Nat}(V:j<X.rows.length):
  (J6 a len=true∧Ga (Jl X m al no a len).2 (E' X j).ix (E' X j).gen=-1)∨∃q:Nat,q<(Jl X m al no a len).2.rows.length∧Ga (Jl X m al no a len).2 (E' X j).ix (E' X j).gen=(q:Int)∧(J5 al a len=false→(E' (Jl X m al no a len).2 q).has=(E' X j).has)∧∀k:Nat,k<8→bt (I7 a len) k=false→(E' (Jl X m al no a len).2 q).v k=(E' X j).v k∧bt (E' (Jl X m al no a len).2 q).has k=bt (E' X j).has k:=by
 by_cases F:((E' X j).ix,(E' X j).gen)∈GV X al no X.rows.length
 ·obtain⟨k,H,Y,e2,J⟩:=jN F;have:k=j:=E.one H V Y;subst this;have Z:Nr (Vk al (I7 a len) (J5 al a len)) (J6 a len=true) X (Jl X m al no a len).2 (E' X k).ix (E' X k).gen:=by
   unfold Jl at h⊢;by_cases e:(MA m al no a len).1=0
   ·rw[AA (by simpa using e)]at h⊢;exact Pc e _ _ _ X E h
   ·rw[AF e]at h;exact absurd h e
  rcases Z k H (Na E H)with⟨h1,h2⟩|⟨q,L,M,D⟩
  ·exact .inl ⟨h1,h2.1⟩
  ·exact .inr ⟨q,L,M,fun F=>D.2 F (fun b hb U=>Qv J (by omega) U),D.1⟩
 ·obtain⟨q,L,M,D⟩:=jE E h V F;exact .inr ⟨q,L,M,fun _=>by rw[D],fun k _ _=>by rw[D];exact⟨rfl,rfl⟩⟩
def gR(r:D7)(p:Int):Int:=if IR r.has p=true then r.v p.toNat else 0
def Zt(r:D7)(y:F'):Int:=if y.k=2 then gR r y.f else if y.k=3 then IntKind.i64.wrap (gR r y.p+gR r y.f)else if y.k=4 then IntKind.i64.wrap (gR r y.p+y.n)else y.n
def j4(r:D7)(y:F'):D7:=M7 r y.p (IC (Zt r y))
def MH(a:Nat→F'):Nat→Nat→D7→D7
 |0,_,r=>r
 |n+1,j,r=>MH a n (j+1) (j4 r (a j))
theorem gQ{X:Wd}{i g p:Int}{k:Nat}(D:Ga X i g=(k:Int)):(Ij X i g p).1=gR (E' X k) p:=by
 have h:Mt (fun j=>X.rows.getD j dR) i g X.rows.length 0=(k:Int):=D;unfold Ij RD gR;rw[h,AA (by omega),Bi];show(if IR (E' X k).has p then((E' X k).v p.toNat,true)else(0,false)).1=_;split <;>rfl
theorem jo{X:Wd}{i g:Int}{k:Nat}(h:Ga X i g=(k:Int))(y:F'):L5 X i g y=Zt (E' X k) y:=by
 unfold L5 Zt;simp only[gQ h]
theorem Zz(n:Int):Hx (IC n)=true:=by
 unfold Hx IC;refine Bq ?_;split
 ·omega
 ·split <;>omega
def Qf(y:F'):Prop:=y.k≠5∧y.k≠6∧y.k≠7∧F5 y.p=true
theorem iD{X:Wd}(E:FK X){i g:Int}{k:Nat}(D:Ga X i g=(k:Int)){y:F'}(h:Qf y):Hn X i g y=(0,⟨X.rows.set k (j4 (E' X k) y),X.gens⟩):=by
 unfold Hn;rw[AA h.2.1,AA h.2.2.1,AA h.1,jo D];unfold Hc OH;rw[D,Bi];have e:LF (E' X k) y.p (IC (Zt (E' X k) y))=(M7 (E' X k) y.p (IC (Zt (E' X k) y)),true,0):=by unfold LF;rw[h.2.2.2,Zz];rfl
 rw[AA (by rw[(F7 X).2 E];simp),AA (by omega)];have F:¬ ((LF (E' X k) y.p (IC (Zt (E' X k) y))).2.2≠0):=by rw[e];simp
 refine(AA F).trans ?_;show(0,(⟨X.rows.set k (LF (E' X k) y.p (IC (Zt (E' X k) y))).1,X.gens⟩:Wd))=_;rw[e];rfl
theorem fc(X:Wd){k:Nat}(h:k<X.rows.length):X.rows.set k (E' X k)=X.rows:=by
 unfold E';rw[Az,AE h,C9,List.set_getElem_self]
theorem Tt(i g:Int)(a:Nat→F')(N:Nat)(H:∀ j,j<N→Qf (a j)){k:Nat}:∀n j X,j+n≤N→FK X→k<X.rows.length→Ga X i g=(k:Int)→GP i g a n j X=(0,⟨X.rows.set k (MH a n j (E' X k)),X.gens⟩)
 |0,j,X,_,_,hk,_=>by
  unfold GP MH;rw[fc X hk]
 | n+1,j,X,hN,hr,hk,hf=>by
  have J:=H j (by omega);have e:=iD hr hf J;have h0:(Hn X i g (a j)).1=0:=by rw[e]
  have h:=Ip hr h0;obtain⟨D,E⟩:(E' X k).ix=i∧(E' X k).gen=g:=by
   rcases If X i g with e|⟨L,_,e,M,U⟩
   ·omega
   ·have:L=k:=(by omega);subst this;exact⟨M,U⟩
  rw[e]at h;have F:=QS hr hk D E h D E;unfold GP;rw[h0,AA (by simp),AA J.2.1,e,Tt i g a N H n (j+1) _ (by omega) h (by simpa using hk) F];rw[JH X k _ _ k hk,AF R,E8];rfl
theorem N5(a:Nat→F')(len:Nat)(b:Int×Int)(l:List (Int×Int))(X:Wd):Gq a len (b :: l) X=if(GP b.1 b.2 a len 0 X).1≠0 then((GP b.1 b.2 a len 0 X).1,FL)else Gq a len l (GP b.1 b.2 a len 0 X).2:=rfl
theorem Oc(a:Nat→F')(len:Nat):∀D E X,(Gq a len D X).1=0→Gq a len (D++E) X=Gq a len E (Gq a len D X).2
 |[],E,X,_=>rfl
 |b :: D,E,X,h=>by
  rw[B0,N5 a len b (D++E),N5 a len b D];rw[N5 a len b D]at h;by_cases e:(GP b.1 b.2 a len 0 X).1=0
  ·rw[AA (by simpa using e)]at h⊢;rw[AA (by simpa using e)];exact Oc a len D E _ h
  ·rw[AF e]at h;exact absurd h e
def Qb(al no:Int)(a:Nat→F')(len:Nat)(r:D7):D7:=if IJ al no r.has=true then MH a len 0 r else r
structure iY(X Z:Wd)(F:D7→D7)(j:Nat):Prop where
 right:FK Z
 gens:Z.gens=X.gens
 len:Z.rows.length=X.rows.length
 row:∀t,t<X.rows.length→E' Z t=if t<j then F (E' X t)else E' X t
theorem UJ{X:Wd}(V:FK X)(al no:Int)(a:Nat→F')(len:Nat)(Y:∀ j,j<len→Qf (a j)):∀j,j≤X.rows.length→∃Z,Gq a len (GV X al no j) X=(0,Z)∧iY X Z (Qb al no a len) j
 |0,_=>⟨X,by unfold GV;simp[Gq],V,rfl,rfl,fun t _=>by rw[AA (by omega)]⟩
 | j+1,hj=>by
  obtain⟨Z,M,h⟩:=UJ V al no a len Y j (by omega);have D:=h.row j (by omega);rw[AA (by omega)]at D;have ej:X.rows.getD j dR=E' X j:=rfl;rw[L3 X al no j (by omega),ej];by_cases L:IJ al no (E' X j).has=true
  ·rw[AF L,Oc a len _ _ X (by rw[M]),M];have H:j<Z.rows.length:=(by rw[h.len];omega);have hf:=Na h.right H;rw[D]at hf;have U:=Tt (E' X j).ix (E' X j).gen a len Y len 0 Z (by omega) h.right H hf;have J:=Jb _ _ _ _ _ _ h.right (show(GP (E' X j).ix (E' X j).gen a len 0 Z).1=0 by rw[U]);refine⟨⟨Z.rows.set j (MH a len 0 (E' Z j)),Z.gens⟩,?_,by rw[U]at J;exact J,h.gens,by simpa using h.len,fun t E=>?_⟩
   ·unfold Gq Gq;dsimp only;rw[U,AA (by simp)]
   ·rw[JH Z j _ _ t (by rw[h.len];exact E)];by_cases e:t=j
    ·subst e;rw[AF R,AF (by omega),D];unfold Qb;rw[AF L]
    ·rw[AA e,h.row t E];by_cases F:t<j
     ·rw[AF F,AF (by omega)]
     ·rw[AA F,AA (by omega)]
  ·rw[AA L];refine⟨Z,M,h.right,h.gens,h.len,fun t E=>?_⟩;rw[h.row t E];by_cases F:t<j
   ·rw[AF F,AF (by omega)]
   ·by_cases e:t=j
    ·subst e;rw[AA F,AF (by omega)];unfold Qb;rw[AA L]
    ·rw[AA F,AA (by omega)]
structure Vh(al ws rd:Int)(y:F'):Prop where
 put:Qf y
 al:bt al y.p.toNat=true
 wr:bt ws y.p.toNat=true
 rf:y.k=2∨y.k=3→bt rd y.f.toNat=true
 rp:y.k=3∨y.k=4→bt rd y.p.toNat=true
theorem WO(a:Nat→F'){k:Nat}:∀n j,j<n→bt (Ji (a j).k (a j).p (a j).f) k=true→bt (Jo a n) k=true
 |0,j,h,_=>by omega
 |n+1,j,h,hb=>by
  unfold Jo;rw[Mo,Cg];by_cases e:j=n
  ·subst e;exact .inr hb
  ·exact .inl (WO a n j (by omega) hb)
theorem Xz{m al no:Int}{a:Nat→F'}{len:Nat}(hw:(MA m al no a len).1=0)(hm:J5 al a len=false)(M:J6 a len=false){j:Nat}(F:j<len):Vh al (I7 a len) (Jo a len) (a j):=by
 obtain⟨V,_,Y⟩:=(Ie m al no a len).1 hw;have Z:FV al=true:=by
  unfold Is at V;rw[AP,AP]at V;exact V.1.2
 have E:Nd (a j).k (a j).p (a j).f (a j).n (Lu al a j)=0:=Y j F;obtain⟨J,h1,h8⟩:=KH _ _ _ _ _ E;have ha:LG (Ji (a j).k (a j).p (a j).f) (Lu al a j)=true:=by
  unfold Nd at E;rw[AA (by omega),AA (by rw[J];simp)]at E;split at E
  ·exact absurd E (by decide)
  ·rename_i e;simpa using e
 have h6:(a j).k≠6:=fun e=>by rw[TN a len j F (.inl e)]at M;cases M
 have h7:(a j).k≠7:=fun e=>by rw[TN a len j F (.inr e)]at M;cases M
 have D:Pj (a j).k (a j).p al=false:=by
  cases e:Pj (a j).k (a j).p al with
  |false=>rfl
  |true=>rw[TF al a len j F e]at hm;cases hm
 have h5:(a j).k≠5:=fun e=>by unfold Pj at D;rw[AA (by omega)]at D;simp[e]at D
 have H:=XZ J h6 h7 h1 h8;have hc:0≤(a j).p∧(a j).p<8:=by unfold F5 at H;exact AM H
 have L:(a j).k=3∨(a j).k=4→bt (Ji (a j).k (a j).p (a j).f) (a j).p.toNat=true:=fun h=>by
  unfold Ji;rw[AA (by omega)];split
  ·rw[Mo,Mc H (by omega)];simp
  ·rw[AF (by omega),Mo,Mc H (by omega)];simp
 refine⟨⟨h5,h6,h7,H⟩,?_,Vp a len j F (eo (by omega) H),fun h=>WO a len j F ?_,fun h=>WO a len j F (L h)⟩
 ·by_cases hb:(a j).k=1∨(a j).k=2
  ·unfold Pj at D;rw[AF hb]at D;exact YD Z H (by simpa using D)
  ·exact iN al a j _ (Ws ha (by omega) (L (by omega)))
 ·have U:F5 (a j).f=true:=by
   unfold Iq at J;rw[AA (by omega),AF h]at J;exact(AP _ _▸J).2
  have hd:0≤(a j).f∧(a j).f<8:=by unfold F5 at U;exact AM U
  unfold Ji;rcases h with h|h
  ·rw[AF h,Mo,Mc U (by omega)];simp
  ·rw[AA (by omega),AF h,Mo,Mo,Mc U (by omega)];simp
section
variable {al ws rd:Int} {a:Nat→F'} {N:Nat}
theorem fW{r:D7}{y:F'}(D:Vh al ws rd y)(E:FV r.has=true)(F:∀ k,k<8→bt al k=true→bt r.has k=true):(j4 r y).has=r.has:=by
 have h:=D.put.2.2.2;have H:0≤y.p∧y.p<8:=by unfold F5 at h;exact AM h
 exact or_self E h (F _ (by omega) D.al)
theorem N1(h:∀ j,j<N→Vh al ws rd (a j)):∀n j r,j+n≤N→FV r.has=true→(∀k,k<8→bt al k=true→bt r.has k=true)→(MH a n j r).has=r.has
 |0,_,r,_,_,_=>rfl
 |n+1,j,r,hN,hs,hq=>by
  have e:=fW (h j (by omega)) hs hq;unfold MH;rw[N1 h n (j+1) _ (by omega) (by rw[e];exact hs) (by rw[e];exact hq),e]
theorem M4(h:∀ j,j<N→Vh al ws rd (a j)){k:Nat}(D:bt ws k=false):∀n j r,j+n≤N→(MH a n j r).v k=r.v k
 |0,_,r,_=>rfl
 |n+1,j,r,hN=>by
  unfold MH;rw[M4 h D n (j+1) _ (by omega)];show(if k=(a j).p.toNat then _ else r.v k)=_;rw[AA];intro e;have:=(h j (by omega)).wr;rw[←e,D]at this
  cases this
theorem Oa(a:Nat→F'):∀n j r,(MH a n j r).ix=r.ix∧(MH a n j r).gen=r.gen
 |0,_,r=>⟨rfl,rfl⟩
 |n+1,j,r=>by
  unfold MH;exact Oa a n (j+1) _
def OS(ws rd:Int)(r r':D7):Prop:=r.has=r'.has∧∀k,bt ws k=true∨bt rd k=true→r.v k=r'.v k
theorem P5{r D:D7}(h:OS ws rd r D){p:Int}(E:bt rd p.toNat=true):gR r p=gR D p:=by
 unfold gR;rw[h.1,h.2 _ (.inr E)]
theorem aI{r D:D7}{y:F'}(E:Vh al ws rd y)(h:OS ws rd r D):OS ws rd (j4 r y) (j4 D y):=by
 have e:Zt r y=Zt D y:=by
  unfold Zt;split
  ·rename_i e;exact P5 h (E.rf (.inl e))
  ·split
   ·rename_i e;rw[P5 h (E.rp (.inl e)),P5 h (E.rf (.inr e))]
   ·split
    ·rename_i e;rw[P5 h (E.rp (.inr e))]
    ·rfl
 refine⟨?_,fun k F=>?_⟩
 ·show bits .or K r.has _=bits .or K D.has _;rw[h.1]
 ·show(if k=y.p.toNat then IC (Zt r y)else r.v k)=(if k=y.p.toNat then IC (Zt D y)else D.v k);rw[e,h.2 k F]
theorem S3(E:∀ j,j<N→Vh al ws rd (a j)):∀n j r D,j+n≤N→OS ws rd r D→OS ws rd (MH a n j r) (MH a n j D)
 |0,_,r,D,_,h=>h
 |n+1,j,r,D,hN,h=>by
  unfold MH;exact S3 E n (j+1) _ _ (by omega) (aI (E j (by omega)) h)
end
theorem ft{r h:D7}(D:r.ix=h.ix)(E:r.gen=h.gen)(F:r.has=h.has)(H:∀ k,r.v k=h.v k):r=h:=by
 cases r;cases h;simp only at D E F H;subst D E F;have:_=_:=funext H;rw[this]
section
variable {al ws rd al' ws' rd' no no':Int} {a a':Nat→F'} {N N':Nat}
theorem Ya(H:∀ j,j<N→Vh al ws rd (a j))(D:∀ j,j<N'→Vh al' ws' rd' (a' j))(hd:∀ k,bt ws k=true→bt ws' k=false∧bt rd' k=false)(Z:∀ k,bt ws' k=true→bt ws k=false∧bt rd k=false){r:D7}(V:FV r.has=true):
  Qb al' no' a' N' (Qb al no a N r)=Qb al no a N (Qb al' no' a' N' r):=by
 have J:IJ al no r.has=true→∀k,k<8→bt al k=true→bt r.has k=true:=fun h k hk=>Qv h (by omega);have L:IJ al' no' r.has=true→∀k,k<8→bt al' k=true→bt r.has k=true:=fun h k hk=>Qv h (by omega);unfold Qb;by_cases E:IJ al no r.has=true <;>by_cases F:IJ al' no' r.has=true
 ·have M:=N1 H N 0 r (by omega) V (J E);have U:=N1 D N' 0 r (by omega) V (L F);have e3:=N1 D N' 0 (MH a N 0 r) (by omega) (by rw[M];exact V) (by rw[M];exact L F);have e4:=N1 H N 0 (MH a' N' 0 r) (by omega) (by rw[U];exact V) (by rw[U];exact J E);rw[AF E,AF F,M,U,AF E,AF F];refine ft ?_ ?_ (by rw[e3,e4,M,U]) fun k=>?_
  ·rw[(Oa a' N' 0 _).1,(Oa a N 0 _).1,(Oa a N 0 _).1,(Oa a' N' 0 _).1]
  ·rw[(Oa a' N' 0 _).2,(Oa a N 0 _).2,(Oa a N 0 _).2,(Oa a' N' 0 _).2]
  ·have s1:OS ws rd r (MH a' N' 0 r):=⟨U.symm,fun q J=>by
    refine(M4 D ?_ N' 0 r (by omega)).symm
    cases e:bt ws' q with
    |false=>rfl
    |true=>have:=Z q e;rcases J with h|h <;>simp_all⟩
   have s2:OS ws' rd' r (MH a N 0 r):=⟨M.symm,fun q J=>by
    refine(M4 H ?_ N 0 r (by omega)).symm
    cases e:bt ws q with
    |false=>rfl
    |true=>have:=hd q e;rcases J with h|h <;>simp_all⟩
   cases Y:bt ws k with
   |true =>
    rw[M4 D (hd k Y).1 N' 0 _ (by omega)];exact(S3 H N 0 _ _ (by omega) s1).2 k (.inl Y)
   |false =>
    rw[M4 H Y N 0 _ (by omega)]
    cases f2:bt ws' k with
    |true=>exact((S3 D N' 0 _ _ (by omega) s2).2 k (.inl f2)).symm
    |false=>rw[M4 D f2 N' 0 _ (by omega),M4 D f2 N' 0 _ (by omega),M4 H Y N 0 _ (by omega)]
 ·have M:=N1 H N 0 r (by omega) V (J E);rw[AF E,AA F,M,AA F,AF E]
 ·have U:=N1 D N' 0 r (by omega) V (L F);rw[AA E,AF F,U,AA E]
 ·rw[AA E,AA F,AA E]
end
theorem iT{u r v:Int}(h:Zs u r v=false){k:Nat}(D:bt u k=true):bt r k=false∧bt v k=false:=by
 unfold Zs at h;have h:bits .and K u (bits .or K r v)=0:=by simpa using h
 have e:bt (bits .and K u (bits .or K r v)) k=false:=by rw[h];exact X1 k
 rw[ep,Mo,D,DM,Fo]at e;exact e
theorem ig{X Y:Wd}(D:X.gens=Y.gens)(E:X.rows.length=Y.rows.length)(h:∀ t,t<X.rows.length→E' X t=E' Y t):X=Y:=by
 cases X with|mk xr xg=>cases Y with|mk yr yg =>
 simp only at D E;subst D;congr 1;refine Ca E fun t F H=>?_;have:=h t F;unfold E' at this;simpa[Az,AE F,AE H]using this
theorem SK{X:Wd}(h:FK X){s:GG}(D:(MA s.m s.al s.no s.a s.len).1=0)(E:∀ j,j<s.len→Qf (s.a j)):∃Z,I' X s=(0,Z)∧iY X Z (Qb s.al s.no s.a s.len) X.rows.length:=by
 obtain⟨Z,F,H⟩:=UJ h s.al s.no s.a s.len E X.rows.length Fu;refine⟨Z,?_,H⟩;unfold I' Jl;rw[AA (by simpa using D),F]
theorem j6{X:Wd}(Y:FK X){s t:GG}(H:(MA s.m s.al s.no s.a s.len).1=0)(J:(MA t.m t.al t.no t.a t.len).1=0)(U:gk s.al s.a s.len t.al t.a t.len=false):
  ∃Z,GX (fun j=>if j=0 then s else t) 2 0 X=((0,0),Z)∧GX (fun j=>if j=0 then t else s) 2 0 X=((0,0),Z)∧FK Z:=by
 unfold gk Xw at U;simp only[Fo]at U;obtain⟨m1,m2,l1,l2,d1,d2⟩:=U;have L:=fun j (h:j<s.len)=>Xz H m1 l1 h;have cb:=fun j (h:j<t.len)=>Xz J m2 l2 h;have E:∀ {s t:GG},(MA s.m s.al s.no s.a s.len).1=0→(MA t.m t.al t.no t.a t.len).1=0→(∀j,j<s.len→Qf (s.a j))→(∀j,j<t.len→Qf (t.a j))→∃Z,GX (fun j=>if j=0 then s else t) 2 0 X=((0,0),Z)∧FK Z∧Z.gens=X.gens∧Z.rows.length=X.rows.length∧∀q,q<X.rows.length→E' Z q=Qb t.al t.no t.a t.len (Qb s.al s.no s.a s.len (E' X q)):=by
  intro s t H J L cb;obtain⟨Z1,h1,F⟩:=SK Y H L;obtain⟨Z2,h2,M⟩:=SK F.right J cb;refine⟨Z2,?_,M.right,M.gens.trans F.gens,M.len.trans F.len,fun q D=>?_⟩
  ·unfold GX GX GX;simp only[BX,AT,Nat.succ_ne_zero,BG,Nat.one_ne_zero,h1,h2,ne_eq,D0]
  ·rw[M.row q (by rw[F.len];exact D),AF (by rw[F.len];exact D),F.row q D,AF D]
 obtain⟨Z,e1,hZ,g1,n1,w1⟩:=E H J (fun j h=>(L j h).put) (fun j h=>(cb j h).put);obtain⟨Z',e2,_,g2,n2,w2⟩:=E J H (fun j h=>(cb j h).put) (fun j h=>(L j h).put);have:Z'=Z:=ig (g2.trans g1.symm) (n2.trans n1.symm) fun q D=>by
  have D:q<X.rows.length:=by omega
  rw[w1 q D,w2 q D];exact(Ya L cb (fun k V=>(iT d1 V).symm) (fun k V=>(iT d2 V).symm) (aS (Y.rv q D))).symm
 exact⟨Z,e1,by rw[e2,this],hZ⟩
def Mv(X:Wd)(b:Int×Int):Prop:=∃k:Nat,k<X.rows.length∧Ga X b.1 b.2=(k:Int)
theorem Mv.keeps{X Y:Wd}{b:Int×Int}(h:Mv X b)(D:I6 X Y b.1 b.2):Mv Y b:=by
 obtain⟨k,E,F⟩:=h;obtain⟨j,H,J,_⟩:=D k E F;exact⟨j,H,J⟩
theorem jf{X:Wd}{al no:Int}{n:Nat}{b:Int×Int}(h:b∈GV X al no n):∃j:Nat,j<X.rows.length∧b=((E' X j).ix,(E' X j).gen):=by
 unfold GV at h;obtain⟨r,E,rfl⟩:=Cn.1 h;have F:=C6 (BU.1 E).1;obtain⟨j,D,e⟩:=DN.1 F;refine⟨j,D,?_⟩;have:E' X j=r:=by unfold E';rw[Hr _ _ D,e]
 rw[this]
theorem gz{X:Wd}(E:FK X){al no:Int}{n:Nat}{b:Int×Int}(h:b∈GV X al no n):Mv X b:=by
 obtain⟨j,D,rfl⟩:=jf h;exact⟨j,D,U6 E D⟩
theorem es{X:Wd}(D:FK X)(al no:Int)(n:Nat):(GV X al no n).Pairwise (fun a b=>a≠b):=by
 unfold GV;rw[Dh];refine Fn _ ?_;refine Fg (List.take_sublist _ _) ?_;exact(Kd D).imp fun h e=>by
  have:=B8 Prod.fst e;simp only at this;omega
theorem K3{X:Wd}(H:FK X){i g p:Int}{k:Nat}(J:k<X.rows.length)(L:Ga X i g=(k:Int))(M:F5 p=true):(Ij X i g p).1=(E' X k).v p.toNat∧(Ij X i g p).2=Kz (E' X k).has p:=by
 obtain⟨D,U⟩:=Hz (H.rv k J);have E:=AM M;have V:Mt (fun j=>X.rows.getD j dR) i g X.rows.length 0=(k:Int):=L;have Z:X.rows.getD k dR=E' X k:=rfl;have F:=PI (E' X k).has p D.1 D.2;unfold Ij RD;rw[V,AA (by omega),Bi];show(if IR (E' X k).has p=true then((E' X k).v p.toNat,true)else(0,false)).1=(E' X k).v p.toNat∧(if IR (E' X k).has p=true then((E' X k).v p.toNat,true)else(0,false)).2=Kz (E' X k).has p;by_cases h:IR (E' X k).has p=true
 ·rw[AF h];exact⟨rfl,by rw[←F,h]⟩
 ·rw[AA h];refine⟨?_,by rw[←F];simpa using h⟩;rcases(U p.toNat (by omega)).2 with h0|h0
  ·exact h0.symm
  ·rw[DS E.1]at h0;exact absurd h0 h
theorem gf(n:Int):Hx (IC n)=true:=by
 unfold IC Hx;apply Bq;split
 ·omega
 ·split <;>omega
theorem iy{X:Wd}(D:FK X){i g p n:Int}(E:Mv X (i,g))(F:F5 p=true)(H:Hx n=true):(Hc X i g p n).1=0:=by
 obtain⟨k,J,h⟩:=E;have h:Ga X i g=(k:Int):=h;unfold Hc OH;rw[AA (by simpa using(F7 X).2 D),AA (by omega)];have:∀x,(LF x p n).2.2=0:=fun x=>by unfold LF;rw[F,H];rfl
 rw[AA (by rw[this];simp)]
theorem fL{X:Wd}(J:FK X){i g:Int}(Z:Mv X (i,g)){y:F'}(hk:1≤y.k∧y.k≤7)(L:Iq y.k y.p y.f y.n=true)(h7:y.k≠7):(Hn X i g y).1=0:=by
 have M:y.k≠6→F5 y.p=true:=fun E=>by
  unfold Iq at L
  repeat' split at L
  all_goals first|exact(DO.1 L).1|exact L|omega
 obtain⟨k,D,F⟩:=Z;have F:Ga X i g=(k:Int):=F;have U:=(F7 X).2 J;unfold Hn;by_cases E:y.k=6
 ·rw[AF E];unfold GS;rw[AA (by simpa using U),AA (by omega)]
 ·rw[AA E,AA h7];by_cases V:y.k=5
  ·rw[AF V];by_cases h:(Ij X i g y.p).2=true
   ·rw[AF h];obtain⟨H,_⟩:=Hz (J.rv k D);have hI:=PI (E' X k).has y.p H.1 H.2;rw[(K3 J D F (M E)).2,←hI]at h;unfold GK OH;rw[AA (by simpa using U),AA (by omega),F,Bi];have:(Jz (X.rows.getD k dR) y.p).2.2=0:=(by unfold Jz;rw[AF (show IR (X.rows.getD k dR).has y.p=true from h)]);rw[AA (by rw[this];simp)]
   ·rw[AA h]
  ·rw[AA V];exact iy J ⟨k,D,F⟩ (M E) (gf _)
theorem Vd{X:Wd}(E:FK X){i g:Int}{y:F'}(h:(Hn X i g y).1=0)(F:y.k≠6)(H:Mv X (i,g)):Mv (Hn X i g y).2 (i,g):=by
 obtain⟨k,J,L⟩:=H;rcases Vc E h J L with⟨e,_⟩|⟨_,j,M,D,_⟩
 ·exact absurd e F
 ·exact⟨j,M,D⟩
theorem fI{X:Wd}(F:FK X){i g:Int}{k:Nat}(H:k<X.rows.length)(J:Ga X i g=(k:Int)){y:F'}(E:Iq y.k y.p y.f y.n=true):
  (y.k=2→L5 X i g y=(E' X k).v y.f.toNat∧F5 y.f=true)∧(y.k=3→L5 X i g y=IntKind.i64.wrap ((E' X k).v y.p.toNat+(E' X k).v y.f.toNat)∧F5 y.f=true∧F5 y.p=true)∧(y.k=4→L5 X i g y=IntKind.i64.wrap ((E' X k).v y.p.toNat+y.n)∧F5 y.p=true)∧(y.k=1→L5 X i g y=y.n):=by
 refine⟨fun h=>?_,fun h=>?_,fun h=>?_,fun h=>?_⟩
 ·rw[h]at E;have D:=DO.1 (show(F5 y.p && F5 y.f)=true from E);refine⟨?_,D.2⟩;unfold L5;rw[AF h,(K3 F H J D.2).1]
 ·rw[h]at E;have D:=DO.1 (show(F5 y.p && F5 y.f)=true from E);refine⟨?_,D.2,D.1⟩;unfold L5;rw[AA (by omega),AF h,(K3 F H J D.2).1,(K3 F H J D.1).1]
 ·rw[h]at E;have D:=DO.1 (show(F5 y.p && Hx y.n)=true from E);refine⟨?_,D.1⟩;unfold L5;rw[AA (by omega),AA (by omega),AF h,(K3 F H J D.1).1]
 ·unfold L5;rw[AA (by omega),AA (by omega),AA (by omega)]
structure RU(w:World)(A G:Option Addr)(X:Wd)(m al no:Int)(sl:Value)(AB:Option Addr)(bs:List (Int×Int))(Ac:Option Addr)(cc:Nat)(Gc:Option Addr)(gcc:Nat)(Xc:Wd)(W:World):Prop where
 ob:OB w A G X m al no sl Ac cc Gc gcc Xc W
 bs:LB W AB bs
section
variable {w:World} {A G:Option Addr} {X:Wd} {m al no:Int} {sl:Value} {AB:Option Addr} {bs:List (Int×Int)} {Ac:Option Addr} {cc:Nat} {Gc:Option Addr} {gcc:Nat} {Xc:Wd} {W W1:World} {A4:Option Addr} {c4:Nat} {G4:Option Addr} {gc4:Nat} {Y:Wd}
theorem RU.below(h:RU w A G X m al no sl AB bs Ac cc Gc gcc Xc W)(D:Below W.heap.size W W1):RU w A G X m al no sl AB bs Ac cc Gc gcc Xc W1 :=
 ⟨h.ob.below D,h.bs.below D⟩
theorem RU.put(h:RU w A G X m al no sl AB bs Ac cc Gc gcc Xc W)(E:WF (w.heap.size+3) A G X W A4 c4 G4 gc4 Y)(F:∀ k,¬ OU A G X (w.heap.size+k))(D:∀ o',AB=O ⟨w.heap.size,o',N⟩→bs.length=0):RU w A G X m al no sl AB bs A4 c4 G4 gc4 Y (W.setCells (w.heap.size+0) 0 [S A4 Y.rows.length c4,S G4 Y.gens.length gc4]):=
 ⟨⟨h.ob.bx.give 0 R _ R,Bv (w.heap.size+0) (by omega) _ 0 _ h.ob.bel,IE (k:=0) E F (by omega)⟩,X2 h.bs D⟩
structure RV(w:World)(A G:Option Addr)(X:Wd)(m al no:Int)(sl:Value)(AB:Option Addr)(bs:List (Int×Int))(bb:Nat)(i g:Int)(Ac:Option Addr)(cc:Nat)(Gc:Option Addr)(gcc:Nat)(Xc:Wd)(W:World):Prop where
 rb:RU w A G X m al no sl AB bs Ac cc Gc gcc Xc W
 be:GJ bb [([I K i,I K g],61)] W
variable {bb:Nat} {i g:Int}
theorem RV.below(h:RV w A G X m al no sl AB bs bb i g Ac cc Gc gcc Xc W)(D:Below W.heap.size W W1):RV w A G X m al no sl AB bs bb i g Ac cc Gc gcc Xc W1 :=
 ⟨h.rb.below D,h.be.below D⟩
theorem RV.put(h:RV w A G X m al no sl AB bs bb i g Ac cc Gc gcc Xc W)(E:WF (w.heap.size+3) A G X W A4 c4 G4 gc4 Y)(F:∀ k,¬ OU A G X (w.heap.size+k))(D:∀ o',AB=O ⟨w.heap.size,o',N⟩→bs.length=0)(H:w.heap.size<bb):RV w A G X m al no sl AB bs bb i g A4 c4 G4 gc4 Y (W.setCells (w.heap.size+0) 0 [S A4 Y.rows.length c4,S G4 Y.gens.length gc4]):=
 ⟨h.rb.put E F D,h.be.turn (.inl (by omega))⟩
theorem RU.doc(h:RU w A G X m al no sl AB bs Ac cc Gc gcc Xc W){B:Nat}(J:w.heap.size+3≤B){D:Option Addr}(E:Hd B W1 D A4 c4 G4 gc4 Y)(M:Y.gens≠[]→D=N∨(D=Gc∧Xc.gens≠[])):WF (w.heap.size+3) A G X W1 A4 c4 G4 gc4 Y :=
 ⟨E.toFX,fun b U=>by
  rcases U with⟨_,o,e⟩|⟨V,o,e⟩
  ·exact .inr (AU J (E.fa b o e))
  ·rcases E.fg with L|Z
   ·rcases M (CD.1 V)with F|⟨F,H⟩
    ·rw[L,F]at e;cases e
    ·exact h.ob.wf.blk b (.inr ⟨CD.2 H,o,by rw[←F,←L,e]⟩)
   ·exact .inr (AU J (Z b o e))⟩
end
def js:Prop:=∀(A:Option Addr) (cap:Nat) (G:Option Addr) (gcap:Nat) (X:Wd) (m al no:Int) (A1:Option Addr) (len acap:Nat) (a:Nat→F') (w:World) (hX:FX w A cap G gcap X) (hr:FK X) (hA:GZ w A1 len a) (hw:(MA m al no a len).1=0),Calls Au 30 #[Af #[S A X.rows.length cap,S G X.gens.length gcap],Af #[I K m,I K al,I K no,S A1 len acap]] w fun e w'=>∃A' c' G' gc',e=Ao (Ai #[Af #[S A' (Gq a len (GV X al no X.rows.length) X).2.rows.length c',S G' (Gq a len (GV X al no X.rows.length) X).2.gens.length gc'],I K (Gq a len (GV X al no X.rows.length) X).1])∧WF w.heap.size A G X w' A' c' G' gc' (Gq a len (GV X al no X.rows.length) X).2∧Below w.heap.size w w'
end Go.Proofs.YtnbleebilmghcabGreat
