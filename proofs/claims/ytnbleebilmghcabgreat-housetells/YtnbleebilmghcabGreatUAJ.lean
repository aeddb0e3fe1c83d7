/- Worlds as lists; a row stored into a row of one's own; what the closures of Put, Drop and Kill answer. -/
import Derived.Test.YtnbleebilmghcabGreatUAG
import Derived.Test.YtnbleebilmghcabGreatUAH
set_option linter.all false
set_option maxRecDepth 100000
set_option maxHeartbeats 4000000
open Go.Value renaming int→I,slice→S,pointer→Ae,tuple→Ai,bool→Aj
open Go.IntKind renaming i64→K
open Option renaming none→N,some→O
open Go.Operand renaming tmp→Am
open Go.Ending renaming returned→Ao
open Go.Proofs.Tryz renaming prog→Au
namespace Go.Proofs.YtnbleebilmghcabGreat
open Go Go.RowKit
attribute [local go_sem ↓] Go.wp_at_zero Go.wp_at_succ
structure Wd where
 rows:List D7
 gens:List Int
def FL:Wd:=⟨[],[]⟩
def FP(X:Wd):Int×Int:=Hk (fun j=>X.rows.getD j dR) X.rows.length X.gens.length (fun j=>X.gens.getD j 0)
def Ga(X:Wd)(i g:Int):Int:=Mt (fun j=>X.rows.getD j dR) i g X.rows.length 0
structure FX(w:World)(A:Option Addr)(cap:Nat)(G:Option Addr)(gcap:Nat)(X:Wd):Prop where
 rows:Lc w A X.rows
 gens:JE w G X.gens
theorem FX.below{w w1:World}{A:Option Addr}{E:Nat}{G:Option Addr}{D:Nat}{X:Wd}(h:FX w A E G D X)(F:Below w.heap.size w w1):FX w1 A E G D X:=⟨h.rows.below F,h.gens.below F⟩
def Up(A:Option Addr)(cap:Nat)(G:Option Addr)(gcap:Nat)(X:Wd):Value:=FF A X.rows.length cap G X.gens.length gcap
def Ih(xs:List Value):Nat→List Value→List Value
 |_,[]=>xs
 |o,v :: r=>Ih (xs.set o v) (o+1) r
theorem JF:∀(vs:List Value) (h:List Value) (o:Nat),(Ih h o vs).length=h.length
 |[],_,_=>rfl
 |v :: r,h,o=>by show(Ih (h.set o v) (o+1) r).length=_;rw[JF r,By]
theorem O5:∀(vs:List Value) (h:List Value) (o i:Nat),(Ih h o vs)[i]?=if o≤i∧i<o+vs.length∧i<h.length then vs[i - o]? else h[i]?
 |[],h,o,i=>by rw[AA (by simp;omega)];rfl
 | v :: r,h,o,i=>by
  show(Ih (h.set o v) (o+1) r)[i]?=_;rw[O5 r (h.set o v) (o+1) i,By];by_cases D:o+1≤i∧i<o+1+r.length∧i<h.length
  ·rw[AF D,AF (by simp;omega),show i - o=(i - (o+1))+1 by omega,AH]
  ·rw[AA D];by_cases E:o=i
   ·subst E;by_cases F:o<h.length
    ·rw[Co F,AF (by simp;omega),BR];rfl
    ·rw[AA (by omega),Bb (by simp;omega),Bb (by omega)]
   ·rw[Cx E,AA (by simp;omega)]
theorem Ib{D:Nat}{e:TypeId}{E n g F:Nat}:∀(vs:List Value) (o:Nat) (W:World) (H:List Value),W.ownsRow D e E (S (O ⟨g,0,N⟩) n F) n H→o+vs.length≤H.length→(W.setCells g o vs).ownsRow D e E (S (O ⟨g,0,N⟩) n F) n (Ih H o vs)
 |[],_,_,_,h,_=>h
 |v :: r,o,W,H,h,hl=>Ib r (o+1) _ _ (NX h (by simp at hl;omega) v) (by rw[By];simp at hl;omega)
theorem Hl{W:World}{D:Nat}{e:TypeId}{E n g F:Nat}{H:List Value}(h:W.ownsRow D e E (S (O ⟨g,0,N⟩) n F) n H)(o k:Nat)(L:o+k≤H.length):W.there g o k:=fun j M=>by
 have J:o+j<H.length:=by omega
 exact⟨by rw[F4 h (AE J)];rfl,KP h _⟩
theorem Sh(D:List D7)(k j:Nat)(r:D7)(h:j<D.length):(D.set k r).getD j dR=if j=k then r else D.getD j dR:=by
 by_cases e:j=k
 ·subst e;rw[AF R,Az,Co h];rfl
 ·rw[AA e,Az,Cx (BW e),Az]
theorem N3(h:List D7)(k:Nat)(r:D7)(H:k<h.length):Ih (At h) (k*11) (D' r)=At (h.set k r):=by
 apply CX;intro i;by_cases J:i<h.length*11
 ·have e:i=i / 11*11+i % 11:=by omega
  rw[O5,Fy];have E:(At (h.set k r))[i]?=(D' ((h.set k r).getD (i / 11) dR))[i % 11]?:=by
   conv=>lhs;rw[e]
   exact JD _ _ _ (by rw[By];omega) (by omega)
  have F:(At h)[i]?=(D' (h.getD (i / 11) dR))[i % 11]?:=by
   conv=>lhs;rw[e]
   exact JD _ _ _ (by omega) (by omega)
  rw[E,F,Sh _ _ _ _ (by omega),F2];by_cases D:i / 11=k
  ·rw[AF (by omega),AF D];congr 1;omega
  ·rw[AA (by omega),AA D]
 ·rw[Bb (by rw[JF,Fy];omega),Bb (by rw[Fy,By];omega)]
def M7(x:D7)(p n:Int):D7:=⟨x.ix,x.gen,bits .or K x.has (Ge p),fun k=>if k=p.toNat then n else x.v k⟩
def K5(x:D7)(p:Int):D7:=⟨x.ix,x.gen,bits .andNot K x.has (Ge p),fun k=>if k=p.toNat then 0 else x.v k⟩
theorem ZC(x:D7)(w:World):Calls Au 141 #[Hi x] w fun e h=>e=Ao (Ai #[Hi dR,Aj false,I K 0])∧Below w.heap.size w h:=by
 unfold Hi dR;go_enter Tryz.func141,Tryz.ntmps141
 go_wp2;refine AG (by simp[results,Tryz.results141,go_sem]<;>rfl) R ⟨rfl,by go_grown⟩
theorem KZ:(Au.info? 3).map (·.size)=O 1:=by kernel_rfl
theorem N2:(Au.info? 116).map (·.size)=O 11:=by kernel_rfl
theorem O3(w:World)(h D:Obj):Below w.heap.size w ((w.alloc h).alloc D):=(Fv.alloc Fu _).alloc (by simp) _
def LF(x:D7)(p n:Int):D7×Bool×Int:=if F5 p && Hx n then(M7 x p n,true,0)else(dR,false,3)
def Jz(x:D7)(p:Int):D7×Bool×Int:=if IR x.has p then(K5 x p,true,0)else(dR,false,5)
def VV(y:D7×Bool×Int):Value:=Ai #[Hi y.1,Aj y.2.1,I K y.2.2]
theorem bC(x:D7)(p n:Int)(bp bn:Nat)(w:World)(h1:w.cell? ⟨bp,0,N⟩=O (I K p))(h2:w.cell? ⟨bn,0,N⟩=O (I K n)):
  Calls Au 142 #[Hi x,Ae (O ⟨bp,0,N⟩),Ae (O ⟨bn,0,N⟩)] w fun e w'=>e=Ao (VV (LF x p n))∧Below w.heap.size w w':=by
 have g1:∀J L:Obj,((w.alloc J).alloc L).cell? ⟨bp,0,N⟩=O (I K p):=fun J L=>AW (O3 w J L) h1;have g2:∀J L:Obj,((w.alloc J).alloc L).cell? ⟨bn,0,N⟩=O (I K n):=fun J L=>AW (O3 w J L) h2;unfold LF VV
 cases hp:F5 p
 ·unfold Hi dR;simp only[El,Cy,BG];go_enter Tryz.func142,Tryz.ntmps142
  go_wp2_with(first
   |(go_at_call 118;refine(Jq _ _).mono ?_;rintro e w1⟨rfl,F⟩;obtain rfl:=F.symm)
   |(go_at_call 124;refine(Il _ _).mono ?_;rintro e w1⟨rfl,F⟩;obtain rfl:=F.symm))
  refine AG (by simp[results,Tryz.results142,go_sem]<;>rfl) R ⟨rfl,by go_grown⟩
 ·cases hv:Hx n
  ·unfold Hi dR;simp only[DM,Cy,BG];go_enter Tryz.func142,Tryz.ntmps142
   go_wp2_with(first
    |(go_at_call 118;refine(Jq _ _).mono ?_;rintro e w1⟨rfl,F⟩;obtain rfl:=F.symm)
    |(go_at_call 124;refine(Il _ _).mono ?_;rintro e w1⟨rfl,F⟩;obtain rfl:=F.symm))
   refine AG (by simp[results,Tryz.results142,go_sem]<;>rfl) R ⟨rfl,by go_grown⟩
  ·obtain⟨k,hk,rfl⟩:∃k:Nat,k<8∧p=(k:Int):=⟨p.toNat,by have:=AM hp;omega,by have:=AM hp;omega⟩;have HW:=(Ln x.has (k:Int));simp only[DM,BX];have M:=(RB.start w x dR);have hb:(0:Int)≤(k:Int):=(by omega);have hc:(k:Int)<8:=(by omega);have e:M7 x (k:Int) n=⟨x.ix,x.gen,bits .or K x.has (Ge (k:Int)),fun j=>if j=k then n else x.v j⟩:=rfl;generalize hz:M7 x (k:Int) n=z at *;have HE:=An e;clear hz e;generalize hq:bits .or K x.has (Ge (k:Int))=q at *;clear hq;unfold Hi;unfold D' dR at M;go_enter Tryz.func142,Tryz.ntmps142
   go_wp2_with(first
    |(go_at_call 118;refine(Jq _ _).mono ?_;rintro e w1⟨rfl,F⟩;obtain rfl:=F.symm)
    |(go_at_call 124;refine(Il _ _).mono ?_;rintro e w1⟨rfl,F⟩;obtain rfl:=F.symm)
    |(go_at_call 86;refine(HW _).mono ?_;rintro e w1⟨rfl,F⟩;obtain rfl:=F.symm)
    |(refine FU R 3 (Am 20) (Am 19) R w.heap.size 2 (I K q) R R R KZ (Gx M.r.c2 M.fr) ?_;intro W1 U;have E:=M.setHas q;rw[←U]at E;have p1:=AW E.bel h1;have p2:=AW E.bel h2;clear U M)
    |(refine FU R 3 (Am 24) (Am 22) R w.heap.size (3+k) (I K n) R R R KZ (Gx (E.r.v k hk) E.fr) ?_;intro W2 V;have h:=E.setV k hk n;rw[←V,←AN HE]at h;have c0:=h.r.c0;have c1:=h.r.c1;have Y:=h.r.c2;have Z:=h.r.v 0 (by decide);have c4:=h.r.v 1 (by decide);have c5:=h.r.v 2 (by decide);have c6:=h.r.v 3 (by decide);have c7:=h.r.v 4 (by decide);have c8:=h.r.v 5 (by decide);have c9:=h.r.v 6 (by decide);have H:=h.r.v 7 (by decide);simp only[AT,Nat.reduceAdd]at c0 c1 Y Z c4 c5 c6 c7 c8 c9 H;clear V E p1 p2)
    |(refine As R 116 (Am 4) (Am 25) R (w.heap.size+1) 0 (D' z) R R (F9 z) N2 (LQ h.s h.fs) ?_;intro W3 ha;have D:=h.give z;rw[←ha]at D;clear ha h c0 c1 Y Z c4 c5 c6 c7 c8 c9 H))
   have D:=D;have c0:=D.s.c0;have c1:=D.s.c1;have Y:=D.s.c2;have Z:=D.s.v 0 (by decide);have c4:=D.s.v 1 (by decide);have c5:=D.s.v 2 (by decide);have c6:=D.s.v 3 (by decide);have c7:=D.s.v 4 (by decide);have c8:=D.s.v 5 (by decide);have c9:=D.s.v 6 (by decide);have H:=D.s.v 7 (by decide);simp only[AT,Nat.reduceAdd]at c0 c1 Y Z c4 c5 c6 c7 c8 c9 H;refine AG (by simp[results,Tryz.results142,go_sem,c0,c1,Y,Z,c4,c5,c6,c7,c8,c9,H]<;>rfl) R ⟨rfl,D.bel⟩
theorem ZS(x:D7)(p:Int)(bp:Nat)(w:World)(h1:w.cell? ⟨bp,0,N⟩=O (I K p)):
  Calls Au 143 #[Hi x,Ae (O ⟨bp,0,N⟩)] w fun e w'=>e=Ao (VV (Jz x p))∧Below w.heap.size w w':=by
 have g1:∀o1 o2:Obj,((w.alloc o1).alloc o2).cell? ⟨bp,0,N⟩=O (I K p):=fun o1 o2=>AW (O3 w o1 o2) h1;have HH:=(fun W=>Om x.has p W);have HP:=(Lw x.has p);unfold Jz VV;unfold IR at *;generalize hb:(bits .and K x.has (Ge p) != 0)=b at *;clear hb
 cases b
 ·unfold Hi dR;simp only[Cy,BG];go_enter Tryz.func143,Tryz.ntmps143
  go_wp2_with(first
   |(go_at_call 126;refine(HH _).mono ?_;rintro e w1⟨rfl,H⟩;obtain rfl:=H.symm))
  refine AG (by simp[results,Tryz.results143,go_sem]<;>rfl) R ⟨rfl,by go_grown⟩
 ·obtain⟨k,hk,rfl⟩:=HP R;have HW:=(PY x.has (k:Int));simp only[BX];have J:=(RB.start w x dR);have hc:(0:Int)≤(k:Int):=by omega
  have hd:(k:Int)<8:=by omega
  have e:K5 x (k:Int)=⟨x.ix,x.gen,bits .andNot K x.has (Ge (k:Int)),fun j=>if j=k then 0 else x.v j⟩:=rfl;generalize hz:K5 x (k:Int)=z at *;have HE:=An e;clear hz e;generalize hq:bits .andNot K x.has (Ge (k:Int))=q at *;clear hq;unfold Hi;unfold D' dR at J;go_enter Tryz.func143,Tryz.ntmps143
  go_wp2_with(first
   |(go_at_call 126;refine(HH _).mono ?_;rintro e w1⟨rfl,H⟩;obtain rfl:=H.symm)
   |(go_at_call 87;refine(HW _).mono ?_;rintro e w1⟨rfl,H⟩;obtain rfl:=H.symm)
   |(refine FU R 3 (Am 16) (Am 15) R w.heap.size 2 (I K q) R R R KZ (Gx J.r.c2 J.fr) ?_;intro W1 L;have E:=J.setHas q;rw[←L]at E;have p1:=AW E.bel h1;clear L J)
   |(refine FU R 3 (Am 19) (.const (I K 0)) R w.heap.size (3+k) (I K 0) R R R KZ (Gx (E.r.v k hk) E.fr) ?_;intro W2 M;have h:=E.setV k hk 0;rw[←M,←AN HE]at h;have c0:=h.r.c0;have c1:=h.r.c1;have U:=h.r.c2;have V:=h.r.v 0 (by decide);have Y:=h.r.v 1 (by decide);have Z:=h.r.v 2 (by decide);have c6:=h.r.v 3 (by decide);have c7:=h.r.v 4 (by decide);have c8:=h.r.v 5 (by decide);have c9:=h.r.v 6 (by decide);have F:=h.r.v 7 (by decide);simp only[AT,Nat.reduceAdd]at c0 c1 U V Y Z c6 c7 c8 c9 F;clear M E p1)
   |(refine As R 116 (Am 3) (Am 20) R (w.heap.size+1) 0 (D' z) R R (F9 z) N2 (LQ h.s h.fs) ?_;intro W3 ha;have D:=h.give z;rw[←ha]at D;clear ha h c0 c1 U V Y Z c6 c7 c8 c9 F))
  have D:=D;have c0:=D.s.c0;have c1:=D.s.c1;have U:=D.s.c2;have V:=D.s.v 0 (by decide);have Y:=D.s.v 1 (by decide);have Z:=D.s.v 2 (by decide);have c6:=D.s.v 3 (by decide);have c7:=D.s.v 4 (by decide);have c8:=D.s.v 5 (by decide);have c9:=D.s.v 6 (by decide);have F:=D.s.v 7 (by decide);simp only[AT,Nat.reduceAdd]at c0 c1 U V Y Z c6 c7 c8 c9 F;refine AG (by simp[results,Tryz.results143,go_sem,c0,c1,U,V,Y,Z,c6,c7,c8,c9,F]<;>rfl) R ⟨rfl,D.bel⟩
end Go.Proofs.YtnbleebilmghcabGreat
