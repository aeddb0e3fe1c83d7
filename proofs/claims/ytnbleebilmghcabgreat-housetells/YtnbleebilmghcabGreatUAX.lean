/- Acts, Needs -/
import Derived.Test.YtnbleebilmghcabGreatUAA
import Derived.Test.YtnbleebilmghcabGreatUAE
set_option linter.all false
set_option maxHeartbeats 1000000
open Go.Value renaming int→I,slice→S,agg→Af,bool→Aj
open Go.IntKind renaming i64→K
open Option renaming none→N,some→O
open Go.Obj renaming cells→Al
open Go.Ending renaming returned→Ao
open Go.Proofs.Tryz renaming prog→Au
namespace Go.Proofs.YtnbleebilmghcabGreat
open Go Go.RowKit
attribute [local go_sem ↓] Go.wp_at_zero Go.wp_at_succ
def H9(k p f n:Int):Value:=Af #[I K k,I K p,I K f,I K n]
def Ji(k p f:Int):Int:=if k=2 then bits .or K 0 (Ge f)else if k=3 then bits .or K (bits .or K 0 (Ge f)) (Ge p)else if k=4 then bits .or K 0 (Ge p)else 0
def R'(k p:Int):Int:=if k=1∨k=2∨k=3∨k=4∨k=5 then bits .or K 0 (Ge p)else if k=7 then p else 0
def Pj(k p all:Int):Bool:=if k=1∨k=2 then !(bits .and K all (Ge p) != 0)else decide (k=5)
def fJ(k p r:Int):Int:=if k=1∨k=2 then bits .or K r (Ge p)else if k=5 then bits .andNot K r (Ge p)else r
def Iq(k p f n:Int):Bool:=if k=1∨k=4 then F5 p && Hx n else if k=2∨k=3 then F5 p && F5 f else if k=5 then F5 p else if k=7 then FV p && Hx n else true
def LG(x y:Int):Bool:=bits .andNot K x y == 0
def Nd(k p f n r:Int):Int:=if k<1∨7<k then 1 else if Iq k p f n=false then 3 else if LG (Ji k p f) r=false then 7 else 0
theorem Zg{B:Nat}{a w:World}(h:Below B a w)(n:Nat):Below B a (w.drewN n):=⟨h.os,h.tape,h.output,h.size,h.block⟩
theorem QI(x y:Int)(w:World):
  Calls Au 50 #[I K x,I K y] w fun e h=>e=Ao (Aj (LG x y))∧h=w:=by
 go_enter Tryz.func50,Tryz.ntmps50
 go_wp2;go_ret;exact⟨rfl,rfl⟩
theorem SR(k p f n:Int)(w:World):
  Calls Au 85 #[H9 k p f n] w fun e h=>e=Ao (I K (Ji k p f))∧Below w.heap.size w h:=by
 by_cases D:k=3
 ·subst D;unfold H9;go_enter Tryz.func85,Tryz.ntmps85
  go_wp2;go_quiet((first|(go_at_call 86;refine(Ln _ _ _).mono ?_;rintro e h⟨rfl,H⟩;exact⟨rfl,_,H⟩)))
  go_wp2;go_ret;exact⟨rfl,Zg (by go_grown) _⟩
 ·by_cases E:k=2
  ·subst E;unfold H9;go_enter Tryz.func85,Tryz.ntmps85
   go_wp2_with(go_at_call 86;refine(Ln _ _ _).mono ?_;rintro e h⟨rfl,rfl⟩)
   go_ret;exact⟨rfl,by go_grown⟩
  ·by_cases F:k=4
   ·subst F;unfold H9;go_enter Tryz.func85,Tryz.ntmps85
    go_wp2_with(go_at_call 86;refine(Ln _ _ _).mono ?_;rintro e h⟨rfl,rfl⟩)
    go_ret;exact⟨rfl,by go_grown⟩
   ·have e:Ji k p f=0:=(by simp[Ji,E,D,F]);rw[e];unfold H9;go_enter Tryz.func85,Tryz.ntmps85
    go_wp2;go_ret;exact⟨rfl,by go_grown⟩
theorem j9(k:Int):k<1∨k=1∨k=2∨k=3∨k=4∨k=5∨k=6∨k=7∨7<k:=by omega
theorem Vo(k p f n:Int)(w:World):
  Calls Au 88 #[H9 k p f n] w fun e D=>e=Ao (I K (R' k p))∧Below w.heap.size w D:=by
 have E:=j9 k;unfold H9;by_cases h:k=1∨k=2∨k=3∨k=4∨k=5∨k=6∨k=7
 ·clear E;rcases h with rfl|rfl|rfl|rfl|rfl|rfl|rfl
  all_goals
   go_enter Tryz.func88,Tryz.ntmps88
   go_wp2_with(go_at_call 86;refine(Ln _ _ _).mono ?_;rintro e D⟨rfl,rfl⟩)
   go_ret;exact⟨rfl,by go_grown⟩
 ·have F:¬ k=1:=by omega
  have H:¬ k=2:=by omega
  have J:¬ k=3:=by omega
  have L:¬ k=4:=by omega
  have M:¬ k=5:=by omega
  have U:¬ k=7:=by omega
  have e:R' k p=0:=by simp[R',F,H,J,L,M,U]
  rw[e];clear h E e;go_enter Tryz.func88,Tryz.ntmps88
  go_wp2;go_ret;exact⟨rfl,by go_grown⟩
theorem Y3(k p f n D:Int)(w:World):
  Calls Au 89 #[H9 k p f n,I K D] w fun e E=>e=Ao (Aj (Pj k p D))∧Below w.heap.size w E:=by
 unfold H9;by_cases h:k=1∨k=2∨k=5
 ·rcases h with rfl|rfl|rfl
  all_goals
   go_enter Tryz.func89,Tryz.ntmps89
   go_wp2_with(go_at_call 126;refine(Om _ _ _).mono ?_;rintro e E⟨rfl,rfl⟩)
   go_ret;exact⟨by simp[Pj],by go_grown⟩
 ·have F:¬ k=1:=by omega
  have H:¬ k=2:=by omega
  have J:¬ k=5:=by omega
  have e:Pj k p D=false:=by simp[Pj,F,H,J]
  rw[e];clear h e;go_enter Tryz.func89,Tryz.ntmps89
  go_wp2;go_ret;exact⟨rfl,by go_grown⟩
theorem Zl(k p f n r:Int)(w:World):
  Calls Au 48 #[H9 k p f n,I K r] w fun e D=>e=Ao (I K (fJ k p r))∧Below w.heap.size w D:=by
 unfold H9;by_cases h:k=1∨k=2∨k=5
 ·rcases h with rfl|rfl|rfl
  all_goals
   go_enter Tryz.func48,Tryz.ntmps48
   go_wp2_with(first
    |(go_at_call 86;refine(Ln _ _ _).mono ?_;rintro e D⟨rfl,rfl⟩)
    |(go_at_call 87;refine(PY _ _ _).mono ?_;rintro e D⟨rfl,rfl⟩))
   go_ret;exact⟨by simp[fJ],by go_grown⟩
 ·have E:¬ k=1:=by omega
  have F:¬ k=2:=by omega
  have H:¬ k=5:=by omega
  have e:fJ k p r=r:=by simp[fJ,E,F,H]
  rw[e];clear h e;go_enter Tryz.func48,Tryz.ntmps48
  go_wp2;go_ret;exact⟨rfl,by go_grown⟩
theorem Yk(k p f n:Int)(w:World):
  Calls Au 84 #[H9 k p f n] w fun e D=>e=Ao (Aj (Iq k p f n))∧Below w.heap.size w D:=by
 unfold H9;by_cases h:k=1∨k=2∨k=3∨k=4∨k=5∨k=7
 ·rcases h with rfl|rfl|rfl|rfl|rfl|rfl
  all_goals
   cases E:F5 p
   all_goals
    cases F:FV p
    all_goals
     go_enter Tryz.func84,Tryz.ntmps84
     go_wp2_with(first
      |(go_at_call 118;refine(Jq _ _).mono ?_;rintro e D⟨rfl,rfl⟩)
      |(go_at_call 44;refine(Hs _ _).mono ?_;rintro e D⟨rfl,rfl⟩)
      |(go_at_call 124;refine(Il _ _).mono ?_;rintro e D⟨rfl,rfl⟩))
     go_ret;exact⟨by simp[Iq,E,F],by go_grown⟩
 ·have H:¬ k=1:=by omega
  have J:¬ k=2:=by omega
  have L:¬ k=3:=by omega
  have M:¬ k=4:=by omega
  have U:¬ k=5:=by omega
  have V:¬ k=7:=by omega
  have e:Iq k p f n=true:=by simp[Iq,H,J,L,M,U,V]
  rw[e];clear h e;go_enter Tryz.func84,Tryz.ntmps84
  go_wp2;go_ret;exact⟨rfl,by go_grown⟩
theorem St(k p f n r:Int)(w:World):
  Calls Au 47 #[H9 k p f n,I K r] w fun e U=>e=Ao (I K (Nd k p f n r))∧Below w.heap.size w U:=by
 by_cases F:k<1
 ·have e:Nd k p f n r=1:=by simp[Nd,F]
  rw[e];clear e;unfold H9;go_enter Tryz.func47,Tryz.ntmps47
  go_wp2;go_ret;exact⟨rfl,by go_grown⟩
 ·by_cases H:7<k
  ·have e:Nd k p f n r=1:=(by simp[Nd,H]);rw[e];clear e;unfold H9;go_enter Tryz.func47,Tryz.ntmps47
   go_wp2;go_ret;exact⟨rfl,by go_grown⟩
  ·have e:Nd k p f n r=if Iq k p f n=false then 3 else if LG (Ji k p f) r=false then 7 else 0:=by
    unfold Nd;rw[AA (by omega)]
   rw[e];clear e;have h:=Yk k p f n;have E:=SR k p f n;unfold H9 at h E⊢
   cases L:Iq k p f n
   ·rw[L]at h;have h:=h;go_enter Tryz.func47,Tryz.ntmps47
    go_wp2_with(first
     |(go_at_call 84;refine(h _).mono ?_;rintro e w1⟨rfl,D⟩))
    go_ret;exact⟨rfl,CO (by go_grown) (D.mono (by simp))⟩
   ·rw[L]at h;have h:=h;have E:=E;generalize Ji k p f=d at *
    cases Y:LG d r
    all_goals
     go_enter Tryz.func47,Tryz.ntmps47
     go_wp2_with(first
      |(go_at_call 84;refine(h _).mono ?_;rintro e w1⟨rfl,D⟩;have c0:=AW D (p:=⟨w.heap.size,0,N⟩) (v:=I K k) (by simp);have c1:=AW D (p:=⟨w.heap.size,1,N⟩) (v:=I K p) (by simp);have Z:=AW D (p:=⟨w.heap.size,2,N⟩) (v:=I K f) (by simp);have c3:=AW D (p:=⟨w.heap.size,3,N⟩) (v:=I K n) (by simp))
      |(go_at_call 85;refine(E _).mono ?_;rintro e w2⟨rfl,J⟩)
      |(go_at_call 50;refine(QI _ _ _).mono ?_;rintro e w3⟨rfl,V⟩;obtain rfl:=V.symm))
     go_ret;have M:Below w.heap.size w w1:=CO (by go_grown) (D.mono (by simp));exact⟨rfl,M.trans (J.mono M.size)⟩
set_option maxRecDepth 8000
structure F' where
 k:Int
 p:Int
 f:Int
 n:Int
def Gz(m al no:Int)(A:Option Addr)(len cap:Nat):Value:=Af #[I K m,I K al,I K no,S A len cap]
def GZ(w:World)(A:Option Addr)(len:Nat)(a:Nat→F'):Prop:=∀j,j<len→∃b off,A=O ⟨b,off,N⟩ ∧
 w.cell? ⟨b,off+j*4,N⟩=O (I K (a j).k)∧w.cell? ⟨b,off+j*4+1,N⟩=O (I K (a j).p) ∧
 w.cell? ⟨b,off+j*4+2,N⟩=O (I K (a j).f)∧w.cell? ⟨b,off+j*4+3,N⟩=O (I K (a j).n)
theorem GZ.below{w w1:World}{A:Option Addr}{len:Nat}{a:Nat→F'}(h:GZ w A len a)(D:Below w.heap.size w w1):GZ w1 A len a:=fun j F=>by
 obtain⟨b,E,h0,H,J,L,M⟩:=h j F;exact⟨b,E,h0,AW D H,AW D J,AW D L,AW D M⟩
def Jo(a:Nat→F'):Nat→Int
 |0=>0
 |j+1=>bits .or K (Jo a j) (Ji (a j).k (a j).p (a j).f)
def I7(a:Nat→F'):Nat→Int
 |0=>0
 |j+1=>bits .or K (I7 a j) (R' (a j).k (a j).p)
def J5(all:Int)(a:Nat→F'):Nat→Bool
 |0=>false
 |j+1=>J5 all a j || Pj (a j).k (a j).p all
def J6(a:Nat→F'):Nat→Bool
 |0=>false
 |j+1=>J6 a j || (decide ((a j).k=6) || decide ((a j).k=7))
theorem JK{w:World}{a:Addr}{v u:Value}(h:w.cell? a=O u):(w.setCell a v).cell? a=O v:=by
 first
 |exact D4 _ _ _ h
 |exact D4 h
theorem FH{w:World}{a b:Addr}{v u:Value}(D:a≠b)(h:w.cell? b=O u):(w.setCell a v).cell? b=O u:=by
 rw[EU]
 ·exact h
 ·exact D
structure NB(w:World)(all r u:Int)(m l:Bool)(wr:World):Prop where
 bel:Below w.heap.size w wr
 c0:wr.cell? ⟨w.heap.size+1+1,0,N⟩=O (I K r)
 c1:wr.cell? ⟨w.heap.size+1+1,1,N⟩=O (I K u)
 c2:wr.cell? ⟨w.heap.size+1+1,2,N⟩=O (Aj m)
 c3:wr.cell? ⟨w.heap.size+1+1,3,N⟩=O (Aj l)
 f:∀i,wr.frozen? ⟨w.heap.size+1+1,i,N⟩=false
 e1:wr.cell? ⟨w.heap.size,1,N⟩=O (I K all)
 t:wr.there (w.heap.size+1) 0 4
structure NW(w:World)(b5:Nat)(x:F')(all r u:Int)(m l:Bool)(wr:World):Prop extends NB w all r u m l wr where
 d0:wr.cell? ⟨b5,0,N⟩=O (I K x.k)
 d1:wr.cell? ⟨b5,1,N⟩=O (I K x.p)
 d2:wr.cell? ⟨b5,2,N⟩=O (I K x.f)
 d3:wr.cell? ⟨b5,3,N⟩=O (I K x.n)
 lt:w.heap.size+2<b5
section
variable {w:World} {b5:Nat} {x:F'} {all r u:Int} {m l:Bool} {wr w1:World}
theorem NB.below(h:NB w all r u m l wr)(D:Below wr.heap.size wr w1):NB w all r u m l w1:=by
 have E:=AL wr _ h.c0;exact⟨h.bel.trans (D.mono h.bel.size),AW D h.c0,AW D h.c1,AW D h.c2,AW D h.c3,
  fun i=>(D.frozen (p:=⟨w.heap.size+1+1,i,N⟩) E).trans (h.f i),AW D h.e1,Ia D (by simp at E;omega) h.t⟩
theorem NW.below(h:NW w b5 x all r u m l wr)(D:Below wr.heap.size wr w1):NW w b5 x all r u m l w1 :=
 ⟨h.toNB.below D,AW D h.d0,AW D h.d1,AW D h.d2,AW D h.d3,h.lt⟩
theorem NW.set0(h:NW w b5 x all r u m l wr)(v:Int):NW w b5 x all v u m l (wr.setCell ⟨w.heap.size+1+1,0,N⟩ (I K v)):=by
 have D:=h.lt;exact⟨⟨h.bel.setCell (p:=⟨w.heap.size+1+1,0,N⟩) (by simp <;>omega) _,JK h.c0,FH (by simp) h.c1,FH (by simp) h.c2,FH (by simp) h.c3,
  fun i=>by rw[Bz];exact h.f i,FH (by simp <;>omega) h.e1,Cj h.t (w.heap.size+1+1) 0 [I K v]⟩,FH (by simp <;>omega) h.d0,FH (by simp <;>omega) h.d1,FH (by simp <;>omega) h.d2,FH (by simp <;>omega) h.d3,h.lt⟩
theorem NW.set1(h:NW w b5 x all r u m l wr)(v:Int):NW w b5 x all r v m l (wr.setCell ⟨w.heap.size+1+1,1,N⟩ (I K v)):=by
 have D:=h.lt;exact⟨⟨h.bel.setCell (p:=⟨w.heap.size+1+1,1,N⟩) (by simp <;>omega) _,FH (by simp) h.c0,JK h.c1,FH (by simp) h.c2,FH (by simp) h.c3,
  fun i=>by rw[Bz];exact h.f i,FH (by simp <;>omega) h.e1,Cj h.t (w.heap.size+1+1) 1 [I K v]⟩,FH (by simp <;>omega) h.d0,FH (by simp <;>omega) h.d1,FH (by simp <;>omega) h.d2,FH (by simp <;>omega) h.d3,h.lt⟩
theorem NW.set2(h:NW w b5 x all r u m l wr)(v:Bool):NW w b5 x all r u v l (wr.setCell ⟨w.heap.size+1+1,2,N⟩ (Aj v)):=by
 have D:=h.lt;exact⟨⟨h.bel.setCell (p:=⟨w.heap.size+1+1,2,N⟩) (by simp <;>omega) _,FH (by simp) h.c0,FH (by simp) h.c1,JK h.c2,FH (by simp) h.c3,
  fun i=>by rw[Bz];exact h.f i,FH (by simp <;>omega) h.e1,Cj h.t (w.heap.size+1+1) 2 [Aj v]⟩,FH (by simp <;>omega) h.d0,FH (by simp <;>omega) h.d1,FH (by simp <;>omega) h.d2,FH (by simp <;>omega) h.d3,h.lt⟩
theorem NW.set3(h:NW w b5 x all r u m l wr)(v:Bool):NW w b5 x all r u m v (wr.setCell ⟨w.heap.size+1+1,3,N⟩ (Aj v)):=by
 have D:=h.lt;exact⟨⟨h.bel.setCell (p:=⟨w.heap.size+1+1,3,N⟩) (by simp <;>omega) _,FH (by simp) h.c0,FH (by simp) h.c1,FH (by simp) h.c2,JK h.c3,
  fun i=>by rw[Bz];exact h.f i,FH (by simp <;>omega) h.e1,Cj h.t (w.heap.size+1+1) 3 [Aj v]⟩,FH (by simp <;>omega) h.d0,FH (by simp <;>omega) h.d1,FH (by simp <;>omega) h.d2,FH (by simp <;>omega) h.d3,h.lt⟩
theorem NB.act(h:NB w all r u m l wr)(y:F'):NW w wr.heap.size y all r u m l (wr.alloc (Al #[I K y.k,I K y.p,I K y.f,I K y.n] 95)):=by
 have D:Below wr.heap.size wr (wr.alloc (Al #[I K y.k,I K y.p,I K y.f,I K y.n] 95)):=Fv.alloc Fu _;have E:=AL wr _ h.c0;have F:=h.below D;exact⟨F,by simp,by simp,by simp,by simp,by simpa using E⟩
theorem NB.start(w:World)(m al no:Int)(A:Option Addr)(len h:Nat):NB w al 0 0 false false
  (((w.alloc (Al #[I K m,I K al,I K no,S A len h] 37)).alloc (Al #[I K 0,I K 0,Aj false,Aj false] 99)).alloc (Al #[I K 0,I K 0,Aj false,Aj false] 99)):=by
 obtain⟨w1,D⟩:∃W,W=w.alloc (Al #[I K m,I K al,I K no,S A len h] 37):=⟨_,rfl⟩;have L:w1.heap.size=w.heap.size+1:=by rw[D];simp
 have M:Below w.heap.size w w1:=by rw[D];exact Fv.alloc Fu _
 have U:w1.cell? ⟨w.heap.size,1,N⟩=O (I K al):=by rw[D];simp
 rw[←D];clear D;obtain⟨w2,E⟩:∃W,W=w1.alloc (Al #[I K 0,I K 0,Aj false,Aj false] 99):=⟨_,rfl⟩;have V:w2.heap.size=w.heap.size+1+1:=by rw[E];simp[L]
 have F:Below w1.heap.size w1 w2:=by rw[E];exact Fv.alloc Fu _
 have Y:w2.there (w.heap.size+1) 0 4:=by rw[E,←L];exact Mz w1 _ _
 rw[←E];clear E;have H:Below w2.heap.size w2 (w2.alloc (Al #[I K 0,I K 0,Aj false,Aj false] 99)):=Fv.alloc Fu _;have J:=M.trans ((F.trans (H.mono F.size)).mono M.size);refine⟨J,?_,?_,?_,?_,fun i=>?_,AW H (AW F U),Ia H (by omega) Y⟩<;>rw[←V]<;>simp[go_sem]
end
def Ju(all:Int)(a:Nat→F')(len:Nat):Value:=Af #[I K (Jo a len),I K (I7 a len),Aj (J5 all a len),Aj (J6 a len)]
theorem PE(m al no:Int)(A:Option Addr)(len hf:Nat)(a:Nat→F')(w:World)(hl:len≤8)(hA:GZ w A len a):
  Calls Au 49 #[Gz m al no A len hf] w fun e w'=>e=Ao (Ju al a len)∧Below w.heap.size w w':=by
 unfold Gz;go_enter Tryz.func49,Tryz.ntmps49
 go_wp2;go_loopw [9] (fun i wr=>∃j:Nat,j≤len∧i=I K j∧NB w al (Jo a j) (I7 a j) (J5 al a j) (J6 a j) wr) (fun i _=>len - (intOf i).toNat)
 case atStart =>
  exact⟨0,AS _,rfl,NB.start w m al no A len hf⟩
 case round =>
  obtain⟨j,hj,rfl,F⟩:=hrel;by_cases hn:j<len
  ·have j0:(0:Int)≤(j:Int):=(by omega);have j1:(j:Int)<(len:Int):=(by omega);obtain⟨b,hr,rfl,q0,q1,q2,q3⟩:=hA j hn;have q0:=AW F.bel q0;have q1:=AW F.bel q1;have q2:=AW F.bel q2;have q3:=AW F.bel q3;have D:=F;clear F hA;go_wp2;have H:=D.act (a j);obtain⟨W5,hg⟩:∃W,W=wr.alloc (Al #[I K (a j).k,I K (a j).p,I K (a j).f,I K (a j).n] 95):=⟨_,rfl⟩;rw[←hg]at H⊢;clear hg D q0 q1 q2 q3;generalize wr.heap.size=b9 at *;have hb:Nonempty (Hm W5):=⟨⟨W5,AD _ _⟩⟩;have s0:=B1 H.c0;have U:=B1 H.d0;have V:=B1 H.d1;have Y:=B1 H.d2;have Z:=B1 H.d3;have D:=H;clear H;refine LJ 6 _ R R (by kernel_rfl) (by kernel_rfl) (by kernel_rfl) (by kernel_rfl) (by kernel_rfl) ?_;intro l hl;simp only[En,EP]at hl;subst hl
   repeat(go_big_quiet_step((first
    |(go_at_call 85;exact Gf (SR _ _ _ _ _)))))
   refine Bg ?_;rintro w6⟨xs,J⟩;have hc:=xs.bel;rw[←J]at hc;have L:=D.below hc;clear J xs hc s0 U V Y Z hb D;have c0:=L.c0;have f0:=L.f 0;have D:=L;clear L;simp[go_sem,c0,f0];have hd:=D.set0 (bits .or K (Jo a j) (Ji (a j).k (a j).p (a j).f));obtain⟨W7,hh⟩:∃W,W=w6.setCell ⟨w.heap.size+1+1,0,N⟩ (I K (bits .or K (Jo a j) (Ji (a j).k (a j).p (a j).f))):=⟨_,rfl⟩;rw[←hh]at hd⊢;clear hh D c0 f0;have D:=hd;clear hd;go_wp2_with fail
   have hb:Nonempty (Hm W7):=⟨⟨W7,AD _ _⟩⟩;have s0:=B1 D.c1;have U:=B1 D.d0;have V:=B1 D.d1;have Y:=B1 D.d2;have Z:=B1 D.d3;refine LJ 6 _ R R (by kernel_rfl) (by kernel_rfl) (by kernel_rfl) (by kernel_rfl) (by kernel_rfl) ?_;intro l hl;simp only[En,EP]at hl;subst hl
   repeat(go_big_quiet_step((first
    |(go_at_call 88;exact Gf (Vo _ _ _ _ _)))))
   refine Bg ?_;rintro w8⟨xs,J⟩;have he:=xs.bel;rw[←J]at he;have M:=D.below he;clear J xs he s0 U V Y Z hb D;have c1:=M.c1;have f1:=M.f 1;have D:=M;clear M;simp[go_sem,c1,f1];have h:=D.set1 (bits .or K (I7 a j) (R' (a j).k (a j).p));obtain⟨W9,hi⟩:∃W,W=w8.setCell ⟨w.heap.size+1+1,1,N⟩ (I K (bits .or K (I7 a j) (R' (a j).k (a j).p))):=⟨_,rfl⟩;rw[←hi]at h⊢;clear hi D c1 f1;have D:=h;have HM:(J5 al a (j+1)=(J5 al a j || Pj (a j).k (a j).p al)):=rfl;have HL:(J6 a (j+1)=(J6 a j || (decide ((a j).k=6) || decide ((a j).k=7)))):=rfl;have c2:=h.c2;have c3:=h.c3;have f2:=h.f 2;have f3:=h.f 3;have e1:=h.e1;have d0:=h.d0;have d1:=h.d1;have d2:=h.d2;have d3:=h.d3;have hm:=h.lt;clear h;have HR:Hid (Jo a (j+1)=bits .or K (Jo a j) (Ji (a j).k (a j).p (a j).f)):=rfl;have HU:(I7 a (j+1)=bits .or K (I7 a j) (R' (a j).k (a j).p)):=rfl;have hp:¬ w.heap.size+1+1=b9:=(by omega);have hq:¬ b9=w.heap.size+1+1:=(by omega);clear hm;generalize a j=y at *;obtain⟨k,p,f,n⟩:=y;dsimp only at *;generalize J5 al a j=mj at *;generalize J6 a j=lj at *;generalize Jo a j=rj at *;generalize I7 a j=uj at *;have ho:=(Y3 k p f n al);have hk:k=6∨k=7∨¬ (k=6∨k=7):=(by omega);rcases hk with rfl|rfl|hk
   case' inr.inr =>
    have k6:¬ k=6:=fun e=>hk (.inl e);have k7:¬ k=7:=fun e=>hk (.inr e);clear hk
   all_goals
    cases mj
    all_goals
     cases lj
     all_goals
      go_wp2_with(first
       |(go_at_call 89;refine(ho _).mono ?_;rintro e hs⟨rfl,ha⟩;have E:=D.below ha;clear D c2 c3 f2 f3 e1 d0 d1 d2 d3;have c2:=E.c2;have c3:=E.c3;have f2:=E.f 2;have f3:=E.f 3;have d0:=E.d0;have D:=E;clear E ha))
      go_roundw
      case rel =>
       exact⟨j+1,by omega,by go_num,by
        rw[AN HR,HU,HM,HL]
        first
        |exact((D.set2 _).set3 _).toNB
        |(simp only[k6,k7,DW,C8,Er,Bool.true_or];exact((D.set2 _).set3 _).toNB)⟩
      case measure=>simp[intOf];omega
  ·obtain rfl:j=len:=(by omega);have c0:=F.c0;have c1:=F.c1;have c2:=F.c2;have c3:=F.c3;have U:=(F.t 0 (by omega)).1;have V:=(F.t 1 (by omega)).1;have Y:=(F.t 2 (by omega)).1;have Z:=(F.t 3 (by omega)).1;have g0:=(F.t 0 (by omega)).2;have g1:=(F.t 1 (by omega)).2;have g2:=(F.t 2 (by omega)).2;have g3:=(F.t 3 (by omega)).2;simp only[AT]at U V Y Z g0 g1 g2 g3;obtain⟨y0,U⟩:=BQ.1 U;obtain⟨y1,V⟩:=BQ.1 V;obtain⟨y2,Y⟩:=BQ.1 Y;obtain⟨y3,Z⟩:=BQ.1 Z;have HB:=F.bel;clear F hA;go_wp2;refine AG (by simp[results,Tryz.results49,go_sem,Ju,U,V,Y,Z]<;>rfl) R ⟨rfl,?_⟩
   exact Bv (w.heap.size+1) (by omega) [I K (Jo a j),I K (I7 a j),Aj (J5 al a j),Aj (J6 a j)] 0 wr HB
end Go.Proofs.YtnbleebilmghcabGreat
