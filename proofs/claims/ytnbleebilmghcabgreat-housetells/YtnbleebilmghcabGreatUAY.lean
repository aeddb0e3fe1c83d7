/- Rn0, RnAmt, RnAct -/
import Derived.Test.YtnbleebilmghcabGreatUAW
import Derived.Test.YtnbleebilmghcabGreatUAQ
import Derived.Test.YtnbleebilmghcabGreatUAT
set_option linter.all false
set_option maxHeartbeats 4000000
open Go.Value renaming int→I,slice→S,pointer→Ae,agg→Af,tuple→Ai,oneCell'→Ar
open Go.IntKind renaming i64→K
open Option renaming none→N,some→O
open Go.Obj renaming cells→Al
open Go.Operand renaming tmp→Am
open Go.Ending renaming returned→Ao
open Array renaming getD_eq_getD_getElem?→Ap
open Go.Act renaming eval→Aq
open Go.Proofs.Tryz renaming prog→Au
namespace Go.Proofs.YtnbleebilmghcabGreat
open Go Go.RowKit
def L5(X:Wd)(i g:Int)(y:F'):Int:=if y.k=2 then(Ij X i g y.f).1 else if y.k=3 then IntKind.i64.wrap ((Ij X i g y.p).1+(Ij X i g y.f).1)else if y.k=4 then IntKind.i64.wrap ((Ij X i g y.p).1+y.n)else y.n
def Hn(X:Wd)(i g:Int)(y:F'):Int×Wd:=if y.k=6 then GS X i g else if y.k=7 then((FQ X y.p y.n).1,(FQ X y.p y.n).2.2)else if y.k=5 then(if(Ij X i g y.p).2=true then GK X i g y.p else(0,X))else Hc X i g y.p (IC (L5 X i g y))
def GP(i g:Int)(a:Nat→F'):Nat→Nat→Wd→Int×Wd
 |0,_,X=>(0,X)
 |n+1,j,X=>if(Hn X i g (a j)).1≠0 then((Hn X i g (a j)).1,FL)else if(a j).k=6 then(0,(Hn X i g (a j)).2)else GP i g a n (j+1) (Hn X i g (a j)).2
def Gq(a:Nat→F')(len:Nat):List (Int×Int)→Wd→Int×Wd
 |[],X=>(0,X)
 |b :: l,X=>if(GP b.1 b.2 a len 0 X).1≠0 then((GP b.1 b.2 a len 0 X).1,FL)else Gq a len l (GP b.1 b.2 a len 0 X).2
def Jl(X:Wd)(m al no:Int)(a:Nat→F')(len:Nat):Int×Wd:=if(MA m al no a len).1≠0 then((MA m al no a len).1,FL)else Gq a len (GV X al no X.rows.length) X
theorem jq{X:Wd}{i g:Int}{y:F'}(h:(Hn X i g y).1≠0):(Hn X i g y).2=FL:=by
 unfold Hn at h⊢;split
 ·rename_i e;rw[AF e]at h;exact Xl h
 ·rename_i e;rw[AA e]at h;split
  ·rename_i e;rw[AF e]at h;exact T5 h
  ·rename_i e;rw[AA e]at h;split
   ·rename_i e;rw[AF e]at h;split
    ·rename_i e;rw[AF e]at h;exact Xx h
    ·rename_i e;rw[AA e]at h;exact absurd R h
   ·rename_i e;rw[AA e]at h;exact Xx h
theorem Ip{X:Wd}(D:FK X){i g:Int}{y:F'}(h:(Hn X i g y).1=0):FK (Hn X i g y).2:=by
 unfold Hn at h⊢;split
 ·rename_i e;rw[AF e]at h;exact(MU h).1
 ·rename_i e;rw[AA e]at h;split
  ·rename_i e;rw[AF e]at h;exact(KK h 0 0).1
  ·rename_i e;rw[AA e]at h;split
   ·rename_i e;rw[AF e]at h;split
    ·rename_i e;rw[AF e]at h;exact(MY h).1
    ·exact D
   ·rename_i e;rw[AA e]at h;exact(NV h).1
theorem XS(i g:Int)(a:Nat→F'):∀n j X,(GP i g a n j X).1≠0→(GP i g a n j X).2=FL
 |0,_,X,h=>absurd R h
 | n+1,j,X,h=>by
  unfold GP at h⊢;split
  ·rfl
  ·rename_i e;rw[AA e]at h;split
   ·rename_i e;rw[AF e]at h;exact absurd R h
   ·rename_i e;rw[AA e]at h;exact XS i g a n (j+1) _ h
theorem Jb(i g:Int)(a:Nat→F'):∀n j X,FK X→(GP i g a n j X).1=0→FK (GP i g a n j X).2
 |0,_,X,hr,h=>hr
 | n+1,j,X,hr,h=>by
  unfold GP at h⊢;by_cases e:(Hn X i g (a j)).1=0
  ·rw[AA (by simpa using e)]at h⊢;split
   ·exact Ip hr e
   ·rename_i D;rw[AA D]at h;exact Jb i g a n (j+1) _ (Ip hr e) h
  ·rw[AF e]at h;exact absurd h e
theorem UK(a:Nat→F')(len:Nat):∀l X,(Gq a len l X).1≠0→(Gq a len l X).2=FL
 |[],X,h=>absurd R h
 |b :: l,X,h=>by
  unfold Gq at h⊢;split
  ·rfl
  ·rename_i e;rw[AA e]at h;exact UK a len l _ h
theorem Pd(a:Nat→F')(len:Nat):∀l X,FK X→(Gq a len l X).1=0→FK (Gq a len l X).2
 |[],X,hr,h=>hr
 |b :: l,X,hr,h=>by
  unfold Gq at h⊢;by_cases e:(GP b.1 b.2 a len 0 X).1=0
  ·rw[AA (by simpa using e)]at h⊢;exact Pd a len l _ (Jb _ _ _ _ _ _ hr e) h
  ·rw[AF e]at h;exact absurd h e
theorem aU{X:Wd}{m al no:Int}{a:Nat→F'}{len:Nat}(h:(Jl X m al no a len).1≠0):(Jl X m al no a len).2=FL:=by
 unfold Jl at h⊢;split
 ·rfl
 ·rename_i e;rw[AA e]at h;exact UK a len _ _ h
theorem NQ{X:Wd}(D:FK X){m al no:Int}{a:Nat→F'}{len:Nat}(h:(Jl X m al no a len).1=0):FK (Jl X m al no a len).2:=by
 unfold Jl at h⊢;by_cases e:(MA m al no a len).1=0
 ·rw[AA (by simpa using e)]at h⊢;exact Pd a len _ _ D h
 ·rw[AF e]at h;exact absurd h e
def OU(A G:Option Addr)(X:Wd)(b:Nat):Prop:=(0<X.rows.length∧∃o,A=O ⟨b,o,N⟩)∨(0<X.gens.length∧∃o,G=O ⟨b,o,N⟩)
theorem IS{W:World}{A:Option Addr}{c:Nat}{G:Option Addr}{H:Nat}{X:Wd}(h:FX W A c G H X){b:Nat}(J:OU A G X b):b<W.heap.size:=by
 rcases J with⟨E,o,e⟩|⟨E,o,e⟩
 ·obtain⟨L,M,D,F⟩:=h.rows 0 E;rw[e]at D;simp only[Bc,Cr,Bx]at D;rw[D.1];exact AL W _ F.c0
 ·obtain⟨L,M,D,F⟩:=h.gens 0 E;rw[e]at D;simp only[Bc,Cr,Bx]at D;rw[D.1];exact AL W _ F
theorem Sm{B:Nat}{W:World}{A:Option Addr}{c:Nat}{G:Option Addr}{D:Nat}{X:Wd}(h:Gv B W A c G D X){b:Nat}(E:OU A G X b):B≤b:=by
 rcases E with⟨_,o,e⟩|⟨_,o,e⟩
 ·exact h.fa b o e
 ·exact h.fg b o e
theorem Mw{W:World}{A:Option Addr}{c:Nat}{G:Option Addr}{L:Nat}{X:Wd}(h:FX W A c G L X){b o:Nat}{vs:List Value}(M:¬ OU A G X b):FX (W.setCells b o vs) A c G L X:=by
 refine⟨fun j E=>?_,fun j E=>?_⟩
 ·obtain⟨F,D,e,H⟩:=h.rows j E;exact⟨F,D,e,Jn (fun J=>M (.inl ⟨by omega,D,by rw[e,J]⟩)) H⟩
 ·obtain⟨F,D,e,H⟩:=h.gens j E;exact⟨F,D,e,(FZ (fun J=>M (.inr ⟨by omega,D,by rw[e];simpa using J⟩))).trans H⟩
structure WF(B:Nat)(A G:Option Addr)(X:Wd)(W:World)(A':Option Addr)(c':Nat)(G':Option Addr)(gc':Nat)(Y:Wd):Prop where
 at_:FX W A' c' G' gc' Y
 blk:∀b,OU A' G' Y b→OU A G X b∨B≤b
section
variable {B:Nat} {A G:Option Addr} {X:Wd} {W W1:World} {A':Option Addr} {c':Nat} {G':Option Addr} {gc':Nat} {Y:Wd}
theorem WF.below(h:WF B A G X W A' c' G' gc' Y)(D:Below W.heap.size W W1):WF B A G X W1 A' c' G' gc' Y:=⟨h.at_.below D,h.blk⟩
theorem WF.refl(h:FX W A c' G gc' X):WF B A G X W A c' G gc' X:=⟨h,fun _ D=>.inl D⟩
theorem WF.new(h:Gv B W A' c' G' gc' Y):WF B A G X W A' c' G' gc' Y:=⟨h.toFX,fun _ D=>.inr (Sm h D)⟩
theorem WF.le(h:WF B A G X W A' c' G' gc' Y){E:Nat}(F:E≤B):WF E A G X W A' c' G' gc' Y:=⟨h.at_,fun b D=>(h.blk b D).imp id (fun h=>AU F h)⟩
theorem WF.puts(h:WF B A G X W A' c' G' gc' Y){b o:Nat}{vs:List Value}(D:¬ OU A G X b)(F:b<B):WF B A G X (W.setCells b o vs) A' c' G' gc' Y :=
 ⟨Mw h.at_ (fun E=>(h.blk b E).elim D (fun h=>by omega)),h.blk⟩
theorem WF.trans{F:Option Addr}{H:Nat}{J:Option Addr}{D:Nat}{Z:Wd}{B2:Nat}(h:WF B A G X W A' c' G' gc' Y)(L:WF B2 A' G' Y W1 F H J D Z)(M:B≤B2):WF B A G X W1 F H J D Z :=
 ⟨L.at_,fun b U=>(L.blk b U).elim (fun E=>h.blk b E) (fun E=>.inr (AU M E))⟩
end
theorem Zd{b:Nat}{A G:Option Addr}:¬ OU A G FL b:=by
 rintro(⟨h,_⟩|⟨h,_⟩)<;>simp[FL]at h
theorem WF.empty{B:Nat}{A G:Option Addr}{X:Wd}(W:World)(A':Option Addr)(c':Nat)(G':Option Addr)(gc':Nat):WF B A G X W A' c' G' gc' FL :=
 ⟨⟨fun j h=>by simp[FL]at h,fun j h=>by simp[FL]at h⟩,fun b D=>absurd D Zd⟩
set_option maxRecDepth 8000
attribute [local go_sem ↓] Go.wp_at_zero Go.wp_at_succ
theorem TO(A:Option Addr)(cap:Nat)(G:Option Addr)(gcap:Nat)(X:Wd)(i g p:Int)(b:Nat)(w:World)(hn0:X.rows.length≤9223372036854775807)(hX:FX w A cap G gcap X)(h0:w.cell? ⟨b,0,N⟩=O (S A X.rows.length cap))(h1:w.cell? ⟨b,1,N⟩=O (S G X.gens.length gcap))(h2:w.cell? ⟨b+1,0,N⟩=O (I K i))(h3:w.cell? ⟨b+1,1,N⟩=O (I K g)):
  Calls Au 153 #[I K p,Ae (O ⟨b,0,N⟩),Ae (O ⟨b+1,0,N⟩)] w fun e w'=>e=Ao (I K (Ij X i g p).1)∧Below w.heap.size w w':=by
 have hG:=P4 A X.rows.length cap G X.gens.length gcap (fun j=>X.rows.getD j dR) i g p w hn0 hX.rows;rw[show RD (fun j=>X.rows.getD j dR) X.rows.length i g p=Ij X i g p from rfl]at hG;unfold FF FJ at hG;clear hX;go_enter Tryz.func153,Tryz.ntmps153
 go_wp2_with((go_at_call 120;refine hG.mono ?_;rintro e w1⟨rfl,hb1⟩))
 go_ret;exact⟨rfl,hb1⟩
theorem Nb(args:Array Value)(W:World):(callFunc 153 args).run Au W=.ok (.enter 153 args) W:=by kernel_rfl
theorem VY(A:Option Addr)(cap:Nat)(G:Option Addr)(gcap:Nat)(X:Wd)(i g:Int)(y:F')(w:World)(hn0:X.rows.length≤9223372036854775807)(hX:FX w A cap G gcap X)(hk:y.k=2):
  Calls Au 135 #[Up A cap G gcap X,FJ i g,H9 y.k y.p y.f y.n] w fun e w'=>e=Ao (I K (Ij X i g y.f).1)∧Below w.heap.size w w':=by
 have hIS:=fun p W (hb:Below w.heap.size w W) (hB:GJ w.heap.size [([S A X.rows.length cap,S G X.gens.length gcap],43),([I K i,I K g],61),([I K y.k,I K y.p,I K y.f,I K y.n],95)] W)=>TO A cap G gcap X i g p w.heap.size W hn0 (hX.below hb) (hB.cell 0 R 0 R) (hB.cell 0 R 1 R) (hB.cell 1 R 0 R) (hB.cell 1 R 1 R);have hB0:=GJ.start w [([S A X.rows.length cap,S G X.gens.length gcap],43),([I K i,I K g],61),([I K y.k,I K y.p,I K y.f,I K y.n],95)];have hb0:=F6 [([S A X.rows.length cap,S G X.gens.length gcap],43),([I K i,I K g],61),([I K y.k,I K y.p,I K y.f,I K y.n],95)] w;obtain⟨W0,hW0⟩:∃W0,W0=GQ w [([S A X.rows.length cap,S G X.gens.length gcap],43),([I K i,I K g],61),([I K y.k,I K y.p,I K y.f,I K y.n],95)]:=⟨_,rfl⟩;rw[←hW0]at hB0 hb0;have hW0':((w.alloc (Al #[S A X.rows.length cap,S G X.gens.length gcap] 43)).alloc (Al #[I K i,I K g] 61)).alloc (Al #[I K y.k,I K y.p,I K y.f,I K y.n] 95)=W0:=hW0.symm;have HIS:=An hIS;have HW0:=An hW0';have HB0:=An hB0;have HL0:=An hb0;obtain⟨a0,a1,a2,a3⟩:=hB0.f4 2 R;clear hIS hW0 hW0' hB0 hb0 hX;unfold Up FF FJ H9;have HK:=An hk;clear hk;go_enter Tryz.func135,Tryz.ntmps135
 go_upto_region 1 with fail
 rw[AN HW0];have hk:=AN HK;have hen:=Nb;go_wp2_with fail
 refine(AN HIS y.f W0 (AN HL0) (AN HB0)).mono ?_;rintro e w1⟨rfl,hb1⟩;have HL1:=An ((AN HL0).trans (hb1.mono (AN HL0).size));clear hb1 a0 a1 a2 a3;go_wp2;go_ret;exact⟨rfl,AN HL1⟩
theorem XN(A:Option Addr)(cap:Nat)(G:Option Addr)(gcap:Nat)(X:Wd)(i g:Int)(y:F')(w:World)(hn0:X.rows.length≤9223372036854775807)(hX:FX w A cap G gcap X)(hk:y.k=3):
  Calls Au 135 #[Up A cap G gcap X,FJ i g,H9 y.k y.p y.f y.n] w fun e w'=>e=Ao (I K (IntKind.i64.wrap ((Ij X i g y.p).1+(Ij X i g y.f).1)))∧Below w.heap.size w w':=by
 have hIS:=fun p W (hb:Below w.heap.size w W) (hB:GJ w.heap.size [([S A X.rows.length cap,S G X.gens.length gcap],43),([I K i,I K g],61),([I K y.k,I K y.p,I K y.f,I K y.n],95)] W)=>TO A cap G gcap X i g p w.heap.size W hn0 (hX.below hb) (hB.cell 0 R 0 R) (hB.cell 0 R 1 R) (hB.cell 1 R 0 R) (hB.cell 1 R 1 R);have hB0:=GJ.start w [([S A X.rows.length cap,S G X.gens.length gcap],43),([I K i,I K g],61),([I K y.k,I K y.p,I K y.f,I K y.n],95)];have hb0:=F6 [([S A X.rows.length cap,S G X.gens.length gcap],43),([I K i,I K g],61),([I K y.k,I K y.p,I K y.f,I K y.n],95)] w;obtain⟨W0,hW0⟩:∃W0,W0=GQ w [([S A X.rows.length cap,S G X.gens.length gcap],43),([I K i,I K g],61),([I K y.k,I K y.p,I K y.f,I K y.n],95)]:=⟨_,rfl⟩;rw[←hW0]at hB0 hb0;have hW0':((w.alloc (Al #[S A X.rows.length cap,S G X.gens.length gcap] 43)).alloc (Al #[I K i,I K g] 61)).alloc (Al #[I K y.k,I K y.p,I K y.f,I K y.n] 95)=W0:=hW0.symm;have HIS:=An hIS;have HW0:=An hW0';have HL0:=An hb0;obtain⟨a0,a1,a2,a3⟩:=hB0.f4 2 R;clear hIS hW0 hW0' hb0 hX;unfold Up FF FJ H9;have HK:=An hk;clear hk;go_enter Tryz.func135,Tryz.ntmps135
 go_upto_region 1 with fail
 rw[AN HW0];have hk:=AN HK;go_wp2_with fail
 have h0:Below W0.heap.size W0 W0.drew:=Fv.drew;refine FW (fun(γ:Unit)=>[.func (.func 153) #[] #[Ae (O ⟨w.heap.size,0,N⟩),Ae (O ⟨w.heap.size+1,0,N⟩)],Ae (O ⟨w.heap.size+2,1,N⟩),I K y.p,I K (Ij X i g y.p).1,.func (.func 153) #[] #[Ae (O ⟨w.heap.size,0,N⟩),Ae (O ⟨w.heap.size+1,0,N⟩)],Ae (O ⟨w.heap.size+2,2,N⟩),I K y.f,I K (Ij X i g y.f).1,I K (IntKind.i64.wrap ((Ij X i g y.p).1+(Ij X i g y.f).1)),I K (IntKind.i64.wrap ((Ij X i g y.p).1+(Ij X i g y.f).1))]) (fun(_:Unit) (_:Nat→Bool) W=>Below W0.heap.size W0 W) (()) (by kernel_rfl) (by kernel_rfl) (by kernel_rfl) (by kernel_rfl) h0 ?hstep ?hend
 case hstep =>
  intro F γ hout hkn ix o ho L w1 hD hL hed hcl;simp only[Hu,G9,Br,Bx]at hkn;have e5:F.tmps.getD 5 undef=Ae (O ⟨w.heap.size+2,0,N⟩):=hout 5 (by decide +kernel);have e7:F.tmps.getD 7 undef=.func (.func 153) #[] #[Ae (O ⟨w.heap.size,0,N⟩),Ae (O ⟨w.heap.size+1,0,N⟩)]:=hout 7 (by decide +kernel)
  match ix,ho with
  |0,ho|1,ho|4,ho|5,ho|8,ho|9,ho =>
   simp at ho;subst ho;exact .inl ⟨rfl,FB γ _ (by simp[go_sem,Aq,-Ap,hkn,e7,e5]) R hD (fun _ _ _=>rfl)⟩
  |2,ho =>
   simp at ho;subst ho;have bb:=hB0.below hD;have c0:=bb.cell 2 R 1 R;exact .inl ⟨rfl,FB γ _ (by simp[go_sem,Aq,-Ap,hkn,c0]) R hD (fun _ _ _=>rfl)⟩
  |3,ho =>
   simp at ho;subst ho;refine .inl ⟨rfl,GU 153 #[I K y.p,Ae (O ⟨w.heap.size,0,N⟩),Ae (O ⟨w.heap.size+1,0,N⟩)] (by simp[go_sem,Aq,-Ap,hkn,Nb]) ?_⟩;refine(AN HIS y.p w1 ((AN HL0).trans (hD.mono (AN HL0).size)) (hB0.below hD)).mono ?_;rintro e w6⟨rfl,hb6⟩;exact⟨_,γ,rfl,rfl,hD.trans (hb6.mono hD.size),fun _ _ _=>rfl⟩
  |6,ho =>
   simp at ho;subst ho;have bb:=hB0.below hD;have c0:=bb.cell 2 R 2 R;exact .inl ⟨rfl,FB γ _ (by simp[go_sem,Aq,-Ap,hkn,c0]) R hD (fun _ _ _=>rfl)⟩
  |7,ho =>
   simp at ho;subst ho;refine .inl ⟨rfl,GU 153 #[I K y.f,Ae (O ⟨w.heap.size,0,N⟩),Ae (O ⟨w.heap.size+1,0,N⟩)] (by simp[go_sem,Aq,-Ap,hkn,Nb]) ?_⟩;refine(AN HIS y.f w1 ((AN HL0).trans (hD.mono (AN HL0).size)) (hB0.below hD)).mono ?_;rintro e w6⟨rfl,hb6⟩;exact⟨_,γ,rfl,rfl,hD.trans (hb6.mono hD.size),fun _ _ _=>rfl⟩
  |ix+10,ho=>simp at ho
 case hend =>
  intro γ L w9 hD hall;clear hall h0;simp only[GN,AI,AH,Ba,AJ,AK,Nat.reduceAdd,Bf,Be];go_frame;go_wp2;go_ret;exact⟨rfl,(AN HL0).trans (hD.mono (AN HL0).size)⟩
theorem VX(A:Option Addr)(cap:Nat)(G:Option Addr)(gcap:Nat)(X:Wd)(i g:Int)(y:F')(w:World)(hn0:X.rows.length≤9223372036854775807)(hX:FX w A cap G gcap X)(hk:y.k=4):
  Calls Au 135 #[Up A cap G gcap X,FJ i g,H9 y.k y.p y.f y.n] w fun e w'=>e=Ao (I K (IntKind.i64.wrap ((Ij X i g y.p).1+y.n)))∧Below w.heap.size w w':=by
 have hIS:=fun p W (hb:Below w.heap.size w W) (hB:GJ w.heap.size [([S A X.rows.length cap,S G X.gens.length gcap],43),([I K i,I K g],61),([I K y.k,I K y.p,I K y.f,I K y.n],95)] W)=>TO A cap G gcap X i g p w.heap.size W hn0 (hX.below hb) (hB.cell 0 R 0 R) (hB.cell 0 R 1 R) (hB.cell 1 R 0 R) (hB.cell 1 R 1 R);have hB0:=GJ.start w [([S A X.rows.length cap,S G X.gens.length gcap],43),([I K i,I K g],61),([I K y.k,I K y.p,I K y.f,I K y.n],95)];have hb0:=F6 [([S A X.rows.length cap,S G X.gens.length gcap],43),([I K i,I K g],61),([I K y.k,I K y.p,I K y.f,I K y.n],95)] w;obtain⟨W0,hW0⟩:∃W0,W0=GQ w [([S A X.rows.length cap,S G X.gens.length gcap],43),([I K i,I K g],61),([I K y.k,I K y.p,I K y.f,I K y.n],95)]:=⟨_,rfl⟩;rw[←hW0]at hB0 hb0;have hW0':((w.alloc (Al #[S A X.rows.length cap,S G X.gens.length gcap] 43)).alloc (Al #[I K i,I K g] 61)).alloc (Al #[I K y.k,I K y.p,I K y.f,I K y.n] 95)=W0:=hW0.symm;have HIS:=An hIS;have HW0:=An hW0';have HL0:=An hb0;obtain⟨a0,a1,a2,a3⟩:=hB0.f4 2 R;clear hIS hW0 hW0' hb0 hX;unfold Up FF FJ H9;have HK:=An hk;clear hk;go_enter Tryz.func135,Tryz.ntmps135
 go_upto_region 1 with fail
 rw[AN HW0];have hk:=AN HK;go_wp2_with fail
 have h0:Below W0.heap.size W0 W0.drew:=Fv.drew;refine FW (fun(γ:Unit)=>[.func (.func 153) #[] #[Ae (O ⟨w.heap.size,0,N⟩),Ae (O ⟨w.heap.size+1,0,N⟩)],Ae (O ⟨w.heap.size+2,1,N⟩),I K y.p,I K (Ij X i g y.p).1,Ae (O ⟨w.heap.size+2,3,N⟩),I K y.n,I K (IntKind.i64.wrap ((Ij X i g y.p).1+y.n)),I K (IntKind.i64.wrap ((Ij X i g y.p).1+y.n))]) (fun(_:Unit) (_:Nat→Bool) W=>Below W0.heap.size W0 W) (()) (by kernel_rfl) (by kernel_rfl) (by kernel_rfl) (by kernel_rfl) h0 ?hstep ?hend
 case hstep =>
  intro F γ hout hkn ix o ho L w1 hD hL hed hcl;simp only[Hu,G9,Br,Bx]at hkn;have e5:F.tmps.getD 5 undef=Ae (O ⟨w.heap.size+2,0,N⟩):=hout 5 (by decide +kernel);have e7:F.tmps.getD 7 undef=.func (.func 153) #[] #[Ae (O ⟨w.heap.size,0,N⟩),Ae (O ⟨w.heap.size+1,0,N⟩)]:=hout 7 (by decide +kernel)
  match ix,ho with
  |0,ho|1,ho|4,ho|6,ho|7,ho =>
   simp at ho;subst ho;exact .inl ⟨rfl,FB γ _ (by simp[go_sem,Aq,-Ap,hkn,e7,e5]) R hD (fun _ _ _=>rfl)⟩
  |2,ho =>
   simp at ho;subst ho;have bb:=hB0.below hD;have c0:=bb.cell 2 R 1 R;exact .inl ⟨rfl,FB γ _ (by simp[go_sem,Aq,-Ap,hkn,c0]) R hD (fun _ _ _=>rfl)⟩
  |3,ho =>
   simp at ho;subst ho;refine .inl ⟨rfl,GU 153 #[I K y.p,Ae (O ⟨w.heap.size,0,N⟩),Ae (O ⟨w.heap.size+1,0,N⟩)] (by simp[go_sem,Aq,-Ap,hkn,Nb]) ?_⟩;refine(AN HIS y.p w1 ((AN HL0).trans (hD.mono (AN HL0).size)) (hB0.below hD)).mono ?_;rintro e w6⟨rfl,hb6⟩;exact⟨_,γ,rfl,rfl,hD.trans (hb6.mono hD.size),fun _ _ _=>rfl⟩
  |5,ho =>
   simp at ho;subst ho;have bb:=hB0.below hD;have c0:=bb.cell 2 R 3 R;exact .inl ⟨rfl,FB γ _ (by simp[go_sem,Aq,-Ap,hkn,c0]) R hD (fun _ _ _=>rfl)⟩
  |ix+8,ho=>simp at ho
 case hend =>
  intro γ L w9 hD hall;clear hall h0;simp only[GN,AI,AH,Ba,AJ,AK,Nat.reduceAdd,Bf,Be];go_frame;go_wp2;go_ret;exact⟨rfl,(AN HL0).trans (hD.mono (AN HL0).size)⟩
theorem XL(A:Option Addr)(cap:Nat)(G:Option Addr)(gcap:Nat)(X:Wd)(i g:Int)(y:F')(w:World)(hn0:X.rows.length≤9223372036854775807)(hX:FX w A cap G gcap X)(h2:¬ y.k=2)(h3:¬ y.k=3)(h4:¬ y.k=4):
  Calls Au 135 #[Up A cap G gcap X,FJ i g,H9 y.k y.p y.f y.n] w fun e w'=>e=Ao (I K y.n)∧Below w.heap.size w w':=by
 have hIS:=fun p W (hb:Below w.heap.size w W) (hB:GJ w.heap.size [([S A X.rows.length cap,S G X.gens.length gcap],43),([I K i,I K g],61),([I K y.k,I K y.p,I K y.f,I K y.n],95)] W)=>TO A cap G gcap X i g p w.heap.size W hn0 (hX.below hb) (hB.cell 0 R 0 R) (hB.cell 0 R 1 R) (hB.cell 1 R 0 R) (hB.cell 1 R 1 R);have hB0:=GJ.start w [([S A X.rows.length cap,S G X.gens.length gcap],43),([I K i,I K g],61),([I K y.k,I K y.p,I K y.f,I K y.n],95)];have hb0:=F6 [([S A X.rows.length cap,S G X.gens.length gcap],43),([I K i,I K g],61),([I K y.k,I K y.p,I K y.f,I K y.n],95)] w;obtain⟨W0,hW0⟩:∃W0,W0=GQ w [([S A X.rows.length cap,S G X.gens.length gcap],43),([I K i,I K g],61),([I K y.k,I K y.p,I K y.f,I K y.n],95)]:=⟨_,rfl⟩;rw[←hW0]at hB0 hb0;have hW0':((w.alloc (Al #[S A X.rows.length cap,S G X.gens.length gcap] 43)).alloc (Al #[I K i,I K g] 61)).alloc (Al #[I K y.k,I K y.p,I K y.f,I K y.n] 95)=W0:=hW0.symm;have HW0:=An hW0';obtain⟨a0,a1,a2,a3⟩:=hB0.f4 2 R;clear hW0 hW0' hX;unfold Up FF FJ H9;go_enter Tryz.func135,Tryz.ntmps135
 go_upto_region 1 with fail
 rw[AN HW0];go_wp2;go_ret;exact⟨rfl,hb0⟩
theorem XM(A:Option Addr)(cap:Nat)(G:Option Addr)(gcap:Nat)(X:Wd)(i g:Int)(y:F')(w:World)(hn0:X.rows.length≤9223372036854775807)(hX:FX w A cap G gcap X):
  Calls Au 135 #[Up A cap G gcap X,FJ i g,H9 y.k y.p y.f y.n] w fun e w'=>e=Ao (I K (L5 X i g y))∧Below w.heap.size w w':=by
 unfold L5;by_cases h2:y.k=2
 ·rw[AF h2];exact VY A cap G gcap X i g y w hn0 hX h2
 ·rw[AA h2];by_cases h3:y.k=3
  ·rw[AF h3];exact XN A cap G gcap X i g y w hn0 hX h3
  ·rw[AA h3];by_cases h4:y.k=4
   ·rw[AF h4];exact VX A cap G gcap X i g y w hn0 hX h4
   ·rw[AA h4];exact XL A cap G gcap X i g y w hn0 hX h2 h3 h4
theorem IE{B:Nat}{A G:Option Addr}{X:Wd}{W:World}{A':Option Addr}{c':Nat}{G':Option Addr}{gc':Nat}{Y:Wd}(h:WF B A G X W A' c' G' gc' Y){w0 k o:Nat}{vs:List Value}(h1:∀ k,¬ OU A G X (w0+k))(h2:w0+k<B):WF B A G X (W.setCells (w0+k) o vs) A' c' G' gc' Y:=h.puts (h1 k) h2
theorem Yh(A:Option Addr)(cap:Nat)(G:Option Addr)(gcap:Nat)(X:Wd)(i g:Int)(p:Int)(w:World)(hn0:X.rows.length≤9223372036854775807)(hX:FX w A cap G gcap X)(hg:(Ij X i g p).2=false):
  Calls Au 133 #[Up A cap G gcap X,FJ i g,I K p] w fun e w'=>e=Ao (Ai #[Up A cap G gcap X,I K 0])∧FX w' A cap G gcap X∧Below w.heap.size w w':=by
 have hB0:=GJ.start w [([S A X.rows.length cap,S G X.gens.length gcap],43),([I K i,I K g],61),([S N 0 0,S N 0 0],43)];have hb0:=F6 [([S A X.rows.length cap,S G X.gens.length gcap],43),([I K i,I K g],61),([S N 0 0,S N 0 0],43)] w;have hs0:=Hh [([S A X.rows.length cap,S G X.gens.length gcap],43),([I K i,I K g],61),([S N 0 0,S N 0 0],43)] w;obtain⟨W0,hW0⟩:∃W0,W0=GQ w [([S A X.rows.length cap,S G X.gens.length gcap],43),([I K i,I K g],61),([S N 0 0,S N 0 0],43)]:=⟨_,rfl⟩;rw[←hW0]at hB0 hb0 hs0;have hW0':((w.alloc (Al #[S A X.rows.length cap,S G X.gens.length gcap] 43)).alloc (Al #[I K i,I K g] 61)).alloc (Al #[S N 0 0,S N 0 0] 43)=W0:=hW0.symm;have HNB:(∀k,¬ OU A G X (w.heap.size+k)):=(fun k hb=>by have:=IS hX hb;omega);have HX0:=(hX.below hb0);have HS0:Hid (w.heap.size+3≤W0.heap.size):=An (by rw[hs0];simp);have hGE:=P4 A X.rows.length cap G X.gens.length gcap (fun j=>X.rows.getD j dR) i g p W0 hn0 (hX.below hb0).rows;rw[show RD (fun j=>X.rows.getD j dR) X.rows.length i g p=Ij X i g p from rfl]at hGE;unfold FF FJ at hGE;generalize (Ij X i g p).1=gv at *;rw[hg]at hGE;clear hg;have HW0:=An hW0';have HL0:=An hb0;obtain⟨w0,w1⟩:=hB0.g2 R;obtain⟨b0,b1⟩:=hB0.f2 1 R;clear hW0 hW0' hb0 hX hs0;unfold Up FF FJ;go_enter Tryz.func133,Tryz.ntmps133
 go_upto_region 1 with fail
 rw[AN HW0];go_wp2_with(first
  |(go_at_call 120;refine hGE.mono ?_;rintro e w2⟨rfl,hb2⟩;have h2:=hB0.below hb2;have x0:=h2.cell 0 R 0 R;have x1:=h2.cell 0 R 1 R;rw[Ay]at x0 x1;have HL2:=((AN HL0).trans (hb2.mono (AN HL0).size));have HF2:(WF (w.heap.size+3) A G X w2 A cap G gcap X):=(WF.refl (HX0.below hb2));clear hb2 w0 w1 b0 b1)
  |(refine As R 43 (Am 6) (Am 19) R (w.heap.size+2) 0 [S A X.rows.length cap,S G X.gens.length gcap] R R (by simp[Ar]) F8 (h2.there 2 R 2 R) ?_;intro W3 hW;have q1:=h2.give 2 R [S A X.rows.length cap,S G X.gens.length gcap] R;have q3:=Bv (w.heap.size+2) (by omega) [S A X.rows.length cap,S G X.gens.length gcap] 0 _ HL2;have q4:=IE (k:=2) (o:=0) (vs:=[S A X.rows.length cap,S G X.gens.length gcap]) HF2 HNB (by omega);rw[←hW]at q1 q3 q4;clear hW))
 obtain⟨t0,t1⟩:=q1.f2 2 R;refine AG (by simp[results,Tryz.results133,go_sem,t0,t1]<;>rfl) R ⟨rfl,q4.at_,q3⟩
theorem WM(A:Option Addr)(cap:Nat)(G:Option Addr)(gcap:Nat)(X:Wd)(i g:Int)(p:Int)(w:World)(hn0:X.rows.length≤9223372036854775807)(hX:FX w A cap G gcap X)(hg:(Ij X i g p).2=true):
  Calls Au 133 #[Up A cap G gcap X,FJ i g,I K p] w fun e w'=>∃A' c' G' gc',e=Ao (Ai #[Up A' c' G' gc' (GK X i g p).2,I K (GK X i g p).1])∧WF w.heap.size A G X w' A' c' G' gc' (GK X i g p).2∧Below w.heap.size w w':=by
 have hDR:=fun W (hb:Below w.heap.size w W)=>U8 A cap G gcap X i g p W hn0 (hX.below hb);obtain⟨Y,hY⟩:∃Y,Y=(GK X i g p).2:=⟨_,rfl⟩;obtain⟨err,herr⟩:∃err,err=(GK X i g p).1:=⟨_,rfl⟩;rw[←hY,←herr]at hDR⊢;clear hY herr;unfold Up FF FJ at hDR;have hB0:=GJ.start w [([S A X.rows.length cap,S G X.gens.length gcap],43),([I K i,I K g],61),([S N 0 0,S N 0 0],43)];have hb0:=F6 [([S A X.rows.length cap,S G X.gens.length gcap],43),([I K i,I K g],61),([S N 0 0,S N 0 0],43)] w;have hs0:=Hh [([S A X.rows.length cap,S G X.gens.length gcap],43),([I K i,I K g],61),([S N 0 0,S N 0 0],43)] w;obtain⟨W0,hW0⟩:∃W0,W0=GQ w [([S A X.rows.length cap,S G X.gens.length gcap],43),([I K i,I K g],61),([S N 0 0,S N 0 0],43)]:=⟨_,rfl⟩;rw[←hW0]at hB0 hb0 hs0;have hW0':((w.alloc (Al #[S A X.rows.length cap,S G X.gens.length gcap] 43)).alloc (Al #[I K i,I K g] 61)).alloc (Al #[S N 0 0,S N 0 0] 43)=W0:=hW0.symm;have HNB:(∀k,¬ OU A G X (w.heap.size+k)):=(fun k hb=>by have:=IS hX hb;omega);have HX0:=An (hX.below hb0);have HS0:(w.heap.size+3≤W0.heap.size):=(by rw[hs0];simp);have hGE:=P4 A X.rows.length cap G X.gens.length gcap (fun j=>X.rows.getD j dR) i g p W0 hn0 (hX.below hb0).rows;rw[show RD (fun j=>X.rows.getD j dR) X.rows.length i g p=Ij X i g p from rfl]at hGE;unfold FF FJ at hGE;generalize (Ij X i g p).1=gv at *;rw[hg]at hGE;clear hg;have HW0:=An hW0';have HL0:=An hb0;obtain⟨w0,w1⟩:=hB0.g2 R;obtain⟨b0,b1⟩:=hB0.f2 1 R;clear hW0 hW0' hb0 hX hs0;unfold Up FF FJ;go_enter Tryz.func133,Tryz.ntmps133
 go_upto_region 1 with fail
 rw[AN HW0];go_wp2_with(first
  |(go_at_call 120;refine hGE.mono ?_;rintro e w2⟨rfl,hb2⟩;have h2:=hB0.below hb2;have x0:=h2.cell 0 R 0 R;have x1:=h2.cell 0 R 1 R;rw[Ay]at x0 x1;have y0:=h2.cell 1 R 0 R;have y1:=h2.cell 1 R 1 R;have HL2:=An ((AN HL0).trans (hb2.mono (AN HL0).size));have HS2:(w.heap.size+3≤w2.heap.size):=(AU HS0 hb2.size);clear hb2 w0 w1 b0 b1)
  |(go_at_call 115;refine(hDR _ (AN HL2)).mono ?_;rintro e w4⟨A4,c4,G4,gc4,rfl,hN4,hb4⟩;have HB4:=(h2.below hb4);have HL4:=((AN HL2).trans (hb4.mono (AN HL2).size));have HF4:(WF (w.heap.size+3) A G X w4 A4 c4 G4 gc4 Y):=((WF.new hN4).le HS2);clear hN4 hb4 x0 x1 y0 y1)
  |(refine As R 43 (Am 6) (Am 24) R (w.heap.size+2) 0 [S A4 Y.rows.length c4,S G4 Y.gens.length gc4] R R (by simp[Ar]) F8 (HB4.there 2 R 2 R) ?_;intro W5 hW;have q1:=HB4.give 2 R [S A4 Y.rows.length c4,S G4 Y.gens.length gc4] R;have q3:=Bv (w.heap.size+2) (by omega) [S A4 Y.rows.length c4,S G4 Y.gens.length gc4] 0 _ HL4;have q4:=IE (k:=2) (o:=0) (vs:=[S A4 Y.rows.length c4,S G4 Y.gens.length gc4]) HF4 HNB (by omega);rw[←hW]at q1 q3 q4;clear hW))
 obtain⟨t0,t1⟩:=q1.f2 2 R;refine AG (by simp[results,Tryz.results133,go_sem,t0,t1]<;>rfl) R ⟨A4,c4,G4,gc4,rfl,q4.le (by omega),q3⟩
theorem fM(A:Option Addr)(cap:Nat)(G:Option Addr)(gcap:Nat)(X:Wd)(i g:Int)(y:F')(w:World)(hn0:X.rows.length≤9223372036854775807)(hX:FX w A cap G gcap X)(hk:y.k=6):
  Calls Au 96 #[Up A cap G gcap X,FJ i g,H9 y.k y.p y.f y.n] w fun e w'=>∃A' c' G' gc',e=Ao (Ai #[Up A' c' G' gc' (GS X i g).2,I K (GS X i g).1])∧WF w.heap.size A G X w' A' c' G' gc' (GS X i g).2∧Below w.heap.size w w':=by
 have hDR:=fun W (hb:Below w.heap.size w W)=>Uo A cap G gcap X i g W hn0 (hX.below hb);obtain⟨Y,hY⟩:∃Y,Y=(GS X i g).2:=⟨_,rfl⟩;obtain⟨err,herr⟩:∃err,err=(GS X i g).1:=⟨_,rfl⟩;rw[←hY,←herr]at hDR⊢;clear hY herr;unfold Up FF FJ at hDR;have HDR:=An hDR;clear hDR;have hB0:=GJ.start w [([S A X.rows.length cap,S G X.gens.length gcap],43),([I K i,I K g],61),([I K y.k,I K y.p,I K y.f,I K y.n],95),([S N 0 0,S N 0 0],43)];have hb0:=F6 [([S A X.rows.length cap,S G X.gens.length gcap],43),([I K i,I K g],61),([I K y.k,I K y.p,I K y.f,I K y.n],95),([S N 0 0,S N 0 0],43)] w;have hs0:=Hh [([S A X.rows.length cap,S G X.gens.length gcap],43),([I K i,I K g],61),([I K y.k,I K y.p,I K y.f,I K y.n],95),([S N 0 0,S N 0 0],43)] w;obtain⟨W0,hW0⟩:∃W0,W0=GQ w [([S A X.rows.length cap,S G X.gens.length gcap],43),([I K i,I K g],61),([I K y.k,I K y.p,I K y.f,I K y.n],95),([S N 0 0,S N 0 0],43)]:=⟨_,rfl⟩;rw[←hW0]at hB0 hb0 hs0;have hW0':(((w.alloc (Al #[S A X.rows.length cap,S G X.gens.length gcap] 43)).alloc (Al #[I K i,I K g] 61)).alloc (Al #[I K y.k,I K y.p,I K y.f,I K y.n] 95)).alloc (Al #[S N 0 0,S N 0 0] 43)=W0:=hW0.symm;have HNB:Hid (∀k,¬ OU A G X (w.heap.size+k)):=An (fun k hb=>by have:=IS hX hb;omega);have HX0:=An (hX.below hb0);have HS0:Hid (w.heap.size+4≤W0.heap.size):=An (by rw[hs0];simp);have HW0:=An hW0';have HL0:=An hb0;obtain⟨w0,w1⟩:=hB0.g2 R;obtain⟨b0,b1⟩:=hB0.f2 1 R;obtain⟨a0,a1,a2,a3⟩:=hB0.f4 2 R;clear hW0 hW0' hb0 hX hs0;unfold Up FF FJ  H9;have HK:=An hk;clear hk;go_enter Tryz.func96,Tryz.ntmps96
 go_upto_region 1 with fail
 rw[AN HW0];have hk:=AN HK;go_wp2_with(first
  |(go_at_call 111;refine(AN HDR _ (AN HL0)).mono ?_;rintro e w4⟨A4,c4,G4,gc4,rfl,hN4,hb4⟩;have HB4:=(hB0.below hb4);have HL4:=An ((AN HL0).trans (hb4.mono (AN HL0).size));have HF4:Hid (WF (w.heap.size+4) A G X w4 A4 c4 G4 gc4 Y):=An ((WF.new hN4).le (AN HS0));clear hN4 hb4 w0 w1 b0 b1 a0 a1 a2 a3)
  |(refine As R 43 (Am 6) (Am 18) R (w.heap.size+3) 0 [S A4 Y.rows.length c4,S G4 Y.gens.length gc4] R R (by simp[Ar]) F8 (HB4.there 3 R 2 R) ?_;intro W5 hW;have q1:=HB4.give 3 R [S A4 Y.rows.length c4,S G4 Y.gens.length gc4] R;have q3:=Bv (w.heap.size+3) (by omega) [S A4 Y.rows.length c4,S G4 Y.gens.length gc4] 0 _ (AN HL4);have q4:=IE (k:=3) (o:=0) (vs:=[S A4 Y.rows.length c4,S G4 Y.gens.length gc4]) (AN HF4) (AN HNB) (by omega);rw[←hW]at q1 q3 q4;have HL5:=An q3;clear hW q3))
 obtain⟨t0,t1⟩:=q1.f2 3 R;refine AG (by simp[results,Tryz.results96,go_sem,t0,t1]<;>rfl) R ⟨A4,c4,G4,gc4,rfl,q4.le (by omega),(AN HL5)⟩
theorem Zn(A:Option Addr)(cap:Nat)(G:Option Addr)(gcap:Nat)(X:Wd)(i g:Int)(y:F')(w:World)(hn0:X.rows.length≤9223372036854775807)(hX:FX w A cap G gcap X)(hk:y.k=5)(hg:(Ij X i g y.p).2=true):
  Calls Au 96 #[Up A cap G gcap X,FJ i g,H9 y.k y.p y.f y.n] w fun e w'=>∃A' c' G' gc',e=Ao (Ai #[Up A' c' G' gc' (GK X i g y.p).2,I K (GK X i g y.p).1])∧WF w.heap.size A G X w' A' c' G' gc' (GK X i g y.p).2∧Below w.heap.size w w':=by
 have hDR:=fun W (hb:Below w.heap.size w W)=>WM A cap G gcap X i g y.p W hn0 (hX.below hb) hg;obtain⟨Y,hY⟩:∃Y,Y=(GK X i g y.p).2:=⟨_,rfl⟩;obtain⟨err,herr⟩:∃err,err=(GK X i g y.p).1:=⟨_,rfl⟩;rw[←hY,←herr]at hDR⊢;clear hY herr;unfold Up FF FJ at hDR;have HDR:=An hDR;clear hDR;have hB0:=GJ.start w [([S A X.rows.length cap,S G X.gens.length gcap],43),([I K i,I K g],61),([I K y.k,I K y.p,I K y.f,I K y.n],95),([S N 0 0,S N 0 0],43)];have hb0:=F6 [([S A X.rows.length cap,S G X.gens.length gcap],43),([I K i,I K g],61),([I K y.k,I K y.p,I K y.f,I K y.n],95),([S N 0 0,S N 0 0],43)] w;have hs0:=Hh [([S A X.rows.length cap,S G X.gens.length gcap],43),([I K i,I K g],61),([I K y.k,I K y.p,I K y.f,I K y.n],95),([S N 0 0,S N 0 0],43)] w;obtain⟨W0,hW0⟩:∃W0,W0=GQ w [([S A X.rows.length cap,S G X.gens.length gcap],43),([I K i,I K g],61),([I K y.k,I K y.p,I K y.f,I K y.n],95),([S N 0 0,S N 0 0],43)]:=⟨_,rfl⟩;rw[←hW0]at hB0 hb0 hs0;have hW0':(((w.alloc (Al #[S A X.rows.length cap,S G X.gens.length gcap] 43)).alloc (Al #[I K i,I K g] 61)).alloc (Al #[I K y.k,I K y.p,I K y.f,I K y.n] 95)).alloc (Al #[S N 0 0,S N 0 0] 43)=W0:=hW0.symm;have HNB:Hid (∀k,¬ OU A G X (w.heap.size+k)):=An (fun k hb=>by have:=IS hX hb;omega);have HX0:=An (hX.below hb0);have HS0:Hid (w.heap.size+4≤W0.heap.size):=An (by rw[hs0];simp);have HW0:=An hW0';have HL0:=An hb0;obtain⟨w0,w1⟩:=hB0.g2 R;obtain⟨b0,b1⟩:=hB0.f2 1 R;obtain⟨a0,a1,a2,a3⟩:=hB0.f4 2 R;clear hW0 hW0' hb0 hX hs0;unfold Up FF FJ  H9;have HK:=An hk;clear hk;go_enter Tryz.func96,Tryz.ntmps96
 go_upto_region 1 with fail
 rw[AN HW0];have hk:=AN HK;go_wp2_with(first
  |(go_at_call 133;refine(AN HDR _ (AN HL0)).mono ?_;rintro e w4⟨A4,c4,G4,gc4,rfl,hN4,hb4⟩;have HB4:=(hB0.below hb4);have HL4:=An ((AN HL0).trans (hb4.mono (AN HL0).size));have HF4:Hid (WF (w.heap.size+4) A G X w4 A4 c4 G4 gc4 Y):=An (hN4.le (AN HS0));clear hN4 hb4 w0 w1 b0 b1 a0 a1 a2 a3)
  |(refine As R 43 (Am 6) (Am 41) R (w.heap.size+3) 0 [S A4 Y.rows.length c4,S G4 Y.gens.length gc4] R R (by simp[Ar]) F8 (HB4.there 3 R 2 R) ?_;intro W5 hW;have q1:=HB4.give 3 R [S A4 Y.rows.length c4,S G4 Y.gens.length gc4] R;have q3:=Bv (w.heap.size+3) (by omega) [S A4 Y.rows.length c4,S G4 Y.gens.length gc4] 0 _ (AN HL4);have q4:=IE (k:=3) (o:=0) (vs:=[S A4 Y.rows.length c4,S G4 Y.gens.length gc4]) (AN HF4) (AN HNB) (by omega);rw[←hW]at q1 q3 q4;have HL5:=An q3;clear hW q3))
 obtain⟨t0,t1⟩:=q1.f2 3 R;refine AG (by simp[results,Tryz.results96,go_sem,t0,t1]<;>rfl) R ⟨A4,c4,G4,gc4,rfl,q4.le (by omega),(AN HL5)⟩
theorem Zo(A:Option Addr)(cap:Nat)(G:Option Addr)(gcap:Nat)(X:Wd)(i g:Int)(y:F')(w:World)(hn0:X.rows.length≤9223372036854775807)(hX:FX w A cap G gcap X)(hk:y.k=5)(hg:(Ij X i g y.p).2=false):
  Calls Au 96 #[Up A cap G gcap X,FJ i g,H9 y.k y.p y.f y.n] w fun e w'=>e=Ao (Ai #[Up A cap G gcap X,I K 0])∧FX w' A cap G gcap X∧Below w.heap.size w w':=by
 have hDR:=fun W (hb:Below w.heap.size w W)=>Yh A cap G gcap X i g y.p W hn0 (hX.below hb) hg;unfold Up FF FJ at hDR;have HDR:=An hDR;clear hDR;have hB0:=GJ.start w [([S A X.rows.length cap,S G X.gens.length gcap],43),([I K i,I K g],61),([I K y.k,I K y.p,I K y.f,I K y.n],95),([S N 0 0,S N 0 0],43)];have hb0:=F6 [([S A X.rows.length cap,S G X.gens.length gcap],43),([I K i,I K g],61),([I K y.k,I K y.p,I K y.f,I K y.n],95),([S N 0 0,S N 0 0],43)] w;have hs0:=Hh [([S A X.rows.length cap,S G X.gens.length gcap],43),([I K i,I K g],61),([I K y.k,I K y.p,I K y.f,I K y.n],95),([S N 0 0,S N 0 0],43)] w;obtain⟨W0,hW0⟩:∃W0,W0=GQ w [([S A X.rows.length cap,S G X.gens.length gcap],43),([I K i,I K g],61),([I K y.k,I K y.p,I K y.f,I K y.n],95),([S N 0 0,S N 0 0],43)]:=⟨_,rfl⟩;rw[←hW0]at hB0 hb0 hs0;have hW0':(((w.alloc (Al #[S A X.rows.length cap,S G X.gens.length gcap] 43)).alloc (Al #[I K i,I K g] 61)).alloc (Al #[I K y.k,I K y.p,I K y.f,I K y.n] 95)).alloc (Al #[S N 0 0,S N 0 0] 43)=W0:=hW0.symm;have HNB:Hid (∀k,¬ OU A G X (w.heap.size+k)):=An (fun k hb=>by have:=IS hX hb;omega);have HX0:=An (hX.below hb0);have HS0:Hid (w.heap.size+4≤W0.heap.size):=An (by rw[hs0];simp);have HW0:=An hW0';have HL0:=An hb0;obtain⟨w0,w1⟩:=hB0.g2 R;obtain⟨b0,b1⟩:=hB0.f2 1 R;obtain⟨a0,a1,a2,a3⟩:=hB0.f4 2 R;clear hW0 hW0' hb0 hX hs0;unfold Up FF FJ  H9;have HK:=An hk;clear hk;go_enter Tryz.func96,Tryz.ntmps96
 go_upto_region 1 with fail
 rw[AN HW0];have hk:=AN HK;go_wp2_with(first
  |(go_at_call 133;refine(AN HDR _ (AN HL0)).mono ?_;rintro e w4⟨rfl,hX4,hb4⟩;have HB4:=(hB0.below hb4);have HL4:=An ((AN HL0).trans (hb4.mono (AN HL0).size));have HF4:Hid (WF (w.heap.size+4) A G X w4 A cap G gcap X):=An (WF.refl hX4);clear hX4 hb4 w0 w1 b0 b1 a0 a1 a2 a3)
  |(refine As R 43 (Am 6) (Am 41) R (w.heap.size+3) 0 [S A X.rows.length cap,S G X.gens.length gcap] R R (by simp[Ar]) F8 (HB4.there 3 R 2 R) ?_;intro W5 hW;have q1:=HB4.give 3 R [S A X.rows.length cap,S G X.gens.length gcap] R;have q3:=Bv (w.heap.size+3) (by omega) [S A X.rows.length cap,S G X.gens.length gcap] 0 _ (AN HL4);have q4:=IE (k:=3) (o:=0) (vs:=[S A X.rows.length cap,S G X.gens.length gcap]) (AN HF4) (AN HNB) (by omega);rw[←hW]at q1 q3 q4;have HL5:=An q3;clear hW q3))
 obtain⟨t0,t1⟩:=q1.f2 3 R;refine AG (by simp[results,Tryz.results96,go_sem,t0,t1]<;>rfl) R ⟨rfl,q4.at_,(AN HL5)⟩
theorem Zm(A:Option Addr)(cap:Nat)(G:Option Addr)(gcap:Nat)(X:Wd)(i g:Int)(y:F')(w:World)(hn0:X.rows.length≤9223372036854775807)(hX:FX w A cap G gcap X)(hk:y.k=7):
  Calls Au 96 #[Up A cap G gcap X,FJ i g,H9 y.k y.p y.f y.n] w fun e w'=>∃A' c' G' gc',e=Ao (Ai #[Up A' c' G' gc' (FQ X y.p y.n).2.2,I K (FQ X y.p y.n).1])∧WF w.heap.size A G X w' A' c' G' gc' (FQ X y.p y.n).2.2∧Below w.heap.size w w':=by
 have hDR:=fun W (hb:Below w.heap.size w W)=>SH A cap G gcap X y.p y.n W hn0 (hX.below hb);obtain⟨Y,hY⟩:∃Y,Y=(FQ X y.p y.n).2.2:=⟨_,rfl⟩;obtain⟨err,herr⟩:∃err,err=(FQ X y.p y.n).1:=⟨_,rfl⟩;obtain⟨ci,hci⟩:∃ci,ci=(FQ X y.p y.n).2.1.1:=⟨_,rfl⟩;obtain⟨cg,hcg⟩:∃cg,cg=(FQ X y.p y.n).2.1.2:=⟨_,rfl⟩;rw[←hY,←herr,←hci,←hcg]at hDR;rw[←hY,←herr];clear hY herr hci hcg;unfold Up FF FJ at hDR;have HDR:=An hDR;clear hDR;have hB0:=GJ.start w [([S A X.rows.length cap,S G X.gens.length gcap],43),([I K i,I K g],61),([I K y.k,I K y.p,I K y.f,I K y.n],95),([S N 0 0,S N 0 0],43)];have hb0:=F6 [([S A X.rows.length cap,S G X.gens.length gcap],43),([I K i,I K g],61),([I K y.k,I K y.p,I K y.f,I K y.n],95),([S N 0 0,S N 0 0],43)] w;have hs0:=Hh [([S A X.rows.length cap,S G X.gens.length gcap],43),([I K i,I K g],61),([I K y.k,I K y.p,I K y.f,I K y.n],95),([S N 0 0,S N 0 0],43)] w;obtain⟨W0,hW0⟩:∃W0,W0=GQ w [([S A X.rows.length cap,S G X.gens.length gcap],43),([I K i,I K g],61),([I K y.k,I K y.p,I K y.f,I K y.n],95),([S N 0 0,S N 0 0],43)]:=⟨_,rfl⟩;rw[←hW0]at hB0 hb0 hs0;have hW0':(((w.alloc (Al #[S A X.rows.length cap,S G X.gens.length gcap] 43)).alloc (Al #[I K i,I K g] 61)).alloc (Al #[I K y.k,I K y.p,I K y.f,I K y.n] 95)).alloc (Al #[S N 0 0,S N 0 0] 43)=W0:=hW0.symm;have HNB:Hid (∀k,¬ OU A G X (w.heap.size+k)):=An (fun k hb=>by have:=IS hX hb;omega);have HX0:=An (hX.below hb0);have HS0:Hid (w.heap.size+4≤W0.heap.size):=An (by rw[hs0];simp);have HW0:=An hW0';have HL0:=An hb0;obtain⟨w0,w1⟩:=hB0.g2 R;obtain⟨b0,b1⟩:=hB0.f2 1 R;obtain⟨a0,a1,a2,a3⟩:=hB0.f4 2 R;clear hW0 hW0' hb0 hX hs0;unfold Up FF FJ  H9;have HK:=An hk;clear hk;go_enter Tryz.func96,Tryz.ntmps96
 go_upto_region 1 with fail
 rw[AN HW0];have hk:=AN HK;go_wp2_with(first
  |(go_at_call 132;refine(AN HDR _ (AN HL0)).mono ?_;rintro e w4⟨A4,c4,G4,gc4,rfl,hN4,hb4⟩;have HB4:=((hB0.below hb4).below (IT w4 (Al #[S A4 Y.rows.length c4,S G4 Y.gens.length gc4] 43) (Al #[I K ci,I K cg] 61)));have hl4:=(AN HL0).trans (hb4.mono (AN HL0).size);have HL4:=An (hl4.trans ((IT w4 (Al #[S A4 Y.rows.length c4,S G4 Y.gens.length gc4] 43) (Al #[I K ci,I K cg] 61)).mono hl4.size));have HF4:Hid (WF (w.heap.size+4) A G X ((w4.alloc (Al #[S A4 Y.rows.length c4,S G4 Y.gens.length gc4] 43)).alloc (Al #[I K ci,I K cg] 61)) A4 c4 G4 gc4 Y):=An (((WF.new hN4).le (AN HS0)).below (IT w4 (Al #[S A4 Y.rows.length c4,S G4 Y.gens.length gc4] 43) (Al #[I K ci,I K cg] 61)));clear hN4 hb4 hl4 w0 w1 b0 b1 a0 a1 a2 a3)
  |(refine As R 43 (Am 6) (Am 32) R (w.heap.size+3) 0 [S A4 Y.rows.length c4,S G4 Y.gens.length gc4] R R (by simp[Ar]) F8 (HB4.there 3 R 2 R) ?_;intro W5 hW;have q1:=HB4.give 3 R [S A4 Y.rows.length c4,S G4 Y.gens.length gc4] R;have q3:=Bv (w.heap.size+3) (by omega) [S A4 Y.rows.length c4,S G4 Y.gens.length gc4] 0 _ (AN HL4);have q4:=IE (k:=3) (o:=0) (vs:=[S A4 Y.rows.length c4,S G4 Y.gens.length gc4]) (AN HF4) (AN HNB) (by omega);rw[←hW]at q1 q3 q4;have HL5:=An q3;clear hW q3))
 obtain⟨t0,t1⟩:=q1.f2 3 R;refine AG (by simp[results,Tryz.results96,go_sem,t0,t1]<;>rfl) R ⟨A4,c4,G4,gc4,rfl,q4.le (by omega),(AN HL5)⟩
def pr:Value→Nat→Value
 |.agg cs,k=>cs.getD k undef
 |_,_=>undef
theorem iE(A:Option Addr)(cap:Nat)(G:Option Addr)(gcap:Nat)(X:Wd)(i g:Int)(y:F')(w:World)(hn0:X.rows.length≤9223372036854775807)(hX:FX w A cap G gcap X)(h6:¬ y.k=6)(h7:¬ y.k=7)(h5:¬ y.k=5):
  Calls Au 96 #[Up A cap G gcap X,FJ i g,H9 y.k y.p y.f y.n] w fun e w'=>∃A' c' G' gc',e=Ao (Ai #[Up A' c' G' gc' (Hc X i g y.p (IC (L5 X i g y))).2,I K (Hc X i g y.p (IC (L5 X i g y))).1])∧WF w.heap.size A G X w' A' c' G' gc' (Hc X i g y.p (IC (L5 X i g y))).2∧Below w.heap.size w w':=by
 have hAM:=fun W (hW:FX W A cap G gcap X)=>XM A cap G gcap X i g y W hn0 hW;generalize L5 X i g y=am at *;have hPU:=fun W (hW:FX W A cap G gcap X)=>Xb A cap G gcap X i g y.p (IC am) W hn0 hW;obtain⟨Y,hY⟩:∃Y,Y=(Hc X i g y.p (IC am)).2:=⟨_,rfl⟩;obtain⟨err,herr⟩:∃err,err=(Hc X i g y.p (IC am)).1:=⟨_,rfl⟩;rw[←hY,←herr]at hPU⊢;clear hY herr;unfold Up FF FJ at hPU;unfold Up FF FJ H9 at hAM;have hB0:=GJ.start w [([S A X.rows.length cap,S G X.gens.length gcap],43),([I K i,I K g],61),([I K y.k,I K y.p,I K y.f,I K y.n],95),([S N 0 0,S N 0 0],43)];have hb0:=F6 [([S A X.rows.length cap,S G X.gens.length gcap],43),([I K i,I K g],61),([I K y.k,I K y.p,I K y.f,I K y.n],95),([S N 0 0,S N 0 0],43)] w;have hs0:=Hh [([S A X.rows.length cap,S G X.gens.length gcap],43),([I K i,I K g],61),([I K y.k,I K y.p,I K y.f,I K y.n],95),([S N 0 0,S N 0 0],43)] w;obtain⟨W0,hW0⟩:∃W0,W0=GQ w [([S A X.rows.length cap,S G X.gens.length gcap],43),([I K i,I K g],61),([I K y.k,I K y.p,I K y.f,I K y.n],95),([S N 0 0,S N 0 0],43)]:=⟨_,rfl⟩;rw[←hW0]at hB0 hb0 hs0;have hW0':(((w.alloc (Al #[S A X.rows.length cap,S G X.gens.length gcap] 43)).alloc (Al #[I K i,I K g] 61)).alloc (Al #[I K y.k,I K y.p,I K y.f,I K y.n] 95)).alloc (Al #[S N 0 0,S N 0 0] 43)=W0:=hW0.symm;have HNB:(∀k,¬ OU A G X (w.heap.size+k)):=(fun k hb=>by have:=IS hX hb;omega);have HX0:=(hX.below hb0);have HS0:Hid (w.heap.size+4≤W0.heap.size):=An (by rw[hs0];simp);have HW0:=An hW0';obtain⟨w0,w1⟩:=hB0.g2 R;obtain⟨b0,b1⟩:=hB0.f2 1 R;obtain⟨a0,a1,a2,a3⟩:=hB0.f4 2 R;clear hW0 hW0' hX hs0;unfold Up FF FJ  H9;go_enter Tryz.func96,Tryz.ntmps96
 go_upto_region 1 with fail
 rw[AN HW0];have h0:GJ w.heap.size [([S A X.rows.length cap,S G X.gens.length gcap],43),([I K i,I K g],61),([I K y.k,I K y.p,I K y.f,I K y.n],95),([S N 0 0,S N 0 0],43)] W0.drew∧Below w.heap.size w W0.drew∧FX W0.drew A cap G gcap X∧((fun(_:Nat)=>false) 9=true→∃A' c' G' gc',undef=Af #[S A' Y.rows.length c',S G' Y.gens.length gc']∧WF (w.heap.size+4) A G X W0.drew A' c' G' gc' Y):=⟨hB0.below Fv.drew,hb0.drew,HX0.below Fv.drew,fun e=>by cases e⟩;go_wp2_with fail
 clear w0 w1 b0 b1 a0 a1 a2 a3;refine FW (fun(γ:Value)=>[Af #[S A X.rows.length cap,S G X.gens.length gcap],Af #[I K i,I K g],Ae (O ⟨w.heap.size+2,1,N⟩),I K y.p,Af #[S A X.rows.length cap,S G X.gens.length gcap],Af #[I K i,I K g],Af #[I K y.k,I K y.p,I K y.f,I K y.n],I K am,I K (IC am),Ai #[γ,I K err],γ,I K err,undef,I K err]) (fun(γ:Value) L W=>GJ w.heap.size [([S A X.rows.length cap,S G X.gens.length gcap],43),([I K i,I K g],61),([I K y.k,I K y.p,I K y.f,I K y.n],95),(if L 12=true then [pr γ 0,pr γ 1]else [S N 0 0,S N 0 0],43)] W∧Below w.heap.size w W∧FX W A cap G gcap X∧(L 9=true→∃A' c' G' gc',γ=Af #[S A' Y.rows.length c',S G' Y.gens.length gc']∧WF (w.heap.size+4) A G X W A' c' G' gc' Y)) (undef) (by kernel_rfl) (by kernel_rfl) (by kernel_rfl) (by kernel_rfl) h0 ?hstep ?hend
 case hstep =>
  intro F γ hout hkn ix o ho L w1 hD hL hed hcl;simp only[Hu,G9,Br,Bx]at hkn;have e3:F.tmps.getD 3 undef=Ae (O ⟨w.heap.size,0,N⟩):=hout 3 (by decide +kernel);have e4:F.tmps.getD 4 undef=Ae (O ⟨w.heap.size+1,0,N⟩):=hout 4 (by decide +kernel);have e5:F.tmps.getD 5 undef=Ae (O ⟨w.heap.size+2,0,N⟩):=hout 5 (by decide +kernel);have e6:F.tmps.getD 6 undef=Ae (O ⟨w.heap.size+3,0,N⟩):=hout 6 (by decide +kernel)
  match ix,ho with
  |2,ho|11,ho|13,ho =>
   simp at ho;subst ho;exact .inl ⟨rfl,FB γ _ (by simp[go_sem,Aq,-Ap,hkn,e5]) R hD (fun _ _ _=>rfl)⟩
  |0,ho =>
   simp at ho;subst ho;obtain⟨c0,c1⟩:=hD.1.g2 R;exact .inl ⟨rfl,FB γ _ (by simp[go_sem,Aq,-Ap,e3,c0,c1]) R hD (fun _ _ _=>rfl)⟩
  |1,ho =>
   simp at ho;subst ho;obtain⟨c0,c1⟩:=hD.1.f2 1 R;exact .inl ⟨rfl,FB γ _ (by simp[go_sem,Aq,-Ap,e4,c0,c1]) R hD (fun _ _ _=>rfl)⟩
  |3,ho =>
   simp at ho;subst ho;have c0:=hD.1.cell 2 R 1 R;exact .inl ⟨rfl,FB γ _ (by simp[go_sem,Aq,-Ap,hkn,c0]) R hD (fun _ _ _=>rfl)⟩
  |4,ho =>
   simp at ho;subst ho;obtain⟨c0,c1⟩:=hD.1.g2 R;exact .inl ⟨rfl,FB γ _ (by simp[go_sem,Aq,-Ap,e3,c0,c1]) R hD (fun _ _ _=>rfl)⟩
  |5,ho =>
   simp at ho;subst ho;obtain⟨c0,c1⟩:=hD.1.f2 1 R;exact .inl ⟨rfl,FB γ _ (by simp[go_sem,Aq,-Ap,e4,c0,c1]) R hD (fun _ _ _=>rfl)⟩
  |6,ho =>
   simp at ho;subst ho;obtain⟨c0,c1,c2,c3⟩:=hD.1.f4 2 R;exact .inl ⟨rfl,FB γ _ (by simp[go_sem,Aq,-Ap,e5,c0,c1,c2,c3]) R hD (fun _ _ _=>rfl)⟩
  |7,ho =>
   simp at ho;subst ho;refine .inl ⟨rfl,GU 135 #[Af #[S A X.rows.length cap,S G X.gens.length gcap],Af #[I K i,I K g],Af #[I K y.k,I K y.p,I K y.f,I K y.n]] (by simp[go_sem,Aq,-Ap,hkn]) ?_⟩;refine(hAM w1 hD.2.2.1).mono ?_;rintro e w6⟨rfl,hb6⟩;exact⟨_,γ,rfl,rfl,⟨by rw[Fx (by decide)];exact hD.1.below hb6,hD.2.1.trans (hb6.mono hD.2.1.size),hD.2.2.1.below hb6,fun e=>(by obtain⟨A1,c1,G1,gc1,a,b⟩:=hD.2.2.2 (by rwa[Fx (by decide)]at e);exact⟨A1,c1,G1,gc1,a,b.below hb6⟩)⟩,fun _ _ _=>rfl⟩
  |8,ho =>
   simp at ho;subst ho;refine .inl ⟨rfl,GU 134 #[I K am] (by simp[go_sem,Aq,-Ap,hkn]) ?_⟩;refine(eU am w1).mono ?_;rintro e w6⟨rfl,hw6⟩;obtain rfl:=hw6.symm;exact⟨_,γ,rfl,rfl,by rw[Fx (by decide),Fx (by decide)];exact hD,fun _ _ _=>rfl⟩
  |9,ho =>
   simp at ho;subst ho;have q12:L 12=false:=FA hcl hL 14 12 (by kernel_rfl);refine .inl ⟨rfl,GU 113 #[Af #[S A X.rows.length cap,S G X.gens.length gcap],Af #[I K i,I K g],I K y.p,I K (IC am)] (by simp[go_sem,Aq,-Ap,hkn]) ?_⟩;refine(hPU w1 hD.2.2.1).mono ?_;rintro e w6⟨A6,c6,G6,gc6,rfl,hN6,hb6⟩;have hz:=hD.1.sz (by simp);exact⟨_,Af #[S A6 Y.rows.length c6,S G6 Y.gens.length gc6],rfl,rfl,⟨by rw[Fx (by decide),q12];rw[q12]at hD;exact hD.1.below hb6,hD.2.1.trans (hb6.mono hD.2.1.size),hD.2.2.1.below hb6,fun _=>⟨A6,c6,G6,gc6,rfl,(WF.new hN6).le (by simpa using hz)⟩⟩,I5 hcl hL 14 [10] (by kernel_rfl) (fun j h1 h2=>by match j with|0|1|2|3|4|5|6|7|8|11|12|13=>rfl|9=>exact absurd R h1|10=>simp at h2|j+14=>rfl)⟩
  |10,ho =>
   simp at ho;subst ho;have e52:F.tmps.getD 52 undef=Ai #[γ,I K err]:=(by simp only[hkn]);obtain⟨A1,c1,G1,gc1,hγ,_⟩:=hD.2.2.2 (hed 9 (by kernel_rfl));exact .inl ⟨rfl,FB γ γ (by rw[hγ]at e52⊢;simp[go_sem,Aq,-Ap,e52]) R (by rw[Fx (by decide),Fx (by decide)];exact hD) (fun _ _ _=>rfl)⟩
  | 12,ho =>
   simp at ho;subst ho;have e53:F.tmps.getD 53 undef=γ:=(by simp only[hkn]);have q9:L 9=true:=by
    have q10:L 10=true:=hed 10 (by kernel_rfl);exact hcl 10 _ R q10 9 (by kernel_rfl)
   obtain⟨A1,c1,G1,gc1,hγ,hF1⟩:=hD.2.2.2 q9;have hg:=hD.1.give 3 R [S A1 Y.rows.length c1,S G1 Y.gens.length gc1] (by rw[hL];rfl);refine .inl ⟨rfl,Gy γ 43 (Am 6) (Am 53) R (w.heap.size+3) 0 [S A1 Y.rows.length c1,S G1 Y.gens.length gc1] (by simp[Aq,-Ap,e6]) (by rw[hγ]at e53;simp[Aq,-Ap,e53]) (by simp[Ar]) F8 (hD.1.there 3 R 2 (by rw[hL];rfl)) R ⟨?_,Bv (w.heap.size+3) (by omega) _ 0 _ hD.2.1,Mw hD.2.2.1 (HNB 3),fun _=>⟨A1,c1,G1,gc1,hγ,IE (k:=3) hF1 HNB (by omega)⟩⟩ (fun _ _ _=>rfl)⟩;rw[IF,AF R,hγ];exact hg
  |ix+14,ho=>simp at ho
 case hend =>
  intro γ L w9 hD hall;rw[hall 12 (by decide),AF R]at hD;obtain⟨A1,c1,G1,gc1,rfl,hF1⟩:=hD.2.2.2 (hall 9 (by decide));have HB9:=hD.1;have HL9:=hD.2.1;clear hall hD h0;simp only[GN,AI,AH,Ba,AJ,AK,Nat.reduceAdd,Bf,Be];go_frame;go_wp2;obtain⟨t0,t1⟩:=HB9.f2 3 R;simp only[pr,Ap,List.getElem?_toArray,AI,AH,C9]at t0 t1;refine AG (by simp[results,Tryz.results96,go_sem,t0,t1]<;>rfl) R ⟨A1,c1,G1,gc1,rfl,hF1.le (by omega),HL9⟩
theorem iF(A:Option Addr)(cap:Nat)(G:Option Addr)(gcap:Nat)(X:Wd)(i g:Int)(y:F')(w:World)(hn0:X.rows.length≤9223372036854775807)(hX:FX w A cap G gcap X):
  Calls Au 96 #[Up A cap G gcap X,FJ i g,H9 y.k y.p y.f y.n] w fun e w'=>∃A' c' G' gc',e=Ao (Ai #[Up A' c' G' gc' (Hn X i g y).2,I K (Hn X i g y).1])∧WF w.heap.size A G X w' A' c' G' gc' (Hn X i g y).2∧Below w.heap.size w w':=by
 unfold Hn;by_cases h6:y.k=6
 ·rw[AF h6];exact fM A cap G gcap X i g y w hn0 hX h6
 ·rw[AA h6];by_cases h7:y.k=7
  ·rw[AF h7];exact Zm A cap G gcap X i g y w hn0 hX h7
  ·rw[AA h7];by_cases h5:y.k=5
   ·rw[AF h5]
    cases hg:(Ij X i g y.p).2
    ·rw[AA (by simp)];exact(Zo A cap G gcap X i g y w hn0 hX h5 hg).mono fun e w' ⟨he,h1,h2⟩=>⟨A,cap,G,gcap,he,WF.refl h1,h2⟩
    ·rw[AF R];exact Zn A cap G gcap X i g y w hn0 hX h5 hg
   ·rw[AA h5];exact iE A cap G gcap X i g y w hn0 hX h6 h7 h5
end Go.Proofs.YtnbleebilmghcabGreat
