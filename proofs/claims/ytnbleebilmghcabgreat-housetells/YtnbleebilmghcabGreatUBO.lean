/- RAct3, RWrong, RNeeds, RNeeds2, RClash -/
import Derived.Test.YtnbleebilmghcabGreatUAA
import Derived.Test.YtnbleebilmghcabGreatUAW
set_option linter.all false
set_option maxRecDepth 8000
set_option maxHeartbeats 4000000
open Go.Value renaming int→I,slice→S,agg→Af,bool→Aj
open Go.IntKind renaming i64→K
open Option renaming none→N,some→O
open Go.Obj renaming cells→Al
open Go.Ending renaming returned→Ao
open Go.Proofs.Tryz renaming prog→Au
namespace Go.Proofs.YtnbleebilmghcabGreat
open Go Go.RowKit
theorem UF(p f n al no r:Int)(g:Nat→Bool)(w:World)(F:GR al g r):
  Calls Au 56 #[Af #[I K al,I K no],H9 3 p f n,gV g] w fun e w'=>e=Ao (I K (Nd 3 p f n r))∧Below w.heap.size w w':=by
 have e:Nd 3 p f n r=if Iq 3 p f n=false then 3 else if LG (Ji 3 p f) r=false then 7 else 0:=by
  unfold Nd;rw[AA (by omega)]
 rw[e];clear e;have H:QW w al 3 p f n g _:=QW.start (no:=no);unfold gV H9;rcases MP f with hf|hf|⟨i,L,rfl⟩
 ·have e:(if Iq 3 p f n=false then(3:Int)else if LG (Ji 3 p f) r=false then 7 else 0)=3:=by
   have:F5 f=false:=AO (by omega);simp[Iq,this]
  rw[e];clear e H;go_enter Tryz.func56,Tryz.ntmps56
  go_wp2;go_ret;exact⟨rfl,by go_grown⟩
 ·have e:(if Iq 3 p f n=false then(3:Int)else if LG (Ji 3 p f) r=false then 7 else 0)=3:=by
   have:F5 f=false:=AO (by omega);simp[Iq,this]
  rw[e];clear e H;have ha:¬ f<0:=by omega
  go_enter Tryz.func56,Tryz.ntmps56
  go_wp2;go_ret;exact⟨rfl,by go_grown⟩
 ·have ha:¬ (i:Int)<0:=by omega
  have hd:¬ 7<(i:Int):=by omega
  have he:(0:Int)≤(i:Int):=by omega
  have hh:(i:Int)<8:=by omega
  rcases MP p with hp|hp|⟨j,M,rfl⟩
  ·have e:(if Iq 3 p (i:Int) n=false then(3:Int)else if LG (Ji 3 p (i:Int)) r=false then 7 else 0)=3:=by
    have:F5 p=false:=AO (by omega);simp[Iq,this]
   rw[e];clear e H;go_enter Tryz.func56,Tryz.ntmps56
   go_wp2;go_ret;exact⟨rfl,by go_grown⟩
  ·have e:(if Iq 3 p (i:Int) n=false then(3:Int)else if LG (Ji 3 p (i:Int)) r=false then 7 else 0)=3:=by
    have:F5 p=false:=AO (by omega);simp[Iq,this]
   rw[e];clear e H;have hb:¬ p<0:=(by omega);go_enter Tryz.func56,Tryz.ntmps56
   go_wp2;go_ret;exact⟨rfl,by go_grown⟩
  ·have e:(if Iq 3 (j:Int) (i:Int) n=false then(3:Int)else if LG (Ji 3 (j:Int) (i:Int)) r=false then 7 else 0)=if((tb al i && !g i) && (tb al j && !g j))=false then 7 else 0:=by
    rw[kq r i j F.sr L M,F.eq i L,F.eq j M];simp[Iq,J4 j M,J4 i L]
   rw[e];clear e;have HI:=(fun W=>IK al i W F.sal L);have HJ:=(fun W=>IK al j W F.sal M);have HG:=(fun W (h:QW w al 3 (j:Int) (i:Int) n g W)=>h.g i L);have HH:=(fun W (h:QW w al 3 (j:Int) (i:Int) n g W)=>h.g j M);have hb:¬ (j:Int)<0:=(by omega);have hk:¬ 7<(j:Int):=(by omega);have hl:(0:Int)≤(j:Int):=(by omega);have hm:(j:Int)<8:=(by omega);clear F;generalize tb al i=J at *;generalize g i=U at *;generalize tb al j=Z at *;generalize g j=gj at *;have hc:J=false∨(J=true∧U=true)∨(J=true∧U=false∧Z=false)∨(J=true∧U=false∧Z=true∧gj=true)∨(J=true∧U=false∧Z=true∧gj=false):=by
    cases J <;>cases U <;>cases Z <;>cases gj <;>simp
   rcases hc with rfl|⟨rfl,rfl⟩|⟨rfl,rfl,rfl⟩|⟨rfl,rfl,rfl,rfl⟩|⟨rfl,rfl,rfl,rfl⟩
   all_goals
    go_enter Tryz.func56,Tryz.ntmps56
    go_wp2_with(first
     |(go_at_call 61;refine(HI _).mono ?_;rintro e w1⟨rfl,V⟩;clear HI;have D:=H.below V;have a0:=D.a0;have k1:=D.k1;have k2:=D.k2;have c1:=HG _ D;clear V H)
     |(go_at_call 61;refine(HJ _).mono ?_;rintro e w2⟨rfl,Y⟩;clear HJ a0 k1 k2 c1;have E:=D.below Y;have k1:=E.k1;have c1:=HH _ E;clear Y D))
    go_ret
    first
    |exact⟨by simp,E.bel⟩
    |exact⟨by simp,D.bel⟩
theorem Rt(k p f n al no r:Int)(g:Nat→Bool)(w:World)(D:GR al g r):
  Calls Au 56 #[Af #[I K al,I K no],H9 k p f n,gV g] w fun e E=>e=Ao (I K (Nd k p f n r))∧Below w.heap.size w E:=by
 by_cases h:k=2∨k=3∨k=4
 ·rcases h with rfl|rfl|rfl
  ·exact UG p f n al no r g w D
  ·exact UF p f n al no r g w D
  ·exact UE p f n al no r g w D
 ·exact Ps k p f n al no r g w h
attribute [local go_sem ↓] Go.wp_at_zero Go.wp_at_succ
structure RW(w:World)(al no:Int)(g:Nat→Bool)(wr:World):Prop where
 bel:Below w.heap.size w wr
 e1:wr.cell? ⟨w.heap.size,1,N⟩=O (I K al)
 e2:wr.cell? ⟨w.heap.size,2,N⟩=O (I K no)
 t0:wr.cell? ⟨w.heap.size+1,0,N⟩=O (I K 0)
 t1:wr.cell? ⟨w.heap.size+1,1,N⟩=O (I K 0)
 f:∀i,wr.frozen? ⟨w.heap.size+1,i,N⟩=false
 g:∀q,q<8→wr.cell? ⟨w.heap.size+1+1,q,N⟩=O (Aj (g q))
 fg:∀i,wr.frozen? ⟨w.heap.size+1+1,i,N⟩=false
section
variable {w wr w1:World} {al no:Int} {g:Nat→Bool}
theorem RW.below(h:RW w al no g wr)(D:Below wr.heap.size wr w1):RW w al no g w1:=by
 have E:=AL wr _ h.t0;have F:=AL wr _ (h.g 0 (by omega));exact⟨h.bel.trans (D.mono h.bel.size),AW D h.e1,AW D h.e2,AW D h.t0,AW D h.t1,fun i=>(D.frozen (p:=⟨w.heap.size+1,i,N⟩) E).trans (h.f i),
  fun q H=>AW D (h.g q H),fun i=>(D.frozen (p:=⟨w.heap.size+1+1,i,N⟩) F).trans (h.fg i)⟩
theorem RW.set(h:RW w al no g wr)(q:Nat)(E:q<8)(b:Bool):RW w al no (fun i=>if i=q then b else g i) (wr.setCell ⟨w.heap.size+1+1,q,N⟩ (Aj b)):=by
 refine⟨h.bel.setCell (p:=⟨w.heap.size+1+1,q,N⟩) (by simp <;>omega) _,FH (by simp <;>omega) h.e1,FH (by simp <;>omega) h.e2,FH (by simp <;>omega) h.t0,FH (by simp <;>omega) h.t1,
  fun i=>by rw[Bz];exact h.f i,fun i D=>?_,fun i=>by rw[Bz];exact h.fg i⟩
 by_cases e:i=q
 ·subst e;simp only[BX];exact JK (h.g i D)
 ·simp only[e,BG];exact FH (by simp <;>omega) (h.g i D)
theorem RW.start(m:Int)(A:Option Addr)(len F:Nat):RW w al no (fun _=>false)
  (((w.alloc (Al #[I K m,I K al,I K no,S A len F] 37)).alloc (Al #[I K 0,I K 0] 29)).alloc (Al #[Aj false,Aj false,Aj false,Aj false,Aj false,Aj false,Aj false,Aj false] 107)):=by
 obtain⟨w1,D⟩:∃W,W=w.alloc (Al #[I K m,I K al,I K no,S A len F] 37):=⟨_,rfl⟩;have H:w1.heap.size=w.heap.size+1:=by rw[D];simp
 have L:Below w.heap.size w w1:=by rw[D];exact Fv.alloc Fu _
 have U:w1.cell? ⟨w.heap.size,1,N⟩=O (I K al):=by rw[D];simp
 have V:w1.cell? ⟨w.heap.size,2,N⟩=O (I K no):=by rw[D];simp
 rw[←D];clear D;obtain⟨w2,h⟩:∃W,W=w1.alloc (Al #[I K 0,I K 0] 29):=⟨_,rfl⟩;have M:w2.heap.size=w.heap.size+1+1:=by rw[h];simp[H]
 have J:Below w1.heap.size w1 w2:=by rw[h];exact Fv.alloc Fu _
 have Y:w2.cell? ⟨w.heap.size+1,0,N⟩=O (I K 0):=by rw[h,←H];simp
 have Z:w2.cell? ⟨w.heap.size+1,1,N⟩=O (I K 0):=by rw[h,←H];simp
 have f2:∀i,w2.frozen? ⟨w.heap.size+1,i,N⟩=false:=fun i=>by rw[h,←H];simp[go_sem]
 rw[←h];clear h;have E:Below w2.heap.size w2 (w2.alloc (Al #[Aj false,Aj false,Aj false,Aj false,Aj false,Aj false,Aj false,Aj false] 107)):=Fv.alloc Fu _;refine⟨L.trans ((J.trans (E.mono J.size)).mono L.size),AW E (AW J U),AW E (AW J V),AW E Y,AW E Z,fun i=>(E.frozen (p:=⟨w.heap.size+1,i,N⟩) (by show w.heap.size+1<w2.heap.size;omega)).trans (f2 i),fun q hq=>?_,fun i=>?_⟩
 ·rw[←M];rcases(by omega:q=0∨q=1∨q=2∨q=3∨q=4∨q=5∨q=6∨q=7)with rfl|rfl|rfl|rfl|rfl|rfl|rfl|rfl <;>simp
 ·rw[←M];simp[go_sem]
end
theorem GR.drop{al:Int}{g:Nat→Bool}{r:Int}(h:GR al g r)(q:Nat)(F:q<8):GR al (fun i=>if i=q then true else g i) (bits .and K (bits .andNot K r (Ge (q:Int))) al):=by
 have E:=ON r (Ge (q:Int)) h.sr;refine⟨h.sal,P7 _ _ E,fun i D=>?_⟩;rw[S0 _ _ E h.sal i D,SF _ _ h.sr (IA _) i D,Ny q i F D,h.eq i D];by_cases e:i=q
 ·subst e;simp
 ·have H:¬ q=i:=fun x=>e x.symm;simp only[e,H,DW,Bool.not_false,Bool.and_true,BG]
  cases tb al i <;>cases g i <;>rfl
theorem GR.put{al:Int}{g:Nat→Bool}{r:Int}(h:GR al g r)(q:Nat)(F:q<8):GR al (fun i=>if i=q then false else g i) (bits .and K (bits .or K r (Ge (q:Int))) al):=by
 have E:=(JO r (Ge (q:Int)) h.sr (IA _)).2;refine⟨h.sal,P7 _ _ E,fun i D=>?_⟩;rw[S0 _ _ E h.sal i D,Lq _ _ h.sr (IA _) i D,Ny q i F D,h.eq i D];by_cases e:i=q
 ·subst e;simp
 ·have H:¬ q=i:=fun x=>e x.symm;simp only[e,H,DW,C8,BG]
  cases tb al i <;>cases g i <;>rfl
theorem GR.same{al:Int}{g:Nat→Bool}{r:Int}(h:GR al g r):GR al g (bits .and K r al):=by
 refine⟨h.sal,P7 _ _ h.sr,fun i D=>?_⟩;rw[S0 _ _ h.sr h.sal i D,h.eq i D]
 cases tb al i <;>cases g i <;>rfl
theorem GR.start{al:Int}(h:FV al=true):GR al (fun _=>false) al:=⟨h,h,fun i _=>by simp⟩
theorem UC(m al no:Int)(A:Option Addr)(len E:Nat)(w:World)(h:Is m al no=false):
  Calls Au 29 #[Gz m al no A len E] w fun e H=>e=Ao (GC (3,0))∧Below w.heap.size w H:=by
 unfold Is at h;unfold Gz;have J:m<0∨(¬ m<0∧5<m)∨((¬ m<0∧¬ 5<m)∧FV al=false)∨((¬ m<0∧¬ 5<m)∧FV al=true∧FV no=false):=by
  cases D:FV al <;>cases F:FV no <;>simp[D,F]at h⊢ <;>omega
 clear h;rcases J with h0|⟨h0,D⟩|⟨⟨h0,D⟩,F⟩|⟨⟨h0,D⟩,F,M⟩
 all_goals
  go_enter Tryz.func29,Tryz.ntmps29
  go_wp2_with(first
   |(go_at_call 45;refine(IG _ _).mono ?_;rintro e w1⟨rfl,L⟩;obtain rfl:=L.symm))
  refine AG (v:=GC (3,0)) (by simp[results,Tryz.results29,go_sem,GC]) R ⟨rfl,?_⟩;go_grown
theorem UB(m al no:Int)(A:Option Addr)(len D:Nat)(w:World)(h:Is m al no=true)(U:8<len):
  Calls Au 29 #[Gz m al no A len D] w fun e E=>e=Ao (GC (4,0))∧Below w.heap.size w E:=by
 unfold Is at h;unfold Gz;simp only[AP,Ci]at h;obtain⟨⟨⟨h0,F⟩,V⟩,Y⟩:=h;have H:¬ m<0:=by omega
 have J:¬ 5<m:=by omega
 clear h0 F;have L:(8:Int)<(len:Int):=by omega
 go_enter Tryz.func29,Tryz.ntmps29
 go_wp2_with(first
  |(go_at_call 45;refine(IG _ _).mono ?_;rintro e w1⟨rfl,M⟩;obtain rfl:=M.symm))
 refine AG (v:=GC (4,0)) (by simp[results,Tryz.results29,go_sem,GC]) R ⟨rfl,?_⟩;go_grown
theorem UD(m al no:Int)(A:Option Addr)(len ha:Nat)(a:Nat→F')(w:World)(h:Is m al no=true)(hl:len≤8)(hA:GZ w A len a):
  Calls Au 29 #[Gz m al no A len ha] w fun e w'=>e=Ao (GC (Ms al a len 0))∧Below w.heap.size w w':=by
 have hW:RW w al no (fun _=>false) _:=RW.start m A len ha;unfold Is at h;unfold Gz;simp only[AP,Ci]at h;obtain⟨⟨⟨h0,h1⟩,h2⟩,h3⟩:=h;have hb:=GR.start h2;have hh:¬ m<0:=by omega
 have hi:¬ 5<m:=by omega
 clear h0 h1;have hm:¬ (8:Int)<(len:Int):=by omega
 go_enter Tryz.func29,Tryz.ntmps29
 go_wp2_with(first
  |(go_at_call 45;refine(IG _ _).mono ?_;rintro e w1⟨rfl,hw⟩;obtain rfl:=hw.symm))
 go_loopw [38] (fun i wr=>∃j:Nat,j≤len∧i=I K j∧Ms al a len 0=Ms al a (len - j) j∧∃g,GR al g (Lu al a j)∧RW w al no g wr) (fun i _=>len - (intOf i).toNat)
 case atStart=>exact⟨0,AS _,rfl,rfl,_,hb,hW⟩
 case round =>
  clear hW hb;obtain⟨j,hj,rfl,hF,g,hG,F⟩:=hrel;have V:=An hF;clear hF;by_cases hc:j<len
  ·have j0:(0:Int)≤(j:Int):=(by omega);have j1:(j:Int)<(len:Int):=(by omega);obtain⟨b,hn,rfl,Y,Z,q2,q3⟩:=hA j hc;have Y:=AW F.bel Y;have Z:=AW F.bel Z;have q2:=AW F.bel q2;have q3:=AW F.bel q3;have e1:=F.e1;have e2:=F.e2;have c0:=F.g 0 (by omega);have c1:=F.g 1 (by omega);have c2:=F.g 2 (by omega);have c3:=F.g 3 (by omega);have c4:=F.g 4 (by omega);have c5:=F.g 5 (by omega);have c6:=F.g 6 (by omega);have c7:=F.g 7 (by omega);have z2:w.heap.size+1+1<wr.heap.size:=AL wr _ c0;have z1:w.heap.size+1<wr.heap.size:=CG z2;have z0:w.heap.size<wr.heap.size:=CG z1;have HS:=An (Xs al a len j hc);have HR:Hid (Lu al a (j+1)=bits .and K (fJ (a j).k (a j).p (Lu al a j)) al):=rfl;have HE:Hid (QJ al a j=Nd (a j).k (a j).p (a j).f (a j).n (Lu al a j)):=rfl;clear hA;generalize QJ al a j=ej at *;generalize Lu al a j=rj at *;generalize a j=y at *;obtain⟨k,p,f,n⟩:=y;dsimp only at *;have M:=fun W=>Rt k p f n al no rj g W hG;rw[←AN HE]at M;have M:=M;unfold H9 gV at M;by_cases he:ej=0
   ·subst he;have H:=(KH _ _ _ _ _ (AN HE).symm).1;clear HE;have hk:(k=5∧∃q:Nat,q<8∧p=(q:Int))∨(k=1∧∃q:Nat,q<8∧p=(q:Int))∨(k=2∧∃q:Nat,q<8∧p=(q:Int))∨(¬ k=5∧¬ k=1∧¬ k=2):=by
     have hp:∀p:Int,F5 p=true→∃q:Nat,q<8∧p=(q:Int):=fun p hp=>⟨p.toNat,by have:=AM hp;omega,by have:=AM hp;omega⟩;by_cases k5:k=5
     ·exact .inl ⟨k5,hp p (by subst k5;simpa[Iq]using H)⟩
     ·by_cases k1:k=1
      ·exact .inr (.inl ⟨k1,hp p (by subst k1;simp[Iq]at H;exact H.1)⟩)
      ·by_cases k2:k=2
       ·exact .inr (.inr (.inl ⟨k2,hp p (by subst k2;simp[Iq]at H;exact H.1)⟩))
       ·exact .inr (.inr (.inr ⟨k5,k1,k2⟩))
    clear H;rcases hk with⟨rfl,q,J,rfl⟩|⟨rfl,q,J,rfl⟩|⟨rfl,q,J,rfl⟩|⟨k5,k1,k2⟩
    ·have hd:(0:Int)≤(q:Int):=(by omega);have hf:(q:Int)<8:=(by omega);go_wp2_with(first
      |(go_at_call 56;refine(M _).mono ?_;rintro e L⟨rfl,D⟩;have E:=F.below (CO (Fv.alloc Fu _) (D.mono (by simp)));have d0:=AW D (p:=⟨wr.heap.size,0,N⟩) (v:=I K 5) (by simp);have d1:=AW D (p:=⟨wr.heap.size,1,N⟩) (v:=I K (q:Int)) (by simp);have cq:=E.g q J;have fq:=E.fg q;have U:¬ w.heap.size+1+1=wr.heap.size:=CL z2;have hg:wr.heap.size<L.heap.size:=AL L _ d0;clear D e1 e2 c0 c1 c2 c3 c4 c5 c6 c7 Y Z q2 q3))
     go_roundw
     case rel=>exact⟨j+1,by omega,by go_num,(AN V).trans ((AN HS).trans (by simp)),_,by rw[AN HR];exact hG.drop q J,E.set q J _⟩
     case measure=>simp[intOf];omega
    ·have hd:(0:Int)≤(q:Int):=(by omega);have hf:(q:Int)<8:=(by omega);go_wp2_with(first
      |(go_at_call 56;refine(M _).mono ?_;rintro e L⟨rfl,D⟩;have E:=F.below (CO (Fv.alloc Fu _) (D.mono (by simp)));have d0:=AW D (p:=⟨wr.heap.size,0,N⟩) (v:=I K 1) (by simp);have d1:=AW D (p:=⟨wr.heap.size,1,N⟩) (v:=I K (q:Int)) (by simp);have cq:=E.g q J;have fq:=E.fg q;have U:¬ w.heap.size+1+1=wr.heap.size:=CL z2;have hg:wr.heap.size<L.heap.size:=AL L _ d0;clear D e1 e2 c0 c1 c2 c3 c4 c5 c6 c7 Y Z q2 q3))
     go_roundw
     case rel=>exact⟨j+1,by omega,by go_num,(AN V).trans ((AN HS).trans (by simp)),_,by rw[AN HR];exact hG.put q J,E.set q J _⟩
     case measure=>simp[intOf];omega
    ·have hd:(0:Int)≤(q:Int):=(by omega);have hf:(q:Int)<8:=(by omega);go_wp2_with(first
      |(go_at_call 56;refine(M _).mono ?_;rintro e L⟨rfl,D⟩;have E:=F.below (CO (Fv.alloc Fu _) (D.mono (by simp)));have d0:=AW D (p:=⟨wr.heap.size,0,N⟩) (v:=I K 2) (by simp);have d1:=AW D (p:=⟨wr.heap.size,1,N⟩) (v:=I K (q:Int)) (by simp);have cq:=E.g q J;have fq:=E.fg q;have U:¬ w.heap.size+1+1=wr.heap.size:=CL z2;have hg:wr.heap.size<L.heap.size:=AL L _ d0;clear D e1 e2 c0 c1 c2 c3 c4 c5 c6 c7 Y Z q2 q3))
     go_roundw
     case rel=>exact⟨j+1,by omega,by go_num,(AN V).trans ((AN HS).trans (by simp)),_,by rw[AN HR];exact hG.put q J,E.set q J _⟩
     case measure=>simp[intOf];omega
    ·have ho:(k == 5)=false:=(by simpa using k5);have hr:(k == 1)=false:=(by simpa using k1);have hs:(k == 2)=false:=(by simpa using k2);go_wp2_with(first
      |(go_at_call 56;refine(M _).mono ?_;rintro e L⟨rfl,D⟩;have E:=F.below (CO (Fv.alloc Fu _) (D.mono (by simp)));have d0:=AW D (p:=⟨wr.heap.size,0,N⟩) (v:=I K k) (by simp);clear D e1 e2 c0 c1 c2 c3 c4 c5 c6 c7 Y Z q2 q3))
     go_roundw
     case rel=>exact⟨j+1,by omega,by go_num,(AN V).trans ((AN HS).trans (by simp)),_,by
      rw[AN HR];have e:fJ k p rj=rj:=(by simp[fJ,k5,k1,k2]);rw[e];exact hG.same,E⟩
     case measure=>simp[intOf];omega
   ·go_wp2_with(first
     |(go_at_call 56;refine(M _).mono ?_;rintro e L⟨rfl,D⟩;have E:=F.below (CO (Fv.alloc Fu _) (D.mono (by simp)));clear D;have t0:=E.t0;have t1:=E.t1;have f0:=E.f 0;have f1:=E.f 1))
    have hv:Ms al a len 0=(ej,(j:Int)):=(by rw[AN V,AN HS,AA he]);refine AG (v:=GC (ej,(j:Int))) (by simp[results,Tryz.results29,go_sem,GC,t0,t1]) R ⟨by rw[hv],?_⟩;exact Bv (w.heap.size+1) (by omega) [I K ej,I K (j:Int)] 0 L E.bel
  ·obtain rfl:j=len:=(by omega);have hv:Ms al a j 0=(0,0):=(by rw[AN V,BR];rfl);have t0:=F.t0;have t1:=F.t1;have f0:=F.f 0;have f1:=F.f 1;have HB:=F.bel;clear hA;go_wp2;refine AG (v:=GC (0,0)) (by simp[results,Tryz.results29,go_sem,GC,t0,t1]) R ⟨by rw[hv],?_⟩;exact Bv (w.heap.size+1) (by omega) [I K 0,I K 0] 0 wr HB
theorem QU(m al no:Int)(A:Option Addr)(len D:Nat)(a:Nat→F')(w:World)(F:GZ w A len a):
  Calls Au 29 #[Gz m al no A len D] w fun e H=>e=Ao (GC (MA m al no a len))∧Below w.heap.size w H:=by
 unfold MA
 cases h:Is m al no
 ·exact UC m al no A len D w h
 ·by_cases E:8<len
  ·simp only[C2,BG,E,BX];exact UB m al no A len D w h E
  ·simp only[C2,BG,E];exact UD m al no A len D a w h (by omega) F
structure NR(w:World)(al:Int)(rA wA:Nat→Bool)(mv lf:Bool)(wr:World):Prop where
 bel:Below w.heap.size w wr
 e1:wr.cell? ⟨w.heap.size,1,N⟩=O (I K al)
 t:wr.there (w.heap.size+1) 0 4
 r:∀q,q<8→wr.cell? ⟨w.heap.size+1+1,q,N⟩=O (Aj (rA q))
 fr:∀i,wr.frozen? ⟨w.heap.size+1+1,i,N⟩=false
 u:∀q,q<8→wr.cell? ⟨w.heap.size+1+1+1,q,N⟩=O (Aj (wA q))
 fu:∀i,wr.frozen? ⟨w.heap.size+1+1+1,i,N⟩=false
 n0:wr.cell? ⟨w.heap.size+1+1+1+1,0,N⟩=O (I K 0)
 n1:wr.cell? ⟨w.heap.size+1+1+1+1,1,N⟩=O (I K 0)
 n2:wr.cell? ⟨w.heap.size+1+1+1+1,2,N⟩=O (Aj mv)
 n3:wr.cell? ⟨w.heap.size+1+1+1+1,3,N⟩=O (Aj lf)
 fn:∀i,wr.frozen? ⟨w.heap.size+1+1+1+1,i,N⟩=false
section
variable {w wr w1:World} {al:Int} {rA wA:Nat→Bool} {mv lf:Bool}
theorem NR.below(h:NR w al rA wA mv lf wr)(D:Below wr.heap.size wr w1):NR w al rA wA mv lf w1:=by
 have z:=AL wr _ h.n0;have F:=AL wr _ (h.r 0 (by omega));have H:=AL wr _ (h.u 0 (by omega));exact⟨h.bel.trans (D.mono h.bel.size),AW D h.e1,Ia D (by dsimp only at F;omega) h.t,fun q E=>AW D (h.r q E),fun i=>(D.frozen (p:=⟨w.heap.size+1+1,i,N⟩) F).trans (h.fr i),
  fun q E=>AW D (h.u q E),fun i=>(D.frozen (p:=⟨w.heap.size+1+1+1,i,N⟩) H).trans (h.fu i),AW D h.n0,AW D h.n1,AW D h.n2,AW D h.n3,
  fun i=>(D.frozen (p:=⟨w.heap.size+1+1+1+1,i,N⟩) z).trans (h.fn i)⟩
theorem NR.setR(h:NR w al rA wA mv lf wr)(q:Nat)(b:Bool):NR w al (fun i=>if i=q then b else rA i) wA mv lf (wr.setCell ⟨w.heap.size+1+1,q,N⟩ (Aj b)):=by
 refine⟨h.bel.setCell (p:=⟨w.heap.size+1+1,q,N⟩) (by simp <;>omega) _,FH (by simp <;>omega) h.e1,Cj h.t (w.heap.size+1+1) q [Aj b],fun i D=>?_,fun i=>by rw[Bz];exact h.fr i,
  fun i D=>FH (by simp <;>omega) (h.u i D),fun i=>by rw[Bz];exact h.fu i,FH (by simp <;>omega) h.n0,FH (by simp <;>omega) h.n1,FH (by simp <;>omega) h.n2,FH (by simp <;>omega) h.n3,fun i=>by rw[Bz];exact h.fn i⟩
 by_cases e:i=q
 ·subst e;simp only[BX];exact JK (h.r i D)
 ·simp only[e,BG];exact FH (by simp <;>omega) (h.r i D)
theorem NR.setU(h:NR w al rA wA mv lf wr)(q:Nat)(b:Bool):NR w al rA (fun i=>if i=q then b else wA i) mv lf (wr.setCell ⟨w.heap.size+1+1+1,q,N⟩ (Aj b)):=by
 refine⟨h.bel.setCell (p:=⟨w.heap.size+1+1+1,q,N⟩) (by simp <;>omega) _,FH (by simp <;>omega) h.e1,Cj h.t (w.heap.size+1+1+1) q [Aj b],fun i D=>FH (by simp <;>omega) (h.r i D),fun i=>by rw[Bz];exact h.fr i,
  fun i D=>?_,fun i=>by rw[Bz];exact h.fu i,FH (by simp <;>omega) h.n0,FH (by simp <;>omega) h.n1,FH (by simp <;>omega) h.n2,FH (by simp <;>omega) h.n3,fun i=>by rw[Bz];exact h.fn i⟩
 by_cases e:i=q
 ·subst e;simp only[BX];exact JK (h.u i D)
 ·simp only[e,BG];exact FH (by simp <;>omega) (h.u i D)
theorem NR.setM(h:NR w al rA wA mv lf wr)(b:Bool):NR w al rA wA b lf (wr.setCell ⟨w.heap.size+1+1+1+1,2,N⟩ (Aj b)):=
 ⟨h.bel.setCell (p:=⟨w.heap.size+1+1+1+1,2,N⟩) (by simp <;>omega) _,FH (by simp <;>omega) h.e1,Cj h.t (w.heap.size+1+1+1+1) 2 [Aj b],fun i D=>FH (by simp <;>omega) (h.r i D),fun i=>by rw[Bz];exact h.fr i,
  fun i D=>FH (by simp <;>omega) (h.u i D),fun i=>by rw[Bz];exact h.fu i,FH (by simp) h.n0,FH (by simp) h.n1,JK h.n2,FH (by simp) h.n3,fun i=>by rw[Bz];exact h.fn i⟩
theorem NR.setL(h:NR w al rA wA mv lf wr)(b:Bool):NR w al rA wA mv b (wr.setCell ⟨w.heap.size+1+1+1+1,3,N⟩ (Aj b)):=
 ⟨h.bel.setCell (p:=⟨w.heap.size+1+1+1+1,3,N⟩) (by simp <;>omega) _,FH (by simp <;>omega) h.e1,Cj h.t (w.heap.size+1+1+1+1) 3 [Aj b],fun i D=>FH (by simp <;>omega) (h.r i D),fun i=>by rw[Bz];exact h.fr i,
  fun i D=>FH (by simp <;>omega) (h.u i D),fun i=>by rw[Bz];exact h.fu i,FH (by simp) h.n0,FH (by simp) h.n1,FH (by simp) h.n2,JK h.n3,fun i=>by rw[Bz];exact h.fn i⟩
theorem NR.congr{E F:Nat→Bool}(h:NR w al rA wA mv lf wr)(H:∀ q,q<8→E q=rA q)(J:∀ q,q<8→F q=wA q):NR w al E F mv lf wr :=
 ⟨h.bel,h.e1,h.t,fun q D=>by rw[H q D];exact h.r q D,h.fr,fun q D=>by rw[J q D];exact h.u q D,h.fu,h.n0,h.n1,h.n2,h.n3,h.fn⟩
def OG:Array Value:=#[Aj false,Aj false,Aj false,Aj false,Aj false,Aj false,Aj false,Aj false]
theorem RO(w:World)(t:TypeId)(q:Nat)(h:q<8):(w.alloc (Al OG t)).cell? ⟨w.heap.size,q,N⟩=O (Aj false):=by
 rcases(by omega:q=0∨q=1∨q=2∨q=3∨q=4∨q=5∨q=6∨q=7)with rfl|rfl|rfl|rfl|rfl|rfl|rfl|rfl <;>simp[OG]
theorem NR.start(m no:Int)(A:Option Addr)(len M:Nat):NR w al (fun _=>false) (fun _=>false) false false
  (((((w.alloc (Al #[I K m,I K al,I K no,S A len M] 37)).alloc (Al #[I K 0,I K 0,Aj false,Aj false] 99)).alloc (Al OG 107)).alloc (Al OG 107)).alloc (Al #[I K 0,I K 0,Aj false,Aj false] 99)):=by
 obtain⟨w1,U⟩:∃W,W=w.alloc (Al #[I K m,I K al,I K no,S A len M] 37):=⟨_,rfl⟩;have z1:w1.heap.size=w.heap.size+1:=by rw[U];simp
 have b1:Below w.heap.size w w1:=by rw[U];exact Fv.alloc Fu _
 have e1:w1.cell? ⟨w.heap.size,1,N⟩=O (I K al):=by rw[U];simp
 rw[←U];clear U;obtain⟨w2,V⟩:∃W,W=w1.alloc (Al #[I K 0,I K 0,Aj false,Aj false] 99):=⟨_,rfl⟩;have z2:w2.heap.size=w.heap.size+1+1:=by rw[V];simp[z1]
 have b2:Below w1.heap.size w1 w2:=by rw[V];exact Fv.alloc Fu _
 have t2:w2.there (w.heap.size+1) 0 4:=by rw[V,←z1];exact Mz w1 _ _
 rw[←V];clear V;obtain⟨D,J⟩:∃W,W=w2.alloc (Al OG 107):=⟨_,rfl⟩;have z3:D.heap.size=w.heap.size+1+1+1:=by rw[J];simp[z2]
 have Y:Below w2.heap.size w2 D:=by rw[J];exact Fv.alloc Fu _
 have r3:∀q,q<8→D.cell? ⟨w.heap.size+1+1,q,N⟩=O (Aj false):=fun q E=>by rw[J,←z2];exact RO w2 107 q E
 have f3:∀i,D.frozen? ⟨w.heap.size+1+1,i,N⟩=false:=fun i=>by rw[J,←z2];simp[go_sem]
 rw[←J];clear J;obtain⟨h,L⟩:∃W,W=D.alloc (Al OG 107):=⟨_,rfl⟩;have z4:h.heap.size=w.heap.size+1+1+1+1:=by rw[L];simp[z3]
 have Z:Below D.heap.size D h:=by rw[L];exact Fv.alloc Fu _
 have r4:∀q,q<8→h.cell? ⟨w.heap.size+1+1+1,q,N⟩=O (Aj false):=fun q E=>by rw[L,←z3];exact RO D 107 q E
 have f4:∀i,h.frozen? ⟨w.heap.size+1+1+1,i,N⟩=false:=fun i=>by rw[L,←z3];simp[go_sem]
 rw[←L];clear L;have F:Below h.heap.size h (h.alloc (Al #[I K 0,I K 0,Aj false,Aj false] 99)):=Fv.alloc Fu _;have H:Below w1.heap.size w1 h:=b2.trans ((Y.trans (Z.mono Y.size)).mono b2.size);have ha:Below w2.heap.size w2 h:=Y.trans (Z.mono Y.size);refine⟨b1.trans ((H.trans (F.mono H.size)).mono b1.size),AW F (AW H e1),Ia F (by omega) (Ia ha (by omega) t2),fun q E=>AW F (AW Z (r3 q E)),
  fun i=>(F.frozen (p:=⟨w.heap.size+1+1,i,N⟩) (by show w.heap.size+1+1<h.heap.size;omega)).trans ((Z.frozen (p:=⟨w.heap.size+1+1,i,N⟩) (by show w.heap.size+1+1<D.heap.size;omega)).trans (f3 i)),
  fun q E=>AW F (r4 q E),fun i=>(F.frozen (p:=⟨w.heap.size+1+1+1,i,N⟩) (by show w.heap.size+1+1+1<h.heap.size;omega)).trans (f4 i),?_,?_,?_,?_,fun i=>?_⟩<;>rw[←z4]<;>simp[go_sem]
end
theorem iS(al:Int)(a:Nat→F')(E:FV al=true):∀j,jA al a j→∃g,GR al g (Lu al a j)
 |0,_=>⟨_,GR.start E⟩
 | j+1,h=>by
  obtain⟨g,H⟩:=iS al a E j (fun i U=>h i (by omega));have J:=(KH _ _ _ _ _ (h j (by omega))).1;show ∃g,GR al g (bits .and K (fJ (a j).k (a j).p (Lu al a j)) al);generalize a j=y at *;obtain⟨k,p,f,n⟩:=y;dsimp only at *;have F:∀p:Int,F5 p=true→∃q:Nat,q<8∧p=(q:Int):=fun p F=>⟨p.toNat,by have:=AM F;omega,by have:=AM F;omega⟩;unfold fJ;by_cases D:k=1∨k=2
  ·rw[AF D];obtain⟨q,L,rfl⟩:=F p (by rcases D with rfl|rfl <;>simp[Iq]at J <;>exact J.1)
   exact⟨_,H.put q L⟩
  ·rw[AA D];by_cases M:k=5
   ·rw[AF M];obtain⟨q,L,rfl⟩:=F p (by subst M;simpa[Iq]using J);exact⟨_,H.drop q L⟩
   ·rw[AA M];exact⟨_,H.same⟩
theorem US{al r:Int}{g:Nat→Bool}(D:GR al g r)(q:Nat)(E:q<8)(h:tb r q=true):tb al q=true:=by
 rw[D.eq q E,AP]at h;exact h.1
theorem OZ(k:Nat)(h:k<8):tb 0 k=false:=by
 rcases(by omega:k=0∨k=1∨k=2∨k=3∨k=4∨k=5∨k=6∨k=7)with rfl|rfl|rfl|rfl|rfl|rfl|rfl|rfl <;>decide
theorem J3{p:Int}(h:F5 p=true):∃q:Nat,q<8∧p=(q:Int):=⟨p.toNat,by have:=AM h;omega,by have:=AM h;omega⟩
theorem Zp{k p f n al r:Int}{g:Nat→Bool}(H:GR al g r)(h:Nd k p f n r=0):
  (k=1∧∃q:Nat,q<8∧p=(q:Int))∨(k=2∧∃q i:Nat,q<8∧i<8∧p=(q:Int)∧f=(i:Int))∨(k=3∧∃q i:Nat,q<8∧i<8∧p=(q:Int)∧f=(i:Int)∧tb al q=true) ∨
  (k=4∧∃q:Nat,q<8∧p=(q:Int)∧tb al q=true)∨(k=5∧∃q:Nat,q<8∧p=(q:Int))∨k=6∨(k=7∧FV p=true):=by
 obtain⟨D,V,Y⟩:=KH k p f n r h;have E:LG (Ji k p f) r=true:=by
  unfold Nd at h;rw[AA (by omega),AA (by simp[D])]at h
  cases L:LG (Ji k p f) r
  ·rw[L]at h;simp at h
  ·rfl
 rcases(by omega:k=1∨k=2∨k=3∨k=4∨k=5∨k=6∨k=7)with rfl|rfl|rfl|rfl|rfl|rfl|rfl
 ·simp[Iq]at D;exact .inl ⟨rfl,J3 D.1⟩
 ·simp[Iq]at D;obtain⟨q,F,M⟩:=J3 D.1;obtain⟨i,J,U⟩:=J3 D.2;exact .inr (.inl ⟨rfl,q,i,F,J,M,U⟩)
 ·simp[Iq]at D;obtain⟨q,F,rfl⟩:=J3 D.1;obtain⟨i,J,rfl⟩:=J3 D.2;rw[kq r i q H.sr J F,AP]at E;exact .inr (.inr (.inl ⟨rfl,q,i,F,J,rfl,rfl,US H q F E.2⟩))
 ·simp[Iq]at D;obtain⟨q,F,rfl⟩:=J3 D.1;rw[kp f r q H.sr F]at E;exact .inr (.inr (.inr (.inl ⟨rfl,q,F,rfl,US H q F E⟩)))
 ·simp[Iq]at D;exact .inr (.inr (.inr (.inr (.inl ⟨rfl,J3 D⟩))))
 ·exact .inr (.inr (.inr (.inr (.inr (.inl R)))))
 ·simp[Iq]at D;exact .inr (.inr (.inr (.inr (.inr (.inr ⟨rfl,D.1⟩)))))
theorem eI(al:Int)(q:Nat)(h:FV al=true)(E:q<8):(bits .and K al (Ge (q:Int)) != 0)=tb al q:=by
 have D:=AM h;exact TW al q D.1 D.2 E
theorem jK(al:Int)(q:Nat)(h:FV al=true)(D:q<8):Pj 1 (q:Int) al=!tb al q:=by simp[Pj,eI al q h D]
theorem jJ(al:Int)(q:Nat)(h:FV al=true)(D:q<8):Pj 2 (q:Int) al=!tb al q:=by simp[Pj,eI al q h D]
theorem PX(k:Int)(q i:Nat)(h:k=1∨k=2∨k=3∨k=4∨k=5)(D:q<8)(E:i<8):tb (R' k (q:Int)) i=decide (q=i):=by
 unfold R';rw[AF h,MQ _ (IA _)];exact Ny q i D E
theorem ay(p:Int)(i j:Nat)(h:i<8)(D:j<8):tb (Ji 2 p (i:Int)) j=decide (i=j):=by
 have e:Ji 2 p (i:Int)=Ge (i:Int):=by simp[Ji,MQ _ (IA _)]
 rw[e];exact Ny i j h D
theorem ax(q i j:Nat)(D:q<8)(E:i<8)(h:j<8):tb (Ji 3 (q:Int) (i:Int)) j=(decide (i=j) || decide (q=j)):=by
 have e:Ji 3 (q:Int) (i:Int)=bits .or K (Ge (i:Int)) (Ge (q:Int)):=by simp[Ji,MQ _ (IA _)]
 rw[e,Lq _ _ (IA _) (IA _) j h,Ny i j E h,Ny q j D h]
theorem iw(f:Int)(q j:Nat)(h:q<8)(D:j<8):tb (Ji 4 (q:Int) f) j=decide (q=j):=by
 have e:Ji 4 (q:Int) f=Ge (q:Int):=by simp[Ji,MQ _ (IA _)]
 rw[e];exact Ny q j h D
theorem Qd(k p f:Int)(j:Nat)(D:¬ (k=2∨k=3∨k=4))(h:j<8):tb (Ji k p f) j=false:=by
 have e:Ji k p f=0:=by unfold Ji;rw[AA (by omega),AA (by omega),AA (by omega)]
 rw[e];exact OZ j h
theorem Lv(b:Bool)(i q:Nat):(if i=q then true else b)=(b || decide (q=i)):=by
 by_cases h:i=q
 ·subst h;simp
 ·have D:¬ q=i:=fun e=>h e.symm;simp[h,D]
theorem Kw{D:World}{p:Addr}{v:Value}{C:Array Value}{t:TypeId}{i:Nat}{x:Value}(h:C[i]?=O x):((D.setCell p v).alloc (Al C t)).cell? ⟨D.heap.size,i,N⟩=O x:=by
 have e:(D.setCell p v).heap.size=D.heap.size:=by simp
 rw[←e,World.cell?_alloc_new];exact h
theorem Lh{w W:World}{al:Int}{D E:Nat→Bool}{F H:Bool}{J L:Int}{M U:Bool}(h:NR w al D E F H W)(V:∀ q,q<8→tb J q=D q)(Y:∀ q,q<8→tb L q=E q)(Z:M=F)(hl:U=H):
  NR w al (fun q=>tb J q) (fun q=>tb L q) M U W:=by
 subst Z hl;exact h.congr V Y
theorem Ze(n:Int)(w:World)(h:FV n=true):Calls Au 100 #[I K n] w fun e E=>e=Ao (Af (arr n))∧Below w.heap.size w E:=by
 have D:=AM h;refine(K8 n w D.1 D.2).mono ?_;rintro e w1⟨rfl,rfl⟩;exact⟨rfl,by go_grown⟩
theorem bR(R:Int)(w:World)(h:FV R=true):
  Calls Au 102 #[Af #[Aj (tb R 0),Aj (tb R 1),Aj (tb R 2),Aj (tb R 3),Aj (tb R 4),Aj (tb R 5),Aj (tb R 6),Aj (tb R 7)]] w fun e D=>e=Ao (I K R)∧Below w.heap.size w D:=by
 have E:=AM h;refine(TE _ _ _ _ _ _ _ _ w).mono ?_;rintro e D⟨rfl,rfl⟩;obtain⟨m,rfl⟩:=KY R E.1 E.2;exact⟨by rw[show ND [tb (m.val:Int) 0,tb (m.val:Int) 1,tb (m.val:Int) 2,tb (m.val:Int) 3,tb (m.val:Int) 4,tb (m.val:Int) 5,tb (m.val:Int) 6,tb (m.val:Int) 7]=(m.val:Int)from(Xg m).1],by go_grown⟩
theorem N6(m al no:Int)(A:Option Addr)(len cap:Nat)(a:Nat→F')(w:World)(hal:FV al=true)(hl:len≤8)(hok:jA al a len)(hA:GZ w A len a):
  Calls Au 121 #[Gz m al no A len cap] w fun e w'=>e=Ao (Ju al a len)∧Below w.heap.size w w':=by
 have hW:NR w al (fun _=>false) (fun _=>false) false false _:=NR.start m no A len cap;unfold Gz;unfold OG at hW;go_enter Tryz.func121,Tryz.ntmps121
 go_wp2;go_loopw [13] (fun i wr=>∃j:Nat,j≤len∧i=I K j∧NR w al (fun q=>tb (Jo a j) q) (fun q=>tb (I7 a j) q) (J5 al a j) (J6 a j) wr) (fun i _=>len - (intOf i).toNat)
 case atStart=>exact⟨0,AS _,rfl,hW.congr (fun q hq=>OZ q hq) (fun q hq=>OZ q hq)⟩
 case round =>
  clear hW;obtain⟨j,hj,rfl,hN⟩:=hrel;by_cases hlt:j<len
  ·have j0:(0:Int)≤(j:Int):=(by omega);have j1:(j:Int)<(len:Int):=(by omega);obtain⟨b,off,rfl,q0,q1,q2,q3⟩:=hA j hlt;have q0:=AW hN.bel q0;have q1:=AW hN.bel q1;have q2:=AW hN.bel q2;have q3:=AW hN.bel q3;obtain⟨g,hg⟩:=iS al a hal j (fun i hi=>hok i (by omega));have hca:=Zp hg (hok j hlt);have HRW:=(fun q (hq:q<8)=>Lq (Jo a j) (Ji (a j).k (a j).p (a j).f) (Lt a j) (az _ _ _) q hq);have HUW:=(fun q (hq:q<8)=>Lq (I7 a j) (R' (a j).k (a j).p) (Lm al a j (fun i hi=>hok i (by omega))) (Zv _ _ _ _ (KH _ _ _ _ _ (hok j hlt)).1) q hq);have HM:Hid (J5 al a (j+1)=(J5 al a j || Pj (a j).k (a j).p al)):=rfl;have HL:Hid (J6 a (j+1)=(J6 a j || (decide ((a j).k=6) || decide ((a j).k=7)))):=rfl;have HR:Hid (Jo a (j+1)=bits .or K (Jo a j) (Ji (a j).k (a j).p (a j).f)):=rfl;have HU:Hid (I7 a (j+1)=bits .or K (I7 a j) (R' (a j).k (a j).p)):=rfl;have e1:=hN.e1;have z4:w.heap.size+1+1+1+1<wr.heap.size:=AL wr _ hN.n0;have z3:w.heap.size+1+1+1<wr.heap.size:=CG z4;have z2:w.heap.size+1+1<wr.heap.size:=CG z3;have z1:w.heap.size+1<wr.heap.size:=CG z2;have z0:w.heap.size<wr.heap.size:=CG z1;clear hg hok hA;generalize a j=y at *;obtain⟨k,p,f,n⟩:=y;dsimp only at *;generalize J5 al a j=mj at *;generalize J6 a j=lj at *;rcases hca with⟨rfl,q,hq,rfl⟩|⟨rfl,q,i,hq,hi,rfl,rfl⟩|⟨rfl,q,i,hq,hi,rfl,rfl,htq⟩|⟨rfl,q,hq,rfl,htq⟩|⟨rfl,q,hq,rfl⟩|rfl|⟨rfl,hsp⟩
   ·have qq0:(0:Int)≤(q:Int):=(by omega);have qq1:(q:Int)<8:=(by omega);have uq:=hN.u q hq;have fq:=hN.fu q;have HN:=hN;have hH:=An (fun W=>IK al q W hal hq);have HMV:=(jK al q hal hq);clear hN;generalize tb al q=tq at *
    cases tq
    all_goals
     go_wp2_with(first
      |(go_at_call 61;refine(hH _).mono ?_;rintro e w5⟨rfl,hb5⟩;have hN5:=((HN.setU q true).below (Fv.alloc Fu _)).below hb5;have d0:w5.cell? ⟨wr.heap.size,0,N⟩=O (I K 1):=AW hb5 (Kw rfl);have n2:=hN5.n2;have f2:=hN5.fn 2;have hne9:¬ w.heap.size+1+1+1+1=wr.heap.size:=CL z4;clear hb5))
     go_roundw
     case rel =>
      refine⟨j+1,by omega,by go_num,?_⟩
      first
      |exact Lh (hN5.setM true) (fun x hx=>by rw[AN HR,HRW x hx,Qd _ _ _ x (by omega) hx,C8]) (fun x hx=>by rw[AN HU,HUW x hx,PX _ q x (by omega) hq hx,Lv]) (by rw[AN HM,HMV];simp) (by rw[AN HL];simp)
      |exact Lh hN5 (fun x hx=>by rw[AN HR,HRW x hx,Qd _ _ _ x (by omega) hx,C8]) (fun x hx=>by rw[AN HU,HUW x hx,PX _ q x (by omega) hq hx,Lv]) (by rw[AN HM,HMV];simp) (by rw[AN HL];simp)
     case measure=>simp[intOf];omega
   ·have qq0:(0:Int)≤(q:Int):=(by omega);have qq1:(q:Int)<8:=(by omega);have ii0:(0:Int)≤(i:Int):=(by omega);have ii1:(i:Int)<8:=(by omega);have uq:=hN.u q hq;have fq:=hN.fu q;have HN:=hN;have hH:=An (fun W=>IK al q W hal hq);have HMV:=(jJ al q hal hq);clear hN;generalize tb al q=tq at *
    cases tq
    all_goals
     go_wp2_with(first
      |(go_at_call 61;refine(hH _).mono ?_;rintro e w5⟨rfl,hb5⟩;have hN5:=((HN.setU q true).below (Fv.alloc Fu _)).below hb5;have d0:w5.cell? ⟨wr.heap.size,0,N⟩=O (I K 2):=AW hb5 (Kw rfl);have d2:w5.cell? ⟨wr.heap.size,2,N⟩=O (I K (i:Int)):=AW hb5 (Kw rfl);have n2:=hN5.n2;have f2:=hN5.fn 2;have ri:=hN5.r i hi;have fi:=hN5.fr i;have hne9:¬ w.heap.size+1+1+1+1=wr.heap.size:=CL z4;have hne8:¬ w.heap.size+1+1=wr.heap.size:=CL z2;clear hb5))
     go_roundw
     case rel =>
      refine⟨j+1,by omega,by go_num,?_⟩
      first
      |exact Lh ((hN5.setM true).setR i true) (fun x hx=>by rw[AN HR,HRW x hx,ay _ i x hi hx,Lv]) (fun x hx=>by rw[AN HU,HUW x hx,PX _ q x (by omega) hq hx,Lv]) (by rw[AN HM,HMV];simp) (by rw[AN HL];simp)
      |exact Lh (hN5.setR i true) (fun x hx=>by rw[AN HR,HRW x hx,ay _ i x hi hx,Lv]) (fun x hx=>by rw[AN HU,HUW x hx,PX _ q x (by omega) hq hx,Lv]) (by rw[AN HM,HMV];simp) (by rw[AN HL];simp)
     case measure=>simp[intOf];omega
   ·have qq0:(0:Int)≤(q:Int):=(by omega);have qq1:(q:Int)<8:=(by omega);have ii0:(0:Int)≤(i:Int):=(by omega);have ii1:(i:Int)<8:=(by omega);have uq:=hN.u q hq;have fq:=hN.fu q;have HN:=hN;have hH:=fun W=>IK al q W hal hq;rw[htq]at hH;clear hN htq;by_cases hiq:i=q
    ·subst hiq;go_wp2_with(first
      |(go_at_call 61;refine(hH _).mono ?_;rintro e w5⟨rfl,hb5⟩;have hN5:=((HN.setU i true).below (Fv.alloc Fu _)).below hb5;have d0:w5.cell? ⟨wr.heap.size,0,N⟩=O (I K 3):=AW hb5 (Kw rfl);have d1:w5.cell? ⟨wr.heap.size,1,N⟩=O (I K (i:Int)):=AW hb5 (Kw rfl);have d2:w5.cell? ⟨wr.heap.size,2,N⟩=O (I K (i:Int)):=AW hb5 (Kw rfl);have ri:=hN5.r i hi;have fi:=hN5.fr i;have hne8:¬ w.heap.size+1+1=wr.heap.size:=CL z2;clear hb5))
     go_roundw
     case rel =>
      refine⟨j+1,by omega,by go_num,?_⟩;exact Lh ((hN5.setR i true).setR i true) (fun x hx=>by rw[AN HR,HRW x hx,ax i i x hi hi hx];simp only[Lv];rw[Bool.or_assoc]) (fun x hx=>by rw[AN HU,HUW x hx,PX _ i x (by omega) hi hx,Lv]) (by rw[AN HM];simp[Pj]) (by rw[AN HL];simp)
     case measure=>simp[intOf];omega
    ·have hqi:¬ q=i:=fun e=>hiq e.symm;go_wp2_with(first
      |(go_at_call 61;refine(hH _).mono ?_;rintro e w5⟨rfl,hb5⟩;have hN5:=((HN.setU q true).below (Fv.alloc Fu _)).below hb5;have d0:w5.cell? ⟨wr.heap.size,0,N⟩=O (I K 3):=AW hb5 (Kw rfl);have d1:w5.cell? ⟨wr.heap.size,1,N⟩=O (I K (q:Int)):=AW hb5 (Kw rfl);have d2:w5.cell? ⟨wr.heap.size,2,N⟩=O (I K (i:Int)):=AW hb5 (Kw rfl);have ri:=hN5.r i hi;have fi:=hN5.fr i;have rq:=hN5.r q hq;have gq:=hN5.fr q;have hne8:¬ w.heap.size+1+1=wr.heap.size:=CL z2;clear hb5))
     go_roundw
     case rel =>
      refine⟨j+1,by omega,by go_num,?_⟩;exact Lh ((hN5.setR i true).setR q true) (fun x hx=>by rw[AN HR,HRW x hx,ax q i x hq hi hx];simp only[Lv];rw[Bool.or_assoc]) (fun x hx=>by rw[AN HU,HUW x hx,PX _ q x (by omega) hq hx,Lv]) (by rw[AN HM];simp[Pj]) (by rw[AN HL];simp)
     case measure=>simp[intOf];omega
   ·have qq0:(0:Int)≤(q:Int):=(by omega);have qq1:(q:Int)<8:=(by omega);have uq:=hN.u q hq;have fq:=hN.fu q;have HN:=hN;have hH:=fun W=>IK al q W hal hq;rw[htq]at hH;clear hN htq;go_wp2_with(first
     |(go_at_call 61;refine(hH _).mono ?_;rintro e w5⟨rfl,hb5⟩;have hN5:=((HN.setU q true).below (Fv.alloc Fu _)).below hb5;have d0:w5.cell? ⟨wr.heap.size,0,N⟩=O (I K 4):=AW hb5 (Kw rfl);have d1:w5.cell? ⟨wr.heap.size,1,N⟩=O (I K (q:Int)):=AW hb5 (Kw rfl);have rq:=hN5.r q hq;have gq:=hN5.fr q;have hne8:¬ w.heap.size+1+1=wr.heap.size:=CL z2;clear hb5))
    go_roundw
    case rel =>
     refine⟨j+1,by omega,by go_num,?_⟩;exact Lh (hN5.setR q true) (fun x hx=>by rw[AN HR,HRW x hx,iw _ q x hq hx,Lv]) (fun x hx=>by rw[AN HU,HUW x hx,PX _ q x (by omega) hq hx,Lv]) (by rw[AN HM];simp[Pj]) (by rw[AN HL];simp)
    case measure=>simp[intOf];omega
   ·have qq0:(0:Int)≤(q:Int):=(by omega);have qq1:(q:Int)<8:=(by omega);have uq:=hN.u q hq;have fq:=hN.fu q;have n2:=hN.n2;have f2:=hN.fn 2;have HN:=hN;clear hN;go_wp2;go_roundw
    case rel =>
     refine⟨j+1,by omega,by go_num,?_⟩;exact Lh (((HN.setU q true).setM true).below (Fv.alloc Fu _)) (fun x hx=>by rw[AN HR,HRW x hx,Qd _ _ _ x (by omega) hx,C8]) (fun x hx=>by rw[AN HU,HUW x hx,PX _ q x (by omega) hq hx,Lv]) (by rw[AN HM];simp[Pj]) (by rw[AN HL];simp)
    case measure=>simp[intOf];omega
   ·have n3:=hN.n3;have f3:=hN.fn 3;have HN:=hN;clear hN;go_wp2;go_roundw
    case rel =>
     refine⟨j+1,by omega,by go_num,?_⟩;exact Lh ((HN.setL true).below (Fv.alloc Fu _)) (fun x hx=>by rw[AN HR,HRW x hx,Qd _ _ _ x (by omega) hx,C8]) (fun x hx=>by rw[AN HU,HUW x hx,show R' 6 p=0 by simp[R'],OZ x hx,C8]) (by rw[AN HM];simp[Pj]) (by rw[AN HL];simp)
    case measure=>simp[intOf];omega
   ·have n3:=hN.n3;have f3:=hN.fn 3;have HN:=hN;have hps:=AM hsp;clear hN;have HBT:=(fun W=>Ze p W hsp);have hix:=fun t W ht=>WA p t W ht;go_wp2_with(first|(go_at_call 100;refine(HBT _).mono ?_;rintro e w5⟨rfl,hb5⟩))
    have hN5:=(((HN.setL true).below (Fv.alloc Fu _)).below hb5);clear hb5 HN n3 f3 e1 q0 q1 q2 q3 z0 z1 z2 z3 z4 HBT;go_loopw [66] (fun i wq=>∃t:Nat,t≤8∧i=I K t∧NR w al (fun q=>tb (Jo a j) q) (fun q=>tb (I7 a j) q || (decide (q<t) && tb p q)) mj true wq) (fun i _=>8 - (intOf i).toNat)
    case atStart=>exact⟨0,by omega,rfl,hN5.congr (fun _ _=>rfl) (fun q _=>by simp)⟩
    case round =>
     obtain⟨t,ht,rfl,hNq⟩:=hrel;by_cases hlt8:t<8
     ·have t0:(0:Int)≤(t:Int):=(by omega);have t1:(t:Int)<8:=(by omega);have ut:=hNq.u t hlt8;simp only[Nat.lt_irrefl,DW,El,C8]at ut;have fut:=hNq.fu t;have hixt:=fun W=>hix t W hlt8;have HN:=hNq;clear hNq hix;generalize hpt:tb p t=bp at *;generalize hwt:tb (I7 a j) t=bw at *;have HT:=An hwt;clear hwt
      cases bw
      all_goals
       go_wp2;go_roundw
       case rel =>
        refine⟨t+1,by omega,by go_num,?_⟩;refine NR.congr (HN.setU t _) (fun _ _=>rfl) (fun q hq=>?_);by_cases e:q=t
        ·subst e;rw[AN HT,hpt];simp
        ·simp only[e,BG];have e2:(q<t+1)↔(q<t):=(by omega);simp only[e2]
       case measure=>simp[intOf];omega
     ·obtain rfl:t=8:=(by omega);have HN:=hNq;clear hNq hix;go_wp2;go_roundw
      case rel =>
       refine⟨j+1,by omega,by go_num,?_⟩;exact Lh HN (fun x hx=>by rw[AN HR,HRW x hx,Qd _ _ _ x (by omega) hx,C8]) (fun x hx=>by rw[AN HU,HUW x hx,show R' 7 p=p by simp[R']];simp[hx]) (by rw[AN HM];simp[Pj]) (by rw[AN HL];simp)
      case measure=>simp[intOf];omega
  ·obtain rfl:j=len:=(by omega);have HN:=hN;clear hN hA;go_wp2;have hne:Nonempty (Hm wr):=⟨⟨wr,AD _ _⟩⟩;have r0:=B1 (HN.r 0 (by omega));have u0:=B1 (HN.u 0 (by omega));have r1:=B1 (HN.r 1 (by omega));have u1:=B1 (HN.u 1 (by omega));have r2:=B1 (HN.r 2 (by omega));have u2:=B1 (HN.u 2 (by omega));have r3:=B1 (HN.r 3 (by omega));have u3:=B1 (HN.u 3 (by omega));have r4:=B1 (HN.r 4 (by omega));have u4:=B1 (HN.u 4 (by omega));have r5:=B1 (HN.r 5 (by omega));have u5:=B1 (HN.u 5 (by omega));have r6:=B1 (HN.r 6 (by omega));have u6:=B1 (HN.u 6 (by omega));have r7:=B1 (HN.r 7 (by omega));have u7:=B1 (HN.u 7 (by omega));have HR:=An (fun x:Hm wr=>bR (Jo a j) x.val (Lt a j));have HU:=An (fun x:Hm wr=>bR (I7 a j) x.val (Lm al a j hok));generalize hR:Jo a j=R at *;generalize hU:I7 a j=U at *;have HRE:=An hR;clear hR;refine QD 5 (by simp) (by kernel_rfl) (by kernel_rfl) (by kernel_rfl) (by kernel_rfl) (by kernel_rfl) (by kernel_rfl) ?_;intro l r hl' hr';simp only[En,EP]at hl';simp only[Eo,ER]at hr';subst hl' hr';go_big_quiet_step(fail)
   go_big_quiet_step((go_at_call 102;exact Gf (AN HR _)))
   go_big_quiet_step(fail)
   go_big_quiet_step((go_at_call 102;exact Gf (AN HU _)))
   go_big_quiet_step(fail)
   refine Bg ?_;rintro w6⟨xs,hxs⟩;have hb6:=xs.bel;rw[←hxs]at hb6;have hN6:=HN.below hb6;clear hxs xs hb6 r0 r1 r2 r3 r4 r5 r6 r7 u0 u1 u2 u3 u4 u5 u6 u7 hne HN HR HU;have n0:=hN6.n0;have n1:=hN6.n1;have n2:=hN6.n2;have n3:=hN6.n3;have f0:=hN6.fn 0;have f1:=hN6.fn 1;have t0:=(hN6.t 0 (by omega)).1;have t1:=(hN6.t 1 (by omega)).1;have t2:=(hN6.t 2 (by omega)).1;have t3:=(hN6.t 3 (by omega)).1;have g0:=(hN6.t 0 (by omega)).2;have g1:=(hN6.t 1 (by omega)).2;have g2:=(hN6.t 2 (by omega)).2;have g3:=(hN6.t 3 (by omega)).2;simp only[AT]at t0 t1 t2 t3 g0 g1 g2 g3;obtain⟨y0,t0⟩:=BQ.1 t0;obtain⟨y1,t1⟩:=BQ.1 t1;obtain⟨y2,t2⟩:=BQ.1 t2;obtain⟨y3,t3⟩:=BQ.1 t3;have HB:=hN6.bel;clear hN6;go_wp2_with fail
   refine AG (by simp[results,Tryz.results121,go_sem,t0,t1,t2,t3]<;>rfl) rfl ⟨by unfold Ju;rw[AN HRE,hU],?_⟩
   exact Bv (w.heap.size+1) (by omega) [I K R,I K U,Aj (J5 al a j),Aj (J6 a j)] 0 _ (Bv (w.heap.size+1+1+1+1) (by omega) [I K R,I K U] 0 w6 HB)
def iP(r u r' u':Int)(k:Nat):Bool:=!((tb u k && (tb u' k || tb r' k)) || (tb r k && tb u' k))
theorem jk(x y:Int)(D:FV x=true)(E:FV y=true):bits .and K x y=0↔∀k,k<8→(tb x k && tb y k)=false:=by
  constructor
  · intro h k F
    rw[←S0 x y D E k F,h];exact OZ k F
  · intro h
    rw[kg];apply DA;intro i H;rw[Cz,In _ i (Hq D) H,In _ i (Hq E) H,Du];by_cases J:i<8
    ·exact h i J
    ·rw[XT x i D (by omega)];simp
theorem Xu(u r v:Int)(hu:FV u=true)(hr:FV r=true)(E:FV v=true):Zs u r v=false↔∀k,k<8→(tb u k && (tb r k || tb v k))=false:=by
  unfold Zs;rw[bne_eq_false_iff_eq,jk _ _ hu (JO r v hr E).2];constructor
  ·intro h k D;have:=h k D;rwa[Lq r v hr E k D]at this
  ·intro h k D;rw[Lq r v hr E k D];exact h k D
section
variable {r u r' u':Int}
theorem gg (hr:FV r=true)(hu:FV u=true)(hr':FV r'=true)(hu':FV u'=true)(m l H J:Bool)(k:Nat)(D:k<8)(h:iP r u r' u' k=false):Xw r u m l r' u' H J=true:=by
  cases E:Zs u r' u'
  · cases F:Zs u' r u
    · exfalso
      have L:=(Xu u r' u' hu hr' hu').1 E k D;have M:=(Xu u' r u hu' hr hu).1 F k D;unfold iP at h;revert h L M
      cases tb r k <;>cases tb u k <;>cases tb r' k <;>cases tb u' k <;>simp
    ·simp[Xw,F]
  ·simp[Xw,E]
theorem gi (hr:FV r=true)(hu:FV u=true)(hr':FV r'=true)(hu':FV u'=true)(m l D E:Bool)(h:∀ k,k<8→iP r u r' u' k=true):Xw r u m l r' u' D E=(m || (l || (D || E))):=by
  have H:Zs u r' u'=false:=(Xu u r' u' hu hr' hu').2 (fun k F=>by
    have:=h k F;unfold iP at this;revert this
    cases tb r k <;>cases tb u k <;>cases tb r' k <;>cases tb u' k <;>simp)
  have J:Zs u' r u=false:=(Xu u' r u hu' hr hu).2 (fun k F=>by
    have:=h k F;unfold iP at this;revert this
    cases tb r k <;>cases tb u k <;>cases tb r' k <;>cases tb u' k <;>simp)
  unfold Xw;rw[H,J]
  cases m <;>cases l <;>cases D <;>cases E <;>rfl
end
theorem WP(m al no:Int)(A:Option Addr)(len U:Nat)(a:Nat→F')(m' E V:Int)(A':Option Addr)(D H:Nat)(a':Nat→F')(w:World)(hl:len≤8)(hG:D≤8)
    (ho:FV al=true) (hh:FV E=true) (hm:jA al a len) (ha:jA E a' D) (hA:GZ w A len a) (hp:GZ w A' D a'):
    Calls Au 123 #[Gz m al no A len U,Gz m' E V A' D H] w fun e w'=>e=Ao (Aj (gk al a len E a' D))∧Below w.heap.size w w':=by
  have hq:∀W1,Below w.heap.size w W1→Calls Au 121 #[Gz m al no A len U] W1 fun e w'=>e=Ao (Ju al a len)∧Below W1.heap.size W1 w':=fun W1 h=>N6 m al no A len U a W1 ho hl hm (hA.below h);have hs:∀W1,Below w.heap.size w W1→Calls Au 121 #[Gz m' E V A' D H] W1 fun e w'=>e=Ao (Ju E a' D)∧Below W1.heap.size W1 w':=fun W1 h=>N6 m' E V A' D H a' W1 hh hG ha (hp.below h);have sr:=Lt a len;have su:=Lm al a len hm;have hd:=Lt a' D;have he:=Lm E a' D ha;unfold gk;unfold Ju Gz at *;generalize Jo a len=r at *;generalize I7 a len=u at *;generalize J5 al a len=mv at *;generalize J6 a len=lf at *;generalize Jo a' D=r' at *;generalize I7 a' D=u' at *;generalize J5 E a' D=M at *;generalize J6 a' D=Y at *;have HF:=(fun k hk h=>gg (k:=k) sr su hd he mv lf M Y hk h);have HT:=(fun h=>gi sr su hd he mv lf M Y h);have HH:=(fun(t:Nat) (ht:t<8)=>And.intro (fun W=>IK r t W sr ht) (And.intro (fun W=>IK u t W su ht) (And.intro (fun W=>IK r' t W hd ht) (fun W=>IK u' t W he ht))));clear hA hp hm ha sr su hd he ho hh;generalize J:Xw r u mv lf r' u' M Y=hH at *;clear J;go_enter Tryz.func123,Tryz.ntmps123
  go_wp2;obtain⟨W,hW⟩:∃W,W=(w.alloc (Al #[I K m,I K al,I K no,S A len U] 37)).alloc (Al #[I K m',I K E,I K V,S A' D H] 37):=⟨_,rfl⟩;have hB:Below w.heap.size w W:=by rw[hW];go_grown
  have p0:W.cell? ⟨w.heap.size,0,N⟩=O (I K m):=by rw[hW];simp[go_sem]
  have p1:W.cell? ⟨w.heap.size,1,N⟩=O (I K al):=by rw[hW];simp[go_sem]
  have p2:W.cell? ⟨w.heap.size,2,N⟩=O (I K no):=by rw[hW];simp[go_sem]
  have p3:W.cell? ⟨w.heap.size,3,N⟩=O (S A len U):=by rw[hW];simp[go_sem]
  have q0:W.cell? ⟨w.heap.size+1,0,N⟩=O (I K m'):=by rw[hW];simp[go_sem]
  have q1:W.cell? ⟨w.heap.size+1,1,N⟩=O (I K E):=by rw[hW];simp[go_sem]
  have q2:W.cell? ⟨w.heap.size+1,2,N⟩=O (I K V):=by rw[hW];simp[go_sem]
  have q3:W.cell? ⟨w.heap.size+1,3,N⟩=O (S A' D H):=by rw[hW];simp[go_sem]
  rw[←hW];clear hW;rename_i K1 hv;refine OV _ _ _ _ _ _ _ _ 9 11 5 6 (by decide) ⟨rfl,rfl⟩ ⟨rfl,rfl⟩ ⟨rfl,rfl⟩ ⟨rfl,rfl⟩ (by kernel_rfl) (by kernel_rfl) (by kernel_rfl) (by kernel_rfl) (by kernel_rfl) (by simp) (by simp) r u mv lf r' u' M Y 8 10
    (Af #[I K m,I K al,I K no,S A len U]) (Af #[I K m',I K E,I K V,S A' D H]) _ R (by decide) (by simp) (by simp) ?q ?fin
  case q =>
    intro w1 F;have hP:Nonempty (Hm w1):=⟨⟨w1,AD _ _⟩⟩;have p0:=B1 (AW F p0);have p1:=B1 (AW F p1);have p2:=B1 (AW F p2);have p3:=B1 (AW F p3);have q0:=B1 (AW F q0);have q1:=B1 (AW F q1);have q2:=B1 (AW F q2);have q3:=B1 (AW F q3);have hf:=An (hB.trans (F.mono hB.size));clear F;have hI:=(fun x:Hm w1=>hq x.val ((AN hf).trans (x.bel.mono (AN hf).size)));have hJ:=(fun x:Hm w1=>hs x.val ((AN hf).trans (x.bel.mono (AN hf).size)));go_big_quiet_step(fail)
    go_big_quiet_step((go_at_call 121;exact Gf (hI _)))
    go_big_quiet_step(fail)
    go_big_quiet_step((go_at_call 121;exact Gf (hJ _)))
    exact Bg (by simp[Act.put,nV])
  case fin =>
    intro g0 g1 w1 hN;have hw:Below w.heap.size w w1:=hB.trans (hN.bel.mono hB.size);have Z:Zq w g0 g1 r u mv lf r' u' M Y w1:=⟨hw,hN.c0,hN.c1,hN.c2,hN.c3,hN.d0,hN.d1,hN.d2,hN.d3⟩;clear p0 p1 p2 p3 q0 q1 q2 q3 hq hs hB hN hw;simp[Act.put,nV];have hK:=hv;clear hv;have L:=Z;clear Z;go_wp2_with fail
    go_loopw [12] (fun i wr=>∃t:Nat,t≤8∧i=I K t∧(∀k,k<t→iP r u r' u' k=true)∧Zq w g0 g1 r u mv lf r' u' M Y wr) (fun i _=>8 - (intOf i).toNat)
    case atStart=>exact⟨0,by omega,rfl,fun k hk=>by omega,L⟩
    case round =>
      clear L;obtain⟨t,ht,rfl,hi,Z⟩:=hrel;by_cases hx:t<8
      · have t0:(0:Int)≤(t:Int):=by omega
        have t1:(t:Int)<8:=(by omega);obtain⟨H1,H2,H3,H4⟩:=HH t hx;have hL:=(HF t hx);have hy:(iP r u r' u' t=!((tb u t && (tb u' t || tb r' t)) || (tb r t && tb u' t))):=rfl;have c1:=Z.c1;have L:=Z;clear HH HF HT Z;generalize hj:iP r u r' u' t=ok at *;have hM:=An hj;clear hj;generalize tb r t=b1 at *;generalize tb u t=b2 at *;generalize tb r' t=b3 at *;generalize tb u' t=b4 at *;have H1:=H1;have H2:=H2;have H3:=H3;have H4:=H4
        cases b1 <;>cases b2 <;>cases b3 <;>cases b4
        all_goals
          go_wp2_with(first
            |(go_at_call_of 61 u;refine(H2 _).mono ?_;rintro e w5⟨rfl,hz⟩;have hb:=L.below hz;clear hz L;have c0:=hb.c0;have d0:=hb.d0;have d1:=hb.d1;have L:=hb;clear hb)
            |(go_at_call_of 61 r';refine(H3 _).mono ?_;rintro e w6⟨rfl,hC⟩;have hg:=L.below hC;clear hC L;have c0:=hg.c0;have d1:=hg.d1;have L:=hg;clear hg)
            |(go_at_call_of 61 r;refine(H1 _).mono ?_;rintro e w7⟨rfl,hD⟩;have hn:=L.below hD;clear hD L;have d1:=hn.d1;have L:=hn;clear hn)
            |(go_at_call_of 61 u';refine(H4 _).mono ?_;rintro e w8⟨rfl,hE⟩;have hc:=L.below hE;clear hE L;have c0:=hc.c0;have d0:=hc.d0;have d1:=hc.d1;have L:=hc;clear hc))
          first
          | (go_ret
             have J:hH=true:=hL hy;subst J;exact⟨rfl,L.bel⟩)
          | (go_roundw
             case rel=>exact⟨t+1,by omega,by go_num,fun k hk=>by
               rcases(by omega:k<t∨k=t)with h|rfl
               ·exact hi k h
               ·exact(AN hM).trans hy,L⟩
             case measure=>simp[intOf];omega)
      · obtain rfl:t=8:=by omega
        have c2:=Z.c2;have c3:=Z.c3;have d2:=Z.d2;have d3:=Z.d3;have hO:=Z.bel;have J:=HT hi;have hF:=An J;clear Z HH HF HT J
        cases mv <;>cases lf <;>cases M
        all_goals
          go_wp2;go_ret;exact⟨by rw[AN hF];simp,hO⟩
end Go.Proofs.YtnbleebilmghcabGreat
