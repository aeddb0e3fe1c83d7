/- PList, POwn, PBox -/
import Derived.Test.YtnbleebilmghcabGreatUAC
import Derived.Test.YtnbleebilmghcabGreatUAF
set_option linter.all false
set_option maxHeartbeats 4000000
open Go.Value renaming int→I,slice→S,pointer→Ae,agg→Af
open Go.IntKind renaming i64→K
open Option renaming none→N,some→O
open Go.Obj renaming cells→Al
open Go.Ending renaming returned→Ao
open Go.Proofs.Tryz renaming prog→Au
namespace Go.Proofs.YtnbleebilmghcabGreat
open Go Go.RowKit
def dR:D7:=⟨0,0,0,fun _=>0⟩
def D'(x:D7):List Value:=[I K x.ix,I K x.gen,I K x.has,I K (x.v 0),I K (x.v 1),I K (x.v 2),I K (x.v 3),I K (x.v 4),I K (x.v 5),I K (x.v 6),I K (x.v 7)]
def At(rows:List D7):List Value:=rows.flatMap D'
def FD(l:List Int):List Value:=l.map fun x=>I K x
def Lc(w:World)(A:Option Addr)(rows:List D7):Prop:=JR w A rows.length (fun j=>rows.getD j dR)
def JE(w:World)(G:Option Addr)(l:List Int):Prop:=LA w G l.length (fun j=>l.getD j 0)
theorem Lc.below{w w1:World}{A:Option Addr}{D:List D7}(h:Lc w A D)(E:Below w.heap.size w w1):Lc w1 A D:=JR.below h E
theorem JE.below{w w1:World}{G:Option Addr}{l:List Int}(h:JE w G l)(D:Below w.heap.size w w1):JE w1 G l:=LA.below h D
theorem F2(x:D7):(D' x).length=11:=rfl
theorem Fy:∀h:List D7,(At h).length=h.length*11
 |[]=>rfl
 |x :: r=>by
  have:=Fy r;unfold At at this⊢;rw[BM,AV,F2,this,AJ];omega
theorem IY(l:List Int):(FD l).length=l.length*1:=by simp[FD]
theorem JD:∀(D:List D7) (j i:Nat),j<D.length→i<11→(At D)[j*11+i]?=(D' (D.getD j dR))[i]?
 |[],j,i,h,_=>by simp at h
 |x :: r,0,i,_,hi=>by
  unfold At;rw[BM,BF (by rw[F2];omega)];simp
 |x :: r,j+1,i,h,hi=>by
  have:=JD r j i (by simpa using h) hi;unfold At at this⊢;rw[BM,BI (by rw[F2];omega),F2,show(j+1)*11+i - 11=j*11+i by omega,this];simp
theorem Iz(h:List D7):∀u∈At h,u.oneCell'=true:=by
 intro u D;unfold At at D;obtain⟨x,_,E⟩:=C1.1 D;simp only[D',Bu,Ch,Dk]at E;rcases E with rfl|rfl|rfl|rfl|rfl|rfl|rfl|rfl|rfl|rfl|rfl <;>rfl
theorem Px(l:List Int):∀u∈FD l,u.oneCell'=true:=by
 intro u h;obtain⟨x,_,rfl⟩:=Cn.1 h;rfl
theorem KF(b h j:Nat):(⟨b,h,N⟩:Addr).add j=⟨b,h+j,N⟩:=by unfold Addr.add;split <;>simp_all
theorem IW(w:World)(b o:Nat)(x:D7):Hb w b o x↔∀i u,(D' x)[i]?=O u→w.cell? ⟨b,o+i,N⟩=O u:=by
 constructor
 ·intro h i u D;have F:i<11:=by
   by_cases E:i<11
   ·exact E
   ·rw[Bb (by rw[F2];omega)]at D;cases D
  have v:=h.v;simp only[Bt]at v;rcases(by omega:i=0∨i=1∨i=2∨i=3∨i=4∨i=5∨i=6∨i=7∨i=8∨i=9∨i=10)with rfl|rfl|rfl|rfl|rfl|rfl|rfl|rfl|rfl|rfl|rfl <;>simp[D']at D <;>subst D
  ·exact h.c0
  ·exact h.c1
  ·exact h.c2
  ·exact v 0 (by omega)
  ·exact v 1 (by omega)
  ·exact v 2 (by omega)
  ·exact v 3 (by omega)
  ·exact v 4 (by omega)
  ·exact v 5 (by omega)
  ·exact v 6 (by omega)
  ·exact v 7 (by omega)
 ·intro h;refine⟨h 0 _ R,h 1 _ R,h 2 _ R,fun k H=>?_⟩;rw[show o+3+k=o+(3+k) by omega];refine h (3+k) _ ?_;rcases(by omega:k=0∨k=1∨k=2∨k=3∨k=4∨k=5∨k=6∨k=7)with rfl|rfl|rfl|rfl|rfl|rfl|rfl|rfl <;>rfl
def Rl(w:World)(A:Option Addr)(n size:Nat)(xs:List Value):Prop:=xs.length=n*size∧(∀u∈xs,u.oneCell'=true)∧(n=0∨∃ad,A=O ad∧∀j u,xs[j]?=O u→w.cell? (ad.add j)=O u)
theorem Lc.copies{w:World}{A:Option Addr}{D:List D7}(h:Lc w A D):Rl w A D.length 11 (At D):=by
 refine⟨Fy D,Iz D,?_⟩;by_cases h0:D.length=0
 ·exact .inl h0
 ·right;obtain⟨b,F,J,_⟩:=h 0 (by omega);refine⟨⟨b,F,N⟩,J,fun j u H=>?_⟩;have V:j<D.length*11:=by
   by_cases M:j<D.length*11
   ·exact M
   ·rw[Bb (by rw[Fy];omega)]at H;cases H
  obtain⟨Y,L,E,U⟩:=h (j / 11) (by omega);rw[J]at E;simp only[Bc,Cr,Bx]at E;obtain⟨rfl,rfl⟩:=E;have:=(IW _ _ _ _).1 U (j % 11) u (by rw[←JD D (j / 11) (j % 11) (by omega) (by omega)];rw[show j / 11*11+j % 11=j by omega];exact H);rw[KF,←this];congr 2;omega
theorem JE.copies{w:World}{G:Option Addr}{l:List Int}(h:JE w G l):Rl w G l.length 1 (FD l):=by
 refine⟨IY l,Px l,?_⟩;by_cases h0:l.length=0
 ·exact .inl h0
 ·right;obtain⟨b,F,J,_⟩:=h 0 (by omega);refine⟨⟨b,F,N⟩,J,fun j u E=>?_⟩;have H:j<l.length:=by
   by_cases M:j<l.length
   ·exact M
   ·rw[Bb (by rw[IY];omega)]at E;cases E
  obtain⟨V,L,D,U⟩:=h j H;rw[J]at D;simp only[Bc,Cr,Bx]at D;obtain⟨rfl,rfl⟩:=D;rw[KF,U];unfold FD at E;rw[Bw,AE H]at E;dsimp only;rw[Az,AE H];simpa using E
theorem JG{W:World}{F:Nat}{v:Value}{D:List D7}(h:W.ownsRow F 116 11 v D.length (At D)):∃A E,v=S A D.length E∧Lc W A D:=by
 by_cases h0:0<D.length
 ·obtain⟨g,E,rfl,_,_⟩:=Gi h h0;refine⟨O ⟨g,0,N⟩,E,rfl,fun j H=>⟨g,0,rfl,?_⟩⟩;refine(IW _ _ _ _).2 fun i u J=>?_;have L:i<11:=by
   by_cases M:i<11
   ·exact M
   ·rw[Bb (by rw[F2];omega)]at J;cases J
  rw[AT];exact F4 h (by rw[JD D j i H L];exact J)
 ·obtain rfl:D=[]:=BK (by omega);rcases h.2 with⟨rfl,_⟩|⟨g,E,U,rfl,_⟩
  ·exact⟨N,0,rfl,fun j H=>by simp at H⟩
  ·exact⟨_,E,rfl,fun j H=>by simp at H⟩
theorem J8{W:World}{F:Nat}{v:Value}{l:List Int}(h:W.ownsRow F 3 1 v l.length (FD l)):∃A D,v=S A l.length D∧JE W A l:=by
 by_cases h0:0<l.length
 ·obtain⟨g,D,rfl,_,_⟩:=Gi h h0;refine⟨O ⟨g,0,N⟩,D,rfl,fun j E=>⟨g,0,rfl,?_⟩⟩;rw[AT];refine F4 h ?_;unfold FD;dsimp only;rw[Bw,AE E,Az,AE E];rfl
 ·obtain rfl:l=[]:=BK (by omega);rcases h.2 with⟨rfl,_⟩|⟨g,D,H,rfl,_⟩
  ·exact⟨N,0,rfl,fun j E=>by simp at E⟩
  ·exact⟨_,D,rfl,fun j E=>by simp at E⟩
theorem I8{P:Program}(w:World){o:Oper}{a:Act}{K:Act→World→Prop}{Q:Exit→Act→World→Prop}(s x:Operand)(t:TypeId)
  (ho:o.op=.call { callee:=.builtin .append,args:=#[s,x],argTypes:=#[t,t] })
  (F:Nat) (e:TypeId) (i:TypeInfo) (z:Value) (D E:Nat) (ht:P.underlying t=some (.slice e)) (hi:P.info? e=some i) (hz:i.zero=some z)
  (J:i.size=D) (Y:i.bytes=E) (Z:z.cells.size=D) (ha:0<D)
  (hs:a.eval s=.slice none 0 0) (A:Option Addr) (n c:Nat) (U:List Value) (hx:a.eval x=.slice A n c) (hc:Rl w A n D U)
  (hd:n≤maxLen) (H:n*E≤140737488355328) (L:F≤w.heap.size)
  (h:∀V M,M.ownsRow F e D V n U→w.grownBy M none→K (a.put o.dst V) M):o.wp P a w K Q:=by
 obtain⟨h1,h2,h3⟩:=hc;rcases h3 with rfl|⟨ad,rfl,h3⟩
 ·have hb:U=[]:=List.eq_nil_of_length_eq_zero (by omega);subst hb;have hr:∀ty,(Builtin.append_ #[t,t] ty #[.slice none 0 0,.slice A 0 c]).run P w=.ok (.slice none 0 0) w:=fun ty=>by
   cases A <;>simp[Builtin.append_,run_underlying ht,sizeOf,typeInfo,hi,Builtin.lenOf,Builtin.firstCells,loadCells,loadCellsFrom]
  unfold Oper.wp execOp;simp only[ho,resolve,invoke,builtin,Sem.run_bind,Sem.run_pure,Result.andThen_ok,List.map_toArray,List.map_cons,List.map_nil,hs,hx,hr];exact h _ _ (World.ownsRow_nil _ _ _ _) (World.grownBy.refl _ _)
 ·refine wp_append_own w s x t ho F e i z D E ht hi hz J Y Z ha (.slice none 0 0) 0 [] hs (World.ownsRow_nil _ _ _ _) ad n c U hx h1 h3 h2 (by omega) (by rw[Nat.zero_add];exact H) L fun V M h4 h5 _=>?_;rw[Nat.zero_add,List.nil_append]at h4;exact h V M h4 h5
set_option maxRecDepth 8000
attribute [local go_sem ↓] Go.wp_at_zero Go.wp_at_succ
theorem OC:(Au.info? 116).map (fun i=>(i.zero,i.size,i.bytes))=O (O (Af #[I K 0,I K 0,I K 0,I K 0,I K 0,I K 0,I K 0,I K 0,I K 0,I K 0,I K 0]),11,88):=by kernel_rfl
theorem info3:(Au.info? 3).map (fun i=>(i.zero,i.size,i.bytes))=O (O (I K 0),1,8):=by kernel_rfl
theorem J0{w:World}{a:Addr}{v u:Value}(h:w.cell? a=O u):(w.setCell a v).cell? a=O v:=D4 w a v h
theorem Gb{w:World}{a b:Addr}{v u:Value}(D:a≠b)(h:w.cell? b=O u):(w.setCell a v).cell? b=O u:=(EU w a b v D).trans h
structure OW(w:World)(A:Option Addr)(n cap:Nat)(G:Option Addr)(gn gcap:Nat)(W:World):Prop where
 bel:Below w.heap.size w W
 sz:w.heap.size+2≤W.heap.size
 r0:W.cell? ⟨w.heap.size,0,N⟩=O (S A n cap)
 r1:W.cell? ⟨w.heap.size,1,N⟩=O (S G gn gcap)
 t0:(W.cell? ⟨w.heap.size+1,0,N⟩).isSome=true
 t1:(W.cell? ⟨w.heap.size+1,1,N⟩).isSome=true
 f:∀i,W.frozen? ⟨w.heap.size+1,i,N⟩=false
theorem OW.keep{w W W1:World}{A:Option Addr}{n F:Nat}{G:Option Addr}{H D:Nat}(h:OW w A n F G H D W)(E:Below (w.heap.size+2) W W1):OW w A n F G H D W1 :=
 ⟨h.bel.trans (E.mono (by omega)),AU h.sz E.size,(E.cell (p:=⟨w.heap.size,0,N⟩) (by simp)).trans h.r0,(E.cell (p:=⟨w.heap.size,1,N⟩) (by simp)).trans h.r1,
  by rw[E.cell (p:=⟨w.heap.size+1,0,N⟩) (by simp)];exact h.t0,by rw[E.cell (p:=⟨w.heap.size+1,1,N⟩) (by simp)];exact h.t1,fun i=>(E.frozen (p:=⟨w.heap.size+1,i,N⟩) (by simp)).trans (h.f i)⟩
theorem OW.grown{w W W1:World}{A:Option Addr}{n E:Nat}{G:Option Addr}{F D:Nat}(h:OW w A n E G F D W)(H:W.grownBy W1 N):OW w A n E G F D W1 :=
 h.keep (Fv.grown H h.sz (fun k J=>by cases J))
theorem OW.start(w:World)(A:Option Addr)(n D:Nat)(G:Option Addr)(F h:Nat):OW w A n D G F h ((w.alloc (Al #[S A n D,S G F h] 43)).alloc (Al #[S N 0 0,S N 0 0] 43)):=by
 obtain⟨w1,E⟩:∃W,W=w.alloc (Al #[S A n D,S G F h] 43):=⟨_,rfl⟩;have L:w1.heap.size=w.heap.size+1:=by rw[E];simp
 have J:Below w.heap.size w w1:=by rw[E];exact Fv.alloc Fu _
 have M:w1.cell? ⟨w.heap.size,0,N⟩=O (S A n D):=by rw[E];simp
 have U:w1.cell? ⟨w.heap.size,1,N⟩=O (S G F h):=by rw[E];simp
 rw[←E];clear E;have H:Below w1.heap.size w1 (w1.alloc (Al #[S N 0 0,S N 0 0] 43)):=Fv.alloc Fu _;refine⟨J.trans (H.mono J.size),by simp;omega,AW H M,AW H U,?_,?_,fun i=>?_⟩<;>rw[←L]<;>simp[go_sem]
structure kN(L:Nat→Bool):Prop where
 d1:L 1=true→L 0=true
 d2:L 2=true→L 1=true
 d4:L 4=true→L 3=true
 d5:L 5=true→L 4=true
theorem Pz{L:Nat→Bool}{i j k:Nat}(F:L j=true→L k=true)(H:i=j→L k=true):upd L i j=true→upd L i k=true:=by
 intro h;unfold upd at h⊢;by_cases D:k=i
 ·simp[D]
 ·by_cases E:j=i
  ·simp[D,H E.symm]
  ·simp[E]at h;simp[D,F h]
theorem kN.upd{L:Nat→Bool}(h:kN L)(i:Nat)(D:i=1→L 0=true)(E:i=2→L 1=true)(F:i=4→L 3=true)(H:i=5→L 4=true):kN (upd L i):=
 ⟨Pz h.d1 D,Pz h.d2 E,Pz h.d4 F,Pz h.d5 H⟩
def OI(w:World)(A:Option Addr)(cap:Nat)(rows:List D7)(G:Option Addr)(gcap:Nat)(gens:List Int)(L:Nat→Bool)(ac:Act)(w1:World):Prop :=
 ∃x3 x4 x5 x6 x7 x8 x9:Value,ac=⟨#[Af #[S A rows.length cap,S G gens.length gcap],Ae (O ⟨w.heap.size,0,N⟩),Ae (O ⟨w.heap.size+1,0,N⟩),x3,x4,x5,x6,x7,x8,x9],[]⟩ ∧
  (L 0=true→x3=Ae (O ⟨w.heap.size,0,N⟩))∧(L 1=true→x4=S A rows.length cap)∧(L 2=true→w1.ownsRow (w.heap.size+2) 116 11 x5 rows.length (At rows)) ∧
  (L 3=true→x6=Ae (O ⟨w.heap.size,1,N⟩))∧(L 4=true→x7=S G gens.length gcap)∧(L 5=true→w1.ownsRow (w.heap.size+2) 3 1 x8 gens.length (FD gens)) ∧
  (L 6=true→x9=Af #[x5,x8]∧L 2=true∧L 5=true) ∧
  (L 7=true→w1.cell? ⟨w.heap.size+1,0,N⟩=O x5∧w1.cell? ⟨w.heap.size+1,1,N⟩=O x8∧∀j,j<7→L j=true) ∧
  OW w A rows.length cap G gens.length gcap w1∧kN L
theorem Fx{L:Nat→Bool}{i j:Nat}(h:j≠i):upd L i j=L j:=AA h
theorem IF{L:Nat→Bool}{i:Nat}:upd L i i=true:=AF R
theorem Nw{L:Nat→Bool}{i j:Nat}(h:L j=false)(D:j≠i){P:Prop}:upd L i j=true→P:=fun k=>by rw[Fx D,h]at k;cases k
theorem GL{L:Nat→Bool}{i j:Nat}(h:j≠i){P:Prop}(f:L j=true→P):upd L i j=true→P:=fun k=>f (by rwa[Fx h]at k)
theorem Hw{W:World}{D:Nat}{e:TypeId}{E n:Nat}{v:Value}{H:List Value}(h:W.ownsRow D e E v n H):∃A c,v=S A n c:=by
 rcases h.2 with⟨rfl,rfl⟩|⟨g,F,J,rfl,_⟩
 ·exact⟨N,0,rfl⟩
 ·exact⟨_,F,rfl⟩
theorem Gg{D b:Nat}{e:TypeId}{E n:Nat}{v:Value}{F:List Value}(H:b<D):∀(vs:List Value) (o:Nat) (W:World),W.ownsRow D e E v n F→(W.setCells b o vs).ownsRow D e E v n F
 |[],_,_,h=>h
 |u :: r,o,_,h=>Gg H r (o+1) _ (Cs h (a:=⟨b,o,N⟩) H u)
theorem fy(A:Option Addr)(ha:Nat)(E:List D7)(G:Option Addr)(U:Nat)(gens:List Int)(w:World)(hn:E.length*88≤140737488355328)(hk:gens.length*8≤140737488355328)(hR:Lc w A E)(hG:JE w G gens):
  Calls Au 149 #[FF A E.length ha G gens.length U] w fun e w'=>∃v5 v8,e=Ao (Af #[v5,v8])∧w'.ownsRow (w.heap.size+2) 116 11 v5 E.length (At E)∧w'.ownsRow (w.heap.size+2) 3 1 v8 gens.length (FD gens)∧Below w.heap.size w w':=by
 obtain⟨hl,hb,hc,hf,hg⟩:=BC OC;obtain⟨i3,hm,hp,hq,hr⟩:=BC info3;have hO:=OW.start w A E.length ha G gens.length U;unfold FF;go_enter Tryz.func149,Tryz.ntmps149
 go_wp2;rename_i Q1 K1 hh;refine Ld (by kernel_rfl) (OI w A ha E G U gens) (by kernel_rfl) ?start ?step ?fin
 case start=>exact⟨_,_,_,_,_,_,_,rfl,by simp,by simp,by simp,by simp,by simp,by simp,by simp,by simp,hO.keep (Fv.drew),⟨by simp,by simp,by simp,by simp⟩⟩
 case step =>
  clear hh hO;rintro L ac w1 i o⟨x3,x4,x5,x6,x7,x8,x9,rfl,f0,f1,Y,f3,f4,Z,J,f7,H,M⟩ F hL he;have h7:i≠7→L 7=false:=fun hi=>by
   cases h:L 7
   ·rfl
   ·have hs:i<8:=by
     have:=Bk.1 F;obtain⟨h1,_⟩:=this;simpa using h1
    rw[(f7 h).2.2 i (by omega)]at hL;cases hL
  have r0:=H.r0;have r1:=H.r1
  match i,F with
  |0,F =>
   have D:=F;simp at D;subst D;refine Gn F R ?_;simp[go_sem];exact⟨_,_,_,_,_,_,_,rfl,fun _=>rfl,GL (by omega) f1,GL (by omega) Y,GL (by omega) f3,GL (by omega) f4,GL (by omega) Z,GL (by omega) (fun h=>⟨(J h).1,by rw[Fx (by omega)];exact(J h).2.1,by rw[Fx (by omega)];exact(J h).2.2⟩),Nw (h7 (by omega)) (by omega),H,M.upd 0 (by omega) (by omega) (by omega) (by omega)⟩
  |1,F =>
   have D:=F;simp at D;subst D;obtain rfl:=f0 (he ⟨0,.data⟩ (by simp) R);refine Gn F R ?_;simp[go_sem,r0];exact⟨_,_,_,_,_,_,_,rfl,GL (by omega) f0,fun _=>rfl,GL (by omega) Y,GL (by omega) f3,GL (by omega) f4,GL (by omega) Z,GL (by omega) (fun h=>⟨(J h).1,by rw[Fx (by omega)];exact(J h).2.1,by rw[Fx (by omega)];exact(J h).2.2⟩),Nw (h7 (by omega)) (by omega),H,M.upd 1 (fun _=>he ⟨0,.data⟩ (by simp) R) (by omega) (by omega) (by omega)⟩
  |2,F =>
   have D:=F;simp at D;subst D;obtain rfl:=f1 (he ⟨1,.data⟩ (by simp) R);refine Gn F R ?_;refine I8 w1 _ _ 41 R (w.heap.size+2) 116 hl _ 11 88 Tryz.underlying41 hb hc hf hg R (by decide) R A E.length ha (At E) R (hR.below H.bel).copies (by unfold maxLen;omega) hn H.sz fun v' w' h1 h2=>?_;exact⟨_,_,v',_,_,_,_,rfl,GL (by omega) f0,GL (by omega) f1,fun _=>h1,GL (by omega) f3,GL (by omega) f4,GL (by omega) (fun h=>(Z h).kept h2 (by cases x8.ownBlock <;>simp)),GL (by omega) (fun h=>absurd ((J h).2.1.symm.trans hL) (by decide)),Nw (h7 (by omega)) (by omega),H.grown h2,M.upd 2 (by omega) (fun _=>he ⟨1,.data⟩ (by simp) R) (by omega) (by omega)⟩
  |3,F =>
   have D:=F;simp at D;subst D;refine Gn F R ?_;simp[go_sem];exact⟨_,_,_,_,_,_,_,rfl,GL (by omega) f0,GL (by omega) f1,GL (by omega) Y,fun _=>rfl,GL (by omega) f4,GL (by omega) Z,GL (by omega) (fun h=>⟨(J h).1,by rw[Fx (by omega)];exact(J h).2.1,by rw[Fx (by omega)];exact(J h).2.2⟩),Nw (h7 (by omega)) (by omega),H,M.upd 3 (by omega) (by omega) (by omega) (by omega)⟩
  |4,F =>
   have D:=F;simp at D;subst D;obtain rfl:=f3 (he ⟨3,.data⟩ (by simp) R);refine Gn F R ?_;simp[go_sem,r1];exact⟨_,_,_,_,_,_,_,rfl,GL (by omega) f0,GL (by omega) f1,GL (by omega) Y,GL (by omega) f3,fun _=>rfl,GL (by omega) Z,GL (by omega) (fun h=>⟨(J h).1,by rw[Fx (by omega)];exact(J h).2.1,by rw[Fx (by omega)];exact(J h).2.2⟩),Nw (h7 (by omega)) (by omega),H,M.upd 4 (by omega) (by omega) (fun _=>he ⟨3,.data⟩ (by simp) R) (by omega)⟩
  |5,F =>
   have D:=F;simp at D;subst D;obtain rfl:=f4 (he ⟨4,.data⟩ (by simp) R);refine Gn F R ?_;refine I8 w1 _ _ 23 R (w.heap.size+2) 3 i3 _ 1 8 Tryz.underlying23 hm hp hq hr R (by decide) R G gens.length U (FD gens) R (hG.below H.bel).copies (by unfold maxLen;omega) hk H.sz fun v' w' h1 h2=>?_;exact⟨_,_,_,_,_,v',_,rfl,GL (by omega) f0,GL (by omega) f1,GL (by omega) (fun h=>(Y h).kept h2 (by cases x5.ownBlock <;>simp)),GL (by omega) f3,GL (by omega) f4,fun _=>h1,GL (by omega) (fun h=>absurd ((J h).2.2.symm.trans hL) (by decide)),Nw (h7 (by omega)) (by omega),H.grown h2,M.upd 5 (by omega) (by omega) (by omega) (fun _=>he ⟨4,.data⟩ (by simp) R)⟩
  |6,F =>
   have D:=F;simp at D;subst D;have l2:=he ⟨2,.data⟩ (by simp) R;have l5:=he ⟨5,.data⟩ (by simp) R;obtain⟨A5,c5,e5⟩:=Hw (Y l2);obtain⟨A8,c8,e8⟩:=Hw (Z l5);refine Gn F R ?_;subst e5;subst e8;simp[go_sem];exact⟨_,_,_,_,_,_,_,rfl,GL (by omega) f0,GL (by omega) f1,GL (by omega) Y,GL (by omega) f3,GL (by omega) f4,GL (by omega) Z,fun _=>⟨rfl,by rw[Fx (by omega)];exact l2,by rw[Fx (by omega)];exact l5⟩,Nw (h7 (by omega)) (by omega),H,M.upd 6 (by omega) (by omega) (by omega) (by omega)⟩
  | 7,F =>
   have D:=F;simp at D;subst D;obtain⟨rfl,l2,l5⟩:=J (he ⟨6,.data⟩ (by simp) R);obtain⟨A5,c5,e5⟩:=Hw (Y l2);obtain⟨A8,c8,e8⟩:=Hw (Z l5);subst e5;subst e8;have t0:=H.t0;have t1:=H.t1;have g0:=H.f 0;have g1:=H.f 1;obtain⟨u0,t0⟩:=BQ.1 t0;obtain⟨u1,t1⟩:=BQ.1 t1;refine Gn F R ?_;simp[go_sem,t0,t1,g0,g1];have o2:=fun h=>Cs (Cs (Y h) (a:=⟨w.heap.size+1,0,N⟩) (by simp) (S A5 E.length c5)) (a:=⟨w.heap.size+1,1,N⟩) (by simp) (S A8 gens.length c8);have o5:=fun h=>Cs (Cs (Z h) (a:=⟨w.heap.size+1,0,N⟩) (by simp) (S A5 E.length c5)) (a:=⟨w.heap.size+1,1,N⟩) (by simp) (S A8 gens.length c8);have k0:((w1.setCell ⟨w.heap.size+1,0,N⟩ (S A5 E.length c5)).setCell ⟨w.heap.size+1,1,N⟩ (S A8 gens.length c8)).cell? ⟨w.heap.size+1,0,N⟩=O (S A5 E.length c5):=by
    exact Gb (by simp) (J0 t0)
   have k1:((w1.setCell ⟨w.heap.size+1,0,N⟩ (S A5 E.length c5)).setCell ⟨w.heap.size+1,1,N⟩ (S A8 gens.length c8)).cell? ⟨w.heap.size+1,1,N⟩=O (S A8 gens.length c8):=by
    exact J0 (Gb (by simp) t1)
   have l6:=he ⟨6,.data⟩ (by simp) R;have ll:∀j,j<7→L j=true:=fun j hj=>by
    rcases(by omega:j=0∨j=1∨j=2∨j=3∨j=4∨j=5∨j=6)with rfl|rfl|rfl|rfl|rfl|rfl|rfl
    ·exact M.d1 (M.d2 l2)
    ·exact M.d2 l2
    ·exact l2
    ·exact M.d4 (M.d5 l5)
    ·exact M.d5 l5
    ·exact l5
    ·exact l6
   refine⟨_,_,_,_,_,_,_,rfl,GL (by omega) f0,GL (by omega) f1,GL (by omega) o2,GL (by omega) f3,GL (by omega) f4,GL (by omega) o5,GL (by omega) (fun h=>⟨rfl,by rw[Fx (by omega)];exact l2,by rw[Fx (by omega)];exact l5⟩),fun _=>⟨k0,k1,fun j hj=>by rw[Fx (by omega)];exact ll j hj⟩,?_,M.upd 7 (by omega) (by omega) (by omega) (by omega)⟩;refine⟨(H.bel.setCell (p:=⟨w.heap.size+1,0,N⟩) (by simp) _).setCell (p:=⟨w.heap.size+1,1,N⟩) (by simp) _,by simpa using H.sz,?_,?_,by rw[k0];rfl,by rw[k1];rfl,fun i=>by simpa using H.f i⟩
   ·exact Gb (by simp) (Gb (by simp) r0)
   ·exact Gb (by simp) (Gb (by simp) r1)
 case fin =>
  rintro L ac w1⟨x3,x4,x5,x6,x7,x8,x9,rfl,f0,f1,Y,f3,f4,Z,J,f7,H,M⟩ V;have h5:=Y (V 2 (by decide));have h8:=Z (V 5 (by decide));obtain⟨c0,c1,_⟩:=f7 (V 7 (by decide));have HB:=H.bel;clear f0 f1 Y f3 f4 Z J f7 H V;refine hh _ _ ?_;go_wp2;refine AG (by simp[results,Tryz.results149,go_sem,c0,c1]<;>rfl) R ⟨x5,x8,rfl,h5,h8,HB⟩
end Go.Proofs.YtnbleebilmghcabGreat
namespace Go.Proofs.YtnbleebilmghcabGreat
open Go Go.RowKit
theorem QV{P:Program}(w:World)(b o:Nat)(h:TypeId)(v:Value)(F:w.there b o 1)(H:(P.info? h).map (·.size)=O 1)(J:v.oneCell'=true):
  (storeVar h ⟨b,o,N⟩ v).run P w=.ok () (w.setCell ⟨b,o,N⟩ v):=by
 have:=Ef (P:=P) b o [v] 0 w (fun j D=>by simpa using(F j (by simpa using D)).1) (fun j D=>by simpa using(F j (by simpa using D)).2) (fun u L=>by rw[BH]at L;rw[L];exact J);have M:v.cells=#[v]:=by cases v <;>first|rfl|cases J
 cases E:P.info? h with
 |none=>simp[E]at H
 |some i =>
  have U:i.size=1:=by simpa[E]using H
  simp only[Ay]at this;have e:w.setCells b o [v]=w.setCell ⟨b,o,N⟩ v:=rfl;rw[e]at this;simp[storeVar,sizeOf,typeInfo,E,M,U,this]
theorem FU{P:Program}{ops:Array Oper}{D:List Oper}{E:Oper}{a:Act}{w:World}{Q:Exit→Act→World→Prop}(F:E.guard=N)(H:TypeId)(x y:Operand)(J:E.op=.store H x y)
  (b o:Nat) (v:Value) (L:a.eval x=Ae (O ⟨b,o,N⟩)) (M:a.eval y=v) (U:v.oneCell'=true) (V:(P.info? H).map (·.size)=O 1) (Y:w.there b o 1)
  (h:∀W1,W1=w.setCell ⟨b,o,N⟩ v→wpList P ops Q D (a.put E.dst undef) W1):wpList P ops Q (E :: D) a w :=
 Do F fun _ Z=>by
  unfold Oper.wp execOp;simp only[J,L,M,Instr.storeAt,Instr.sureAddr,Db,Dp,CJ,QV w b o H v Y V U];exact Z _ _ (h _ R)
theorem As{P:Program}{ops:Array Oper}{E:List Oper}{F:Oper}{a:Act}{w:World}{Q:Exit→Act→World→Prop}(H:F.guard=N)(J:TypeId)(x y:Operand)(L:F.op=.store J x y)
  (b o:Nat) (D:List Value) (M:a.eval x=Ae (O ⟨b,o,N⟩)) (U:a.eval y=Af D.toArray) (V:∀u∈D,u.oneCell'=true) (Y:(P.info? J).map (·.size)=O D.length) (Z:w.there b o D.length)
  (h:∀W1,W1=w.setCells b o D→wpList P ops Q E (a.put F.dst undef) W1):wpList P ops Q (F :: E) a w :=
 wpList_store_mid H J x y L b o D.toArray M U (by simpa using Z) (by simpa using Y) (Em V) (h _ (by simp))
theorem Gx{w:World}{b o:Nat}{u:Value}(h:w.cell? ⟨b,o,N⟩=O u)(D:∀ i,w.frozen? ⟨b,i,N⟩=false):w.there b o 1:=fun j E=>by
 obtain rfl:j=0:=by omega
 exact⟨by rw[Ay,h];rfl,D _⟩
theorem Lb{b i j:Nat}(h:i≠j):(⟨b,i,N⟩:Addr)≠⟨b,j,N⟩:=fun e=>h (B8 Addr.off e)
theorem Nn{W:World}{b o:Nat}{x:D7}(h:Hb W b o x)(q:Int):Hb (W.setCell ⟨b,o+2,N⟩ (I K q)) b o ⟨x.ix,x.gen,q,x.v⟩:=
 ⟨Gb (by simp) h.c0,Gb (by simp) h.c1,J0 h.c2,fun k D=>Gb (Lb (by omega)) (h.v k D)⟩
theorem LS{W:World}{b o:Nat}{x:D7}(h:Hb W b o x)(k:Nat)(E:k<8)(n:Int):Hb (W.setCell ⟨b,o+3+k,N⟩ (I K n)) b o ⟨x.ix,x.gen,x.has,fun j=>if j=k then n else x.v j⟩:=
 ⟨Gb (Lb (by omega)) h.c0,Gb (Lb (by omega)) h.c1,Gb (Lb (by omega)) h.c2,fun j D=>by
  by_cases e:j=k
  ·subst e;simp only[BX];exact J0 (h.v j D)
  ·simp only[e,BG];exact Gb (Lb (by omega)) (h.v j D)⟩
theorem M5{W:World}{b E o i:Nat}{x:D7}{u:Value}(D:b≠E)(h:Hb W E o x):Hb (W.setCell ⟨b,i,N⟩ u) E o x :=
 ⟨Gb (by simp[D]) h.c0,Gb (by simp[D]) h.c1,Gb (by simp[D]) h.c2,fun j F=>Gb (by simp[D]) (h.v j F)⟩
theorem FZ{W:World}{b o:Nat}{vs:List Value}{p:Addr}(D:p.block≠b):(W.setCells b o vs).cell? p=W.cell? p:=E0 b vs o W p (fun h=>absurd h D)
theorem Jn{W:World}{b E o i:Nat}{x:D7}{vs:List Value}(D:E≠b)(h:Hb W E o x):Hb (W.setCells b i vs) E o x :=
 ⟨(FZ D).trans h.c0,(FZ D).trans h.c1,(FZ D).trans h.c2,fun j F=>(FZ D).trans (h.v j F)⟩
theorem Yb{W:World}{b o:Nat}(x:D7)(F:W.there b o 11):Hb (W.setCells b o (D' x)) b o x:=by
 refine(IW _ _ _ _).2 fun i u h=>?_;have D:i<(D' x).length:=by
  by_cases H:i<(D' x).length
  ·exact H
  ·rw[Bb (by omega)]at h;cases h
 rw[Cv b (D' x) o W (fun j E=>(F j (by rw[F2]at E;exact E)).1) i D,←h,AE D]
theorem F9(x:D7):∀u∈D' x,u.oneCell'=true:=fun u h=>by
 have:=Iz [x] u;unfold At at this;simpa using this (by simpa using h)
theorem LQ{W:World}{b o:Nat}{x:D7}(h:Hb W b o x)(D:∀ i,W.frozen? ⟨b,i,N⟩=false):W.there b o 11:=fun j E=>by
 have:=(IW _ _ _ _).1 h j ((D' x)[j]'(by rw[F2];exact E)) (AE _);exact⟨by rw[this];rfl,D _⟩
structure RB(w:World)(b c:Nat)(x y:D7)(W:World):Prop where
 bel:Below w.heap.size w W
 lo:w.heap.size≤b
 lc:w.heap.size≤c
 ne:b≠c
 r:Hb W b 0 x
 s:Hb W c 0 y
 fr:∀i,W.frozen? ⟨b,i,N⟩=false
 fs:∀i,W.frozen? ⟨c,i,N⟩=false
theorem RB.below{w W W1:World}{b c:Nat}{x y:D7}(h:RB w b c x y W)(D:Below W.heap.size W W1):RB w b c x y W1 :=
 ⟨h.bel.trans (D.mono h.bel.size),h.lo,h.lc,h.ne,h.r.below D,h.s.below D,fun i=>(D.frozen (p:=⟨b,i,N⟩) (show b<W.heap.size from AL W ⟨b,0,N⟩ h.r.c0)).trans (h.fr i),fun i=>(D.frozen (p:=⟨c,i,N⟩) (show c<W.heap.size from AL W ⟨c,0,N⟩ h.s.c0)).trans (h.fs i)⟩
theorem RB.setHas{w W:World}{b c:Nat}{x y:D7}(h:RB w b c x y W)(q:Int):RB w b c ⟨x.ix,x.gen,q,x.v⟩ y (W.setCell ⟨b,2,N⟩ (I K q)):=
 ⟨h.bel.setCell (p:=⟨b,2,N⟩) h.lo _,h.lo,h.lc,h.ne,by have:=Nn h.r q;rwa[AT]at this,M5 h.ne h.s,fun i=>by simpa using h.fr i,fun i=>by simpa using h.fs i⟩
theorem RB.setV{w W:World}{b c:Nat}{x y:D7}(h:RB w b c x y W)(k:Nat)(D:k<8)(n:Int):RB w b c ⟨x.ix,x.gen,x.has,fun j=>if j=k then n else x.v j⟩ y (W.setCell ⟨b,3+k,N⟩ (I K n)):=
 ⟨h.bel.setCell (p:=⟨b,3+k,N⟩) h.lo _,h.lo,h.lc,h.ne,by have:=LS h.r k D n;rwa[AT]at this,M5 h.ne h.s,fun i=>by simpa using h.fr i,fun i=>by simpa using h.fs i⟩
theorem RB.give{w W:World}{b c:Nat}{x y:D7}(h:RB w b c x y W)(z:D7):RB w b c x z (W.setCells c 0 (D' z)):=
 ⟨Bv c h.lc (D' z) 0 W h.bel,h.lo,h.lc,h.ne,Jn h.ne h.r,Yb z (LQ h.s h.fs),fun i=>by rw[BP];exact h.fr i,fun i=>by rw[BP];exact h.fs i⟩
theorem Me(w:World)(x:D7)(t:TypeId):Hb (w.alloc (Al (D' x).toArray t)) w.heap.size 0 x∧∀i,(w.alloc (Al (D' x).toArray t)).frozen? ⟨w.heap.size,i,N⟩=false:=by
 refine⟨(IW _ _ _ _).2 fun i u h=>?_,fun i=>by simp[go_sem]⟩;rw[AT];simp[h]
theorem RB.start(w:World)(x y:D7):RB w w.heap.size (w.heap.size+1) x y ((w.alloc (Al (D' x).toArray 116)).alloc (Al (D' y).toArray 116)):=by
 obtain⟨F,H⟩:=Me w x 116;obtain⟨h,D⟩:=Me (w.alloc (Al (D' x).toArray 116)) y 116;have E:Below (w.alloc (Al (D' x).toArray 116)).heap.size (w.alloc (Al (D' x).toArray 116)) ((w.alloc (Al (D' x).toArray 116)).alloc (Al (D' y).toArray 116)):=Fv.alloc Fu _;have z:(w.alloc (Al (D' x).toArray 116)).heap.size=w.heap.size+1:=by simp
 refine⟨(Fv.alloc Fu _).alloc (by simp) _,AC _,by omega,by omega,F.below E,by rw[z]at h;exact h,fun i=>(E.frozen (p:=⟨w.heap.size,i,N⟩) (by simp)).trans (H i),fun i=>by rw[z]at D;exact D i⟩
end Go.Proofs.YtnbleebilmghcabGreat
