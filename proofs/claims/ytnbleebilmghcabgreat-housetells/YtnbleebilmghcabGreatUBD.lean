/- Bat7, HoG, Bat8 -/
import Derived.Shelf.Spec.SlicesGrow
import Derived.Test.YtnbleebilmghcabGreatUAC
import Derived.Test.YtnbleebilmghcabGreatUBA
set_option linter.all false
set_option maxRecDepth 8000
set_option maxHeartbeats 4000000
open Go.IntKind renaming i64→K
open Go.Value renaming slice→S
open Option renaming none→N,some→O
namespace Go.Proofs.YtnbleebilmghcabGreat
open Go Go.RowKit Go.WideMaps Go.Maps
attribute [local go_sem ↓] Go.wp_at_zero Go.wp_at_succ
def jr(p:Int):Nat→F':=fun _=>⟨4,p,0,1⟩
def ip(p q:Int)(g:Nat):GG:=⟨0,q,0,O ⟨g,0,N⟩,1,1,jr p⟩
def km(g0 g1 g2:Nat):Nat→GG:=fun j=>if j=0 then ip 0 1 g0 else if j=1 then ip 0 1 g1 else ip 1 2 g2
theorem w0:MA 0 1 0 (jr 0) 1=(0,0):=by decide +kernel
theorem w1:MA 0 2 0 (jr 1) 1=(0,0):=by decide +kernel
end Go.Proofs.YtnbleebilmghcabGreat
namespace Go.Proofs.YtnbleebilmghcabGreat
open Go Go.RowKit Go.WideMaps Go.Maps
set_option maxRecDepth 8000
section
variable {α:Type} {f:α→List Value} {k:Nat}
def It(f:α→List Value)(l:List α):List Value:=l.flatMap f
theorem PK(h:∀ x,(f x).length=k):∀l:List α,(It f l).length=l.length*k
 |[]=>by simp[It]
 |s :: l=>by
  have:=PK h l;simp only[It,BM,AV,h,AJ]at *;rw[this,EH,EG,Nat.add_comm]
theorem RN(l:List α)(x:α):It f (l++[x])=It f l++f x:=by simp[It]
theorem PM(h:∀ x,(f x).length=k):∀(l:List α) (j i:Nat),i<k→(It f l)[j*k+i]?=(l[j]?).bind (fun s=>(f s)[i]?)
 |[],j,i,_=>by simp[It]
 |s :: l,0,i,hi=>by
  rw[E7,AT];show(f s++It f l)[i]?=_;rw[BF (by rw[h];exact hi)];rfl
 |s :: l,j+1,i,hi=>by
  show(f s++It f l)[(j+1)*k+i]?=_;rw[EH,EG];rw[BI (by rw[h];omega),h,show j*k+k+i - k=j*k+i by omega,PM h l j i hi];simp
def L7(f:α→List Value)(k:Nat)(w:World)(A:Option Addr)(l:List α):Prop:=∀j x,l[j]?=O x→∃b off,A=O ⟨b,off,N⟩∧∀i u,(f x)[i]?=O u→w.cell? ⟨b,off+j*k+i,N⟩=O u
theorem L7.below{w w1:World}{A:Option Addr}{l:List α}(h:L7 f k w A l)(E:Below w.heap.size w w1):L7 f k w1 A l:=fun j x F=>by
 obtain⟨b,D,h0,H⟩:=h j x F;exact⟨b,D,h0,fun i u J=>AW E (H i u J)⟩
theorem L7.copies{w:World}{A:Option Addr}{l:List α}(F:∀ x,(f x).length=k)(Y:∀ x,∀ u∈f x,u.oneCell'=true)(J:0<k)(h:L7 f k w A l):Rl w A l.length k (It f l):=by
 refine⟨PK F l,fun u E=>?_,?_⟩
 ·obtain⟨x,_,Z⟩:=C1.1 E;exact Y x u Z
 ·by_cases h0:l.length=0
  ·exact .inl h0
  ·right;obtain⟨b,H,L,_⟩:=h 0 l[0] (AE (by omega));refine⟨⟨b,H,N⟩,L,fun j u E=>?_⟩;have M:j<(It f l).length:=(AX.1 E).1;rw[PK F]at M;have U:j / k<l.length:=(Nat.div_lt_iff_lt_mul J).2 M;have hm:j % k<k:=Nat.mod_lt _ J;have e:j=j / k*k+j % k:=(Nat.div_add_mod' j k).symm;obtain⟨b',V,D,hc⟩:=h (j / k) l[j / k] (AE U);rw[L]at D;injection D with D;injection D with e1 e2;subst e1;subst e2;rw[e,PM F l _ _ hm,AE U]at E;have:=hc (j % k) u E;rw[CT,e,←Bt];exact this
theorem L7.own{w:World}{A:Option Addr}{l:List α}{D e c:Nat}(F:∀ x,(f x).length=k)(h:w.ownsRow D e k (S A l.length c) l.length (It f l)):L7 f k w A l:=fun j x H=>by
 have U:j<l.length:=(AX.1 H).1;obtain⟨g,L,E,_,_⟩:=Gi h (by omega);injection E with E V Y;subst E;refine⟨g,0,rfl,fun i u J=>?_⟩;have M:i<k:=by rw[←F x];exact(AX.1 J).1
 rw[AT];exact F4 h (by rw[PM F l j i M,H];exact J)
end
structure Tw(av:Nat→Prop)(W W':World):Prop where
 os:W'.os=W.os
 tape:W'.tape=W.tape
 output:W'.output=W.output
 size:W.heap.size≤W'.heap.size
 block:∀k,k<W.heap.size→¬ av k→W'.heap[k]?=W.heap[k]?
section
variable {av av':Nat→Prop} {W W1 W2:World}
theorem Tw.refl(av:Nat→Prop)(W:World):Tw av W W:=⟨rfl,rfl,rfl,AC _,fun _ _ _=>rfl⟩
theorem Tw.of_below(h:Below W.heap.size W W1):Tw av W W1:=⟨h.os,h.tape,h.output,h.size,fun k D _=>h.block k D⟩
theorem Tw.of_grown{g:Option Nat}(h:W.grownBy W1 g)(D:∀ k,g=O k→av k):Tw av W W1:=⟨h.os,h.tape,h.output,h.size,fun k E F=>h.block k E (fun e=>F (D k e.symm))⟩
theorem Tw.trans(h:Tw av W W1)(D:Tw av' W1 W2)(H:∀ k,k<W.heap.size→av' k→av k):Tw av W W2 :=
 ⟨D.os.trans h.os,D.tape.trans h.tape,D.output.trans h.output,AU h.size D.size,fun k E F=>(D.block k (Bs E h.size) (fun e=>F (H k E e))).trans (h.block k E F)⟩
theorem Tw.mono(h:Tw av W W1)(E:∀ k,k<W.heap.size→av k→av' k):Tw av' W W1:=⟨h.os,h.tape,h.output,h.size,fun k D F=>h.block k D (fun e=>F (E k D e))⟩
theorem Tw.below(h:Tw av W W1){B:Nat}(F:B≤W.heap.size)(D:∀ k,k<B→¬ av k):Below B W W1:=⟨h.os,h.tape,h.output,h.size,fun k E=>h.block k (by omega) (D k E)⟩
theorem Tw.sets{b o:Nat}{vs:List Value}(h:Tw av W W1)(D:av b∨W.heap.size≤b):Tw av W (W1.setCells b o vs):=by
 have h0:=Bv (B:=0) b Fw vs o W1 (AD 0 W1);refine⟨h0.os.trans h.os,h0.tape.trans h.tape,h0.output.trans h.output,AU h.size h0.size,fun k F E=>?_⟩;rw[J9 b vs o W1 k (fun e=>by
  subst e;rcases D with D|D
  ·exact E D
  ·omega)]
 exact h.block k F E
end
def ID(Q:World→Prop)(av:Nat→Prop)(W:World):Prop:=∃K:Nat→Prop,(∀g,K g→g<W.heap.size∧¬ av g)∧∀W':World,(∀g,K g→W'.heap[g]?=W.heap[g]?)→Q W'
section
variable {Q R:World→Prop} {av av':Nat→Prop} {W W1:World}
theorem ID.here(h:ID Q av W):Q W:=by
 obtain⟨K,_,D⟩:=h;exact D W fun _ _=>rfl
theorem ID.keep(h:ID Q av W)(F:Tw av W W1):ID Q av W1:=by
 obtain⟨K,E,H⟩:=h;exact⟨K,fun g D=>⟨Bs (E g D).1 F.size,(E g D).2⟩,fun W' J=>H W' fun g D=>(J g D).trans (F.block g (E g D).1 (E g D).2)⟩
theorem ID.less(h:ID Q av W)(F:∀ g,g<W.heap.size→av' g→av g):ID Q av' W:=by
 obtain⟨K,D,H⟩:=h;exact⟨K,fun g E=>⟨(D g E).1,fun e=>(D g E).2 (F g (D g E).1 e)⟩,H⟩
theorem ID.and(h:ID Q av W)(J:ID R av W):ID (fun W=>Q W∧R W) av W:=by
 obtain⟨K,L,M⟩:=h;obtain⟨U,E,F⟩:=J;exact⟨fun g=>K g∨U g,fun g D=>D.elim (L g) (E g),fun W' H=>⟨M W' fun g D=>H g (.inl D),F W' fun g D=>H g (.inr D)⟩⟩
theorem ID.imp(h:ID Q av W)(D:∀ W,Q W→R W):ID R av W:=by
 obtain⟨K,E,F⟩:=h;exact⟨K,E,fun W' H=>D W' (F W' H)⟩
theorem ID.triv(h:∀ W,Q W):ID Q av W:=⟨fun _=>False,fun g D=>D.elim,fun W' _=>h W'⟩
theorem ID.new{D:Nat}(h:∀ W':World,(∀ g,D≤g→g<W.heap.size→W'.heap[g]?=W.heap[g]?)→Q W')(F:∀ g,D≤g→g<W.heap.size→¬ av g):ID Q av W :=
 ⟨fun g=>D≤g∧g<W.heap.size,fun g E=>⟨E.2,F g E.1 E.2⟩,fun W' H=>h W' fun g J L=>H g ⟨J,L⟩⟩
theorem ID.own{D e E n:Nat}{v:Value}{M:List Value}(h:W.ownsRow D e E v n M)(U:∀ g,v.ownBlock=O g→¬ av g):ID (fun W=>W.ownsRow D e E v n M) av W:=by
 refine⟨fun g=>v.ownBlock=O g,fun g H=>⟨(h.lt g H).2,U g H⟩,fun W' V=>?_⟩;obtain⟨Y,h⟩:=h;refine⟨Y,?_⟩;rcases h with h|⟨g,J,L,rfl,Z,H,F⟩
 ·exact .inl h
 ·exact .inr ⟨g,J,L,rfl,Z,(V g R).trans H,F⟩
end
theorem Iu{av:Nat→Prop}{W W1:World}{D e E n:Nat}{v:Value}{F:List Value}(h:W.ownsRow D e E v n F)(H:Tw av W W1)(J:∀ g,v.ownBlock=O g→¬ av g):W1.ownsRow D e E v n F:=((ID.own (av:=av) h J).keep H).here
theorem GJ.tw{av:Nat→Prop}{W W1:World}{B:Nat}{l:List (List Value×TypeId)}(h:GJ B l W)(E:Tw av W W1)(F:∀ k,k<l.length→¬ av (B+k)):GJ B l W1:=fun k vs t D=>by
 have H:k<l.length:=(AX.1 D).1;exact(E.block (B+k) (h.lt D) (F k H)).trans (h k vs t D)
theorem U0:∀(B:List (List Nat)) (a x:Nat),a<B.length→(B.set a (B.getD a []++[x])).flatten.Perm (B.flatten++[x])
 |[],a,_,h=>by simp at h
 |l :: r,0,x,_=>by
  simp only[Eu,Bf,D2,BJ];exact Ff l Fc
 |l :: r,a+1,x,h=>by
  have:=U0 r a x (by simpa using h);simp only[Ev,Be,D2,BJ];exact Ff l this
theorem Yn(B:List (List Nat))(a x:Nat)(h:a≤B.length):(M8 B a x).flatten.Perm (B.flatten++[x]):=by
 unfold M8;by_cases e:a=B.length
 ·rw[AF e,DR];simp
 ·rw[AA e];exact U0 B a x (by omega)
theorem NE(cl:Nat→Nat→Bool):∀n,(IM cl n).flatten.Perm (List.range n)
 |0=>by simp[IM]
 |n+1=>by
  have h:=Yn (IM cl n) (I3 cl n) n (PQ _ _ _);rw[CY];exact h.trans (List.Perm.append_right [n] (NE cl n))
end Go.Proofs.YtnbleebilmghcabGreat
