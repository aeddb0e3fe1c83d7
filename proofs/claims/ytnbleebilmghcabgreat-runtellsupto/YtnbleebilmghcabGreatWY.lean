/- Rn0, RnPure, RnAmt, RnAct, RnTurn, RnOn -/
import Derived.Test.YtnbleebilmghcabGreatWC
import Derived.Test.YtnbleebilmghcabGreatWG
import Derived.Test.YtnbleebilmghcabGreatWH
set_option linter.all false
namespace Go.Proofs.YtnbleebilmghcabGreat
open Go Go.RowKit
def zCj (X:Wd) (i g p:Int):Int×Bool:=zNP (fun j=>X.rows.getD j dR) X.rows.length i g p
def zGW (X:Wd) (i g:Int) (y:ActI):Int:=if y.k=2 then (zCj X i g y.f).1 else if y.k=3 then IntKind.i64.wrap ((zCj X i g y.p).1+(zCj X i g y.f).1) else if y.k=4 then IntKind.i64.wrap ((zCj X i g y.p).1+y.n) else y.n
def zBw (X:Wd) (i g:Int) (y:ActI):Int×Wd:=if y.k=6 then zAn X i g else if y.k=7 then ((zw X y.p y.n).1,(zw X y.p y.n).2.2) else if y.k=5 then (if (zCj X i g y.p).2=true then zAf X i g y.p else (0,X)) else zDF X i g y.p (zBv (zGW X i g y))
def zAW (i g:Int) (a:Nat→ActI):Nat→Nat→Wd→Int×Wd
 | 0,_,X=>(0,X)
 | n+1,j,X=>if (zBw X i g (a j)).1≠0 then ((zBw X i g (a j)).1,emptyW) else if (a j).k=6 then (0,(zBw X i g (a j)).2) else zAW i g a n (j+1) (zBw X i g (a j)).2
def zBa (a:Nat→ActI) (len:Nat):List (Int×Int)→Wd→Int×Wd
 | [],X=>(0,X)
 | b :: l,X=>if (zAW b.1 b.2 a len 0 X).1≠0 then ((zAW b.1 b.2 a len 0 X).1,emptyW) else zBa a len l (zAW b.1 b.2 a len 0 X).2
def zIP (X:Wd) (m al no:Int) (a:Nat→ActI) (len:Nat):Int×Wd:=if (wrF m al no a len).1≠0 then ((wrF m al no a len).1,emptyW) else zBa a len (zCv X al no X.rows.length) X
theorem zOz {X:Wd} {i g:Int} {y:ActI} (h:(zBw X i g y).1≠0):(zBw X i g y).2=emptyW:=by
 unfold zBw at h ⊢
 split
 ·rename_i e;rw [if_pos e] at h;exact zNx h
 ·rename_i e;rw [if_neg e] at h
  split
  ·rename_i e;rw [if_pos e] at h;exact zME h
  ·rename_i e;rw [if_neg e] at h
   split
   ·rename_i e;rw [if_pos e] at h
    split
    ·rename_i e;rw [if_pos e] at h;exact zOs h
    ·rename_i e;rw [if_neg e] at h;exact absurd rfl h
   ·rename_i e;rw [if_neg e] at h;exact zOs h
theorem zCR {X:Wd} (hr:RightW X) {i g:Int} {y:ActI} (h:(zBw X i g y).1=0):RightW (zBw X i g y).2:=by
 unfold zBw at h ⊢
 split
 ·rename_i e;rw [if_pos e] at h;exact (zFg h).1
 ·rename_i e;rw [if_neg e] at h
  split
  ·rename_i e;rw [if_pos e] at h;exact (zDX h 0 0).1
  ·rename_i e;rw [if_neg e] at h
   split
   ·rename_i e;rw [if_pos e] at h
    split
    ·rename_i e;rw [if_pos e] at h;exact (zFn h).1
    ·exact hr
   ·rename_i e;rw [if_neg e] at h;exact (zGr h).1
theorem zJz (i g:Int) (a:Nat→ActI):∀ n j X,(zAW i g a n j X).1≠0→(zAW i g a n j X).2=emptyW
 | 0,_,X,h=>absurd rfl h
 | n+1,j,X,h=>by
  unfold zAW at h ⊢
  split
  ·rfl
  ·rename_i e;rw [if_neg e] at h
   split
   ·rename_i e;rw [if_pos e] at h;exact absurd rfl h
   ·rename_i e;rw [if_neg e] at h;exact zJz i g a n (j+1) _ h
theorem zEE (i g:Int) (a:Nat→ActI):∀ n j X,RightW X→(zAW i g a n j X).1=0→RightW (zAW i g a n j X).2
 | 0,_,X,hr,h=>hr
 | n+1,j,X,hr,h=>by
  unfold zAW at h ⊢
  by_cases e:(zBw X i g (a j)).1=0
  ·rw [if_neg (by simpa using e)] at h ⊢
   split
   ·exact zCR hr e
   ·rename_i e2;rw [if_neg e2] at h;exact zEE i g a n (j+1) _ (zCR hr e) h
  ·rw [if_pos e] at h;exact absurd h e
theorem zIO (a:Nat→ActI) (len:Nat):∀ l X,(zBa a len l X).1≠0→(zBa a len l X).2=emptyW
 | [],X,h=>absurd rfl h
 | b :: l,X,h=>by
  unfold zBa at h ⊢
  split
  ·rfl
  ·rename_i e;rw [if_neg e] at h;exact zIO a len l _ h
theorem zEm (a:Nat→ActI) (len:Nat):∀ l X,RightW X→(zBa a len l X).1=0→RightW (zBa a len l X).2
 | [],X,hr,h=>hr
 | b :: l,X,hr,h=>by
  unfold zBa at h ⊢
  by_cases e:(zAW b.1 b.2 a len 0 X).1=0
  ·rw [if_neg (by simpa using e)] at h ⊢
   exact zEm a len l _ (zEE _ _ _ _ _ _ hr e) h
  ·rw [if_pos e] at h;exact absurd h e
theorem zKN {X:Wd} {m al no:Int} {a:Nat→ActI} {len:Nat} (h:(zIP X m al no a len).1≠0):(zIP X m al no a len).2=emptyW:=by
 unfold zIP at h ⊢
 split
 ·rfl
 ·rename_i e;rw [if_neg e] at h;exact zIO a len _ _ h
theorem zGk {X:Wd} (hr:RightW X) {m al no:Int} {a:Nat→ActI} {len:Nat} (h:(zIP X m al no a len).1=0):RightW (zIP X m al no a len).2:=by
 unfold zIP at h ⊢
 by_cases e:(wrF m al no a len).1=0
 ·rw [if_neg (by simpa using e)] at h ⊢;exact zEm a len _ _ hr h
 ·rw [if_pos e] at h;exact absurd h e
def Blk (A G:Option Addr) (X:Wd) (b:Nat):Prop:=(0<X.rows.length∧∃ o,A=some ⟨b,o,none⟩)∨(0<X.gens.length∧∃ o,G=some ⟨b,o,none⟩)
theorem zCG {W:World} {A:Option Addr} {c:Nat} {G:Option Addr} {gc:Nat} {X:Wd} (h:WldAt W A c G gc X) {b:Nat} (hb:Blk A G X b):b<W.heap.size:=by
 rcases hb with ⟨hl,o,e⟩ | ⟨hl,o,e⟩
 ·obtain ⟨b',o',e',hr⟩:=h.rows 0 hl
  rw [e] at e'
  simp only [Option.some.injEq,Addr.mk.injEq,and_true] at e'
  rw [e'.1]
  exact World.block_lt_of_cell? W _ hr.c0
 ·obtain ⟨b',o',e',hr⟩:=h.gens 0 hl
  rw [e] at e'
  simp only [Option.some.injEq,Addr.mk.injEq,and_true] at e'
  rw [e'.1]
  exact World.block_lt_of_cell? W _ hr
theorem zHK {B:Nat} {W:World} {A:Option Addr} {c:Nat} {G:Option Addr} {gc:Nat} {X:Wd} (h:WldNew B W A c G gc X) {b:Nat} (hb:Blk A G X b):B≤b:=by
 rcases hb with ⟨_,o,e⟩ | ⟨_,o,e⟩
 ·exact h.fa b o e
 ·exact h.fg b o e
theorem zDh {W:World} {A:Option Addr} {c:Nat} {G:Option Addr} {gc:Nat} {X:Wd} (h:WldAt W A c G gc X) {b o:Nat} {vs:List Value} (hb:¬ Blk A G X b):WldAt (W.setCells b o vs) A c G gc X:=by
 refine ⟨fun j hj=>?_,fun j hj=>?_⟩
 ·obtain ⟨b',off,e,hr⟩:=h.rows j hj
  exact ⟨b',off,e,zCD (fun e'=>hb (.inl ⟨by omega,off,by rw [e,e']⟩)) hr⟩
 ·obtain ⟨b',off,e,hr⟩:=h.gens j hj
  exact ⟨b',off,e,(zW (fun e'=>hb (.inr ⟨by omega,off,by rw [e];simpa using e'⟩))).trans hr⟩
structure WF (B:Nat) (A G:Option Addr) (X:Wd) (W:World) (A':Option Addr) (c':Nat) (G':Option Addr) (gc':Nat) (Y:Wd):Prop where
 at_:WldAt W A' c' G' gc' Y
 blk:∀ b,Blk A' G' Y b→Blk A G X b∨B≤b
section
variable {B:Nat} {A G:Option Addr} {X:Wd} {W W1:World} {A':Option Addr} {c':Nat} {G':Option Addr} {gc':Nat} {Y:Wd}
theorem WF.below (h:WF B A G X W A' c' G' gc' Y) (hb:Below W.heap.size W W1):WF B A G X W1 A' c' G' gc' Y:=⟨h.at_.below hb,h.blk⟩
theorem WF.refl (h:WldAt W A c' G gc' X):WF B A G X W A c' G gc' X:=⟨h,fun _ hb=>.inl hb⟩
theorem WF.new (h:WldNew B W A' c' G' gc' Y):WF B A G X W A' c' G' gc' Y:=⟨h.toWldAt,fun _ hb=>.inr (zHK h hb)⟩
theorem WF.le (h:WF B A G X W A' c' G' gc' Y) {B':Nat} (hb:B'≤B):WF B' A G X W A' c' G' gc' Y:=⟨h.at_,fun b hb'=>(h.blk b hb').imp id (fun h=>Nat.le_trans hb h)⟩
theorem WF.puts (h:WF B A G X W A' c' G' gc' Y) {b o:Nat} {vs:List Value} (h1:¬ Blk A G X b) (h2:b<B):WF B A G X (W.setCells b o vs) A' c' G' gc' Y :=
 ⟨zDh h.at_ (fun hb=>(h.blk b hb).elim h1 (fun h=>by omega)),h.blk⟩
theorem WF.trans {A2:Option Addr} {c2:Nat} {G2:Option Addr} {gc2:Nat} {Z:Wd} {B2:Nat} (h:WF B A G X W A' c' G' gc' Y) (h2:WF B2 A' G' Y W1 A2 c2 G2 gc2 Z) (hB:B≤B2):WF B A G X W1 A2 c2 G2 gc2 Z :=
 ⟨h2.at_,fun b hb=>(h2.blk b hb).elim (fun h'=>h.blk b h') (fun h'=>.inr (Nat.le_trans hB h'))⟩
end
theorem zLj {b:Nat} {A G:Option Addr}:¬ Blk A G emptyW b:=by
 rintro (⟨h,_⟩ | ⟨h,_⟩) <;> simp [emptyW] at h
theorem WF.empty {B:Nat} {A G:Option Addr} {X:Wd} (W:World) (A':Option Addr) (c':Nat) (G':Option Addr) (gc':Nat):WF B A G X W A' c' G' gc' emptyW :=
 ⟨⟨fun j hj=>by simp [emptyW] at hj,fun j hj=>by simp [emptyW] at hj⟩,fun b hb=>absurd hb zLj⟩
end Go.Proofs.YtnbleebilmghcabGreat
namespace Go.Proofs.YtnbleebilmghcabGreat
open Go Go.RowKit
theorem Keeps.refl' (X:Wd) (i g:Int):Keeps X X i g:=fun k hk hf=>⟨k,hk,hf,rfl⟩
theorem zFN {X:Wd} (hr:RightW X) {i g:Int} {y:ActI} (h:(zBw X i g y).1=0) (i' g':Int) (hne:(i',g')≠(i,g)):Keeps X (zBw X i g y).2 i' g':=by
 unfold zBw at h ⊢
 split
 ·rename_i e;rw [if_pos e] at h;exact (zFg h).2 i' g' hne
 ·rename_i e;rw [if_neg e] at h
  split
  ·rename_i e;rw [if_pos e] at h;exact (zDX h i' g').2
  ·rename_i e;rw [if_neg e] at h
   split
   ·rename_i e;rw [if_pos e] at h
    split
    ·rename_i e;rw [if_pos e] at h;exact (zFn h).2 i' g' hne
    ·exact Keeps.refl' _ _ _
   ·rename_i e;rw [if_neg e] at h;exact (zGr h).2 i' g' hne
theorem zMn {X:Wd} (hr:RightW X) {j:Nat} (hj:j<X.rows.length):zAN X (zR X j).ix (zR X j).gen=(j:Int):=zHt hr hj
def zPU (X:Wd) (i g:Int):Prop:=zAN X i g=-1∧∃ k:Nat,i=(k:Int)∧k<X.gens.length∧g≤X.gens.getD k 0
def zPO (X:Wd) (i g:Int) (y:ActI) (r:RowI):RowI:=if y.k=7 then r else if y.k=5 then (if (zCj X i g y.p).2=true then zDd r y.p else r) else zHh r y.p (zBv (zGW X i g y))
theorem zIN {X:Wd} (hr:RightW X) {k:Nat} (hk:k<X.rows.length) {i g:Int} (h1:(zR X k).ix=i) (h2:(zR X k).gen=g) {r:RowI} (hr':RightW ⟨X.rows.set k r,X.gens⟩) (e1:r.ix=i) (e2:r.gen=g):zAN ⟨X.rows.set k r,X.gens⟩ i g=(k:Int):=by
 have hk':k<(⟨X.rows.set k r,X.gens⟩:Wd).rows.length:=by simpa using hk
 have e:zR ⟨X.rows.set k r,X.gens⟩ k=r:=by rw [zCn X k r X.gens k hk,if_pos rfl]
 have:=zHt hr' hk'
 rw [e,e1,e2] at this
 exact this
theorem zMy {X:Wd} (hr:RightW X) {i g:Int} {y:ActI} (h:(zBw X i g y).1=0) {k:Nat} (hk:k<X.rows.length) (hf:zAN X i g=(k:Int)) :
  (y.k=6∧zPU (zBw X i g y).2 i g)∨(y.k≠6∧∃ j:Nat,j<(zBw X i g y).2.rows.length∧zAN (zBw X i g y).2 i g=(j:Int)∧zR (zBw X i g y).2 j=zPO X i g y (zR X k)):=by
 have hik:(zR X k).ix=i∧(zR X k).gen=g:=by
  rcases zAi X i g with e | ⟨k',_,e,h1,h2⟩
  ·omega
  ·have:k'=k:=by omega
   subst this;exact ⟨h1,h2⟩
 unfold zBw at h ⊢
 unfold zPO
 split
 ·rename_i e;rw [if_pos e] at h
  left
  refine ⟨e,?_⟩
  obtain ⟨_,k',hk',hf',h1,h2,e2⟩:=zFh h
  have:k'=k:=by omega
  subst this
  rw [e2]
  have hi0:=hr.i0 k' hk
  have hil:=hr.il k' hk
  have hge:=hr.ge k' hk
  rw [hik.1] at hi0 hil hge
  refine ⟨zLT fun j hj=>?_,i.toNat,by omega,by show i.toNat<X.gens.length;omega,by rw [hik.2] at hge;exact Int.le_of_eq hge⟩
  obtain ⟨t,ht,hne,e3⟩:=zJn X k' hk X.gens j hj
  rw [e3]
  rintro ⟨q1,q2⟩
  exact hne (hr.one ht hk (by rw [q1,hik.1]))
 ·rename_i e6;rw [if_neg e6] at h
  right
  refine ⟨e6,?_⟩
  split
  ·rename_i e;rw [if_pos e] at h
   obtain ⟨j,hj,h3,h4⟩:=(zDX h i g).2 k hk hf
   exact ⟨j,hj,h3,h4⟩
  ·rename_i e;rw [if_neg e] at h
   split
   ·rename_i e;rw [if_pos e] at h
    split
    ·rename_i e;rw [if_pos e] at h
     obtain ⟨_,k',hk',hf',h1,h2,_,e2,hr2⟩:=zHH h
     have:k'=k:=by omega
     subst this
     rw [e2] at hr2 ⊢
     exact ⟨k',by simpa using hk,zIN hr hk h1 h2 hr2 h1 h2,by rw [zCn X k' _ _ k' hk,if_pos rfl]⟩
    ·exact ⟨k,hk,hf,rfl⟩
   ·rename_i e;rw [if_neg e] at h
    obtain ⟨_,_,_,k',hk',hf',h1,h2,e2,hr2⟩:=zIT h
    have:k'=k:=by omega
    subst this
    rw [e2] at hr2 ⊢
    exact ⟨k',by simpa using hk,zIN hr hk h1 h2 hr2 h1 h2,by rw [zCn X k' _ _ k' hk,if_pos rfl]⟩
end Go.Proofs.YtnbleebilmghcabGreat
set_option maxHeartbeats 4000000
set_option maxRecDepth 8000
namespace Go.Proofs.YtnbleebilmghcabGreat
open Go Go.RowKit
attribute [local go_sem ↓] Go.wp_at_zero Go.wp_at_succ
theorem zIa (A:Option Addr) (cap:Nat) (G:Option Addr) (gcap:Nat) (X:Wd) (i g p:Int) (b:Nat) (w:World) (hn0:X.rows.length≤9223372036854775807) (hX:WldAt w A cap G gcap X) (h0:w.cell? ⟨b,0,none⟩=some (.slice A X.rows.length cap)) (h1:w.cell? ⟨b,1,none⟩=some (.slice G X.gens.length gcap)) (h2:w.cell? ⟨b+1,0,none⟩=some (.int .i64 i)) (h3:w.cell? ⟨b+1,1,none⟩=some (.int .i64 g)) :
  Calls Tryz.prog 153 #[.int .i64 p,.pointer (some ⟨b,0,none⟩),.pointer (some ⟨b+1,0,none⟩)] w fun e w'=>e=.returned (.int .i64 (zCj X i g p).1)∧Below w.heap.size w w':=by
 have hG:=zHs A X.rows.length cap G X.gens.length gcap (fun j=>X.rows.getD j dR) i g p w hn0 hX.rows
 rw [show zNP (fun j=>X.rows.getD j dR) X.rows.length i g p=zCj X i g p from rfl] at hG
 unfold zM zS at hG
 have HG:=zB hG
 clear hG hX
 go_enter Tryz.func153,Tryz.ntmps153
 go_wp2_with ((go_at_call 120;refine (zA HG).mono ?_;rintro e w1 ⟨rfl,hb1⟩;have HB1:=zB hb1;clear hb1))
 go_ret
 exact ⟨rfl,zA HB1⟩
theorem zDw (args:Array Value) (W:World):(callFunc 153 args).run Tryz.prog W=.ok (.enter 153 args) W:=by kernel_rfl
theorem zIC (A:Option Addr) (cap:Nat) (G:Option Addr) (gcap:Nat) (X:Wd) (i g:Int) (y:ActI) (w:World) (hn0:X.rows.length≤9223372036854775807) (hX:WldAt w A cap G gcap X) (hk:y.k=2) :
  Calls Tryz.prog 135 #[zi A cap G gcap X,zS i g,zBl y.k y.p y.f y.n] w fun e w'=>e=.returned (.int .i64 (zCj X i g y.f).1)∧Below w.heap.size w w':=by
 have hIS:=fun p W (hb:Below w.heap.size w W) (hB:Bxs w.heap.size [([.slice A X.rows.length cap,.slice G X.gens.length gcap],43),([.int .i64 i,.int .i64 g],61),([.int .i64 y.k,.int .i64 y.p,.int .i64 y.f,.int .i64 y.n],95)] W)=>zIa A cap G gcap X i g p w.heap.size W hn0 (hX.below hb) (hB.cell 0 rfl 0 rfl) (hB.cell 0 rfl 1 rfl) (hB.cell 1 rfl 0 rfl) (hB.cell 1 rfl 1 rfl)
 have hB0:=Bxs.start w [([.slice A X.rows.length cap,.slice G X.gens.length gcap],43),([.int .i64 i,.int .i64 g],61),([.int .i64 y.k,.int .i64 y.p,.int .i64 y.f,.int .i64 y.n],95)]
 have hb0:=allocs_below [([.slice A X.rows.length cap,.slice G X.gens.length gcap],43),([.int .i64 i,.int .i64 g],61),([.int .i64 y.k,.int .i64 y.p,.int .i64 y.f,.int .i64 y.n],95)] w
 obtain ⟨W0,hW0⟩:∃ W0,W0=zt w [([.slice A X.rows.length cap,.slice G X.gens.length gcap],43),([.int .i64 i,.int .i64 g],61),([.int .i64 y.k,.int .i64 y.p,.int .i64 y.f,.int .i64 y.n],95)]:=⟨_,rfl⟩
 rw [←hW0] at hB0 hb0
 have hW0':((w.alloc (.cells #[.slice A X.rows.length cap,.slice G X.gens.length gcap] 43)).alloc (.cells #[.int .i64 i,.int .i64 g] 61)).alloc (.cells #[.int .i64 y.k,.int .i64 y.p,.int .i64 y.f,.int .i64 y.n] 95)=W0:=hW0.symm
 have HIS:=zB hIS
 have HW0:=zB hW0'
 have HB0:=zB hB0
 have HL0:=zB hb0
 have a0:=hB0.cell 2 rfl 0 rfl
 have a1:=hB0.cell 2 rfl 1 rfl
 have a2:=hB0.cell 2 rfl 2 rfl
 have a3:=hB0.cell 2 rfl 3 rfl
 clear hIS hW0 hW0' hB0 hb0 hX
 unfold zi zM zS zBl
 have HK:=zB hk
 clear hk
 go_enter Tryz.func135,Tryz.ntmps135
 go_upto_region 1 with fail
 rw [zA HW0]
 have hk:=zA HK
 have hen:=zDw
 go_wp2_with fail
 refine (zA HIS y.f W0 (zA HL0) (zA HB0)).mono ?_
 rintro e w1 ⟨rfl,hb1⟩
 have HL1:=zB ((zA HL0).trans (hb1.mono (zA HL0).size))
 clear hb1 a0 a1 a2 a3
 go_wp2
 go_ret
 exact ⟨rfl,zA HL1⟩
theorem zJu (A:Option Addr) (cap:Nat) (G:Option Addr) (gcap:Nat) (X:Wd) (i g:Int) (y:ActI) (w:World) (hn0:X.rows.length≤9223372036854775807) (hX:WldAt w A cap G gcap X) (hk:y.k=3) :
  Calls Tryz.prog 135 #[zi A cap G gcap X,zS i g,zBl y.k y.p y.f y.n] w fun e w'=>e=.returned (.int .i64 (IntKind.i64.wrap ((zCj X i g y.p).1+(zCj X i g y.f).1)))∧Below w.heap.size w w':=by
 have hIS:=fun p W (hb:Below w.heap.size w W) (hB:Bxs w.heap.size [([.slice A X.rows.length cap,.slice G X.gens.length gcap],43),([.int .i64 i,.int .i64 g],61),([.int .i64 y.k,.int .i64 y.p,.int .i64 y.f,.int .i64 y.n],95)] W)=>zIa A cap G gcap X i g p w.heap.size W hn0 (hX.below hb) (hB.cell 0 rfl 0 rfl) (hB.cell 0 rfl 1 rfl) (hB.cell 1 rfl 0 rfl) (hB.cell 1 rfl 1 rfl)
 have hB0:=Bxs.start w [([.slice A X.rows.length cap,.slice G X.gens.length gcap],43),([.int .i64 i,.int .i64 g],61),([.int .i64 y.k,.int .i64 y.p,.int .i64 y.f,.int .i64 y.n],95)]
 have hb0:=allocs_below [([.slice A X.rows.length cap,.slice G X.gens.length gcap],43),([.int .i64 i,.int .i64 g],61),([.int .i64 y.k,.int .i64 y.p,.int .i64 y.f,.int .i64 y.n],95)] w
 obtain ⟨W0,hW0⟩:∃ W0,W0=zt w [([.slice A X.rows.length cap,.slice G X.gens.length gcap],43),([.int .i64 i,.int .i64 g],61),([.int .i64 y.k,.int .i64 y.p,.int .i64 y.f,.int .i64 y.n],95)]:=⟨_,rfl⟩
 rw [←hW0] at hB0 hb0
 have hW0':((w.alloc (.cells #[.slice A X.rows.length cap,.slice G X.gens.length gcap] 43)).alloc (.cells #[.int .i64 i,.int .i64 g] 61)).alloc (.cells #[.int .i64 y.k,.int .i64 y.p,.int .i64 y.f,.int .i64 y.n] 95)=W0:=hW0.symm
 have HIS:=zB hIS
 have HW0:=zB hW0'
 have HB0:=zB hB0
 have HL0:=zB hb0
 have a0:=hB0.cell 2 rfl 0 rfl
 have a1:=hB0.cell 2 rfl 1 rfl
 have a2:=hB0.cell 2 rfl 2 rfl
 have a3:=hB0.cell 2 rfl 3 rfl
 clear hIS hW0 hW0' hB0 hb0 hX
 unfold zi zM zS zBl
 have HK:=zB hk
 clear hk
 go_enter Tryz.func135,Tryz.ntmps135
 go_upto_region 1 with fail
 rw [zA HW0]
 have hk:=zA HK
 go_wp2_with fail
 have h0:Below W0.heap.size W0 W0.drew:=(Below.refl _ _).drew
 refine zd (fun (γ:Unit) ix v=>(([fun v=>v=.func (.func 153) #[] #[.pointer (some ⟨w.heap.size,0,none⟩),.pointer (some ⟨w.heap.size+1,0,none⟩)],fun v=>v=.pointer (some ⟨w.heap.size+2,1,none⟩),fun v=>v=.int .i64 y.p,fun v=>v=.int .i64 (zCj X i g y.p).1,fun v=>v=.func (.func 153) #[] #[.pointer (some ⟨w.heap.size,0,none⟩),.pointer (some ⟨w.heap.size+1,0,none⟩)],fun v=>v=.pointer (some ⟨w.heap.size+2,2,none⟩),fun v=>v=.int .i64 y.f,fun v=>v=.int .i64 (zCj X i g y.f).1,fun v=>v=.int .i64 (IntKind.i64.wrap ((zCj X i g y.p).1+(zCj X i g y.f).1)),fun v=>v=.int .i64 (IntKind.i64.wrap ((zCj X i g y.p).1+(zCj X i g y.f).1))]:List (Value→Prop)).getD ix (fun _=>True)) v) (fun (_:Unit) (_:Nat→Bool) W=>Below W0.heap.size W0 W) (()) (by kernel_rfl) (by kernel_rfl) (by kernel_rfl) h0 ?hstep ?hend
 case hstep =>
  intro γ ix o ho L ac w1 hD hL hed hcl hout hv
  match ix,ho with
  | 0,ho =>
   simp at ho
   subst ho
   have e7:ac.tmps.getD 7 undef=.func (.func 153) #[] #[.pointer (some ⟨w.heap.size,0,none⟩),.pointer (some ⟨w.heap.size+1,0,none⟩)]:=hout 7 (by decide +kernel)
   exact .inl ⟨rfl,zF γ _ (by simp [go_sem,Act.eval,-Array.getD_eq_getD_getElem?,e7]) rfl (hD) (fun _ _ _ _ h=>h)⟩
  | 1,ho =>
   simp at ho
   subst ho
   have e5:ac.tmps.getD 5 undef=.pointer (some ⟨w.heap.size+2,0,none⟩):=hout 5 (by decide +kernel)
   exact .inl ⟨rfl,zF γ _ (by simp [go_sem,Act.eval,-Array.getD_eq_getD_getElem?,e5]) rfl (hD) (fun _ _ _ _ h=>h)⟩
  | 2,ho =>
   simp at ho
   subst ho
   have e20:ac.tmps.getD 20 undef=_:=hv 1 20 rfl (by kernel_rfl)
   have bb:=(zA HB0).below hD
   have c0:=bb.cell 2 rfl 1 rfl
   exact .inl ⟨rfl,zF γ _ (by simp [go_sem,Act.eval,-Array.getD_eq_getD_getElem?,e20,c0]) rfl (hD) (fun _ _ _ _ h=>h)⟩
  | 3,ho =>
   simp at ho
   subst ho
   have e19:ac.tmps.getD 19 undef=_:=hv 0 19 rfl (by kernel_rfl)
   have e21:ac.tmps.getD 21 undef=_:=hv 2 21 rfl (by kernel_rfl)
   refine .inl ⟨rfl,zAQ 153 #[.int .i64 y.p,.pointer (some ⟨w.heap.size,0,none⟩),.pointer (some ⟨w.heap.size+1,0,none⟩)] (by simp [go_sem,Act.eval,-Array.getD_eq_getD_getElem?,zDw,e19,e21]) ?_⟩
   refine (zA HIS y.p w1 ((zA HL0).trans (hD.mono (zA HL0).size)) ((zA HB0).below hD)).mono ?_
   rintro e w6 ⟨rfl,hb6⟩
   exact ⟨_,γ,rfl,rfl,hD.trans (hb6.mono hD.size),fun _ _ _ _ h=>h⟩
  | 4,ho =>
   simp at ho
   subst ho
   have e7:ac.tmps.getD 7 undef=.func (.func 153) #[] #[.pointer (some ⟨w.heap.size,0,none⟩),.pointer (some ⟨w.heap.size+1,0,none⟩)]:=hout 7 (by decide +kernel)
   exact .inl ⟨rfl,zF γ _ (by simp [go_sem,Act.eval,-Array.getD_eq_getD_getElem?,e7]) rfl (hD) (fun _ _ _ _ h=>h)⟩
  | 5,ho =>
   simp at ho
   subst ho
   have e5:ac.tmps.getD 5 undef=.pointer (some ⟨w.heap.size+2,0,none⟩):=hout 5 (by decide +kernel)
   exact .inl ⟨rfl,zF γ _ (by simp [go_sem,Act.eval,-Array.getD_eq_getD_getElem?,e5]) rfl (hD) (fun _ _ _ _ h=>h)⟩
  | 6,ho =>
   simp at ho
   subst ho
   have e24:ac.tmps.getD 24 undef=_:=hv 5 24 rfl (by kernel_rfl)
   have bb:=(zA HB0).below hD
   have c0:=bb.cell 2 rfl 2 rfl
   exact .inl ⟨rfl,zF γ _ (by simp [go_sem,Act.eval,-Array.getD_eq_getD_getElem?,e24,c0]) rfl (hD) (fun _ _ _ _ h=>h)⟩
  | 7,ho =>
   simp at ho
   subst ho
   have e23:ac.tmps.getD 23 undef=_:=hv 4 23 rfl (by kernel_rfl)
   have e25:ac.tmps.getD 25 undef=_:=hv 6 25 rfl (by kernel_rfl)
   refine .inl ⟨rfl,zAQ 153 #[.int .i64 y.f,.pointer (some ⟨w.heap.size,0,none⟩),.pointer (some ⟨w.heap.size+1,0,none⟩)] (by simp [go_sem,Act.eval,-Array.getD_eq_getD_getElem?,zDw,e23,e25]) ?_⟩
   refine (zA HIS y.f w1 ((zA HL0).trans (hD.mono (zA HL0).size)) ((zA HB0).below hD)).mono ?_
   rintro e w6 ⟨rfl,hb6⟩
   exact ⟨_,γ,rfl,rfl,hD.trans (hb6.mono hD.size),fun _ _ _ _ h=>h⟩
  | 8,ho =>
   simp at ho
   subst ho
   have e22:ac.tmps.getD 22 undef=_:=hv 3 22 rfl (by kernel_rfl)
   have e26:ac.tmps.getD 26 undef=_:=hv 7 26 rfl (by kernel_rfl)
   exact .inl ⟨rfl,zF γ _ (by simp [go_sem,Act.eval,-Array.getD_eq_getD_getElem?,e22,e26]) rfl (hD) (fun _ _ _ _ h=>h)⟩
  | 9,ho =>
   simp at ho
   subst ho
   have e27:ac.tmps.getD 27 undef=_:=hv 8 27 rfl (by kernel_rfl)
   exact .inl ⟨rfl,zF γ _ (by simp [go_sem,Act.eval,-Array.getD_eq_getD_getElem?,e27]) rfl (hD) (fun _ _ _ _ h=>h)⟩
  | ix+10,ho=>simp at ho
 case hend =>
  intro γ v L w9 hD hall hv
  have vv:v 9=.int .i64 (IntKind.i64.wrap ((zCj X i g y.p).1+(zCj X i g y.f).1)):=hv 9 6 rfl
  have HD:=zB hD
  clear hv hall hD h0
  simp only [zu,List.getElem?_cons_zero,List.getElem?_cons_succ,Option.bind_some,List.length_cons,List.length_nil,Nat.reduceAdd,vv]
  clear vv
  go_frame
  go_wp2
  go_ret
  exact ⟨rfl,(zA HL0).trans ((zA HD).mono (zA HL0).size)⟩
theorem zIB (A:Option Addr) (cap:Nat) (G:Option Addr) (gcap:Nat) (X:Wd) (i g:Int) (y:ActI) (w:World) (hn0:X.rows.length≤9223372036854775807) (hX:WldAt w A cap G gcap X) (hk:y.k=4) :
  Calls Tryz.prog 135 #[zi A cap G gcap X,zS i g,zBl y.k y.p y.f y.n] w fun e w'=>e=.returned (.int .i64 (IntKind.i64.wrap ((zCj X i g y.p).1+y.n)))∧Below w.heap.size w w':=by
 have hIS:=fun p W (hb:Below w.heap.size w W) (hB:Bxs w.heap.size [([.slice A X.rows.length cap,.slice G X.gens.length gcap],43),([.int .i64 i,.int .i64 g],61),([.int .i64 y.k,.int .i64 y.p,.int .i64 y.f,.int .i64 y.n],95)] W)=>zIa A cap G gcap X i g p w.heap.size W hn0 (hX.below hb) (hB.cell 0 rfl 0 rfl) (hB.cell 0 rfl 1 rfl) (hB.cell 1 rfl 0 rfl) (hB.cell 1 rfl 1 rfl)
 have hB0:=Bxs.start w [([.slice A X.rows.length cap,.slice G X.gens.length gcap],43),([.int .i64 i,.int .i64 g],61),([.int .i64 y.k,.int .i64 y.p,.int .i64 y.f,.int .i64 y.n],95)]
 have hb0:=allocs_below [([.slice A X.rows.length cap,.slice G X.gens.length gcap],43),([.int .i64 i,.int .i64 g],61),([.int .i64 y.k,.int .i64 y.p,.int .i64 y.f,.int .i64 y.n],95)] w
 obtain ⟨W0,hW0⟩:∃ W0,W0=zt w [([.slice A X.rows.length cap,.slice G X.gens.length gcap],43),([.int .i64 i,.int .i64 g],61),([.int .i64 y.k,.int .i64 y.p,.int .i64 y.f,.int .i64 y.n],95)]:=⟨_,rfl⟩
 rw [←hW0] at hB0 hb0
 have hW0':((w.alloc (.cells #[.slice A X.rows.length cap,.slice G X.gens.length gcap] 43)).alloc (.cells #[.int .i64 i,.int .i64 g] 61)).alloc (.cells #[.int .i64 y.k,.int .i64 y.p,.int .i64 y.f,.int .i64 y.n] 95)=W0:=hW0.symm
 have HIS:=zB hIS
 have HW0:=zB hW0'
 have HB0:=zB hB0
 have HL0:=zB hb0
 have a0:=hB0.cell 2 rfl 0 rfl
 have a1:=hB0.cell 2 rfl 1 rfl
 have a2:=hB0.cell 2 rfl 2 rfl
 have a3:=hB0.cell 2 rfl 3 rfl
 clear hIS hW0 hW0' hB0 hb0 hX
 unfold zi zM zS zBl
 have HK:=zB hk
 clear hk
 go_enter Tryz.func135,Tryz.ntmps135
 go_upto_region 1 with fail
 rw [zA HW0]
 have hk:=zA HK
 go_wp2_with fail
 have h0:Below W0.heap.size W0 W0.drew:=(Below.refl _ _).drew
 refine zd (fun (γ:Unit) ix v=>(([fun v=>v=.func (.func 153) #[] #[.pointer (some ⟨w.heap.size,0,none⟩),.pointer (some ⟨w.heap.size+1,0,none⟩)],fun v=>v=.pointer (some ⟨w.heap.size+2,1,none⟩),fun v=>v=.int .i64 y.p,fun v=>v=.int .i64 (zCj X i g y.p).1,fun v=>v=.pointer (some ⟨w.heap.size+2,3,none⟩),fun v=>v=.int .i64 y.n,fun v=>v=.int .i64 (IntKind.i64.wrap ((zCj X i g y.p).1+y.n)),fun v=>v=.int .i64 (IntKind.i64.wrap ((zCj X i g y.p).1+y.n))]:List (Value→Prop)).getD ix (fun _=>True)) v) (fun (_:Unit) (_:Nat→Bool) W=>Below W0.heap.size W0 W) (()) (by kernel_rfl) (by kernel_rfl) (by kernel_rfl) h0 ?hstep ?hend
 case hstep =>
  intro γ ix o ho L ac w1 hD hL hed hcl hout hv
  match ix,ho with
  | 0,ho =>
   simp at ho
   subst ho
   have e7:ac.tmps.getD 7 undef=.func (.func 153) #[] #[.pointer (some ⟨w.heap.size,0,none⟩),.pointer (some ⟨w.heap.size+1,0,none⟩)]:=hout 7 (by decide +kernel)
   exact .inl ⟨rfl,zF γ _ (by simp [go_sem,Act.eval,-Array.getD_eq_getD_getElem?,e7]) rfl (hD) (fun _ _ _ _ h=>h)⟩
  | 1,ho =>
   simp at ho
   subst ho
   have e5:ac.tmps.getD 5 undef=.pointer (some ⟨w.heap.size+2,0,none⟩):=hout 5 (by decide +kernel)
   exact .inl ⟨rfl,zF γ _ (by simp [go_sem,Act.eval,-Array.getD_eq_getD_getElem?,e5]) rfl (hD) (fun _ _ _ _ h=>h)⟩
  | 2,ho =>
   simp at ho
   subst ho
   have e31:ac.tmps.getD 31 undef=_:=hv 1 31 rfl (by kernel_rfl)
   have bb:=(zA HB0).below hD
   have c0:=bb.cell 2 rfl 1 rfl
   exact .inl ⟨rfl,zF γ _ (by simp [go_sem,Act.eval,-Array.getD_eq_getD_getElem?,e31,c0]) rfl (hD) (fun _ _ _ _ h=>h)⟩
  | 3,ho =>
   simp at ho
   subst ho
   have e30:ac.tmps.getD 30 undef=_:=hv 0 30 rfl (by kernel_rfl)
   have e32:ac.tmps.getD 32 undef=_:=hv 2 32 rfl (by kernel_rfl)
   refine .inl ⟨rfl,zAQ 153 #[.int .i64 y.p,.pointer (some ⟨w.heap.size,0,none⟩),.pointer (some ⟨w.heap.size+1,0,none⟩)] (by simp [go_sem,Act.eval,-Array.getD_eq_getD_getElem?,zDw,e30,e32]) ?_⟩
   refine (zA HIS y.p w1 ((zA HL0).trans (hD.mono (zA HL0).size)) ((zA HB0).below hD)).mono ?_
   rintro e w6 ⟨rfl,hb6⟩
   exact ⟨_,γ,rfl,rfl,hD.trans (hb6.mono hD.size),fun _ _ _ _ h=>h⟩
  | 4,ho =>
   simp at ho
   subst ho
   have e5:ac.tmps.getD 5 undef=.pointer (some ⟨w.heap.size+2,0,none⟩):=hout 5 (by decide +kernel)
   exact .inl ⟨rfl,zF γ _ (by simp [go_sem,Act.eval,-Array.getD_eq_getD_getElem?,e5]) rfl (hD) (fun _ _ _ _ h=>h)⟩
  | 5,ho =>
   simp at ho
   subst ho
   have e34:ac.tmps.getD 34 undef=_:=hv 4 34 rfl (by kernel_rfl)
   have bb:=(zA HB0).below hD
   have c0:=bb.cell 2 rfl 3 rfl
   exact .inl ⟨rfl,zF γ _ (by simp [go_sem,Act.eval,-Array.getD_eq_getD_getElem?,e34,c0]) rfl (hD) (fun _ _ _ _ h=>h)⟩
  | 6,ho =>
   simp at ho
   subst ho
   have e33:ac.tmps.getD 33 undef=_:=hv 3 33 rfl (by kernel_rfl)
   have e35:ac.tmps.getD 35 undef=_:=hv 5 35 rfl (by kernel_rfl)
   exact .inl ⟨rfl,zF γ _ (by simp [go_sem,Act.eval,-Array.getD_eq_getD_getElem?,e33,e35]) rfl (hD) (fun _ _ _ _ h=>h)⟩
  | 7,ho =>
   simp at ho
   subst ho
   have e36:ac.tmps.getD 36 undef=_:=hv 6 36 rfl (by kernel_rfl)
   exact .inl ⟨rfl,zF γ _ (by simp [go_sem,Act.eval,-Array.getD_eq_getD_getElem?,e36]) rfl (hD) (fun _ _ _ _ h=>h)⟩
  | ix+8,ho=>simp at ho
 case hend =>
  intro γ v L w9 hD hall hv
  have vv:v 7=.int .i64 (IntKind.i64.wrap ((zCj X i g y.p).1+y.n)):=hv 7 6 rfl
  have HD:=zB hD
  clear hv hall hD h0
  simp only [zu,List.getElem?_cons_zero,List.getElem?_cons_succ,Option.bind_some,List.length_cons,List.length_nil,Nat.reduceAdd,vv]
  clear vv
  go_frame
  go_wp2
  go_ret
  exact ⟨rfl,(zA HL0).trans ((zA HD).mono (zA HL0).size)⟩
theorem zJs (A:Option Addr) (cap:Nat) (G:Option Addr) (gcap:Nat) (X:Wd) (i g:Int) (y:ActI) (w:World) (hn0:X.rows.length≤9223372036854775807) (hX:WldAt w A cap G gcap X) (h2:¬ y.k=2) (h3:¬ y.k=3) (h4:¬ y.k=4) :
  Calls Tryz.prog 135 #[zi A cap G gcap X,zS i g,zBl y.k y.p y.f y.n] w fun e w'=>e=.returned (.int .i64 y.n)∧Below w.heap.size w w':=by
 have hIS:=fun p W (hb:Below w.heap.size w W) (hB:Bxs w.heap.size [([.slice A X.rows.length cap,.slice G X.gens.length gcap],43),([.int .i64 i,.int .i64 g],61),([.int .i64 y.k,.int .i64 y.p,.int .i64 y.f,.int .i64 y.n],95)] W)=>zIa A cap G gcap X i g p w.heap.size W hn0 (hX.below hb) (hB.cell 0 rfl 0 rfl) (hB.cell 0 rfl 1 rfl) (hB.cell 1 rfl 0 rfl) (hB.cell 1 rfl 1 rfl)
 have hB0:=Bxs.start w [([.slice A X.rows.length cap,.slice G X.gens.length gcap],43),([.int .i64 i,.int .i64 g],61),([.int .i64 y.k,.int .i64 y.p,.int .i64 y.f,.int .i64 y.n],95)]
 have hb0:=allocs_below [([.slice A X.rows.length cap,.slice G X.gens.length gcap],43),([.int .i64 i,.int .i64 g],61),([.int .i64 y.k,.int .i64 y.p,.int .i64 y.f,.int .i64 y.n],95)] w
 obtain ⟨W0,hW0⟩:∃ W0,W0=zt w [([.slice A X.rows.length cap,.slice G X.gens.length gcap],43),([.int .i64 i,.int .i64 g],61),([.int .i64 y.k,.int .i64 y.p,.int .i64 y.f,.int .i64 y.n],95)]:=⟨_,rfl⟩
 rw [←hW0] at hB0 hb0
 have hW0':((w.alloc (.cells #[.slice A X.rows.length cap,.slice G X.gens.length gcap] 43)).alloc (.cells #[.int .i64 i,.int .i64 g] 61)).alloc (.cells #[.int .i64 y.k,.int .i64 y.p,.int .i64 y.f,.int .i64 y.n] 95)=W0:=hW0.symm
 have HIS:=zB hIS
 have HW0:=zB hW0'
 have HB0:=zB hB0
 have HL0:=zB hb0
 have a0:=hB0.cell 2 rfl 0 rfl
 have a1:=hB0.cell 2 rfl 1 rfl
 have a2:=hB0.cell 2 rfl 2 rfl
 have a3:=hB0.cell 2 rfl 3 rfl
 clear hIS hW0 hW0' hB0 hb0 hX
 unfold zi zM zS zBl
 go_enter Tryz.func135,Tryz.ntmps135
 go_upto_region 1 with fail
 rw [zA HW0]
 go_wp2
 go_ret
 exact ⟨rfl,zA HL0⟩
theorem zJt (A:Option Addr) (cap:Nat) (G:Option Addr) (gcap:Nat) (X:Wd) (i g:Int) (y:ActI) (w:World) (hn0:X.rows.length≤9223372036854775807) (hX:WldAt w A cap G gcap X) :
  Calls Tryz.prog 135 #[zi A cap G gcap X,zS i g,zBl y.k y.p y.f y.n] w fun e w'=>e=.returned (.int .i64 (zGW X i g y))∧Below w.heap.size w w':=by
 unfold zGW
 by_cases h2:y.k=2
 ·rw [if_pos h2];exact zIC A cap G gcap X i g y w hn0 hX h2
 ·rw [if_neg h2]
  by_cases h3:y.k=3
  ·rw [if_pos h3];exact zJu A cap G gcap X i g y w hn0 hX h3
  ·rw [if_neg h3]
   by_cases h4:y.k=4
   ·rw [if_pos h4];exact zIB A cap G gcap X i g y w hn0 hX h4
   ·rw [if_neg h4];exact zJs A cap G gcap X i g y w hn0 hX h2 h3 h4
end Go.Proofs.YtnbleebilmghcabGreat
set_option maxHeartbeats 4000000
set_option maxRecDepth 8000
namespace Go.Proofs.YtnbleebilmghcabGreat
open Go Go.RowKit
attribute [local go_sem ↓] Go.wp_at_zero Go.wp_at_succ
theorem zAc {B:Nat} {A G:Option Addr} {X:Wd} {W:World} {A':Option Addr} {c':Nat} {G':Option Addr} {gc':Nat} {Y:Wd} (h:WF B A G X W A' c' G' gc' Y) {w0 k o:Nat} {vs:List Value} (h1:∀ k,¬ Blk A G X (w0+k)) (h2:w0+k<B):WF B A G X (W.setCells (w0+k) o vs) A' c' G' gc' Y:=h.puts (h1 k) h2
theorem zKb (A:Option Addr) (cap:Nat) (G:Option Addr) (gcap:Nat) (X:Wd) (i g:Int) (p:Int) (w:World) (hn0:X.rows.length≤9223372036854775807) (hX:WldAt w A cap G gcap X) (hg:(zCj X i g p).2=false) :
  Calls Tryz.prog 133 #[zi A cap G gcap X,zS i g,.int .i64 p] w fun e w'=>e=.returned (.tuple #[zi A cap G gcap X,.int .i64 0])∧WldAt w' A cap G gcap X∧Below w.heap.size w w':=by
 have hB0:=Bxs.start w [([.slice A X.rows.length cap,.slice G X.gens.length gcap],43),([.int .i64 i,.int .i64 g],61),([.slice none 0 0,.slice none 0 0],43)]
 have hb0:=allocs_below [([.slice A X.rows.length cap,.slice G X.gens.length gcap],43),([.int .i64 i,.int .i64 g],61),([.slice none 0 0,.slice none 0 0],43)] w
 have hs0:=allocs_size [([.slice A X.rows.length cap,.slice G X.gens.length gcap],43),([.int .i64 i,.int .i64 g],61),([.slice none 0 0,.slice none 0 0],43)] w
 obtain ⟨W0,hW0⟩:∃ W0,W0=zt w [([.slice A X.rows.length cap,.slice G X.gens.length gcap],43),([.int .i64 i,.int .i64 g],61),([.slice none 0 0,.slice none 0 0],43)]:=⟨_,rfl⟩
 rw [←hW0] at hB0 hb0 hs0
 have hW0':((w.alloc (.cells #[.slice A X.rows.length cap,.slice G X.gens.length gcap] 43)).alloc (.cells #[.int .i64 i,.int .i64 g] 61)).alloc (.cells #[.slice none 0 0,.slice none 0 0] 43)=W0:=hW0.symm
 have HNB:Hid (∀ k,¬ Blk A G X (w.heap.size+k)):=zB (fun k hb=>by have:=zCG hX hb;omega)
 have HX0:=zB (hX.below hb0)
 have HS0:Hid (w.heap.size+3≤W0.heap.size):=zB (by rw [hs0];simp)
 have hGE:=zHs A X.rows.length cap G X.gens.length gcap (fun j=>X.rows.getD j dR) i g p W0 hn0 (hX.below hb0).rows
 rw [show zNP (fun j=>X.rows.getD j dR) X.rows.length i g p=zCj X i g p from rfl] at hGE
 unfold zM zS at hGE
 generalize (zCj X i g p).1=gv at *
 rw [hg] at hGE
 have HGE:=zB hGE
 clear hGE hg
 have HW0:=zB hW0'
 have HB0:=zB hB0
 have HL0:=zB hb0
 have w0:=hB0.cell 0 rfl 0 rfl
 have w1:=hB0.cell 0 rfl 1 rfl
 rw [Nat.add_zero] at w0 w1
 have b0:=hB0.cell 1 rfl 0 rfl
 have b1:=hB0.cell 1 rfl 1 rfl
 clear hW0 hW0' hB0 hb0 hX hs0
 unfold zi zM zS
 go_enter Tryz.func133,Tryz.ntmps133
 go_upto_region 1 with fail
 rw [zA HW0]
 go_wp2_with (first
  | (go_at_call 120;refine (zA HGE).mono ?_;rintro e w2 ⟨rfl,hb2⟩;have h2:=(zA HB0).below hb2;have x0:=h2.cell 0 rfl 0 rfl;have x1:=h2.cell 0 rfl 1 rfl;rw [Nat.add_zero] at x0 x1;have HB2:=zB h2;have HL2:=zB ((zA HL0).trans (hb2.mono (zA HL0).size));have HF2:Hid (WF (w.heap.size+3) A G X w2 A cap G gcap X):=zB (WF.refl ((zA HX0).below hb2));clear hb2 h2 w0 w1 b0 b1)
  | (refine zG rfl 43 (.tmp 6) (.tmp 19) rfl (w.heap.size+2) 0 [.slice A X.rows.length cap,.slice G X.gens.length gcap] rfl rfl (by simp [Value.oneCell']) size38 ((zA HB2).there 2 rfl 2 rfl) ?_;intro W3 hW;have q1:=(zA HB2).give 2 rfl [.slice A X.rows.length cap,.slice G X.gens.length gcap] rfl;have q3:=zI (w.heap.size+2) (by omega) [.slice A X.rows.length cap,.slice G X.gens.length gcap] 0 _ (zA HL2);have q4:=zAc (k:=2) (o:=0) (vs:=[.slice A X.rows.length cap,.slice G X.gens.length gcap]) (zA HF2) (zA HNB) (by omega);rw [←hW] at q1 q3 q4;have HB3:=zB q1;have HL3:=zB q3;have HF3:=zB q4;clear hW q1 q3 q4))
 have t0:=(zA HB3).cell 2 rfl 0 rfl
 have t1:=(zA HB3).cell 2 rfl 1 rfl
 refine bodyPost_ret (v:=.tuple #[.agg #[.slice A X.rows.length cap,.slice G X.gens.length gcap],.int .i64 0]) (by simp [results,Tryz.results133,go_sem,t0,t1]) rfl ⟨rfl,(zA HF3).at_,(zA HL3)⟩
theorem zJR (A:Option Addr) (cap:Nat) (G:Option Addr) (gcap:Nat) (X:Wd) (i g:Int) (p:Int) (w:World) (hn0:X.rows.length≤9223372036854775807) (hX:WldAt w A cap G gcap X) (hg:(zCj X i g p).2=true) :
  Calls Tryz.prog 133 #[zi A cap G gcap X,zS i g,.int .i64 p] w fun e w'=>∃ A' c' G' gc',e=.returned (.tuple #[zi A' c' G' gc' (zAf X i g p).2,.int .i64 (zAf X i g p).1])∧WF w.heap.size A G X w' A' c' G' gc' (zAf X i g p).2∧Below w.heap.size w w':=by
 have hDR:=fun W (hb:Below w.heap.size w W)=>zMo A cap G gcap X i g p W hn0 (hX.below hb)
 obtain ⟨Y,hY⟩:∃ Y,Y=(zAf X i g p).2:=⟨_,rfl⟩
 obtain ⟨err,herr⟩:∃ err,err=(zAf X i g p).1:=⟨_,rfl⟩
 rw [←hY,←herr] at hDR ⊢
 clear hY herr
 unfold zi zM zS at hDR
 have HDR:=zB hDR
 clear hDR
 have hB0:=Bxs.start w [([.slice A X.rows.length cap,.slice G X.gens.length gcap],43),([.int .i64 i,.int .i64 g],61),([.slice none 0 0,.slice none 0 0],43)]
 have hb0:=allocs_below [([.slice A X.rows.length cap,.slice G X.gens.length gcap],43),([.int .i64 i,.int .i64 g],61),([.slice none 0 0,.slice none 0 0],43)] w
 have hs0:=allocs_size [([.slice A X.rows.length cap,.slice G X.gens.length gcap],43),([.int .i64 i,.int .i64 g],61),([.slice none 0 0,.slice none 0 0],43)] w
 obtain ⟨W0,hW0⟩:∃ W0,W0=zt w [([.slice A X.rows.length cap,.slice G X.gens.length gcap],43),([.int .i64 i,.int .i64 g],61),([.slice none 0 0,.slice none 0 0],43)]:=⟨_,rfl⟩
 rw [←hW0] at hB0 hb0 hs0
 have hW0':((w.alloc (.cells #[.slice A X.rows.length cap,.slice G X.gens.length gcap] 43)).alloc (.cells #[.int .i64 i,.int .i64 g] 61)).alloc (.cells #[.slice none 0 0,.slice none 0 0] 43)=W0:=hW0.symm
 have HNB:Hid (∀ k,¬ Blk A G X (w.heap.size+k)):=zB (fun k hb=>by have:=zCG hX hb;omega)
 have HX0:=zB (hX.below hb0)
 have HS0:Hid (w.heap.size+3≤W0.heap.size):=zB (by rw [hs0];simp)
 have hGE:=zHs A X.rows.length cap G X.gens.length gcap (fun j=>X.rows.getD j dR) i g p W0 hn0 (hX.below hb0).rows
 rw [show zNP (fun j=>X.rows.getD j dR) X.rows.length i g p=zCj X i g p from rfl] at hGE
 unfold zM zS at hGE
 generalize (zCj X i g p).1=gv at *
 rw [hg] at hGE
 have HGE:=zB hGE
 clear hGE hg
 have HW0:=zB hW0'
 have HB0:=zB hB0
 have HL0:=zB hb0
 have w0:=hB0.cell 0 rfl 0 rfl
 have w1:=hB0.cell 0 rfl 1 rfl
 rw [Nat.add_zero] at w0 w1
 have b0:=hB0.cell 1 rfl 0 rfl
 have b1:=hB0.cell 1 rfl 1 rfl
 clear hW0 hW0' hB0 hb0 hX hs0
 unfold zi zM zS
 go_enter Tryz.func133,Tryz.ntmps133
 go_upto_region 1 with fail
 rw [zA HW0]
 go_wp2_with (first
  | (go_at_call 120;refine (zA HGE).mono ?_;rintro e w2 ⟨rfl,hb2⟩;have h2:=(zA HB0).below hb2;have x0:=h2.cell 0 rfl 0 rfl;have x1:=h2.cell 0 rfl 1 rfl;rw [Nat.add_zero] at x0 x1;have y0:=h2.cell 1 rfl 0 rfl;have y1:=h2.cell 1 rfl 1 rfl;have HB2:=zB h2;have HL2:=zB ((zA HL0).trans (hb2.mono (zA HL0).size));have HS2:Hid (w.heap.size+3≤w2.heap.size):=zB (Nat.le_trans (zA HS0) hb2.size);clear hb2 h2 w0 w1 b0 b1)
  | (go_at_call 115;refine (zA HDR _ (zA HL2)).mono ?_;rintro e w4 ⟨A4,c4,G4,gc4,rfl,hN4,hb4⟩;have HB4:=zB ((zA HB2).below hb4);have HL4:=zB ((zA HL2).trans (hb4.mono (zA HL2).size));have HF4:Hid (WF (w.heap.size+3) A G X w4 A4 c4 G4 gc4 Y):=zB ((WF.new hN4).le (zA HS2));clear hN4 hb4 x0 x1 y0 y1)
  | (refine zG rfl 43 (.tmp 6) (.tmp 24) rfl (w.heap.size+2) 0 [.slice A4 Y.rows.length c4,.slice G4 Y.gens.length gc4] rfl rfl (by simp [Value.oneCell']) size38 ((zA HB4).there 2 rfl 2 rfl) ?_;intro W5 hW;have q1:=(zA HB4).give 2 rfl [.slice A4 Y.rows.length c4,.slice G4 Y.gens.length gc4] rfl;have q3:=zI (w.heap.size+2) (by omega) [.slice A4 Y.rows.length c4,.slice G4 Y.gens.length gc4] 0 _ (zA HL4);have q4:=zAc (k:=2) (o:=0) (vs:=[.slice A4 Y.rows.length c4,.slice G4 Y.gens.length gc4]) (zA HF4) (zA HNB) (by omega);rw [←hW] at q1 q3 q4;have HB5:=zB q1;have HL5:=zB q3;have HF5:=zB q4;clear hW q1 q3 q4))
 have t0:=(zA HB5).cell 2 rfl 0 rfl
 have t1:=(zA HB5).cell 2 rfl 1 rfl
 refine bodyPost_ret (v:=.tuple #[.agg #[.slice A4 Y.rows.length c4,.slice G4 Y.gens.length gc4],.int .i64 err]) (by simp [results,Tryz.results133,go_sem,t0,t1]) rfl ⟨A4,c4,G4,gc4,rfl,(zA HF5).le (by omega),(zA HL5)⟩
theorem zMz (A:Option Addr) (cap:Nat) (G:Option Addr) (gcap:Nat) (X:Wd) (i g:Int) (y:ActI) (w:World) (hn0:X.rows.length≤9223372036854775807) (hX:WldAt w A cap G gcap X) (hk:y.k=6) :
  Calls Tryz.prog 96 #[zi A cap G gcap X,zS i g,zBl y.k y.p y.f y.n] w fun e w'=>∃ A' c' G' gc',e=.returned (.tuple #[zi A' c' G' gc' (zAn X i g).2,.int .i64 (zAn X i g).1])∧WF w.heap.size A G X w' A' c' G' gc' (zAn X i g).2∧Below w.heap.size w w':=by
 have hDR:=fun W (hb:Below w.heap.size w W)=>zMj A cap G gcap X i g W hn0 (hX.below hb)
 obtain ⟨Y,hY⟩:∃ Y,Y=(zAn X i g).2:=⟨_,rfl⟩
 obtain ⟨err,herr⟩:∃ err,err=(zAn X i g).1:=⟨_,rfl⟩
 rw [←hY,←herr] at hDR ⊢
 clear hY herr
 unfold zi zM zS at hDR
 have HDR:=zB hDR
 clear hDR
 have hB0:=Bxs.start w [([.slice A X.rows.length cap,.slice G X.gens.length gcap],43),([.int .i64 i,.int .i64 g],61),([.int .i64 y.k,.int .i64 y.p,.int .i64 y.f,.int .i64 y.n],95),([.slice none 0 0,.slice none 0 0],43)]
 have hb0:=allocs_below [([.slice A X.rows.length cap,.slice G X.gens.length gcap],43),([.int .i64 i,.int .i64 g],61),([.int .i64 y.k,.int .i64 y.p,.int .i64 y.f,.int .i64 y.n],95),([.slice none 0 0,.slice none 0 0],43)] w
 have hs0:=allocs_size [([.slice A X.rows.length cap,.slice G X.gens.length gcap],43),([.int .i64 i,.int .i64 g],61),([.int .i64 y.k,.int .i64 y.p,.int .i64 y.f,.int .i64 y.n],95),([.slice none 0 0,.slice none 0 0],43)] w
 obtain ⟨W0,hW0⟩:∃ W0,W0=zt w [([.slice A X.rows.length cap,.slice G X.gens.length gcap],43),([.int .i64 i,.int .i64 g],61),([.int .i64 y.k,.int .i64 y.p,.int .i64 y.f,.int .i64 y.n],95),([.slice none 0 0,.slice none 0 0],43)]:=⟨_,rfl⟩
 rw [←hW0] at hB0 hb0 hs0
 have hW0':(((w.alloc (.cells #[.slice A X.rows.length cap,.slice G X.gens.length gcap] 43)).alloc (.cells #[.int .i64 i,.int .i64 g] 61)).alloc (.cells #[.int .i64 y.k,.int .i64 y.p,.int .i64 y.f,.int .i64 y.n] 95)).alloc (.cells #[.slice none 0 0,.slice none 0 0] 43)=W0:=hW0.symm
 have HNB:Hid (∀ k,¬ Blk A G X (w.heap.size+k)):=zB (fun k hb=>by have:=zCG hX hb;omega)
 have HX0:=zB (hX.below hb0)
 have HS0:Hid (w.heap.size+4≤W0.heap.size):=zB (by rw [hs0];simp)
 have HW0:=zB hW0'
 have HB0:=zB hB0
 have HL0:=zB hb0
 have w0:=hB0.cell 0 rfl 0 rfl
 have w1:=hB0.cell 0 rfl 1 rfl
 rw [Nat.add_zero] at w0 w1
 have b0:=hB0.cell 1 rfl 0 rfl
 have b1:=hB0.cell 1 rfl 1 rfl
 have a0:=hB0.cell 2 rfl 0 rfl
 have a1:=hB0.cell 2 rfl 1 rfl
 have a2:=hB0.cell 2 rfl 2 rfl
 have a3:=hB0.cell 2 rfl 3 rfl
 clear hW0 hW0' hB0 hb0 hX hs0
 unfold zi zM zS  zBl
 have HK:=zB hk
 clear hk
 go_enter Tryz.func96,Tryz.ntmps96
 go_upto_region 1 with fail
 rw [zA HW0]
 have hk:=zA HK
 go_wp2_with (first
  | (go_at_call 111;refine (zA HDR _ (zA HL0)).mono ?_;rintro e w4 ⟨A4,c4,G4,gc4,rfl,hN4,hb4⟩;have HB4:=zB ((zA HB0).below hb4);have HL4:=zB ((zA HL0).trans (hb4.mono (zA HL0).size));have HF4:Hid (WF (w.heap.size+4) A G X w4 A4 c4 G4 gc4 Y):=zB ((WF.new hN4).le (zA HS0));clear hN4 hb4 w0 w1 b0 b1 a0 a1 a2 a3)
  | (refine zG rfl 43 (.tmp 6) (.tmp 18) rfl (w.heap.size+3) 0 [.slice A4 Y.rows.length c4,.slice G4 Y.gens.length gc4] rfl rfl (by simp [Value.oneCell']) size38 ((zA HB4).there 3 rfl 2 rfl) ?_;intro W5 hW;have q1:=(zA HB4).give 3 rfl [.slice A4 Y.rows.length c4,.slice G4 Y.gens.length gc4] rfl;have q3:=zI (w.heap.size+3) (by omega) [.slice A4 Y.rows.length c4,.slice G4 Y.gens.length gc4] 0 _ (zA HL4);have q4:=zAc (k:=3) (o:=0) (vs:=[.slice A4 Y.rows.length c4,.slice G4 Y.gens.length gc4]) (zA HF4) (zA HNB) (by omega);rw [←hW] at q1 q3 q4;have HB5:=zB q1;have HL5:=zB q3;have HF5:=zB q4;clear hW q1 q3 q4))
 have t0:=(zA HB5).cell 3 rfl 0 rfl
 have t1:=(zA HB5).cell 3 rfl 1 rfl
 refine bodyPost_ret (v:=.tuple #[.agg #[.slice A4 Y.rows.length c4,.slice G4 Y.gens.length gc4],.int .i64 err]) (by simp [results,Tryz.results96,go_sem,t0,t1]) rfl ⟨A4,c4,G4,gc4,rfl,(zA HF5).le (by omega),(zA HL5)⟩
theorem zLr (A:Option Addr) (cap:Nat) (G:Option Addr) (gcap:Nat) (X:Wd) (i g:Int) (y:ActI) (w:World) (hn0:X.rows.length≤9223372036854775807) (hX:WldAt w A cap G gcap X) (hk:y.k=5) (hg:(zCj X i g y.p).2=true) :
  Calls Tryz.prog 96 #[zi A cap G gcap X,zS i g,zBl y.k y.p y.f y.n] w fun e w'=>∃ A' c' G' gc',e=.returned (.tuple #[zi A' c' G' gc' (zAf X i g y.p).2,.int .i64 (zAf X i g y.p).1])∧WF w.heap.size A G X w' A' c' G' gc' (zAf X i g y.p).2∧Below w.heap.size w w':=by
 have hDR:=fun W (hb:Below w.heap.size w W)=>zJR A cap G gcap X i g y.p W hn0 (hX.below hb) hg
 obtain ⟨Y,hY⟩:∃ Y,Y=(zAf X i g y.p).2:=⟨_,rfl⟩
 obtain ⟨err,herr⟩:∃ err,err=(zAf X i g y.p).1:=⟨_,rfl⟩
 rw [←hY,←herr] at hDR ⊢
 clear hY herr
 unfold zi zM zS at hDR
 have HDR:=zB hDR
 clear hDR
 have hB0:=Bxs.start w [([.slice A X.rows.length cap,.slice G X.gens.length gcap],43),([.int .i64 i,.int .i64 g],61),([.int .i64 y.k,.int .i64 y.p,.int .i64 y.f,.int .i64 y.n],95),([.slice none 0 0,.slice none 0 0],43)]
 have hb0:=allocs_below [([.slice A X.rows.length cap,.slice G X.gens.length gcap],43),([.int .i64 i,.int .i64 g],61),([.int .i64 y.k,.int .i64 y.p,.int .i64 y.f,.int .i64 y.n],95),([.slice none 0 0,.slice none 0 0],43)] w
 have hs0:=allocs_size [([.slice A X.rows.length cap,.slice G X.gens.length gcap],43),([.int .i64 i,.int .i64 g],61),([.int .i64 y.k,.int .i64 y.p,.int .i64 y.f,.int .i64 y.n],95),([.slice none 0 0,.slice none 0 0],43)] w
 obtain ⟨W0,hW0⟩:∃ W0,W0=zt w [([.slice A X.rows.length cap,.slice G X.gens.length gcap],43),([.int .i64 i,.int .i64 g],61),([.int .i64 y.k,.int .i64 y.p,.int .i64 y.f,.int .i64 y.n],95),([.slice none 0 0,.slice none 0 0],43)]:=⟨_,rfl⟩
 rw [←hW0] at hB0 hb0 hs0
 have hW0':(((w.alloc (.cells #[.slice A X.rows.length cap,.slice G X.gens.length gcap] 43)).alloc (.cells #[.int .i64 i,.int .i64 g] 61)).alloc (.cells #[.int .i64 y.k,.int .i64 y.p,.int .i64 y.f,.int .i64 y.n] 95)).alloc (.cells #[.slice none 0 0,.slice none 0 0] 43)=W0:=hW0.symm
 have HNB:Hid (∀ k,¬ Blk A G X (w.heap.size+k)):=zB (fun k hb=>by have:=zCG hX hb;omega)
 have HX0:=zB (hX.below hb0)
 have HS0:Hid (w.heap.size+4≤W0.heap.size):=zB (by rw [hs0];simp)
 have HW0:=zB hW0'
 have HB0:=zB hB0
 have HL0:=zB hb0
 have w0:=hB0.cell 0 rfl 0 rfl
 have w1:=hB0.cell 0 rfl 1 rfl
 rw [Nat.add_zero] at w0 w1
 have b0:=hB0.cell 1 rfl 0 rfl
 have b1:=hB0.cell 1 rfl 1 rfl
 have a0:=hB0.cell 2 rfl 0 rfl
 have a1:=hB0.cell 2 rfl 1 rfl
 have a2:=hB0.cell 2 rfl 2 rfl
 have a3:=hB0.cell 2 rfl 3 rfl
 clear hW0 hW0' hB0 hb0 hX hs0
 unfold zi zM zS  zBl
 have HK:=zB hk
 clear hk
 go_enter Tryz.func96,Tryz.ntmps96
 go_upto_region 1 with fail
 rw [zA HW0]
 have hk:=zA HK
 go_wp2_with (first
  | (go_at_call 133;refine (zA HDR _ (zA HL0)).mono ?_;rintro e w4 ⟨A4,c4,G4,gc4,rfl,hN4,hb4⟩;have HB4:=zB ((zA HB0).below hb4);have HL4:=zB ((zA HL0).trans (hb4.mono (zA HL0).size));have HF4:Hid (WF (w.heap.size+4) A G X w4 A4 c4 G4 gc4 Y):=zB (hN4.le (zA HS0));clear hN4 hb4 w0 w1 b0 b1 a0 a1 a2 a3)
  | (refine zG rfl 43 (.tmp 6) (.tmp 41) rfl (w.heap.size+3) 0 [.slice A4 Y.rows.length c4,.slice G4 Y.gens.length gc4] rfl rfl (by simp [Value.oneCell']) size38 ((zA HB4).there 3 rfl 2 rfl) ?_;intro W5 hW;have q1:=(zA HB4).give 3 rfl [.slice A4 Y.rows.length c4,.slice G4 Y.gens.length gc4] rfl;have q3:=zI (w.heap.size+3) (by omega) [.slice A4 Y.rows.length c4,.slice G4 Y.gens.length gc4] 0 _ (zA HL4);have q4:=zAc (k:=3) (o:=0) (vs:=[.slice A4 Y.rows.length c4,.slice G4 Y.gens.length gc4]) (zA HF4) (zA HNB) (by omega);rw [←hW] at q1 q3 q4;have HB5:=zB q1;have HL5:=zB q3;have HF5:=zB q4;clear hW q1 q3 q4))
 have t0:=(zA HB5).cell 3 rfl 0 rfl
 have t1:=(zA HB5).cell 3 rfl 1 rfl
 refine bodyPost_ret (v:=.tuple #[.agg #[.slice A4 Y.rows.length c4,.slice G4 Y.gens.length gc4],.int .i64 err]) (by simp [results,Tryz.results96,go_sem,t0,t1]) rfl ⟨A4,c4,G4,gc4,rfl,(zA HF5).le (by omega),(zA HL5)⟩
theorem zLs (A:Option Addr) (cap:Nat) (G:Option Addr) (gcap:Nat) (X:Wd) (i g:Int) (y:ActI) (w:World) (hn0:X.rows.length≤9223372036854775807) (hX:WldAt w A cap G gcap X) (hk:y.k=5) (hg:(zCj X i g y.p).2=false) :
  Calls Tryz.prog 96 #[zi A cap G gcap X,zS i g,zBl y.k y.p y.f y.n] w fun e w'=>e=.returned (.tuple #[zi A cap G gcap X,.int .i64 0])∧WldAt w' A cap G gcap X∧Below w.heap.size w w':=by
 have hDR:=fun W (hb:Below w.heap.size w W)=>zKb A cap G gcap X i g y.p W hn0 (hX.below hb) hg
 unfold zi zM zS at hDR
 have HDR:=zB hDR
 clear hDR
 have hB0:=Bxs.start w [([.slice A X.rows.length cap,.slice G X.gens.length gcap],43),([.int .i64 i,.int .i64 g],61),([.int .i64 y.k,.int .i64 y.p,.int .i64 y.f,.int .i64 y.n],95),([.slice none 0 0,.slice none 0 0],43)]
 have hb0:=allocs_below [([.slice A X.rows.length cap,.slice G X.gens.length gcap],43),([.int .i64 i,.int .i64 g],61),([.int .i64 y.k,.int .i64 y.p,.int .i64 y.f,.int .i64 y.n],95),([.slice none 0 0,.slice none 0 0],43)] w
 have hs0:=allocs_size [([.slice A X.rows.length cap,.slice G X.gens.length gcap],43),([.int .i64 i,.int .i64 g],61),([.int .i64 y.k,.int .i64 y.p,.int .i64 y.f,.int .i64 y.n],95),([.slice none 0 0,.slice none 0 0],43)] w
 obtain ⟨W0,hW0⟩:∃ W0,W0=zt w [([.slice A X.rows.length cap,.slice G X.gens.length gcap],43),([.int .i64 i,.int .i64 g],61),([.int .i64 y.k,.int .i64 y.p,.int .i64 y.f,.int .i64 y.n],95),([.slice none 0 0,.slice none 0 0],43)]:=⟨_,rfl⟩
 rw [←hW0] at hB0 hb0 hs0
 have hW0':(((w.alloc (.cells #[.slice A X.rows.length cap,.slice G X.gens.length gcap] 43)).alloc (.cells #[.int .i64 i,.int .i64 g] 61)).alloc (.cells #[.int .i64 y.k,.int .i64 y.p,.int .i64 y.f,.int .i64 y.n] 95)).alloc (.cells #[.slice none 0 0,.slice none 0 0] 43)=W0:=hW0.symm
 have HNB:Hid (∀ k,¬ Blk A G X (w.heap.size+k)):=zB (fun k hb=>by have:=zCG hX hb;omega)
 have HX0:=zB (hX.below hb0)
 have HS0:Hid (w.heap.size+4≤W0.heap.size):=zB (by rw [hs0];simp)
 have HW0:=zB hW0'
 have HB0:=zB hB0
 have HL0:=zB hb0
 have w0:=hB0.cell 0 rfl 0 rfl
 have w1:=hB0.cell 0 rfl 1 rfl
 rw [Nat.add_zero] at w0 w1
 have b0:=hB0.cell 1 rfl 0 rfl
 have b1:=hB0.cell 1 rfl 1 rfl
 have a0:=hB0.cell 2 rfl 0 rfl
 have a1:=hB0.cell 2 rfl 1 rfl
 have a2:=hB0.cell 2 rfl 2 rfl
 have a3:=hB0.cell 2 rfl 3 rfl
 clear hW0 hW0' hB0 hb0 hX hs0
 unfold zi zM zS  zBl
 have HK:=zB hk
 clear hk
 go_enter Tryz.func96,Tryz.ntmps96
 go_upto_region 1 with fail
 rw [zA HW0]
 have hk:=zA HK
 go_wp2_with (first
  | (go_at_call 133;refine (zA HDR _ (zA HL0)).mono ?_;rintro e w4 ⟨rfl,hX4,hb4⟩;have HB4:=zB ((zA HB0).below hb4);have HL4:=zB ((zA HL0).trans (hb4.mono (zA HL0).size));have HF4:Hid (WF (w.heap.size+4) A G X w4 A cap G gcap X):=zB (WF.refl hX4);clear hX4 hb4 w0 w1 b0 b1 a0 a1 a2 a3)
  | (refine zG rfl 43 (.tmp 6) (.tmp 41) rfl (w.heap.size+3) 0 [.slice A X.rows.length cap,.slice G X.gens.length gcap] rfl rfl (by simp [Value.oneCell']) size38 ((zA HB4).there 3 rfl 2 rfl) ?_;intro W5 hW;have q1:=(zA HB4).give 3 rfl [.slice A X.rows.length cap,.slice G X.gens.length gcap] rfl;have q3:=zI (w.heap.size+3) (by omega) [.slice A X.rows.length cap,.slice G X.gens.length gcap] 0 _ (zA HL4);have q4:=zAc (k:=3) (o:=0) (vs:=[.slice A X.rows.length cap,.slice G X.gens.length gcap]) (zA HF4) (zA HNB) (by omega);rw [←hW] at q1 q3 q4;have HB5:=zB q1;have HL5:=zB q3;have HF5:=zB q4;clear hW q1 q3 q4))
 have t0:=(zA HB5).cell 3 rfl 0 rfl
 have t1:=(zA HB5).cell 3 rfl 1 rfl
 refine bodyPost_ret (v:=.tuple #[.agg #[.slice A X.rows.length cap,.slice G X.gens.length gcap],.int .i64 0]) (by simp [results,Tryz.results96,go_sem,t0,t1]) rfl ⟨rfl,(zA HF5).at_,(zA HL5)⟩
theorem zLq (A:Option Addr) (cap:Nat) (G:Option Addr) (gcap:Nat) (X:Wd) (i g:Int) (y:ActI) (w:World) (hn0:X.rows.length≤9223372036854775807) (hX:WldAt w A cap G gcap X) (hk:y.k=7) :
  Calls Tryz.prog 96 #[zi A cap G gcap X,zS i g,zBl y.k y.p y.f y.n] w fun e w'=>∃ A' c' G' gc',e=.returned (.tuple #[zi A' c' G' gc' (zw X y.p y.n).2.2,.int .i64 (zw X y.p y.n).1])∧WF w.heap.size A G X w' A' c' G' gc' (zw X y.p y.n).2.2∧Below w.heap.size w w':=by
 have hDR:=fun W (hb:Below w.heap.size w W)=>zKG A cap G gcap X y.p y.n W hn0 (hX.below hb)
 obtain ⟨Y,hY⟩:∃ Y,Y=(zw X y.p y.n).2.2:=⟨_,rfl⟩
 obtain ⟨err,herr⟩:∃ err,err=(zw X y.p y.n).1:=⟨_,rfl⟩
 obtain ⟨ci,hci⟩:∃ ci,ci=(zw X y.p y.n).2.1.1:=⟨_,rfl⟩
 obtain ⟨cg,hcg⟩:∃ cg,cg=(zw X y.p y.n).2.1.2:=⟨_,rfl⟩
 rw [←hY,←herr,←hci,←hcg] at hDR
 rw [←hY,←herr]
 clear hY herr hci hcg
 unfold zi zM zS at hDR
 have HDR:=zB hDR
 clear hDR
 have hB0:=Bxs.start w [([.slice A X.rows.length cap,.slice G X.gens.length gcap],43),([.int .i64 i,.int .i64 g],61),([.int .i64 y.k,.int .i64 y.p,.int .i64 y.f,.int .i64 y.n],95),([.slice none 0 0,.slice none 0 0],43)]
 have hb0:=allocs_below [([.slice A X.rows.length cap,.slice G X.gens.length gcap],43),([.int .i64 i,.int .i64 g],61),([.int .i64 y.k,.int .i64 y.p,.int .i64 y.f,.int .i64 y.n],95),([.slice none 0 0,.slice none 0 0],43)] w
 have hs0:=allocs_size [([.slice A X.rows.length cap,.slice G X.gens.length gcap],43),([.int .i64 i,.int .i64 g],61),([.int .i64 y.k,.int .i64 y.p,.int .i64 y.f,.int .i64 y.n],95),([.slice none 0 0,.slice none 0 0],43)] w
 obtain ⟨W0,hW0⟩:∃ W0,W0=zt w [([.slice A X.rows.length cap,.slice G X.gens.length gcap],43),([.int .i64 i,.int .i64 g],61),([.int .i64 y.k,.int .i64 y.p,.int .i64 y.f,.int .i64 y.n],95),([.slice none 0 0,.slice none 0 0],43)]:=⟨_,rfl⟩
 rw [←hW0] at hB0 hb0 hs0
 have hW0':(((w.alloc (.cells #[.slice A X.rows.length cap,.slice G X.gens.length gcap] 43)).alloc (.cells #[.int .i64 i,.int .i64 g] 61)).alloc (.cells #[.int .i64 y.k,.int .i64 y.p,.int .i64 y.f,.int .i64 y.n] 95)).alloc (.cells #[.slice none 0 0,.slice none 0 0] 43)=W0:=hW0.symm
 have HNB:Hid (∀ k,¬ Blk A G X (w.heap.size+k)):=zB (fun k hb=>by have:=zCG hX hb;omega)
 have HX0:=zB (hX.below hb0)
 have HS0:Hid (w.heap.size+4≤W0.heap.size):=zB (by rw [hs0];simp)
 have HW0:=zB hW0'
 have HB0:=zB hB0
 have HL0:=zB hb0
 have w0:=hB0.cell 0 rfl 0 rfl
 have w1:=hB0.cell 0 rfl 1 rfl
 rw [Nat.add_zero] at w0 w1
 have b0:=hB0.cell 1 rfl 0 rfl
 have b1:=hB0.cell 1 rfl 1 rfl
 have a0:=hB0.cell 2 rfl 0 rfl
 have a1:=hB0.cell 2 rfl 1 rfl
 have a2:=hB0.cell 2 rfl 2 rfl
 have a3:=hB0.cell 2 rfl 3 rfl
 clear hW0 hW0' hB0 hb0 hX hs0
 unfold zi zM zS  zBl
 have HK:=zB hk
 clear hk
 go_enter Tryz.func96,Tryz.ntmps96
 go_upto_region 1 with fail
 rw [zA HW0]
 have hk:=zA HK
 go_wp2_with (first
  | (go_at_call 132;refine (zA HDR _ (zA HL0)).mono ?_;rintro e w4 ⟨A4,c4,G4,gc4,rfl,hN4,hb4⟩;have HB4:=zB (((zA HB0).below hb4).below (zCx w4 (.cells #[.slice A4 Y.rows.length c4,.slice G4 Y.gens.length gc4] 43) (.cells #[.int .i64 ci,.int .i64 cg] 61)));have hl4:=(zA HL0).trans (hb4.mono (zA HL0).size);have HL4:=zB (hl4.trans ((zCx w4 (.cells #[.slice A4 Y.rows.length c4,.slice G4 Y.gens.length gc4] 43) (.cells #[.int .i64 ci,.int .i64 cg] 61)).mono hl4.size));have HF4:Hid (WF (w.heap.size+4) A G X ((w4.alloc (.cells #[.slice A4 Y.rows.length c4,.slice G4 Y.gens.length gc4] 43)).alloc (.cells #[.int .i64 ci,.int .i64 cg] 61)) A4 c4 G4 gc4 Y):=zB (((WF.new hN4).le (zA HS0)).below (zCx w4 (.cells #[.slice A4 Y.rows.length c4,.slice G4 Y.gens.length gc4] 43) (.cells #[.int .i64 ci,.int .i64 cg] 61)));clear hN4 hb4 hl4 w0 w1 b0 b1 a0 a1 a2 a3)
  | (refine zG rfl 43 (.tmp 6) (.tmp 32) rfl (w.heap.size+3) 0 [.slice A4 Y.rows.length c4,.slice G4 Y.gens.length gc4] rfl rfl (by simp [Value.oneCell']) size38 ((zA HB4).there 3 rfl 2 rfl) ?_;intro W5 hW;have q1:=(zA HB4).give 3 rfl [.slice A4 Y.rows.length c4,.slice G4 Y.gens.length gc4] rfl;have q3:=zI (w.heap.size+3) (by omega) [.slice A4 Y.rows.length c4,.slice G4 Y.gens.length gc4] 0 _ (zA HL4);have q4:=zAc (k:=3) (o:=0) (vs:=[.slice A4 Y.rows.length c4,.slice G4 Y.gens.length gc4]) (zA HF4) (zA HNB) (by omega);rw [←hW] at q1 q3 q4;have HB5:=zB q1;have HL5:=zB q3;have HF5:=zB q4;clear hW q1 q3 q4))
 have t0:=(zA HB5).cell 3 rfl 0 rfl
 have t1:=(zA HB5).cell 3 rfl 1 rfl
 refine bodyPost_ret (v:=.tuple #[.agg #[.slice A4 Y.rows.length c4,.slice G4 Y.gens.length gc4],.int .i64 err]) (by simp [results,Tryz.results96,go_sem,t0,t1]) rfl ⟨A4,c4,G4,gc4,rfl,(zA HF5).le (by omega),(zA HL5)⟩
def pr:Value→Nat→Value
 | .agg cs,k=>cs.getD k undef
 | _,_=>undef
theorem zOL (A:Option Addr) (cap:Nat) (G:Option Addr) (gcap:Nat) (X:Wd) (i g:Int) (y:ActI) (w:World) (hn0:X.rows.length≤9223372036854775807) (hX:WldAt w A cap G gcap X) (h6:¬ y.k=6) (h7:¬ y.k=7) (h5:¬ y.k=5) :
  Calls Tryz.prog 96 #[zi A cap G gcap X,zS i g,zBl y.k y.p y.f y.n] w fun e w'=>∃ A' c' G' gc',e=.returned (.tuple #[zi A' c' G' gc' (zDF X i g y.p (zBv (zGW X i g y))).2,.int .i64 (zDF X i g y.p (zBv (zGW X i g y))).1])∧WF w.heap.size A G X w' A' c' G' gc' (zDF X i g y.p (zBv (zGW X i g y))).2∧Below w.heap.size w w':=by
 have hAM:=fun W (hW:WldAt W A cap G gcap X)=>zJt A cap G gcap X i g y W hn0 hW
 generalize zGW X i g y=am at *
 have hPU:=fun W (hW:WldAt W A cap G gcap X)=>zNq A cap G gcap X i g y.p (zBv am) W hn0 hW
 obtain ⟨Y,hY⟩:∃ Y,Y=(zDF X i g y.p (zBv am)).2:=⟨_,rfl⟩
 obtain ⟨err,herr⟩:∃ err,err=(zDF X i g y.p (zBv am)).1:=⟨_,rfl⟩
 rw [←hY,←herr] at hPU ⊢
 clear hY herr
 unfold zi zM zS at hPU
 unfold zi zM zS zBl at hAM
 have HAM:=zB hAM
 have HPU:=zB hPU
 clear hAM hPU
 have hB0:=Bxs.start w [([.slice A X.rows.length cap,.slice G X.gens.length gcap],43),([.int .i64 i,.int .i64 g],61),([.int .i64 y.k,.int .i64 y.p,.int .i64 y.f,.int .i64 y.n],95),([.slice none 0 0,.slice none 0 0],43)]
 have hb0:=allocs_below [([.slice A X.rows.length cap,.slice G X.gens.length gcap],43),([.int .i64 i,.int .i64 g],61),([.int .i64 y.k,.int .i64 y.p,.int .i64 y.f,.int .i64 y.n],95),([.slice none 0 0,.slice none 0 0],43)] w
 have hs0:=allocs_size [([.slice A X.rows.length cap,.slice G X.gens.length gcap],43),([.int .i64 i,.int .i64 g],61),([.int .i64 y.k,.int .i64 y.p,.int .i64 y.f,.int .i64 y.n],95),([.slice none 0 0,.slice none 0 0],43)] w
 obtain ⟨W0,hW0⟩:∃ W0,W0=zt w [([.slice A X.rows.length cap,.slice G X.gens.length gcap],43),([.int .i64 i,.int .i64 g],61),([.int .i64 y.k,.int .i64 y.p,.int .i64 y.f,.int .i64 y.n],95),([.slice none 0 0,.slice none 0 0],43)]:=⟨_,rfl⟩
 rw [←hW0] at hB0 hb0 hs0
 have hW0':(((w.alloc (.cells #[.slice A X.rows.length cap,.slice G X.gens.length gcap] 43)).alloc (.cells #[.int .i64 i,.int .i64 g] 61)).alloc (.cells #[.int .i64 y.k,.int .i64 y.p,.int .i64 y.f,.int .i64 y.n] 95)).alloc (.cells #[.slice none 0 0,.slice none 0 0] 43)=W0:=hW0.symm
 have HNB:Hid (∀ k,¬ Blk A G X (w.heap.size+k)):=zB (fun k hb=>by have:=zCG hX hb;omega)
 have HX0:=zB (hX.below hb0)
 have HS0:Hid (w.heap.size+4≤W0.heap.size):=zB (by rw [hs0];simp)
 have HW0:=zB hW0'
 have HB0:=zB hB0
 have HL0:=zB hb0
 have w0:=hB0.cell 0 rfl 0 rfl
 have w1:=hB0.cell 0 rfl 1 rfl
 rw [Nat.add_zero] at w0 w1
 have b0:=hB0.cell 1 rfl 0 rfl
 have b1:=hB0.cell 1 rfl 1 rfl
 have a0:=hB0.cell 2 rfl 0 rfl
 have a1:=hB0.cell 2 rfl 1 rfl
 have a2:=hB0.cell 2 rfl 2 rfl
 have a3:=hB0.cell 2 rfl 3 rfl
 clear hW0 hW0' hB0 hb0 hX hs0
 unfold zi zM zS  zBl
 go_enter Tryz.func96,Tryz.ntmps96
 go_upto_region 1 with fail
 rw [zA HW0]
 have h0:Bxs w.heap.size [([.slice A X.rows.length cap,.slice G X.gens.length gcap],43),([.int .i64 i,.int .i64 g],61),([.int .i64 y.k,.int .i64 y.p,.int .i64 y.f,.int .i64 y.n],95),([.slice none 0 0,.slice none 0 0],43)] W0.drew∧Below w.heap.size w W0.drew∧WldAt W0.drew A cap G gcap X∧((fun (_:Nat)=>false) 9=true→∃ A' c' G' gc',undef=.agg #[.slice A' Y.rows.length c',.slice G' Y.gens.length gc']∧WF (w.heap.size+4) A G X W0.drew A' c' G' gc' Y):=⟨(zA HB0).below (Below.refl _ _).drew,(zA HL0).drew,(zA HX0).below (Below.refl _ _).drew,fun e=>by cases e⟩
 go_wp2_with fail
 clear w0 w1 b0 b1 a0 a1 a2 a3
 refine zd (fun (γ:Value) ix v=>if ix=9 then v=.tuple #[γ,.int .i64 err] else if ix=10 then v=γ else (([fun v=>v=.agg #[.slice A X.rows.length cap,.slice G X.gens.length gcap],fun v=>v=.agg #[.int .i64 i,.int .i64 g],fun v=>v=.pointer (some ⟨w.heap.size+2,1,none⟩),fun v=>v=.int .i64 y.p,fun v=>v=.agg #[.slice A X.rows.length cap,.slice G X.gens.length gcap],fun v=>v=.agg #[.int .i64 i,.int .i64 g],fun v=>v=.agg #[.int .i64 y.k,.int .i64 y.p,.int .i64 y.f,.int .i64 y.n],fun v=>v=.int .i64 am,fun v=>v=.int .i64 (zBv am),fun _=>True,fun _=>True,fun v=>v=.int .i64 err,fun _=>True,fun v=>v=.int .i64 err]:List (Value→Prop)).getD ix (fun _=>True)) v) (fun (γ:Value) L W=>Bxs w.heap.size [([.slice A X.rows.length cap,.slice G X.gens.length gcap],43),([.int .i64 i,.int .i64 g],61),([.int .i64 y.k,.int .i64 y.p,.int .i64 y.f,.int .i64 y.n],95),(if L 12=true then [pr γ 0,pr γ 1] else [.slice none 0 0,.slice none 0 0],43)] W∧Below w.heap.size w W∧WldAt W A cap G gcap X∧(L 9=true→∃ A' c' G' gc',γ=.agg #[.slice A' Y.rows.length c',.slice G' Y.gens.length gc']∧WF (w.heap.size+4) A G X W A' c' G' gc' Y)) (undef) (by kernel_rfl) (by kernel_rfl) (by kernel_rfl) h0 ?hstep ?hend
 case hstep =>
  intro γ ix o ho L ac w1 hD hL hed hcl hout hv
  match ix,ho with
  | 0,ho =>
   simp at ho
   subst ho
   have e3:ac.tmps.getD 3 undef=.pointer (some ⟨w.heap.size,0,none⟩):=hout 3 (by decide +kernel)
   have c0:=hD.1.cell 0 rfl 0 rfl
   have c1:=hD.1.cell 0 rfl 1 rfl
   rw [Nat.add_zero] at c0 c1
   exact .inl ⟨rfl,zF γ _ (by simp [go_sem,Act.eval,-Array.getD_eq_getD_getElem?,e3,c0,c1]) rfl (by rw [zL (by decide),zL (by decide)];exact hD) (fun _ _ _ _ h=>h)⟩
  | 1,ho =>
   simp at ho
   subst ho
   have e4:ac.tmps.getD 4 undef=.pointer (some ⟨w.heap.size+1,0,none⟩):=hout 4 (by decide +kernel)
   have c0:=hD.1.cell 1 rfl 0 rfl
   have c1:=hD.1.cell 1 rfl 1 rfl
   exact .inl ⟨rfl,zF γ _ (by simp [go_sem,Act.eval,-Array.getD_eq_getD_getElem?,e4,c0,c1]) rfl (by rw [zL (by decide),zL (by decide)];exact hD) (fun _ _ _ _ h=>h)⟩
  | 2,ho =>
   simp at ho
   subst ho
   have e5:ac.tmps.getD 5 undef=.pointer (some ⟨w.heap.size+2,0,none⟩):=hout 5 (by decide +kernel)
   exact .inl ⟨rfl,zF γ _ (by simp [go_sem,Act.eval,-Array.getD_eq_getD_getElem?,e5]) rfl (by rw [zL (by decide),zL (by decide)];exact hD) (fun _ _ _ _ h=>h)⟩
  | 3,ho =>
   simp at ho
   subst ho
   have e45:ac.tmps.getD 45 undef=_:=hv 2 45 rfl (by kernel_rfl)
   have c0:=hD.1.cell 2 rfl 1 rfl
   exact .inl ⟨rfl,zF γ _ (by simp [go_sem,Act.eval,-Array.getD_eq_getD_getElem?,e45,c0]) rfl (by rw [zL (by decide),zL (by decide)];exact hD) (fun _ _ _ _ h=>h)⟩
  | 4,ho =>
   simp at ho
   subst ho
   have e3:ac.tmps.getD 3 undef=.pointer (some ⟨w.heap.size,0,none⟩):=hout 3 (by decide +kernel)
   have c0:=hD.1.cell 0 rfl 0 rfl
   have c1:=hD.1.cell 0 rfl 1 rfl
   rw [Nat.add_zero] at c0 c1
   exact .inl ⟨rfl,zF γ _ (by simp [go_sem,Act.eval,-Array.getD_eq_getD_getElem?,e3,c0,c1]) rfl (by rw [zL (by decide),zL (by decide)];exact hD) (fun _ _ _ _ h=>h)⟩
  | 5,ho =>
   simp at ho
   subst ho
   have e4:ac.tmps.getD 4 undef=.pointer (some ⟨w.heap.size+1,0,none⟩):=hout 4 (by decide +kernel)
   have c0:=hD.1.cell 1 rfl 0 rfl
   have c1:=hD.1.cell 1 rfl 1 rfl
   exact .inl ⟨rfl,zF γ _ (by simp [go_sem,Act.eval,-Array.getD_eq_getD_getElem?,e4,c0,c1]) rfl (by rw [zL (by decide),zL (by decide)];exact hD) (fun _ _ _ _ h=>h)⟩
  | 6,ho =>
   simp at ho
   subst ho
   have e5:ac.tmps.getD 5 undef=.pointer (some ⟨w.heap.size+2,0,none⟩):=hout 5 (by decide +kernel)
   have c0:=hD.1.cell 2 rfl 0 rfl
   have c1:=hD.1.cell 2 rfl 1 rfl
   have c2:=hD.1.cell 2 rfl 2 rfl
   have c3:=hD.1.cell 2 rfl 3 rfl
   exact .inl ⟨rfl,zF γ _ (by simp [go_sem,Act.eval,-Array.getD_eq_getD_getElem?,e5,c0,c1,c2,c3]) rfl (by rw [zL (by decide),zL (by decide)];exact hD) (fun _ _ _ _ h=>h)⟩
  | 7,ho =>
   simp at ho
   subst ho
   have e47:ac.tmps.getD 47 undef=_:=hv 4 47 rfl (by kernel_rfl)
   have e48:ac.tmps.getD 48 undef=_:=hv 5 48 rfl (by kernel_rfl)
   have e49:ac.tmps.getD 49 undef=_:=hv 6 49 rfl (by kernel_rfl)
   refine .inl ⟨rfl,zAQ 135 #[.agg #[.slice A X.rows.length cap,.slice G X.gens.length gcap],.agg #[.int .i64 i,.int .i64 g],.agg #[.int .i64 y.k,.int .i64 y.p,.int .i64 y.f,.int .i64 y.n]] (by simp [go_sem,Act.eval,-Array.getD_eq_getD_getElem?,e47,e48,e49]) ?_⟩
   refine (zA HAM w1 hD.2.2.1).mono ?_
   rintro e w6 ⟨rfl,hb6⟩
   exact ⟨_,γ,rfl,rfl,⟨by rw [zL (by decide)];exact hD.1.below hb6,hD.2.1.trans (hb6.mono hD.2.1.size),hD.2.2.1.below hb6,fun e=>(by obtain ⟨A1,c1,G1,gc1,a,b⟩:=hD.2.2.2 (by rwa [zL (by decide)] at e);exact ⟨A1,c1,G1,gc1,a,b.below hb6⟩)⟩,fun _ _ _ _ h=>h⟩
  | 8,ho =>
   simp at ho
   subst ho
   have e50:ac.tmps.getD 50 undef=.int .i64 am:=hv 7 50 rfl (by kernel_rfl)
   refine .inl ⟨rfl,zAQ 134 #[.int .i64 am] (by simp [go_sem,Act.eval,-Array.getD_eq_getD_getElem?,e50]) ?_⟩
   refine (zMq am w1).mono ?_
   rintro e w6 ⟨rfl,hw6⟩
   obtain rfl:=hw6.symm
   exact ⟨_,γ,rfl,rfl,by rw [zL (by decide),zL (by decide)];exact hD,fun _ _ _ _ h=>h⟩
  | 9,ho =>
   simp at ho
   subst ho
   have e43:ac.tmps.getD 43 undef=_:=hv 0 43 rfl (by kernel_rfl)
   have e44:ac.tmps.getD 44 undef=_:=hv 1 44 rfl (by kernel_rfl)
   have e46:ac.tmps.getD 46 undef=_:=hv 3 46 rfl (by kernel_rfl)
   have e51:ac.tmps.getD 51 undef=_:=hv 8 51 rfl (by kernel_rfl)
   have q12:L 12=false:=by
    cases h:L 12
    ·rfl
    ·exact absurd (hcl 12 _ rfl h 9 (by kernel_rfl)) (by rw [hL];decide)
   refine .inl ⟨rfl,zAQ 113 #[.agg #[.slice A X.rows.length cap,.slice G X.gens.length gcap],.agg #[.int .i64 i,.int .i64 g],.int .i64 y.p,.int .i64 (zBv am)] (by simp [go_sem,Act.eval,-Array.getD_eq_getD_getElem?,e43,e44,e46,e51]) ?_⟩
   refine (zA HPU w1 hD.2.2.1).mono ?_
   rintro e w6 ⟨A6,c6,G6,gc6,rfl,hN6,hb6⟩
   have hz:=hD.1.sz (by simp)
   exact ⟨_,.agg #[.slice A6 Y.rows.length c6,.slice G6 Y.gens.length gc6],rfl,rfl,⟨by rw [zL (by decide),q12];rw [q12] at hD;exact hD.1.below hb6,hD.2.1.trans (hb6.mono hD.2.1.size),hD.2.2.1.below hb6,fun _=>⟨A6,c6,G6,gc6,rfl,(WF.new hN6).le (by simpa using hz)⟩⟩,fun j u hj hLj h=>by
    have q10:j≠10:=fun e=>by subst e;exact absurd (hcl 10 _ rfl hLj 9 (by kernel_rfl)) (by rw [hL];decide)
    simpa [hj,q10] using h⟩
  | 10,ho =>
   simp at ho
   subst ho
   have e52:ac.tmps.getD 52 undef=_:=hv 9 52 rfl (by kernel_rfl)
   obtain ⟨A1,c1,G1,gc1,hγ,_⟩:=hD.2.2.2 (hed 9 (by kernel_rfl))
   exact .inl ⟨rfl,zF γ γ (by rw [hγ] at e52 ⊢;simp [go_sem,Act.eval,-Array.getD_eq_getD_getElem?,e52]) rfl (by rw [zL (by decide),zL (by decide)];exact hD) (fun _ _ _ _ h=>h)⟩
  | 11,ho =>
   simp at ho
   subst ho
   have e52:ac.tmps.getD 52 undef=_:=hv 9 52 rfl (by kernel_rfl)
   exact .inl ⟨rfl,zF γ _ (by simp [go_sem,Act.eval,-Array.getD_eq_getD_getElem?,e52]) rfl (by rw [zL (by decide),zL (by decide)];exact hD) (fun _ _ _ _ h=>h)⟩
  | 12,ho =>
   simp at ho
   subst ho
   have e6:ac.tmps.getD 6 undef=.pointer (some ⟨w.heap.size+3,0,none⟩):=hout 6 (by decide +kernel)
   have e53:ac.tmps.getD 53 undef=γ:=hv 10 53 rfl (by kernel_rfl)
   have q9:L 9=true:=by
    have q10:L 10=true:=hed 10 (by kernel_rfl)
    exact hcl 10 _ rfl q10 9 (by kernel_rfl)
   obtain ⟨A1,c1,G1,gc1,hγ,hF1⟩:=hD.2.2.2 q9
   have hg:=hD.1.give 3 rfl [.slice A1 Y.rows.length c1,.slice G1 Y.gens.length gc1] (by rw [hL];rfl)
   refine .inl ⟨rfl,zAu γ 43 (.tmp 6) (.tmp 53) rfl (w.heap.size+3) 0 [.slice A1 Y.rows.length c1,.slice G1 Y.gens.length gc1] (by simp [Act.eval,-Array.getD_eq_getD_getElem?,e6]) (by rw [hγ] at e53;simp [Act.eval,-Array.getD_eq_getD_getElem?,e53]) (by simp [Value.oneCell']) size38 (hD.1.there 3 rfl 2 (by rw [hL];rfl)) trivial ⟨?_,zI (w.heap.size+3) (by omega) _ 0 _ hD.2.1,zDh hD.2.2.1 (zA HNB 3),fun _=>⟨A1,c1,G1,gc1,hγ,zAc (k:=3) hF1 (zA HNB) (by omega)⟩⟩ (fun _ _ _ _ h=>h)⟩
   rw [zAw,if_pos rfl,hγ]
   exact hg
  | 13,ho =>
   simp at ho
   subst ho
   have e54:ac.tmps.getD 54 undef=_:=hv 11 54 rfl (by kernel_rfl)
   exact .inl ⟨rfl,zF γ _ (by simp [go_sem,Act.eval,-Array.getD_eq_getD_getElem?,e54]) rfl (by rw [zL (by decide),zL (by decide)];exact hD) (fun _ _ _ _ h=>h)⟩
  | ix+14,ho=>simp at ho
 case hend =>
  intro γ v L w9 hD hall hv
  rw [hall 12 (by decide),if_pos rfl] at hD
  obtain ⟨A1,c1,G1,gc1,rfl,hF1⟩:=hD.2.2.2 (hall 9 (by decide))
  have v13:v 13=.int .i64 err:=hv 13 7 rfl
  have HB9:=zB hD.1
  have HL9:=zB hD.2.1
  have HF9:=zB hF1
  clear hv hall hD h0 hF1
  simp only [zu,List.getElem?_cons_zero,List.getElem?_cons_succ,Option.bind_some,List.length_cons,List.length_nil,Nat.reduceAdd,v13]
  clear v13
  go_frame
  go_wp2
  have t0:=(zA HB9).cell 3 rfl 0 rfl
  have t1:=(zA HB9).cell 3 rfl 1 rfl
  simp only [pr,Array.getD_eq_getD_getElem?,List.getElem?_toArray,List.getElem?_cons_zero,List.getElem?_cons_succ,Option.getD_some] at t0 t1
  refine bodyPost_ret (v:=.tuple #[.agg #[.slice A1 Y.rows.length c1,.slice G1 Y.gens.length gc1],.int .i64 err]) (by simp [results,Tryz.results96,go_sem,t0,t1]) rfl ⟨A1,c1,G1,gc1,rfl,(zA HF9).le (by omega),zA HL9⟩
theorem zOM (A:Option Addr) (cap:Nat) (G:Option Addr) (gcap:Nat) (X:Wd) (i g:Int) (y:ActI) (w:World) (hn0:X.rows.length≤9223372036854775807) (hX:WldAt w A cap G gcap X) :
  Calls Tryz.prog 96 #[zi A cap G gcap X,zS i g,zBl y.k y.p y.f y.n] w fun e w'=>∃ A' c' G' gc',e=.returned (.tuple #[zi A' c' G' gc' (zBw X i g y).2,.int .i64 (zBw X i g y).1])∧WF w.heap.size A G X w' A' c' G' gc' (zBw X i g y).2∧Below w.heap.size w w':=by
 unfold zBw
 by_cases h6:y.k=6
 ·rw [if_pos h6];exact zMz A cap G gcap X i g y w hn0 hX h6
 ·rw [if_neg h6]
  by_cases h7:y.k=7
  ·rw [if_pos h7];exact zLq A cap G gcap X i g y w hn0 hX h7
  ·rw [if_neg h7]
   by_cases h5:y.k=5
   ·rw [if_pos h5]
    cases hg:(zCj X i g y.p).2
    ·rw [if_neg (by simp)]
     exact (zLs A cap G gcap X i g y w hn0 hX h5 hg).mono fun e w' ⟨he,h1,h2⟩=>⟨A,cap,G,gcap,he,WF.refl h1,h2⟩
    ·rw [if_pos rfl];exact zLr A cap G gcap X i g y w hn0 hX h5 hg
   ·rw [if_neg h5];exact zOL A cap G gcap X i g y w hn0 hX h6 h7 h5
end Go.Proofs.YtnbleebilmghcabGreat
set_option maxHeartbeats 4000000
set_option maxRecDepth 8000
namespace Go.Proofs.YtnbleebilmghcabGreat
open Go Go.RowKit
attribute [local go_sem ↓] Go.wp_at_zero Go.wp_at_succ
structure TB (w:World) (A G:Option Addr) (X:Wd) (i g:Int) (Ac:Option Addr) (cc:Nat) (Gc:Option Addr) (gcc:Nat) (Xc:Wd) (W:World):Prop where
 bx:Bxs w.heap.size [([.slice Ac Xc.rows.length cc,.slice Gc Xc.gens.length gcc],43),([.int .i64 i,.int .i64 g],61),([.slice none 0 0,.slice none 0 0],43)] W
 bel:Below w.heap.size w W
 wf:WF (w.heap.size+3) A G X W Ac cc Gc gcc Xc
theorem TB.below {w:World} {A G:Option Addr} {X:Wd} {i g:Int} {Ac:Option Addr} {cc:Nat} {Gc:Option Addr} {gcc:Nat} {Xc:Wd} {W W1:World} (h:TB w A G X i g Ac cc Gc gcc Xc W) (hb:Below W.heap.size W W1):TB w A G X i g Ac cc Gc gcc Xc W1 :=
 ⟨h.bx.below hb,h.bel.trans (hb.mono h.bel.size),h.wf.below hb⟩
theorem TB.sz {w:World} {A G:Option Addr} {X:Wd} {i g:Int} {Ac:Option Addr} {cc:Nat} {Gc:Option Addr} {gcc:Nat} {Xc:Wd} {W:World} (h:TB w A G X i g Ac cc Gc gcc Xc W):w.heap.size+3≤W.heap.size:=by
 have:=h.bx.sz (by simp)
 simpa using this
theorem zGf (i g:Int) (a:Nat→ActI) (len j:Nat) (X:Wd) (h:j<len):zAW i g a (len - j) j X=if (zBw X i g (a j)).1≠0 then ((zBw X i g (a j)).1,emptyW) else if (a j).k=6 then (0,(zBw X i g (a j)).2) else zAW i g a (len - (j+1)) (j+1) (zBw X i g (a j)).2:=by
 rw [show len - j=(len - (j+1))+1 by omega,zAW]
theorem zLx (A:Option Addr) (cap:Nat) (G:Option Addr) (gcap:Nat) (X:Wd) (i g:Int) (A1:Option Addr) (len acap:Nat) (a:Nat→ActI) (w:World) (hn0:X.rows.length≤9223372036854775807) (hX:WldAt w A cap G gcap X) (hr:RightW X) (hlen:len≤8) (hA:ActsAt w A1 len a) :
  Calls Tryz.prog 53 #[zi A cap G gcap X,zS i g,.slice A1 len acap] w fun e w'=>∃ A' c' G' gc',e=.returned (.tuple #[zi A' c' G' gc' (zAW i g a len 0 X).2,.int .i64 (zAW i g a len 0 X).1])∧WF w.heap.size A G X w' A' c' G' gc' (zAW i g a len 0 X).2∧Below w.heap.size w w':=by
 have hB0:=Bxs.start w [([.slice A X.rows.length cap,.slice G X.gens.length gcap],43),([.int .i64 i,.int .i64 g],61),([.slice none 0 0,.slice none 0 0],43)]
 have hb0:=allocs_below [([.slice A X.rows.length cap,.slice G X.gens.length gcap],43),([.int .i64 i,.int .i64 g],61),([.slice none 0 0,.slice none 0 0],43)] w
 obtain ⟨W0,hW0⟩:∃ W0,W0=zt w [([.slice A X.rows.length cap,.slice G X.gens.length gcap],43),([.int .i64 i,.int .i64 g],61),([.slice none 0 0,.slice none 0 0],43)]:=⟨_,rfl⟩
 rw [←hW0] at hB0 hb0
 have hW0':((w.alloc (.cells #[.slice A X.rows.length cap,.slice G X.gens.length gcap] 43)).alloc (.cells #[.int .i64 i,.int .i64 g] 61)).alloc (.cells #[.slice none 0 0,.slice none 0 0] 43)=W0:=hW0.symm
 have HNB:Hid (∀ k,¬ Blk A G X (w.heap.size+k)):=zB (fun k hb=>by have:=zCG hX hb;omega)
 have hT0:TB w A G X i g A cap G gcap X W0:=⟨hB0,hb0,WF.refl (hX.below hb0)⟩
 have HT0:=zB hT0
 have HW0:=zB hW0'
 have HA:=zB hA
 have HR:=zB hr
 clear hW0 hW0' hB0 hb0 hX hA hT0 hr
 obtain ⟨R,hR⟩:∃ R,R=zAW i g a len 0 X:=⟨_,rfl⟩
 rw [←hR]
 have HRR:=zB hR
 clear hR
 unfold zi zM zS
 go_enter Tryz.func53,Tryz.ntmps53
 go_upto_region 1 with fail
 rw [zA HW0]
 go_wp2_with fail
 go_loopw [14] (fun x wr=>∃ j:Nat,j≤len∧x=.int .i64 (j:Int)∧∃ Ac cc Gc gcc Xc,TB w A G X i g Ac cc Gc gcc Xc wr∧RightW Xc∧R=zAW i g a (len - j) j Xc) (fun x _=>len - (intOf x).toNat)
 case atStart=>exact ⟨0,Nat.zero_le _,rfl,A,cap,G,gcap,X,zA HT0,zA HR,zA HRR⟩
 case round =>
  clear HT0 HRR HR
  obtain ⟨j,hj,rfl,Ac,cc,Gc,gcc,Xc,hT,hrc,hRc⟩:=hrel
  have hxl:=(zk ((zf Xc).2 hrc)).1
  by_cases hlt:j<len
  ·have j0:(0:Int)≤(j:Int):=by omega
   have j1:(j:Int)<(len:Int):=by omega
   rw [zGf i g a len j Xc hlt] at hRc
   obtain ⟨b,off,hAe,c0,c1,c2,c3⟩:=(zA HA).below hT.bel j hlt
   obtain ⟨y,hy⟩:∃ y,y=a j:=⟨_,rfl⟩
   rw [←hy] at c0 c1 c2 c3 hRc
   obtain ⟨W4,hW4⟩:∃ W4,W4=wr.alloc (.cells #[.int .i64 y.k,.int .i64 y.p,.int .i64 y.f,.int .i64 y.n] 95):=⟨_,rfl⟩
   have hb4:Below wr.heap.size wr W4:=by rw [hW4];exact zAS _ _
   have hT4:=hT.below hb4
   have hAC:=zOM Ac cc Gc gcc Xc i g y W4 (by omega) hT4.wf.at_
   have hAN:=fun h=>zOz (X:=Xc) (i:=i) (g:=g) (y:=y) h
   have hAR:=fun h=>zCR hrc (i:=i) (g:=g) (y:=y) h
   obtain ⟨Y,hY⟩:∃ Y,Y=(zBw Xc i g y).2:=⟨_,rfl⟩
   obtain ⟨err,herr⟩:∃ err,err=(zBw Xc i g y).1:=⟨_,rfl⟩
   rw [←hY,←herr] at hAC hAN hAR hRc
   unfold zi zM zS zBl at hAC
   have w0:=hT4.bx.cell 0 rfl 0 rfl
   have w1:=hT4.bx.cell 0 rfl 1 rfl
   rw [Nat.add_zero] at w0 w1
   have b0:=hT4.bx.cell 1 rfl 0 rfl
   have b1:=hT4.bx.cell 1 rfl 1 rfl
   have hW4':wr.alloc (.cells #[.int .i64 y.k,.int .i64 y.p,.int .i64 y.f,.int .i64 y.n] 95)=W4:=hW4.symm
   have HY4:Hid (W4.cell? ⟨wr.heap.size,0,none⟩=some (.int .i64 y.k)):=zB (by rw [hW4];simp)
   have a0:=zA HY4
   have a1:W4.cell? ⟨wr.heap.size,1,none⟩=some (.int .i64 y.p):=by rw [hW4];simp
   have a2:W4.cell? ⟨wr.heap.size,2,none⟩=some (.int .i64 y.f):=by rw [hW4];simp
   have a3:W4.cell? ⟨wr.heap.size,3,none⟩=some (.int .i64 y.n):=by rw [hW4];simp
   have HW4:=zB hW4'
   have HAC:=zB hAC
   have HAN:=zB hAN
   have HAR:=zB hAR
   have HT4:=zB hT4
   have HZR:Hid (w.heap.size+3≤wr.heap.size):=zB hT.sz
   have HRC:=zB hRc
   clear hT hT4 hb4 hAC hAN hAR hY herr hW4 hW4' hRc hrc hy
   subst hAe
   go_upto_region 4 with fail
   rw [zA HW4]
   clear c0 c1 c2 c3
   go_wp2_with fail
   go_at_call 96
   refine (zA HAC).mono ?_
   rintro e w5 ⟨A4,c4,G4,gc4,rfl,hF5,hb5⟩
   have h5:=(zA HT4).below hb5
   have h6:=h5.below (zAS w5 (.cells #[.slice A4 Y.rows.length c4,.slice G4 Y.gens.length gc4] 43))
   have hF6:WF (w.heap.size+3) A G X (w5.alloc (.cells #[.slice A4 Y.rows.length c4,.slice G4 Y.gens.length gc4] 43)) A4 c4 G4 gc4 Y:=((zA HT4).wf.trans hF5 (zA HT4).sz).below (zAS _ _)
   have k0:=zC (zAS w5 (.cells #[.slice A4 Y.rows.length c4,.slice G4 Y.gens.length gc4] 43)) (zC hb5 (zA HY4))
   have n0:(w5.alloc (.cells #[.slice A4 Y.rows.length c4,.slice G4 Y.gens.length gc4] 43)).cell? ⟨w5.heap.size,0,none⟩=some (.slice A4 Y.rows.length c4):=by simp
   have n1:(w5.alloc (.cells #[.slice A4 Y.rows.length c4,.slice G4 Y.gens.length gc4] 43)).cell? ⟨w5.heap.size,1,none⟩=some (.slice G4 Y.gens.length gc4):=by simp
   have lw:w5.heap.size≠w.heap.size:=by have:=h5.sz;omega
   obtain ⟨W6,hW6⟩:∃ W6,W6=w5.alloc (.cells #[.slice A4 Y.rows.length c4,.slice G4 Y.gens.length gc4] 43):=⟨_,rfl⟩
   rw [←hW6] at h6 hF6 k0 n0 n1
   have hW6':w5.alloc (.cells #[.slice A4 Y.rows.length c4,.slice G4 Y.gens.length gc4] 43)=W6:=hW6.symm
   have HW6:=zB hW6'
   have HB6:=zB h6.bx
   have HL6:=zB h6.bel
   have HF6:=zB hF6
   clear hF5 hb5 h5 h6 hF6 hW6 hW6' HAC HT4 HY4 w0 w1 b0 b1 a0 a1 a2 a3
   by_cases he:err=0
   ·subst he
    have HRY:=zB (zA HAR rfl)
    clear HAN HAR
    by_cases hk6:y.k=6
    ·go_upto_region 5 with fail
     rw [zA HW6]
     go_wp2_with (first
      | (refine zG rfl 43 (.tmp 3) (.tmp 29) rfl (w.heap.size+0) 0 [.slice A4 Y.rows.length c4,.slice G4 Y.gens.length gc4] rfl rfl (by simp [Value.oneCell']) size38 ((zA HB6).there 0 rfl 2 rfl) ?_;intro W7 hW;have q1:=(zA HB6).give 0 rfl [.slice A4 Y.rows.length c4,.slice G4 Y.gens.length gc4] rfl;have q3:=zI (w.heap.size+0) (by omega) [.slice A4 Y.rows.length c4,.slice G4 Y.gens.length gc4] 0 _ (zA HL6);have q4:=zAc (k:=0) (o:=0) (vs:=[.slice A4 Y.rows.length c4,.slice G4 Y.gens.length gc4]) (zA HF6) (zA HNB) (by omega);have q5:=(zW (b:=w.heap.size+0) (o:=0) (vs:=[.slice A4 Y.rows.length c4,.slice G4 Y.gens.length gc4]) (p:=⟨wr.heap.size,0,none⟩) (by have:=zA HZR;simp only [ne_eq];omega)).trans k0;rw [←hW] at q1 q3 q4 q5;have HB7:=zB q1;have HL7:=zB q3;have HF7:=zB q4;have k5:=q5;have w0:=(zA HB7).cell 0 rfl 0 rfl;have w1:=(zA HB7).cell 0 rfl 1 rfl;rw [Nat.add_zero] at w0 w1;clear hW q1 q3 q4 q5)
      | (refine zG rfl 43 (.tmp 6) (.tmp 34) rfl (w.heap.size+2) 0 [.slice A4 Y.rows.length c4,.slice G4 Y.gens.length gc4] rfl rfl (by simp [Value.oneCell']) size38 ((zA HB7).there 2 rfl 2 rfl) ?_;intro W8 hW;have q1:=(zA HB7).give 2 rfl [.slice A4 Y.rows.length c4,.slice G4 Y.gens.length gc4] rfl;have q3:=zI (w.heap.size+2) (by omega) [.slice A4 Y.rows.length c4,.slice G4 Y.gens.length gc4] 0 _ (zA HL7);have q4:=zAc (k:=2) (o:=0) (vs:=[.slice A4 Y.rows.length c4,.slice G4 Y.gens.length gc4]) (zA HF7) (zA HNB) (by omega);rw [←hW] at q1 q3 q4;have HB8:=zB q1;have HL8:=zB q3;have HF8:=zB q4;clear hW q1 q3 q4))
     have hR2:=zA HRC
     rw [if_neg (by simp),if_pos hk6] at hR2
     have t0:=(zA HB8).cell 2 rfl 0 rfl
     have t1:=(zA HB8).cell 2 rfl 1 rfl
     refine bodyPost_ret (v:=.tuple #[.agg #[.slice A4 Y.rows.length c4,.slice G4 Y.gens.length gc4],.int .i64 0]) (by simp [results,Tryz.results53,go_sem,t0,t1]) rfl ?_
     rw [hR2]
     exact ⟨A4,c4,G4,gc4,rfl,(zA HF8).le (by omega),zA HL8⟩
    ·go_upto_region 5 with fail
     rw [zA HW6]
     go_wp2_with (refine zG rfl 43 (.tmp 3) (.tmp 29) rfl (w.heap.size+0) 0 [.slice A4 Y.rows.length c4,.slice G4 Y.gens.length gc4] rfl rfl (by simp [Value.oneCell']) size38 ((zA HB6).there 0 rfl 2 rfl) ?_;intro W7 hW;have q1:=(zA HB6).give 0 rfl [.slice A4 Y.rows.length c4,.slice G4 Y.gens.length gc4] rfl;have q3:=zI (w.heap.size+0) (by omega) [.slice A4 Y.rows.length c4,.slice G4 Y.gens.length gc4] 0 _ (zA HL6);have q4:=zAc (k:=0) (o:=0) (vs:=[.slice A4 Y.rows.length c4,.slice G4 Y.gens.length gc4]) (zA HF6) (zA HNB) (by omega);have q5:=(zW (b:=w.heap.size+0) (o:=0) (vs:=[.slice A4 Y.rows.length c4,.slice G4 Y.gens.length gc4]) (p:=⟨wr.heap.size,0,none⟩) (by have:=zA HZR;simp only [ne_eq];omega)).trans k0;rw [←hW] at q1 q3 q4 q5;have HB7:=zB q1;have HL7:=zB q3;have HF7:=zB q4;have k5:=q5;have w0:=(zA HB7).cell 0 rfl 0 rfl;have w1:=(zA HB7).cell 0 rfl 1 rfl;rw [Nat.add_zero] at w0 w1;clear hW q1 q3 q4 q5)
     have hR2:=zA HRC
     rw [if_neg (by simp),if_neg hk6] at hR2
     have HR2:=zB hR2
     clear hR2
     go_roundw
     case rel=>exact ⟨j+1,by omega,by go_num,A4,c4,G4,gc4,Y,⟨zA HB7,zA HL7,zA HF7⟩,zA HRY,zA HR2⟩
     case measure=>simp [intOf];omega
   ·skip
    have hR2:=zA HRC
    rw [if_pos he] at hR2
    have HR2:=zB hR2
    clear hR2 HAN HAR HRC
    have hne:(err == 0)=false:=by simpa using he
    go_upto_region 5 with fail
    rw [zA HW6]
    go_wp2_with (refine zG rfl 43 (.tmp 6) (.tmp 27) rfl (w.heap.size+2) 0 [.slice none 0 0,.slice none 0 0] rfl rfl (by simp [Value.oneCell']) size38 ((zA HB6).there 2 rfl 2 rfl) ?_;intro W8 hW;have q1:=(zA HB6).give 2 rfl [.slice none 0 0,.slice none 0 0] rfl;have q3:=zI (w.heap.size+2) (by omega) [.slice none 0 0,.slice none 0 0] 0 _ (zA HL6);rw [←hW] at q1 q3;have HB8:=zB q1;have HL8:=zB q3;clear hW q1 q3)
    have t0:=(zA HB8).cell 2 rfl 0 rfl
    have t1:=(zA HB8).cell 2 rfl 1 rfl
    refine bodyPost_ret (v:=.tuple #[.agg #[.slice none 0 0,.slice none 0 0],.int .i64 err]) (by simp [results,Tryz.results53,go_sem,t0,t1]) rfl ?_
    rw [zA HR2]
    exact ⟨none,0,none,0,rfl,WF.empty _ _ _ _ _,zA HL8⟩
  ·obtain rfl:j=len:=by omega
   have w0:=hT.bx.cell 0 rfl 0 rfl
   have w1:=hT.bx.cell 0 rfl 1 rfl
   rw [Nat.add_zero] at w0 w1
   have HB7:=zB hT.bx
   have HL7:=zB hT.bel
   have HF7:=zB hT.wf
   have hR2:=hRc
   rw [Nat.sub_self,zAW] at hR2
   have HR2:=zB hR2
   clear hT hRc hR2
   go_wp2_with (refine zG rfl 43 (.tmp 6) (.tmp 34) rfl (w.heap.size+2) 0 [.slice Ac Xc.rows.length cc,.slice Gc Xc.gens.length gcc] rfl rfl (by simp [Value.oneCell']) size38 ((zA HB7).there 2 rfl 2 rfl) ?_;intro W8 hW;have q1:=(zA HB7).give 2 rfl [.slice Ac Xc.rows.length cc,.slice Gc Xc.gens.length gcc] rfl;have q3:=zI (w.heap.size+2) (by omega) [.slice Ac Xc.rows.length cc,.slice Gc Xc.gens.length gcc] 0 _ (zA HL7);have q4:=zAc (k:=2) (o:=0) (vs:=[.slice Ac Xc.rows.length cc,.slice Gc Xc.gens.length gcc]) (zA HF7) (zA HNB) (by omega);rw [←hW] at q1 q3 q4;have HB8:=zB q1;have HL8:=zB q3;have HF8:=zB q4;clear hW q1 q3 q4)
   have t0:=(zA HB8).cell 2 rfl 0 rfl
   have t1:=(zA HB8).cell 2 rfl 1 rfl
   refine bodyPost_ret (v:=.tuple #[.agg #[.slice Ac Xc.rows.length cc,.slice Gc Xc.gens.length gcc],.int .i64 0]) (by simp [results,Tryz.results53,go_sem,t0,t1]) rfl ?_
   rw [zA HR2]
   exact ⟨Ac,cc,Gc,gcc,rfl,(zA HF8).le (by omega),zA HL8⟩
end Go.Proofs.YtnbleebilmghcabGreat
set_option maxHeartbeats 4000000
set_option maxRecDepth 8000
namespace Go.Proofs.YtnbleebilmghcabGreat
open Go Go.RowKit
attribute [local go_sem ↓] Go.wp_at_zero Go.wp_at_succ
theorem zOQ {m al no:Int} {a:Nat→ActI} {len:Nat} (h:(wrF m al no a len).1=0):len≤8:=((zFa m al no a len).1 h).2.1
theorem zFX (a:Nat→ActI) (len:Nat) (l:List (Int×Int)) (j:Nat) (X:Wd) (h:j<l.length):zBa a len (l.drop j) X=if (zAW (l.getD j (0,0)).1 (l.getD j (0,0)).2 a len 0 X).1≠0 then ((zAW (l.getD j (0,0)).1 (l.getD j (0,0)).2 a len 0 X).1,emptyW) else zBa a len (l.drop (j+1)) (zAW (l.getD j (0,0)).1 (l.getD j (0,0)).2 a len 0 X).2:=by
 rw [List.drop_eq_getElem_cons h,zBa,List.getD_eq_getElem?_getD,List.getElem?_eq_getElem h]
 rfl
theorem zLf {W:World} {A:Option Addr} {l:List (Int×Int)} (h:BsAt W A l) {b o:Nat} {vs:List Value} (hb:∀ o',A=some ⟨b,o',none⟩→l.length=0):BsAt (W.setCells b o vs) A l:=fun j hj=>by
 obtain ⟨b',off,e,h1,h2⟩:=h j hj
 have hne:b'≠b:=fun e'=>by
  have:=hb off (by rw [e,e'])
  omega
 exact ⟨b',off,e,(zW hne).trans h1,(zW hne).trans h2⟩
structure OB (w:World) (A G:Option Addr) (X:Wd) (m al no:Int) (sl:Value) (Ac:Option Addr) (cc:Nat) (Gc:Option Addr) (gcc:Nat) (Xc:Wd) (W:World):Prop where
 bx:Bxs w.heap.size [([.slice Ac Xc.rows.length cc,.slice Gc Xc.gens.length gcc],43),([.int .i64 m,.int .i64 al,.int .i64 no,sl],37),([.slice none 0 0,.slice none 0 0],43)] W
 bel:Below w.heap.size w W
 wf:WF (w.heap.size+3) A G X W Ac cc Gc gcc Xc
section
variable {w:World} {A G:Option Addr} {X:Wd} {m al no:Int} {sl:Value} {Ac:Option Addr} {cc:Nat} {Gc:Option Addr} {gcc:Nat} {Xc:Wd} {W W1:World}
theorem OB.below (h:OB w A G X m al no sl Ac cc Gc gcc Xc W) (hb:Below W.heap.size W W1):OB w A G X m al no sl Ac cc Gc gcc Xc W1 :=
 ⟨h.bx.below hb,h.bel.trans (hb.mono h.bel.size),h.wf.below hb⟩
theorem OB.sz (h:OB w A G X m al no sl Ac cc Gc gcc Xc W):w.heap.size+3≤W.heap.size:=by
 have:=h.bx.sz (by simp)
 simpa using this
end
theorem zHb (A:Option Addr) (cap:Nat) (G:Option Addr) (gcap:Nat) (X:Wd) (m al no:Int) (A1:Option Addr) (len acap:Nat) (a:Nat→ActI) (w:World) (hX:WldAt w A cap G gcap X) (hr:RightW X) (hA:ActsAt w A1 len a) (hw:(wrF m al no a len).1≠0) :
  Calls Tryz.prog 26 #[zi A cap G gcap X,zDV m al no A1 len acap] w fun e w'=>e=.returned (.tuple #[zi none 0 none 0 emptyW,.int .i64 (wrF m al no a len).1])∧Below w.heap.size w w':=by
 have hB0:=Bxs.start w [([.slice A X.rows.length cap,.slice G X.gens.length gcap],43),([.int .i64 m,.int .i64 al,.int .i64 no,.slice A1 len acap],37),([.slice none 0 0,.slice none 0 0],43)]
 have hb0:=allocs_below [([.slice A X.rows.length cap,.slice G X.gens.length gcap],43),([.int .i64 m,.int .i64 al,.int .i64 no,.slice A1 len acap],37),([.slice none 0 0,.slice none 0 0],43)] w
 obtain ⟨W0,hW0⟩:∃ W0,W0=zt w [([.slice A X.rows.length cap,.slice G X.gens.length gcap],43),([.int .i64 m,.int .i64 al,.int .i64 no,.slice A1 len acap],37),([.slice none 0 0,.slice none 0 0],43)]:=⟨_,rfl⟩
 rw [←hW0] at hB0 hb0
 have hW0':((w.alloc (.cells #[.slice A X.rows.length cap,.slice G X.gens.length gcap] 43)).alloc (.cells #[.int .i64 m,.int .i64 al,.int .i64 no,.slice A1 len acap] 37)).alloc (.cells #[.slice none 0 0,.slice none 0 0] 43)=W0:=hW0.symm
 have HNB:Hid (∀ k,¬ Blk A G X (w.heap.size+k)):=zB (fun k hb=>by have:=zCG hX hb;omega)
 have hO0:OB w A G X m al no (.slice A1 len acap) A cap G gcap X W0:=⟨hB0,hb0,WF.refl (hX.below hb0)⟩
 have hWR:=zGZ m al no A1 len acap a W0 (hA.below hb0)
 unfold zDV zAX at hWR
 have s0:=hB0.cell 1 rfl 0 rfl
 have s1:=hB0.cell 1 rfl 1 rfl
 have s2:=hB0.cell 1 rfl 2 rfl
 have s3:=hB0.cell 1 rfl 3 rfl
 have HO0:=zB hO0
 have HW0:=zB hW0'
 have HA:=zB hA
 clear hW0 hW0' hB0 hb0 hX hA hO0
 generalize (wrF m al no a len).2=wa at *
 generalize (wrF m al no a len).1=we at *
 have HWR:=zB hWR
 clear hWR
 unfold zi zM zDV emptyW
 go_enter Tryz.func26,Tryz.ntmps26
 go_upto_region 1 with fail
 rw [zA HW0]
 go_wp2_with ((go_at_call 22;refine (zA HWR).mono ?_;rintro e w5 ⟨rfl,hb5⟩;have h5:=(zA HO0).below hb5;have HZ5:=zB h5.sz;have HO6:=zB (h5.below (zAS w5 (.cells #[.int .i64 we,.int .i64 wa] 29)));clear hb5 h5 s0 s1 s2 s3))
 have h0:Bxs w.heap.size [([.slice A X.rows.length cap,.slice G X.gens.length gcap],43),([.int .i64 m,.int .i64 al,.int .i64 no,.slice A1 len acap],37),([.slice none 0 0,.slice none 0 0],43)] (w5.alloc (.cells #[.int .i64 we,.int .i64 wa] 29)).drew∧Below w.heap.size w (w5.alloc (.cells #[.int .i64 we,.int .i64 wa] 29)).drew∧(w5.alloc (.cells #[.int .i64 we,.int .i64 wa] 29)).drew.cell? ⟨w5.heap.size,0,none⟩=some (.int .i64 we):=⟨(zA HO6).bx.below (Below.refl _ _).drew,(zA HO6).bel.drew,by show (w5.alloc _).cell? _=_;simp⟩
 refine zd (fun (γ:Unit) ix v=>(([fun v=>v=.agg #[.slice none 0 0,.slice none 0 0],fun v=>v=.pointer (some ⟨w5.heap.size,0,none⟩),fun v=>v=.int .i64 we,fun _=>True,fun v=>v=.int .i64 we]:List (Value→Prop)).getD ix (fun _=>True)) v) (fun (_:Unit) (_:Nat→Bool) W=>Bxs w.heap.size [([.slice A X.rows.length cap,.slice G X.gens.length gcap],43),([.int .i64 m,.int .i64 al,.int .i64 no,.slice A1 len acap],37),([.slice none 0 0,.slice none 0 0],43)] W∧Below w.heap.size w W∧W.cell? ⟨w5.heap.size,0,none⟩=some (.int .i64 we)) (()) (by kernel_rfl) (by kernel_rfl) (by kernel_rfl) h0 ?hstep ?hend
 case hstep =>
  intro γ ix o ho L ac w1 hD hL hed hcl hout hv
  match ix,ho with
  | 0,ho =>
   simp at ho
   subst ho
   exact .inl ⟨rfl,zF γ _ (by simp [go_sem,Act.eval,-Array.getD_eq_getD_getElem?,]) rfl (hD) (fun _ _ _ _ h=>h)⟩
  | 1,ho =>
   simp at ho
   subst ho
   have e6:ac.tmps.getD 6 undef=.pointer (some ⟨w5.heap.size,0,none⟩):=hout 6 (by decide +kernel)
   exact .inl ⟨rfl,zF γ _ (by simp [go_sem,Act.eval,-Array.getD_eq_getD_getElem?,e6]) rfl (hD) (fun _ _ _ _ h=>h)⟩
  | 2,ho =>
   simp at ho
   subst ho
   have e17:ac.tmps.getD 17 undef=_:=hv 1 17 rfl (by kernel_rfl)
   have c0:=hD.2.2
   exact .inl ⟨rfl,zF γ _ (by simp [go_sem,Act.eval,-Array.getD_eq_getD_getElem?,e17,c0]) rfl (hD) (fun _ _ _ _ h=>h)⟩
  | 3,ho =>
   simp at ho
   subst ho
   have e4:ac.tmps.getD 4 undef=.pointer (some ⟨w.heap.size+2,0,none⟩):=hout 4 (by decide +kernel)
   have e16:ac.tmps.getD 16 undef=_:=hv 0 16 rfl (by kernel_rfl)
   have hg:=hD.1.give 2 rfl [.slice none 0 0,.slice none 0 0] rfl
   exact .inl ⟨rfl,zAu γ 43 (.tmp 4) (.tmp 16) rfl (w.heap.size+2) 0 [.slice none 0 0,.slice none 0 0] (by simp [Act.eval,-Array.getD_eq_getD_getElem?,e4]) (by simp [Act.eval,-Array.getD_eq_getD_getElem?,e16]) (by simp [Value.oneCell']) size38 (hD.1.there 2 rfl 2 rfl) trivial ⟨hg,zI (w.heap.size+2) (by omega) _ 0 _ hD.2.1,(zW (by have:=zA HZ5;simp only [ne_eq];omega)).trans hD.2.2⟩ (fun _ _ _ _ h=>h)⟩
  | 4,ho =>
   simp at ho
   subst ho
   have e18:ac.tmps.getD 18 undef=.int .i64 we:=hv 2 18 rfl (by kernel_rfl)
   exact .inl ⟨rfl,zF γ _ (by simp [go_sem,Act.eval,-Array.getD_eq_getD_getElem?,e18]) rfl (hD) (fun _ _ _ _ h=>h)⟩
  | ix+5,ho=>simp at ho
 case hend =>
  intro γ v L w9 hD hall hv
  have v4:v 4=.int .i64 we:=hv 4 5 rfl
  have HD:=zB hD
  clear hv hall hD h0
  simp only [zu,List.getElem?_cons_zero,List.getElem?_cons_succ,Option.bind_some,List.length_cons,List.length_nil,Nat.reduceAdd,v4]
  clear v4
  go_frame
  go_wp2
  have t0:=(zA HD).1.cell 2 rfl 0 rfl
  have t1:=(zA HD).1.cell 2 rfl 1 rfl
  refine bodyPost_ret (v:=.tuple #[.agg #[.slice none 0 0,.slice none 0 0],.int .i64 we]) (by simp [results,Tryz.results26,go_sem,t0,t1]) rfl ⟨rfl,(zA HD).2.1⟩
theorem zHc (A:Option Addr) (cap:Nat) (G:Option Addr) (gcap:Nat) (X:Wd) (m al no:Int) (A1:Option Addr) (len acap:Nat) (a:Nat→ActI) (w:World) (hX:WldAt w A cap G gcap X) (hr:RightW X) (hA:ActsAt w A1 len a) (hw:(wrF m al no a len).1=0) :
  Calls Tryz.prog 26 #[zi A cap G gcap X,zDV m al no A1 len acap] w fun e w'=>∃ A' c' G' gc',e=.returned (.tuple #[zi A' c' G' gc' (zBa a len (zCv X al no X.rows.length) X).2,.int .i64 (zBa a len (zCv X al no X.rows.length) X).1])∧WF w.heap.size A G X w' A' c' G' gc' (zBa a len (zCv X al no X.rows.length) X).2∧Below w.heap.size w w':=by
 have hl60:=(zk ((zf X).2 hr)).1
 have hlen:=zOQ hw
 have hB0:=Bxs.start w [([.slice A X.rows.length cap,.slice G X.gens.length gcap],43),([.int .i64 m,.int .i64 al,.int .i64 no,.slice A1 len acap],37),([.slice none 0 0,.slice none 0 0],43)]
 have hb0:=allocs_below [([.slice A X.rows.length cap,.slice G X.gens.length gcap],43),([.int .i64 m,.int .i64 al,.int .i64 no,.slice A1 len acap],37),([.slice none 0 0,.slice none 0 0],43)] w
 obtain ⟨W0,hW0⟩:∃ W0,W0=zt w [([.slice A X.rows.length cap,.slice G X.gens.length gcap],43),([.int .i64 m,.int .i64 al,.int .i64 no,.slice A1 len acap],37),([.slice none 0 0,.slice none 0 0],43)]:=⟨_,rfl⟩
 rw [←hW0] at hB0 hb0
 have hW0':((w.alloc (.cells #[.slice A X.rows.length cap,.slice G X.gens.length gcap] 43)).alloc (.cells #[.int .i64 m,.int .i64 al,.int .i64 no,.slice A1 len acap] 37)).alloc (.cells #[.slice none 0 0,.slice none 0 0] 43)=W0:=hW0.symm
 have HNB:Hid (∀ k,¬ Blk A G X (w.heap.size+k)):=zB (fun k hb=>by have:=zCG hX hb;omega)
 have hO0:OB w A G X m al no (.slice A1 len acap) A cap G gcap X W0:=⟨hB0,hb0,WF.refl (hX.below hb0)⟩
 have hWR:=zGZ m al no A1 len acap a W0 (hA.below hb0)
 unfold zDV zAX at hWR
 have s0:=hB0.cell 1 rfl 0 rfl
 have s1:=hB0.cell 1 rfl 1 rfl
 have s2:=hB0.cell 1 rfl 2 rfl
 have s3:=hB0.cell 1 rfl 3 rfl
 have HO0:=zB hO0
 have HW0:=zB hW0'
 have HA:=zB hA
 clear hW0 hW0' hB0 hb0 hX hA hO0
 rw [hw] at hWR
 generalize (wrF m al no a len).2=wa at *
 have HWR:=zB hWR
 have HR:=zB hr
 have hMA:=fun W (hW:WldAt W A cap G gcap X)=>zLD A cap G gcap X al no W (by omega) hW
 unfold zi zM at hMA
 have HMA:=zB hMA
 have hbl:=zGO X al no X.rows.length
 clear hWR hr hMA hw
 obtain ⟨bs,hbs⟩:∃ bs,bs=zCv X al no X.rows.length:=⟨_,rfl⟩
 rw [←hbs] at HMA hbl ⊢
 clear hbs
 obtain ⟨R,hR⟩:∃ R,R=zBa a len bs X:=⟨_,rfl⟩
 rw [←hR]
 have HRR:=zB hR
 clear hR
 unfold zi zM zDV
 go_enter Tryz.func26,Tryz.ntmps26
 go_upto_region 1 with fail
 rw [zA HW0]
 go_wp2_with ((go_at_call 22;refine (zA HWR).mono ?_;rintro e w5 ⟨rfl,hb5⟩;have h6:=(((zA HO0).below hb5).below (zAS w5 (.cells #[.int .i64 0,.int .i64 wa] 29)));have x0:=h6.bx.cell 0 rfl 0 rfl;have x1:=h6.bx.cell 0 rfl 1 rfl;rw [Nat.add_zero] at x0 x1;have x2:=h6.bx.cell 1 rfl 1 rfl;have x3:=h6.bx.cell 1 rfl 2 rfl;have HO6:=zB h6;clear hb5 h6 s0 s1 s2 s3))
 go_at_call 52
 refine (zA HMA _ (zA HO6).wf.at_).mono ?_
 rintro e w7 ⟨v7,rfl,ho7,hb7⟩
 obtain ⟨Ab,cb,rfl,hBs⟩:=zIl ho7
 have HO7:=zB ((zA HO6).below hb7)
 have HBS:=zB hBs
 have HBB:Hid (∀ o',Ab=some ⟨w.heap.size+0,o',none⟩→bs.length=0):=zB (fun o' e=>by
  rcases Nat.eq_zero_or_pos bs.length with h | h
  ·exact h
  ·have h1:=(ho7.lt (w.heap.size+0) (by rw [e];rfl)).1
   have h2:=(zA HO6).sz
   omega)
 clear ho7 hb7 hBs x0 x1 x2 x3 HO6
 go_wp2_with fail
 go_loopw [24] (fun x wr=>∃ j:Nat,j≤bs.length∧x=.int .i64 (j:Int)∧∃ Ac cc Gc gcc Xc,OB w A G X m al no (.slice A1 len acap) Ac cc Gc gcc Xc wr∧BsAt wr Ab bs∧RightW Xc∧R=zBa a len (bs.drop j) Xc) (fun x _=>bs.length - (intOf x).toNat)
 case atStart=>exact ⟨0,Nat.zero_le _,rfl,A,cap,G,gcap,X,zA HO7,zA HBS,zA HR,zA HRR⟩
 case round =>
  clear HO7 HBS HRR HR
  obtain ⟨j,hj,rfl,Ac,cc,Gc,gcc,Xc,hO,hB,hrc,hRc⟩:=hrel
  have hxl:=(zk ((zf Xc).2 hrc)).1
  by_cases hlt:j<bs.length
  ·have j0:(0:Int)≤(j:Int):=by omega
   have j1:(j:Int)<(bs.length:Int):=by omega
   rw [zFX a len bs j Xc hlt] at hRc
   obtain ⟨b,off,hAe,c0,c1⟩:=hB j hlt
   obtain ⟨i,hi⟩:∃ i,i=(bs.getD j (0,0)).1:=⟨_,rfl⟩
   obtain ⟨g,hg⟩:∃ g,g=(bs.getD j (0,0)).2:=⟨_,rfl⟩
   rw [←hi,←hg] at hRc
   rw [←hi] at c0
   rw [←hg] at c1
   obtain ⟨W4,hW4⟩:∃ W4,W4=wr.alloc (.cells #[.int .i64 i,.int .i64 g] 61):=⟨_,rfl⟩
   have hb4:Below wr.heap.size wr W4:=by rw [hW4];exact zAS _ _
   have hO4:=hO.below hb4
   have hTU:=zLx Ac cc Gc gcc Xc i g A1 len acap a W4 (by omega) hO4.wf.at_ hrc hlen ((zA HA).below hO4.bel)
   have hTN:=fun h=>zJz i g a len 0 Xc h
   have hTR:=fun h=>zEE i g a len 0 Xc hrc h
   obtain ⟨Y,hY⟩:∃ Y,Y=(zAW i g a len 0 Xc).2:=⟨_,rfl⟩
   obtain ⟨err,herr⟩:∃ err,err=(zAW i g a len 0 Xc).1:=⟨_,rfl⟩
   rw [←hY,←herr] at hTU hTN hTR hRc
   unfold zi zM zS at hTU
   have w0:=hO4.bx.cell 0 rfl 0 rfl
   have w1:=hO4.bx.cell 0 rfl 1 rfl
   rw [Nat.add_zero] at w0 w1
   have s3:=hO4.bx.cell 1 rfl 3 rfl
   have b0:W4.cell? ⟨wr.heap.size,0,none⟩=some (.int .i64 i):=by rw [hW4];simp
   have b1:W4.cell? ⟨wr.heap.size,1,none⟩=some (.int .i64 g):=by rw [hW4];simp
   have hW4':wr.alloc (.cells #[.int .i64 i,.int .i64 g] 61)=W4:=hW4.symm
   have HW4:=zB hW4'
   have HTU:=zB hTU
   have HTN:=zB hTN
   have HTR:=zB hTR
   have HO4:=zB hO4
   have HB4:=zB (hB.below hb4)
   have HRC:=zB hRc
   have HAL:Hid (0<bs.length→Ab=some ⟨b,off,none⟩):=zB (fun _=>hAe)
   clear hO hO4 hb4 hTU hTN hTR hY herr hW4 hW4' hRc hrc hi hg hB
   subst hAe
   go_upto_region 7 with fail
   rw [zA HW4]
   clear c0 c1
   go_wp2_with fail
   go_at_call 53
   refine (zA HTU).mono ?_
   rintro e w5 ⟨A4,c4,G4,gc4,rfl,hF5,hb5⟩
   have h5:=(zA HO4).below hb5
   have h6:=h5.below (zAS w5 (.cells #[.slice A4 Y.rows.length c4,.slice G4 Y.gens.length gc4] 43))
   have hF6:WF (w.heap.size+3) A G X (w5.alloc (.cells #[.slice A4 Y.rows.length c4,.slice G4 Y.gens.length gc4] 43)) A4 c4 G4 gc4 Y:=((zA HO4).wf.trans hF5 (zA HO4).sz).below (zAS _ _)
   have hB6:=((zA HB4).below hb5).below (zAS w5 (.cells #[.slice A4 Y.rows.length c4,.slice G4 Y.gens.length gc4] 43))
   have n0:(w5.alloc (.cells #[.slice A4 Y.rows.length c4,.slice G4 Y.gens.length gc4] 43)).cell? ⟨w5.heap.size,0,none⟩=some (.slice A4 Y.rows.length c4):=by simp
   have n1:(w5.alloc (.cells #[.slice A4 Y.rows.length c4,.slice G4 Y.gens.length gc4] 43)).cell? ⟨w5.heap.size,1,none⟩=some (.slice G4 Y.gens.length gc4):=by simp
   obtain ⟨W6,hW6⟩:∃ W6,W6=w5.alloc (.cells #[.slice A4 Y.rows.length c4,.slice G4 Y.gens.length gc4] 43):=⟨_,rfl⟩
   rw [←hW6] at h6 hF6 n0 n1 hB6
   have hW6':w5.alloc (.cells #[.slice A4 Y.rows.length c4,.slice G4 Y.gens.length gc4] 43)=W6:=hW6.symm
   have HW6:=zB hW6'
   have HB6:=zB h6.bx
   have HL6:=zB h6.bel
   have HF6:=zB hF6
   have HBS6:=zB hB6
   clear hF5 hb5 h5 h6 hF6 hB6 hW6 hW6' HTU HO4 HB4 w0 w1 b0 b1 s3
   by_cases he:err=0
   ·subst he
    have HRY:=zB (zA HTR rfl)
    clear HTN HTR
    go_upto_region 8 with fail
    rw [zA HW6]
    go_wp2_with (refine zG rfl 43 (.tmp 2) (.tmp 40) rfl (w.heap.size+0) 0 [.slice A4 Y.rows.length c4,.slice G4 Y.gens.length gc4] rfl rfl (by simp [Value.oneCell']) size38 ((zA HB6).there 0 rfl 2 rfl) ?_;intro W7 hW;have q1:=(zA HB6).give 0 rfl [.slice A4 Y.rows.length c4,.slice G4 Y.gens.length gc4] rfl;have q3:=zI (w.heap.size+0) (by omega) [.slice A4 Y.rows.length c4,.slice G4 Y.gens.length gc4] 0 _ (zA HL6);have q4:=zAc (k:=0) (o:=0) (vs:=[.slice A4 Y.rows.length c4,.slice G4 Y.gens.length gc4]) (zA HF6) (zA HNB) (by omega);have q5:=zLf (zA HBS6) (b:=w.heap.size+0) (o:=0) (vs:=[.slice A4 Y.rows.length c4,.slice G4 Y.gens.length gc4]) (zA HBB);rw [←hW] at q1 q3 q4 q5;have HB7:=zB q1;have HL7:=zB q3;have HF7:=zB q4;have HBS7:=zB q5;clear hW q1 q3 q4 q5)
    have hR2:=zA HRC
    rw [if_neg (by simp)] at hR2
    have HR2:=zB hR2
    clear hR2
    go_roundw
    case rel=>exact ⟨j+1,by omega,by go_num,A4,c4,G4,gc4,Y,⟨zA HB7,zA HL7,zA HF7⟩,zA HBS7,zA HRY,zA HR2⟩
    case measure=>simp [intOf];omega
   ·skip
    have hR2:=zA HRC
    rw [if_pos he] at hR2
    have HR2:=zB hR2
    clear hR2 HTN HTR HRC
    have hne:(err == 0)=false:=by simpa using he
    go_upto_region 8 with fail
    rw [zA HW6]
    go_wp2_with (refine zG rfl 43 (.tmp 4) (.tmp 38) rfl (w.heap.size+2) 0 [.slice none 0 0,.slice none 0 0] rfl rfl (by simp [Value.oneCell']) size38 ((zA HB6).there 2 rfl 2 rfl) ?_;intro W8 hW;have q1:=(zA HB6).give 2 rfl [.slice none 0 0,.slice none 0 0] rfl;have q3:=zI (w.heap.size+2) (by omega) [.slice none 0 0,.slice none 0 0] 0 _ (zA HL6);rw [←hW] at q1 q3;have HB8:=zB q1;have HL8:=zB q3;clear hW q1 q3)
    have t0:=(zA HB8).cell 2 rfl 0 rfl
    have t1:=(zA HB8).cell 2 rfl 1 rfl
    refine bodyPost_ret (v:=.tuple #[.agg #[.slice none 0 0,.slice none 0 0],.int .i64 err]) (by simp [results,Tryz.results26,go_sem,t0,t1]) rfl ?_
    rw [zA HR2]
    exact ⟨none,0,none,0,rfl,WF.empty _ _ _ _ _,zA HL8⟩
  ·obtain rfl:j=bs.length:=by omega
   have w0:=hO.bx.cell 0 rfl 0 rfl
   have w1:=hO.bx.cell 0 rfl 1 rfl
   rw [Nat.add_zero] at w0 w1
   have HB7:=zB hO.bx
   have HL7:=zB hO.bel
   have HF7:=zB hO.wf
   have hR2:=hRc
   rw [List.drop_length,zBa] at hR2
   have HR2:=zB hR2
   clear hO hRc hR2 hB
   go_wp2_with (refine zG rfl 43 (.tmp 4) (.tmp 42) rfl (w.heap.size+2) 0 [.slice Ac Xc.rows.length cc,.slice Gc Xc.gens.length gcc] rfl rfl (by simp [Value.oneCell']) size38 ((zA HB7).there 2 rfl 2 rfl) ?_;intro W8 hW;have q1:=(zA HB7).give 2 rfl [.slice Ac Xc.rows.length cc,.slice Gc Xc.gens.length gcc] rfl;have q3:=zI (w.heap.size+2) (by omega) [.slice Ac Xc.rows.length cc,.slice Gc Xc.gens.length gcc] 0 _ (zA HL7);have q4:=zAc (k:=2) (o:=0) (vs:=[.slice Ac Xc.rows.length cc,.slice Gc Xc.gens.length gcc]) (zA HF7) (zA HNB) (by omega);rw [←hW] at q1 q3 q4;have HB8:=zB q1;have HL8:=zB q3;have HF8:=zB q4;clear hW q1 q3 q4)
   have t0:=(zA HB8).cell 2 rfl 0 rfl
   have t1:=(zA HB8).cell 2 rfl 1 rfl
   refine bodyPost_ret (v:=.tuple #[.agg #[.slice Ac Xc.rows.length cc,.slice Gc Xc.gens.length gcc],.int .i64 0]) (by simp [results,Tryz.results26,go_sem,t0,t1]) rfl ?_
   rw [zA HR2]
   exact ⟨Ac,cc,Gc,gcc,rfl,(zA HF8).le (by omega),zA HL8⟩
theorem zKM (A:Option Addr) (cap:Nat) (G:Option Addr) (gcap:Nat) (X:Wd) (m al no:Int) (A1:Option Addr) (len acap:Nat) (a:Nat→ActI) (w:World) (hX:WldAt w A cap G gcap X) (hr:RightW X) (hA:ActsAt w A1 len a) :
  Calls Tryz.prog 26 #[zi A cap G gcap X,zDV m al no A1 len acap] w fun e w'=>∃ A' c' G' gc',e=.returned (.tuple #[zi A' c' G' gc' (zIP X m al no a len).2,.int .i64 (zIP X m al no a len).1])∧WF w.heap.size A G X w' A' c' G' gc' (zIP X m al no a len).2∧Below w.heap.size w w':=by
 unfold zIP
 by_cases h:(wrF m al no a len).1=0
 ·rw [if_neg (by simpa using h)]
  exact zHc A cap G gcap X m al no A1 len acap a w hX hr hA h
 ·rw [if_pos h]
  exact (zHb A cap G gcap X m al no A1 len acap a w hX hr hA h).mono fun e w' ⟨he,hb⟩=>⟨none,0,none,0,he,WF.empty _ _ _ _ _,hb⟩
end Go.Proofs.YtnbleebilmghcabGreat
