/- A drawn region: three systems, a list of them, what comes of it. -/
import Derived.Test.YtnbleebilmghcacGreatMTlMath
set_option linter.all false
namespace Go.Proofs.YtnbleebilmghcacGreat
open Go Go.RowKit
structure G6 where
 g1:Nat
 g2:Nat
 g3:Nat
 gd:Nat
 p12:Nat
 p14:Nat
 h4:List Value
 ca:Option Addr
 cl:Nat
 cc:Nat
def g6:G6:=⟨0,0,0,0,0,0,[],none,0,0⟩
def av6 (γ:G6) (L:Nat→Bool) (g:Nat):Prop:=(L 24=true∧g=γ.p12)∨(L 25=true∧g=γ.p14)
structure R6 (W5:World) (f t:Nat) (es:List Int) (γ:G6) (L:Nat→Bool) (W:World):Prop where
 bel:Below W5.heap.size W5 W
 a1:L 6=true→Foot (Bxs γ.g1 [(zl ⟨2,(t:Int),(f:Int),0⟩,71)]) (av6 γ L) W
 a2:L 11=true→Foot (Bxs γ.g2 [(zl ⟨6,0,0,0⟩,71)]) (av6 γ L) W
 a3:L 16=true→Foot (Bxs γ.g3 [(zl ⟨7,zAE (t:Int),0,0⟩,71)]) (av6 γ L) W
 dd:L 18=true→Foot (Bxs γ.gd [(zAl zAK (blA f t γ.g1 γ.g2 γ.g3),46)]) (av6 γ L) W
 an:L 19=true→γ.h4.length=4∧(∀ v∈γ.h4,v.oneCell'=true)∧γ.cl=3∧∃ b o,γ.ca=some ⟨b,o,none⟩∧Foot (fun W=>∀ (j:Nat) (e:Int),es[j]?=some e→W.cell? ⟨b,o+j*5,none⟩=some (.int .i64 e)) (av6 γ L) W
 b12:L 24=true→W5.heap.size≤γ.p12∧∃ c,c.length=4∧Bxs γ.p12 [(c,31)] W
 b14:L 25=true→W5.heap.size≤γ.p14∧Bxs γ.p14 [([.int .i64 0,.int .i64 0],35)] W
 ne:L 24=true→L 25=true→γ.p12≠γ.p14
theorem Foot.box {W:World} {g:Nat} {c:List Value} {t:TypeId} {av:Nat→Prop} (h:Bxs g [(c,t)] W) (ha:¬ av g):Foot (Bxs g [(c,t)]) av W:=by
 refine ⟨fun k=>k=g,fun k hk=>by subst hk;exact ⟨h.lt (k:=0) rfl,ha⟩,fun W' hW k vs t' hk=>?_⟩
 match k,hk with
 | 0,hk =>
  have:=h 0 vs t' hk
  rw [Nat.add_zero] at this ⊢
  exact (hW g rfl).trans this
 | k+1,hk=>simp at hk
section
variable {W5:World} {f t:Nat} {es:List Int} {γ:G6} {L:Nat→Bool} {W W1:World}
theorem R6.start (W5:World) (f t:Nat) (es:List Int):R6 W5 f t es g6 (fun _=>false) W5.drew :=
 ⟨(Below.refl _ _).drew,fun h=>(by cases h),fun h=>(by cases h),fun h=>(by cases h),fun h=>(by cases h),fun h=>(by cases h),fun h=>(by cases h),fun h=>(by cases h),fun h=>(by cases h)⟩
theorem R6.to {γ':G6} {L':Nat→Bool} (h:R6 W5 f t es γ L W) (hp:γ'.p12=γ.p12∧γ'.p14=γ.p14) (h24:L' 24=L 24) (h25:L' 25=L 25)
  (a1:L' 6=true→Foot (Bxs γ'.g1 [(zl ⟨2,(t:Int),(f:Int),0⟩,71)]) (av6 γ L) W)
  (a2:L' 11=true→Foot (Bxs γ'.g2 [(zl ⟨6,0,0,0⟩,71)]) (av6 γ L) W)
  (a3:L' 16=true→Foot (Bxs γ'.g3 [(zl ⟨7,zAE (t:Int),0,0⟩,71)]) (av6 γ L) W)
  (dd:L' 18=true→Foot (Bxs γ'.gd [(zAl zAK (blA f t γ'.g1 γ'.g2 γ'.g3),46)]) (av6 γ L) W)
  (an:L' 19=true→γ'.h4.length=4∧(∀ v∈γ'.h4,v.oneCell'=true)∧γ'.cl=3∧∃ b o,γ'.ca=some ⟨b,o,none⟩∧Foot (fun W=>∀ (j:Nat) (e:Int),es[j]?=some e→W.cell? ⟨b,o+j*5,none⟩=some (.int .i64 e)) (av6 γ L) W):R6 W5 f t es γ' L' W:=by
 have e:av6 γ' L'=av6 γ L:=by unfold av6;rw [h24,h25,hp.1,hp.2]
 rw [←e] at a1 a2 a3 dd an
 exact ⟨h.bel,a1,a2,a3,dd,an,by rw [h24,hp.1];exact h.b12,by rw [h25,hp.2];exact h.b14,by rw [h24,h25,hp.1,hp.2];exact h.ne⟩
theorem R6.same (h:R6 W5 f t es γ L W) {i:Nat} (hi:i≠6∧i≠11∧i≠16∧i≠18∧i≠19∧i≠24∧i≠25):R6 W5 f t es γ (upd L i) W:=by
 obtain ⟨h1,h2,h3,h4,h5,h6,h7⟩:=hi
 refine h.to ⟨rfl,rfl⟩ (zM (Ne.symm h6)) (zM (Ne.symm h7)) ?_ ?_ ?_ ?_ ?_
 ·rw [zM (Ne.symm h1)];exact h.a1
 ·rw [zM (Ne.symm h2)];exact h.a2
 ·rw [zM (Ne.symm h3)];exact h.a3
 ·rw [zM (Ne.symm h4)];exact h.dd
 ·rw [zM (Ne.symm h5)];exact h.an
theorem R6.below (h:R6 W5 f t es γ L W) (hb:Below W.heap.size W W1):R6 W5 f t es γ L W1 :=
 ⟨h.bel.trans (hb.mono h.bel.size),fun e=>(h.a1 e).keep (Tw.of_below hb),fun e=>(h.a2 e).keep (Tw.of_below hb),fun e=>(h.a3 e).keep (Tw.of_below hb),fun e=>(h.dd e).keep (Tw.of_below hb),
  fun e=>by
   obtain ⟨q1,q2,q3,b,o,q4,q5⟩:=h.an e
   exact ⟨q1,q2,q3,b,o,q4,q5.keep (Tw.of_below hb)⟩,
  fun e=>by
   obtain ⟨q1,c,q2,q3⟩:=h.b12 e
   exact ⟨q1,c,q2,q3.below hb⟩,fun e=>⟨(h.b14 e).1,(h.b14 e).2.below hb⟩,h.ne⟩
theorem R6.fresh (h:R6 W5 f t es γ L W):¬ av6 γ L W.heap.size:=fun e=>by
 rcases e with ⟨e1,e2⟩ | ⟨e1,e2⟩
 ·obtain ⟨_,c,_,q⟩:=h.b12 e1
  have:=q.lt (k:=0) rfl
  omega
 ·have:=(h.b14 e1).2.lt (k:=0) rfl
  omega
theorem R6.mk1 (h:R6 W5 f t es γ L W) (q18:L 18=false):R6 W5 f t es ⟨W.heap.size,γ.g2,γ.g3,γ.gd,γ.p12,γ.p14,γ.h4,γ.ca,γ.cl,γ.cc⟩ (upd L 6) (W.alloc (.cells (zl ⟨2,(t:Int),(f:Int),0⟩).toArray 71)):=by
 have hb:=zAo W (.cells (zl ⟨2,(t:Int),(f:Int),0⟩).toArray 71)
 have h':=h.below hb
 refine h'.to ⟨rfl,rfl⟩ (zM (by decide)) (zM (by decide)) (fun _=>Foot.box (Bxs.start W [(_,71)]) h.fresh) ?_ ?_ ?_ ?_
 ·rw [zM (by decide)];exact h'.a2
 ·rw [zM (by decide)];exact h'.a3
 ·rw [zM (by decide),q18];exact fun e=>(by cases e)
 ·rw [zM (by decide)];exact h'.an
theorem R6.mk2 (h:R6 W5 f t es γ L W) (q18:L 18=false):R6 W5 f t es ⟨γ.g1,W.heap.size,γ.g3,γ.gd,γ.p12,γ.p14,γ.h4,γ.ca,γ.cl,γ.cc⟩ (upd L 11) (W.alloc (.cells (zl ⟨6,0,0,0⟩).toArray 71)):=by
 have hb:=zAo W (.cells (zl ⟨6,0,0,0⟩).toArray 71)
 have h':=h.below hb
 refine h'.to ⟨rfl,rfl⟩ (zM (by decide)) (zM (by decide)) ?_ (fun _=>Foot.box (Bxs.start W [(_,71)]) h.fresh) ?_ ?_ ?_
 ·rw [zM (by decide)];exact h'.a1
 ·rw [zM (by decide)];exact h'.a3
 ·rw [zM (by decide),q18];exact fun e=>(by cases e)
 ·rw [zM (by decide)];exact h'.an
theorem R6.mk3 (h:R6 W5 f t es γ L W) (q18:L 18=false):R6 W5 f t es ⟨γ.g1,γ.g2,W.heap.size,γ.gd,γ.p12,γ.p14,γ.h4,γ.ca,γ.cl,γ.cc⟩ (upd L 16) (W.alloc (.cells (zl ⟨7,zAE (t:Int),0,0⟩).toArray 71)):=by
 have hb:=zAo W (.cells (zl ⟨7,zAE (t:Int),0,0⟩).toArray 71)
 have h':=h.below hb
 refine h'.to ⟨rfl,rfl⟩ (zM (by decide)) (zM (by decide)) ?_ ?_ (fun _=>Foot.box (Bxs.start W [(_,71)]) h.fresh) ?_ ?_
 ·rw [zM (by decide)];exact h'.a1
 ·rw [zM (by decide)];exact h'.a2
 ·rw [zM (by decide),q18];exact fun e=>(by cases e)
 ·rw [zM (by decide)];exact h'.an
theorem R6.mkd (h:R6 W5 f t es γ L W):R6 W5 f t es ⟨γ.g1,γ.g2,γ.g3,W.heap.size,γ.p12,γ.p14,γ.h4,γ.ca,γ.cl,γ.cc⟩ (upd L 18) (W.alloc (.cells (zAl zAK (blA f t γ.g1 γ.g2 γ.g3)).toArray 46)):=by
 have hb:=zAo W (.cells (zAl zAK (blA f t γ.g1 γ.g2 γ.g3)).toArray 46)
 have h':=h.below hb
 refine h'.to ⟨rfl,rfl⟩ (zM (by decide)) (zM (by decide)) ?_ ?_ ?_ (fun _=>Foot.box (Bxs.start W [(_,46)]) h.fresh) ?_
 ·rw [zM (by decide)];exact h'.a1
 ·rw [zM (by decide)];exact h'.a2
 ·rw [zM (by decide)];exact h'.a3
 ·rw [zM (by decide)];exact h'.an
theorem R6.played (h:R6 W5 f t es γ L W) (hb:Below W.heap.size W W1) {h4:List Value} {b o cl cc:Nat} (q1:h4.length=4) (q2:∀ v∈h4,v.oneCell'=true) (q3:cl=3) (hlo:W.heap.size≤b) (hlt:b<W1.heap.size)
  (hc:∀ (j:Nat) (e:Int),es[j]?=some e→W1.cell? ⟨b,o+j*5,none⟩=some (.int .i64 e)):R6 W5 f t es ⟨γ.g1,γ.g2,γ.g3,γ.gd,γ.p12,γ.p14,h4,some ⟨b,o,none⟩,cl,cc⟩ (upd L 19) W1:=by
 have h':=h.below hb
 refine h'.to ⟨rfl,rfl⟩ (zM (by decide)) (zM (by decide)) ?_ ?_ ?_ ?_ (fun _=>⟨q1,q2,q3,b,o,rfl,⟨fun k=>k=b,fun k hk=>?_,fun W' hW j e he=>?_⟩⟩)
 ·rw [zM (by decide)];exact h'.a1
 ·rw [zM (by decide)];exact h'.a2
 ·rw [zM (by decide)];exact h'.a3
 ·rw [zM (by decide)];exact h'.dd
 ·subst hk
  refine ⟨hlt,fun e=>?_⟩
  rcases e with ⟨e1,e2⟩ | ⟨e1,e2⟩
  ·obtain ⟨_,c,_,q⟩:=h.b12 e1
   have:=q.lt (k:=0) rfl
   omega
  ·have:=(h.b14 e1).2.lt (k:=0) rfl
   omega
 ·have:=hc j e he
  unfold World.cell? at this ⊢
  rw [hW b rfl]
  exact this
theorem R6.mk12 (h:R6 W5 f t es γ L W) (hL:L 24=false) {c:List Value} (hc:c.length=4):R6 W5 f t es ⟨γ.g1,γ.g2,γ.g3,γ.gd,W.heap.size,γ.p14,γ.h4,γ.ca,γ.cl,γ.cc⟩ (upd L 24) (W.alloc (.cells c.toArray 31)):=by
 have hb:=zAo W (.cells c.toArray 31)
 have e:∀ j,j≠24→upd L 24 j=L j:=fun j hj=>zM hj
 have key:∀ {Q:World→Prop},Foot Q (av6 γ L) W→Foot Q (av6 ⟨γ.g1,γ.g2,γ.g3,γ.gd,W.heap.size,γ.p14,γ.h4,γ.ca,γ.cl,γ.cc⟩ (upd L 24)) (W.alloc (.cells c.toArray 31)):=fun {Q} hf=>by
  obtain ⟨K,k1,k2⟩:=hf.keep (Tw.of_below hb)
  obtain ⟨K',k1',k2'⟩:=hf
  refine ⟨K',fun g hg=>⟨Nat.lt_of_lt_of_le (k1' g hg).1 hb.size,fun ea=>?_⟩,fun W' hW=>k2' W' fun g hg=>(hW g hg).trans (hb.block g (k1' g hg).1)⟩
  rcases ea with ⟨_,e2⟩ | ⟨e1,e2⟩
  ·have:=(k1' g hg).1
   have e2:g=W.heap.size:=e2
   omega
  ·rw [e 25 (by decide)] at e1
   exact (k1' g hg).2 (.inr ⟨e1,e2⟩)
 refine ⟨h.bel.trans (hb.mono h.bel.size),?_,?_,?_,?_,?_,fun _=>⟨h.bel.size,c,hc,Bxs.start W [(c,31)]⟩,?_,fun _ h5=>?_⟩
 ·rw [e 6 (by decide)];exact fun x=>key (h.a1 x)
 ·rw [e 11 (by decide)];exact fun x=>key (h.a2 x)
 ·rw [e 16 (by decide)];exact fun x=>key (h.a3 x)
 ·rw [e 18 (by decide)];exact fun x=>key (h.dd x)
 ·rw [e 19 (by decide)]
  intro x
  obtain ⟨q1,q2,q3,b,o,q4,q5⟩:=h.an x
  exact ⟨q1,q2,q3,b,o,q4,key q5⟩
 ·rw [e 25 (by decide)];exact fun x=>⟨(h.b14 x).1,(h.b14 x).2.below hb⟩
 ·rw [e 25 (by decide)] at h5
  have:=(h.b14 h5).2.lt (k:=0) rfl
  simp only at *
  omega
theorem R6.mk14 (h:R6 W5 f t es γ L W) (hL:L 25=false):R6 W5 f t es ⟨γ.g1,γ.g2,γ.g3,γ.gd,γ.p12,W.heap.size,γ.h4,γ.ca,γ.cl,γ.cc⟩ (upd L 25) (W.alloc (.cells #[.int .i64 0,.int .i64 0] 35)):=by
 have hb:=zAo W (.cells #[.int .i64 0,.int .i64 0] 35)
 have e:∀ j,j≠25→upd L 25 j=L j:=fun j hj=>zM hj
 have key:∀ {Q:World→Prop},Foot Q (av6 γ L) W→Foot Q (av6 ⟨γ.g1,γ.g2,γ.g3,γ.gd,γ.p12,W.heap.size,γ.h4,γ.ca,γ.cl,γ.cc⟩ (upd L 25)) (W.alloc (.cells #[.int .i64 0,.int .i64 0] 35)):=fun {Q} hf=>by
  obtain ⟨K',k1',k2'⟩:=hf
  refine ⟨K',fun g hg=>⟨Nat.lt_of_lt_of_le (k1' g hg).1 hb.size,fun ea=>?_⟩,fun W' hW=>k2' W' fun g hg=>(hW g hg).trans (hb.block g (k1' g hg).1)⟩
  rcases ea with ⟨e1,e2⟩ | ⟨_,e2⟩
  ·rw [e 24 (by decide)] at e1
   exact (k1' g hg).2 (.inl ⟨e1,e2⟩)
  ·have:=(k1' g hg).1
   have e2:g=W.heap.size:=e2
   omega
 refine ⟨h.bel.trans (hb.mono h.bel.size),?_,?_,?_,?_,?_,?_,fun _=>⟨h.bel.size,Bxs.start W [([.int .i64 0,.int .i64 0],35)]⟩,fun h4 _=>?_⟩
 ·rw [e 6 (by decide)];exact fun x=>key (h.a1 x)
 ·rw [e 11 (by decide)];exact fun x=>key (h.a2 x)
 ·rw [e 16 (by decide)];exact fun x=>key (h.a3 x)
 ·rw [e 18 (by decide)];exact fun x=>key (h.dd x)
 ·rw [e 19 (by decide)]
  intro x
  obtain ⟨q1,q2,q3,b,o,q4,q5⟩:=h.an x
  exact ⟨q1,q2,q3,b,o,q4,key q5⟩
 ·rw [e 24 (by decide)]
  intro x
  obtain ⟨q1,c,q2,q3⟩:=h.b12 x
  exact ⟨q1,c,q2,q3.below hb⟩
 ·rw [e 24 (by decide)] at h4
  obtain ⟨_,c,_,q⟩:=h.b12 h4
  have:=q.lt (k:=0) rfl
  simp only at *
  omega
theorem R6.put12 (h:R6 W5 f t es γ L W) (h24:L 24=true) {c:List Value} (hc:c.length=4):R6 W5 f t es γ L (W.setCells γ.p12 0 c):=by
 obtain ⟨q1,c0,q2,q3⟩:=h.b12 h24
 have ht:Tw (av6 γ L) W (W.setCells γ.p12 0 c):=(Tw.refl _ _).sets (.inl (.inl ⟨h24,rfl⟩))
 refine ⟨zG _ q1 _ _ _ h.bel,fun e=>(h.a1 e).keep ht,fun e=>(h.a2 e).keep ht,fun e=>(h.a3 e).keep ht,fun e=>(h.dd e).keep ht,fun e=>?_,fun _=>⟨q1,c,hc,q3.give 0 rfl c (hc.trans q2.symm)⟩,fun e=>⟨(h.b14 e).1,(h.b14 e).2.turn ?_⟩,h.ne⟩
 ·obtain ⟨q1,q2,q3,b,o,q4,q5⟩:=h.an e
  exact ⟨q1,q2,q3,b,o,q4,q5.keep ht⟩
 ·have:=h.ne h24 e
  simp only [List.length_cons,List.length_nil];omega
theorem R6.put14 (h:R6 W5 f t es γ L W) (h25:L 25=true):R6 W5 f t es γ L (W.setCells γ.p14 0 [.int .i64 0,.int .i64 0]):=by
 obtain ⟨q1,q3⟩:=h.b14 h25
 have ht:Tw (av6 γ L) W (W.setCells γ.p14 0 [.int .i64 0,.int .i64 0]):=(Tw.refl _ _).sets (.inl (.inr ⟨h25,rfl⟩))
 refine ⟨zG _ q1 _ _ _ h.bel,fun e=>(h.a1 e).keep ht,fun e=>(h.a2 e).keep ht,fun e=>(h.a3 e).keep ht,fun e=>(h.dd e).keep ht,fun e=>?_,fun e=>?_,fun _=>⟨q1,q3.give 0 rfl _ rfl⟩,h.ne⟩
 ·obtain ⟨q1,q2,q3,b,o,q4,q5⟩:=h.an e
  exact ⟨q1,q2,q3,b,o,q4,q5.keep ht⟩
 ·obtain ⟨q1,c,q2,q3⟩:=h.b12 e
  refine ⟨q1,c,q2,q3.turn ?_⟩
  have:=h.ne e h25
  simp only [List.length_cons,List.length_nil];omega
end
end Go.Proofs.YtnbleebilmghcacGreat
