/- Two lists of things to do, each in memory of its own. -/
import Derived.Test.YtnbleebilmghcacGreatTTpFun
set_option linter.all false
namespace Go.Proofs.YtnbleebilmghcacGreat
open Go Go.RowKit
def Act1 (B:Nat) (W:World) (d:DoI):Prop:=d.s=dS∨∃ (g:Nat) (y:ActI),B≤g∧Bxs g [(zAq y,71)] W∧d.s.A=some ⟨g,0,none⟩∧d.s.len=1∧d.s.a=fun _=>y
theorem Act1.acts {B:Nat} {W:World} {d:DoI} (h:Act1 B W d):ActsAt W d.s.A d.s.len d.s.a:=by
 rcases h with h | ⟨g,y,_,hb,h1,h2,h3⟩
 ·rw [h];exact acts_dS W
 ·rw [h1,h2,h3];exact acts_one hb
theorem Act1.below {B:Nat} {W W1:World} {d:DoI} (h:Act1 B W d) (hb:Below W.heap.size W W1):Act1 B W1 d:=by
 rcases h with h | ⟨g,y,h0,hx,h1⟩
 ·exact .inl h
 ·exact .inr ⟨g,y,h0,hx.below hb,h1⟩
theorem row_not_box {W:World} {base size n g t:Nat} {v:Value} {xs c:List Value} (h:W.ownsRow base 46 size v n xs) (hx:Bxs g [(c,t)] W) (ht:t≠46):v.ownBlock≠some g:=fun e=>by
 rcases h.2 with ⟨rfl,_⟩ | ⟨g',cap,cur,rfl,_,hh,_⟩
 ·cases e
 ·have e':g'=g:=Option.some.inj e
  subst e'
  have:=hx 0 _ _ rfl
  rw [Nat.add_zero] at this
  injection hh.symm.trans this with e1
  injection e1 with _ e2 _
  exact ht e2.symm
theorem Act1.grown {B:Nat} {W W1:World} {d:DoI} {base size n:Nat} {v:Value} {xs:List Value} (h:Act1 B W d) (ho:W.ownsRow base 46 size v n xs) (hg:W.grownBy W1 v.ownBlock):Act1 B W1 d:=by
 rcases h with h | ⟨g,y,h0,hx,h1⟩
 ·exact .inl h
 ·refine .inr ⟨g,y,h0,hx.tw (Tw.of_grown (av:=fun b=>v.ownBlock=some b) hg (fun _ h=>h)) (fun k hk=>?_),h1⟩
  simp only [List.length_cons,List.length_nil] at hk
  obtain rfl:k=0:=by omega
  exact row_not_box ho hx (by decide)
structure R2 (B:Nat) (v u:Value) (la lb:List DoI) (W:World):Prop where
 l:W.ownsRow B 46 12 v la.length (zBO zAb la)
 m:W.ownsRow B 46 12 u lb.length (zBO zAb lb)
 ne:∀ b,v.ownBlock=some b→u.ownBlock=some b→False
 a:∀ d∈la,Act1 B W d
 b:∀ d∈lb,Act1 B W d
variable {B:Nat} {v u:Value} {la lb:List DoI} {W W1:World} {d:DoI}
theorem R2.nil (B:Nat) (W:World):R2 B (.slice none 0 0) (.slice none 0 0) [] [] W:=⟨World.ownsRow_nil _ _ _ _,World.ownsRow_nil _ _ _ _,(fun _ h=>by cases h),(fun _ h=>by cases h),(fun _ h=>by cases h)⟩
theorem R2.swap (h:R2 B v u la lb W):R2 B u v lb la W:=⟨h.m,h.l,fun b h1 h2=>h.ne b h2 h1,h.b,h.a⟩
theorem R2.below (h:R2 B v u la lb W) (hb:Below W.heap.size W W1):R2 B v u la lb W1:=⟨zb h.l hb,zb h.m hb,h.ne,fun d hd=>(h.a d hd).below hb,fun d hd=>(h.b d hd).below hb⟩
theorem R2.push (h:R2 B v u la lb W) {g c:Nat} (ho:W1.ownsRow B 46 12 (.slice (some ⟨g,0,none⟩) (la.length+1) c) (la.length+1) (zBO zAb la++zAb d)) (hg:W.grownBy W1 v.ownBlock) (hw:some g=v.ownBlock∨g=W.heap.size) (ha:Act1 B W d):R2 B (.slice (some ⟨g,0,none⟩) (la.length+1) c) u (la++[d]) lb W1:=by
 refine ⟨?_,zCi h.m (Tw.of_grown (av:=fun b=>v.ownBlock=some b) hg (fun _ h=>h)) (fun b h1 h2=>h.ne b h2 h1),fun b h1 h2=>?_,fun x hx=>?_,fun x hx=>(h.b x hx).grown h.l hg⟩
 ·rw [flatC_snoc,List.length_append]
  exact ho
 ·have e:g=b:=Option.some.inj h1
  subst e
  rcases hw with hw | hw
  ·exact h.ne g hw.symm h2
  ·have:=(h.m.lt g h2).2
   omega
 ·rcases List.mem_append.1 hx with hx | hx
  ·exact (h.a x hx).grown h.l hg
  ·rw [List.mem_singleton] at hx
   subst hx
   exact ha.grown h.l hg
theorem R2.dos {A:Option Addr} {c:Nat} (h:R2 B (.slice A la.length c) u la lb W):DosAt W A la:=dos_own h.l (fun d hd=>(h.a d hd).acts)
theorem R2.from (h:R2 B v u la lb W) (hB:B≤W.heap.size) (hg:W.grownBy W1 v.ownBlock):Below B W W1:=zs hg (fun k hk=>(h.l.lt k hk).1) hB
theorem R2.box {g:Nat} {l:List (List Value×TypeId)} (h:R2 B v u la lb W) (hg:W.grownBy W1 v.ownBlock) (hx:Bxs g l W) (ht:∀ x∈l,x.2≠46):Bxs g l W1:=hx.tw (Tw.of_grown (av:=fun b=>v.ownBlock=some b) hg (fun _ h=>h)) (fun k hk=>by
 have e:=List.getElem?_eq_getElem hk
 refine row_not_box (c:=l[k].1) (t:=l[k].2) h.l (fun j vs t hj=>?_) (ht _ (List.getElem_mem hk))
 match j,hj with
 | 0,hj=>injection hj with hj;injection hj with h1 h2;subst h1;subst h2;exact hx k _ _ e
 | j+1,hj=>simp at hj)
theorem R2.cell (hg:W.grownBy W1 v.ownBlock) {b o:Nat} {x:Value} (hc:W.cell? ⟨b,o,none⟩=some x) (hb:v.ownBlock≠some b):W1.cell? ⟨b,o,none⟩=some x:=hg.cell hc (fun e=>hb e.symm)
theorem act1_sys {B:Nat} {W:World} {need:Int} {y:ActI} {g:Nat} (hB:B≤g) (h:Bxs g [(zAq y,71)] W):Act1 B W (sysD need y g):=.inr ⟨g,y,hB,h,rfl,rfl,rfl⟩
theorem act1_tick (B:Nat) (W:World):Act1 B W tickD:=.inl rfl
end Go.Proofs.YtnbleebilmghcacGreat
