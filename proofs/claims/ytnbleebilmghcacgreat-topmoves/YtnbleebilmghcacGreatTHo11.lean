/- package house: Play. -/
import Derived.Test.YtnbleebilmghcacGreatI2
set_option linter.all false
namespace Go.Proofs.YtnbleebilmghcacGreat
open Go Go.RowKit
attribute [local go_sem ↓] Go.wp_at_zero Go.wp_at_succ
def zAb (d:DoI):List Value:=[.int .i64 d.k,.int .i64 d.has,.int .i64 d.p,.int .i64 d.n,.int .i64 d.i,.int .i64 d.g,.int .i64 d.s.m,.int .i64 d.s.al,.int .i64 d.s.no,.slice d.s.A d.s.len d.s.cap,.int .i64 d.fa,.int .i64 d.fn]
abbrev AnsM:=AnsI×Option Addr×Nat
def zAg (x:AnsM):List Value:=[.int .i64 x.1.e,.int .i64 x.1.i,.int .i64 x.1.g,.slice x.2.1 x.1.bs.length x.2.2,.int .i64 x.1.n]
theorem ansCells_len (x:AnsM):(zAg x).length=5:=rfl
theorem ansCells_one (x:AnsM):∀ u∈zAg x,u.oneCell'=true:=fun u hu=>by
 simp only [zAg,List.mem_cons,List.not_mem_nil,or_false] at hu
 rcases hu with rfl | rfl | rfl | rfl | rfl <;> rfl
theorem info64:(Tryz.prog.info? 64).map (fun i=>(i.zero,i.size,i.bytes))=some (some (.agg #[.int .i64 0,.int .i64 0,.int .i64 0,.slice none 0 0,.int .i64 0]),5,56):=by kernel_rfl
theorem sz53:(Tryz.prog.info? 31).map (·.size)=some 4:=by kernel_rfl
theorem sz54:(Tryz.prog.info? 32).map (·.size)=some 1:=by kernel_rfl
structure DosAt (w:World) (L:Option Addr) (l:List DoI):Prop where
 at_:GAt zAb 12 w L l
 acts:∀ d∈l,ActsAt w d.s.A d.s.len d.s.a
theorem DosAt.below {w w1:World} {L:Option Addr} {l:List DoI} (h:DosAt w L l) (hb:Below w.heap.size w w1):DosAt w1 L l:=⟨h.at_.below hb,fun d hd=>(h.acts d hd).below hb⟩
structure AnsAt (w:World) (C:Option Addr) (la:List AnsM):Prop where
 at_:GAt zAg 5 w C la
 bs:∀ x∈la,BsAt w x.2.1 x.1.bs
theorem AnsAt.below {w w1:World} {C:Option Addr} {la:List AnsM} (h:AnsAt w C la) (hb:Below w.heap.size w w1):AnsAt w1 C la:=⟨h.at_.below hb,fun x hx=>(h.bs x hx).below hb⟩
theorem bsAt_own {W:World} {base:Nat} {A:Option Addr} {c:Nat} {l:List (Int×Int)} (h:W.ownsRow base 39 2 (.slice A l.length c) l.length (zc l)):BsAt W A l:=by
 obtain ⟨A',c',e,hb⟩:=bs_own h
 simp only [Value.slice.injEq,true_and] at e
 rw [e.1]
 exact hb
structure PL (w:World) (p:Nat) (M:Option Addr) (mc:Nat) (mods:List ModI) (T:Option Addr) (tc:Nat) (G:Option Addr) (gc:Nat) (SA:Option Addr) (sc:Nat) (CA:Option Addr) (cc:Nat) (X:Wd) (ss:List SysI) (la:List AnsM) (W:World):Prop where
 gh:GH (fun b=>(Value.slice CA la.length cc).ownBlock=some b∨b<w.heap.size+2) p T tc G gc M mc SA sc (.slice CA la.length cc) mods X ss W
 co:W.ownsRow (p+1) 64 5 (.slice CA la.length cc) la.length (zBO zAg la)
 bs:Foot (fun W=>∀ x∈la,BsAt W x.2.1 x.1.bs) (Av p (.slice SA ss.length sc) (fun b=>(Value.slice CA la.length cc).ownBlock=some b∨b<w.heap.size+2)) W
 rb:Bxs w.heap.size [([.slice none 0 0,.slice none 0 0,.slice none 0 0,.slice none 0 0],31),([.int .i64 0,.int .i64 0],35)] W
 bel:Below w.heap.size w W
 lo:w.heap.size+2≤p
section
variable {w:World} {p:Nat} {M:Option Addr} {mc:Nat} {mods:List ModI} {T:Option Addr} {tc:Nat} {G:Option Addr} {gc:Nat} {SA:Option Addr} {sc:Nat} {CA:Option Addr} {cc:Nat} {X:Wd} {ss:List SysI} {la:List AnsM} {W W1:World}
theorem PL.below (h:PL w p M mc mods T tc G gc SA sc CA cc X ss la W) (hb:Below W.heap.size W W1):PL w p M mc mods T tc G gc SA sc CA cc X ss la W1 :=
 ⟨h.gh.below hb,zb h.co hb,h.bs.keep (Tw.of_below hb),h.rb.below hb,h.bel.trans (hb.mono h.bel.size),h.lo⟩
theorem PL.exl (h:PL w p M mc mods T tc G gc SA sc CA cc X ss la W):∀ b,((Value.slice CA la.length cc).ownBlock=some b∨b<w.heap.size+2)→b<W.heap.size:=fun b hb=>hb.elim (fun hb=>(h.co.lt b hb).2) (fun hb=>by have:=h.lo;have:=h.gh.lt;omega)
theorem so_co {e e' size size' n n' base base':Nat} {v v':Value} {xs xs':List Value} {W:World} (h:W.ownsRow base e size v n xs) (h':W.ownsRow base' e' size' v' n' xs') (he:e≠e') {b:Nat} (hb:v.ownBlock=some b):v'.ownBlock≠some b:=fun hc=>by
 rcases za h h' he with h | h
 ·rw [h] at hb;cases hb
 ·exact h (hb.trans hc.symm)
structure PD (w:World) (p:Nat) (M:Option Addr) (mc:Nat) (mods:List ModI) (T:Option Addr) (tc:Nat) (G:Option Addr) (gc:Nat) (SA:Option Addr) (sc:Nat) (CA:Option Addr) (cc:Nat) (X:Wd) (ss:List SysI) (la:List AnsM) (x:AnsM) (W:World):Prop where
 gh:GH (fun b=>(Value.slice CA la.length cc).ownBlock=some b∨b<w.heap.size+2) p T tc G gc M mc SA sc (.slice CA la.length cc) mods X ss W
 co:W.ownsRow (p+1) 64 5 (.slice CA la.length cc) la.length (zBO zAg la)
 bs:Foot (fun W=>∀ y∈la++[x],BsAt W y.2.1 y.1.bs) (Av p (.slice SA ss.length sc) (fun b=>(Value.slice CA la.length cc).ownBlock=some b∨b<w.heap.size+2)) W
 rb:Bxs w.heap.size [([.slice none 0 0,.slice none 0 0,.slice none 0 0,.slice none 0 0],31),([.int .i64 0,.int .i64 0],35)] W
 bel:Below w.heap.size w W
 lo:w.heap.size+2≤p
theorem PD.below {x:AnsM} (h:PD w p M mc mods T tc G gc SA sc CA cc X ss la x W) (hb:Below W.heap.size W W1):PD w p M mc mods T tc G gc SA sc CA cc X ss la x W1 :=
 ⟨h.gh.below hb,zb h.co hb,h.bs.keep (Tw.of_below hb),h.rb.below hb,h.bel.trans (hb.mono h.bel.size),h.lo⟩
theorem PL.did (h:PL w p M mc mods T tc G gc SA sc CA cc X ss la W) {T':Option Addr} {tc':Nat} {G':Option Addr} {gc':Nat} {SA':Option Addr} {sc':Nat} {X':Wd} {ss':List SysI} {x:AnsM}
  (hg:GH (fun b=>(Value.slice CA la.length cc).ownBlock=some b∨b<w.heap.size+2) p T' tc' G' gc' M mc SA' sc' (.slice CA la.length cc) mods X' ss' W1)
  (ho:W1.ownsRow W.heap.size 39 2 (.slice x.2.1 x.1.bs.length x.2.2) x.1.bs.length (zc x.1.bs))
  (ht:Tw (fun b=>b=p∨(Value.slice SA ss.length sc).ownBlock=some b) W W1)
  (hn:∀ b,(Value.slice SA' ss'.length sc').ownBlock=some b→(Value.slice SA ss.length sc).ownBlock=some b∨W.heap.size≤b):PD w p M mc mods T' tc' G' gc' SA' sc' CA cc X' ss' la x W1:=by
 have hp:=h.gh.lt
 have hco:=zCi h.co ht (fun b hb hh=>by
  rcases hh with e | e
  ·have:=(h.co.lt b hb).1;omega
  ·exact so_co h.gh.so h.co (by decide) e hb)
 refine ⟨hg,hco,?_,h.rb.tw ht (fun k hk hh=>?_),h.bel.trans ((ht.below (B:=w.heap.size) h.bel.size (fun k hk hh=>?_))),h.lo⟩
 ·have h1:=h.bs.less (av':=fun b=>Av p (.slice SA ss.length sc) (fun b=>(Value.slice CA la.length cc).ownBlock=some b∨b<w.heap.size+2) b∨W.heap.size≤b) (fun b hb hh=>hh.elim id (fun e=>by omega))
  have h2:=h1.keep (ht.mono (fun b _ hb=>.inl (hb.elim (fun e=>.inl e) (fun e=>.inr (.inl e)))))
  have h3:=h2.less (av':=Av p (.slice SA' ss'.length sc') (fun b=>(Value.slice CA la.length cc).ownBlock=some b∨b<w.heap.size+2)) (fun b _ hb=>by
   rcases hb with e | e | e
   ·exact .inl (.inl e)
   ·exact (hn b e).elim (fun e=>.inl (.inr (.inl e))) (fun e=>.inr e)
   ·exact .inl (.inr (.inr e)))
  have h4:Foot (fun W=>BsAt W x.2.1 x.1.bs) (Av p (.slice SA' ss'.length sc') (fun b=>(Value.slice CA la.length cc).ownBlock=some b∨b<w.heap.size+2)) W1:=(Foot.own ho (fun b hb hh=>by
   have hlo:=(ho.lt b hb).1
   rcases hh with e | e | e
   ·omega
   ·exact so_co hg.so ho (by decide) e hb
   ·have:=h.exl b e;omega)).imp (fun W2 h=>bsAt_own h)
  exact (h3.and h4).imp (fun W2 ⟨h1,h2⟩ y hy=>by
   rcases List.mem_append.1 hy with hy | hy
   ·exact h1 y hy
   ·rw [List.mem_singleton] at hy;subst hy;exact h2)
 ·have:=h.lo
  simp only [List.length_cons,List.length_nil] at hk
  rcases hh with e | e
  ·omega
  ·have:=(h.gh.so.lt _ e).1;omega
 ·have:=h.lo
  rcases hh with e | e
  ·omega
  ·have:=(h.gh.so.lt _ e).1;omega
theorem PD.kept {x:AnsM} (h:PD w p M mc mods T tc G gc SA sc CA cc X ss la x W) {g cg:Nat} (ho:W1.ownsRow (p+1) 64 5 (.slice (some ⟨g,0,none⟩) (la.length+1) cg) (la.length+1) (zBO zAg la++zAg x)) (hg:W.grownBy W1 (Value.slice CA la.length cc).ownBlock) (hw:some g=(Value.slice CA la.length cc).ownBlock∨g=W.heap.size) :
  PL w p M mc mods T tc G gc SA sc (some ⟨g,0,none⟩) cg X ss (la++[x]) (W1.setCell ⟨p,4,none⟩ (.slice (some ⟨g,0,none⟩) (la.length+1) cg)):=by
 have hp:=h.gh.lt
 have hl:(la++[x]).length=la.length+1:=by simp
 have hgp:g≠p:=fun e=>by subst e;have:=(ho.lt g rfl).1;omega
 have ht:Tw (fun b=>b=p∨(Value.slice CA la.length cc).ownBlock=some b) W (W1.setCell ⟨p,4,none⟩ (.slice (some ⟨g,0,none⟩) (la.length+1) cg)):=(Tw.of_grown (av:=fun b=>b=p∨(Value.slice CA la.length cc).ownBlock=some b) hg (fun k hk=>.inr hk)).sets (b:=p) (o:=4) (vs:=[.slice (some ⟨g,0,none⟩) (la.length+1) cg]) (.inl (.inl rfl))
 have key:∀ {Q:World→Prop},Foot Q (Av p (.slice SA ss.length sc) (fun b=>(Value.slice CA la.length cc).ownBlock=some b∨b<w.heap.size+2)) W→Foot Q (Av p (.slice SA ss.length sc) (fun b=>(Value.slice (some ⟨g,0,none⟩) (la.length+1) cg).ownBlock=some b∨b<w.heap.size+2)) (W1.setCell ⟨p,4,none⟩ (.slice (some ⟨g,0,none⟩) (la.length+1) cg)):=fun hQ=>by
  have h1:=hQ.less (av':=fun b=>Av p (.slice SA ss.length sc) (fun b=>(Value.slice CA la.length cc).ownBlock=some b∨b<w.heap.size+2) b∨W.heap.size≤b) (fun b hb hh=>hh.elim id (fun e=>by omega))
  have h2:=h1.keep (ht.mono (fun b _ hb=>.inl (hb.elim (fun e=>.inl e) (fun e=>.inr (.inr (.inl e))))))
  refine h2.less (fun b _ hb=>?_)
  rcases hb with e | e | e | e
  ·exact .inl (.inl e)
  ·exact .inl (.inr (.inl e))
  ·have e:=Option.some.inj e
   simp only at e
   subst e
   exact hw.elim (fun e=>.inl (.inr (.inr (.inl e.symm)))) (fun e=>.inr (by omega))
  ·exact .inl (.inr (.inr (.inr e)))
 have hbx1:Bxs p [([.slice T (zK X).length tc,.slice G X.gens.length gc,.slice M mods.length mc,.slice SA ss.length sc,.slice CA la.length cc],82)] W1:=h.gh.bx.tw (Tw.of_grown (av:=fun b=>(Value.slice CA la.length cc).ownBlock=some b) hg (fun k hk=>hk)) (fun k hk e=>by
  simp only [List.length_cons,List.length_nil] at hk
  have:=(h.co.lt _ e).1
  omega)
 have hbx:=hbx1.part 0 rfl 4 [.slice (some ⟨g,0,none⟩) (la.length+1) cg] (by simp)
 rw [Nat.add_zero] at hbx
 refine ⟨⟨by rw [hl];exact hbx,by rw [hl];exact key h.gh.st,by rw [hl];exact key h.gh.md,zCi h.gh.so ht (fun b hb hh=>?_),by rw [hl];exact key h.gh.ac⟩,?_,by rw [hl];exact key h.bs,h.rb.tw ht (fun k hk hh=>?_),h.bel.trans (ht.below (B:=w.heap.size) h.bel.size (fun k hk hh=>?_)),h.lo⟩
 ·rcases hh with e | e
  ·have:=(h.gh.so.lt b hb).1;omega
  ·exact so_co h.gh.so h.co (by decide) hb e
 ·rw [hl,flatC_snoc]
  exact ownsRow_setCell_other ho (a:=⟨p,4,none⟩) (fun e=>hgp (by have e:=Option.some.inj e;simpa using e)) _
 ·have:=h.lo
  simp only [List.length_cons,List.length_nil] at hk
  rcases hh with e | e
  ·omega
  ·have:=(h.co.lt _ e).1;omega
 ·have:=h.lo
  rcases hh with e | e
  ·omega
  ·have:=(h.co.lt _ e).1;omega
end
end Go.Proofs.YtnbleebilmghcacGreat
