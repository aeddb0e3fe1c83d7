/- package house: Play. -/
import Derived.Test.YtnbleebilmghcacGreatH2
set_option linter.all false
set_option maxHeartbeats 2000000
set_option maxRecDepth 8000
namespace Go.Proofs.YtnbleebilmghcacGreat
open Go Go.RowKit
attribute [local go_sem ↓] Go.wp_at_zero Go.wp_at_succ
def zx (d:DoI):List Value:=[.int .i64 d.k,.int .i64 d.has,.int .i64 d.p,.int .i64 d.n,.int .i64 d.i,.int .i64 d.g,.int .i64 d.s.m,.int .i64 d.s.al,.int .i64 d.s.no,.slice d.s.A d.s.len d.s.cap,.int .i64 d.fa,.int .i64 d.fn]
abbrev AnsM:=AnsI×Option Addr×Nat
def zAl (x:AnsM):List Value:=[.int .i64 x.1.e,.int .i64 x.1.i,.int .i64 x.1.g,.slice x.2.1 x.1.bs.length x.2.2,.int .i64 x.1.n]
theorem ansCells_len (x:AnsM):(zAl x).length=5:=rfl
theorem ansCells_one (x:AnsM):∀ u∈zAl x,u.oneCell'=true:=fun u hu=>by
 simp only [zAl,List.mem_cons,List.not_mem_nil,or_false] at hu
 rcases hu with rfl | rfl | rfl | rfl | rfl <;> rfl
theorem info64:(Tryz.prog.info? 64).map (fun i=>(i.zero,i.size,i.bytes))=some (some (.agg #[.int .i64 0,.int .i64 0,.int .i64 0,.slice none 0 0,.int .i64 0]),5,56):=by kernel_rfl
theorem sz53:(Tryz.prog.info? 31).map (·.size)=some 4:=by kernel_rfl
theorem sz54:(Tryz.prog.info? 32).map (·.size)=some 1:=by kernel_rfl
structure DosAt (w:World) (L:Option Addr) (l:List DoI):Prop where
 at_:GAt zx 12 w L l
 acts:∀ d∈l,ActsAt w d.s.A d.s.len d.s.a
theorem DosAt.below {w w1:World} {L:Option Addr} {l:List DoI} (h:DosAt w L l) (hb:Below w.heap.size w w1):DosAt w1 L l:=⟨h.at_.below hb,fun d hd=>(h.acts d hd).below hb⟩
structure AnsAt (w:World) (C:Option Addr) (la:List AnsM):Prop where
 at_:GAt zAl 5 w C la
 bs:∀ x∈la,BsAt w x.2.1 x.1.bs
theorem AnsAt.below {w w1:World} {C:Option Addr} {la:List AnsM} (h:AnsAt w C la) (hb:Below w.heap.size w w1):AnsAt w1 C la:=⟨h.at_.below hb,fun x hx=>(h.bs x hx).below hb⟩
theorem bsAt_own {W:World} {base:Nat} {A:Option Addr} {c:Nat} {l:List (Int×Int)} (h:W.ownsRow base 39 2 (.slice A l.length c) l.length (zd l)):BsAt W A l:=by
 obtain ⟨A',c',e,hb⟩:=bs_own h
 simp only [Value.slice.injEq,true_and] at e
 rw [e.1]
 exact hb
structure PL (w:World) (p:Nat) (M:Option Addr) (mc:Nat) (mods:List ModI) (T:Option Addr) (tc:Nat) (G:Option Addr) (gc:Nat) (SA:Option Addr) (sc:Nat) (CA:Option Addr) (cc:Nat) (X:Wd) (ss:List SysI) (la:List AnsM) (W:World):Prop where
 gh:GH (fun b=>(Value.slice CA la.length cc).ownBlock=some b∨b<w.heap.size+2) p T tc G gc M mc SA sc (.slice CA la.length cc) mods X ss W
 co:W.ownsRow (p+1) 64 5 (.slice CA la.length cc) la.length (zAj zAl la)
 bs:Foot (fun W=>∀ x∈la,BsAt W x.2.1 x.1.bs) (Av p (.slice SA ss.length sc) (fun b=>(Value.slice CA la.length cc).ownBlock=some b∨b<w.heap.size+2)) W
 rb:Bxs w.heap.size [([.slice none 0 0,.slice none 0 0,.slice none 0 0,.slice none 0 0],31),([.int .i64 0,.int .i64 0],35)] W
 bel:Below w.heap.size w W
 lo:w.heap.size+2≤p
section
variable {w:World} {p:Nat} {M:Option Addr} {mc:Nat} {mods:List ModI} {T:Option Addr} {tc:Nat} {G:Option Addr} {gc:Nat} {SA:Option Addr} {sc:Nat} {CA:Option Addr} {cc:Nat} {X:Wd} {ss:List SysI} {la:List AnsM} {W W1:World}
theorem PL.below (h:PL w p M mc mods T tc G gc SA sc CA cc X ss la W) (hb:Below W.heap.size W W1):PL w p M mc mods T tc G gc SA sc CA cc X ss la W1 :=
 ⟨h.gh.below hb,zb h.co hb,h.bs.keep (Tw.of_below hb),h.rb.below hb,h.bel.trans (hb.mono h.bel.size),h.lo⟩
theorem PL.exl (h:PL w p M mc mods T tc G gc SA sc CA cc X ss la W):∀ b,((Value.slice CA la.length cc).ownBlock=some b∨b<w.heap.size+2)→b<W.heap.size:=fun b hb=>hb.elim (fun hb=>(h.co.lt b hb).2) (fun hb=>by have:=h.lo;have:=h.gh.lt;omega)
theorem so_co {e e' size size' n n' base base':Nat} {v v':Value} {xs xs':List Value} {W:World} (h:W.ownsRow base e size v n xs) (h':W.ownsRow base' e' size' v' n' xs') (he:e≠e') {b:Nat} (hb:v.ownBlock=some b):v'.ownBlock≠some b:=fun hc=>by
 rcases zc h h' he with h | h
 ·rw [h] at hb;cases hb
 ·exact h (hb.trans hc.symm)
structure PD (w:World) (p:Nat) (M:Option Addr) (mc:Nat) (mods:List ModI) (T:Option Addr) (tc:Nat) (G:Option Addr) (gc:Nat) (SA:Option Addr) (sc:Nat) (CA:Option Addr) (cc:Nat) (X:Wd) (ss:List SysI) (la:List AnsM) (x:AnsM) (W:World):Prop where
 gh:GH (fun b=>(Value.slice CA la.length cc).ownBlock=some b∨b<w.heap.size+2) p T tc G gc M mc SA sc (.slice CA la.length cc) mods X ss W
 co:W.ownsRow (p+1) 64 5 (.slice CA la.length cc) la.length (zAj zAl la)
 bs:Foot (fun W=>∀ y∈la++[x],BsAt W y.2.1 y.1.bs) (Av p (.slice SA ss.length sc) (fun b=>(Value.slice CA la.length cc).ownBlock=some b∨b<w.heap.size+2)) W
 rb:Bxs w.heap.size [([.slice none 0 0,.slice none 0 0,.slice none 0 0,.slice none 0 0],31),([.int .i64 0,.int .i64 0],35)] W
 bel:Below w.heap.size w W
 lo:w.heap.size+2≤p
theorem PD.below {x:AnsM} (h:PD w p M mc mods T tc G gc SA sc CA cc X ss la x W) (hb:Below W.heap.size W W1):PD w p M mc mods T tc G gc SA sc CA cc X ss la x W1 :=
 ⟨h.gh.below hb,zb h.co hb,h.bs.keep (Tw.of_below hb),h.rb.below hb,h.bel.trans (hb.mono h.bel.size),h.lo⟩
theorem PL.did (h:PL w p M mc mods T tc G gc SA sc CA cc X ss la W) {T':Option Addr} {tc':Nat} {G':Option Addr} {gc':Nat} {SA':Option Addr} {sc':Nat} {X':Wd} {ss':List SysI} {x:AnsM}
  (hg:GH (fun b=>(Value.slice CA la.length cc).ownBlock=some b∨b<w.heap.size+2) p T' tc' G' gc' M mc SA' sc' (.slice CA la.length cc) mods X' ss' W1)
  (ho:W1.ownsRow W.heap.size 39 2 (.slice x.2.1 x.1.bs.length x.2.2) x.1.bs.length (zd x.1.bs))
  (ht:Tw (fun b=>b=p∨(Value.slice SA ss.length sc).ownBlock=some b) W W1)
  (hn:∀ b,(Value.slice SA' ss'.length sc').ownBlock=some b→(Value.slice SA ss.length sc).ownBlock=some b∨W.heap.size≤b):PD w p M mc mods T' tc' G' gc' SA' sc' CA cc X' ss' la x W1:=by
 have hp:=h.gh.lt
 have hco:=own_tw h.co ht (fun b hb hh=>by
  rcases hh with e | e
  ·have:=(h.co.lt b hb).1;omega
  ·exact so_co h.gh.so h.co (by decide) e hb)
 refine ⟨hg,hco,?_,h.rb.tw ht (fun k hk hh=>?_),h.bel.trans ((ht.below (B:=w.heap.size) h.bel.size (fun k hk hh=>?_))),h.lo⟩
 ·have h1:=h.bs.less (av':=fun b=>Av p (.slice SA ss.length sc) (fun b=>(Value.slice CA la.length cc).ownBlock=some b∨b<w.heap.size+2) b∨W.heap.size≤b) (fun b hb hh=>hh.elim id (fun e=>by omega))
  have h2:=h1.keep (ht.mono (fun b _ hb=>.inl (hb.elim (fun e=>.inl e) (fun e=>.inr (.inl e)))))
  have h3:=h2.less (av':=Av p (.slice SA' ss'.length sc') (fun b=>(Value.slice CA la.length cc).ownBlock=some b∨b<w.heap.size+2)) (fun b _ hb=>by
   rcases hb with e | e | e
   ·exact .inl (.inl e)
   ·exact (hn b e).elim (fun e=>.inl (.inr (.inl e))) (fun e=>.inr e)
   ·exact .inl (.inr (.inr e)))
  have h4:Foot (fun W=>BsAt W x.2.1 x.1.bs) (Av p (.slice SA' ss'.length sc') (fun b=>(Value.slice CA la.length cc).ownBlock=some b∨b<w.heap.size+2)) W1:=(Foot.own ho (fun b hb hh=>by
   have hlo:=(ho.lt b hb).1
   rcases hh with e | e | e
   ·omega
   ·exact so_co hg.so ho (by decide) e hb
   ·have:=h.exl b e;omega)).imp (fun W2 h=>bsAt_own h)
  exact (h3.and h4).imp (fun W2 ⟨h1,h2⟩ y hy=>by
   rcases List.mem_append.1 hy with hy | hy
   ·exact h1 y hy
   ·rw [List.mem_singleton] at hy;subst hy;exact h2)
 ·have:=h.lo
  simp only [List.length_cons,List.length_nil] at hk
  rcases hh with e | e
  ·omega
  ·have:=(h.gh.so.lt _ e).1;omega
 ·have:=h.lo
  rcases hh with e | e
  ·omega
  ·have:=(h.gh.so.lt _ e).1;omega
theorem PD.kept {x:AnsM} (h:PD w p M mc mods T tc G gc SA sc CA cc X ss la x W) {g cg:Nat} (ho:W1.ownsRow (p+1) 64 5 (.slice (some ⟨g,0,none⟩) (la.length+1) cg) (la.length+1) (zAj zAl la++zAl x)) (hg:W.grownBy W1 (Value.slice CA la.length cc).ownBlock) (hw:some g=(Value.slice CA la.length cc).ownBlock∨g=W.heap.size) :
  PL w p M mc mods T tc G gc SA sc (some ⟨g,0,none⟩) cg X ss (la++[x]) (W1.setCell ⟨p,4,none⟩ (.slice (some ⟨g,0,none⟩) (la.length+1) cg)):=by
 have hp:=h.gh.lt
 have hl:(la++[x]).length=la.length+1:=by simp
 have hgp:g≠p:=fun e=>by subst e;have:=(ho.lt g rfl).1;omega
 have ht:Tw (fun b=>b=p∨(Value.slice CA la.length cc).ownBlock=some b) W (W1.setCell ⟨p,4,none⟩ (.slice (some ⟨g,0,none⟩) (la.length+1) cg)):=(Tw.of_grown (av:=fun b=>b=p∨(Value.slice CA la.length cc).ownBlock=some b) hg (fun k hk=>.inr hk)).sets (b:=p) (o:=4) (vs:=[.slice (some ⟨g,0,none⟩) (la.length+1) cg]) (.inl (.inl rfl))
 have key:∀ {Q:World→Prop},Foot Q (Av p (.slice SA ss.length sc) (fun b=>(Value.slice CA la.length cc).ownBlock=some b∨b<w.heap.size+2)) W→Foot Q (Av p (.slice SA ss.length sc) (fun b=>(Value.slice (some ⟨g,0,none⟩) (la.length+1) cg).ownBlock=some b∨b<w.heap.size+2)) (W1.setCell ⟨p,4,none⟩ (.slice (some ⟨g,0,none⟩) (la.length+1) cg)):=fun hQ=>by
  have h1:=hQ.less (av':=fun b=>Av p (.slice SA ss.length sc) (fun b=>(Value.slice CA la.length cc).ownBlock=some b∨b<w.heap.size+2) b∨W.heap.size≤b) (fun b hb hh=>hh.elim id (fun e=>by omega))
  have h2:=h1.keep (ht.mono (fun b _ hb=>.inl (hb.elim (fun e=>.inl e) (fun e=>.inr (.inr (.inl e))))))
  refine h2.less (fun b _ hb=>?_)
  rcases hb with e | e | e | e
  ·exact .inl (.inl e)
  ·exact .inl (.inr (.inl e))
  ·have e:=Option.some.inj e
   simp only at e
   subst e
   exact hw.elim (fun e=>.inl (.inr (.inr (.inl e.symm)))) (fun e=>.inr (by omega))
  ·exact .inl (.inr (.inr (.inr e)))
 have hbx1:Bxs p [([.slice T (zL X).length tc,.slice G X.gens.length gc,.slice M mods.length mc,.slice SA ss.length sc,.slice CA la.length cc],82)] W1:=h.gh.bx.tw (Tw.of_grown (av:=fun b=>(Value.slice CA la.length cc).ownBlock=some b) hg (fun k hk=>hk)) (fun k hk e=>by
  simp only [List.length_cons,List.length_nil] at hk
  have:=(h.co.lt _ e).1
  omega)
 have hbx:=hbx1.part 0 rfl 4 [.slice (some ⟨g,0,none⟩) (la.length+1) cg] (by simp)
 rw [Nat.add_zero] at hbx
 refine ⟨⟨by rw [hl];exact hbx,by rw [hl];exact key h.gh.st,by rw [hl];exact key h.gh.md,own_tw h.gh.so ht (fun b hb hh=>?_),by rw [hl];exact key h.gh.ac⟩,?_,by rw [hl];exact key h.bs,h.rb.tw ht (fun k hk hh=>?_),h.bel.trans (ht.below (B:=w.heap.size) h.bel.size (fun k hk hh=>?_)),h.lo⟩
 ·rcases hh with e | e
  ·have:=(h.gh.so.lt b hb).1;omega
  ·exact so_co h.gh.so h.co (by decide) hb e
 ·rw [hl,zBY]
  exact ownsRow_setCell_other ho (a:=⟨p,4,none⟩) (fun e=>hgp (by have e:=Option.some.inj e;simpa using e)) _
 ·have:=h.lo
  simp only [List.length_cons,List.length_nil] at hk
  rcases hh with e | e
  ·omega
  ·have:=(h.co.lt _ e).1;omega
 ·have:=h.lo
  rcases hh with e | e
  ·omega
  ·have:=(h.co.lt _ e).1;omega
end
theorem play_wrong (M:Option Addr) (mc:Nat) (mods:List ModI) (LD:Option Addr) (lc:Nat) (l:List DoI) (w:World) (hM:GAt zi 3 w M mods) (hw:(wmF mods).1≠0) :
  Calls Tryz.prog 13 #[.slice M mods.length mc,.slice LD l.length lc] w fun e w'=>e=.returned (.tuple #[.agg #[.slice none 0 0,.slice none 0 0,.slice none 0 0,.slice none 0 0],.slice none 0 0,.agg #[.int .i64 (wmF mods).1,.int .i64 (wmF mods).2]])∧Below w.heap.size w w':=by
 have hWM:=fun W (hb:Below w.heap.size w W)=>wrongm_any M mc mods W (hM.below hb)
 unfold zAT at hWM
 obtain ⟨f0,hf0⟩:∃ f0,f0=(wmF mods).1:=⟨_,rfl⟩
 obtain ⟨f1,hf1⟩:∃ f1,f1=(wmF mods).2:=⟨_,rfl⟩
 rw [←hf0,←hf1] at hWM ⊢
 rw [←hf0] at hw
 have hne:(f0 == 0)=false:=by simpa using hw
 have HWM:=zB hWM
 clear hWM hM hw hf0 hf1
 obtain ⟨W0,hW0,hbx,hX0⟩:=zw w [([.slice none 0 0,.slice none 0 0,.slice none 0 0,.slice none 0 0],31),([.int .i64 0,.int .i64 0],35)]
 have HW0:Hid ((w.alloc (.cells #[.slice none 0 0,.slice none 0 0,.slice none 0 0,.slice none 0 0] 31)).alloc (.cells #[.int .i64 0,.int .i64 0] 35)=W0):=zB hW0
 clear hW0
 have HL0:=zB hbx
 have HX0:=zB hX0
 clear hbx hX0
 go_enter Tryz.func13,Tryz.ntmps13
 go_upto_region 1 with fail
 rw [zA HW0]
 go_wp2_with fail
 go_at_call 26
 refine (zA HWM W0 (zA HL0)).mono ?_
 rintro e wq ⟨rfl,hb1⟩
 obtain ⟨W2,hW2,hbx,hX2⟩:=zw wq [([.int .i64 f0,.int .i64 f1],35)]
 have HW2:Hid (wq.alloc (.cells #[.int .i64 f0,.int .i64 f1] 35)=W2):=zB hW2
 clear hW2
 have hb12:=hb1.trans (hbx.mono hb1.size)
 have HL2:=zB ((zA HL0).trans (hb12.mono (zA HL0).size))
 have HX2:=zB ((zA HX0).below hb12)
 have hz1:w.heap.size+2≤wq.heap.size:=((zA HX0).below hb1).sz (by simp)
 have HY2:=zB hX2
 have q0:=hX2.cell 0 rfl 0 rfl
 rw [Nat.add_zero] at q0
 clear hb1 hbx hb12 hX2 HX0 HWM
 go_upto_region 2 with fail
 rw [zA HW2]
 have h0:Bxs w.heap.size [([.slice none 0 0,.slice none 0 0,.slice none 0 0,.slice none 0 0],31),(if (fun (_:Nat)=>false) 4=true then [.int .i64 f0,.int .i64 f1] else [.int .i64 0,.int .i64 0],35)] W2.drew∧Bxs wq.heap.size [([.int .i64 f0,.int .i64 f1],35)] W2.drew∧Below w.heap.size w W2.drew:=⟨zA HX2,zA HY2,(zA HL2).drew⟩
 have H0:=zB h0
 clear h0
 go_upto_region 3 with fail
 have h0:=zA H0
 refine za (fun (γ:Unit) ix v=>(([fun v=>v=.agg #[.slice none 0 0,.slice none 0 0,.slice none 0 0,.slice none 0 0],fun v=>v=.agg #[.int .i64 f0,.int .i64 f1],fun _=>True,fun v=>v=.slice none 0 0,fun _=>True]:List (Value→Prop)).getD ix (fun _=>True)) v) (fun (_:Unit) L W=>Bxs w.heap.size [([.slice none 0 0,.slice none 0 0,.slice none 0 0,.slice none 0 0],31),(if L 4=true then [.int .i64 f0,.int .i64 f1] else [.int .i64 0,.int .i64 0],35)] W∧Bxs wq.heap.size [([.int .i64 f0,.int .i64 f1],35)] W∧Below w.heap.size w W) (()) (by kernel_rfl) (by kernel_rfl) (by kernel_rfl) h0 ?hstep ?hend
 case hstep =>
  intro γ ix o ho L ac w1 hD hL hed hcl hout hv
  match ix,ho with
  | 0,ho =>
   simp at ho
   subst ho
   exact .inl ⟨rfl,zE γ (.agg #[.slice none 0 0,.slice none 0 0,.slice none 0 0,.slice none 0 0]) (by simp [go_sem,Act.eval,-Array.getD_eq_getD_getElem?,]) rfl (⟨by rw [zQ (by decide)];exact hD.1,hD.2⟩) (fun _ _ _ _ h=>h)⟩
  | 1,ho =>
   simp at ho
   subst ho
   have e7:ac.tmps.getD 7 undef=.pointer (some ⟨wq.heap.size,0,none⟩):=hout 7 (by decide +kernel)
   have c0:=hD.2.1.cell 0 rfl 0 rfl
   have c1:=hD.2.1.cell 0 rfl 1 rfl
   rw [Nat.add_zero] at c0 c1
   exact .inl ⟨rfl,zE γ (.agg #[.int .i64 f0,.int .i64 f1]) (by simp [go_sem,Act.eval,-Array.getD_eq_getD_getElem?,e7,c0,c1]) rfl (⟨by rw [zQ (by decide)];exact hD.1,hD.2⟩) (fun _ _ _ _ h=>h)⟩
  | 2,ho =>
   simp at ho
   subst ho
   have e4:ac.tmps.getD 4 undef=.pointer (some ⟨w.heap.size,0,none⟩):=hout 4 (by decide +kernel)
   have e17:ac.tmps.getD 17 undef=.agg #[.slice none 0 0,.slice none 0 0,.slice none 0 0,.slice none 0 0]:=hv 0 17 rfl (by kernel_rfl)
   refine .inl ⟨rfl,zBA γ 31 (.tmp 4) (.tmp 17) rfl w.heap.size 0 [.slice none 0 0,.slice none 0 0,.slice none 0 0,.slice none 0 0] (by simp [Act.eval,-Array.getD_eq_getD_getElem?,e4]) (by simp [Act.eval,-Array.getD_eq_getD_getElem?,e17]) (by simp [Value.oneCell']) sz53 (hD.1.there 0 rfl 4 rfl) trivial ⟨?_,hD.2.1.turn (.inl (by omega)),zG _ (Nat.le_refl _) _ _ _ hD.2.2⟩ (fun _ _ _ _ h=>h)⟩
   rw [zQ (by decide)]
   exact hD.1.give 0 rfl [.slice none 0 0,.slice none 0 0,.slice none 0 0,.slice none 0 0] rfl
  | 3,ho =>
   simp at ho
   subst ho
   exact .inl ⟨rfl,zE γ (.slice none 0 0) (by simp [go_sem,Act.eval,-Array.getD_eq_getD_getElem?,]) rfl (⟨by rw [zQ (by decide)];exact hD.1,hD.2⟩) (fun _ _ _ _ h=>h)⟩
  | 4,ho =>
   simp at ho
   subst ho
   have e6:ac.tmps.getD 6 undef=.pointer (some ⟨w.heap.size+1,0,none⟩):=hout 6 (by decide +kernel)
   have e18:ac.tmps.getD 18 undef=.agg #[.int .i64 f0,.int .i64 f1]:=hv 1 18 rfl (by kernel_rfl)
   have h1:=hD.1
   rw [hL] at h1
   refine .inl ⟨rfl,zBA γ 35 (.tmp 6) (.tmp 18) rfl (w.heap.size+1) 0 [.int .i64 f0,.int .i64 f1] (by simp [Act.eval,-Array.getD_eq_getD_getElem?,e6]) (by simp [Act.eval,-Array.getD_eq_getD_getElem?,e18]) (by simp [Value.oneCell']) sz29 (h1.there 1 rfl 2 rfl) trivial ⟨?_,hD.2.1.turn (.inl (by omega)),zG _ (by omega) _ _ _ hD.2.2⟩ (fun _ _ _ _ h=>h)⟩
   rw [zAx]
   exact h1.give 1 rfl [.int .i64 f0,.int .i64 f1] rfl
  | ix+5,ho=>simp at ho
 case hend =>
  intro γ v L w9 hD hall hv
  have v3:v 3=.slice none 0 0:=hv 3 5 rfl
  obtain ⟨hB,_,hE⟩:=hD
  rw [hall 4 (by decide),if_pos rfl] at hB
  have r0:=hB.cell 0 rfl 0 rfl
  have r1:=hB.cell 0 rfl 1 rfl
  have r2:=hB.cell 0 rfl 2 rfl
  have r3:=hB.cell 0 rfl 3 rfl
  have r4:=hB.cell 1 rfl 0 rfl
  have r5:=hB.cell 1 rfl 1 rfl
  rw [Nat.add_zero] at r0 r1 r2 r3
  have HE:=zB hE
  clear hv hall h0 hB hE q0
  simp only [zl,List.getElem?_cons_zero,List.getElem?_cons_succ,Option.bind_some,List.length_cons,List.length_nil,Nat.reduceAdd,v3]
  clear v3
  go_frame
  go_wp2
  refine bodyPost_ret (v:=.tuple #[.agg #[.slice none 0 0,.slice none 0 0,.slice none 0 0,.slice none 0 0],.slice none 0 0,.agg #[.int .i64 f0,.int .i64 f1]]) (by simp [results,Tryz.results13,go_sem,r0,r1,r2,r3,r4,r5]) rfl ⟨rfl,zA HE⟩
theorem play_many (M:Option Addr) (mc:Nat) (mods:List ModI) (LD:Option Addr) (lc:Nat) (l:List DoI) (w:World) (hM:GAt zi 3 w M mods) (hw:wmF mods=(0,0)) (hl:80<l.length) :
  Calls Tryz.prog 13 #[.slice M mods.length mc,.slice LD l.length lc] w fun e w'=>e=.returned (.tuple #[.agg #[.slice none 0 0,.slice none 0 0,.slice none 0 0,.slice none 0 0],.slice none 0 0,.agg #[.int .i64 4,.int .i64 0]])∧Below w.heap.size w w':=by
 have hWM:=fun W (hb:Below w.heap.size w W)=>wrongm_any M mc mods W (hM.below hb)
 unfold zAT at hWM
 have hz:wmF mods=(0,0):=hw
 rw [hz] at hWM
 obtain ⟨f0,hf0⟩:∃ f0:Int,f0=0:=⟨_,rfl⟩
 clear f0 hf0
 have HWM:=zB hWM
 clear hWM hz hw
 have d80:decide ((80:Int)<(l.length:Int))=true:=decide_eq_true (by omega)
 obtain ⟨W0,hW0,hbx,hX0⟩:=zw w [([.slice none 0 0,.slice none 0 0,.slice none 0 0,.slice none 0 0],31),([.int .i64 0,.int .i64 0],35)]
 have HW0:Hid ((w.alloc (.cells #[.slice none 0 0,.slice none 0 0,.slice none 0 0,.slice none 0 0] 31)).alloc (.cells #[.int .i64 0,.int .i64 0] 35)=W0):=zB hW0
 clear hW0
 have HL0:=zB hbx
 have HX0:=zB hX0
 clear hbx hX0
 go_enter Tryz.func13,Tryz.ntmps13
 go_upto_region 1 with fail
 rw [zA HW0]
 go_wp2_with fail
 go_at_call 26
 refine (zA HWM W0 (zA HL0)).mono ?_
 rintro e wq ⟨rfl,hb1⟩
 obtain ⟨W2,hW2,hbx,hX2⟩:=zw wq [([.int .i64 0,.int .i64 0],35)]
 have HW2:Hid (wq.alloc (.cells #[.int .i64 0,.int .i64 0] 35)=W2):=zB hW2
 clear hW2
 have hb12:=hb1.trans (hbx.mono hb1.size)
 have HL2:=zB ((zA HL0).trans (hb12.mono (zA HL0).size))
 have HX2:=zB ((zA HX0).below hb12)
 have hz1:w.heap.size+2≤wq.heap.size:=((zA HX0).below hb1).sz (by simp)
 have HY2:=zB hX2
 have q0:=hX2.cell 0 rfl 0 rfl
 rw [Nat.add_zero] at q0
 clear hb1 hbx hb12 hX2 HX0 HWM
 go_upto_region 2 with fail
 rw [zA HW2]
 go_wp2_with (first
  | (refine zH rfl 31 (.tmp 4) (.tmp 22) rfl w.heap.size 0 [.slice none 0 0,.slice none 0 0,.slice none 0 0,.slice none 0 0] rfl rfl (by simp [Value.oneCell']) sz53 ((zA HX2).there 0 rfl 4 rfl) ?_;intro W3 hW3;have HX3:=zB ((zA HX2).give 0 rfl [.slice none 0 0,.slice none 0 0,.slice none 0 0,.slice none 0 0] rfl);have HE3:=zB (zG (B:=w.heap.size) w.heap.size (Nat.le_refl _) [.slice none 0 0,.slice none 0 0,.slice none 0 0,.slice none 0 0] 0 _ (zA HL2));rw [Nat.add_zero] at HX3;rw [←hW3] at HX3 HE3;clear hW3)
  | (refine zH rfl 35 (.tmp 6) (.tmp 23) rfl (w.heap.size+1) 0 [.int .i64 4,.int .i64 0] rfl rfl (by simp [Value.oneCell']) sz29 ((zA HX3).there 1 rfl 2 rfl) ?_;intro W4 hW4;have HX4:=zB ((zA HX3).give 1 rfl [.int .i64 4,.int .i64 0] rfl);have HE4:=zB (zG (B:=w.heap.size) (w.heap.size+1) (by omega) [.int .i64 4,.int .i64 0] 0 _ (zA HE3));rw [←hW4] at HX4 HE4;clear hW4))
 have hB:=zA HX4
 have r0:=hB.cell 0 rfl 0 rfl
 have r1:=hB.cell 0 rfl 1 rfl
 have r2:=hB.cell 0 rfl 2 rfl
 have r3:=hB.cell 0 rfl 3 rfl
 have r4:=hB.cell 1 rfl 0 rfl
 have r5:=hB.cell 1 rfl 1 rfl
 rw [Nat.add_zero] at r0 r1 r2 r3
 refine bodyPost_ret (v:=.tuple #[.agg #[.slice none 0 0,.slice none 0 0,.slice none 0 0,.slice none 0 0],.slice none 0 0,.agg #[.int .i64 4,.int .i64 0]]) (by simp [results,Tryz.results13,go_sem,r0,r1,r2,r3,r4,r5]) rfl ⟨rfl,zA HE4⟩
end Go.Proofs.YtnbleebilmghcacGreat
