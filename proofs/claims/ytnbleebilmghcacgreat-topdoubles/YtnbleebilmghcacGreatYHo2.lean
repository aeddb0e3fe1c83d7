/- package house: spawn; what is done with a being. -/
import Derived.Test.YtnbleebilmghcacGreatKM
import Derived.Test.YtnbleebilmghcacGreatH1
set_option linter.all false
set_option maxHeartbeats 2000000
set_option maxRecDepth 8000
namespace Go.Proofs.YtnbleebilmghcacGreat
open Go Go.RowKit
attribute [local go_sem ↓] Go.wp_at_zero Go.wp_at_succ
def doV (d:DoI):Value:=.agg #[.int .i64 d.k,.int .i64 d.has,.int .i64 d.p,.int .i64 d.n,.int .i64 d.i,.int .i64 d.g,.int .i64 d.s.m,.int .i64 d.s.al,.int .i64 d.s.no,.slice d.s.A d.s.len d.s.cap,.int .i64 d.fa,.int .i64 d.fn]
def Bec (p:Nat) (u2 u3 u4:Value) (err:Int) (Y:Wd) (w w':World):Prop :=
 if err=0 then ∃ T tc G gc,Bxs p [([.slice T (zL Y).length tc,.slice G Y.gens.length gc,u2,u3,u4],82)] w'∧StNew w.heap.size w' T G (zL Y) Y∧Tw (fun b=>b=p) w w' else Below w.heap.size w w'
theorem tw_same {p:Nat} {us:List Value} {t:TypeId} {w w':World} (h:Tw (fun b=>b=p) w w') (h1:Bxs p [(us,t)] w) (h2:Bxs p [(us,t)] w'):Below w.heap.size w w':=⟨h.os,h.tape,h.output,h.size,fun k hk=>by
 by_cases e:k=p
 ·subst e
  have a:=h1 0 us t rfl
  have b:=h2 0 us t rfl
  rw [Nat.add_zero] at a b
  rw [a,b]
 ·exact h.block k hk e⟩
structure G4 where
 T:Option Addr
 tc:Nat
 G:Option Addr
 gc:Nat
def g4:G4:=⟨none,0,none,0⟩
structure R5 (W0:World) (p c:Nat) (u0 u1 u2 u3 u4:Value) (err:Int) (Y:Wd) (ic ib is:Nat) (γ:G4) (L:Nat→Bool) (W:World):Prop where
 bel:L ib=false→L is=false→Below W0.heap.size W0 W
 st:L ic=true→StNew W0.heap.size W γ.T γ.G (zL Y) Y
 tw:Tw (fun b=>b=p∨b=c) W0 W
 bx:Bxs p [(if L ib=true then (if err=0 then [.slice γ.T (zL Y).length γ.tc,.slice γ.G Y.gens.length γ.gc,u2,u3,u4] else [u0,u1,u2,u3,u4]) else [u0,u1,u2,u3,u4],82)] W
 rb:Bxs c [(if L is=true then [.int .i64 err,.int .i64 0,.int .i64 0,.slice none 0 0,.int .i64 0] else [.int .i64 0,.int .i64 0,.int .i64 0,.slice none 0 0,.int .i64 0],64)] W
section
variable {W0:World} {p c:Nat} {u0 u1 u2 u3 u4:Value} {err:Int} {Y:Wd} {ic ib is:Nat} {γ:G4} {L:Nat→Bool} {W W1:World}
theorem R5.start (h1:Bxs p [([u0,u1,u2,u3,u4],82)] W0) (h2:Bxs c [([.int .i64 0,.int .i64 0,.int .i64 0,.slice none 0 0,.int .i64 0],64)] W0):R5 W0 p c u0 u1 u2 u3 u4 err Y ic ib is g4 (fun _=>false) W0.drew :=
 ⟨fun _ _=>(Below.refl _ _).drew,fun h=>(by cases h),Tw.of_below (Below.refl _ _).drew,h1,h2⟩
theorem R5.same (h:R5 W0 p c u0 u1 u2 u3 u4 err Y ic ib is γ L W) {i:Nat} (h1:i≠ic) (h2:i≠ib) (h3:i≠is):R5 W0 p c u0 u1 u2 u3 u4 err Y ic ib is γ (upd L i) W:=by
 have e:∀ j,j≠i→upd L i j=L j:=fun j hj=>zQ hj
 refine ⟨?_,?_,h.tw,?_,?_⟩
 ·rw [e _ (Ne.symm h2),e _ (Ne.symm h3)];exact h.bel
 ·rw [e _ (Ne.symm h1)];exact h.st
 ·rw [e _ (Ne.symm h2)];exact h.bx
 ·rw [e _ (Ne.symm h3)];exact h.rb
theorem R5.ask (h:R5 W0 p c u0 u1 u2 u3 u4 err Y ic ib is γ L W) (hp:p<W0.heap.size) (n1:ic≠ib) (n2:ic≠is) (hb:L ib=false) (hs:L is=false) {T:Option Addr} {tc:Nat} {G:Option Addr} {gc:Nat} (hN:StNew W.heap.size W1 T G (zL Y) Y) (hW:Below W.heap.size W W1):R5 W0 p c u0 u1 u2 u3 u4 err Y ic ib is ⟨T,tc,G,gc⟩ (upd L ic) W1:=by
 have e:∀ j,j≠ic→upd L ic j=L j:=fun j hj=>zQ hj
 have hb0:=h.bel hb hs
 have hbx:=h.bx
 rw [hb] at hbx
 refine ⟨fun _ _=>hb0.trans (hW.mono hb0.size),fun _=>hN.le hb0.size,h.tw.trans (Tw.of_below (av:=fun b=>b=p∨b=c) hW) (fun _ _ h=>h),?_,?_⟩
 ·rw [e _ (Ne.symm n1),hb];exact hbx.below hW
 ·rw [e _ (Ne.symm n2)];exact h.rb.below hW
theorem R5.bec (h:R5 W0 p c u0 u1 u2 u3 u4 err Y ic ib is γ L W) (hp:p<W0.heap.size) (hc:c<W0.heap.size) (hpc:p≠c) (n1:ib≠ic) (n2:ib≠is) (hi:L ic=true) (hs:L is=false) (hb:L ib=false)
  (hx:Bxs p [(if err=0 then [.slice γ.T (zL Y).length γ.tc,.slice γ.G Y.gens.length γ.gc,u2,u3,u4] else [u0,u1,u2,u3,u4],82)] W1) (ht:Tw (fun b=>b=p) W W1):R5 W0 p c u0 u1 u2 u3 u4 err Y ic ib is γ (upd L ib) W1:=by
 have e:∀ j,j≠ib→upd L ib j=L j:=fun j hj=>zQ hj
 refine ⟨fun h'=>?_,fun _=>(h.st hi).tw ht (fun g hg=>by subst hg;exact hp),h.tw.trans ht (fun _ _ h=>.inl h),?_,?_⟩
 ·rw [zAx] at h';cases h'
 ·rw [zAx];exact hx
 ·rw [e _ (Ne.symm n2)];exact h.rb.tw ht (fun k hk=>by simp at hk;subst hk;exact fun h=>hpc (by simpa using h.symm))
theorem R5.put (h:R5 W0 p c u0 u1 u2 u3 u4 err Y ic ib is γ L W) (hp:p<W0.heap.size) (hc:c<W0.heap.size) (hpc:p≠c) (n1:is≠ic) (n2:is≠ib) (hi:L ic=true) (hb:L ib=true) (hs:L is=false):R5 W0 p c u0 u1 u2 u3 u4 err Y ic ib is γ (upd L is) (W.setCells c 0 [.int .i64 err,.int .i64 0,.int .i64 0,.slice none 0 0,.int .i64 0]):=by
 have e:∀ j,j≠is→upd L is j=L j:=fun j hj=>zQ hj
 have hrb:=h.rb
 rw [hs] at hrb
 have ht:Tw (fun b=>b=p∨b=c) W (W.setCells c 0 [.int .i64 err,.int .i64 0,.int .i64 0,.slice none 0 0,.int .i64 0]):=(Tw.refl _ _).sets (.inl (.inr rfl))
 refine ⟨fun _ h'=>?_,fun _=>(h.st hi).tw ht (fun g hg=>by rcases hg with rfl | rfl <;> assumption),h.tw.sets (.inl (.inr rfl)),?_,?_⟩
 ·rw [zAx] at h';cases h'
 ·rw [e _ (Ne.symm n2)]
  exact h.bx.turn (by simp only [List.length_cons,List.length_nil];omega)
 ·rw [zAx];exact hrb.give 0 rfl _ rfl
theorem R5.done (h:R5 W0 p c u0 u1 u2 u3 u4 err Y ic ib is γ L W) {w:World} (h0:Below w.heap.size w W0) (hc:w.heap.size≤c) (hB:Bxs p [([u0,u1,u2,u3,u4],82)] w) (hi:L ic=true) (hb:L ib=true):Bec p u2 u3 u4 err Y w W:=by
 have ht:Tw (fun b=>b=p) w W:=(Tw.of_below (av:=fun b=>b=p) h0).trans h.tw (fun k hk hh=>by rcases hh with rfl | rfl <;> omega)
 have hbx:=h.bx
 rw [hb] at hbx
 unfold Bec
 by_cases he:err=0
 ·simp only [if_true,if_pos he] at hbx
  rw [if_pos he]
  exact ⟨_,_,_,_,hbx,(h.st hi).le h0.size,ht⟩
 ·simp only [if_true,if_neg he] at hbx
  rw [if_neg he]
  exact tw_same ht hB hbx
end
theorem zCW (p:Nat) (T:Option Addr) (tl tc:Nat) (G:Option Addr) (gl gc:Nat) (err:Int) (u0 u1 u2 u3 u4:Value) (w:World) (hB:Bxs p [([u0,u1,u2,u3,u4],82)] w) :
  Calls Tryz.prog 39 #[.pointer (some ⟨p,0,none⟩),stV T tl tc G gl gc,.int .i64 err] w fun e w'=>e=.returned (.agg #[.int .i64 err,.int .i64 0,.int .i64 0,.slice none 0 0,.int .i64 0])∧Bxs p [(if err=0 then [.slice T tl tc,.slice G gl gc,u2,u3,u4] else [u0,u1,u2,u3,u4],82)] w'∧Tw (fun b=>b=p) w w':=by
 by_cases he:err=0
 ·refine (become_ok p T tl tc G gl gc err u0 u1 u2 u3 u4 w hB he).mono ?_
  rintro e w' ⟨rfl,h1,h2⟩
  rw [if_pos he]
  exact ⟨rfl,h1,h2⟩
 ·refine (become_no p T tl tc G gl gc err u0 u1 u2 u3 u4 w hB he).mono ?_
  rintro e w' ⟨rfl,h1⟩
  rw [if_neg he]
  exact ⟨rfl,hB.below h1,Tw.of_below h1⟩
theorem do_kill (p:Nat) (T:Option Addr) (tc:Nat) (G:Option Addr) (gc:Nat) (u2 u3 u4:Value) (X:Wd) (d:DoI) (w:World) (hB:Bxs p [([.slice T (zL X).length tc,.slice G X.gens.length gc,u2,u3,u4],82)] w) (hS:StAt w T G (zL X) X) (hk:d.k=2) :
  Calls Tryz.prog 28 #[.pointer (some ⟨p,0,none⟩),doV d] w fun e w'=>e=.returned (.agg #[.int .i64 (zAX X d.i d.g).1,.int .i64 0,.int .i64 0,.slice none 0 0,.int .i64 0])∧Bec p u2 u3 u4 (zAX X d.i d.g).1 (zAX X d.i d.g).2 w w':=by
 have hC:=fun W (hb:Below w.heap.size w W)=>skill_any T tc G gc (zL X) X d.i d.g W (hS.below hb)
 unfold stV zT at hC
 obtain ⟨err,herr⟩:∃ err,err=(zAX X d.i d.g).1:=⟨_,rfl⟩
 obtain ⟨Y,hY⟩:∃ Y,Y=(zAX X d.i d.g).2:=⟨_,rfl⟩
 rw [←herr,←hY] at hC ⊢
 have hBE:=fun T' tc' G' gc' W h=>zCW p T' (zL Y).length tc' G' Y.gens.length gc' err (.slice T (zL X).length tc) (.slice G X.gens.length gc) u2 u3 u4 W h
 unfold stV at hBE
 have HC:=zB hC
 have HBE:=zB hBE
 clear hC hBE hS herr hY
 obtain ⟨W0,hW0,hbx,hX0⟩:=zw w [([.int .i64 d.k,.int .i64 d.has,.int .i64 d.p,.int .i64 d.n,.int .i64 d.i,.int .i64 d.g,.int .i64 d.s.m,.int .i64 d.s.al,.int .i64 d.s.no,.slice d.s.A d.s.len d.s.cap,.int .i64 d.fa,.int .i64 d.fn],46),([.int .i64 0,.int .i64 0,.int .i64 0,.slice none 0 0,.int .i64 0],64)]
 have HW0:Hid ((w.alloc (.cells #[.int .i64 d.k,.int .i64 d.has,.int .i64 d.p,.int .i64 d.n,.int .i64 d.i,.int .i64 d.g,.int .i64 d.s.m,.int .i64 d.s.al,.int .i64 d.s.no,.slice d.s.A d.s.len d.s.cap,.int .i64 d.fa,.int .i64 d.fn] 46)).alloc (.cells #[.int .i64 0,.int .i64 0,.int .i64 0,.slice none 0 0,.int .i64 0] 64)=W0):=zB hW0
 clear hW0
 have hp:p<w.heap.size:=hB.lt (k:=0) rfl
 have hsz:w.heap.size+2≤W0.heap.size:=hX0.sz (by simp)
 have hP0:=hB.below hbx
 have HB:=zB hB
 have HL0:=zB hbx
 have hR0:Bxs (w.heap.size+1) [([.int .i64 0,.int .i64 0,.int .i64 0,.slice none 0 0,.int .i64 0],64)] W0:=fun k vs t hk=>by
  match k,hk with
  | 0,hk=>have:=hX0 1 vs t hk;simpa using this
  | k+1,hk=>simp at hk
 have h0:R5 W0 p (w.heap.size+1) (.slice T (zL X).length tc) (.slice G X.gens.length gc) u2 u3 u4 err Y 8 11 12 g4 (fun _=>false) W0.drew:=R5.start hP0 hR0
 have HX0:=zB hX0
 have HP0:=zB hP0
 have z0:=hX0.cell 0 rfl 0 rfl
 rw [Nat.add_zero,hk] at z0
 clear hk
 clear hbx hX0 hB hP0 hR0
 unfold doV
 go_enter Tryz.func28,Tryz.ntmps28
 go_upto_region 1 with fail
 rw [zA HW0]
 have H0:=zB h0
 clear h0
 go_upto_region 5 with fail
 have h0:=zA H0
 refine za (fun (γ:G4) ix v=>if ix=8 then v=.tuple #[.agg #[.slice γ.T (zL Y).length γ.tc,.slice γ.G Y.gens.length γ.gc],.int .i64 err] else if ix=9 then v=.agg #[.slice γ.T (zL Y).length γ.tc,.slice γ.G Y.gens.length γ.gc] else (([fun v=>v=.pointer (some ⟨p,0,none⟩),fun v=>v=.pointer (some ⟨p,0,none⟩),fun v=>v=.pointer (some ⟨p,0,none⟩),fun v=>v=.pointer (some ⟨p,0,none⟩),fun v=>v=.pointer (some ⟨p,0,none⟩),fun v=>v=.agg #[.slice T (zL X).length tc,.slice G X.gens.length gc],fun v=>v=.pointer (some ⟨w.heap.size,4,none⟩),fun v=>v=.agg #[.int .i64 d.i,.int .i64 d.g],fun _=>True,fun _=>True,fun v=>v=.int .i64 err,fun v=>v=.agg #[.int .i64 err,.int .i64 0,.int .i64 0,.slice none 0 0,.int .i64 0],fun _=>True]:List (Value→Prop)).getD ix (fun _=>True)) v) (fun (γ:G4) L W=>R5 W0 p (w.heap.size+1) (.slice T (zL X).length tc) (.slice G X.gens.length gc) u2 u3 u4 err Y 8 11 12 γ L W) (g4) (by kernel_rfl) (by kernel_rfl) (by kernel_rfl) h0 ?hstep ?hend
 case hstep =>
  intro γ ix o ho L ac w1 hD hL hed hcl hout hv
  match ix,ho with
  | 0,ho =>
   simp at ho
   subst ho
   have e0:ac.tmps.getD 0 undef=.pointer (some ⟨p,0,none⟩):=hout 0 (by decide +kernel)
   exact .inl ⟨rfl,zE γ (.pointer (some ⟨p,0,none⟩)) (by simp [go_sem,Act.eval,-Array.getD_eq_getD_getElem?,e0]) rfl (hD.same (by decide) (by decide) (by decide)) (fun _ _ _ _ h=>h)⟩
  | 1,ho =>
   simp at ho
   subst ho
   have e0:ac.tmps.getD 0 undef=.pointer (some ⟨p,0,none⟩):=hout 0 (by decide +kernel)
   exact .inl ⟨rfl,zE γ (.pointer (some ⟨p,0,none⟩)) (by simp [go_sem,Act.eval,-Array.getD_eq_getD_getElem?,e0]) rfl (hD.same (by decide) (by decide) (by decide)) (fun _ _ _ _ h=>h)⟩
  | 2,ho =>
   simp at ho
   subst ho
   have e18:ac.tmps.getD 18 undef=.pointer (some ⟨p,0,none⟩):=hv 1 18 rfl (by kernel_rfl)
   exact .inl ⟨rfl,zE γ (.pointer (some ⟨p,0,none⟩)) (by simp [go_sem,Act.eval,-Array.getD_eq_getD_getElem?,e18]) rfl (hD.same (by decide) (by decide) (by decide)) (fun _ _ _ _ h=>h)⟩
  | 3,ho =>
   simp at ho
   subst ho
   have e19:ac.tmps.getD 19 undef=.pointer (some ⟨p,0,none⟩):=hv 2 19 rfl (by kernel_rfl)
   exact .inl ⟨rfl,zE γ (.pointer (some ⟨p,0,none⟩)) (by simp [go_sem,Act.eval,-Array.getD_eq_getD_getElem?,e19]) rfl (hD.same (by decide) (by decide) (by decide)) (fun _ _ _ _ h=>h)⟩
  | 4,ho =>
   simp at ho
   subst ho
   have e20:ac.tmps.getD 20 undef=.pointer (some ⟨p,0,none⟩):=hv 3 20 rfl (by kernel_rfl)
   exact .inl ⟨rfl,zE γ (.pointer (some ⟨p,0,none⟩)) (by simp [go_sem,Act.eval,-Array.getD_eq_getD_getElem?,e20]) rfl (hD.same (by decide) (by decide) (by decide)) (fun _ _ _ _ h=>h)⟩
  | 5,ho =>
   simp at ho
   subst ho
   have e21:ac.tmps.getD 21 undef=.pointer (some ⟨p,0,none⟩):=hv 4 21 rfl (by kernel_rfl)
   have q8:L 8=false:=by
    cases h:L 8
    ·rfl
    ·exact absurd (hcl 8 _ rfl h 5 (by kernel_rfl)) (by rw [hL];decide)
   have q11:L 11=false:=by
    cases h:L 11
    ·rfl
    ·exact absurd (hcl 11 _ rfl h 8 (by kernel_rfl)) (by rw [q8];decide)
   have q12:L 12=false:=by
    cases h:L 12
    ·rfl
    ·exact absurd (hcl 12 _ rfl h 11 (by kernel_rfl)) (by rw [q11];decide)
   have bb:=hD.bx
   rw [q11] at bb
   have c0:=bb.cell 0 rfl 0 rfl
   have c1:=bb.cell 0 rfl 1 rfl
   rw [Nat.add_zero] at c0 c1
   exact .inl ⟨rfl,zE γ (.agg #[.slice T (zL X).length tc,.slice G X.gens.length gc]) (by simp [go_sem,Act.eval,-Array.getD_eq_getD_getElem?,e21,c0,c1]) rfl (hD.same (by decide) (by decide) (by decide)) (fun _ _ _ _ h=>h)⟩
  | 6,ho =>
   simp at ho
   subst ho
   have e3:ac.tmps.getD 3 undef=.pointer (some ⟨w.heap.size,0,none⟩):=hout 3 (by decide +kernel)
   exact .inl ⟨rfl,zE γ (.pointer (some ⟨w.heap.size,4,none⟩)) (by simp [go_sem,Act.eval,-Array.getD_eq_getD_getElem?,e3]) rfl (hD.same (by decide) (by decide) (by decide)) (fun _ _ _ _ h=>h)⟩
  | 7,ho =>
   simp at ho
   subst ho
   have e23:ac.tmps.getD 23 undef=.pointer (some ⟨w.heap.size,4,none⟩):=hv 6 23 rfl (by kernel_rfl)
   have q8:L 8=false:=by
    cases h:L 8
    ·rfl
    ·exact absurd (hcl 8 _ rfl h 7 (by kernel_rfl)) (by rw [hL];decide)
   have q11:L 11=false:=by
    cases h:L 11
    ·rfl
    ·exact absurd (hcl 11 _ rfl h 8 (by kernel_rfl)) (by rw [q8];decide)
   have q12:L 12=false:=by
    cases h:L 12
    ·rfl
    ·exact absurd (hcl 12 _ rfl h 11 (by kernel_rfl)) (by rw [q11];decide)
   have bb:=(zA HX0).below (hD.bel q11 q12)
   have c4:=bb.cell 0 rfl 4 rfl
   have c5:=bb.cell 0 rfl 5 rfl
   rw [Nat.add_zero] at c4 c5
   exact .inl ⟨rfl,zE γ (.agg #[.int .i64 d.i,.int .i64 d.g]) (by simp [go_sem,Act.eval,-Array.getD_eq_getD_getElem?,e23,c4,c5]) rfl (hD.same (by decide) (by decide) (by decide)) (fun _ _ _ _ h=>h)⟩
  | 8,ho =>
   simp at ho
   subst ho
   have e22:ac.tmps.getD 22 undef=.agg #[.slice T (zL X).length tc,.slice G X.gens.length gc]:=hv 5 22 rfl (by kernel_rfl)
   have e24:ac.tmps.getD 24 undef=.agg #[.int .i64 d.i,.int .i64 d.g]:=hv 7 24 rfl (by kernel_rfl)
   have q11:L 11=false:=by
    cases h:L 11
    ·rfl
    ·exact absurd (hcl 11 _ rfl h 8 (by kernel_rfl)) (by rw [hL];decide)
   have q12:L 12=false:=by
    cases h:L 12
    ·rfl
    ·exact absurd (hcl 12 _ rfl h 11 (by kernel_rfl)) (by rw [q11];decide)
   have q9:L 9=false:=by
    cases h:L 9
    ·rfl
    ·exact absurd (hcl 9 _ rfl h 8 (by kernel_rfl)) (by rw [hL];decide)
   refine .inl ⟨rfl,zAC 40 #[.agg #[.slice T (zL X).length tc,.slice G X.gens.length gc],.agg #[.int .i64 d.i,.int .i64 d.g]] (by simp [go_sem,Act.eval,-Array.getD_eq_getD_getElem?,e22,e24]) ?_⟩
   refine (zA HC w1 ((zA HL0).trans ((hD.bel q11 q12).mono (zA HL0).size))).mono ?_
   rintro e w6' ⟨T6,tc6,G6,gc6,rfl,hN6,hb6⟩
   exact ⟨_,⟨T6,tc6,G6,gc6⟩,rfl,rfl,hD.ask (by omega) (by decide) (by decide) q11 q12 hN6 hb6,fun j u hj hLj h=>by
    by_cases e:j=9
    ·subst e;rw [q9] at hLj;cases hLj
    ·simpa [hj,e] using h⟩
  | 9,ho =>
   simp at ho
   subst ho
   have e25:ac.tmps.getD 25 undef=.tuple #[.agg #[.slice γ.T (zL Y).length γ.tc,.slice γ.G Y.gens.length γ.gc],.int .i64 err]:=hv 8 25 rfl (by kernel_rfl)
   exact .inl ⟨rfl,zE γ (.agg #[.slice γ.T (zL Y).length γ.tc,.slice γ.G Y.gens.length γ.gc]) (by simp [go_sem,Act.eval,-Array.getD_eq_getD_getElem?,e25]) rfl (hD.same (by decide) (by decide) (by decide)) (fun _ _ _ _ h=>h)⟩
  | 10,ho =>
   simp at ho
   subst ho
   have e25:ac.tmps.getD 25 undef=.tuple #[.agg #[.slice γ.T (zL Y).length γ.tc,.slice γ.G Y.gens.length γ.gc],.int .i64 err]:=hv 8 25 rfl (by kernel_rfl)
   exact .inl ⟨rfl,zE γ (.int .i64 err) (by simp [go_sem,Act.eval,-Array.getD_eq_getD_getElem?,e25]) rfl (hD.same (by decide) (by decide) (by decide)) (fun _ _ _ _ h=>h)⟩
  | 11,ho =>
   simp at ho
   subst ho
   have e17:ac.tmps.getD 17 undef=.pointer (some ⟨p,0,none⟩):=hv 0 17 rfl (by kernel_rfl)
   have e26:ac.tmps.getD 26 undef=.agg #[.slice γ.T (zL Y).length γ.tc,.slice γ.G Y.gens.length γ.gc]:=hv 9 26 rfl (by kernel_rfl)
   have e27:ac.tmps.getD 27 undef=.int .i64 err:=hv 10 27 rfl (by kernel_rfl)
   have q12:L 12=false:=by
    cases h:L 12
    ·rfl
    ·exact absurd (hcl 12 _ rfl h 11 (by kernel_rfl)) (by rw [hL];decide)
   have q8:L 8=true:=hcl 9 _ rfl (hed 9 (by kernel_rfl)) 8 (by kernel_rfl)
   have hbx:=hD.bx
   rw [hL] at hbx
   refine .inl ⟨rfl,zAC 39 #[.pointer (some ⟨p,0,none⟩),.agg #[.slice γ.T (zL Y).length γ.tc,.slice γ.G Y.gens.length γ.gc],.int .i64 err] (by simp [go_sem,Act.eval,-Array.getD_eq_getD_getElem?,e17,e26,e27]) ?_⟩
   refine (zA HBE γ.T γ.tc γ.G γ.gc w1 hbx).mono ?_
   rintro e w6' ⟨rfl,h1,h2⟩
   exact ⟨_,γ,rfl,rfl,hD.bec (by omega) (by omega) (by omega) (by decide) (by decide) q8 q12 hL h1 h2,fun _ _ _ _ h=>h⟩
  | 12,ho =>
   simp at ho
   subst ho
   have e4:ac.tmps.getD 4 undef=.pointer (some ⟨w.heap.size+1,0,none⟩):=hout 4 (by decide +kernel)
   have e28:ac.tmps.getD 28 undef=.agg #[.int .i64 err,.int .i64 0,.int .i64 0,.slice none 0 0,.int .i64 0]:=hv 11 28 rfl (by kernel_rfl)
   have q11:L 11=true:=hed 11 (by kernel_rfl)
   have q8:L 8=true:=hcl 9 _ rfl (hcl 11 _ rfl q11 9 (by kernel_rfl)) 8 (by kernel_rfl)
   have hrb:=hD.rb
   rw [hL] at hrb
   exact .inl ⟨rfl,zBA γ 64 (.tmp 4) (.tmp 28) rfl (w.heap.size+1) 0 [.int .i64 err,.int .i64 0,.int .i64 0,.slice none 0 0,.int .i64 0] (by simp [Act.eval,-Array.getD_eq_getD_getElem?,e4]) (by simp [Act.eval,-Array.getD_eq_getD_getElem?,e28]) (by simp [Value.oneCell']) sz64 (hrb.there 0 rfl 5 rfl) trivial (hD.put (by omega) (by omega) (by omega) (by decide) (by decide) q8 q11 hL) (fun _ _ _ _ h=>h)⟩
  | ix+13,ho=>simp at ho
 case hend =>
  intro γ v L w9 hD hall hv
  have a1:=hall 8 (by decide)
  have a2:=hall 11 (by decide)
  have a3:=hall 12 (by decide)
  have hrb:=hD.rb
  rw [a3,if_pos rfl] at hrb
  have r0:=hrb.cell 0 rfl 0 rfl
  have r1:=hrb.cell 0 rfl 1 rfl
  have r2:=hrb.cell 0 rfl 2 rfl
  have r3:=hrb.cell 0 rfl 3 rfl
  have r4:=hrb.cell 0 rfl 4 rfl
  rw [Nat.add_zero] at r0 r1 r2 r3 r4
  have HD:=zB (hD.done (zA HL0) (by omega) (zA HB) a1 a2)
  clear hv hall hD h0 a1 a2 a3 hrb z0
  simp only [zl,List.getElem?_cons_zero,List.getElem?_cons_succ,Option.bind_some,List.length_cons,List.length_nil,Nat.reduceAdd]
  go_frame
  go_wp2
  refine bodyPost_ret (v:=.agg #[.int .i64 err,.int .i64 0,.int .i64 0,.slice none 0 0,.int .i64 0]) (by simp [results,Tryz.results28,go_sem,r0,r1,r2,r3,r4]) rfl ⟨rfl,zA HD⟩
theorem do_put (p:Nat) (T:Option Addr) (tc:Nat) (G:Option Addr) (gc:Nat) (u2 u3 u4:Value) (X:Wd) (d:DoI) (w:World) (hB:Bxs p [([.slice T (zL X).length tc,.slice G X.gens.length gc,u2,u3,u4],82)] w) (hS:StAt w T G (zL X) X) (hk:d.k=3) :
  Calls Tryz.prog 28 #[.pointer (some ⟨p,0,none⟩),doV d] w fun e w'=>e=.returned (.agg #[.int .i64 (zCY X d.i d.g d.p d.n).1,.int .i64 0,.int .i64 0,.slice none 0 0,.int .i64 0])∧Bec p u2 u3 u4 (zCY X d.i d.g d.p d.n).1 (zCY X d.i d.g d.p d.n).2 w w':=by
 have hC:=fun W (hb:Below w.heap.size w W)=>sput_any T tc G gc (zL X) X d.i d.g d.p d.n W (hS.below hb)
 unfold stV zT at hC
 obtain ⟨err,herr⟩:∃ err,err=(zCY X d.i d.g d.p d.n).1:=⟨_,rfl⟩
 obtain ⟨Y,hY⟩:∃ Y,Y=(zCY X d.i d.g d.p d.n).2:=⟨_,rfl⟩
 rw [←herr,←hY] at hC ⊢
 have hBE:=fun T' tc' G' gc' W h=>zCW p T' (zL Y).length tc' G' Y.gens.length gc' err (.slice T (zL X).length tc) (.slice G X.gens.length gc) u2 u3 u4 W h
 unfold stV at hBE
 have HC:=zB hC
 have HBE:=zB hBE
 clear hC hBE hS herr hY
 obtain ⟨W0,hW0,hbx,hX0⟩:=zw w [([.int .i64 d.k,.int .i64 d.has,.int .i64 d.p,.int .i64 d.n,.int .i64 d.i,.int .i64 d.g,.int .i64 d.s.m,.int .i64 d.s.al,.int .i64 d.s.no,.slice d.s.A d.s.len d.s.cap,.int .i64 d.fa,.int .i64 d.fn],46),([.int .i64 0,.int .i64 0,.int .i64 0,.slice none 0 0,.int .i64 0],64)]
 have HW0:Hid ((w.alloc (.cells #[.int .i64 d.k,.int .i64 d.has,.int .i64 d.p,.int .i64 d.n,.int .i64 d.i,.int .i64 d.g,.int .i64 d.s.m,.int .i64 d.s.al,.int .i64 d.s.no,.slice d.s.A d.s.len d.s.cap,.int .i64 d.fa,.int .i64 d.fn] 46)).alloc (.cells #[.int .i64 0,.int .i64 0,.int .i64 0,.slice none 0 0,.int .i64 0] 64)=W0):=zB hW0
 clear hW0
 have hp:p<w.heap.size:=hB.lt (k:=0) rfl
 have hsz:w.heap.size+2≤W0.heap.size:=hX0.sz (by simp)
 have hP0:=hB.below hbx
 have HB:=zB hB
 have HL0:=zB hbx
 have hR0:Bxs (w.heap.size+1) [([.int .i64 0,.int .i64 0,.int .i64 0,.slice none 0 0,.int .i64 0],64)] W0:=fun k vs t hk=>by
  match k,hk with
  | 0,hk=>have:=hX0 1 vs t hk;simpa using this
  | k+1,hk=>simp at hk
 have h0:R5 W0 p (w.heap.size+1) (.slice T (zL X).length tc) (.slice G X.gens.length gc) u2 u3 u4 err Y 12 15 16 g4 (fun _=>false) W0.drew:=R5.start hP0 hR0
 have HX0:=zB hX0
 have HP0:=zB hP0
 have z0:=hX0.cell 0 rfl 0 rfl
 rw [Nat.add_zero,hk] at z0
 clear hk
 clear hbx hX0 hB hP0 hR0
 unfold doV
 go_enter Tryz.func28,Tryz.ntmps28
 go_upto_region 1 with fail
 rw [zA HW0]
 have H0:=zB h0
 clear h0
 go_upto_region 7 with fail
 have h0:=zA H0
 refine za (fun (γ:G4) ix v=>if ix=12 then v=.tuple #[.agg #[.slice γ.T (zL Y).length γ.tc,.slice γ.G Y.gens.length γ.gc],.int .i64 err] else if ix=13 then v=.agg #[.slice γ.T (zL Y).length γ.tc,.slice γ.G Y.gens.length γ.gc] else (([fun v=>v=.pointer (some ⟨p,0,none⟩),fun v=>v=.pointer (some ⟨p,0,none⟩),fun v=>v=.pointer (some ⟨p,0,none⟩),fun v=>v=.pointer (some ⟨p,0,none⟩),fun v=>v=.pointer (some ⟨p,0,none⟩),fun v=>v=.agg #[.slice T (zL X).length tc,.slice G X.gens.length gc],fun v=>v=.pointer (some ⟨w.heap.size,4,none⟩),fun v=>v=.agg #[.int .i64 d.i,.int .i64 d.g],fun v=>v=.pointer (some ⟨w.heap.size,2,none⟩),fun v=>v=.int .i64 d.p,fun v=>v=.pointer (some ⟨w.heap.size,3,none⟩),fun v=>v=.int .i64 d.n,fun _=>True,fun _=>True,fun v=>v=.int .i64 err,fun v=>v=.agg #[.int .i64 err,.int .i64 0,.int .i64 0,.slice none 0 0,.int .i64 0],fun _=>True]:List (Value→Prop)).getD ix (fun _=>True)) v) (fun (γ:G4) L W=>R5 W0 p (w.heap.size+1) (.slice T (zL X).length tc) (.slice G X.gens.length gc) u2 u3 u4 err Y 12 15 16 γ L W) (g4) (by kernel_rfl) (by kernel_rfl) (by kernel_rfl) h0 ?hstep ?hend
 case hstep =>
  intro γ ix o ho L ac w1 hD hL hed hcl hout hv
  match ix,ho with
  | 0,ho =>
   simp at ho
   subst ho
   have e0:ac.tmps.getD 0 undef=.pointer (some ⟨p,0,none⟩):=hout 0 (by decide +kernel)
   exact .inl ⟨rfl,zE γ (.pointer (some ⟨p,0,none⟩)) (by simp [go_sem,Act.eval,-Array.getD_eq_getD_getElem?,e0]) rfl (hD.same (by decide) (by decide) (by decide)) (fun _ _ _ _ h=>h)⟩
  | 1,ho =>
   simp at ho
   subst ho
   have e0:ac.tmps.getD 0 undef=.pointer (some ⟨p,0,none⟩):=hout 0 (by decide +kernel)
   exact .inl ⟨rfl,zE γ (.pointer (some ⟨p,0,none⟩)) (by simp [go_sem,Act.eval,-Array.getD_eq_getD_getElem?,e0]) rfl (hD.same (by decide) (by decide) (by decide)) (fun _ _ _ _ h=>h)⟩
  | 2,ho =>
   simp at ho
   subst ho
   have e32:ac.tmps.getD 32 undef=.pointer (some ⟨p,0,none⟩):=hv 1 32 rfl (by kernel_rfl)
   exact .inl ⟨rfl,zE γ (.pointer (some ⟨p,0,none⟩)) (by simp [go_sem,Act.eval,-Array.getD_eq_getD_getElem?,e32]) rfl (hD.same (by decide) (by decide) (by decide)) (fun _ _ _ _ h=>h)⟩
  | 3,ho =>
   simp at ho
   subst ho
   have e33:ac.tmps.getD 33 undef=.pointer (some ⟨p,0,none⟩):=hv 2 33 rfl (by kernel_rfl)
   exact .inl ⟨rfl,zE γ (.pointer (some ⟨p,0,none⟩)) (by simp [go_sem,Act.eval,-Array.getD_eq_getD_getElem?,e33]) rfl (hD.same (by decide) (by decide) (by decide)) (fun _ _ _ _ h=>h)⟩
  | 4,ho =>
   simp at ho
   subst ho
   have e34:ac.tmps.getD 34 undef=.pointer (some ⟨p,0,none⟩):=hv 3 34 rfl (by kernel_rfl)
   exact .inl ⟨rfl,zE γ (.pointer (some ⟨p,0,none⟩)) (by simp [go_sem,Act.eval,-Array.getD_eq_getD_getElem?,e34]) rfl (hD.same (by decide) (by decide) (by decide)) (fun _ _ _ _ h=>h)⟩
  | 5,ho =>
   simp at ho
   subst ho
   have e35:ac.tmps.getD 35 undef=.pointer (some ⟨p,0,none⟩):=hv 4 35 rfl (by kernel_rfl)
   have q12:L 12=false:=by
    cases h:L 12
    ·rfl
    ·exact absurd (hcl 12 _ rfl h 5 (by kernel_rfl)) (by rw [hL];decide)
   have q15:L 15=false:=by
    cases h:L 15
    ·rfl
    ·exact absurd (hcl 15 _ rfl h 12 (by kernel_rfl)) (by rw [q12];decide)
   have q16:L 16=false:=by
    cases h:L 16
    ·rfl
    ·exact absurd (hcl 16 _ rfl h 15 (by kernel_rfl)) (by rw [q15];decide)
   have bb:=hD.bx
   rw [q15] at bb
   have c0:=bb.cell 0 rfl 0 rfl
   have c1:=bb.cell 0 rfl 1 rfl
   rw [Nat.add_zero] at c0 c1
   exact .inl ⟨rfl,zE γ (.agg #[.slice T (zL X).length tc,.slice G X.gens.length gc]) (by simp [go_sem,Act.eval,-Array.getD_eq_getD_getElem?,e35,c0,c1]) rfl (hD.same (by decide) (by decide) (by decide)) (fun _ _ _ _ h=>h)⟩
  | 6,ho =>
   simp at ho
   subst ho
   have e3:ac.tmps.getD 3 undef=.pointer (some ⟨w.heap.size,0,none⟩):=hout 3 (by decide +kernel)
   exact .inl ⟨rfl,zE γ (.pointer (some ⟨w.heap.size,4,none⟩)) (by simp [go_sem,Act.eval,-Array.getD_eq_getD_getElem?,e3]) rfl (hD.same (by decide) (by decide) (by decide)) (fun _ _ _ _ h=>h)⟩
  | 7,ho =>
   simp at ho
   subst ho
   have e37:ac.tmps.getD 37 undef=.pointer (some ⟨w.heap.size,4,none⟩):=hv 6 37 rfl (by kernel_rfl)
   have q12:L 12=false:=by
    cases h:L 12
    ·rfl
    ·exact absurd (hcl 12 _ rfl h 7 (by kernel_rfl)) (by rw [hL];decide)
   have q15:L 15=false:=by
    cases h:L 15
    ·rfl
    ·exact absurd (hcl 15 _ rfl h 12 (by kernel_rfl)) (by rw [q12];decide)
   have q16:L 16=false:=by
    cases h:L 16
    ·rfl
    ·exact absurd (hcl 16 _ rfl h 15 (by kernel_rfl)) (by rw [q15];decide)
   have bb:=(zA HX0).below (hD.bel q15 q16)
   have c4:=bb.cell 0 rfl 4 rfl
   have c5:=bb.cell 0 rfl 5 rfl
   rw [Nat.add_zero] at c4 c5
   exact .inl ⟨rfl,zE γ (.agg #[.int .i64 d.i,.int .i64 d.g]) (by simp [go_sem,Act.eval,-Array.getD_eq_getD_getElem?,e37,c4,c5]) rfl (hD.same (by decide) (by decide) (by decide)) (fun _ _ _ _ h=>h)⟩
  | 8,ho =>
   simp at ho
   subst ho
   have e3:ac.tmps.getD 3 undef=.pointer (some ⟨w.heap.size,0,none⟩):=hout 3 (by decide +kernel)
   exact .inl ⟨rfl,zE γ (.pointer (some ⟨w.heap.size,2,none⟩)) (by simp [go_sem,Act.eval,-Array.getD_eq_getD_getElem?,e3]) rfl (hD.same (by decide) (by decide) (by decide)) (fun _ _ _ _ h=>h)⟩
  | 9,ho =>
   simp at ho
   subst ho
   have e39:ac.tmps.getD 39 undef=.pointer (some ⟨w.heap.size,2,none⟩):=hv 8 39 rfl (by kernel_rfl)
   have q12:L 12=false:=by
    cases h:L 12
    ·rfl
    ·exact absurd (hcl 12 _ rfl h 9 (by kernel_rfl)) (by rw [hL];decide)
   have q15:L 15=false:=by
    cases h:L 15
    ·rfl
    ·exact absurd (hcl 15 _ rfl h 12 (by kernel_rfl)) (by rw [q12];decide)
   have q16:L 16=false:=by
    cases h:L 16
    ·rfl
    ·exact absurd (hcl 16 _ rfl h 15 (by kernel_rfl)) (by rw [q15];decide)
   have bb:=(zA HX0).below (hD.bel q15 q16)
   have c4:=bb.cell 0 rfl 2 rfl
   rw [Nat.add_zero] at c4
   exact .inl ⟨rfl,zE γ (.int .i64 d.p) (by simp [go_sem,Act.eval,-Array.getD_eq_getD_getElem?,e39,c4]) rfl (hD.same (by decide) (by decide) (by decide)) (fun _ _ _ _ h=>h)⟩
  | 10,ho =>
   simp at ho
   subst ho
   have e3:ac.tmps.getD 3 undef=.pointer (some ⟨w.heap.size,0,none⟩):=hout 3 (by decide +kernel)
   exact .inl ⟨rfl,zE γ (.pointer (some ⟨w.heap.size,3,none⟩)) (by simp [go_sem,Act.eval,-Array.getD_eq_getD_getElem?,e3]) rfl (hD.same (by decide) (by decide) (by decide)) (fun _ _ _ _ h=>h)⟩
  | 11,ho =>
   simp at ho
   subst ho
   have e41:ac.tmps.getD 41 undef=.pointer (some ⟨w.heap.size,3,none⟩):=hv 10 41 rfl (by kernel_rfl)
   have q12:L 12=false:=by
    cases h:L 12
    ·rfl
    ·exact absurd (hcl 12 _ rfl h 11 (by kernel_rfl)) (by rw [hL];decide)
   have q15:L 15=false:=by
    cases h:L 15
    ·rfl
    ·exact absurd (hcl 15 _ rfl h 12 (by kernel_rfl)) (by rw [q12];decide)
   have q16:L 16=false:=by
    cases h:L 16
    ·rfl
    ·exact absurd (hcl 16 _ rfl h 15 (by kernel_rfl)) (by rw [q15];decide)
   have bb:=(zA HX0).below (hD.bel q15 q16)
   have c4:=bb.cell 0 rfl 3 rfl
   rw [Nat.add_zero] at c4
   exact .inl ⟨rfl,zE γ (.int .i64 d.n) (by simp [go_sem,Act.eval,-Array.getD_eq_getD_getElem?,e41,c4]) rfl (hD.same (by decide) (by decide) (by decide)) (fun _ _ _ _ h=>h)⟩
  | 12,ho =>
   simp at ho
   subst ho
   have e36:ac.tmps.getD 36 undef=.agg #[.slice T (zL X).length tc,.slice G X.gens.length gc]:=hv 5 36 rfl (by kernel_rfl)
   have e38:ac.tmps.getD 38 undef=.agg #[.int .i64 d.i,.int .i64 d.g]:=hv 7 38 rfl (by kernel_rfl)
   have e40:ac.tmps.getD 40 undef=.int .i64 d.p:=hv 9 40 rfl (by kernel_rfl)
   have e42:ac.tmps.getD 42 undef=.int .i64 d.n:=hv 11 42 rfl (by kernel_rfl)
   have q15:L 15=false:=by
    cases h:L 15
    ·rfl
    ·exact absurd (hcl 15 _ rfl h 12 (by kernel_rfl)) (by rw [hL];decide)
   have q16:L 16=false:=by
    cases h:L 16
    ·rfl
    ·exact absurd (hcl 16 _ rfl h 15 (by kernel_rfl)) (by rw [q15];decide)
   have q13:L 13=false:=by
    cases h:L 13
    ·rfl
    ·exact absurd (hcl 13 _ rfl h 12 (by kernel_rfl)) (by rw [hL];decide)
   refine .inl ⟨rfl,zAC 41 #[.agg #[.slice T (zL X).length tc,.slice G X.gens.length gc],.agg #[.int .i64 d.i,.int .i64 d.g],.int .i64 d.p,.int .i64 d.n] (by simp [go_sem,Act.eval,-Array.getD_eq_getD_getElem?,e36,e38,e40,e42]) ?_⟩
   refine (zA HC w1 ((zA HL0).trans ((hD.bel q15 q16).mono (zA HL0).size))).mono ?_
   rintro e w6' ⟨T6,tc6,G6,gc6,rfl,hN6,hb6⟩
   exact ⟨_,⟨T6,tc6,G6,gc6⟩,rfl,rfl,hD.ask (by omega) (by decide) (by decide) q15 q16 hN6 hb6,fun j u hj hLj h=>by
    by_cases e:j=13
    ·subst e;rw [q13] at hLj;cases hLj
    ·simpa [hj,e] using h⟩
  | 13,ho =>
   simp at ho
   subst ho
   have e43:ac.tmps.getD 43 undef=.tuple #[.agg #[.slice γ.T (zL Y).length γ.tc,.slice γ.G Y.gens.length γ.gc],.int .i64 err]:=hv 12 43 rfl (by kernel_rfl)
   exact .inl ⟨rfl,zE γ (.agg #[.slice γ.T (zL Y).length γ.tc,.slice γ.G Y.gens.length γ.gc]) (by simp [go_sem,Act.eval,-Array.getD_eq_getD_getElem?,e43]) rfl (hD.same (by decide) (by decide) (by decide)) (fun _ _ _ _ h=>h)⟩
  | 14,ho =>
   simp at ho
   subst ho
   have e43:ac.tmps.getD 43 undef=.tuple #[.agg #[.slice γ.T (zL Y).length γ.tc,.slice γ.G Y.gens.length γ.gc],.int .i64 err]:=hv 12 43 rfl (by kernel_rfl)
   exact .inl ⟨rfl,zE γ (.int .i64 err) (by simp [go_sem,Act.eval,-Array.getD_eq_getD_getElem?,e43]) rfl (hD.same (by decide) (by decide) (by decide)) (fun _ _ _ _ h=>h)⟩
  | 15,ho =>
   simp at ho
   subst ho
   have e31:ac.tmps.getD 31 undef=.pointer (some ⟨p,0,none⟩):=hv 0 31 rfl (by kernel_rfl)
   have e44:ac.tmps.getD 44 undef=.agg #[.slice γ.T (zL Y).length γ.tc,.slice γ.G Y.gens.length γ.gc]:=hv 13 44 rfl (by kernel_rfl)
   have e45:ac.tmps.getD 45 undef=.int .i64 err:=hv 14 45 rfl (by kernel_rfl)
   have q16:L 16=false:=by
    cases h:L 16
    ·rfl
    ·exact absurd (hcl 16 _ rfl h 15 (by kernel_rfl)) (by rw [hL];decide)
   have q12:L 12=true:=hcl 13 _ rfl (hed 13 (by kernel_rfl)) 12 (by kernel_rfl)
   have hbx:=hD.bx
   rw [hL] at hbx
   refine .inl ⟨rfl,zAC 39 #[.pointer (some ⟨p,0,none⟩),.agg #[.slice γ.T (zL Y).length γ.tc,.slice γ.G Y.gens.length γ.gc],.int .i64 err] (by simp [go_sem,Act.eval,-Array.getD_eq_getD_getElem?,e31,e44,e45]) ?_⟩
   refine (zA HBE γ.T γ.tc γ.G γ.gc w1 hbx).mono ?_
   rintro e w6' ⟨rfl,h1,h2⟩
   exact ⟨_,γ,rfl,rfl,hD.bec (by omega) (by omega) (by omega) (by decide) (by decide) q12 q16 hL h1 h2,fun _ _ _ _ h=>h⟩
  | 16,ho =>
   simp at ho
   subst ho
   have e4:ac.tmps.getD 4 undef=.pointer (some ⟨w.heap.size+1,0,none⟩):=hout 4 (by decide +kernel)
   have e46:ac.tmps.getD 46 undef=.agg #[.int .i64 err,.int .i64 0,.int .i64 0,.slice none 0 0,.int .i64 0]:=hv 15 46 rfl (by kernel_rfl)
   have q15:L 15=true:=hed 15 (by kernel_rfl)
   have q12:L 12=true:=hcl 13 _ rfl (hcl 15 _ rfl q15 13 (by kernel_rfl)) 12 (by kernel_rfl)
   have hrb:=hD.rb
   rw [hL] at hrb
   exact .inl ⟨rfl,zBA γ 64 (.tmp 4) (.tmp 46) rfl (w.heap.size+1) 0 [.int .i64 err,.int .i64 0,.int .i64 0,.slice none 0 0,.int .i64 0] (by simp [Act.eval,-Array.getD_eq_getD_getElem?,e4]) (by simp [Act.eval,-Array.getD_eq_getD_getElem?,e46]) (by simp [Value.oneCell']) sz64 (hrb.there 0 rfl 5 rfl) trivial (hD.put (by omega) (by omega) (by omega) (by decide) (by decide) q12 q15 hL) (fun _ _ _ _ h=>h)⟩
  | ix+17,ho=>simp at ho
 case hend =>
  intro γ v L w9 hD hall hv
  have a1:=hall 12 (by decide)
  have a2:=hall 15 (by decide)
  have a3:=hall 16 (by decide)
  have hrb:=hD.rb
  rw [a3,if_pos rfl] at hrb
  have r0:=hrb.cell 0 rfl 0 rfl
  have r1:=hrb.cell 0 rfl 1 rfl
  have r2:=hrb.cell 0 rfl 2 rfl
  have r3:=hrb.cell 0 rfl 3 rfl
  have r4:=hrb.cell 0 rfl 4 rfl
  rw [Nat.add_zero] at r0 r1 r2 r3 r4
  have HD:=zB (hD.done (zA HL0) (by omega) (zA HB) a1 a2)
  clear hv hall hD h0 a1 a2 a3 hrb z0
  simp only [zl,List.getElem?_cons_zero,List.getElem?_cons_succ,Option.bind_some,List.length_cons,List.length_nil,Nat.reduceAdd]
  go_frame
  go_wp2
  refine bodyPost_ret (v:=.agg #[.int .i64 err,.int .i64 0,.int .i64 0,.slice none 0 0,.int .i64 0]) (by simp [results,Tryz.results28,go_sem,r0,r1,r2,r3,r4]) rfl ⟨rfl,zA HD⟩
theorem do_drop (p:Nat) (T:Option Addr) (tc:Nat) (G:Option Addr) (gc:Nat) (u2 u3 u4:Value) (X:Wd) (d:DoI) (w:World) (hB:Bxs p [([.slice T (zL X).length tc,.slice G X.gens.length gc,u2,u3,u4],82)] w) (hS:StAt w T G (zL X) X) (hk:d.k=4) :
  Calls Tryz.prog 28 #[.pointer (some ⟨p,0,none⟩),doV d] w fun e w'=>e=.returned (.agg #[.int .i64 (zAZ X d.i d.g d.p).1,.int .i64 0,.int .i64 0,.slice none 0 0,.int .i64 0])∧Bec p u2 u3 u4 (zAZ X d.i d.g d.p).1 (zAZ X d.i d.g d.p).2 w w':=by
 have hC:=fun W (hb:Below w.heap.size w W)=>sdrop_any T tc G gc (zL X) X d.i d.g d.p W (hS.below hb)
 unfold stV zT at hC
 obtain ⟨err,herr⟩:∃ err,err=(zAZ X d.i d.g d.p).1:=⟨_,rfl⟩
 obtain ⟨Y,hY⟩:∃ Y,Y=(zAZ X d.i d.g d.p).2:=⟨_,rfl⟩
 rw [←herr,←hY] at hC ⊢
 have hBE:=fun T' tc' G' gc' W h=>zCW p T' (zL Y).length tc' G' Y.gens.length gc' err (.slice T (zL X).length tc) (.slice G X.gens.length gc) u2 u3 u4 W h
 unfold stV at hBE
 have HC:=zB hC
 have HBE:=zB hBE
 clear hC hBE hS herr hY
 obtain ⟨W0,hW0,hbx,hX0⟩:=zw w [([.int .i64 d.k,.int .i64 d.has,.int .i64 d.p,.int .i64 d.n,.int .i64 d.i,.int .i64 d.g,.int .i64 d.s.m,.int .i64 d.s.al,.int .i64 d.s.no,.slice d.s.A d.s.len d.s.cap,.int .i64 d.fa,.int .i64 d.fn],46),([.int .i64 0,.int .i64 0,.int .i64 0,.slice none 0 0,.int .i64 0],64)]
 have HW0:Hid ((w.alloc (.cells #[.int .i64 d.k,.int .i64 d.has,.int .i64 d.p,.int .i64 d.n,.int .i64 d.i,.int .i64 d.g,.int .i64 d.s.m,.int .i64 d.s.al,.int .i64 d.s.no,.slice d.s.A d.s.len d.s.cap,.int .i64 d.fa,.int .i64 d.fn] 46)).alloc (.cells #[.int .i64 0,.int .i64 0,.int .i64 0,.slice none 0 0,.int .i64 0] 64)=W0):=zB hW0
 clear hW0
 have hp:p<w.heap.size:=hB.lt (k:=0) rfl
 have hsz:w.heap.size+2≤W0.heap.size:=hX0.sz (by simp)
 have hP0:=hB.below hbx
 have HB:=zB hB
 have HL0:=zB hbx
 have hR0:Bxs (w.heap.size+1) [([.int .i64 0,.int .i64 0,.int .i64 0,.slice none 0 0,.int .i64 0],64)] W0:=fun k vs t hk=>by
  match k,hk with
  | 0,hk=>have:=hX0 1 vs t hk;simpa using this
  | k+1,hk=>simp at hk
 have h0:R5 W0 p (w.heap.size+1) (.slice T (zL X).length tc) (.slice G X.gens.length gc) u2 u3 u4 err Y 10 13 14 g4 (fun _=>false) W0.drew:=R5.start hP0 hR0
 have HX0:=zB hX0
 have HP0:=zB hP0
 have z0:=hX0.cell 0 rfl 0 rfl
 rw [Nat.add_zero,hk] at z0
 clear hk
 clear hbx hX0 hB hP0 hR0
 unfold doV
 go_enter Tryz.func28,Tryz.ntmps28
 go_upto_region 1 with fail
 rw [zA HW0]
 have H0:=zB h0
 clear h0
 go_upto_region 9 with fail
 have h0:=zA H0
 refine za (fun (γ:G4) ix v=>if ix=10 then v=.tuple #[.agg #[.slice γ.T (zL Y).length γ.tc,.slice γ.G Y.gens.length γ.gc],.int .i64 err] else if ix=11 then v=.agg #[.slice γ.T (zL Y).length γ.tc,.slice γ.G Y.gens.length γ.gc] else (([fun v=>v=.pointer (some ⟨p,0,none⟩),fun v=>v=.pointer (some ⟨p,0,none⟩),fun v=>v=.pointer (some ⟨p,0,none⟩),fun v=>v=.pointer (some ⟨p,0,none⟩),fun v=>v=.pointer (some ⟨p,0,none⟩),fun v=>v=.agg #[.slice T (zL X).length tc,.slice G X.gens.length gc],fun v=>v=.pointer (some ⟨w.heap.size,4,none⟩),fun v=>v=.agg #[.int .i64 d.i,.int .i64 d.g],fun v=>v=.pointer (some ⟨w.heap.size,2,none⟩),fun v=>v=.int .i64 d.p,fun _=>True,fun _=>True,fun v=>v=.int .i64 err,fun v=>v=.agg #[.int .i64 err,.int .i64 0,.int .i64 0,.slice none 0 0,.int .i64 0],fun _=>True]:List (Value→Prop)).getD ix (fun _=>True)) v) (fun (γ:G4) L W=>R5 W0 p (w.heap.size+1) (.slice T (zL X).length tc) (.slice G X.gens.length gc) u2 u3 u4 err Y 10 13 14 γ L W) (g4) (by kernel_rfl) (by kernel_rfl) (by kernel_rfl) h0 ?hstep ?hend
 case hstep =>
  intro γ ix o ho L ac w1 hD hL hed hcl hout hv
  match ix,ho with
  | 0,ho =>
   simp at ho
   subst ho
   have e0:ac.tmps.getD 0 undef=.pointer (some ⟨p,0,none⟩):=hout 0 (by decide +kernel)
   exact .inl ⟨rfl,zE γ (.pointer (some ⟨p,0,none⟩)) (by simp [go_sem,Act.eval,-Array.getD_eq_getD_getElem?,e0]) rfl (hD.same (by decide) (by decide) (by decide)) (fun _ _ _ _ h=>h)⟩
  | 1,ho =>
   simp at ho
   subst ho
   have e0:ac.tmps.getD 0 undef=.pointer (some ⟨p,0,none⟩):=hout 0 (by decide +kernel)
   exact .inl ⟨rfl,zE γ (.pointer (some ⟨p,0,none⟩)) (by simp [go_sem,Act.eval,-Array.getD_eq_getD_getElem?,e0]) rfl (hD.same (by decide) (by decide) (by decide)) (fun _ _ _ _ h=>h)⟩
  | 2,ho =>
   simp at ho
   subst ho
   have e50:ac.tmps.getD 50 undef=.pointer (some ⟨p,0,none⟩):=hv 1 50 rfl (by kernel_rfl)
   exact .inl ⟨rfl,zE γ (.pointer (some ⟨p,0,none⟩)) (by simp [go_sem,Act.eval,-Array.getD_eq_getD_getElem?,e50]) rfl (hD.same (by decide) (by decide) (by decide)) (fun _ _ _ _ h=>h)⟩
  | 3,ho =>
   simp at ho
   subst ho
   have e51:ac.tmps.getD 51 undef=.pointer (some ⟨p,0,none⟩):=hv 2 51 rfl (by kernel_rfl)
   exact .inl ⟨rfl,zE γ (.pointer (some ⟨p,0,none⟩)) (by simp [go_sem,Act.eval,-Array.getD_eq_getD_getElem?,e51]) rfl (hD.same (by decide) (by decide) (by decide)) (fun _ _ _ _ h=>h)⟩
  | 4,ho =>
   simp at ho
   subst ho
   have e52:ac.tmps.getD 52 undef=.pointer (some ⟨p,0,none⟩):=hv 3 52 rfl (by kernel_rfl)
   exact .inl ⟨rfl,zE γ (.pointer (some ⟨p,0,none⟩)) (by simp [go_sem,Act.eval,-Array.getD_eq_getD_getElem?,e52]) rfl (hD.same (by decide) (by decide) (by decide)) (fun _ _ _ _ h=>h)⟩
  | 5,ho =>
   simp at ho
   subst ho
   have e53:ac.tmps.getD 53 undef=.pointer (some ⟨p,0,none⟩):=hv 4 53 rfl (by kernel_rfl)
   have q10:L 10=false:=by
    cases h:L 10
    ·rfl
    ·exact absurd (hcl 10 _ rfl h 5 (by kernel_rfl)) (by rw [hL];decide)
   have q13:L 13=false:=by
    cases h:L 13
    ·rfl
    ·exact absurd (hcl 13 _ rfl h 10 (by kernel_rfl)) (by rw [q10];decide)
   have q14:L 14=false:=by
    cases h:L 14
    ·rfl
    ·exact absurd (hcl 14 _ rfl h 13 (by kernel_rfl)) (by rw [q13];decide)
   have bb:=hD.bx
   rw [q13] at bb
   have c0:=bb.cell 0 rfl 0 rfl
   have c1:=bb.cell 0 rfl 1 rfl
   rw [Nat.add_zero] at c0 c1
   exact .inl ⟨rfl,zE γ (.agg #[.slice T (zL X).length tc,.slice G X.gens.length gc]) (by simp [go_sem,Act.eval,-Array.getD_eq_getD_getElem?,e53,c0,c1]) rfl (hD.same (by decide) (by decide) (by decide)) (fun _ _ _ _ h=>h)⟩
  | 6,ho =>
   simp at ho
   subst ho
   have e3:ac.tmps.getD 3 undef=.pointer (some ⟨w.heap.size,0,none⟩):=hout 3 (by decide +kernel)
   exact .inl ⟨rfl,zE γ (.pointer (some ⟨w.heap.size,4,none⟩)) (by simp [go_sem,Act.eval,-Array.getD_eq_getD_getElem?,e3]) rfl (hD.same (by decide) (by decide) (by decide)) (fun _ _ _ _ h=>h)⟩
  | 7,ho =>
   simp at ho
   subst ho
   have e55:ac.tmps.getD 55 undef=.pointer (some ⟨w.heap.size,4,none⟩):=hv 6 55 rfl (by kernel_rfl)
   have q10:L 10=false:=by
    cases h:L 10
    ·rfl
    ·exact absurd (hcl 10 _ rfl h 7 (by kernel_rfl)) (by rw [hL];decide)
   have q13:L 13=false:=by
    cases h:L 13
    ·rfl
    ·exact absurd (hcl 13 _ rfl h 10 (by kernel_rfl)) (by rw [q10];decide)
   have q14:L 14=false:=by
    cases h:L 14
    ·rfl
    ·exact absurd (hcl 14 _ rfl h 13 (by kernel_rfl)) (by rw [q13];decide)
   have bb:=(zA HX0).below (hD.bel q13 q14)
   have c4:=bb.cell 0 rfl 4 rfl
   have c5:=bb.cell 0 rfl 5 rfl
   rw [Nat.add_zero] at c4 c5
   exact .inl ⟨rfl,zE γ (.agg #[.int .i64 d.i,.int .i64 d.g]) (by simp [go_sem,Act.eval,-Array.getD_eq_getD_getElem?,e55,c4,c5]) rfl (hD.same (by decide) (by decide) (by decide)) (fun _ _ _ _ h=>h)⟩
  | 8,ho =>
   simp at ho
   subst ho
   have e3:ac.tmps.getD 3 undef=.pointer (some ⟨w.heap.size,0,none⟩):=hout 3 (by decide +kernel)
   exact .inl ⟨rfl,zE γ (.pointer (some ⟨w.heap.size,2,none⟩)) (by simp [go_sem,Act.eval,-Array.getD_eq_getD_getElem?,e3]) rfl (hD.same (by decide) (by decide) (by decide)) (fun _ _ _ _ h=>h)⟩
  | 9,ho =>
   simp at ho
   subst ho
   have e57:ac.tmps.getD 57 undef=.pointer (some ⟨w.heap.size,2,none⟩):=hv 8 57 rfl (by kernel_rfl)
   have q10:L 10=false:=by
    cases h:L 10
    ·rfl
    ·exact absurd (hcl 10 _ rfl h 9 (by kernel_rfl)) (by rw [hL];decide)
   have q13:L 13=false:=by
    cases h:L 13
    ·rfl
    ·exact absurd (hcl 13 _ rfl h 10 (by kernel_rfl)) (by rw [q10];decide)
   have q14:L 14=false:=by
    cases h:L 14
    ·rfl
    ·exact absurd (hcl 14 _ rfl h 13 (by kernel_rfl)) (by rw [q13];decide)
   have bb:=(zA HX0).below (hD.bel q13 q14)
   have c4:=bb.cell 0 rfl 2 rfl
   rw [Nat.add_zero] at c4
   exact .inl ⟨rfl,zE γ (.int .i64 d.p) (by simp [go_sem,Act.eval,-Array.getD_eq_getD_getElem?,e57,c4]) rfl (hD.same (by decide) (by decide) (by decide)) (fun _ _ _ _ h=>h)⟩
  | 10,ho =>
   simp at ho
   subst ho
   have e54:ac.tmps.getD 54 undef=.agg #[.slice T (zL X).length tc,.slice G X.gens.length gc]:=hv 5 54 rfl (by kernel_rfl)
   have e56:ac.tmps.getD 56 undef=.agg #[.int .i64 d.i,.int .i64 d.g]:=hv 7 56 rfl (by kernel_rfl)
   have e58:ac.tmps.getD 58 undef=.int .i64 d.p:=hv 9 58 rfl (by kernel_rfl)
   have q13:L 13=false:=by
    cases h:L 13
    ·rfl
    ·exact absurd (hcl 13 _ rfl h 10 (by kernel_rfl)) (by rw [hL];decide)
   have q14:L 14=false:=by
    cases h:L 14
    ·rfl
    ·exact absurd (hcl 14 _ rfl h 13 (by kernel_rfl)) (by rw [q13];decide)
   have q11:L 11=false:=by
    cases h:L 11
    ·rfl
    ·exact absurd (hcl 11 _ rfl h 10 (by kernel_rfl)) (by rw [hL];decide)
   refine .inl ⟨rfl,zAC 42 #[.agg #[.slice T (zL X).length tc,.slice G X.gens.length gc],.agg #[.int .i64 d.i,.int .i64 d.g],.int .i64 d.p] (by simp [go_sem,Act.eval,-Array.getD_eq_getD_getElem?,e54,e56,e58]) ?_⟩
   refine (zA HC w1 ((zA HL0).trans ((hD.bel q13 q14).mono (zA HL0).size))).mono ?_
   rintro e w6' ⟨T6,tc6,G6,gc6,rfl,hN6,hb6⟩
   exact ⟨_,⟨T6,tc6,G6,gc6⟩,rfl,rfl,hD.ask (by omega) (by decide) (by decide) q13 q14 hN6 hb6,fun j u hj hLj h=>by
    by_cases e:j=11
    ·subst e;rw [q11] at hLj;cases hLj
    ·simpa [hj,e] using h⟩
  | 11,ho =>
   simp at ho
   subst ho
   have e59:ac.tmps.getD 59 undef=.tuple #[.agg #[.slice γ.T (zL Y).length γ.tc,.slice γ.G Y.gens.length γ.gc],.int .i64 err]:=hv 10 59 rfl (by kernel_rfl)
   exact .inl ⟨rfl,zE γ (.agg #[.slice γ.T (zL Y).length γ.tc,.slice γ.G Y.gens.length γ.gc]) (by simp [go_sem,Act.eval,-Array.getD_eq_getD_getElem?,e59]) rfl (hD.same (by decide) (by decide) (by decide)) (fun _ _ _ _ h=>h)⟩
  | 12,ho =>
   simp at ho
   subst ho
   have e59:ac.tmps.getD 59 undef=.tuple #[.agg #[.slice γ.T (zL Y).length γ.tc,.slice γ.G Y.gens.length γ.gc],.int .i64 err]:=hv 10 59 rfl (by kernel_rfl)
   exact .inl ⟨rfl,zE γ (.int .i64 err) (by simp [go_sem,Act.eval,-Array.getD_eq_getD_getElem?,e59]) rfl (hD.same (by decide) (by decide) (by decide)) (fun _ _ _ _ h=>h)⟩
  | 13,ho =>
   simp at ho
   subst ho
   have e49:ac.tmps.getD 49 undef=.pointer (some ⟨p,0,none⟩):=hv 0 49 rfl (by kernel_rfl)
   have e60:ac.tmps.getD 60 undef=.agg #[.slice γ.T (zL Y).length γ.tc,.slice γ.G Y.gens.length γ.gc]:=hv 11 60 rfl (by kernel_rfl)
   have e61:ac.tmps.getD 61 undef=.int .i64 err:=hv 12 61 rfl (by kernel_rfl)
   have q14:L 14=false:=by
    cases h:L 14
    ·rfl
    ·exact absurd (hcl 14 _ rfl h 13 (by kernel_rfl)) (by rw [hL];decide)
   have q10:L 10=true:=hcl 11 _ rfl (hed 11 (by kernel_rfl)) 10 (by kernel_rfl)
   have hbx:=hD.bx
   rw [hL] at hbx
   refine .inl ⟨rfl,zAC 39 #[.pointer (some ⟨p,0,none⟩),.agg #[.slice γ.T (zL Y).length γ.tc,.slice γ.G Y.gens.length γ.gc],.int .i64 err] (by simp [go_sem,Act.eval,-Array.getD_eq_getD_getElem?,e49,e60,e61]) ?_⟩
   refine (zA HBE γ.T γ.tc γ.G γ.gc w1 hbx).mono ?_
   rintro e w6' ⟨rfl,h1,h2⟩
   exact ⟨_,γ,rfl,rfl,hD.bec (by omega) (by omega) (by omega) (by decide) (by decide) q10 q14 hL h1 h2,fun _ _ _ _ h=>h⟩
  | 14,ho =>
   simp at ho
   subst ho
   have e4:ac.tmps.getD 4 undef=.pointer (some ⟨w.heap.size+1,0,none⟩):=hout 4 (by decide +kernel)
   have e62:ac.tmps.getD 62 undef=.agg #[.int .i64 err,.int .i64 0,.int .i64 0,.slice none 0 0,.int .i64 0]:=hv 13 62 rfl (by kernel_rfl)
   have q13:L 13=true:=hed 13 (by kernel_rfl)
   have q10:L 10=true:=hcl 11 _ rfl (hcl 13 _ rfl q13 11 (by kernel_rfl)) 10 (by kernel_rfl)
   have hrb:=hD.rb
   rw [hL] at hrb
   exact .inl ⟨rfl,zBA γ 64 (.tmp 4) (.tmp 62) rfl (w.heap.size+1) 0 [.int .i64 err,.int .i64 0,.int .i64 0,.slice none 0 0,.int .i64 0] (by simp [Act.eval,-Array.getD_eq_getD_getElem?,e4]) (by simp [Act.eval,-Array.getD_eq_getD_getElem?,e62]) (by simp [Value.oneCell']) sz64 (hrb.there 0 rfl 5 rfl) trivial (hD.put (by omega) (by omega) (by omega) (by decide) (by decide) q10 q13 hL) (fun _ _ _ _ h=>h)⟩
  | ix+15,ho=>simp at ho
 case hend =>
  intro γ v L w9 hD hall hv
  have a1:=hall 10 (by decide)
  have a2:=hall 13 (by decide)
  have a3:=hall 14 (by decide)
  have hrb:=hD.rb
  rw [a3,if_pos rfl] at hrb
  have r0:=hrb.cell 0 rfl 0 rfl
  have r1:=hrb.cell 0 rfl 1 rfl
  have r2:=hrb.cell 0 rfl 2 rfl
  have r3:=hrb.cell 0 rfl 3 rfl
  have r4:=hrb.cell 0 rfl 4 rfl
  rw [Nat.add_zero] at r0 r1 r2 r3 r4
  have HD:=zB (hD.done (zA HL0) (by omega) (zA HB) a1 a2)
  clear hv hall hD h0 a1 a2 a3 hrb z0
  simp only [zl,List.getElem?_cons_zero,List.getElem?_cons_succ,Option.bind_some,List.length_cons,List.length_nil,Nat.reduceAdd]
  go_frame
  go_wp2
  refine bodyPost_ret (v:=.agg #[.int .i64 err,.int .i64 0,.int .i64 0,.slice none 0 0,.int .i64 0]) (by simp [results,Tryz.results28,go_sem,r0,r1,r2,r3,r4]) rfl ⟨rfl,zA HD⟩
end Go.Proofs.YtnbleebilmghcacGreat
