/- package house: ask. -/
import Derived.Test.YtnbleebilmghcacGreatTHo3
import Derived.Test.YtnbleebilmghcacGreatTSMat
set_option linter.all false
set_option maxHeartbeats 2000000
set_option maxRecDepth 8000
namespace Go.Proofs.YtnbleebilmghcacGreat
open Go Go.RowKit
attribute [local go_sem ↓] Go.wp_at_zero Go.wp_at_succ
structure G3 where
 A:Option Addr
 c:Nat
 b:Nat
structure R79 (W0:World) (n:Nat) (cs:List Value) (γ:G3) (L:Nat→Bool) (W:World):Prop where
 bel:Below W0.heap.size W0 W
 own:L 6=true→W.ownsRow W0.heap.size 39 2 (.slice γ.A n γ.c) n cs
 bx:L 8=true→W0.heap.size≤γ.b∧Bxs γ.b [(if L 9=true then [.int .i64 0,.int .i64 0,.int .i64 0,.slice γ.A n γ.c,.int .i64 0] else [.int .i64 0,.int .i64 0,.int .i64 0,.slice none 0 0,.int .i64 0],64)] W
 ne:L 6=true→L 8=true→(Value.slice γ.A n γ.c).ownBlock≠some γ.b
section
variable {W0:World} {n:Nat} {cs:List Value} {γ:G3} {L:Nat→Bool} {W W1:World}
theorem R79.start (W0:World) (n:Nat) (cs:List Value):R79 W0 n cs ⟨none,0,0⟩ (fun _=>false) W0.drew:=⟨(Below.refl _ _).drew,fun h=>(by cases h),fun h=>(by cases h),fun h=>(by cases h)⟩
theorem R79.same (h:R79 W0 n cs γ L W) {i:Nat} (h1:i≠6) (h2:i≠8) (h3:i≠9):R79 W0 n cs γ (upd L i) W:=by
 have e:∀ j,j≠i→upd L i j=L j:=fun j hj=>zQ hj
 refine ⟨h.bel,?_,?_,?_⟩
 ·rw [e _ (Ne.symm h1)];exact h.own
 ·rw [e _ (Ne.symm h2),e _ (Ne.symm h3)];exact h.bx
 ·rw [e _ (Ne.symm h1),e _ (Ne.symm h2)];exact h.ne
theorem R79.call (h:R79 W0 n cs γ L W) (h9:L 9=false) {A:Option Addr} {c:Nat} (ho:W1.ownsRow W.heap.size 39 2 (.slice A n c) n cs) (hb:Below W.heap.size W W1):R79 W0 n cs ⟨A,c,γ.b⟩ (upd L 6) W1:=by
 have e:∀ j,j≠6→upd L 6 j=L j:=fun j hj=>zQ hj
 refine ⟨h.bel.trans (hb.mono h.bel.size),fun _=>own_low ho h.bel.size,?_,fun _ h8 hh=>?_⟩
 ·rw [e 8 (by decide),e 9 (by decide),h9]
  intro h8
  have:=h.bx h8
  rw [h9] at this
  exact ⟨this.1,this.2.below hb⟩
 ·rw [e 8 (by decide)] at h8
  have h1:=(ho.lt _ hh).1
  have h2:=(h.bx h8).2.lt (k:=0) rfl
  simp only at h1 h2
  omega
theorem R79.make (h:R79 W0 n cs γ L W) (h9:L 9=false):R79 W0 n cs ⟨γ.A,γ.c,W.heap.size⟩ (upd L 8) (W.alloc (.cells #[.int .i64 0,.int .i64 0,.int .i64 0,.slice none 0 0,.int .i64 0] 64)):=by
 have e:∀ j,j≠8→upd L 8 j=L j:=fun j hj=>zQ hj
 have hb:=zAS W (.cells #[.int .i64 0,.int .i64 0,.int .i64 0,.slice none 0 0,.int .i64 0] 64)
 refine ⟨h.bel.trans (hb.mono h.bel.size),?_,fun _=>?_,fun h6 _ hh=>?_⟩
 ·rw [e 6 (by decide)];exact fun h6=>zb (h.own h6) hb
 ·rw [e 9 (by decide),h9]
  exact ⟨h.bel.size,Bxs.start W [([.int .i64 0,.int .i64 0,.int .i64 0,.slice none 0 0,.int .i64 0],64)]⟩
 ·rw [e 6 (by decide)] at h6
  have:=((h.own h6).lt _ hh).2
  simp only at this
  omega
theorem R79.put (h:R79 W0 n cs γ L W) (h6:L 6=true) (h8:L 8=true) (h9:L 9=false):R79 W0 n cs γ (upd L 9) (W.setCells γ.b 0 [.int .i64 0,.int .i64 0,.int .i64 0,.slice γ.A n γ.c,.int .i64 0]):=by
 have e:∀ j,j≠9→upd L 9 j=L j:=fun j hj=>zQ hj
 have hbx:=h.bx h8
 rw [h9] at hbx
 have hne:=h.ne h6 h8
 refine ⟨zF _ hbx.1 _ _ _ h.bel,fun _=>zCi (h.own h6) ((Tw.refl (fun b=>b=γ.b) W).sets (.inl rfl)) (fun g hg hb=>by subst hb;exact hne hg),fun _=>?_,?_⟩
 ·rw [zAx];exact ⟨hbx.1,hbx.2.give 0 rfl _ rfl⟩
 ·rw [e 6 (by decide),e 8 (by decide)];exact h.ne
end
theorem sumTo_snoc (X:Wd) (p:Int) (b:Int×Int):∀ (l:List (Int×Int)) (n:Int),sumTo X p (l++[b]) n=IntKind.i64.wrap (sumTo X p l n+(zBW X b.1 b.2 p).1)
 | [],n=>rfl
 | x :: l,n=>sumTo_snoc X p b l _
theorem sumTo_take (X:Wd) (p:Int) (l:List (Int×Int)) (j:Nat) (h:j<l.length):sumTo X p (l.take (j+1)) 0=IntKind.i64.wrap (sumTo X p (l.take j) 0+(zBW X (l.getD j (0,0)).1 (l.getD j (0,0)).2 p).1):=by
 rw [List.take_succ_eq_append_getElem h,sumTo_snoc,List.getD_eq_getElem?_getD,List.getElem?_eq_getElem h]
 rfl
theorem sz3a:(Tryz.prog.info? 3).map (·.size)=some 1:=by kernel_rfl
structure AQ (w:World) (lo b:Nat) (A:Option Addr) (c n:Nat) (cs:List Value) (Aw:Option Addr) (cw:Nat) (Gw:Option Addr) (gw:Nat) (X:Wd) (B4 wb:Nat) (acc:Int) (W:World):Prop where
 bx:Bxs b [([.int .i64 0,.int .i64 0,.int .i64 0,.slice A n c,.int .i64 acc],64)] W
 own:W.ownsRow lo 39 2 (.slice A n c) n cs
 ne:(Value.slice A n c).ownBlock≠some b
 wl:Bxs wb [([.slice Aw X.rows.length cw,.slice Gw X.gens.length gw],51)] W
 wn:WldNew B4 W Aw cw Gw gw X
 rb:Bxs (w.heap.size+1) [([.int .i64 0,.int .i64 0,.int .i64 0,.slice none 0 0,.int .i64 0],64)] W
 bel:Below w.heap.size w W
 lb:w.heap.size+2≤b∧b<B4∧B4≤wb
section
variable {w:World} {lo b:Nat} {A:Option Addr} {c n:Nat} {cs:List Value} {Aw:Option Addr} {cw:Nat} {Gw:Option Addr} {gw:Nat} {X:Wd} {B4 wb:Nat} {acc:Int} {W W1:World}
theorem AQ.below (h:AQ w lo b A c n cs Aw cw Gw gw X B4 wb acc W) (hb:Below W.heap.size W W1):AQ w lo b A c n cs Aw cw Gw gw X B4 wb acc W1 :=
 ⟨h.bx.below hb,zb h.own hb,h.ne,h.wl.below hb,h.wn.below hb,h.rb.below hb,h.bel.trans (hb.mono h.bel.size),h.lb⟩
theorem AQ.put (h:AQ w lo b A c n cs Aw cw Gw gw X B4 wb acc W) (acc':Int):AQ w lo b A c n cs Aw cw Gw gw X B4 wb acc' (W.setCell ⟨b,4,none⟩ (.int .i64 acc')):=by
 obtain ⟨l1,l2,l3⟩:=h.lb
 refine ⟨?_,ownsRow_setCell_other h.own (a:=⟨b,4,none⟩) h.ne _,h.ne,h.wl.turn (cb:=b) (o:=4) (vs:=[.int .i64 acc']) (.inl (by omega)),zAX (b:=b) (o:=4) (vs:=[.int .i64 acc']) h.wn l2,h.rb.turn (cb:=b) (o:=4) (vs:=[.int .i64 acc']) (.inr (by simp only [List.length_cons,List.length_nil];omega)),h.bel.setCell (p:=⟨b,4,none⟩) (by show w.heap.size≤b;omega) _,h.lb⟩
 have:=h.bx.part 0 rfl 4 [.int .i64 acc'] (by simp)
 rw [Nat.add_zero] at this
 exact this
end
theorem ask_bad1 (p:Nat) (T:Option Addr) (tc:Nat) (G:Option Addr) (gc:Nat) (u2 u3 u4:Value) (X:Wd) (fa fn part:Int) (w:World) (hB:Bxs p [([.slice T (zK X).length tc,.slice G X.gens.length gc,u2,u3,u4],82)] w) (hS:StAt w T G (zK X) X) (h1:zBB fa=false) :
  Calls Tryz.prog 45 #[.pointer (some ⟨p,0,none⟩),.agg #[.int .i64 fa,.int .i64 fn],.int .i64 part] w fun e w'=>e=.returned (.agg #[.int .i64 3,.int .i64 0,.int .i64 0,.slice none 0 0,.int .i64 0])∧Below w.heap.size w w':=by
 have hSA:=zAJ fa
 have hSN:=zAJ fn
 have hSP:=zBh part
 rw [h1] at hSA
 have HSA:=zB hSA
 have HSN:=zB hSN
 have HSP:=zB hSP
 clear hSA hSN hSP hS
 obtain ⟨W0,hW0,hbx,hX0⟩:=zAL w [([.int .i64 fa,.int .i64 fn],41),([.int .i64 0,.int .i64 0,.int .i64 0,.slice none 0 0,.int .i64 0],64)]
 have HW0:Hid ((w.alloc (.cells #[.int .i64 fa,.int .i64 fn] 41)).alloc (.cells #[.int .i64 0,.int .i64 0,.int .i64 0,.slice none 0 0,.int .i64 0] 64)=W0):=zB hW0
 clear hW0
 have hp:p<w.heap.size:=hB.lt (k:=0) rfl
 have hz0:w.heap.size+2≤W0.heap.size:=hX0.sz (by simp)
 have HP0:=zB (hB.below hbx)
 have HL0:=zB hbx
 have HX0:=zB hX0
 have f0:=hX0.cell 0 rfl 0 rfl
 have f1:=hX0.cell 0 rfl 1 rfl
 rw [Nat.add_zero] at f0 f1
 clear hbx hX0 hB
 go_enter Tryz.func45,Tryz.ntmps45
 go_upto_region 1 with fail
 rw [zA HW0]
 go_wp2_with fail
 go_at_call 37
 refine (zA HSA _).mono ?_
 rintro e w1 ⟨rfl,hw⟩
 obtain rfl:=hw.symm
 go_wp2_with ((refine zH rfl 64 (.tmp 6) (.tmp 28) rfl (w.heap.size+1) 0 [.int .i64 3,.int .i64 0,.int .i64 0,.slice none 0 0,.int .i64 0] rfl rfl (by simp [Value.oneCell']) sz64 ((zA HX0).there 1 rfl 5 rfl) ?_;intro W2 hW2;have HX2:=zB ((zA HX0).give 1 rfl [.int .i64 3,.int .i64 0,.int .i64 0,.slice none 0 0,.int .i64 0] rfl);have HE:=zB (zF (B:=w.heap.size) (w.heap.size+1) (by omega) [.int .i64 3,.int .i64 0,.int .i64 0,.slice none 0 0,.int .i64 0] 0 _ (zA HL0));rw [←hW2] at HX2 HE;clear hW2))
 have r0:=(zA HX2).cell 1 rfl 0 rfl
 have r1:=(zA HX2).cell 1 rfl 1 rfl
 have r2:=(zA HX2).cell 1 rfl 2 rfl
 have r3:=(zA HX2).cell 1 rfl 3 rfl
 have r4:=(zA HX2).cell 1 rfl 4 rfl
 refine bodyPost_ret (v:=.agg #[.int .i64 3,.int .i64 0,.int .i64 0,.slice none 0 0,.int .i64 0]) (by simp [results,Tryz.results45,go_sem,r0,r1,r2,r3,r4]) rfl ⟨rfl,zA HE⟩
theorem ask_bad2 (p:Nat) (T:Option Addr) (tc:Nat) (G:Option Addr) (gc:Nat) (u2 u3 u4:Value) (X:Wd) (fa fn part:Int) (w:World) (hB:Bxs p [([.slice T (zK X).length tc,.slice G X.gens.length gc,u2,u3,u4],82)] w) (hS:StAt w T G (zK X) X) (h1:zBB fa=true) (h2:zBB fn=false) :
  Calls Tryz.prog 45 #[.pointer (some ⟨p,0,none⟩),.agg #[.int .i64 fa,.int .i64 fn],.int .i64 part] w fun e w'=>e=.returned (.agg #[.int .i64 3,.int .i64 0,.int .i64 0,.slice none 0 0,.int .i64 0])∧Below w.heap.size w w':=by
 have hSA:=zAJ fa
 have hSN:=zAJ fn
 have hSP:=zBh part
 rw [h1] at hSA
 rw [h2] at hSN
 have HSA:=zB hSA
 have HSN:=zB hSN
 have HSP:=zB hSP
 clear hSA hSN hSP hS
 obtain ⟨W0,hW0,hbx,hX0⟩:=zAL w [([.int .i64 fa,.int .i64 fn],41),([.int .i64 0,.int .i64 0,.int .i64 0,.slice none 0 0,.int .i64 0],64)]
 have HW0:Hid ((w.alloc (.cells #[.int .i64 fa,.int .i64 fn] 41)).alloc (.cells #[.int .i64 0,.int .i64 0,.int .i64 0,.slice none 0 0,.int .i64 0] 64)=W0):=zB hW0
 clear hW0
 have hp:p<w.heap.size:=hB.lt (k:=0) rfl
 have hz0:w.heap.size+2≤W0.heap.size:=hX0.sz (by simp)
 have HP0:=zB (hB.below hbx)
 have HL0:=zB hbx
 have HX0:=zB hX0
 have f0:=hX0.cell 0 rfl 0 rfl
 have f1:=hX0.cell 0 rfl 1 rfl
 rw [Nat.add_zero] at f0 f1
 clear hbx hX0 hB
 go_enter Tryz.func45,Tryz.ntmps45
 go_upto_region 1 with fail
 rw [zA HW0]
 go_wp2_with fail
 go_at_call 37
 refine (zA HSA _).mono ?_
 rintro e w1 ⟨rfl,hw⟩
 obtain rfl:=hw.symm
 go_wp2_with fail
 go_at_call 37
 refine (zA HSN _).mono ?_
 rintro e w1 ⟨rfl,hw⟩
 obtain rfl:=hw.symm
 go_wp2_with ((refine zH rfl 64 (.tmp 6) (.tmp 28) rfl (w.heap.size+1) 0 [.int .i64 3,.int .i64 0,.int .i64 0,.slice none 0 0,.int .i64 0] rfl rfl (by simp [Value.oneCell']) sz64 ((zA HX0).there 1 rfl 5 rfl) ?_;intro W2 hW2;have HX2:=zB ((zA HX0).give 1 rfl [.int .i64 3,.int .i64 0,.int .i64 0,.slice none 0 0,.int .i64 0] rfl);have HE:=zB (zF (B:=w.heap.size) (w.heap.size+1) (by omega) [.int .i64 3,.int .i64 0,.int .i64 0,.slice none 0 0,.int .i64 0] 0 _ (zA HL0));rw [←hW2] at HX2 HE;clear hW2))
 have r0:=(zA HX2).cell 1 rfl 0 rfl
 have r1:=(zA HX2).cell 1 rfl 1 rfl
 have r2:=(zA HX2).cell 1 rfl 2 rfl
 have r3:=(zA HX2).cell 1 rfl 3 rfl
 have r4:=(zA HX2).cell 1 rfl 4 rfl
 refine bodyPost_ret (v:=.agg #[.int .i64 3,.int .i64 0,.int .i64 0,.slice none 0 0,.int .i64 0]) (by simp [results,Tryz.results45,go_sem,r0,r1,r2,r3,r4]) rfl ⟨rfl,zA HE⟩
theorem ask_bad3 (p:Nat) (T:Option Addr) (tc:Nat) (G:Option Addr) (gc:Nat) (u2 u3 u4:Value) (X:Wd) (fa fn part:Int) (w:World) (hB:Bxs p [([.slice T (zK X).length tc,.slice G X.gens.length gc,u2,u3,u4],82)] w) (hS:StAt w T G (zK X) X) (h1:zBB fa=true) (h2:zBB fn=true) (h3:zAU part=false) :
  Calls Tryz.prog 45 #[.pointer (some ⟨p,0,none⟩),.agg #[.int .i64 fa,.int .i64 fn],.int .i64 part] w fun e w'=>e=.returned (.agg #[.int .i64 3,.int .i64 0,.int .i64 0,.slice none 0 0,.int .i64 0])∧Below w.heap.size w w':=by
 have hSA:=zAJ fa
 have hSN:=zAJ fn
 have hSP:=zBh part
 rw [h1] at hSA
 rw [h2] at hSN
 rw [h3] at hSP
 have HSA:=zB hSA
 have HSN:=zB hSN
 have HSP:=zB hSP
 clear hSA hSN hSP hS
 obtain ⟨W0,hW0,hbx,hX0⟩:=zAL w [([.int .i64 fa,.int .i64 fn],41),([.int .i64 0,.int .i64 0,.int .i64 0,.slice none 0 0,.int .i64 0],64)]
 have HW0:Hid ((w.alloc (.cells #[.int .i64 fa,.int .i64 fn] 41)).alloc (.cells #[.int .i64 0,.int .i64 0,.int .i64 0,.slice none 0 0,.int .i64 0] 64)=W0):=zB hW0
 clear hW0
 have hp:p<w.heap.size:=hB.lt (k:=0) rfl
 have hz0:w.heap.size+2≤W0.heap.size:=hX0.sz (by simp)
 have HP0:=zB (hB.below hbx)
 have HL0:=zB hbx
 have HX0:=zB hX0
 have f0:=hX0.cell 0 rfl 0 rfl
 have f1:=hX0.cell 0 rfl 1 rfl
 rw [Nat.add_zero] at f0 f1
 clear hbx hX0 hB
 go_enter Tryz.func45,Tryz.ntmps45
 go_upto_region 1 with fail
 rw [zA HW0]
 go_wp2_with fail
 go_at_call 37
 refine (zA HSA _).mono ?_
 rintro e w1 ⟨rfl,hw⟩
 obtain rfl:=hw.symm
 go_wp2_with fail
 go_at_call 37
 refine (zA HSN _).mono ?_
 rintro e w1 ⟨rfl,hw⟩
 obtain rfl:=hw.symm
 go_wp2_with fail
 go_at_call 71
 refine (zA HSP _).mono ?_
 rintro e w1 ⟨rfl,hw⟩
 obtain rfl:=hw.symm
 go_wp2_with ((refine zH rfl 64 (.tmp 6) (.tmp 28) rfl (w.heap.size+1) 0 [.int .i64 3,.int .i64 0,.int .i64 0,.slice none 0 0,.int .i64 0] rfl rfl (by simp [Value.oneCell']) sz64 ((zA HX0).there 1 rfl 5 rfl) ?_;intro W2 hW2;have HX2:=zB ((zA HX0).give 1 rfl [.int .i64 3,.int .i64 0,.int .i64 0,.slice none 0 0,.int .i64 0] rfl);have HE:=zB (zF (B:=w.heap.size) (w.heap.size+1) (by omega) [.int .i64 3,.int .i64 0,.int .i64 0,.slice none 0 0,.int .i64 0] 0 _ (zA HL0));rw [←hW2] at HX2 HE;clear hW2))
 have r0:=(zA HX2).cell 1 rfl 0 rfl
 have r1:=(zA HX2).cell 1 rfl 1 rfl
 have r2:=(zA HX2).cell 1 rfl 2 rfl
 have r3:=(zA HX2).cell 1 rfl 3 rfl
 have r4:=(zA HX2).cell 1 rfl 4 rfl
 refine bodyPost_ret (v:=.agg #[.int .i64 3,.int .i64 0,.int .i64 0,.slice none 0 0,.int .i64 0]) (by simp [results,Tryz.results45,go_sem,r0,r1,r2,r3,r4]) rfl ⟨rfl,zA HE⟩
theorem ask_ok (p:Nat) (T:Option Addr) (tc:Nat) (G:Option Addr) (gc:Nat) (u2 u3 u4:Value) (X:Wd) (fa fn part:Int) (w:World) (hB:Bxs p [([.slice T (zK X).length tc,.slice G X.gens.length gc,u2,u3,u4],82)] w) (hS:StAt w T G (zK X) X) (h1:zBB fa=true) (h2:zBB fn=true) (h3:zAU part=true) :
  Calls Tryz.prog 45 #[.pointer (some ⟨p,0,none⟩),.agg #[.int .i64 fa,.int .i64 fn],.int .i64 part] w fun e w'=>∃ A c,e=.returned (.agg #[.int .i64 0,.int .i64 0,.int .i64 0,.slice A (zBQ X fa fn X.rows.length).length c,.int .i64 (sumTo X part (zBQ X fa fn X.rows.length) 0)])∧w'.ownsRow (w.heap.size+2) 39 2 (.slice A (zBQ X fa fn X.rows.length).length c) (zBQ X fa fn X.rows.length).length (zc (zBQ X fa fn X.rows.length))∧Below w.heap.size w w':=by
 have hSA:=zAJ fa
 have hSN:=zAJ fn
 have hSP:=zBh part
 rw [h1] at hSA
 rw [h2] at hSN
 rw [h3] at hSP
 obtain ⟨hl,_,_⟩:=zAT ((zr X).2 hS.right)
 have hM:=fun W (hb:Below w.heap.size w W)=>smatch_own T tc G gc (zK X) X fa fn W (hS.below hb)
 have hWD:=fun W (hb:Below w.heap.size w W)=>sworld_any T tc G gc (zK X) X W (hS.below hb)
 have hGT:=fun A c G' gc' i g W (h:WldAt W A c G' gc' X)=>get_any A X.rows.length c G' X.gens.length gc' (fun j=>X.rows.getD j dR) i g part W (by omega) h.rows
 have hbl:(zBQ X fa fn X.rows.length).length≤60:=by
  unfold zBQ
  rw [List.length_map]
  refine Nat.le_trans (List.length_filter_le _ _) ?_
  rw [List.length_take];omega
 unfold stV at hM hWD
 unfold zz zR at hWD
 unfold zR zS at hGT
 have hge:∀ i g,getI (fun j=>X.rows.getD j dR) X.rows.length i g part=zBW X i g part:=fun _ _=>rfl
 simp only [hge] at hGT
 have HST:=zB (sumTo_take X part (zBQ X fa fn X.rows.length))
 have HBG:=zB (bs_get (zBQ X fa fn X.rows.length))
 generalize zBQ X fa fn X.rows.length=bl at *
 obtain ⟨n,hn⟩:∃ n,n=bl.length:=⟨_,rfl⟩
 have HN:=zB hn
 rw [←hn] at hM hbl HST HBG ⊢
 generalize zc bl=cs at *
 have HSA:=zB hSA
 have HSN:=zB hSN
 have HSP:=zB hSP
 have HM:=zB hM
 have HWD:=zB hWD
 have HGT:=zB hGT
 clear hSA hSN hSP hS hM hWD hGT h1 h2 h3 hge hn
 obtain ⟨W0,hW0,hbx,hX0⟩:=zAL w [([.int .i64 fa,.int .i64 fn],41),([.int .i64 0,.int .i64 0,.int .i64 0,.slice none 0 0,.int .i64 0],64)]
 have HW0:Hid ((w.alloc (.cells #[.int .i64 fa,.int .i64 fn] 41)).alloc (.cells #[.int .i64 0,.int .i64 0,.int .i64 0,.slice none 0 0,.int .i64 0] 64)=W0):=zB hW0
 clear hW0
 have hp:p<w.heap.size:=hB.lt (k:=0) rfl
 have hz0:w.heap.size+2≤W0.heap.size:=hX0.sz (by simp)
 have HP0:=zB (hB.below hbx)
 have HL0:=zB hbx
 have HX0:=zB hX0
 have f0:=hX0.cell 0 rfl 0 rfl
 have f1:=hX0.cell 0 rfl 1 rfl
 rw [Nat.add_zero] at f0 f1
 clear hbx hX0 hB
 go_enter Tryz.func45,Tryz.ntmps45
 go_upto_region 1 with fail
 rw [zA HW0]
 go_wp2_with fail
 go_at_call 37
 refine (zA HSA _).mono ?_
 rintro e w1 ⟨rfl,hw⟩
 obtain rfl:=hw.symm
 go_wp2_with fail
 go_at_call 37
 refine (zA HSN _).mono ?_
 rintro e w1 ⟨rfl,hw⟩
 obtain rfl:=hw.symm
 go_wp2_with fail
 go_at_call 71
 refine (zA HSP _).mono ?_
 rintro e w1 ⟨rfl,hw⟩
 obtain rfl:=hw.symm
 clear HSA HSN HSP f0 f1
 have h0:=R79.start W0 n cs
 have H0:=zB h0
 clear h0
 go_upto_region 3 with fail
 have h0:=zA H0
 refine zi (fun (γ:G3) ix v=>if ix=6 then v=.slice γ.A n γ.c else if ix=7 then v=.agg #[.int .i64 0,.int .i64 0,.int .i64 0,.slice γ.A n γ.c,.int .i64 0] else if ix=8 then v=.pointer (some ⟨γ.b,0,none⟩) else (([fun v=>v=.pointer (some ⟨p,0,none⟩),fun v=>v=.pointer (some ⟨p,0,none⟩),fun v=>v=.pointer (some ⟨p,0,none⟩),fun v=>v=.pointer (some ⟨p,0,none⟩),fun v=>v=.agg #[.slice T (zK X).length tc,.slice G X.gens.length gc],fun v=>v=.agg #[.int .i64 fa,.int .i64 fn],fun _=>True,fun _=>True,fun _=>True,fun _=>True]:List (Value→Prop)).getD ix (fun _=>True)) v) (fun (γ:G3) L W=>R79 W0 n cs γ L W) (⟨none,0,0⟩) (by kernel_rfl) (by kernel_rfl) (by kernel_rfl) h0 ?hstep ?hend
 case hstep =>
  intro γ ix o ho L ac w1 hD hL hed hcl hout hv
  match ix,ho with
  | 0,ho =>
   simp at ho
   subst ho
   have e0:ac.tmps.getD 0 undef=.pointer (some ⟨p,0,none⟩):=hout 0 (by decide +kernel)
   exact .inl ⟨rfl,zG γ (.pointer (some ⟨p,0,none⟩)) (by simp [go_sem,Act.eval,-Array.getD_eq_getD_getElem?,e0]) rfl (hD.same (by decide) (by decide) (by decide)) (fun _ _ _ _ h=>h)⟩
  | 1,ho =>
   simp at ho
   subst ho
   have e29:ac.tmps.getD 29 undef=.pointer (some ⟨p,0,none⟩):=hv 0 29 rfl (by kernel_rfl)
   exact .inl ⟨rfl,zG γ (.pointer (some ⟨p,0,none⟩)) (by simp [go_sem,Act.eval,-Array.getD_eq_getD_getElem?,e29]) rfl (hD.same (by decide) (by decide) (by decide)) (fun _ _ _ _ h=>h)⟩
  | 2,ho =>
   simp at ho
   subst ho
   have e30:ac.tmps.getD 30 undef=.pointer (some ⟨p,0,none⟩):=hv 1 30 rfl (by kernel_rfl)
   exact .inl ⟨rfl,zG γ (.pointer (some ⟨p,0,none⟩)) (by simp [go_sem,Act.eval,-Array.getD_eq_getD_getElem?,e30]) rfl (hD.same (by decide) (by decide) (by decide)) (fun _ _ _ _ h=>h)⟩
  | 3,ho =>
   simp at ho
   subst ho
   have e31:ac.tmps.getD 31 undef=.pointer (some ⟨p,0,none⟩):=hv 2 31 rfl (by kernel_rfl)
   exact .inl ⟨rfl,zG γ (.pointer (some ⟨p,0,none⟩)) (by simp [go_sem,Act.eval,-Array.getD_eq_getD_getElem?,e31]) rfl (hD.same (by decide) (by decide) (by decide)) (fun _ _ _ _ h=>h)⟩
  | 4,ho =>
   simp at ho
   subst ho
   have e32:ac.tmps.getD 32 undef=.pointer (some ⟨p,0,none⟩):=hv 3 32 rfl (by kernel_rfl)
   have bb:=(zA HP0).below hD.bel
   have c0:=bb.cell 0 rfl 0 rfl
   have c1:=bb.cell 0 rfl 1 rfl
   rw [Nat.add_zero] at c0 c1
   exact .inl ⟨rfl,zG γ (.agg #[.slice T (zK X).length tc,.slice G X.gens.length gc]) (by simp [go_sem,Act.eval,-Array.getD_eq_getD_getElem?,e32,c0,c1]) rfl (hD.same (by decide) (by decide) (by decide)) (fun _ _ _ _ h=>h)⟩
  | 5,ho =>
   simp at ho
   subst ho
   have e4:ac.tmps.getD 4 undef=.pointer (some ⟨w.heap.size,0,none⟩):=hout 4 (by decide +kernel)
   have bb:=(zA HX0).below hD.bel
   have c0:=bb.cell 0 rfl 0 rfl
   have c1:=bb.cell 0 rfl 1 rfl
   rw [Nat.add_zero] at c0 c1
   exact .inl ⟨rfl,zG γ (.agg #[.int .i64 fa,.int .i64 fn]) (by simp [go_sem,Act.eval,-Array.getD_eq_getD_getElem?,e4,c0,c1]) rfl (hD.same (by decide) (by decide) (by decide)) (fun _ _ _ _ h=>h)⟩
  | 6,ho =>
   simp at ho
   subst ho
   have e33:ac.tmps.getD 33 undef=.agg #[.slice T (zK X).length tc,.slice G X.gens.length gc]:=hv 4 33 rfl (by kernel_rfl)
   have e34:ac.tmps.getD 34 undef=.agg #[.int .i64 fa,.int .i64 fn]:=hv 5 34 rfl (by kernel_rfl)
   have q7:L 7=false:=by
    cases h:L 7
    ·rfl
    ·exact absurd (hcl 7 _ rfl h 6 (by kernel_rfl)) (by rw [hL];decide)
   have q9:L 9=false:=by
    cases h:L 9
    ·rfl
    ·exact absurd (hcl 9 _ rfl h 7 (by kernel_rfl)) (by rw [q7];decide)
   refine .inl ⟨rfl,zy 72 #[.agg #[.slice T (zK X).length tc,.slice G X.gens.length gc],.agg #[.int .i64 fa,.int .i64 fn]] (by simp [go_sem,Act.eval,-Array.getD_eq_getD_getElem?,e33,e34]) ?_⟩
   refine (zA HM w1 ((zA HL0).trans (hD.bel.mono (zA HL0).size))).mono ?_
   rintro e w6' ⟨A6,c6,rfl,ho6,hb6⟩
   exact ⟨_,⟨A6,c6,γ.b⟩,rfl,rfl,hD.call q9 ho6 hb6,fun j u hj hLj h=>by
    by_cases e:j=7
    ·subst e;rw [q7] at hLj;cases hLj
    ·simpa [hj,e] using h⟩
  | 7,ho =>
   simp at ho
   subst ho
   have e35:ac.tmps.getD 35 undef=.slice γ.A n γ.c:=hv 6 35 rfl (by kernel_rfl)
   exact .inl ⟨rfl,zG γ (.agg #[.int .i64 0,.int .i64 0,.int .i64 0,.slice γ.A n γ.c,.int .i64 0]) (by simp [go_sem,Act.eval,-Array.getD_eq_getD_getElem?,e35]) rfl (hD.same (by decide) (by decide) (by decide)) (fun _ _ _ _ h=>h)⟩
  | 8,ho =>
   simp at ho
   subst ho
   have q9:L 9=false:=by
    cases h:L 9
    ·rfl
    ·exact absurd (hcl 9 _ rfl h 8 (by kernel_rfl)) (by rw [hL];decide)
   exact .inl ⟨rfl,gho_makes ⟨γ.A,γ.c,w1.heap.size⟩ (.pointer (some ⟨w1.heap.size,0,none⟩)) (w2:=w1.alloc (.cells #[.int .i64 0,.int .i64 0,.int .i64 0,.slice none 0 0,.int .i64 0] 64)) (by simp [go_sem,Act.eval]) rfl (hD.make q9) (fun j u hj hLj h=>by simpa [hj] using h)⟩
  | 9,ho =>
   simp at ho
   subst ho
   have e7:ac.tmps.getD 7 undef=.pointer (some ⟨γ.b,0,none⟩):=hv 8 7 rfl (by kernel_rfl)
   have e36:ac.tmps.getD 36 undef=.agg #[.int .i64 0,.int .i64 0,.int .i64 0,.slice γ.A n γ.c,.int .i64 0]:=hv 7 36 rfl (by kernel_rfl)
   have q8:L 8=true:=hed 8 (by kernel_rfl)
   have q7:L 7=true:=hed 7 (by kernel_rfl)
   have q6:L 6=true:=hcl 7 _ rfl q7 6 (by kernel_rfl)
   have hbx:=(hD.bx q8).2
   rw [hL] at hbx
   exact .inl ⟨rfl,zBS γ 64 (.tmp 7) (.tmp 36) rfl γ.b 0 [.int .i64 0,.int .i64 0,.int .i64 0,.slice γ.A n γ.c,.int .i64 0] (by simp [Act.eval,-Array.getD_eq_getD_getElem?,e7]) (by simp [Act.eval,-Array.getD_eq_getD_getElem?,e36]) (by simp [Value.oneCell']) sz64 (hbx.there 0 rfl 5 rfl) trivial (hD.put q6 q8 hL) (fun _ _ _ _ h=>h)⟩
  | ix+10,ho=>simp at ho
 case hend =>
  intro γ v L w3 hD hall hv
  have a6:=hall 6 (by decide)
  have a8:=hall 8 (by decide)
  have a9:=hall 9 (by decide)
  have v8:v 8=.pointer (some ⟨γ.b,0,none⟩):=hv 8 7 rfl
  have hbx:=hD.bx a8
  rw [a9,if_pos rfl] at hbx
  have ho:=hD.own a6
  have hne:=hD.ne a6 a8
  have hbl3:=hD.bel
  obtain ⟨A3,c3,b3⟩:=γ
  dsimp only at v8 hbx ho hne
  obtain ⟨hlo3,hbx⟩:=hbx
  have HL3:=zB ((zA HL0).trans (hbl3.mono (zA HL0).size))
  have hP3:=(zA HP0).below hbl3
  have HRB3:Hid (Bxs (w.heap.size+1) [([.int .i64 0,.int .i64 0,.int .i64 0,.slice none 0 0,.int .i64 0],64)] w3):=zB (fun k vs t hk=>by
   match k,hk with
   | 0,hk=>have:=((zA HX0).below hbl3) 1 vs t hk;simpa using this
   | k+1,hk=>simp at hk)
  have s0:=hP3.cell 0 rfl 0 rfl
  have s1:=hP3.cell 0 rfl 1 rfl
  rw [Nat.add_zero] at s0 s1
  have HBX:=zB hbx
  have HO:=zB ho
  have HNE:=zB hne
  have hb3l:b3<w3.heap.size:=hbx.lt (k:=0) rfl
  clear hv hall hD h0 a6 a8 a9 hbx ho hne hbl3 hP3 HX0 HP0 H0 HM
  simp only [zn,List.getElem?_cons_zero,List.getElem?_cons_succ,Option.bind_some,List.length_cons,List.length_nil,Nat.reduceAdd,v8]
  clear v8
  go_frame
  go_wp2_with fail
  go_at_call 14
  refine (zA HWD w3 (zA HL3)).mono ?_
  rintro e w4 ⟨A4,c4,G4,gc4,rfl,hN4,hb4⟩
  obtain ⟨W5,hW5,hbx,hX5⟩:=zAL w4 [([.slice A4 X.rows.length c4,.slice G4 X.gens.length gc4],51)]
  have HW5:Hid (w4.alloc (.cells #[.slice A4 X.rows.length c4,.slice G4 X.gens.length gc4] 51)=W5):=zB hW5
  clear hW5
  have hb34:=hb4.trans (hbx.mono hb4.size)
  have hAQ:AQ w W0.heap.size b3 A3 c3 n cs A4 c4 G4 gc4 X w3.heap.size w4.heap.size 0 W5:=⟨(zA HBX).below hb34,zb (zA HO) hb34,zA HNE,hX5,hN4.below hbx,(zA HRB3).below hb34,(zA HL3).trans (hb34.mono (zA HL3).size),⟨by omega,hb3l,hb4.size⟩⟩
  have t3:=hAQ.bx.cell 0 rfl 3 rfl
  rw [Nat.add_zero] at t3
  have HAQ:=zB hAQ
  clear s0 s1 hN4 hb4 hbx hb34 hX5 hAQ HBX HO HNE HRB3 HL3 HWD
  go_upto_region 5 with fail
  rw [zA HW5]
  go_wp2_with fail
  clear t3
  go_loopw [46] (fun x wr=>∃ j:Nat,j≤n∧x=.int .i64 (j:Int)∧AQ w W0.heap.size b3 A3 c3 n cs A4 c4 G4 gc4 X w3.heap.size w4.heap.size (sumTo X part (bl.take j) 0) wr) (fun x _=>n - (intOf x).toNat)
  case atStart=>exact ⟨0,Nat.zero_le _,rfl,zA HAQ⟩
  case round =>
   clear HAQ
   obtain ⟨j,hj,rfl,hAQ⟩:=hrel
   by_cases hlt:j<n
   ·have j0:(0:Int)≤(j:Int):=by omega
    have j1:(j:Int)<(n:Int):=by omega
    obtain ⟨wk,rfl⟩:∃ wk,wk=wr:=⟨_,rfl⟩
    obtain ⟨g,cg,hA3,_,_⟩:=zAI hAQ.own (by omega)
    simp only [Value.slice.injEq,true_and] at hA3
    obtain ⟨rfl,rfl⟩:=hA3
    have c0:=zd hAQ.own (zA HBG j hlt).1
    have c1:=zd hAQ.own (zA HBG j hlt).2
    have HS:=zB (zA HST j hlt)
    generalize (bl.getD j (0,0)).1=bi at *
    generalize (bl.getD j (0,0)).2=bg at *
    obtain ⟨W6,hW6,hbx,hX6⟩:=zAL wk [([.int .i64 bi,.int .i64 bg],39)]
    have HW6:Hid (wk.alloc (.cells #[.int .i64 bi,.int .i64 bg] 39)=W6):=zB hW6
    clear hW6
    have HA6:=zB (hAQ.below hbx)
    have HZ6:=zB hX6
    have z0:=hX6.cell 0 rfl 0 rfl
    have z1:=hX6.cell 0 rfl 1 rfl
    have y0:=(zA HA6).wl.cell 0 rfl 0 rfl
    have y1:=(zA HA6).wl.cell 0 rfl 1 rfl
    rw [Nat.add_zero] at z0 z1 y0 y1
    generalize sumTo X part (bl.take j) 0=acc at *
    clear hbx hX6 hAQ
    go_upto_region 8 with fail
    rw [zA HW6]
    go_wp2_with fail
    go_at_call 36
    refine (zA HGT A4 c4 G4 gc4 bi bg W6 (zA HA6).wn.toWldAt).mono ?_
    rintro e w7 ⟨rfl,hb7⟩
    have HA7:=zB ((zA HA6).below hb7)
    have t4:=(zA HA7).bx.cell 0 rfl 4 rfl
    rw [Nat.add_zero] at t4
    generalize (zBW X bi bg part).1=gv at *
    generalize (zBW X bi bg part).2=gb at *
    clear c0 c1 z0 z1 y0 y1 hb7 HZ6
    go_wp2_with ((refine zp rfl 3 (.tmp 61) (.tmp 60) rfl b3 4 _ rfl rfl rfl sz3a (zBL ((zA HA7).bx.there 0 rfl 5 rfl) 4 1 (by omega)) ?_;intro W8 hW8;have HW8:=zB hW8;clear hW8))
    go_roundw
    case rel=>exact ⟨j+1,by omega,by go_num,by rw [zA HS,zA HW8,IntWalk.i64_left];exact (zA HA7).put _⟩
    case measure=>simp [intOf];omega
   ·have hjn:n=j:=by omega
    subst hjn
    have htk:bl.take n=bl:=by rw [zA HN,List.take_length]
    rw [htk] at hAQ
    have t0:=hAQ.bx.cell 0 rfl 0 rfl
    have t1:=hAQ.bx.cell 0 rfl 1 rfl
    have t2:=hAQ.bx.cell 0 rfl 2 rfl
    have t3:=hAQ.bx.cell 0 rfl 3 rfl
    have t4:=hAQ.bx.cell 0 rfl 4 rfl
    rw [Nat.add_zero] at t0 t1 t2 t3 t4
    obtain ⟨acc,hacc⟩:∃ acc,acc=sumTo X part bl 0:=⟨_,rfl⟩
    rw [←hacc] at hAQ t4
    have HAC:=zB hacc
    have HA:=zB hAQ
    clear hacc
    clear hAQ htk
    go_wp2_with ((refine zH rfl 64 (.tmp 6) (.tmp 63) rfl (w.heap.size+1) 0 [.int .i64 0,.int .i64 0,.int .i64 0,.slice A3 n c3,.int .i64 acc] rfl rfl (by simp [Value.oneCell']) sz64 ((zA HA).rb.there 0 rfl 5 rfl) ?_;intro W9 hW9;have HR9:=zB ((zA HA).rb.give 0 rfl [.int .i64 0,.int .i64 0,.int .i64 0,.slice A3 n c3,.int .i64 acc] rfl);have HE9:=zB (zF (B:=w.heap.size) (w.heap.size+1) (by omega) [.int .i64 0,.int .i64 0,.int .i64 0,.slice A3 n c3,.int .i64 acc] 0 _ (zA HA).bel);have HO9:=zB (zCi (zA HA).own ((Tw.refl (fun b=>b=w.heap.size+1) _).sets (b:=w.heap.size+1) (o:=0) (vs:=[.int .i64 0,.int .i64 0,.int .i64 0,.slice A3 n c3,.int .i64 acc]) (.inl rfl)) (fun g hg hb=>by have:=((zA HA).own.lt g hg).1;omega));rw [Nat.add_zero] at HR9;rw [←hW9] at HR9 HE9 HO9;clear hW9))
    have r0:=(zA HR9).cell 0 rfl 0 rfl
    have r1:=(zA HR9).cell 0 rfl 1 rfl
    have r2:=(zA HR9).cell 0 rfl 2 rfl
    have r3:=(zA HR9).cell 0 rfl 3 rfl
    have r4:=(zA HR9).cell 0 rfl 4 rfl
    rw [Nat.add_zero] at r0 r1 r2 r3 r4
    refine bodyPost_ret (v:=.agg #[.int .i64 0,.int .i64 0,.int .i64 0,.slice A3 n c3,.int .i64 acc]) (by simp [results,Tryz.results45,go_sem,r0,r1,r2,r3,r4]) rfl ⟨A3,c3,by rw [zA HAC],own_low (zA HO9) (by omega),zA HE9⟩
end Go.Proofs.YtnbleebilmghcacGreat
