/- PRKill, PRWith, PRMath -/
import Derived.Test.YtnbleebilmghcabGreatWG
import Derived.Test.YtnbleebilmghcabGreatXPRWrong
set_option linter.all false
set_option maxHeartbeats 4000000
set_option maxRecDepth 8000
namespace Go.Proofs.YtnbleebilmghcabGreat
open Go Go.RowKit
attribute [local go_sem ↓] Go.wp_at_zero Go.wp_at_succ
structure WldDoc (B:Nat) (w:World) (G0 A:Option Addr) (cap:Nat) (G:Option Addr) (gcap:Nat) (X:Wd):Prop extends WldAt w A cap G gcap X where
 fa:∀ c o,A=some ⟨c,o,none⟩→B≤c
 fg:G=G0∨∀ c o,G=some ⟨c,o,none⟩→B≤c
theorem zy (B:Nat) (w:World) (G0:Option Addr):WldDoc B w G0 none 0 none 0 emptyW:=⟨zEe w,fun _ _ h=>(by cases h),.inr fun _ _ h=>(by cases h)⟩
structure OL (x:Nat) (v u1:Value) (l:List RowI) (W:World):Prop where
 box:B13 x v u1 W
 own:W.ownsRow (x+1) 116 11 v l.length (zD l)
theorem OL.lx {x:Nat} {v u1:Value} {l:List RowI} {W:World} (h:OL x v u1 l W):x<W.heap.size:=World.block_lt_of_cell? W ⟨x,0,none⟩ h.box.e0
theorem OL.below {x:Nat} {v u1:Value} {l:List RowI} {W W1:World} (h:OL x v u1 l W) (hb:Below W.heap.size W W1):OL x v u1 l W1:=⟨h.box.keep (hb.mono h.lx),zc h.own hb⟩
theorem OL.start (w:World) (u1:Value):OL w.heap.size (.slice none 0 0) u1 [] (w.alloc (.cells #[.slice none 0 0,u1] 43)):=⟨B13.start w _ _,World.ownsRow_nil _ _ _ _⟩
theorem OL.app {x g cap:Nat} {v u1:Value} {l:List RowI} {W W1:World} (h:OL x v u1 l W) (r:RowI) (ho:W1.ownsRow (x+1) 116 11 (.slice (some ⟨g,0,none⟩) (l.length+1) cap) (l.length+1) (zD l++zH r)) (hg:W.grownBy W1 v.ownBlock) :
  OL x (.slice (some ⟨g,0,none⟩) (l.length+1) cap) u1 (l++[r]) (W1.setCell ⟨x,0,none⟩ (.slice (some ⟨g,0,none⟩) (l.length+1) cap))∧Below x W (W1.setCell ⟨x,0,none⟩ (.slice (some ⟨g,0,none⟩) (l.length+1) cap)):=by
 have hb1:Below (x+1) W W1:=zZ hg (fun k hk=>(h.own.lt k hk).1) h.lx
 have hb0:Below x W W1:=hb1.mono (Nat.le_succ x)
 refine ⟨⟨(h.box.keep hb1).set0 _,?_⟩,hb0.setCell (p:=⟨x,0,none⟩) (Nat.le_refl _) _⟩
 have hc:zD (l++[r])=zD l++zH r:=by rw [zAx,zDx]
 rw [hc,List.length_append,List.length_singleton]
 exact ownsRow_setCell_below ho (a:=⟨x,0,none⟩) (by simp) _
theorem OL.there {x:Nat} {v u1:Value} {l:List RowI} {W W1:World} (h:OL x v u1 l W) (hb:Below (x+1) W W1):W1.there x 0 1:=zAB (h.box.keep hb).e0 (h.box.keep hb).f
theorem zHF {X:Wd} (hr:RightW X) {k:Nat} (hk:k<X.rows.length) {i g:Int} (h1:(zR X k).ix=i) (h2:(zR X k).gen=g):X.rows.filter (fun r=>!isB r i g)=X.rows.eraseIdx k:=by
 have hB:∀ j,j<X.rows.length→isB (zR X j) i g=decide (j=k):=fun j hj=>by
  by_cases e:j=k
  ·subst e
   rw [(zFE _ _ _).2 ⟨h1,h2⟩];simp
  ·have:isB (zR X j) i g=false:=by
    rw [Bool.eq_false_iff]
    intro h
    exact e (hr.one hj hk (by rw [((zFE _ _ _).1 h).1,h1]))
   rw [this];simp [e]
 have hg:∀ j (hj:j<X.rows.length),X.rows[j]=zR X j:=fun j hj=>by unfold zR;rw [List.getD_eq_getElem?_getD,List.getElem?_eq_getElem hj];rfl
 have e1:X.rows=X.rows.take k++X.rows[k] :: X.rows.drop (k+1):=by rw [List.getElem_cons_drop];exact (List.take_append_drop k X.rows).symm
 have e2:X.rows.eraseIdx k=X.rows.take k++X.rows.drop (k+1):=List.eraseIdx_eq_take_drop_succ X.rows k
 rw [e2]
 conv=>lhs;rw [e1]
 rw [List.filter_append,List.filter_cons]
 have hk':(!isB X.rows[k] i g)=false:=by rw [hg k hk,hB k hk];simp
 rw [hk']
 have t1:(X.rows.take k).filter (fun r=>!isB r i g)=X.rows.take k:=by
  rw [List.filter_eq_self]
  intro a ha
  obtain ⟨j,hj,rfl⟩:=List.getElem_of_mem ha
  rw [List.length_take] at hj
  rw [List.getElem_take,hg j (by omega),hB j (by omega)]
  simp;omega
 have t2:(X.rows.drop (k+1)).filter (fun r=>!isB r i g)=X.rows.drop (k+1):=by
  rw [List.filter_eq_self]
  intro a ha
  obtain ⟨j,hj,rfl⟩:=List.getElem_of_mem ha
  rw [List.length_drop] at hj
  rw [List.getElem_drop,hg (k+1+j) (by omega),hB (k+1+j) (by omega)]
  simp;omega
 rw [t1,t2]
 rfl
def zCF (X:Wd) (i g:Int) (j:Nat):List RowI:=(X.rows.take j).filter fun r=>!isB r i g
theorem zHk (X:Wd) (i g:Int) (j:Nat) (h:j<X.rows.length):zCF X i g (j+1)=if isB (X.rows.getD j dR) i g=true then zCF X i g j else zCF X i g j++[X.rows.getD j dR]:=by
 unfold zCF
 rw [List.take_succ_eq_append_getElem h,List.filter_append,List.getD_eq_getElem?_getD,List.getElem?_eq_getElem h,Option.getD_some]
 cases hm:isB X.rows[j] i g <;> simp [hm]
theorem zJc (X:Wd) (i g:Int) (j:Nat):(zCF X i g j).length≤j:=by
 unfold zCF
 exact Nat.le_trans (List.length_filter_le _ _) (by rw [List.length_take];omega)
theorem zKX (A:Option Addr) (cap:Nat) (G:Option Addr) (gcap:Nat) (X:Wd) (i g:Int) (w:World) (hn0:X.rows.length≤9223372036854775807) (hX:WldAt w A cap G gcap X) :
  Calls Tryz.prog 58 #[zi A cap G gcap X,zS i g] w fun e w'=>∃ A' c' G' gc',e=.returned (.tuple #[zi A' c' G' gc' (zAn X i g).2,.int .i64 (zAn X i g).1])∧WldDoc w.heap.size w' G A' c' G' gc' (zAn X i g).2∧Below w.heap.size w w':=by
 have hCW:=CW.start w (.slice A X.rows.length cap) (.slice G X.gens.length gcap) i g
 have hP:=fun W (hb:Below w.heap.size w W)=>zp A X.rows.length cap G X.gens.length gcap (fun j=>X.rows.getD j dR) (fun j=>X.gens.getD j 0) W (by omega) (hX.rows.below hb) (hX.gens.below hb)
 have eW:zAT (fun j=>X.rows.getD j dR) X.rows.length X.gens.length (fun j=>X.gens.getD j 0)=zP X:=rfl
 rw [eW] at hP
 unfold zAG zM at hP
 have HP:=zB hP
 have HX:=zB hX
 have HCW:=zB hCW
 clear hP hCW eW hX
 unfold zAn
 by_cases hw0:(zP X).1=0
 ·rw [if_neg (by simpa using hw0)]
  obtain ⟨hl,hgl,_⟩:=zk hw0
  have hr:=(zf X).1 hw0
  rw [hw0] at HP
  generalize (zP X).2=wa at *
  rcases zAi X i g with hf | ⟨k,hk,hf,h1,h2⟩
  ·have hR:=fun W (h:WldAt W A cap G gcap X)=>zFw hf hl A cap G gcap W h
   rw [hf,if_pos (by decide)]
   have HR:=zB hR
   clear hR hf hw0
   unfold zi zM zS emptyW
   go_enter Tryz.func58,Tryz.ntmps58
   go_wp2_with (first
    | (go_at_call 55;refine (zA HP _ (zA HCW).bel).mono ?_;rintro e w5 ⟨rfl,hb5⟩;have hC5:=(zA HCW).below hb5;have hC6:=hC5.below ((Below.refl _ _).alloc (Nat.le_refl _) (.cells #[.int .i64 0,.int .i64 wa] 29));have r0:=hC6.r0;have r1:=hC6.r1;have s0:=hC6.s0;have s1:=hC6.s1;have HC6:=zB hC6;clear hb5 hC5 hC6)
    | (go_at_call 59;refine (zA HR _ ((zA HX).below (zA HC6).bel)).mono ?_;rintro e w7 ⟨rfl,hb7⟩;have hC7:=(zA HC6).below hb7;have HC7:=zB hC7;clear hb7 hC7 r0 r1 s0 s1)
    | (refine zG rfl 43 (.tmp 4) (.tmp 22) rfl (w.heap.size+2) 0 [.slice none 0 0,.slice none 0 0] rfl rfl (by simp [Value.oneCell']) size38 (zA HC7).there ?_;intro W3 hW3;have hC8:=(zA HC7).give (.slice none 0 0) (.slice none 0 0);rw [←hW3] at hC8;have HC8:=zB hC8;clear hW3 hC8))
   have t0:=(zA HC8).t0
   have t1:=(zA HC8).t1
   refine bodyPost_ret (v:=.tuple #[.agg #[.slice none 0 0,.slice none 0 0],.int .i64 5]) (by simp [results,Tryz.results58,go_sem,t0,t1]) rfl ⟨none,0,none,0,rfl,zy _ _ _,(zA HC8).bel⟩
  ·have hR:=fun W (h:WldAt W A cap G gcap X)=>zCC hf hl A cap G gcap W h
   rw [hf,if_neg (by omega),Int.toNat_natCast,←zHF hr hk h1 h2]
   have hkt:X.rows.filter (fun r=>!isB r i g)=zCF X i g X.rows.length:=by unfold zCF;rw [List.take_length]
   rw [hkt]
   obtain ⟨i61,hi61,hz61,hs61,hb61⟩:=info_parts info61
   have HI:=zB hi61
   have HZ:=zB hz61
   have HS:=zB hs61
   have HB:=zB hb61
   have HR:=zB hR
   clear hR hf hw0 hkt h1 h2 hk hr hi61 hz61 hs61 hb61
   unfold zi zM zS
   go_enter Tryz.func58,Tryz.ntmps58
   go_wp2_with (first
    | (go_at_call 55;refine (zA HP _ (zA HCW).bel).mono ?_;rintro e w5 ⟨rfl,hb5⟩;have hC5:=(zA HCW).below hb5;have hC6:=hC5.below ((Below.refl _ _).alloc (Nat.le_refl _) (.cells #[.int .i64 0,.int .i64 wa] 29));have r0:=hC6.r0;have r1:=hC6.r1;have s0:=hC6.s0;have s1:=hC6.s1;have HC6:=zB hC6;clear hb5 hC5 hC6)
    | (go_at_call 59;refine (zA HR _ ((zA HX).below (zA HC6).bel)).mono ?_;rintro e w7 ⟨b7,o7,rfl,_,hb7⟩;have hC7:=(zA HC6).below hb7;clear r0 r1 s0 s1;have r0:=hC7.r0;have r1:=hC7.r1;have lr:=World.block_lt_of_cell? w7 _ r0;have HC7:=zB hC7;clear hb7 hC7))
   have HOL:=zB (OL.start w7 (.slice G X.gens.length gcap))
   have hx3:=(zA HC7).sz
   clear r0 r1
   obtain ⟨x,hx⟩:∃ x,x=w7.heap.size:=⟨_,rfl⟩
   rw [←hx] at HOL hx3 ⊢
   have HC8:=zB ((zA HC7).below (zAS w7 (.cells #[.slice none 0 0,.slice G X.gens.length gcap] 43)))
   clear hx HC7
   go_loopw [29] (fun t wr=>∃ (j:Nat) (v:Value),j≤X.rows.length∧t=.int .i64 j∧CW w (.slice A X.rows.length cap) (.slice G X.gens.length gcap) i g (.slice none 0 0) (.slice none 0 0) wr∧OL x v (.slice G X.gens.length gcap) (zCF X i g j) wr) (fun t _=>X.rows.length - (intOf t).toNat)
   case atStart=>exact ⟨0,_,Nat.zero_le _,rfl,zA HC8,zA HOL⟩
   case round =>
    clear HC8 HOL
    obtain ⟨j,v,hj,rfl,hC,hO⟩:=hrel
    by_cases hlt:j<X.rows.length
    ·have j0:(0:Int)≤(j:Int):=by omega
     have j1:(j:Int)<(X.rows.length:Int):=by omega
     obtain ⟨b,off,hA,hrow⟩:=(zA HX).rows j hlt
     have hrow:RowAt wr b (off+j*11) (X.rows.getD j dR):=hrow.below hC.bel
     have c0:=hrow.c0
     have c1:=hrow.c1
     have c2:=hrow.c2
     have c3:=hrow.v 0 (by omega)
     have c4:=hrow.v 1 (by omega)
     have c5:=hrow.v 2 (by omega)
     have c6:=hrow.v 3 (by omega)
     have c7:=hrow.v 4 (by omega)
     have c8:=hrow.v 5 (by omega)
     have c9:=hrow.v 6 (by omega)
     have c10:=hrow.v 7 (by omega)
     simp only [Nat.add_assoc,Nat.reduceAdd] at c3 c4 c5 c6 c7 c8 c9 c10
     simp only [←Nat.add_assoc] at c3 c4 c5 c6 c7 c8 c9 c10
     have s0:=hC.s0
     have s1:=hC.s1
     have ls:=World.block_lt_of_cell? wr _ s0
     have ls2:=Nat.lt_of_succ_lt ls
     have e0:=hO.box.e0
     have lx:=hO.lx
     have HST:=zB (zHk X i g j hlt)
     have hkl:=zJc X i g j
     have hib:isB (X.rows.getD j dR) i g=((X.rows.getD j dR).ix == i && (X.rows.getD j dR).gen == g):=rfl
     subst hA
     have HO:=zB hO
     have HC:=zB hC
     clear hO hC hrow HX HP HR HCW
     generalize zCF X i g j=l at *
     generalize X.rows.getD j dR=y at *
     by_cases hB:isB y i g=true
     ·have HEQ:=zB ((zA HST).trans (if_pos hB))
      have hy:=(zFE y i g).1 hB
      have hq:∀ W,(binOp .neq 61 (.agg #[.int .i64 y.ix,.int .i64 y.gen]) (.agg #[.int .i64 i,.int .i64 g])).run Tryz.prog W=.ok (.bool false) W:=fun W=>by rw [zOi,←hib,hB];rfl
      clear hib hB hy
      go_wp2
      go_roundw
      case rel=>exact ⟨j+1,v,by omega,by go_num,(zA HC).below (zAS _ _),by rw [zA HEQ];exact (zA HO).below (zAS _ _)⟩
      case measure=>simp [intOf];omega
     ·have HEQ:=zB ((zA HST).trans (if_neg hB))
      have hB':isB y i g=false:=by simpa using hB
      have hq:∀ W,(binOp .neq 61 (.agg #[.int .i64 y.ix,.int .i64 y.gen]) (.agg #[.int .i64 i,.int .i64 g])).run Tryz.prog W=.ok (.bool true) W:=fun W=>by rw [zOi,←hib,hB'];rfl
      clear hib hB hB'
      go_wp2_with (first
       | (at_builtin;refine ze _ rfl (.tmp 38) (.tmp 40) 41 rfl (x+1) 116 i61 _ 11 88 Tryz.underlying41 (zA HI) (zA HZ) (zA HS) (zA HB) rfl (by decide) v l.length (zD l) rfl ((zA HO).below (zCx _ _ _)).own ⟨wr.heap.size+1,0,none⟩ 1 1 (zH y) rfl rfl (by have:=zCU (wr.alloc (.cells #[.int .i64 y.ix,.int .i64 y.gen,.int .i64 y.has,.int .i64 (y.v 0),.int .i64 (y.v 1),.int .i64 (y.v 2),.int .i64 (y.v 3),.int .i64 (y.v 4),.int .i64 (y.v 5),.int .i64 (y.v 6),.int .i64 (y.v 7)] 116)) y;simpa using this) (zY y) (by unfold maxLen;omega) (by omega) (by simp;omega) (by omega) ?_;intro g5 capg w9 ho9 hg9 hw9;have HB9:=zB (zZ hg9 (fun k hk=>(((zA HO).own).lt k hk).1) (by simp;omega));have HF9:=zB (OL.app ((zA HO).below (zCx _ _ _)) y ho9 hg9);clear ho9 hg9 hw9)
       | (refine zT rfl 41 (.tmp 42) (.tmp 41) rfl x 0 _ rfl rfl rfl size36 (((zA HO).below (zCx _ _ _)).there (zA HB9)) ?_;intro W10 hW10;have HW10:=zB hW10;clear hW10))
      go_roundw
      case rel =>
       rw [zA HW10]
       exact ⟨j+1,_,by omega,by go_num,((zA HC).below (zCx _ _ _)).keep ((zA HF9).2.mono hx3),by rw [zA HEQ];exact (zA HF9).1⟩
      case measure=>simp [intOf];omega
    ·obtain rfl:j=X.rows.length:=by omega
     obtain ⟨A',c',rfl,hR'⟩:=zBG hO.own
     have e0:=hO.box.e0
     have e1:=hO.box.e1
     have HO:=zB hO
     have HC:=zB hC
     clear hO hC hR' HP HR HCW
     go_wp2_with (first
      | (refine zG rfl 43 (.tmp 4) (.tmp 44) rfl (w.heap.size+2) 0 [.slice A' (zCF X i g X.rows.length).length c',.slice G X.gens.length gcap] rfl rfl (by simp [Value.oneCell']) size38 (zA HC).there ?_;intro W3 hW3;have hC8:=(zA HC).give (.slice A' (zCF X i g X.rows.length).length c') (.slice G X.gens.length gcap);have ho8:=zs (b:=w.heap.size+2) (by omega) [.slice A' (zCF X i g X.rows.length).length c',.slice G X.gens.length gcap] 0 _ (zA HO).own;rw [←hW3] at hC8 ho8;have HC8:=zB hC8;have HO8:=zB ho8;clear hW3 hC8 ho8))
     have t0:=(zA HC8).t0
     have t1:=(zA HC8).t1
     obtain ⟨A2,c2,hv2,hR2⟩:=zBG (zA HO8)
     simp only [Value.slice.injEq,true_and] at hv2
     obtain ⟨rfl,rfl⟩:=hv2
     refine bodyPost_ret (v:=.tuple #[.agg #[.slice A' (zCF X i g X.rows.length).length c',.slice G X.gens.length gcap],.int .i64 0]) (by simp [results,Tryz.results58,go_sem,t0,t1]) rfl ⟨A',c',G,gcap,rfl,⟨⟨hR2,((zA HX).below (zA HC8).bel).gens⟩,zAH (zA HO8) (by omega),.inl rfl⟩,(zA HC8).bel⟩
 ·rw [if_pos hw0]
  generalize (zP X).2=wa at *
  generalize (zP X).1=we at *
  unfold zi zM zS emptyW
  go_enter Tryz.func58,Tryz.ntmps58
  go_wp2_with (first
   | (go_at_call 55;refine (zA HP _ (zA HCW).bel).mono ?_;rintro e w5 ⟨rfl,hb5⟩;have hC5:=(zA HCW).below hb5;have hz:w.heap.size+1+1<w5.heap.size:=hC5.sz;have t0:w5.cell? ⟨w.heap.size+1+1,0,none⟩=some (.slice none 0 0):=hC5.t0;have t1:w5.cell? ⟨w.heap.size+1+1,1,none⟩=some (.slice none 0 0):=hC5.t1;have f0:w5.frozen? ⟨w.heap.size+1+1,0,none⟩=false:=hC5.f 0;have f1:w5.frozen? ⟨w.heap.size+1+1,1,none⟩=false:=hC5.f 1;have HC5:=zB hC5;clear hb5 hC5))
  go_region
  all_goals (try go_wp2)
  all_goals
   refine bodyPost_ret (v:=.tuple #[.agg #[.slice none 0 0,.slice none 0 0],.int .i64 we]) (by simp [results,Tryz.results58,go_sem,t0,t1,hz]) rfl ⟨none,0,none,0,rfl,zy _ _ _,?_⟩
   exact zz ((((zA HC5).bel.setCell (p:=⟨w.heap.size+1+1,0,none⟩) (by simp;omega) _).setCell (p:=⟨w.heap.size+1+1,1,none⟩) (by simp;omega) _).alloc (by simpa using (zA HC5).bel.size) _) 1
end Go.Proofs.YtnbleebilmghcabGreat
set_option maxHeartbeats 8000000
set_option maxRecDepth 8000
namespace Go.Proofs.YtnbleebilmghcabGreat
open Go Go.RowKit
attribute [local go_sem ↓] Go.wp_at_zero Go.wp_at_succ
def zGe (r:RowI) (s:Bool×List RowI) (y:RowI):Bool×List RowI :=
 (s.1 || decide (r.ix≤y.ix),(if s.1=false∧r.ix≤y.ix then s.2++[r] else s.2)++(if y.ix=r.ix then [] else [y]))
def zAv (rows:List RowI) (r:RowI) (j:Nat):Bool×List RowI:=(rows.take j).foldl (zGe r) (false,[])
def zEC (rows:List RowI) (r:RowI):List RowI:=if (zAv rows r rows.length).1=false then (zAv rows r rows.length).2++[r] else (zAv rows r rows.length).2
theorem zBL (rows:List RowI) (r:RowI) (j:Nat) (h:j<rows.length):zAv rows r (j+1)=zGe r (zAv rows r j) (rows.getD j dR):=by
 unfold zAv
 rw [List.take_succ_eq_append_getElem h,List.foldl_append,List.getD_eq_getElem?_getD,List.getElem?_eq_getElem h];rfl
theorem zEB (rows:List RowI) (r:RowI):∀ j,j≤rows.length→(zAv rows r j).2.length≤2*j
 | 0,_=>by simp [zAv]
 | j+1,h=>by
  rw [zBL rows r j (by omega)]
  have:=zEB rows r j (by omega)
  unfold zGe
  simp only [List.length_append]
  split <;> split <;> simp <;> omega
theorem zDQ {W:World} {b:Nat} {y:RowI} (h:RowAt W b 0 y):W.cell? ⟨b,0,none⟩=some (.int .i64 y.ix)∧W.cell? ⟨b,1,none⟩=some (.int .i64 y.gen)∧W.cell? ⟨b,2,none⟩=some (.int .i64 y.has)∧W.cell? ⟨b,3,none⟩=some (.int .i64 (y.v 0))∧W.cell? ⟨b,4,none⟩=some (.int .i64 (y.v 1))∧W.cell? ⟨b,5,none⟩=some (.int .i64 (y.v 2))∧W.cell? ⟨b,6,none⟩=some (.int .i64 (y.v 3))∧W.cell? ⟨b,7,none⟩=some (.int .i64 (y.v 4))∧W.cell? ⟨b,8,none⟩=some (.int .i64 (y.v 5))∧W.cell? ⟨b,9,none⟩=some (.int .i64 (y.v 6))∧W.cell? ⟨b,10,none⟩=some (.int .i64 (y.v 7)):=by
 have h0:=h.c0
 have h1:=h.c1
 have h2:=h.c2
 refine ⟨by simpa using h0,by simpa using h1,by simpa using h2,?_,?_,?_,?_,?_,?_,?_,?_⟩
 ·simpa using h.v 0 (by omega)
 ·simpa using h.v 1 (by omega)
 ·simpa using h.v 2 (by omega)
 ·simpa using h.v 3 (by omega)
 ·simpa using h.v 4 (by omega)
 ·simpa using h.v 5 (by omega)
 ·simpa using h.v 6 (by omega)
 ·simpa using h.v 7 (by omega)
theorem zEq (W:World) (y:RowI):RowAt (W.alloc (.cells #[.int .i64 y.ix,.int .i64 y.gen,.int .i64 y.has,.int .i64 (y.v 0),.int .i64 (y.v 1),.int .i64 (y.v 2),.int .i64 (y.v 3),.int .i64 (y.v 4),.int .i64 (y.v 5),.int .i64 (y.v 6),.int .i64 (y.v 7)] 116)) W.heap.size 0 y:=by
 refine (zAq _ _ _ _).2 fun i u hu=>?_
 have:=zCU W y i u hu
 rwa [zCK] at this
theorem OL.row {x b:Nat} {v u1:Value} {l:List RowI} {W W1:World} {y:RowI} {z:Value} (h:OL x v u1 l W) (hg:W.grownBy W1 v.ownBlock) (hr:RowAt W b 0 y) (hx:b≠x) (hb:∀ g',v.ownBlock=some g'→b≠g'):RowAt (W1.setCell ⟨x,0,none⟩ z) b 0 y:=by
 refine (zAq _ _ _ _).2 fun i u hu=>?_
 have h1:=(zAq _ _ _ _).1 hr i u hu
 have h2:W1.cell? ⟨b,0+i,none⟩=some u:=hg.cell h1 (fun e=>hb b e.symm rfl)
 exact zo (fun e=>hx (congrArg Addr.block e).symm) h2
structure WB (w:World) (y0 y1:Value) (r:RowI) (W:World):Prop where
 bel:Below w.heap.size w W
 sz:w.heap.size+3≤W.heap.size
 r:RowAt W (w.heap.size+1) 0 r
 t0:W.cell? ⟨w.heap.size+1+1,0,none⟩=some y0
 t1:W.cell? ⟨w.heap.size+1+1,1,none⟩=some y1
 f:∀ i,W.frozen? ⟨w.heap.size+1+1,i,none⟩=false
section
variable {w W W1:World} {y0 y1:Value} {r:RowI}
theorem WB.keep (h:WB w y0 y1 r W) (hb:Below (w.heap.size+3) W W1):WB w y0 y1 r W1 :=
 ⟨h.bel.trans (hb.mono (by omega)),Nat.le_trans h.sz hb.size,(zAq _ _ _ _).2 fun i u hu=>(hb.cell (p:=⟨w.heap.size+1,0+i,none⟩) (by simp)).trans ((zAq _ _ _ _).1 h.r i u hu),(hb.cell (p:=⟨w.heap.size+1+1,0,none⟩) (by simp)).trans h.t0,(hb.cell (p:=⟨w.heap.size+1+1,1,none⟩) (by simp)).trans h.t1,fun i=>(hb.frozen (p:=⟨w.heap.size+1+1,i,none⟩) (by simp)).trans (h.f i)⟩
theorem WB.below (h:WB w y0 y1 r W) (hb:Below W.heap.size W W1):WB w y0 y1 r W1:=h.keep (hb.mono h.sz)
theorem WB.there (h:WB w y0 y1 r W):W.there (w.heap.size+1+1) 0 2:=fun j hj=>by
 rcases (by omega:j=0∨j=1) with rfl | rfl
 ·exact ⟨by rw [Nat.zero_add,h.t0];rfl,h.f _⟩
 ·exact ⟨by rw [Nat.zero_add,h.t1];rfl,h.f _⟩
theorem WB.give (h:WB w y0 y1 r W) (z0 z1:Value):(W.setCells (w.heap.size+1+1) 0 [z0,z1]).cell? ⟨w.heap.size+1+1,0,none⟩=some z0∧(W.setCells (w.heap.size+1+1) 0 [z0,z1]).cell? ⟨w.heap.size+1+1,1,none⟩=some z1∧Below w.heap.size w (W.setCells (w.heap.size+1+1) 0 [z0,z1]):=by
 have s:=fun j hj=>World.cell?_setCells_in (w.heap.size+1+1) [z0,z1] 0 W (fun j hj=>(h.there j hj).1) j hj
 exact ⟨s 0 (by simp),s 1 (by simp),zI (w.heap.size+1+1) (by omega) [z0,z1] 0 W h.bel⟩
end
theorem WB.start (w:World) (u0 u1:Value) (r:RowI):WB w (.slice none 0 0) (.slice none 0 0) r (((w.alloc (.cells #[u0,u1] 43)).alloc (.cells #[.int .i64 r.ix,.int .i64 r.gen,.int .i64 r.has,.int .i64 (r.v 0),.int .i64 (r.v 1),.int .i64 (r.v 2),.int .i64 (r.v 3),.int .i64 (r.v 4),.int .i64 (r.v 5),.int .i64 (r.v 6),.int .i64 (r.v 7)] 116)).alloc (.cells #[.slice none 0 0,.slice none 0 0] 43)):=by
 obtain ⟨w1,h1⟩:∃ W,W=w.alloc (.cells #[u0,u1] 43):=⟨_,rfl⟩
 have z1:w1.heap.size=w.heap.size+1:=by rw [h1];simp
 have b1:Below w.heap.size w w1:=by rw [h1];exact zAS _ _
 rw [←h1]
 clear h1
 have hr:=zEq w1 r
 rw [z1] at hr
 obtain ⟨w2,h2⟩:∃ W,W=w1.alloc (.cells #[.int .i64 r.ix,.int .i64 r.gen,.int .i64 r.has,.int .i64 (r.v 0),.int .i64 (r.v 1),.int .i64 (r.v 2),.int .i64 (r.v 3),.int .i64 (r.v 4),.int .i64 (r.v 5),.int .i64 (r.v 6),.int .i64 (r.v 7)] 116):=⟨_,rfl⟩
 have z2:w2.heap.size=w.heap.size+1+1:=by rw [h2];simp;omega
 have b2:Below w1.heap.size w1 w2:=by rw [h2];exact zAS _ _
 rw [←h2] at hr ⊢
 clear h2
 obtain ⟨d0,d1,df,db⟩:=zAe (W:=w2) (u0:=.slice none 0 0) (u1:=.slice none 0 0) (t:=43) z2
 have b3:=b1.trans (b2.mono b1.size)
 exact ⟨b3.trans (db.mono b3.size),by simp;omega,hr.below db,d0,d1,df⟩
theorem zDk (A:Option Addr) (cap:Nat) (G:Option Addr) (gcap:Nat) (X:Wd) (r:RowI) (w:World) (hn:X.rows.length≤1000000) (hX:WldAt w A cap G gcap X) :
  Calls Tryz.prog 101 #[zi A cap G gcap X,zAD r] w fun e w'=>∃ A' c',e=.returned (.agg #[.slice A' (zEC X.rows r).length c',.slice G X.gens.length gcap])∧w'.ownsRow w.heap.size 116 11 (.slice A' (zEC X.rows r).length c') (zEC X.rows r).length (zD (zEC X.rows r))∧Below w.heap.size w w':=by
 obtain ⟨i61,hi61,hz61,hs61,hb61⟩:=info_parts info61
 have HI:=zB hi61
 have HZ:=zB hz61
 have HS:=zB hs61
 have HB:=zB hb61
 have HX:=zB hX
 have hWB:=WB.start w (.slice A X.rows.length cap) (.slice G X.gens.length gcap) r
 have HWB:=zB (hWB.below (zAS _ (.cells #[.slice none 0 0,.slice G X.gens.length gcap] 43)))
 have hz3:(((w.alloc (.cells #[.slice A X.rows.length cap,.slice G X.gens.length gcap] 43)).alloc (.cells #[.int .i64 r.ix,.int .i64 r.gen,.int .i64 r.has,.int .i64 (r.v 0),.int .i64 (r.v 1),.int .i64 (r.v 2),.int .i64 (r.v 3),.int .i64 (r.v 4),.int .i64 (r.v 5),.int .i64 (r.v 6),.int .i64 (r.v 7)] 116)).alloc (.cells #[.slice none 0 0,.slice none 0 0] 43)).heap.size=w.heap.size+1+1+1:=by simp
 have HOL:=zB (OL.start (((w.alloc (.cells #[.slice A X.rows.length cap,.slice G X.gens.length gcap] 43)).alloc (.cells #[.int .i64 r.ix,.int .i64 r.gen,.int .i64 r.has,.int .i64 (r.v 0),.int .i64 (r.v 1),.int .i64 (r.v 2),.int .i64 (r.v 3),.int .i64 (r.v 4),.int .i64 (r.v 5),.int .i64 (r.v 6),.int .i64 (r.v 7)] 116)).alloc (.cells #[.slice none 0 0,.slice none 0 0] 43)) (.slice G X.gens.length gcap))
 rw [hz3] at HOL
 clear hi61 hz61 hs61 hb61 hX hWB hz3
 unfold zi zM zAD
 go_enter Tryz.func101,Tryz.ntmps101
 go_wp2
 obtain ⟨x,hx⟩:∃ x,x=w.heap.size+1+1+1:=⟨_,rfl⟩
 rw [←hx] at HOL ⊢
 have hx3:w.heap.size+3≤x:=by omega
 clear hx
 go_loopw [6,15] (fun d t wr=>∃ (j:Nat) (v:Value),j≤X.rows.length∧t=.int .i64 j∧d=.bool (zAv X.rows r j).1∧WB w (.slice none 0 0) (.slice none 0 0) r wr∧OL x v (.slice G X.gens.length gcap) (zAv X.rows r j).2 wr) (fun _ t _=>X.rows.length - (intOf t).toNat)
 case atStart=>exact ⟨0,_,Nat.zero_le _,rfl,rfl,zA HWB,zA HOL⟩
 case round =>
  clear HWB HOL
  obtain ⟨j,v,hj,rfl,rfl,hC,hO⟩:=hrel
  by_cases hlt:j<X.rows.length
  ·have j0:(0:Int)≤(j:Int):=by omega
   have j1:(j:Int)<(X.rows.length:Int):=by omega
   obtain ⟨b,off,hA,hrow⟩:=(zA HX).rows j hlt
   have hrow:RowAt wr b (off+j*11) (X.rows.getD j dR):=hrow.below hC.bel
   have c0:=hrow.c0
   have c1:=hrow.c1
   have c2:=hrow.c2
   have c3:=hrow.v 0 (by omega)
   have c4:=hrow.v 1 (by omega)
   have c5:=hrow.v 2 (by omega)
   have c6:=hrow.v 3 (by omega)
   have c7:=hrow.v 4 (by omega)
   have c8:=hrow.v 5 (by omega)
   have c9:=hrow.v 6 (by omega)
   have c10:=hrow.v 7 (by omega)
   simp only [Nat.add_assoc,Nat.reduceAdd] at c3 c4 c5 c6 c7 c8 c9 c10
   simp only [←Nat.add_assoc] at c3 c4 c5 c6 c7 c8 c9 c10
   obtain ⟨d0,d1,d2,d3,d4,d5,d6,d7,d8,d9,d10⟩:=zDQ hC.r
   have ls:=World.block_lt_of_cell? wr _ d0
   have ls2:=Nat.lt_of_succ_lt ls
   have e0:=hO.box.e0
   have lx:=hO.lx
   have HST:=zB (zBL X.rows r j hlt)
   have hkl:=zEB X.rows r j (by omega)
   subst hA
   have HO:=zB hO
   have HC:=zB hC
   clear hO hC hrow HX
   generalize zAv X.rows r j=s at *
   obtain ⟨dn,l⟩:=s
   dsimp only at *
   generalize X.rows.getD j dR=y at *
   unfold zGe at HST
   dsimp only at HST
   have HLV:=zB (fun g' (h:v.ownBlock=some g')=>((zA HO).own.lt g' h).2)
   by_cases hne:y.ix=r.ix
   ·have hle:r.ix≤y.ix:=by omega
    have hb1:(y.ix != r.ix)=false:=by rw [hne];simp
    have hb2:(y.ix == r.ix)=true:=by rw [hne];simp
    have HNE:=zB hne
    clear hne
    cases dn
    ·have HEQ:=zB (zA HST)
     go_wp2_with (first
      | (at_builtin;refine ze _ rfl (.tmp 31) (.tmp 33) 41 rfl (x+1) 116 i61 _ 11 88 Tryz.underlying41 (zA HI) (zA HZ) (zA HS) (zA HB) rfl (by decide) v l.length (zD l) rfl ((zA HO).below (zCx _ _ _)).own ⟨wr.heap.size+1,0,none⟩ 1 1 (zH r) rfl rfl (by have:=zCU (wr.alloc (.cells #[.int .i64 y.ix,.int .i64 y.gen,.int .i64 y.has,.int .i64 (y.v 0),.int .i64 (y.v 1),.int .i64 (y.v 2),.int .i64 (y.v 3),.int .i64 (y.v 4),.int .i64 (y.v 5),.int .i64 (y.v 6),.int .i64 (y.v 7)] 116)) r;simpa using this) (zY r) (by unfold maxLen;(try simp only [List.length_append,List.length_singleton]);omega) (by (try simp only [List.length_append,List.length_singleton]);omega) (by simp;omega) (by omega) ?_;intro g9 cap9 w9 ho hg hw;have HB9:=zB (zZ hg (fun k hk=>((zA HO).own.lt k hk).1) (show x+1≤_ by simp;omega));have HF9:=zB (OL.app ((zA HO).below (zCx _ _ _)) r ho hg);have HRY:=zB (fun z=>OL.row (z:=z) ((zA HO).below (zCx _ _ _)) hg ((zEq wr y).below (zAS _ _)) (Nat.ne_of_gt (zA HO).lx) (fun g' h=>Nat.ne_of_gt (zA HLV g' h)));clear ho hg hw)
      | (refine zT rfl 41 (.tmp 35) (.tmp 34) rfl x 0 (.slice (some ⟨g9,0,none⟩) (l.length+1) cap9) rfl rfl rfl size36 (((zA HO).below (zCx _ _ _)).there (zA HB9)) ?_;intro W10 hW10;have hF:=zA HF9;have hry:=zA HRY (.slice (some ⟨g9,0,none⟩) (l.length+1) cap9);have hwb:=((zA HC).below (zCx _ _ _)).keep (hF.2.mono hx3);rw [←hW10] at hF hry hwb;have e2:=hF.1.box.e0;obtain ⟨q0,q1,q2,q3,q4,q5,q6,q7,q8,q9,q10⟩:=zDQ hry;obtain ⟨p0,p1,p2,p3,p4,p5,p6,p7,p8,p9,p10⟩:=zDQ hwb.r;have HF10:=zB hF;have HC10:=zB hwb;have lx2:=hF.1.lx;clear hW10 hF hry hwb))
     go_roundw
     case rel=>exact ⟨j+1,_,by omega,by go_num,by rw [zA HEQ];simp [hle],zA HC10,by rw [zA HEQ];simpa [hle,zA HNE] using (zA HF10).1⟩
     case measure=>simp [intOf];omega
    ·have HEQ:=zB (zA HST)
     go_wp2
     go_roundw
     case rel=>exact ⟨j+1,v,by omega,by go_num,by rw [zA HEQ];simp,(zA HC).below (zAS _ _),by rw [zA HEQ];simpa [zA HNE] using (zA HO).below (zAS _ _)⟩
     case measure=>simp [intOf];omega
   ·cases dn
    ·by_cases hle:r.ix≤y.ix
     ·have HEQ:=zB (zA HST)
      go_wp2_with (first
       | (at_builtin;refine ze _ rfl (.tmp 31) (.tmp 33) 41 rfl (x+1) 116 i61 _ 11 88 Tryz.underlying41 (zA HI) (zA HZ) (zA HS) (zA HB) rfl (by decide) v l.length (zD l) rfl ((zA HO).below (zCx _ _ _)).own ⟨wr.heap.size+1,0,none⟩ 1 1 (zH r) rfl rfl (by have:=zCU (wr.alloc (.cells #[.int .i64 y.ix,.int .i64 y.gen,.int .i64 y.has,.int .i64 (y.v 0),.int .i64 (y.v 1),.int .i64 (y.v 2),.int .i64 (y.v 3),.int .i64 (y.v 4),.int .i64 (y.v 5),.int .i64 (y.v 6),.int .i64 (y.v 7)] 116)) r;simpa using this) (zY r) (by unfold maxLen;(try simp only [List.length_append,List.length_singleton]);omega) (by (try simp only [List.length_append,List.length_singleton]);omega) (by simp;omega) (by omega) ?_;intro g9 cap9 w9 ho hg hw;have HB9:=zB (zZ hg (fun k hk=>((zA HO).own.lt k hk).1) (show x+1≤_ by simp;omega));have HF9:=zB (OL.app ((zA HO).below (zCx _ _ _)) r ho hg);have HRY:=zB (fun z=>OL.row (z:=z) ((zA HO).below (zCx _ _ _)) hg ((zEq wr y).below (zAS _ _)) (Nat.ne_of_gt (zA HO).lx) (fun g' h=>Nat.ne_of_gt (zA HLV g' h)));clear ho hg hw)
       | (refine zT rfl 41 (.tmp 35) (.tmp 34) rfl x 0 (.slice (some ⟨g9,0,none⟩) (l.length+1) cap9) rfl rfl rfl size36 (((zA HO).below (zCx _ _ _)).there (zA HB9)) ?_;intro W10 hW10;have hF:=zA HF9;have hry:=zA HRY (.slice (some ⟨g9,0,none⟩) (l.length+1) cap9);have hwb:=((zA HC).below (zCx _ _ _)).keep (hF.2.mono hx3);rw [←hW10] at hF hry hwb;have e2:=hF.1.box.e0;obtain ⟨q0,q1,q2,q3,q4,q5,q6,q7,q8,q9,q10⟩:=zDQ hry;obtain ⟨p0,p1,p2,p3,p4,p5,p6,p7,p8,p9,p10⟩:=zDQ hwb.r;have HF10:=zB hF;have HC10:=zB hwb;have lx2:=hF.1.lx;clear hW10 hF hry hwb)
       | (at_builtin;refine ze _ rfl (.tmp 44) (.tmp 46) 41 rfl (x+1) 116 i61 _ 11 88 Tryz.underlying41 (zA HI) (zA HZ) (zA HS) (zA HB) rfl (by decide) (.slice (some ⟨g9,0,none⟩) (l.length+1) cap9) (l++[r]).length (zD (l++[r])) rfl ((zA HF10).1.below (zAS _ _)).own ⟨W10.heap.size,0,none⟩ 1 1 (zH y) rfl rfl (by have:=zCU W10 y;simpa using this) (zY y) (by unfold maxLen;(try simp only [List.length_append,List.length_singleton]);omega) (by (try simp only [List.length_append,List.length_singleton]);omega) (by simp;omega) (by omega) ?_;intro g8 cap8 w8 ho hg hw;have HB8:=zB (zZ hg (fun k hk=>((zA HF10).1.own.lt k hk).1) (show x+1≤_ by simp;omega));have HF8:=zB (OL.app ((zA HF10).1.below (zAS _ _)) y ho hg); clear ho hg hw)
       | (refine zT rfl 41 (.tmp 48) (.tmp 47) rfl x 0 (.slice (some ⟨g8,0,none⟩) (l.length+1+1) cap8) rfl rfl rfl size36 (((zA HF10).1.below (zAS _ _)).there (zA HB8)) ?_;intro W11 hW11;have hF:=zA HF8;simp only [List.length_append,List.length_singleton] at hF;have hwb:=((zA HC10).below (zAS _ _)).keep (hF.2.mono hx3);rw [←hW11] at hF hwb;have HF11:=zB hF;have HC11:=zB hwb;clear hW11 hF hwb))
      go_roundw
      case rel=>exact ⟨j+1,_,by omega,by go_num,by rw [zA HEQ];simp [hle],zA HC11,by rw [zA HEQ];simpa [hle,hne] using (zA HF11).1⟩
      case measure=>simp [intOf];omega
     ·have HEQ:=zB (zA HST)
      go_wp2_with (first
       | (at_builtin;refine ze _ rfl (.tmp 44) (.tmp 46) 41 rfl (x+1) 116 i61 _ 11 88 Tryz.underlying41 (zA HI) (zA HZ) (zA HS) (zA HB) rfl (by decide) v l.length (zD l) rfl ((zA HO).below (zCx _ _ _)).own ⟨wr.heap.size+1,0,none⟩ 1 1 (zH y) rfl rfl (by have:=zCU (wr.alloc (.cells #[.int .i64 y.ix,.int .i64 y.gen,.int .i64 y.has,.int .i64 (y.v 0),.int .i64 (y.v 1),.int .i64 (y.v 2),.int .i64 (y.v 3),.int .i64 (y.v 4),.int .i64 (y.v 5),.int .i64 (y.v 6),.int .i64 (y.v 7)] 116)) y;simpa using this) (zY y) (by unfold maxLen;(try simp only [List.length_append,List.length_singleton]);omega) (by (try simp only [List.length_append,List.length_singleton]);omega) (by simp;omega) (by omega) ?_;intro g9 cap9 w9 ho hg hw;have HB9:=zB (zZ hg (fun k hk=>((zA HO).own.lt k hk).1) (show x+1≤_ by simp;omega));have HF9:=zB (OL.app ((zA HO).below (zCx _ _ _)) y ho hg); clear ho hg hw)
       | (refine zT rfl 41 (.tmp 48) (.tmp 47) rfl x 0 (.slice (some ⟨g9,0,none⟩) (l.length+1) cap9) rfl rfl rfl size36 (((zA HO).below (zCx _ _ _)).there (zA HB9)) ?_;intro W10 hW10;have hF:=zA HF9;have hwb:=((zA HC).below (zCx _ _ _)).keep (hF.2.mono hx3);rw [←hW10] at hF hwb;have HF10:=zB hF;have HC10:=zB hwb;clear hW10 hF hwb))
      go_roundw
      case rel=>exact ⟨j+1,_,by omega,by go_num,by rw [zA HEQ];simp [hle],zA HC10,by rw [zA HEQ];simpa [hle,hne] using (zA HF10).1⟩
      case measure=>simp [intOf];omega
    ·have HEQ:=zB (zA HST)
     go_wp2_with (first
      | (at_builtin;refine ze _ rfl (.tmp 44) (.tmp 46) 41 rfl (x+1) 116 i61 _ 11 88 Tryz.underlying41 (zA HI) (zA HZ) (zA HS) (zA HB) rfl (by decide) v l.length (zD l) rfl ((zA HO).below (zCx _ _ _)).own ⟨wr.heap.size+1,0,none⟩ 1 1 (zH y) rfl rfl (by have:=zCU (wr.alloc (.cells #[.int .i64 y.ix,.int .i64 y.gen,.int .i64 y.has,.int .i64 (y.v 0),.int .i64 (y.v 1),.int .i64 (y.v 2),.int .i64 (y.v 3),.int .i64 (y.v 4),.int .i64 (y.v 5),.int .i64 (y.v 6),.int .i64 (y.v 7)] 116)) y;simpa using this) (zY y) (by unfold maxLen;(try simp only [List.length_append,List.length_singleton]);omega) (by (try simp only [List.length_append,List.length_singleton]);omega) (by simp;omega) (by omega) ?_;intro g9 cap9 w9 ho hg hw;have HB9:=zB (zZ hg (fun k hk=>((zA HO).own.lt k hk).1) (show x+1≤_ by simp;omega));have HF9:=zB (OL.app ((zA HO).below (zCx _ _ _)) y ho hg); clear ho hg hw)
      | (refine zT rfl 41 (.tmp 48) (.tmp 47) rfl x 0 (.slice (some ⟨g9,0,none⟩) (l.length+1) cap9) rfl rfl rfl size36 (((zA HO).below (zCx _ _ _)).there (zA HB9)) ?_;intro W10 hW10;have hF:=zA HF9;have hwb:=((zA HC).below (zCx _ _ _)).keep (hF.2.mono hx3);rw [←hW10] at hF hwb;have HF10:=zB hF;have HC10:=zB hwb;clear hW10 hF hwb))
     go_roundw
     case rel=>exact ⟨j+1,_,by omega,by go_num,by rw [zA HEQ];simp,zA HC10,by rw [zA HEQ];simpa [hne] using (zA HF10).1⟩
     case measure=>simp [intOf];omega
  ·obtain rfl:j=X.rows.length:=by omega
   have hkl:=zEB X.rows r X.rows.length (Nat.le_refl _)
   obtain ⟨d0,d1,d2,d3,d4,d5,d6,d7,d8,d9,d10⟩:=zDQ hC.r
   have e0:=hO.box.e0
   have e1:=hO.box.e1
   have lx:=hO.lx
   have HO:=zB hO
   have HC:=zB hC
   clear hO hC HX
   have HWF:Hid (zEC X.rows r=if (zAv X.rows r X.rows.length).1=false then (zAv X.rows r X.rows.length).2++[r] else (zAv X.rows r X.rows.length).2):=rfl
   generalize zAv X.rows r X.rows.length=s at *
   obtain ⟨dn,l⟩:=s
   dsimp only at *
   cases dn
   ·have HV:=zB ((zA HWF).trans (if_pos rfl))
    clear HWF
    go_wp2_with (first
     | (at_builtin;refine ze _ rfl (.tmp 53) (.tmp 55) 41 rfl (x+1) 116 i61 _ 11 88 Tryz.underlying41 (zA HI) (zA HZ) (zA HS) (zA HB) rfl (by decide) v l.length (zD l) rfl ((zA HO).below (zAS _ _)).own ⟨wr.heap.size,0,none⟩ 1 1 (zH r) rfl rfl (by have:=zCU wr r;simpa using this) (zY r) (by unfold maxLen;(try simp only [List.length_append,List.length_singleton]);omega) (by (try simp only [List.length_append,List.length_singleton]);omega) (by simp;omega) (by omega) ?_;intro g9 cap9 w9 ho hg hw;have HB9:=zB (zZ hg (fun k hk=>((zA HO).own.lt k hk).1) (show x+1≤_ by simp;omega));have HF9:=zB (OL.app ((zA HO).below (zAS _ _)) r ho hg); clear ho hg hw)
     | (refine zT rfl 41 (.tmp 57) (.tmp 56) rfl x 0 (.slice (some ⟨g9,0,none⟩) (l.length+1) cap9) rfl rfl rfl size36 (((zA HO).below (zAS _ _)).there (zA HB9)) ?_;intro W10 hW10;have hF:=zA HF9;rw [←hW10] at hF;have e2:=hF.1.box.e0;have e3:=hF.1.box.e1;have HF10:=zB hF;clear hW10 hF e0 e1)
     | (refine zG rfl 43 (.tmp 4) (.tmp 58) rfl (w.heap.size+1+1) 0 [.slice (some ⟨g9,0,none⟩) (l.length+1) cap9,.slice G X.gens.length gcap] rfl rfl (by simp [Value.oneCell']) size38 (((zA HC).below (zAS _ _)).keep ((zA HF10).2.mono hx3)).there ?_;intro W3 hW3;have hG:=(((zA HC).below (zAS _ _)).keep ((zA HF10).2.mono hx3)).give (.slice (some ⟨g9,0,none⟩) (l.length+1) cap9) (.slice G X.gens.length gcap);have ho8:=zs (b:=w.heap.size+1+1) (by omega) [.slice (some ⟨g9,0,none⟩) (l.length+1) cap9,.slice G X.gens.length gcap] 0 _ (zA HF10).1.own;rw [←hW3] at hG ho8;have HG8:=zB hG;have HO8:=zB ho8;clear hW3 hG ho8))
    obtain ⟨t0,t1,hb8⟩:=zA HG8
    obtain ⟨A2,c2,hv2,hR2⟩:=zBG (zA HO8)
    simp only [Value.slice.injEq] at hv2
    obtain ⟨rfl,_,rfl⟩:=hv2
    refine bodyPost_ret (v:=.agg #[.slice (some ⟨g9,0,none⟩) (l.length+1) cap9,.slice G X.gens.length gcap]) (by simp [results,Tryz.results101,go_sem,t0,t1]) rfl ⟨some ⟨g9,0,none⟩,cap9,by rw [zA HV];simp,by have:=zBX (zA HO8) (show w.heap.size≤x+1 by omega);rw [zA HV];simp only [List.length_append,List.length_singleton] at this ⊢;exact this,hb8⟩
   ·have HV:=zB ((zA HWF).trans (if_neg (by simp)))
    clear HWF
    obtain ⟨A',c',rfl,hR'⟩:=zBG (zA HO).own
    clear hR'
    go_wp2_with (first
     | (refine zG rfl 43 (.tmp 4) (.tmp 58) rfl (w.heap.size+1+1) 0 [.slice A' l.length c',.slice G X.gens.length gcap] rfl rfl (by simp [Value.oneCell']) size38 (zA HC).there ?_;intro W3 hW3;have hG:=(zA HC).give (.slice A' l.length c') (.slice G X.gens.length gcap);have ho8:=zs (b:=w.heap.size+1+1) (by omega) [.slice A' l.length c',.slice G X.gens.length gcap] 0 _ (zA HO).own;rw [←hW3] at hG ho8;have HG8:=zB hG;have HO8:=zB ho8;clear hW3 hG ho8))
    obtain ⟨t0,t1,hb8⟩:=zA HG8
    obtain ⟨A2,c2,hv2,hR2⟩:=zBG (zA HO8)
    simp only [Value.slice.injEq,true_and] at hv2
    obtain ⟨rfl,rfl⟩:=hv2
    refine bodyPost_ret (v:=.agg #[.slice A' l.length c',.slice G X.gens.length gcap]) (by simp [results,Tryz.results101,go_sem,t0,t1]) rfl ⟨A',c',by rw [zA HV],by rw [zA HV];exact zBX (zA HO8) (show w.heap.size≤x+1 by omega),hb8⟩
end Go.Proofs.YtnbleebilmghcabGreat
namespace Go.Proofs.YtnbleebilmghcabGreat
open Go Go.RowKit
theorem zGK (rows:List RowI) (j:Nat) (h:j<rows.length):rows.getD j dR=rows[j]:=by rw [List.getD_eq_getElem?_getD,List.getElem?_eq_getElem h];rfl
theorem zEA (rows:List RowI) (r:RowI) (p:Nat) (hp:p≤rows.length) (h:∀ t,t<p→(rows.getD t dR).ix<r.ix):∀ j,j≤p→zAv rows r j=(false,rows.take j)
 | 0,_=>by simp [zAv]
 | j+1,hj=>by
  have hx:=h j (by omega)
  rw [zBL rows r j (by omega),zEA rows r p hp h j (by omega)]
  have h1:¬ r.ix≤(rows.getD j dR).ix:=by omega
  have h2:¬ (rows.getD j dR).ix=r.ix:=by omega
  rw [List.take_succ_eq_append_getElem (by omega:j<rows.length),←zGK rows j (by omega)]
  generalize rows.getD j dR=y at *
  unfold zGe
  simp [h1,h2]
theorem zDT (rows:List RowI) (r:RowI) (q:Nat) (hd:(zAv rows r q).1=true) (h:∀ t,q≤t→t<rows.length→r.ix<(rows.getD t dR).ix):∀ d,q+d≤rows.length→zAv rows r (q+d)=(true,(zAv rows r q).2++(rows.drop q).take d)
 | 0,_=>by simp [←hd]
 | d+1,hj=>by
  have hx:=h (q+d) (by omega) (by omega)
  rw [show q+(d+1)=(q+d)+1 by omega,zBL rows r (q+d) (by omega),zDT rows r q hd h d (by omega)]
  have h2:¬ (rows.getD (q+d) dR).ix=r.ix:=by omega
  have e:(rows.drop q).take (d+1)=(rows.drop q).take d++[rows.getD (q+d) dR]:=by
   rw [List.take_succ_eq_append_getElem (by rw [List.length_drop];omega),List.getElem_drop,←zGK rows (q+d) (by omega)]
  rw [e]
  generalize rows.getD (q+d) dR=y at *
  unfold zGe
  simp [h2]
theorem zLu {X:Wd} (hr:RightW X) (r:RowI) (hu:∀ j,j<X.rows.length→(zR X j).ix≠r.ix):zEC X.rows r=zDH X.rows (zAk X.rows r.ix) r:=by
 obtain ⟨p1,p2,p3⟩:=zFc hr r.ix
 generalize zAk X.rows r.ix=p at *
 have hlow:=zEA X.rows r p p1 (fun t ht=>by
  have h1:=p2 t ht
  have h2:=hu t (by omega)
  have h3:(X.rows.getD t dR).ix≤r.ix:=h1
  have h4:(X.rows.getD t dR).ix≠r.ix:=h2
  omega)
 unfold zDH
 rcases Nat.eq_or_lt_of_le p1 with e | hlt
 ·have h1:=hlow p (Nat.le_refl _)
  rw [e] at h1
  unfold zEC
  rw [h1,if_pos rfl,e,List.drop_length]
 ·have h1:=hlow p (Nat.le_refl _)
  have hx:r.ix<(X.rows.getD p dR).ix:=p3 p (Nat.le_refl _) hlt
  have h2:zAv X.rows r (p+1)=(true,X.rows.take p++[r]++[X.rows.getD p dR]):=by
   rw [zBL X.rows r p hlt,h1]
   have a1:r.ix≤(X.rows.getD p dR).ix:=by omega
   have a2:¬ (X.rows.getD p dR).ix=r.ix:=by omega
   generalize X.rows.getD p dR=y at *
   unfold zGe
   simp [a1,a2]
  have h3:=zDT X.rows r (p+1) (by rw [h2]) (fun t h1 h2=>p3 t (by omega) h2) (X.rows.length - (p+1)) (by omega)
  rw [show p+1+(X.rows.length - (p+1))=X.rows.length by omega,h2] at h3
  unfold zEC
  rw [h3,if_neg (by simp)]
  have e1:(X.rows.drop (p+1)).take (X.rows.length - (p+1))=X.rows.drop (p+1):=by
   rw [←List.length_drop];exact List.take_length
  show X.rows.take p++[r]++[X.rows.getD p dR]++(X.rows.drop (p+1)).take (X.rows.length - (p+1))=_
  rw [e1,zGK X.rows p hlt,List.append_assoc,List.append_assoc]
  simp [List.getElem_cons_drop]
theorem zIG {X:Wd} (hr:RightW X) {k:Nat} (hk:k<X.rows.length) (r:RowI) (hi:r.ix=(zR X k).ix):zEC X.rows r=X.rows.set k r:=by
 have h1:=zEA X.rows r k (by omega) (fun t ht=>by rw [hi];exact hr.lt' ht hk) k (Nat.le_refl _)
 have h2:zAv X.rows r (k+1)=(true,X.rows.take k++[r]):=by
  rw [zBL X.rows r k hk,h1]
  have a1:(X.rows.getD k dR).ix=r.ix:=hi.symm
  generalize X.rows.getD k dR=y at *
  unfold zGe
  simp [a1]
 have h3:=zDT X.rows r (k+1) (by rw [h2]) (fun t h1 h2=>by rw [hi];exact hr.lt' (by omega) h2) (X.rows.length - (k+1)) (by omega)
 rw [show k+1+(X.rows.length - (k+1))=X.rows.length by omega,h2] at h3
 unfold zEC
 rw [h3,if_neg (by simp)]
 have e1:(X.rows.drop (k+1)).take (X.rows.length - (k+1))=X.rows.drop (k+1):=by
  rw [←List.length_drop];exact List.take_length
 show X.rows.take k++[r]++(X.rows.drop (k+1)).take (X.rows.length - (k+1))=_
 rw [e1,List.set_eq_take_append_cons_drop,if_pos hk]
 simp
end Go.Proofs.YtnbleebilmghcabGreat
