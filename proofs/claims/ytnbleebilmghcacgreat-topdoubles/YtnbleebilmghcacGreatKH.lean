/- plain.Match, the document's Match and SameBeings. -/
import Derived.Test.YtnbleebilmghcacGreatKG
set_option linter.all false
set_option maxHeartbeats 4000000
set_option maxRecDepth 8000
namespace Go.Proofs.YtnbleebilmghcacGreat
open Go Go.RowKit
attribute [local go_sem ↓] Go.wp_at_zero Go.wp_at_succ
theorem info40:(Tryz.prog.info? 39).map (fun i=>(i.zero,i.size,i.bytes))=some (some (.agg #[.int .i64 0,.int .i64 0]),2,16):=by kernel_rfl
def zd (l:List (Int×Int)):List Value:=l.flatMap fun b=>[.int .i64 b.1,.int .i64 b.2]
theorem bs_app (l m:List (Int×Int)):zd (l++m)=zd l++zd m:=by simp [zd]
def zBa (X:Wd) (a n:Int) (j:Nat):List (Int×Int):=((X.rows.take j).filter fun r=>zBk a n r.has).map fun r=>(r.ix,r.gen)
theorem bsTo_succ (X:Wd) (a n:Int) (j:Nat) (h:j<X.rows.length):zBa X a n (j+1)=if zBk a n (X.rows.getD j dR).has=true then zBa X a n j++[((X.rows.getD j dR).ix,(X.rows.getD j dR).gen)] else zBa X a n j:=by
 unfold zBa
 rw [List.take_succ_eq_append_getElem h,List.filter_append,List.map_append,List.getD_eq_getElem?_getD,List.getElem?_eq_getElem h,Option.getD_some]
 cases hm:zBk a n X.rows[j].has <;> simp [hm]
theorem bsTo_len (X:Wd) (a n:Int) (j:Nat):(zBa X a n j).length≤j:=by
 unfold zBa
 rw [List.length_map]
 exact Nat.le_trans (List.length_filter_le _ _) (by rw [List.length_take];omega)
structure MB (w:World) (a n:Int) (W:World):Prop where
 bel:Below w.heap.size w W
 sz:w.heap.size+2≤W.heap.size
 f0:W.cell? ⟨w.heap.size+1,0,none⟩=some (.int .i64 a)
 f1:W.cell? ⟨w.heap.size+1,1,none⟩=some (.int .i64 n)
theorem MB.keep {w W W1:World} {a n:Int} (h:MB w a n W) (hb:Below (w.heap.size+2) W W1):MB w a n W1 :=
 ⟨h.bel.trans (hb.mono (by omega)),Nat.le_trans h.sz hb.size,(hb.cell (p:=⟨w.heap.size+1,0,none⟩) (by simp)).trans h.f0,(hb.cell (p:=⟨w.heap.size+1,1,none⟩) (by simp)).trans h.f1⟩
theorem MB.below {w W W1:World} {a n:Int} (h:MB w a n W) (hb:Below W.heap.size W W1):MB w a n W1:=h.keep (hb.mono h.sz)
theorem MB.start (w:World) (u0 u1:Value) (a n:Int):MB w a n ((w.alloc (.cells #[u0,u1] 51)).alloc (.cells #[.int .i64 a,.int .i64 n] 41)):=by
 have hb:=bel2 w (.cells #[u0,u1] 51) (.cells #[.int .i64 a,.int .i64 n] 41)
 exact ⟨hb,by simp,by simp [go_sem],by simp [go_sem]⟩
theorem new_two (w:World) (x y:Value) (t:TypeId):∀ j u,[x,y][j]?=some u→(w.alloc (.cells #[x,y] t)).cell? ((⟨w.heap.size,0,none⟩:Addr).add j)=some u:=by
 intro j u hj
 match j,hj with
 | 0,hj=>simp at hj;subst hj;simp [Addr.add]
 | 1,hj=>simp at hj;subst hj;simp [Addr.add]
theorem one_two (x y:Int):∀ u∈[Value.int .i64 x,Value.int .i64 y],u.oneCell'=true:=by
 intro u hu;simp at hu;rcases hu with rfl | rfl <;> rfl
theorem match_any (A:Option Addr) (cap:Nat) (G:Option Addr) (gcap:Nat) (X:Wd) (a n:Int) (w:World) (hn:X.rows.length≤1000000) (hX:WldAt w A cap G gcap X) :
  Calls Tryz.prog 54 #[zAD A cap G gcap X,.agg #[.int .i64 a,.int .i64 n]] w fun e w'=>∃ v,e=.returned v∧w'.ownsRow (w.heap.size+2) 39 2 v (zBa X a n X.rows.length).length (zd (zBa X a n X.rows.length))∧Below w.heap.size w w':=by
 obtain ⟨i40,hi,hz,hs,hb⟩:=info_parts info40
 have hME:∀ j,j<X.rows.length→∀ W,Calls Tryz.prog 82 #[.agg #[.int .i64 a,.int .i64 n],.int .i64 (X.rows.getD j dR).has] W fun e w'=>e=.returned (.bool (zBk a n (X.rows.getD j dR).has))∧Below W.heap.size W w':=fun j hj W=>(meets_any a n _ W).mono fun e w' ⟨he,hw⟩=>⟨he,by rw [hw];exact zAs _ _⟩
 have HI:=zB hi
 have HZ:=zB hz
 have HS:=zB hs
 have HB:=zB hb
 have HM:=zB (MB.start w (.slice A X.rows.length cap) (.slice G X.gens.length gcap) a n)
 have HX:=zB hX
 have HME:=zB hME
 clear hi hz hs hb hX hME
 unfold zAD zR
 go_enter Tryz.func54,Tryz.ntmps54
 go_wp2
 go_loopw [5,11] (fun v i wr=>∃ j:Nat,j≤X.rows.length∧i=.int .i64 j∧wr.ownsRow (w.heap.size+2) 39 2 v (zBa X a n j).length (zd (zBa X a n j))∧MB w a n wr) (fun _ i _=>X.rows.length - (intOf i).toNat)
 case atStart=>exact ⟨0,Nat.zero_le _,rfl,World.ownsRow_nil _ _ _ _,zA HM⟩
 case round =>
  clear HM
  obtain ⟨j,hj,rfl,ho,hM⟩:=hrel
  by_cases hlt:j<X.rows.length
  ·have j0:(0:Int)≤(j:Int):=by omega
   have j1:(j:Int)<(X.rows.length:Int):=by omega
   obtain ⟨b,off,hA,hrow⟩:=(zA HX).rows j hlt
   have hrow:RowAt wr b (off+j*11) (X.rows.getD j dR):=hrow.below hM.bel
   have c0:=hrow.c0
   have c1:=hrow.c1
   have c2:=hrow.c2
   have c3:=hrow.v 0 (by omega)
   have c4:=hrow.v 1 (by omega)
   have c5:=hrow.v 2 (by omega)
   have c6:=hrow.v 3 (by omega)
   have c7:=hrow.v 4 (by omega)
   have c8:=hrow.v 5 (by omega)
   have c9:=hrow.v 6 (by omega)
   have c10:=hrow.v 7 (by omega)
   simp only [Nat.add_assoc,Nat.reduceAdd] at c3 c4 c5 c6 c7 c8 c9 c10
   simp only [←Nat.add_assoc] at c3 c4 c5 c6 c7 c8 c9 c10
   have f0:=hM.f0
   have f1:=hM.f1
   have lf:=World.block_lt_of_cell? wr _ f0
   have lf2:=Nat.lt_of_succ_lt lf
   have HC:=zB (zA HME j hlt)
   have HST:=zB (bsTo_succ X a n j hlt)
   have hbl:=bsTo_len X a n j
   subst hA
   have HO:=zB ho
   have HM:=zB hM
   clear ho hM hrow HX HME
   generalize zBa X a n j=bs at *
   generalize X.rows.getD j dR=x at *
   obtain ⟨ix,gen,has,v⟩:=x
   dsimp only at *
   generalize zBk a n has=me at *
   cases me
   ·have HEQ:=zB ((zA HST).trans (if_neg (by simp)))
    go_wp2_with (first
     | (go_at_call 82;refine (zA HC _).mono ?_;rintro e w5 ⟨rfl,hb5⟩;have HB5:=zB (below_one _ _ hb5);clear hb5))
    go_roundw
    case rel=>exact ⟨j+1,by omega,by go_num,by rw [zA HEQ];exact zb (zA HO) (zA HB5),(zA HM).below (zA HB5)⟩
    case measure=>simp [intOf];omega
   ·have HEQ:=zB ((zA HST).trans (if_pos rfl))
    go_wp2_with (first
     | (go_at_call 82;refine (zA HC _).mono ?_;rintro e w5 ⟨rfl,hb5⟩;have d0:=zC hb5 (p:=⟨wr.heap.size,0,none⟩) (v:=.int .i64 ix) (by simp [go_sem]);have d1:=zC hb5 (p:=⟨wr.heap.size,1,none⟩) (v:=.int .i64 gen) (by simp [go_sem]);have HO5:=zB (zb (zA HO) (below_one _ _ hb5));have HM5:=zB ((zA HM).below (below_one _ _ hb5));clear hb5)
     | (at_builtin;refine zZ _ rfl (.tmp 19) (.tmp 22) 62 rfl (w.heap.size+2) 39 i40 (.agg #[.int .i64 0,.int .i64 0]) 2 16 Tryz.underlying62 (zA HI) (zA HZ) (zA HS) (zA HB) rfl (by decide) _ bs.length (zd bs) rfl ((zA HO5).alloc _) ⟨w5.heap.size,0,none⟩ 1 1 [.int .i64 ix,.int .i64 gen] rfl rfl (new_two _ _ _ _) (one_two _ _) (by unfold maxLen;omega) (by omega) (by simp;have:=(zA HM5).sz;omega) (by omega) ?_;intro g capg w7 ho7 hg7 hw7;have HO7:=zB ho7;have HG7:=zB hg7;clear ho7 hg7 hw7))
    go_roundw
    case rel =>
     refine ⟨j+1,by omega,by go_num,?_,?_⟩
     ·rw [zA HEQ,bs_app,List.length_append];exact zA HO7
     ·have h1:=(zA HM5).below (zAs w5 (.cells #[.int .i64 ix,.int .i64 gen] 39))
      exact h1.keep (zu (zA HG7) (fun k hk=>((zA HO5).lt k hk).1) h1.sz)
    case measure=>simp [intOf];omega
  ·obtain rfl:j=X.rows.length:=by omega
   have HO:=zB ho
   have HBW:=zB hM.bel
   clear ho hM HX HME
   go_wp2
   go_ret
   exact ⟨_,rfl,zA HO,zA HBW⟩
def BsAt (w:World) (A:Option Addr) (l:List (Int×Int)):Prop:=∀ j,j<l.length→∃ b off,A=some ⟨b,off,none⟩∧w.cell? ⟨b,off+j*2,none⟩=some (.int .i64 (l.getD j (0,0)).1)∧w.cell? ⟨b,off+j*2+1,none⟩=some (.int .i64 (l.getD j (0,0)).2)
theorem BsAt.below {w w1:World} {A:Option Addr} {l:List (Int×Int)} (h:BsAt w A l) (hb:Below w.heap.size w w1):BsAt w1 A l:=fun j hj=>by
 obtain ⟨b,off,h0,h1,h2⟩:=h j hj
 exact ⟨b,off,h0,zC hb h1,zC hb h2⟩
theorem bs_get:∀ (l:List (Int×Int)) (j:Nat),j<l.length→(zd l)[j*2]?=some (.int .i64 (l.getD j (0,0)).1)∧(zd l)[j*2+1]?=some (.int .i64 (l.getD j (0,0)).2)
 | [],j,h=>by simp at h
 | x :: l,0,_=>by simp [zd]
 | x :: l,j+1,h=>by
  have:=bs_get l j (by simpa using h)
  have e:zd (x :: l)=.int .i64 x.1 :: .int .i64 x.2 :: zd l:=rfl
  rw [e,show (j+1)*2=j*2+1+1 by omega]
  simpa using this
theorem bs_own {W:World} {base:Nat} {v:Value} {l:List (Int×Int)} (h:W.ownsRow base 39 2 v l.length (zd l)):∃ A cap,v=.slice A l.length cap∧BsAt W A l:=by
 by_cases h0:0<l.length
 ·obtain ⟨g,cap,rfl,_,_⟩:=zAP h h0
  refine ⟨some ⟨g,0,none⟩,cap,rfl,fun j hj=>⟨g,0,rfl,?_,?_⟩⟩
  ·rw [Nat.zero_add];exact ze h (bs_get l j hj).1
  ·rw [Nat.zero_add];exact ze h (bs_get l j hj).2
 ·obtain rfl:l=[]:=List.eq_nil_of_length_eq_zero (by omega)
  rcases h.2 with ⟨rfl,_⟩ | ⟨g,cap,cur,rfl,_⟩
  ·exact ⟨none,0,rfl,fun j hj=>by simp at hj⟩
  ·exact ⟨_,cap,rfl,fun j hj=>by simp at hj⟩
theorem samebs_true (A:Option Addr) (c:Nat) (A':Option Addr) (c':Nat) (l:List (Int×Int)) (w:World) (hl:l.length≤1000000) (hA:BsAt w A l) (hA':BsAt w A' l) :
  Calls Tryz.prog 34 #[.slice A l.length c,.slice A' l.length c'] w fun e w'=>e=.returned (.bool true)∧Below w.heap.size w w':=by
 have HA:=zB hA
 have HA':=zB hA'
 clear hA hA'
 go_enter Tryz.func34,Tryz.ntmps34
 go_wp2
 go_loopw [13] (fun x wr=>∃ j:Nat,j≤l.length∧x=.int .i64 j∧Below w.heap.size w wr) (fun x _=>l.length - (intOf x).toNat)
 case atStart=>exact ⟨0,Nat.zero_le _,rfl,Below.refl _ _⟩
 case round =>
  obtain ⟨j,hj,rfl,hbr⟩:=hrel
  by_cases hlt:j<l.length
  ·have j0:(0:Int)≤(j:Int):=by omega
   have j1:(j:Int)<(l.length:Int):=by omega
   obtain ⟨b,off,rfl,h1,h2⟩:=zA HA j hlt
   obtain ⟨b',off',rfl,h3,h4⟩:=zA HA' j hlt
   have c0:=zC hbr h1
   have c1:=zC hbr h2
   have d0:=zC hbr h3
   have d1:=zC hbr h4
   have HBR:=zB hbr
   clear h1 h2 h3 h4 hbr HA HA'
   go_wp2
   go_quiet (fail)
   go_wp2
   go_roundw
   case rel=>exact ⟨j+1,by omega,by go_num,zBs (zA HBR) _⟩
   case measure=>simp [intOf];omega
  ·obtain rfl:j=l.length:=by omega
   have HBR:=zB hbr
   clear hbr HA HA'
   go_wp2
   go_ret
   exact ⟨rfl,zA HBR⟩
end Go.Proofs.YtnbleebilmghcacGreat
