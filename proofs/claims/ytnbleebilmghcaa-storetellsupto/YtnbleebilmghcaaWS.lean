/- SOwn, SOwnS -/
import Derived.Test.YtnbleebilmghcaaWN
import Derived.Test.YtnbleebilmghcaaWP
set_option linter.all false
set_option maxHeartbeats 4000000
set_option maxRecDepth 8000
namespace Go.Proofs.Ytnbleebilmghcaa
open Go Go.RowKit
attribute [local go_sem ↓] Go.wp_at_zero Go.wp_at_succ
theorem size90o:(Try.prog.info? 90).map (·.size)=some 1:=by kernel_rfl
structure TO (base:Nat) (A:Option Addr×Nat) (C:Option Addr×Nat) (bs:List (Int×Int)) (cols:List (List Int)) (W:World):Prop where
 ob:W.ownsRow base 40 2 (.slice A.1 bs.length A.2) bs.length (zl bs)
 oc:∃ K:Nat→Value,W.ownsRow base 26 1 (.slice C.1 cols.length C.2) cols.length ((List.range cols.length).map K)∧∀ j,j<cols.length→W.ownsRow base 3 1 (K j) (cols.getD j []).length (zK (cols.getD j []))
theorem TO.ty {base:Nat} {A C:Option Addr×Nat} {bs:List (Int×Int)} {cols:List (List Int)} {W W1:World} (h:TO base A C bs cols W) (k:TyK [92,71] W W1):TO base A C bs cols W1:=by
 obtain ⟨K,h1,h2⟩:=h.oc
 exact ⟨zBk h.ob k (by decide),K,zBk h1 k (by decide),fun j hj=>zBk (h2 j hj) k (by decide)⟩
structure N1 (W0:World) (has:Int) (bs:List (Int×Int)) (γ:(Option Addr×Nat)×Nat) (L:Nat→Bool) (W:World):Prop where
 bel:Below W0.heap.size W0 W
 fr:L 4=true→W.ownsRow W0.heap.size 40 2 (.slice γ.1.1 bs.length γ.1.2) bs.length (zl bs)
 bx:L 6=true→L 7=false→Bxs γ.2 [([.int .i64 0,.slice none 0 0,.slice none 0 0],92)] W
 sp:L 6=true→W0.heap.size≤γ.2
 fin:L 7=true→Bxs γ.2 [([.int .i64 has,.slice γ.1.1 bs.length γ.1.2,.slice none 0 0],92)] W
section
variable {W0:World} {has:Int} {bs:List (Int×Int)} {γ:(Option Addr×Nat)×Nat} {L:Nat→Bool} {W W1:World}
theorem N1.same (h:N1 W0 has bs γ L W) {i:Nat} (hi:i≠4∧i≠6∧i≠7):N1 W0 has bs γ (upd L i) W:=by
 have e4:upd L i 4=L 4:=zJ (by omega)
 have e6:upd L i 6=L 6:=zJ (by omega)
 have e7:upd L i 7=L 7:=zJ (by omega)
 exact ⟨h.bel,by rw [e4];exact h.fr,by rw [e6,e7];exact h.bx,by rw [e6];exact h.sp,by rw [e7];exact h.fin⟩
theorem N1.call (h:N1 W0 has bs γ L W) (q7:L 7=false) (hb:Below W.heap.size W W1) {a:Option Addr×Nat} (ho:W1.ownsRow W0.heap.size 40 2 (.slice a.1 bs.length a.2) bs.length (zl bs)):N1 W0 has bs (a,γ.2) (upd L 4) W1:=by
 have ee:∀ j,j≠4→upd L 4 j=L j:=fun j hj=>zJ hj
 refine ⟨h.bel.trans (hb.mono h.bel.size),fun _=>ho,?_,?_,?_⟩
 ·rw [ee 6 (by decide),ee 7 (by decide)];exact fun a b=>(h.bx a b).below hb
 ·rw [ee 6 (by decide)];exact h.sp
 ·rw [ee 7 (by decide),q7];exact fun x=>(by cases x)
theorem N1.mk6 (h:N1 W0 has bs γ L W) (q7:L 7=false):N1 W0 has bs (γ.1,W.heap.size) (upd L 6) (W.alloc (.cells #[.int .i64 0,.slice none 0 0,.slice none 0 0] 92)):=by
 have ee:∀ j,j≠6→upd L 6 j=L j:=fun j hj=>zJ hj
 have hb:=zAS W (.cells #[.int .i64 0,.slice none 0 0,.slice none 0 0] 92)
 refine ⟨h.bel.trans (hb.mono h.bel.size),?_,fun _ _=>Bxs.start W [([.int .i64 0,.slice none 0 0,.slice none 0 0],92)],fun _=>h.bel.size,?_⟩
 ·rw [ee 4 (by decide)];exact fun a=>zZ (h.fr a) hb
 ·rw [ee 7 (by decide),q7];exact fun x=>(by cases x)
theorem N1.put (h:N1 W0 has bs γ L W) (t4:L 4=true) (t6:L 6=true) (hL:L 7=false):N1 W0 has bs γ (upd L 7) (W.setCells γ.2 0 [.int .i64 has,.slice γ.1.1 bs.length γ.1.2,.slice none 0 0]):=by
 have ee:∀ j,j≠7→upd L 7 j=L j:=fun j hj=>zJ hj
 have hx:=h.bx t6 hL
 have hg:=hx.give 0 rfl [.int .i64 has,.slice γ.1.1 bs.length γ.1.2,.slice none 0 0] rfl
 refine ⟨zM γ.2 (h.sp t6) _ 0 W h.bel,fun _=>(h.fr t4).kept (zBE γ.2 _ 0 W) (.inr (zx (h.fr t4) ⟨_,hx 0 _ _ rfl⟩ (by decide))),fun _ x=>?_,fun _=>h.sp t6,fun _=>?_⟩
 ·rw [zAj] at x;cases x
 ·simpa using hg
end
theorem cell_copies {W:World} {b:Nat} {u:Value} {e:TypeId} (h:Bxs b [([u],e)] W) (hu:u.oneCell'=true:=by rfl):zBm W (some ⟨b,0,none⟩) 1 1 [u]:=by
 refine ⟨rfl,fun x hx=>?_,.inr ⟨_,rfl,fun j x hj=>?_⟩⟩
 ·rw [List.mem_singleton] at hx;rw [hx];exact hu
 ·have:=h.cell 0 rfl j hj
  rw [Nat.add_zero] at this
  have e:(⟨b,0,none⟩:Addr).add j=⟨b,j,none⟩:=by simp [Addr.add];exact fun h=>h.symm
  rw [e]
  exact this
theorem TyK.sets {ts:List TypeId} {W:World} {g o:Nat} {vs:List Value} {cs:Array Value} {e:TypeId} {r:Nat×Nat} (h:W.heap[g]?=some (.cells cs e r)) (he:e∈ts):TyK ts W (W.setCells g o vs):=fun b cs' t r' hb ht=>by
 refine (zBE g vs o W).block b (Array.getElem?_eq_some_iff.1 hb).1 fun eb=>?_
 have eb:b=g:=Option.some.inj eb
 subst eb
 rw [h] at hb
 simp only [Option.some.injEq,Obj.cells.injEq] at hb
 exact ht (hb.2.1▸he)
theorem box_there {W:World} {b:Nat} {cur:List Value} {t:TypeId} (h:Bxs b [(cur,t)] W) {o:Nat} (ho:o<cur.length):W.there b o 1:=fun j hj=>by
 obtain rfl:j=0:=by omega
 have:=(h.there 0 rfl cur.length rfl) o ho
 simpa using this
structure OT (w:World) (b3:Nat) (u0 u1:Value) (TBs:List (List Value×TypeId)) (bs:List (Int×Int)) (cols:List (List Int)) (k:Nat) (v:Value) (K:Nat→Value) (W:World):Prop where
 bel:Below w.heap.size w W
 bx:Bxs b3 [([u0,u1,v],92)] W
 ab:Bxs w.heap.size TBs W
 ob:W.ownsRow w.heap.size 40 2 u1 bs.length (zl bs)
 oc:W.ownsRow w.heap.size 26 1 v k ((List.range k).map K)
 ok:∀ j,j<k→W.ownsRow w.heap.size 3 1 (K j) (cols.getD j []).length (zK (cols.getD j []))
theorem OT.next {w:World} {b3:Nat} {u0 u1:Value} {vs0 vs1:List Value} {bs:List (Int×Int)} {cols:List (List Int)} {k:Nat} {v:Value} {K:Nat→Value} {W W1 W2:World} (h:OT w b3 u0 u1 [(vs0,92),(vs1,92)] bs cols k v K W) (h3:w.heap.size+2≤b3) {u v':Value} (hb:Below W.heap.size W W1) (hu:W1.ownsRow w.heap.size 3 1 u (cols.getD k []).length (zK (cols.getD k []))) (hg:W1.grownBy W2 v.ownBlock) (ho:W2.ownsRow w.heap.size 26 1 v' (k+1) ((List.range k).map K++[u])) :
  OT w b3 u0 u1 [(vs0,92),(vs1,92)] bs cols (k+1) v' (fun j=>if j<k then K j else u) (W2.setCell ⟨b3,2,none⟩ v'):=by
 have ov:=zZ h.oc hb
 have bx1:=h.bx.below hb
 have ab1:=h.ab.below hb
 have nb:=zx ov ⟨_,bx1 0 _ _ rfl⟩ (by decide)
 have bx2:=zAP bx1 hg nb
 have hk:TyK [26,92] W (W2.setCell ⟨b3,2,none⟩ v'):=(TyK.below hb).trans ((TyK.grown ov (by decide) hg).trans (TyK.set1 (bx2 0 _ _ rfl) (by decide)))
 have hk1:TyK [26,92] W1 (W2.setCell ⟨b3,2,none⟩ v'):=(TyK.grown ov (by decide) hg).trans (TyK.set1 (bx2 0 _ _ rfl) (by decide))
 have hsz:=h.bel.size
 refine ⟨?_,bxs_set1 bx2 (o:=2) (by simp),fun j vs t hj=>?_,zBk h.ob hk (by decide),?_,fun j hj=>?_⟩
 ·exact ((h.bel.trans (hb.mono hsz)).trans (zb hg (fun g e=>(ov.lt g e).1) (Nat.le_trans hsz hb.size))).setCell (p:=⟨b3,2,none⟩) (by show w.heap.size≤b3;omega) _
 ·have hj2:j<2:=(List.getElem?_eq_some_iff.1 hj).1
  rw [heap_setCell_other W2 ⟨b3,2,none⟩ _ _ (by simp only;omega),hg.block _ (ab1.lt hj) (fun e=>?_)]
  ·exact ab1 j vs t hj
  ·match j,hj with
   | 0,hj=>exact zx ov ⟨_,ab1 0 _ _ rfl⟩ (by decide) e.symm
   | 1,hj=>exact zx ov ⟨_,ab1 1 _ _ rfl⟩ (by decide) e.symm
 ·have e1:(List.range (k+1)).map (fun j=>if j<k then K j else u)=(List.range k).map K++[u]:=by
   rw [List.range_succ,List.map_append]
   congr 1
   ·exact List.map_congr_left fun j hj=>if_pos (List.mem_range.1 hj)
   ·simp
  rw [e1]
  exact zBk ho (ts:=[92]) (TyK.set1 (bx2 0 _ _ rfl) (by decide)) (by decide)
 ·by_cases hjk:j<k
  ·rw [if_pos hjk];exact zBk (h.ok j hjk) hk (by decide)
  ·obtain rfl:j=k:=by omega
   rw [if_neg hjk];exact zBk hu hk1 (by decide)
theorem owntable_any (has:Int) (bs:List (Int×Int)) (cols:List (List Int)) (A:Option Addr) (c:Nat) (C:Option Addr) (cc:Nat) (w:World) (hbA:BsAt w A bs) (hcC:ColsX w C cols) (hf:FewX ⟨has,bs,cols⟩) :
  Calls Try.prog 95 #[.agg #[.int .i64 has,.slice A bs.length c,.slice C cols.length cc]] w fun e w'=>∃ A' C',e=.returned (.agg #[.int .i64 has,.slice A'.1 bs.length A'.2,.slice C'.1 cols.length C'.2])∧TO w.heap.size A' C' bs cols w'∧Below w.heap.size w w':=by
 have hcc:cols.length≤4194304:=hf.c
 have hbb:bs.length≤4194304:=hf.b
 obtain ⟨i26,hi26,hz26,hs26,hb26⟩:=info_parts info26
 have H26:=zB (And.intro hi26 (And.intro hz26 (And.intro hs26 hb26)))
 have HFK:Hid (∀ k,k<cols.length→(cols.getD k []).length≤4194304):=zB hf.k
 clear hi26 hz26 hs26 hb26 hf
 obtain ⟨W1,hW1,hbx,hX1⟩:=zCR w [([.int .i64 has,.slice A bs.length c,.slice C cols.length cc],92),([.int .i64 0,.slice none 0 0,.slice none 0 0],92)]
 have HW1:Hid ((w.alloc (.cells #[.int .i64 has,.slice A bs.length c,.slice C cols.length cc] 92)).alloc (.cells #[.int .i64 0,.slice none 0 0,.slice none 0 0] 92)=W1):=zB hW1
 clear hW1
 have HCB:=zB (fun W (hb:Below W1.heap.size W1 W)=>copiedb_any A c bs W hbb ((hbA.below hbx).below hb))
 have HCW:=zB hcC
 have HL1:=zB hbx
 have HX1:=zB hX1
 have HZ1:Hid (w.heap.size+2≤W1.heap.size):=zB (hX1.sz (by simp))
 have h0:N1 W1 has bs ((none,0),0) (fun _=>false) W1.drew:=⟨(Below.refl _ _).drew,(fun e=>by cases e),(fun e=>by cases e),(fun e=>by cases e),(fun e=>by cases e)⟩
 clear hbA hcC hbx hX1
 go_enter Try.func95,Try.ntmps95
 go_upto_region 1 with fail
 rw [zA HW1]
 refine zc (fun (γ:(Option Addr×Nat)×Nat) ix v=>if ix=4 then v=.slice γ.1.1 bs.length γ.1.2 else if ix=5 then v=.agg #[.int .i64 has,.slice γ.1.1 bs.length γ.1.2,.slice none 0 0] else if ix=6 then v=.pointer (some ⟨γ.2,0,none⟩) else (([fun v=>v=.pointer (some ⟨w.heap.size,0,none⟩),fun v=>v=.int .i64 has,fun v=>v=.pointer (some ⟨w.heap.size,1,none⟩),fun v=>v=.slice A bs.length c,fun _=>True,fun _=>True,fun _=>True,fun _=>True]:List (Value→Prop)).getD ix (fun _=>True)) v) (fun (γ:(Option Addr×Nat)×Nat) L W=>N1 W1 has bs γ L W) (((none,0),0)) (by kernel_rfl) (by kernel_rfl) (by kernel_rfl) h0 ?hstep ?hend
 case hstep =>
  intro γ ix o ho L ac w1 hD hL hed hcl hout hv
  match ix,ho with
  | 0,ho =>
   simp at ho
   subst ho
   have e1:ac.tmps.getD 1 undef=.pointer (some ⟨w.heap.size,0,none⟩):=hout 1 (by decide +kernel)
   exact .inl ⟨rfl,zC γ (.pointer (some ⟨w.heap.size,0,none⟩)) (by simp [go_sem,Act.eval,-Array.getD_eq_getD_getElem?,e1]) rfl (hD.same (by decide)) (fun _ _ _ _ h=>h)⟩
  | 1,ho =>
   simp at ho
   subst ho
   have e6:ac.tmps.getD 6 undef=.pointer (some ⟨w.heap.size,0,none⟩):=hv 0 6 rfl (by kernel_rfl)
   have bb:=(zA HX1).below hD.bel
   have c0:=bb.cell 0 rfl 0 rfl
   rw [Nat.add_zero] at c0
   exact .inl ⟨rfl,zC γ (.int .i64 has) (by simp [go_sem,Act.eval,-Array.getD_eq_getD_getElem?,e6,c0]) rfl (hD.same (by decide)) (fun _ _ _ _ h=>h)⟩
  | 2,ho =>
   simp at ho
   subst ho
   have e1:ac.tmps.getD 1 undef=.pointer (some ⟨w.heap.size,0,none⟩):=hout 1 (by decide +kernel)
   exact .inl ⟨rfl,zC γ (.pointer (some ⟨w.heap.size,1,none⟩)) (by simp [go_sem,Act.eval,-Array.getD_eq_getD_getElem?,e1]) rfl (hD.same (by decide)) (fun _ _ _ _ h=>h)⟩
  | 3,ho =>
   simp at ho
   subst ho
   have e8:ac.tmps.getD 8 undef=.pointer (some ⟨w.heap.size,1,none⟩):=hv 2 8 rfl (by kernel_rfl)
   have bb:=(zA HX1).below hD.bel
   have c0:=bb.cell 0 rfl 1 rfl
   rw [Nat.add_zero] at c0
   exact .inl ⟨rfl,zC γ (.slice A bs.length c) (by simp [go_sem,Act.eval,-Array.getD_eq_getD_getElem?,e8,c0]) rfl (hD.same (by decide)) (fun _ _ _ _ h=>h)⟩
  | 4,ho =>
   simp at ho
   subst ho
   have e9:ac.tmps.getD 9 undef=.slice A bs.length c:=hv 3 9 rfl (by kernel_rfl)
   have q5:L 5=false:=by
    cases h:L 5
    ·rfl
    ·exact absurd (hcl 5 _ rfl h 4 (by kernel_rfl)) (by rw [hL];decide)
   have q7:L 7=false:=by
    cases h:L 7
    ·rfl
    ·exact absurd (hcl 7 _ rfl h 5 (by kernel_rfl)) (by rw [q5];decide)
   refine .inl ⟨rfl,zj 124 #[.slice A bs.length c] (by simp [go_sem,Act.eval,-Array.getD_eq_getD_getElem?,e9]) ?_⟩
   refine (zA HCB w1 hD.bel).mono ?_
   rintro e w6 ⟨A6,c6,rfl,ho6,hb6⟩
   exact ⟨_,((A6,c6),γ.2),rfl,rfl,hD.call q7 hb6 (zAi ho6 hD.bel.size),fun j u hj hLj h=>by
    by_cases e5:j=5
    ·rw [e5,q5] at hLj;cases hLj
    simpa [hj,e5] using h⟩
  | 5,ho =>
   simp at ho
   subst ho
   have e7:ac.tmps.getD 7 undef=.int .i64 has:=hv 1 7 rfl (by kernel_rfl)
   have e10:ac.tmps.getD 10 undef=.slice γ.1.1 bs.length γ.1.2:=hv 4 10 rfl (by kernel_rfl)
   exact .inl ⟨rfl,zC γ (.agg #[.int .i64 has,.slice γ.1.1 bs.length γ.1.2,.slice none 0 0]) (by simp [go_sem,Act.eval,-Array.getD_eq_getD_getElem?,e7,e10]) rfl (hD.same (by decide)) (fun _ _ _ _ h=>h)⟩
  | 6,ho =>
   simp at ho
   subst ho
   have q7:L 7=false:=by
    cases h:L 7
    ·rfl
    ·exact absurd (hcl 7 _ rfl h 6 (by kernel_rfl)) (by rw [hL];decide)
   exact .inl ⟨rfl,zAw (γ.1,w1.heap.size) (.pointer (some ⟨w1.heap.size,0,none⟩)) (w2:=w1.alloc (.cells #[.int .i64 0,.slice none 0 0,.slice none 0 0] 92)) (by simp [go_sem,Act.eval]) rfl (hD.mk6 q7) (fun j u hj hLj h=>by simpa [hj] using h)⟩
  | 7,ho =>
   simp at ho
   subst ho
   have e3:ac.tmps.getD 3 undef=.pointer (some ⟨γ.2,0,none⟩):=hv 6 3 rfl (by kernel_rfl)
   have e11:ac.tmps.getD 11 undef=.agg #[.int .i64 has,.slice γ.1.1 bs.length γ.1.2,.slice none 0 0]:=hv 5 11 rfl (by kernel_rfl)
   have t6:L 6=true:=hed 6 (by kernel_rfl)
   have t5:L 5=true:=hed 5 (by kernel_rfl)
   have t4:L 4=true:=hcl 5 _ rfl t5 4 (by kernel_rfl)
   exact .inl ⟨rfl,zBL γ 92 (.tmp 3) (.tmp 11) rfl γ.2 0 [.int .i64 has,.slice γ.1.1 bs.length γ.1.2,.slice none 0 0] (by simp [Act.eval,-Array.getD_eq_getD_getElem?,e3]) (by simp [Act.eval,-Array.getD_eq_getD_getElem?,e11]) (by simp [Value.oneCell']) size92 ((hD.bx t6 hL).there 0 rfl 3 rfl) trivial (hD.put t4 t6 hL) (fun _ _ _ _ h=>h)⟩
  | ix+8,ho=>simp at ho
 case hend =>
  intro γ v L w9 hD hall hv
  have v6:v 6=.pointer (some ⟨γ.2,0,none⟩):=hv 6 3 rfl
  obtain ⟨b3,hb3⟩:∃ b3,b3=γ.2:=⟨_,rfl⟩
  obtain ⟨u1,hu1⟩:∃ u1:Option Addr×Nat,u1=γ.1:=⟨_,rfl⟩
  have hO:OT w b3 (.int .i64 has) (.slice u1.1 bs.length u1.2) [([.int .i64 has,.slice A bs.length c,.slice C cols.length cc],92),([.int .i64 0,.slice none 0 0,.slice none 0 0],92)] bs cols 0 (.slice none 0 0) (fun _=>undef) w9:=by
   refine ⟨(zA HL1).trans (hD.bel.mono (zA HL1).size),?_,(zA HX1).below hD.bel,?_,World.ownsRow_nil _ _ _ _,fun j hj=>by omega⟩
   ·have:=hD.fin (hall 7 (by decide));rw [hb3,hu1];exact this
   ·have:=hD.fr (hall 4 (by decide));rw [hu1];exact zAi this (zA HL1).size
  have h3:w.heap.size+2≤b3:=by rw [hb3];exact Nat.le_trans (zA HZ1) (hD.sp (hall 6 (by decide)))
  rw [←hb3] at v6
  have HO:=zB hO
  have y2:=hO.ab.cell 0 rfl 2 rfl
  rw [Nat.add_zero] at y2
  clear hv hall hD h0 hb3 hu1 hO
  simp only [zt,List.getElem?_cons_zero,List.getElem?_cons_succ,Option.bind_some,List.length_cons,List.length_nil,Nat.reduceAdd,v6]
  clear v6
  go_frame
  go_wp2_with fail
  clear y2
  go_loopw [15] (fun x wr=>∃ (k:Nat) (v:Value) (K:Nat→Value),k≤cols.length∧x=.int .i64 (k:Int)∧OT w b3 (.int .i64 has) (.slice u1.1 bs.length u1.2) [([.int .i64 has,.slice A bs.length c,.slice C cols.length cc],92),([.int .i64 0,.slice none 0 0,.slice none 0 0],92)] bs cols k v K wr) (fun x _=>cols.length - (intOf x).toNat)
  case atStart=>exact ⟨0,_,_,Nat.zero_le _,rfl,zA HO⟩
  case round =>
   clear HO
   obtain ⟨k,vt,K,hk,rfl,hO⟩:=hrel
   by_cases hlk:k<cols.length
   ·have k0:(0:Int)≤(k:Int):=by omega
    have k1:(k:Int)<(cols.length:Int):=by omega
    obtain ⟨kb,ko,hCe,Ak,ck,hck,hik⟩:=(zA HCW).below hO.bel k hlk
    obtain ⟨lk,hlke⟩:∃ lk,lk=cols.getD k []:=⟨_,rfl⟩
    rw [←hlke] at hck hik
    have hkl:lk.length≤4194304:=by rw [hlke];exact zA HFK k hlk
    have hck:wr.cell? ⟨kb,ko+k,none⟩=some (.slice Ak lk.length ck):=hck
    have HCI:=zB (fun W (hb:Below wr.heap.size wr W)=>copied_any Ak ck lk W hkl (hik.below hb))
    have HBR:=zB hO.bx
    have HLW:=zB hO.bel
    obtain ⟨X,hX⟩:∃ X,X=(List.range k).map K:=⟨_,rfl⟩
    have HOV:Hid (wr.ownsRow w.heap.size 26 1 vt k X):=zB (by rw [hX];exact hO.oc)
    have HOT:=zB hO
    have HXK:=zB hX
    have HLK:=zB hlke
    have h0:=O5.start wr b3 2 w.heap.size 26 1 k vt X (fun (a:Option Addr×Nat)=>[.slice a.1 lk.length a.2]) (fun a W=>W.ownsRow w.heap.size 3 1 (.slice a.1 lk.length a.2) lk.length (zK lk)) ((none,0),0,undef)
    subst hCe
    clear hO hik hlke hX
    go_wp2_with fail
    clear hck
    refine zc (fun (γ:(Option Addr×Nat)×Nat×Value) ix v=>if ix=3 then v=.slice γ.1.1 lk.length γ.1.2 else if ix=4 then v=.slice (some ⟨γ.2.1,0,none⟩) 1 1 else if ix=5 then v=γ.2.2 else (([fun v=>v=.pointer (some ⟨b3,2,none⟩),fun v=>v=vt,fun v=>v=.slice Ak lk.length ck,fun _=>True,fun _=>True,fun _=>True,fun v=>v=.pointer (some ⟨b3,2,none⟩),fun _=>True]:List (Value→Prop)).getD ix (fun _=>True)) v) (fun (γ:(Option Addr×Nat)×Nat×Value) L W=>O5 wr b3 2 w.heap.size 26 1 k vt X (fun (a:Option Addr×Nat)=>[.slice a.1 lk.length a.2]) (fun a W=>W.ownsRow w.heap.size 3 1 (.slice a.1 lk.length a.2) lk.length (zK lk)) γ L W) (((none,0),0,undef)) (by kernel_rfl) (by kernel_rfl) (by kernel_rfl) h0 ?hstep ?hend
    case hstep =>
     intro γ ix o ho L ac w1 hD hL hed hcl hout hv
     match ix,ho with
     | 0,ho =>
      simp at ho
      subst ho
      have e3:ac.tmps.getD 3 undef=.pointer (some ⟨b3,0,none⟩):=hout 3 (by decide +kernel)
      exact .inl ⟨rfl,zC γ (.pointer (some ⟨b3,2,none⟩)) (by simp [go_sem,Act.eval,-Array.getD_eq_getD_getElem?,e3]) rfl (hD.same (by decide)) (fun _ _ _ _ h=>h)⟩
     | 1,ho =>
      simp at ho
      subst ho
      have e19:ac.tmps.getD 19 undef=.pointer (some ⟨b3,2,none⟩):=hv 0 19 rfl (by kernel_rfl)
      have q5:L 5=false:=by
       cases h:L 5
       ·rfl
       ·exact absurd (hcl 5 _ rfl h 1 (by kernel_rfl)) (by rw [hL];decide)
      have q7:L 7=false:=by
       cases h:L 7
       ·rfl
       ·exact absurd (hcl 7 _ rfl h 5 (by kernel_rfl)) (by rw [q5];decide)
      have bb:=(zA HBR).below (hD.bel q5)
      have c0:=bb.cell 0 rfl 2 rfl
      rw [Nat.add_zero] at c0
      exact .inl ⟨rfl,zC γ (vt) (by simp [go_sem,Act.eval,-Array.getD_eq_getD_getElem?,e19,c0]) rfl (hD.same (by decide)) (fun _ _ _ _ h=>h)⟩
     | 2,ho =>
      simp at ho
      subst ho
      have e5:ac.tmps.getD 5 undef=.slice Ak lk.length ck:=hout 5 (by decide +kernel)
      exact .inl ⟨rfl,zC γ (.slice Ak lk.length ck) (by simp [go_sem,Act.eval,-Array.getD_eq_getD_getElem?,e5]) rfl (hD.same (by decide)) (fun _ _ _ _ h=>h)⟩
     | 3,ho =>
      simp at ho
      subst ho
      have e21:ac.tmps.getD 21 undef=.slice Ak lk.length ck:=hv 2 21 rfl (by kernel_rfl)
      have q4:L 4=false:=by
       cases h:L 4
       ·rfl
       ·exact absurd (hcl 4 _ rfl h 3 (by kernel_rfl)) (by rw [hL];decide)
      have q5:L 5=false:=by
       cases h:L 5
       ·rfl
       ·exact absurd (hcl 5 _ rfl h 4 (by kernel_rfl)) (by rw [q4];decide)
      have q7:L 7=false:=by
       cases h:L 7
       ·rfl
       ·exact absurd (hcl 7 _ rfl h 5 (by kernel_rfl)) (by rw [q5];decide)
      refine .inl ⟨rfl,zj 94 #[.slice Ak lk.length ck] (by simp [go_sem,Act.eval,-Array.getD_eq_getD_getElem?,e21]) ?_⟩
      refine (zA HCI w1 (hD.bel q5)).mono ?_
      rintro e w6 ⟨A6,c6,rfl,ho6,hb6⟩
      exact ⟨_,((A6,c6),γ.2),rfl,rfl,hD.call q4 q5 q7 hb6 (zAi ho6 (Nat.le_trans (zA HLW).size (hD.bel q5).size)),fun j u hj hLj h=>by simpa [hj] using h⟩
     | 4,ho =>
      simp at ho
      subst ho
      have e22:ac.tmps.getD 22 undef=.slice γ.1.1 lk.length γ.1.2:=hv 3 22 rfl (by kernel_rfl)
      have q5:L 5=false:=by
       cases h:L 5
       ·rfl
       ·exact absurd (hcl 5 _ rfl h 4 (by kernel_rfl)) (by rw [hL];decide)
      have q7:L 7=false:=by
       cases h:L 7
       ·rfl
       ·exact absurd (hcl 7 _ rfl h 5 (by kernel_rfl)) (by rw [q5];decide)
      have t3:L 3=true:=hed 3 (by kernel_rfl)
      exact .inl ⟨rfl,zAw (γ.1,w1.heap.size,γ.2.2) (.slice (some ⟨w1.heap.size,0,none⟩) 1 1) (w2:=w1.alloc (.cells #[.slice γ.1.1 lk.length γ.1.2] 26)) (by simp [go_sem,Act.eval,-Array.getD_eq_getD_getElem?,e22]) rfl (hD.mk4 t3 q5 q7 (fun W1 hb h=>zZ h hb)) (fun j u hj hLj h=>by simpa [hj] using h)⟩
     | 5,ho =>
      simp at ho
      subst ho
      have e20:ac.tmps.getD 20 undef=vt:=hv 1 20 rfl (by kernel_rfl)
      have e23:ac.tmps.getD 23 undef=.slice (some ⟨γ.2.1,0,none⟩) 1 1:=hv 4 23 rfl (by kernel_rfl)
      have q7:L 7=false:=by
       cases h:L 7
       ·rfl
       ·exact absurd (hcl 7 _ rfl h 5 (by kernel_rfl)) (by rw [hL];decide)
      have t4:L 4=true:=hed 4 (by kernel_rfl)
      have t3:L 3=true:=hcl 4 _ rfl t4 3 (by kernel_rfl)
      have hW:=hD.bel hL
      obtain ⟨v',w',hr,ho,hg,hm⟩:=zCB w.heap.size 90 26 i26 _ 1 24 Try.underlying90 (zA H26).1 (zA H26).2.1 (zA H26).2.2.1 (zA H26).2.2.2 rfl (by decide) w1 vt k X (zZ (zA HOV) hW) (some ⟨γ.2.1,0,none⟩) 1 1 [.slice γ.1.1 lk.length γ.1.2] (cell_copies (hD.bx t4 hL)) (by unfold maxLen;omega) (by omega) (Nat.le_trans (zA HLW).size hW.size) (by simp)
      exact .inl ⟨rfl,zAs (γ.1,γ.2.1,v') (.tmp 20) (.tmp 23) 90 rfl vt (.slice (some ⟨γ.2.1,0,none⟩) 1 1) v' (by simp [Act.eval,-Array.getD_eq_getD_getElem?,e20]) (by simp [Act.eval,-Array.getD_eq_getD_getElem?,e23]) (hr _) rfl (hD.put5 t3 hL q7 hg ho) (fun j u hj hLj h=>by simpa [hj] using h)⟩
     | 6,ho =>
      simp at ho
      subst ho
      have e3:ac.tmps.getD 3 undef=.pointer (some ⟨b3,0,none⟩):=hout 3 (by decide +kernel)
      exact .inl ⟨rfl,zC γ (.pointer (some ⟨b3,2,none⟩)) (by simp [go_sem,Act.eval,-Array.getD_eq_getD_getElem?,e3]) rfl (hD.same (by decide)) (fun _ _ _ _ h=>h)⟩
     | 7,ho =>
      simp at ho
      subst ho
      have e25:ac.tmps.getD 25 undef=.pointer (some ⟨b3,2,none⟩):=hv 6 25 rfl (by kernel_rfl)
      have e24:ac.tmps.getD 24 undef=γ.2.2:=hv 5 24 rfl (by kernel_rfl)
      have t5:L 5=true:=hed 5 (by kernel_rfl)
      obtain ⟨W8,hb8,_,hg8,ho8⟩:=hD.app t5 hL
      obtain ⟨gv,cv,hgv,_,_⟩:=zAG ho8 (by omega)
      have hx8:=zAP ((zA HBR).below hb8) hg8 (zx (zZ (zA HOV) hb8) ⟨_,((zA HBR).below hb8) 0 _ _ rfl⟩ (by decide))
      exact .inl ⟨rfl,zCN γ 90 (.tmp 25) (.tmp 24) rfl b3 2 γ.2.2 (by simp [Act.eval,-Array.getD_eq_getD_getElem?,e25]) (by simp [Act.eval,-Array.getD_eq_getD_getElem?,e24]) (by rw [hgv];rfl) size90o (box_there hx8 (by simp)) trivial (hD.put7 t5 hL) (fun _ _ _ _ h=>h)⟩
     | ix+8,ho=>simp at ho
    case hend =>
     intro γ vv L w10 hD hall hv
     obtain ⟨W1',W2',hb',hF',hg',ho',hw'⟩:=hD.fin (hall 7 (by decide))
     have hn:=(zA HOT).next h3 hb' (by rw [←zA HLK];exact hF') hg' (by rw [←zA HXK];exact ho')
     rw [←hw'] at hn
     have HN:=zB hn
     clear hv hall hD h0 hn hb' hF' hg' ho' hw'
     simp only [zt,List.getElem?_cons_zero,List.getElem?_cons_succ,Option.bind_some,List.length_cons,List.length_nil,Nat.reduceAdd]
     go_frame
     go_wp2
     go_roundw
     case rel=>exact ⟨k+1,_,_,by omega,by go_num,zA HN⟩
     case measure=>simp [intOf];omega
   ·obtain rfl:k=cols.length:=by omega
    obtain ⟨Av,cv,rfl⟩:=zAK hO.oc
    have x0:=hO.bx.cell 0 rfl 0 rfl
    have x1:=hO.bx.cell 0 rfl 1 rfl
    have x2:=hO.bx.cell 0 rfl 2 rfl
    rw [Nat.add_zero] at x0 x1 x2
    have dk:decide ((cols.length:Int)<(cols.length:Int))=false:=decide_eq_false (by omega)
    have HTO:Hid (TO w.heap.size u1 (Av,cv) bs cols (wr.setCells (w.heap.size+1) 0 [.int .i64 has,.slice u1.1 bs.length u1.2,.slice Av cols.length cv])):=zB (TO.ty ⟨hO.ob,K,hO.oc,hO.ok⟩ (TyK.sets (hO.ab 1 _ _ rfl) (by decide)))
    have HG9:=zB (hO.ab.give 1 rfl [.int .i64 has,.slice u1.1 bs.length u1.2,.slice Av cols.length cv] rfl)
    have HTH:=zB (hO.ab.there 1 rfl 3 rfl)
    have HB9:=zB (zM (w.heap.size+1) (by omega) [.int .i64 has,.slice u1.1 bs.length u1.2,.slice Av cols.length cv] 0 wr hO.bel)
    clear hO
    go_wp2_with ((refine zG rfl 92 (.tmp 2) _ rfl (w.heap.size+1) 0 [.int .i64 has,.slice u1.1 bs.length u1.2,.slice Av cols.length cv] rfl rfl (by simp [Value.oneCell']) size92 (zA HTH) ?_;intro W9 hW9;have HT9:=zB (zA HTO);have HGG:=zB (zA HG9);have HBB:=zB (zA HB9);rw [←hW9] at HT9 HGG HBB;clear hW9))
    have g0:=(zA HGG).cell 1 rfl 0 rfl
    have g1:=(zA HGG).cell 1 rfl 1 rfl
    have g2:=(zA HGG).cell 1 rfl 2 rfl
    refine bodyPost_ret (v:=.agg #[.int .i64 has,.slice u1.1 bs.length u1.2,.slice Av cols.length cv]) (by simp [results,Try.results95,go_sem,g0,g1,g2]) rfl ⟨u1,(Av,cv),rfl,zA HT9,zA HBB⟩
end Go.Proofs.Ytnbleebilmghcaa
set_option maxHeartbeats 4000000
set_option maxRecDepth 8000
namespace Go.Proofs.Ytnbleebilmghcaa
open Go Go.RowKit
attribute [local go_sem ↓] Go.wp_at_zero Go.wp_at_succ
theorem TO.le {base base':Nat} {A C:Option Addr×Nat} {bs:List (Int×Int)} {cols:List (List Int)} {W:World} (h:TO base A C bs cols W) (hb:base'≤base):TO base' A C bs cols W:=by
 obtain ⟨K,h1,h2⟩:=h.oc
 exact ⟨zAi h.ob hb,K,zAi h1 hb,fun j hj=>zAi (h2 j hj) hb⟩
theorem TO.at {base:Nat} {A C:Option Addr×Nat} {bs:List (Int×Int)} {cols:List (List Int)} {W:World} (h:TO base A C bs cols W):BsAt W A.1 bs∧ColsX W C.1 cols:=by
 obtain ⟨K,h1,h2⟩:=h.oc
 refine ⟨?_,fun k hk=>?_⟩
 ·obtain ⟨A',c',e,hb⟩:=bs_own h.ob
  simp only [Value.slice.injEq,true_and] at e
  rw [e.1];exact hb
 ·obtain ⟨g,cap,e,_,_⟩:=zAG h1 (by omega)
  simp only [Value.slice.injEq,true_and] at e
  obtain ⟨a,c,ek⟩:=zAK (h2 k hk)
  have hk2:=h2 k hk
  rw [ek] at hk2
  rw [e.1] at h1 ⊢
  refine ⟨g,0,rfl,a,c,?_,zCo hk2⟩
  have:=zf h1 (j:=k) (u:=K k) (by rw [List.getElem?_map,List.getElem?_range hk];rfl)
  rw [Nat.zero_add,this,ek]
theorem three_copies {W:World} {b:Nat} {i:Int} {a1 a2:Option Addr} {n1 n2 c1 c2:Nat} {e:TypeId} (h:Bxs b [([.int .i64 i,.slice a1 n1 c1,.slice a2 n2 c2],e)] W):zBm W (some ⟨b,0,none⟩) 1 3 [.int .i64 i,.slice a1 n1 c1,.slice a2 n2 c2]:=by
 refine ⟨rfl,fun x hx=>?_,.inr ⟨_,rfl,fun j x hj=>?_⟩⟩
 ·simp only [List.mem_cons,List.not_mem_nil,or_false] at hx
  rcases hx with rfl | rfl | rfl <;> rfl
 ·have:=h.cell 0 rfl j hj
  rw [Nat.add_zero] at this
  have e:(⟨b,0,none⟩:Addr).add j=⟨b,j,none⟩:=by simp [Addr.add];exact fun h=>h.symm
  rw [e]
  exact this
def tO (l:List TabX) (M:Nat→(Option Addr×Nat)×(Option Addr×Nat)) (k:Nat):List T3:=(List.range k).map fun j=>⟨(l.getD j dT).has,(M j).1.1,(l.getD j dT).bs.length,(M j).1.2,(M j).2.1,(l.getD j dT).cols.length,(M j).2.2⟩
structure OS (w:World) (b3:Nat) (Gv:Value) (TBs:List (List Value×TypeId)) (gens:List Int) (l:List TabX) (k:Nat) (v:Value) (M:Nat→(Option Addr×Nat)×(Option Addr×Nat)) (W:World):Prop where
 bel:Below w.heap.size w W
 bx:Bxs b3 [([v,Gv],71)] W
 ab:Bxs w.heap.size TBs W
 og:W.ownsRow w.heap.size 3 1 Gv gens.length (zK gens)
 ov:W.ownsRow w.heap.size 92 3 v k (zL (tO l M k))
 ok:∀ j,j<k→TO w.heap.size (M j).1 (M j).2 (l.getD j dT).bs (l.getD j dT).cols W
theorem OS.below {w:World} {b3:Nat} {Gv:Value} {TBs:List (List Value×TypeId)} {gens:List Int} {l:List TabX} {k:Nat} {v:Value} {M:Nat→(Option Addr×Nat)×(Option Addr×Nat)} {W W1:World} (h:OS w b3 Gv TBs gens l k v M W) (hb:Below W.heap.size W W1):OS w b3 Gv TBs gens l k v M W1 :=
 ⟨h.bel.trans (hb.mono h.bel.size),h.bx.below hb,h.ab.below hb,zZ h.og hb,zZ h.ov hb,fun j hj=>(h.ok j hj).ty (TyK.below hb)⟩
theorem OS.next {w:World} {b3:Nat} {Gv:Value} {vs0 vs1:List Value} {gens:List Int} {l:List TabX} {k:Nat} {v:Value} {M:Nat→(Option Addr×Nat)×(Option Addr×Nat)} {W W1 W2:World} (h:OS w b3 Gv [(vs0,71),(vs1,71)] gens l k v M W) (h3:w.heap.size+2≤b3) {a:(Option Addr×Nat)×(Option Addr×Nat)} {v':Value} (hb:Below W.heap.size W W1) (hu:TO w.heap.size a.1 a.2 (l.getD k dT).bs (l.getD k dT).cols W1) (hg:W1.grownBy W2 v.ownBlock) (ho:W2.ownsRow w.heap.size 92 3 v' (k+1) (zL (tO l M k)++[.int .i64 (l.getD k dT).has,.slice a.1.1 (l.getD k dT).bs.length a.1.2,.slice a.2.1 (l.getD k dT).cols.length a.2.2])) :
  OS w b3 Gv [(vs0,71),(vs1,71)] gens l (k+1) v' (fun j=>if j<k then M j else a) (W2.setCell ⟨b3,0,none⟩ v'):=by
 have ov:=zZ h.ov hb
 have bx1:=h.bx.below hb
 have ab1:=h.ab.below hb
 have bx2:=zAP bx1 hg (zx ov ⟨_,bx1 0 _ _ rfl⟩ (by decide))
 have hk1:TyK [92,71] W1 (W2.setCell ⟨b3,0,none⟩ v'):=(TyK.grown ov (by decide) hg).trans (TyK.set1 (bx2 0 _ _ rfl) (by decide))
 have hk:TyK [92,71] W (W2.setCell ⟨b3,0,none⟩ v'):=(TyK.below hb).trans hk1
 have hsz:=h.bel.size
 refine ⟨?_,bxs_set1 bx2 (o:=0) (by simp),fun j vs t hj=>?_,zBk h.og hk (by decide),?_,fun j hj=>?_⟩
 ·exact ((h.bel.trans (hb.mono hsz)).trans (zb hg (fun g e=>(ov.lt g e).1) (Nat.le_trans hsz hb.size))).setCell (p:=⟨b3,0,none⟩) (by show w.heap.size≤b3;omega) _
 ·have hj2:j<2:=(List.getElem?_eq_some_iff.1 hj).1
  rw [heap_setCell_other W2 ⟨b3,0,none⟩ _ _ (by simp only;omega),hg.block _ (ab1.lt hj) (fun e=>?_)]
  ·exact ab1 j vs t hj
  ·match j,hj with
   | 0,hj=>exact zx ov ⟨_,ab1 0 _ _ rfl⟩ (by decide) e.symm
   | 1,hj=>exact zx ov ⟨_,ab1 1 _ _ rfl⟩ (by decide) e.symm
 ·have e1:zL (tO l (fun j=>if j<k then M j else a) (k+1))=zL (tO l M k)++[.int .i64 (l.getD k dT).has,.slice a.1.1 (l.getD k dT).bs.length a.1.2,.slice a.2.1 (l.getD k dT).cols.length a.2.2]:=by
   unfold tO
   rw [List.range_succ,List.map_append,zBV]
   congr 1
   ·congr 1
    refine List.map_congr_left fun j hj=>?_
    simp only [if_pos (List.mem_range.1 hj)]
   ·simp [zL,zn]
  rw [e1]
  exact zBk ho (ts:=[71]) (TyK.set1 (bx2 0 _ _ rfl) (by decide)) (by decide)
 ·by_cases hjk:j<k
  ·simp only [if_pos hjk];exact (h.ok j hjk).ty hk
  ·obtain rfl:j=k:=by omega
   simp only [if_neg hjk];exact hu.ty hk1
theorem OS.at {w:World} {b3:Nat} {Gv:Value} {TBs:List (List Value×TypeId)} {gens:List Int} {l:List TabX} {T:Option Addr} {c:Nat} {M:Nat→(Option Addr×Nat)×(Option Addr×Nat)} {W W1:World} (h:OS w b3 Gv TBs gens l l.length (.slice T l.length c) M W) (hk:TyK [71] W W1):TabsX W1 T l:=fun j hj=>by
 have ho:=zBk h.ov hk (by decide)
 obtain ⟨g,cap,e,_,_⟩:=zAG ho (by omega)
 simp only [Value.slice.injEq,true_and] at e
 rw [e.1] at ho ⊢
 have hl:(tO l M l.length).length=l.length:=by simp [tO]
 obtain ⟨c0,c1,c2⟩:=cellsT_at (tO l M l.length) j (by omega)
 have et:(tO l M l.length)[j]'(by omega)=⟨(l.getD j dT).has,(M j).1.1,(l.getD j dT).bs.length,(M j).1.2,(M j).2.1,(l.getD j dT).cols.length,(M j).2.2⟩:=by simp [tO]
 rw [et] at c0 c1 c2
 have hto:TO w.heap.size (M j).1 (M j).2 (l.getD j dT).bs (l.getD j dT).cols W1:=by
  obtain ⟨K,h1,h2⟩:=(h.ok j hj).oc
  exact ⟨zBk (h.ok j hj).ob hk (by decide),K,zBk h1 hk (by decide),fun i hi=>zBk (h2 i hi) hk (by decide)⟩
 refine ⟨g,0,rfl,(M j).1.1,(M j).1.2,(M j).2.1,(M j).2.2,?_,?_,?_,hto.at.1,hto.at.2⟩
 ·rw [Nat.zero_add];exact zf ho c0
 ·rw [Nat.zero_add];exact zf ho c1
 ·rw [Nat.zero_add];exact zf ho c2
theorem sown_any (T:Option Addr) (tcap:Nat) (G:Option Addr) (gcap:Nat) (l:List TabX) (gens:List Int) (w:World) (hll:l.length≤4194304) (hgl:gens.length≤4194304) (hf:∀ i,i<l.length→FewX (l.getD i dT)) (hT:TabsX w T l) (hG:IntsL w G gens) :
  Calls Try.prog 57 #[.agg #[.slice T l.length tcap,.slice G gens.length gcap]] w fun e w'=>∃ T' c' G' gc',e=.returned (.agg #[.slice T' l.length c',.slice G' gens.length gc'])∧TabsX w' T' l∧IntsL w' G' gens∧Below w.heap.size w w':=by
 obtain ⟨i92,hi92,hz92,hs92,hb92⟩:=info_parts info92
 have H92:=zB (And.intro hi92 (And.intro hz92 (And.intro hs92 hb92)))
 clear hi92 hz92 hs92 hb92
 obtain ⟨W1,hW1,hbx,hX1⟩:=zCR w [([.slice T l.length tcap,.slice G gens.length gcap],71),([.slice none 0 0,.slice none 0 0],71)]
 have HW1:Hid ((w.alloc (.cells #[.slice T l.length tcap,.slice G gens.length gcap] 71)).alloc (.cells #[.slice none 0 0,.slice none 0 0] 71)=W1):=zB hW1
 clear hW1
 have HCP:=zB (copied_any G gcap gens W1 hgl (hG.below hbx))
 have HTX:=zB hT
 have HF:=zB hf
 have HL1:=zB hbx
 have HX1:=zB hX1
 have r1:=hX1.cell 0 rfl 1 rfl
 rw [Nat.add_zero] at r1
 have HZ1:Hid (w.heap.size+2≤W1.heap.size):=zB (hX1.sz (by simp))
 clear hT hG hf hbx hX1
 go_enter Try.func57,Try.ntmps57
 go_upto_region 1 with fail
 rw [zA HW1]
 go_upto_region 2 with (go_at_call 94;refine (zA HCP).mono ?_;rintro e w2 ⟨Ag,cg,rfl,ho2,hb2⟩;have HO2:=zB ho2;have HB2:=zB hb2;clear ho2 hb2)
 clear r1
 obtain ⟨b3,hb3⟩:∃ b3,b3=w2.heap.size:=⟨_,rfl⟩
 obtain ⟨W3,hW3,hbx,hX3⟩:=zCR w2 [([.slice none 0 0,.slice Ag gens.length cg],71)]
 have HW3:Hid (w2.alloc (.cells #[.slice none 0 0,.slice Ag gens.length cg] 71)=W3):=zB hW3
 clear hW3
 rw [zA HW3,←hb3]
 have hS:OS w b3 (.slice Ag gens.length cg) [([.slice T l.length tcap,.slice G gens.length gcap],71),([.slice none 0 0,.slice none 0 0],71)] gens l 0 (.slice none 0 0) (fun _=>((none,0),(none,0))) W3:=by
  refine ⟨((zA HL1).trans ((zA HB2).mono (zA HL1).size)).trans (hbx.mono (Nat.le_trans (zA HL1).size (zA HB2).size)),by rw [hb3];exact hX3,((zA HX1).below (zA HB2)).below hbx,zZ (zAi (zA HO2) (zA HL1).size) hbx,World.ownsRow_nil _ _ _ _,fun j hj=>by omega⟩
 have h3:w.heap.size+2≤b3:=by rw [hb3];exact Nat.le_trans (zA HZ1) (zA HB2).size
 have HS:=zB hS
 have y0:=hS.ab.cell 0 rfl 0 rfl
 rw [Nat.add_zero] at y0
 clear hbx hX3 hb3 hS HW3 HW1 HX1 HL1 HZ1 HO2 HB2 HCP
 go_wp2_with fail
 clear y0
 go_loopw [13] (fun x wr=>∃ (k:Nat) (v:Value) (M:Nat→(Option Addr×Nat)×(Option Addr×Nat)),k≤l.length∧x=.int .i64 (k:Int)∧OS w b3 (.slice Ag gens.length cg) [([.slice T l.length tcap,.slice G gens.length gcap],71),([.slice none 0 0,.slice none 0 0],71)] gens l k v M wr) (fun x _=>l.length - (intOf x).toNat)
 case atStart=>exact ⟨0,_,_,Nat.zero_le _,rfl,zA HS⟩
 case round =>
  clear HS
  obtain ⟨k,vt,M,hk,rfl,hO⟩:=hrel
  by_cases hlk:k<l.length
  ·have k0:(0:Int)≤(k:Int):=by omega
   have k1:(k:Int)<(l.length:Int):=by omega
   obtain ⟨tb,tf,hTe,A,c,C,cc,hta⟩:=(zA HTX).below hO.bel k hlk
   have hfx:=(zA HF) k hlk
   obtain ⟨t,ht⟩:∃ t,t=l.getD k dT:=⟨_,rfl⟩
   rw [←ht] at hta hfx
   obtain ⟨has,bs,cols⟩:=t
   have d0:=hta.c0
   have d1:=hta.c1
   have d2:=hta.c2
   dsimp only at d0 d1 d2
   obtain ⟨bt,hbt⟩:∃ bt,bt=wr.heap.size:=⟨_,rfl⟩
   obtain ⟨W4,hW4,hbx,hX4⟩:=zCR wr [([.int .i64 has,.slice A bs.length c,.slice C cols.length cc],92)]
   have HW4:Hid (wr.alloc (.cells #[.int .i64 has,.slice A bs.length c,.slice C cols.length cc] 92)=W4):=zB hW4
   clear hW4
   rw [←hbt] at hX4
   have HOT1:=zB (fun W (hb:Below W4.heap.size W4 W)=>owntable_any has bs cols A c C cc W ((hta.bs.below hbx).below hb) ((hta.cols.below hbx).below hb) hfx)
   have hO4:=hO.below hbx
   have HBR:=zB hO4.bx
   have HBT:=zB hX4
   have HLW:=zB hO4.bel
   obtain ⟨X,hX⟩:∃ X,X=zL (tO l M k):=⟨_,rfl⟩
   have HOV:Hid (W4.ownsRow w.heap.size 92 3 vt k X):=zB (by rw [hX];exact hO4.ov)
   have HO4:=zB hO4
   have HXK:=zB hX
   have HTK:=zB ht
   have h0:=O5.start W4 b3 0 w.heap.size 92 3 k vt X (fun (a:(Option Addr×Nat)×(Option Addr×Nat))=>[.int .i64 has,.slice a.1.1 bs.length a.1.2,.slice a.2.1 cols.length a.2.2]) (fun a W=>TO w.heap.size a.1 a.2 bs cols W) (((none,0),(none,0)),0,undef)
   subst hTe
   clear hO hO4 hta hfx hbx hX4 hX ht
   go_upto_region 5 with fail
   rw [zA HW4,←hbt]
   clear d0 d1 d2 HW4 hbt
   refine zc (fun (γ:((Option Addr×Nat)×(Option Addr×Nat))×Nat×Value) ix v=>if ix=3 then v=.agg #[.int .i64 has,.slice γ.1.1.1 bs.length γ.1.1.2,.slice γ.1.2.1 cols.length γ.1.2.2] else if ix=4 then v=.slice (some ⟨γ.2.1,0,none⟩) 1 1 else if ix=5 then v=γ.2.2 else (([fun v=>v=.pointer (some ⟨b3,0,none⟩),fun v=>v=vt,fun v=>v=.agg #[.int .i64 has,.slice A bs.length c,.slice C cols.length cc],fun _=>True,fun _=>True,fun _=>True,fun v=>v=.pointer (some ⟨b3,0,none⟩),fun _=>True]:List (Value→Prop)).getD ix (fun _=>True)) v) (fun (γ:((Option Addr×Nat)×(Option Addr×Nat))×Nat×Value) L W=>O5 W4 b3 0 w.heap.size 92 3 k vt X (fun (a:(Option Addr×Nat)×(Option Addr×Nat))=>[.int .i64 has,.slice a.1.1 bs.length a.1.2,.slice a.2.1 cols.length a.2.2]) (fun a W=>TO w.heap.size a.1 a.2 bs cols W) γ L W) ((((none,0),(none,0)),0,undef)) (by kernel_rfl) (by kernel_rfl) (by kernel_rfl) h0 ?hstep ?hend
   case hstep =>
    intro γ ix o ho L ac w1 hD hL hed hcl hout hv
    match ix,ho with
    | 0,ho =>
     simp at ho
     subst ho
     have e3:ac.tmps.getD 3 undef=.pointer (some ⟨b3,0,none⟩):=hout 3 (by decide +kernel)
     exact .inl ⟨rfl,zC γ (.pointer (some ⟨b3,0,none⟩)) (by simp [go_sem,Act.eval,-Array.getD_eq_getD_getElem?,e3]) rfl (hD.same (by decide)) (fun _ _ _ _ h=>h)⟩
    | 1,ho =>
     simp at ho
     subst ho
     have e17:ac.tmps.getD 17 undef=.pointer (some ⟨b3,0,none⟩):=hv 0 17 rfl (by kernel_rfl)
     have q5:L 5=false:=by
      cases h:L 5
      ·rfl
      ·exact absurd (hcl 5 _ rfl h 1 (by kernel_rfl)) (by rw [hL];decide)
     have q7:L 7=false:=by
      cases h:L 7
      ·rfl
      ·exact absurd (hcl 7 _ rfl h 5 (by kernel_rfl)) (by rw [q5];decide)
     have bb:=(zA HBR).below (hD.bel q5)
     have c0:=bb.cell 0 rfl 0 rfl
     rw [Nat.add_zero] at c0
     exact .inl ⟨rfl,zC γ (vt) (by simp [go_sem,Act.eval,-Array.getD_eq_getD_getElem?,e17,c0]) rfl (hD.same (by decide)) (fun _ _ _ _ h=>h)⟩
    | 2,ho =>
     simp at ho
     subst ho
     have e5:ac.tmps.getD 5 undef=.pointer (some ⟨bt,0,none⟩):=hout 5 (by decide +kernel)
     have q3:L 3=false:=by
      cases h:L 3
      ·rfl
      ·exact absurd (hcl 3 _ rfl h 2 (by kernel_rfl)) (by rw [hL];decide)
     have q4:L 4=false:=by
      cases h:L 4
      ·rfl
      ·exact absurd (hcl 4 _ rfl h 3 (by kernel_rfl)) (by rw [q3];decide)
     have q5:L 5=false:=by
      cases h:L 5
      ·rfl
      ·exact absurd (hcl 5 _ rfl h 4 (by kernel_rfl)) (by rw [q4];decide)
     have q7:L 7=false:=by
      cases h:L 7
      ·rfl
      ·exact absurd (hcl 7 _ rfl h 5 (by kernel_rfl)) (by rw [q5];decide)
     have bb:=(zA HBT).below (hD.bel q5)
     have c0:=bb.cell 0 rfl 0 rfl
     have c1:=bb.cell 0 rfl 1 rfl
     have c2:=bb.cell 0 rfl 2 rfl
     rw [Nat.add_zero] at c0 c1 c2
     exact .inl ⟨rfl,zC γ (.agg #[.int .i64 has,.slice A bs.length c,.slice C cols.length cc]) (by simp [go_sem,Act.eval,-Array.getD_eq_getD_getElem?,e5,c0,c1,c2]) rfl (hD.same (by decide)) (fun _ _ _ _ h=>h)⟩
    | 3,ho =>
     simp at ho
     subst ho
     have e19:ac.tmps.getD 19 undef=.agg #[.int .i64 has,.slice A bs.length c,.slice C cols.length cc]:=hv 2 19 rfl (by kernel_rfl)
     have q4:L 4=false:=by
      cases h:L 4
      ·rfl
      ·exact absurd (hcl 4 _ rfl h 3 (by kernel_rfl)) (by rw [hL];decide)
     have q5:L 5=false:=by
      cases h:L 5
      ·rfl
      ·exact absurd (hcl 5 _ rfl h 4 (by kernel_rfl)) (by rw [q4];decide)
     have q7:L 7=false:=by
      cases h:L 7
      ·rfl
      ·exact absurd (hcl 7 _ rfl h 5 (by kernel_rfl)) (by rw [q5];decide)
     refine .inl ⟨rfl,zj 95 #[.agg #[.int .i64 has,.slice A bs.length c,.slice C cols.length cc]] (by simp [go_sem,Act.eval,-Array.getD_eq_getD_getElem?,e19]) ?_⟩
     refine (zA HOT1 w1 (hD.bel q5)).mono ?_
     rintro e w6 ⟨A6,C6,rfl,ho6,hb6⟩
     exact ⟨_,((A6,C6),γ.2),rfl,rfl,hD.call q4 q5 q7 hb6 (ho6.le (Nat.le_trans (zA HLW).size (hD.bel q5).size)),fun j u hj hLj h=>by simpa [hj] using h⟩
    | 4,ho =>
     simp at ho
     subst ho
     have e20:ac.tmps.getD 20 undef=.agg #[.int .i64 has,.slice γ.1.1.1 bs.length γ.1.1.2,.slice γ.1.2.1 cols.length γ.1.2.2]:=hv 3 20 rfl (by kernel_rfl)
     have q5:L 5=false:=by
      cases h:L 5
      ·rfl
      ·exact absurd (hcl 5 _ rfl h 4 (by kernel_rfl)) (by rw [hL];decide)
     have q7:L 7=false:=by
      cases h:L 7
      ·rfl
      ·exact absurd (hcl 7 _ rfl h 5 (by kernel_rfl)) (by rw [q5];decide)
     have t3:L 3=true:=hed 3 (by kernel_rfl)
     exact .inl ⟨rfl,zAw (γ.1,w1.heap.size,γ.2.2) (.slice (some ⟨w1.heap.size,0,none⟩) 1 1) (w2:=w1.alloc (.cells #[.int .i64 has,.slice γ.1.1.1 bs.length γ.1.1.2,.slice γ.1.2.1 cols.length γ.1.2.2] 92)) (by simp [go_sem,Act.eval,-Array.getD_eq_getD_getElem?,e20]) rfl (hD.mk4 t3 q5 q7 (fun W1 hb h=>h.ty (TyK.below hb))) (fun j u hj hLj h=>by simpa [hj] using h)⟩
    | 5,ho =>
     simp at ho
     subst ho
     have e18:ac.tmps.getD 18 undef=vt:=hv 1 18 rfl (by kernel_rfl)
     have e21:ac.tmps.getD 21 undef=.slice (some ⟨γ.2.1,0,none⟩) 1 1:=hv 4 21 rfl (by kernel_rfl)
     have q7:L 7=false:=by
      cases h:L 7
      ·rfl
      ·exact absurd (hcl 7 _ rfl h 5 (by kernel_rfl)) (by rw [hL];decide)
     have t4:L 4=true:=hed 4 (by kernel_rfl)
     have t3:L 3=true:=hcl 4 _ rfl t4 3 (by kernel_rfl)
     have hW:=hD.bel hL
     obtain ⟨v',w',hr,ho,hg,hm⟩:=zCB w.heap.size 69 92 i92 _ 3 56 Try.underlying69 (zA H92).1 (zA H92).2.1 (zA H92).2.2.1 (zA H92).2.2.2 rfl (by decide) w1 vt k X (zZ (zA HOV) hW) (some ⟨γ.2.1,0,none⟩) 1 1 [.int .i64 has,.slice γ.1.1.1 bs.length γ.1.1.2,.slice γ.1.2.1 cols.length γ.1.2.2] (three_copies (hD.bx t4 hL)) (by unfold maxLen;omega) (by omega) (Nat.le_trans (zA HLW).size hW.size) (by simp)
     exact .inl ⟨rfl,zAs (γ.1,γ.2.1,v') (.tmp 18) (.tmp 21) 69 rfl vt (.slice (some ⟨γ.2.1,0,none⟩) 1 1) v' (by simp [Act.eval,-Array.getD_eq_getD_getElem?,e18]) (by simp [Act.eval,-Array.getD_eq_getD_getElem?,e21]) (hr _) rfl (hD.put5 t3 hL q7 hg ho) (fun j u hj hLj h=>by simpa [hj] using h)⟩
    | 6,ho =>
     simp at ho
     subst ho
     have e3:ac.tmps.getD 3 undef=.pointer (some ⟨b3,0,none⟩):=hout 3 (by decide +kernel)
     exact .inl ⟨rfl,zC γ (.pointer (some ⟨b3,0,none⟩)) (by simp [go_sem,Act.eval,-Array.getD_eq_getD_getElem?,e3]) rfl (hD.same (by decide)) (fun _ _ _ _ h=>h)⟩
    | 7,ho =>
     simp at ho
     subst ho
     have e23:ac.tmps.getD 23 undef=.pointer (some ⟨b3,0,none⟩):=hv 6 23 rfl (by kernel_rfl)
     have e22:ac.tmps.getD 22 undef=γ.2.2:=hv 5 22 rfl (by kernel_rfl)
     have t5:L 5=true:=hed 5 (by kernel_rfl)
     obtain ⟨W8,hb8,_,hg8,ho8⟩:=hD.app t5 hL
     obtain ⟨gv,cv,hgv,_,_⟩:=zAG ho8 (by omega)
     have hx8:=zAP ((zA HBR).below hb8) hg8 (zx (zZ (zA HOV) hb8) ⟨_,((zA HBR).below hb8) 0 _ _ rfl⟩ (by decide))
     exact .inl ⟨rfl,zCN γ 69 (.tmp 23) (.tmp 22) rfl b3 0 γ.2.2 (by simp [Act.eval,-Array.getD_eq_getD_getElem?,e23]) (by simp [Act.eval,-Array.getD_eq_getD_getElem?,e22]) (by rw [hgv];rfl) size69 (box_there hx8 (by simp)) trivial (hD.put7 t5 hL) (fun _ _ _ _ h=>h)⟩
    | ix+8,ho=>simp at ho
   case hend =>
    intro γ vv L w10 hD hall hv
    obtain ⟨W1',W2',hb',hF',hg',ho',hw'⟩:=hD.fin (hall 7 (by decide))
    have hn:=(zA HO4).next h3 hb' (a:=γ.1) (by rw [←zA HTK];exact hF') hg' (by rw [←zA HXK,←zA HTK];exact ho')
    rw [←hw'] at hn
    have HN:=zB hn
    clear hv hall hD h0 hn hb' hF' hg' ho' hw'
    simp only [zt,List.getElem?_cons_zero,List.getElem?_cons_succ,Option.bind_some,List.length_cons,List.length_nil,Nat.reduceAdd]
    go_frame
    go_wp2
    go_roundw
    case rel=>exact ⟨k+1,_,_,by omega,by go_num,zA HN⟩
    case measure=>simp [intOf];omega
  ·obtain rfl:k=l.length:=by omega
   obtain ⟨Av,cv,rfl⟩:=zAK hO.ov
   have x0:=hO.bx.cell 0 rfl 0 rfl
   have x1:=hO.bx.cell 0 rfl 1 rfl
   rw [Nat.add_zero] at x0 x1
   have dk:decide ((l.length:Int)<(l.length:Int))=false:=decide_eq_false (by omega)
   have hty:TyK [71] wr (wr.setCells (w.heap.size+1) 0 [.slice Av l.length cv,.slice Ag gens.length cg]):=TyK.sets (hO.ab 1 _ _ rfl) (by decide)
   have HTO:=zB (hO.at hty)
   have HGO:=zB (zCo (zBk hO.og hty (by decide)))
   have HG9:=zB (hO.ab.give 1 rfl [.slice Av l.length cv,.slice Ag gens.length cg] rfl)
   have HTH:=zB (hO.ab.there 1 rfl 2 rfl)
   have HB9:=zB (zM (w.heap.size+1) (by omega) [.slice Av l.length cv,.slice Ag gens.length cg] 0 wr hO.bel)
   clear hO hty
   go_wp2_with ((refine zG rfl 71 (.tmp 2) _ rfl (w.heap.size+1) 0 [.slice Av l.length cv,.slice Ag gens.length cg] rfl rfl (by simp [Value.oneCell']) size71 (zA HTH) ?_;intro W9 hW9;have HT9:=zB (zA HTO);have HO9:=zB (zA HGO);have HGG:=zB (zA HG9);have HBB:=zB (zA HB9);rw [←hW9] at HT9 HGG HBB HO9;clear hW9))
   have g0:=(zA HGG).cell 1 rfl 0 rfl
   have g1:=(zA HGG).cell 1 rfl 1 rfl
   refine bodyPost_ret (v:=.agg #[.slice Av l.length cv,.slice Ag gens.length cg]) (by simp [results,Try.results57,go_sem,g0,g1]) rfl ⟨Av,cv,Ag,cg,rfl,zA HT9,zA HO9,zA HBB⟩
end Go.Proofs.Ytnbleebilmghcaa
