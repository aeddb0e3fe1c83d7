/- Systems in another order: of those that don't clash it is no matter which runs first. -/
import Derived.Test.YtnbleebilmghcacGreatTRnOrd
import Derived.Test.YtnbleebilmghcacGreatJT
set_option linter.all false
namespace Go.Proofs.YtnbleebilmghcacGreat
open Go Go.RowKit
section
variable {σ:Type} {f:Nat→σ→σ} {P:σ→Prop} {cl:Nat→Nat→Bool} {ok:Nat→Prop}
theorem fold_move (hP:∀ i s,ok i→P s→P (f i s)) (hc:∀ i j s,ok i→ok j→P s→cl i j=false→f i (f j s)=f j (f i s)) {x:Nat} (hx:ok x) (r:List Nat) :
  ∀ (l:List Nat) (s:σ),P s→(∀ y∈l,ok y∧cl x y=false)→(l++x :: r).foldl (fun s i=>f i s) s=(l++r).foldl (fun s i=>f i s) (f x s)
 | [],s,_,_=>rfl
 | y :: l,s,hs,h=>by
  obtain ⟨oy,hy⟩:=h y (by simp)
  show (l++x :: r).foldl (fun s i=>f i s) (f y s)=(l++r).foldl (fun s i=>f i s) (f y (f x s))
  rw [fold_move hP hc hx r l (f y s) (hP y s oy hs) (fun z hz=>h z (by simp [hz])),hc x y s hx oy hs hy]
theorem fold_trace (hP:∀ i s,ok i→P s→P (f i s)) (hc:∀ i j s,ok i→ok j→P s→cl i j=false→f i (f j s)=f j (f i s)) :
  ∀ (q p:List Nat) (s:σ),P s→p.Perm q→(∀ i∈p,ok i)→p.Pairwise (·<·)→q.Pairwise (fun a b=>cl a b=true→a<b)→p.foldl (fun s i=>f i s) s=q.foldl (fun s i=>f i s) s
 | [],p,s,_,hpq,_,_,_=>by rw [List.perm_nil.1 hpq]
 | x :: t,p,s,hs,hpq,ho,hp,hq=>by
  have hx:x∈p:=hpq.symm.mem_iff.1 (by simp)
  obtain ⟨l,r,rfl⟩:=List.append_of_mem hx
  have hpt:(l++r).Perm t:=(List.perm_middle.symm.trans hpq).cons_inv
  rw [List.pairwise_append] at hp
  obtain ⟨hl,hr,hlr⟩:=hp
  rw [List.pairwise_cons] at hr hq
  have hcl:∀ y∈l,ok y∧cl x y=false:=fun y hy=>by
   refine ⟨ho y (by simp [hy]),?_⟩
   cases e:cl x y
   ·rfl
   ·have h1:=hq.1 y (hpt.mem_iff.1 (by simp [hy])) e
    have h2:=hlr y hy x (by simp)
    omega
  rw [fold_move hP hc (ho x (by simp)) r l s hs hcl]
  refine fold_trace hP hc t (l++r) (f x s) (hP x s (ho x (by simp)) hs) hpt (fun i hi=>ho i ?_) ?_ hq.2
  ·rcases List.mem_append.1 hi with h | h <;> simp [h]
  ·exact List.pairwise_append.2 ⟨hl,hr.2,fun a ha b hb=>hlr a ha b (by simp [hb])⟩
end
def stp (S:Nat→SysI) (i:Nat) (s:Int×Wd):Int×Wd:=if s.1≠0 then s else runS s.2 (S i)
theorem stp_err (S:Nat→SysI):∀ (l:List Nat) (s:Int×Wd),s.1≠0→l.foldl (fun s i=>stp S i s) s=s
 | [],s,_=>rfl
 | i :: l,s,h=>by
  have e:stp S i s=s:=if_pos h
  show l.foldl (fun s i=>stp S i s) (stp S i s)=s
  rw [e,stp_err S l s h]
theorem allTo_fold (S:Nat→SysI):∀ n j X,((zAC S n j X).1.1,(zAC S n j X).2)=(List.range' j n).foldl (fun s i=>stp S i s) (0,X)
 | 0,_,X=>rfl
 | n+1,j,X=>by
  have e:stp S j (0,X)=runS X (S j):=if_neg (by simp)
  show _=(List.range' (j+1) n).foldl (fun s i=>stp S i s) (stp S j (0,X))
  rw [e,zAC]
  by_cases h:(runS X (S j)).1=0
  ·rw [if_neg (by simpa using h),allTo_fold S n (j+1),←h]
  ·rw [if_pos h,stp_err S _ _ h]
   have:=run_no (X:=X) (m:=(S j).m) (al:=(S j).al) (no:=(S j).no) (a:=(S j).a) (len:=(S j).len) h
   have h2:(runS X (S j)).2=emptyW:=this
   exact Prod.ext rfl h2.symm
theorem foldl_map_range (S:Nat→SysI) (q:List Nat) (s:Int×Wd):(List.range' 0 q.length).foldl (fun s i=>stp (fun k=>S (q.getD k 0)) i s) s=q.foldl (fun s i=>stp S i s) s:=by
 have e:q=(List.range' 0 q.length).map (fun k=>q.getD k 0):=by
  refine List.ext_getElem (by simp) fun k h1 h2=>?_
  simp [List.getD_eq_getElem?_getD,List.getElem?_eq_getElem h1]
 conv=>rhs;rw [e,List.foldl_map]
 rfl
theorem stp_comm {S:Nat→SysI} {i j:Nat} {s:Int×Wd} (hi:(sw (S i)).1=0) (hj:(sw (S j)).1=0) (hs:s.1=0→RightW s.2) (hc:clS S i j=false):stp S i (stp S j s)=stp S j (stp S i s):=by
 by_cases h:s.1=0
 ·obtain ⟨Z,h1,h2,_⟩:=order (hs h) (s:=S i) (t:=S j) hi hj hc
  have key:∀ (a b:SysI) (Z:Wd),zAC (fun j=>if j=0 then a else b) 2 0 s.2=((0,0),Z)→(runS s.2 a).1=0∧runS (runS s.2 a).2 b=(0,Z):=by
   intro a b Z h
   unfold zAC zAC zAC at h
   simp only [if_true,Nat.zero_add,Nat.succ_ne_zero,if_false,Nat.one_ne_zero] at h
   by_cases e1:(runS s.2 a).1=0
   ·rw [if_neg (by simpa using e1)] at h
    by_cases e2:(runS (runS s.2 a).2 b).1=0
    ·rw [if_neg (by simpa using e2)] at h
     refine ⟨e1,Prod.ext e2 ?_⟩
     injection h
    ·rw [if_pos e2] at h
     injection h with h h'
     injection h with h h''
     exact absurd h e2
   ·rw [if_pos e1] at h
    injection h with h h'
    injection h with h h''
    exact absurd h e1
  obtain ⟨a1,a2⟩:=key _ _ _ h1
  obtain ⟨b1,b2⟩:=key _ _ _ h2
  have e1:stp S j s=runS s.2 (S j):=if_neg (by simpa using h)
  have e2:stp S i s=runS s.2 (S i):=if_neg (by simpa using h)
  have e3:stp S i (runS s.2 (S j))=runS (runS s.2 (S j)).2 (S i):=if_neg (by simpa using b1)
  have e4:stp S j (runS s.2 (S i))=runS (runS s.2 (S i)).2 (S j):=if_neg (by simpa using a1)
  rw [e1,e2,e3,e4,a2,b2]
 ·have e:∀ k,stp S k s=s:=fun k=>if_pos h
  rw [e,e,e]
theorem stp_right {S:Nat→SysI} {i:Nat} {s:Int×Wd} (hs:s.1=0→RightW s.2):(stp S i s).1=0→RightW (stp S i s).2:=by
 unfold stp
 split
 ·exact hs
 ·rename_i h
  exact fun e=>run_right (m:=(S i).m) (al:=(S i).al) (no:=(S i).no) (a:=(S i).a) (len:=(S i).len) (hs (by simpa using h)) e
theorem clS_comm (S:Nat→SysI) (i j:Nat):clS S i j=clS S j i:=cs_comm _ _
theorem all_any_order {S:Nat→SysI} {n:Nat} {X:Wd} (hr:RightW X) (hS:∀ i,i<n→(sw (S i)).1=0) (q:List Nat) (hq:(List.range' 0 n).Perm q) (hp:q.Pairwise (fun a b=>clS S a b=true→a<b)) :
  (zAC (fun k=>S (q.getD k 0)) n 0 X).1.1=(zAC S n 0 X).1.1∧(zAC (fun k=>S (q.getD k 0)) n 0 X).2=(zAC S n 0 X).2:=by
 have e:=fold_trace (f:=stp S) (P:=fun s=>s.1=0→RightW s.2) (cl:=clS S) (ok:=fun i=>i<n) (fun i s _ hs=>stp_right hs) (fun i j s hi hj hs hc=>stp_comm (hS i hi) (hS j hj) hs hc) q (List.range' 0 n) (0,X) (fun _=>hr) hq (fun i hi=>by simpa using hi) (List.pairwise_lt_range' (s:=0) (n:=n) (step:=1)) hp
 rw [←allTo_fold] at e
 have hl:q.length=n:=by rw [←hq.length_eq];simp
 have e2:=foldl_map_range S q (0,X)
 rw [hl,←allTo_fold] at e2
 rw [←e2] at e
 injection e with h1 h2
 exact ⟨h1.symm,h2.symm⟩
def flatR (t:Bool) (bs:List (List Nat)):List Nat:=(bs.map fun l=>if t then l.reverse else l).flatten
theorem mkB_mem {cl:Nat→Nat→Bool} {n k:Nat} (hk:k<(mkB cl n).length) {i:Nat} (h:i∈(mkB cl n)[k]):i<n∧lev cl i=k:=by
 refine (mem_lev cl n k i hk).1 ?_
 rw [List.getD_eq_getElem?_getD,List.getElem?_eq_getElem hk]
 exact h
theorem lev_order {cl:Nat→Nat→Bool} (hcc:∀ a b,cl a b=cl b a) {a b:Nat} (h:lev cl a≤lev cl b) (hne:a≠b) (hc:cl a b=true):a<b:=by
 by_cases e:b<a
 ·have:=lev_lt cl a b e (by rw [hcc];exact hc)
  omega
 ·omega
theorem flatR_perm (t:Bool) (bs:List (List Nat)):(flatR t bs).Perm bs.flatten:=by
 induction bs with
 | nil=>exact List.Perm.refl _
 | cons l bs ih =>
  have e:flatR t (l :: bs)=(if t then l.reverse else l)++flatR t bs:=by simp [flatR]
  rw [e,List.flatten_cons]
  refine List.Perm.append ?_ ih
  cases t
  ·exact List.Perm.refl _
  ·exact List.reverse_perm l
theorem flat_pair (t:Bool) {cl:Nat→Nat→Bool} (hcc:∀ a b,cl a b=cl b a) (n:Nat):(flatR t (mkB cl n)).Pairwise (fun a b=>cl a b=true→a<b):=by
 have hnd:(mkB cl n).flatten.Nodup:=(mkB_perm cl n).nodup_iff.2 (List.nodup_range)
 have hnd2:(flatR t (mkB cl n)).Nodup:=(flatR_perm t _).nodup_iff.2 hnd
 have key:(flatR t (mkB cl n)).Pairwise (fun a b=>lev cl a≤lev cl b):=by
  unfold flatR
  rw [List.pairwise_flatten]
  constructor
  ·intro l hl
   rw [List.mem_map] at hl
   obtain ⟨l0,hl0,rfl⟩:=hl
   obtain ⟨k,hk,rfl⟩:=List.mem_iff_getElem.1 hl0
   refine List.pairwise_of_forall_mem_list fun a ha b hb=>?_
   have hm:∀ i,i∈(if t=true then (mkB cl n)[k].reverse else (mkB cl n)[k])→i∈(mkB cl n)[k]:=fun i hi=>by cases t <;> simpa using hi
   have h1:=(mkB_mem hk (hm a ha)).2
   have h2:=(mkB_mem hk (hm b hb)).2
   omega
  ·rw [List.pairwise_map,List.pairwise_iff_getElem]
   intro i j hi hj hij a ha b hb
   have hm:∀ (k:Nat) (hk:k<(mkB cl n).length) i,i∈(if t=true then (mkB cl n)[k].reverse else (mkB cl n)[k])→i∈(mkB cl n)[k]:=fun k hk i hi=>by cases t <;> simpa using hi
   have h1:=(mkB_mem hi (hm i hi a ha)).2
   have h2:=(mkB_mem hj (hm j hj b hb)).2
   omega
 exact (key.and hnd2).imp fun ⟨h1,h2⟩=>lev_order hcc h1 h2
theorem batch_order {S:Nat→SysI} {n:Nat} {X:Wd} (hr:RightW X) (hS:∀ i,i<n→(sw (S i)).1=0) (t:Bool) :
  (zAC (fun k=>S ((flatR t (mkB (clS S) n)).getD k 0)) n 0 X).1.1=(zAC S n 0 X).1.1∧(zAC (fun k=>S ((flatR t (mkB (clS S) n)).getD k 0)) n 0 X).2=(zAC S n 0 X).2 :=
 all_any_order hr hS _ (by rw [←List.range_eq_range'];exact ((flatR_perm t _).trans (mkB_perm _ n)).symm) (flat_pair t (clS_comm S) n)
end Go.Proofs.YtnbleebilmghcacGreat
