/- PMath, PMath2, PAlive -/
import Derived.Test.YtnbleebilmghcacGreatJF
set_option linter.all false
namespace Go.Proofs.YtnbleebilmghcacGreat
open Go Go.RowKit
theorem isB_iff (x:RowI) (i g:Int):isB x i g=true↔x.ix=i∧x.gen=g:=by unfold isB;simp
theorem zBP (X:Wd) (i g:Int):zAY X i g=-1∨∃ k:Nat,k<X.rows.length∧zAY X i g=(k:Int)∧(zM X k).ix=i∧(zM X k).gen=g:=by
 rcases fIx_spec (fun j=>X.rows.getD j dR) i g X.rows.length 0 with h | ⟨k,_,h1,h2,h3⟩
 ·exact .inl h
 ·exact .inr ⟨k,by omega,h2,(isB_iff _ _ _).1 h3⟩
theorem fIx_no (R:Nat→RowI) (i g:Int):∀ n j,fIx R i g n j=-1→∀ t,j≤t→t<j+n→isB (R t) i g=false
 | 0,j,_,t,h1,h2=>by omega
 | n+1,j,h,t,h1,h2=>by
  unfold fIx at h
  split at h
  ·omega
  ·rename_i hc
   by_cases e:t=j
   ·subst e;simpa using hc
   ·exact fIx_no R i g n (j+1) h t (by omega) (by omega)
theorem find_no {X:Wd} {i g:Int} (h:zAY X i g=-1) {j:Nat} (hj:j<X.rows.length):¬ ((zM X j).ix=i∧(zM X j).gen=g):=by
 intro e
 have:=fIx_no _ i g X.rows.length 0 h j (Nat.zero_le _) (by omega)
 have h2:isB (X.rows.getD j dR) i g=true:=(isB_iff _ _ _).2 e
 rw [h2] at this;cases this
theorem find_none {X:Wd} {i g:Int} (h:∀ j,j<X.rows.length→¬ ((zM X j).ix=i∧(zM X j).gen=g)):zAY X i g=-1:=by
 rcases zBP X i g with h1 | ⟨k,h1,_,h3⟩
 ·exact h1
 ·exact absurd h3 (h k h1)
theorem find_at {X:Wd} (hr:RightW X) {j:Nat} (hj:j<X.rows.length):zAY X (zM X j).ix (zM X j).gen=(j:Int):=by
 rcases zBP X (zM X j).ix (zM X j).gen with h1 | ⟨k,h1,h2,h3,h4⟩
 ·exact absurd ⟨rfl,rfl⟩ (find_no h1 hj)
 ·rw [h2,hr.one h1 hj h3]
theorem zBD (X:Wd) (k:Nat) (r:RowI) (G:List Int) (j:Nat) (hj:j<X.rows.length):zM ⟨X.rows.set k r,G⟩ j=if j=k then r else zM X j:=getD_setR X.rows k j r hj
theorem right_set {X:Wd} (h:RightW X) {k:Nat} (hk:k<X.rows.length) {r:RowI} (h1:r.ix=(zM X k).ix) (h2:r.gen=(zM X k).gen) (h3:rvB r=true):RightW ⟨X.rows.set k r,X.gens⟩:=by
 have e:=fun j (hj:j<X.rows.length)=>zBD X k r X.gens j hj
 have ei:∀ j,j<X.rows.length→(zM ⟨X.rows.set k r,X.gens⟩ j).ix=(zM X j).ix:=fun j hj=>by
  rw [e j hj];split
  ·rename_i h;rw [h,h1]
  ·rfl
 have eg:∀ j,j<X.rows.length→(zM ⟨X.rows.set k r,X.gens⟩ j).gen=(zM X j).gen:=fun j hj=>by
  rw [e j hj];split
  ·rename_i h;rw [h,h2]
  ·rfl
 have hl:(X.rows.set k r).length=X.rows.length:=List.length_set
 refine ⟨h.gl,h.gv,fun j hj=>?_,fun j hj=>?_,fun j hj=>?_,fun j hj=>?_,fun j hj=>?_⟩ <;> simp only [hl] at hj
 ·rw [e j hj];split
  ·exact h3
  ·exact h.rv j hj
 ·rw [ei j hj];exact h.i0 j hj
 ·rw [ei j hj];exact h.il j hj
 ·rw [ei j (by omega),ei (j+1) hj];exact h.up j hj
 ·rw [ei j hj,eg j hj];exact h.ge j hj
theorem zCT (X:Wd) (k:Nat) (G:List Int) (j:Nat):zM ⟨X.rows.eraseIdx k,G⟩ j=if j<k then zM X j else zM X (j+1):=by
 unfold zM
 simp only [List.getD_eq_getElem?_getD,List.getElem?_eraseIdx]
 split <;> rfl
theorem right_erase {X:Wd} (h:RightW X) {k:Nat} (hk:k<X.rows.length):RightW ⟨X.rows.eraseIdx k,X.gens⟩:=by
 have e:=zCT X k X.gens
 have hl:(X.rows.eraseIdx k).length+1=X.rows.length:=by rw [List.length_eraseIdx,if_pos hk];omega
 have key:∀ j,j<(X.rows.eraseIdx k).length→∃ t,t<X.rows.length∧zM ⟨X.rows.eraseIdx k,X.gens⟩ j=zM X t:=fun j hj=>by
  rw [e j]
  split
  ·exact ⟨j,by omega,rfl⟩
  ·exact ⟨j+1,by omega,rfl⟩
 refine ⟨h.gl,h.gv,fun j hj=>?_,fun j hj=>?_,fun j hj=>?_,fun j hj=>?_,fun j hj=>?_⟩
 ·obtain ⟨t,ht,et⟩:=key j hj;rw [et];exact h.rv t ht
 ·obtain ⟨t,ht,et⟩:=key j hj;rw [et];exact h.i0 t ht
 ·obtain ⟨t,ht,et⟩:=key j hj;rw [et];exact h.il t ht
 ·rw [e j,e (j+1)]
  have hj':j+1<(X.rows.eraseIdx k).length:=hj
  split <;> split
  ·exact h.up j (by omega)
  ·exact h.lt' (by omega) (by omega)
  ·omega
  ·exact h.up (j+1) (by omega)
 ·obtain ⟨t,ht,et⟩:=key j hj;rw [et];exact h.ge t ht
theorem rowOf_ins (X:Wd) (k:Nat) (hk:k≤X.rows.length) (r:RowI) (G:List Int) (j:Nat):zM ⟨zCl X.rows k r,G⟩ j=if j<k then zM X j else if j=k then r else zM X (j - 1):=by
 unfold zM zCl
 simp only [List.getD_eq_getElem?_getD]
 have hl:(X.rows.take k).length=k:=by rw [List.length_take];omega
 split
 ·rename_i h
  rw [List.getElem?_append_left (by omega),List.getElem?_take,if_pos h]
 ·rename_i h
  rw [List.getElem?_append_right (by omega),hl]
  split
  ·rename_i h2;subst h2;simp
  ·rename_i h2
   obtain ⟨t,ht⟩:∃ t,j - k=t+1:=⟨j - k - 1,by omega⟩
   rw [ht,List.getElem?_cons_succ,List.getElem?_drop,show k+t=j - 1 by omega]
theorem gtIx_first (R:Nat→RowI) (i:Int):∀ n j,∀ t,j≤t→t<j+n→(gtIx R i n j=-1∨(t:Int)<gtIx R i n j)→(R t).ix≤i
 | 0,j,t,h1,h2,_=>by omega
 | n+1,j,t,h1,h2,h3=>by
  unfold gtIx at h3
  split at h3
  ·rename_i hc
   rcases h3 with h3 | h3 <;> omega
  ·rename_i hc
   by_cases e:t=j
   ·subst e;omega
   ·exact gtIx_first R i n (j+1) t (by omega) (by omega) h3
theorem place_spec {X:Wd} (h:RightW X) (i:Int):zAj X.rows i≤X.rows.length∧(∀ t,t<zAj X.rows i→(zM X t).ix≤i)∧∀ t,zAj X.rows i≤t→t<X.rows.length→i<(zM X t).ix:=by
 refine ⟨zBy _ _,?_⟩
 unfold zAj
 rcases gtIx_spec (fun j=>X.rows.getD j dR) i X.rows.length 0 with e | ⟨k,_,hk,e,hi⟩
 ·rw [if_pos (by omega)]
  exact ⟨fun t ht=>gtIx_first _ i X.rows.length 0 t (Nat.zero_le _) (by omega) (.inl e),fun t h1 h2=>by omega⟩
 ·rw [if_neg (by omega),e,Int.toNat_natCast]
  refine ⟨fun t ht=>gtIx_first (fun j=>X.rows.getD j dR) i X.rows.length 0 t (Nat.zero_le _) (by omega) (.inr (by rw [e];omega)),fun t h1 h2=>?_⟩
  rcases Nat.eq_or_lt_of_le h1 with h3 | h3
  ·subst h3;exact hi
  ·exact Int.lt_trans hi (h.lt' h3 h2)
theorem getD_gensF (gens:List Int) (k:Nat) (g:Int) (hk:k≤gens.length) (j:Nat):(zBp gens (k:Int) g).getD j 0=if j=k then g else gens.getD j 0:=by
 unfold zBp
 simp only [List.getD_eq_getElem?_getD]
 by_cases h:k=gens.length
 ·rw [if_pos (by omega)]
  by_cases h2:j<k
  ·rw [List.getElem?_append_left (by omega),if_neg (by omega)]
  ·rw [List.getElem?_append_right (by omega)]
   split
   ·rename_i h3;rw [h3,h];simp
   ·rename_i h3
    obtain ⟨t,ht⟩:∃ t,j - gens.length=t+1:=⟨j - gens.length - 1,by omega⟩
    rw [ht,List.getElem?_eq_none (l:=gens) (by omega)];simp
 ·rw [if_neg (by omega),Int.toNat_natCast,List.getElem?_set]
  split
  ·rename_i h2;subst h2;simp [show k<gens.length by omega]
  ·rename_i h2;rw [if_neg (Ne.symm h2)]
theorem len_gensF (gens:List Int) (k:Nat) (g:Int) (hk:k≤gens.length):(zBp gens (k:Int) g).length=if k=gens.length then gens.length+1 else gens.length:=by
 unfold zBp
 by_cases h:k=gens.length
 ·rw [if_pos (by omega),if_pos h];simp
 ·rw [if_neg (by omega),if_neg h];simp
theorem right_ins {X:Wd} (h:RightW X) {k:Nat} (hk:k≤X.gens.length) (h60:k<60) (hu:∀ j,j<X.rows.length→(zM X j).ix≠(k:Int)) {r:RowI} (h1:r.ix=(k:Int)) (h3:rvB r=true) (hg:1≤r.gen∧r.gen≤1000) :
  RightW ⟨zCl X.rows (zAj X.rows (k:Int)) r,zBp X.gens (k:Int) r.gen⟩:=by
 obtain ⟨p1,p2,p3⟩:=place_spec h (k:Int)
 generalize zAj X.rows (k:Int)=p at *
 have e:=rowOf_ins X p p1 r (zBp X.gens (k:Int) r.gen)
 have hl:(zCl X.rows p r).length=X.rows.length+1:=zCX _ _ _ p1
 have hgl:=len_gensF X.gens k r.gen hk
 have hgg:=getD_gensF X.gens k r.gen hk
 have key:∀ j,j<X.rows.length+1→zM ⟨zCl X.rows p r,zBp X.gens (k:Int) r.gen⟩ j=r∨∃ t,t<X.rows.length∧zM ⟨zCl X.rows p r,zBp X.gens (k:Int) r.gen⟩ j=zM X t:=fun j hj=>by
  rw [e j]
  split
  ·exact .inr ⟨j,by omega,rfl⟩
  ·split
   ·exact .inl rfl
   ·exact .inr ⟨j - 1,by omega,rfl⟩
 have hle:X.gens.length≤(zBp X.gens (k:Int) r.gen).length∧k<(zBp X.gens (k:Int) r.gen).length∧(zBp X.gens (k:Int) r.gen).length≤60:=by
  have:=h.gl
  rw [hgl];split <;> omega
 have hnn:∀ t,t<X.rows.length→(zM X t).ix.toNat≠k:=fun t ht e=>hu t ht (by have:=h.i0 t ht;omega)
 refine ⟨hle.2.2,fun j hj=>?_,fun j hj=>?_,fun j hj=>?_,fun j hj=>?_,fun j hj=>?_,fun j hj=>?_⟩
 ·show 1≤(zBp X.gens (k:Int) r.gen).getD j 0∧(zBp X.gens (k:Int) r.gen).getD j 0≤1000
  rw [hgg j]
  split
  ·exact hg
  ·exact h.gv j (by
    have hj':j<(zBp X.gens (k:Int) r.gen).length:=hj
    rw [hgl] at hj'
    split at hj' <;> omega)
 ·rcases key j (by rw [←hl];exact hj) with e1 | ⟨t,ht,e1⟩
  ·rw [e1];exact h3
  ·rw [e1];exact h.rv t ht
 ·rcases key j (by rw [←hl];exact hj) with e1 | ⟨t,ht,e1⟩
  ·rw [e1,h1];omega
  ·rw [e1];exact h.i0 t ht
 ·show (zM _ j).ix<((zBp X.gens (k:Int) r.gen).length:Int)
  rcases key j (by rw [←hl];exact hj) with e1 | ⟨t,ht,e1⟩
  ·rw [e1,h1];omega
  ·rw [e1];have:=h.il t ht;omega
 ·have hj':j+1<X.rows.length+1:=by rw [←hl];exact hj
  rw [e j,e (j+1)]
  by_cases a:j+1<p
  ·rw [if_pos (by omega),if_pos a];exact h.up j (by omega)
  ·by_cases b:j+1=p
   ·rw [if_pos (by omega),if_neg a,if_pos b,h1]
    have:=p2 j (by omega)
    have:=hu j (by omega)
    omega
   ·by_cases c:j=p
    ·rw [if_neg (by omega),if_pos c,if_neg a,if_neg b,h1]
     exact p3 _ (by omega) (by omega)
    ·rw [if_neg (by omega),if_neg c,if_neg a,if_neg b]
     exact h.lt' (by omega) (by omega)
 ·show (zM _ j).gen=(zBp X.gens (k:Int) r.gen).getD (zM _ j).ix.toNat 0
  rcases key j (by rw [←hl];exact hj) with e1 | ⟨t,ht,e1⟩
  ·rw [e1,h1,Int.toNat_natCast,hgg k,if_pos rfl]
  ·rw [e1,hgg,if_neg (hnn t ht)];exact h.ge t ht
theorem used_iff (rows:List RowI) (i:Nat):usedB rows rows.length i=false↔∀ j,j<rows.length→(rows.getD j dR).ix≠(i:Int):=by
 unfold usedB
 rw [List.take_length,List.any_eq_false]
 constructor
 ·intro h j hj
  have:=h (rows.getD j dR) (by rw [List.getD_eq_getElem?_getD,List.getElem?_eq_getElem hj];simp)
  simpa using this
 ·intro h x hx
  obtain ⟨j,hj,rfl⟩:=List.getElem_of_mem hx
  have:=h j hj
  rw [List.getD_eq_getElem?_getD,List.getElem?_eq_getElem hj] at this
  simpa using this
theorem nxTo_spec (X:Wd):∀ m j,m+j=X.gens.length→(nxTo X m j).2=0→∃ k:Nat,(nxTo X m j).1.1=(k:Int)∧((k<X.gens.length∧(∀ t,t<X.rows.length→(zM X t).ix≠(k:Int))∧X.gens.getD k 0<1000∧(nxTo X m j).1.2=X.gens.getD k 0+1)∨(k=X.gens.length∧X.gens.length<60∧(nxTo X m j).1.2=1))
 | 0,j,h,h0=>by
  unfold nxTo at h0 ⊢
  split at h0
  ·simp at h0
  ·rename_i hc
   rw [if_neg hc]
   exact ⟨X.gens.length,rfl,.inr ⟨rfl,by omega,rfl⟩⟩
 | m+1,j,h,h0=>by
  unfold nxTo at h0 ⊢
  split at h0
  ·rename_i hc
   rw [if_pos hc]
   exact ⟨j,rfl,.inl ⟨by omega,(used_iff _ _).1 hc.1,hc.2,rfl⟩⟩
  ·rename_i hc
   rw [if_neg hc]
   exact nxTo_spec X m (j+1) (by omega) h0
theorem or_fin:∀ m:Fin 256,∀ p:Fin 8,∀ k:Fin 8,0≤bits .or .i64 (m.val:Int) (zBA (p.val:Int))∧bits .or .i64 (m.val:Int) (zBA (p.val:Int))≤255∧(bits .and .i64 (bits .or .i64 (m.val:Int) (zBA (p.val:Int))) (zBA (k.val:Int)) != 0)=(decide (k=p) || bits .and .i64 (m.val:Int) (zBA (k.val:Int)) != 0):=by decide +kernel
theorem an_fin:∀ m:Fin 256,∀ p:Fin 8,∀ k:Fin 8,0≤bits .andNot .i64 (m.val:Int) (zBA (p.val:Int))∧bits .andNot .i64 (m.val:Int) (zBA (p.val:Int))≤255∧(bits .and .i64 (bits .andNot .i64 (m.val:Int) (zBA (p.val:Int))) (zBA (k.val:Int)) != 0)=(!decide (k=p) && bits .and .i64 (m.val:Int) (zBA (k.val:Int)) != 0):=by decide +kernel
theorem set_bd {h:Int} (hs:zBB h=true):0≤h∧h≤255:=by unfold zBB at hs;simpa using hs
theorem zCS {x:RowI} (h:rvB x=true):(0≤x.has∧x.has≤255)∧∀ k,k<8→valB (x.v k)=true∧(x.v k=0∨hasI x.has (k:Int)=true):=by
 unfold rvB at h
 rw [Bool.and_eq_true] at h
 refine ⟨set_bd h.1,fun k hk=>?_⟩
 have:=List.all_eq_true.1 h.2 k (List.mem_range.2 hk)
 unfold okV at this
 rw [Bool.and_eq_true,Bool.or_eq_true] at this
 exact ⟨this.1,this.2.imp (by simp) id⟩
theorem rv_of {x:RowI} (h1:0≤x.has∧x.has≤255) (h2:∀ k,k<8→valB (x.v k)=true∧(x.v k=0∨hasI x.has (k:Int)=true)):rvB x=true:=by
 unfold rvB okVs
 rw [Bool.and_eq_true]
 refine ⟨by unfold zBB;simpa using h1,List.all_eq_true.2 fun k hk=>?_⟩
 have:=h2 k (List.mem_range.1 hk)
 unfold okV
 rw [Bool.and_eq_true,Bool.or_eq_true]
 exact ⟨this.1,this.2.imp (by simp) id⟩
theorem val0:valB 0=true:=by decide
theorem part_nat {p:Int} (h:zAU p=true):∃ k:Nat,k<8∧p=(k:Int):=by
 unfold zAU at h
 have:=of_decide_eq_true h
 exact ⟨p.toNat,by omega,by omega⟩
theorem or_facts (h:Int) (h0:0≤h∧h≤255) (p:Nat) (hp:p<8):(0≤bits .or .i64 h (zBA (p:Int))∧bits .or .i64 h (zBA (p:Int))≤255)∧∀ k:Nat,k<8→hasI (bits .or .i64 h (zBA (p:Int))) (k:Int)=(decide (k=p) || hasI h (k:Int)):=by
 obtain ⟨m,rfl⟩:=fin_of h h0.1 h0.2
 have f:=fun k:Fin 8=>or_fin m ⟨p,hp⟩ k
 refine ⟨⟨(f ⟨0,by decide⟩).1,(f ⟨0,by decide⟩).2.1⟩,fun k hk=>?_⟩
 have:=(f ⟨k,hk⟩).2.2
 simpa [hasI,Fin.ext_iff] using this
theorem an_facts (h:Int) (h0:0≤h∧h≤255) (p:Nat) (hp:p<8):(0≤bits .andNot .i64 h (zBA (p:Int))∧bits .andNot .i64 h (zBA (p:Int))≤255)∧∀ k:Nat,k<8→hasI (bits .andNot .i64 h (zBA (p:Int))) (k:Int)=(!decide (k=p) && hasI h (k:Int)):=by
 obtain ⟨m,rfl⟩:=fin_of h h0.1 h0.2
 have f:=fun k:Fin 8=>an_fin m ⟨p,hp⟩ k
 refine ⟨⟨(f ⟨0,by decide⟩).1,(f ⟨0,by decide⟩).2.1⟩,fun k hk=>?_⟩
 have:=(f ⟨k,hk⟩).2.2
 simpa [hasI,Fin.ext_iff] using this
theorem rv_put {x:RowI} (h:rvB x=true) {p n:Int} (hp:zAU p=true) (hn:valB n=true):rvB (putR x p n)=true:=by
 obtain ⟨q,hq,rfl⟩:=part_nat hp
 obtain ⟨h1,h2⟩:=zCS h
 obtain ⟨f1,f2⟩:=or_facts x.has h1 q hq
 refine rv_of f1 fun k hk=>?_
 show valB (if k=((q:Nat):Int).toNat then n else x.v k)=true∧((if k=((q:Nat):Int).toNat then n else x.v k)=0∨hasI (bits .or .i64 x.has (zBA (q:Int))) (k:Int)=true)
 rw [f2 k hk,Int.toNat_natCast]
 by_cases e:k=q
 ·simp [e,hn]
 ·simpa [e] using h2 k hk
theorem rv_drop {x:RowI} (h:rvB x=true) {p:Int} (hp:hasI x.has p=true):rvB (dropR x p)=true:=by
 obtain ⟨q,hq,rfl⟩:=has_part _ _ hp
 obtain ⟨h1,h2⟩:=zCS h
 obtain ⟨f1,f2⟩:=an_facts x.has h1 q hq
 refine rv_of f1 fun k hk=>?_
 show valB (if k=((q:Nat):Int).toNat then 0 else x.v k)=true∧((if k=((q:Nat):Int).toNat then 0 else x.v k)=0∨hasI (bits .andNot .i64 x.has (zBA (q:Int))) (k:Int)=true)
 rw [f2 k hk,Int.toNat_natCast]
 by_cases e:k=q
 ·simp [e,val0]
 ·simpa [e] using h2 k hk
theorem rv_new (i g:Int) {has n:Int} (hs:zBB has=true) (hn:valB n=true):rvB (newR i g has n)=true:=by
 have hb:=set_bd hs
 refine rv_of hb fun k hk=>?_
 show valB (if k<8∧tb has k=true then n else 0)=true∧((if k<8∧tb has k=true then n else 0)=0∨hasI has (k:Int)=true)
 have e:hasI has (k:Int)=tb has k:=has_tb has k hb.1 hb.2 hk
 rw [e]
 cases h:tb has k <;> simp [hk,hn,val0]
end Go.Proofs.YtnbleebilmghcacGreat
namespace Go.Proofs.YtnbleebilmghcacGreat
open Go Go.RowKit
theorem chF_zero {X:Wd} {i g:Int} {C:RowI→RowI×Bool×Int} (h:(chF X i g C).1=0) :
  RightW X∧∃ k:Nat,k<X.rows.length∧zAY X i g=(k:Int)∧(zM X k).ix=i∧(zM X k).gen=g∧(C (zM X k)).2.2=0∧(chF X i g C).2=⟨X.rows.set k (C (zM X k)).1,X.gens⟩:=by
 unfold chF at h ⊢
 by_cases c1:(zw X).1≠0
 ·rw [if_pos c1] at h;exact absurd h c1
 ·rw [if_neg c1] at h ⊢
  have c1':(zw X).1=0:=Decidable.not_not.1 c1
  refine ⟨(zr X).1 c1',?_⟩
  rcases zBP X i g with hf | ⟨k,hk,hf,h1,h2⟩
  ·rw [if_pos (by omega)] at h;cases h
  ·rw [if_neg (by omega),hf,Int.toNat_natCast] at h ⊢
   have er:X.rows.getD k dR=zM X k:=rfl
   rw [er] at h ⊢
   by_cases c2:(C (zM X k)).2.2≠0
   ·rw [if_pos c2] at h;exact absurd h c2
   ·rw [if_neg c2]
    exact ⟨k,hk,rfl,h1,h2,Decidable.not_not.1 c2,rfl⟩
theorem chF_at {X:Wd} (hr:RightW X) {i g:Int} {k:Nat} (hf:zAY X i g=(k:Int)) (C:RowI→RowI×Bool×Int) :
  chF X i g C=if (C (zM X k)).2.2≠0 then ((C (zM X k)).2.2,emptyW) else (0,⟨X.rows.set k (C (zM X k)).1,X.gens⟩):=by
 unfold chF
 rw [if_neg (by have:=(zr X).2 hr;omega),if_neg (by omega),hf,Int.toNat_natCast]
 rfl
theorem killF_zero {X:Wd} {i g:Int} (h:(zAR X i g).1=0) :
  RightW X∧∃ k:Nat,k<X.rows.length∧zAY X i g=(k:Int)∧(zM X k).ix=i∧(zM X k).gen=g∧(zAR X i g).2=⟨X.rows.eraseIdx k,X.gens⟩:=by
 unfold zAR at h ⊢
 by_cases c1:(zw X).1≠0
 ·rw [if_pos c1] at h;exact absurd h c1
 ·rw [if_neg c1] at h ⊢
  have c1':(zw X).1=0:=Decidable.not_not.1 c1
  refine ⟨(zr X).1 c1',?_⟩
  rcases zBP X i g with hf | ⟨k,hk,hf,h1,h2⟩
  ·rw [if_pos (by omega)] at h;cases h
  ·rw [if_neg (by omega),hf,Int.toNat_natCast]
   exact ⟨k,hk,rfl,h1,h2,rfl⟩
theorem spawn_spec {X:Wd} {has n:Int} (h:(zW X has n).1=0) :
  RightW X∧∃ (k:Nat) (g:Int),(zW X has n).2.1=((k:Int),g)∧(zW X has n).2.2=⟨zCl X.rows (zAj X.rows (k:Int)) (newR (k:Int) g has n),zBp X.gens (k:Int) g⟩∧k≤X.gens.length ∧
   (∀ j,j<X.rows.length→(zM X j).ix≠(k:Int))∧(k<X.gens.length→g=X.gens.getD k 0+1)∧RightW (zW X has n).2.2:=by
 unfold zW at h ⊢
 by_cases c1:(zw X).1≠0
 ·rw [if_pos c1] at h;exact absurd h c1
 ·rw [if_neg c1] at h ⊢
  have hr:=(zr X).1 (Decidable.not_not.1 c1)
  refine ⟨hr,?_⟩
  by_cases c2:(zBB has && valB n)=false
  ·rw [if_pos c2] at h;cases h
  ·rw [if_neg c2] at h ⊢
   have c2':zBB has=true∧valB n=true:=by simpa using c2
   by_cases c3:(zBb X).2≠0
   ·rw [if_pos c3] at h;exact absurd h c3
   ·rw [if_neg c3]
    obtain ⟨k,hk,hc⟩:=nxTo_spec X X.gens.length 0 (by omega) (Decidable.not_not.1 c3)
    have hk':(zBb X).1.1=(k:Int):=hk
    have hu:∀ j,j<X.rows.length→(zM X j).ix≠(k:Int):=fun j hj e=>by
     rcases hc with ⟨_,hu,_⟩ | ⟨e2,_⟩
     ·exact hu j hj e
     ·have:=hr.il j hj;omega
    have hg:1≤(zBb X).1.2∧(zBb X).1.2≤1000:=by
     show 1≤(nxTo X X.gens.length 0).1.2∧(nxTo X X.gens.length 0).1.2≤1000
     rcases hc with ⟨h1,_,h2,h3⟩ | ⟨_,_,h3⟩
     ·have:=hr.gv k h1;omega
     ·omega
    have h60:k<60:=by
     have:=hr.gl
     rcases hc with ⟨h1,_⟩ | ⟨h1,h2,_⟩ <;> omega
    have hkl:k≤X.gens.length:=by rcases hc with ⟨h1,_⟩ | ⟨h1,_⟩ <;> omega
    rw [hk']
    refine ⟨k,(zBb X).1.2,Prod.ext hk' rfl,rfl,hkl,hu,fun hlt=>?_,?_⟩
    ·rcases hc with ⟨_,_,_,h3⟩ | ⟨h1,_⟩
     ·exact h3
     ·omega
    ·exact right_ins hr hkl h60 hu (r:=newR (k:Int) (zBb X).1.2 has n) rfl (rv_new _ _ c2'.1 c2'.2) hg
theorem ins_old (X:Wd) (p:Nat) (hp:p≤X.rows.length) (r:RowI) (G:List Int) (j:Nat) (hj:j<X.rows.length):∃ j',j'<(zCl X.rows p r).length∧zM ⟨zCl X.rows p r,G⟩ j'=zM X j:=by
 have hl:(zCl X.rows p r).length=X.rows.length+1:=zCX _ _ _ hp
 by_cases h:j<p
 ·exact ⟨j,by omega,by rw [rowOf_ins X p hp,if_pos h]⟩
 ·exact ⟨j+1,by omega,by rw [rowOf_ins X p hp,if_neg (by omega),if_neg (by omega)];rfl⟩
theorem ins_from (X:Wd) (p:Nat) (hp:p≤X.rows.length) (r:RowI) (G:List Int) (j:Nat) (hj:j<(zCl X.rows p r).length):zM ⟨zCl X.rows p r,G⟩ j=r∨∃ t,t<X.rows.length∧zM ⟨zCl X.rows p r,G⟩ j=zM X t:=by
 have hl:(zCl X.rows p r).length=X.rows.length+1:=zCX _ _ _ hp
 rw [rowOf_ins X p hp]
 by_cases h:j<p
 ·exact .inr ⟨j,by omega,by rw [if_pos h]⟩
 ·by_cases h2:j=p
  ·exact .inl (by rw [if_neg h,if_pos h2])
  ·exact .inr ⟨j - 1,by omega,by rw [if_neg h,if_neg h2]⟩
theorem erase_from (X:Wd) (k:Nat) (hk:k<X.rows.length) (G:List Int) (j:Nat) (hj:j<(X.rows.eraseIdx k).length):∃ t,t<X.rows.length∧t≠k∧zM ⟨X.rows.eraseIdx k,G⟩ j=zM X t:=by
 have hl:(X.rows.eraseIdx k).length+1=X.rows.length:=by rw [List.length_eraseIdx,if_pos hk];omega
 rw [zCT]
 by_cases h:j<k
 ·exact ⟨j,by omega,by omega,by rw [if_pos h]⟩
 ·exact ⟨j+1,by omega,by omega,by rw [if_neg h]⟩
theorem erase_old (X:Wd) (k:Nat) (hk:k<X.rows.length) (G:List Int) (j:Nat) (hj:j<X.rows.length) (hne:j≠k):∃ j',j'<(X.rows.eraseIdx k).length∧zM ⟨X.rows.eraseIdx k,G⟩ j'=zM X j:=by
 have hl:(X.rows.eraseIdx k).length+1=X.rows.length:=by rw [List.length_eraseIdx,if_pos hk];omega
 by_cases h:j<k
 ·exact ⟨j,by omega,by rw [zCT,if_pos h]⟩
 ·exact ⟨j - 1,by omega,by rw [zCT,if_neg (by omega),show j - 1+1=j by omega]⟩
def Keeps (X Y:Wd) (i g:Int):Prop:=∀ k:Nat,k<X.rows.length→zAY X i g=(k:Int)→∃ j:Nat,j<Y.rows.length∧zAY Y i g=(j:Int)∧zM Y j=zM X k
theorem keeps_of {X Y:Wd} {i g:Int} (hX:RightW X) (hY:RightW Y) (h:∀ k,k<X.rows.length→(zM X k).ix=i→(zM X k).gen=g→∃ j,j<Y.rows.length∧zM Y j=zM X k):Keeps X Y i g:=fun k hk hf=>by
 rcases zBP X i g with e | ⟨k',hk',e,h1,h2⟩
 ·omega
 ·have:k'=k:=by omega
  subst this
  obtain ⟨j,hj,ej⟩:=h k' hk h1 h2
  refine ⟨j,hj,?_,ej⟩
  have:=find_at hY hj
  rwa [ej,h1,h2] at this
theorem zBm {X:Wd} {has n:Int} (h:(zW X has n).1=0) (i g:Int):RightW (zW X has n).2.2∧Keeps X (zW X has n).2.2 i g:=by
 obtain ⟨hr,k,g',_,e,hk,hu,_,hr'⟩:=spawn_spec h
 refine ⟨hr',keeps_of hr hr' fun j hj _ _=>?_⟩
 rw [e]
 exact ins_old X _ (zBy _ _) _ _ j hj
theorem kill_keeps {X:Wd} {i g:Int} (h:(zAR X i g).1=0):RightW (zAR X i g).2∧∀ i' g',(i',g')≠(i,g)→Keeps X (zAR X i g).2 i' g':=by
 obtain ⟨hr,k,hk,hf,h1,h2,e⟩:=killF_zero h
 have hr':RightW (zAR X i g).2:=by rw [e];exact right_erase hr hk
 refine ⟨hr',fun i' g' hne=>keeps_of hr hr' fun j hj e1 e2=>?_⟩
 rw [e]
 refine erase_old X k hk _ j hj fun ejk=>hne ?_
 subst ejk
 rw [←e1,←e2,h1,h2]
theorem set_keeps {X:Wd} (hr:RightW X) {i g:Int} {k:Nat} (hk:k<X.rows.length) (h1:(zM X k).ix=i) (h2:(zM X k).gen=g) {r:RowI} (hr':RightW ⟨X.rows.set k r,X.gens⟩):∀ i' g',(i',g')≠(i,g)→Keeps X ⟨X.rows.set k r,X.gens⟩ i' g':=fun i' g' hne=>by
 refine keeps_of hr hr' fun j hj e1 e2=>⟨j,by simpa using hj,?_⟩
 rw [zBD X k r X.gens j hj,if_neg fun ejk=>hne ?_]
 subst ejk
 rw [←e1,←e2,h1,h2]
theorem putC_zero {x:RowI} {p n:Int} (h:(putC x p n).2.2=0):zAU p=true∧valB n=true∧(putC x p n).1=putR x p n:=by
 unfold putC at h ⊢
 cases c:(zAU p && valB n)
 ·rw [c] at h;simp at h
 ·simpa using c
theorem dropC_zero {x:RowI} {p:Int} (h:(dropC x p).2.2=0):hasI x.has p=true∧(dropC x p).1=dropR x p:=by
 unfold dropC at h ⊢
 cases c:hasI x.has p
 ·rw [c] at h;simp at h
 ·simp
theorem put_spec {X:Wd} {i g p n:Int} (h:(zCN X i g p n).1=0) :
  RightW X∧zAU p=true∧valB n=true∧∃ k:Nat,k<X.rows.length∧zAY X i g=(k:Int)∧(zM X k).ix=i∧(zM X k).gen=g∧(zCN X i g p n).2=⟨X.rows.set k (putR (zM X k) p n),X.gens⟩∧RightW (zCN X i g p n).2:=by
 obtain ⟨hr,k,hk,hf,h1,h2,hC,e⟩:=chF_zero h
 obtain ⟨hp,hn,eC⟩:=putC_zero hC
 have e':(zCN X i g p n).2=⟨X.rows.set k (putR (zM X k) p n),X.gens⟩:=by rw [←eC];exact e
 refine ⟨hr,hp,hn,k,hk,hf,h1,h2,e',?_⟩
 rw [e']
 exact right_set hr hk rfl rfl (rv_put (hr.rv k hk) hp hn)
theorem drop_spec {X:Wd} {i g p:Int} (h:(zAW X i g p).1=0) :
  RightW X∧∃ k:Nat,k<X.rows.length∧zAY X i g=(k:Int)∧(zM X k).ix=i∧(zM X k).gen=g∧hasI (zM X k).has p=true∧(zAW X i g p).2=⟨X.rows.set k (dropR (zM X k) p),X.gens⟩∧RightW (zAW X i g p).2:=by
 obtain ⟨hr,k,hk,hf,h1,h2,hC,e⟩:=chF_zero h
 obtain ⟨hp,eC⟩:=dropC_zero hC
 have e':(zAW X i g p).2=⟨X.rows.set k (dropR (zM X k) p),X.gens⟩:=by rw [←eC];exact e
 refine ⟨hr,k,hk,hf,h1,h2,hp,e',?_⟩
 rw [e']
 exact right_set hr hk rfl rfl (rv_drop (hr.rv k hk) hp)
theorem put_keeps {X:Wd} {i g p n:Int} (h:(zCN X i g p n).1=0):RightW (zCN X i g p n).2∧∀ i' g',(i',g')≠(i,g)→Keeps X (zCN X i g p n).2 i' g':=by
 obtain ⟨hr,_,_,k,hk,hf,h1,h2,e,hr'⟩:=put_spec h
 refine ⟨hr',?_⟩
 rw [e] at hr' ⊢
 exact set_keeps hr hk h1 h2 hr'
theorem drop_keeps {X:Wd} {i g p:Int} (h:(zAW X i g p).1=0):RightW (zAW X i g p).2∧∀ i' g',(i',g')≠(i,g)→Keeps X (zAW X i g p).2 i' g':=by
 obtain ⟨hr,k,hk,hf,h1,h2,_,e,hr'⟩:=drop_spec h
 refine ⟨hr',?_⟩
 rw [e] at hr' ⊢
 exact set_keeps hr hk h1 h2 hr'
theorem spawn_no {X:Wd} {has n:Int} (h:(zW X has n).1≠0):(zW X has n).2.2=emptyW:=by
 unfold zW at h ⊢
 split at h
 ·rw [if_pos ‹_›]
 ·rename_i c1
  rw [if_neg c1]
  split at h
  ·rw [if_pos ‹_›]
  ·rename_i c2
   rw [if_neg c2]
   split at h
   ·rw [if_pos ‹_›]
   ·exact absurd rfl h
theorem kill_no {X:Wd} {i g:Int} (h:(zAR X i g).1≠0):(zAR X i g).2=emptyW:=by
 unfold zAR at h ⊢
 split at h
 ·rw [if_pos ‹_›]
 ·rename_i c1
  rw [if_neg c1]
  split at h
  ·rw [if_pos ‹_›]
  ·exact absurd rfl h
theorem ch_no {X:Wd} {i g:Int} {C:RowI→RowI×Bool×Int} (h:(chF X i g C).1≠0):(chF X i g C).2=emptyW:=by
 unfold chF at h ⊢
 split at h
 ·rw [if_pos ‹_›]
 ·rename_i c1
  rw [if_neg c1]
  split at h
  ·rw [if_pos ‹_›]
  ·rename_i c2
   rw [if_neg c2]
   split at h
   ·rw [if_pos ‹_›]
   ·exact absurd rfl h
end Go.Proofs.YtnbleebilmghcacGreat
namespace Go.Proofs.YtnbleebilmghcacGreat
open Go Go.RowKit
attribute [local go_sem ↓] Go.wp_at_zero Go.wp_at_succ
theorem below_one (w1:World) (o:Obj) {w2:World} (h:Below (w1.alloc o).heap.size (w1.alloc o) w2):Below w1.heap.size w1 w2:=by
 have h1:=(Below.refl w1.heap.size w1).alloc (Nat.le_refl _) o
 exact h1.trans (h.mono h1.size)
theorem zAS (w1:World) (o:Obj):Below w1.heap.size w1 (w1.alloc o):=(Below.refl _ _).alloc (Nat.le_refl _) o
theorem bel2 (w1:World) (o p:Obj):Below w1.heap.size w1 ((w1.alloc o).alloc p):=below_one w1 o (zAS _ p)
end Go.Proofs.YtnbleebilmghcacGreat
