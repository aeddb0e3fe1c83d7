/- PEq, PRow, PMath, PMath2, PAlive, SBx0, RMeets, RRegion, RSame, PMatch, PRNext, SBox, PNew, SLaw0 -/
import Derived.Test.YtnbleebilmghcabGreatWC
import Derived.Test.YtnbleebilmghcabGreatWF
set_option linter.all false
set_option maxHeartbeats 1000000
namespace Go.Proofs.YtnbleebilmghcabGreat
open Go Go.RowKit
end Go.Proofs.YtnbleebilmghcabGreat
set_option maxHeartbeats 2000000
set_option maxRecDepth 8000
namespace Go.Proofs.YtnbleebilmghcabGreat
open Go Go.RowKit
attribute [local go_sem ↓] Go.wp_at_zero Go.wp_at_succ
structure RX (w:World) (u0 u1 y0 y1:Value) (W:World):Prop where
  bel:Below w.heap.size w W
  r0:W.cell? ⟨w.heap.size,0,none⟩=some u0
  r1:W.cell? ⟨w.heap.size,1,none⟩=some u1
  d0:W.cell? ⟨w.heap.size+1,0,none⟩=some y0
  d1:W.cell? ⟨w.heap.size+1,1,none⟩=some y1
theorem RX.below {w W W1:World} {u0 u1 y0 y1:Value} (h:RX w u0 u1 y0 y1 W) (hb:Below W.heap.size W W1):RX w u0 u1 y0 y1 W1 :=
  ⟨h.bel.trans (hb.mono h.bel.size),zC hb h.r0,zC hb h.r1,zC hb h.d0,zC hb h.d1⟩
theorem RX.start (w:World) (u0 u1 y0 y1:Value) (s t:TypeId):RX w u0 u1 y0 y1 ((w.alloc (.cells #[u0,u1] s)).alloc (.cells #[y0,y1] t)):=by
  obtain ⟨a0,a1,af,ab⟩:=zAe (W:=w) (u0:=u0) (u1:=u1) (t:=s) rfl
  have z1:(w.alloc (.cells #[u0,u1] s)).heap.size=w.heap.size+1:=by simp
  obtain ⟨c0,c1,cf,cb⟩:=zAe (W:=w.alloc (.cells #[u0,u1] s)) (u0:=y0) (u1:=y1) (t:=t) z1
  exact ⟨ab.trans (cb.mono ab.size),zC cb a0,zC cb a1,c0,c1⟩
theorem zKS (A:Option Addr) (n cap:Nat) (G:Option Addr) (gn gcap:Nat) (R:Nat→RowI) (i g:Int) (w:World) (hn:n≤140737488355328) (hR:RowsAt w A n R) :
    Calls Tryz.prog 59 #[zM A n cap G gn gcap,zS i g] w fun e w'=>(∃ p,e=.returned (.pointer p)∧((fIx R i g n 0=-1∧p=none)∨∃ (k b off:Nat),k<n∧fIx R i g n 0=(k:Int)∧A=some ⟨b,off,none⟩∧p=some ⟨b,off+k*11,none⟩))∧Below w.heap.size w w':=by
  have hx:=RX.start w (.slice A n cap) (.slice G gn gcap) (.int .i64 i) (.int .i64 g) 43 61
  have r0:=hx.r0
  have HR:=zB hR
  have HX:=zB hx
  clear hR hx
  unfold zM zS
  go_enter Tryz.func59,Tryz.ntmps59
  go_wp2
  go_loopw [9] (fun x wr=>∃ j:Nat,j≤n∧x=.int .i64 j∧fIx R i g n 0=fIx R i g (n - j) j∧RX w (.slice A n cap) (.slice G gn gcap) (.int .i64 i) (.int .i64 g) wr) (fun x _=>n - (intOf x).toNat)
  case atStart=>exact ⟨0,Nat.zero_le _,rfl,rfl,zA HX⟩
  case round =>
    clear r0
    obtain ⟨j,hj,rfl,hF,hbr⟩:=hrel
    have HF:=zB hF
    clear hF
    by_cases hlt:j<n
    · have j0:(0:Int)≤(j:Int):=by omega
      have j1:(j:Int)<(n:Int):=by omega
      obtain ⟨b',off,rfl,hrow⟩:=zA HR j hlt
      have hrow:=hrow.below hbr.bel
      have c0:=hrow.c0
      have c1:=hrow.c1
      have r0:=hbr.r0
      have d0:=hbr.d0
      have d1:=hbr.d1
      have HS:=zB (zIh R i g n j hlt)
      unfold isB at HS
      have HBR:=zB hbr
      clear hrow hbr HR HX
      by_cases h1:(R j).ix=i <;> by_cases h2:(R j).gen=g
      all_goals
        have e1:((R j).ix == i && (R j).gen == g)=(decide ((R j).ix=i) && decide ((R j).gen=g)):=by simp [Bool.beq_eq_decide_eq]
        rw [e1] at HS
        simp only [h1,h2,decide_true,decide_false,Bool.and_true,Bool.and_false,Bool.true_and,Bool.false_and,if_true,if_false,Bool.false_eq_true] at HS
        go_wp2
        go_quiet (fail)
        go_wp2
        first
        | (go_ret
           exact ⟨⟨_,rfl,.inr ⟨j,b',off,hlt,(zA HF).trans (zA HS),rfl,rfl⟩⟩,zz (zA HBR).bel _⟩)
        | (go_roundw
           case rel=>exact ⟨j+1,by omega,by go_num,(zA HF).trans (zA HS),(zA HBR).below (zz (Below.refl _ _) _)⟩
           case measure=>simp [intOf];omega)
    · obtain rfl:j=n:=by omega
      have hv:fIx R i g j 0=-1:=by rw [zA HF,Nat.sub_self];rfl
      have HB:=zB hbr.bel
      clear hbr HR HX
      go_wp2
      go_ret
      exact ⟨⟨none,rfl,.inl ⟨hv,rfl⟩⟩,zA HB⟩
end Go.Proofs.YtnbleebilmghcabGreat
namespace Go.Proofs.YtnbleebilmghcabGreat
open Go Go.RowKit
theorem zFE (x:RowI) (i g:Int):isB x i g=true↔x.ix=i∧x.gen=g:=by unfold isB;simp
theorem zAi (X:Wd) (i g:Int):zAN X i g=-1∨∃ k:Nat,k<X.rows.length∧zAN X i g=(k:Int)∧(zR X k).ix=i∧(zR X k).gen=g:=by
  rcases zDL (fun j=>X.rows.getD j dR) i g X.rows.length 0 with h | ⟨k,_,h1,h2,h3⟩
  · exact .inl h
  · exact .inr ⟨k,by omega,h2,(zFE _ _ _).1 h3⟩
theorem zNQ (R:Nat→RowI) (i g:Int):∀ n j,fIx R i g n j=-1→∀ t,j≤t→t<j+n→isB (R t) i g=false
  | 0,j,_,t,h1,h2=>by omega
  | n+1,j,h,t,h1,h2=>by
    unfold fIx at h
    split at h
    · omega
    · rename_i hc
      by_cases e:t=j
      · subst e;simpa using hc
      · exact zNQ R i g n (j+1) h t (by omega) (by omega)
theorem zOD {X:Wd} {i g:Int} (h:zAN X i g=-1) {j:Nat} (hj:j<X.rows.length):¬ ((zR X j).ix=i∧(zR X j).gen=g):=by
  intro e
  have:=zNQ _ i g X.rows.length 0 h j (Nat.zero_le _) (by omega)
  have h2:isB (X.rows.getD j dR) i g=true:=(zFE _ _ _).2 e
  rw [h2] at this;cases this
theorem zLT {X:Wd} {i g:Int} (h:∀ j,j<X.rows.length→¬ ((zR X j).ix=i∧(zR X j).gen=g)):zAN X i g=-1:=by
  rcases zAi X i g with h1 | ⟨k,h1,_,h3⟩
  · exact h1
  · exact absurd h3 (h k h1)
theorem zHt {X:Wd} (hr:RightW X) {j:Nat} (hj:j<X.rows.length):zAN X (zR X j).ix (zR X j).gen=(j:Int):=by
  rcases zAi X (zR X j).ix (zR X j).gen with h1 | ⟨k,h1,h2,h3,h4⟩
  · exact absurd ⟨rfl,rfl⟩ (zOD h1 hj)
  · rw [h2,hr.one h1 hj h3]
theorem zCn (X:Wd) (k:Nat) (r:RowI) (G:List Int) (j:Nat) (hj:j<X.rows.length):zR ⟨X.rows.set k r,G⟩ j=if j=k then r else zR X j:=zHD X.rows k j r hj
theorem zGq {X:Wd} (h:RightW X) {k:Nat} (hk:k<X.rows.length) {r:RowI} (h1:r.ix=(zR X k).ix) (h2:r.gen=(zR X k).gen) (h3:rvB r=true):RightW ⟨X.rows.set k r,X.gens⟩:=by
  have e:=fun j (hj:j<X.rows.length)=>zCn X k r X.gens j hj
  have ei:∀ j,j<X.rows.length→(zR ⟨X.rows.set k r,X.gens⟩ j).ix=(zR X j).ix:=fun j hj=>by
    rw [e j hj];split
    · rename_i h;rw [h,h1]
    · rfl
  have eg:∀ j,j<X.rows.length→(zR ⟨X.rows.set k r,X.gens⟩ j).gen=(zR X j).gen:=fun j hj=>by
    rw [e j hj];split
    · rename_i h;rw [h,h2]
    · rfl
  have hl:(X.rows.set k r).length=X.rows.length:=List.length_set
  refine ⟨h.gl,h.gv,fun j hj=>?_,fun j hj=>?_,fun j hj=>?_,fun j hj=>?_,fun j hj=>?_⟩ <;> simp only [hl] at hj
  · rw [e j hj];split
    · exact h3
    · exact h.rv j hj
  · rw [ei j hj];exact h.i0 j hj
  · rw [ei j hj];exact h.il j hj
  · rw [ei j (by omega),ei (j+1) hj];exact h.up j hj
  · rw [ei j hj,eg j hj];exact h.ge j hj
theorem zCV (X:Wd) (k:Nat) (G:List Int) (j:Nat):zR ⟨X.rows.eraseIdx k,G⟩ j=if j<k then zR X j else zR X (j+1):=by
  unfold zR
  simp only [List.getD_eq_getElem?_getD,List.getElem?_eraseIdx]
  split <;> rfl
theorem zHe {X:Wd} (h:RightW X) {k:Nat} (hk:k<X.rows.length):RightW ⟨X.rows.eraseIdx k,X.gens⟩:=by
  have e:=zCV X k X.gens
  have hl:(X.rows.eraseIdx k).length+1=X.rows.length:=by rw [List.length_eraseIdx,if_pos hk];omega
  have key:∀ j,j<(X.rows.eraseIdx k).length→∃ t,t<X.rows.length∧zR ⟨X.rows.eraseIdx k,X.gens⟩ j=zR X t:=fun j hj=>by
    rw [e j]
    split
    · exact ⟨j,by omega,rfl⟩
    · exact ⟨j+1,by omega,rfl⟩
  refine ⟨h.gl,h.gv,fun j hj=>?_,fun j hj=>?_,fun j hj=>?_,fun j hj=>?_,fun j hj=>?_⟩
  · obtain ⟨t,ht,et⟩:=key j hj;rw [et];exact h.rv t ht
  · obtain ⟨t,ht,et⟩:=key j hj;rw [et];exact h.i0 t ht
  · obtain ⟨t,ht,et⟩:=key j hj;rw [et];exact h.il t ht
  · rw [e j,e (j+1)]
    have hj':j+1<(X.rows.eraseIdx k).length:=hj
    split <;> split
    · exact h.up j (by omega)
    · exact h.lt' (by omega) (by omega)
    · omega
    · exact h.up (j+1) (by omega)
  · obtain ⟨t,ht,et⟩:=key j hj;rw [et];exact h.ge t ht
theorem zEo (X:Wd) (k:Nat) (hk:k≤X.rows.length) (r:RowI) (G:List Int) (j:Nat):zR ⟨zDH X.rows k r,G⟩ j=if j<k then zR X j else if j=k then r else zR X (j - 1):=by
  unfold zR zDH
  simp only [List.getD_eq_getElem?_getD]
  have hl:(X.rows.take k).length=k:=by rw [List.length_take];omega
  split
  · rename_i h
    rw [List.getElem?_append_left (by omega),List.getElem?_take,if_pos h]
  · rename_i h
    rw [List.getElem?_append_right (by omega),hl]
    split
    · rename_i h2;subst h2;simp
    · rename_i h2
      obtain ⟨t,ht⟩:∃ t,j - k=t+1:=⟨j - k - 1,by omega⟩
      rw [ht,List.getElem?_cons_succ,List.getElem?_drop,show k+t=j - 1 by omega]
theorem zEJ (R:Nat→RowI) (i:Int):∀ n j,∀ t,j≤t→t<j+n→(zHB R i n j=-1∨(t:Int)<zHB R i n j)→(R t).ix≤i
  | 0,j,t,h1,h2,_=>by omega
  | n+1,j,t,h1,h2,h3=>by
    unfold zHB at h3
    split at h3
    · rename_i hc
      rcases h3 with h3 | h3 <;> omega
    · rename_i hc
      by_cases e:t=j
      · subst e;omega
      · exact zEJ R i n (j+1) t (by omega) (by omega) h3
theorem zFc {X:Wd} (h:RightW X) (i:Int):zAk X.rows i≤X.rows.length∧(∀ t,t<zAk X.rows i→(zR X t).ix≤i)∧∀ t,zAk X.rows i≤t→t<X.rows.length→i<(zR X t).ix:=by
  refine ⟨zCE _ _,?_⟩
  unfold zAk
  rcases zDs (fun j=>X.rows.getD j dR) i X.rows.length 0 with e | ⟨k,_,hk,e,hi⟩
  · rw [if_pos (by omega)]
    exact ⟨fun t ht=>zEJ _ i X.rows.length 0 t (Nat.zero_le _) (by omega) (.inl e),fun t h1 h2=>by omega⟩
  · rw [if_neg (by omega),e,Int.toNat_natCast]
    refine ⟨fun t ht=>zEJ (fun j=>X.rows.getD j dR) i X.rows.length 0 t (Nat.zero_le _) (by omega) (.inr (by rw [e];omega)),fun t h1 h2=>?_⟩
    rcases Nat.eq_or_lt_of_le h1 with h3 | h3
    · subst h3;exact hi
    · exact Int.lt_trans hi (h.lt' h3 h2)
theorem zJl (gens:List Int) (k:Nat) (g:Int) (hk:k≤gens.length) (j:Nat):(zBz gens (k:Int) g).getD j 0=if j=k then g else gens.getD j 0:=by
  unfold zBz
  simp only [List.getD_eq_getElem?_getD]
  by_cases h:k=gens.length
  · rw [if_pos (by omega)]
    by_cases h2:j<k
    · rw [List.getElem?_append_left (by omega),if_neg (by omega)]
    · rw [List.getElem?_append_right (by omega)]
      split
      · rename_i h3;rw [h3,h];simp
      · rename_i h3
        obtain ⟨t,ht⟩:∃ t,j - gens.length=t+1:=⟨j - gens.length - 1,by omega⟩
        rw [ht,List.getElem?_eq_none (l:=gens) (by omega)];simp
  · rw [if_neg (by omega),Int.toNat_natCast,List.getElem?_set]
    split
    · rename_i h2;subst h2;simp [show k<gens.length by omega]
    · rename_i h2;rw [if_neg (Ne.symm h2)]
theorem zLG (gens:List Int) (k:Nat) (g:Int) (hk:k≤gens.length):(zBz gens (k:Int) g).length=if k=gens.length then gens.length+1 else gens.length:=by
  unfold zBz
  by_cases h:k=gens.length
  · rw [if_pos (by omega),if_pos h];simp
  · rw [if_neg (by omega),if_neg h];simp
theorem zKY {X:Wd} (h:RightW X) {k:Nat} (hk:k≤X.gens.length) (h60:k<60) (hu:∀ j,j<X.rows.length→(zR X j).ix≠(k:Int)) {r:RowI} (h1:r.ix=(k:Int)) (h3:rvB r=true) (hg:1≤r.gen∧r.gen≤1000) :
    RightW ⟨zDH X.rows (zAk X.rows (k:Int)) r,zBz X.gens (k:Int) r.gen⟩:=by
  obtain ⟨p1,p2,p3⟩:=zFc h (k:Int)
  generalize zAk X.rows (k:Int)=p at *
  have e:=zEo X p p1 r (zBz X.gens (k:Int) r.gen)
  have hl:(zDH X.rows p r).length=X.rows.length+1:=zDG _ _ _ p1
  have hgl:=zLG X.gens k r.gen hk
  have hgg:=zJl X.gens k r.gen hk
  have key:∀ j,j<X.rows.length+1→zR ⟨zDH X.rows p r,zBz X.gens (k:Int) r.gen⟩ j=r∨∃ t,t<X.rows.length∧zR ⟨zDH X.rows p r,zBz X.gens (k:Int) r.gen⟩ j=zR X t:=fun j hj=>by
    rw [e j]
    split
    · exact .inr ⟨j,by omega,rfl⟩
    · split
      · exact .inl rfl
      · exact .inr ⟨j - 1,by omega,rfl⟩
  have hle:X.gens.length≤(zBz X.gens (k:Int) r.gen).length∧k<(zBz X.gens (k:Int) r.gen).length∧(zBz X.gens (k:Int) r.gen).length≤60:=by
    have:=h.gl
    rw [hgl];split <;> omega
  have hnn:∀ t,t<X.rows.length→(zR X t).ix.toNat≠k:=fun t ht e=>hu t ht (by have:=h.i0 t ht;omega)
  refine ⟨hle.2.2,fun j hj=>?_,fun j hj=>?_,fun j hj=>?_,fun j hj=>?_,fun j hj=>?_,fun j hj=>?_⟩
  · show 1≤(zBz X.gens (k:Int) r.gen).getD j 0∧(zBz X.gens (k:Int) r.gen).getD j 0≤1000
    rw [hgg j]
    split
    · exact hg
    · exact h.gv j (by
        have hj':j<(zBz X.gens (k:Int) r.gen).length:=hj
        rw [hgl] at hj'
        split at hj' <;> omega)
  · rcases key j (by rw [←hl];exact hj) with e1 | ⟨t,ht,e1⟩
    · rw [e1];exact h3
    · rw [e1];exact h.rv t ht
  · rcases key j (by rw [←hl];exact hj) with e1 | ⟨t,ht,e1⟩
    · rw [e1,h1];omega
    · rw [e1];exact h.i0 t ht
  · show (zR _ j).ix<((zBz X.gens (k:Int) r.gen).length:Int)
    rcases key j (by rw [←hl];exact hj) with e1 | ⟨t,ht,e1⟩
    · rw [e1,h1];omega
    · rw [e1];have:=h.il t ht;omega
  · have hj':j+1<X.rows.length+1:=by rw [←hl];exact hj
    rw [e j,e (j+1)]
    by_cases a:j+1<p
    · rw [if_pos (by omega),if_pos a];exact h.up j (by omega)
    · by_cases b:j+1=p
      · rw [if_pos (by omega),if_neg a,if_pos b,h1]
        have:=p2 j (by omega)
        have:=hu j (by omega)
        omega
      · by_cases c:j=p
        · rw [if_neg (by omega),if_pos c,if_neg a,if_neg b,h1]
          exact p3 _ (by omega) (by omega)
        · rw [if_neg (by omega),if_neg c,if_neg a,if_neg b]
          exact h.lt' (by omega) (by omega)
  · show (zR _ j).gen=(zBz X.gens (k:Int) r.gen).getD (zR _ j).ix.toNat 0
    rcases key j (by rw [←hl];exact hj) with e1 | ⟨t,ht,e1⟩
    · rw [e1,h1,Int.toNat_natCast,hgg k,if_pos rfl]
    · rw [e1,hgg,if_neg (hnn t ht)];exact h.ge t ht
theorem zLv (rows:List RowI) (i:Nat):zCl rows rows.length i=false↔∀ j,j<rows.length→(rows.getD j dR).ix≠(i:Int):=by
  unfold zCl
  rw [List.take_length,List.any_eq_false]
  constructor
  · intro h j hj
    have:=h (rows.getD j dR) (by rw [List.getD_eq_getElem?_getD,List.getElem?_eq_getElem hj];simp)
    simpa using this
  · intro h x hx
    obtain ⟨j,hj,rfl⟩:=List.getElem_of_mem hx
    have:=h j hj
    rw [List.getD_eq_getElem?_getD,List.getElem?_eq_getElem hj] at this
    simpa using this
theorem zFA (X:Wd):∀ m j,m+j=X.gens.length→(zFB X m j).2=0→∃ k:Nat,(zFB X m j).1.1=(k:Int)∧((k<X.gens.length∧(∀ t,t<X.rows.length→(zR X t).ix≠(k:Int))∧X.gens.getD k 0<1000∧(zFB X m j).1.2=X.gens.getD k 0+1)∨(k=X.gens.length∧X.gens.length<60∧(zFB X m j).1.2=1))
  | 0,j,h,h0=>by
    unfold zFB at h0 ⊢
    split at h0
    · simp at h0
    · rename_i hc
      rw [if_neg hc]
      exact ⟨X.gens.length,rfl,.inr ⟨rfl,by omega,rfl⟩⟩
  | m+1,j,h,h0=>by
    unfold zFB at h0 ⊢
    split at h0
    · rename_i hc
      rw [if_pos hc]
      exact ⟨j,rfl,.inl ⟨by omega,(zLv _ _).1 hc.1,hc.2,rfl⟩⟩
    · rename_i hc
      rw [if_neg hc]
      exact zFA X m (j+1) (by omega) h0
theorem or_fin:∀ m:Fin 256,∀ p:Fin 8,∀ k:Fin 8,0≤bits .or .i64 (m.val:Int) (zAr (p.val:Int))∧bits .or .i64 (m.val:Int) (zAr (p.val:Int))≤255∧(bits .and .i64 (bits .or .i64 (m.val:Int) (zAr (p.val:Int))) (zAr (k.val:Int)) != 0)=(decide (k=p) || bits .and .i64 (m.val:Int) (zAr (k.val:Int)) != 0):=by decide +kernel
theorem an_fin:∀ m:Fin 256,∀ p:Fin 8,∀ k:Fin 8,0≤bits .andNot .i64 (m.val:Int) (zAr (p.val:Int))∧bits .andNot .i64 (m.val:Int) (zAr (p.val:Int))≤255∧(bits .and .i64 (bits .andNot .i64 (m.val:Int) (zAr (p.val:Int))) (zAr (k.val:Int)) != 0)=(!decide (k=p) && bits .and .i64 (m.val:Int) (zAr (k.val:Int)) != 0):=by decide +kernel
theorem zCg {h:Int} (hs:zAR h=true):0≤h∧h≤255:=by unfold zAR at hs;simpa using hs
theorem zAd {x:RowI} (h:rvB x=true):(0≤x.has∧x.has≤255)∧∀ k,k<8→zBY (x.v k)=true∧(x.v k=0∨zBy x.has (k:Int)=true):=by
  unfold rvB at h
  rw [Bool.and_eq_true] at h
  refine ⟨zCg h.1,fun k hk=>?_⟩
  have:=List.all_eq_true.1 h.2 k (List.mem_range.2 hk)
  unfold okV at this
  rw [Bool.and_eq_true,Bool.or_eq_true] at this
  exact ⟨this.1,this.2.imp (by simp) id⟩
theorem zNh {x:RowI} (h1:0≤x.has∧x.has≤255) (h2:∀ k,k<8→zBY (x.v k)=true∧(x.v k=0∨zBy x.has (k:Int)=true)):rvB x=true:=by
  unfold rvB zGv
  rw [Bool.and_eq_true]
  refine ⟨by unfold zAR;simpa using h1,List.all_eq_true.2 fun k hk=>?_⟩
  have:=h2 k (List.mem_range.1 hk)
  unfold okV
  rw [Bool.and_eq_true,Bool.or_eq_true]
  exact ⟨this.1,this.2.imp (by simp) id⟩
theorem val0:zBY 0=true:=by decide
theorem zMV {p:Int} (h:zAE p=true):∃ k:Nat,k<8∧p=(k:Int):=by
  unfold zAE at h
  have:=of_decide_eq_true h
  exact ⟨p.toNat,by omega,by omega⟩
theorem zMY (h:Int) (h0:0≤h∧h≤255) (p:Nat) (hp:p<8):(0≤bits .or .i64 h (zAr (p:Int))∧bits .or .i64 h (zAr (p:Int))≤255)∧∀ k:Nat,k<8→zBy (bits .or .i64 h (zAr (p:Int))) (k:Int)=(decide (k=p) || zBy h (k:Int)):=by
  obtain ⟨m,rfl⟩:=zDv h h0.1 h0.2
  have f:=fun k:Fin 8=>or_fin m ⟨p,hp⟩ k
  refine ⟨⟨(f ⟨0,by decide⟩).1,(f ⟨0,by decide⟩).2.1⟩,fun k hk=>?_⟩
  have:=(f ⟨k,hk⟩).2.2
  simpa [zBy,Fin.ext_iff] using this
theorem zMw (h:Int) (h0:0≤h∧h≤255) (p:Nat) (hp:p<8):(0≤bits .andNot .i64 h (zAr (p:Int))∧bits .andNot .i64 h (zAr (p:Int))≤255)∧∀ k:Nat,k<8→zBy (bits .andNot .i64 h (zAr (p:Int))) (k:Int)=(!decide (k=p) && zBy h (k:Int)):=by
  obtain ⟨m,rfl⟩:=zDv h h0.1 h0.2
  have f:=fun k:Fin 8=>an_fin m ⟨p,hp⟩ k
  refine ⟨⟨(f ⟨0,by decide⟩).1,(f ⟨0,by decide⟩).2.1⟩,fun k hk=>?_⟩
  have:=(f ⟨k,hk⟩).2.2
  simpa [zBy,Fin.ext_iff] using this
theorem zOY {x:RowI} (h:rvB x=true) {p n:Int} (hp:zAE p=true) (hn:zBY n=true):rvB (zHh x p n)=true:=by
  obtain ⟨q,hq,rfl⟩:=zMV hp
  obtain ⟨h1,h2⟩:=zAd h
  obtain ⟨f1,f2⟩:=zMY x.has h1 q hq
  refine zNh f1 fun k hk=>?_
  show zBY (if k=((q:Nat):Int).toNat then n else x.v k)=true∧((if k=((q:Nat):Int).toNat then n else x.v k)=0∨zBy (bits .or .i64 x.has (zAr (q:Int))) (k:Int)=true)
  rw [f2 k hk,Int.toNat_natCast]
  by_cases e:k=q
  · simp [e,hn]
  · simpa [e] using h2 k hk
theorem zNi {x:RowI} (h:rvB x=true) {p:Int} (hp:zBy x.has p=true):rvB (zDd x p)=true:=by
  obtain ⟨q,hq,rfl⟩:=zDI _ _ hp
  obtain ⟨h1,h2⟩:=zAd h
  obtain ⟨f1,f2⟩:=zMw x.has h1 q hq
  refine zNh f1 fun k hk=>?_
  show zBY (if k=((q:Nat):Int).toNat then 0 else x.v k)=true∧((if k=((q:Nat):Int).toNat then 0 else x.v k)=0∨zBy (bits .andNot .i64 x.has (zAr (q:Int))) (k:Int)=true)
  rw [f2 k hk,Int.toNat_natCast]
  by_cases e:k=q
  · simp [e,val0]
  · simpa [e] using h2 k hk
theorem zOZ (i g:Int) {has n:Int} (hs:zAR has=true) (hn:zBY n=true):rvB (zGS i g has n)=true:=by
  have hb:=zCg hs
  refine zNh hb fun k hk=>?_
  show zBY (if k<8∧tb has k=true then n else 0)=true∧((if k<8∧tb has k=true then n else 0)=0∨zBy has (k:Int)=true)
  have e:zBy has (k:Int)=tb has k:=zLP has k hb.1 hb.2 hk
  rw [e]
  cases h:tb has k <;> simp [hk,hn,val0]
end Go.Proofs.YtnbleebilmghcabGreat
namespace Go.Proofs.YtnbleebilmghcabGreat
open Go Go.RowKit
theorem zIk {X:Wd} {i g:Int} {C:RowI→RowI×Bool×Int} (h:(chF X i g C).1=0) :
    RightW X∧∃ k:Nat,k<X.rows.length∧zAN X i g=(k:Int)∧(zR X k).ix=i∧(zR X k).gen=g∧(C (zR X k)).2.2=0∧(chF X i g C).2=⟨X.rows.set k (C (zR X k)).1,X.gens⟩:=by
  unfold chF at h ⊢
  by_cases c1:(zP X).1≠0
  · rw [if_pos c1] at h;exact absurd h c1
  · rw [if_neg c1] at h ⊢
    have c1':(zP X).1=0:=Decidable.not_not.1 c1
    refine ⟨(zf X).1 c1',?_⟩
    rcases zAi X i g with hf | ⟨k,hk,hf,h1,h2⟩
    · rw [if_pos (by omega)] at h;cases h
    · rw [if_neg (by omega),hf,Int.toNat_natCast] at h ⊢
      have er:X.rows.getD k dR=zR X k:=rfl
      rw [er] at h ⊢
      by_cases c2:(C (zR X k)).2.2≠0
      · rw [if_pos c2] at h;exact absurd h c2
      · rw [if_neg c2]
        exact ⟨k,hk,rfl,h1,h2,Decidable.not_not.1 c2,rfl⟩
theorem zPQ {X:Wd} (hr:RightW X) {i g:Int} {k:Nat} (hf:zAN X i g=(k:Int)) (C:RowI→RowI×Bool×Int) :
    chF X i g C=if (C (zR X k)).2.2≠0 then ((C (zR X k)).2.2,emptyW) else (0,⟨X.rows.set k (C (zR X k)).1,X.gens⟩):=by
  unfold chF
  rw [if_neg (by have:=(zf X).2 hr;omega),if_neg (by omega),hf,Int.toNat_natCast]
  rfl
theorem zFh {X:Wd} {i g:Int} (h:(zAn X i g).1=0) :
    RightW X∧∃ k:Nat,k<X.rows.length∧zAN X i g=(k:Int)∧(zR X k).ix=i∧(zR X k).gen=g∧(zAn X i g).2=⟨X.rows.eraseIdx k,X.gens⟩:=by
  unfold zAn at h ⊢
  by_cases c1:(zP X).1≠0
  · rw [if_pos c1] at h;exact absurd h c1
  · rw [if_neg c1] at h ⊢
    have c1':(zP X).1=0:=Decidable.not_not.1 c1
    refine ⟨(zf X).1 c1',?_⟩
    rcases zAi X i g with hf | ⟨k,hk,hf,h1,h2⟩
    · rw [if_pos (by omega)] at h;cases h
    · rw [if_neg (by omega),hf,Int.toNat_natCast]
      exact ⟨k,hk,rfl,h1,h2,rfl⟩
theorem zJE {X:Wd} {has n:Int} (h:(zw X has n).1=0) :
    RightW X∧∃ (k:Nat) (g:Int),(zw X has n).2.1=((k:Int),g)∧(zw X has n).2.2=⟨zDH X.rows (zAk X.rows (k:Int)) (zGS (k:Int) g has n),zBz X.gens (k:Int) g⟩∧k≤X.gens.length ∧
      (∀ j,j<X.rows.length→(zR X j).ix≠(k:Int))∧(k<X.gens.length→g=X.gens.getD k 0+1)∧RightW (zw X has n).2.2:=by
  unfold zw at h ⊢
  by_cases c1:(zP X).1≠0
  · rw [if_pos c1] at h;exact absurd h c1
  · rw [if_neg c1] at h ⊢
    have hr:=(zf X).1 (Decidable.not_not.1 c1)
    refine ⟨hr,?_⟩
    by_cases c2:(zAR has && zBY n)=false
    · rw [if_pos c2] at h;cases h
    · rw [if_neg c2] at h ⊢
      have c2':zAR has=true∧zBY n=true:=by simpa using c2
      by_cases c3:(zAM X).2≠0
      · rw [if_pos c3] at h;exact absurd h c3
      · rw [if_neg c3]
        obtain ⟨k,hk,hc⟩:=zFA X X.gens.length 0 (by omega) (Decidable.not_not.1 c3)
        have hk':(zAM X).1.1=(k:Int):=hk
        have hu:∀ j,j<X.rows.length→(zR X j).ix≠(k:Int):=fun j hj e=>by
          rcases hc with ⟨_,hu,_⟩ | ⟨e2,_⟩
          · exact hu j hj e
          · have:=hr.il j hj;omega
        have hg:1≤(zAM X).1.2∧(zAM X).1.2≤1000:=by
          show 1≤(zFB X X.gens.length 0).1.2∧(zFB X X.gens.length 0).1.2≤1000
          rcases hc with ⟨h1,_,h2,h3⟩ | ⟨_,_,h3⟩
          · have:=hr.gv k h1;omega
          · omega
        have h60:k<60:=by
          have:=hr.gl
          rcases hc with ⟨h1,_⟩ | ⟨h1,h2,_⟩ <;> omega
        have hkl:k≤X.gens.length:=by rcases hc with ⟨h1,_⟩ | ⟨h1,_⟩ <;> omega
        rw [hk']
        refine ⟨k,(zAM X).1.2,Prod.ext hk' rfl,rfl,hkl,hu,fun hlt=>?_,?_⟩
        · rcases hc with ⟨_,_,_,h3⟩ | ⟨h1,_⟩
          · exact h3
          · omega
        · exact zKY hr hkl h60 hu (r:=zGS (k:Int) (zAM X).1.2 has n) rfl (zOZ _ _ c2'.1 c2'.2) hg
theorem zNy (X:Wd) (p:Nat) (hp:p≤X.rows.length) (r:RowI) (G:List Int) (j:Nat) (hj:j<X.rows.length):∃ j',j'<(zDH X.rows p r).length∧zR ⟨zDH X.rows p r,G⟩ j'=zR X j:=by
  have hl:(zDH X.rows p r).length=X.rows.length+1:=zDG _ _ _ hp
  by_cases h:j<p
  · exact ⟨j,by omega,by rw [zEo X p hp,if_pos h]⟩
  · exact ⟨j+1,by omega,by rw [zEo X p hp,if_neg (by omega),if_neg (by omega)];rfl⟩
theorem zJn (X:Wd) (k:Nat) (hk:k<X.rows.length) (G:List Int) (j:Nat) (hj:j<(X.rows.eraseIdx k).length):∃ t,t<X.rows.length∧t≠k∧zR ⟨X.rows.eraseIdx k,G⟩ j=zR X t:=by
  have hl:(X.rows.eraseIdx k).length+1=X.rows.length:=by rw [List.length_eraseIdx,if_pos hk];omega
  rw [zCV]
  by_cases h:j<k
  · exact ⟨j,by omega,by omega,by rw [if_pos h]⟩
  · exact ⟨j+1,by omega,by omega,by rw [if_neg h]⟩
theorem zLX (X:Wd) (k:Nat) (hk:k<X.rows.length) (G:List Int) (j:Nat) (hj:j<X.rows.length) (hne:j≠k):∃ j',j'<(X.rows.eraseIdx k).length∧zR ⟨X.rows.eraseIdx k,G⟩ j'=zR X j:=by
  have hl:(X.rows.eraseIdx k).length+1=X.rows.length:=by rw [List.length_eraseIdx,if_pos hk];omega
  by_cases h:j<k
  · exact ⟨j,by omega,by rw [zCV,if_pos h]⟩
  · exact ⟨j - 1,by omega,by rw [zCV,if_neg (by omega),show j - 1+1=j by omega]⟩
def Keeps (X Y:Wd) (i g:Int):Prop:=∀ k:Nat,k<X.rows.length→zAN X i g=(k:Int)→∃ j:Nat,j<Y.rows.length∧zAN Y i g=(j:Int)∧zR Y j=zR X k
theorem zGH {X Y:Wd} {i g:Int} (hX:RightW X) (hY:RightW Y) (h:∀ k,k<X.rows.length→(zR X k).ix=i→(zR X k).gen=g→∃ j,j<Y.rows.length∧zR Y j=zR X k):Keeps X Y i g:=fun k hk hf=>by
  rcases zAi X i g with e | ⟨k',hk',e,h1,h2⟩
  · omega
  · have:k'=k:=by omega
    subst this
    obtain ⟨j,hj,ej⟩:=h k' hk h1 h2
    refine ⟨j,hj,?_,ej⟩
    have:=zHt hY hj
    rwa [ej,h1,h2] at this
theorem zDX {X:Wd} {has n:Int} (h:(zw X has n).1=0) (i g:Int):RightW (zw X has n).2.2∧Keeps X (zw X has n).2.2 i g:=by
  obtain ⟨hr,k,g',_,e,hk,hu,_,hr'⟩:=zJE h
  refine ⟨hr',zGH hr hr' fun j hj _ _=>?_⟩
  rw [e]
  exact zNy X _ (zCE _ _) _ _ j hj
theorem zFg {X:Wd} {i g:Int} (h:(zAn X i g).1=0):RightW (zAn X i g).2∧∀ i' g',(i',g')≠(i,g)→Keeps X (zAn X i g).2 i' g':=by
  obtain ⟨hr,k,hk,hf,h1,h2,e⟩:=zFh h
  have hr':RightW (zAn X i g).2:=by rw [e];exact zHe hr hk
  refine ⟨hr',fun i' g' hne=>zGH hr hr' fun j hj e1 e2=>?_⟩
  rw [e]
  refine zLX X k hk _ j hj fun ejk=>hne ?_
  subst ejk
  rw [←e1,←e2,h1,h2]
theorem zGj {X:Wd} (hr:RightW X) {i g:Int} {k:Nat} (hk:k<X.rows.length) (h1:(zR X k).ix=i) (h2:(zR X k).gen=g) {r:RowI} (hr':RightW ⟨X.rows.set k r,X.gens⟩):∀ i' g',(i',g')≠(i,g)→Keeps X ⟨X.rows.set k r,X.gens⟩ i' g':=fun i' g' hne=>by
  refine zGH hr hr' fun j hj e1 e2=>⟨j,by simpa using hj,?_⟩
  rw [zCn X k r X.gens j hj,if_neg fun ejk=>hne ?_]
  subst ejk
  rw [←e1,←e2,h1,h2]
theorem zKh {x:RowI} {p n:Int} (h:(zGR x p n).2.2=0):zAE p=true∧zBY n=true∧(zGR x p n).1=zHh x p n:=by
  unfold zGR at h ⊢
  cases c:(zAE p && zBY n)
  · rw [c] at h;simp at h
  · simpa using c
theorem zJo {x:RowI} {p:Int} (h:(zCk x p).2.2=0):zBy x.has p=true∧(zCk x p).1=zDd x p:=by
  unfold zCk at h ⊢
  cases c:zBy x.has p
  · rw [c] at h;simp at h
  · simp
theorem zIT {X:Wd} {i g p n:Int} (h:(zDF X i g p n).1=0) :
    RightW X∧zAE p=true∧zBY n=true∧∃ k:Nat,k<X.rows.length∧zAN X i g=(k:Int)∧(zR X k).ix=i∧(zR X k).gen=g∧(zDF X i g p n).2=⟨X.rows.set k (zHh (zR X k) p n),X.gens⟩∧RightW (zDF X i g p n).2:=by
  obtain ⟨hr,k,hk,hf,h1,h2,hC,e⟩:=zIk h
  obtain ⟨hp,hn,eC⟩:=zKh hC
  have e':(zDF X i g p n).2=⟨X.rows.set k (zHh (zR X k) p n),X.gens⟩:=by rw [←eC];exact e
  refine ⟨hr,hp,hn,k,hk,hf,h1,h2,e',?_⟩
  rw [e']
  exact zGq hr hk rfl rfl (zOY (hr.rv k hk) hp hn)
theorem zHH {X:Wd} {i g p:Int} (h:(zAf X i g p).1=0) :
    RightW X∧∃ k:Nat,k<X.rows.length∧zAN X i g=(k:Int)∧(zR X k).ix=i∧(zR X k).gen=g∧zBy (zR X k).has p=true∧(zAf X i g p).2=⟨X.rows.set k (zDd (zR X k) p),X.gens⟩∧RightW (zAf X i g p).2:=by
  obtain ⟨hr,k,hk,hf,h1,h2,hC,e⟩:=zIk h
  obtain ⟨hp,eC⟩:=zJo hC
  have e':(zAf X i g p).2=⟨X.rows.set k (zDd (zR X k) p),X.gens⟩:=by rw [←eC];exact e
  refine ⟨hr,k,hk,hf,h1,h2,hp,e',?_⟩
  rw [e']
  exact zGq hr hk rfl rfl (zNi (hr.rv k hk) hp)
theorem zGr {X:Wd} {i g p n:Int} (h:(zDF X i g p n).1=0):RightW (zDF X i g p n).2∧∀ i' g',(i',g')≠(i,g)→Keeps X (zDF X i g p n).2 i' g':=by
  obtain ⟨hr,_,_,k,hk,hf,h1,h2,e,hr'⟩:=zIT h
  refine ⟨hr',?_⟩
  rw [e] at hr' ⊢
  exact zGj hr hk h1 h2 hr'
theorem zFn {X:Wd} {i g p:Int} (h:(zAf X i g p).1=0):RightW (zAf X i g p).2∧∀ i' g',(i',g')≠(i,g)→Keeps X (zAf X i g p).2 i' g':=by
  obtain ⟨hr,k,hk,hf,h1,h2,_,e,hr'⟩:=zHH h
  refine ⟨hr',?_⟩
  rw [e] at hr' ⊢
  exact zGj hr hk h1 h2 hr'
theorem zME {X:Wd} {has n:Int} (h:(zw X has n).1≠0):(zw X has n).2.2=emptyW:=by
  unfold zw at h ⊢
  split at h
  · rw [if_pos ‹_›]
  · rename_i c1
    rw [if_neg c1]
    split at h
    · rw [if_pos ‹_›]
    · rename_i c2
      rw [if_neg c2]
      split at h
      · rw [if_pos ‹_›]
      · exact absurd rfl h
theorem zNx {X:Wd} {i g:Int} (h:(zAn X i g).1≠0):(zAn X i g).2=emptyW:=by
  unfold zAn at h ⊢
  split at h
  · rw [if_pos ‹_›]
  · rename_i c1
    rw [if_neg c1]
    split at h
    · rw [if_pos ‹_›]
    · exact absurd rfl h
theorem zOs {X:Wd} {i g:Int} {C:RowI→RowI×Bool×Int} (h:(chF X i g C).1≠0):(chF X i g C).2=emptyW:=by
  unfold chF at h ⊢
  split at h
  · rw [if_pos ‹_›]
  · rename_i c1
    rw [if_neg c1]
    split at h
    · rw [if_pos ‹_›]
    · rename_i c2
      rw [if_neg c2]
      split at h
      · rw [if_pos ‹_›]
      · exact absurd rfl h
end Go.Proofs.YtnbleebilmghcabGreat
namespace Go.Proofs.YtnbleebilmghcabGreat
open Go Go.RowKit
attribute [local go_sem ↓] Go.wp_at_zero Go.wp_at_succ
theorem zAz (w1:World) (o:Obj) {w2:World} (h:Below (w1.alloc o).heap.size (w1.alloc o) w2):Below w1.heap.size w1 w2:=by
  have h1:=(Below.refl w1.heap.size w1).alloc (Nat.le_refl _) o
  exact h1.trans (h.mono h1.size)
theorem zLk (w1:World) (o p:Obj) {w2:World} (h:Below ((w1.alloc o).alloc p).heap.size ((w1.alloc o).alloc p) w2):Below w1.heap.size w1 w2:=zAz w1 o (zAz _ p h)
theorem zAS (w1:World) (o:Obj):Below w1.heap.size w1 (w1.alloc o):=(Below.refl _ _).alloc (Nat.le_refl _) o
theorem zCx (w1:World) (o p:Obj):Below w1.heap.size w1 ((w1.alloc o).alloc p):=zAz w1 o (zAS _ p)
end Go.Proofs.YtnbleebilmghcabGreat
namespace Go.Proofs.YtnbleebilmghcabGreat
open Go Go.RowKit
theorem zCO (b:Nat):∀ (vs:List Value) (o:Nat) (W:World) (g:Nat),g≠b→(W.setCells b o vs).heap[g]?=W.heap[g]?
  | [],_,_,_,_=>rfl
  | u :: r,o,W,g,h=>(zCO b r (o+1) _ g h).trans (heap_setCell_other W ⟨b,o,none⟩ g u h)
theorem zDc (b:Nat):∀ (vs:List Value) (o:Nat) (W:World),(W.setCells b o vs).heap.size=W.heap.size
  | [],_,_=>rfl
  | u :: r,o,W=>(zDc b r (o+1) _).trans (by simp)
def zt (w:World):List (List Value×TypeId)→World
  | []=>w
  | x :: r=>zt (w.alloc (.cells x.1.toArray x.2)) r
def Bxs (B:Nat) (l:List (List Value×TypeId)) (W:World):Prop:=∀ (k:Nat) (vs:List Value) (t:TypeId),l[k]?=some (vs,t)→W.heap[B+k]?=some (.cells vs.toArray t (0,0))
section
variable {B:Nat} {l:List (List Value×TypeId)} {W W1:World}
theorem Bxs.lt (h:Bxs B l W) {k:Nat} {x:List Value×TypeId} (hk:l[k]?=some x):B+k<W.heap.size:=(Array.getElem?_eq_some_iff.1 (h k x.1 x.2 hk)).1
theorem Bxs.sz (h:Bxs B l W) (hl:0<l.length):B+l.length≤W.heap.size:=by
  have:=h.lt (k:=l.length - 1) (x:=l[l.length - 1]) (List.getElem?_eq_getElem (by omega))
  omega
theorem Bxs.below (h:Bxs B l W) (hb:Below W.heap.size W W1):Bxs B l W1:=fun k vs t hk=>(hb.block (B+k) (h.lt hk)).trans (h k vs t hk)
theorem Bxs.snoc (h:Bxs B l W) (hs:W.heap.size=B+l.length) (vs:List Value) (t:TypeId):Bxs B (l++[(vs,t)]) (W.alloc (.cells vs.toArray t)):=fun k vs' t' hk=>by
  by_cases hlt:k<l.length
  · rw [List.getElem?_append_left hlt] at hk
    exact ((zAS W (.cells vs.toArray t)).block (B+k) (h.lt hk)).trans (h k vs' t' hk)
  · have hk':k<(l++[(vs,t)]).length:=(List.getElem?_eq_some_iff.1 hk).1
    rw [List.length_append,List.length_singleton] at hk'
    obtain rfl:k=l.length:=by omega
    rw [List.getElem?_append_right (Nat.le_refl _)] at hk
    simp at hk
    obtain ⟨rfl,rfl⟩:=hk
    rw [←hs]
    show (W.heap.push _)[W.heap.size]?=_
    simp
theorem Bxs.cell (h:Bxs B l W) (k:Nat) {vs:List Value} {t:TypeId} (hk:l[k]?=some (vs,t)) (j:Nat) {u:Value} (hj:vs[j]?=some u):W.cell? ⟨B+k,j,none⟩=some u:=by
  rw [cell_of_row W (B+k) j vs.toArray t (0,0) (h k vs t hk)]
  simpa using hj
theorem Bxs.free (h:Bxs B l W) (k:Nat) {vs:List Value} {t:TypeId} (hk:l[k]?=some (vs,t)) (j:Nat):W.frozen? ⟨B+k,j,none⟩=false:=by simp [World.frozen?,h k vs t hk]
theorem Bxs.there (h:Bxs B l W) (k:Nat) {vs:List Value} {t:TypeId} (hk:l[k]?=some (vs,t)) (n:Nat) (hn:vs.length=n):W.there (B+k) 0 n:=fun j hj=>by
  rw [Nat.zero_add]
  exact ⟨by rw [h.cell k hk j (u:=vs[j]) (List.getElem?_eq_getElem (by omega))];rfl,h.free k hk j⟩
theorem zCJ (b:Nat) (t:TypeId):∀ (vs:List Value) (o:Nat) (cur:List Value) (W:World),W.heap[b]?=some (.cells cur.toArray t (0,0))→o+vs.length≤cur.length→(W.setCells b o vs).heap[b]?=some (.cells (cur.take o++vs++cur.drop (o+vs.length)).toArray t (0,0))
  | [],o,cur,W,h,_=>by simpa [World.setCells] using h
  | u :: r,o,cur,W,h,hl=>by
    have h1:(W.setCell ⟨b,o,none⟩ u).heap[b]?=some (.cells (cur.set o u).toArray t (0,0)):=by
      have:=heap_setCell_same W b o cur.toArray t u h
      simpa using this
    have h2:=zCJ b t r (o+1) (cur.set o u) _ h1 (by simp only [List.length_set,List.length_cons] at *;omega)
    show ((W.setCell ⟨b,o,none⟩ u).setCells b (o+1) r).heap[b]?=_
    rw [h2]
    have ho:o<cur.length:=by simp only [List.length_cons] at hl;omega
    congr 3
    rw [List.take_set,List.drop_set,if_pos (by omega),List.take_succ_eq_append_getElem ho,List.set_append_right _ _ (by rw [List.length_take];omega),List.length_take,Nat.min_eq_left (by omega)]
    simp only [Nat.sub_self,List.set_cons_zero,List.append_assoc,List.cons_append,List.nil_append,List.length_cons]
    rw [show o+1+r.length=o+(r.length+1) by omega]
theorem Bxs.give (h:Bxs B l W) (k:Nat) {vs:List Value} {t:TypeId} (hk:l[k]?=some (vs,t)) (vs':List Value) (hn:vs'.length=vs.length):Bxs B (l.set k (vs',t)) (W.setCells (B+k) 0 vs'):=fun j us t' hj=>by
  by_cases e:j=k
  · subst e
    have hlt:j<l.length:=(List.getElem?_eq_some_iff.1 hk).1
    rw [List.getElem?_set_self hlt] at hj
    simp only [Option.some.injEq,Prod.mk.injEq] at hj
    obtain ⟨rfl,rfl⟩:=hj
    have:=zCJ (B+j) t vs' 0 vs W (h j vs t hk) (by omega)
    rw [this]
    simp [hn]
  · rw [List.getElem?_set_ne (Ne.symm e)] at hj
    rw [zCO (B+k) vs' 0 W (B+j) (by omega)]
    exact h j us t' hj
theorem Bxs.turn (h:Bxs B l W) {cb o:Nat} {vs:List Value} (hcb:cb<B∨B+l.length≤cb):Bxs B l (W.setCells cb o vs):=fun k us t hk=>by
  have:k<l.length:=(List.getElem?_eq_some_iff.1 hk).1
  rw [zCO cb vs o W (B+k) (by omega)]
  exact h k us t hk
theorem Bxs.nil (B:Nat) (W:World):Bxs B [] W:=fun k vs t h=>by simp at h
end
theorem bxs_allocs:∀ (r l:List (List Value×TypeId)) (B:Nat) (W:World),Bxs B l W→W.heap.size=B+l.length→Bxs B (l++r) (zt W r)
  | [],l,B,W,h,_=>by rw [List.append_nil];exact h
  | x :: r,l,B,W,h,hs=>by
    have:=bxs_allocs r (l++[x]) B (W.alloc (.cells x.1.toArray x.2)) (h.snoc hs x.1 x.2) (by simp [hs];omega)
    rwa [List.append_assoc] at this
theorem Bxs.start (w:World) (l:List (List Value×TypeId)):Bxs w.heap.size l (zt w l):=bxs_allocs l [] w.heap.size w (Bxs.nil _ _) rfl
theorem allocs_below:∀ (l:List (List Value×TypeId)) (w:World),Below w.heap.size w (zt w l)
  | [],w=>Below.refl _ _
  | x :: r,w=>zAz w _ (allocs_below r _)
theorem allocs_size:∀ (l:List (List Value×TypeId)) (w:World),(zt w l).heap.size=w.heap.size+l.length
  | [],w=>rfl
  | x :: r,w=>by
    show (zt (w.alloc (.cells x.1.toArray x.2)) r).heap.size=_
    rw [allocs_size r]
    simp;omega
theorem zET (w:World) (l:List (List Value×TypeId)):∃ W,zt w l=W∧Below w.heap.size w W∧Bxs w.heap.size l W:=⟨_,rfl,allocs_below l w,Bxs.start w l⟩
end Go.Proofs.YtnbleebilmghcabGreat
set_option maxHeartbeats 400000
set_option maxRecDepth 8000
namespace Go.Proofs.YtnbleebilmghcabGreat
open Go.RowKit
theorem zDP {W w1:World} (hb:Below W.heap.size W w1) {p:Addr} {v:Value} (h:W.cell? p=some v):w1.cell? p=some v :=
  (hb.cell (World.block_lt_of_cell? W p h)).trans h
theorem zEd (n:Int) (w:World) (h0:0≤n) (h1:n≤255) :
    Calls Tryz.prog 100 #[.int .i64 n] w fun e w'=>e=.returned (.agg #[.bool (tb n 0),.bool (tb n 1),.bool (tb n 2),.bool (tb n 3),.bool (tb n 4),.bool (tb n 5),.bool (tb n 6),.bool (tb n 7)]) ∧
      Below w.heap.size w w'∧w'.heap.size=w.heap.size+2:=by
  refine (zDO n w h0 h1).mono ?_
  rintro e w1 ⟨rfl,rfl⟩
  exact ⟨rfl,by go_grown,by simp⟩
def zFH (a k:Int):Bool:=decide (0≤k∧k<8) && tb a k.toNat
theorem zDo (a k:Int) (w:World) (h0:0≤a) (h1:a≤255) :
    Calls Tryz.prog 61 #[.int .i64 a,.int .i64 k] w fun e w'=>e=.returned (.bool (zFH a k))∧Below w.heap.size w w':=by
  by_cases k0:0≤k
  · by_cases k1:k<8
    · obtain ⟨j,rfl⟩:=Int.eq_ofNat_of_zero_le k0
      have hix:=zNI a j
      have hj:j<8:=by omega
      go_enter Tryz.func61,Tryz.ntmps61
      go_wp2_with (first | (go_at_call 100;refine (zDO _ _ h0 h1).mono ?_;rintro e w1 ⟨rfl,rfl⟩))
      go_ret
      exact ⟨by simp [zFH,k1],by go_grown⟩
    · go_enter Tryz.func61,Tryz.ntmps61
      go_wp2
      go_ret
      exact ⟨by simp [zFH];omega,by go_grown⟩
  · go_enter Tryz.func61,Tryz.ntmps61
    go_wp2
    go_ret
    exact ⟨by simp [zFH];omega,by go_grown⟩
def zNM (a n h:Int) (k:Nat):Bool:=!(tb a k && !tb h k || tb n k && tb h k)
def zLt (a n h:Int) (k:Nat):Bool:=(List.range k).all (fun j=>zNM a n h j)
structure MW (w0:World) (cs:Nat→List Value) (a n:Int) (l st:Nat→Bool) (v:Nat→Value) (g:Nat→Nat) (w:World):Prop where
  bel:Below w0.heap.size w0 w
  c0:w.cell? ⟨w0.heap.size,0,none⟩=some (.int .i64 a)
  c1:w.cell? ⟨w0.heap.size,1,none⟩=some (.int .i64 n)
  own:∀ k,k<3→l k=true→v k=.pointer (some ⟨g k,0,none⟩)∧w0.heap.size<g k∧g k<w.heap.size∧w.there (g k) 0 8
  ne:∀ j k,j<3→k<3→l j=true→l k=true→j≠k→g j≠g k
  has:∀ k,k<3→st k=true→l k=true∧w.rangeAt (g k) 0 (cs k)
theorem MW.congr {w0:World} {cs:Nat→List Value} {a n:Int} {l st l' st':Nat→Bool} {v v':Nat→Value} {g:Nat→Nat} {w:World} (h:MW w0 cs a n l st v g w)
    (hl:∀ k,k<3→l' k=l k) (hst:∀ k,k<3→st' k=st k) (hv:∀ k,k<3→v' k=v k):MW w0 cs a n l' st' v' g w :=
  ⟨h.bel,h.c0,h.c1,fun k hk e=>by rw [hv k hk];exact h.own k hk (by rw [←hl k hk];exact e),
    fun j k hj hk e1 e2=>h.ne j k hj hk (by rw [←hl j hj];exact e1) (by rw [←hl k hk];exact e2),fun k hk e=>by rw [hl k hk];exact h.has k hk (by rw [←hst k hk];exact e)⟩
theorem MW.below {w0:World} {cs:Nat→List Value} {a n:Int} {l st:Nat→Bool} {v:Nat→Value} {g:Nat→Nat} {w w1:World} (h:MW w0 cs a n l st v g w) (hb:Below w.heap.size w w1):MW w0 cs a n l st v g w1 :=
  ⟨h.bel.trans (hb.mono h.bel.size),zDP hb h.c0,zDP hb h.c1,
    fun k hk e=>by obtain ⟨h1,h2,h3,h4⟩:=h.own k hk e;exact ⟨h1,h2,Nat.lt_of_lt_of_le h3 hb.size,zEi hb h3 h4⟩,
    h.ne,fun k hk e=>⟨(h.has k hk e).1,zEv hb (h.own k hk (h.has k hk e).1).2.2.1 (h.has k hk e).2⟩⟩
def zeros:Array Value:=#[.bool false,.bool false,.bool false,.bool false,.bool false,.bool false,.bool false,.bool false]
theorem zKB (w:World) (t:TypeId):(w.alloc (.cells zeros t)).there w.heap.size 0 8:=fun j hj=>by
  rcases (by omega:j=0∨j=1∨j=2∨j=3∨j=4∨j=5∨j=6∨j=7) with rfl | rfl | rfl | rfl | rfl | rfl | rfl | rfl <;> simp [zeros,go_sem]
theorem MW.alloc {w0:World} {cs:Nat→List Value} {a n:Int} {l st:Nat→Bool} {v:Nat→Value} {g:Nat→Nat} {w:World} (h:MW w0 cs a n l st v g w) (k:Nat) (hl:l k=false) (t:TypeId) :
    MW w0 cs a n (fun j=>if j=k then true else l j) st (fun j=>if j=k then .pointer (some ⟨w.heap.size,0,none⟩) else v j) (fun j=>if j=k then w.heap.size else g j) (w.alloc (.cells zeros t)):=by
  have hb:Below w.heap.size w (w.alloc (.cells zeros t)):=(Below.refl _ _).alloc (Nat.le_refl _) _
  have hlt:=World.block_lt_of_cell? w _ h.c0
  refine ⟨h.bel.trans (hb.mono h.bel.size),zDP hb h.c0,zDP hb h.c1,fun j hj e=>?_,fun i j hi hj e1 e2 hne=>?_,fun j hj e=>?_⟩
  · by_cases hk:j=k
    · subst hk
      simp only [if_true]
      exact ⟨trivial,hlt,by simp,zKB w t⟩
    · simp only [hk,if_false] at e ⊢
      obtain ⟨h1,h2,h3,h4⟩:=h.own j hj e
      exact ⟨h1,h2,by simp;omega,zEi hb h3 h4⟩
  · by_cases hik:i=k <;> by_cases hjk:j=k
    · omega
    · simp only [hik,hjk,if_true,if_false] at e2 ⊢
      have:=(h.own j hj e2).2.2.1;omega
    · simp only [hik,hjk,if_true,if_false] at e1 ⊢
      have:=(h.own i hi e1).2.2.1;omega
    · simp only [hik,hjk,if_false] at e1 e2 ⊢
      exact h.ne i j hi hj e1 e2 hne
  · have h1:=h.has j hj e
    have hjk:j≠k:=fun e'=>by rw [e',hl] at h1;exact absurd h1.1 (by simp)
    simp only [hjk,if_false]
    exact ⟨h1.1,zEv hb (h.own j hj h1.1).2.2.1 h1.2⟩
theorem MW.store {w0:World} {cs:Nat→List Value} {a n:Int} {l st:Nat→Bool} {v:Nat→Value} {g:Nat→Nat} {w:World} (h:MW w0 cs a n l st v g w) (k:Nat) (hk:k<3) (hl:l k=true) (hlen:(cs k).length=8) :
    MW w0 cs a n l (fun j=>if j=k then true else st j) v g (w.setCells (g k) 0 (cs k)):=by
  obtain ⟨p1,p2,p3,p4⟩:=h.own k hk hl
  have keep:∀ (o:Nat) (u:Value),w.cell? ⟨w0.heap.size,o,none⟩=some u→(w.setCells (g k) 0 (cs k)).cell? ⟨w0.heap.size,o,none⟩=some u:=fun o u hu=>by
    rw [World.cell?_setCells_out _ _ _ _ _ (fun e=>by simp at e;omega)];exact hu
  refine ⟨zI _ (by omega) _ _ _ h.bel,keep _ _ h.c0,keep _ _ h.c1,fun j hj e=>?_,h.ne,fun j hj e=>?_⟩
  · obtain ⟨h1,h2,h3,h4⟩:=h.own j hj e
    exact ⟨h1,h2,by rw [zBF];exact h3,World.there_setCells h4 _ _ _⟩
  · by_cases hjk:j=k
    · subst hjk
      exact ⟨hl,World.rangeAt_setCells_same _ _ _ _ (by rw [hlen];exact p4)⟩
    · simp only [hjk,if_false] at e
      have h1:=h.has j hj e
      exact ⟨h1.1,World.rangeAt_setCells_apart h1.2 _ _ _ (.inl (h.ne j k hj hk h1.1 hl hjk))⟩
end Go.Proofs.YtnbleebilmghcabGreat
set_option maxHeartbeats 1000000
set_option maxRecDepth 8000
namespace Go.Proofs.YtnbleebilmghcabGreat
open Go.RowKit
def zPK (a n h:Int):Nat→List Value:=fun k=>if k=0 then (arr a).toList else if k=1 then (arr n).toList else (arr h).toList
def MI (w0:World) (a n h:Int) (L:Nat→Bool) (ac:Act) (w:World):Prop :=
  ∃ (v:Nat→Value) (g:Nat→Nat) (x9 x10 x11 x12 x13 x14 x15 x16:Value),
    ac=⟨(.agg #[.int .i64 a,.int .i64 n] :: .int .i64 h :: .pointer (some ⟨w0.heap.size,0,none⟩) :: undef :: .bool false :: v 0 :: v 1 :: v 2 :: undef :: x9 :: x10 :: x11 :: x12 :: x13 :: x14 :: x15 :: x16 ::
      undef :: undef :: undef :: undef :: undef :: undef :: undef :: undef :: undef :: undef :: undef :: undef :: undef :: undef :: undef :: undef :: undef :: undef :: undef :: undef :: undef :: undef :: undef :: []).toArray,[]⟩ ∧
    (L 0=true→x9=.pointer (some ⟨w0.heap.size,0,none⟩))∧(L 1=true→x10=.int .i64 a)∧(L 2=true→x11=.agg (arr a)) ∧
    (L 3=true→x12=.pointer (some ⟨w0.heap.size,1,none⟩))∧(L 4=true→x13=.int .i64 n)∧(L 5=true→x14=.agg (arr n)) ∧
    (L 6=true→x15=.int .i64 h)∧(L 7=true→x16=.agg (arr h)) ∧
    MW w0 (zPK a n h) a n (fun k=>L (8+k)) (fun k=>L (11+k)) v g w
theorem zDC (L:Nat→Bool) (m k j:Nat):upd L (m+k) (m+j)=if j=k then true else L (m+j):=by
  unfold upd;simp only [Nat.add_left_cancel_iff]
theorem Tryz.info107:(Tryz.prog.info? 107).map (·.size)=some 8:=by kernel_rfl
theorem zHz (n:Int):(arr n).all (·.oneCell')=true:=by simp [arr,Value.oneCell']
theorem zLm (n:Int) (k:Nat) (hk:k<8):(arr n).toList[k]?=some (.bool (tb n k)):=by
  rcases (by omega:k=0∨k=1∨k=2∨k=3∨k=4∨k=5∨k=6∨k=7) with rfl | rfl | rfl | rfl | rfl | rfl | rfl | rfl <;> rfl
theorem zKr (a n h:Int) (k:Nat):zLt a n h (k+1)=(zLt a n h k && zNM a n h k):=by
  unfold zLt;rw [List.range_succ,List.all_append];simp
theorem zJa (a n h:Int) (k m:Nat) (hk:k<m) (e:zNM a n h k=false):zLt a n h m=false:=by
  unfold zLt
  rw [List.all_eq_false]
  exact ⟨k,List.mem_range.2 hk,by simp [e]⟩
theorem zJP (a n h:Int) (w:World) (a0:0≤a) (a1:a≤255) (n0:0≤n) (n1:n≤255) (h0:0≤h) (h1:h≤255) :
    Calls Tryz.prog 83 #[.agg #[.int .i64 a,.int .i64 n],.int .i64 h] w fun e w'=>e=.returned (.bool (zLt a n h 8))∧Below w.heap.size w w':=by
  go_enter Tryz.func83,Tryz.ntmps83
  go_wp2
  rename_i Q1 K1 hK1
  refine zDg (by kernel_rfl) (MI w a n h) (by kernel_rfl) ?start ?step ?fin
  case start =>
    refine ⟨fun _=>undef,fun _=>0,_,_,_,_,_,_,_,_,rfl,by simp,by simp,by simp,by simp,by simp,by simp,by simp,by simp,?_⟩
    have c0:(w.alloc (.cells #[.int .i64 a,.int .i64 n] 34)).cell? ⟨w.heap.size,0,none⟩=some (.int .i64 a):=by simp
    have c1:(w.alloc (.cells #[.int .i64 a,.int .i64 n] 34)).cell? ⟨w.heap.size,1,none⟩=some (.int .i64 n):=by simp
    exact ⟨((Below.refl _ _).alloc (Nat.le_refl _) _).drew,c0,c1,by simp,by simp,by simp⟩
  case step =>
    clear hK1
    rintro L ac w1 i o ⟨v,g,x9,x10,x11,x12,x13,x14,x15,x16,rfl,f0,f1,f2,f3,f4,f5,f6,f7,hw⟩ ho hL he
    match i,ho with
    | 0,ho =>
      have ho':=ho
      simp at ho'
      subst ho'
      refine zAO ho rfl ?_
      simp [go_sem]
      exact ⟨v,g,_,_,_,_,_,_,_,_,rfl,by first | (intro _;rfl) | (simpa [upd] using f0),by first | (intro _;rfl) | (simpa [upd] using f1),by first | (intro _;rfl) | (simpa [upd] using f2),by first | (intro _;rfl) | (simpa [upd] using f3),by first | (intro _;rfl) | (simpa [upd] using f4),by first | (intro _;rfl) | (simpa [upd] using f5),by first | (intro _;rfl) | (simpa [upd] using f6),by first | (intro _;rfl) | (simpa [upd] using f7),hw.congr (fun k _=>zL (by omega)) (fun k _=>zL (by omega)) (fun _ _=>rfl)⟩
    | 1,ho =>
      have ho':=ho
      simp at ho'
      subst ho'
      obtain rfl:=f0 (he ⟨0,.data⟩ (by simp) rfl)
      have c0:=hw.c0
      refine zAO ho rfl ?_
      simp [go_sem,c0]
      exact ⟨v,g,_,_,_,_,_,_,_,_,rfl,by first | (intro _;rfl) | (simpa [upd] using f0),by first | (intro _;rfl) | (simpa [upd] using f1),by first | (intro _;rfl) | (simpa [upd] using f2),by first | (intro _;rfl) | (simpa [upd] using f3),by first | (intro _;rfl) | (simpa [upd] using f4),by first | (intro _;rfl) | (simpa [upd] using f5),by first | (intro _;rfl) | (simpa [upd] using f6),by first | (intro _;rfl) | (simpa [upd] using f7),hw.congr (fun k _=>zL (by omega)) (fun k _=>zL (by omega)) (fun _ _=>rfl)⟩
    | 3,ho =>
      have ho':=ho
      simp at ho'
      subst ho'
      refine zAO ho rfl ?_
      simp [go_sem]
      exact ⟨v,g,_,_,_,_,_,_,_,_,rfl,by first | (intro _;rfl) | (simpa [upd] using f0),by first | (intro _;rfl) | (simpa [upd] using f1),by first | (intro _;rfl) | (simpa [upd] using f2),by first | (intro _;rfl) | (simpa [upd] using f3),by first | (intro _;rfl) | (simpa [upd] using f4),by first | (intro _;rfl) | (simpa [upd] using f5),by first | (intro _;rfl) | (simpa [upd] using f6),by first | (intro _;rfl) | (simpa [upd] using f7),hw.congr (fun k _=>zL (by omega)) (fun k _=>zL (by omega)) (fun _ _=>rfl)⟩
    | 4,ho =>
      have ho':=ho
      simp at ho'
      subst ho'
      obtain rfl:=f3 (he ⟨3,.data⟩ (by simp) rfl)
      have c1:=hw.c1
      refine zAO ho rfl ?_
      simp [go_sem,c1]
      exact ⟨v,g,_,_,_,_,_,_,_,_,rfl,by first | (intro _;rfl) | (simpa [upd] using f0),by first | (intro _;rfl) | (simpa [upd] using f1),by first | (intro _;rfl) | (simpa [upd] using f2),by first | (intro _;rfl) | (simpa [upd] using f3),by first | (intro _;rfl) | (simpa [upd] using f4),by first | (intro _;rfl) | (simpa [upd] using f5),by first | (intro _;rfl) | (simpa [upd] using f6),by first | (intro _;rfl) | (simpa [upd] using f7),hw.congr (fun k _=>zL (by omega)) (fun k _=>zL (by omega)) (fun _ _=>rfl)⟩
    | 6,ho =>
      have ho':=ho
      simp at ho'
      subst ho'
      refine zAO ho rfl ?_
      simp [go_sem]
      exact ⟨v,g,_,_,_,_,_,_,_,_,rfl,by first | (intro _;rfl) | (simpa [upd] using f0),by first | (intro _;rfl) | (simpa [upd] using f1),by first | (intro _;rfl) | (simpa [upd] using f2),by first | (intro _;rfl) | (simpa [upd] using f3),by first | (intro _;rfl) | (simpa [upd] using f4),by first | (intro _;rfl) | (simpa [upd] using f5),by first | (intro _;rfl) | (simpa [upd] using f6),by first | (intro _;rfl) | (simpa [upd] using f7),hw.congr (fun k _=>zL (by omega)) (fun k _=>zL (by omega)) (fun _ _=>rfl)⟩
    | 2,ho =>
      have ho':=ho
      simp at ho'
      subst ho'
      obtain rfl:=f1 (he ⟨1,.data⟩ (by simp) rfl)
      refine zAO ho rfl ?_
      simp [go_sem]
      refine (zDO a w1 a0 a1).mono ?_
      rintro e w2 ⟨rfl,rfl⟩
      have hb2:Below w1.heap.size w1 ((w1.alloc (.cells (arr a) 107)).alloc (.cells (arr a) 107)):=by go_grown
      exact ⟨v,g,_,_,_,_,_,_,_,_,rfl,by first | (intro _;rfl) | (simpa [upd] using f0),by first | (intro _;rfl) | (simpa [upd] using f1),by first | (intro _;rfl) | (simpa [upd] using f2),by first | (intro _;rfl) | (simpa [upd] using f3),by first | (intro _;rfl) | (simpa [upd] using f4),by first | (intro _;rfl) | (simpa [upd] using f5),by first | (intro _;rfl) | (simpa [upd] using f6),by first | (intro _;rfl) | (simpa [upd] using f7),(hw.below hb2).congr (fun k _=>zL (by omega)) (fun k _=>zL (by omega)) (fun _ _=>rfl)⟩
    | 5,ho =>
      have ho':=ho
      simp at ho'
      subst ho'
      obtain rfl:=f4 (he ⟨4,.data⟩ (by simp) rfl)
      refine zAO ho rfl ?_
      simp [go_sem]
      refine (zDO n w1 n0 n1).mono ?_
      rintro e w2 ⟨rfl,rfl⟩
      have hb2:Below w1.heap.size w1 ((w1.alloc (.cells (arr n) 107)).alloc (.cells (arr n) 107)):=by go_grown
      exact ⟨v,g,_,_,_,_,_,_,_,_,rfl,by first | (intro _;rfl) | (simpa [upd] using f0),by first | (intro _;rfl) | (simpa [upd] using f1),by first | (intro _;rfl) | (simpa [upd] using f2),by first | (intro _;rfl) | (simpa [upd] using f3),by first | (intro _;rfl) | (simpa [upd] using f4),by first | (intro _;rfl) | (simpa [upd] using f5),by first | (intro _;rfl) | (simpa [upd] using f6),by first | (intro _;rfl) | (simpa [upd] using f7),(hw.below hb2).congr (fun k _=>zL (by omega)) (fun k _=>zL (by omega)) (fun _ _=>rfl)⟩
    | 7,ho =>
      have ho':=ho
      simp at ho'
      subst ho'
      obtain rfl:=f6 (he ⟨6,.data⟩ (by simp) rfl)
      refine zAO ho rfl ?_
      simp [go_sem]
      refine (zDO h w1 h0 h1).mono ?_
      rintro e w2 ⟨rfl,rfl⟩
      have hb2:Below w1.heap.size w1 ((w1.alloc (.cells (arr h) 107)).alloc (.cells (arr h) 107)):=by go_grown
      exact ⟨v,g,_,_,_,_,_,_,_,_,rfl,by first | (intro _;rfl) | (simpa [upd] using f0),by first | (intro _;rfl) | (simpa [upd] using f1),by first | (intro _;rfl) | (simpa [upd] using f2),by first | (intro _;rfl) | (simpa [upd] using f3),by first | (intro _;rfl) | (simpa [upd] using f4),by first | (intro _;rfl) | (simpa [upd] using f5),by first | (intro _;rfl) | (simpa [upd] using f6),by first | (intro _;rfl) | (simpa [upd] using f7),(hw.below hb2).congr (fun k _=>zL (by omega)) (fun k _=>zL (by omega)) (fun _ _=>rfl)⟩
    | 8,ho =>
      have ho':=ho
      simp at ho'
      subst ho'
      refine zAO ho rfl ?_
      simp [go_sem]
      have hm:=hw.alloc 0 hL 107
      exact ⟨(fun j=>if j=0 then .pointer (some ⟨w1.heap.size,0,none⟩) else v j),(fun j=>if j=0 then w1.heap.size else g j),_,_,_,_,_,_,_,_,rfl,by first | (intro _;rfl) | (simpa [upd] using f0),by first | (intro _;rfl) | (simpa [upd] using f1),by first | (intro _;rfl) | (simpa [upd] using f2),by first | (intro _;rfl) | (simpa [upd] using f3),by first | (intro _;rfl) | (simpa [upd] using f4),by first | (intro _;rfl) | (simpa [upd] using f5),by first | (intro _;rfl) | (simpa [upd] using f6),by first | (intro _;rfl) | (simpa [upd] using f7),hm.congr (fun j _=>zDC L 8 0 j) (fun j _=>zL (by omega)) (fun _ _=>rfl)⟩
    | 9,ho =>
      have ho':=ho
      simp at ho'
      subst ho'
      refine zAO ho rfl ?_
      simp [go_sem]
      have hm:=hw.alloc 1 hL 107
      exact ⟨(fun j=>if j=1 then .pointer (some ⟨w1.heap.size,0,none⟩) else v j),(fun j=>if j=1 then w1.heap.size else g j),_,_,_,_,_,_,_,_,rfl,by first | (intro _;rfl) | (simpa [upd] using f0),by first | (intro _;rfl) | (simpa [upd] using f1),by first | (intro _;rfl) | (simpa [upd] using f2),by first | (intro _;rfl) | (simpa [upd] using f3),by first | (intro _;rfl) | (simpa [upd] using f4),by first | (intro _;rfl) | (simpa [upd] using f5),by first | (intro _;rfl) | (simpa [upd] using f6),by first | (intro _;rfl) | (simpa [upd] using f7),hm.congr (fun j _=>zDC L 8 1 j) (fun j _=>zL (by omega)) (fun _ _=>rfl)⟩
    | 10,ho =>
      have ho':=ho
      simp at ho'
      subst ho'
      refine zAO ho rfl ?_
      simp [go_sem]
      have hm:=hw.alloc 2 hL 107
      exact ⟨(fun j=>if j=2 then .pointer (some ⟨w1.heap.size,0,none⟩) else v j),(fun j=>if j=2 then w1.heap.size else g j),_,_,_,_,_,_,_,_,rfl,by first | (intro _;rfl) | (simpa [upd] using f0),by first | (intro _;rfl) | (simpa [upd] using f1),by first | (intro _;rfl) | (simpa [upd] using f2),by first | (intro _;rfl) | (simpa [upd] using f3),by first | (intro _;rfl) | (simpa [upd] using f4),by first | (intro _;rfl) | (simpa [upd] using f5),by first | (intro _;rfl) | (simpa [upd] using f6),by first | (intro _;rfl) | (simpa [upd] using f7),hm.congr (fun j _=>zDC L 8 2 j) (fun j _=>zL (by omega)) (fun _ _=>rfl)⟩
    | 11,ho =>
      have ho':=ho
      simp at ho'
      subst ho'
      have hx:=f2 (he ⟨2,.data⟩ (by simp) rfl)
      have hl:=(he ⟨8,.data⟩ (by simp) rfl)
      obtain ⟨p1,p2,p3,p4⟩:=hw.own 0 (by omega) hl
      refine zAO ho rfl ?_
      refine wp_store_mid 107 _ _ rfl (g 0) 0 (arr a) p1 hx p4 Tryz.info107 (zHz _) ?_
      have hm:=hw.store 0 (by omega) hl rfl
      exact ⟨v,g,_,_,_,_,_,_,_,_,rfl,by first | (intro _;rfl) | (simpa [upd] using f0),by first | (intro _;rfl) | (simpa [upd] using f1),by first | (intro _;rfl) | (simpa [upd] using f2),by first | (intro _;rfl) | (simpa [upd] using f3),by first | (intro _;rfl) | (simpa [upd] using f4),by first | (intro _;rfl) | (simpa [upd] using f5),by first | (intro _;rfl) | (simpa [upd] using f6),by first | (intro _;rfl) | (simpa [upd] using f7),hm.congr (fun j _=>zL (by omega)) (fun j _=>zDC L 11 0 j) (fun _ _=>rfl)⟩
    | 12,ho =>
      have ho':=ho
      simp at ho'
      subst ho'
      have hx:=f5 (he ⟨5,.data⟩ (by simp) rfl)
      have hl:=(he ⟨9,.data⟩ (by simp) rfl)
      obtain ⟨p1,p2,p3,p4⟩:=hw.own 1 (by omega) hl
      refine zAO ho rfl ?_
      refine wp_store_mid 107 _ _ rfl (g 1) 0 (arr n) p1 hx p4 Tryz.info107 (zHz _) ?_
      have hm:=hw.store 1 (by omega) hl rfl
      exact ⟨v,g,_,_,_,_,_,_,_,_,rfl,by first | (intro _;rfl) | (simpa [upd] using f0),by first | (intro _;rfl) | (simpa [upd] using f1),by first | (intro _;rfl) | (simpa [upd] using f2),by first | (intro _;rfl) | (simpa [upd] using f3),by first | (intro _;rfl) | (simpa [upd] using f4),by first | (intro _;rfl) | (simpa [upd] using f5),by first | (intro _;rfl) | (simpa [upd] using f6),by first | (intro _;rfl) | (simpa [upd] using f7),hm.congr (fun j _=>zL (by omega)) (fun j _=>zDC L 11 1 j) (fun _ _=>rfl)⟩
    | 13,ho =>
      have ho':=ho
      simp at ho'
      subst ho'
      have hx:=f7 (he ⟨7,.data⟩ (by simp) rfl)
      have hl:=(he ⟨10,.data⟩ (by simp) rfl)
      obtain ⟨p1,p2,p3,p4⟩:=hw.own 2 (by omega) hl
      refine zAO ho rfl ?_
      refine wp_store_mid 107 _ _ rfl (g 2) 0 (arr h) p1 hx p4 Tryz.info107 (zHz _) ?_
      have hm:=hw.store 2 (by omega) hl rfl
      exact ⟨v,g,_,_,_,_,_,_,_,_,rfl,by first | (intro _;rfl) | (simpa [upd] using f0),by first | (intro _;rfl) | (simpa [upd] using f1),by first | (intro _;rfl) | (simpa [upd] using f2),by first | (intro _;rfl) | (simpa [upd] using f3),by first | (intro _;rfl) | (simpa [upd] using f4),by first | (intro _;rfl) | (simpa [upd] using f5),by first | (intro _;rfl) | (simpa [upd] using f6),by first | (intro _;rfl) | (simpa [upd] using f7),hm.congr (fun j _=>zL (by omega)) (fun j _=>zDC L 11 2 j) (fun _ _=>rfl)⟩
    | j+14,ho=>simp at ho
  case fin =>
    rintro L ac w1 ⟨v,g,x9,x10,x11,x12,x13,x14,x15,x16,rfl,f0,f1,f2,f3,f4,f5,f6,f7,hw⟩ hall
    clear f0 f1 f2 f3 f4 f5 f6 f7
    have hL:∀ j,j<14→L j=true:=fun j hj=>hall j (by simpa using hj)
    have e0:=(hw.own 0 (by omega) (hL 8 (by omega))).1
    have e1:=(hw.own 1 (by omega) (hL 9 (by omega))).1
    have e2:=(hw.own 2 (by omega) (hL 10 (by omega))).1
    have r0:=(hw.has 0 (by omega) (hL 11 (by omega))).2
    have r1:=(hw.has 1 (by omega) (hL 12 (by omega))).2
    have r2:=(hw.has 2 (by omega) (hL 13 (by omega))).2
    have hbel:=hw.bel
    rw [e0,e1,e2]
    clear e0 e1 e2 hw hall hL
    generalize g 0=g0 at *
    generalize g 1=g1 at *
    generalize g 2=g2 at *
    have r0:∀ k,k<8→w1.cell? ⟨g0,k,none⟩=some (.bool (tb a k)):=fun k hk=>by simpa using r0 k _ (zLm a k hk)
    have r1:∀ k,k<8→w1.cell? ⟨g1,k,none⟩=some (.bool (tb n k)):=fun k hk=>by simpa using r1 k _ (zLm n k hk)
    have r2:∀ k,k<8→w1.cell? ⟨g2,k,none⟩=some (.bool (tb h k)):=fun k hk=>by simpa using r2 k _ (zLm h k hk)
    have R0:=zB r0
    have R1:=zB r1
    have R2:=zB r2
    have HB:=zB hbel
    clear r0 r1 r2 hbel v g
    refine hK1 _ _ ?_
    clear hK1
    go_wp2
    go_loop [17] (fun i=>∃ k:Nat,k≤8∧i=.int .i64 k∧zLt a n h k=true) (fun i=>8 - (intOf i).toNat)
    case atStart=>exact ⟨0,by omega,rfl,rfl⟩
    case round =>
      obtain ⟨k,hk,rfl,hok⟩:=hrel
      have HO:=zB hok
      clear hok
      by_cases hlt:k<8
      · have k0:(0:Int)≤(k:Int):=by omega
        have k1:(k:Int)<8:=by omega
        have c0:=zA R0 k hlt
        have c1:=zA R1 k hlt
        have c2:=zA R2 k hlt
        have HS:=zB (zKr a n h k)
        have HF:=zB (zJa a n h k 8 hlt)
        have hA:zNM a n h k=!(tb a k && !tb h k || tb n k && tb h k):=rfl
        have HA:=zB hA
        clear hA
        clear R0 R1 R2
        generalize tb a k=ba at *
        generalize tb n k=bn at *
        generalize tb h k=bh at *
        cases ba <;> cases bn <;> cases bh
        all_goals
          go_wp2
          first
          | (go_ret
             exact ⟨by rw [zA HF (zA HA)];rfl,zA HB⟩)
          | (go_round
             case rel=>exact ⟨k+1,by omega,by go_num,by rw [zA HS,zA HO,zA HA];rfl⟩
             case measure=>simp [intOf];omega)
      · obtain rfl:k=8:=by omega
        go_wp2
        go_ret
        exact ⟨by rw [zA HO];rfl,zA HB⟩
end Go.Proofs.YtnbleebilmghcabGreat
namespace Go.Proofs.YtnbleebilmghcabGreat
open Go.RowKit
theorem zOP (r:BitVec 64):IntKind.i64.wrap (r.toNat:Int)=0↔r=0#64:=by
  rw [IntKind.wrap_i64]
  have:=r.isLt
  constructor
  · intro h
    apply BitVec.eq_of_toNat_eq
    simp
    omega
  · rintro rfl;simp
theorem zPS (x y:Int):bits .and .i64 x y=0↔BitVec.ofInt 64 x &&& BitVec.ofInt 64 y=0#64:=zOP _
theorem zIA (x y:Int):bits .andNot .i64 x y=0↔BitVec.ofInt 64 x &&& ~~~BitVec.ofInt 64 y=0#64:=zOP _
theorem zBK (n:Int) (k:Nat) (h0:0≤n) (hk:k<64):(BitVec.ofInt 64 n).getLsbD k=tb n k:=by
  obtain ⟨m,rfl⟩:=Int.eq_ofNat_of_zero_le h0
  rw [BitVec.ofInt_natCast,BitVec.getLsbD_ofNat,Nat.testBit_eq_decide_div_mod_eq]
  unfold tb
  rw [show ((m:Int) / ((2 ^ k:Nat):Int) % 2)=((m / 2 ^ k % 2:Nat):Int) by push_cast;rfl]
  generalize m / 2 ^ k % 2=q
  rw [Bool.eq_iff_iff]
  simp only [hk,decide_true,Bool.true_and,decide_eq_true_eq,beq_iff_eq]
  omega
theorem zND (n:Int) (k:Nat) (h0:0≤n) (h1:n≤255) (hk:8≤k):tb n k=false:=by
  obtain ⟨m,rfl⟩:=Int.eq_ofNat_of_zero_le h0
  unfold tb
  have h2:256≤2 ^ k:=by
    have:=Nat.pow_le_pow_right (n:=2) (by omega) hk
    omega
  have e:m / 2 ^ k=0:=Nat.div_eq_of_lt (by omega)
  rw [show ((m:Int) / ((2 ^ k:Nat):Int) % 2)=((m / 2 ^ k % 2:Nat):Int) by push_cast;rfl,e]
  decide
theorem zMc (a n h:Int) (m:Nat):zLt a n h m=true↔∀ k,k<m→zNM a n h k=true:=by
  unfold zLt;rw [List.all_eq_true];simp
theorem zMg (a n h:Int) (a0:0≤a) (a1:a≤255) (n0:0≤n) (n1:n≤255) (h0:0≤h):zCr a n h=zLt a n h 8:=by
  rw [Bool.eq_iff_iff,zMc]
  simp only [zCr,Bool.and_eq_true,beq_iff_eq,zPS,zIA]
  constructor
  · rintro ⟨e1,e2⟩ k hk
    have g1:=congrArg (fun v:BitVec 64=>v.getLsbD k) e1
    have g2:=congrArg (fun v:BitVec 64=>v.getLsbD k) e2
    simp only [BitVec.getLsbD_and,BitVec.getLsbD_not,zBK _ k a0 (by omega),zBK _ k h0 (by omega),zBK _ k n0 (by omega),BitVec.getLsbD_zero] at g1 g2
    have hk64:decide (k<64)=true:=by simp;omega
    rw [hk64] at g1
    unfold zNM
    revert g1 g2
    cases tb a k <;> cases tb n k <;> cases tb h k <;> simp
  · intro hall
    constructor
    · apply BitVec.eq_of_getLsbD_eq
      intro i hi
      rw [BitVec.getLsbD_and,BitVec.getLsbD_not,zBK _ i a0 hi,zBK _ i h0 hi,BitVec.getLsbD_zero]
      by_cases h8:i<8
      · have:=hall i h8
        unfold zNM at this
        revert this
        cases tb a i <;> cases tb n i <;> cases tb h i <;> simp
      · rw [zND a i a0 a1 (by omega)];simp
    · apply BitVec.eq_of_getLsbD_eq
      intro i hi
      rw [BitVec.getLsbD_and,zBK _ i n0 hi,zBK _ i h0 hi,BitVec.getLsbD_zero]
      by_cases h8:i<8
      · have:=hall i h8
        unfold zNM at this
        revert this
        cases tb a i <;> cases tb n i <;> cases tb h i <;> simp
      · rw [zND n i n0 n1 (by omega)];simp
theorem zMm (a k:Int) (a0:0≤a) (a1:a≤255):(bits .and .i64 a (zAr k) != 0)=zFH a k:=by
  by_cases hk:0≤k∧k<8
  · obtain ⟨j,rfl⟩:=Int.eq_ofNat_of_zero_le hk.1
    rw [zLP a j a0 a1 (by omega)]
    simp [zFH,hk]
  · have e:zAr k=0:=by unfold zAr;rw [if_neg hk]
    obtain ⟨m,rfl⟩:=zDv a a0 a1
    rw [e,(num_fin m).2.2.2]
    simp [zFH,hk]
end Go.Proofs.YtnbleebilmghcabGreat
set_option maxHeartbeats 4000000
set_option maxRecDepth 8000
namespace Go.Proofs.YtnbleebilmghcabGreat
open Go Go.RowKit
attribute [local go_sem ↓] Go.wp_at_zero Go.wp_at_succ
theorem info40:(Tryz.prog.info? 61).map (fun i=>(i.zero,i.size,i.bytes))=some (some (.agg #[.int .i64 0,.int .i64 0]),2,16):=by kernel_rfl
def zn (l:List (Int×Int)):List Value:=l.flatMap fun b=>[.int .i64 b.1,.int .i64 b.2]
theorem zIm (l m:List (Int×Int)):zn (l++m)=zn l++zn m:=by simp [zn]
def zCv (X:Wd) (a n:Int) (j:Nat):List (Int×Int):=((X.rows.take j).filter fun r=>zCr a n r.has).map fun r=>(r.ix,r.gen)
theorem zHJ (X:Wd) (a n:Int) (j:Nat) (h:j<X.rows.length):zCv X a n (j+1)=if zCr a n (X.rows.getD j dR).has=true then zCv X a n j++[((X.rows.getD j dR).ix,(X.rows.getD j dR).gen)] else zCv X a n j:=by
  unfold zCv
  rw [List.take_succ_eq_append_getElem h,List.filter_append,List.map_append,List.getD_eq_getElem?_getD,List.getElem?_eq_getElem h,Option.getD_some]
  cases hm:zCr a n X.rows[j].has <;> simp [hm]
theorem zGO (X:Wd) (a n:Int) (j:Nat):(zCv X a n j).length≤j:=by
  unfold zCv
  rw [List.length_map]
  exact Nat.le_trans (List.length_filter_le _ _) (by rw [List.length_take];omega)
structure MB (w:World) (a n:Int) (W:World):Prop where
  bel:Below w.heap.size w W
  sz:w.heap.size+2≤W.heap.size
  f0:W.cell? ⟨w.heap.size+1,0,none⟩=some (.int .i64 a)
  f1:W.cell? ⟨w.heap.size+1,1,none⟩=some (.int .i64 n)
theorem MB.keep {w W W1:World} {a n:Int} (h:MB w a n W) (hb:Below (w.heap.size+2) W W1):MB w a n W1 :=
  ⟨h.bel.trans (hb.mono (by omega)),Nat.le_trans h.sz hb.size,(hb.cell (p:=⟨w.heap.size+1,0,none⟩) (by simp)).trans h.f0,(hb.cell (p:=⟨w.heap.size+1,1,none⟩) (by simp)).trans h.f1⟩
theorem MB.below {w W W1:World} {a n:Int} (h:MB w a n W) (hb:Below W.heap.size W W1):MB w a n W1:=h.keep (hb.mono h.sz)
theorem MB.start (w:World) (u0 u1:Value) (a n:Int):MB w a n ((w.alloc (.cells #[u0,u1] 43)).alloc (.cells #[.int .i64 a,.int .i64 n] 34)):=by
  have hb:=zCx w (.cells #[u0,u1] 43) (.cells #[.int .i64 a,.int .i64 n] 34)
  exact ⟨hb,by simp,by simp [go_sem],by simp [go_sem]⟩
theorem zGD (w:World) (x y:Value) (t:TypeId):∀ j u,[x,y][j]?=some u→(w.alloc (.cells #[x,y] t)).cell? ((⟨w.heap.size,0,none⟩:Addr).add j)=some u:=by
  intro j u hj
  match j,hj with
  | 0,hj=>simp at hj;subst hj;simp [Addr.add]
  | 1,hj=>simp at hj;subst hj;simp [Addr.add]
theorem zGC (x y:Int):∀ u∈[Value.int .i64 x,Value.int .i64 y],u.oneCell'=true:=by
  intro u hu;simp at hu;rcases hu with rfl | rfl <;> rfl
theorem zLD (A:Option Addr) (cap:Nat) (G:Option Addr) (gcap:Nat) (X:Wd) (a n:Int) (w:World) (hn:X.rows.length≤1000000) (hX:WldAt w A cap G gcap X) :
    Calls Tryz.prog 52 #[zi A cap G gcap X,.agg #[.int .i64 a,.int .i64 n]] w fun e w'=>∃ v,e=.returned v∧w'.ownsRow (w.heap.size+2) 61 2 v (zCv X a n X.rows.length).length (zn (zCv X a n X.rows.length))∧Below w.heap.size w w':=by
  obtain ⟨i40,hi,hz,hs,hb⟩:=info_parts info40
  have hME:∀ j,j<X.rows.length→∀ W,Calls Tryz.prog 95 #[.agg #[.int .i64 a,.int .i64 n],.int .i64 (X.rows.getD j dR).has] W fun e w'=>e=.returned (.bool (zCr a n (X.rows.getD j dR).has))∧Below W.heap.size W w':=fun j hj W=>(zLC a n _ W).mono fun e w' ⟨he,hw⟩=>⟨he,by rw [hw];exact zAS _ _⟩
  have HI:=zB hi
  have HZ:=zB hz
  have HS:=zB hs
  have HB:=zB hb
  have HM:=zB (MB.start w (.slice A X.rows.length cap) (.slice G X.gens.length gcap) a n)
  have HX:=zB hX
  have HME:=zB hME
  clear hi hz hs hb hX hME
  unfold zi zM
  go_enter Tryz.func52,Tryz.ntmps52
  go_wp2
  go_loopw [5,11] (fun v i wr=>∃ j:Nat,j≤X.rows.length∧i=.int .i64 j∧wr.ownsRow (w.heap.size+2) 61 2 v (zCv X a n j).length (zn (zCv X a n j))∧MB w a n wr) (fun _ i _=>X.rows.length - (intOf i).toNat)
  case atStart=>exact ⟨0,Nat.zero_le _,rfl,World.ownsRow_nil _ _ _ _,zA HM⟩
  case round =>
    clear HM
    obtain ⟨j,hj,rfl,ho,hM⟩:=hrel
    by_cases hlt:j<X.rows.length
    · have j0:(0:Int)≤(j:Int):=by omega
      have j1:(j:Int)<(X.rows.length:Int):=by omega
      obtain ⟨b,off,hA,hrow⟩:=(zA HX).rows j hlt
      have hrow:RowAt wr b (off+j*11) (X.rows.getD j dR):=hrow.below hM.bel
      have c0:=hrow.c0
      have c1:=hrow.c1
      have c2:=hrow.c2
      have c3:=hrow.v 0 (by omega)
      have c4:=hrow.v 1 (by omega)
      have c5:=hrow.v 2 (by omega)
      have c6:=hrow.v 3 (by omega)
      have c7:=hrow.v 4 (by omega)
      have c8:=hrow.v 5 (by omega)
      have c9:=hrow.v 6 (by omega)
      have c10:=hrow.v 7 (by omega)
      simp only [Nat.add_assoc,Nat.reduceAdd] at c3 c4 c5 c6 c7 c8 c9 c10
      simp only [←Nat.add_assoc] at c3 c4 c5 c6 c7 c8 c9 c10
      have f0:=hM.f0
      have f1:=hM.f1
      have lf:=World.block_lt_of_cell? wr _ f0
      have lf2:=Nat.lt_of_succ_lt lf
      have HC:=zB (zA HME j hlt)
      have HST:=zB (zHJ X a n j hlt)
      have hbl:=zGO X a n j
      subst hA
      have HO:=zB ho
      have HM:=zB hM
      clear ho hM hrow HX HME
      generalize zCv X a n j=bs at *
      generalize X.rows.getD j dR=x at *
      obtain ⟨ix,gen,has,v⟩:=x
      dsimp only at *
      generalize zCr a n has=me at *
      cases me
      · have HEQ:=zB ((zA HST).trans (if_neg (by simp)))
        go_wp2_with (first
          | (go_at_call 95;refine (zA HC _).mono ?_;rintro e w5 ⟨rfl,hb5⟩;have HB5:=zB (zAz _ _ hb5);clear hb5))
        go_roundw
        case rel=>exact ⟨j+1,by omega,by go_num,by rw [zA HEQ];exact zc (zA HO) (zA HB5),(zA HM).below (zA HB5)⟩
        case measure=>simp [intOf];omega
      · have HEQ:=zB ((zA HST).trans (if_pos rfl))
        go_wp2_with (first
          | (go_at_call 95;refine (zA HC _).mono ?_;rintro e w5 ⟨rfl,hb5⟩;have d0:=zC hb5 (p:=⟨wr.heap.size,0,none⟩) (v:=.int .i64 ix) (by simp [go_sem]);have d1:=zC hb5 (p:=⟨wr.heap.size,1,none⟩) (v:=.int .i64 gen) (by simp [go_sem]);have HO5:=zB (zc (zA HO) (zAz _ _ hb5));have HM5:=zB ((zA HM).below (zAz _ _ hb5));clear hb5)
          | (at_builtin;refine ze _ rfl (.tmp 19) (.tmp 22) 62 rfl (w.heap.size+2) 61 i40 (.agg #[.int .i64 0,.int .i64 0]) 2 16 Tryz.underlying62 (zA HI) (zA HZ) (zA HS) (zA HB) rfl (by decide) _ bs.length (zn bs) rfl ((zA HO5).alloc _) ⟨w5.heap.size,0,none⟩ 1 1 [.int .i64 ix,.int .i64 gen] rfl rfl (zGD _ _ _ _) (zGC _ _) (by unfold maxLen;omega) (by omega) (by simp;have:=(zA HM5).sz;omega) (by omega) ?_;intro g capg w7 ho7 hg7 hw7;have HO7:=zB ho7;have HG7:=zB hg7;clear ho7 hg7 hw7))
        go_roundw
        case rel =>
          refine ⟨j+1,by omega,by go_num,?_,?_⟩
          · rw [zA HEQ,zIm,List.length_append];exact zA HO7
          · have h1:=(zA HM5).below (zAS w5 (.cells #[.int .i64 ix,.int .i64 gen] 61))
            exact h1.keep (zZ (zA HG7) (fun k hk=>((zA HO5).lt k hk).1) h1.sz)
        case measure=>simp [intOf];omega
    · obtain rfl:j=X.rows.length:=by omega
      have HO:=zB ho
      have HBW:=zB hM.bel
      clear ho hM HX HME
      go_wp2
      go_ret
      exact ⟨_,rfl,zA HO,zA HBW⟩
theorem zJQ (A:Option Addr) (cap:Nat) (G:Option Addr) (gcap:Nat) (X:Wd) (a n:Int) (w:World) (hn:X.rows.length≤1000000) (hX:WldAt w A cap G gcap X) (ha:zAR a=true) (hna:zAR n=true) (hR:∀ j,j<X.rows.length→zAR (X.rows.getD j dR).has=true) :
    Calls Tryz.prog 57 #[zi A cap G gcap X,.agg #[.int .i64 a,.int .i64 n]] w fun e w'=>∃ v,e=.returned v∧w'.ownsRow (w.heap.size+2) 61 2 v (zCv X a n X.rows.length).length (zn (zCv X a n X.rows.length))∧Below w.heap.size w w':=by
  obtain ⟨i40,hi,hz,hs,hb⟩:=info_parts info40
  have hME:∀ j,j<X.rows.length→∀ W,Calls Tryz.prog 83 #[.agg #[.int .i64 a,.int .i64 n],.int .i64 (X.rows.getD j dR).has] W fun e w'=>e=.returned (.bool (zCr a n (X.rows.getD j dR).has))∧Below W.heap.size W w':=fun j hj W=>by
    have q1:=zCg ha
    have q2:=zCg hna
    have q3:=zCg (hR j hj)
    have:=zJP a n (X.rows.getD j dR).has W q1.1 q1.2 q2.1 q2.2 q3.1 q3.2
    rw [←zMg a n _ q1.1 q1.2 q2.1 q2.2 q3.1] at this
    exact this
  have HI:=zB hi
  have HZ:=zB hz
  have HS:=zB hs
  have HB:=zB hb
  have HM:=zB (MB.start w (.slice A X.rows.length cap) (.slice G X.gens.length gcap) a n)
  have HX:=zB hX
  have HME:=zB hME
  clear hi hz hs hb hX hME
  unfold zi zM
  go_enter Tryz.func57,Tryz.ntmps57
  go_wp2
  go_loopw [5,11] (fun v i wr=>∃ j:Nat,j≤X.rows.length∧i=.int .i64 j∧wr.ownsRow (w.heap.size+2) 61 2 v (zCv X a n j).length (zn (zCv X a n j))∧MB w a n wr) (fun _ i _=>X.rows.length - (intOf i).toNat)
  case atStart=>exact ⟨0,Nat.zero_le _,rfl,World.ownsRow_nil _ _ _ _,zA HM⟩
  case round =>
    clear HM
    obtain ⟨j,hj,rfl,ho,hM⟩:=hrel
    by_cases hlt:j<X.rows.length
    · have j0:(0:Int)≤(j:Int):=by omega
      have j1:(j:Int)<(X.rows.length:Int):=by omega
      obtain ⟨b,off,hA,hrow⟩:=(zA HX).rows j hlt
      have hrow:RowAt wr b (off+j*11) (X.rows.getD j dR):=hrow.below hM.bel
      have c0:=hrow.c0
      have c1:=hrow.c1
      have c2:=hrow.c2
      have c3:=hrow.v 0 (by omega)
      have c4:=hrow.v 1 (by omega)
      have c5:=hrow.v 2 (by omega)
      have c6:=hrow.v 3 (by omega)
      have c7:=hrow.v 4 (by omega)
      have c8:=hrow.v 5 (by omega)
      have c9:=hrow.v 6 (by omega)
      have c10:=hrow.v 7 (by omega)
      simp only [Nat.add_assoc,Nat.reduceAdd] at c3 c4 c5 c6 c7 c8 c9 c10
      simp only [←Nat.add_assoc] at c3 c4 c5 c6 c7 c8 c9 c10
      have f0:=hM.f0
      have f1:=hM.f1
      have lf:=World.block_lt_of_cell? wr _ f0
      have lf2:=Nat.lt_of_succ_lt lf
      have HC:=zB (zA HME j hlt)
      have HST:=zB (zHJ X a n j hlt)
      have hbl:=zGO X a n j
      subst hA
      have HO:=zB ho
      have HM:=zB hM
      clear ho hM hrow HX HME
      generalize zCv X a n j=bs at *
      generalize X.rows.getD j dR=x at *
      obtain ⟨ix,gen,has,v⟩:=x
      dsimp only at *
      generalize zCr a n has=me at *
      cases me
      · have HEQ:=zB ((zA HST).trans (if_neg (by simp)))
        go_wp2_with (first
          | (go_at_call 83;refine (zA HC _).mono ?_;rintro e w5 ⟨rfl,hb5⟩;have HB5:=zB (zAz _ _ hb5);clear hb5))
        go_roundw
        case rel=>exact ⟨j+1,by omega,by go_num,by rw [zA HEQ];exact zc (zA HO) (zA HB5),(zA HM).below (zA HB5)⟩
        case measure=>simp [intOf];omega
      · have HEQ:=zB ((zA HST).trans (if_pos rfl))
        go_wp2_with (first
          | (go_at_call 83;refine (zA HC _).mono ?_;rintro e w5 ⟨rfl,hb5⟩;have d0:=zC hb5 (p:=⟨wr.heap.size,0,none⟩) (v:=.int .i64 ix) (by simp [go_sem]);have d1:=zC hb5 (p:=⟨wr.heap.size,1,none⟩) (v:=.int .i64 gen) (by simp [go_sem]);have HO5:=zB (zc (zA HO) (zAz _ _ hb5));have HM5:=zB ((zA HM).below (zAz _ _ hb5));clear hb5)
          | (at_builtin;refine ze _ rfl (.tmp 19) (.tmp 22) 62 rfl (w.heap.size+2) 61 i40 (.agg #[.int .i64 0,.int .i64 0]) 2 16 Tryz.underlying62 (zA HI) (zA HZ) (zA HS) (zA HB) rfl (by decide) _ bs.length (zn bs) rfl ((zA HO5).alloc _) ⟨w5.heap.size,0,none⟩ 1 1 [.int .i64 ix,.int .i64 gen] rfl rfl (zGD _ _ _ _) (zGC _ _) (by unfold maxLen;omega) (by omega) (by simp;have:=(zA HM5).sz;omega) (by omega) ?_;intro g capg w7 ho7 hg7 hw7;have HO7:=zB ho7;have HG7:=zB hg7;clear ho7 hg7 hw7))
        go_roundw
        case rel =>
          refine ⟨j+1,by omega,by go_num,?_,?_⟩
          · rw [zA HEQ,zIm,List.length_append];exact zA HO7
          · have h1:=(zA HM5).below (zAS w5 (.cells #[.int .i64 ix,.int .i64 gen] 61))
            exact h1.keep (zZ (zA HG7) (fun k hk=>((zA HO5).lt k hk).1) h1.sz)
        case measure=>simp [intOf];omega
    · obtain rfl:j=X.rows.length:=by omega
      have HO:=zB ho
      have HBW:=zB hM.bel
      clear ho hM HX HME
      go_wp2
      go_ret
      exact ⟨_,rfl,zA HO,zA HBW⟩
def BsAt (w:World) (A:Option Addr) (l:List (Int×Int)):Prop:=∀ j,j<l.length→∃ b off,A=some ⟨b,off,none⟩∧w.cell? ⟨b,off+j*2,none⟩=some (.int .i64 (l.getD j (0,0)).1)∧w.cell? ⟨b,off+j*2+1,none⟩=some (.int .i64 (l.getD j (0,0)).2)
theorem BsAt.below {w w1:World} {A:Option Addr} {l:List (Int×Int)} (h:BsAt w A l) (hb:Below w.heap.size w w1):BsAt w1 A l:=fun j hj=>by
  obtain ⟨b,off,h0,h1,h2⟩:=h j hj
  exact ⟨b,off,h0,zC hb h1,zC hb h2⟩
theorem bs_get:∀ (l:List (Int×Int)) (j:Nat),j<l.length→(zn l)[j*2]?=some (.int .i64 (l.getD j (0,0)).1)∧(zn l)[j*2+1]?=some (.int .i64 (l.getD j (0,0)).2)
  | [],j,h=>by simp at h
  | x :: l,0,_=>by simp [zn]
  | x :: l,j+1,h=>by
    have:=bs_get l j (by simpa using h)
    have e:zn (x :: l)=.int .i64 x.1 :: .int .i64 x.2 :: zn l:=rfl
    rw [e,show (j+1)*2=j*2+1+1 by omega]
    simpa using this
theorem zIl {W:World} {base:Nat} {v:Value} {l:List (Int×Int)} (h:W.ownsRow base 61 2 v l.length (zn l)):∃ A cap,v=.slice A l.length cap∧BsAt W A l:=by
  by_cases h0:0<l.length
  · obtain ⟨g,cap,rfl,_,_⟩:=zAP h h0
    refine ⟨some ⟨g,0,none⟩,cap,rfl,fun j hj=>⟨g,0,rfl,?_,?_⟩⟩
    · rw [Nat.zero_add];exact zh h (bs_get l j hj).1
    · rw [Nat.zero_add];exact zh h (bs_get l j hj).2
  · obtain rfl:l=[]:=List.eq_nil_of_length_eq_zero (by omega)
    rcases h.2 with ⟨rfl,_⟩ | ⟨g,cap,cur,rfl,_⟩
    · exact ⟨none,0,rfl,fun j hj=>by simp at hj⟩
    · exact ⟨_,cap,rfl,fun j hj=>by simp at hj⟩
theorem zHU (A:Option Addr) (c:Nat) (A':Option Addr) (c':Nat) (l:List (Int×Int)) (w:World) (hl:l.length≤4194304) (hA:BsAt w A l) (hA':BsAt w A' l) :
    Calls Tryz.prog 28 #[.slice A l.length c,.slice A' l.length c'] w fun e w'=>e=.returned (.bool true)∧Below w.heap.size w w':=by
  have HA:=zB hA
  have HA':=zB hA'
  clear hA hA'
  go_enter Tryz.func28,Tryz.ntmps28
  go_wp2
  go_loopw [13] (fun x wr=>∃ j:Nat,j≤l.length∧x=.int .i64 j∧Below w.heap.size w wr) (fun x _=>l.length - (intOf x).toNat)
  case atStart=>exact ⟨0,Nat.zero_le _,rfl,Below.refl _ _⟩
  case round =>
    obtain ⟨j,hj,rfl,hbr⟩:=hrel
    by_cases hlt:j<l.length
    · have j0:(0:Int)≤(j:Int):=by omega
      have j1:(j:Int)<(l.length:Int):=by omega
      obtain ⟨b,off,rfl,h1,h2⟩:=zA HA j hlt
      obtain ⟨b',off',rfl,h3,h4⟩:=zA HA' j hlt
      have c0:=zC hbr h1
      have c1:=zC hbr h2
      have d0:=zC hbr h3
      have d1:=zC hbr h4
      have HBR:=zB hbr
      clear h1 h2 h3 h4 hbr HA HA'
      go_wp2
      go_quiet (fail)
      go_wp2
      go_roundw
      case rel=>exact ⟨j+1,by omega,by go_num,zz (zA HBR) _⟩
      case measure=>simp [intOf];omega
    · obtain rfl:j=l.length:=by omega
      have HBR:=zB hbr
      clear hbr HA HA'
      go_wp2
      go_ret
      exact ⟨rfl,zA HBR⟩
end Go.Proofs.YtnbleebilmghcabGreat
set_option maxHeartbeats 4000000
set_option maxRecDepth 8000
namespace Go.Proofs.YtnbleebilmghcabGreat
open Go Go.RowKit
attribute [local go_sem ↓] Go.wp_at_zero Go.wp_at_succ
theorem zEt (A:Option Addr) (cap:Nat) (G:Option Addr) (gcap:Nat) (X:Wd) (w:World) (hn:X.rows.length≤140737488355328) (hgn:X.gens.length≤140737488355328) (hgv:∀ j,j<X.gens.length→-9223372036854775808≤X.gens.getD j 0) (hX:WldAt w A cap G gcap X) :
    Calls Tryz.prog 99 #[zi A cap G gcap X] w fun e w'=>e=.returned (.tuple #[zS (zAM X).1.1 (zAM X).1.2,.int .i64 (zAM X).2])∧Below w.heap.size w w':=by
  obtain ⟨W1,hW1⟩:∃ W,W=w.alloc (.cells #[.slice A X.rows.length cap,.slice G X.gens.length gcap] 43):=⟨_,rfl⟩
  have z1:W1.heap.size=w.heap.size+1:=by rw [hW1];simp
  have b1:Below w.heap.size w W1:=by rw [hW1];go_grown
  obtain ⟨y0,y1,yf,yb⟩:=zAe (W:=W1) (u0:=.int .i64 0) (u1:=.int .i64 0) (t:=61) z1
  have hAB:AB w (w.heap.size+1) (.int .i64 0) (.int .i64 0) (W1.alloc (.cells #[.int .i64 0,.int .i64 0] 61)):=⟨b1.trans (yb.mono b1.size),by omega,y0,y1,yf⟩
  have hN:NW1 w (.slice A X.rows.length cap) (.slice G X.gens.length gcap) (W1.alloc (.cells #[.int .i64 0,.int .i64 0] 61)):=(hW1▸NW1.start w _ _:NW1 w (.slice A X.rows.length cap) (.slice G X.gens.length gcap) W1).below yb
  rw [hW1] at hAB hN
  have HAB:=zB hAB
  have HN:=zB hN
  have HG:=zB hX.gens
  have HR:=zB hX.rows
  have HGV:=zB hgv
  clear hAB hN hW1 z1 b1 y0 y1 yf yb hX hgv
  unfold zi zM zS zAM at *
  go_enter Tryz.func99,Tryz.ntmps99
  go_wp2
  go_loopw [12] (fun i wr=>∃ j:Nat,j≤X.gens.length∧i=.int .i64 j∧zFB X X.gens.length 0=zFB X (X.gens.length - j) j∧AB w (w.heap.size+1) (.int .i64 0) (.int .i64 0) wr∧NW1 w (.slice A X.rows.length cap) (.slice G X.gens.length gcap) wr) (fun i _=>X.gens.length - (intOf i).toNat)
  case atStart=>exact ⟨0,Nat.zero_le _,rfl,rfl,zA HAB,zA HN⟩
  case round =>
    clear HAB HN
    obtain ⟨j,hj,rfl,hF,hA5,hN5⟩:=hrel
    have HF:=zB hF
    clear hF
    by_cases hlt:j<X.gens.length
    · have j0:(0:Int)≤(j:Int):=by omega
      have j1:(j:Int)<(X.gens.length:Int):=by omega
      obtain ⟨b,off,hGe,hg⟩:=(zA HG) j hlt
      have hg:wr.cell? ⟨b,off+j,none⟩=some (.int .i64 (X.gens.getD j 0)):=zC hN5.bel hg
      have hgv:=zA HGV j hlt
      have r0:=hN5.r0
      have HS:=zB (zGw X X.gens.length j hlt)
      have HA5:=zB hA5
      have HN5:=zB hN5
      subst hGe
      clear HG HGV hA5 hN5
      generalize X.gens.getD j 0=gj at *
      obtain ⟨fr,hfr⟩:∃ fr,fr=decide (gj<1000):=⟨_,rfl⟩
      have HFR:=zB hfr
      go_wp2
      clear hg r0
      go_loopw [6,22] (fun t i wr=>∃ k:Nat,k≤X.rows.length∧i=.int .i64 k∧t=.bool (decide (gj<1000) && !(zCl X.rows k j))∧AB w (w.heap.size+1) (.int .i64 0) (.int .i64 0) wr∧NW1 w (.slice A X.rows.length cap) (.slice (some ⟨b,off,none⟩) X.gens.length gcap) wr) (fun _ i _=>X.rows.length - (intOf i).toNat)
      case atStart=>exact ⟨0,Nat.zero_le _,rfl,by simp [zCl],zA HA5,zA HN5⟩
      case round =>
        clear HA5 HN5
        obtain ⟨k,hk,rfl,rfl,hA6,hN6⟩:=hrel
        by_cases hkl:k<X.rows.length
        · have k0:(0:Int)≤(k:Int):=by omega
          have k1:(k:Int)<(X.rows.length:Int):=by omega
          obtain ⟨b2,o2,hA,hrow⟩:=(zA HR) k hkl
          have hrow:RowAt wr b2 (o2+k*11) (X.rows.getD k dR):=hrow.below hN6.bel
          have c0:=hrow.c0
          have c1:=hrow.c1
          have c2:=hrow.c2
          have c3:=hrow.v 0 (by omega)
          have c4:=hrow.v 1 (by omega)
          have c5:=hrow.v 2 (by omega)
          have c6:=hrow.v 3 (by omega)
          have c7:=hrow.v 4 (by omega)
          have c8:=hrow.v 5 (by omega)
          have c9:=hrow.v 6 (by omega)
          have c10:=hrow.v 7 (by omega)
          simp only [Nat.add_assoc,Nat.reduceAdd] at c3 c4 c5 c6 c7 c8 c9 c10
          simp only [←Nat.add_assoc] at c3 c4 c5 c6 c7 c8 c9 c10
          have HUS:=zB (zED X.rows k j hkl)
          have HA6:=zB hA6
          have HN6:=zB hN6
          subst hA
          clear hrow hA6 hN6 HR HF HS HFR hfr
          generalize X.rows.getD k dR=x at *
          obtain ⟨ix,gen,has,v⟩:=x
          dsimp only at *
          generalize zCl X.rows k j=ub at *
          generalize decide (gj<1000)=de at *
          have hc:(de && !ub)=false∨((de=true∧ub=false)∧(ix=(j:Int)∨ix≠(j:Int))):=by
            cases de <;> cases ub <;> simp
            exact Decidable.em _
          rcases hc with h1 | ⟨⟨rfl,rfl⟩,rfl | h1⟩
          · rw [h1]
            go_wp2
            go_roundw
            case rel=>exact ⟨k+1,by omega,by go_num,by rw [zA HUS];cases de <;> cases ub <;> simp_all,(zA HA6).below (zAS _ _),(zA HN6).below (zAS _ _)⟩
            case measure=>simp [intOf];omega
          · go_wp2
            go_roundw
            case rel=>exact ⟨k+1,by omega,by go_num,by rw [zA HUS];simp,(zA HA6).below (zAS _ _),(zA HN6).below (zAS _ _)⟩
            case measure=>simp [intOf];omega
          · have h2:(ix == (j:Int))=false:=by simpa using h1
            go_wp2
            go_roundw
            case rel=>exact ⟨k+1,by omega,by go_num,by rw [zA HUS];simp [bne],(zA HA6).below (zAS _ _),(zA HN6).below (zAS _ _)⟩
            case measure=>simp [intOf];omega
        · obtain rfl:k=X.rows.length:=by omega
          have HA6:=zB hA6
          have HN6:=zB hN6
          clear hA6 hN6 HR
          generalize zCl X.rows X.rows.length j=ub at *
          by_cases hg1:gj<1000
          · cases ub
            · have e:(decide (gj<1000) && !false)=true:=by simp [hg1]
              rw [e]
              go_wp2_with (first
                | (refine zG rfl 61 (.tmp 2) (.tmp 39) rfl (w.heap.size+1) 0 [.int .i64 (j:Int),.int .i64 (gj+1)] rfl rfl (by simp [Value.oneCell']) size40 (zA HA6).there ?_;intro W3 hW3;have hA7:=(zA HA6).give (.int .i64 (j:Int)) (.int .i64 (gj+1));rw [←hW3] at hA7;have HA7:=zB hA7;clear hW3 hA7))
              have t0:=(zA HA7).t0
              have t1:=(zA HA7).t1
              have hv:=(zA HF).trans ((zA HS).trans (if_pos (by simpa using hg1)))
              refine bodyPost_ret (v:=.tuple #[.agg #[.int .i64 (j:Int),.int .i64 (gj+1)],.int .i64 0]) (by simp [results,Tryz.results99,go_sem,t0,t1]) rfl ⟨by rw [hv],(zA HA7).bel⟩
            · have e:(decide (gj<1000) && !true)=false:=by simp
              rw [e]
              go_wp2
              go_roundw
              case rel=>exact ⟨j+1,by omega,by go_num,(zA HF).trans ((zA HS).trans (by simp)),zA HA6,zA HN6⟩
              case measure=>simp [intOf];omega
          · have e:(decide (gj<1000) && !ub)=false:=by simp [hg1]
            rw [e]
            go_wp2
            go_roundw
            case rel=>exact ⟨j+1,by omega,by go_num,(zA HF).trans ((zA HS).trans (if_neg (fun h=>hg1 h.2))),zA HA6,zA HN6⟩
            case measure=>simp [intOf];omega
    · obtain rfl:j=X.gens.length:=by omega
      have hv0:zFB X X.gens.length 0=if 60≤X.gens.length then ((0,0),4) else ((((X.gens.length:Nat):Int),1),0):=by rw [zA HF,Nat.sub_self];rfl
      have HV:=zB hv0
      have r1:=hN5.r1
      have HA5:=zB hA5
      clear HG HGV HR HF hv0 hA5 hN5
      by_cases h60:60≤X.gens.length
      · have h60':(60:Int)≤(X.gens.length:Int):=by omega
        go_wp2_with (first
          | (refine zG rfl 61 (.tmp 2) (.tmp 45) rfl (w.heap.size+1) 0 [.int .i64 0,.int .i64 0] rfl rfl (by simp [Value.oneCell']) size40 (zA HA5).there ?_;intro W3 hW3;have hA6:=(zA HA5).give (.int .i64 0) (.int .i64 0);rw [←hW3] at hA6;have HA6:=zB hA6;clear hW3 hA6))
        have t0:=(zA HA6).t0
        have t1:=(zA HA6).t1
        have hv:=(zA HV).trans (if_pos h60)
        refine bodyPost_ret (v:=.tuple #[.agg #[.int .i64 0,.int .i64 0],.int .i64 4]) (by simp [results,Tryz.results99,go_sem,t0,t1]) rfl ⟨by rw [hv],(zA HA6).bel⟩
      · have h60':¬ (60:Int)≤(X.gens.length:Int):=by omega
        go_wp2_with (first
          | (refine zG rfl 61 (.tmp 2) (.tmp 49) rfl (w.heap.size+1) 0 [.int .i64 (X.gens.length:Int),.int .i64 1] rfl rfl (by simp [Value.oneCell']) size40 (zA HA5).there ?_;intro W3 hW3;have hA6:=(zA HA5).give (.int .i64 (X.gens.length:Int)) (.int .i64 1);rw [←hW3] at hA6;have HA6:=zB hA6;clear hW3 hA6))
        have t0:=(zA HA6).t0
        have t1:=(zA HA6).t1
        have hv:=(zA HV).trans (if_neg h60)
        refine bodyPost_ret (v:=.tuple #[.agg #[.int .i64 (X.gens.length:Int),.int .i64 1],.int .i64 0]) (by simp [results,Tryz.results99,go_sem,t0,t1]) rfl ⟨by rw [hv],(zA HA6).bel⟩
end Go.Proofs.YtnbleebilmghcabGreat
namespace Go.Proofs.YtnbleebilmghcabGreat
open Go Go.RowKit
theorem B13.keep {b:Nat} {u0 u1:Value} {W W1:World} (h:B13 b u0 u1 W) (hb:Below (b+1) W W1):B13 b u0 u1 W1 :=
  ⟨(hb.cell (p:=⟨b,0,none⟩) (by simp)).trans h.e0,(hb.cell (p:=⟨b,1,none⟩) (by simp)).trans h.e1,fun i=>(hb.frozen (p:=⟨b,i,none⟩) (by simp)).trans (h.f i)⟩
theorem zDx (r:RowI):zD [r]=zH r:=by simp [zD]
theorem zCU (W:World) (r:RowI):∀ j u,(zH r)[j]?=some u→(W.alloc (.cells #[.int .i64 r.ix,.int .i64 r.gen,.int .i64 r.has,.int .i64 (r.v 0),.int .i64 (r.v 1),.int .i64 (r.v 2),.int .i64 (r.v 3),.int .i64 (r.v 4),.int .i64 (r.v 5),.int .i64 (r.v 6),.int .i64 (r.v 7)] 116)).cell? ((⟨W.heap.size,0,none⟩:Addr).add j)=some u:=(zHP W r).src
end Go.Proofs.YtnbleebilmghcabGreat
namespace Go.Proofs.YtnbleebilmghcabGreat
open Go Go.RowKit
attribute [local go_sem ↓] Go.wp_at_zero Go.wp_at_succ
theorem zFw {X:Wd} {i g:Int} (h:zAN X i g=-1) (hl:X.rows.length≤60) (A:Option Addr) (c:Nat) (G:Option Addr) (gc:Nat) (W:World) (hX:WldAt W A c G gc X) :
    Calls Tryz.prog 59 #[.agg #[.slice A X.rows.length c,.slice G X.gens.length gc],.agg #[.int .i64 i,.int .i64 g]] W fun e w'=>e=.returned (.pointer none)∧Below W.heap.size W w':=by
  refine (zKS A X.rows.length c G X.gens.length gc (fun j=>X.rows.getD j dR) i g W (by omega) hX.rows).mono fun e w' ⟨⟨p,he,hp⟩,hb⟩=>⟨?_,hb⟩
  have hf:fIx (fun j=>X.rows.getD j dR) i g X.rows.length 0=-1:=h
  rcases hp with ⟨_,rfl⟩ | ⟨k,b,off,_,e2,_⟩
  · exact he
  · omega
theorem zCC {X:Wd} {i g:Int} {k:Nat} (h:zAN X i g=(k:Int)) (hl:X.rows.length≤60) (A:Option Addr) (c:Nat) (G:Option Addr) (gc:Nat) (W:World) (hX:WldAt W A c G gc X) :
    Calls Tryz.prog 59 #[.agg #[.slice A X.rows.length c,.slice G X.gens.length gc],.agg #[.int .i64 i,.int .i64 g]] W fun e w'=>∃ b o,e=.returned (.pointer (some ⟨b,o,none⟩))∧RowAt w' b o (zR X k)∧Below W.heap.size W w':=by
  refine (zKS A X.rows.length c G X.gens.length gc (fun j=>X.rows.getD j dR) i g W (by omega) hX.rows).mono fun e w' ⟨⟨p,he,hp⟩,hb⟩=>?_
  have hf:fIx (fun j=>X.rows.getD j dR) i g X.rows.length 0=(k:Int):=h
  rcases hp with ⟨e1,rfl⟩ | ⟨k',b,off,hk,e2,hA,rfl⟩
  · omega
  · have:k'=k:=by omega
    subst this
    obtain ⟨b',off',hA',hr⟩:=hX.rows k' hk
    rw [hA] at hA'
    injection hA' with hA'
    injection hA' with h1 h2
    subst h1 h2
    exact ⟨b,_,he,hr.below hb,hb⟩
theorem zPR (i g i2 g2:Int) (w:World):(Op.equalIn 10000 61 (.agg #[.int .i64 i,.int .i64 g]) (.agg #[.int .i64 i2,.int .i64 g2])).run Tryz.prog w=.ok (i == i2 && g == g2) w:=by
  have hS:Tryz.prog.underlying 61=some (.struct (Tryz.prog.fieldsOf 61)):=by kernel_rfl
  rw [show (10000:Nat)=9999+1 from rfl,run_equalIn_agg w 9999 61 _ _ hS (by kernel_rfl)]
  simp only [Program.fieldsOf,Tryz.underlying61]
  by_cases h1:i=i2 <;> by_cases h2:g=g2
  all_goals go_simp
theorem zOi (i g i2 g2:Int) (w:World):(binOp .neq 61 (.agg #[.int .i64 i,.int .i64 g]) (.agg #[.int .i64 i2,.int .i64 g2])).run Tryz.prog w=.ok (.bool (!(i == i2 && g == g2))) w:=by
  rw [run_neq_struct,zPR];rfl
end Go.Proofs.YtnbleebilmghcabGreat
namespace Go.Proofs.YtnbleebilmghcabGreat
open Go Go.RowKit
end Go.Proofs.YtnbleebilmghcabGreat
