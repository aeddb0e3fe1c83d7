/- PEq, PRow, PMath, PMath2, PAlive, RMeets, RRegion, RSame, PMatch, SBox, SBx0, PRNext, PNew -/
import Derived.Test.YtnbleebilmghcaaWC
import Derived.Test.YtnbleebilmghcaaWF
set_option linter.all false
set_option maxHeartbeats 1000000
namespace Go.Proofs.Ytnbleebilmghcaa
open Go Go.RowKit
theorem eq59 (a0 a1 a2 a3 a4 a5 a6 a7:Int) (w:World):(Op.equalIn 9999 59 (.agg #[.int .i64 a0,.int .i64 a1,.int .i64 a2,.int .i64 a3,.int .i64 a4,.int .i64 a5,.int .i64 a6,.int .i64 a7]) (.agg #[.int .i64 a0,.int .i64 a1,.int .i64 a2,.int .i64 a3,.int .i64 a4,.int .i64 a5,.int .i64 a6,.int .i64 a7])).run Try.prog w=.ok true w:=by
  have u3:=Try.underlying3
  have a3:=Try.isAgg3
  have z3:=Try.sizeOf3
  rw [show (9999:Nat)=9998+1 from rfl,Op.equalIn]
  simp only [Sem.run_bind,run_underlying Try.underlying59,Result.andThen_ok]
  simp only [Std.Legacy.Range.forIn_eq_forIn_range',Std.Legacy.Range.size,Nat.sub_zero,Nat.add_sub_cancel,Nat.div_one,List.range'_succ,List.range'_zero,List.forIn_cons,List.forIn_nil]
  go_simp
theorem eq61 (b0 b1 b2 a0 a1 a2 a3 a4 a5 a6 a7:Int) (w:World):(Op.equalIn 10000 61 (.agg #[.int .i64 b0,.int .i64 b1,.int .i64 b2,.int .i64 a0,.int .i64 a1,.int .i64 a2,.int .i64 a3,.int .i64 a4,.int .i64 a5,.int .i64 a6,.int .i64 a7]) (.agg #[.int .i64 b0,.int .i64 b1,.int .i64 b2,.int .i64 a0,.int .i64 a1,.int .i64 a2,.int .i64 a3,.int .i64 a4,.int .i64 a5,.int .i64 a6,.int .i64 a7])).run Try.prog w=.ok true w:=by
  have hS:Try.prog.underlying 61=some (.struct (Try.prog.fieldsOf 61)):=by kernel_rfl
  have e59:=eq59 a0 a1 a2 a3 a4 a5 a6 a7 w
  rw [show (10000:Nat)=9999+1 from rfl,run_equalIn_agg w 9999 61 _ _ hS (by kernel_rfl)]
  simp only [Program.fieldsOf,Try.underlying61]
  go_simp
theorem neq61 (b0 b1 b2 a0 a1 a2 a3 a4 a5 a6 a7:Int) (w:World):(binOp .neq 61 (.agg #[.int .i64 b0,.int .i64 b1,.int .i64 b2,.int .i64 a0,.int .i64 a1,.int .i64 a2,.int .i64 a3,.int .i64 a4,.int .i64 a5,.int .i64 a6,.int .i64 a7]) (.agg #[.int .i64 b0,.int .i64 b1,.int .i64 b2,.int .i64 a0,.int .i64 a1,.int .i64 a2,.int .i64 a3,.int .i64 a4,.int .i64 a5,.int .i64 a6,.int .i64 a7])).run Try.prog w=.ok (.bool false) w:=by
  rw [run_neq_struct,eq61];rfl
end Go.Proofs.Ytnbleebilmghcaa
set_option maxHeartbeats 4000000
set_option maxRecDepth 8000
namespace Go.Proofs.Ytnbleebilmghcaa
open Go Go.RowKit
attribute [local go_sem ↓] Go.wp_at_zero Go.wp_at_succ neq61
structure RX (w:World) (u0 u1 y0 y1:Value) (W:World):Prop where
  bel:Below w.heap.size w W
  r0:W.cell? ⟨w.heap.size,0,none⟩=some u0
  r1:W.cell? ⟨w.heap.size,1,none⟩=some u1
  d0:W.cell? ⟨w.heap.size+1,0,none⟩=some y0
  d1:W.cell? ⟨w.heap.size+1,1,none⟩=some y1
theorem RX.below {w W W1:World} {u0 u1 y0 y1:Value} (h:RX w u0 u1 y0 y1 W) (hb:Below W.heap.size W W1):RX w u0 u1 y0 y1 W1 :=
  ⟨h.bel.trans (hb.mono h.bel.size),zD hb h.r0,zD hb h.r1,zD hb h.d0,zD hb h.d1⟩
theorem RX.start (w:World) (u0 u1 y0 y1:Value) (s t:TypeId):RX w u0 u1 y0 y1 ((w.alloc (.cells #[u0,u1] s)).alloc (.cells #[y0,y1] t)):=by
  obtain ⟨a0,a1,af,ab⟩:=zAZ (W:=w) (u0:=u0) (u1:=u1) (t:=s) rfl
  have z1:(w.alloc (.cells #[u0,u1] s)).heap.size=w.heap.size+1:=by simp
  obtain ⟨c0,c1,cf,cb⟩:=zAZ (W:=w.alloc (.cells #[u0,u1] s)) (u0:=y0) (u1:=y1) (t:=t) z1
  exact ⟨ab.trans (cb.mono ab.size),zD cb a0,zD cb a1,c0,c1⟩
theorem row_any (A:Option Addr) (n cap:Nat) (G:Option Addr) (gn gcap:Nat) (R:Nat→RowI) (i g:Int) (w:World) (hn:n≤140737488355328) (hR:RowsAt w A n R) :
    Calls Try.prog 49 #[zQ A n cap G gn gcap,zW i g] w fun e w'=>(∃ p,e=.returned (.pointer p)∧((fIx R i g n 0=-1∧p=none)∨∃ (k b off:Nat),k<n∧fIx R i g n 0=(k:Int)∧A=some ⟨b,off,none⟩∧p=some ⟨b,off+k*11,none⟩))∧Below w.heap.size w w':=by
  have hx:=RX.start w (.slice A n cap) (.slice G gn gcap) (.int .i64 i) (.int .i64 g) 38 40
  have r0:=hx.r0
  have HR:=zB hR
  have HX:=zB hx
  clear hR hx
  unfold zQ zW
  go_enter Try.func49,Try.ntmps49
  go_wp2
  go_loopw [9] (fun x wr=>∃ j:Nat,j≤n∧x=.int .i64 j∧fIx R i g n 0=fIx R i g (n - j) j∧RX w (.slice A n cap) (.slice G gn gcap) (.int .i64 i) (.int .i64 g) wr) (fun x _=>n - (intOf x).toNat)
  case atStart=>exact ⟨0,Nat.zero_le _,rfl,rfl,zA HX⟩
  case round =>
    clear r0
    obtain ⟨j,hj,rfl,hF,hbr⟩:=hrel
    have HF:=zB hF
    clear hF
    by_cases hlt:j<n
    · have j0:(0:Int)≤(j:Int):=by omega
      have j1:(j:Int)<(n:Int):=by omega
      obtain ⟨b',off,rfl,hrow⟩:=zA HR j hlt
      have hrow:=hrow.below hbr.bel
      have c0:=hrow.c0
      have c1:=hrow.c1
      have r0:=hbr.r0
      have d0:=hbr.d0
      have d1:=hbr.d1
      have HS:=zB (fIx_step R i g n j hlt)
      unfold isB at HS
      have HBR:=zB hbr
      clear hrow hbr HR HX
      by_cases h1:(R j).ix=i <;> by_cases h2:(R j).gen=g
      all_goals
        have e1:((R j).ix == i && (R j).gen == g)=(decide ((R j).ix=i) && decide ((R j).gen=g)):=by simp [Bool.beq_eq_decide_eq]
        rw [e1] at HS
        simp only [h1,h2,decide_true,decide_false,Bool.and_true,Bool.and_false,Bool.true_and,Bool.false_and,if_true,if_false,Bool.false_eq_true] at HS
        go_wp2
        go_quiet (fail)
        go_wp2
        first
        | (go_ret
           exact ⟨⟨_,rfl,.inr ⟨j,b',off,hlt,(zA HF).trans (zA HS),rfl,rfl⟩⟩,zy (zA HBR).bel _⟩)
        | (go_roundw
           case rel=>exact ⟨j+1,by omega,by go_num,(zA HF).trans (zA HS),(zA HBR).below (zy (Below.refl _ _) _)⟩
           case measure=>simp [intOf];omega)
    · obtain rfl:j=n:=by omega
      have hv:fIx R i g j 0=-1:=by rw [zA HF,Nat.sub_self];rfl
      have HB:=zB hbr.bel
      clear hbr HR HX
      go_wp2
      go_ret
      exact ⟨⟨none,rfl,.inl ⟨hv,rfl⟩⟩,zA HB⟩
theorem RowsAt.congr {w:World} {A:Option Addr} {n:Nat} {R R':Nat→RowI} (h:RowsAt w A n R) (e:∀ j,j<n→zI (R j)=zI (R' j)):RowsAt w A n R':=fun j hj=>by
  obtain ⟨b,off,h0,h1⟩:=h j hj
  refine ⟨b,off,h0,?_⟩
  rw [zAa] at h1 ⊢
  rw [←e j hj];exact h1
theorem IntsAt.congr {w:World} {G:Option Addr} {n:Nat} {f f':Nat→Int} (h:IntsAt w G n f) (e:∀ j,j<n→f j=f' j):IntsAt w G n f':=fun j hj=>by
  obtain ⟨b,off,h0,h1⟩:=h j hj
  exact ⟨b,off,h0,by rw [←e j hj];exact h1⟩
theorem same_true (A:Option Addr) (n cap:Nat) (G:Option Addr) (gn gcap:Nat) (A':Option Addr) (cap':Nat) (G':Option Addr) (gcap':Nat) (R:Nat→RowI) (f:Nat→Int) (w:World) (hn:n≤140737488355328) (hgn:gn≤140737488355328)
    (hR:RowsAt w A n R) (hR':RowsAt w A' n R) (hG:IntsAt w G gn f) (hG':IntsAt w G' gn f) :
    Calls Try.prog 36 #[zQ A n cap G gn gcap,zQ A' n cap' G' gn gcap'] w fun e w'=>e=.returned (.bool true)∧Below w.heap.size w w':=by
  have hx:=RX.start w (.slice A n cap) (.slice G gn gcap) (.slice A' n cap') (.slice G' gn gcap') 38 38
  have r0:=hx.r0
  have r1:=hx.r1
  have d0:=hx.d0
  have d1:=hx.d1
  have HR:=zB hR
  have HR':=zB hR'
  have HG:=zB hG
  have HG':=zB hG'
  have HX:=zB hx
  clear hR hR' hG hG' hx
  unfold zQ
  go_enter Try.func36,Try.ntmps36
  go_wp2
  go_loopw [26] (fun x wr=>∃ j:Nat,j≤n∧x=.int .i64 j∧RX w (.slice A n cap) (.slice G gn gcap) (.slice A' n cap') (.slice G' gn gcap') wr) (fun x _=>n - (intOf x).toNat)
  case atStart=>exact ⟨0,Nat.zero_le _,rfl,zA HX⟩
  case round =>
    clear r0 r1 d0 d1
    obtain ⟨j,hj,rfl,hbr⟩:=hrel
    by_cases hlt:j<n
    · have j0:(0:Int)≤(j:Int):=by omega
      have j1:(j:Int)<(n:Int):=by omega
      obtain ⟨b,off,rfl,hrow⟩:=zA HR j hlt
      obtain ⟨b',off',rfl,hrow'⟩:=zA HR' j hlt
      have hrow:=hrow.below hbr.bel
      have hrow':=hrow'.below hbr.bel
      have c0:=hrow.c0
      have c1:=hrow.c1
      have c2:=hrow.c2
      have c3:=hrow.v 0 (by omega)
      have c4:=hrow.v 1 (by omega)
      have c5:=hrow.v 2 (by omega)
      have c6:=hrow.v 3 (by omega)
      have c7:=hrow.v 4 (by omega)
      have c8:=hrow.v 5 (by omega)
      have c9:=hrow.v 6 (by omega)
      have c10:=hrow.v 7 (by omega)
      have k0:=hrow'.c0
      have k1:=hrow'.c1
      have k2:=hrow'.c2
      have k3:=hrow'.v 0 (by omega)
      have k4:=hrow'.v 1 (by omega)
      have k5:=hrow'.v 2 (by omega)
      have k6:=hrow'.v 3 (by omega)
      have k7:=hrow'.v 4 (by omega)
      have k8:=hrow'.v 5 (by omega)
      have k9:=hrow'.v 6 (by omega)
      have k10:=hrow'.v 7 (by omega)
      simp only [Nat.add_assoc,Nat.reduceAdd] at c3 c4 c5 c6 c7 c8 c9 c10 k3 k4 k5 k6 k7 k8 k9 k10
      simp only [←Nat.add_assoc] at c3 c4 c5 c6 c7 c8 c9 c10 k3 k4 k5 k6 k7 k8 k9 k10
      have r0:=hbr.r0
      have d0:=hbr.d0
      have HBR:=zB hbr
      clear hrow hrow' hbr HR HR' HG HG' HX
      go_wp2
      go_quiet (fail)
      go_wp2
      go_roundw
      case rel=>exact ⟨j+1,by omega,by go_num,(zA HBR).below (zy (Below.refl _ _) _)⟩
      case measure=>simp [intOf];omega
    · obtain rfl:n=j:=by omega
      have r1:=hbr.r1
      have d1:=hbr.d1
      have HX2:=zB hbr
      clear hbr HR HR' HX
      go_wp2
      go_loopw [44] (fun x wr=>∃ j:Nat,j≤gn∧x=.int .i64 j∧RX w (.slice A n cap) (.slice G gn gcap) (.slice A' n cap') (.slice G' gn gcap') wr) (fun x _=>gn - (intOf x).toNat)
      case atStart=>exact ⟨0,Nat.zero_le _,rfl,zA HX2⟩
      case round =>
        clear r1 d1
        obtain ⟨j,hj,rfl,hbr⟩:=hrel
        by_cases hlt:j<gn
        · have j0:(0:Int)≤(j:Int):=by omega
          have j1:(j:Int)<(gn:Int):=by omega
          obtain ⟨b,off,rfl,c0⟩:=zA HG j hlt
          obtain ⟨b',off',rfl,k0⟩:=zA HG' j hlt
          have c0:=zD hbr.bel c0
          have k0:=zD hbr.bel k0
          have r1:=hbr.r1
          have d1:=hbr.d1
          have HBR:=zB hbr
          clear hbr HG HG' HX2
          go_wp2
          go_quiet (fail)
          go_wp2
          go_roundw
          case rel=>exact ⟨j+1,by omega,by go_num,(zA HBR).below (zy (Below.refl _ _) _)⟩
          case measure=>simp [intOf];omega
        · obtain rfl:j=gn:=by omega
          have HB:=zB hbr.bel
          clear hbr HG HG' HX2
          go_wp2
          go_ret
          exact ⟨rfl,zA HB⟩
end Go.Proofs.Ytnbleebilmghcaa
namespace Go.Proofs.Ytnbleebilmghcaa
open Go Go.RowKit
theorem isB_iff (x:RowI) (i g:Int):isB x i g=true↔x.ix=i∧x.gen=g:=by unfold isB;simp
theorem zBG (X:Wd) (i g:Int):zAe X i g=-1∨∃ k:Nat,k<X.rows.length∧zAe X i g=(k:Int)∧(zX X k).ix=i∧(zX X k).gen=g:=by
  rcases fIx_spec (fun j=>X.rows.getD j dR) i g X.rows.length 0 with h | ⟨k,_,h1,h2,h3⟩
  · exact .inl h
  · exact .inr ⟨k,by omega,h2,(isB_iff _ _ _).1 h3⟩
theorem fIx_no (R:Nat→RowI) (i g:Int):∀ n j,fIx R i g n j=-1→∀ t,j≤t→t<j+n→isB (R t) i g=false
  | 0,j,_,t,h1,h2=>by omega
  | n+1,j,h,t,h1,h2=>by
    unfold fIx at h
    split at h
    · omega
    · rename_i hc
      by_cases e:t=j
      · subst e;simpa using hc
      · exact fIx_no R i g n (j+1) h t (by omega) (by omega)
theorem find_no {X:Wd} {i g:Int} (h:zAe X i g=-1) {j:Nat} (hj:j<X.rows.length):¬ ((zX X j).ix=i∧(zX X j).gen=g):=by
  intro e
  have:=fIx_no _ i g X.rows.length 0 h j (Nat.zero_le _) (by omega)
  have h2:isB (X.rows.getD j dR) i g=true:=(isB_iff _ _ _).2 e
  rw [h2] at this;cases this
theorem find_at {X:Wd} (hr:RightW X) {j:Nat} (hj:j<X.rows.length):zAe X (zX X j).ix (zX X j).gen=(j:Int):=by
  rcases zBG X (zX X j).ix (zX X j).gen with h1 | ⟨k,h1,h2,h3,h4⟩
  · exact absurd ⟨rfl,rfl⟩ (find_no h1 hj)
  · rw [h2,hr.one h1 hj h3]
theorem rowOf_set (X:Wd) (k:Nat) (r:RowI) (G:List Int) (j:Nat) (hj:j<X.rows.length):zX ⟨X.rows.set k r,G⟩ j=if j=k then r else zX X j:=getD_setR X.rows k j r hj
theorem right_set {X:Wd} (h:RightW X) {k:Nat} (hk:k<X.rows.length) {r:RowI} (h1:r.ix=(zX X k).ix) (h2:r.gen=(zX X k).gen) (h3:rvB r=true):RightW ⟨X.rows.set k r,X.gens⟩:=by
  have e:=fun j (hj:j<X.rows.length)=>rowOf_set X k r X.gens j hj
  have ei:∀ j,j<X.rows.length→(zX ⟨X.rows.set k r,X.gens⟩ j).ix=(zX X j).ix:=fun j hj=>by
    rw [e j hj];split
    · rename_i h;rw [h,h1]
    · rfl
  have eg:∀ j,j<X.rows.length→(zX ⟨X.rows.set k r,X.gens⟩ j).gen=(zX X j).gen:=fun j hj=>by
    rw [e j hj];split
    · rename_i h;rw [h,h2]
    · rfl
  have hl:(X.rows.set k r).length=X.rows.length:=List.length_set
  refine ⟨h.gl,h.gv,fun j hj=>?_,fun j hj=>?_,fun j hj=>?_,fun j hj=>?_,fun j hj=>?_⟩ <;> simp only [hl] at hj
  · rw [e j hj];split
    · exact h3
    · exact h.rv j hj
  · rw [ei j hj];exact h.i0 j hj
  · rw [ei j hj];exact h.il j hj
  · rw [ei j (by omega),ei (j+1) hj];exact h.up j hj
  · rw [ei j hj,eg j hj];exact h.ge j hj
theorem rowOf_erase (X:Wd) (k:Nat) (G:List Int) (j:Nat):zX ⟨X.rows.eraseIdx k,G⟩ j=if j<k then zX X j else zX X (j+1):=by
  unfold zX
  simp only [List.getD_eq_getElem?_getD,List.getElem?_eraseIdx]
  split <;> rfl
theorem right_erase {X:Wd} (h:RightW X) {k:Nat} (hk:k<X.rows.length):RightW ⟨X.rows.eraseIdx k,X.gens⟩:=by
  have e:=rowOf_erase X k X.gens
  have hl:(X.rows.eraseIdx k).length+1=X.rows.length:=by rw [List.length_eraseIdx,if_pos hk];omega
  have key:∀ j,j<(X.rows.eraseIdx k).length→∃ t,t<X.rows.length∧zX ⟨X.rows.eraseIdx k,X.gens⟩ j=zX X t:=fun j hj=>by
    rw [e j]
    split
    · exact ⟨j,by omega,rfl⟩
    · exact ⟨j+1,by omega,rfl⟩
  refine ⟨h.gl,h.gv,fun j hj=>?_,fun j hj=>?_,fun j hj=>?_,fun j hj=>?_,fun j hj=>?_⟩
  · obtain ⟨t,ht,et⟩:=key j hj;rw [et];exact h.rv t ht
  · obtain ⟨t,ht,et⟩:=key j hj;rw [et];exact h.i0 t ht
  · obtain ⟨t,ht,et⟩:=key j hj;rw [et];exact h.il t ht
  · rw [e j,e (j+1)]
    have hj':j+1<(X.rows.eraseIdx k).length:=hj
    split <;> split
    · exact h.up j (by omega)
    · exact h.lt' (by omega) (by omega)
    · omega
    · exact h.up (j+1) (by omega)
  · obtain ⟨t,ht,et⟩:=key j hj;rw [et];exact h.ge t ht
theorem rowOf_ins (X:Wd) (k:Nat) (hk:k≤X.rows.length) (r:RowI) (G:List Int) (j:Nat):zX ⟨zCq X.rows k r,G⟩ j=if j<k then zX X j else if j=k then r else zX X (j - 1):=by
  unfold zX zCq
  simp only [List.getD_eq_getElem?_getD]
  have hl:(X.rows.take k).length=k:=by rw [List.length_take];omega
  split
  · rename_i h
    rw [List.getElem?_append_left (by omega),List.getElem?_take,if_pos h]
  · rename_i h
    rw [List.getElem?_append_right (by omega),hl]
    split
    · rename_i h2;subst h2;simp
    · rename_i h2
      obtain ⟨t,ht⟩:∃ t,j - k=t+1:=⟨j - k - 1,by omega⟩
      rw [ht,List.getElem?_cons_succ,List.getElem?_drop,show k+t=j - 1 by omega]
theorem gtIx_first (R:Nat→RowI) (i:Int):∀ n j,∀ t,j≤t→t<j+n→(gtIx R i n j=-1∨(t:Int)<gtIx R i n j)→(R t).ix≤i
  | 0,j,t,h1,h2,_=>by omega
  | n+1,j,t,h1,h2,h3=>by
    unfold gtIx at h3
    split at h3
    · rename_i hc
      rcases h3 with h3 | h3 <;> omega
    · rename_i hc
      by_cases e:t=j
      · subst e;omega
      · exact gtIx_first R i n (j+1) t (by omega) (by omega) h3
theorem place_spec {X:Wd} (h:RightW X) (i:Int):zAf X.rows i≤X.rows.length∧(∀ t,t<zAf X.rows i→(zX X t).ix≤i)∧∀ t,zAf X.rows i≤t→t<X.rows.length→i<(zX X t).ix:=by
  refine ⟨zBj _ _,?_⟩
  unfold zAf
  rcases gtIx_spec (fun j=>X.rows.getD j dR) i X.rows.length 0 with e | ⟨k,_,hk,e,hi⟩
  · rw [if_pos (by omega)]
    exact ⟨fun t ht=>gtIx_first _ i X.rows.length 0 t (Nat.zero_le _) (by omega) (.inl e),fun t h1 h2=>by omega⟩
  · rw [if_neg (by omega),e,Int.toNat_natCast]
    refine ⟨fun t ht=>gtIx_first (fun j=>X.rows.getD j dR) i X.rows.length 0 t (Nat.zero_le _) (by omega) (.inr (by rw [e];omega)),fun t h1 h2=>?_⟩
    rcases Nat.eq_or_lt_of_le h1 with h3 | h3
    · subst h3;exact hi
    · exact Int.lt_trans hi (h.lt' h3 h2)
theorem getD_gensF (gens:List Int) (k:Nat) (g:Int) (hk:k≤gens.length) (j:Nat):(zBf gens (k:Int) g).getD j 0=if j=k then g else gens.getD j 0:=by
  unfold zBf
  simp only [List.getD_eq_getElem?_getD]
  by_cases h:k=gens.length
  · rw [if_pos (by omega)]
    by_cases h2:j<k
    · rw [List.getElem?_append_left (by omega),if_neg (by omega)]
    · rw [List.getElem?_append_right (by omega)]
      split
      · rename_i h3;rw [h3,h];simp
      · rename_i h3
        obtain ⟨t,ht⟩:∃ t,j - gens.length=t+1:=⟨j - gens.length - 1,by omega⟩
        rw [ht,List.getElem?_eq_none (l:=gens) (by omega)];simp
  · rw [if_neg (by omega),Int.toNat_natCast,List.getElem?_set]
    split
    · rename_i h2;subst h2;simp [show k<gens.length by omega]
    · rename_i h2;rw [if_neg (Ne.symm h2)]
theorem len_gensF (gens:List Int) (k:Nat) (g:Int) (hk:k≤gens.length):(zBf gens (k:Int) g).length=if k=gens.length then gens.length+1 else gens.length:=by
  unfold zBf
  by_cases h:k=gens.length
  · rw [if_pos (by omega),if_pos h];simp
  · rw [if_neg (by omega),if_neg h];simp
theorem right_ins {X:Wd} (h:RightW X) {k:Nat} (hk:k≤X.gens.length) (h60:k<60) (hu:∀ j,j<X.rows.length→(zX X j).ix≠(k:Int)) {r:RowI} (h1:r.ix=(k:Int)) (h3:rvB r=true) (hg:1≤r.gen∧r.gen≤1000) :
    RightW ⟨zCq X.rows (zAf X.rows (k:Int)) r,zBf X.gens (k:Int) r.gen⟩:=by
  obtain ⟨p1,p2,p3⟩:=place_spec h (k:Int)
  generalize zAf X.rows (k:Int)=p at *
  have e:=rowOf_ins X p p1 r (zBf X.gens (k:Int) r.gen)
  have hl:(zCq X.rows p r).length=X.rows.length+1:=zCp _ _ _ p1
  have hgl:=len_gensF X.gens k r.gen hk
  have hgg:=getD_gensF X.gens k r.gen hk
  have key:∀ j,j<X.rows.length+1→zX ⟨zCq X.rows p r,zBf X.gens (k:Int) r.gen⟩ j=r∨∃ t,t<X.rows.length∧zX ⟨zCq X.rows p r,zBf X.gens (k:Int) r.gen⟩ j=zX X t:=fun j hj=>by
    rw [e j]
    split
    · exact .inr ⟨j,by omega,rfl⟩
    · split
      · exact .inl rfl
      · exact .inr ⟨j - 1,by omega,rfl⟩
  have hle:X.gens.length≤(zBf X.gens (k:Int) r.gen).length∧k<(zBf X.gens (k:Int) r.gen).length∧(zBf X.gens (k:Int) r.gen).length≤60:=by
    have:=h.gl
    rw [hgl];split <;> omega
  have hnn:∀ t,t<X.rows.length→(zX X t).ix.toNat≠k:=fun t ht e=>hu t ht (by have:=h.i0 t ht;omega)
  refine ⟨hle.2.2,fun j hj=>?_,fun j hj=>?_,fun j hj=>?_,fun j hj=>?_,fun j hj=>?_,fun j hj=>?_⟩
  · show 1≤(zBf X.gens (k:Int) r.gen).getD j 0∧(zBf X.gens (k:Int) r.gen).getD j 0≤1000
    rw [hgg j]
    split
    · exact hg
    · exact h.gv j (by
        have hj':j<(zBf X.gens (k:Int) r.gen).length:=hj
        rw [hgl] at hj'
        split at hj' <;> omega)
  · rcases key j (by rw [←hl];exact hj) with e1 | ⟨t,ht,e1⟩
    · rw [e1];exact h3
    · rw [e1];exact h.rv t ht
  · rcases key j (by rw [←hl];exact hj) with e1 | ⟨t,ht,e1⟩
    · rw [e1,h1];omega
    · rw [e1];exact h.i0 t ht
  · show (zX _ j).ix<((zBf X.gens (k:Int) r.gen).length:Int)
    rcases key j (by rw [←hl];exact hj) with e1 | ⟨t,ht,e1⟩
    · rw [e1,h1];omega
    · rw [e1];have:=h.il t ht;omega
  · have hj':j+1<X.rows.length+1:=by rw [←hl];exact hj
    rw [e j,e (j+1)]
    by_cases a:j+1<p
    · rw [if_pos (by omega),if_pos a];exact h.up j (by omega)
    · by_cases b:j+1=p
      · rw [if_pos (by omega),if_neg a,if_pos b,h1]
        have:=p2 j (by omega)
        have:=hu j (by omega)
        omega
      · by_cases c:j=p
        · rw [if_neg (by omega),if_pos c,if_neg a,if_neg b,h1]
          exact p3 _ (by omega) (by omega)
        · rw [if_neg (by omega),if_neg c,if_neg a,if_neg b]
          exact h.lt' (by omega) (by omega)
  · show (zX _ j).gen=(zBf X.gens (k:Int) r.gen).getD (zX _ j).ix.toNat 0
    rcases key j (by rw [←hl];exact hj) with e1 | ⟨t,ht,e1⟩
    · rw [e1,h1,Int.toNat_natCast,hgg k,if_pos rfl]
    · rw [e1,hgg,if_neg (hnn t ht)];exact h.ge t ht
theorem used_iff (rows:List RowI) (i:Nat):zCX rows rows.length i=false↔∀ j,j<rows.length→(rows.getD j dR).ix≠(i:Int):=by
  unfold zCX
  rw [List.take_length,List.any_eq_false]
  constructor
  · intro h j hj
    have:=h (rows.getD j dR) (by rw [List.getD_eq_getElem?_getD,List.getElem?_eq_getElem hj];simp)
    simpa using this
  · intro h x hx
    obtain ⟨j,hj,rfl⟩:=List.getElem_of_mem hx
    have:=h j hj
    rw [List.getD_eq_getElem?_getD,List.getElem?_eq_getElem hj] at this
    simpa using this
theorem nxTo_spec (X:Wd):∀ m j,m+j=X.gens.length→(nxTo X m j).2=0→∃ k:Nat,(nxTo X m j).1.1=(k:Int)∧((k<X.gens.length∧(∀ t,t<X.rows.length→(zX X t).ix≠(k:Int))∧X.gens.getD k 0<1000∧(nxTo X m j).1.2=X.gens.getD k 0+1)∨(k=X.gens.length∧X.gens.length<60∧(nxTo X m j).1.2=1))
  | 0,j,h,h0=>by
    unfold nxTo at h0 ⊢
    split at h0
    · simp at h0
    · rename_i hc
      rw [if_neg hc]
      exact ⟨X.gens.length,rfl,.inr ⟨rfl,by omega,rfl⟩⟩
  | m+1,j,h,h0=>by
    unfold nxTo at h0 ⊢
    split at h0
    · rename_i hc
      rw [if_pos hc]
      exact ⟨j,rfl,.inl ⟨by omega,(used_iff _ _).1 hc.1,hc.2,rfl⟩⟩
    · rename_i hc
      rw [if_neg hc]
      exact nxTo_spec X m (j+1) (by omega) h0
theorem or_fin:∀ m:Fin 256,∀ p:Fin 8,∀ k:Fin 8,0≤bits .or .i64 (m.val:Int) (zBX (p.val:Int))∧bits .or .i64 (m.val:Int) (zBX (p.val:Int))≤255∧(bits .and .i64 (bits .or .i64 (m.val:Int) (zBX (p.val:Int))) (zBX (k.val:Int)) != 0)=(decide (k=p) || bits .and .i64 (m.val:Int) (zBX (k.val:Int)) != 0):=by decide +kernel
theorem an_fin:∀ m:Fin 256,∀ p:Fin 8,∀ k:Fin 8,0≤bits .andNot .i64 (m.val:Int) (zBX (p.val:Int))∧bits .andNot .i64 (m.val:Int) (zBX (p.val:Int))≤255∧(bits .and .i64 (bits .andNot .i64 (m.val:Int) (zBX (p.val:Int))) (zBX (k.val:Int)) != 0)=(!decide (k=p) && bits .and .i64 (m.val:Int) (zBX (k.val:Int)) != 0):=by decide +kernel
theorem set_bd {h:Int} (hs:zBw h=true):0≤h∧h≤255:=by unfold zBw at hs;simpa using hs
theorem zAt {x:RowI} (h:rvB x=true):(0≤x.has∧x.has≤255)∧∀ k,k<8→zBo (x.v k)=true∧(x.v k=0∨zCW x.has (k:Int)=true):=by
  unfold rvB at h
  rw [Bool.and_eq_true] at h
  refine ⟨set_bd h.1,fun k hk=>?_⟩
  have:=List.all_eq_true.1 h.2 k (List.mem_range.2 hk)
  unfold okV at this
  rw [Bool.and_eq_true,Bool.or_eq_true] at this
  exact ⟨this.1,this.2.imp (by simp) id⟩
theorem rv_of {x:RowI} (h1:0≤x.has∧x.has≤255) (h2:∀ k,k<8→zBo (x.v k)=true∧(x.v k=0∨zCW x.has (k:Int)=true)):rvB x=true:=by
  unfold rvB okVs
  rw [Bool.and_eq_true]
  refine ⟨by unfold zBw;simpa using h1,List.all_eq_true.2 fun k hk=>?_⟩
  have:=h2 k (List.mem_range.1 hk)
  unfold okV
  rw [Bool.and_eq_true,Bool.or_eq_true]
  exact ⟨this.1,this.2.imp (by simp) id⟩
theorem val0:zBo 0=true:=by decide
theorem part_nat {p:Int} (h:zBz p=true):∃ k:Nat,k<8∧p=(k:Int):=by
  unfold zBz at h
  have:=of_decide_eq_true h
  exact ⟨p.toNat,by omega,by omega⟩
theorem or_facts (h:Int) (h0:0≤h∧h≤255) (p:Nat) (hp:p<8):(0≤bits .or .i64 h (zBX (p:Int))∧bits .or .i64 h (zBX (p:Int))≤255)∧∀ k:Nat,k<8→zCW (bits .or .i64 h (zBX (p:Int))) (k:Int)=(decide (k=p) || zCW h (k:Int)):=by
  obtain ⟨m,rfl⟩:=fin_of h h0.1 h0.2
  have f:=fun k:Fin 8=>or_fin m ⟨p,hp⟩ k
  refine ⟨⟨(f ⟨0,by decide⟩).1,(f ⟨0,by decide⟩).2.1⟩,fun k hk=>?_⟩
  have:=(f ⟨k,hk⟩).2.2
  simpa [zCW,Fin.ext_iff] using this
theorem an_facts (h:Int) (h0:0≤h∧h≤255) (p:Nat) (hp:p<8):(0≤bits .andNot .i64 h (zBX (p:Int))∧bits .andNot .i64 h (zBX (p:Int))≤255)∧∀ k:Nat,k<8→zCW (bits .andNot .i64 h (zBX (p:Int))) (k:Int)=(!decide (k=p) && zCW h (k:Int)):=by
  obtain ⟨m,rfl⟩:=fin_of h h0.1 h0.2
  have f:=fun k:Fin 8=>an_fin m ⟨p,hp⟩ k
  refine ⟨⟨(f ⟨0,by decide⟩).1,(f ⟨0,by decide⟩).2.1⟩,fun k hk=>?_⟩
  have:=(f ⟨k,hk⟩).2.2
  simpa [zCW,Fin.ext_iff] using this
theorem rv_put {x:RowI} (h:rvB x=true) {p n:Int} (hp:zBz p=true) (hn:zBo n=true):rvB (putR x p n)=true:=by
  obtain ⟨q,hq,rfl⟩:=part_nat hp
  obtain ⟨h1,h2⟩:=zAt h
  obtain ⟨f1,f2⟩:=or_facts x.has h1 q hq
  refine rv_of f1 fun k hk=>?_
  show zBo (if k=((q:Nat):Int).toNat then n else x.v k)=true∧((if k=((q:Nat):Int).toNat then n else x.v k)=0∨zCW (bits .or .i64 x.has (zBX (q:Int))) (k:Int)=true)
  rw [f2 k hk,Int.toNat_natCast]
  by_cases e:k=q
  · simp [e,hn]
  · simpa [e] using h2 k hk
theorem rv_drop {x:RowI} (h:rvB x=true) {p:Int} (hp:zCW x.has p=true):rvB (dropR x p)=true:=by
  obtain ⟨q,hq,rfl⟩:=has_part _ _ hp
  obtain ⟨h1,h2⟩:=zAt h
  obtain ⟨f1,f2⟩:=an_facts x.has h1 q hq
  refine rv_of f1 fun k hk=>?_
  show zBo (if k=((q:Nat):Int).toNat then 0 else x.v k)=true∧((if k=((q:Nat):Int).toNat then 0 else x.v k)=0∨zCW (bits .andNot .i64 x.has (zBX (q:Int))) (k:Int)=true)
  rw [f2 k hk,Int.toNat_natCast]
  by_cases e:k=q
  · simp [e,val0]
  · simpa [e] using h2 k hk
theorem rv_new (i g:Int) {has n:Int} (hs:zBw has=true) (hn:zBo n=true):rvB (newR i g has n)=true:=by
  have hb:=set_bd hs
  refine rv_of hb fun k hk=>?_
  show zBo (if k<8∧tb has k=true then n else 0)=true∧((if k<8∧tb has k=true then n else 0)=0∨zCW has (k:Int)=true)
  have e:zCW has (k:Int)=tb has k:=has_tb has k hb.1 hb.2 hk
  rw [e]
  cases h:tb has k <;> simp [hk,hn,val0]
end Go.Proofs.Ytnbleebilmghcaa
namespace Go.Proofs.Ytnbleebilmghcaa
open Go Go.RowKit
theorem chF_zero {X:Wd} {i g:Int} {C:RowI→RowI×Bool×Int} (h:(chF X i g C).1=0) :
    RightW X∧∃ k:Nat,k<X.rows.length∧zAe X i g=(k:Int)∧(zX X k).ix=i∧(zX X k).gen=g∧(C (zX X k)).2.2=0∧(chF X i g C).2=⟨X.rows.set k (C (zX X k)).1,X.gens⟩:=by
  unfold chF at h ⊢
  by_cases c1:(zN X).1≠0
  · rw [if_pos c1] at h;exact absurd h c1
  · rw [if_neg c1] at h ⊢
    have c1':(zN X).1=0:=Decidable.not_not.1 c1
    refine ⟨(zk X).1 c1',?_⟩
    rcases zBG X i g with hf | ⟨k,hk,hf,h1,h2⟩
    · rw [if_pos (by omega)] at h;cases h
    · rw [if_neg (by omega),hf,Int.toNat_natCast] at h ⊢
      have er:X.rows.getD k dR=zX X k:=rfl
      rw [er] at h ⊢
      by_cases c2:(C (zX X k)).2.2≠0
      · rw [if_pos c2] at h;exact absurd h c2
      · rw [if_neg c2]
        exact ⟨k,hk,rfl,h1,h2,Decidable.not_not.1 c2,rfl⟩
theorem chF_at {X:Wd} (hr:RightW X) {i g:Int} {k:Nat} (hf:zAe X i g=(k:Int)) (C:RowI→RowI×Bool×Int) :
    chF X i g C=if (C (zX X k)).2.2≠0 then ((C (zX X k)).2.2,emptyW) else (0,⟨X.rows.set k (C (zX X k)).1,X.gens⟩):=by
  unfold chF
  rw [if_neg (by have:=(zk X).2 hr;omega),if_neg (by omega),hf,Int.toNat_natCast]
  rfl
theorem killF_zero {X:Wd} {i g:Int} (h:(zAR X i g).1=0) :
    RightW X∧∃ k:Nat,k<X.rows.length∧zAe X i g=(k:Int)∧(zX X k).ix=i∧(zX X k).gen=g∧(zAR X i g).2=⟨X.rows.eraseIdx k,X.gens⟩:=by
  unfold zAR at h ⊢
  by_cases c1:(zN X).1≠0
  · rw [if_pos c1] at h;exact absurd h c1
  · rw [if_neg c1] at h ⊢
    have c1':(zN X).1=0:=Decidable.not_not.1 c1
    refine ⟨(zk X).1 c1',?_⟩
    rcases zBG X i g with hf | ⟨k,hk,hf,h1,h2⟩
    · rw [if_pos (by omega)] at h;cases h
    · rw [if_neg (by omega),hf,Int.toNat_natCast]
      exact ⟨k,hk,rfl,h1,h2,rfl⟩
theorem spawn_spec {X:Wd} {has n:Int} (h:(zh X has n).1=0) :
    RightW X∧∃ (k:Nat) (g:Int),(zh X has n).2.1=((k:Int),g)∧(zh X has n).2.2=⟨zCq X.rows (zAf X.rows (k:Int)) (newR (k:Int) g has n),zBf X.gens (k:Int) g⟩∧k≤X.gens.length ∧
      (∀ j,j<X.rows.length→(zX X j).ix≠(k:Int))∧(k<X.gens.length→g=X.gens.getD k 0+1)∧RightW (zh X has n).2.2:=by
  unfold zh at h ⊢
  by_cases c1:(zN X).1≠0
  · rw [if_pos c1] at h;exact absurd h c1
  · rw [if_neg c1] at h ⊢
    have hr:=(zk X).1 (Decidable.not_not.1 c1)
    refine ⟨hr,?_⟩
    by_cases c2:(zBw has && zBo n)=false
    · rw [if_pos c2] at h;cases h
    · rw [if_neg c2] at h ⊢
      have c2':zBw has=true∧zBo n=true:=by simpa using c2
      by_cases c3:(zAN X).2≠0
      · rw [if_pos c3] at h;exact absurd h c3
      · rw [if_neg c3]
        obtain ⟨k,hk,hc⟩:=nxTo_spec X X.gens.length 0 (by omega) (Decidable.not_not.1 c3)
        have hk':(zAN X).1.1=(k:Int):=hk
        have hu:∀ j,j<X.rows.length→(zX X j).ix≠(k:Int):=fun j hj e=>by
          rcases hc with ⟨_,hu,_⟩ | ⟨e2,_⟩
          · exact hu j hj e
          · have:=hr.il j hj;omega
        have hg:1≤(zAN X).1.2∧(zAN X).1.2≤1000:=by
          show 1≤(nxTo X X.gens.length 0).1.2∧(nxTo X X.gens.length 0).1.2≤1000
          rcases hc with ⟨h1,_,h2,h3⟩ | ⟨_,_,h3⟩
          · have:=hr.gv k h1;omega
          · omega
        have h60:k<60:=by
          have:=hr.gl
          rcases hc with ⟨h1,_⟩ | ⟨h1,h2,_⟩ <;> omega
        have hkl:k≤X.gens.length:=by rcases hc with ⟨h1,_⟩ | ⟨h1,_⟩ <;> omega
        rw [hk']
        refine ⟨k,(zAN X).1.2,Prod.ext hk' rfl,rfl,hkl,hu,fun hlt=>?_,?_⟩
        · rcases hc with ⟨_,_,_,h3⟩ | ⟨h1,_⟩
          · exact h3
          · omega
        · exact right_ins hr hkl h60 hu (r:=newR (k:Int) (zAN X).1.2 has n) rfl (rv_new _ _ c2'.1 c2'.2) hg
theorem ins_old (X:Wd) (p:Nat) (hp:p≤X.rows.length) (r:RowI) (G:List Int) (j:Nat) (hj:j<X.rows.length):∃ j',j'<(zCq X.rows p r).length∧zX ⟨zCq X.rows p r,G⟩ j'=zX X j:=by
  have hl:(zCq X.rows p r).length=X.rows.length+1:=zCp _ _ _ hp
  by_cases h:j<p
  · exact ⟨j,by omega,by rw [rowOf_ins X p hp,if_pos h]⟩
  · exact ⟨j+1,by omega,by rw [rowOf_ins X p hp,if_neg (by omega),if_neg (by omega)];rfl⟩
theorem erase_old (X:Wd) (k:Nat) (hk:k<X.rows.length) (G:List Int) (j:Nat) (hj:j<X.rows.length) (hne:j≠k):∃ j',j'<(X.rows.eraseIdx k).length∧zX ⟨X.rows.eraseIdx k,G⟩ j'=zX X j:=by
  have hl:(X.rows.eraseIdx k).length+1=X.rows.length:=by rw [List.length_eraseIdx,if_pos hk];omega
  by_cases h:j<k
  · exact ⟨j,by omega,by rw [rowOf_erase,if_pos h]⟩
  · exact ⟨j - 1,by omega,by rw [rowOf_erase,if_neg (by omega),show j - 1+1=j by omega]⟩
def Keeps (X Y:Wd) (i g:Int):Prop:=∀ k:Nat,k<X.rows.length→zAe X i g=(k:Int)→∃ j:Nat,j<Y.rows.length∧zAe Y i g=(j:Int)∧zX Y j=zX X k
theorem keeps_of {X Y:Wd} {i g:Int} (hX:RightW X) (hY:RightW Y) (h:∀ k,k<X.rows.length→(zX X k).ix=i→(zX X k).gen=g→∃ j,j<Y.rows.length∧zX Y j=zX X k):Keeps X Y i g:=fun k hk hf=>by
  rcases zBG X i g with e | ⟨k',hk',e,h1,h2⟩
  · omega
  · have:k'=k:=by omega
    subst this
    obtain ⟨j,hj,ej⟩:=h k' hk h1 h2
    refine ⟨j,hj,?_,ej⟩
    have:=find_at hY hj
    rwa [ej,h1,h2] at this
theorem spawn_keeps {X:Wd} {has n:Int} (h:(zh X has n).1=0) (i g:Int):RightW (zh X has n).2.2∧Keeps X (zh X has n).2.2 i g:=by
  obtain ⟨hr,k,g',_,e,hk,hu,_,hr'⟩:=spawn_spec h
  refine ⟨hr',keeps_of hr hr' fun j hj _ _=>?_⟩
  rw [e]
  exact ins_old X _ (zBj _ _) _ _ j hj
theorem kill_keeps {X:Wd} {i g:Int} (h:(zAR X i g).1=0):RightW (zAR X i g).2∧∀ i' g',(i',g')≠(i,g)→Keeps X (zAR X i g).2 i' g':=by
  obtain ⟨hr,k,hk,hf,h1,h2,e⟩:=killF_zero h
  have hr':RightW (zAR X i g).2:=by rw [e];exact right_erase hr hk
  refine ⟨hr',fun i' g' hne=>keeps_of hr hr' fun j hj e1 e2=>?_⟩
  rw [e]
  refine erase_old X k hk _ j hj fun ejk=>hne ?_
  subst ejk
  rw [←e1,←e2,h1,h2]
theorem set_keeps {X:Wd} (hr:RightW X) {i g:Int} {k:Nat} (hk:k<X.rows.length) (h1:(zX X k).ix=i) (h2:(zX X k).gen=g) {r:RowI} (hr':RightW ⟨X.rows.set k r,X.gens⟩):∀ i' g',(i',g')≠(i,g)→Keeps X ⟨X.rows.set k r,X.gens⟩ i' g':=fun i' g' hne=>by
  refine keeps_of hr hr' fun j hj e1 e2=>⟨j,by simpa using hj,?_⟩
  rw [rowOf_set X k r X.gens j hj,if_neg fun ejk=>hne ?_]
  subst ejk
  rw [←e1,←e2,h1,h2]
theorem putC_zero {x:RowI} {p n:Int} (h:(putC x p n).2.2=0):zBz p=true∧zBo n=true∧(putC x p n).1=putR x p n:=by
  unfold putC at h ⊢
  cases c:(zBz p && zBo n)
  · rw [c] at h;simp at h
  · simpa using c
theorem dropC_zero {x:RowI} {p:Int} (h:(dropC x p).2.2=0):zCW x.has p=true∧(dropC x p).1=dropR x p:=by
  unfold dropC at h ⊢
  cases c:zCW x.has p
  · rw [c] at h;simp at h
  · simp
theorem put_spec {X:Wd} {i g p n:Int} (h:(zBy X i g p n).1=0) :
    RightW X∧zBz p=true∧zBo n=true∧∃ k:Nat,k<X.rows.length∧zAe X i g=(k:Int)∧(zX X k).ix=i∧(zX X k).gen=g∧(zBy X i g p n).2=⟨X.rows.set k (putR (zX X k) p n),X.gens⟩∧RightW (zBy X i g p n).2:=by
  obtain ⟨hr,k,hk,hf,h1,h2,hC,e⟩:=chF_zero h
  obtain ⟨hp,hn,eC⟩:=putC_zero hC
  have e':(zBy X i g p n).2=⟨X.rows.set k (putR (zX X k) p n),X.gens⟩:=by rw [←eC];exact e
  refine ⟨hr,hp,hn,k,hk,hf,h1,h2,e',?_⟩
  rw [e']
  exact right_set hr hk rfl rfl (rv_put (hr.rv k hk) hp hn)
theorem drop_spec {X:Wd} {i g p:Int} (h:(zAU X i g p).1=0) :
    RightW X∧∃ k:Nat,k<X.rows.length∧zAe X i g=(k:Int)∧(zX X k).ix=i∧(zX X k).gen=g∧zCW (zX X k).has p=true∧(zAU X i g p).2=⟨X.rows.set k (dropR (zX X k) p),X.gens⟩∧RightW (zAU X i g p).2:=by
  obtain ⟨hr,k,hk,hf,h1,h2,hC,e⟩:=chF_zero h
  obtain ⟨hp,eC⟩:=dropC_zero hC
  have e':(zAU X i g p).2=⟨X.rows.set k (dropR (zX X k) p),X.gens⟩:=by rw [←eC];exact e
  refine ⟨hr,k,hk,hf,h1,h2,hp,e',?_⟩
  rw [e']
  exact right_set hr hk rfl rfl (rv_drop (hr.rv k hk) hp)
theorem put_keeps {X:Wd} {i g p n:Int} (h:(zBy X i g p n).1=0):RightW (zBy X i g p n).2∧∀ i' g',(i',g')≠(i,g)→Keeps X (zBy X i g p n).2 i' g':=by
  obtain ⟨hr,_,_,k,hk,hf,h1,h2,e,hr'⟩:=put_spec h
  refine ⟨hr',?_⟩
  rw [e] at hr' ⊢
  exact set_keeps hr hk h1 h2 hr'
theorem drop_keeps {X:Wd} {i g p:Int} (h:(zAU X i g p).1=0):RightW (zAU X i g p).2∧∀ i' g',(i',g')≠(i,g)→Keeps X (zAU X i g p).2 i' g':=by
  obtain ⟨hr,k,hk,hf,h1,h2,_,e,hr'⟩:=drop_spec h
  refine ⟨hr',?_⟩
  rw [e] at hr' ⊢
  exact set_keeps hr hk h1 h2 hr'
theorem spawn_no {X:Wd} {has n:Int} (h:(zh X has n).1≠0):(zh X has n).2.2=emptyW:=by
  unfold zh at h ⊢
  split at h
  · rw [if_pos ‹_›]
  · rename_i c1
    rw [if_neg c1]
    split at h
    · rw [if_pos ‹_›]
    · rename_i c2
      rw [if_neg c2]
      split at h
      · rw [if_pos ‹_›]
      · exact absurd rfl h
theorem kill_no {X:Wd} {i g:Int} (h:(zAR X i g).1≠0):(zAR X i g).2=emptyW:=by
  unfold zAR at h ⊢
  split at h
  · rw [if_pos ‹_›]
  · rename_i c1
    rw [if_neg c1]
    split at h
    · rw [if_pos ‹_›]
    · exact absurd rfl h
theorem ch_no {X:Wd} {i g:Int} {C:RowI→RowI×Bool×Int} (h:(chF X i g C).1≠0):(chF X i g C).2=emptyW:=by
  unfold chF at h ⊢
  split at h
  · rw [if_pos ‹_›]
  · rename_i c1
    rw [if_neg c1]
    split at h
    · rw [if_pos ‹_›]
    · rename_i c2
      rw [if_neg c2]
      split at h
      · rw [if_pos ‹_›]
      · exact absurd rfl h
end Go.Proofs.Ytnbleebilmghcaa
namespace Go.Proofs.Ytnbleebilmghcaa
open Go Go.RowKit
attribute [local go_sem ↓] Go.wp_at_zero Go.wp_at_succ
theorem below_one (w1:World) (o:Obj) {w2:World} (h:Below (w1.alloc o).heap.size (w1.alloc o) w2):Below w1.heap.size w1 w2:=by
  have h1:=(Below.refl w1.heap.size w1).alloc (Nat.le_refl _) o
  exact h1.trans (h.mono h1.size)
theorem below_two (w1:World) (o p:Obj) {w2:World} (h:Below ((w1.alloc o).alloc p).heap.size ((w1.alloc o).alloc p) w2):Below w1.heap.size w1 w2:=below_one w1 o (below_one _ p h)
theorem zAS (w1:World) (o:Obj):Below w1.heap.size w1 (w1.alloc o):=(Below.refl _ _).alloc (Nat.le_refl _) o
theorem zBs (w1:World) (o p:Obj):Below w1.heap.size w1 ((w1.alloc o).alloc p):=below_one w1 o (zAS _ p)
end Go.Proofs.Ytnbleebilmghcaa
set_option maxHeartbeats 400000
set_option maxRecDepth 8000
namespace Go.Proofs.Ytnbleebilmghcaa
open Go.RowKit
theorem bits_bel (n:Int) (w:World) (h0:0≤n) (h1:n≤255) :
    Calls Try.prog 22 #[.int .i64 n] w fun e w'=>e=.returned (.agg #[.bool (tb n 0),.bool (tb n 1),.bool (tb n 2),.bool (tb n 3),.bool (tb n 4),.bool (tb n 5),.bool (tb n 6),.bool (tb n 7)]) ∧
      Below w.heap.size w w'∧w'.heap.size=w.heap.size+2:=by
  refine (bits_any n w h0 h1).mono ?_
  rintro e w1 ⟨rfl,rfl⟩
  exact ⟨rfl,by go_grown,by simp⟩
def hasB (a k:Int):Bool:=decide (0≤k∧k<8) && tb a k.toNat
theorem rhas_any (a k:Int) (w:World) (h0:0≤a) (h1:a≤255) :
    Calls Try.prog 26 #[.int .i64 a,.int .i64 k] w fun e w'=>e=.returned (.bool (hasB a k))∧Below w.heap.size w w':=by
  by_cases k0:0≤k
  · by_cases k1:k<8
    · obtain ⟨j,rfl⟩:=Int.eq_ofNat_of_zero_le k0
      have hix:=run_ix a j
      have hj:j<8:=by omega
      go_enter Try.func26,Try.ntmps26
      go_wp2_with (first | (go_at_call 22;refine (bits_any _ _ h0 h1).mono ?_;rintro e w1 ⟨rfl,rfl⟩))
      go_ret
      exact ⟨by simp [hasB,k1],by go_grown⟩
    · go_enter Try.func26,Try.ntmps26
      go_wp2
      go_ret
      exact ⟨by simp [hasB];omega,by go_grown⟩
  · go_enter Try.func26,Try.ntmps26
    go_wp2
    go_ret
    exact ⟨by simp [hasB];omega,by go_grown⟩
end Go.Proofs.Ytnbleebilmghcaa
namespace Go.Proofs.Ytnbleebilmghcaa
open Go.RowKit
def lists (a n h:Int):Nat→List Value:=fun k=>if k=0 then (arr a).toList else if k=1 then (arr n).toList else (arr h).toList
end Go.Proofs.Ytnbleebilmghcaa
namespace Go.Proofs.Ytnbleebilmghcaa
open Go.RowKit
theorem has_hasB (a k:Int) (a0:0≤a) (a1:a≤255):(bits .and .i64 a (zBX k) != 0)=hasB a k:=by
  by_cases hk:0≤k∧k<8
  · obtain ⟨j,rfl⟩:=Int.eq_ofNat_of_zero_le hk.1
    rw [has_tb a j a0 a1 (by omega)]
    simp [hasB,hk]
  · have e:zBX k=0:=by unfold zBX;rw [if_neg hk]
    obtain ⟨m,rfl⟩:=fin_of a a0 a1
    rw [e,(num_fin m).2.2.2]
    simp [hasB,hk]
end Go.Proofs.Ytnbleebilmghcaa
set_option maxHeartbeats 2000000
set_option maxRecDepth 8000
namespace Go.Proofs.Ytnbleebilmghcaa
open Go Go.RowKit
attribute [local go_sem ↓] Go.wp_at_zero Go.wp_at_succ
theorem info40:(Try.prog.info? 40).map (fun i=>(i.zero,i.size,i.bytes))=some (some (.agg #[.int .i64 0,.int .i64 0]),2,16):=by kernel_rfl
def zl (l:List (Int×Int)):List Value:=l.flatMap fun b=>[.int .i64 b.1,.int .i64 b.2]
theorem bs_len (l:List (Int×Int)):(zl l).length=l.length*2:=by
  induction l with
  | nil=>rfl
  | cons x l ih=>simp only [zl,List.flatMap_cons,List.length_append,List.length_cons,List.length_nil] at ih ⊢;omega
theorem bs_app (l m:List (Int×Int)):zl (l++m)=zl l++zl m:=by simp [zl]
theorem new_two (w:World) (x y:Value) (t:TypeId):∀ j u,[x,y][j]?=some u→(w.alloc (.cells #[x,y] t)).cell? ((⟨w.heap.size,0,none⟩:Addr).add j)=some u:=by
  intro j u hj
  match j,hj with
  | 0,hj=>simp at hj;subst hj;simp [Addr.add]
  | 1,hj=>simp at hj;subst hj;simp [Addr.add]
theorem one_two (x y:Int):∀ u∈[Value.int .i64 x,Value.int .i64 y],u.oneCell'=true:=by
  intro u hu;simp at hu;rcases hu with rfl | rfl <;> rfl
def BsAt (w:World) (A:Option Addr) (l:List (Int×Int)):Prop:=∀ j,j<l.length→∃ b off,A=some ⟨b,off,none⟩∧w.cell? ⟨b,off+j*2,none⟩=some (.int .i64 (l.getD j (0,0)).1)∧w.cell? ⟨b,off+j*2+1,none⟩=some (.int .i64 (l.getD j (0,0)).2)
theorem BsAt.below {w w1:World} {A:Option Addr} {l:List (Int×Int)} (h:BsAt w A l) (hb:Below w.heap.size w w1):BsAt w1 A l:=fun j hj=>by
  obtain ⟨b,off,h0,h1,h2⟩:=h j hj
  exact ⟨b,off,h0,zD hb h1,zD hb h2⟩
theorem bs_get:∀ (l:List (Int×Int)) (j:Nat),j<l.length→(zl l)[j*2]?=some (.int .i64 (l.getD j (0,0)).1)∧(zl l)[j*2+1]?=some (.int .i64 (l.getD j (0,0)).2)
  | [],j,h=>by simp at h
  | x :: l,0,_=>by simp [zl]
  | x :: l,j+1,h=>by
    have:=bs_get l j (by simpa using h)
    have e:zl (x :: l)=.int .i64 x.1 :: .int .i64 x.2 :: zl l:=rfl
    rw [e,show (j+1)*2=j*2+1+1 by omega]
    simpa using this
theorem bs_own {W:World} {base:Nat} {v:Value} {l:List (Int×Int)} (h:W.ownsRow base 40 2 v l.length (zl l)):∃ A cap,v=.slice A l.length cap∧BsAt W A l:=by
  by_cases h0:0<l.length
  · obtain ⟨g,cap,rfl,_,_⟩:=zAG h h0
    refine ⟨some ⟨g,0,none⟩,cap,rfl,fun j hj=>⟨g,0,rfl,?_,?_⟩⟩
    · rw [Nat.zero_add];exact zf h (bs_get l j hj).1
    · rw [Nat.zero_add];exact zf h (bs_get l j hj).2
  · obtain rfl:l=[]:=List.eq_nil_of_length_eq_zero (by omega)
    rcases h.2 with ⟨rfl,_⟩ | ⟨g,cap,cur,rfl,_⟩
    · exact ⟨none,0,rfl,fun j hj=>by simp at hj⟩
    · exact ⟨_,cap,rfl,fun j hj=>by simp at hj⟩
theorem samebs_true (A:Option Addr) (c:Nat) (A':Option Addr) (c':Nat) (l:List (Int×Int)) (w:World) (hl:l.length≤4194304) (hA:BsAt w A l) (hA':BsAt w A' l) :
    Calls Try.prog 50 #[.slice A l.length c,.slice A' l.length c'] w fun e w'=>e=.returned (.bool true)∧Below w.heap.size w w':=by
  have HA:=zB hA
  have HA':=zB hA'
  clear hA hA'
  go_enter Try.func50,Try.ntmps50
  go_wp2
  go_loopw [13] (fun x wr=>∃ j:Nat,j≤l.length∧x=.int .i64 j∧Below w.heap.size w wr) (fun x _=>l.length - (intOf x).toNat)
  case atStart=>exact ⟨0,Nat.zero_le _,rfl,Below.refl _ _⟩
  case round =>
    obtain ⟨j,hj,rfl,hbr⟩:=hrel
    by_cases hlt:j<l.length
    · have j0:(0:Int)≤(j:Int):=by omega
      have j1:(j:Int)<(l.length:Int):=by omega
      obtain ⟨b,off,rfl,h1,h2⟩:=zA HA j hlt
      obtain ⟨b',off',rfl,h3,h4⟩:=zA HA' j hlt
      have c0:=zD hbr h1
      have c1:=zD hbr h2
      have d0:=zD hbr h3
      have d1:=zD hbr h4
      have HBR:=zB hbr
      clear h1 h2 h3 h4 hbr HA HA'
      go_wp2
      go_quiet (fail)
      go_wp2
      go_roundw
      case rel=>exact ⟨j+1,by omega,by go_num,zy (zA HBR) _⟩
      case measure=>simp [intOf];omega
    · obtain rfl:j=l.length:=by omega
      have HBR:=zB hbr
      clear hbr HA HA'
      go_wp2
      go_ret
      exact ⟨rfl,zA HBR⟩
end Go.Proofs.Ytnbleebilmghcaa
namespace Go.Proofs.Ytnbleebilmghcaa
open Go Go.RowKit
theorem B13.keep {b:Nat} {u0 u1:Value} {W W1:World} (h:B13 b u0 u1 W) (hb:Below (b+1) W W1):B13 b u0 u1 W1 :=
  ⟨(hb.cell (p:=⟨b,0,none⟩) (by simp)).trans h.e0,(hb.cell (p:=⟨b,1,none⟩) (by simp)).trans h.e1,fun i=>(hb.frozen (p:=⟨b,i,none⟩) (by simp)).trans (h.f i)⟩
theorem cells_one (r:RowI):zE [r]=zI r:=by simp [zE]
theorem zCH (W:World) (r:RowI):∀ j u,(zI r)[j]?=some u→(W.alloc (.cells #[.int .i64 r.ix,.int .i64 r.gen,.int .i64 r.has,.int .i64 (r.v 0),.int .i64 (r.v 1),.int .i64 (r.v 2),.int .i64 (r.v 3),.int .i64 (r.v 4),.int .i64 (r.v 5),.int .i64 (r.v 6),.int .i64 (r.v 7)] 61)).cell? ((⟨W.heap.size,0,none⟩:Addr).add j)=some u:=(vb1_new W r).src
end Go.Proofs.Ytnbleebilmghcaa
namespace Go.Proofs.Ytnbleebilmghcaa
open Go Go.RowKit
theorem heap_sets (b:Nat):∀ (vs:List Value) (o:Nat) (W:World) (g:Nat),g≠b→(W.setCells b o vs).heap[g]?=W.heap[g]?
  | [],_,_,_,_=>rfl
  | u :: r,o,W,g,h=>(heap_sets b r (o+1) _ g h).trans (heap_setCell_other W ⟨b,o,none⟩ g u h)
theorem heapsz_sets (b:Nat):∀ (vs:List Value) (o:Nat) (W:World),(W.setCells b o vs).heap.size=W.heap.size
  | [],_,_=>rfl
  | u :: r,o,W=>(heapsz_sets b r (o+1) _).trans (by simp)
def zAy (w:World):List (List Value×TypeId)→World
  | []=>w
  | x :: r=>zAy (w.alloc (.cells x.1.toArray x.2)) r
def Bxs (B:Nat) (l:List (List Value×TypeId)) (W:World):Prop:=∀ (k:Nat) (vs:List Value) (t:TypeId),l[k]?=some (vs,t)→W.heap[B+k]?=some (.cells vs.toArray t (0,0))
section
variable {B:Nat} {l:List (List Value×TypeId)} {W W1:World}
theorem Bxs.lt (h:Bxs B l W) {k:Nat} {x:List Value×TypeId} (hk:l[k]?=some x):B+k<W.heap.size:=(Array.getElem?_eq_some_iff.1 (h k x.1 x.2 hk)).1
theorem Bxs.sz (h:Bxs B l W) (hl:0<l.length):B+l.length≤W.heap.size:=by
  have:=h.lt (k:=l.length - 1) (x:=l[l.length - 1]) (List.getElem?_eq_getElem (by omega))
  omega
theorem Bxs.keep (h:Bxs B l W) (hb:Below (B+l.length) W W1):Bxs B l W1:=fun k vs t hk=>(hb.block (B+k) (by
  have:k<l.length:=(List.getElem?_eq_some_iff.1 hk).1
  omega)).trans (h k vs t hk)
theorem Bxs.below (h:Bxs B l W) (hb:Below W.heap.size W W1):Bxs B l W1:=fun k vs t hk=>(hb.block (B+k) (h.lt hk)).trans (h k vs t hk)
theorem Bxs.snoc (h:Bxs B l W) (hs:W.heap.size=B+l.length) (vs:List Value) (t:TypeId):Bxs B (l++[(vs,t)]) (W.alloc (.cells vs.toArray t)):=fun k vs' t' hk=>by
  by_cases hlt:k<l.length
  · rw [List.getElem?_append_left hlt] at hk
    exact ((zAS W (.cells vs.toArray t)).block (B+k) (h.lt hk)).trans (h k vs' t' hk)
  · have hk':k<(l++[(vs,t)]).length:=(List.getElem?_eq_some_iff.1 hk).1
    rw [List.length_append,List.length_singleton] at hk'
    obtain rfl:k=l.length:=by omega
    rw [List.getElem?_append_right (Nat.le_refl _)] at hk
    simp at hk
    obtain ⟨rfl,rfl⟩:=hk
    rw [←hs]
    show (W.heap.push _)[W.heap.size]?=_
    simp
theorem Bxs.cell (h:Bxs B l W) (k:Nat) {vs:List Value} {t:TypeId} (hk:l[k]?=some (vs,t)) (j:Nat) {u:Value} (hj:vs[j]?=some u):W.cell? ⟨B+k,j,none⟩=some u:=by
  rw [cell_of_row W (B+k) j vs.toArray t (0,0) (h k vs t hk)]
  simpa using hj
theorem Bxs.free (h:Bxs B l W) (k:Nat) {vs:List Value} {t:TypeId} (hk:l[k]?=some (vs,t)) (j:Nat):W.frozen? ⟨B+k,j,none⟩=false:=by simp [World.frozen?,h k vs t hk]
theorem Bxs.there (h:Bxs B l W) (k:Nat) {vs:List Value} {t:TypeId} (hk:l[k]?=some (vs,t)) (n:Nat) (hn:vs.length=n):W.there (B+k) 0 n:=fun j hj=>by
  rw [Nat.zero_add]
  exact ⟨by rw [h.cell k hk j (u:=vs[j]) (List.getElem?_eq_getElem (by omega))];rfl,h.free k hk j⟩
theorem zBq (b:Nat) (t:TypeId):∀ (vs:List Value) (o:Nat) (cur:List Value) (W:World),W.heap[b]?=some (.cells cur.toArray t (0,0))→o+vs.length≤cur.length→(W.setCells b o vs).heap[b]?=some (.cells (cur.take o++vs++cur.drop (o+vs.length)).toArray t (0,0))
  | [],o,cur,W,h,_=>by simpa [World.setCells] using h
  | u :: r,o,cur,W,h,hl=>by
    have h1:(W.setCell ⟨b,o,none⟩ u).heap[b]?=some (.cells (cur.set o u).toArray t (0,0)):=by
      have:=heap_setCell_same W b o cur.toArray t u h
      simpa using this
    have h2:=zBq b t r (o+1) (cur.set o u) _ h1 (by simp only [List.length_set,List.length_cons] at *;omega)
    show ((W.setCell ⟨b,o,none⟩ u).setCells b (o+1) r).heap[b]?=_
    rw [h2]
    have ho:o<cur.length:=by simp only [List.length_cons] at hl;omega
    congr 3
    rw [List.take_set,List.drop_set,if_pos (by omega),List.take_succ_eq_append_getElem ho,List.set_append_right _ _ (by rw [List.length_take];omega),List.length_take,Nat.min_eq_left (by omega)]
    simp only [Nat.sub_self,List.set_cons_zero,List.append_assoc,List.cons_append,List.nil_append,List.length_cons]
    rw [show o+1+r.length=o+(r.length+1) by omega]
theorem Bxs.give (h:Bxs B l W) (k:Nat) {vs:List Value} {t:TypeId} (hk:l[k]?=some (vs,t)) (vs':List Value) (hn:vs'.length=vs.length):Bxs B (l.set k (vs',t)) (W.setCells (B+k) 0 vs'):=fun j us t' hj=>by
  by_cases e:j=k
  · subst e
    have hlt:j<l.length:=(List.getElem?_eq_some_iff.1 hk).1
    rw [List.getElem?_set_self hlt] at hj
    simp only [Option.some.injEq,Prod.mk.injEq] at hj
    obtain ⟨rfl,rfl⟩:=hj
    have:=zBq (B+j) t vs' 0 vs W (h j vs t hk) (by omega)
    rw [this]
    simp [hn]
  · rw [List.getElem?_set_ne (Ne.symm e)] at hj
    rw [heap_sets (B+k) vs' 0 W (B+j) (by omega)]
    exact h j us t' hj
theorem Bxs.turn (h:Bxs B l W) {cb o:Nat} {vs:List Value} (hcb:cb<B∨B+l.length≤cb):Bxs B l (W.setCells cb o vs):=fun k us t hk=>by
  have:k<l.length:=(List.getElem?_eq_some_iff.1 hk).1
  rw [heap_sets cb vs o W (B+k) (by omega)]
  exact h k us t hk
theorem Bxs.nil (B:Nat) (W:World):Bxs B [] W:=fun k vs t h=>by simp at h
end
theorem bxs_allocs:∀ (r l:List (List Value×TypeId)) (B:Nat) (W:World),Bxs B l W→W.heap.size=B+l.length→Bxs B (l++r) (zAy W r)
  | [],l,B,W,h,_=>by rw [List.append_nil];exact h
  | x :: r,l,B,W,h,hs=>by
    have:=bxs_allocs r (l++[x]) B (W.alloc (.cells x.1.toArray x.2)) (h.snoc hs x.1 x.2) (by simp [hs];omega)
    rwa [List.append_assoc] at this
theorem Bxs.start (w:World) (l:List (List Value×TypeId)):Bxs w.heap.size l (zAy w l):=bxs_allocs l [] w.heap.size w (Bxs.nil _ _) rfl
theorem allocs_below:∀ (l:List (List Value×TypeId)) (w:World),Below w.heap.size w (zAy w l)
  | [],w=>Below.refl _ _
  | x :: r,w=>below_one w _ (allocs_below r _)
theorem allocs_size:∀ (l:List (List Value×TypeId)) (w:World),(zAy w l).heap.size=w.heap.size+l.length
  | [],w=>rfl
  | x :: r,w=>by
    show (zAy (w.alloc (.cells x.1.toArray x.2)) r).heap.size=_
    rw [allocs_size r]
    simp;omega
theorem zCR (w:World) (l:List (List Value×TypeId)):∃ W,zAy w l=W∧Below w.heap.size w W∧Bxs w.heap.size l W:=⟨_,rfl,allocs_below l w,Bxs.start w l⟩
end Go.Proofs.Ytnbleebilmghcaa
set_option maxHeartbeats 4000000
set_option maxRecDepth 8000
namespace Go.Proofs.Ytnbleebilmghcaa
open Go Go.RowKit
attribute [local go_sem ↓] Go.wp_at_zero Go.wp_at_succ
theorem rnext_any (A:Option Addr) (cap:Nat) (G:Option Addr) (gcap:Nat) (X:Wd) (w:World) (hn:X.rows.length≤140737488355328) (hgn:X.gens.length≤140737488355328) (hgv:∀ j,j<X.gens.length→-9223372036854775808≤X.gens.getD j 0) (hX:WldAt w A cap G gcap X) :
    Calls Try.prog 39 #[zAA A cap G gcap X] w fun e w'=>e=.returned (.tuple #[zW (zAN X).1.1 (zAN X).1.2,.int .i64 (zAN X).2])∧Below w.heap.size w w':=by
  obtain ⟨W1,hW1⟩:∃ W,W=w.alloc (.cells #[.slice A X.rows.length cap,.slice G X.gens.length gcap] 38):=⟨_,rfl⟩
  have z1:W1.heap.size=w.heap.size+1:=by rw [hW1];simp
  have b1:Below w.heap.size w W1:=by rw [hW1];go_grown
  obtain ⟨y0,y1,yf,yb⟩:=zAZ (W:=W1) (u0:=.int .i64 0) (u1:=.int .i64 0) (t:=40) z1
  have hAB:AB w (w.heap.size+1) (.int .i64 0) (.int .i64 0) (W1.alloc (.cells #[.int .i64 0,.int .i64 0] 40)):=⟨b1.trans (yb.mono b1.size),by omega,y0,y1,yf⟩
  have hN:NW1 w (.slice A X.rows.length cap) (.slice G X.gens.length gcap) (W1.alloc (.cells #[.int .i64 0,.int .i64 0] 40)):=(hW1▸NW1.start w _ _:NW1 w (.slice A X.rows.length cap) (.slice G X.gens.length gcap) W1).below yb
  rw [hW1] at hAB hN
  have HAB:=zB hAB
  have HN:=zB hN
  have HG:=zB hX.gens
  have HR:=zB hX.rows
  have HGV:=zB hgv
  clear hAB hN hW1 z1 b1 y0 y1 yf yb hX hgv
  unfold zAA zQ zW zAN at *
  go_enter Try.func39,Try.ntmps39
  go_wp2
  go_loopw [12] (fun i wr=>∃ j:Nat,j≤X.gens.length∧i=.int .i64 j∧nxTo X X.gens.length 0=nxTo X (X.gens.length - j) j∧AB w (w.heap.size+1) (.int .i64 0) (.int .i64 0) wr∧NW1 w (.slice A X.rows.length cap) (.slice G X.gens.length gcap) wr) (fun i _=>X.gens.length - (intOf i).toNat)
  case atStart=>exact ⟨0,Nat.zero_le _,rfl,rfl,zA HAB,zA HN⟩
  case round =>
    clear HAB HN
    obtain ⟨j,hj,rfl,hF,hA5,hN5⟩:=hrel
    have HF:=zB hF
    clear hF
    by_cases hlt:j<X.gens.length
    · have j0:(0:Int)≤(j:Int):=by omega
      have j1:(j:Int)<(X.gens.length:Int):=by omega
      obtain ⟨b,off,hGe,hg⟩:=(zA HG) j hlt
      have hg:wr.cell? ⟨b,off+j,none⟩=some (.int .i64 (X.gens.getD j 0)):=zD hN5.bel hg
      have hgv:=zA HGV j hlt
      have r0:=hN5.r0
      have HS:=zB (nxTo_step X X.gens.length j hlt)
      have HA5:=zB hA5
      have HN5:=zB hN5
      subst hGe
      clear HG HGV hA5 hN5
      generalize X.gens.getD j 0=gj at *
      obtain ⟨fr,hfr⟩:∃ fr,fr=decide (gj<1000):=⟨_,rfl⟩
      have HFR:=zB hfr
      go_wp2
      clear hg r0
      go_loopw [6,22] (fun t i wr=>∃ k:Nat,k≤X.rows.length∧i=.int .i64 k∧t=.bool (decide (gj<1000) && !(zCX X.rows k j))∧AB w (w.heap.size+1) (.int .i64 0) (.int .i64 0) wr∧NW1 w (.slice A X.rows.length cap) (.slice (some ⟨b,off,none⟩) X.gens.length gcap) wr) (fun _ i _=>X.rows.length - (intOf i).toNat)
      case atStart=>exact ⟨0,Nat.zero_le _,rfl,by simp [zCX],zA HA5,zA HN5⟩
      case round =>
        clear HA5 HN5
        obtain ⟨k,hk,rfl,rfl,hA6,hN6⟩:=hrel
        by_cases hkl:k<X.rows.length
        · have k0:(0:Int)≤(k:Int):=by omega
          have k1:(k:Int)<(X.rows.length:Int):=by omega
          obtain ⟨b2,o2,hA,hrow⟩:=(zA HR) k hkl
          have hrow:RowAt wr b2 (o2+k*11) (X.rows.getD k dR):=hrow.below hN6.bel
          have c0:=hrow.c0
          have c1:=hrow.c1
          have c2:=hrow.c2
          have c3:=hrow.v 0 (by omega)
          have c4:=hrow.v 1 (by omega)
          have c5:=hrow.v 2 (by omega)
          have c6:=hrow.v 3 (by omega)
          have c7:=hrow.v 4 (by omega)
          have c8:=hrow.v 5 (by omega)
          have c9:=hrow.v 6 (by omega)
          have c10:=hrow.v 7 (by omega)
          simp only [Nat.add_assoc,Nat.reduceAdd] at c3 c4 c5 c6 c7 c8 c9 c10
          simp only [←Nat.add_assoc] at c3 c4 c5 c6 c7 c8 c9 c10
          have HUS:=zB (usedB_succ X.rows k j hkl)
          have HA6:=zB hA6
          have HN6:=zB hN6
          subst hA
          clear hrow hA6 hN6 HR HF HS HFR hfr
          generalize X.rows.getD k dR=x at *
          obtain ⟨ix,gen,has,v⟩:=x
          dsimp only at *
          generalize zCX X.rows k j=ub at *
          generalize decide (gj<1000)=de at *
          have hc:(de && !ub)=false∨((de=true∧ub=false)∧(ix=(j:Int)∨ix≠(j:Int))):=by
            cases de <;> cases ub <;> simp
            exact Decidable.em _
          rcases hc with h1 | ⟨⟨rfl,rfl⟩,rfl | h1⟩
          · rw [h1]
            go_wp2
            go_roundw
            case rel=>exact ⟨k+1,by omega,by go_num,by rw [zA HUS];cases de <;> cases ub <;> simp_all,(zA HA6).below (zAS _ _),(zA HN6).below (zAS _ _)⟩
            case measure=>simp [intOf];omega
          · go_wp2
            go_roundw
            case rel=>exact ⟨k+1,by omega,by go_num,by rw [zA HUS];simp,(zA HA6).below (zAS _ _),(zA HN6).below (zAS _ _)⟩
            case measure=>simp [intOf];omega
          · have h2:(ix == (j:Int))=false:=by simpa using h1
            go_wp2
            go_roundw
            case rel=>exact ⟨k+1,by omega,by go_num,by rw [zA HUS];simp [bne],(zA HA6).below (zAS _ _),(zA HN6).below (zAS _ _)⟩
            case measure=>simp [intOf];omega
        · obtain rfl:k=X.rows.length:=by omega
          have HA6:=zB hA6
          have HN6:=zB hN6
          clear hA6 hN6 HR
          generalize zCX X.rows X.rows.length j=ub at *
          by_cases hg1:gj<1000
          · cases ub
            · have e:(decide (gj<1000) && !false)=true:=by simp [hg1]
              rw [e]
              go_wp2_with (first
                | (refine zG rfl 40 (.tmp 2) (.tmp 39) rfl (w.heap.size+1) 0 [.int .i64 (j:Int),.int .i64 (gj+1)] rfl rfl (by simp [Value.oneCell']) size40 (zA HA6).there ?_;intro W3 hW3;have hA7:=(zA HA6).give (.int .i64 (j:Int)) (.int .i64 (gj+1));rw [←hW3] at hA7;have HA7:=zB hA7;clear hW3 hA7))
              have t0:=(zA HA7).t0
              have t1:=(zA HA7).t1
              have hv:=(zA HF).trans ((zA HS).trans (if_pos (by simpa using hg1)))
              refine bodyPost_ret (v:=.tuple #[.agg #[.int .i64 (j:Int),.int .i64 (gj+1)],.int .i64 0]) (by simp [results,Try.results39,go_sem,t0,t1]) rfl ⟨by rw [hv],(zA HA7).bel⟩
            · have e:(decide (gj<1000) && !true)=false:=by simp
              rw [e]
              go_wp2
              go_roundw
              case rel=>exact ⟨j+1,by omega,by go_num,(zA HF).trans ((zA HS).trans (by simp)),zA HA6,zA HN6⟩
              case measure=>simp [intOf];omega
          · have e:(decide (gj<1000) && !ub)=false:=by simp [hg1]
            rw [e]
            go_wp2
            go_roundw
            case rel=>exact ⟨j+1,by omega,by go_num,(zA HF).trans ((zA HS).trans (if_neg (fun h=>hg1 h.2))),zA HA6,zA HN6⟩
            case measure=>simp [intOf];omega
    · obtain rfl:j=X.gens.length:=by omega
      have hv0:nxTo X X.gens.length 0=if 60≤X.gens.length then ((0,0),4) else ((((X.gens.length:Nat):Int),1),0):=by rw [zA HF,Nat.sub_self];rfl
      have HV:=zB hv0
      have r1:=hN5.r1
      have HA5:=zB hA5
      clear HG HGV HR HF hv0 hA5 hN5
      by_cases h60:60≤X.gens.length
      · have h60':(60:Int)≤(X.gens.length:Int):=by omega
        go_wp2_with (first
          | (refine zG rfl 40 (.tmp 2) (.tmp 45) rfl (w.heap.size+1) 0 [.int .i64 0,.int .i64 0] rfl rfl (by simp [Value.oneCell']) size40 (zA HA5).there ?_;intro W3 hW3;have hA6:=(zA HA5).give (.int .i64 0) (.int .i64 0);rw [←hW3] at hA6;have HA6:=zB hA6;clear hW3 hA6))
        have t0:=(zA HA6).t0
        have t1:=(zA HA6).t1
        have hv:=(zA HV).trans (if_pos h60)
        refine bodyPost_ret (v:=.tuple #[.agg #[.int .i64 0,.int .i64 0],.int .i64 4]) (by simp [results,Try.results39,go_sem,t0,t1]) rfl ⟨by rw [hv],(zA HA6).bel⟩
      · have h60':¬ (60:Int)≤(X.gens.length:Int):=by omega
        go_wp2_with (first
          | (refine zG rfl 40 (.tmp 2) (.tmp 49) rfl (w.heap.size+1) 0 [.int .i64 (X.gens.length:Int),.int .i64 1] rfl rfl (by simp [Value.oneCell']) size40 (zA HA5).there ?_;intro W3 hW3;have hA6:=(zA HA5).give (.int .i64 (X.gens.length:Int)) (.int .i64 1);rw [←hW3] at hA6;have HA6:=zB hA6;clear hW3 hA6))
        have t0:=(zA HA6).t0
        have t1:=(zA HA6).t1
        have hv:=(zA HV).trans (if_neg h60)
        refine bodyPost_ret (v:=.tuple #[.agg #[.int .i64 (X.gens.length:Int),.int .i64 1],.int .i64 0]) (by simp [results,Try.results39,go_sem,t0,t1]) rfl ⟨by rw [hv],(zA HA6).bel⟩
end Go.Proofs.Ytnbleebilmghcaa
namespace Go.Proofs.Ytnbleebilmghcaa
open Go Go.RowKit
attribute [local go_sem ↓] Go.wp_at_zero Go.wp_at_succ
theorem row_none {X:Wd} {i g:Int} (h:zAe X i g=-1) (hl:X.rows.length≤60) (A:Option Addr) (c:Nat) (G:Option Addr) (gc:Nat) (W:World) (hX:WldAt W A c G gc X) :
    Calls Try.prog 49 #[.agg #[.slice A X.rows.length c,.slice G X.gens.length gc],.agg #[.int .i64 i,.int .i64 g]] W fun e w'=>e=.returned (.pointer none)∧Below W.heap.size W w':=by
  refine (row_any A X.rows.length c G X.gens.length gc (fun j=>X.rows.getD j dR) i g W (by omega) hX.rows).mono fun e w' ⟨⟨p,he,hp⟩,hb⟩=>⟨?_,hb⟩
  have hf:fIx (fun j=>X.rows.getD j dR) i g X.rows.length 0=-1:=h
  rcases hp with ⟨_,rfl⟩ | ⟨k,b,off,_,e2,_⟩
  · exact he
  · omega
theorem zCG {X:Wd} {i g:Int} {k:Nat} (h:zAe X i g=(k:Int)) (hl:X.rows.length≤60) (A:Option Addr) (c:Nat) (G:Option Addr) (gc:Nat) (W:World) (hX:WldAt W A c G gc X) :
    Calls Try.prog 49 #[.agg #[.slice A X.rows.length c,.slice G X.gens.length gc],.agg #[.int .i64 i,.int .i64 g]] W fun e w'=>∃ b o,e=.returned (.pointer (some ⟨b,o,none⟩))∧RowAt w' b o (zX X k)∧Below W.heap.size W w':=by
  refine (row_any A X.rows.length c G X.gens.length gc (fun j=>X.rows.getD j dR) i g W (by omega) hX.rows).mono fun e w' ⟨⟨p,he,hp⟩,hb⟩=>?_
  have hf:fIx (fun j=>X.rows.getD j dR) i g X.rows.length 0=(k:Int):=h
  rcases hp with ⟨e1,rfl⟩ | ⟨k',b,off,hk,e2,hA,rfl⟩
  · omega
  · have:k'=k:=by omega
    subst this
    obtain ⟨b',off',hA',hr⟩:=hX.rows k' hk
    rw [hA] at hA'
    injection hA' with hA'
    injection hA' with h1 h2
    subst h1 h2
    exact ⟨b,_,he,hr.below hb,hb⟩
theorem eq40 (i g i2 g2:Int) (w:World):(Op.equalIn 10000 40 (.agg #[.int .i64 i,.int .i64 g]) (.agg #[.int .i64 i2,.int .i64 g2])).run Try.prog w=.ok (i == i2 && g == g2) w:=by
  have hS:Try.prog.underlying 40=some (.struct (Try.prog.fieldsOf 40)):=by kernel_rfl
  rw [show (10000:Nat)=9999+1 from rfl,run_equalIn_agg w 9999 40 _ _ hS (by kernel_rfl)]
  simp only [Program.fieldsOf,Try.underlying40]
  by_cases h1:i=i2 <;> by_cases h2:g=g2
  all_goals go_simp
theorem neq40 (i g i2 g2:Int) (w:World):(binOp .neq 40 (.agg #[.int .i64 i,.int .i64 g]) (.agg #[.int .i64 i2,.int .i64 g2])).run Try.prog w=.ok (.bool (!(i == i2 && g == g2))) w:=by
  rw [run_neq_struct,eq40];rfl
end Go.Proofs.Ytnbleebilmghcaa
