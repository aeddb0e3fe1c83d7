/- BatchMath, Bat1, Bat2, Bat3, Bat4, Bat5 -/
import Derived.Test.YtnbleebilmghcacGreatKC
import Derived.Test.YtnbleebilmghcacGreatKU
import Derived.Test.YtnbleebilmghcacGreatKX
set_option linter.all false
namespace Go.Proofs.YtnbleebilmghcacGreat
def bhd (p:Nat→Bool) (B:List (List Nat)):Nat→Nat
  | 0=>0
  | a+1=>if (B.getD a []).any p then a+1 else bhd p B a
def putB (B:List (List Nat)) (a x:Nat):List (List Nat):=if a=B.length then B++[[x]] else B.set a (B.getD a []++[x])
def mkB (cl:Nat→Nat→Bool):Nat→List (List Nat)
  | 0=>[]
  | n+1=>putB (mkB cl n) (bhd (fun o=>cl o n) (mkB cl n) (mkB cl n).length) n
def lev (cl:Nat→Nat→Bool) (i:Nat):Nat:=bhd (fun o=>cl o i) (mkB cl i) (mkB cl i).length
theorem bhd_le (p:Nat→Bool) (B:List (List Nat)):∀ a,bhd p B a≤a
  | 0=>Nat.le_refl _
  | a+1=>by unfold bhd;split;exact Nat.le_refl _;exact Nat.le_trans (bhd_le p B a) (Nat.le_succ _)
theorem bhd_none (p:Nat→Bool) (B:List (List Nat)):∀ a k,bhd p B a≤k→k<a→(B.getD k []).any p=false
  | 0,_,_,h=>by omega
  | a+1,k,h1,h2=>by
    unfold bhd at h1
    cases h:(B.getD a []).any p
    · rw [h] at h1
      simp only [Bool.false_eq_true,if_false] at h1
      by_cases e:k=a
      · subst e;exact h
      · exact bhd_none p B a k h1 (by omega)
    · rw [h] at h1
      simp only [if_true] at h1
      omega
structure BInv (cl:Nat→Nat→Bool) (n:Nat):Prop where
  lt:∀ i,i<n→lev cl i<(mkB cl n).length
  at_:∀ k,k<(mkB cl n).length→(mkB cl n).getD k []=(List.range n).filter (fun i=>lev cl i == k)
  all:∀ k,k<(mkB cl n).length→∃ i,i<n∧lev cl i=k
theorem putB_len (B:List (List Nat)) (a x:Nat):(putB B a x).length=if a=B.length then B.length+1 else B.length:=by unfold putB;split <;> simp
theorem putB_get (B:List (List Nat)) (a x k:Nat) (ha:a≤B.length):(putB B a x).getD k []=if k=a then B.getD k []++[x] else B.getD k []:=by
  unfold putB
  by_cases h:a=B.length
  · rw [if_pos h]
    subst h
    by_cases hk:k=B.length
    · subst hk;simp
    · rw [if_neg hk]
      by_cases h2:k<B.length
      · rw [List.getD_eq_getElem?_getD,List.getD_eq_getElem?_getD,List.getElem?_append_left h2]
      · rw [List.getD_eq_getElem?_getD,List.getD_eq_getElem?_getD,List.getElem?_eq_none (by simp;omega),List.getElem?_eq_none (by omega)]
  · rw [if_neg h]
    by_cases hk:k=a
    · subst hk
      rw [if_pos rfl,List.getD_eq_getElem?_getD,List.getElem?_set_self (by omega)]
      rfl
    · rw [if_neg hk,List.getD_eq_getElem?_getD,List.getElem?_set_ne (by omega),List.getD_eq_getElem?_getD]
theorem binv (cl:Nat→Nat→Bool):∀ n,BInv cl n
  | 0=>⟨fun _ h=>by omega,fun _ h=>by simp [mkB] at h,fun _ h=>by simp [mkB] at h⟩
  | n+1=>by
    have ih:=binv cl n
    have hle:lev cl n≤(mkB cl n).length:=bhd_le _ _ _
    have e:mkB cl (n+1)=putB (mkB cl n) (lev cl n) n:=rfl
    have hl:(mkB cl (n+1)).length=if lev cl n=(mkB cl n).length then (mkB cl n).length+1 else (mkB cl n).length:=by rw [e,putB_len]
    refine ⟨fun i hi=>?_,fun k hk=>?_,fun k hk=>?_⟩
    · rw [hl]
      by_cases h:i=n
      · subst h;split <;> omega
      · have:=ih.lt i (by omega);split <;> omega
    · rw [e,putB_get _ _ _ _ hle,List.range_succ,List.filter_append]
      by_cases h:k<(mkB cl n).length
      · rw [ih.at_ k h]
        by_cases h2:k=lev cl n
        · rw [if_pos h2];simp [h2]
        · rw [if_neg h2];simp;omega
      · have h3:k=lev cl n∧k=(mkB cl n).length:=by rw [hl] at hk;split at hk <;> omega
        rw [if_pos h3.1,List.getD_eq_getElem?_getD,List.getElem?_eq_none (by omega)]
        have h4:(List.range n).filter (fun i=>lev cl i == k)=[]:=by
          rw [List.filter_eq_nil_iff]
          intro i hi
          have:=ih.lt i (List.mem_range.1 hi)
          simp;omega
        rw [h4]
        simp [h3.1]
    · by_cases h:k<(mkB cl n).length
      · obtain ⟨i,h1,h2⟩:=ih.all k h
        exact ⟨i,by omega,h2⟩
      · refine ⟨n,by omega,?_⟩
        rw [hl] at hk
        split at hk <;> omega
theorem mem_lev (cl:Nat→Nat→Bool) (n k i:Nat) (hk:k<(mkB cl n).length):i∈(mkB cl n).getD k []↔i<n∧lev cl i=k:=by
  rw [(binv cl n).at_ k hk,List.mem_filter,List.mem_range];simp
theorem lev_lt (cl:Nat→Nat→Bool) (i j:Nat) (hj:j<i) (hc:cl j i=true):lev cl j<lev cl i:=by
  by_cases h:lev cl i≤lev cl j
  · exfalso
    have hjl:=(binv cl i).lt j hj
    have:=bhd_none (fun o=>cl o i) (mkB cl i) (mkB cl i).length (lev cl j) h hjl
    rw [List.any_eq_false] at this
    exact absurd hc (by simpa using this j ((mem_lev cl i _ j hjl).2 ⟨hj,rfl⟩))
  · omega
theorem mkB_len (cl:Nat→Nat→Bool):∀ n,(mkB cl n).length≤n
  | 0=>Nat.le_refl _
  | n+1=>by
    have:=mkB_len cl n
    show (putB _ _ _).length≤_
    rw [putB_len];split <;> omega
theorem mkB_ne (cl:Nat→Nat→Bool) (n k:Nat) (hk:k<(mkB cl n).length):(mkB cl n).getD k []≠[]:=by
  obtain ⟨i,h1,h2⟩:=(binv cl n).all k hk
  intro h
  have:=(mem_lev cl n k i hk).2 ⟨h1,h2⟩
  rw [h] at this
  simp at this
end Go.Proofs.YtnbleebilmghcacGreat
set_option maxHeartbeats 2000000
set_option maxRecDepth 8000
namespace Go.Proofs.YtnbleebilmghcacGreat
open Go.RowKit
attribute [local go_sem ↓] Go.wp_at_zero Go.wp_at_succ
def sw (s:SysI):Int×Int:=wrF s.m s.al s.no s.a s.len
def bwTo (S:Nat→SysI):Nat→Nat→Int×Int
  | 0,_=>(0,0)
  | m+1,j=>if (sw (S j)).1=0 then bwTo S m (j+1) else ((sw (S j)).1,(j:Int))
def bwF (S:Nat→SysI) (n:Nat):Int×Int:=if 12<n then (4,0) else bwTo S n 0
theorem bwTo_step (S:Nat→SysI) (n j:Nat) (h:j<n):bwTo S (n - j) j=if (sw (S j)).1=0 then bwTo S (n - (j+1)) (j+1) else ((sw (S j)).1,(j:Int)):=by
  rw [show n - j=(n - (j+1))+1 by omega,bwTo]
structure WX (w wr:World):Prop where
  bel:Below w.heap.size w wr
  t0:wr.cell? ⟨w.heap.size,0,none⟩=some (.int .i64 0)
  t1:wr.cell? ⟨w.heap.size,1,none⟩=some (.int .i64 0)
  f:∀ i,wr.frozen? ⟨w.heap.size,i,none⟩=false
theorem WX.below {w wr w1:World} (h:WX w wr) (hb:Below wr.heap.size wr w1):WX w w1:=by
  have z:=World.block_lt_of_cell? wr _ h.t0
  exact ⟨h.bel.trans (hb.mono h.bel.size),zC hb h.t0,zC hb h.t1,fun i=>(hb.frozen (p:=⟨w.heap.size,i,none⟩) z).trans (h.f i)⟩
theorem WX.start (w:World):WX w (w.alloc (.cells #[.int .i64 0,.int .i64 0] 35)) :=
  ⟨(Below.refl _ _).alloc (Nat.le_refl _) _,by simp [go_sem],by simp [go_sem],fun i=>by simp [go_sem]⟩
theorem bwrong_any (L:Option Addr) (n cap:Nat) (S:Nat→SysI) (w:World) (hL:SyssAt w L n S) :
    Calls Tryz.prog 98 #[.slice L n cap] w fun e w'=>e=.returned (zAT (bwF S n))∧Below w.heap.size w w':=by
  unfold bwF
  by_cases hg:12<n
  · have hg':(12:Int)<(n:Int):=by omega
    simp only [hg,if_true]
    go_enter Tryz.func98,Tryz.ntmps98
    go_wp2
    refine bodyPost_ret (v:=zAT (4,0)) (by simp [results,Tryz.results98,go_sem,zAT]) rfl ⟨rfl,?_⟩
    go_grown
  · have hg':¬ (12:Int)<(n:Int):=by omega
    simp only [hg,if_false]
    have HX:=zB (WX.start w)
    have HL:=zB hL
    clear hL
    go_enter Tryz.func98,Tryz.ntmps98
    go_wp2
    go_loopw [12] (fun i wr=>∃ j:Nat,j≤n∧i=.int .i64 j∧bwTo S n 0=bwTo S (n - j) j∧WX w wr) (fun i _=>n - (intOf i).toNat)
    case atStart=>exact ⟨0,Nat.zero_le _,rfl,rfl,zA HX⟩
    case round =>
      clear HX
      obtain ⟨j,hj,rfl,hF,hN⟩:=hrel
      have HF:=zB hF
      clear hF
      by_cases hlt:j<n
      · have j0:(0:Int)≤(j:Int):=by omega
        have j1:(j:Int)<(n:Int):=by omega
        obtain ⟨b,off,rfl,hs⟩:=zA HL j hlt
        have hs:=hs.below hN.bel
        have q0:=hs.c0
        have q1:=hs.c1
        have q2:=hs.c2
        have q3:=hs.c3
        have HS:=zB (bwTo_step S n j hlt)
        have hC:=wrong_any (S j).m (S j).al (S j).no (S j).A (S j).len (S j).cap (S j).a _ (hs.acts.below ((Below.refl wr.heap.size wr).alloc (Nat.le_refl _) (.cells #[.int .i64 (S j).m,.int .i64 (S j).al,.int .i64 (S j).no,.slice (S j).A (S j).len (S j).cap] 44)))
        have e:wrF (S j).m (S j).al (S j).no (S j).a (S j).len=sw (S j):=rfl
        rw [e] at hC
        unfold zAT zCL at hC
        have HC:=zB hC
        have HN:=zB hN
        clear hN hC e HL hs
        generalize sw (S j)=x at *
        obtain ⟨ej,aj⟩:=x
        dsimp only at *
        generalize S j=s at *
        obtain ⟨m,al,no,A,len,cap,a⟩:=s
        dsimp only at *
        by_cases he:ej=0
        · subst he
          go_wp2_with (first
            | (go_at_call 53;refine (zA HC).mono ?_;rintro e w5 ⟨rfl,hb5⟩;have hN5:=(zA HN).below (Below.trans ((Below.refl _ _).alloc (Nat.le_refl _) _) (hb5.mono (by simp)));have HN5:=zB hN5;clear hb5 hN5))
          go_roundw
          case rel=>exact ⟨j+1,by omega,by go_num,(zA HF).trans ((zA HS).trans (by simp)),(zA HN5).below ((Below.refl _ _).alloc (Nat.le_refl _) _)⟩
          case measure=>simp [intOf];omega
        · go_wp2_with (first
            | (go_at_call 53;refine (zA HC).mono ?_;rintro e w5 ⟨rfl,hb5⟩;have hN5:=(zA HN).below (Below.trans ((Below.refl _ _).alloc (Nat.le_refl _) _) (hb5.mono (by simp)));have hN6:=hN5.below ((Below.refl _ _).alloc (Nat.le_refl _) (.cells #[.int .i64 ej,.int .i64 aj] 35));have t0:=hN6.t0;have t1:=hN6.t1;have f0:=hN6.f 0;have f1:=hN6.f 1;have HN6:=zB hN6;clear hb5 hN5 hN6))
          have hv:=(zA HF).trans ((zA HS).trans (if_neg he))
          refine bodyPost_ret (v:=zAT (ej,(j:Int))) (by simp [results,Tryz.results98,go_sem,zAT,t0,t1]) rfl ⟨by rw [hv],?_⟩
          exact zG w.heap.size (by omega) [.int .i64 ej,.int .i64 (j:Int)] 0 _ (zA HN6).bel
      · obtain rfl:j=n:=by omega
        have hv:bwTo S j 0=(0,0):=by rw [zA HF,Nat.sub_self];rfl
        have t0:=hN.t0
        have t1:=hN.t1
        have f0:=hN.f 0
        have f1:=hN.f 1
        have HB:=zB hN.bel
        clear hN HL
        go_wp2
        refine bodyPost_ret (v:=zAT (0,0)) (by simp [results,Tryz.results98,go_sem,zAT,t0,t1]) rfl ⟨by rw [hv],?_⟩
        exact zG w.heap.size (by omega) [.int .i64 0,.int .i64 0] 0 wr (zA HB)
def cs (x y:SysI):Bool:=clB x.al x.a x.len y.al y.a y.len
theorem cs_comm (x y:SysI):cs x y=cs y x:=clB_comm _ _ _ _ _ _
theorem mk1_any (L:Option Addr) (n cap:Nat) (S:Nat→SysI) (o:Nat) (s:SysI) (b1 b7:Nat) (w:World) (ho:o<n) (h8:∀ j,j<n→(S j).len≤8) (hs8:s.len≤8) (hL:SyssAt w L n S) (h1:w.cell? ⟨b1,0,none⟩=some (.slice L n cap)) (h7:SysAt w b7 0 s) :
    Calls Tryz.prog 99 #[.int .i64 (o:Int),.pointer (some ⟨b1,0,none⟩),.pointer (some ⟨b7,0,none⟩)] w fun e w'=>e=.returned (.bool (cs (S o) s))∧Below w.heap.size w w':=by
  obtain ⟨b,off,rfl,hs⟩:=hL o ho
  have hne:Nonempty (Sub w):=⟨⟨w,Below.refl _ _⟩⟩
  have p1:=zK h1
  have q0:=zK hs.c0
  have q1:=zK hs.c1
  have q2:=zK hs.c2
  have q3:=zK hs.c3
  have r0:=zK h7.c0
  have r1:=zK h7.c1
  have r2:=zK h7.c2
  have r3:=zK h7.c3
  have j0:(0:Int)≤(o:Int):=by omega
  have j1:(o:Int)<(n:Int):=by omega
  have hC:∀ x:Sub w,Calls Tryz.prog 100 #[zCL (S o).m (S o).al (S o).no (S o).A (S o).len (S o).cap,zCL s.m s.al s.no s.A s.len s.cap] x.val fun e w'=>e=.returned (.bool (cs (S o) s))∧Below x.val.heap.size x.val w':=fun x =>
    clash_any (S o).m (S o).al (S o).no (S o).A (S o).len (S o).cap (S o).a s.m s.al s.no s.A s.len s.cap s.a x.val (h8 o ho) hs8 (hs.acts.below x.bel) (h7.acts.below x.bel)
  unfold zCL at hC
  have HC:=zB hC
  clear hC hL hs h7 h1
  generalize cs (S o) s=ans at *
  generalize S o=x at *
  obtain ⟨m,al,no,A,len,cap',a⟩:=x
  obtain ⟨m',al',no',A',len',cap'',a'⟩:=s
  dsimp only at *
  go_enter Tryz.func99,Tryz.ntmps99
  go_wp2_with fail
  refine zAI (by kernel_rfl) (by kernel_rfl) ?_
  repeat (go_big_quiet_step ((first
    | (go_at_call 100;exact zBI (zA HC _)))))
  refine wpQuiet_nil ?_
  rintro w6 ⟨xs,hxs⟩
  have hb6:=xs.bel
  rw [←hxs] at hb6
  have HB:=zB hb6
  clear hxs xs hb6 p1 q0 q1 q2 q3 r0 r1 r2 r3 hne HC
  go_wp2_with fail
  go_ret
  exact ⟨rfl,zA HB⟩
end Go.Proofs.YtnbleebilmghcacGreat
set_option maxHeartbeats 1000000
set_option maxRecDepth 8000
namespace Go.Proofs.YtnbleebilmghcacGreat
open Go.RowKit
attribute [local go_sem ↓] Go.wp_at_zero Go.wp_at_succ
def CloAt (w:World) (b1 b7 n:Nat) (p:Nat→Bool):Prop:=∀ W,Below w.heap.size w W→∀ o,o<n→Calls Tryz.prog 99 #[.int .i64 (o:Int),.pointer (some ⟨b1,0,none⟩),.pointer (some ⟨b7,0,none⟩)] W fun e w'=>e=.returned (.bool (p o))∧Below W.heap.size W w'
theorem CloAt.below {w w1:World} {b1 b7 n:Nat} {p:Nat→Bool} (h:CloAt w b1 b7 n p) (hb:Below w.heap.size w w1):CloAt w1 b1 b7 n p:=fun W hW o ho=>h W (hb.trans (hW.mono hb.size)) o ho
def NumsAt (w:World) (A:Option Addr) (l:List Nat):Prop:=∀ j,j<l.length→∃ b off,A=some ⟨b,off,none⟩∧w.cell? ⟨b,off+j,none⟩=some (.int .i64 ((l.getD j 0:Nat):Int))
theorem NumsAt.below {w w1:World} {A:Option Addr} {l:List Nat} (h:NumsAt w A l) (hb:Below w.heap.size w w1):NumsAt w1 A l:=fun j hj=>by
  obtain ⟨b,off,h0,h1⟩:=h j hj
  exact ⟨b,off,h0,zC hb h1⟩
theorem getD_mem (l:List Nat) (j:Nat) (h:j<l.length):l.getD j 0∈l:=by
  rw [List.getD_eq_getElem?_getD,List.getElem?_eq_getElem h];exact List.getElem_mem h
theorem btake_any (l:List Nat) (p:Nat→Bool) (j:Nat) (h:j<l.length):(l.take (j+1)).any p=((l.take j).any p || p (l.getD j 0)):=by
  rw [List.take_succ_eq_append_getElem h,List.any_append,List.getD_eq_getElem?_getD,List.getElem?_eq_getElem h];simp
theorem indexNum_any (A:Option Addr) (l:List Nat) (cap n b1 b7:Nat) (p:Nat→Bool) (w:World) (hl:l.length≤140737488355328) (hn:∀ x∈l,x<n) (hA:NumsAt w A l) (hc:CloAt w b1 b7 n p) :
    Calls Tryz.prog 137 #[.slice A l.length cap,.func (.func 99) #[] #[.pointer (some ⟨b1,0,none⟩),.pointer (some ⟨b7,0,none⟩)]] w fun e w'=>∃ r:Int,e=.returned (.int .i64 r)∧decide (0≤r)=l.any p∧Below w.heap.size w w':=by
  have HA:=zB hA
  have HK:=zB hc
  have HM:=zB hn
  clear hA hc hn
  go_enter Tryz.func137,Tryz.ntmps137
  go_wp2
  go_loopw [8] (fun x wr=>∃ j:Nat,j≤l.length∧x=.int .i64 j∧(l.take j).any p=false∧Below w.heap.size w wr) (fun x _=>l.length - (intOf x).toNat)
  case atStart=>exact ⟨0,Nat.zero_le _,rfl,rfl,Below.refl _ _⟩
  case round =>
    obtain ⟨j,hj,rfl,hF,hbr⟩:=hrel
    have HF:=zB hF
    clear hF
    by_cases hlt:j<l.length
    · have j0:(0:Int)≤(j:Int):=by omega
      have j1:(j:Int)<(l.length:Int):=by omega
      obtain ⟨b,off,rfl,hcell⟩:=zA HA j hlt
      have hcell:=zC hbr hcell
      have HT:=zB (btake_any l p j hlt)
      have HME:=zB (getD_mem l j hlt)
      have hC:=zA HK wr hbr (l.getD j 0) (zA HM _ (getD_mem l j hlt))
      have HP:Hid (∀ q,p (l.getD j 0)=q→(p (l.getD j 0))=q):=fun _ h=>h
      have HBR:=zB hbr
      have HC:=zB hC
      clear hC hbr HK HA HM
      generalize hx:l.getD j 0=x at *
      clear hx HP
      generalize hpx:p x=px at *
      have HPX:=zB hpx
      clear hpx
      cases px
      all_goals
        go_wp2_with (first
          | (go_at_call 99;refine (zA HC).mono ?_;rintro e w5 ⟨rfl,hb5⟩;have HB5:=zB ((zA HBR).trans (hb5.mono (zA HBR).size));clear hb5))
        first
        | (go_ret
           refine ⟨(j:Int),rfl,?_,zA HB5⟩
           have ha:l.any p=true:=List.any_eq_true.2 ⟨x,zA HME,zA HPX⟩
           rw [ha];simp)
        | (go_roundw
           case rel=>exact ⟨j+1,by omega,by go_num,by rw [zA HT,zA HF];rfl,zA HB5⟩
           case measure=>simp [intOf];omega)
    · obtain rfl:j=l.length:=by omega
      have ha:l.any p=false:=by simpa using zA HF
      have HB:=zB hbr
      have HAN:=zB ha
      clear hbr HA HK HM ha HF
      go_wp2
      go_ret
      refine ⟨-1,rfl,?_,zA HB⟩
      rw [zA HAN];rfl
theorem containsNum_any (A:Option Addr) (l:List Nat) (cap n b1 b7:Nat) (p:Nat→Bool) (w:World) (hl:l.length≤140737488355328) (hn:∀ x∈l,x<n) (hA:NumsAt w A l) (hc:CloAt w b1 b7 n p) :
    Calls Tryz.prog 122 #[.slice A l.length cap,.func (.func 99) #[] #[.pointer (some ⟨b1,0,none⟩),.pointer (some ⟨b7,0,none⟩)]] w fun e w'=>e=.returned (.bool (l.any p))∧Below w.heap.size w w':=by
  have HC:=zB (indexNum_any A l cap n b1 b7 p w hl hn hA hc)
  clear hn hA hc
  go_enter Tryz.func122,Tryz.ntmps122
  go_wp2_with (first
    | (go_at_call 137;refine (zA HC).mono ?_;rintro e w5 ⟨r,rfl,hr,hb5⟩;have HB5:=zB hb5;have HR:=zB hr;clear hb5 hr))
  all_goals
    go_ret
    refine ⟨?_,zA HB5⟩
    rw [←zA HR]
    simp [*]
def BatsAt (w:World) (B:Option Addr) (bs:List (List Nat)):Prop:=∀ k,k<bs.length→∃ b off A cap,B=some ⟨b,off,none⟩∧w.cell? ⟨b,off+k,none⟩=some (.slice A (bs.getD k []).length cap)∧NumsAt w A (bs.getD k [])
theorem BatsAt.below {w w1:World} {B:Option Addr} {bs:List (List Nat)} (h:BatsAt w B bs) (hb:Below w.heap.size w w1):BatsAt w1 B bs:=fun k hk=>by
  obtain ⟨b,off,A,cap,h0,h1,h2⟩:=h k hk
  exact ⟨b,off,A,cap,h0,zC hb h1,h2.below hb⟩
theorem bhd_step (p:Nat→Bool) (B:List (List Nat)) (a:Nat):bhd p B (a+1)=if (B.getD a []).any p then a+1 else bhd p B a:=rfl
theorem behind_any (B:Option Addr) (bs:List (List Nat)) (cap n b1 b7:Nat) (p:Nat→Bool) (w:World) (hl:bs.length≤100) (hl2:∀ k,k<bs.length→(bs.getD k []).length≤100) (hn:∀ k,k<bs.length→∀ x∈bs.getD k [],x<n) (hB:BatsAt w B bs) (hc:CloAt w b1 b7 n p) :
    Calls Tryz.prog 101 #[.slice B bs.length cap,.func (.func 99) #[] #[.pointer (some ⟨b1,0,none⟩),.pointer (some ⟨b7,0,none⟩)]] w fun e w'=>e=.returned (.int .i64 (bhd p bs bs.length:Nat))∧Below w.heap.size w w':=by
  have HBT:=zB hB
  have HK:=zB hc
  have HM:=zB hn
  have HL2:=zB hl2
  clear hB hc hn hl2
  go_enter Tryz.func101,Tryz.ntmps101
  go_wp2
  go_loopw [5] (fun x wr=>∃ a:Nat,a≤bs.length∧x=.int .i64 a∧bhd p bs bs.length=bhd p bs a∧Below w.heap.size w wr) (fun x _=>(intOf x).toNat)
  case atStart=>exact ⟨bs.length,Nat.le_refl _,rfl,rfl,Below.refl _ _⟩
  case round =>
    obtain ⟨a,ha,rfl,hF,hbr⟩:=hrel
    have HF:=zB hF
    clear hF
    cases a with
    | zero =>
      have hv:bhd p bs bs.length=0:=zA HF
      have HB:=zB hbr
      have HV:=zB hv
      clear hbr hv HBT HK HM HF
      go_wp2
      go_ret
      exact ⟨by rw [zA HV];rfl,zA HB⟩
    | succ a =>
      have a0:(0:Int)≤(a:Int):=by omega
      have a1:(a:Int)<(bs.length:Int):=by omega
      have a2:(0:Int)<(a:Int)+1:=by omega
      obtain ⟨b,off,A,cap',rfl,hcell,hnums⟩:=zA HBT a (by omega)
      have hcell:=zC hbr hcell
      have HC:=zB (containsNum_any A (bs.getD a []) cap' n b1 b7 p wr (by have:=zA HL2 a (by omega);omega) (zA HM a (by omega)) (hnums.below hbr) ((zA HK).below hbr))
      have HS:=zB (bhd_step p bs a)
      have HBR:=zB hbr
      clear hbr HK HBT HM hnums HL2
      generalize (bs.getD a []).any p=any at *
      generalize (bs.getD a []).length=len at *
      cases any
      all_goals
        go_wp2_with (first
          | (go_at_call 122;refine (zA HC).mono ?_;rintro e w5 ⟨rfl,hb5⟩;have HB5:=zB ((zA HBR).trans (hb5.mono (zA HBR).size));clear hb5))
        first
        | (go_ret
           exact ⟨by rw [zA HF,zA HS];simp,zA HB5⟩)
        | (go_roundw
           case rel=>exact ⟨a,by omega,by go_num,(zA HF).trans ((zA HS).trans (by simp)),zA HB5⟩
           case measure=>simp [intOf])
end Go.Proofs.YtnbleebilmghcacGreat
namespace Go.Proofs.YtnbleebilmghcacGreat
open Go Go.RowKit
def zBF (l:List Nat):List Value:=l.map fun x=>Value.int .i64 ((x:Nat):Int)
def nilV:Value:=.slice none 0 0
structure OBt (W:World) (base:Nat) (v:Value) (bs:List (List Nat)) (xs:List Value):Prop where
  top:W.ownsRow base 26 1 v bs.length xs
  each:∀ k,k<bs.length→W.ownsRow base 3 1 (xs.getD k nilV) (bs.getD k []).length (zBF (bs.getD k []))
  apart:∀ k k',k<bs.length→k'<bs.length→k≠k'→∀ g,(xs.getD k nilV).ownBlock=some g→(xs.getD k' nilV).ownBlock≠some g
theorem OBt.nil (W:World) (base:Nat):OBt W base (.slice none 0 0) [] []:=⟨World.ownsRow_nil _ _ _ _,fun _ h=>by simp at h,fun _ _ h=>by simp at h⟩
theorem OBt.len {W:World} {base:Nat} {v:Value} {bs:List (List Nat)} {xs:List Value} (h:OBt W base v bs xs):xs.length=bs.length:=by simpa using h.top.1
theorem OBt.below {W W1:World} {base:Nat} {v:Value} {bs:List (List Nat)} {xs:List Value} (h:OBt W base v bs xs) (hb:Below W.heap.size W W1):OBt W1 base v bs xs :=
  ⟨zb h.top hb,fun k hk=>zb (h.each k hk) hb,h.apart⟩
theorem numsAt_own {W:World} {base:Nat} {v:Value} {l:List Nat} (h:W.ownsRow base 3 1 v l.length (zBF l)):∃ A cap,v=.slice A l.length cap∧NumsAt W A l:=by
  by_cases h0:0<l.length
  · obtain ⟨g,cap,rfl,_,_⟩:=zAP h h0
    refine ⟨some ⟨g,0,none⟩,cap,rfl,fun j hj=>⟨g,0,rfl,?_⟩⟩
    rw [Nat.zero_add]
    refine ze h ?_
    unfold zBF
    rw [List.getElem?_map,List.getElem?_eq_getElem hj,List.getD_eq_getElem?_getD,List.getElem?_eq_getElem hj]
    rfl
  · obtain rfl:l=[]:=List.eq_nil_of_length_eq_zero (by omega)
    rcases h.2 with ⟨rfl,_⟩ | ⟨g,cap,cur,rfl,_⟩
    · exact ⟨none,0,rfl,fun j hj=>by simp at hj⟩
    · exact ⟨_,cap,rfl,fun j hj=>by simp at hj⟩
theorem OBt.bats {W:World} {base:Nat} {v:Value} {bs:List (List Nat)} {xs:List Value} (h:OBt W base v bs xs):∃ B cap,v=.slice B bs.length cap∧BatsAt W B bs:=by
  by_cases h0:0<bs.length
  · have ht:=h.top
    obtain ⟨g,cap,rfl,_,_⟩:=zAP ht h0
    refine ⟨some ⟨g,0,none⟩,cap,rfl,fun k hk=>?_⟩
    obtain ⟨A,c,hv,hn⟩:=numsAt_own (h.each k hk)
    refine ⟨g,0,A,c,rfl,?_,hn⟩
    rw [Nat.zero_add]
    refine ze ht ?_
    have hkx:k<xs.length:=by rw [h.len];exact hk
    rw [←hv,List.getD_eq_getElem?_getD,List.getElem?_eq_getElem hkx]
    rfl
  · obtain rfl:bs=[]:=List.eq_nil_of_length_eq_zero (by omega)
    rcases h.top.2 with ⟨rfl,_⟩ | ⟨g,cap,cur,rfl,_⟩
    · exact ⟨none,0,rfl,fun j hj=>by simp at hj⟩
    · exact ⟨_,cap,rfl,fun j hj=>by simp at hj⟩
theorem getD_app (xs:List Value) (u:Value) (k:Nat) (h:k<xs.length):(xs++[u]).getD k nilV=xs.getD k nilV:=by
  rw [List.getD_eq_getElem?_getD,List.getD_eq_getElem?_getD,List.getElem?_append_left h]
theorem getD_last (xs:List Value) (u:Value):(xs++[u]).getD xs.length nilV=u:=by
  rw [List.getD_eq_getElem?_getD];simp
theorem getDl_app (xs:List (List Nat)) (u:List Nat) (k:Nat) (h:k<xs.length):(xs++[u]).getD k []=xs.getD k []:=by
  rw [List.getD_eq_getElem?_getD,List.getD_eq_getElem?_getD,List.getElem?_append_left h]
theorem getDl_last (xs:List (List Nat)) (u:List Nat):(xs++[u]).getD xs.length []=u:=by
  rw [List.getD_eq_getElem?_getD];simp
theorem OBt.push {W W':World} {base:Nat} {v v':Value} {bs:List (List Nat)} {xs:List Value} (h:OBt W base v bs xs) (ho:W'.ownsRow base 26 1 v' (bs.length+1) (xs++[nilV])) (hg:W.grownBy W' v.ownBlock):OBt W' base v' (bs++[[]]) (xs++[nilV]):=by
  have hl:=h.len
  refine ⟨by simpa using ho,fun k hk=>?_,fun k k' hk hk' hne g hg1=>?_⟩
  · by_cases hkl:k<bs.length
    · rw [getD_app _ _ _ (by omega),getDl_app _ _ _ hkl]
      exact (h.each k hkl).kept hg (zc (h.each k hkl) h.top (by decide))
    · have:k=bs.length:=by simp at hk;omega
      subst this
      have e:=getD_last xs nilV
      rw [hl] at e
      rw [e,getDl_last]
      exact World.ownsRow_nil _ _ _ _
  · by_cases hkl:k<bs.length
    · rw [getD_app _ _ _ (by omega)] at hg1
      by_cases hkl':k'<bs.length
      · rw [getD_app _ _ _ (by omega)];exact h.apart k k' hkl hkl' hne g hg1
      · have:k'=xs.length:=by simp at hk';omega
        subst this
        rw [getD_last]
        simp [nilV,Value.ownBlock]
    · have:k=xs.length:=by simp at hk;omega
      subst this
      rw [getD_last] at hg1
      simp [nilV,Value.ownBlock] at hg1
theorem zCk (xs:List Value) (u:Value) (k:Nat) (h:k<xs.length):(xs.set k u).getD k nilV=u:=by
  rw [List.getD_eq_getElem?_getD,List.getElem?_set_self h];rfl
theorem zBc (xs:List Value) (u:Value) (k j:Nat) (h:k≠j):(xs.set k u).getD j nilV=xs.getD j nilV:=by
  rw [List.getD_eq_getElem?_getD,List.getElem?_set_ne h,List.getD_eq_getElem?_getD]
theorem getDl_set_self (xs:List (List Nat)) (u:List Nat) (k:Nat) (h:k<xs.length):(xs.set k u).getD k []=u:=by
  rw [List.getD_eq_getElem?_getD,List.getElem?_set_self h];rfl
theorem getDl_set_other (xs:List (List Nat)) (u:List Nat) (k j:Nat) (h:k≠j):(xs.set k u).getD j []=xs.getD j []:=by
  rw [List.getD_eq_getElem?_getD,List.getElem?_set_ne h,List.getD_eq_getElem?_getD]
theorem OBt.add {W W':World} {base g cap:Nat} {bs:List (List Nat)} {xs:List Value} (h:OBt W base (.slice (some ⟨g,0,none⟩) bs.length cap) bs xs) {k x g2 cap2:Nat} (hk:k<bs.length)
    (ho:W'.ownsRow base 3 1 (.slice (some ⟨g2,0,none⟩) ((bs.getD k []).length+1) cap2) ((bs.getD k []).length+1) (zBF (bs.getD k [])++[.int .i64 (x:Int)])) (hg:W.grownBy W' (xs.getD k nilV).ownBlock) (hw:some g2=(xs.getD k nilV).ownBlock∨W.heap.size≤g2) :
    OBt (W'.setCell ⟨g,k,none⟩ (.slice (some ⟨g2,0,none⟩) ((bs.getD k []).length+1) cap2)) base (.slice (some ⟨g,0,none⟩) bs.length cap) (bs.set k (bs.getD k []++[x])) (xs.set k (.slice (some ⟨g2,0,none⟩) ((bs.getD k []).length+1) cap2)):=by
  have hl:=h.len
  have ht:=h.top.kept hg (zc h.top (h.each k hk) (by decide))
  have hgl:=(h.top.lt g rfl).2
  have hg2:g2≠g:=by
    intro e
    subst e
    obtain ⟨cur,h1,_⟩:=zBN ht
    obtain ⟨cur2,h2,_⟩:=zBN ho
    rw [h1] at h2
    simp at h2
  have blk:∀ j,j<bs.length→j≠k→(xs.getD j nilV).ownBlock≠some g2:=by
    intro j hj hjk hc
    rcases hw with hw | hw
    · exact h.apart j k hj hk hjk g2 hc hw.symm
    · have:=((h.each j hj).lt g2 hc).2;omega
  have blkg:∀ j,j<bs.length→(xs.getD j nilV).ownBlock≠some g:=by
    intro j hj hc
    have:=zc (h.each j hj) h.top (by decide)
    rcases this with h1 | h1
    · rw [h1] at hc;cases hc
    · exact h1 hc
  refine ⟨?_,fun j hj=>?_,fun j j' hj hj' hne y hy=>?_⟩
  · rw [List.length_set];exact own_set ht (by omega) _
  · rw [List.length_set] at hj
    by_cases e:k=j
    · subst e
      rw [zCk _ _ _ (by omega),getDl_set_self _ _ _ hk]
      refine ownsRow_setCell_other ?_ (by simpa [Value.ownBlock] using hg2) _
      simpa [zBF] using ho
    · rw [zBc _ _ _ _ e,getDl_set_other _ _ _ _ e]
      refine ownsRow_setCell_other ((h.each j hj).kept hg ?_) (blkg j hj) _
      cases hb:(xs.getD j nilV).ownBlock with
      | none=>exact .inl rfl
      | some y=>exact .inr fun hc=>h.apart j k hj hk (Ne.symm e) y hb hc.symm
  · rw [List.length_set] at hj hj'
    by_cases e:k=j
    · subst e
      rw [zCk _ _ _ (by omega)] at hy
      rw [zBc _ _ _ _ hne]
      simp only [Value.ownBlock,Option.some.injEq] at hy
      subst hy
      exact blk j' hj' (Ne.symm hne)
    · rw [zBc _ _ _ _ e] at hy
      by_cases e':k=j'
      · subst e'
        rw [zCk _ _ _ (by omega)]
        intro hc
        simp only [Value.ownBlock,Option.some.injEq] at hc
        subst hc
        exact blk j hj hne hy
      · rw [zBc _ _ _ _ e'];exact h.apart j j' hj hj' hne y hy
end Go.Proofs.YtnbleebilmghcacGreat
namespace Go.Proofs.YtnbleebilmghcacGreat
open Go Go.RowKit
attribute [local go_sem ↓] Go.wp_at_zero Go.wp_at_succ
theorem bwTo_zero (S:Nat→SysI):∀ m j,(bwTo S m j).1=0→(∀ i,i<m→(sw (S (j+i))).1=0)∧bwTo S m j=(0,0)
  | 0,_,_=>⟨fun _ h=>by omega,rfl⟩
  | m+1,j,h=>by
    unfold bwTo at h ⊢
    by_cases h1:(sw (S j)).1=0
    · rw [if_pos h1] at h ⊢
      obtain ⟨h2,h3⟩:=bwTo_zero S m (j+1) h
      refine ⟨fun i hi=>?_,h3⟩
      cases i with
      | zero=>exact h1
      | succ i=>rw [show j+(i+1)=j+1+i by omega];exact h2 i (by omega)
    · rw [if_neg h1] at h;exact absurd h h1
theorem bw_right (S:Nat→SysI) (n:Nat) (h:(bwF S n).1=0):n≤12∧(∀ j,j<n→(sw (S j)).1=0)∧bwF S n=(0,0):=by
  unfold bwF at h ⊢
  by_cases h1:12<n
  · rw [if_pos h1] at h;exact absurd h (by decide)
  · rw [if_neg h1] at h ⊢
    obtain ⟨h2,h3⟩:=bwTo_zero S n 0 h
    exact ⟨by omega,fun j hj=>by have:=h2 j hj;rwa [Nat.zero_add] at this,h3⟩
structure MK (w:World) (L:Option Addr) (n cap:Nat) (W:World):Prop where
  bel:Below w.heap.size w W
  sz:w.heap.size+2≤W.heap.size
  b1:W.cell? ⟨w.heap.size,0,none⟩=some (.slice L n cap)
  t0:W.cell? ⟨w.heap.size+1,0,none⟩=some (.int .i64 0)
  t1:W.cell? ⟨w.heap.size+1,1,none⟩=some (.int .i64 0)
  f:∀ i,W.frozen? ⟨w.heap.size+1,i,none⟩=false
theorem MK.keep {w W W1:World} {L:Option Addr} {n cap:Nat} (h:MK w L n cap W) (hb:Below (w.heap.size+2) W W1):MK w L n cap W1 :=
  ⟨h.bel.trans (hb.mono (by omega)),Nat.le_trans h.sz hb.size,(hb.cell (p:=⟨w.heap.size,0,none⟩) (by simp)).trans h.b1,(hb.cell (p:=⟨w.heap.size+1,0,none⟩) (by simp)).trans h.t0,(hb.cell (p:=⟨w.heap.size+1,1,none⟩) (by simp)).trans h.t1,fun i=>(hb.frozen (p:=⟨w.heap.size+1,i,none⟩) (by simp)).trans (h.f i)⟩
theorem MK.below {w W W1:World} {L:Option Addr} {n cap:Nat} (h:MK w L n cap W) (hb:Below W.heap.size W W1):MK w L n cap W1:=h.keep (hb.mono h.sz)
theorem MK.start (w:World) (L:Option Addr) (n cap:Nat):MK w L n cap ((w.alloc (.cells #[.slice L n cap] 29)).alloc (.cells #[.int .i64 0,.int .i64 0] 35)):=by
  obtain ⟨w1,h1⟩:∃ W,W=w.alloc (.cells #[.slice L n cap] 29):=⟨_,rfl⟩
  have z1:w1.heap.size=w.heap.size+1:=by rw [h1];simp
  have b1:Below w.heap.size w w1:=by rw [h1];exact (Below.refl _ _).alloc (Nat.le_refl _) _
  have e0:w1.cell? ⟨w.heap.size,0,none⟩=some (.slice L n cap):=by rw [h1];simp
  rw [←h1]
  clear h1
  have b2:Below w1.heap.size w1 (w1.alloc (.cells #[.int .i64 0,.int .i64 0] 35)):=(Below.refl _ _).alloc (Nat.le_refl _) _
  refine ⟨b1.trans (b2.mono b1.size),by simp;omega,zC b2 e0,?_,?_,fun i=>?_⟩ <;> rw [←z1] <;> simp [go_sem]
end Go.Proofs.YtnbleebilmghcacGreat
set_option maxHeartbeats 4000000
set_option maxRecDepth 8000
namespace Go.Proofs.YtnbleebilmghcacGreat
open Go Go.RowKit
attribute [local go_sem ↓] Go.wp_at_zero Go.wp_at_succ
theorem info38:(Tryz.prog.info? 26).map (fun i=>(i.zero,i.size,i.bytes))=some (some (.slice none 0 0),1,24):=by kernel_rfl
def clS (S:Nat→SysI) (o i:Nat):Bool:=cs (S o) (S i)
theorem mkB_step (cl:Nat→Nat→Bool) (n:Nat):mkB cl (n+1)=putB (mkB cl n) (lev cl n) n:=rfl
theorem mkB_lens (cl:Nat→Nat→Bool) (n k:Nat) (hk:k<(mkB cl n).length):((mkB cl n).getD k []).length≤n:=by
  rw [(binv cl n).at_ k hk];exact Nat.le_trans (List.length_filter_le _ _) (by simp)
theorem OBt.cellAt {W W':World} {base g cap:Nat} {bs:List (List Nat)} {xs:List Value} (h:OBt W base (.slice (some ⟨g,0,none⟩) bs.length cap) bs xs) {k:Nat} (hk:k<bs.length) (hg:W.grownBy W' (xs.getD k nilV).ownBlock):W'.cell? ⟨g,k,none⟩=some (xs.getD k nilV)∧W'.frozen? ⟨g,k,none⟩=false:=by
  have ht:=h.top.kept hg (zc h.top (h.each k hk) (by decide))
  refine ⟨ze ht ?_,own_free ht k⟩
  have hkx:k<xs.length:=by rw [h.len];exact hk
  rw [List.getD_eq_getElem?_getD,List.getElem?_eq_getElem hkx];rfl
theorem OBt.cell {W:World} {base g cap:Nat} {bs:List (List Nat)} {xs:List Value} (h:OBt W base (.slice (some ⟨g,0,none⟩) bs.length cap) bs xs) {k:Nat} (hk:k<bs.length):W.cell? ⟨g,k,none⟩=some (xs.getD k nilV) :=
  (h.cellAt hk (World.grownBy.refl W _)).1
theorem OBt.blk {W:World} {base:Nat} {v:Value} {bs:List (List Nat)} {xs:List Value} (h:OBt W base v bs xs) {k:Nat} (hk:k<bs.length):∀ y,(xs.getD k nilV).ownBlock=some y→base≤y:=fun y hy=>((h.each k hk).lt y hy).1
theorem OBt.pos {W:World} {base:Nat} {v:Value} {bs:List (List Nat)} {xs:List Value} (h:OBt W base v bs xs) (h0:0<bs.length):∃ g cap,v=.slice (some ⟨g,0,none⟩) bs.length cap:=by
  obtain ⟨g,cap,hv,_⟩:=zAP h.top h0
  exact ⟨g,cap,hv⟩
theorem putB_set (bs:List (List Nat)) (k x:Nat) (h:k<bs.length):putB bs k x=bs.set k (bs.getD k []++[x]):=by unfold putB;rw [if_neg (by omega)]
theorem putB_app (bs:List (List Nat)) (x:Nat):putB bs bs.length x=(bs++[[]]).set bs.length ((bs++[[]]).getD bs.length []++[x]):=by
  unfold putB;rw [if_pos rfl,getDl_last];simp
theorem OBt.setBelow {W:World} {base:Nat} {v:Value} {bs:List (List Nat)} {xs:List Value} (h:OBt W base v bs xs) {a:Addr} (ha:a.block<base) (u:Value):OBt (W.setCell a u) base v bs xs :=
  ⟨ownsRow_setCell_below h.top ha u,fun k hk=>ownsRow_setCell_below (h.each k hk) ha u,h.apart⟩
theorem OBt.setsBelow {base b:Nat} {v:Value} {bs:List (List Nat)} {xs:List Value} (hb:b<base):∀ (vs:List Value) (o:Nat) (W:World),OBt W base v bs xs→OBt (W.setCells b o vs) base v bs xs
  | [],_,_,h=>h
  | u :: r,o,_,h=>OBt.setsBelow hb r (o+1) _ (h.setBelow (a:=⟨b,o,none⟩) hb u)
theorem le_alloc {B:Nat} {w:World} (h:B≤w.heap.size) (o:Obj):B≤(w.alloc o).heap.size:=by simp;omega
theorem new_ge {W:World} {g:Nat} (h:some g=Value.ownBlock (.slice none 0 0)∨g=W.heap.size):W.heap.size≤g:=by
  rcases h with h | h
  · cases h
  · omega
theorem one1 (u:Value) (h:u.oneCell'=true):∀ x∈[u],x.oneCell'=true:=fun x hx=>by rw [List.mem_singleton] at hx;rw [hx];exact h
theorem app_last (xs:List Value) (u:Value) (k:Nat) (h:xs.length=k):(xs++[u])[k]?=some u:=by subst h;simp
theorem OBt.add0 {W W':World} {base g cap:Nat} {bs:List (List Nat)} {xs:List Value} (h:OBt W base (.slice (some ⟨g,0,none⟩) (bs.length+1) cap) (bs++[[]]) (xs++[nilV])) {x g2 cap2:Nat}
    (ho:W'.ownsRow base 3 1 (.slice (some ⟨g2,0,none⟩) 1 cap2) 1 [.int .i64 (x:Int)]) (hg:W.grownBy W' none) (hw:W.heap.size≤g2) :
    OBt (W'.setCell ⟨g,bs.length,none⟩ (.slice (some ⟨g2,0,none⟩) 1 cap2)) base (.slice (some ⟨g,0,none⟩) (bs.length+1) cap) (putB bs bs.length x) ((xs++[nilV]).set bs.length (.slice (some ⟨g2,0,none⟩) 1 cap2)):=by
  have hx:xs.length=bs.length:=by have:=h.len;simp at this;omega
  have e1:(bs++[[]]).getD bs.length []=[]:=getDl_last bs []
  have e2:(xs++[nilV]).getD bs.length nilV=nilV:=by rw [←hx];exact getD_last xs nilV
  have e3:(bs++[([]:List Nat)]).length=bs.length+1:=by simp
  have h':OBt W base (.slice (some ⟨g,0,none⟩) (bs++[[]]).length cap) (bs++[[]]) (xs++[nilV]):=by rw [e3];exact h
  have R:=OBt.add (W':=W') (x:=x) (g2:=g2) (cap2:=cap2) h' (k:=bs.length) (by rw [e3];omega) (by rw [e1];simpa [zBF] using ho) (by rw [e2];exact hg) (.inr hw)
  rw [e1,e3] at R
  rw [putB_app,e1]
  exact R
theorem OBt.cell0 {W:World} {base g cap:Nat} {bs:List (List Nat)} {xs:List Value} (h:OBt W base (.slice (some ⟨g,0,none⟩) (bs.length+1) cap) (bs++[[]]) (xs++[nilV])):W.cell? ⟨g,bs.length,none⟩=some nilV∧W.frozen? ⟨g,bs.length,none⟩=false:=by
  have hx:xs.length=bs.length:=by have:=h.len;simp at this;omega
  have ht:=h.top
  rw [show (bs++[([]:List Nat)]).length=bs.length+1 by simp] at ht
  exact ⟨ze ht (app_last xs nilV _ hx),own_free ht _⟩
theorem OBt.lo {W:World} {base g cap n:Nat} {bs:List (List Nat)} {xs:List Value} (h:OBt W base (.slice (some ⟨g,0,none⟩) n cap) bs xs):base≤g:=(h.top.lt g rfl).1
theorem make_right (L:Option Addr) (n cap:Nat) (S:Nat→SysI) (w:World) (hL:SyssAt w L n S) (hw:(bwF S n).1=0) :
    Calls Tryz.prog 69 #[.slice L n cap] w fun e w'=>∃ B cap',e=.returned (.tuple #[.slice B (mkB (clS S) n).length cap',zAT (0,0)])∧BatsAt w' B (mkB (clS S) n)∧Below w.heap.size w w':=by
  obtain ⟨hn,hsw,hz⟩:=bw_right S n hw
  have h8:∀ j,j<n→(S j).len≤8:=fun j hj=>((zBT _ _ _ _ _).1 (hsw j hj)).2.1
  have hM:=MK.start w L n cap
  have hC:=bwrong_any L n cap S _ (hL.below hM.bel)
  rw [hz] at hC
  unfold zAT at *
  have HM:=zB hM
  have HC:=zB hC
  have HL:=zB hL
  have H8:=zB h8
  clear hC hM hL hw hsw hz h8
  obtain ⟨i38,hi38,hz38,hs38,hb38⟩:=info_parts info38
  obtain ⟨i3,hi3,hz3,hs3,hb3⟩:=info_parts info3
  have HI38:=zB hi38
  have HZ38:=zB hz38
  have HS38:=zB hs38
  have HB38:=zB hb38
  have HI3:=zB hi3
  have HZ3:=zB hz3
  have HS3:=zB hs3
  have HB3:=zB hb3
  clear hi38 hz38 hs38 hb38 hi3 hz3 hs3 hb3
  go_enter Tryz.func69,Tryz.ntmps69
  go_wp2_with (first
    | (go_at_call 98;refine (zA HC).mono ?_;rintro e w5 ⟨rfl,hb5⟩;have hM5:=(zA HM).below hb5;have hM6:=hM5.below ((Below.refl _ _).alloc (Nat.le_refl _) (.cells #[.int .i64 0,.int .i64 0] 35));have b1:=hM6.b1;have HM6:=zB hM6;clear hb5 hM5 hM6))
  clear HC HM
  clear b1
  go_loopw [5,18] (fun v i wr=>∃ (j:Nat) (xs:List Value),j≤n∧i=.int .i64 j∧MK w L n cap wr∧OBt wr (w.heap.size+2) v (mkB (clS S) j) xs) (fun _ i _=>n - (intOf i).toNat)
  case atStart=>exact ⟨0,[],Nat.zero_le _,rfl,zA HM6,OBt.nil _ _⟩
  case round =>
    clear HM6
    obtain ⟨j,xs,hj,rfl,hN,hO⟩:=hrel
    obtain ⟨B,capb,hv,hB⟩:=hO.bats
    subst hv
    by_cases hlt:j<n
    · have j0:(0:Int)≤(j:Int):=by omega
      have j1:(j:Int)<(n:Int):=by omega
      obtain ⟨b,off,hLe,hs⟩:=zA HL j hlt
      have hs:=hs.below hN.bel
      obtain ⟨W1,hW1⟩:∃ W,W=wr.alloc (.cells #[.int .i64 (S j).m,.int .i64 (S j).al,.int .i64 (S j).no,.slice (S j).A (S j).len (S j).cap] 44):=⟨_,rfl⟩
      have hb1:Below wr.heap.size wr W1:=by rw [hW1];exact (Below.refl _ _).alloc (Nat.le_refl _) _
      have h7:SysAt W1 wr.heap.size 0 (S j):=⟨by rw [hW1];simp,by rw [hW1];simp,by rw [hW1];simp,by rw [hW1];simp,hs.acts.below hb1⟩
      have hM1:=hN.below hb1
      have hL1:=(zA HL).below hM1.bel
      have hclo:CloAt W1 w.heap.size wr.heap.size n (fun o=>clS S o j):=fun W hW o ho=>mk1_any L n cap S o (S j) w.heap.size wr.heap.size W ho (zA H8) (zA H8 j hlt) (hL1.below hW) (zC hW hM1.b1) (h7.below hW)
      have hBL:=mkB_len (clS S) j
      have hC:=behind_any B (mkB (clS S) j) capb n w.heap.size wr.heap.size (fun o=>clS S o j) W1 (by omega) (fun k hk=>by have:=mkB_lens (clS S) j k hk;omega) (fun k hk x hx=>by have:=((mem_lev (clS S) j k x hk).1 hx).1;omega) (hB.below hb1) hclo
      have e:bhd (fun o=>clS S o j) (mkB (clS S) j) (mkB (clS S) j).length=lev (clS S) j:=rfl
      rw [e] at hC
      have hle:lev (clS S) j≤(mkB (clS S) j).length:=bhd_le _ _ _
      have hlens:∀ k,k<(mkB (clS S) j).length→((mkB (clS S) j).getD k []).length≤12:=fun k hk=>by have:=mkB_lens (clS S) j k hk;omega
      have hO1:=hO.below hb1
      rw [hW1] at hC
      have HST:=zB (mkB_step (clS S) j)
      generalize lev (clS S) j=a at *
      have q0:=hs.c0
      have q1:=hs.c1
      have q2:=hs.c2
      have q3:=hs.c3
      have r1:=hN.b1
      have HC:=zB hC
      have HM1:=zB hM1
      have HO1:=zB hO1
      have HLE:=zB hlens
      subst hLe
      clear hC hclo hL1 h7 e hB hO hN hM1 hO1 hs hb1 hlens
      generalize mkB (clS S) j=bs at *
      have a0:(0:Int)≤(a:Int):=by omega
      by_cases hal:a=bs.length
      · subst hal
        have hle1:(bs.length:Int)<(bs.length:Int)+1:=by omega
        go_wp2_with (first
          | (go_at_call 101;refine (zA HC).mono ?_;rintro e w5 ⟨rfl,hb5⟩;rw [←hW1] at hb5;have HM5:=zB ((zA HM1).below hb5);have HO5:=zB ((zA HO1).below hb5);clear hb5)
          | (at_builtin;refine zZ _ rfl (.tmp 31) (.tmp 32) 92 rfl (w.heap.size+2) 26 i38 (.slice none 0 0) 1 24 Tryz.underlying92 (zA HI38) (zA HZ38) (zA HS38) (zA HB38) rfl (by decide) _ _ _ rfl ((zA HO5).top.alloc _) ⟨w5.heap.size,0,none⟩ 1 1 [.slice none 0 0] rfl rfl (cell_new _ _ _) (one1 _ rfl) (by unfold maxLen;omega) (by omega) (le_alloc (zA HM5).sz _) (by omega) ?_;intro g capg w7 ho7 hg7 hw7;have HM7:=zB ((zA HM5).keep (((Below.refl _ _).alloc (zA HM5).sz _).trans (zu hg7 (fun k hk=>((zA HO5).top.lt k hk).1) (le_alloc (zA HM5).sz _))));have hO7:=OBt.push ((zA HO5).below ((Below.refl _ _).alloc (Nat.le_refl _) _)) ho7 hg7;have c7:w7.cell? ⟨g,bs.length,none⟩=some (.slice none 0 0):=hO7.cell0.1;have HO7:=zB hO7;clear ho7 hg7 hw7 hO7)
          | (at_builtin;refine zZ _ rfl (.tmp 39) (.tmp 41) 26 rfl (w.heap.size+2) 3 i3 (.int .i64 0) 1 8 Tryz.underlying26 (zA HI3) (zA HZ3) (zA HS3) (zA HB3) rfl (by decide) _ _ _ rfl (World.ownsRow_nil _ _ _ _) ⟨w7.heap.size,0,none⟩ 1 1 [.int .i64 (j:Int)] rfl rfl (cell_new _ _ _) (one1 _ rfl) (by decide) (by omega) (le_alloc (zA HM7).sz _) (by omega) ?_;intro g2 cap2 w9 ho9 hg9 hw9;have hO8:=(zA HO7).below ((Below.refl _ _).alloc (Nat.le_refl _) (.cells #[.int .i64 (j:Int)] 3));have hb9:=zu (B:=(w7.alloc (.cells #[.int .i64 (j:Int)] 3)).heap.size) hg9 (fun k hk=>by cases hk) (Nat.le_refl _);have c9:=(hO8.below hb9).cell0.1;have f9:=(hO8.below hb9).cell0.2;have HM9:=zB (((zA HM7).below ((Below.refl _ _).alloc (Nat.le_refl _) _)).below hb9);have HG9:=zB hg9;have HH9:=zB ho9;have HW9:=zB hw9;have HO8:=zB hO8;clear ho9 hg9 hw9 hO8 hb9))
        have hO8:=zA HO8
        have hlo:=hO8.lo
        have ho9:w9.ownsRow (w.heap.size+2) 3 1 (.slice (some ⟨g2,0,none⟩) 1 cap2) 1 [.int .i64 (j:Int)]:=by simpa using zA HH9
        have HF:=zB (OBt.add0 hO8 ho9 (zA HG9) (new_ge (zA HW9)))
        clear hO8 ho9
        go_roundw
        case rel=>exact ⟨j+1,_,by omega,by go_num,(zA HM9).keep ((Below.refl _ _).setCell (p:=⟨g,bs.length,none⟩) hlo _),by rw [zA HST];exact zA HF⟩
        case measure=>simp [intOf];omega
      · have hal':¬ ((a:Int)=(bs.length:Int)):=by omega
        have hal2:a<bs.length:=by omega
        have hal3:(a:Int)<(bs.length:Int):=by omega
        obtain ⟨g,capg,hv⟩:=(zA HO1).pos (by omega)
        simp only [Value.slice.injEq,true_and] at hv
        obtain ⟨rfl,rfl⟩:=hv
        obtain ⟨u,hu⟩:∃ u,u=xs.getD a nilV:=⟨_,rfl⟩
        obtain ⟨l,hl⟩:∃ l,l=bs.getD a []:=⟨_,rfl⟩
        have hl12:l.length≤12:=by rw [hl];exact zA HLE a hal2
        have HU:=zB hu
        have HLL:=zB hl
        have HCU:=zB (fun (W:World) (h:OBt W (w.heap.size+2) (.slice (some ⟨g,0,none⟩) bs.length capb) bs xs)=>show W.cell? ⟨g,a,none⟩=some u by rw [hu];exact h.cell hal2)
        have HOU:=zB (fun (W:World) (h:OBt W (w.heap.size+2) (.slice (some ⟨g,0,none⟩) bs.length capb) bs xs)=>show W.ownsRow (w.heap.size+2) 3 1 u l.length (zBF l) by rw [hu,hl];exact h.each a hal2)
        have HCF:=zB (fun (W W':World) (h:OBt W (w.heap.size+2) (.slice (some ⟨g,0,none⟩) bs.length capb) bs xs) (hg:W.grownBy W' u.ownBlock)=>show W'.cell? ⟨g,a,none⟩=some u∧W'.frozen? ⟨g,a,none⟩=false by rw [hu] at hg ⊢;exact h.cellAt hal2 hg)
        clear hu hl
        go_wp2_with (first
          | (go_at_call 101;refine (zA HC).mono ?_;rintro e w5 ⟨rfl,hb5⟩;rw [←hW1] at hb5;have HM5:=zB ((zA HM1).below hb5);have HO5:=zB ((zA HO1).below hb5);have c5:=zA HCU _ (zA HO5);clear hb5)
          | (at_builtin;refine zZ _ rfl (.tmp 39) (.tmp 41) 26 rfl (w.heap.size+2) 3 i3 (.int .i64 0) 1 8 Tryz.underlying26 (zA HI3) (zA HZ3) (zA HS3) (zA HB3) rfl (by decide) u l.length (zBF l) rfl ((zA HOU _ (zA HO5)).alloc _) ⟨w5.heap.size,0,none⟩ 1 1 [.int .i64 (j:Int)] rfl rfl (cell_new _ _ _) (one1 _ rfl) (by unfold maxLen;omega) (by omega) (le_alloc (zA HM5).sz _) (by omega) ?_;intro g2 cap2 w9 ho9 hg9 hw9;have hcf:=zA HCF _ _ ((zA HO5).below ((Below.refl _ _).alloc (Nat.le_refl _) _)) hg9;have c9:=hcf.1;have f9:=hcf.2;have HG9:=zB hg9;have HH9:=zB ho9;have HW9:=zB hw9;clear ho9 hg9 hw9 hcf))
        have hO8:=(zA HO5).below ((Below.refl _ _).alloc (Nat.le_refl _) (.cells #[.int .i64 (j:Int)] 3))
        have hlo:=hO8.lo
        have hg9:=zA HG9
        have ho9:=zA HH9
        have hw9:=zA HW9
        rw [zA HU] at hg9 hw9
        rw [zA HLL] at ho9
        have hM9:=((zA HM5).below ((Below.refl _ _).alloc (Nat.le_refl _) _)).keep (zu hg9 (fun k hk=>hO8.blk hal2 k hk) (le_alloc (zA HM5).sz _))
        have hf:=OBt.add hO8 hal2 (x:=j) ho9 hg9 (hw9.imp id (fun h=>Nat.le_of_eq h.symm))
        rw [←putB_set _ _ _ hal2,←zA HLL] at hf
        have HF:=zB hf
        have HM9:=zB hM9
        clear hO8 hg9 ho9 hw9 hf hM9
        go_roundw
        case rel=>exact ⟨j+1,_,by omega,by go_num,(zA HM9).keep ((Below.refl _ _).setCell (p:=⟨g,a,none⟩) hlo _),by rw [zA HST];exact zA HF⟩
        case measure=>simp [intOf];omega
    · obtain rfl:j=n:=by omega
      have t0:=hN.t0
      have t1:=hN.t1
      have f0:=hN.f 0
      have f1:=hN.f 1
      have HN:=zB hN
      have HBB:=zB hB
      have HO:=zB hO
      clear hN hO HL H8 hB
      go_wp2
      refine bodyPost_ret (v:=.tuple #[.slice B (mkB (clS S) j).length capb,.agg #[.int .i64 0,.int .i64 0]]) (by simp [results,Tryz.results69,go_sem,t0,t1]) rfl ⟨B,capb,rfl,?_,?_⟩
      · obtain ⟨B',cap',hv,hB'⟩:=((zA HO).setsBelow (b:=w.heap.size+1) (by omega) [.int .i64 0,.int .i64 0] 0).bats
        simp only [Value.slice.injEq] at hv
        obtain ⟨rfl,_,rfl⟩:=hv
        exact hB'
      · exact zG (w.heap.size+1) (by omega) [.int .i64 0,.int .i64 0] 0 _ (zA HN).bel
end Go.Proofs.YtnbleebilmghcacGreat
