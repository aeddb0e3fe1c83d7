/- STab, SAdd, SAdd2, STabX, SWtX -/
import Derived.Deep.QuietTactic
import Derived.BigQuiet
import Derived.Test.YtnbleebilmghcabGreatWA
import Derived.Test.YtnbleebilmghcabGreatWC
import Derived.Test.YtnbleebilmghcabGreatWG
set_option linter.all false
namespace Go.Proofs.YtnbleebilmghcabGreat
open Go Go.RowKit
attribute [local go_sem ↓] Go.wp_at_zero Go.wp_at_succ
structure TabI where
 has:Int
 rows:List RowI
def zGV (t:TabI) (k:Nat):List Int:=t.rows.map fun r=>r.v ((zO t.has 8).getD k 0).toNat
def bsV (t:TabI):List (Int×Int):=t.rows.map fun r=>(r.ix,r.gen)
theorem zBU (t:TabI) (k:Nat):(zGV t k).length=t.rows.length:=by simp [zGV]
theorem zCf (t:TabI):(bsV t).length=t.rows.length:=by simp [bsV]
def ColsAt (w:World) (C:Option Addr) (t:TabI):Prop:=∀ k,k<(zO t.has 8).length→∃ b o,C=some ⟨b,o,none⟩∧∃ A c,w.cell? ⟨b,o+k,none⟩=some (.slice A t.rows.length c)∧IntsL w A (zGV t k)
theorem ColsAt.below {w w1:World} {C:Option Addr} {t:TabI} (h:ColsAt w C t) (hb:Below w.heap.size w w1):ColsAt w1 C t:=fun k hk=>by
 obtain ⟨b,o,e,A,c,h1,h2⟩:=h k hk
 exact ⟨b,o,e,A,c,zC hb h1,h2.below hb⟩
structure TabAt (w:World) (b o:Nat) (A:Option Addr) (c:Nat) (C:Option Addr) (cc:Nat) (t:TabI):Prop where
 c0:w.cell? ⟨b,o,none⟩=some (.int .i64 t.has)
 c1:w.cell? ⟨b,o+1,none⟩=some (.slice A t.rows.length c)
 c2:w.cell? ⟨b,o+2,none⟩=some (.slice C (zO t.has 8).length cc)
 bs:BsAt w A (bsV t)
 cols:ColsAt w C t
theorem TabAt.below {w w1:World} {b o:Nat} {A:Option Addr} {c:Nat} {C:Option Addr} {cc:Nat} {t:TabI} (h:TabAt w b o A c C cc t) (hb:Below w.heap.size w w1):TabAt w1 b o A c C cc t :=
 ⟨zC hb h.c0,zC hb h.c1,zC hb h.c2,h.bs.below hb,h.cols.below hb⟩
def TabsAt (w:World) (T:Option Addr) (l:List TabI):Prop:=∀ j (hj:j<l.length),∃ b o,T=some ⟨b,o,none⟩∧∃ A c C cc,TabAt w b (o+j*3) A c C cc l[j]
theorem TabsAt.below {w w1:World} {T:Option Addr} {l:List TabI} (h:TabsAt w T l) (hb:Below w.heap.size w w1):TabsAt w1 T l:=fun j hj=>by
 obtain ⟨b,o,e,A,c,C,cc,h1⟩:=h j hj
 exact ⟨b,o,e,A,c,C,cc,h1.below hb⟩
structure TabRight (t:TabI):Prop where
 set:zAR t.has=true
 one:0<t.rows.length
 few:t.rows.length≤4194304
 has:∀ r∈t.rows,r.has=t.has∧rvB r=true
 up:∀ j,j+1<t.rows.length→(t.rows.getD j dR).ix<(t.rows.getD (j+1) dR).ix
theorem zOE {t:TabI} (h:TabRight t) (k j:Nat) (hj:j<t.rows.length) (hk:k<(zO t.has 8).length):zBY ((zGV t k).getD j 0)=true:=by
 have e:(zGV t k).getD j 0=(t.rows[j]).v ((zO t.has 8).getD k 0).toNat:=by
  unfold zGV
  rw [List.getD_eq_getElem?_getD,List.getElem?_eq_getElem (by simpa using hj)]
  simp
 have hp:((zO t.has 8).getD k 0).toNat<8:=by
  have hm:(zO t.has 8).getD k 0∈zO t.has 8:=by
   rw [List.getD_eq_getElem?_getD,List.getElem?_eq_getElem hk];exact List.getElem_mem hk
  unfold zO at hm
  rw [List.mem_map] at hm
  obtain ⟨j,hj,e⟩:=hm
  rw [List.mem_filter,List.mem_range] at hj
  unfold zO
  rw [←e]
  exact hj.1
 rw [e]
 exact ((zAd (h.has _ (List.getElem_mem hj)).2).2 _ hp).1
end Go.Proofs.YtnbleebilmghcabGreat
namespace Go.Proofs.YtnbleebilmghcabGreat
open Go Go.RowKit
attribute [local go_sem ↓] Go.wp_at_zero Go.wp_at_succ
theorem zGt {w w1:World} {base size n N:Nat} {e:TypeId} {v:Value} {xs:List Value} (h:w.ownsRow base e size v n xs) (hlt:∀ g,v.ownBlock=some g→g<N) (hb:Below N w w1):w1.ownsRow base e size v n xs:=by
 refine ⟨h.1,?_⟩
 rcases h.2 with hn | ⟨g,cap,cur,rfl,hb',hgg,rest⟩
 ·exact .inl hn
 ·refine .inr ⟨g,cap,cur,rfl,hb',?_,rest⟩
  rw [hb.block g (hlt g rfl)]
  exact hgg
structure AR (w:World) (base bx N:Nat) (u0 u1 u2 vh:Value) (L:List Int) (v:Value) (rows:List RowI) (W:World):Prop where
 bel:Below base w W
 box:W.heap[bx]?=some (.cells #[u0,u1,u2] 75 (0,0))
 held:W.ownsRow 0 3 1 vh L.length (zJ L)
 own:W.ownsRow base 116 11 v rows.length (zD rows)
 bN:base≤N
 xN:bx<N
 hN:∀ g,vh.ownBlock=some g→g<N
 vN:∀ g,v.ownBlock=some g→g<N
 sN:N≤W.heap.size
section
variable {w W W1:World} {base bx N:Nat} {u0 u1 u2 vh:Value} {L:List Int} {v:Value} {rows:List RowI}
theorem AR.keep (h:AR w base bx N u0 u1 u2 vh L v rows W) (hb:Below N W W1):AR w base bx N u0 u1 u2 vh L v rows W1 :=
 ⟨h.bel.trans (hb.mono h.bN),(hb.block bx h.xN).trans h.box,zGt h.held h.hN hb,zGt h.own h.vN hb,h.bN,h.xN,h.hN,h.vN,Nat.le_trans h.sN hb.size⟩
theorem AR.below (h:AR w base bx N u0 u1 u2 vh L v rows W) (hb:Below W.heap.size W W1):AR w base bx N u0 u1 u2 vh L v rows W1:=h.keep (hb.mono h.sN)
theorem AR.up (h:AR w base bx N u0 u1 u2 vh L v rows W):AR w base bx W.heap.size u0 u1 u2 vh L v rows W :=
 ⟨h.bel,h.box,h.held,h.own,Nat.le_trans h.bN h.sN,Nat.lt_of_lt_of_le h.xN h.sN,fun g e=>Nat.lt_of_lt_of_le (h.hN g e) h.sN,fun g e=>Nat.lt_of_lt_of_le (h.vN g e) h.sN,Nat.le_refl _⟩
theorem AR.cell (h:AR w base bx N u0 u1 u2 vh L v rows W):W.cell? ⟨bx,0,none⟩=some u0∧W.cell? ⟨bx,1,none⟩=some u1∧W.cell? ⟨bx,2,none⟩=some u2:=by
 refine ⟨?_,?_,?_⟩ <;> simp [World.cell?,h.box]
theorem AR.app {g cap:Nat} (h:AR w base bx N u0 u1 u2 vh L v rows W) (r:RowI) (ho:W1.ownsRow base 116 11 (.slice (some ⟨g,0,none⟩) (rows.length+1) cap) (rows.length+1) (zD rows++zH r)) (hg:W.grownBy W1 v.ownBlock) :
  AR w base bx W1.heap.size u0 u1 u2 vh L (.slice (some ⟨g,0,none⟩) (rows.length+1) cap) (rows++[r]) W1:=by
 have hc:zD (rows++[r])=zD rows++zH r:=by rw [zAx,zDx]
 have hb:Below base W W1:=zZ hg (fun k e=>(h.own.lt k e).1) (Nat.le_trans h.bN h.sN)
 refine ⟨h.bel.trans hb,(hg.block bx (Nat.lt_of_lt_of_le h.xN h.sN) (fun e=>zAI h.own ⟨_,h.box⟩ (by decide) e.symm)).trans h.box,h.held.kept hg (zb h.held h.own (by decide)),?_,Nat.le_trans (Nat.le_trans h.bN h.sN) hg.size,Nat.lt_of_lt_of_le h.xN (Nat.le_trans h.sN hg.size),fun k e=>Nat.lt_of_lt_of_le (h.hN k e) (Nat.le_trans h.sN hg.size),fun k e=>(ho.lt k e).2,Nat.le_refl _⟩
 rw [hc,List.length_append,List.length_singleton]
 exact ho
end
theorem zJj (h p:Int) (h0:0≤h) (h1:h≤255):zBy h p=zFH h p:=by
 by_cases hp:0≤p∧p<8
 ·obtain ⟨m,rfl⟩:=Int.eq_ofNat_of_zero_le h0
  obtain ⟨q,rfl⟩:=Int.eq_ofNat_of_zero_le hp.1
  have key:∀ m:Fin 256,∀ q:Fin 8,zBy (m.val:Int) (q.val:Int)=zFH (m.val:Int) (q.val:Int):=by decide +kernel
  exact key ⟨m,by omega⟩ ⟨q,by omega⟩
 ·have e1:zFH h p=false:=by unfold zFH;simp;omega
  rw [e1]
  cases e:zBy h p
  ·rfl
  ·obtain ⟨k,hk,rfl⟩:=zDI h p e
   omega
def zAU (r:RowI) (k:Nat):RowI:=⟨r.ix,r.gen,r.has,fun p=>if ((zO r.has 8).take k).contains (p:Int)=true then r.v p else 0⟩
theorem zEQ (r:RowI) (k p:Nat) (hk:k<(zO r.has 8).length) (hp:(zO r.has 8).getD k 0=(p:Int)):zAU r (k+1)=⟨r.ix,r.gen,r.has,fun q=>if q=p then r.v p else (zAU r k).v q⟩:=by
 unfold zAU
 congr 1
 funext q
 rw [List.take_succ_eq_append_getElem hk]
 have e:(zO r.has 8)[k]=(p:Int):=by rw [←hp,List.getD_eq_getElem?_getD,List.getElem?_eq_getElem hk];rfl
 rw [e]
 by_cases h:q=p
 ·subst h;simp
 ·have:¬ (q:Int)=(p:Int):=by omega
  simp [h,this]
theorem zEz (r:RowI) (hr:rvB r=true):zH (zAU r (zO r.has 8).length)=zH r:=by
 have h:∀ p,p<8→(zAU r (zO r.has 8).length).v p=r.v p:=fun p hp=>by
  show (if ((zO r.has 8).take (zO r.has 8).length).contains (p:Int)=true then r.v p else 0)=r.v p
  rw [List.take_length,zLF]
  by_cases ht:tb r.has p=true
  ·simp [hp,ht]
  ·have:=((zAd hr).2 p hp).2
   have hb:=(zAd hr).1
   have e2:zBy r.has (p:Int)=tb r.has p:=by
    rw [zJj _ _ hb.1 hb.2]
    unfold zFH
    have:decide (0≤(p:Int)∧(p:Int)<8)=true:=by simp;omega
    rw [this];simp
   rw [e2] at this
   simp only [ht,and_false,decide_false,Bool.false_eq_true,if_false]
   rcases this with h | h
   ·exact h.symm
   ·exact absurd h ht
 unfold zH
 rw [h 0 (by omega),h 1 (by omega),h 2 (by omega),h 3 (by omega),h 4 (by omega),h 5 (by omega),h 6 (by omega),h 7 (by omega)]
 rfl
end Go.Proofs.YtnbleebilmghcabGreat
set_option maxHeartbeats 8000000
set_option maxRecDepth 8000
namespace Go.Proofs.YtnbleebilmghcabGreat
open Go Go.RowKit
attribute [local go_sem ↓] Go.wp_at_zero Go.wp_at_succ
theorem zBh {W:World} {b:Nat} {y:RowI} (h:RowAt W b 0 y):W.cell? ⟨b,0,none⟩=some (.int .i64 y.ix)∧W.cell? ⟨b,1,none⟩=some (.int .i64 y.gen)∧W.cell? ⟨b,2,none⟩=some (.int .i64 y.has)∧W.cell? ⟨b,3,none⟩=some (.int .i64 (y.v 0))∧W.cell? ⟨b,4,none⟩=some (.int .i64 (y.v 1))∧W.cell? ⟨b,5,none⟩=some (.int .i64 (y.v 2))∧W.cell? ⟨b,6,none⟩=some (.int .i64 (y.v 3))∧W.cell? ⟨b,7,none⟩=some (.int .i64 (y.v 4))∧W.cell? ⟨b,8,none⟩=some (.int .i64 (y.v 5))∧W.cell? ⟨b,9,none⟩=some (.int .i64 (y.v 6))∧W.cell? ⟨b,10,none⟩=some (.int .i64 (y.v 7)) :=
 ⟨h.c0,h.c1,h.c2,h.v 0 (by omega),h.v 1 (by omega),h.v 2 (by omega),h.v 3 (by omega),h.v 4 (by omega),h.v 5 (by omega),h.v 6 (by omega),h.v 7 (by omega)⟩
theorem AR.start {w w1:World} {base:Nat} {u0 u1 u2 v vh:Value} {l:List RowI} {L:List Int} (hv:w.ownsRow base 116 11 v l.length (zD l)) (hb:base≤w.heap.size) (hb1:Below (w.alloc (.cells #[u0,u1,u2] 75)).heap.size (w.alloc (.cells #[u0,u1,u2] 75)) w1)
  (hh:w1.ownsRow (w.alloc (.cells #[u0,u1,u2] 75)).heap.size 3 1 vh L.length (L.map (Value.int .i64))):AR w base w.heap.size w1.heap.size u0 u1 u2 vh L v l w1:=by
 have hz:(w.alloc (.cells #[u0,u1,u2] 75)).heap.size=w.heap.size+1:=by simp
 have h2:=zAS w (.cells #[u0,u1,u2] 75)
 have hs:=hb1.size
 have hbx:(w.alloc (.cells #[u0,u1,u2] 75)).heap[w.heap.size]?=some (.cells #[u0,u1,u2] 75 (0,0)):=by show (w.heap.push _)[w.heap.size]?=_;simp
 refine ⟨(h2.mono hb).trans (hb1.mono (by omega)),(hb1.block w.heap.size (by omega)).trans hbx,zBX hh (by omega),zc (zc hv h2) hb1,by omega,by omega,fun g e=>(hh.lt g e).2,fun g e=>?_,Nat.le_refl _⟩
 have:=(hv.lt g e).2
 omega
theorem zIE (v:Value) (l:List RowI) (t:TabI) (A:Option Addr) (c:Nat) (C:Option Addr) (cc:Nat) (w0 w:World) (base:Nat) (hv:w.ownsRow base 116 11 v l.length (zD l)) (hb:base≤w.heap.size) (h0:Below w0.heap.size w0 w) (hb0:w0.heap.size≤base) (hbs:BsAt w0 A (bsV t)) (hco:ColsAt w0 C t) (hr:TabRight t) (hl:l.length≤4194304) :
  Calls Tryz.prog 91 #[v,.agg #[.int .i64 t.has,.slice A t.rows.length c,.slice C (zO t.has 8).length cc]] w fun e w'=>∃ v',e=.returned v'∧w'.ownsRow base 116 11 v' (l++t.rows).length (zD (l++t.rows))∧Below base w w':=by
 have hs0:=zCg hr.set
 have hLI:=fun W=>zGG t.has W hs0.1 hs0.2
 obtain ⟨i61,hi61,hz61,hs61,hb61⟩:=info_parts info61
 have nf:=hr.few
 have ml:=zBs t.has 8
 have HI:=zB hi61
 have HZ:=zB hz61
 have HS:=zB hs61
 have HB:=zB hb61
 have HLI:=zB hLI
 have HBS:=zB hbs
 have HCO:=zB hco
 have HR:=zB hr
 have HV:=zB hv
 have H0:=zB h0
 obtain ⟨u0,hu0⟩:∃ u,u=Value.int .i64 t.has:=⟨_,rfl⟩
 obtain ⟨u1,hu1⟩:∃ u,u=Value.slice A t.rows.length c:=⟨_,rfl⟩
 obtain ⟨u2,hu2⟩:∃ u,u=Value.slice C (zO t.has 8).length cc:=⟨_,rfl⟩
 have HU0:=zB hu0
 have HU1:=zB hu1
 have HU2:=zB hu2
 clear hs0 hLI hi61 hz61 hs61 hb61 hbs hco hr hv h0 hu0 hu1 hu2
 go_enter Tryz.func91,Tryz.ntmps91
 go_wp2_with ((go_at_call 106;refine (zA HLI _).mono ?_;rintro e w1 ⟨vh,rfl,hh,hb1⟩;obtain ⟨Ah,ch,rfl⟩:=zAV hh;have hA:=AR.start (zA HV) hb hb1 hh;obtain ⟨a0,a1,a2⟩:=hA.cell;have HA:=zB hA;clear hA hh hb1))
 go_loopw [0,17] (fun x y wr=>∃ i:Nat,i≤t.rows.length∧y=.int .i64 i∧∃ N,AR w base w.heap.size N (.int .i64 t.has) (.slice A t.rows.length c) (.slice C (zO t.has 8).length cc) (.slice Ah (zO t.has 8).length ch) (zO t.has 8) x (l++t.rows.take i) wr) (fun _ y _=>t.rows.length - (intOf y).toNat)
 case atStart=>exact ⟨0,Nat.zero_le _,rfl,_,by simpa using zA HA⟩
 case round =>
  clear a0 a1 a2 HA HV
  obtain ⟨wo,rfl⟩:∃ wo,wo=wr:=⟨wr,rfl⟩
  obtain ⟨i,hi,rfl,N,hA⟩:=hrel
  have H0W:=zB ((zA H0).trans (hA.bel.mono hb0))
  by_cases hlt:i<t.rows.length
  ·have i0:(0:Int)≤(i:Int):=by omega
   have i1:(i:Int)<(t.rows.length:Int):=by omega
   obtain ⟨r,hrr⟩:∃ r,r=t.rows[i]:=⟨_,rfl⟩
   have hrh:=(zA HR).has r (by rw [hrr];exact List.getElem_mem hlt)
   obtain ⟨bb,bo,hAb,g0,g1⟩:=zA HBS i (by rw [zCf];exact hlt)
   have hbv:(bsV t).getD i (0,0)=(r.ix,r.gen):=by
    unfold bsV
    rw [List.getD_eq_getElem?_getD,List.getElem?_eq_getElem (by simpa using hlt),hrr]
    simp
   rw [hbv] at g0 g1
   have g0:=zC (zA H0W) g0
   have g1:=zC (zA H0W) g1
   dsimp only at g0 g1
   obtain ⟨a0,a1,a2⟩:=hA.cell
   have lbx:w.heap.size<wo.heap.size:=Nat.lt_of_lt_of_le hA.xN hA.sN
   have HTK:=zB (List.take_succ_eq_append_getElem hlt)
   have HRR:=zB hrr
   have HRH:=zB hrh
   have HAU:=zB hA.up
   obtain ⟨h5,h6⟩:=zDe (wo.alloc (.cells #[.int .i64 r.ix,.int .i64 r.gen] 61)) ⟨r.ix,r.gen,t.has,fun _=>0⟩ 116
   have hz5:(wo.alloc (.cells #[.int .i64 r.ix,.int .i64 r.gen] 61)).heap.size=wo.heap.size+1:=by simp
   rw [hz5] at h5 h6
   have hp0:RowAt ((wo.alloc (.cells #[.int .i64 r.ix,.int .i64 r.gen] 61)).alloc (.cells #[.int .i64 r.ix,.int .i64 r.gen,.int .i64 t.has,.int .i64 0,.int .i64 0,.int .i64 0,.int .i64 0,.int .i64 0,.int .i64 0,.int .i64 0,.int .i64 0] 116)) (wo.heap.size+1) 0 (zAU r 0):=⟨h5.c0,h5.c1,by rw [show (zAU r 0).has=t.has from hrh.1];exact h5.c2,fun p hp=>by rw [show (zAU r 0).v p=0 from by simp [zAU]];exact h5.v p hp⟩
   have HP0:=zB hp0
   have HF0:=zB h6
   have HA2:=zB ((zA HAU).below (zCx wo (.cells #[.int .i64 r.ix,.int .i64 r.gen] 61) (.cells #[.int .i64 r.ix,.int .i64 r.gen,.int .i64 t.has,.int .i64 0,.int .i64 0,.int .i64 0,.int .i64 0,.int .i64 0,.int .i64 0,.int .i64 0,.int .i64 0] 116)))
   clear hA hbv hrr hrh h5 h6 hz5 hp0
   subst hAb
   go_wp2
   go_loopw [28] (fun x wr=>∃ k:Nat,k≤(zO t.has 8).length∧x=.int .i64 k∧AR w base w.heap.size wo.heap.size (.int .i64 t.has) (.slice (some ⟨bb,bo,none⟩) t.rows.length c) (.slice C (zO t.has 8).length cc) (.slice Ah (zO t.has 8).length ch) (zO t.has 8) u0 (l++t.rows.take i) wr∧RowAt wr (wo.heap.size+1) 0 (zAU r k)∧(∀ q,wr.frozen? ⟨wo.heap.size+1,q,none⟩=false)) (fun x _=>(zO t.has 8).length - (intOf x).toNat)
   case atStart=>exact ⟨0,Nat.zero_le _,rfl,zA HA2,zA HP0,zA HF0⟩
   case round =>
    clear HA2 HP0 HF0 g0 g1 a0 a1 a2
    obtain ⟨k,hk,rfl,hA,hRo,hFr⟩:=hrel
    by_cases hlk:k<(zO t.has 8).length
    ·have k0:(0:Int)≤(k:Int):=by omega
     have k1:(k:Int)<((zO t.has 8).length:Int):=by omega
     obtain ⟨p,hp,hpk⟩:∃ p:Nat,p<8∧(zO t.has 8).getD k 0=(p:Int):=by
      have hm:(zO t.has 8).getD k 0∈zO t.has 8:=by
       rw [List.getD_eq_getElem?_getD,List.getElem?_eq_getElem hlk];exact List.getElem_mem hlk
      generalize (zO t.has 8).getD k 0=z at *
      unfold zO at hm
      rw [List.mem_map] at hm
      obtain ⟨q,hq,e⟩:=hm
      rw [List.mem_filter,List.mem_range] at hq
      exact ⟨q,hq.1,e.symm⟩
     obtain ⟨gh,ch',hvh,_,_⟩:=zAP hA.held (by omega)
     simp only [Value.slice.injEq,true_and] at hvh
     obtain ⟨hvA,hvc⟩:=hvh
     have hcell:wr.cell? ⟨gh,k,none⟩=some (.int .i64 (p:Int)):=by
      have hh:=hA.held
      rw [hvA] at hh
      refine zh hh ?_
      unfold zJ
      rw [List.getElem?_map,List.getElem?_eq_getElem hlk]
      rw [List.getD_eq_getElem?_getD,List.getElem?_eq_getElem hlk] at hpk
      simpa using hpk
     obtain ⟨b',o',hC,A1,c1,d0,hI⟩:=zA HCO k hlk
     obtain ⟨b2,o2,hA1,d1⟩:=hI i (by rw [zBU];exact hlt)
     have hwi:Below w0.heap.size w0 wr:=(zA H0).trans (hA.bel.mono hb0)
     have d0:=zC hwi d0
     have d1:wr.cell? ⟨b2,o2+i,none⟩=some (.int .i64 (r.v p)):=by
      have e:(zGV t k).getD i 0=r.v p:=by
       unfold zGV
       rw [hpk,Int.toNat_natCast,List.getD_eq_getElem?_getD,List.getElem?_eq_getElem (by simpa using hlt),zA HRR]
       simp
      rw [←e]
      exact zC hwi d1
     obtain ⟨a0,a1,a2⟩:=hA.cell
     have HST:=zB (zEQ r k p (by rw [(zA HRH).1];exact hlk) (by rw [(zA HRH).1];exact hpk))
     have p0:(0:Int)≤(p:Int):=by omega
     have p1:(p:Int)<8:=by omega
     have HAA:=zB hA
     have HRO:=zB hRo
     have HFR:=zB hFr
     clear hA hRo hFr hpk hwi
     subst hC hA1 hvA hvc
     go_wp2_with ((refine zT rfl 3 (.tmp 43) (.tmp 41) rfl (wo.heap.size+1) (3+p) (.int .i64 (r.v p)) rfl rfl rfl size3 (by have:=zAB ((zA HRO).v p hp) (zA HFR);rwa [Nat.zero_add] at this) ?_;intro W13 hW13;have hY:=zCX (zA HRO) p hp (r.v p);rw [Nat.zero_add,←hW13] at hY;have hZ:=(zA HAA).keep ((Below.refl wo.heap.size wr).setCell (p:=⟨wo.heap.size+1,3+p,none⟩) (by simp) (.int .i64 (r.v p)));rw [←hW13] at hZ;have HFN:Hid (∀ q,W13.frozen? ⟨wo.heap.size+1,q,none⟩=false):=zB (fun q=>by rw [hW13];simpa using zA HFR q);have HY:=zB hY;have HZZ:=zB hZ;clear hW13 hY hZ))
     go_roundw
     case rel=>exact ⟨k+1,by omega,by go_num,zA HZZ,by rw [zA HST];exact zA HY,zA HFN⟩
     case measure=>simp [intOf];omega
    ·obtain rfl:k=(zO t.has 8).length:=by omega
     have hec:=zEz r (zA HRH).2
     rw [(zA HRH).1] at hec
     generalize zAU r (zO t.has 8).length=y at *
     have HEC:=zB hec
     obtain ⟨p0,p1,p2,p3,p4,p5,p6,p7,p8,p9,p10⟩:=zBh hRo
     have HAA:=zB hA
     have hlen:(l++t.rows.take i).length=l.length+i:=by rw [List.length_append,List.length_take];omega
     have HLN:=zB hlen
     clear hA hRo hFr hec hlen
     go_wp2_with (first
      | (at_builtin;refine ze _ rfl (.tmp 45) (.tmp 47) 41 rfl base 116 i61 _ 11 88 Tryz.underlying41 (zA HI) (zA HZ) (zA HS) (zA HB) rfl (by decide) u0 (l++t.rows.take i).length (zD (l++t.rows.take i)) rfl ((zA HAA).below (zAS _ _)).own ⟨wr.heap.size,0,none⟩ 1 1 (zH r) rfl rfl (by rw [←zA HEC];exact zCU wr y) (zY r) (by have:=zA HLN;unfold maxLen;omega) (by have:=zA HLN;omega) (by have:=(zA HAA).sN;have:=(zA HAA).bN;simp;omega) (by omega) ?_;intro g9 cap9 w9 ho hg hw;have HF:=zB (AR.app ((zA HAA).below (zAS wr (.cells #[.int .i64 y.ix,.int .i64 y.gen,.int .i64 y.has,.int .i64 (y.v 0),.int .i64 (y.v 1),.int .i64 (y.v 2),.int .i64 (y.v 3),.int .i64 (y.v 4),.int .i64 (y.v 5),.int .i64 (y.v 6),.int .i64 (y.v 7)] 116))) r ho hg);clear ho hg hw))
     go_roundw
     case rel=>exact ⟨i+1,by omega,by go_num,_,by rw [zA HTK,←zA HRR,←List.append_assoc];have hF:=zA HF;rw [zA HLN] at hF;exact hF⟩
     case measure=>simp [intOf];omega
  ·obtain rfl:i=t.rows.length:=by omega
   have hE:=hA.own
   rw [List.take_length] at hE
   have HE:=zB hE
   have HBE:=zB hA.bel
   clear hA hE
   go_wp2
   go_ret
   exact ⟨_,rfl,zA HE,zA HBE⟩
end Go.Proofs.YtnbleebilmghcabGreat
set_option maxHeartbeats 1000000
set_option maxRecDepth 8000
namespace Go.Proofs.YtnbleebilmghcabGreat
open Go Go.RowKit
attribute [local go_sem ↓] Go.wp_at_zero Go.wp_at_succ
structure TabX where
 has:Int
 bs:List (Int×Int)
 cols:List (List Int)
def dT:TabX:=⟨0,[],[]⟩
def ColsX (w:World) (C:Option Addr) (cs:List (List Int)):Prop:=∀ k,k<cs.length→∃ b o,C=some ⟨b,o,none⟩∧∃ A c,w.cell? ⟨b,o+k,none⟩=some (.slice A (cs.getD k []).length c)∧IntsL w A (cs.getD k [])
theorem ColsX.below {w w1:World} {C:Option Addr} {cs:List (List Int)} (h:ColsX w C cs) (hb:Below w.heap.size w w1):ColsX w1 C cs:=fun k hk=>by
 obtain ⟨b,o,e,A,c,h1,h2⟩:=h k hk
 exact ⟨b,o,e,A,c,zC hb h1,h2.below hb⟩
structure TabXAt (w:World) (b o:Nat) (A:Option Addr) (c:Nat) (C:Option Addr) (cc:Nat) (t:TabX):Prop where
 c0:w.cell? ⟨b,o,none⟩=some (.int .i64 t.has)
 c1:w.cell? ⟨b,o+1,none⟩=some (.slice A t.bs.length c)
 c2:w.cell? ⟨b,o+2,none⟩=some (.slice C t.cols.length cc)
 bs:BsAt w A t.bs
 cols:ColsX w C t.cols
theorem TabXAt.below {w w1:World} {b o:Nat} {A:Option Addr} {c:Nat} {C:Option Addr} {cc:Nat} {t:TabX} (h:TabXAt w b o A c C cc t) (hb:Below w.heap.size w w1):TabXAt w1 b o A c C cc t :=
 ⟨zC hb h.c0,zC hb h.c1,zC hb h.c2,h.bs.below hb,h.cols.below hb⟩
def TabsX (w:World) (T:Option Addr) (l:List TabX):Prop:=∀ j,j<l.length→∃ b o,T=some ⟨b,o,none⟩∧∃ A c C cc,TabXAt w b (o+j*3) A c C cc (l.getD j dT)
theorem TabsX.below {w w1:World} {T:Option Addr} {l:List TabX} (h:TabsX w T l) (hb:Below w.heap.size w w1):TabsX w1 T l:=fun j hj=>by
 obtain ⟨b,o,e,A,c,C,cc,h1⟩:=h j hj
 exact ⟨b,o,e,A,c,C,cc,h1.below hb⟩
structure FewX (t:TabX):Prop where
 b:t.bs.length≤4194304
 c:t.cols.length≤4194304
 k:∀ k,k<t.cols.length→(t.cols.getD k []).length≤4194304
def wcF (n:Nat) (l:List Int):Int:=if l.length=n then (if ∀ j,j<l.length→zBY (l.getD j 0)=true then 0 else 3) else 4
def zBM (n:Nat) (cs:List (List Int)):Nat→Nat→Int
 | 0,_=>0
 | m+1,k=>if wcF n (cs.getD k [])=0 then zBM n cs m (k+1) else wcF n (cs.getD k [])
def zDm (l:List (Int×Int)):Bool:=decide (∀ j,j<l.length→1≤j→(l.getD (j - 1) (0,0)).1<(l.getD j (0,0)).1)
def wtF (t:TabX):Int:=if zAR t.has=false then 3 else if t.bs.length=0∨t.cols.length≠(zO t.has 8).length then 4 else if zBM t.bs.length t.cols t.cols.length 0=0 then (if zDm t.bs=true then 0 else 2) else zBM t.bs.length t.cols t.cols.length 0
def zDz (l:List TabX) (j:Nat):Int:=if wtF (l.getD j dT)=0 then (if j=0∨(l.getD (j - 1) dT).has<(l.getD j dT).has then 0 else 2) else wtF (l.getD j dT)
theorem zII (n:Nat) (cs:List (List Int)) (m k:Nat) (h:k<m):zBM n cs (m - k) k=if wcF n (cs.getD k [])=0 then zBM n cs (m - (k+1)) (k+1) else wcF n (cs.getD k []):=by
 rw [show m - k=(m - (k+1))+1 by omega,zBM]
theorem zGY (A:Option Addr) (c:Nat) (l:List Int) (n:Nat) (w:World) (hl:l.length≤4194304) (hA:IntsL w A l) :
  Calls Tryz.prog 128 #[.slice A l.length c,.int .i64 (n:Int)] w fun e w'=>e=.returned (.int .i64 (wcF n l))∧Below w.heap.size w w':=by
 have HA:=zB hA
 clear hA
 by_cases hn:l.length=n
 ·subst hn
  go_enter Tryz.func128,Tryz.ntmps128
  go_wp2
  go_loopw [13] (fun x wr=>∃ j:Nat,j≤l.length∧x=.int .i64 j∧(∀ i,i<j→zBY (l.getD i 0)=true)∧Below w.heap.size w wr) (fun x _=>l.length - (intOf x).toNat)
  case atStart=>exact ⟨0,Nat.zero_le _,rfl,fun i hi=>by omega,Below.refl _ _⟩
  case round =>
   obtain ⟨j,hj,rfl,hv,hb⟩:=hrel
   have HB:=zB hb
   have HV:=zB hv
   clear hv
   by_cases hlt:j<l.length
   ·have j0:(0:Int)≤(j:Int):=by omega
    have j1:(j:Int)<(l.length:Int):=by omega
    obtain ⟨b,off,rfl,c0⟩:=zA HA j hlt
    have c0:wr.cell? ⟨b,off+j,none⟩=some (.int .i64 (l.getD j 0)):=zC hb c0
    clear hb
    have hVL:=zAo (l.getD j 0)
    obtain ⟨x,hx⟩:∃ x,x=l.getD j 0:=⟨_,rfl⟩
    rw [←hx] at c0 hVL
    have HX:=zB hx
    clear hx
    cases hxv:zBY x
    ·rw [hxv] at hVL
     have HVL:=zB hVL
     have HR:Hid (wcF l.length l=3):=zB (by unfold wcF;rw [if_pos rfl,if_neg (fun h=>by have:=h j hlt;rw [←zA HX,hxv] at this;cases this)])
     clear hVL HA HV hxv
     go_wp2_with ((go_at_call 124;refine (zA HVL _).mono ?_;rintro e w1 ⟨rfl,hw⟩;obtain rfl:=hw.symm))
     go_ret
     rw [zA HR]
     exact ⟨rfl,zA HB⟩
    ·rw [hxv] at hVL
     have HVL:=zB hVL
     have HXV:=zB hxv
     clear hVL HA hxv
     go_wp2_with ((go_at_call 124;refine (zA HVL _).mono ?_;rintro e w1 ⟨rfl,hw⟩;obtain rfl:=hw.symm))
     go_roundw
     case rel=>exact ⟨j+1,by omega,by go_num,fun i hi=>by
      rcases Nat.lt_or_ge i j with h | h
      ·exact zA HV i h
      ·obtain rfl:i=j:=by omega
       rw [←zA HX];exact zA HXV,zA HB⟩
     case measure=>simp [intOf];omega
   ·obtain rfl:j=l.length:=by omega
    have HR:Hid (wcF l.length l=0):=zB (by unfold wcF;rw [if_pos rfl,if_pos (zA HV)])
    clear HA HV hb
    go_wp2
    go_ret
    rw [zA HR]
    exact ⟨rfl,zA HB⟩
 ·have hne:((l.length:Int) == (n:Int))=false:=by simp;omega
  have hne2:((l.length:Int) != (n:Int))=true:=by simp;omega
  have HR:Hid (wcF n l=4):=zB (by unfold wcF;rw [if_neg hn])
  clear hn
  go_enter Tryz.func128,Tryz.ntmps128
  go_wp2
  go_ret
  rw [zA HR]
  exact ⟨rfl,Below.refl _ _⟩
theorem zMR (A:Option Addr) (c:Nat) (l:List (Int×Int)) (w:World) (hl:l.length≤4194304) (hA:BsAt w A l) :
  Calls Tryz.prog 129 #[.slice A l.length c] w fun e w'=>e=.returned (.bool (zDm l))∧Below w.heap.size w w':=by
 have HA:=zB hA
 clear hA
 go_enter Tryz.func129,Tryz.ntmps129
 go_wp2
 go_loopw [3] (fun x wr=>∃ j:Nat,1≤j∧(j≤l.length∨j=1)∧x=.int .i64 j∧(∀ i,i<j→1≤i→(l.getD (i - 1) (0,0)).1<(l.getD i (0,0)).1)∧Below w.heap.size w wr) (fun x _=>l.length - (intOf x).toNat)
 case atStart=>exact ⟨1,Nat.le_refl _,by omega,rfl,fun i h1 h2=>by omega,Below.refl _ _⟩
 case round =>
  obtain ⟨j,hj1,hj2,rfl,hu,hb⟩:=hrel
  have HU:=zB hu
  clear hu
  by_cases hlt:j<l.length
  ·obtain ⟨k,hk⟩:∃ k,j=k+1:=⟨j - 1,by omega⟩
   have j0:(0:Int)≤(j:Int):=by omega
   have j1:(j:Int)<(l.length:Int):=by omega
   have k0:(0:Int)≤(k:Int):=by omega
   have k1:(k:Int)<(l.length:Int):=by omega
   have hw1:IntKind.i64.wrap ((j:Int) - 1)=(k:Int):=by rw [IntWalk.i64_in _ (by omega)];omega
   obtain ⟨b,off,rfl,c0,_⟩:=zA HA k (by omega)
   obtain ⟨b',off',e',d0,_⟩:=zA HA j hlt
   simp only [Option.some.injEq,Addr.mk.injEq,and_true] at e'
   obtain ⟨rfl,rfl⟩:=e'
   have s0:=zN (zC hb c0)
   have s1:=zN (zC hb d0)
   have hsub:Nonempty (Sub wr):=⟨⟨wr,Below.refl _ _⟩⟩
   have hkj:l.getD (j - 1) (0,0)=l.getD k (0,0):=by rw [hk];rfl
   obtain ⟨p,hp⟩:∃ p,p=(l.getD k (0,0)).1:=⟨_,rfl⟩
   obtain ⟨q,hq⟩:∃ q,q=(l.getD j (0,0)).1:=⟨_,rfl⟩
   rw [←hp] at s0
   rw [←hq] at s1
   have HB:=zB hb
   have HK:Hid ((l.getD (j - 1) (0,0)).1=p∧(l.getD j (0,0)).1=q):=zB ⟨by rw [hkj,hp],hq.symm⟩
   clear HA c0 d0 hb hp hq hkj hk
   by_cases hpq:p<q
   ·have hd:decide (q≤p)=false:=decide_eq_false (by omega)
    have HPQ:=zB hpq
    clear hpq
    go_wp2_with fail
    refine zU (by kernel_rfl) (by kernel_rfl) ?_
    repeat (go_big_quiet_step (fail))
    refine wpQuiet_nil ?_
    rintro w9 ⟨xs,hxs⟩
    have hb9:=xs.bel
    rw [←hxs] at hb9
    have HB9:=zB ((zA HB).trans (hb9.mono (zA HB).size))
    clear hxs hb9 hsub s0 s1 xs
    go_wp2
    go_roundw
    case rel=>exact ⟨j+1,by omega,.inl (by omega),by go_num,fun i h1 h2=>by
     rcases Nat.lt_or_ge i j with h | h
     ·exact zA HU i h h2
     ·obtain rfl:i=j:=by omega
      rw [(zA HK).1,(zA HK).2];exact zA HPQ,zA HB9⟩
    case measure=>simp [intOf];omega
   ·have hd:decide (q≤p)=true:=decide_eq_true (by omega)
    have HR:Hid (zDm l=false):=zB (decide_eq_false fun h=>by
     have:=h j hlt hj1
     rw [(zA HK).1,(zA HK).2] at this
     exact hpq this)
    clear hpq
    go_wp2_with fail
    refine zU (by kernel_rfl) (by kernel_rfl) ?_
    repeat (go_big_quiet_step (fail))
    refine wpQuiet_nil ?_
    rintro w9 ⟨xs,hxs⟩
    have hb9:=xs.bel
    rw [←hxs] at hb9
    have HB9:=zB ((zA HB).trans (hb9.mono (zA HB).size))
    clear hxs hb9 hsub s0 s1 xs
    go_wp2
    go_ret
    rw [zA HR]
    exact ⟨rfl,zA HB9⟩
  ·have HR:Hid (zDm l=true):=zB (decide_eq_true fun i h1 h2=>zA HU i (by omega) h2)
   have hd:decide ((j:Int)<(l.length:Int))=false:=decide_eq_false (by omega)
   have HB:=zB hb
   clear HA hb
   go_wp2
   go_ret
   rw [zA HR]
   exact ⟨rfl,zA HB⟩
end Go.Proofs.YtnbleebilmghcabGreat
set_option maxHeartbeats 4000000
set_option maxRecDepth 8000
namespace Go.Proofs.YtnbleebilmghcabGreat
open Go Go.RowKit
attribute [local go_sem ↓] Go.wp_at_zero Go.wp_at_succ
theorem zPN {has:Int} {bs:List (Int×Int)} {cols:List (List Int)} (h:zAR has=false):wtF ⟨has,bs,cols⟩=3:=by unfold wtF;rw [if_pos h]
theorem zPA {has:Int} {bs:List (Int×Int)} {cols:List (List Int)} (h:zAR has=true) (h2:bs.length=0∨cols.length≠(zO has 8).length):wtF ⟨has,bs,cols⟩=4:=by unfold wtF;rw [if_neg (by simp [h]),if_pos h2]
theorem zPM {has:Int} {bs:List (Int×Int)} {cols:List (List Int)} (h:zAR has=true) (h2:¬ bs.length=0) (h3:cols.length=(zO has 8).length):wtF ⟨has,bs,cols⟩=if zBM bs.length cols cols.length 0=0 then (if zDm bs=true then (0:Int) else 2) else zBM bs.length cols cols.length 0:=by
 unfold wtF
 rw [if_neg (by simp [h]),if_neg (fun e=>e.elim h2 fun e=>e h3)]
theorem zFP (T:Option Addr) (tcap:Nat) (l:List TabX) (j:Nat) (w:World) (hn:l.length≤4194304) (hj:j<l.length) (hT:TabsX w T l) (hf:FewX (l.getD j dT)) :
  Calls Tryz.prog 90 #[.slice T l.length tcap,.int .i64 (j:Int)] w fun e w'=>e=.returned (.int .i64 (zDz l j))∧Below w.heap.size w w':=by
 obtain ⟨tb,tf,rfl,A,c,C,cc,ht⟩:=hT j hj
 have j0:(0:Int)≤(j:Int):=by omega
 have j1:(j:Int)<(l.length:Int):=by omega
 have hprev:∀ i,j=i+1→w.cell? ⟨tb,tf+i*3,none⟩=some (.int .i64 (l.getD i dT).has):=fun i hi=>by
  obtain ⟨b',o',e',_,_,_,_,hp⟩:=hT i (by omega)
  simp only [Option.some.injEq,Addr.mk.injEq,and_true] at e'
  rw [e'.1,e'.2]
  exact hp.c0
 have hwt:zDz l j=if wtF (l.getD j dT)=0 then (if j=0∨(l.getD (j - 1) dT).has<(l.getD j dT).has then 0 else 2) else wtF (l.getD j dT):=rfl
 obtain ⟨R,hR⟩:∃ R,R=zDz l j:=⟨_,rfl⟩
 rw [←hR] at hwt ⊢
 generalize l.getD j dT=t at *
 obtain ⟨has,bs,cols⟩:=t
 dsimp only at hwt ht
 have c0:=ht.c0
 have c1:=ht.c1
 have c2:=ht.c2
 dsimp only at c0 c1 c2
 have hcc:cols.length≤4194304:=hf.c
 have HWT:=zB hwt
 have HP:=zB hprev
 have HT:=zB ht
 have HF:=zB hf
 clear hwt hprev ht hf hT hR
 obtain ⟨W1,hW1,hbx,hX1⟩:=zET w [([.int .i64 has,.slice A bs.length c,.slice C cols.length cc],75)]
 have HW1:Hid (w.alloc (.cells #[.int .i64 has,.slice A bs.length c,.slice C cols.length cc] 75)=W1):=zB hW1
 clear hW1
 have HL1:=zB hbx
 have HX1:=zB hX1
 have z0:=hX1.cell 0 rfl 0 rfl
 have z1:=hX1.cell 0 rfl 1 rfl
 have z2:=hX1.cell 0 rfl 2 rfl
 rw [Nat.add_zero] at z0 z1 z2
 have HSE:=zB (zBZ has)
 clear hbx hX1
 go_enter Tryz.func90,Tryz.ntmps90
 go_upto_region 2 with fail
 rw [zA HW1]
 clear c0 c1 c2
 go_wp2_with fail
 go_at_call 44
 refine (zA HSE W1).mono ?_
 rintro e w2 ⟨rfl,hw⟩
 obtain rfl:=hw.symm
 cases hs:zAR has
 ·have HR:Hid (R=3):=zB (by rw [zA HWT,zPN hs];simp)
  clear hs
  go_wp2
  go_ret
  rw [zA HR]
  exact ⟨rfl,zA HL1⟩
 ·have hs2:=hs
  unfold zAR at hs2
  have hs2:=of_decide_eq_true hs2
  have HCO:=zB (fun W=>zFI has W hs2.1 hs2.2)
  have hsub:Nonempty (Sub W1):=⟨⟨W1,Below.refl _ _⟩⟩
  have s0:=zN z0
  have s1:=zN z1
  have s2:=zN z2
  by_cases hb0:bs.length=0
  ·have HR:Hid (R=4):=zB (by rw [zA HWT,zPA hs (.inl hb0)];simp)
   have hz:((bs.length:Int) == 0)=true:=by rw [hb0];rfl
   rw [hb0] at s1 z1
   clear hb0 hs hz
   go_wp2_with fail
   refine zU (by kernel_rfl) (by kernel_rfl) ?_
   repeat (go_big_quiet_step (fail))
   refine wpQuiet_nil ?_
   rintro w9 ⟨xs,hxs⟩
   have hb9:=xs.bel
   rw [←hxs] at hb9
   have HB9:=zB ((zA HL1).trans (hb9.mono (zA HL1).size))
   have HB0:=zB hb9
   clear hxs hb9 xs
   go_wp2
   go_ret
   rw [zA HR]
   exact ⟨rfl,zA HB9⟩
  ·have hz:((bs.length:Int) == 0)=false:=beq_eq_false_iff_ne.2 (by omega)
   by_cases hcl:cols.length=(zO has 8).length
   ·have HWT2:Hid (R=if (if zBM bs.length cols cols.length 0=0 then (if zDm bs=true then (0:Int) else 2) else zBM bs.length cols cols.length 0)=0 then (if j=0∨(l.getD (j - 1) dT).has<has then 0 else 2) else (if zBM bs.length cols cols.length 0=0 then (if zDm bs=true then (0:Int) else 2) else zBM bs.length cols cols.length 0)):=zB (by rw [zA HWT,zPM hs hb0 hcl])
    have HCL:=zB hcl
    have hlc:((cols.length:Int) != ((zO has 8).length:Int))=false:=by rw [hcl];simp
    clear hb0 hcl hs HWT
    go_wp2_with fail
    refine zU (by kernel_rfl) (by kernel_rfl) ?_
    repeat (go_big_quiet_step ((go_at_call 127;exact zIK (zA HCO _))))
    refine wpQuiet_nil ?_
    rintro w9 ⟨xs,hxs⟩
    have hb9:=xs.bel
    rw [←hxs] at hb9
    have HB9:=zB ((zA HL1).trans (hb9.mono (zA HL1).size))
    have HB0:=zB hb9
    clear hxs hb9 xs
    clear s0 s1 s2 hsub hz hlc HSE HCO
    have HX9:=zB ((zA HX1).below (zA HB0))
    have y2:=(zA HX9).cell 0 rfl 2 rfl
    rw [Nat.add_zero] at y2
    clear z0 z1 z2
    go_wp2_with fail
    clear y2
    go_loopw [33] (fun x wr=>∃ k:Nat,k≤cols.length∧x=.int .i64 (k:Int)∧zBM bs.length cols (cols.length - k) k=zBM bs.length cols cols.length 0∧Below w9.heap.size w9 wr) (fun x _=>cols.length - (intOf x).toNat)
    case atStart=>exact ⟨0,Nat.zero_le _,rfl,rfl,Below.refl _ _⟩
    case round =>
     obtain ⟨k,hk,rfl,hcs,hbr⟩:=hrel
     have hL:=(zA HB9).trans (hbr.mono (zA HB9).size)
     have HXr:=zB ((zA HX9).below hbr)
     by_cases hlt:k<cols.length
     ·have k0:(0:Int)≤(k:Int):=by omega
      have k1:(k:Int)<(cols.length:Int):=by omega
      rw [zII _ _ _ _ hlt] at hcs
      obtain ⟨cb,co,hCe,Ak,ck,hck,hik⟩:=((zA HT).below hL).cols k hlt
      obtain ⟨lk,hlk⟩:∃ lk,lk=cols.getD k []:=⟨_,rfl⟩
      rw [←hlk] at hck hik hcs
      have hkl:lk.length≤4194304:=by rw [hlk];exact (zA HF).k k hlt
      have hC:=fun W (hb:Below wr.heap.size wr W)=>zGY Ak ck lk bs.length W hkl (hik.below hb)
      have hC:=hC wr (Below.refl _ _)
      have y1:=(zA HXr).cell 0 rfl 1 rfl
      rw [Nat.add_zero] at y1
      obtain ⟨e1,he1⟩:∃ e1,e1=wcF bs.length lk:=⟨_,rfl⟩
      rw [←he1] at hC hcs
      have hck:wr.cell? ⟨cb,co+k,none⟩=some (.slice Ak lk.length ck):=hck
      clear hlk
      have hCe:C=some ⟨cb,co,none⟩:=hCe
      subst hCe
      have HC:=zB hC
      have HLr:=zB hL
      have HCS:=zB hcs
      have HBR:=zB hbr
      clear hC hL hcs hbr hik he1
      by_cases hz1:e1=0
      ·subst hz1
       have hcs2:=zA HCS
       rw [if_pos rfl] at hcs2
       have HC2:=zB hcs2
       clear hcs2 HCS
       go_wp2_with ((go_at_call 128;refine (zA HC).mono ?_;rintro e w3 ⟨rfl,hb3⟩;have HB3:=zB ((zA HBR).trans (hb3.mono (zA HBR).size));clear hb3))
       go_roundw
       case rel=>exact ⟨k+1,by omega,by go_num,zA HC2,zA HB3⟩
       case measure=>simp [intOf];omega
      ·have hcs2:=zA HCS
       rw [if_neg hz1] at hcs2
       have HR:Hid (R=e1):=zB (by rw [zA HWT2,←hcs2,if_neg hz1,if_neg hz1])
       have ha:(e1 == 0)=false:=by simpa using hz1
       have hb:(e1 != 0)=true:=by simpa using hz1
       clear hcs2 HCS hz1
       go_wp2_with ((go_at_call 128;refine (zA HC).mono ?_;rintro e w3 ⟨rfl,hb3⟩;have HB3:=zB ((zA HLr).trans (hb3.mono (zA HLr).size));clear hb3))
       go_ret
       rw [zA HR]
       exact ⟨rfl,zA HB3⟩
     ·obtain rfl:k=cols.length:=by omega
      rw [Nat.sub_self] at hcs
      have hcs:zBM bs.length cols cols.length 0=0:=hcs.symm
      have HWT3:Hid (R=if (if zDm bs=true then (0:Int) else 2)=0 then (if j=0∨(l.getD (j - 1) dT).has<has then 0 else 2) else (if zDm bs=true then (0:Int) else 2)):=zB (by rw [zA HWT2,hcs,if_pos rfl])
      have HRI:=zB (fun x:Sub wr=>zMR A c bs x.val (zA HF).b (((zA HT).below hL).bs.below x.bel))
      have HLr:=zB hL
      have hsub:Nonempty (Sub wr):=⟨⟨wr,Below.refl _ _⟩⟩
      have s0:=zN ((zA HXr).cell 0 rfl 0 rfl)
      have s1:=zN ((zA HXr).cell 0 rfl 1 rfl)
      simp only [Nat.add_zero] at s0 s1
      have dk:decide ((cols.length:Int)<(cols.length:Int))=false:=decide_eq_false (by omega)
      have HPr:Hid (∀ i,j=i+1→wr.cell? ⟨tb,tf+i*3,none⟩=some (.int .i64 (l.getD i dT).has)):=zB (fun i hi=>zC hL (zA HP i hi))
      clear hcs hL hbr HWT2 HP HT HF HX9 HXr HB9 HB0
      generalize zDm bs=rb at *
      cases rb
      ·have HR:Hid (R=2):=zB (by rw [zA HWT3];simp)
       go_wp2_with fail
       refine zU (by kernel_rfl) (by kernel_rfl) ?_
       repeat (go_big_quiet_step ((go_at_call 129;exact zBn (zA HRI _))))
       refine wpQuiet_nil ?_
       rintro w9 ⟨xs,hxs⟩
       have hb9:=xs.bel
       rw [←hxs] at hb9
       have HB9:=zB ((zA HLr).trans (hb9.mono (zA HLr).size))
       have HB0:=zB hb9
       clear hxs hb9 xs
       go_wp2
       go_ret
       rw [zA HR]
       exact ⟨rfl,zA HB9⟩
      ·by_cases hj0:j=0
       ·have HR:Hid (R=0):=zB (by rw [zA HWT3,if_pos (show (if true=true then (0:Int) else 2)=0 from rfl),if_pos (.inl hj0)])
        subst hj0
        clear HPr
        go_wp2_with fail
        refine zU (by kernel_rfl) (by kernel_rfl) ?_
        repeat (go_big_quiet_step ((go_at_call 129;exact zBn (zA HRI _))))
        refine wpQuiet_nil ?_
        rintro w9 ⟨xs,hxs⟩
        have hb9:=xs.bel
        rw [←hxs] at hb9
        have HB9:=zB ((zA HLr).trans (hb9.mono (zA HLr).size))
        have HB0:=zB hb9
        clear hxs hb9 xs
        go_wp2
        go_ret
        rw [zA HR]
        exact ⟨rfl,zA HB9⟩
       ·obtain ⟨i,hi⟩:∃ i,j=i+1:=⟨j - 1,by omega⟩
        have s3:=zN (zA HPr i hi)
        have hw1:IntKind.i64.wrap ((j:Int) - 1)=(i:Int):=by rw [IntWalk.i64_in _ (by omega)];omega
        have i0:(0:Int)≤(i:Int):=by omega
        have i1:(i:Int)<(l.length:Int):=by omega
        have jp:(0:Int)<(j:Int):=by omega
        have jn:0<j:=by omega
        have jd:decide ((0:Int)<(j:Int))=true:=decide_eq_true jp
        have hR3:=zA HWT3
        rw [show j - 1=i by omega] at hR3
        generalize (l.getD i dT).has=ph at *
        by_cases hph:ph<has
        ·have HR:Hid (R=0):=zB (by rw [hR3,if_pos (show (if true=true then (0:Int) else 2)=0 from rfl),if_pos (.inr hph)])
         have hd:decide (has≤ph)=false:=decide_eq_false (by omega)
         clear hR3 hph hi HWT3 HPr hj0
         go_wp2_with fail
         refine zU (by kernel_rfl) (by kernel_rfl) ?_
         repeat (go_big_quiet_step ((go_at_call 129;exact zBn (zA HRI _))))
         refine wpQuiet_nil ?_
         rintro w9 ⟨xs,hxs⟩
         have hb9:=xs.bel
         rw [←hxs] at hb9
         have HB9:=zB ((zA HLr).trans (hb9.mono (zA HLr).size))
         have HB0:=zB hb9
         clear hxs hb9 xs
         go_wp2
         go_ret
         rw [zA HR]
         exact ⟨rfl,zA HB9⟩
        ·have HR:Hid (R=2):=zB (by rw [hR3,if_pos (show (if true=true then (0:Int) else 2)=0 from rfl),if_neg (by omega)])
         have hd:decide (has≤ph)=true:=decide_eq_true (by omega)
         clear hR3 hph hi HWT3 HPr hj0
         go_wp2_with fail
         refine zU (by kernel_rfl) (by kernel_rfl) ?_
         repeat (go_big_quiet_step ((go_at_call 129;exact zBn (zA HRI _))))
         refine wpQuiet_nil ?_
         rintro w9 ⟨xs,hxs⟩
         have hb9:=xs.bel
         rw [←hxs] at hb9
         have HB9:=zB ((zA HLr).trans (hb9.mono (zA HLr).size))
         have HB0:=zB hb9
         clear hxs hb9 xs
         go_wp2
         go_ret
         rw [zA HR]
         exact ⟨rfl,zA HB9⟩
   ·have HR:Hid (R=4):=zB (by rw [zA HWT,zPA hs (.inr hcl)];simp)
    have hlc:((cols.length:Int) != ((zO has 8).length:Int))=true:=by simp;omega
    have hlc2:((cols.length:Int) == ((zO has 8).length:Int))=false:=by simp;omega
    clear hb0 hcl hs
    go_wp2_with fail
    refine zU (by kernel_rfl) (by kernel_rfl) ?_
    repeat (go_big_quiet_step ((go_at_call 127;exact zIK (zA HCO _))))
    refine wpQuiet_nil ?_
    rintro w9 ⟨xs,hxs⟩
    have hb9:=xs.bel
    rw [←hxs] at hb9
    have HB9:=zB ((zA HL1).trans (hb9.mono (zA HL1).size))
    have HB0:=zB hb9
    clear hxs hb9 xs
    go_wp2
    go_ret
    rw [zA HR]
    exact ⟨rfl,zA HB9⟩
end Go.Proofs.YtnbleebilmghcabGreat
