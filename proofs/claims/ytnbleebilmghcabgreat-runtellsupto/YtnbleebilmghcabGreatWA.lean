/- Draws, Last, Vars, Mix, Vals, Gen -/
import Derived.Deep.MidRow
import Derived.WalkKit
import Derived.BigQuiet
set_option linter.all false
namespace Go.Proofs.YtnbleebilmghcabGreat
open Go
theorem zGM (l:Array Bool) (i:Nat) (h:l.getD i true=false) :
  i<l.size∧0<l.toList.countP (fun b=>!b)∧(l.setIfInBounds i true).toList.countP (fun b=>!b)+1=l.toList.countP (fun b=>!b):=by
 have hi:i<l.size:=by
  rcases Nat.lt_or_ge i l.size with hlt | hge
  ·exact hlt
  ·simp [Array.getD,Nat.not_lt.2 hge] at h
 have hv:l[i]=false:=by simpa [Array.getD,hi] using h
 have hpos:0<l.toList.countP (fun b=>!b):=by
  rw [List.countP_pos_iff]
  exact ⟨l[i],by simp,by simp [hv]⟩
 refine ⟨hi,hpos,?_⟩
 have e:(l.toList[i]'(by simpa using hi))=false:=by simpa using hv
 rw [Array.toList_setIfInBounds,List.countP_set (by simpa using hi),e]
 simp only [Bool.not_false,if_true,Bool.not_true,Bool.false_eq_true,if_false]
 omega
theorem zGc {P:Program} {ops:Array Oper} {Q:Exit→Act→World→Prop} {md:Region.Mode} (I:Array Bool→Act→World→Prop)
  (hstep:∀ listed a w i,I listed a w→i∈Region.ready md ops listed→wpOp P ops Q i (I (listed.setIfInBounds i true)) a w)
  (hend:∀ listed a w,I listed a w→Region.ready md ops listed=[]→Q .normal a w) :
  ∀ fuel listed a w,I listed a w→listed.toList.countP (fun b=>!b)≤fuel→wpAny P md ops Q fuel listed a w:=by
 intro fuel
 induction fuel with
 | zero =>
  intro listed a w h hc
  have hr:Region.ready md ops listed=[]:=by
   rw [List.eq_nil_iff_forall_not_mem]
   intro i hi
   have:=(zGM listed i (mem_ready.1 hi).1).2.1
   omega
  exact ⟨hr,hend _ _ _ h hr⟩
 | succ fuel ih =>
  intro listed a w h hc
  refine ⟨hend _ _ _ h,fun i hi=>wpOp_mono (fun a' w' h'=>ih _ a' w' h' ?_) (hstep _ _ _ _ h hi)⟩
  have:=(zGM listed i (mem_ready.1 hi).1).2.2
  omega
def upd (L:Nat→Bool) (i:Nat):Nat→Bool:=fun j=>if j=i then true else L j
def zOx (ops:Array Oper):Bool:=(List.range ops.size).all fun j=>match ops[j]? with
 | some o=>o.after.all fun e=>decide (e.on<j)
 | none=>true
theorem zJv {md:Region.Mode} {ops:Array Oper} (hb:zOx ops=true) (listed:Array Bool) (hs:listed.size=ops.size) (hr:Region.ready md ops listed=[]) :
  ∀ j,j<ops.size→listed.getD j false=true:=by
 intro j
 induction j using Nat.strongRecOn with
 | ind j ih =>
  intro hj
  cases hl:listed.getD j false with
  | true=>rfl
  | false =>
   exfalso
   have ho:ops[j]?=some ops[j]:=by simp [hj]
   have hm:j∈Region.ready md ops listed:=by
    rw [mem_ready]
    refine ⟨by simpa [Array.getD,hs,hj] using hl,ops[j],ho,fun e he _=>?_⟩
    have h1:=List.all_eq_true.1 hb j (List.mem_range.2 hj)
    simp only [ho] at h1
    have h2:=Array.all_eq_true_iff_forall_mem.1 h1 e he
    have h3:e.on<j:=by simpa using h2
    exact ih e.on h3 (by omega)
   rw [hr] at hm
   exact absurd hm (by simp)
theorem zDg {P:Program} {ops:Array Oper} {Q:Exit→Act→World→Prop} {id:Nat} {a:Act} {w:World} (hm:P.follows .mixedOrders=true)
  (I:(Nat→Bool)→Act→World→Prop) (hb:zOx ops=true)
  (hstart:I (fun _=>false) a { w with drawn:=w.drawn+1 })
  (hstep:∀ L a w i o,I L a w→ops[i]?=some o→L i=false→(∀ e∈o.after,Region.binds .any e=true→L e.on=true)→wpOp P ops Q i (I (upd L i)) a w)
  (hend:∀ L a w,I L a w→(∀ j,j<ops.size→L j=true)→Q .normal a w):(Code.region id ops true).wp P Q a w:=by
 refine wp_region_any hm (zGc (fun l a w=>l.size=ops.size∧I (fun j=>l.getD j false) a w) ?_ ?_ _ _ _ _ ?_ ?_)
 ·rintro l a w i ⟨hs,hI⟩ hi
  obtain ⟨h1,o,ho,h2⟩:=mem_ready.1 hi
  have hi':=(zGM l i h1).1
  refine wpOp_mono (fun a' w' h'=>⟨by simpa using hs,?_⟩) (hstep _ a w i o hI ho (by simpa [Array.getD,hi'] using h1) h2)
  have e:(fun j=>(l.setIfInBounds i true).getD j false)=upd (fun j=>l.getD j false) i:=by
   funext j
   unfold upd
   by_cases hj:j=i
   ·subst hj;simp [Array.getD,hi']
   ·rw [if_neg hj,getD_set_ne _ (Ne.symm hj)]
  show I (fun j=>(l.setIfInBounds i true).getD j false) a' w'
  rw [e];exact h'
 ·rintro l a w ⟨hs,hI⟩ hr
  exact hend _ a w hI (zJv hb l hs hr)
 ·refine ⟨by simp,?_⟩
  have e:(fun j=>(Array.replicate ops.size false).getD j false)=fun _=>false:=by
   funext j
   simp [Array.getD]
  rw [e];exact hstart
 ·simpa using List.countP_le_length (p:=fun b=>!b) (l:=List.replicate ops.size false)
theorem zAO {P:Program} {ops:Array Oper} {Q:Exit→Act→World→Prop} {i:Nat} {o:Oper} {a:Act} {w:World} {K:Act→World→Prop} (ho:ops[i]?=some o) (hg:o.guard=none)
  (h:o.wp P a w K Q):wpOp P ops Q i K a w:=by
 unfold wpOp
 simp only [ho]
 rw [if_pos (by unfold Region.wanted;rw [hg])]
 exact .inl h
structure Sub (W:World) where
 val:World
 bel:Go.RowKit.Below W.heap.size W val
theorem zU {P:Program} {id:Nat} {Q:Exit→Act→World→Prop} {a:Act} {w:World} {l:List Oper} (hm:P.follows .mixedOrders=true) (hB:Region.lexB .any l.toArray=true)
  (h:wpQuiet P l.toArray (fun w'=>∃ x:Sub w,w'=x.val) (fun a'=>∀ w',(∃ x:Sub w,w'=x.val)→Q .normal a' w') l a):(Code.region id l.toArray true).wp P Q a w :=
 wp_region_quiet (C:=fun w'=>∃ x:Sub w,w'=x.val) hm hB ⟨⟨_,(Go.RowKit.Below.refl _ _).drew⟩,rfl⟩ (by simpa using h)
theorem zBn {P:Program} {W:World} {x:Sub W} {f:FuncId} {args:Array Value} {v:Value} (h:Calls P f args x.val fun e w'=>e=.returned v∧Go.RowKit.Below x.val.heap.size x.val w') :
  Calls P f args x.val fun e w''=>e=.returned v∧∃ y:Sub W,w''=y.val :=
 h.mono fun _ w' ⟨he,hb⟩=>⟨he,⟨w',x.bel.trans (hb.mono x.bel.size)⟩,rfl⟩
theorem zIK {P:Program} {W:World} {x:Sub W} {f:FuncId} {args:Array Value} {v:Value} (h:Calls P f args x.val fun e w'=>e=.returned v∧w'=x.val) :
  Calls P f args x.val fun e w''=>e=.returned v∧∃ y:Sub W,w''=y.val :=
 h.mono fun _ _ ⟨he,hb⟩=>⟨he,x,hb⟩
theorem zN {W:World} {p:Addr} {v:Value} (h:W.cell? p=some v) (x:Sub W):x.val.cell? p=some v :=
 (x.bel.cell (World.block_lt_of_cell? W p h)).trans h
end Go.Proofs.YtnbleebilmghcabGreat
namespace Go.Proofs.YtnbleebilmghcabGreat
open Go
section
variable {P:Program} {C:World→Prop} {Q:Exit→Act→World→Prop} {Qq:Act→Prop} {l:List Oper} {o:Oper}
end
end Go.Proofs.YtnbleebilmghcabGreat
namespace Go.Proofs.YtnbleebilmghcabGreat
open Go Go.RowKit
theorem zC {W w1:World} (hb:Below W.heap.size W w1) {p:Addr} {v:Value} (h:W.cell? p=some v):w1.cell? p=some v :=
 (hb.cell (World.block_lt_of_cell? W p h)).trans h
theorem zEi {W w1:World} (hb:Below W.heap.size W w1) {g o n:Nat} (hg:g<W.heap.size) (h:W.there g o n):w1.there g o n:=fun j hj=>by
 rw [hb.cell (p:=⟨g,o+j,none⟩) hg,hb.frozen (p:=⟨g,o+j,none⟩) hg];exact h j hj
theorem zEv {W w1:World} (hb:Below W.heap.size W w1) {g o:Nat} {cs:List Value} (hg:g<W.heap.size) (h:W.rangeAt g o cs):w1.rangeAt g o cs:=fun j v hv=>by
 rw [hb.cell (p:=⟨g,o+j,none⟩) hg];exact h j v hv
theorem zI {B:Nat} {w0:World} (b:Nat) (hb:B≤b):∀ (vs:List Value) (o:Nat) (w:World),Below B w0 w→Below B w0 (w.setCells b o vs)
 | [],_,_,h=>h
 | v :: r,o,_,h=>zI b hb r (o+1) _ (h.setCell (p:=⟨b,o,none⟩) hb v)
theorem zBF (b:Nat):∀ (vs:List Value) (o:Nat) (w:World),(w.setCells b o vs).heap.size=w.heap.size
 | [],_,_=>rfl
 | v :: r,o,w=>by show ((w.setCell _ v).setCells b (o+1) r).heap.size=_;rw [zBF b r];simp
section
variable {w0:World} {m:Nat} {sz:Nat→Nat} {cs:Nat→List Value} {l st l' st':Nat→Bool} {v v':Nat→Value} {g:Nat→Nat} {w w1:World}
end
def zNC (o:Oper):List Tmp:=o.op.operands.toList.filterMap fun | .tmp t=>some t | _=>none
def zPH (ops:List Oper):Bool:=(List.range ops.length).all fun j=>match ops[j]? with
 | none=>true
 | some o=>(zNC o).all fun t=>(List.range ops.length).all fun i=>match ops[i]? with
  | none=>true
  | some p=>p.dst != some t || (decide (i<j) && o.after.any fun e=>decide (e.on=i) && Region.binds .any e)
def zPL (ops:List Oper):Bool:=(List.range ops.length).all fun j=>(List.range j).all fun i=>match ops[i]?,ops[j]? with
 | some p,some q=>p.dst.isNone || p.dst != q.dst
 | _,_=>true
theorem zEV {ops:List Oper} (h:zPH ops=true) {i j:Nat} {o p:Oper} (hj:ops[j]?=some o) (hi:ops[i]?=some p) {t:Tmp} (ht:.tmp t∈o.op.operands) (hp:p.dst=some t) :
  i<j∧∃ e∈o.after,e.on=i∧Region.binds .any e=true:=by
 have hjl:j<ops.length:=(List.getElem?_eq_some_iff.1 hj).1
 have hil:i<ops.length:=(List.getElem?_eq_some_iff.1 hi).1
 have h1:=List.all_eq_true.1 h j (List.mem_range.2 hjl)
 simp only [hj] at h1
 have h2:=List.all_eq_true.1 h1 t (List.mem_filterMap.2 ⟨.tmp t,by simpa using ht,rfl⟩)
 have h3:=List.all_eq_true.1 h2 i (List.mem_range.2 hil)
 simp only [hi,hp,bne_self_eq_false,Bool.false_or,Bool.and_eq_true,decide_eq_true_eq] at h3
 obtain ⟨k,hk,he⟩:=Array.any_eq_true.1 h3.2
 rw [Bool.and_eq_true] at he
 exact ⟨h3.1,o.after[k],by simp,of_decide_eq_true he.1,he.2⟩
theorem zGL {ops:List Oper} (h:zPL ops=true) {i j:Nat} {o p:Oper} (hij:i≠j) (hi:ops[i]?=some p) (hj:ops[j]?=some o) {d:Tmp} (hp:p.dst=some d):o.dst≠some d:=by
 have key:∀ {i j:Nat} {o p:Oper},i<j→ops[i]?=some p→ops[j]?=some o→∀ d,p.dst=some d→o.dst≠some d:=by
  intro i j o p hij hi hj d hp ho
  have h1:=List.all_eq_true.1 h j (List.mem_range.2 (List.getElem?_eq_some_iff.1 hj).1)
  have h2:=List.all_eq_true.1 h1 i (List.mem_range.2 hij)
  simp [hi,hj,hp,ho] at h2
 rcases Nat.lt_or_gt_of_ne hij with h1 | h1
 ·exact key h1 hi hj d hp
 ·intro ho;exact key h1 hj hi d ho hp
theorem zCo (a:Act) (d t:Tmp) (v:Value):(a.put (some d) v).tmps.getD t undef=if d=t∧d<a.tmps.size then v else a.tmps.getD t undef:=by
 simp only [Act.put,Array.getD_eq_getD_getElem?,Array.getElem?_setIfInBounds]
 by_cases h:d=t
 ·subst h
  by_cases h2:d<a.tmps.size
  ·simp [h2]
  ·simp [h2]
 ·simp [h]
theorem zBS (a:Act) (x:Option Tmp) (v:Value):(a.put x v).tmps.size=a.tmps.size:=by cases x <;> simp [Act.put]
theorem zBf (a:Act) (x:Option Tmp) (v:Value):(a.put x v).defers=a.defers:=by cases x <;> rfl
theorem zCM {P:Program} {ops:Array Oper} {C:World→Prop} {af:Act}:∀ (l:List Oper) (a:Act),(∀ o∈l,o.guard=none)→wpQuiet P ops C (fun a'=>a'=af) l a →
  a.tmps.size=af.tmps.size∧a.defers=af.defers∧∀ t,(∀ o∈l,o.dst≠some t)→a.tmps.getD t undef=af.tmps.getD t undef
 | [],a,_,h=>by obtain rfl:a=af:=h;exact ⟨rfl,rfl,fun _ _=>rfl⟩
 | o :: l,a,hg,h=>by
  unfold wpQuiet at h
  rw [if_pos (by unfold Region.wanted;rw [hg o (by simp)])] at h
  obtain ⟨v,_,h2⟩:=h
  obtain ⟨h3,h4,h5⟩:=zCM l _ (fun x hx=>hg x (by simp [hx])) h2
  rw [zBS] at h3
  rw [zBf] at h4
  refine ⟨h3,h4,fun t ht=>?_⟩
  rw [←h5 t (fun x hx=>ht x (by simp [hx]))]
  cases hd:o.dst with
  | none=>rfl
  | some d =>
   have:d≠t:=fun e=>ht o (by simp) (by rw [hd,e])
   rw [zCo,if_neg (fun e=>this e.1)]
theorem zEw {P:Program} {ops:Array Oper} {C:World→Prop} {af:Act} (hC:∃ w,C w):∀ (l:List Oper) (a:Act),(∀ o∈l,o.guard=none)→(∀ o∈l,∀ cs b,o.op≠.select cs b)→wpQuiet P ops C (fun a'=>a'=af) l a →
  (∀ (i j:Nat) (o p:Oper),l[i]?=some p→l[j]?=some o→∀ t:Tmp,Operand.tmp t∈o.op.operands→p.dst=some t→i<j) →
  (∀ (i j:Nat) (o p:Oper),i≠j→l[i]?=some p→l[j]?=some o→∀ d,p.dst=some d→o.dst≠some d) →
  ∀ (j:Nat) (o:Oper),l[j]?=some o→∃ v,(∀ w,C w→o.quietAt P af C w v)∧∀ d,o.dst=some d→d<af.tmps.size→af.tmps.getD d undef=v
 | [],_,_,_,_,_,_,j,o,hj=>by simp at hj
 | o :: l,a,hg,hsel,h,hs,hd,j,q,hj=>by
  have hk:=zCM (o :: l) a hg h
  unfold wpQuiet at h
  rw [if_pos (by unfold Region.wanted;rw [hg o (by simp)])] at h
  obtain ⟨v,h1,h2⟩:=h
  cases j with
  | zero =>
   obtain rfl:o=q:=by simpa using hj
   refine ⟨v,fun w hw=>?_,fun d hdd hlt=>?_⟩
   ·have:=h1 w hw
    unfold Oper.quietAt at this ⊢
    rwa [execOp_congr (ρ:=af.eval) (ρ':=a.eval) o (hsel o (by simp)) (fun x hx=>?_)]
    cases x with
    | tmp t =>
     show af.tmps.getD t undef=a.tmps.getD t undef
     refine (hk.2.2 t (fun p hp hpd=>?_)).symm
     obtain ⟨i,hi⟩:=List.getElem?_of_mem hp
     exact absurd (hs i 0 o p hi (by simp) t hx hpd) (by omega)
    | _=>rfl
   ·obtain ⟨h3,_,h5⟩:=zCM l _ (fun x hx=>hg x (by simp [hx])) h2
    rw [←h5 d (fun p hp hpd=>?_),hdd,zCo,if_pos ⟨rfl,by rw [zBS] at h3;rw [h3];exact hlt⟩]
    obtain ⟨i,hi⟩:=List.getElem?_of_mem hp
    exact hd 0 (i+1) p o (by omega) (by simp) (by simpa using hi) d hdd hpd
  | succ j =>
   exact zEw hC l _ (fun x hx=>hg x (by simp [hx])) (fun x hx=>hsel x (by simp [hx])) h2 (fun i j o p hi hj t ht hp=>by
    have:=hs (i+1) (j+1) o p (by simpa using hi) (by simpa using hj) t ht hp
    omega) (fun i j o p hij hi hj d hp=>hd (i+1) (j+1) o p (by omega) (by simpa using hi) (by simpa using hj) d hp) j q (by simpa using hj)
end Go.Proofs.YtnbleebilmghcabGreat
namespace Go.Proofs.YtnbleebilmghcabGreat
open Go Go.RowKit
def zFp (ops:Array Oper):Bool:=(List.range ops.size).all fun j=>match ops[j]? with
 | some o=>o.after.all fun e=>decide (e.on<j) || !Region.binds .any e
 | none=>true
theorem zID {ops:Array Oper} (hb:zFp ops=true) (listed:Array Bool) (hs:listed.size=ops.size) (hr:Region.ready .any ops listed=[]) :
  ∀ j,j<ops.size→listed.getD j false=true:=by
 intro j
 induction j using Nat.strongRecOn with
 | ind j ih =>
  intro hj
  cases hl:listed.getD j false with
  | true=>rfl
  | false =>
   exfalso
   have ho:ops[j]?=some ops[j]:=by simp [hj]
   have hm:j∈Region.ready .any ops listed:=by
    rw [mem_ready]
    refine ⟨by simpa [Array.getD,hs,hj] using hl,ops[j],ho,fun e he heb=>?_⟩
    have h1:=List.all_eq_true.1 hb j (List.mem_range.2 hj)
    simp only [ho] at h1
    have h2:=Array.all_eq_true_iff_forall_mem.1 h1 e he
    have h3:e.on<j:=by simpa [heb] using h2
    exact ih e.on h3 (by omega)
   rw [hr] at hm
   exact absurd hm (by simp)
theorem zBQ {P:Program} {ops:Array Oper} {Q:Exit→Act→World→Prop} {id:Nat} {a:Act} {w:World} (hm:P.follows .mixedOrders=true)
  (I:(Nat→Bool)→Act→World→Prop) (hb:zFp ops=true)
  (hstart:I (fun _=>false) a { w with drawn:=w.drawn+1 })
  (hstep:∀ L a w i o,I L a w→ops[i]?=some o→L i=false→(∀ e∈o.after,Region.binds .any e=true→L e.on=true)→wpOp P ops Q i (I (upd L i)) a w)
  (hend:∀ L a w,I L a w→(∀ j,j<ops.size→L j=true)→Q .normal a w):(Code.region id ops true).wp P Q a w:=by
 refine wp_region_any hm (zGc (fun l a w=>l.size=ops.size∧I (fun j=>l.getD j false) a w) ?_ ?_ _ _ _ _ ?_ ?_)
 ·rintro l a w i ⟨hs,hI⟩ hi
  obtain ⟨h1,o,ho,h2⟩:=mem_ready.1 hi
  have hi':=(zGM l i h1).1
  refine wpOp_mono (fun a' w' h'=>⟨by simpa using hs,?_⟩) (hstep _ a w i o hI ho (by simpa [Array.getD,hi'] using h1) h2)
  have e:(fun j=>(l.setIfInBounds i true).getD j false)=upd (fun j=>l.getD j false) i:=by
   funext j
   unfold upd
   by_cases hj:j=i
   ·subst hj;simp [Array.getD,hi']
   ·rw [if_neg hj,getD_set_ne _ (Ne.symm hj)]
  show I (fun j=>(l.setIfInBounds i true).getD j false) a' w'
  rw [e];exact h'
 ·rintro l a w ⟨hs,hI⟩ hr
  exact hend _ a w hI (zID hb l hs hr)
 ·refine ⟨by simp,?_⟩
  have e:(fun j=>(Array.replicate ops.size false).getD j false)=fun _=>false:=by
   funext j
   simp [Array.getD]
  rw [e];exact hstart
 ·simpa using List.countP_le_length (p:=fun b=>!b) (l:=List.replicate ops.size false)
def zNB (K:Act→World→Prop) (e:Exit) (a:Act) (w:World):Prop:=e=.normal∧K a w
theorem zBO {K:Act→World→Prop} {a:Act} {w:World} (h:K a w):zNB K .normal a w:=⟨rfl,h⟩
def zBm (P:Program) (ops:Array Oper) (D:World→Prop) (R:Act→World→Prop):Nat→List Oper→Act→World→Prop
 | _,[],a,w=>R a w
 | m,o :: rest,a,w=>wpList P ops (zNB fun a' w'=>∀ x:Sub w',(0<m→D x.val)∧zBm P ops D R (m - 1) rest a' x.val) [o] a w
theorem zIu {P:Program} {o:Oper} {a b:Act} {N N':Act→World→Prop} {Q Q':Exit→Act→World→Prop} (hQ:∀ ch a w,¬ Q' (.panic ch) a w) (hL:¬ LetsOut Q')
  (hN:∀ v w',N (b.put o.dst v) w'→N' (a.put o.dst v) w') (hd:∀ d w',N (({ b with defers:=d :: b.defers }:Act).put o.dst undef) w'→N' (({ a with defers:=d :: a.defers }:Act).put o.dst undef) w') :
  ∀ r,o.upon P b N Q' r→o.upon P a N' Q r
 | .ok (.value v) w',h=>hN _ _ h
 | .ok .skip w',h=>hN _ _ h
 | .ok (.defer d) w',h=>hd _ _ h
 | .ok (.enter f args) w',h=>Calls.mono h fun e w'' he=>by
   cases e with
   | returned v=>exact hN _ _ he
   | panicked ch=>exact absurd he (hQ _ _ _)
   | outgrown=>exact absurd he hL
 | .ok (.row row args) w',h=>Rows.mono h fun v w'' hv=>hN _ _ hv
 | .halt (.panic v) w',h=>absurd h (hQ _ _ _)
def zOp (l:List Nat):Bool:=(List.range l.length).all fun j=>(List.range j).all fun i=>decide (l.getD i 0<l.getD j 0)
theorem zEY {l:List Nat} (h:zOp l=true) {i j x y:Nat} (hi:l[i]?=some x) (hj:l[j]?=some y) (hij:i<j):x<y:=by
 have h1:=List.all_eq_true.1 h j (List.mem_range.2 (List.getElem?_eq_some_iff.1 hj).1)
 have h2:=of_decide_eq_true (List.all_eq_true.1 h1 i (List.mem_range.2 hij))
 simpa [hi,hj] using h2
def zPJ (m:Nat) (an ps qs ls:List Nat) (ops:List Oper):Bool :=
 (qs.all fun i=>ps.contains i || (decide (m<ls.length) && an.contains i) || decide (ls.length≤m)) && (ps.all fun i=>qs.contains i) && zOp ps &&
 (an.all fun i=>ls[m]? == some i || an.any fun k=>decide (i<k) && decide (k<ops.length) && match ops[k]? with
  | none=>false
  | some o=>o.after.any fun e=>decide (e.on=i) && Region.binds .any e) &&
 ((List.range ops.length).all fun i=>qs.contains i != ls.contains i) && (qs.all fun i=>decide (i<ops.length)) && (ls.all fun i=>decide (i<ops.length)) && zOp qs && zOp ls &&
 (qs.all fun q=>match ops[q]? with
  | none=>true
  | some o=>(zNC o).all fun t=>ls.all fun l=>match ops[l]? with
   | none=>true
   | some p=>p.dst != some t) &&
 ((List.range ls.length).all fun k=>decide (k=0) || match ls[k]?,ls[k - 1]? with
  | some i,some j=>(match ops[i]? with
   | none=>false
   | some o=>o.after.any fun e=>decide (e.on=j) && Region.binds .any e)
  | _,_=>true)
structure MixS (m:Nat) (an ps qs ls:List Nat) (ops:List Oper):Prop where
 cov:∀ i∈qs,i∈ps∨(m<ls.length∧i∈an)∨ls.length≤m
 pq:∀ i∈ps,i∈qs
 pi:∀ i j x y:Nat,ps[i]?=some x→ps[j]?=some y→i<j→x<y
 up:∀ i∈an,ls[m]?=some i∨∃ k o,k∈an∧i<k∧k<ops.length∧ops[k]?=some o∧∃ e∈o.after,e.on=i∧Region.binds .any e=true
 one:∀ i,i<ops.length→(i∈qs∧i ∉ ls)∨(i ∉ qs∧i∈ls)
 q:∀ i∈qs,i<ops.length
 l:∀ i∈ls,i<ops.length
 qi:∀ i j x y:Nat,qs[i]?=some x→qs[j]?=some y→i<j→x<y
 li:∀ i j x y:Nat,ls[i]?=some x→ls[j]?=some y→i<j→x<y
 sep:∀ (i:Nat) (o:Oper),i∈qs→ops[i]?=some o→∀ t:Tmp,Operand.tmp t∈o.op.operands→∀ (j:Nat) (p:Oper),j∈ls→ops[j]?=some p→p.dst≠some t
 ch:∀ k i j:Nat,ls[k+1]?=some i→ls[k]?=some j→∀ o,ops[i]?=some o→∃ e∈o.after,e.on=j∧Region.binds .any e=true
theorem zMf {m:Nat} {an ps qs ls:List Nat} {ops:List Oper} (h:zPJ m an ps qs ls ops=true):MixS m an ps qs ls ops:=by
 unfold zPJ at h
 rw [Bool.and_eq_true,Bool.and_eq_true,Bool.and_eq_true,Bool.and_eq_true,Bool.and_eq_true,Bool.and_eq_true,Bool.and_eq_true,Bool.and_eq_true,Bool.and_eq_true,Bool.and_eq_true] at h
 obtain ⟨⟨⟨⟨⟨⟨⟨⟨⟨⟨g1,g2⟩,g3⟩,g4⟩,h1⟩,h2⟩,h3⟩,h4⟩,h5⟩,h6⟩,h7⟩:=h
 refine ⟨fun i hi=>?_,fun i hi=>by simpa using List.all_eq_true.1 g2 i hi,fun i j x y a b c=>zEY g3 a b c,fun i hi=>?_,fun i hi=>?_,fun i hi=>of_decide_eq_true (List.all_eq_true.1 h2 i hi),fun i hi=>of_decide_eq_true (List.all_eq_true.1 h3 i hi),fun i j x y a b c=>zEY h4 a b c,fun i j x y a b c=>zEY h5 a b c,?_,?_⟩
 ·have:=List.all_eq_true.1 g1 i hi
  simp only [Bool.or_eq_true,Bool.and_eq_true,decide_eq_true_eq,List.contains_iff_mem] at this
  rcases this with (h | h) | h
  ·exact .inl h
  ·exact .inr (.inl h)
  ·exact .inr (.inr h)
 ·have:=List.all_eq_true.1 g4 i hi
  simp only [Bool.or_eq_true,beq_iff_eq] at this
  rcases this with h | h
  ·exact .inl h
  ·obtain ⟨k,hk,h⟩:=List.any_eq_true.1 h
   rw [Bool.and_eq_true,Bool.and_eq_true] at h
   obtain ⟨⟨h8,h9⟩,h10⟩:=h
   cases ho:ops[k]? with
   | none=>rw [ho] at h10;cases h10
   | some o =>
    rw [ho] at h10
    obtain ⟨n,hn,he⟩:=Array.any_eq_true.1 h10
    rw [Bool.and_eq_true] at he
    exact .inr ⟨k,o,hk,of_decide_eq_true h8,of_decide_eq_true h9,ho,o.after[n],by simp,of_decide_eq_true he.1,he.2⟩
 ·have:=List.all_eq_true.1 h1 i (List.mem_range.2 hi)
  by_cases a:i∈qs <;> by_cases b:i∈ls <;> simp_all
 ·intro i o hi ho t ht j p hj hp
  have:=List.all_eq_true.1 h6 i hi
  simp only [ho] at this
  have:=List.all_eq_true.1 this t (List.mem_filterMap.2 ⟨.tmp t,by simpa using ht,rfl⟩)
  have:=List.all_eq_true.1 this j hj
  simpa [hp] using this
 ·intro k i j hi hj o ho
  have:=List.all_eq_true.1 h7 (k+1) (List.mem_range.2 (List.getElem?_eq_some_iff.1 hi).1)
  simp only [Nat.add_sub_cancel,hi,hj,ho,Bool.or_eq_true,decide_eq_true_eq] at this
  rcases this with h | h
  ·omega
  ·obtain ⟨n,hn,he⟩:=Array.any_eq_true.1 h
   rw [Bool.and_eq_true] at he
   exact ⟨o.after[n],by simp,of_decide_eq_true he.1,he.2⟩
theorem zLS (ops:List Oper):∀ (qs:List Nat),(∀ q∈qs,q<ops.length)→∀ j:Nat,(qs.filterMap (ops[·]?))[j]?=qs[j]?.bind (ops[·]?)
 | [],_,j=>by simp
 | q :: qs,h,j=>by
  have e:ops[q]?=some (ops[q]'(h q (by simp))):=by simp [h q (by simp)]
  rw [List.filterMap_cons_some e]
  cases j with
  | zero=>simp [e]
  | succ j=>simpa using zLS ops qs (fun x hx=>h x (by simp [hx])) j
def zCZ (ops:List Oper):List Nat→List Oper
 | []=>[]
 | i :: r=>(ops[i]?).toList++zCZ ops r
theorem zFz (ops:List Oper):∀ l:List Nat,zCZ ops l=l.filterMap (ops[·]?)
 | []=>rfl
 | i :: r=>by
  unfold zCZ
  rw [zFz ops r,List.filterMap_cons]
  cases ops[i]? <;> simp
structure FM (ops:List Oper) (qs:List Nat) (L:Nat→Bool) (b ac:Act):Prop where
 size:ac.tmps.size=b.tmps.size
 defs:ac.defers=b.defers
 at_:∀ t,(∀ (i:Nat) (o:Oper),i∈qs→ops[i]?=some o→L i=false→o.dst≠some t)→ac.tmps.getD t undef=b.tmps.getD t undef
theorem zGQ {a b:Act} (h1:a.tmps.size=b.tmps.size) (h2:a.defers=b.defers) (h:∀ t,a.tmps.getD t undef=b.tmps.getD t undef):a=b:=by
 have htm:a.tmps=b.tmps:=by
  apply Array.ext h1
  intro i i1 i2
  have:=h i
  simpa [Array.getD,i1,i2] using this
 cases a
 cases b
 simp_all
theorem zDf {P:Program} {id:Nat} {Q:Exit→Act→World→Prop} {a:Act} {w:World} {ops:List Oper} (m:Nat) (an ps qs ls:List Nat) (D:World→Prop)
  (hm:P.follows .mixedOrders=true) (hgd:ops.all (fun o=>o.guard.isNone)=true) (hb:zFp ops.toArray=true) (hssa:zPH ops=true) (hdst:zPL ops=true)
  (hsel:Region.noSelect ops.toArray=true) (hmix:zPJ m an ps qs ls ops=true) (hD:∀ w1 (x:Sub w1),D w1→D x.val) (hD0:D w) (hall:∃ af:Act,
  ( ∀ l w1,l=zCZ ops qs→D w1→wpQuiet P ops.toArray (fun w'=>∃ x:Sub w1,w'=x.val) (fun a'=>a'=af) l a) ∧
  (∀ l w1,l=zCZ ops ps→wpQuiet P ops.toArray (fun w'=>∃ x:Sub w1,w'=x.val) (fun a'=>a'=af) l af) ∧
  (∀ l,l=zCZ ops ls→∀ x:Sub w,zBm P ops.toArray D (Q .normal) m l af x.val)):(Code.region id ops.toArray true).wp P Q a w:=by
 obtain ⟨af,hq,hp,hl⟩:=hall
 simp only [zFz] at hq hp hl
 have hgn:∀ o∈ops,o.guard=none:=fun o ho=>by simpa using List.all_eq_true.1 hgd o ho
 have M:=zMf hmix
 have hfm:∀ l:List Nat,∀ o∈l.filterMap (ops[·]?),o∈ops:=fun l o ho=>by
  obtain ⟨i,_,hi⟩:=List.mem_filterMap.1 ho
  exact List.mem_of_getElem? hi
 have hk0:=zCM (qs.filterMap (ops[·]?)) a (fun o ho=>hgn o (hfm _ o ho)) (hq _ w rfl hD0)
 have hss:∀ (l:List Nat) (a0:Act),(∀ i∈l,i<ops.length)→(∀ i j x y:Nat,l[i]?=some x→l[j]?=some y→i<j→x<y)→∀ (w1:World),wpQuiet P ops.toArray (fun w'=>∃ x:Sub w1,w'=x.val) (fun a'=>a'=af) (l.filterMap (ops[·]?)) a0→∀ (i:Nat) (o:Oper),i∈l→ops[i]?=some o→∃ u,(∀ w2,(∃ x:Sub w1,w2=x.val)→o.quietAt P af (fun w'=>∃ x:Sub w1,w'=x.val) w2 u)∧∀ d,o.dst=some d→d<af.tmps.size→af.tmps.getD d undef=u:=by
  intro l a0 hlr hli w1 hwq i o hi ho
  have hqget:=zLS ops l hlr
  obtain ⟨j,hj⟩:=List.getElem?_of_mem hi
  refine zEw (P:=P) (ops:=ops.toArray) (C:=fun w'=>∃ x:Sub w1,w'=x.val) (af:=af) ⟨w1,⟨w1,Below.refl _ _⟩,rfl⟩ (l.filterMap (ops[·]?)) a0 (fun o ho=>hgn o (hfm _ o ho))
   (fun o ho cs b=>by
    obtain ⟨j,hj⟩:=List.getElem?_of_mem (hfm _ o ho)
    exact Region.noSelect_spec hsel j o cs b (by simpa using hj)) hwq ?_ ?_ j o (by rw [hqget,hj];exact ho)
  ·intro i j o p hi hj t ht hp
   rw [hqget] at hi hj
   obtain ⟨x,hx,hx2⟩:=Option.bind_eq_some_iff.1 hi
   obtain ⟨y,hy,hy2⟩:=Option.bind_eq_some_iff.1 hj
   have h3:=(zEV hssa hy2 hx2 ht hp).1
   rcases Nat.lt_trichotomy i j with h | h | h
   ·exact h
   ·subst h;rw [hx] at hy;obtain rfl:=Option.some.inj hy;omega
   ·have:=hli j i y x hy hx h;omega
  ·intro i j o p hij hi hj d hp
   rw [hqget] at hi hj
   obtain ⟨x,hx,hx2⟩:=Option.bind_eq_some_iff.1 hi
   obtain ⟨y,hy,hy2⟩:=Option.bind_eq_some_iff.1 hj
   refine zGL hdst (fun e=>?_) hx2 hy2 hp
   subst e
   rcases Nat.lt_or_gt_of_ne hij with h | h
   ·have:=hli i j x x hx hy h;omega
   ·have:=hli j i x x hy hx h;omega
 refine zBQ hm (fun L ac w1=>∃ k b,FM ops qs L b ac∧b.tmps.size=af.tmps.size∧(∀ t,(∀ (i:Nat) (o:Oper),i∈ls→ops[i]?=some o→o.dst≠some t)→b.tmps.getD t undef=af.tmps.getD t undef) ∧
  k≤ls.length∧(∀ j i:Nat,ls[j]?=some i→(L i=true↔j<k))∧(k≤m→D w1)∧(∀ (i:Nat) (o:Oper),ops[i]?=some o→L i=true→∀ e∈o.after,Region.binds .any e=true→L e.on=true)∧∀ x:Sub w1,zBm P ops.toArray D (Q .normal) (m - k) ((ls.drop k).filterMap (ops[·]?)) b x.val) hb ?_ ?_ ?_
 ·have hx0:Below w.heap.size w { w with drawn:=w.drawn+1 }:=(Below.refl _ _).drew
  refine ⟨0,af,⟨hk0.1,hk0.2.1,fun t ht=>hk0.2.2 t (fun o ho=>?_)⟩,rfl,fun _ _=>rfl,Nat.zero_le _,fun j i _=>by simp,fun _=>hD w ⟨_,hx0⟩ hD0,fun i o _ h=>(by cases h),fun x=>hl _ rfl ⟨x.val,hx0.trans x.bel⟩⟩
  obtain ⟨i,hi,hi2⟩:=List.mem_filterMap.1 ho
  exact ht i o hi hi2 rfl
 ·rintro L ac w1 i o ⟨k,b,hF,hbs,hba,hk,hlk,hDw,hcl,hlo⟩ ho0 hL he
  have ho:ops[i]?=some o:=by simpa using ho0
  have hil:i<ops.length:=(List.getElem?_eq_some_iff.1 ho).1
  have hmem:=List.mem_of_getElem? ho
  have hev:∀ x∈o.op.operands,ac.eval x=b.eval x:=by
   intro x hx
   cases x with
   | tmp t =>
    refine hF.at_ t (fun j p hj hp hLj hpd=>?_)
    obtain ⟨_,e,hea,hei,heb⟩:=zEV hssa ho hp hx hpd
    have:=he e hea heb
    rw [hei,hLj] at this;cases this
   | _=>rfl
  have hcl2:∀ (i':Nat) (o':Oper),ops[i']?=some o'→upd L i i'=true→∀ e∈o'.after,Region.binds .any e=true→upd L i e.on=true:=by
   intro i' o' ho' hL' e hea heb
   unfold upd at hL' ⊢
   by_cases h:e.on=i
   ·rw [if_pos h]
   ·rw [if_neg h]
    by_cases h2:i'=i
    ·subst h2;rw [ho] at ho';obtain rfl:=Option.some.inj ho';exact he e hea heb
    ·rw [if_neg h2] at hL';exact hcl i' o' ho' hL' e hea heb
  refine zAO ho0 (hgn o hmem) ?_
  rcases M.one i hil with ⟨hiq,hinl⟩ | ⟨hinq,hil2⟩
  ·have hu:∃ u,(∀ w2,(∃ x:Sub w1,w2=x.val)→o.quietAt P af (fun w'=>∃ x:Sub w1,w'=x.val) w2 u)∧∀ d,o.dst=some d→d<af.tmps.size→af.tmps.getD d undef=u:=by
    by_cases hip:i∈ps
    ·exact hss ps af (fun i hi=>M.q i (M.pq i hi)) M.pi w1 (hp _ w1 rfl) i o hip ho
    ·refine hss qs a M.q M.qi w1 (hq _ w1 rfl (hDw ?_)) i o hiq ho
     rcases M.cov i hiq with h | ⟨h1,h2⟩ | h
     ·exact absurd h hip
     ·rcases Nat.lt_or_ge m k with h | h
      ·exfalso
       have hlm:ls[m]?=some ls[m]:=by simp [h1]
       have hLm:=(hlk m _ hlm).2 h
       have hall:∀ d i',i'+d=ops.length→i'∈an→L i'=true:=by
        intro d
        induction d using Nat.strongRecOn with
        | ind d ih =>
         intro i' hd hi'
         rcases M.up i' hi' with h | ⟨k',o',hk',hik,hkl,hok,e,hea,hei,heb⟩
         ·rw [hlm] at h;obtain rfl:=Option.some.inj h;exact hLm
         ·have:=ih (ops.length - k') (by omega) k' (by omega) hk'
          rw [←hei];exact hcl k' o' hok this e hea heb
       rw [hall (ops.length - i) i (by omega) h2] at hL;cases hL
      ·exact h
     ·omega
   obtain ⟨u,hu1,hu2⟩:=hu
   have hqt:o.quiet P ac (fun w'=>∃ x:Sub w1,w'=x.val) (fun a'=>a'=ac.put o.dst u):=by
    refine ⟨u,fun w2 hw2=>?_,rfl⟩
    have:=hu1 w2 hw2
    unfold Oper.quietAt at this ⊢
    rwa [execOp_congr (ρ:=ac.eval) (ρ':=af.eval) o (fun cs b=>Region.noSelect_spec hsel i o cs b ho0) (fun x hx=>?_)]
    rw [hev x hx]
    cases x with
    | tmp t=>exact hba t (fun j p hj hp=>M.sep i o hiq ho t hx j p hj hp)
    | _=>rfl
   refine Oper.wp_of_quiet (C:=fun w'=>∃ x:Sub w1,w'=x.val) ⟨⟨w1,Below.refl _ _⟩,rfl⟩ (fun a' w2 hw2 ha'=>?_) hqt
   obtain ⟨x,rfl⟩:=hw2
   subst ha'
   refine ⟨k,b,⟨by rw [zBS];exact hF.size,by rw [zBf];exact hF.defs,fun t ht=>?_⟩,hbs,hba,hk,fun j i' hj=>?_,fun h=>hD w1 x (hDw h),hcl2,fun y=>hlo ⟨y.val,x.bel.trans (y.bel.mono x.bel.size)⟩⟩
   ·cases hod:o.dst with
    | none =>
     refine hF.at_ t (fun j p hj hp hLj=>?_)
     by_cases hji:j=i
     ·subst hji;rw [ho] at hp;obtain rfl:=Option.some.inj hp;rw [hod];simp
     ·exact ht j p hj hp (by unfold upd;rw [if_neg hji];exact hLj)
    | some d =>
     rw [zCo]
     by_cases hdt:d=t
     ·subst hdt
      by_cases hlt:d<ac.tmps.size
      ·rw [if_pos ⟨rfl,hlt⟩,hba d (fun j p hj hp=>?_),hu2 d hod (by rw [←hbs,←hF.size];exact hlt)]
       refine zGL hdst (fun e=>?_) ho hp hod
       subst e
       exact hinl hj
      ·rw [if_neg (fun e=>hlt e.2)]
       have h2:¬ d<b.tmps.size:=by rw [←hF.size];exact hlt
       simp [Array.getD,hlt,h2]
     ·rw [if_neg (fun e=>hdt e.1)]
      refine hF.at_ t (fun j p hj hp hLj=>?_)
      by_cases hji:j=i
      ·subst hji;rw [ho] at hp;obtain rfl:=Option.some.inj hp;rw [hod];simpa using hdt
      ·exact ht j p hj hp (by unfold upd;rw [if_neg hji];exact hLj)
   ·have:i'≠i:=fun e=>hinl (by rw [←e];exact List.mem_of_getElem? hj)
    unfold upd
    rw [if_neg this]
    exact hlk j i' hj
  ·obtain ⟨j,hj⟩:=List.getElem?_of_mem hil2
   have hjk:j=k:=by
    have h1:¬ j<k:=fun h=>by rw [(hlk j i hj).2 h] at hL;cases hL
    rcases Nat.lt_or_ge k j with h | h
    ·exfalso
     obtain ⟨j',rfl⟩:∃ j',j=j'+1:=⟨j - 1,by omega⟩
     have hlt:j'<ls.length:=by have:=(List.getElem?_eq_some_iff.1 hj).1;omega
     have hj':ls[j']?=some ls[j']:=by simp [hlt]
     obtain ⟨e,hea,hei,heb⟩:=M.ch j' i _ hj hj' o ho
     have h2:=he e hea heb
     rw [hei] at h2
     have:=(hlk j' _ hj').1 h2
     omega
    ·omega
   subst hjk
   have hjl:j<ls.length:=(List.getElem?_eq_some_iff.1 hj).1
   have hji:ls[j]=i:=by simpa [hjl] using hj
   have h0:=hlo ⟨w1,Below.refl _ _⟩
   rw [List.drop_eq_getElem_cons hjl,hji,List.filterMap_cons_some ho] at h0
   unfold zBm wpList at h0
   rw [if_pos (by unfold Region.wanted;rw [hgn o hmem])] at h0
   have hLo:¬ LetsOut (zNB fun (a':Act) (w':World)=>∀ x:Sub w',(0<m - j→D x.val)∧zBm P ops.toArray D (Q .normal) (m - j - 1) ((ls.drop (j+1)).filterMap (ops[·]?)) a' x.val):=by
    rintro ⟨_,_,h,_⟩;cases h
   rcases h0 with h0 | h0
   ·unfold Oper.wp at h0 ⊢
    rw [execOp_congr (ρ:=ac.eval) (ρ':=b.eval) o (fun cs b=>Region.noSelect_spec hsel i o cs b ho0) hev]
    have key:∀ (b' ac':Act) v w2,b'.tmps=b.tmps→ac'.tmps=ac.tmps→ac'.defers=b'.defers→wpList P ops.toArray (zNB fun (a':Act) (w':World)=>∀ x:Sub w',(0<m - j→D x.val)∧zBm P ops.toArray D (Q .normal) (m - j - 1) ((ls.drop (j+1)).filterMap (ops[·]?)) a' x.val) [] (b'.put o.dst v) w2 →
      ∃ k b,FM ops qs (upd L i) b (ac'.put o.dst v)∧b.tmps.size=af.tmps.size∧(∀ t,(∀ (i:Nat) (o:Oper),i∈ls→ops[i]?=some o→o.dst≠some t)→b.tmps.getD t undef=af.tmps.getD t undef) ∧
       k≤ls.length∧(∀ j i_1:Nat,ls[j]?=some i_1→(upd L i i_1=true↔j<k))∧(k≤m→D w2)∧(∀ (i':Nat) (o':Oper),ops[i']?=some o'→upd L i i'=true→∀ e∈o'.after,Region.binds .any e=true→upd L i e.on=true)∧∀ x:Sub w2,zBm P ops.toArray D (Q .normal) (m - k) ((ls.drop k).filterMap (ops[·]?)) b x.val:=by
     intro b' ac' v w2 e1 e2 e3 h2
     unfold wpList at h2
     obtain ⟨_,h2⟩:=h2
     refine ⟨j+1,b'.put o.dst v,⟨by rw [zBS,zBS,e1,e2];exact hF.size,by rw [zBf,zBf];exact e3,fun t ht=>?_⟩,by rw [zBS,e1];exact hbs,fun t ht=>?_,hjl,fun j' i' hj'=>?_,fun h=>(h2 ⟨w2,Below.refl _ _⟩).1 (by omega),hcl2,fun x=>by rw [show m - (j+1)=m - j - 1 by omega];exact (h2 x).2⟩
     ·have hat:=hF.at_ t (fun j' p hj' hp hLj=>ht j' p hj' hp (by
       unfold upd
       rw [if_neg (fun e=>hinq (by rw [←e];exact hj'))];exact hLj))
      cases hod:o.dst with
      | none=>show ac'.tmps.getD t undef=b'.tmps.getD t undef;rw [e1,e2];exact hat
      | some d =>
       rw [zCo,zCo,e1,e2,hF.size,hat]
     ·rw [←hba t ht]
      cases hod:o.dst with
      | none=>show b'.tmps.getD t undef=_;rw [e1]
      | some d =>
       rw [zCo,if_neg (fun e=>ht i o hil2 ho (by rw [hod,e.1])),e1]
     ·by_cases hjj:j'=j
      ·subst hjj
       rw [hj] at hj'
       obtain rfl:=Option.some.inj hj'
       simp [upd]
      ·have hne:i'≠i:=by
        intro e
        subst e
        rcases Nat.lt_or_gt_of_ne hjj with h | h
        ·have:=M.li j' j i' i' hj' hj h;omega
        ·have:=M.li j j' i' i' hj hj' h;omega
       unfold upd
       rw [if_neg hne,hlk j' i' hj']
       omega
    exact zIu (fun ch a w h=>by cases h.1) hLo (fun v w2 h2=>key b ac v w2 rfl rfl hF.defs h2)
     (fun d w2 h2=>key { b with defers:=d :: b.defers } { ac with defers:=d :: ac.defers } undef w2 rfl rfl (by show d :: ac.defers=d :: b.defers;rw [hF.defs]) h2) _ h0
   ·exact absurd h0.2 hLo
 ·rintro L ac w1 ⟨k,b,hF,hbs,hba,hk,hlk,hDw,hcl,hlo⟩ hall
  have hL:∀ j,j<ops.length→L j=true:=fun j hj=>hall j (by simpa using hj)
  have hkl:k=ls.length:=by
   rcases Nat.lt_or_ge k ls.length with h | h
   ·exfalso
    have hj:ls[k]?=some ls[k]:=by simp [h]
    have:=(hlk k _ hj).1 (hL _ (M.l _ (List.mem_of_getElem? hj)))
    omega
   ·omega
  subst hkl
  have e:ac=b:=zGQ hF.size hF.defs (fun t=>hF.at_ t (fun i o hi ho hLi=>by
   rw [hL i (M.q i hi)] at hLi;cases hLi))
  subst e
  have:=hlo ⟨w1,Below.refl _ _⟩
  rw [List.drop_length] at this
  exact this
def zNp (qs ls:List Nat) (ops:List Oper):Bool :=
 ((List.range ops.length).all fun i=>qs.contains i != ls.contains i) && (qs.all fun i=>decide (i<ops.length)) && (ls.all fun i=>decide (i<ops.length)) && zOp qs &&
 (ls.all fun l=>match ops[l]? with
  | none=>true
  | some o=>o.dst.isNone)
structure PutsS (qs ls:List Nat) (ops:List Oper):Prop where
 one:∀ i,i<ops.length→(i∈qs∧i ∉ ls)∨(i ∉ qs∧i∈ls)
 q:∀ i∈qs,i<ops.length
 l:∀ i∈ls,i<ops.length
 qi:∀ i j x y:Nat,qs[i]?=some x→qs[j]?=some y→i<j→x<y
 no:∀ i∈ls,∀ o,ops[i]?=some o→o.dst=none
theorem zKg {qs ls:List Nat} {ops:List Oper} (h:zNp qs ls ops=true):PutsS qs ls ops:=by
 unfold zNp at h
 simp only [Bool.and_eq_true] at h
 obtain ⟨⟨⟨⟨h1,h2⟩,h3⟩,h4⟩,h5⟩:=h
 refine ⟨fun i hi=>?_,fun i hi=>of_decide_eq_true (List.all_eq_true.1 h2 i hi),fun i hi=>of_decide_eq_true (List.all_eq_true.1 h3 i hi),fun i j x y a b c=>zEY h4 a b c,fun i hi o ho=>?_⟩
 ·have:=List.all_eq_true.1 h1 i (List.mem_range.2 hi)
  by_cases a:i∈qs <;> by_cases b:i∈ls <;> simp_all
 ·have:=List.all_eq_true.1 h5 i hi
  simpa [ho] using this
theorem zAg {P:Program} {id:Nat} {Q:Exit→Act→World→Prop} {a:Act} {w:World} {ops:List Oper} (qs ls:List Nat) (I:(Nat→Bool)→World→Prop)
  (hm:P.follows .mixedOrders=true) (hgd:ops.all (fun o=>o.guard.isNone)=true) (hb:zFp ops.toArray=true) (hssa:zPH ops=true) (hdst:zPL ops=true)
  (hsel:Region.noSelect ops.toArray=true) (hmix:zNp qs ls ops=true) (hD:∀ L w1 (x:Sub w1),I L w1→I L x.val) (hc:∀ L L' w1,(∀ i∈ls,L' i=L i)→I L w1→I L' w1) (hD0:I (fun _=>false) w) (hall:∃ af:Act,
  ( ∀ l L w1,l=zCZ ops qs→I L w1→wpQuiet P ops.toArray (fun w'=>∃ x:Sub w1,w'=x.val) (fun a'=>a'=af) l a) ∧
  (∀ i o,i∈ls→ops[i]?=some o→∀ L w1,I L w1→L i=false→wpList P ops.toArray (fun e a' w'=>e=.normal∧a'.defers=af.defers∧I (upd L i) w') [o] af w1) ∧
  (∀ L w1,I L w1→(∀ i∈ls,L i=true)→Q .normal af w1)):(Code.region id ops.toArray true).wp P Q a w:=by
 obtain ⟨af,hq,hl,hend⟩:=hall
 simp only [zFz] at hq
 have hgn:∀ o∈ops,o.guard=none:=fun o ho=>by simpa using List.all_eq_true.1 hgd o ho
 have M:=zKg hmix
 have hfm:∀ l:List Nat,∀ o∈l.filterMap (ops[·]?),o∈ops:=fun l o ho=>by
  obtain ⟨i,_,hi⟩:=List.mem_filterMap.1 ho
  exact List.mem_of_getElem? hi
 have hk0:=zCM (qs.filterMap (ops[·]?)) a (fun o ho=>hgn o (hfm _ o ho)) (hq _ _ w rfl hD0)
 refine zBQ hm (fun L ac w1=>FM ops qs L af ac∧I L w1) hb ?_ ?_ ?_
 ·have hx0:Below w.heap.size w { w with drawn:=w.drawn+1 }:=(Below.refl _ _).drew
  refine ⟨⟨hk0.1,hk0.2.1,fun t ht=>hk0.2.2 t (fun o ho=>?_)⟩,hD _ w ⟨_,hx0⟩ hD0⟩
  obtain ⟨i,hi,hi2⟩:=List.mem_filterMap.1 ho
  exact ht i o hi hi2 rfl
 ·rintro L ac w1 i o ⟨hF,hI⟩ ho0 hL he
  have ho:ops[i]?=some o:=by simpa using ho0
  have hil:i<ops.length:=(List.getElem?_eq_some_iff.1 ho).1
  have hmem:=List.mem_of_getElem? ho
  have hev:∀ x∈o.op.operands,ac.eval x=af.eval x:=by
   intro x hx
   cases x with
   | tmp t =>
    refine hF.at_ t (fun j p hj hp hLj hpd=>?_)
    obtain ⟨_,e,hea,hei,heb⟩:=zEV hssa ho hp hx hpd
    have:=he e hea heb
    rw [hei,hLj] at this;cases this
   | _=>rfl
  refine zAO ho0 (hgn o hmem) ?_
  rcases M.one i hil with ⟨hiq,hinl⟩ | ⟨hinq,hil2⟩
  ·have hqget:=zLS ops qs M.q
   obtain ⟨j,hj⟩:=List.getElem?_of_mem hiq
   obtain ⟨u,hu1,hu2⟩:=zEw (P:=P) (ops:=ops.toArray) (C:=fun w'=>∃ x:Sub w1,w'=x.val) (af:=af) ⟨w1,⟨w1,Below.refl _ _⟩,rfl⟩ (qs.filterMap (ops[·]?)) a (fun o ho=>hgn o (hfm _ o ho))
    (fun o ho cs b=>by
     obtain ⟨j,hj⟩:=List.getElem?_of_mem (hfm _ o ho)
     exact Region.noSelect_spec hsel j o cs b (by simpa using hj)) (hq _ _ w1 rfl hI)
    (by
     intro i j o p hi hj t ht hp
     rw [hqget] at hi hj
     obtain ⟨x,hx,hx2⟩:=Option.bind_eq_some_iff.1 hi
     obtain ⟨y,hy,hy2⟩:=Option.bind_eq_some_iff.1 hj
     have h3:=(zEV hssa hy2 hx2 ht hp).1
     rcases Nat.lt_trichotomy i j with h | h | h
     ·exact h
     ·subst h;rw [hx] at hy;obtain rfl:=Option.some.inj hy;omega
     ·have:=M.qi j i y x hy hx h;omega)
    (by
     intro i j o p hij hi hj d hp
     rw [hqget] at hi hj
     obtain ⟨x,hx,hx2⟩:=Option.bind_eq_some_iff.1 hi
     obtain ⟨y,hy,hy2⟩:=Option.bind_eq_some_iff.1 hj
     refine zGL hdst (fun e=>?_) hx2 hy2 hp
     subst e
     rcases Nat.lt_or_gt_of_ne hij with h | h
     ·have:=M.qi i j x x hx hy h;omega
     ·have:=M.qi j i x x hy hx h;omega) j o (by rw [hqget,hj];exact ho)
   have hqt:o.quiet P ac (fun w'=>∃ x:Sub w1,w'=x.val) (fun a'=>a'=ac.put o.dst u):=by
    refine ⟨u,fun w2 hw2=>?_,rfl⟩
    have:=hu1 w2 hw2
    unfold Oper.quietAt at this ⊢
    rwa [execOp_congr (ρ:=ac.eval) (ρ':=af.eval) o (fun cs b=>Region.noSelect_spec hsel i o cs b ho0) hev]
   refine Oper.wp_of_quiet (C:=fun w'=>∃ x:Sub w1,w'=x.val) ⟨⟨w1,Below.refl _ _⟩,rfl⟩ (fun a' w2 hw2 ha'=>?_) hqt
   obtain ⟨x,rfl⟩:=hw2
   subst ha'
   refine ⟨⟨by rw [zBS];exact hF.size,by rw [zBf];exact hF.defs,fun t ht=>?_⟩,hc L _ _ (fun k hk=>?_) (hD L w1 x hI)⟩
   ·cases hod:o.dst with
    | none =>
     refine hF.at_ t (fun j p hj hp hLj=>?_)
     by_cases hji:j=i
     ·subst hji;rw [ho] at hp;obtain rfl:=Option.some.inj hp;rw [hod];simp
     ·exact ht j p hj hp (by unfold upd;rw [if_neg hji];exact hLj)
    | some d =>
     rw [zCo]
     by_cases hdt:d=t
     ·subst hdt
      by_cases hlt:d<ac.tmps.size
      ·rw [if_pos ⟨rfl,hlt⟩,hu2 d hod (by rw [←hF.size];exact hlt)]
      ·rw [if_neg (fun e=>hlt e.2)]
       have h2:¬ d<af.tmps.size:=by rw [←hF.size];exact hlt
       simp [Array.getD,hlt,h2]
     ·rw [if_neg (fun e=>hdt e.1)]
      refine hF.at_ t (fun j p hj hp hLj=>?_)
      by_cases hji:j=i
      ·subst hji;rw [ho] at hp;obtain rfl:=Option.some.inj hp;rw [hod];simpa using hdt
      ·exact ht j p hj hp (by unfold upd;rw [if_neg hji];exact hLj)
   ·unfold upd
    rw [if_neg (fun e=>hinl (by rw [←e];exact hk))]
  ·have h0:=hl i o hil2 ho L w1 hI hL
   unfold wpList at h0
   rw [if_pos (by unfold Region.wanted;rw [hgn o hmem])] at h0
   have hLo:¬ LetsOut (fun (e:Exit) (a':Act) (w':World)=>e=.normal∧a'.defers=af.defers∧I (upd L i) w'):=by
    rintro ⟨_,_,h,_⟩;cases h
   rcases h0 with h0 | h0
   ·unfold Oper.wp at h0 ⊢
    rw [execOp_congr (ρ:=ac.eval) (ρ':=af.eval) o (fun cs b=>Region.noSelect_spec hsel i o cs b ho0) hev]
    have hno:=M.no i hil2 o ho
    have key:∀ (ac':Act) v w2,ac'.tmps=ac.tmps→(I (upd L i) w2)→ac'.defers=ac.defers→FM ops qs (upd L i) af (ac'.put o.dst v)∧I (upd L i) w2:=by
     intro ac' v w2 e1 h2 e3
     rw [hno]
     refine ⟨⟨by show ac'.tmps.size=_;rw [e1];exact hF.size,by show ac'.defers=_;rw [e3];exact hF.defs,fun t ht=>?_⟩,h2⟩
     show ac'.tmps.getD t undef=_
     rw [e1]
     exact hF.at_ t (fun j' p hj' hp hLj=>ht j' p hj' hp (by
      unfold upd
      rw [if_neg (fun e=>hinq (by rw [←e];exact hj'))];exact hLj))
    generalize (execOp af.eval o).run P w1=r at h0 ⊢
    match r,h0 with
    | .ok (.value v) w',h=>exact key ac v w' rfl (by unfold Oper.upon wpList at h;exact h.2.2) rfl
    | .ok .skip w',h=>exact key ac undef w' rfl (by unfold Oper.upon wpList at h;exact h.2.2) rfl
    | .ok (.enter f args) w',h =>
     unfold Oper.upon at h ⊢
     refine Calls.mono h fun e w'' he=>?_
     cases e with
     | returned v=>exact key ac v w'' rfl (by unfold wpList at he;exact he.2.2) rfl
     | panicked ch=>exact absurd he.1 (by simp)
     | outgrown=>exact absurd he hLo
    | .ok (.row row args) w',h =>
     unfold Oper.upon at h ⊢
     exact Rows.mono h fun v w'' hv=>key ac v w'' rfl (by unfold wpList at hv;exact hv.2.2) rfl
    | .ok (.defer d) w',h =>
     exfalso
     unfold Oper.upon wpList at h
     have h3:=h.2.1
     rw [zBf] at h3
     have:=congrArg List.length h3
     simp at this
    | .halt (.panic v) w',h=>exact absurd h.1 (by simp)
   ·exact absurd h0.2 hLo
 ·rintro L ac w1 ⟨hF,hI⟩ hall
  have hL:∀ j,j<ops.length→L j=true:=fun j hj=>hall j (by simpa using hj)
  have e:ac=af:=zGQ hF.size hF.defs (fun t=>hF.at_ t (fun i o hi ho hLi=>by
   rw [hL i (M.q i hi)] at hLi;cases hLi))
  subst e
  exact hend L w1 hI (fun i hi=>hL i (M.l i hi))
end Go.Proofs.YtnbleebilmghcabGreat
namespace Go.Proofs.YtnbleebilmghcabGreat
open Go Go.RowKit
def zHG (ops:List Oper) (i:Nat):Tmp:=((ops[i]?).bind (·.dst)).getD 0
theorem zX {ops:Array Oper} {o:Oper} {ac:Act} {j d:Nat} {b:Bool} (hg:o.guard=some (j,b)) (hd:(ops[j]?).bind (·.dst)=some d) (hv:ac.tmps.getD d undef=.bool b):Region.wanted o (yielded ops ac.tmps)=true:=by
 have h:ac.tmps[d]?=some (.bool b):=by
  rw [Array.getD_eq_getD_getElem?] at hv
  cases hc:ac.tmps[d]? with
  | none=>rw [hc] at hv;cases hv
  | some x=>rw [hc] at hv;rw [show x=Value.bool b from hv]
 unfold Region.wanted
 simp [hg,yielded,hd,h]
theorem zj {ops:Array Oper} {o:Oper} {ac:Act} {j d:Nat} {b:Bool} (hg:o.guard=some (j,b)) (hd:(ops[j]?).bind (·.dst)=some d) (hv:ac.tmps.getD d undef=.bool !b):Region.wanted o (yielded ops ac.tmps)=false:=by
 have h:ac.tmps[d]?=some (.bool !b):=by
  rw [Array.getD_eq_getD_getElem?] at hv
  cases hc:ac.tmps[d]? with
  | none=>rw [hc] at hv;cases hv
  | some x=>rw [hc] at hv;rw [show x=Value.bool !b from hv]
 unfold Region.wanted
 cases b <;> simp [hg,yielded,hd,h]
end Go.Proofs.YtnbleebilmghcabGreat
namespace Go.Proofs.YtnbleebilmghcabGreat
open Go Go.RowKit
def zu (ops:List Oper) (v:Nat→Value) (a:Act):Nat→Act
 | 0=>a
 | m+1=>(zu ops v a m).put ((ops[m]?).bind (·.dst)) (v m)
theorem zCY (ops:List Oper) (v:Nat→Value) (a:Act):∀ m,(zu ops v a m).tmps.size=a.tmps.size
 | 0=>rfl
 | m+1=>by show ((zu ops v a m).put _ _).tmps.size=_;rw [zBS,zCY ops v a m]
theorem zDZ (ops:List Oper) (v:Nat→Value) (a:Act):∀ m,(zu ops v a m).defers=a.defers
 | 0=>rfl
 | m+1=>by show ((zu ops v a m).put _ _).defers=_;rw [zBf,zDZ ops v a m]
theorem zBe (a:Act) (d:Option Tmp) (t:Tmp) (v:Value):(a.put d v).tmps.getD t undef=if d=some t∧t<a.tmps.size then v else a.tmps.getD t undef:=by
 cases d with
 | none=>simp [Act.put]
 | some d =>
  rw [zCo]
  by_cases e:d=t
  ·subst e;simp
  ·simp [e]
theorem zEH (ops:List Oper) (v:Nat→Value) (a:Act) (t:Tmp):∀ m,(∀ k,k<m→(ops[k]?).bind (·.dst)≠some t)→(zu ops v a m).tmps.getD t undef=a.tmps.getD t undef
 | 0,_=>rfl
 | m+1,h=>by
  show ((zu ops v a m).put _ _).tmps.getD t undef=_
  rw [zBe,if_neg (fun e=>h m (by omega) e.1)]
  exact zEH ops v a t m (fun k hk=>h k (by omega))
theorem zEx (ops:List Oper) (v:Nat→Value) (a:Act) (k:Nat) (t:Tmp) (hkt:(ops[k]?).bind (·.dst)=some t) (hlt:t<a.tmps.size):∀ m,k<m→(∀ j,j<m→j≠k→(ops[j]?).bind (·.dst)≠some t)→(zu ops v a m).tmps.getD t undef=v k
 | m+1,hk,h=>by
  show ((zu ops v a m).put _ _).tmps.getD t undef=_
  by_cases e:k=m
  ·subst e;rw [zBe,if_pos ⟨hkt,by rw [zCY];exact hlt⟩]
  ·rw [zBe,if_neg (fun e'=>h m (by omega) (Ne.symm e) e'.1)]
   exact zEx ops v a k t hkt hlt m (by omega) (fun j hj hne=>h j (by omega) hne)
def zKI (ops:List Oper) (sz:Nat):Bool:=(List.range ops.length).all fun j=>match (ops[j]?).bind (·.dst) with
 | none=>true
 | some t=>decide (t<sz) && (List.range ops.length).all fun i=>i == j || (ops[i]?).bind (·.dst) != some t
theorem zDE {ops:List Oper} {sz:Nat} (h:zKI ops sz=true) {j:Nat} {t:Tmp} (hj:(ops[j]?).bind (·.dst)=some t):t<sz∧∀ i,i≠j→(ops[i]?).bind (·.dst)≠some t:=by
 have hlt:j<ops.length:=by
  rcases Nat.lt_or_ge j ops.length with h | h
  ·exact h
  ·rw [List.getElem?_eq_none h] at hj;cases hj
 have h1:=List.all_eq_true.1 h j (List.mem_range.2 hlt)
 simp only [hj,Bool.and_eq_true,decide_eq_true_eq] at h1
 refine ⟨h1.1,fun i hij e=>?_⟩
 have hi:i<ops.length:=by
  rcases Nat.lt_or_ge i ops.length with h | h
  ·exact h
  ·rw [List.getElem?_eq_none h] at e;cases e
 have:=List.all_eq_true.1 h1.2 i (List.mem_range.2 hi)
 simp [hij,e] at this
def zES (o:Oper) (j:Nat):Bool:=o.after.any fun e=>e.on == j && Region.binds .any e
theorem zl {P:Program} {id:Nat} {Q:Exit→Act→World→Prop} {a:Act} {w:World} {ops:List Oper} (V:Nat→Value→Prop) (D:(Nat→Bool)→World→Prop)
  (hm:P.follows .mixedOrders=true) (hb:zFp ops.toArray=true) (hv:zKI ops a.tmps.size=true) (hD0:D (fun _=>false) w.drew)
  (hstep:∀ i o,ops[i]?=some o→∀ L ac w1,D L w1→L i=false→(∀ j,zES o j=true→L j=true)→(∀ k o',ops[k]?=some o'→L k=true→∀ j,zES o' j=true→L j=true)→(∀ t,(∀ o∈ops,o.dst≠some t)→ac.tmps.getD t undef=a.tmps.getD t undef) →
   (∀ j t,(ops[j]?).bind (·.dst)=some t→zES o j=true→V j (ac.tmps.getD t undef)) →
   (Region.wanted o (yielded ops.toArray ac.tmps)=true∧o.wp P ac w1 (fun ac' w'=>∃ v,ac'=ac.put o.dst v∧V i v∧D (upd L i) w') Q)∨(Region.wanted o (yielded ops.toArray ac.tmps)=false∧V i undef∧D (upd L i) w1))
  (hend:∀ (v:Nat→Value) L w1,D L w1→(∀ i,i<ops.length→L i=true)→(∀ i t,(ops[i]?).bind (·.dst)=some t→V i (v i))→Q .normal (zu ops v a ops.length) w1):(Code.region id ops.toArray true).wp P Q a w:=by
 refine zBQ hm (fun L ac w1=>ac.tmps.size=a.tmps.size∧ac.defers=a.defers∧(∀ t,(∀ o∈ops,o.dst≠some t)→ac.tmps.getD t undef=a.tmps.getD t undef)∧(∀ i t,(ops[i]?).bind (·.dst)=some t→L i=true→V i (ac.tmps.getD t undef))∧(∀ k o',ops[k]?=some o'→L k=true→∀ j,zES o' j=true→L j=true)∧D L w1) hb ?_ ?_ ?_
 ·exact ⟨rfl,rfl,fun _ _=>rfl,fun _ _ _ h=>(by cases h),fun _ _ _ h=>(by cases h),hD0⟩
 ·rintro L ac w1 i o ⟨h1,h2,h3,h4,hcl,h5⟩ ho hL he
  have ho':ops[i]?=some o:=by simpa using ho
  have hi:i<ops.length:=(List.getElem?_eq_some_iff.1 ho').1
  have hod:(ops[i]?).bind (·.dst)=o.dst:=by rw [ho'];rfl
  have hed:∀ j,zES o j=true→L j=true:=fun j hj=>by
   obtain ⟨k,hk,hp⟩:=Array.any_eq_true.1 hj
   rw [Bool.and_eq_true,beq_iff_eq] at hp
   rw [←hp.1]
   exact he _ (Array.getElem_mem hk) hp.2
  have fin:∀ w' v,V i v→D (upd L i) w'→(ac.put o.dst v).tmps.size=a.tmps.size∧(ac.put o.dst v).defers=a.defers∧(∀ t,(∀ o∈ops,o.dst≠some t)→(ac.put o.dst v).tmps.getD t undef=a.tmps.getD t undef)∧(∀ j t,(ops[j]?).bind (·.dst)=some t→upd L i j=true→V j ((ac.put o.dst v).tmps.getD t undef))∧(∀ k o',ops[k]?=some o'→upd L i k=true→∀ j,zES o' j=true→upd L i j=true)∧D (upd L i) w':=fun w' v hVv hDw=>by
   refine ⟨by rw [zBS];exact h1,by rw [zBf];exact h2,fun t ht=>?_,fun j t hj hLj=>?_,fun k o' hk hLk j hj=>?_,hDw⟩
   rotate_left 2
   ·have hup:∀ j,L j=true→upd L i j=true:=fun j h=>by unfold upd;split <;> simp [h]
    by_cases e:k=i
    ·subst e
     rw [ho'] at hk
     obtain rfl:=Option.some.inj hk
     exact hup j (hed j hj)
    ·refine hup j (hcl k o' hk ?_ j hj)
     unfold upd at hLk
     rwa [if_neg e] at hLk
   ·rw [zBe,if_neg (fun e=>ht o (List.mem_of_getElem? ho') e.1)]
    exact h3 t ht
   ·obtain ⟨hlt,huni⟩:=zDE hv hj
    by_cases e:j=i
    ·subst e
     rw [hod] at hj
     rw [zBe,if_pos ⟨hj,by rw [h1];exact hlt⟩]
     exact hVv
    ·rw [zBe,if_neg (fun e'=>huni i (Ne.symm e) (by rw [hod];exact e'.1))]
     refine h4 j t hj ?_
     unfold upd at hLj
     rwa [if_neg e] at hLj
  unfold wpOp
  simp only [ho]
  rcases hstep i o ho' L ac w1 h5 hL hed hcl h3 (fun j t hj hje=>h4 j t hj (hed j hje)) with ⟨hw,hop⟩ | ⟨hw,hvu,hdu⟩
  ·rw [if_pos hw]
   refine .inl (Oper.wp_mono ?_ hop)
   rintro ac' w' ⟨v,rfl,hVv,hDw⟩
   exact fin w' v hVv hDw
  ·rw [if_neg (by rw [hw];decide)]
   exact fin w1 undef hvu hdu
 ·rintro L ac w1 ⟨h1,h2,h3,h4,_,h5⟩ hall
  have hall':∀ j,j<ops.length→L j=true:=fun j hj=>hall j (by simpa using hj)
  have hlt:∀ i t,(ops[i]?).bind (·.dst)=some t→i<ops.length:=fun i t hi=>by
   rcases Nat.lt_or_ge i ops.length with h | h
   ·exact h
   ·rw [List.getElem?_eq_none h] at hi;cases hi
  have e:ac=zu ops (fun i=>ac.tmps.getD (zHG ops i) undef) a ops.length:=by
   refine zGQ (by rw [zCY];exact h1) (by rw [zDZ];exact h2) fun t=>?_
   by_cases ht:∃ k:Nat,(ops[k]?).bind (·.dst)=some t
   ·obtain ⟨k,hk⟩:=ht
    obtain ⟨hlt',huni⟩:=zDE hv hk
    rw [zEx ops _ a k t hk hlt' ops.length (hlt k t hk) (fun j _ hne=>huni j hne)]
    simp [zHG,hk]
   ·rw [zEH ops _ a t ops.length (fun k _ e=>ht ⟨k,e⟩)]
    refine h3 t fun o ho hd=>?_
    obtain ⟨k,hk,hko⟩:=List.getElem_of_mem ho
    exact ht ⟨k,by rw [List.getElem?_eq_getElem hk,hko];exact hd⟩
  have:=hend (fun i=>ac.tmps.getD (zHG ops i) undef) L w1 h5 hall' (fun i t hi=>by
   have:=h4 i t hi (hall' i (hlt i t hi))
   simpa [zHG,hi] using this)
  rw [←e] at this
  exact this
theorem zE {P:Program} {o:Oper} {ac:Act} {w1:World} {V:Value→Prop} {D:World→Prop} {Q:Exit→Act→World→Prop} (v:Value) (hr:(execOp ac.eval o).run P w1=.ok (.value v) w1) (hV:V v) (hD:D w1) :
  o.wp P ac w1 (fun ac' w'=>∃ v,ac'=ac.put o.dst v∧V v∧D w') Q:=by
 unfold Oper.wp
 rw [hr]
 exact ⟨v,rfl,hV,hD⟩
theorem zAh {P:Program} {o:Oper} {ac:Act} {w1:World} {V:Value→Prop} {D:World→Prop} {Q:Exit→Act→World→Prop} (f:FuncId) (args:Array Value) (hr:(execOp ac.eval o).run P w1=.ok (.enter f args) w1)
  (hc:Calls P f args w1 fun e w'=>∃ v,e=.returned v∧V v∧D w'):o.wp P ac w1 (fun ac' w'=>∃ v,ac'=ac.put o.dst v∧V v∧D w') Q:=by
 unfold Oper.wp
 rw [hr]
 refine Calls.mono hc fun e w' h=>?_
 obtain ⟨v,rfl,hv,hd⟩:=h
 exact ⟨v,rfl,hv,hd⟩
end Go.Proofs.YtnbleebilmghcabGreat
