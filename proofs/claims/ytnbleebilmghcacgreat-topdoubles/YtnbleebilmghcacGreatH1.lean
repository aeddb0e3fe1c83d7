/- HoG, Ho0, Ho1 -/
import Derived.Test.YtnbleebilmghcacGreatKP
import Derived.Test.YtnbleebilmghcacGreatYBsOwn
set_option linter.all false
namespace Go.Proofs.YtnbleebilmghcacGreat
open Go Go.RowKit
section
variable {α:Type} {f:α→List Value} {k:Nat}
def zAj (f:α→List Value) (l:List α):List Value:=l.flatMap f
theorem flatC_len (hf:∀ x,(f x).length=k):∀ l:List α,(zAj f l).length=l.length*k
 | []=>by simp [zAj]
 | s :: l=>by
  have:=flatC_len hf l
  simp only [zAj,List.flatMap_cons,List.length_append,hf,List.length_cons] at *
  rw [this,Nat.add_mul,Nat.one_mul,Nat.add_comm]
theorem zBY (l:List α) (x:α):zAj f (l++[x])=zAj f l++f x:=by simp [zAj]
theorem flatC_get (hf:∀ x,(f x).length=k):∀ (l:List α) (j i:Nat),i<k→(zAj f l)[j*k+i]?=(l[j]?).bind (fun s=>(f s)[i]?)
 | [],j,i,_=>by simp [zAj]
 | s :: l,0,i,hi=>by
  rw [Nat.zero_mul,Nat.zero_add]
  show (f s++zAj f l)[i]?=_
  rw [List.getElem?_append_left (by rw [hf];exact hi)]
  rfl
 | s :: l,j+1,i,hi=>by
  show (f s++zAj f l)[(j+1)*k+i]?=_
  rw [Nat.add_mul,Nat.one_mul]
  rw [List.getElem?_append_right (by rw [hf];omega),hf,show j*k+k+i - k=j*k+i by omega,flatC_get hf l j i hi]
  simp
def GAt (f:α→List Value) (k:Nat) (w:World) (A:Option Addr) (l:List α):Prop:=∀ j x,l[j]?=some x→∃ b off,A=some ⟨b,off,none⟩∧∀ i u,(f x)[i]?=some u→w.cell? ⟨b,off+j*k+i,none⟩=some u
theorem GAt.below {w w1:World} {A:Option Addr} {l:List α} (h:GAt f k w A l) (hb:Below w.heap.size w w1):GAt f k w1 A l:=fun j x hx=>by
 obtain ⟨b,off,h0,h1⟩:=h j x hx
 exact ⟨b,off,h0,fun i u hu=>zC hb (h1 i u hu)⟩
theorem GAt.copies {w:World} {A:Option Addr} {l:List α} (hf:∀ x,(f x).length=k) (h1:∀ x,∀ u∈f x,u.oneCell'=true) (hk:0<k) (h:GAt f k w A l):Copies w A l.length k (zAj f l):=by
 refine ⟨flatC_len hf l,fun u hu=>?_,?_⟩
 ·obtain ⟨x,_,hx⟩:=List.mem_flatMap.1 hu
  exact h1 x u hx
 ·by_cases h0:l.length=0
  ·exact .inl h0
  ·right
   obtain ⟨b,off,hA,_⟩:=h 0 l[0] (List.getElem?_eq_getElem (by omega))
   refine ⟨⟨b,off,none⟩,hA,fun j u hu=>?_⟩
   have hj:j<(zAj f l).length:=(List.getElem?_eq_some_iff.1 hu).1
   rw [flatC_len hf] at hj
   have hq:j / k<l.length:=(Nat.div_lt_iff_lt_mul hk).2 hj
   have hm:j % k<k:=Nat.mod_lt _ hk
   have e:j=j / k*k+j % k:=(Nat.div_add_mod' j k).symm
   obtain ⟨b',off',hA',hc⟩:=h (j / k) l[j / k] (List.getElem?_eq_getElem hq)
   rw [hA] at hA'
   injection hA' with hA'
   injection hA' with e1 e2
   subst e1
   subst e2
   rw [e,flatC_get hf l _ _ hm,List.getElem?_eq_getElem hq] at hu
   have:=hc (j % k) u hu
   rw [Addr.add_mid,e,←Nat.add_assoc]
   exact this
theorem GAt.own {w:World} {A:Option Addr} {l:List α} {base e c:Nat} (hf:∀ x,(f x).length=k) (h:w.ownsRow base e k (.slice A l.length c) l.length (zAj f l)):GAt f k w A l:=fun j x hx=>by
 have hj:j<l.length:=(List.getElem?_eq_some_iff.1 hx).1
 obtain ⟨g,cap,e1,_,_⟩:=zAP h (by omega)
 injection e1 with e1 e2 e3
 subst e1
 refine ⟨g,0,rfl,fun i u hu=>?_⟩
 have hi:i<k:=by rw [←hf x];exact (List.getElem?_eq_some_iff.1 hu).1
 rw [Nat.zero_add]
 exact ze h (by rw [flatC_get hf l j i hi,hx];exact hu)
end
structure Tw (av:Nat→Prop) (W W':World):Prop where
 os:W'.os=W.os
 tape:W'.tape=W.tape
 output:W'.output=W.output
 size:W.heap.size≤W'.heap.size
 block:∀ k,k<W.heap.size→¬ av k→W'.heap[k]?=W.heap[k]?
section
variable {av av':Nat→Prop} {W W1 W2:World}
theorem Tw.refl (av:Nat→Prop) (W:World):Tw av W W:=⟨rfl,rfl,rfl,Nat.le_refl _,fun _ _ _=>rfl⟩
theorem Tw.of_below (h:Below W.heap.size W W1):Tw av W W1:=⟨h.os,h.tape,h.output,h.size,fun k hk _=>h.block k hk⟩
theorem Tw.of_grown {g:Option Nat} (h:W.grownBy W1 g) (ha:∀ k,g=some k→av k):Tw av W W1:=⟨h.os,h.tape,h.output,h.size,fun k hk hn=>h.block k hk (fun e=>hn (ha k e.symm))⟩
theorem Tw.trans (h:Tw av W W1) (h2:Tw av' W1 W2) (ha:∀ k,k<W.heap.size→av' k→av k):Tw av W W2 :=
 ⟨h2.os.trans h.os,h2.tape.trans h.tape,h2.output.trans h.output,Nat.le_trans h.size h2.size,fun k hk hn=>(h2.block k (Nat.lt_of_lt_of_le hk h.size) (fun e=>hn (ha k hk e))).trans (h.block k hk hn)⟩
theorem Tw.mono (h:Tw av W W1) (ha:∀ k,k<W.heap.size→av k→av' k):Tw av' W W1:=⟨h.os,h.tape,h.output,h.size,fun k hk hn=>h.block k hk (fun e=>hn (ha k hk e))⟩
theorem Tw.below (h:Tw av W W1) {B:Nat} (hB:B≤W.heap.size) (ha:∀ k,k<B→¬ av k):Below B W W1:=⟨h.os,h.tape,h.output,h.size,fun k hk=>h.block k (by omega) (ha k hk)⟩
theorem Tw.sets {b o:Nat} {vs:List Value} (h:Tw av W W1) (hb:av b∨W.heap.size≤b):Tw av W (W1.setCells b o vs):=by
 have h0:=zG (B:=0) b (Nat.zero_le _) vs o W1 (Below.refl 0 W1)
 refine ⟨h0.os.trans h.os,h0.tape.trans h.tape,h0.output.trans h.output,Nat.le_trans h.size h0.size,fun k hk hn=>?_⟩
 rw [zCV b vs o W1 k (fun e=>by
  subst e
  rcases hb with hb | hb
  ·exact hn hb
  ·omega)]
 exact h.block k hk hn
end
def Foot (Q:World→Prop) (av:Nat→Prop) (W:World):Prop:=∃ K:Nat→Prop,(∀ g,K g→g<W.heap.size∧¬ av g)∧∀ W':World,(∀ g,K g→W'.heap[g]?=W.heap[g]?)→Q W'
section
variable {Q R:World→Prop} {av av':Nat→Prop} {W W1:World}
theorem Foot.here (h:Foot Q av W):Q W:=by
 obtain ⟨K,_,h2⟩:=h
 exact h2 W fun _ _=>rfl
theorem Foot.keep (h:Foot Q av W) (ht:Tw av W W1):Foot Q av W1:=by
 obtain ⟨K,h1,h2⟩:=h
 exact ⟨K,fun g hg=>⟨Nat.lt_of_lt_of_le (h1 g hg).1 ht.size,(h1 g hg).2⟩,fun W' hW=>h2 W' fun g hg=>(hW g hg).trans (ht.block g (h1 g hg).1 (h1 g hg).2)⟩
theorem Foot.less (h:Foot Q av W) (ha:∀ g,g<W.heap.size→av' g→av g):Foot Q av' W:=by
 obtain ⟨K,h1,h2⟩:=h
 exact ⟨K,fun g hg=>⟨(h1 g hg).1,fun e=>(h1 g hg).2 (ha g (h1 g hg).1 e)⟩,h2⟩
theorem Foot.and (h:Foot Q av W) (h':Foot R av W):Foot (fun W=>Q W∧R W) av W:=by
 obtain ⟨K,h1,h2⟩:=h
 obtain ⟨K',h1',h2'⟩:=h'
 exact ⟨fun g=>K g∨K' g,fun g hg=>hg.elim (h1 g) (h1' g),fun W' hW=>⟨h2 W' fun g hg=>hW g (.inl hg),h2' W' fun g hg=>hW g (.inr hg)⟩⟩
theorem Foot.imp (h:Foot Q av W) (hi:∀ W,Q W→R W):Foot R av W:=by
 obtain ⟨K,h1,h2⟩:=h
 exact ⟨K,h1,fun W' hW=>hi W' (h2 W' hW)⟩
theorem Foot.triv (h:∀ W,Q W):Foot Q av W:=⟨fun _=>False,fun g hg=>hg.elim,fun W' _=>h W'⟩
theorem Foot.new {base:Nat} (h:∀ W':World,(∀ g,base≤g→g<W.heap.size→W'.heap[g]?=W.heap[g]?)→Q W') (ha:∀ g,base≤g→g<W.heap.size→¬ av g):Foot Q av W :=
 ⟨fun g=>base≤g∧g<W.heap.size,fun g hg=>⟨hg.2,ha g hg.1 hg.2⟩,fun W' hW=>h W' fun g h1 h2=>hW g ⟨h1,h2⟩⟩
theorem Foot.own {base e size n:Nat} {v:Value} {xs:List Value} (h:W.ownsRow base e size v n xs) (ha:∀ g,v.ownBlock=some g→¬ av g):Foot (fun W=>W.ownsRow base e size v n xs) av W:=by
 refine ⟨fun g=>v.ownBlock=some g,fun g hg=>⟨(h.lt g hg).2,ha g hg⟩,fun W' hW=>?_⟩
 obtain ⟨hl,h⟩:=h
 refine ⟨hl,?_⟩
 rcases h with h | ⟨g,cap,cur,rfl,hb,hg,rest⟩
 ·exact .inl h
 ·exact .inr ⟨g,cap,cur,rfl,hb,(hW g rfl).trans hg,rest⟩
end
theorem own_tw {av:Nat→Prop} {W W1:World} {base e size n:Nat} {v:Value} {xs:List Value} (h:W.ownsRow base e size v n xs) (ht:Tw av W W1) (ha:∀ g,v.ownBlock=some g→¬ av g):W1.ownsRow base e size v n xs:=((Foot.own (av:=av) h ha).keep ht).here
theorem Bxs.tw {av:Nat→Prop} {W W1:World} {B:Nat} {l:List (List Value×TypeId)} (h:Bxs B l W) (ht:Tw av W W1) (ha:∀ k,k<l.length→¬ av (B+k)):Bxs B l W1:=fun k vs t hk=>by
 have hl:k<l.length:=(List.getElem?_eq_some_iff.1 hk).1
 exact (ht.block (B+k) (h.lt hk) (ha k hl)).trans (h k vs t hk)
end Go.Proofs.YtnbleebilmghcacGreat
namespace Go.Proofs.YtnbleebilmghcacGreat
open Go Go.RowKit
structure ModI where
 rd:Int
 wr:Int
 lf:Bool
structure DoI where
 k:Int
 has:Int
 p:Int
 n:Int
 i:Int
 g:Int
 s:SysI
 fa:Int
 fn:Int
structure AnsI where
 e:Int
 i:Int
 g:Int
 bs:List (Int×Int)
 n:Int
def toP (s:SysI):SysI:=⟨s.m,s.al,s.no,none,s.len,0,s.a⟩
def dS:SysI:=⟨0,0,0,none,0,0,fun _=>⟨0,0,0,0⟩⟩
def dM:ModI:=⟨0,0,false⟩
structure HI where
 X:Wd
 S:List SysI
def sOf (l:List SysI):Nat→SysI:=fun j=>l.getD j dS
def refF (mods:List ModI) (n:Nat) (x:SysI):Int :=
 if (sw x).1≠0 then (sw x).1 else if (mods.length:Int)≤x.m then 5 else
  if mayB (mods.getD x.m.toNat dM).rd (mods.getD x.m.toNat dM).wr (mods.getD x.m.toNat dM).lf x.al x.no x.a x.len=false then 8 else if 12≤n then 4 else 0
def tickF (h:HI):(Int×Int)×Wd:=zAE (sOf h.S) h.S.length 0 h.X
def sumTo (X:Wd) (p:Int):List (Int×Int)→Int→Int
 | [],n=>n
 | b :: l,n=>sumTo X p l (IntKind.i64.wrap (n+(zBf X b.1 b.2 p).1))
def bec (h:HI) (e:Int) (Y:Wd):HI:=if e=0 then ⟨Y,h.S⟩ else h
def doF (mods:List ModI) (h:HI) (d:DoI):AnsI×HI :=
 if d.k=1 then (⟨(zX h.X d.has d.n).1,(zX h.X d.has d.n).2.1.1,(zX h.X d.has d.n).2.1.2,[],0⟩,bec h (zX h.X d.has d.n).1 (zX h.X d.has d.n).2.2)
 else if d.k=2 then (⟨(zAX h.X d.i d.g).1,0,0,[],0⟩,bec h (zAX h.X d.i d.g).1 (zAX h.X d.i d.g).2)
 else if d.k=3 then (⟨(zCY h.X d.i d.g d.p d.n).1,0,0,[],0⟩,bec h (zCY h.X d.i d.g d.p d.n).1 (zCY h.X d.i d.g d.p d.n).2)
 else if d.k=4 then (⟨(zAZ h.X d.i d.g d.p).1,0,0,[],0⟩,bec h (zAZ h.X d.i d.g d.p).1 (zAZ h.X d.i d.g d.p).2)
 else if d.k=5 then (if refF mods h.S.length d.s=0 then (⟨0,0,0,[],(h.S.length+1:Nat)⟩,⟨h.X,h.S++[toP d.s]⟩) else (⟨refF mods h.S.length d.s,0,0,[],0⟩,h))
 else if d.k=6 then (⟨(tickF h).1.1,0,0,[],if (tickF h).1.1=0 then ((mkB (clS (sOf h.S)) h.S.length).length:Nat) else 0⟩,bec h (tickF h).1.1 (tickF h).2)
 else if d.k=7 then (if (zBG d.fa && zBG d.fn && zAY d.p)=true then (⟨0,0,0,zBa h.X d.fa d.fn h.X.rows.length,sumTo h.X d.p (zBa h.X d.fa d.fn h.X.rows.length) 0⟩,h) else (⟨3,0,0,[],0⟩,h))
 else (⟨1,0,0,[],0⟩,h)
def zp (mods:List ModI):List DoI→List AnsI×HI→List AnsI×HI
 | [],r=>r
 | d :: l,r=>zp mods l (r.1++[(doF mods r.2 d).1],(doF mods r.2 d).2)
def h0:HI:=⟨emptyW,[]⟩
def zAH (mods:List ModI) (l:List DoI):List AnsI×HI:=zp mods l ([],h0)
theorem zBx (mods:List ModI):∀ (l:List DoI) (d:DoI) (r:List AnsI×HI),zp mods (l++[d]) r=((zp mods l r).1++[(doF mods (zp mods l r).2 d).1],(doF mods (zp mods l r).2 d).2)
 | [],d,r=>rfl
 | x :: l,d,r=>zBx mods l d _
def wmTo (m:List ModI):Nat→Nat→Int×Int
 | 0,_=>(0,0)
 | n+1,j=>if (zBG (m.getD j dM).rd && zBG (m.getD j dM).wr)=true then wmTo m n (j+1) else (3,(j:Int))
def wmF (m:List ModI):Int×Int:=if 6<m.length then (4,0) else wmTo m m.length 0
theorem wm_step (m:List ModI) (n j:Nat) (h:j<n):wmTo m (n - j) j=if (zBG (m.getD j dM).rd && zBG (m.getD j dM).wr)=true then wmTo m (n - (j+1)) (j+1) else (3,(j:Int)):=by
 rw [show n - j=(n - (j+1))+1 by omega,wmTo]
structure HOk (mods:List ModI) (h:HI):Prop where
 wld:RightW h.X
 few:h.S.length≤12
 sys:∀ s∈h.S,refF mods 0 s=0
 pure:∀ s∈h.S,toP s=s
theorem refF_zero {mods:List ModI} {n:Nat} {x:SysI} (h:refF mods n x=0):(sw x).1=0∧x.m<(mods.length:Int)∧mayB (mods.getD x.m.toNat dM).rd (mods.getD x.m.toNat dM).wr (mods.getD x.m.toNat dM).lf x.al x.no x.a x.len=true∧n<12:=by
 unfold refF at h
 by_cases h1:(sw x).1=0
 ·rw [if_neg (by simpa using h1)] at h
  by_cases h2:(mods.length:Int)≤x.m
  ·rw [if_pos h2] at h;omega
  ·rw [if_neg h2] at h
   cases h3:mayB (mods.getD x.m.toNat dM).rd (mods.getD x.m.toNat dM).wr (mods.getD x.m.toNat dM).lf x.al x.no x.a x.len
   ·rw [h3,if_pos rfl] at h;omega
   ·rw [h3,if_neg (by simp)] at h
    by_cases h4:12≤n
    ·rw [if_pos h4] at h;omega
    ·exact ⟨h1,by omega,rfl,by omega⟩
 ·rw [if_pos h1] at h;exact absurd h h1
theorem refF_any {mods:List ModI} {n m:Nat} {x:SysI} (h:refF mods n x=0) (hm:m<12):refF mods m x=0:=by
 obtain ⟨h1,h2,h3,_⟩:=refF_zero h
 unfold refF
 rw [if_neg (by simpa using h1),if_neg (by omega),h3,if_neg (by simp),if_neg (by omega)]
theorem HOk.right {mods:List ModI} {h:HI} (H:HOk mods h):∀ j,j<h.S.length→(sw (sOf h.S j)).1=0:=fun j hj=>by
 have e:sOf h.S j=h.S[j]:=by unfold sOf;rw [List.getD_eq_getElem?_getD,List.getElem?_eq_getElem hj];rfl
 rw [e]
 exact (refF_zero (H.sys _ (List.getElem_mem hj))).1
theorem allTo_right {S:Nat→SysI}:∀ n j X,RightW X→(zAE S n j X).1.1=0→RightW (zAE S n j X).2
 | 0,j,X,hr,_=>hr
 | n+1,j,X,hr,h=>by
  rw [zAE] at h ⊢
  by_cases e:(runS X (S j)).1=0
  ·rw [if_neg (by simpa using e)] at h ⊢
   exact allTo_right n (j+1) _ (run_right (m:=(S j).m) (al:=(S j).al) (no:=(S j).no) (a:=(S j).a) (len:=(S j).len) hr e) h
  ·rw [if_pos e] at h;exact absurd h e
theorem bec_ok {mods:List ModI} {h:HI} (H:HOk mods h) {e:Int} {Y:Wd} (hY:e=0→RightW Y):HOk mods (bec h e Y):=by
 unfold bec
 split
 ·rename_i he
  exact ⟨hY he,H.few,H.sys,H.pure⟩
 ·exact H
theorem h0_ok (mods:List ModI):HOk mods h0:=⟨right_empty,by simp [h0],fun s hs=>by simp [h0] at hs,fun s hs=>by simp [h0] at hs⟩
theorem do_ok {mods:List ModI} {h:HI} (H:HOk mods h) (d:DoI):HOk mods (doF mods h d).2:=by
 unfold doF
 split
 ·exact bec_ok H fun e=>(zBv e 0 0).1
 split
 ·exact bec_ok H fun e=>(kill_keeps e).1
 split
 ·exact bec_ok H fun e=>(put_keeps e).1
 split
 ·exact bec_ok H fun e=>(drop_keeps e).1
 split
 ·split
  ·rename_i he
   refine ⟨H.wld,by have:=(refF_zero he).2.2.2;simp;omega,fun s hs=>?_,fun s hs=>?_⟩
   ·rcases List.mem_append.1 hs with hs | hs
    ·exact H.sys s hs
    ·rw [List.mem_singleton] at hs;subst hs
     exact refF_any (n:=h.S.length) he (by omega)
   ·rcases List.mem_append.1 hs with hs | hs
    ·exact H.pure s hs
    ·rw [List.mem_singleton] at hs;subst hs;rfl
  ·exact H
 split
 ·exact bec_ok H fun e=>allTo_right _ _ _ H.wld e
 split
 ·split <;> exact H
 ·exact H
theorem play_ok {mods:List ModI}:∀ (l:List DoI) (r:List AnsI×HI),HOk mods r.2→HOk mods (zp mods l r).2
 | [],r,H=>H
 | d :: l,r,H=>play_ok l _ (do_ok H d)
end Go.Proofs.YtnbleebilmghcacGreat
set_option maxHeartbeats 2000000
set_option maxRecDepth 8000
namespace Go.Proofs.YtnbleebilmghcacGreat
open Go Go.RowKit
attribute [local go_sem ↓] Go.wp_at_zero Go.wp_at_succ
def hansV (a:AnsI) (A:Option Addr) (c:Nat):Value:=.agg #[.int .i64 a.e,.int .i64 a.i,.int .i64 a.g,.slice A a.bs.length c,.int .i64 a.n]
theorem sz64:(Tryz.prog.info? 64).map (·.size)=some 5:=by kernel_rfl
theorem sz25:(Tryz.prog.info? 28).map (·.size)=some 2:=by kernel_rfl
theorem sz61:(Tryz.prog.info? 39).map (·.size)=some 2:=by kernel_rfl
theorem Bxs.part {B:Nat} {l:List (List Value×TypeId)} {W:World} (h:Bxs B l W) (k:Nat) {us:List Value} {t:TypeId} (hk:l[k]?=some (us,t)) (o:Nat) (vs:List Value) (hn:o+vs.length≤us.length):Bxs B (l.set k (us.take o++vs++us.drop (o+vs.length),t)) (W.setCells (B+k) o vs):=fun j ws t' hj=>by
 by_cases e:k=j
 ·subst e
  rw [List.getElem?_set_self (List.getElem?_eq_some_iff.1 hk).1,Option.some.injEq,Prod.mk.injEq] at hj
  obtain ⟨rfl,rfl⟩:=hj
  exact zCM (B+k) t vs o us W (h k us t hk) hn
 ·rw [List.getElem?_set_ne e] at hj
  rw [zCV (B+k) vs o W (B+j) (by omega)]
  exact h j ws t' hj
theorem StNew.tw {base:Nat} {W W1:World} {T G:Option Addr} {tabs:List TabI} {X:Wd} {av:Nat→Prop} (h:StNew base W T G tabs X) (ht:Tw av W W1) (ha:∀ g,av g→g<base):StNew base W1 T G tabs X:=fun W' hW=>h W' fun g h1 h2=>(hW g h1 (Nat.lt_of_lt_of_le h2 ht.size)).trans (ht.block g h2 (fun e=>by have:=ha g e;omega))
theorem zBS {W:World} {b n:Nat} (h:W.there b 0 n) (o m:Nat) (hm:o+m≤n):W.there b o m:=fun j hj=>by
 have:=h (o+j) (by omega)
 rwa [Nat.zero_add] at this
theorem become_no (p:Nat) (T:Option Addr) (tl tc:Nat) (G:Option Addr) (gl gc:Nat) (err:Int) (u0 u1 u2 u3 u4:Value) (w:World) (hB:Bxs p [([u0,u1,u2,u3,u4],82)] w) (he:err≠0) :
  Calls Tryz.prog 39 #[.pointer (some ⟨p,0,none⟩),stV T tl tc G gl gc,.int .i64 err] w fun e w'=>e=.returned (hansV ⟨err,0,0,[],0⟩ none 0)∧Below w.heap.size w w':=by
 obtain ⟨W0,hW0,hbx,hX0⟩:=zw w [([.slice T tl tc,.slice G gl gc],28),([.int .i64 0,.int .i64 0,.int .i64 0,.slice none 0 0,.int .i64 0],64)]
 have HW0:Hid ((w.alloc (.cells #[.slice T tl tc,.slice G gl gc] 28)).alloc (.cells #[.int .i64 0,.int .i64 0,.int .i64 0,.slice none 0 0,.int .i64 0] 64)=W0):=zB hW0
 clear hW0
 have hp:p<w.heap.size:=hB.lt (k:=0) rfl
 have HP0:=zB (hB.below hbx)
 have HT0:=zB (Tw.of_below (av:=fun b=>b=p) hbx)
 have HB0:=zB hX0
 have q0:=hX0.cell 0 rfl 0 rfl
 have q1:=hX0.cell 0 rfl 1 rfl
 rw [Nat.add_zero] at q0 q1
 have hne:(err == 0)=false:=by simpa using he
 have HL0:=zB hbx
 clear hbx hX0 hB
 unfold stV hansV
 go_enter Tryz.func39,Tryz.ntmps39
 go_upto_region 1 with fail
 rw [zA HW0]
 go_wp2_with (first
  | (refine zH rfl 64 (.tmp 6) (.tmp 10) rfl (w.heap.size+1) 0 [.int .i64 err,.int .i64 0,.int .i64 0,.slice none 0 0,.int .i64 0] rfl rfl (by simp [Value.oneCell']) sz64 ((zA HB0).there 1 rfl 5 rfl) ?_;intro W1 hW1;have HR:=zB ((zA HB0).give 1 rfl [.int .i64 err,.int .i64 0,.int .i64 0,.slice none 0 0,.int .i64 0] rfl);have HE:=zB (zG (B:=w.heap.size) (w.heap.size+1) (by omega) [.int .i64 err,.int .i64 0,.int .i64 0,.slice none 0 0,.int .i64 0] 0 W0 (zA HL0));rw [←hW1] at HR HE;clear hW1))
 have r0:=(zA HR).cell 1 rfl 0 rfl
 have r1:=(zA HR).cell 1 rfl 1 rfl
 have r2:=(zA HR).cell 1 rfl 2 rfl
 have r3:=(zA HR).cell 1 rfl 3 rfl
 have r4:=(zA HR).cell 1 rfl 4 rfl
 refine bodyPost_ret (v:=.agg #[.int .i64 err,.int .i64 0,.int .i64 0,.slice none 0 0,.int .i64 0]) (by simp [results,Tryz.results39,go_sem,r0,r1,r2,r3,r4]) rfl ⟨rfl,zA HE⟩
theorem become_ok (p:Nat) (T:Option Addr) (tl tc:Nat) (G:Option Addr) (gl gc:Nat) (err:Int) (u0 u1 u2 u3 u4:Value) (w:World) (hB:Bxs p [([u0,u1,u2,u3,u4],82)] w) (he:err=0) :
  Calls Tryz.prog 39 #[.pointer (some ⟨p,0,none⟩),stV T tl tc G gl gc,.int .i64 err] w fun e w'=>e=.returned (hansV ⟨err,0,0,[],0⟩ none 0)∧Bxs p [([.slice T tl tc,.slice G gl gc,u2,u3,u4],82)] w'∧Tw (fun b=>b=p) w w':=by
 obtain ⟨W0,hW0,hbx,hX0⟩:=zw w [([.slice T tl tc,.slice G gl gc],28),([.int .i64 0,.int .i64 0,.int .i64 0,.slice none 0 0,.int .i64 0],64)]
 have HW0:Hid ((w.alloc (.cells #[.slice T tl tc,.slice G gl gc] 28)).alloc (.cells #[.int .i64 0,.int .i64 0,.int .i64 0,.slice none 0 0,.int .i64 0] 64)=W0):=zB hW0
 clear hW0
 have hp:p<w.heap.size:=hB.lt (k:=0) rfl
 have HP0:=zB (hB.below hbx)
 have HT0:=zB (Tw.of_below (av:=fun b=>b=p) hbx)
 have HB0:=zB hX0
 have q0:=hX0.cell 0 rfl 0 rfl
 have q1:=hX0.cell 0 rfl 1 rfl
 rw [Nat.add_zero] at q0 q1
 subst he
 clear hbx hX0 hB
 unfold stV hansV
 go_enter Tryz.func39,Tryz.ntmps39
 go_upto_region 1 with fail
 rw [zA HW0]
 go_wp2_with (first
  | (refine zH rfl 28 (.tmp 15) (.tmp 12) rfl p 0 [.slice T tl tc,.slice G gl gc] rfl rfl (by simp [Value.oneCell']) sz25 (zBS ((zA HP0).there 0 rfl 5 rfl) 0 2 (by omega)) ?_;intro W1 hW1;have HP1:=zB ((zA HP0).part 0 rfl 0 [.slice T tl tc,.slice G gl gc] (by simp));have HT1:=zB ((zA HT0).sets (b:=p) (o:=0) (vs:=[.slice T tl tc,.slice G gl gc]) (.inl rfl));have HB1:=zB ((zA HB0).turn (cb:=p) (o:=0) (vs:=[.slice T tl tc,.slice G gl gc]) (.inl hp));rw [Nat.add_zero,←hW1] at HP1;rw [←hW1] at HT1 HB1;clear hW1)
  | (refine zH rfl 64 (.tmp 6) (.tmp 16) rfl (w.heap.size+1) 0 [.int .i64 0,.int .i64 0,.int .i64 0,.slice none 0 0,.int .i64 0] rfl rfl (by simp [Value.oneCell']) sz64 ((zA HB1).there 1 rfl 5 rfl) ?_;intro W2 hW2;have HR:=zB ((zA HB1).give 1 rfl [.int .i64 0,.int .i64 0,.int .i64 0,.slice none 0 0,.int .i64 0] rfl);have HT2:=zB ((zA HT1).sets (b:=w.heap.size+1) (o:=0) (vs:=[.int .i64 0,.int .i64 0,.int .i64 0,.slice none 0 0,.int .i64 0]) (.inr (by omega)));have HP2:=zB ((zA HP1).turn (cb:=w.heap.size+1) (o:=0) (vs:=[.int .i64 0,.int .i64 0,.int .i64 0,.slice none 0 0,.int .i64 0]) (.inr (by simp only [List.length_set,List.length_cons,List.length_nil];omega)));rw [←hW2] at HR HT2 HP2;clear hW2))
 have r0:=(zA HR).cell 1 rfl 0 rfl
 have r1:=(zA HR).cell 1 rfl 1 rfl
 have r2:=(zA HR).cell 1 rfl 2 rfl
 have r3:=(zA HR).cell 1 rfl 3 rfl
 have r4:=(zA HR).cell 1 rfl 4 rfl
 refine bodyPost_ret (v:=.agg #[.int .i64 0,.int .i64 0,.int .i64 0,.slice none 0 0,.int .i64 0]) (by simp [results,Tryz.results39,go_sem,r0,r1,r2,r3,r4]) rfl ⟨rfl,zA HP2,zA HT2⟩
end Go.Proofs.YtnbleebilmghcacGreat
