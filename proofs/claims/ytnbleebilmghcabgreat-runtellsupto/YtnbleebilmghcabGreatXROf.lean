/- The document's Of, of a right world. -/
import Derived.Test.YtnbleebilmghcabGreatWO
import Derived.Test.YtnbleebilmghcabGreatWP
set_option linter.all false
set_option maxHeartbeats 8000000
set_option maxRecDepth 8000
namespace Go.Proofs.YtnbleebilmghcabGreat
open Go Go.RowKit
attribute [local go_sem ↓] Go.wp_at_zero Go.wp_at_succ
def bsH (rs:List RowI) (h:Int):List (Int×Int):=(zGT rs h).map fun r=>(r.ix,r.gen)
def lvH (rs:List RowI) (h:Int) (k:Nat):List Int:=if k<zv h then (zGT rs h).map (fun r=>r.v ((zO h 8).getD k 0).toNat) else []
def zHO (rs:List RowI):Nat→List Int
 | 0=>[]
 | n+1=>if zGT rs (n:Int)=[] then zHO rs n else zHO rs n++[(n:Int)]
def dH (rs:List RowI) (n:Nat):TblD:=⟨zHO rs n,bsH rs,lvH rs⟩
theorem zEZ (rs:List RowI):∀ n x,x∈zHO rs n↔∃ k:Nat,k<n∧x=(k:Int)∧zGT rs x≠[]
 | 0,x=>by simp [zHO]
 | n+1,x=>by
  have ih:=zEZ rs n x
  unfold zHO
  split
  ·rename_i e
   rw [ih]
   constructor
   ·rintro ⟨k,h1,h2,h3⟩;exact ⟨k,by omega,h2,h3⟩
   ·rintro ⟨k,h1,h2,h3⟩
    refine ⟨k,?_,h2,h3⟩
    rcases Nat.lt_or_ge k n with h | h
    ·exact h
    ·obtain rfl:k=n:=by omega
     rw [h2] at h3
     exact absurd e h3
  ·rename_i e
   rw [List.mem_append,ih,List.mem_singleton]
   constructor
   ·rintro (⟨k,h1,h2,h3⟩ | h)
    ·exact ⟨k,by omega,h2,h3⟩
    ·exact ⟨n,by omega,h,by rw [h];exact e⟩
   ·rintro ⟨k,h1,h2,h3⟩
    rcases Nat.lt_or_ge k n with h | h
    ·exact .inl ⟨k,h,h2,h3⟩
    ·obtain rfl:k=n:=by omega
     exact .inr h2
theorem zHq (rs:List RowI):∀ n,(zHO rs n).Pairwise (·<·)
 | 0=>List.Pairwise.nil
 | n+1=>by
  unfold zHO
  split
  ·exact zHq rs n
  ·rw [List.pairwise_append]
   refine ⟨zHq rs n,List.pairwise_singleton _ _,fun a ha b hb=>?_⟩
   rw [List.mem_singleton] at hb
   obtain ⟨k,h1,h2,_⟩:=(zEZ rs n a).1 ha
   omega
theorem zId (rs:List RowI):∀ n,(zHO rs n).length≤n
 | 0=>Nat.le_refl _
 | n+1=>by
  have:=zId rs n
  unfold zHO
  split
  ·omega
  ·rw [List.length_append,List.length_singleton];omega
theorem ints_ext:∀ (l1 l2:List Int),l1.Pairwise (·<·)→l2.Pairwise (·<·)→(∀ x,x∈l1↔x∈l2)→l1=l2:=fun l1 l2 h1 h2 h=>by
 have:=zCT (fun r=>r.ix) (l1.map fun x=>⟨x,0,0,fun _=>0⟩) (l2.map fun x=>⟨x,0,0,fun _=>0⟩) (List.pairwise_map.2 h1) (List.pairwise_map.2 h2) (fun x=>by simp only [List.mem_map,h])
 have e:=congrArg (List.map (fun r:RowI=>r.ix)) this
 simp only [List.map_map] at e
 have i:((fun r:RowI=>r.ix) ∘ fun x:Int=>(⟨x,0,0,fun _=>0⟩:RowI))=id:=rfl
 rw [i,List.map_id,List.map_id] at e
 exact e
theorem zLO {X:Wd} (hr:RightW X):zHO X.rows 256=(za X).map (·.has):=by
 have hg:=zBE X
 refine ints_ext _ _ (zHq _ _) (List.pairwise_map.2 hg.up) fun x=>?_
 rw [zEZ,List.mem_map]
 constructor
 ·rintro ⟨k,h1,h2,h3⟩
  obtain ⟨r,hr1⟩:=List.exists_mem_of_ne_nil _ h3
  unfold zGT at hr1
  rw [List.mem_filter] at hr1
  have hm:=hg.perm.mem_iff.2 hr1.1
  rw [List.mem_flatMap] at hm
  obtain ⟨t,ht,hrt⟩:=hm
  rw [hg.each t ht,List.mem_filter] at hrt
  refine ⟨t,ht,?_⟩
  have e1:r.has=x:=by simpa using hr1.2
  have e2:r.has=t.has:=by simpa using hrt.2
  rw [←e1,e2]
 ·rintro ⟨t,ht,rfl⟩
  obtain ⟨r,hr1⟩:=List.exists_mem_of_ne_nil _ (hg.ne t ht)
  have hr2:=hr1
  rw [hg.each t ht,List.mem_filter] at hr2
  have e2:r.has=t.has:=by simpa using hr2.2
  obtain ⟨j,hj,hje⟩:=List.getElem_of_mem hr2.1
  have hs:zAR (zR X j).has=true:=by
   have:=hr.rv j hj
   unfold rvB at this
   rw [Bool.and_eq_true] at this
   exact this.1
  have hs2:(zR X j).has=t.has:=by unfold zR;rw [zAF _ _ hj,hje,e2]
  rw [hs2] at hs
  unfold zAR at hs
  have hs:=of_decide_eq_true hs
  exact ⟨t.has.toNat,by omega,by omega,fun e=>by
   have:=hg.each t ht
   unfold zGT at e
   rw [e] at this
   exact hg.ne t ht this⟩
theorem zLg (rs:List RowI) (r:RowI) (h:Int):bsH (rs++[r]) h=if r.has=h then bsH rs h++[(r.ix,r.gen)] else bsH rs h:=by
 unfold bsH
 rw [zDr]
 by_cases e:r.has=h
 ·rw [if_pos e.symm,if_pos e];simp
 ·rw [if_neg (Ne.symm e),if_neg e]
theorem zOl (rs:List RowI) (r:RowI) (h:Int) (e:r.has≠h):lvH (rs++[r]) h=lvH rs h:=by
 funext k
 unfold lvH
 rw [zDr,if_neg (Ne.symm e)]
def lvK (rs:List RowI) (r:RowI) (h:Int) (k:Nat) (j:Nat):List Int:=if j<k then lvH rs h j++[r.v ((zO h 8).getD j 0).toNat] else lvH rs h j
theorem zMh (rs:List RowI) (r:RowI) (h:Int):lvK rs r h 0=lvH rs h:=by funext j;unfold lvK;rw [if_neg (by omega)]
theorem zMi (rs:List RowI) (r:RowI) (h:Int) (k p:Nat) (hp:(zO h 8).getD k 0=(p:Int)):(fun j=>if j=k then lvK rs r h k k++[r.v p] else lvK rs r h k j)=lvK rs r h (k+1):=by
 funext j
 unfold lvK
 by_cases e:j=k
 ·subst e;rw [if_pos rfl,if_neg (by omega),if_pos (by omega),hp,Int.toNat_natCast]
 ·rw [if_neg e]
  by_cases h:j<k
  ·rw [if_pos h,if_pos (by omega)]
  ·rw [if_neg h,if_neg (by omega)]
theorem zNw (rs:List RowI) (r:RowI) (h:Int) (e:r.has=h):lvK rs r h (zv h)=lvH (rs++[r]) h:=by
 subst e
 funext j
 unfold lvK lvH
 rw [zDr,if_pos rfl]
 by_cases h:j<zv r.has
 ·rw [if_pos h,if_pos h,if_pos h];simp
 ·rw [if_neg h,if_neg h,if_neg h]
theorem zOk (rs:List RowI) (h:Int) (k:Nat):(lvH rs h k).length≤rs.length:=by
 unfold lvH
 split
 ·rw [List.length_map];exact List.length_filter_le _ _
 ·simp
theorem zOG (rs:List RowI) (h:Int):(bsH rs h).length≤rs.length:=by
 unfold bsH
 rw [List.length_map];exact List.length_filter_le _ _
structure CK (N bt gr:Nat) (h:Int) (A C:Option Addr×Nat) (K:Nat→Value) (B:List (Int×Int)) (L:Nat→List Int) (r:RowI) (vh:Value) (l:List Int) (W:World):Prop extends CU N bt h A C K B L W where
 rb:Bxs gr [(zH r,116)] W
 held:W.ownsRow N 3 1 vh l.length (zJ l)
 sepH:∀ k,Apt vh (K k)
section
variable {N bt gr:Nat} {h:Int} {A C:Option Addr×Nat} {K:Nat→Value} {B:List (Int×Int)} {L:Nat→List Int} {r:RowI} {vh:Value} {l:List Int} {W W1 W2:World}
theorem CK.below (c:CK N bt gr h A C K B L r vh l W) (hb:Below W.heap.size W W1):CK N bt gr h A C K B L r vh l W1:=⟨c.toCU.below hb,c.rb.below hb,zc c.held hb,c.sepH⟩
theorem CK.col (c:CK N bt gr h A C K B L r vh l W) {k:Nat} (hk:k<zv h) {gc cc:Nat} (hC:Value.slice C.1 (zv h) C.2=.slice (some ⟨gc,0,none⟩) (zv h) cc) {g cap:Nat} (z:Int)
  (hg:W.grownBy W2 (K k).ownBlock) (ho:W2.ownsRow N 3 1 (.slice (some ⟨g,0,none⟩) ((L k).length+1) cap) ((L k).length+1) (zJ (L k)++[.int .i64 z])) (hm:some g=(K k).ownBlock∨g=W.heap.size) :
  CK N bt gr h A C (fun j=>if j=k then .slice (some ⟨g,0,none⟩) ((L k).length+1) cap else K j) B (fun j=>if j=k then L k++[z] else L j) r vh l (W2.setCell ⟨gc,k,none⟩ (.slice (some ⟨g,0,none⟩) ((L k).length+1) cap)):=by
 have hCb:(Value.slice C.1 (zv h) C.2).ownBlock=some gc:=by rw [hC];rfl
 have oC2:=c.ownC.kept hg (zb c.ownC (c.ownK k) (by decide))
 have rb2:=zAy c.rb hg (zAm (c.ownK k) c.rb (by decide))
 refine ⟨c.toCU.col hk hC z hg ho hm,zBk rb2 (fun e=>zAm oC2 rb2 (by decide) (by rw [hCb,e])),?_,fun j=>?_⟩
 ·refine (c.held.kept hg (c.sepH k)).kept (zAZ W2 gc k _) ?_
  have:=zb (c.held.kept hg (c.sepH k)) oC2 (by decide)
  rw [hCb] at this
  exact this
 ·show Apt vh (if j=k then _ else _)
  by_cases e:j=k
  ·rw [if_pos e]
   subst e
   refine (c.sepH j).moved c.held ?_
   rcases hm with hm | hm
   ·exact .inl hm
   ·exact .inr (by rw [hm];rfl)
  ·rw [if_neg e]
   exact c.sepH j
end
theorem zNG {base bx:Nat} {T:Option Addr×Nat} {G:Value} {m:TblM} {l:List TabI} {rs:List RowI} {W:World} (h:FO base bx T G m (dOf l rs) W) (hg:Grp l rs):TabsAt W T.1 l:=fun j hj=>by
 have hl:(dOf l rs).hs.length=l.length:=by simp [dOf]
 have hT:=h.ownT
 rw [hl] at hT
 obtain ⟨g,cap,e,_,_⟩:=zAP hT (by omega)
 obtain ⟨T1,T2⟩:=T
 simp only [Value.slice.injEq,true_and] at e
 obtain ⟨rfl,rfl⟩:=e
 have hx:(dOf l rs).hs[j]'(by rw [hl];exact hj)=l[j].has:=by simp [dOf]
 have hrows:l[j].rows=zGT rs l[j].has:=hg.each _ (List.getElem_mem hj)
 have hB:(dOf l rs).B l[j].has=bsV l[j]:=by unfold bsV;rw [hrows];rfl
 have hL:∀ k,k<zv l[j].has→(dOf l rs).L l[j].has k=zGV l[j] k:=fun k hk=>by
  unfold zGV
  rw [hrows]
  show (if k<zv l[j].has then _ else _)=_
  rw [if_pos hk]
 obtain ⟨c0,c1,c2⟩:=cellsT_at ((dOf l rs).hs.map (tt m (dOf l rs))) j (by simpa [hl] using hj)
 simp only [List.getElem_map,hx] at c0 c1 c2
 have hmem:l[j].has∈(dOf l rs).hs:=by rw [←hx];exact List.getElem_mem _
 generalize l[j]=t at *
 have oA:=h.ownA t.has hmem
 have hAl:((dOf l rs).B t.has).length=t.rows.length:=by rw [hB,zCf]
 refine ⟨g,0,rfl,(m.A t.has).1,(m.A t.has).2,(m.C t.has).1,(m.C t.has).2,?_,?_,?_,?_,fun k hk=>?_⟩
 ·rw [Nat.zero_add];exact zh hT c0
 ·rw [Nat.zero_add,←hAl];exact zh hT c1
 ·rw [Nat.zero_add];exact zh hT c2
 ·rw [hB] at oA
  obtain ⟨A',cap',e',hbs⟩:=zIl oA
  unfold aV at e'
  rw [Value.slice.injEq] at e'
  rw [e'.1]
  exact hbs
 ·obtain ⟨gc,cc,e',_,_⟩:=zAP (h.ownC t.has hmem) (show 0<zv t.has by unfold zv;omega)
  have oC:=h.ownC t.has hmem
  have eC:(m.C t.has).1=some ⟨gc,0,none⟩:=by
   unfold cV at e'
   simp only [Value.slice.injEq,true_and] at e'
   exact e'.1
  rw [e'] at oC
  have oK:=h.ownK t.has hmem k hk
  rw [hL k hk] at oK
  obtain ⟨A',cap',e2,hI⟩:=zBt oK
  refine ⟨gc,0,eC,A',cap',?_,hI⟩
  rw [Nat.zero_add,←zBU t k,←e2]
  refine zh oC ?_
  have:k<zv t.has:=hk
  simp [this]
theorem zOd {W:World} {gr:Nat} {r:RowI} (h:Bxs gr [(zH r,116)] W) {p:Nat} (hp:p<8):W.cell? ⟨gr,3+p,none⟩=some (.int .i64 (r.v p)):=by
 have h0:=h 0 _ _ rfl
 rw [Nat.add_zero] at h0
 have:=(zDY h0).v p hp
 rw [Nat.zero_add] at this
 exact this
theorem zNZ (W:World) (h:Int) (a:Option Addr) (n x:Nat) (c:Option Addr) (m y:Nat):∀ j u,[Value.int .i64 h,.slice a n x,.slice c m y][j]?=some u→(W.alloc (.cells #[.int .i64 h,.slice a n x,.slice c m y] 75)).cell? ((⟨W.heap.size,0,none⟩:Addr).add j)=some u:=fun j u hj=>by
 have h:=Bxs.start W [([Value.int .i64 h,.slice a n x,.slice c m y],75)]
 have:=h.cell 0 rfl j hj
 rw [Nat.add_zero] at this
 rw [Addr.add_mid,Nat.zero_add]
 exact this
theorem zHx {W W2:World} {B base n:Nat} {u0 u1 xs:List Value} {v:Value} (h:Bxs B [(u0,43),(u1,25)] W) (ho:W.ownsRow base 75 3 v n xs) (hg:W.grownBy W2 v.ownBlock):Bxs B [(u0,43),(u1,25)] W2:=fun k vs t hk=>by
 have hlt:=h.lt hk
 have h0:=h k vs t hk
 refine (hg.block (B+k) hlt (fun e=>?_)).trans h0
 match k,hk with
 | 0,hk=>exact zAI ho ⟨_,h0⟩ (by simp at hk;rw [←hk.2];decide) e.symm
 | 1,hk=>exact zAI ho ⟨_,h0⟩ (by simp at hk;rw [←hk.2];decide) e.symm
 | k+2,hk=>simp at hk
def zNA (base:Nat) (W:World) (T G:Option Addr) (tabs:List TabI) (X:Wd):Prop:=∀ W':World,(∀ g,base≤g→g<W.heap.size→W'.heap[g]?=W.heap[g]?)→IntsL W' G X.gens→StAt W' T G tabs X
theorem FO.agree {base bx:Nat} {T:Option Addr×Nat} {G:Value} {m:TblM} {d:TblD} {W W':World} (f:FO base bx T G m d W) (ha:∀ g,base≤g→g<W.heap.size→W'.heap[g]?=W.heap[g]?):FO base bx T G m d W' :=
 ⟨fun k vs t hk=>(ha (bx+k) (by have:=f.lo;omega) (f.box.lt hk)).trans (f.box k vs t hk),f.lo,zBI f.ownT ha,fun h hh=>zBI (f.ownA h hh) ha,fun h hh=>zBI (f.ownC h hh) ha,fun h hh k hk=>zBI (f.ownK h hh k hk) ha⟩
theorem FO.res {base bx:Nat} {T:Option Addr×Nat} {G:Value} {m:TblM} {d:TblD} {W:World} (f:FO base bx T G m d W) {b:Nat} {cs:Array Value} (hb:W.heap[b]?=some (.cells cs 25 (0,0))) (hne:b≠bx) (o:Nat) (vs:List Value):FO base bx T G m d (W.setCells b o vs):=by
 have hg:=zCc b vs o W
 have keep:∀ {e:TypeId} {size n:Nat} {v:Value} {xs:List Value},25≠e→W.ownsRow base e size v n xs→(W.setCells b o vs).ownsRow base e size v n xs:=fun he ho=>ho.kept hg (.inr (zAI ho ⟨cs,hb⟩ he))
 exact ⟨f.box.turn (by simp only [List.length_cons,List.length_nil];omega),f.lo,keep (by decide) f.ownT,fun h hh=>keep (by decide) (f.ownA h hh),fun h hh=>keep (by decide) (f.ownC h hh),fun h hh k hk=>keep (by decide) (f.ownK h hh k hk)⟩
theorem zKo (a:Int) (b c:Option Addr) (n m x y:Nat):∀ u∈[Value.int .i64 a,.slice b n x,.slice c m y],u.oneCell'=true:=by simp [Value.oneCell']
theorem zNn (A:Option Addr) (cap:Nat) (G:Option Addr) (gcap:Nat) (X:Wd) (w:World) (hX:WldAt w A cap G gcap X) (hr:RightW X) :
  Calls Tryz.prog 32 #[zi A cap G gcap X] w fun e w'=>∃ T tc,e=.returned (stV T (za X).length tc G X.gens.length gcap)∧zNA w.heap.size w' T G (za X) X∧Below w.heap.size w w':=by
 obtain ⟨hl,hgl,_⟩:=zk ((zf X).2 hr)
 obtain ⟨i40,hi40,hz40,hs40,hb40⟩:=info_parts info40
 obtain ⟨i3,hi3,hz3,hs3,hb3⟩:=info_parts info3
 obtain ⟨i26,hi26,hz26,hs26,hb26⟩:=info_parts info26
 obtain ⟨i92,hi92,hz92,hs92,hb92⟩:=info_parts info92
 have H40:=zB (And.intro hi40 (And.intro hz40 (And.intro hs40 hb40)))
 have H3:=zB (And.intro hi3 (And.intro hz3 (And.intro hs3 hb3)))
 have H26:=zB (And.intro hi26 (And.intro hz26 (And.intro hs26 hb26)))
 have H92:=zB (And.intro hi92 (And.intro hz92 (And.intro hs92 hb92)))
 clear hi40 hz40 hs40 hb40 hi3 hz3 hs3 hb3 hi26 hz26 hs26 hb26 hi92 hz92 hs92 hb92
 obtain ⟨W1,hW1,hbx,hX1⟩:=zET w [([.slice A X.rows.length cap,.slice G X.gens.length gcap],43),([.slice none 0 0,.slice none 0 0],25),([.slice none 0 0,.slice G X.gens.length gcap],25)]
 have HW1:Hid (((w.alloc (.cells #[.slice A X.rows.length cap,.slice G X.gens.length gcap] 43)).alloc (.cells #[.slice none 0 0,.slice none 0 0] 25)).alloc (.cells #[.slice none 0 0,.slice G X.gens.length gcap] 25)=W1):=zB hW1
 clear hW1
 have HF1:Hid (FO w.heap.size (w.heap.size+2) (none,0) (.slice G X.gens.length gcap) ⟨fun _=>(none,0),fun _=>(none,0),fun _ _=>.slice none 0 0⟩ (dH X.rows 0) W1):=zB ⟨(fun k vs t hk=>by
  match k,hk with
  | 0,hk=>exact hX1 2 vs t hk
  | k+1,hk=>simp at hk),by omega,World.ownsRow_nil _ _ _ _,fun h hh=>(by simp [dH,zHO] at hh),fun h hh=>(by simp [dH,zHO] at hh),fun h hh=>(by simp [dH,zHO] at hh)⟩
 have HB1:Hid (Bxs w.heap.size [([.slice A X.rows.length cap,.slice G X.gens.length gcap],43),([.slice none 0 0,.slice none 0 0],25)] W1):=zB fun k vs t hk=>by
  match k,hk with
  | 0,hk=>exact hX1 0 vs t (by simpa using hk)
  | 1,hk=>exact hX1 1 vs t (by simpa using hk)
  | k+2,hk=>simp at hk
 have HL1:=zB hbx
 have HX:=zB hX
 have HR:=zB hr
 clear hbx hX1 hX hr
 unfold zi zM stV
 go_enter Tryz.func32,Tryz.ntmps32
 go_upto_region 2 with fail
 rw [zA HW1]
 go_wp2_with fail
 go_loopw [4] (fun x wr=>∃ (n:Nat) (T:Option Addr×Nat) (m:TblM),n≤256∧x=.int .i64 (n:Int)∧FO w.heap.size (w.heap.size+2) T (.slice G X.gens.length gcap) m (dH X.rows n) wr∧Bxs w.heap.size [([.slice A X.rows.length cap,.slice G X.gens.length gcap],43),([.slice none 0 0,.slice none 0 0],25)] wr∧Below w.heap.size w wr) (fun x _=>256 - (intOf x).toNat)
 case atStart=>exact ⟨0,_,_,Nat.zero_le _,rfl,zA HF1,zA HB1,zA HL1⟩
 case round =>
  clear HF1 HB1 HL1 HW1
  obtain ⟨n,T,m,hn,rfl,hF,hB,hbw⟩:=hrel
  by_cases hlt:n<256
  ·have n0:(0:Int)≤(n:Int):=by omega
   have n1:(n:Int)≤255:=by omega
   have n2:(n:Int)<256:=by omega
   have ml:zv (n:Int)≤8:=zBs (n:Int) 8
   obtain ⟨wo,rfl⟩:∃ wo,wo=wr:=⟨_,rfl⟩
   have HLI:=zB (fun W=>zEu (n:Int) W n0 n1)
   have HF:=zB hF
   have HB:=zB hB
   have HBW:=zB hbw
   have HSZ:=zB hF.sz
   clear hF hB hbw
   go_upto_region 6 with (first
    | (go_at_call 65;refine (zA HLI _).mono ?_;rintro e w2 ⟨vh,rfl,hh,hb2⟩;obtain ⟨Ah,ch,rfl⟩:=zAV hh;have HB2:=zB hb2;clear hb2 hh)
    | (at_make;refine wpList_make_full w2 rfl _ _ 46 rfl wo.heap.size 23 i26 _ 1 Tryz.underlying46 (zA H26).1 (zA H26).2.1 (zA H26).2.2.1 .i64 .i64 _ _ (zv (n:Int)) rfl rfl rfl rfl (by rw [(zA H26).2.2.2];omega) (by unfold maxLen;omega) (zA HB2).size ?_;intro w3 ho3 hg3;have HO3:=zB ho3;have HG3:=zB hg3;clear ho3 hg3))
   obtain ⟨gC,hgC⟩:∃ gC,gC=w2.heap.size:=⟨_,rfl⟩
   obtain ⟨bt,hbt⟩:∃ bt,bt=w3.heap.size:=⟨_,rfl⟩
   rw [←hgC,←hbt]
   have hb3:Below w2.heap.size w2 w3:=zZ (zA HG3) (fun k e=>by cases e) (Nat.le_refl _)
   have hOC:w3.ownsRow wo.heap.size 23 1 (.slice (some ⟨gC,0,none⟩) (zv (n:Int)) (zv (n:Int))) (zv (n:Int)) ((List.range (zv (n:Int))).map (fun _=>.slice none 0 0)):=by
    have:=zA HO3
    rw [Nat.mul_one,show (Value.slice none 0 0).cells=#[.slice none 0 0] from rfl,toList_madeCells_one,←hgC] at this
    rw [show (List.range (zv (n:Int))).map (fun _=>Value.slice none 0 0)=List.replicate (zv (n:Int)) (.slice none 0 0) by rw [List.map_const'];simp]
    exact this
   obtain ⟨W4,hW4⟩:∃ W4,W4=w3.alloc (.cells #[.int .i64 (n:Int),.slice none 0 0,.slice (some ⟨gC,0,none⟩) (zv (n:Int)) (zv (n:Int))] 75):=⟨_,rfl⟩
   have hb4:Below w3.heap.size w3 W4:=by rw [hW4];exact zAS _ _
   have hX4:Bxs bt [([.int .i64 (n:Int),.slice none 0 0,.slice (some ⟨gC,0,none⟩) (zv (n:Int)) (zv (n:Int))],75)] W4:=by rw [hW4,hbt];exact Bxs.start w3 [(_,75)]
   have hb03:Below wo.heap.size wo w3:=(zA HB2).trans (hb3.mono (zA HB2).size)
   have hC4:CU wo.heap.size bt (n:Int) (none,0) (some ⟨gC,0,none⟩,zv (n:Int)) (fun _=>.slice none 0 0) (bsH (X.rows.take 0) (n:Int)) (lvH (X.rows.take 0) (n:Int)) W4:=by
    have e2:∀ k,lvH (X.rows.take 0) (n:Int) k=[]:=fun k=>by unfold lvH;split <;> rfl
    exact ⟨hX4,by rw [hbt];exact hb03.size,World.ownsRow_nil _ _ _ _,zc hOC hb4,fun k=>by rw [e2];exact World.ownsRow_nil _ _ _ _,fun _ _ _=>Apt.nil _⟩
   have hgw:w3.alloc (.cells #[.int .i64 (n:Int),.slice none 0 0,.slice (some ⟨gC,0,none⟩) (zv (n:Int)) (zv (n:Int))] 75)=W4:=hW4.symm
   have hb04:Below wo.heap.size wo W4:=hb03.trans (hb4.mono hb03.size)
   rw [hgw]
   have r0:=((zA HB).below hb04).cell 0 rfl 0 rfl
   rw [Nat.add_zero] at r0
   have HC4:=zB hC4
   have HB4:=zB hb04
   clear hb3 hOC hb4 hX4 hb03 hC4 hgw hb04 hW4 hgC hbt HO3 HG3 HB2
   go_wp2_with fail
   clear r0
   go_loopw [26] (fun x wr=>∃ (i:Nat) (Aa C:Option Addr×Nat) (K:Nat→Value),i≤X.rows.length∧x=.int .i64 (i:Int)∧CU wo.heap.size bt (n:Int) Aa C K (bsH (X.rows.take i) (n:Int)) (lvH (X.rows.take i) (n:Int)) wr∧Below wo.heap.size wo wr) (fun x _=>X.rows.length - (intOf x).toNat)
   case atStart=>exact ⟨0,_,_,_,Nat.zero_le _,rfl,zA HC4,zA HB4⟩
   case round =>
    clear HC4 HB4
    obtain ⟨i,Aa,C,K,hi,rfl,hC,hbr⟩:=hrel
    by_cases hli:i<X.rows.length
    ·have i0:(0:Int)≤(i:Int):=by omega
     have i1:(i:Int)<(X.rows.length:Int):=by omega
     obtain ⟨wk,rfl⟩:∃ wk,wk=wr:=⟨_,rfl⟩
     have hLr:Below w.heap.size w wk:=(zA HBW).trans (hbr.mono (zA HSZ))
     obtain ⟨rb,ro,hAe,hrow⟩:=((zA HX).below hLr).rows i hli
     have hrow:RowAt wk rb (ro+i*11) (zR X i):=hrow
     have htk:X.rows.take (i+1)=X.rows.take i++[zR X i]:=by
      rw [List.take_succ_eq_append_getElem hli]
      unfold zR
      rw [zAF _ _ hli]
     have hbl:=zOG (X.rows.take i) (n:Int)
     have hll:=zOk (X.rows.take i) (n:Int)
     rw [List.length_take] at hbl
     simp only [List.length_take] at hll
     generalize zR X i=r at *
     obtain ⟨c0,c1,c2,c3,c4,c5,c6,c7,c8,c9,c10⟩:=zg hrow
     obtain ⟨W5,hW5,hbx,hX5⟩:=zET wk [([.int .i64 r.ix,.int .i64 r.gen,.int .i64 r.has,.int .i64 (r.v 0),.int .i64 (r.v 1),.int .i64 (r.v 2),.int .i64 (r.v 3),.int .i64 (r.v 4),.int .i64 (r.v 5),.int .i64 (r.v 6),.int .i64 (r.v 7)],116)]
     have HW5:Hid (wk.alloc (.cells #[.int .i64 r.ix,.int .i64 r.gen,.int .i64 r.has,.int .i64 (r.v 0),.int .i64 (r.v 1),.int .i64 (r.v 2),.int .i64 (r.v 3),.int .i64 (r.v 4),.int .i64 (r.v 5),.int .i64 (r.v 6),.int .i64 (r.v 7)] 116)=W5):=zB hW5
     clear hW5
     have hC5:=hC.below hbx
     have hb5:=hbr.trans (hbx.mono hbr.size)
     have z0:=hX5.cell 0 rfl 0 rfl
     have z1:=hX5.cell 0 rfl 1 rfl
     have z2:=hX5.cell 0 rfl 2 rfl
     rw [Nat.add_zero] at z0 z1 z2
     obtain ⟨gr,hgr⟩:∃ gr,gr=wk.heap.size:=⟨_,rfl⟩
     rw [←hgr] at z0 z1 z2 hX5
     have HNG:Hid (bt≠gr):=zB (by have:=hC.box.lt (k:=0) rfl;omega)
     have HGR:=zB hgr
     have HC5:=zB hC5
     have HB5:=zB hb5
     have HR5:=zB hX5
     have HTK:=zB htk
     have HLL:=zB hll
     subst hAe
     clear hC hbr hLr hrow hbx hX5 hC5 hb5 htk hll hgr
     go_upto_region 9 with fail
     rw [zA HW5,←zA HGR]
     clear c0 c1 c2 c3 c4 c5 c6 c7 c8 c9 c10
     by_cases he:r.has=(n:Int)
     ·rw [he] at z2
      have HE:=zB he
      clear he
      have hC6:=(zA HC5).below (zAS W5 (.cells #[.int .i64 r.ix,.int .i64 r.gen] 61))
      have HC6:=zB hC6
      have HN6:=zB (zGD W5 (.int .i64 r.ix) (.int .i64 r.gen) 61)
      have y1:=(zA HC5).box.cell 0 rfl 1 rfl
      rw [Nat.add_zero] at y1
      clear hC6
      go_upto_region 11 with (first
       | (at_builtin;refine ze _ rfl (.tmp 35) (.tmp 38) 62 rfl wo.heap.size 61 i40 _ 2 16 Tryz.underlying62 (zA H40).1 (zA H40).2.1 (zA H40).2.2.1 (zA H40).2.2.2 rfl (by decide) _ (bsH (X.rows.take i) (n:Int)).length (zn (bsH (X.rows.take i) (n:Int))) rfl (zA HC6).ownA ⟨_,0,none⟩ 1 1 [.int .i64 r.ix,.int .i64 r.gen] rfl rfl (zA HN6) (zGC _ _) (by unfold maxLen;omega) (by omega) (zA HC6).sz (by omega) ?_;intro g8 c8 w6 ho6 hg6 hm6;have hbx6:=zAy (zA HC6).box hg6 (zAm (zA HC6).ownA (zA HC6).box (by decide));have HTB:Hid (w6.there bt 1 1):=zB (zAB (by have:=hbx6.cell 0 rfl 1 rfl;rw [Nat.add_zero] at this;exact this) (fun j=>by have:=hbx6.free 0 rfl j;rw [Nat.add_zero] at this;exact this));have HC7:=zB ((zA HC6).being (r.ix,r.gen) hg6 ho6);have HRB6:=zB (zAy ((zA HR5).below (zAS W5 (.cells #[.int .i64 r.ix,.int .i64 r.gen] 61))) hg6 (zAm (zA HC6).ownA ((zA HR5).below (zAS W5 (.cells #[.int .i64 r.ix,.int .i64 r.gen] 61))) (by decide)));have HB6:=zB (((zA HB5).trans ((zAS W5 (.cells #[.int .i64 r.ix,.int .i64 r.gen] 61)).mono (zA HB5).size)).trans (zZ hg6 (fun k e=>((zA HC6).ownA.lt k e).1) (zA HC6).sz));clear ho6 hg6 hm6 hbx6)
       | (refine zT rfl 62 (.tmp 40) _ rfl bt 1 (.slice (some ⟨g8,0,none⟩) ((bsH (X.rows.take i) (n:Int)).length+1) c8) rfl rfl rfl size63 (zA HTB) ?_;intro W7 hW7;have HC8:=zB (zA HC7);have HRB8:=zB (zBk (o:=1) (v:=.slice (some ⟨g8,0,none⟩) ((bsH (X.rows.take i) (n:Int)).length+1) c8) (zA HRB6) (g:=bt) (zA HNG));have HB8:=zB ((zA HB6).setCell (p:=⟨bt,1,none⟩) (zA HC6).lo (.slice (some ⟨g8,0,none⟩) ((bsH (X.rows.take i) (n:Int)).length+1) c8));rw [←hW7] at HC8 HRB8 HB8;clear hW7))
      clear z0 z1 z2 y1 HC6 HN6 HC7 HRB6 HB6 HTB HC5 HB5 HR5 HNG HW5 HGR
      go_wp2_with ((go_at_call 65;refine (zA HLI _).mono ?_;rintro e w8 ⟨vh,rfl,hh,hb8⟩;obtain ⟨Ah2,ch2,rfl⟩:=zAV hh;have hK:CK wo.heap.size bt gr (n:Int) (some ⟨g8,0,none⟩,c8) C K (bsH (X.rows.take i) (n:Int)++[(r.ix,r.gen)]) (lvK (X.rows.take i) r (n:Int) 0) r (.slice Ah2 (zO (n:Int) 8).length ch2) (zO (n:Int) 8) w8:=⟨by rw [zMh];exact (zA HC8).below hb8,(zA HRB8).below hb8,zBX hh (zA HC8).sz,fun k=>zLn hh ((zA HC8).ownK k)⟩;have HK:=zB hK;have HB9:=zB ((zA HB8).trans (hb8.mono (zA HC8).sz));clear hK hh hb8 HC8 HRB8 HB8))
      go_loopw [44] (fun x wr=>∃ (k:Nat) (K:Nat→Value),k≤(zO (n:Int) 8).length∧x=.int .i64 (k:Int)∧CK wo.heap.size bt gr (n:Int) (some ⟨g8,0,none⟩,c8) C K (bsH (X.rows.take i) (n:Int)++[(r.ix,r.gen)]) (lvK (X.rows.take i) r (n:Int) k) r (.slice Ah2 (zO (n:Int) 8).length ch2) (zO (n:Int) 8) wr∧Below wo.heap.size wo wr) (fun x _=>(zO (n:Int) 8).length - (intOf x).toNat)
      case atStart=>exact ⟨0,K,Nat.zero_le _,rfl,zA HK,zA HB9⟩
      case round =>
       clear HK HB9
       obtain ⟨k,K,hk,rfl,hT,hbW⟩:=hrel
       by_cases hlk:k<(zO (n:Int) 8).length
       ·have k0:(0:Int)≤(k:Int):=by omega
        have k1:(k:Int)<((zO (n:Int) 8).length:Int):=by omega
        have k1':(k:Int)<(zv (n:Int):Int):=k1
        obtain ⟨p,hp,hpk⟩:∃ p:Nat,p<8∧(zO (n:Int) 8).getD k 0=(p:Int):=by
         have hm:(zO (n:Int) 8).getD k 0∈zO (n:Int) 8:=by
          rw [List.getD_eq_getElem?_getD,List.getElem?_eq_getElem hlk];exact List.getElem_mem hlk
         generalize (zO (n:Int) 8).getD k 0=z at *
         unfold zO at hm
         rw [List.mem_map] at hm
         obtain ⟨q,hq,e⟩:=hm
         rw [List.mem_filter,List.mem_range] at hq
         exact ⟨q,hq.1,e.symm⟩
        have p0:(0:Int)≤(p:Int):=by omega
        have p1:(p:Int)<8:=by omega
        obtain ⟨gh,ch',hvh,_,_⟩:=zAP hT.held (by omega)
        simp only [Value.slice.injEq,true_and] at hvh
        obtain ⟨hvA,hvc⟩:=hvh
        have hcell:wr.cell? ⟨gh,k,none⟩=some (.int .i64 (p:Int)):=by
         have hh:=hT.held
         rw [hvA] at hh
         refine zh hh ?_
         unfold zJ
         rw [List.getElem?_map,List.getElem?_eq_getElem hlk]
         rw [List.getD_eq_getElem?_getD,List.getElem?_eq_getElem hlk] at hpk
         simpa using hpk
        have hkc:k<zv (n:Int):=hlk
        obtain ⟨gc,cc,hC,_,_⟩:=zAP hT.ownC (by omega)
        have tc:=hT.box.cell 0 rfl 2 rfl
        rw [Nat.add_zero,hC] at tc
        have hkk:((List.range (zv (n:Int))).map K)[k]?=some (K k):=by simp [hkc]
        have oC:=hT.ownC
        rw [hC] at oC
        have ck:=zh oC hkk
        have rv:wr.cell? ⟨gr,3+p,none⟩=some (.int .i64 (r.v p)):=(zOd hT.rb hp)
        obtain ⟨Wa,hWa⟩:∃ Wa,Wa=wr.drew:=⟨_,rfl⟩
        obtain ⟨S,hS⟩:∃ S,S=Wa.heap.size:=⟨_,rfl⟩
        obtain ⟨Wb,hWb⟩:∃ Wb,Wb=Wa.alloc (.cells #[.int .i64 (r.v p)] 3):=⟨_,rfl⟩
        have hb01:Below wr.heap.size wr Wb:=by rw [hWb,hWa];exact (Below.refl _ _).drew.alloc (Nat.le_refl _) _
        have hT1:=hT.below hb01
        have hnew:∀ j u,[Value.int .i64 (r.v p)][j]?=some u→Wb.cell? ((⟨S,0,none⟩:Addr).add j)=some u:=by rw [hWb,hS];exact zEb Wa _ 3
        have hlk0:lvK (X.rows.take i) r (n:Int) k k=lvH (X.rows.take i) (n:Int) k:=if_neg (by omega)
        obtain ⟨g9,c9,Wc,hap,ho9,hg9,hm9⟩:=zFM wo.heap.size 23 3 i3 _ 1 8 Tryz.underlying23 (zA H3).1 (zA H3).2.1 (zA H3).2.2.1 (zA H3).2.2.2 rfl (by decide) Wb (K k) (lvK (X.rows.take i) r (n:Int) k k).length (zJ (lvK (X.rows.take i) r (n:Int) k k)) (hT1.ownK k) ⟨S,0,none⟩ [.int .i64 (r.v p)] rfl hnew (by simp [Value.oneCell']) (by rw [hlk0];have:=zA HLL k;omega) (by decide) hT1.sz
        obtain ⟨Wd,hWd⟩:∃ Wd,Wd=Wc.setCell ⟨gc,k,none⟩ (.slice (some ⟨g9,0,none⟩) ((lvK (X.rows.take i) r (n:Int) k k).length+1) c9):=⟨_,rfl⟩
        have hT3:=hT1.col hkc hC (r.v p) hg9 ho9 hm9
        rw [←hWd,zMi _ r (n:Int) k p hpk] at hT3
        have oC2:=hT1.ownC.kept hg9 (zb hT1.ownC (hT1.ownK k) (by decide))
        rw [hC] at oC2
        have ck2:=zh oC2 hkk
        have bt2:=zAy hT1.box hg9 (zAm (hT1.ownK k) hT1.box (by decide))
        have tc2:=bt2.cell 0 rfl 2 rfl
        rw [Nat.add_zero,hC] at tc2
        have rv2:Wc.cell? ⟨gr,3+p,none⟩=some (.int .i64 (r.v p)):=zOd (zAy hT1.rb hg9 (zAm (hT1.ownK k) hT1.rb (by decide))) hp
        have hlo:wo.heap.size≤gc:=(oC.lt gc rfl).1
        have hB3:Below wo.heap.size wo Wd:=by
         rw [hWd]
         exact ((hbW.trans (hb01.mono hT.sz)).trans (zZ hg9 (fun k' e=>((hT1.ownK k).lt k' e).1) hT1.sz)).setCell (p:=⟨gc,k,none⟩) hlo _
        have HP1:Hid (Wb.cell? ⟨bt,2,none⟩=some (.slice (some ⟨gc,0,none⟩) (zv (n:Int)) cc)∧Wb.cell? ⟨gc,k,none⟩=some (K k)∧Wb.cell? ⟨gr,3+p,none⟩=some (.int .i64 (r.v p))):=zB ⟨zC hb01 tc,zC hb01 ck,zC hb01 rv⟩
        have HP2:Hid (Wc.cell? ⟨bt,2,none⟩=some (.slice (some ⟨gc,0,none⟩) (zv (n:Int)) cc)∧Wc.cell? ⟨gc,k,none⟩=some (K k)∧Wc.cell? ⟨gr,3+p,none⟩=some (.int .i64 (r.v p))):=zB ⟨tc2,ck2,rv2⟩
        have h7:XD (fun W=>W.cell? ⟨bt,2,none⟩=some (.slice (some ⟨gc,0,none⟩) (zv (n:Int)) cc)∧W.cell? ⟨gc,k,none⟩=some (K k)∧W.cell? ⟨gr,3+p,none⟩=some (.int .i64 (r.v p))) Wa Wb Wc Wd 12 13 15 (fun _=>false) wr.drew:=by rw [←hWa];exact XD.start (by rw [hWa];exact ⟨tc,ck,rv⟩)
        have HTH:=zB (zAB ck2 (fun j=>zDq oC2 j))
        have HWb:=zB hWb
        have HSS:=zB hS
        have HAP:=zB hap
        have HWd:=zB hWd
        have HT3:=zB hT3
        have HBB:=zB hB3
        clear hWb hS hap hWd hT3 hB3 hlo hWa hb01 hT1 hnew ho9 hg9 hm9 oC2 tc2 ck2 rv2 bt2 oC ck rv tc hT hbW hpk hlk0 hkk hkc hC
        subst hvA hvc
        go_wp2_with fail
        refine zd (fun (γ:Unit) ix v=>(([fun v=>v=.pointer (some ⟨bt,2,none⟩),fun v=>v=.slice (some ⟨gc,0,none⟩) (zv (n:Int)) cc,fun v=>v=.int .i64 (k:Int),fun v=>v=.pointer (some ⟨bt,2,none⟩),fun v=>v=.slice (some ⟨gc,0,none⟩) (zv (n:Int)) cc,fun v=>v=.int .i64 (k:Int),fun v=>v=.pointer (some ⟨gc,k,none⟩),fun v=>v=K k,fun v=>v=.int .i64 (p:Int),fun v=>v=.pointer (some ⟨gr,3,none⟩),fun v=>v=.pointer (some ⟨gr,3+p,none⟩),fun v=>v=.int .i64 (r.v p),fun v=>v=.slice (some ⟨S,0,none⟩) 1 1,fun v=>v=.slice (some ⟨g9,0,none⟩) ((lvK (X.rows.take i) r (n:Int) k k).length+1) c9,fun v=>v=.pointer (some ⟨gc,k,none⟩),fun _=>True]:List (Value→Prop)).getD ix (fun _=>True)) v) (fun (_:Unit) L W=>XD (fun W=>W.cell? ⟨bt,2,none⟩=some (.slice (some ⟨gc,0,none⟩) (zv (n:Int)) cc)∧W.cell? ⟨gc,k,none⟩=some (K k)∧W.cell? ⟨gr,3+p,none⟩=some (.int .i64 (r.v p))) Wa Wb Wc Wd 12 13 15 L W) (()) (by kernel_rfl) (by kernel_rfl) (by kernel_rfl) h7 ?hstep ?hend7
        case hstep =>
         intro γ ix o ho L ac w1 hD hL hed hcl hout hv
         match ix,ho with
         | 0,ho =>
          simp at ho
          subst ho
          have e5:ac.tmps.getD 5 undef=.pointer (some ⟨bt,0,none⟩):=hout 5 (by decide +kernel)
          exact .inl ⟨rfl,zF γ _ (by simp [go_sem,Act.eval,-Array.getD_eq_getD_getElem?,e5]) rfl (hD.quiet 0 (by decide) (by decide) (by decide)) (fun _ _ _ _ h=>h)⟩
         | 1,ho =>
          simp at ho
          subst ho
          have e49:ac.tmps.getD 49 undef=_:=hv 0 49 rfl (by kernel_rfl)
          have q14:L 14=false:=by
           cases h:L 14
           ·rfl
           ·exact absurd (hcl 14 _ rfl h 1 (by kernel_rfl)) (by rw [hL];decide)
          have q15:L 15=false:=by
           cases h:L 15
           ·rfl
           ·exact absurd (hcl 15 _ rfl h 14 (by kernel_rfl)) (by rw [q14];decide)
          have c0:=(hD.1 q15).1
          exact .inl ⟨rfl,zF γ _ (by simp [go_sem,Act.eval,-Array.getD_eq_getD_getElem?,e49,c0]) rfl (hD.quiet 1 (by decide) (by decide) (by decide)) (fun _ _ _ _ h=>h)⟩
         | 2,ho =>
          simp at ho
          subst ho
          have e8:ac.tmps.getD 8 undef=.int .i64 (k:Int):=hout 8 (by decide +kernel)
          exact .inl ⟨rfl,zF γ _ (by simp [go_sem,Act.eval,-Array.getD_eq_getD_getElem?,e8]) rfl (hD.quiet 2 (by decide) (by decide) (by decide)) (fun _ _ _ _ h=>h)⟩
         | 3,ho =>
          simp at ho
          subst ho
          have e5:ac.tmps.getD 5 undef=.pointer (some ⟨bt,0,none⟩):=hout 5 (by decide +kernel)
          exact .inl ⟨rfl,zF γ _ (by simp [go_sem,Act.eval,-Array.getD_eq_getD_getElem?,e5]) rfl (hD.quiet 3 (by decide) (by decide) (by decide)) (fun _ _ _ _ h=>h)⟩
         | 4,ho =>
          simp at ho
          subst ho
          have e52:ac.tmps.getD 52 undef=_:=hv 3 52 rfl (by kernel_rfl)
          have q6:L 6=false:=by
           cases h:L 6
           ·rfl
           ·exact absurd (hcl 6 _ rfl h 4 (by kernel_rfl)) (by rw [hL];decide)
          have q7:L 7=false:=by
           cases h:L 7
           ·rfl
           ·exact absurd (hcl 7 _ rfl h 6 (by kernel_rfl)) (by rw [q6];decide)
          have q13:L 13=false:=by
           cases h:L 13
           ·rfl
           ·exact absurd (hcl 13 _ rfl h 7 (by kernel_rfl)) (by rw [q7];decide)
          have q15:L 15=false:=by
           cases h:L 15
           ·rfl
           ·exact absurd (hcl 15 _ rfl h 13 (by kernel_rfl)) (by rw [q13];decide)
          have c0:=(hD.1 q15).1
          exact .inl ⟨rfl,zF γ _ (by simp [go_sem,Act.eval,-Array.getD_eq_getD_getElem?,e52,c0]) rfl (hD.quiet 4 (by decide) (by decide) (by decide)) (fun _ _ _ _ h=>h)⟩
         | 5,ho =>
          simp at ho
          subst ho
          have e8:ac.tmps.getD 8 undef=.int .i64 (k:Int):=hout 8 (by decide +kernel)
          exact .inl ⟨rfl,zF γ _ (by simp [go_sem,Act.eval,-Array.getD_eq_getD_getElem?,e8]) rfl (hD.quiet 5 (by decide) (by decide) (by decide)) (fun _ _ _ _ h=>h)⟩
         | 6,ho =>
          simp at ho
          subst ho
          have e53:ac.tmps.getD 53 undef=_:=hv 4 53 rfl (by kernel_rfl)
          have e54:ac.tmps.getD 54 undef=_:=hv 5 54 rfl (by kernel_rfl)
          exact .inl ⟨rfl,zF γ _ (by simp [go_sem,Act.eval,-Array.getD_eq_getD_getElem?,e53,e54,k0,k1']) rfl (hD.quiet 6 (by decide) (by decide) (by decide)) (fun _ _ _ _ h=>h)⟩
         | 7,ho =>
          simp at ho
          subst ho
          have e55:ac.tmps.getD 55 undef=_:=hv 6 55 rfl (by kernel_rfl)
          have q13:L 13=false:=by
           cases h:L 13
           ·rfl
           ·exact absurd (hcl 13 _ rfl h 7 (by kernel_rfl)) (by rw [hL];decide)
          have q15:L 15=false:=by
           cases h:L 15
           ·rfl
           ·exact absurd (hcl 15 _ rfl h 13 (by kernel_rfl)) (by rw [q13];decide)
          have c0:=(hD.1 q15).2.1
          exact .inl ⟨rfl,zF γ (K k) (by simp [go_sem,Act.eval,-Array.getD_eq_getD_getElem?,e55,c0]) rfl (hD.quiet 7 (by decide) (by decide) (by decide)) (fun _ _ _ _ h=>h)⟩
         | 8,ho =>
          simp at ho
          subst ho
          have e9:ac.tmps.getD 9 undef=.int .i64 (p:Int):=hout 9 (by decide +kernel)
          exact .inl ⟨rfl,zF γ _ (by simp [go_sem,Act.eval,-Array.getD_eq_getD_getElem?,e9]) rfl (hD.quiet 8 (by decide) (by decide) (by decide)) (fun _ _ _ _ h=>h)⟩
         | 9,ho =>
          simp at ho
          subst ho
          have e7:ac.tmps.getD 7 undef=.pointer (some ⟨gr,0,none⟩):=hout 7 (by decide +kernel)
          exact .inl ⟨rfl,zF γ _ (by simp [go_sem,Act.eval,-Array.getD_eq_getD_getElem?,e7]) rfl (hD.quiet 9 (by decide) (by decide) (by decide)) (fun _ _ _ _ h=>h)⟩
         | 10,ho =>
          simp at ho
          subst ho
          have e58:ac.tmps.getD 58 undef=_:=hv 9 58 rfl (by kernel_rfl)
          have e57:ac.tmps.getD 57 undef=_:=hv 8 57 rfl (by kernel_rfl)
          exact .inl ⟨rfl,zF γ _ (by simp [go_sem,Act.eval,-Array.getD_eq_getD_getElem?,e58,e57,p0,p1]) rfl (hD.quiet 10 (by decide) (by decide) (by decide)) (fun _ _ _ _ h=>h)⟩
         | 11,ho =>
          simp at ho
          subst ho
          have e59:ac.tmps.getD 59 undef=_:=hv 10 59 rfl (by kernel_rfl)
          have q12:L 12=false:=by
           cases h:L 12
           ·rfl
           ·exact absurd (hcl 12 _ rfl h 11 (by kernel_rfl)) (by rw [hL];decide)
          have q13:L 13=false:=by
           cases h:L 13
           ·rfl
           ·exact absurd (hcl 13 _ rfl h 12 (by kernel_rfl)) (by rw [q12];decide)
          have q15:L 15=false:=by
           cases h:L 15
           ·rfl
           ·exact absurd (hcl 15 _ rfl h 13 (by kernel_rfl)) (by rw [q13];decide)
          have c0:=(hD.1 q15).2.2
          exact .inl ⟨rfl,zF γ _ (by simp [go_sem,Act.eval,-Array.getD_eq_getD_getElem?,e59,c0]) rfl (hD.quiet 11 (by decide) (by decide) (by decide)) (fun _ _ _ _ h=>h)⟩
         | 12,ho =>
          simp at ho
          subst ho
          have e60:ac.tmps.getD 60 undef=_:=hv 11 60 rfl (by kernel_rfl)
          have q13:L 13=false:=by
           cases h:L 13
           ·rfl
           ·exact absurd (hcl 13 _ rfl h 12 (by kernel_rfl)) (by rw [hL];decide)
          have q15:L 15=false:=by
           cases h:L 15
           ·rfl
           ·exact absurd (hcl 15 _ rfl h 13 (by kernel_rfl)) (by rw [q13];decide)
          obtain ⟨hw,hx⟩:=hD.build hL q13 q15 (by decide) (by decide) (zA HP1)
          subst hw
          refine .inl ⟨rfl,zBu γ (.slice (some ⟨S,0,none⟩) 1 1) (w2:=Wb) (by rw [zA HWb,zA HSS];simp [go_sem,Act.eval,-Array.getD_eq_getD_getElem?,e60]) rfl hx (fun _ _ _ _ h=>h)⟩
         | 13,ho =>
          simp at ho
          subst ho
          have e56:ac.tmps.getD 56 undef=K k:=hv 7 56 rfl (by kernel_rfl)
          have e61:ac.tmps.getD 61 undef=_:=hv 12 61 rfl (by kernel_rfl)
          have q15:L 15=false:=by
           cases h:L 15
           ·rfl
           ·exact absurd (hcl 15 _ rfl h 13 (by kernel_rfl)) (by rw [hL];decide)
          have q12:L 12=true:=hed 12 (by kernel_rfl)
          obtain ⟨hw,hx⟩:=hD.app q12 hL q15 (by decide) (zA HP2)
          subst hw
          exact .inl ⟨rfl,zBj γ (.tmp 56) (.tmp 61) 23 rfl (K k) (.slice (some ⟨S,0,none⟩) 1 1) (.slice (some ⟨g9,0,none⟩) ((lvK (X.rows.take i) r (n:Int) k k).length+1) c9) (by simp [Act.eval,-Array.getD_eq_getD_getElem?,e56]) (by simp [Act.eval,-Array.getD_eq_getD_getElem?,e61]) (zA HAP _) rfl hx (fun _ _ _ _ h=>h)⟩
         | 14,ho =>
          simp at ho
          subst ho
          have e50:ac.tmps.getD 50 undef=_:=hv 1 50 rfl (by kernel_rfl)
          have e51:ac.tmps.getD 51 undef=_:=hv 2 51 rfl (by kernel_rfl)
          exact .inl ⟨rfl,zF γ _ (by simp [go_sem,Act.eval,-Array.getD_eq_getD_getElem?,e50,e51,k0,k1']) rfl (hD.quiet 14 (by decide) (by decide) (by decide)) (fun _ _ _ _ h=>h)⟩
         | 15,ho =>
          simp at ho
          subst ho
          have e63:ac.tmps.getD 63 undef=_:=hv 14 63 rfl (by kernel_rfl)
          have e62:ac.tmps.getD 62 undef=_:=hv 13 62 rfl (by kernel_rfl)
          have q13:L 13=true:=hed 13 (by kernel_rfl)
          obtain ⟨hw,hx⟩:=hD.store q13 hL (by decide)
          subst hw
          exact .inl ⟨rfl,zDt γ 23 (.tmp 63) (.tmp 62) rfl gc k (.slice (some ⟨g9,0,none⟩) ((lvK (X.rows.take i) r (n:Int) k k).length+1) c9) (by simp [Act.eval,-Array.getD_eq_getD_getElem?,e63]) (by simp [Act.eval,-Array.getD_eq_getD_getElem?,e62]) rfl size26 (zA HTH) trivial (by rw [←zA HWd];exact hx) (fun _ _ _ _ h=>h)⟩
         | ix+16,ho=>simp at ho
        case hend7 =>
         intro γ v L w5 hD hall hv
         rw [hD.2.2.2 (hall 15 (by decide))]
         clear hv hall hD h7 HP1 HP2 HTH HWb HSS HAP HWd
         simp only [zu,List.getElem?_cons_zero,List.getElem?_cons_succ,Option.bind_some,List.length_cons,List.length_nil,Nat.reduceAdd]
         go_frame
         go_wp2
         go_roundw
         case rel=>exact ⟨k+1,_,by omega,by go_num,zA HT3,zA HBB⟩
         case measure=>simp [intOf];omega
       ·obtain rfl:k=(zO (n:Int) 8).length:=by omega
        have HT:=zB hT.toCU
        have HBB:=zB hbW
        have kk:decide (((zO (n:Int) 8).length:Int)<((zO (n:Int) 8).length:Int))=false:=decide_eq_false (by omega)
        clear hT hbW
        go_wp2
        go_roundw
        case rel=>exact ⟨i+1,_,C,K,by omega,by go_num,by rw [zA HTK,zLg,if_pos (zA HE),←zNw _ _ _ (zA HE)];exact zA HT,zA HBB⟩
        case measure=>simp [intOf];omega
     ·have hne:(r.has == (n:Int))=false:=by simpa using he
      have hne2:(r.has != (n:Int))=true:=by simpa using he
      have HE:=zB he
      clear he
      go_wp2
      go_roundw
      case rel=>exact ⟨i+1,Aa,C,K,by omega,by go_num,by rw [zA HTK,zLg,if_neg (zA HE),zOl _ _ _ (zA HE)];exact zA HC5,zA HB5⟩
      case measure=>simp [intOf];omega
    ·obtain rfl:i=X.rows.length:=by omega
     have HC:=zB hC
     have HBR:=zB hbr
     have hLr:Below w.heap.size w wr:=(zA HBW).trans (hbr.mono (zA HSZ))
     have y1:=hC.box.cell 0 rfl 1 rfl
     rw [Nat.add_zero] at y1
     have ki:decide ((X.rows.length:Int)<(X.rows.length:Int))=false:=decide_eq_false (by omega)
     have hF2:=(zA HF).keep rfl hbr
     have HF2:=zB hF2
     have HBX:=zB ((zA HB).below hbr)
     have HLR:=zB hLr
     have hfull:bsH (X.rows.take X.rows.length) (n:Int)=bsH X.rows (n:Int):=by rw [List.take_length]
     have hfull2:lvH (X.rows.take X.rows.length) (n:Int)=lvH X.rows (n:Int):=by rw [List.take_length]
     rw [hfull] at y1
     rw [hfull,hfull2] at HC
     clear hC hbr hLr hF2 hfull hfull2
     by_cases hz:bsH X.rows (n:Int)=[]
     ·have hH:zGT X.rows (n:Int)=[]:=by unfold bsH at hz;exact List.map_eq_nil_iff.1 hz
      rw [hz] at y1
      have hd:dH X.rows (n+1)=dH X.rows n:=by unfold dH;rw [zHO,if_pos hH]
      have HD:=zB hd
      clear hd hH hz
      go_wp2
      go_roundw
      case rel=>exact ⟨n+1,T,m,by omega,by go_num,by rw [zA HD];exact zA HF2,zA HBX,zA HLR⟩
      case measure=>simp [intOf];omega
     ·have hpos:0<(bsH X.rows (n:Int)).length:=List.length_pos_iff.2 hz
      have hpos2:(0:Int)<((bsH X.rows (n:Int)).length:Int):=by omega
      have hH:zGT X.rows (n:Int)≠[]:=fun e=>hz (by unfold bsH;rw [e];rfl)
      have hd:dH X.rows (n+1)=⟨(dH X.rows n).hs++[(n:Int)],zBx (dH X.rows n).B (n:Int) (bsH X.rows (n:Int)),fun x=>if x=(n:Int) then lvH X.rows (n:Int) else (dH X.rows n).L x⟩:=by
       unfold dH
       rw [zHO,if_neg hH]
       simp only [TblD.mk.injEq,true_and]
       refine ⟨funext fun x=>?_,funext fun x=>?_⟩
       ·unfold zBx
        split
        ·rename_i e;rw [e]
        ·rfl
       ·split
        ·rename_i e;rw [e]
        ·rfl
      have hnm:(n:Int) ∉ (dH X.rows n).hs:=fun hm=>by
       obtain ⟨k,h1,h2,_⟩:=(zEZ X.rows n (n:Int)).1 hm
       omega
      have hhl:(dH X.rows n).hs.length≤256:=Nat.le_trans (zId X.rows n) hn
      have y0:=(zA HC).box.cell 0 rfl 0 rfl
      have y2:=(zA HC).box.cell 0 rfl 2 rfl
      have s0:=(zA HF2).box.cell 0 rfl 0 rfl
      rw [Nat.add_zero] at y0 y2 s0
      obtain ⟨w5,rfl⟩:∃ w5,w5=wr:=⟨_,rfl⟩
      have HCN:=zB ((zA HC).below (zAS w5 (.cells #[.int .i64 (n:Int),.slice Aa.1 (bsH X.rows (n:Int)).length Aa.2,.slice C.1 (zv (n:Int)) C.2] 75)))
      have HFN:=zB ((zA HF2).keep rfl (zAS w5 (.cells #[.int .i64 (n:Int),.slice Aa.1 (bsH X.rows (n:Int)).length Aa.2,.slice C.1 (zv (n:Int)) C.2] 75)))
      have HBN:=zB ((zA HBX).below (zAS w5 (.cells #[.int .i64 (n:Int),.slice Aa.1 (bsH X.rows (n:Int)).length Aa.2,.slice C.1 (zv (n:Int)) C.2] 75)))
      have HLN:=zB ((zA HLR).trans ((zAS w5 (.cells #[.int .i64 (n:Int),.slice Aa.1 (bsH X.rows (n:Int)).length Aa.2,.slice C.1 (zv (n:Int)) C.2] 75)).mono (zA HLR).size))
      have HNW:=zB (zNZ w5 (n:Int) Aa.1 (bsH X.rows (n:Int)).length Aa.2 C.1 (zv (n:Int)) C.2)
      have HD:=zB hd
      have HNM:=zB hnm
      clear hd hH hz hnm
      go_wp2_with (first
       | (at_builtin;refine ze _ rfl (.tmp 71) (.tmp 73) 22 rfl w.heap.size 75 i92 _ 3 56 Tryz.underlying22 (zA H92).1 (zA H92).2.1 (zA H92).2.2.1 (zA H92).2.2.2 rfl (by decide) _ (dH X.rows n).hs.length (zK ((dH X.rows n).hs.map (tt m (dH X.rows n)))) rfl (zA HFN).ownT ⟨_,0,none⟩ 1 1 [.int .i64 (n:Int),.slice Aa.1 (bsH X.rows (n:Int)).length Aa.2,.slice C.1 (zv (n:Int)) C.2] rfl rfl (zA HNW) (zKo _ _ _ _ _ _ _) (by unfold maxLen;omega) (by omega) (zA HFN).sz (by omega) ?_;intro g8 c8 w6 ho6 hg6 hm6;have hbx6:=zAy (zA HFN).box hg6 (zAm (zA HFN).ownT (zA HFN).box (by decide));have HTB:Hid (w6.there (w.heap.size+2) 0 1):=zB (zAB (by have:=hbx6.cell 0 rfl 0 rfl;rw [Nat.add_zero] at this;exact this) (fun j=>by have:=hbx6.free 0 rfl j;rw [Nat.add_zero] at this;exact this));have HF7:=zB ((zA HFN).add (zA HCN) (zA HSZ) (zA HNM) hg6 ho6);have HB6:=zB (zHx (zA HBN) (zA HFN).ownT hg6);have HL6:=zB ((zA HLN).trans (zZ hg6 (fun k e=>((zA HFN).ownT.lt k e).1) (zA HFN).sz));clear ho6 hg6 hm6 hbx6)
       | (refine zT rfl 22 (.tmp 75) _ rfl (w.heap.size+2) 0 (.slice (some ⟨g8,0,none⟩) ((dH X.rows n).hs.length+1) c8) rfl rfl rfl size69 (zA HTB) ?_;intro W7 hW7;have HF8:=zB (zA HF7);have HB8:=zB ((zA HB6).turn (cb:=w.heap.size+2) (o:=0) (vs:=[.slice (some ⟨g8,0,none⟩) ((dH X.rows n).hs.length+1) c8]) (.inr (Nat.le_refl _)));have HL8:=zB ((zA HL6).setCell (p:=⟨w.heap.size+2,0,none⟩) (by simp) (.slice (some ⟨g8,0,none⟩) ((dH X.rows n).hs.length+1) c8));rw [←hW7] at HF8 HL8;have HB8':Hid (Bxs w.heap.size [([.slice A X.rows.length cap,.slice G X.gens.length gcap],43),([.slice none 0 0,.slice none 0 0],25)] W7):=zB (by rw [hW7];exact zA HB8);clear hW7 HB8))
      go_roundw
      case rel=>exact ⟨n+1,_,_,by omega,by go_num,by rw [zA HD];exact zA HF8,zA HB8',zA HL8⟩
      case measure=>simp [intOf];omega
  ·obtain rfl:n=256:=by omega
   have s0:=hF.box.cell 0 rfl 0 rfl
   have s1:=hF.box.cell 0 rfl 1 rfl
   rw [Nat.add_zero] at s0 s1
   have e256:dH X.rows 256=dOf (za X) X.rows:=by unfold dH;rw [zLO (zA HR)];rfl
   rw [e256] at hF s0
   have hTA:=zNG hF (zBE X)
   have hls:(dOf (za X) X.rows).hs.length=(za X).length:=by simp [dOf]
   rw [hls] at s0
   have hgx:=((zA HX).below hbw).gens
   have hb9:=zI (w.heap.size+1) (by omega) [.slice T.1 (za X).length T.2,.slice G X.gens.length gcap] 0 wr hbw
   have hTH:=hB.there 1 rfl 2 rfl
   have hF9:=hF.res (hB 1 _ _ rfl) (by omega) 0 [.slice T.1 (za X).length T.2,.slice G X.gens.length gcap]
   have HST:Hid (zNA w.heap.size (wr.setCells (w.heap.size+1) 0 [.slice T.1 (za X).length T.2,.slice G X.gens.length gcap]) T.1 G (za X) X):=zB (fun W' ha hg'=>⟨zNG (hF9.agree ha) (zBE X),hg',zA HR,zHC (zA HR) (zBE X),fun j hj=>zLR (zBE X) j (j+1) hj (by omega),(zBE X).perm,by have:=zHr (zBE X);omega⟩)
   have HG9:=zB (hB.give 1 rfl [.slice T.1 (za X).length T.2,.slice G X.gens.length gcap] rfl)
   have HTH:=zB hTH
   have HB9:=zB hb9
   have kn:decide ((256:Int)<256)=false:=by decide
   clear hF hB hbw hF9 hTA hgx hb9 hTH e256 hls
   go_wp2_with ((refine zG rfl 25 (.tmp 2) _ rfl (w.heap.size+1) 0 [.slice T.1 (za X).length T.2,.slice G X.gens.length gcap] rfl rfl (by simp [Value.oneCell']) size71 (zA HTH) ?_;intro W9 hW9;have HST9:=zB (zA HST);have HGG:=zB (zA HG9);have HBB:=zB (zA HB9);rw [←hW9] at HST9 HGG HBB;clear hW9))
   have g0:=(zA HGG).cell 1 rfl 0 rfl
   have g1:=(zA HGG).cell 1 rfl 1 rfl
   refine bodyPost_ret (v:=.agg #[.slice T.1 (za X).length T.2,.slice G X.gens.length gcap]) (by simp [results,Tryz.results32,go_sem,g0,g1]) rfl ⟨T.1,T.2,rfl,zA HST9,zA HBB⟩
end Go.Proofs.YtnbleebilmghcabGreat
