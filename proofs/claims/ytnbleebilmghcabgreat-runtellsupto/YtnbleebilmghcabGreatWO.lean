/- SApart0, SApart, SOf, SBxs -/
import Derived.Test.YtnbleebilmghcabGreatWG
import Derived.Test.YtnbleebilmghcabGreatWL
import Derived.Test.YtnbleebilmghcabGreatWN
set_option linter.all false
namespace Go.Proofs.YtnbleebilmghcabGreat
open Go Go.RowKit
attribute [local go_sem ↓] Go.wp_at_zero Go.wp_at_succ
def zGT (rs:List RowI) (h:Int):List RowI:=rs.filter (fun x=>x.has == h)
def dOf (l:List TabI) (rs:List RowI):TblD:=⟨l.map (·.has),fun h=>(zGT rs h).map fun r=>(r.ix,r.gen),fun h k=>if k<zv h then (zGT rs h).map (fun r=>r.v ((zO h 8).getD k 0).toNat) else []⟩
theorem zDr (rs:List RowI) (r:RowI) (h:Int):zGT (rs++[r]) h=if h=r.has then zGT rs h++[r] else zGT rs h:=by
 unfold zGT
 rw [List.filter_append]
 by_cases e:h=r.has
 ·subst e;simp
 ·have:(r.has == h)=false:=by simpa using fun e'=>e e'.symm
  simp [this,e]
theorem zKE (l:List TabI) (rs:List RowI) (r:RowI):zMA (dOf l rs) r=dOf (takeT l r) (rs++[r]):=by
 unfold zMA zFO dOf
 simp only [TblD.mk.injEq]
 refine ⟨(zIe l r).symm,?_,?_⟩
 ·funext h
  unfold zBx
  rw [zDr]
  by_cases e:h=r.has
  ·subst e;simp
  ·simp [e]
 ·funext h k
  rw [zDr]
  by_cases e:h=r.has
  ·subst e
   by_cases hk:k<zv r.has
   ·simp [hk]
   ·simp [hk]
  ·simp [e]
theorem zBI {W W':World} {base:Nat} {e:TypeId} {size n:Nat} {v:Value} {xs:List Value} (h:W.ownsRow base e size v n xs) (ha:∀ g,base≤g→g<W.heap.size→W'.heap[g]?=W.heap[g]?):W'.ownsRow base e size v n xs:=by
 refine ⟨h.1,?_⟩
 rcases h.2 with hn | ⟨g,cap,cur,rfl,hb',hgg,rest⟩
 ·exact .inl hn
 ·exact .inr ⟨g,cap,cur,rfl,hb',(ha g hb' (Array.getElem?_eq_some_iff.1 hgg).1).trans hgg,rest⟩
def StNew (base:Nat) (W:World) (T G:Option Addr) (tabs:List TabI) (X:Wd):Prop:=∀ W':World,(∀ g,base≤g→g<W.heap.size→W'.heap[g]?=W.heap[g]?)→StAt W' T G tabs X
section
variable {base:Nat} {W W1:World} {T G:Option Addr} {tabs:List TabI} {X:Wd}
theorem StNew.st (h:StNew base W T G tabs X):StAt W T G tabs X:=h W fun _ _ _=>rfl
theorem StNew.below (h:StNew base W T G tabs X) (hb:Below W.heap.size W W1):StNew base W1 T G tabs X:=fun W' ha=>h W' fun g h1 h2=>(ha g h1 (Nat.lt_of_lt_of_le h2 hb.size)).trans (hb.block g h2)
theorem StNew.le (h:StNew base W T G tabs X) {base':Nat} (hb:base'≤base):StNew base' W T G tabs X:=fun W' ha=>h W' fun g h1 h2=>ha g (Nat.le_trans hb h1) h2
theorem StNew.putc (h:StNew base W T G tabs X) {b o:Nat} {vs:List Value} (hb:b<base):StNew base (W.setCells b o vs) T G tabs X:=fun W' ha=>h W' fun g h1 h2=>(ha g h1 (by rw [zDc];exact h2)).trans (zCO b vs o W g (by omega))
end
theorem TblL.agree {base bx:Nat} {T G:Value} {gens:List Int} {m:TblM} {d:TblD} {W W':World} (h:TblL base bx T G gens m d W) (ha:∀ g,base≤g→g<W.heap.size→W'.heap[g]?=W.heap[g]?):TblL base bx T G gens m d W' :=
 ⟨(ha bx h.lo h.lt).trans h.box,h.lo,zBI h.ownT ha,zBI h.ownG ha,fun x=>zBI (h.ownA x) ha,fun x hx=>zBI (h.ownC x hx) ha,fun x k=>zBI (h.ownK x k) ha,h.sepA,h.sepC,h.sepK,h.sepG,h.out⟩
theorem zOT {base bx:Nat} {A:Option Addr} {c:Nat} {G:Value} {gens:List Int} {m:TblM} {l:List TabI} {rs:List RowI} {W:World} (h:TblL base bx (.slice A l.length c) G gens m (dOf l rs) W) (hg:Grp l rs):TabsAt W A l:=fun j hj=>by
 have hl:(dOf l rs).hs.length=l.length:=by simp [dOf]
 have hT:=h.ownT
 rw [hl] at hT
 obtain ⟨g,cap,e,_,_⟩:=zAP hT (by omega)
 simp only [Value.slice.injEq,true_and] at e
 obtain ⟨rfl,rfl⟩:=e
 have hx:(dOf l rs).hs[j]'(by rw [hl];exact hj)=l[j].has:=by simp [dOf]
 have hrows:l[j].rows=zGT rs l[j].has:=hg.each _ (List.getElem_mem hj)
 have hB:(dOf l rs).B l[j].has=bsV l[j]:=by unfold bsV;rw [hrows];rfl
 have hL:∀ k,k<zv l[j].has→(dOf l rs).L l[j].has k=zGV l[j] k:=fun k hk=>by
  unfold zGV
  rw [hrows]
  show (if k<zv l[j].has then _ else _)=_
  rw [if_pos hk]
 obtain ⟨c0,c1,c2⟩:=cellsT_at ((dOf l rs).hs.map (tt m (dOf l rs))) j (by simpa [hl] using hj)
 simp only [List.getElem_map,hx] at c0 c1 c2
 have hmem:l[j].has∈(dOf l rs).hs:=by rw [←hx];exact List.getElem_mem _
 generalize l[j]=t at *
 have oA:=h.ownA t.has
 have hAl:((dOf l rs).B t.has).length=t.rows.length:=by rw [hB,zCf]
 refine ⟨g,0,rfl,(m.A t.has).1,(m.A t.has).2,(m.C t.has).1,(m.C t.has).2,?_,?_,?_,?_,fun k hk=>?_⟩
 ·rw [Nat.zero_add];exact zh hT c0
 ·rw [Nat.zero_add,←hAl];exact zh hT c1
 ·rw [Nat.zero_add];exact zh hT c2
 ·rw [hB] at oA
  obtain ⟨A',cap',e',hbs⟩:=zIl oA
  unfold aV at e'
  rw [Value.slice.injEq] at e'
  rw [e'.1]
  exact hbs
 ·obtain ⟨gc,cc,e',_,_⟩:=zAP (h.ownC t.has hmem) (show 0<zv t.has by unfold zv;omega)
  have oC:=h.ownC t.has hmem
  have eC:(m.C t.has).1=some ⟨gc,0,none⟩:=by
   unfold cV at e'
   simp only [Value.slice.injEq,true_and] at e'
   exact e'.1
  rw [e'] at oC
  have oK:=h.ownK t.has k
  rw [hL k hk] at oK
  obtain ⟨A',cap',e2,hI⟩:=zBt oK
  refine ⟨gc,0,eC,A',cap',?_,hI⟩
  rw [Nat.zero_add,←zBU t k,←e2]
  refine zh oC ?_
  have:k<zv t.has:=hk
  simp [this]
theorem zHr {l:List TabI} {rs:List RowI} (h:Grp l rs):l.length≤rs.length:=by
 rw [←h.perm.length_eq]
 have:∀ l:List TabI,(∀ t∈l,t.rows≠[])→l.length≤(l.flatMap (·.rows)).length:=fun l=>by
  induction l with
  | nil=>intro _;simp
  | cons t l ih =>
   intro hne
   rw [List.flatMap_cons,List.length_append,List.length_cons]
   have h1:=ih fun x hx=>hne x (by simp [hx])
   have h2:=List.length_pos_iff.2 (hne t (by simp))
   omega
 exact this l h.ne
theorem zLR {l:List TabI} {rs:List RowI} (h:Grp l rs) (i j:Nat) (hj:j<l.length) (hij:i<j):(l[i]'(by omega)).has<l[j].has:=List.pairwise_iff_getElem.1 h.up i j (by omega) hj hij
theorem zPG {base bx:Nat} {A:Option Addr} {c:Nat} {G:Option Addr} {gc:Nat} {X:Wd} {m:TblM} {l:List TabI} {W:World} (h:TblL base bx (.slice A l.length c) (.slice G X.gens.length gc) X.gens m (dOf l X.rows) W) (hg:Grp l X.rows) (hr:RightW X):StNew base W A G l X:=fun W' ha=>by
 have h':=h.agree ha
 have hl60:=(zk ((zf X).2 hr)).1
 have hf:=zHr hg
 refine ⟨zOT h' hg,?_,hr,zHC hr hg,fun j hj=>zLR hg j (j+1) hj (by omega),hg.perm,by omega⟩
 obtain ⟨A',cap',e,hI⟩:=zBt h'.ownG
 rw [Value.slice.injEq] at e
 rw [e.1]
 exact hI
theorem TblL.start {base:Nat} {W W1:World} {G:Value} {gens:List Int} (hG:W.ownsRow base 3 1 G gens.length (zJ gens)) (hb:base≤W.heap.size) (hW:W1=W.alloc (.cells #[.slice none 0 0,G] 125)):TblL base W.heap.size (.slice none 0 0) G gens ⟨fun _=>(none,0),fun _=>(none,0),fun _ _=>.slice none 0 0⟩ (dOf [] []) W1:=by
 have hbl:Below W.heap.size W W1:=by rw [hW];exact zAS _ _
 have hB:∀ h,(dOf [] []).B h=[]:=fun h=>rfl
 have hL:∀ h k,(dOf [] []).L h k=[]:=fun h k=>by show (if k<zv h then _ else _)=_;split <;> rfl
 refine ⟨?_,hb,World.ownsRow_nil _ _ _ _,zc hG hbl,fun h=>?_,fun h hh=>?_,fun h k=>?_,fun _ _ _=>.inl rfl,fun h _ hh=>?_,fun _ _ _ _ _=>.inl rfl,fun _ _=>(Apt.nil _).symm,fun h _=>⟨rfl,rfl,fun _=>rfl⟩⟩
 ·rw [hW];show (W.heap.push _)[W.heap.size]?=_;simp
 ·exact World.ownsRow_nil _ _ _ _
 ·simp [dOf] at hh
 ·rw [hL];exact World.ownsRow_nil _ _ _ _
 ·simp [dOf] at hh
end Go.Proofs.YtnbleebilmghcabGreat
set_option maxHeartbeats 8000000
set_option maxRecDepth 8000
namespace Go.Proofs.YtnbleebilmghcabGreat
open Go Go.RowKit
attribute [local go_sem ↓] Go.wp_at_zero Go.wp_at_succ
theorem size71:(Tryz.prog.info? 25).map (·.size)=some 2:=by kernel_rfl
def za (X:Wd):List TabI:=zCB X.rows X.rows.length
theorem zBE (X:Wd):Grp (za X) X.rows:=by
 have:=zDD X.rows X.rows.length (Nat.le_refl _)
 rwa [List.take_length] at this
structure ApB (w:World) (u0 u1 y0 y1:Value) (W:World):Prop where
 bel:Below w.heap.size w W
 sz:w.heap.size+2≤W.heap.size
 r:B13 w.heap.size u0 u1 W
 s:B13 (w.heap.size+1) y0 y1 W
theorem ApB.keep {w W W1:World} {u0 u1 y0 y1:Value} (h:ApB w u0 u1 y0 y1 W) (hb:Below (w.heap.size+2) W W1):ApB w u0 u1 y0 y1 W1 :=
 ⟨h.bel.trans (hb.mono (by omega)),Nat.le_trans h.sz hb.size,h.r.keep (hb.mono (by omega)),h.s.keep hb⟩
theorem ApB.start (w:World) (u0 u1 y0 y1:Value) (s t:TypeId):ApB w u0 u1 y0 y1 ((w.alloc (.cells #[u0,u1] s)).alloc (.cells #[y0,y1] t)):=by
 have h:=BB.start w u0 u1 y0 y1 s t
 exact ⟨h.bel,h.sz,h.r,h.s⟩
theorem ApB.give {w W:World} {u0 u1 y0 y1:Value} (h:ApB w u0 u1 y0 y1 W) (z0 z1:Value):ApB w u0 u1 z0 z1 (W.setCells (w.heap.size+1) 0 [z0,z1]):=by
 have:=BB.give (⟨h.bel,h.sz,h.r,h.s⟩:BB w u0 u1 y0 y1 W) z0 z1
 exact ⟨this.bel,this.sz,this.r,this.s⟩
theorem zLo (A:Option Addr) (cap:Nat) (G:Option Addr) (gcap:Nat) (X:Wd) (w:World) (hX:WldAt w A cap G gcap X) (hr:RightW X) :
  Calls Tryz.prog 36 #[zi A cap G gcap X] w fun e w'=>∃ T tc G' gc',e=.returned (stV T (za X).length tc G' X.gens.length gc')∧StNew w.heap.size w' T G' (za X) X∧Below w.heap.size w w':=by
 obtain ⟨hl,hgl,_⟩:=zk ((zf X).2 hr)
 have hAB:=ApB.start w (.slice A X.rows.length cap) (.slice G X.gens.length gcap) (.slice none 0 0) (.slice none 0 0) 43 25
 have hz:(((w.alloc (.cells #[.slice A X.rows.length cap,.slice G X.gens.length gcap] 43)).alloc (.cells #[.slice none 0 0,.slice none 0 0] 25))).heap.size=w.heap.size+2:=by simp
 have hCP:=fun W (hb:Below w.heap.size w W)=>zFo G gcap X.gens W (by omega) (hX.below hb).gens
 have HZ:=zB hz
 have HX:=zB hX
 have HR:=zB hr
 have HAB:=zB hAB
 have HCP:=zB hCP
 clear hAB hCP hX hr hz
 unfold zi zM stV
 go_enter Tryz.func36,Tryz.ntmps36
 go_wp2_with fail
 go_at_call 68
 refine (zA HCP _ (zA HAB).bel).mono ?_
 rintro e w1 ⟨Ag,cg,rfl,ho1,hb1⟩
 rw [zA HZ] at ho1 hb1
 have hA1:=(zA HAB).keep hb1
 have hF2:=TblL.start (W:=w1) (W1:=w1.alloc (.cells #[.slice none 0 0,.slice Ag X.gens.length cg] 125)) ho1 hA1.sz rfl
 have hA2:=hA1.keep ((zAS w1 (.cells #[.slice none 0 0,.slice Ag X.gens.length cg] 125)).mono hA1.sz)
 have u0:=hA1.r.e0
 have ls:w.heap.size<w1.heap.size:=by have:=hA1.sz;omega
 have HF2:=zB hF2
 have HA2:=zB hA2
 clear ho1 hb1 hA1 hF2 hA2 HAB HZ HCP
 go_wp2_with fail
 go_loopw [14] (fun x wr=>∃ i:Nat,i≤X.rows.length∧x=.int .i64 (i:Int)∧∃ T m,TblL (w.heap.size+2) w1.heap.size T (.slice Ag X.gens.length cg) X.gens m (dOf (zCB X.rows i) (X.rows.take i)) wr∧ApB w (.slice A X.rows.length cap) (.slice G X.gens.length gcap) (.slice none 0 0) (.slice none 0 0) wr) (fun x _=>X.rows.length - (intOf x).toNat)
 case atStart=>exact ⟨0,Nat.zero_le _,rfl,_,_,zA HF2,zA HA2⟩
 case round =>
  clear HF2 HA2 u0
  obtain ⟨i,hi,rfl,T,m,hF,hA⟩:=hrel
  by_cases hlt:i<X.rows.length
  ·have i0:(0:Int)≤(i:Int):=by omega
   have i1:(i:Int)<(X.rows.length:Int):=by omega
   have hg:=zDD X.rows i hi
   have hfew:=zHr hg
   rw [List.length_take] at hfew
   have hg1:=zDD X.rows (i+1) hlt
   have hsucc:=zEj X.rows i hlt
   have htk:=List.take_succ_eq_append_getElem hlt
   have hrv:=(zA HR).rv i hlt
   unfold zR at hrv
   obtain ⟨b,off,hAe,hrow⟩:=((zA HX).below hA.bel).rows i hlt
   dsimp only at hrow
   rw [zAF _ _ hlt] at hrow hrv
   obtain ⟨r,hrr⟩:∃ r,r=X.rows[i]:=⟨_,rfl⟩
   rw [←hrr] at hrow hrv hsucc htk
   have hset:=(zAd hrv).1
   have hlH:∀ h,(zGT (X.rows.take i) h).length≤60:=fun h=>by
    have h1:(zGT (X.rows.take i) h).length≤(X.rows.take i).length:=List.length_filter_le _ _
    rw [List.length_take] at h1
    omega
   have hTK:=zLz (w.heap.size+2) w1.heap.size T (.slice Ag X.gens.length cg) X.gens m (dOf (zCB X.rows i) (X.rows.take i)) r (wr.alloc (.cells (zH r).toArray 116)) (hF.below (zAS _ _))
    (fun a c hc hac=>by
     have:=zLR hg a c (by simpa [dOf] using hc) hac
     simpa [dOf] using this)
    (by
     show (hsI ((zCB X.rows i).map (·.has)) r.has).Nodup
     rw [←zIe,←hsucc]
     have:=hg1.up
     rw [List.nodup_iff_pairwise_ne,List.pairwise_map]
     exact this.imp fun h=>by omega)
    (by simp only [dOf,List.length_map];omega) hset.1 hset.2 (by simp only [dOf,List.length_map];have:=hlH r.has;omega)
    (fun k=>by
     show (if k<zv r.has then _ else _:List Int).length≤1000
     split
     ·rw [List.length_map];have:=hlH r.has;omega
     ·simp)
   rw [zKE,←hsucc,←htk] at hTK
   obtain ⟨c0,c1,c2,c3,c4,c5,c6,c7,c8,c9,c10⟩:=zg hrow
   have HTK:=zB hTK
   have HA:=zB hA
   have HBN:=zB (hF.sz)
   clear hF hA hg hg1 hsucc htk hrv hrow hTK hset hlH hfew hrr
   subst hAe
   unfold zAD at HTK
   go_wp2_with ((go_at_call 69;refine (zA HTK).mono ?_;rintro e w3 ⟨T',m',rfl,hF3,hb3⟩;have HF3:=zB hF3;have HA3:=zB ((zA HA).keep (((zAS wr (.cells (zH r).toArray 116)).mono (zA HBN)).trans hb3));clear hF3 hb3))
   go_roundw
   case rel=>exact ⟨i+1,by omega,by go_num,_,_,zA HF3,zA HA3⟩
   case measure=>simp [intOf];omega
  ·obtain rfl:i=X.rows.length:=by omega
   rw [List.take_length] at hF
   have hl':(dOf (zCB X.rows X.rows.length) X.rows).hs.length=(za X).length:=by simp [dOf,za]
   have hT:=hF.ownT
   rw [hl'] at hT
   obtain ⟨Ta,Tc,rfl⟩:=zAV hT
   obtain ⟨t0,t1⟩:=hF.cells
   have hS:=zPG hF (zBE X) (zA HR)
   have HS:=zB hS
   have HA:=zB hA
   clear hF hA hT hS hl'
   go_wp2_with ((refine zG rfl 25 (.tmp 2) (.tmp 22) rfl (w.heap.size+1) 0 [.slice Ta (za X).length Tc,.slice Ag X.gens.length cg] rfl rfl (by simp [Value.oneCell']) size71 (zCz (zA HA).s) ?_;intro W5 hW5;have hA5:=(zA HA).give (.slice Ta (za X).length Tc) (.slice Ag X.gens.length cg);have hS5:=(zA HS).putc (b:=w.heap.size+1) (o:=0) (vs:=[.slice Ta (za X).length Tc,.slice Ag X.gens.length cg]) (by omega);rw [←hW5] at hA5 hS5;have HA5:=zB hA5;have HS5:=zB hS5;clear hW5 hA5 hS5))
   have s0:=(zA HA5).s.e0
   have s1:=(zA HA5).s.e1
   refine bodyPost_ret (v:=.agg #[.slice Ta (za X).length Tc,.slice Ag X.gens.length cg]) (by simp [results,Tryz.results36,go_sem,s0,s1]) rfl ⟨Ta,Tc,Ag,cg,rfl,(zA HS5).le (by omega),(zA HA5).bel⟩
end Go.Proofs.YtnbleebilmghcabGreat
set_option maxHeartbeats 4000000
set_option maxRecDepth 8000
namespace Go.Proofs.YtnbleebilmghcabGreat
open Go Go.RowKit
attribute [local go_sem ↓] Go.wp_at_zero Go.wp_at_succ
theorem zMd (A:Option Addr) (cap:Nat) (G:Option Addr) (gcap:Nat) (X:Wd) (w:World) (hX:WldAt w A cap G gcap X) (hr:RightW X) :
  Calls Tryz.prog 13 #[zi A cap G gcap X] w fun e w'=>∃ T tc G' gc',e=.returned (.tuple #[stV T (za X).length tc G' X.gens.length gc',.agg #[.int .i64 0,.int .i64 0]])∧StNew w.heap.size w' T G' (za X) X∧Below w.heap.size w w':=by
 have hw0:=(zf X).2 hr
 obtain ⟨hl,hgl,_⟩:=zk hw0
 have hSB:=SB.startOf w (.slice A X.rows.length cap) (.slice G X.gens.length gcap) 43 25 29
 have hP:=fun W (hb:Below w.heap.size w W)=>zBi A X.rows.length cap G X.gens.length gcap (fun j=>X.rows.getD j dR) (fun j=>X.gens.getD j 0) W (by omega) (hX.below hb).rows (hX.below hb).gens
 have eW:zAT (fun j=>X.rows.getD j dR) X.rows.length X.gens.length (fun j=>X.gens.getD j 0)=zP X:=rfl
 rw [eW] at hP
 unfold zAG zM at hP
 rw [hw0] at hP
 generalize (zP X).2=wa at *
 have hAP:=fun W (hb:Below w.heap.size w W)=>zLo A cap G gcap X W (hX.below hb) hr
 unfold zi zM stV at hAP
 have HSB:=zB hSB
 have HP:=zB hP
 have HAP:=zB hAP
 clear hSB hP hAP hX hr eW hw0
 unfold zi zM stV
 go_enter Tryz.func13,Tryz.ntmps13
 go_wp2_with (first
  | (go_at_call 35;refine (zA HP _ (zA HSB).bel).mono ?_;rintro e w5 ⟨rfl,hb5⟩;have hS5:=(zA HSB).below hb5;have hS6:=hS5.below (zAS w5 (.cells #[.int .i64 0,.int .i64 wa] 29));have r0:=hS6.r0;have r1:=hS6.r1;have HS6:=zB hS6;clear hb5 hS5 hS6)
  | (go_at_call 36;refine (zA HAP _ (zA HS6).bel).mono ?_;rintro e w7 ⟨Ta,Tc,Ag,cg,rfl,hN7,hb7⟩;have HS7:=zB ((zA HS6).below hb7);have HN7:=zB (hN7.le (base':=w.heap.size+3) (zA HS6).sz);clear hN7 hb7 r0 r1)
  | (refine zG rfl 25 (.tmp 2) (.tmp 13) rfl (w.heap.size+1) 0 [.slice Ta (za X).length Tc,.slice Ag X.gens.length cg] rfl rfl (by simp [Value.oneCell']) size71 (zA HS7).thereA ?_;intro W8 hW8;have hs8:=(zA HS7).giveA (.slice Ta (za X).length Tc) (.slice Ag X.gens.length cg);have hn8:=(zA HN7).putc (b:=w.heap.size+1) (o:=0) (vs:=[.slice Ta (za X).length Tc,.slice Ag X.gens.length cg]) (by omega);rw [←hW8] at hs8 hn8;have HS8:=zB hs8;have HN8:=zB hn8;clear hW8 hs8 hn8)
  | (refine zG rfl 29 (.tmp 3) (.tmp 14) rfl (w.heap.size+2) 0 [.int .i64 0,.int .i64 0] rfl rfl (by simp [Value.oneCell']) size43t (zA HS8).thereB ?_;intro W9 hW9;have hs9:=(zA HS8).giveB (.int .i64 0) (.int .i64 0);have hn9:=(zA HN8).putc (b:=w.heap.size+2) (o:=0) (vs:=[.int .i64 0,.int .i64 0]) (by omega);rw [←hW9] at hs9 hn9;have HS9:=zB hs9;have HN9:=zB hn9;clear hW9 hs9 hn9))
 have t0:=(zA HS9).t0
 have t1:=(zA HS9).t1
 have s0:=(zA HS9).s0
 have s1:=(zA HS9).s1
 refine bodyPost_ret (v:=.tuple #[.agg #[.slice Ta (za X).length Tc,.slice Ag X.gens.length cg],.agg #[.int .i64 0,.int .i64 0]]) (by simp [results,Tryz.results13,go_sem,t0,t1,s0,s1]) rfl ⟨Ta,Tc,Ag,cg,rfl,(zA HN9).le (by omega),(zA HS9).bel⟩
end Go.Proofs.YtnbleebilmghcabGreat
namespace Go.Proofs.YtnbleebilmghcabGreat
open Go Go.RowKit
theorem right_empty:RightW emptyW:=(zf emptyW).1 (by decide +kernel)
theorem zDW (base:Nat) (w:World):StNew base w none none (za emptyW) emptyW:=fun W _=>⟨fun j hj=>by simp [za,zCB,emptyW] at hj,fun j hj=>by simp [emptyW] at hj,right_empty,fun t ht=>by simp [za,zCB,emptyW] at ht,fun j hj=>by simp [za,zCB,emptyW] at hj,by simp [za,zCB,emptyW],by simp [za,zCB,emptyW]⟩
end Go.Proofs.YtnbleebilmghcabGreat
