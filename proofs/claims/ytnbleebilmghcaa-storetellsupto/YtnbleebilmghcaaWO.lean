/- SApart0, SApart, SOf, SChg, SChange, SBxs, SFour, SGet, SAlive, SLaw0 -/
import Derived.Test.YtnbleebilmghcaaWG
import Derived.Test.YtnbleebilmghcaaWL
import Derived.Test.YtnbleebilmghcaaWN
set_option linter.all false
namespace Go.Proofs.Ytnbleebilmghcaa
open Go Go.RowKit
attribute [local go_sem ↓] Go.wp_at_zero Go.wp_at_succ
def hasF (rs:List RowI) (h:Int):List RowI:=rs.filter (fun x=>x.has == h)
def dOf (l:List TabI) (rs:List RowI):TblD:=⟨l.map (·.has),fun h=>(hasF rs h).map fun r=>(r.ix,r.gen),fun h k=>if k<zr h then (hasF rs h).map (fun r=>r.v ((zO h 8).getD k 0).toNat) else []⟩
theorem hasF_app (rs:List RowI) (r:RowI) (h:Int):hasF (rs++[r]) h=if h=r.has then hasF rs h++[r] else hasF rs h:=by
 unfold hasF
 rw [List.filter_append]
 by_cases e:h=r.has
 ·subst e;simp
 ·have:(r.has == h)=false:=by simpa using fun e'=>e e'.symm
  simp [this,e]
theorem takeD_dOf (l:List TabI) (rs:List RowI) (r:RowI):takeD (dOf l rs) r=dOf (takeT l r) (rs++[r]):=by
 unfold takeD colD dOf
 simp only [TblD.mk.injEq]
 refine ⟨(hsI_take l r).symm,?_,?_⟩
 ·funext h
  unfold zBe
  rw [hasF_app]
  by_cases e:h=r.has
  ·subst e;simp
  ·simp [e]
 ·funext h k
  rw [hasF_app]
  by_cases e:h=r.has
  ·subst e
   by_cases hk:k<zr r.has
   ·simp [hk]
   ·simp [hk]
  ·simp [e]
theorem zCf {W W':World} {base:Nat} {e:TypeId} {size n:Nat} {v:Value} {xs:List Value} (h:W.ownsRow base e size v n xs) (ha:∀ g,base≤g→g<W.heap.size→W'.heap[g]?=W.heap[g]?):W'.ownsRow base e size v n xs:=by
 refine ⟨h.1,?_⟩
 rcases h.2 with hn | ⟨g,cap,cur,rfl,hb',hgg,rest⟩
 ·exact .inl hn
 ·exact .inr ⟨g,cap,cur,rfl,hb',(ha g hb' (Array.getElem?_eq_some_iff.1 hgg).1).trans hgg,rest⟩
def StNew (base:Nat) (W:World) (T G:Option Addr) (tabs:List TabI) (X:Wd):Prop:=∀ W':World,(∀ g,base≤g→g<W.heap.size→W'.heap[g]?=W.heap[g]?)→StAt W' T G tabs X
section
variable {base:Nat} {W W1:World} {T G:Option Addr} {tabs:List TabI} {X:Wd}
theorem StNew.st (h:StNew base W T G tabs X):StAt W T G tabs X:=h W fun _ _ _=>rfl
theorem StNew.below (h:StNew base W T G tabs X) (hb:Below W.heap.size W W1):StNew base W1 T G tabs X:=fun W' ha=>h W' fun g h1 h2=>(ha g h1 (Nat.lt_of_lt_of_le h2 hb.size)).trans (hb.block g h2)
theorem StNew.le (h:StNew base W T G tabs X) {base':Nat} (hb:base'≤base):StNew base' W T G tabs X:=fun W' ha=>h W' fun g h1 h2=>ha g (Nat.le_trans hb h1) h2
theorem StNew.putc (h:StNew base W T G tabs X) {b o:Nat} {vs:List Value} (hb:b<base):StNew base (W.setCells b o vs) T G tabs X:=fun W' ha=>h W' fun g h1 h2=>(ha g h1 (by rw [heapsz_sets];exact h2)).trans (heap_sets b vs o W g (by omega))
end
theorem TblL.agree {base bx:Nat} {T G:Value} {gens:List Int} {m:TblM} {d:TblD} {W W':World} (h:TblL base bx T G gens m d W) (ha:∀ g,base≤g→g<W.heap.size→W'.heap[g]?=W.heap[g]?):TblL base bx T G gens m d W' :=
 ⟨(ha bx h.lo h.lt).trans h.box,h.lo,zCf h.ownT ha,zCf h.ownG ha,fun x=>zCf (h.ownA x) ha,fun x hx=>zCf (h.ownC x hx) ha,fun x k=>zCf (h.ownK x k) ha,h.sepA,h.sepC,h.sepK,h.sepG,h.out⟩
theorem tab_of {base bx:Nat} {A:Option Addr} {c:Nat} {G:Value} {gens:List Int} {m:TblM} {l:List TabI} {rs:List RowI} {W:World} (h:TblL base bx (.slice A l.length c) G gens m (dOf l rs) W) (hg:Grp l rs):TabsAt W A l:=fun j hj=>by
 have hl:(dOf l rs).hs.length=l.length:=by simp [dOf]
 have hT:=h.ownT
 rw [hl] at hT
 obtain ⟨g,cap,e,_,_⟩:=zAG hT (by omega)
 simp only [Value.slice.injEq,true_and] at e
 obtain ⟨rfl,rfl⟩:=e
 have hx:(dOf l rs).hs[j]'(by rw [hl];exact hj)=l[j].has:=by simp [dOf]
 have hrows:l[j].rows=hasF rs l[j].has:=hg.each _ (List.getElem_mem hj)
 have hB:(dOf l rs).B l[j].has=bsV l[j]:=by unfold bsV;rw [hrows];rfl
 have hL:∀ k,k<zr l[j].has→(dOf l rs).L l[j].has k=colV l[j] k:=fun k hk=>by
  unfold colV
  rw [hrows]
  show (if k<zr l[j].has then _ else _)=_
  rw [if_pos hk]
 obtain ⟨c0,c1,c2⟩:=cellsT_at ((dOf l rs).hs.map (tt m (dOf l rs))) j (by simpa [hl] using hj)
 simp only [List.getElem_map,hx] at c0 c1 c2
 have hmem:l[j].has∈(dOf l rs).hs:=by rw [←hx];exact List.getElem_mem _
 generalize l[j]=t at *
 have oA:=h.ownA t.has
 have hAl:((dOf l rs).B t.has).length=t.rows.length:=by rw [hB,zCQ]
 refine ⟨g,0,rfl,(m.A t.has).1,(m.A t.has).2,(m.C t.has).1,(m.C t.has).2,?_,?_,?_,?_,fun k hk=>?_⟩
 ·rw [Nat.zero_add];exact zf hT c0
 ·rw [Nat.zero_add,←hAl];exact zf hT c1
 ·rw [Nat.zero_add];exact zf hT c2
 ·rw [hB] at oA
  obtain ⟨A',cap',e',hbs⟩:=bs_own oA
  unfold aV at e'
  rw [Value.slice.injEq] at e'
  rw [e'.1]
  exact hbs
 ·obtain ⟨gc,cc,e',_,_⟩:=zAG (h.ownC t.has hmem) (show 0<zr t.has by unfold zr;omega)
  have oC:=h.ownC t.has hmem
  have eC:(m.C t.has).1=some ⟨gc,0,none⟩:=by
   unfold cV at e'
   simp only [Value.slice.injEq,true_and] at e'
   exact e'.1
  rw [e'] at oC
  have oK:=h.ownK t.has k
  rw [hL k hk] at oK
  obtain ⟨A',cap',e2,hI⟩:=zBd oK
  refine ⟨gc,0,eC,A',cap',?_,hI⟩
  rw [Nat.zero_add,←zBN t k,←e2]
  refine zf oC ?_
  have:k<zr t.has:=hk
  simp [this]
theorem grp_few {l:List TabI} {rs:List RowI} (h:Grp l rs):l.length≤rs.length:=by
 rw [←h.perm.length_eq]
 have:∀ l:List TabI,(∀ t∈l,t.rows≠[])→l.length≤(l.flatMap (·.rows)).length:=fun l=>by
  induction l with
  | nil=>intro _;simp
  | cons t l ih =>
   intro hne
   rw [List.flatMap_cons,List.length_append,List.length_cons]
   have h1:=ih fun x hx=>hne x (by simp [hx])
   have h2:=List.length_pos_iff.2 (hne t (by simp))
   omega
 exact this l h.ne
theorem grp_up {l:List TabI} {rs:List RowI} (h:Grp l rs) (i j:Nat) (hj:j<l.length) (hij:i<j):(l[i]'(by omega)).has<l[j].has:=List.pairwise_iff_getElem.1 h.up i j (by omega) hj hij
theorem st_of {base bx:Nat} {A:Option Addr} {c:Nat} {G:Option Addr} {gc:Nat} {X:Wd} {m:TblM} {l:List TabI} {W:World} (h:TblL base bx (.slice A l.length c) (.slice G X.gens.length gc) X.gens m (dOf l X.rows) W) (hg:Grp l X.rows) (hr:RightW X):StNew base W A G l X:=fun W' ha=>by
 have h':=h.agree ha
 have hl60:=(zq ((zk X).2 hr)).1
 have hf:=grp_few hg
 refine ⟨tab_of h' hg,?_,hr,grp_right hr hg,fun j hj=>grp_up hg j (j+1) hj (by omega),hg.perm,by omega⟩
 obtain ⟨A',cap',e,hI⟩:=zBd h'.ownG
 rw [Value.slice.injEq] at e
 rw [e.1]
 exact hI
theorem TblL.start {base:Nat} {W W1:World} {G:Value} {gens:List Int} (hG:W.ownsRow base 3 1 G gens.length (zK gens)) (hb:base≤W.heap.size) (hW:W1=W.alloc (.cells #[.slice none 0 0,G] 151)):TblL base W.heap.size (.slice none 0 0) G gens ⟨fun _=>(none,0),fun _=>(none,0),fun _ _=>.slice none 0 0⟩ (dOf [] []) W1:=by
 have hbl:Below W.heap.size W W1:=by rw [hW];exact zAS _ _
 have hB:∀ h,(dOf [] []).B h=[]:=fun h=>rfl
 have hL:∀ h k,(dOf [] []).L h k=[]:=fun h k=>by show (if k<zr h then _ else _)=_;split <;> rfl
 refine ⟨?_,hb,World.ownsRow_nil _ _ _ _,zZ hG hbl,fun h=>?_,fun h hh=>?_,fun h k=>?_,fun _ _ _=>.inl rfl,fun h _ hh=>?_,fun _ _ _ _ _=>.inl rfl,fun _ _=>(Apt.nil _).symm,fun h _=>⟨rfl,rfl,fun _=>rfl⟩⟩
 ·rw [hW];show (W.heap.push _)[W.heap.size]?=_;simp
 ·exact World.ownsRow_nil _ _ _ _
 ·simp [dOf] at hh
 ·rw [hL];exact World.ownsRow_nil _ _ _ _
 ·simp [dOf] at hh
end Go.Proofs.Ytnbleebilmghcaa
set_option maxHeartbeats 8000000
set_option maxRecDepth 8000
namespace Go.Proofs.Ytnbleebilmghcaa
open Go Go.RowKit
attribute [local go_sem ↓] Go.wp_at_zero Go.wp_at_succ
theorem size71:(Try.prog.info? 71).map (·.size)=some 2:=by kernel_rfl
def zU (X:Wd):List TabI:=zBh X.rows X.rows.length
theorem zBO (X:Wd):Grp (zU X) X.rows:=by
 have:=zCm X.rows X.rows.length (Nat.le_refl _)
 rwa [List.take_length] at this
structure ApB (w:World) (u0 u1 y0 y1:Value) (W:World):Prop where
 bel:Below w.heap.size w W
 sz:w.heap.size+2≤W.heap.size
 r:B13 w.heap.size u0 u1 W
 s:B13 (w.heap.size+1) y0 y1 W
theorem ApB.keep {w W W1:World} {u0 u1 y0 y1:Value} (h:ApB w u0 u1 y0 y1 W) (hb:Below (w.heap.size+2) W W1):ApB w u0 u1 y0 y1 W1 :=
 ⟨h.bel.trans (hb.mono (by omega)),Nat.le_trans h.sz hb.size,h.r.keep (hb.mono (by omega)),h.s.keep hb⟩
theorem ApB.start (w:World) (u0 u1 y0 y1:Value) (s t:TypeId):ApB w u0 u1 y0 y1 ((w.alloc (.cells #[u0,u1] s)).alloc (.cells #[y0,y1] t)):=by
 have h:=BB.start w u0 u1 y0 y1 s t
 exact ⟨h.bel,h.sz,h.r,h.s⟩
theorem ApB.give {w W:World} {u0 u1 y0 y1:Value} (h:ApB w u0 u1 y0 y1 W) (z0 z1:Value):ApB w u0 u1 z0 z1 (W.setCells (w.heap.size+1) 0 [z0,z1]):=by
 have:=BB.give (⟨h.bel,h.sz,h.r,h.s⟩:BB w u0 u1 y0 y1 W) z0 z1
 exact ⟨this.bel,this.sz,this.r,this.s⟩
theorem apart_any (A:Option Addr) (cap:Nat) (G:Option Addr) (gcap:Nat) (X:Wd) (w:World) (hX:WldAt w A cap G gcap X) (hr:RightW X) :
  Calls Try.prog 96 #[zAA A cap G gcap X] w fun e w'=>∃ T tc G' gc',e=.returned (stV T (zU X).length tc G' X.gens.length gc')∧StNew w.heap.size w' T G' (zU X) X∧Below w.heap.size w w':=by
 obtain ⟨hl,hgl,_⟩:=zq ((zk X).2 hr)
 have hAB:=ApB.start w (.slice A X.rows.length cap) (.slice G X.gens.length gcap) (.slice none 0 0) (.slice none 0 0) 38 71
 have hz:(((w.alloc (.cells #[.slice A X.rows.length cap,.slice G X.gens.length gcap] 38)).alloc (.cells #[.slice none 0 0,.slice none 0 0] 71))).heap.size=w.heap.size+2:=by simp
 have hCP:=fun W (hb:Below w.heap.size w W)=>copied_any G gcap X.gens W (by omega) (hX.below hb).gens
 have HZ:=zB hz
 have HX:=zB hX
 have HR:=zB hr
 have HAB:=zB hAB
 have HCP:=zB hCP
 clear hAB hCP hX hr hz
 unfold zAA zQ stV
 go_enter Try.func96,Try.ntmps96
 go_wp2_with fail
 go_at_call 94
 refine (zA HCP _ (zA HAB).bel).mono ?_
 rintro e w1 ⟨Ag,cg,rfl,ho1,hb1⟩
 rw [zA HZ] at ho1 hb1
 have hA1:=(zA HAB).keep hb1
 have hF2:=TblL.start (W:=w1) (W1:=w1.alloc (.cells #[.slice none 0 0,.slice Ag X.gens.length cg] 151)) ho1 hA1.sz rfl
 have hA2:=hA1.keep ((zAS w1 (.cells #[.slice none 0 0,.slice Ag X.gens.length cg] 151)).mono hA1.sz)
 have u0:=hA1.r.e0
 have ls:w.heap.size<w1.heap.size:=by have:=hA1.sz;omega
 have HF2:=zB hF2
 have HA2:=zB hA2
 clear ho1 hb1 hA1 hF2 hA2 HAB HZ HCP
 go_wp2_with fail
 go_loopw [14] (fun x wr=>∃ i:Nat,i≤X.rows.length∧x=.int .i64 (i:Int)∧∃ T m,TblL (w.heap.size+2) w1.heap.size T (.slice Ag X.gens.length cg) X.gens m (dOf (zBh X.rows i) (X.rows.take i)) wr∧ApB w (.slice A X.rows.length cap) (.slice G X.gens.length gcap) (.slice none 0 0) (.slice none 0 0) wr) (fun x _=>X.rows.length - (intOf x).toNat)
 case atStart=>exact ⟨0,Nat.zero_le _,rfl,_,_,zA HF2,zA HA2⟩
 case round =>
  clear HF2 HA2 u0
  obtain ⟨i,hi,rfl,T,m,hF,hA⟩:=hrel
  by_cases hlt:i<X.rows.length
  ·have i0:(0:Int)≤(i:Int):=by omega
   have i1:(i:Int)<(X.rows.length:Int):=by omega
   have hg:=zCm X.rows i hi
   have hfew:=grp_few hg
   rw [List.length_take] at hfew
   have hg1:=zCm X.rows (i+1) hlt
   have hsucc:=tabsTo_succ X.rows i hlt
   have htk:=List.take_succ_eq_append_getElem hlt
   have hrv:=(zA HR).rv i hlt
   unfold zX at hrv
   obtain ⟨b,off,hAe,hrow⟩:=((zA HX).below hA.bel).rows i hlt
   dsimp only at hrow
   rw [zAO _ _ hlt] at hrow hrv
   obtain ⟨r,hrr⟩:∃ r,r=X.rows[i]:=⟨_,rfl⟩
   rw [←hrr] at hrow hrv hsucc htk
   have hset:=(zAt hrv).1
   have hlH:∀ h,(hasF (X.rows.take i) h).length≤60:=fun h=>by
    have h1:(hasF (X.rows.take i) h).length≤(X.rows.take i).length:=List.length_filter_le _ _
    rw [List.length_take] at h1
    omega
   have hTK:=take_any (w.heap.size+2) w1.heap.size T (.slice Ag X.gens.length cg) X.gens m (dOf (zBh X.rows i) (X.rows.take i)) r (wr.alloc (.cells (zI r).toArray 61)) (hF.below (zAS _ _))
    (fun a c hc hac=>by
     have:=grp_up hg a c (by simpa [dOf] using hc) hac
     simpa [dOf] using this)
    (by
     show (hsI ((zBh X.rows i).map (·.has)) r.has).Nodup
     rw [←hsI_take,←hsucc]
     have:=hg1.up
     rw [List.nodup_iff_pairwise_ne,List.pairwise_map]
     exact this.imp fun h=>by omega)
    (by simp only [dOf,List.length_map];omega) hset.1 hset.2 (by simp only [dOf,List.length_map];have:=hlH r.has;omega)
    (fun k=>by
     show (if k<zr r.has then _ else _:List Int).length≤1000
     split
     ·rw [List.length_map];have:=hlH r.has;omega
     ·simp)
   rw [takeD_dOf,←hsucc,←htk] at hTK
   obtain ⟨c0,c1,c2,c3,c4,c5,c6,c7,c8,c9,c10⟩:=zi hrow
   have HTK:=zB hTK
   have HA:=zB hA
   have HBN:=zB (hF.sz)
   clear hF hA hg hg1 hsucc htk hrv hrow hTK hset hlH hfew hrr
   subst hAe
   unfold zm at HTK
   go_wp2_with ((go_at_call 125;refine (zA HTK).mono ?_;rintro e w3 ⟨T',m',rfl,hF3,hb3⟩;have HF3:=zB hF3;have HA3:=zB ((zA HA).keep (((zAS wr (.cells (zI r).toArray 61)).mono (zA HBN)).trans hb3));clear hF3 hb3))
   go_roundw
   case rel=>exact ⟨i+1,by omega,by go_num,_,_,zA HF3,zA HA3⟩
   case measure=>simp [intOf];omega
  ·obtain rfl:i=X.rows.length:=by omega
   rw [List.take_length] at hF
   have hl':(dOf (zBh X.rows X.rows.length) X.rows).hs.length=(zU X).length:=by simp [dOf,zU]
   have hT:=hF.ownT
   rw [hl'] at hT
   obtain ⟨Ta,Tc,rfl⟩:=zAK hT
   obtain ⟨t0,t1⟩:=hF.cells
   have hS:=st_of hF (zBO X) (zA HR)
   have HS:=zB hS
   have HA:=zB hA
   clear hF hA hT hS hl'
   go_wp2_with ((refine zG rfl 71 (.tmp 2) (.tmp 22) rfl (w.heap.size+1) 0 [.slice Ta (zU X).length Tc,.slice Ag X.gens.length cg] rfl rfl (by simp [Value.oneCell']) size71 (zAX (zA HA).s) ?_;intro W5 hW5;have hA5:=(zA HA).give (.slice Ta (zU X).length Tc) (.slice Ag X.gens.length cg);have hS5:=(zA HS).putc (b:=w.heap.size+1) (o:=0) (vs:=[.slice Ta (zU X).length Tc,.slice Ag X.gens.length cg]) (by omega);rw [←hW5] at hA5 hS5;have HA5:=zB hA5;have HS5:=zB hS5;clear hW5 hA5 hS5))
   have s0:=(zA HA5).s.e0
   have s1:=(zA HA5).s.e1
   refine bodyPost_ret (v:=.agg #[.slice Ta (zU X).length Tc,.slice Ag X.gens.length cg]) (by simp [results,Try.results96,go_sem,s0,s1]) rfl ⟨Ta,Tc,Ag,cg,rfl,(zA HS5).le (by omega),(zA HA5).bel⟩
end Go.Proofs.Ytnbleebilmghcaa
set_option maxHeartbeats 4000000
set_option maxRecDepth 8000
namespace Go.Proofs.Ytnbleebilmghcaa
open Go Go.RowKit
attribute [local go_sem ↓] Go.wp_at_zero Go.wp_at_succ
theorem of_right (A:Option Addr) (cap:Nat) (G:Option Addr) (gcap:Nat) (X:Wd) (w:World) (hX:WldAt w A cap G gcap X) (hr:RightW X) :
  Calls Try.prog 60 #[zAA A cap G gcap X] w fun e w'=>∃ T tc G' gc',e=.returned (.tuple #[stV T (zU X).length tc G' X.gens.length gc',.agg #[.int .i64 0,.int .i64 0]])∧StNew w.heap.size w' T G' (zU X) X∧Below w.heap.size w w':=by
 have hw0:=(zk X).2 hr
 obtain ⟨hl,hgl,_⟩:=zq hw0
 have hSB:=SB.startOf w (.slice A X.rows.length cap) (.slice G X.gens.length gcap) 38 71 43
 have hP:=fun W (hb:Below w.heap.size w W)=>zBC A X.rows.length cap G X.gens.length gcap (fun j=>X.rows.getD j dR) (fun j=>X.gens.getD j 0) W (by omega) (hX.below hb).rows (hX.below hb).gens
 have eW:zAL (fun j=>X.rows.getD j dR) X.rows.length X.gens.length (fun j=>X.gens.getD j 0)=zN X:=rfl
 rw [eW] at hP
 unfold zAE zQ at hP
 rw [hw0] at hP
 generalize (zN X).2=wa at *
 have hAP:=fun W (hb:Below w.heap.size w W)=>apart_any A cap G gcap X W (hX.below hb) hr
 unfold zAA zQ stV at hAP
 have HSB:=zB hSB
 have HP:=zB hP
 have HAP:=zB hAP
 clear hSB hP hAP hX hr eW hw0
 unfold zAA zQ stV
 go_enter Try.func60,Try.ntmps60
 go_wp2_with (first
  | (go_at_call 34;refine (zA HP _ (zA HSB).bel).mono ?_;rintro e w5 ⟨rfl,hb5⟩;have hS5:=(zA HSB).below hb5;have hS6:=hS5.below (zAS w5 (.cells #[.int .i64 0,.int .i64 wa] 43));have r0:=hS6.r0;have r1:=hS6.r1;have HS6:=zB hS6;clear hb5 hS5 hS6)
  | (go_at_call 96;refine (zA HAP _ (zA HS6).bel).mono ?_;rintro e w7 ⟨Ta,Tc,Ag,cg,rfl,hN7,hb7⟩;have HS7:=zB ((zA HS6).below hb7);have HN7:=zB (hN7.le (base':=w.heap.size+3) (zA HS6).sz);clear hN7 hb7 r0 r1)
  | (refine zG rfl 71 (.tmp 2) (.tmp 13) rfl (w.heap.size+1) 0 [.slice Ta (zU X).length Tc,.slice Ag X.gens.length cg] rfl rfl (by simp [Value.oneCell']) size71 (zA HS7).thereA ?_;intro W8 hW8;have hs8:=(zA HS7).giveA (.slice Ta (zU X).length Tc) (.slice Ag X.gens.length cg);have hn8:=(zA HN7).putc (b:=w.heap.size+1) (o:=0) (vs:=[.slice Ta (zU X).length Tc,.slice Ag X.gens.length cg]) (by omega);rw [←hW8] at hs8 hn8;have HS8:=zB hs8;have HN8:=zB hn8;clear hW8 hs8 hn8)
  | (refine zG rfl 43 (.tmp 3) (.tmp 14) rfl (w.heap.size+2) 0 [.int .i64 0,.int .i64 0] rfl rfl (by simp [Value.oneCell']) size43t (zA HS8).thereB ?_;intro W9 hW9;have hs9:=(zA HS8).giveB (.int .i64 0) (.int .i64 0);have hn9:=(zA HN8).putc (b:=w.heap.size+2) (o:=0) (vs:=[.int .i64 0,.int .i64 0]) (by omega);rw [←hW9] at hs9 hn9;have HS9:=zB hs9;have HN9:=zB hn9;clear hW9 hs9 hn9))
 have t0:=(zA HS9).t0
 have t1:=(zA HS9).t1
 have s0:=(zA HS9).s0
 have s1:=(zA HS9).s1
 refine bodyPost_ret (v:=.tuple #[.agg #[.slice Ta (zU X).length Tc,.slice Ag X.gens.length cg],.agg #[.int .i64 0,.int .i64 0]]) (by simp [results,Try.results60,go_sem,t0,t1,s0,s1]) rfl ⟨Ta,Tc,Ag,cg,rfl,(zA HN9).le (by omega),(zA HS9).bel⟩
theorem of_wrong (A:Option Addr) (cap:Nat) (G:Option Addr) (gcap:Nat) (X:Wd) (w:World) (hn0:X.rows.length≤9223372036854775807) (hX:WldAt w A cap G gcap X) (hw0:(zN X).1≠0) :
  Calls Try.prog 60 #[zAA A cap G gcap X] w fun e w'=>e=.returned (.tuple #[stV none 0 0 none 0 0,.agg #[.int .i64 (zN X).1,.int .i64 (zN X).2]])∧Below w.heap.size w w':=by
 have hSB:=SB.startOf w (.slice A X.rows.length cap) (.slice G X.gens.length gcap) 38 71 43
 have hP:=fun W (hb:Below w.heap.size w W)=>zBC A X.rows.length cap G X.gens.length gcap (fun j=>X.rows.getD j dR) (fun j=>X.gens.getD j 0) W (by omega) (hX.below hb).rows (hX.below hb).gens
 have eW:zAL (fun j=>X.rows.getD j dR) X.rows.length X.gens.length (fun j=>X.gens.getD j 0)=zN X:=rfl
 rw [eW] at hP
 unfold zAE zQ at hP
 generalize (zN X).2=wa at *
 generalize (zN X).1=we at *
 have HSB:=zB hSB
 have HP:=zB hP
 clear hSB hP hX eW hn0
 unfold zAA zQ stV
 go_enter Try.func60,Try.ntmps60
 go_wp2_with (first
  | (go_at_call 34;refine (zA HP _ (zA HSB).bel).mono ?_;rintro e w5 ⟨rfl,hb5⟩;have hS5:=(zA HSB).below hb5;have HZ5:=zB hS5.sz;have hS6:=hS5.below (zAS w5 (.cells #[.int .i64 we,.int .i64 wa] 43));have HS6:=zB hS6;clear hb5 hS5 hS6))
 have h0:(∃ z0 z1,SB w (.slice A X.rows.length cap) (.slice G X.gens.length gcap) (.slice none 0 0) (.slice none 0 0) z0 z1 (w5.alloc (.cells #[.int .i64 we,.int .i64 wa] 43)).drew∧(w5.alloc (.cells #[.int .i64 we,.int .i64 wa] 43)).drew.cell? ⟨w5.heap.size,0,none⟩=some (.int .i64 we)∧(w5.alloc (.cells #[.int .i64 we,.int .i64 wa] 43)).drew.cell? ⟨w5.heap.size,1,none⟩=some (.int .i64 wa)∧((fun (_:Nat)=>false) 3=true→z0=.int .i64 we∧z1=.int .i64 wa)):=⟨_,_,(zA HS6).below (Below.refl _ _).drew,by show (w5.alloc (.cells #[.int .i64 we,.int .i64 wa] 43)).cell? ⟨w5.heap.size,0,none⟩=_;simp,by show (w5.alloc (.cells #[.int .i64 we,.int .i64 wa] 43)).cell? ⟨w5.heap.size,1,none⟩=_;simp,fun e=>by cases e⟩
 refine zc (fun (γ:Unit) ix v=>(([fun v=>v=.agg #[.slice none 0 0,.slice none 0 0],fun v=>v=.agg #[.int .i64 we,.int .i64 wa],fun _=>True,fun _=>True]:List (Value→Prop)).getD ix (fun _=>True)) v) (fun (_:Unit) L W=>∃ z0 z1,SB w (.slice A X.rows.length cap) (.slice G X.gens.length gcap) (.slice none 0 0) (.slice none 0 0) z0 z1 W∧W.cell? ⟨w5.heap.size,0,none⟩=some (.int .i64 we)∧W.cell? ⟨w5.heap.size,1,none⟩=some (.int .i64 wa)∧(L 3=true→z0=.int .i64 we∧z1=.int .i64 wa)) (()) (by kernel_rfl) (by kernel_rfl) (by kernel_rfl) h0 ?hstep ?hend
 case hstep =>
  intro γ ix o ho L ac w1 hD hL hed hcl hout hv
  match ix,ho with
  | 0,ho =>
   simp at ho
   subst ho
   exact .inl ⟨rfl,zC γ (.agg #[.slice none 0 0,.slice none 0 0]) (by simp [go_sem,Act.eval,-Array.getD_eq_getD_getElem?,]) rfl (by obtain ⟨z0,z1,a,b,c,e⟩:=hD;exact ⟨z0,z1,a,b,c,by rw [zJ (by decide)];exact e⟩) (fun _ _ _ _ h=>h)⟩
  | 1,ho =>
   simp at ho
   subst ho
   have e4:ac.tmps.getD 4 undef=.pointer (some ⟨w5.heap.size,0,none⟩):=hout 4 (by decide +kernel)
   have c0:=(let ⟨_,_,_,c0,_,_⟩:=hD;c0)
   have c1:=(let ⟨_,_,_,_,c1,_⟩:=hD;c1)
   exact .inl ⟨rfl,zC γ (.agg #[.int .i64 we,.int .i64 wa]) (by simp [go_sem,Act.eval,-Array.getD_eq_getD_getElem?,e4,c0,c1]) rfl (by obtain ⟨z0,z1,a,b,c,e⟩:=hD;exact ⟨z0,z1,a,b,c,by rw [zJ (by decide)];exact e⟩) (fun _ _ _ _ h=>h)⟩
  | 2,ho =>
   simp at ho
   subst ho
   have e2:ac.tmps.getD 2 undef=.pointer (some ⟨w.heap.size+1,0,none⟩):=hout 2 (by decide +kernel)
   have e10:ac.tmps.getD 10 undef=.agg #[.slice none 0 0,.slice none 0 0]:=hv 0 10 rfl (by kernel_rfl)
   obtain ⟨z0,z1,a,b,c,e⟩:=hD
   exact .inl ⟨rfl,zBL γ 71 (.tmp 2) (.tmp 10) rfl (w.heap.size+1) 0 [.slice none 0 0,.slice none 0 0] (by simp [Act.eval,-Array.getD_eq_getD_getElem?,e2]) (by simp [Act.eval,-Array.getD_eq_getD_getElem?,e10]) (by simp [Value.oneCell']) size71 a.thereA trivial ⟨z0,z1,a.giveA _ _,(zS (by have:=zA HZ5;simp only [ne_eq];omega)).trans b,(zS (by have:=zA HZ5;simp only [ne_eq];omega)).trans c,by rw [zJ (by decide)];exact e⟩ (fun _ _ _ _ h=>h)⟩
  | 3,ho =>
   simp at ho
   subst ho
   have e3:ac.tmps.getD 3 undef=.pointer (some ⟨w.heap.size+2,0,none⟩):=hout 3 (by decide +kernel)
   have e11:ac.tmps.getD 11 undef=.agg #[.int .i64 we,.int .i64 wa]:=hv 1 11 rfl (by kernel_rfl)
   obtain ⟨z0,z1,a,b,c,e⟩:=hD
   exact .inl ⟨rfl,zBL γ 43 (.tmp 3) (.tmp 11) rfl (w.heap.size+2) 0 [.int .i64 we,.int .i64 wa] (by simp [Act.eval,-Array.getD_eq_getD_getElem?,e3]) (by simp [Act.eval,-Array.getD_eq_getD_getElem?,e11]) (by simp [Value.oneCell']) size43t a.thereB trivial ⟨_,_,a.giveB _ _,(zS (by have:=zA HZ5;simp only [ne_eq];omega)).trans b,(zS (by have:=zA HZ5;simp only [ne_eq];omega)).trans c,fun _=>⟨rfl,rfl⟩⟩ (fun _ _ _ _ h=>h)⟩
  | ix+4,ho=>simp at ho
 case hend =>
  intro γ v L w9 hD hall hv
  obtain ⟨z0,z1,hS,_,_,hz⟩:=hD
  obtain ⟨rfl,rfl⟩:=hz (hall 3 (by decide))
  have HS9:=zB hS
  clear hv hall hS hz h0
  simp only [zt,List.getElem?_cons_zero,List.getElem?_cons_succ,Option.bind_some,List.length_cons,List.length_nil,Nat.reduceAdd]
  go_frame
  go_wp2
  have t0:=(zA HS9).t0
  have t1:=(zA HS9).t1
  have s0:=(zA HS9).s0
  have s1:=(zA HS9).s1
  refine bodyPost_ret (v:=.tuple #[.agg #[.slice none 0 0,.slice none 0 0],.agg #[.int .i64 we,.int .i64 wa]]) (by simp [results,Try.results60,go_sem,t0,t1,s0,s1]) rfl ⟨rfl,(zA HS9).bel⟩
end Go.Proofs.Ytnbleebilmghcaa
set_option maxHeartbeats 4000000
set_option maxRecDepth 8000
namespace Go.Proofs.Ytnbleebilmghcaa
open Go Go.RowKit
attribute [local go_sem ↓] Go.wp_at_zero Go.wp_at_succ
theorem heap_setCell_congr {w w':World} (a:Addr) (u:Value) (k:Nat) (h:w'.heap[k]?=w.heap[k]?):(w'.setCell a u).heap[k]?=(w.setCell a u).heap[k]?:=by
 simp only [World.setCell,Array.getElem?_modify]
 split <;> simp [h]
theorem below_both {S cb:Nat}:∀ (vs:List Value) (o:Nat) (w w':World),Below S w w'→Below S (w.setCells cb o vs) (w'.setCells cb o vs)
 | [],_,_,_,h=>h
 | u :: r,o,w,w',h=>below_both r (o+1) _ _ ⟨h.os,h.tape,h.output,by simpa [World.setCell] using h.size,fun k hk=>heap_setCell_congr ⟨cb,o,none⟩ u k (h.block k hk)⟩
structure B2 (B:Nat) (u0 u1 y0 y1:Value) (W:World):Prop where
 sz:B+2≤W.heap.size
 r:B13 B u0 u1 W
 s:B13 (B+1) y0 y1 W
theorem B2.below {B:Nat} {u0 u1 y0 y1:Value} {W W1:World} (h:B2 B u0 u1 y0 y1 W) (hb:Below W.heap.size W W1):B2 B u0 u1 y0 y1 W1 :=
 ⟨Nat.le_trans h.sz hb.size,h.r.keep (hb.mono (by have:=h.sz;omega)),h.s.keep (hb.mono h.sz)⟩
theorem B2.start (w:World) (u0 u1 y0 y1:Value) (s t:TypeId):B2 w.heap.size u0 u1 y0 y1 ((w.alloc (.cells #[u0,u1] s)).alloc (.cells #[y0,y1] t)):=by
 have h:=BB.start w u0 u1 y0 y1 s t
 exact ⟨h.sz,h.r,h.s⟩
theorem B13.sets {b cb o:Nat} {u v:Value} {vs:List Value} {W:World} (h:B13 b u v W) (hb:b≠cb):B13 b u v (W.setCells cb o vs) :=
 ⟨(zS hb).trans h.e0,(zS hb).trans h.e1,fun i=>by rw [World.frozen?_setCells];exact h.f i⟩
theorem B2.turn {B cb o:Nat} {u0 u1 y0 y1:Value} {vs:List Value} {W:World} (h:B2 B u0 u1 y0 y1 W) (hcb:cb<B):B2 B u0 u1 y0 y1 (W.setCells cb o vs) :=
 ⟨by rw [zAD];exact h.sz,h.r.sets (by omega),h.s.sets (by omega)⟩
theorem B2.give {B:Nat} {u0 u1 y0 y1:Value} {W:World} (h:B2 B u0 u1 y0 y1 W) (z0 z1:Value):B2 B u0 u1 z0 z1 (W.setCells (B+1) 0 [z0,z1]):=by
 have hb:Below (B+1) W (W.setCells (B+1) 0 [z0,z1]):=zM (B+1) (Nat.le_refl _) [z0,z1] 0 W (Below.refl _ _)
 exact ⟨Nat.le_trans h.sz hb.size,h.r.keep hb,b13_give h.s z0 z1⟩
def zCS (fid:FuncId) (caps:List Value) (X Y:Wd) (err:Int) (cb:Nat) (vs:List Value) (w:World):Prop:=∀ A c G gc W,WldAt W A c G gc X→Below w.heap.size w W→Calls Try.prog fid (zAA A c G gc X :: caps).toArray W fun e w'=>∃ A' c' G' gc',e=.returned (.tuple #[zAA A' c' G' gc' Y,.int .i64 err])∧WldNew W.heap.size w' A' c' G' gc' Y∧Below W.heap.size (W.setCells cb 0 vs) w'
theorem becomes_kill (X:Wd) (b:Nat) (g i:Int) (w:World) (hl:X.rows.length≤60) (h0:w.cell? ⟨b,0,none⟩=some (.int .i64 i)) (h1:w.cell? ⟨b,1,none⟩=some (.int .i64 g)):zCS 100 [.pointer (some ⟨b,0,none⟩)] X (zAR X i g).2 (zAR X i g).1 0 [] w:=by
 intro A c G gc W hX hbw
 have hB:=B2.start W (.slice A X.rows.length c) (.slice G X.gens.length gc) (.slice none 0 0) (.slice none 0 0) 38 38
 have hb2:=zBs W (.cells #[.slice A X.rows.length c,.slice G X.gens.length gc] 38) (.cells #[.slice none 0 0,.slice none 0 0] 38)
 have g0:=zD hb2 (zD hbw h0)
 have g1:=zD hb2 (zD hbw h1)
 have hC:=fun W2 (hb:Below W.heap.size W W2)=>kill_any A c G gc X i g W2 (by omega) (hX.below hb)
 obtain ⟨Y,hY⟩:∃ Y,Y=(zAR X i g).2:=⟨_,rfl⟩
 obtain ⟨err,herr⟩:∃ err,err=(zAR X i g).1:=⟨_,rfl⟩
 rw [←hY,←herr] at hC ⊢
 unfold zAA zQ zW at hC
 have HC:=zB hC
 have HB:=zB hB
 have HB2:=zB hb2
 clear hC hB hX hbw hY herr h0 h1
 show Calls Try.prog 100 #[zAA A c G gc X,.pointer (some ⟨b,0,none⟩)] W _
 unfold zAA zQ
 go_enter Try.func100,Try.ntmps100
 go_wp2_with (first
  | (go_at_call 42;refine (zA HC _ (zA HB2)).mono ?_;rintro e w1 ⟨A1,c1,G1,gc1,rfl,hN1,hb1⟩;have HB3:=zB ((zA HB).below hb1);have HN1:=zB hN1;have HBL:=zB ((zA HB2).trans (hb1.mono (zA HB2).size));clear hN1 hb1 g0 g1)
  | (refine zG rfl 38 (.tmp 3) (.tmp 8) rfl (W.heap.size+1) 0 [.slice A1 Y.rows.length c1,.slice G1 Y.gens.length gc1] rfl rfl (by simp [Value.oneCell']) size38 (zAX (zA HB3).s) ?_;intro W4 hW4;have hB4:=(zA HB3).give (.slice A1 Y.rows.length c1) (.slice G1 Y.gens.length gc1);have hN4:=zAY (zA HN1) (b:=W.heap.size+1) (o:=0) (vs:=[.slice A1 Y.rows.length c1,.slice G1 Y.gens.length gc1]) (by have:=(zA HB).sz;omega);have hL4:=zM (W.heap.size+1) (by omega) [.slice A1 Y.rows.length c1,.slice G1 Y.gens.length gc1] 0 w1 (zA HBL);rw [←hW4] at hB4 hN4 hL4;have HB4:=zB hB4;have HN4:=zB hN4;have HL4:=zB hL4;clear hW4 hB4 hN4 hL4))
 have t0:=(zA HB4).s.e0
 have t1:=(zA HB4).s.e1
 refine bodyPost_ret (v:=.tuple #[.agg #[.slice A1 Y.rows.length c1,.slice G1 Y.gens.length gc1],.int .i64 err]) (by simp [results,Try.results100,go_sem,t0,t1]) rfl ⟨A1,c1,G1,gc1,rfl,zBu (zA HN4) (by have:=(zA HB).sz;omega),zA HL4⟩
theorem becomes_put (X:Wd) (b bp bn:Nat) (g i n p:Int) (w:World) (hl:X.rows.length≤60) (h0:w.cell? ⟨b,0,none⟩=some (.int .i64 i)) (h1:w.cell? ⟨b,1,none⟩=some (.int .i64 g)) (h2:w.cell? ⟨bp,0,none⟩=some (.int .i64 p)) (h3:w.cell? ⟨bn,0,none⟩=some (.int .i64 n)):zCS 99 [.pointer (some ⟨b,0,none⟩),.pointer (some ⟨bp,0,none⟩),.pointer (some ⟨bn,0,none⟩)] X (zBy X i g p n).2 (zBy X i g p n).1 0 [] w:=by
 intro A c G gc W hX hbw
 have hB:=B2.start W (.slice A X.rows.length c) (.slice G X.gens.length gc) (.slice none 0 0) (.slice none 0 0) 38 38
 have hb2:=zBs W (.cells #[.slice A X.rows.length c,.slice G X.gens.length gc] 38) (.cells #[.slice none 0 0,.slice none 0 0] 38)
 have g0:=zD hb2 (zD hbw h0)
 have g1:=zD hb2 (zD hbw h1)
 have g2:=zD hb2 (zD hbw h2)
 have g3:=zD hb2 (zD hbw h3)
 have hC:=fun W2 (hb:Below W.heap.size W W2)=>put_any A c G gc X i g p n W2 (by omega) (hX.below hb)
 obtain ⟨Y,hY⟩:∃ Y,Y=(zBy X i g p n).2:=⟨_,rfl⟩
 obtain ⟨err,herr⟩:∃ err,err=(zBy X i g p n).1:=⟨_,rfl⟩
 rw [←hY,←herr] at hC ⊢
 unfold zAA zQ zW at hC
 have HC:=zB hC
 have HB:=zB hB
 have HB2:=zB hb2
 clear hC hB hX hbw hY herr h0 h1 h2 h3
 show Calls Try.prog 99 #[zAA A c G gc X,.pointer (some ⟨b,0,none⟩),.pointer (some ⟨bp,0,none⟩),.pointer (some ⟨bn,0,none⟩)] W _
 unfold zAA zQ
 go_enter Try.func99,Try.ntmps99
 go_wp2_with (first
  | (go_at_call 44;refine (zA HC _ (zA HB2)).mono ?_;rintro e w1 ⟨A1,c1,G1,gc1,rfl,hN1,hb1⟩;have HB3:=zB ((zA HB).below hb1);have HN1:=zB hN1;have HBL:=zB ((zA HB2).trans (hb1.mono (zA HB2).size));clear hN1 hb1 g0 g1 g2 g3)
  | (refine zG rfl 38 (.tmp 5) (.tmp 12) rfl (W.heap.size+1) 0 [.slice A1 Y.rows.length c1,.slice G1 Y.gens.length gc1] rfl rfl (by simp [Value.oneCell']) size38 (zAX (zA HB3).s) ?_;intro W4 hW4;have hB4:=(zA HB3).give (.slice A1 Y.rows.length c1) (.slice G1 Y.gens.length gc1);have hN4:=zAY (zA HN1) (b:=W.heap.size+1) (o:=0) (vs:=[.slice A1 Y.rows.length c1,.slice G1 Y.gens.length gc1]) (by have:=(zA HB).sz;omega);have hL4:=zM (W.heap.size+1) (by omega) [.slice A1 Y.rows.length c1,.slice G1 Y.gens.length gc1] 0 w1 (zA HBL);rw [←hW4] at hB4 hN4 hL4;have HB4:=zB hB4;have HN4:=zB hN4;have HL4:=zB hL4;clear hW4 hB4 hN4 hL4))
 have t0:=(zA HB4).s.e0
 have t1:=(zA HB4).s.e1
 refine bodyPost_ret (v:=.tuple #[.agg #[.slice A1 Y.rows.length c1,.slice G1 Y.gens.length gc1],.int .i64 err]) (by simp [results,Try.results99,go_sem,t0,t1]) rfl ⟨A1,c1,G1,gc1,rfl,zBu (zA HN4) (by have:=(zA HB).sz;omega),zA HL4⟩
theorem becomes_drop (X:Wd) (b bp:Nat) (g i p:Int) (w:World) (hl:X.rows.length≤60) (h0:w.cell? ⟨b,0,none⟩=some (.int .i64 i)) (h1:w.cell? ⟨b,1,none⟩=some (.int .i64 g)) (h2:w.cell? ⟨bp,0,none⟩=some (.int .i64 p)):zCS 101 [.pointer (some ⟨b,0,none⟩),.pointer (some ⟨bp,0,none⟩)] X (zAU X i g p).2 (zAU X i g p).1 0 [] w:=by
 intro A c G gc W hX hbw
 have hB:=B2.start W (.slice A X.rows.length c) (.slice G X.gens.length gc) (.slice none 0 0) (.slice none 0 0) 38 38
 have hb2:=zBs W (.cells #[.slice A X.rows.length c,.slice G X.gens.length gc] 38) (.cells #[.slice none 0 0,.slice none 0 0] 38)
 have g0:=zD hb2 (zD hbw h0)
 have g1:=zD hb2 (zD hbw h1)
 have g2:=zD hb2 (zD hbw h2)
 have hC:=fun W2 (hb:Below W.heap.size W W2)=>drop_any A c G gc X i g p W2 (by omega) (hX.below hb)
 obtain ⟨Y,hY⟩:∃ Y,Y=(zAU X i g p).2:=⟨_,rfl⟩
 obtain ⟨err,herr⟩:∃ err,err=(zAU X i g p).1:=⟨_,rfl⟩
 rw [←hY,←herr] at hC ⊢
 unfold zAA zQ zW at hC
 have HC:=zB hC
 have HB:=zB hB
 have HB2:=zB hb2
 clear hC hB hX hbw hY herr h0 h1 h2
 show Calls Try.prog 101 #[zAA A c G gc X,.pointer (some ⟨b,0,none⟩),.pointer (some ⟨bp,0,none⟩)] W _
 unfold zAA zQ
 go_enter Try.func101,Try.ntmps101
 go_wp2_with (first
  | (go_at_call 46;refine (zA HC _ (zA HB2)).mono ?_;rintro e w1 ⟨A1,c1,G1,gc1,rfl,hN1,hb1⟩;have HB3:=zB ((zA HB).below hb1);have HN1:=zB hN1;have HBL:=zB ((zA HB2).trans (hb1.mono (zA HB2).size));clear hN1 hb1 g0 g1 g2)
  | (refine zG rfl 38 (.tmp 4) (.tmp 10) rfl (W.heap.size+1) 0 [.slice A1 Y.rows.length c1,.slice G1 Y.gens.length gc1] rfl rfl (by simp [Value.oneCell']) size38 (zAX (zA HB3).s) ?_;intro W4 hW4;have hB4:=(zA HB3).give (.slice A1 Y.rows.length c1) (.slice G1 Y.gens.length gc1);have hN4:=zAY (zA HN1) (b:=W.heap.size+1) (o:=0) (vs:=[.slice A1 Y.rows.length c1,.slice G1 Y.gens.length gc1]) (by have:=(zA HB).sz;omega);have hL4:=zM (W.heap.size+1) (by omega) [.slice A1 Y.rows.length c1,.slice G1 Y.gens.length gc1] 0 w1 (zA HBL);rw [←hW4] at hB4 hN4 hL4;have HB4:=zB hB4;have HN4:=zB hN4;have HL4:=zB hL4;clear hW4 hB4 hN4 hL4))
 have t0:=(zA HB4).s.e0
 have t1:=(zA HB4).s.e1
 refine bodyPost_ret (v:=.tuple #[.agg #[.slice A1 Y.rows.length c1,.slice G1 Y.gens.length gc1],.int .i64 err]) (by simp [results,Try.results101,go_sem,t0,t1]) rfl ⟨A1,c1,G1,gc1,rfl,zBu (zA HN4) (by have:=(zA HB).sz;omega),zA HL4⟩
theorem becomes_spawn (X:Wd) (bh bn cb:Nat) (has n:Int) (w:World) (hl:X.rows.length≤60) (h0:w.cell? ⟨bh,0,none⟩=some (.int .i64 has)) (h1:w.cell? ⟨bn,0,none⟩=some (.int .i64 n)) {v0 v1:Value} (h2:B13 cb v0 v1 w) (hcl:cb<w.heap.size) :
  zCS 98 [.pointer (some ⟨bh,0,none⟩),.pointer (some ⟨bn,0,none⟩),.pointer (some ⟨cb,0,none⟩)] X (zh X has n).2.2 (zh X has n).1 cb [.int .i64 (zh X has n).2.1.1,.int .i64 (zh X has n).2.1.2] w:=by
 intro A c G gc W hX hbw
 have hB:=B2.start W (.slice A X.rows.length c) (.slice G X.gens.length gc) (.slice none 0 0) (.slice none 0 0) 38 38
 have hb2:=zBs W (.cells #[.slice A X.rows.length c,.slice G X.gens.length gc] 38) (.cells #[.slice none 0 0,.slice none 0 0] 38)
 have g0:=zD hb2 (zD hbw h0)
 have g1:=zD hb2 (zD hbw h1)
 have hC:=fun W2 (hb:Below W.heap.size W W2)=>spawn_any A c G gc X has n W2 (by omega) (hX.below hb)
 obtain ⟨Y,hY⟩:∃ Y,Y=(zh X has n).2.2:=⟨_,rfl⟩
 obtain ⟨err,herr⟩:∃ err,err=(zh X has n).1:=⟨_,rfl⟩
 obtain ⟨ci,hci⟩:∃ ci,ci=(zh X has n).2.1.1:=⟨_,rfl⟩
 obtain ⟨cg,hcg⟩:∃ cg,cg=(zh X has n).2.1.2:=⟨_,rfl⟩
 rw [←hY,←herr,←hci,←hcg] at hC ⊢
 unfold zAA zQ zW at hC
 have hcW:B13 cb v0 v1 W:=h2.keep (hbw.mono (by omega))
 have hclW:cb<W.heap.size:=Nat.lt_of_lt_of_le hcl hbw.size
 have HC:=zB hC
 have HB:=zB hB
 have HB2:=zB hb2
 have HCW:=zB hcW
 have HCL:=zB hclW
 clear hC hB hX hbw hY herr hci hcg h0 h1 h2 hcl hcW hclW
 show Calls Try.prog 98 #[zAA A c G gc X,.pointer (some ⟨bh,0,none⟩),.pointer (some ⟨bn,0,none⟩),.pointer (some ⟨cb,0,none⟩)] W _
 unfold zAA zQ
 go_enter Try.func98,Try.ntmps98
 go_wp2_with (first
  | (go_at_call 40;refine (zA HC _ (zA HB2)).mono ?_;rintro e w1 ⟨A1,c1,G1,gc1,rfl,hN1,hb1⟩;have HB3:=zB ((zA HB).below hb1);have HN1:=zB hN1;have HBL:=zB ((zA HB2).trans (hb1.mono (zA HB2).size));clear hN1 hb1 g0 g1)
  | (refine zG rfl 38 (.tmp 5) (.tmp 12) rfl (W.heap.size+1) 0 [.slice A1 Y.rows.length c1,.slice G1 Y.gens.length gc1] rfl rfl (by simp [Value.oneCell']) size38 (zAX (zA HB3).s) ?_;intro W4 hW4;have hB4:=(zA HB3).give (.slice A1 Y.rows.length c1) (.slice G1 Y.gens.length gc1);have hN4:=zAY (zA HN1) (b:=W.heap.size+1) (o:=0) (vs:=[.slice A1 Y.rows.length c1,.slice G1 Y.gens.length gc1]) (by have:=(zA HB).sz;omega);have hL4:=zM (W.heap.size+1) (by omega) [.slice A1 Y.rows.length c1,.slice G1 Y.gens.length gc1] 0 w1 (zA HBL);rw [←hW4] at hB4 hN4 hL4;have HB4:=zB hB4;have HN4:=zB hN4;have HL4:=zB hL4;clear hW4 hB4 hN4 hL4)
  | (refine zG rfl 40 (.tmp 3) (.tmp 13) rfl cb 0 [.int .i64 ci,.int .i64 cg] rfl rfl (by simp [Value.oneCell']) size40 (zAX ((zA HCW).keep ((zA HL4).mono (zA HCL)))) ?_;intro W5 hW5;have hB5:=(zA HB4).turn (o:=0) (vs:=[.int .i64 ci,.int .i64 cg]) (zA HCL);have hN5:=zAY (zA HN4) (b:=cb) (o:=0) (vs:=[.int .i64 ci,.int .i64 cg]) (by have:=(zA HB).sz;have:=zA HCL;omega);have hL5:=below_both (cb:=cb) [.int .i64 ci,.int .i64 cg] 0 _ _ (zA HL4);rw [←hW5] at hB5 hN5 hL5;have x0:=hB5.s.e0;have x1:=hB5.s.e1;have HB5:=zB hB5;have HN5:=zB hN5;have HL5:=zB hL5;clear hW5 hB5 hN5 hL5)
  | (refine zG rfl 38 (.tmp 5) (.tmp 15) rfl (W.heap.size+1) 0 [.slice A1 Y.rows.length c1,.slice G1 Y.gens.length gc1] rfl rfl (by simp [Value.oneCell']) size38 (zAX (zA HB5).s) ?_;intro W6 hW6;have hB6:=(zA HB5).give (.slice A1 Y.rows.length c1) (.slice G1 Y.gens.length gc1);have hN6:=zAY (zA HN5) (b:=W.heap.size+1) (o:=0) (vs:=[.slice A1 Y.rows.length c1,.slice G1 Y.gens.length gc1]) (by have:=(zA HB).sz;omega);have hL6:=zM (W.heap.size+1) (by omega) [.slice A1 Y.rows.length c1,.slice G1 Y.gens.length gc1] 0 W5 (zA HL5);rw [←hW6] at hB6 hN6 hL6;have HB6:=zB hB6;have HN6:=zB hN6;have HL6:=zB hL6;clear hW6 hB6 hN6 hL6))
 have t0:=(zA HB6).s.e0
 have t1:=(zA HB6).s.e1
 refine bodyPost_ret (v:=.tuple #[.agg #[.slice A1 Y.rows.length c1,.slice G1 Y.gens.length gc1],.int .i64 err]) (by simp [results,Try.results98,go_sem,t0,t1]) rfl ⟨A1,c1,G1,gc1,rfl,zBu (zA HN6) (by have:=(zA HB).sz;omega),zA HL6⟩
end Go.Proofs.Ytnbleebilmghcaa
set_option maxHeartbeats 4000000
set_option maxRecDepth 8000
namespace Go.Proofs.Ytnbleebilmghcaa
open Go Go.RowKit
attribute [local go_sem ↓] Go.wp_at_zero Go.wp_at_succ
def Enters (fid:FuncId):Prop:=∀ (args:Array Value) (W:World),(callFunc fid args).run Try.prog W=.ok (.enter fid args) W
theorem enters98:Enters 98:=by intro args W;kernel_rfl
theorem enters99:Enters 99:=by intro args W;kernel_rfl
theorem enters100:Enters 100:=by intro args W;kernel_rfl
theorem enters101:Enters 101:=by intro args W;kernel_rfl
theorem schange_ok (fid:FuncId) (caps:List Value) (T:Option Addr) (tcap:Nat) (G:Option Addr) (gcap:Nat) (tabs:List TabI) (X Y:Wd) (cb:Nat) (vs:List Value) (w:World) (h:StAt w T G tabs X) (hcb:cb<w.heap.size) (hY:RightW Y) (hf:zCS fid caps X Y 0 cb vs w) (hE:Enters fid) :
  Calls Try.prog 97 #[stV T tabs.length tcap G X.gens.length gcap,.func (.func fid) #[] caps.toArray] w fun e w'=>∃ T' tc' G' gc',e=.returned (.tuple #[stV T' (zU Y).length tc' G' Y.gens.length gc',.int .i64 0])∧StNew w.heap.size w' T' G' (zU Y) Y∧Below w.heap.size (w.setCells cb 0 vs) w':=by
 have hB:=B2.start w (.slice T tabs.length tcap) (.slice G X.gens.length gcap) (.slice none 0 0) (.slice none 0 0) 71 71
 have hb2:=zBs w (.cells #[.slice T tabs.length tcap,.slice G X.gens.length gcap] 71) (.cells #[.slice none 0 0,.slice none 0 0] 71)
 have hTO:=fun W (hb:Below w.heap.size w W)=>zCY T tcap G gcap tabs X W (h.below hb)
 unfold stV zAA zQ at hTO
 have hAP:=fun A c G gc W (hX:WldAt W A c G gc Y)=>apart_any A c G gc Y W hX hY
 unfold stV zAA zQ at hAP
 have HAP:=zB hAP
 clear hAP hY
 unfold zCS zAA zQ at hf
 unfold Enters at hE
 have HB:=zB hB
 have HB2:=zB hb2
 have HTO:=zB hTO
 have HF:=zB hf
 clear hB hb2 hTO hf h
 unfold stV
 go_enter Try.func97,Try.ntmps97
 go_wp2_with ((go_at_call 92;refine (zA HTO _ (zA HB2)).mono ?_;rintro e w1 ⟨A1,c1,G1,gc1,rfl,hN1,hb1⟩;have HB3:=zB (((zA HB).below hb1).below (zBs w1 (.cells #[.slice A1 X.rows.length c1,.slice G1 X.gens.length gc1] 38) (.cells #[.int .i64 0,.int .i64 0] 43)));have HN1:=zB (hN1.below (zBs w1 (.cells #[.slice A1 X.rows.length c1,.slice G1 X.gens.length gc1] 38) (.cells #[.int .i64 0,.int .i64 0] 43)));have HBL:=zB (((zA HB2).trans (hb1.mono (zA HB2).size)).trans ((zBs w1 (.cells #[.slice A1 X.rows.length c1,.slice G1 X.gens.length gc1] 38) (.cells #[.int .i64 0,.int .i64 0] 43)).mono ((zA HB2).trans (hb1.mono (zA HB2).size)).size));clear hN1 hb1))
 refine (zA HF A1 c1 G1 gc1 _ (zA HN1).toWldAt (zA HBL)).mono ?_
 rintro e w4 ⟨A4,c4,G4,gc4,rfl,hN4,hb4⟩
 have hB4:=((zA HB3).turn (o:=0) (vs:=vs) hcb).below (by rw [zAD];exact hb4)
 have hL4:=(below_both (cb:=cb) vs 0 _ _ (zA HBL)).trans (hb4.mono (zA HBL).size)
 have HB5:=zB (hB4.below (zAS w4 (.cells #[.slice A4 Y.rows.length c4,.slice G4 Y.gens.length gc4] 38)))
 have HL5:=zB (hL4.trans ((zAS w4 (.cells #[.slice A4 Y.rows.length c4,.slice G4 Y.gens.length gc4] 38)).mono (by have:=hL4.size;rw [zAD] at this;exact this)))
 have HN5:=zB (hN4.below (zAS w4 (.cells #[.slice A4 Y.rows.length c4,.slice G4 Y.gens.length gc4] 38)))
 clear hB4 hL4 hN4 hb4 hE HF HTO HN1 HBL HB3
 go_wp2_with (first
  | (go_at_call 96;refine (zA HAP _ _ _ _ _ (zA HN5).toWldAt).mono ?_;rintro e w7 ⟨Ta,Tc,Ag,cg,rfl,hN7,hb7⟩;have HB7:=zB ((zA HB5).below hb7);have HN7:=zB (hN7.le (base':=w.heap.size+2) (zA HB5).sz);have HL7:=zB ((zA HL5).trans (hb7.mono (by have:=(zA HB5).sz;omega)));clear hN7 hb7)
  | (refine zG rfl 71 (.tmp 4) (.tmp 32) rfl (w.heap.size+1) 0 [.slice Ta (zU Y).length Tc,.slice Ag Y.gens.length cg] rfl rfl (by simp [Value.oneCell']) size71 (zAX (zA HB7).s) ?_;intro W8 hW8;have hB8:=(zA HB7).give (.slice Ta (zU Y).length Tc) (.slice Ag Y.gens.length cg);have hN8:=(zA HN7).putc (b:=w.heap.size+1) (o:=0) (vs:=[.slice Ta (zU Y).length Tc,.slice Ag Y.gens.length cg]) (by omega);have hL8:=zM (w.heap.size+1) (by omega) [.slice Ta (zU Y).length Tc,.slice Ag Y.gens.length cg] 0 w7 (zA HL7);rw [←hW8] at hB8 hN8 hL8;have HB8:=zB hB8;have HN8:=zB hN8;have HL8:=zB hL8;clear hW8 hB8 hN8 hL8))
 have t0:=(zA HB8).s.e0
 have t1:=(zA HB8).s.e1
 refine bodyPost_ret (v:=.tuple #[.agg #[.slice Ta (zU Y).length Tc,.slice Ag Y.gens.length cg],.int .i64 0]) (by simp [results,Try.results97,go_sem,t0,t1]) rfl ⟨Ta,Tc,Ag,cg,rfl,(zA HN8).le (by omega),zA HL8⟩
theorem schange_no (fid:FuncId) (caps:List Value) (T:Option Addr) (tcap:Nat) (G:Option Addr) (gcap:Nat) (tabs:List TabI) (X Y:Wd) (err:Int) (cb:Nat) (vs:List Value) (w:World) (h:StAt w T G tabs X) (hcb:cb<w.heap.size) (hY:err≠0) (hf:zCS fid caps X Y err cb vs w) (hE:Enters fid) :
  Calls Try.prog 97 #[stV T tabs.length tcap G X.gens.length gcap,.func (.func fid) #[] caps.toArray] w fun e w'=>e=.returned (.tuple #[stV none 0 0 none 0 0,.int .i64 err])∧Below w.heap.size (w.setCells cb 0 vs) w':=by
 have hB:=B2.start w (.slice T tabs.length tcap) (.slice G X.gens.length gcap) (.slice none 0 0) (.slice none 0 0) 71 71
 have hb2:=zBs w (.cells #[.slice T tabs.length tcap,.slice G X.gens.length gcap] 71) (.cells #[.slice none 0 0,.slice none 0 0] 71)
 have hTO:=fun W (hb:Below w.heap.size w W)=>zCY T tcap G gcap tabs X W (h.below hb)
 unfold stV zAA zQ at hTO
 unfold zCS zAA zQ at hf
 unfold Enters at hE
 have HB:=zB hB
 have HB2:=zB hb2
 have HTO:=zB hTO
 have HF:=zB hf
 clear hB hb2 hTO hf h
 unfold stV
 go_enter Try.func97,Try.ntmps97
 go_wp2_with ((go_at_call 92;refine (zA HTO _ (zA HB2)).mono ?_;rintro e w1 ⟨A1,c1,G1,gc1,rfl,hN1,hb1⟩;have HB3:=zB (((zA HB).below hb1).below (zBs w1 (.cells #[.slice A1 X.rows.length c1,.slice G1 X.gens.length gc1] 38) (.cells #[.int .i64 0,.int .i64 0] 43)));have HN1:=zB (hN1.below (zBs w1 (.cells #[.slice A1 X.rows.length c1,.slice G1 X.gens.length gc1] 38) (.cells #[.int .i64 0,.int .i64 0] 43)));have HBL:=zB (((zA HB2).trans (hb1.mono (zA HB2).size)).trans ((zBs w1 (.cells #[.slice A1 X.rows.length c1,.slice G1 X.gens.length gc1] 38) (.cells #[.int .i64 0,.int .i64 0] 43)).mono ((zA HB2).trans (hb1.mono (zA HB2).size)).size));clear hN1 hb1))
 refine (zA HF A1 c1 G1 gc1 _ (zA HN1).toWldAt (zA HBL)).mono ?_
 rintro e w4 ⟨A4,c4,G4,gc4,rfl,hN4,hb4⟩
 have hB4:=((zA HB3).turn (o:=0) (vs:=vs) hcb).below (by rw [zAD];exact hb4)
 have hL4:=(below_both (cb:=cb) vs 0 _ _ (zA HBL)).trans (hb4.mono (zA HBL).size)
 have HB5:=zB (hB4.below (zAS w4 (.cells #[.slice A4 Y.rows.length c4,.slice G4 Y.gens.length gc4] 38)))
 have HL5:=zB (hL4.trans ((zAS w4 (.cells #[.slice A4 Y.rows.length c4,.slice G4 Y.gens.length gc4] 38)).mono (by have:=hL4.size;rw [zAD] at this;exact this)))
 have HN5:=zB (hN4.below (zAS w4 (.cells #[.slice A4 Y.rows.length c4,.slice G4 Y.gens.length gc4] 38)))
 clear hB4 hL4 hN4 hb4 hE HF HTO HN1 HBL HB3
 go_wp2_with ((refine zG rfl 71 (.tmp 4) (.tmp 29) rfl (w.heap.size+1) 0 [.slice none 0 0,.slice none 0 0] rfl rfl (by simp [Value.oneCell']) size71 (zAX (zA HB5).s) ?_;intro W8 hW8;have hB8:=(zA HB5).give (.slice none 0 0) (.slice none 0 0);have hL8:=zM (w.heap.size+1) (by omega) [.slice none 0 0,.slice none 0 0] 0 _ (zA HL5);rw [←hW8] at hB8 hL8;have HB8:=zB hB8;have HL8:=zB hL8;clear hW8 hB8 hL8))
 have t0:=(zA HB8).s.e0
 have t1:=(zA HB8).s.e1
 refine bodyPost_ret (v:=.tuple #[.agg #[.slice none 0 0,.slice none 0 0],.int .i64 err]) (by simp [results,Try.results97,go_sem,t0,t1]) rfl ⟨rfl,zA HL8⟩
end Go.Proofs.Ytnbleebilmghcaa
namespace Go.Proofs.Ytnbleebilmghcaa
open Go Go.RowKit
theorem right_empty:RightW emptyW:=(zk emptyW).1 (by decide +kernel)
theorem stNew_empty (base:Nat) (w:World):StNew base w none none (zU emptyW) emptyW:=fun W _=>⟨fun j hj=>by simp [zU,zBh,emptyW] at hj,fun j hj=>by simp [emptyW] at hj,right_empty,fun t ht=>by simp [zU,zBh,emptyW] at ht,fun j hj=>by simp [zU,zBh,emptyW] at hj,by simp [zU,zBh,emptyW],by simp [zU,zBh,emptyW]⟩
theorem zCE (fid:FuncId) (caps:List Value) (T:Option Addr) (tcap:Nat) (G:Option Addr) (gcap:Nat) (tabs:List TabI) (X Y:Wd) (err:Int) (cb:Nat) (vs:List Value) (w:World) (h:StAt w T G tabs X) (hcb:cb<w.heap.size) (hY:err=0→RightW Y) (hN:err≠0→Y=emptyW) (hf:zCS fid caps X Y err cb vs w) (hE:Enters fid) :
  Calls Try.prog 97 #[stV T tabs.length tcap G X.gens.length gcap,.func (.func fid) #[] caps.toArray] w fun e w'=>∃ T' tc' G' gc',e=.returned (.tuple #[stV T' (zU Y).length tc' G' Y.gens.length gc',.int .i64 err])∧StNew w.heap.size w' T' G' (zU Y) Y∧Below w.heap.size (w.setCells cb 0 vs) w':=by
 by_cases e:err=0
 ·subst e
  exact schange_ok fid caps T tcap G gcap tabs X Y cb vs w h hcb (hY rfl) hf hE
 ·refine (schange_no fid caps T tcap G gcap tabs X Y err cb vs w h hcb e hf hE).mono ?_
  rintro e w' ⟨rfl,hb⟩
  refine ⟨none,0,none,0,?_,?_,hb⟩
  ·rw [hN (by assumption)];rfl
  ·rw [hN (by assumption)];exact stNew_empty _ _
end Go.Proofs.Ytnbleebilmghcaa
set_option maxHeartbeats 4000000
set_option maxRecDepth 8000
namespace Go.Proofs.Ytnbleebilmghcaa
open Go Go.RowKit
attribute [local go_sem ↓] Go.wp_at_zero Go.wp_at_succ
theorem skill_any (T:Option Addr) (tcap:Nat) (G:Option Addr) (gcap:Nat) (tabs:List TabI) (X:Wd) (i g:Int) (w:World) (h:StAt w T G tabs X) :
  Calls Try.prog 64 #[stV T tabs.length tcap G X.gens.length gcap,zW i g] w fun e w'=>∃ T' tc' G' gc',e=.returned (.tuple #[stV T' (zU (zAR X i g).2).length tc' G' (zAR X i g).2.gens.length gc',.int .i64 (zAR X i g).1])∧StNew w.heap.size w' T' G' (zU (zAR X i g).2) (zAR X i g).2∧Below w.heap.size w w':=by
 have hl:=(zq ((zk X).2 h.right)).1
 have hBX:=Bxs.start w [([.slice T tabs.length tcap,.slice G X.gens.length gcap],71),([.int .i64 i,.int .i64 g],40),([.slice none 0 0,.slice none 0 0],71)]
 have hb:=allocs_below [([.slice T tabs.length tcap,.slice G X.gens.length gcap],71),([.int .i64 i,.int .i64 g],40),([.slice none 0 0,.slice none 0 0],71)] w
 have hs:=allocs_size [([.slice T tabs.length tcap,.slice G X.gens.length gcap],71),([.int .i64 i,.int .i64 g],40),([.slice none 0 0,.slice none 0 0],71)] w
 obtain ⟨W,hW⟩:∃ W,W=zAy w [([.slice T tabs.length tcap,.slice G X.gens.length gcap],71),([.int .i64 i,.int .i64 g],40),([.slice none 0 0,.slice none 0 0],71)]:=⟨_,rfl⟩
 rw [←hW] at hBX hb hs
 have hCH:=zCE 100 [.pointer (some ⟨w.heap.size+1,0,none⟩)] T tcap G gcap tabs X (zAR X i g).2 (zAR X i g).1 0 [] W (h.below hb) (by rw [hs];simp) (fun e=>(kill_keeps e).1) kill_no (becomes_kill X (w.heap.size+1) g i W hl (hBX.cell 1 rfl 0 rfl) (hBX.cell 1 rfl 1 rfl)) enters100
 obtain ⟨Y,hY⟩:∃ Y,Y=(zAR X i g).2:=⟨_,rfl⟩
 obtain ⟨err,herr⟩:∃ err,err=(zAR X i g).1:=⟨_,rfl⟩
 rw [←hY,←herr] at hCH ⊢
 have hW':((w.alloc (.cells #[.slice T tabs.length tcap,.slice G X.gens.length gcap] 71)).alloc (.cells #[.int .i64 i,.int .i64 g] 40)).alloc (.cells #[.slice none 0 0,.slice none 0 0] 71)=W:=hW.symm
 have HW:=zB hW'
 have HB:=zB hBX
 have HBL:=zB hb
 have HS:=zB hs
 unfold stV at hCH
 have HCH:=zB hCH
 clear hW hW' hBX hb hs hCH h hY herr hl
 unfold stV zW
 go_enter Try.func64,Try.ntmps64
 go_wp2_with fail
 go_at_call 97
 rw [zA HW]
 refine (zA HCH).mono ?_
 rintro e w4 ⟨T4,tc4,G4,gc4,rfl,hN4,hb4⟩
 have hb4:Below W.heap.size W w4:=hb4
 have HB4:=zB ((zA HB).below hb4)
 have HL4:=zB ((zA HBL).trans (hb4.mono (zA HBL).size))
 have HN4:=zB (hN4.le (base':=w.heap.size+3) (by rw [zA HS];simp))
 clear hN4 hb4 HW HB HBL HCH HS
 go_wp2_with ((refine zG rfl 71 (.tmp 4) (.tmp 9) rfl (w.heap.size+2) 0 [.slice T4 (zU Y).length tc4,.slice G4 Y.gens.length gc4] rfl rfl (by simp [Value.oneCell']) size71 ((zA HB4).there 2 rfl 2 rfl) ?_;intro W8 hW8;have hB8:=(zA HB4).give 2 rfl [.slice T4 (zU Y).length tc4,.slice G4 Y.gens.length gc4] rfl;have hN8:=(zA HN4).putc (b:=w.heap.size+2) (o:=0) (vs:=[.slice T4 (zU Y).length tc4,.slice G4 Y.gens.length gc4]) (by omega);have hL8:=zM (w.heap.size+2) (by omega) [.slice T4 (zU Y).length tc4,.slice G4 Y.gens.length gc4] 0 w4 (zA HL4);rw [←hW8] at hB8 hN8 hL8;have HB8:=zB hB8;have HN8:=zB hN8;have HL8:=zB hL8;clear hW8 hB8 hN8 hL8))
 have t0:=(zA HB8).cell 2 rfl 0 rfl
 have t1:=(zA HB8).cell 2 rfl 1 rfl
 refine bodyPost_ret (v:=.tuple #[.agg #[.slice T4 (zU Y).length tc4,.slice G4 Y.gens.length gc4],.int .i64 err]) (by simp [results,Try.results64,go_sem,t0,t1]) rfl ⟨T4,tc4,G4,gc4,rfl,(zA HN8).le (by omega),zA HL8⟩
theorem sput_any (T:Option Addr) (tcap:Nat) (G:Option Addr) (gcap:Nat) (tabs:List TabI) (X:Wd) (i g p n:Int) (w:World) (h:StAt w T G tabs X) :
  Calls Try.prog 63 #[stV T tabs.length tcap G X.gens.length gcap,zW i g,.int .i64 p,.int .i64 n] w fun e w'=>∃ T' tc' G' gc',e=.returned (.tuple #[stV T' (zU (zBy X i g p n).2).length tc' G' (zBy X i g p n).2.gens.length gc',.int .i64 (zBy X i g p n).1])∧StNew w.heap.size w' T' G' (zU (zBy X i g p n).2) (zBy X i g p n).2∧Below w.heap.size w w':=by
 have hl:=(zq ((zk X).2 h.right)).1
 have hBX:=Bxs.start w [([.slice T tabs.length tcap,.slice G X.gens.length gcap],71),([.int .i64 i,.int .i64 g],40),([.int .i64 p],3),([.int .i64 n],3),([.slice none 0 0,.slice none 0 0],71)]
 have hb:=allocs_below [([.slice T tabs.length tcap,.slice G X.gens.length gcap],71),([.int .i64 i,.int .i64 g],40),([.int .i64 p],3),([.int .i64 n],3),([.slice none 0 0,.slice none 0 0],71)] w
 have hs:=allocs_size [([.slice T tabs.length tcap,.slice G X.gens.length gcap],71),([.int .i64 i,.int .i64 g],40),([.int .i64 p],3),([.int .i64 n],3),([.slice none 0 0,.slice none 0 0],71)] w
 obtain ⟨W,hW⟩:∃ W,W=zAy w [([.slice T tabs.length tcap,.slice G X.gens.length gcap],71),([.int .i64 i,.int .i64 g],40),([.int .i64 p],3),([.int .i64 n],3),([.slice none 0 0,.slice none 0 0],71)]:=⟨_,rfl⟩
 rw [←hW] at hBX hb hs
 have hCH:=zCE 99 [.pointer (some ⟨w.heap.size+1,0,none⟩),.pointer (some ⟨w.heap.size+2,0,none⟩),.pointer (some ⟨w.heap.size+3,0,none⟩)] T tcap G gcap tabs X (zBy X i g p n).2 (zBy X i g p n).1 0 [] W (h.below hb) (by rw [hs];simp) (fun e=>(put_keeps e).1) ch_no (becomes_put X (w.heap.size+1) (w.heap.size+2) (w.heap.size+3) g i n p W hl (hBX.cell 1 rfl 0 rfl) (hBX.cell 1 rfl 1 rfl) (hBX.cell 2 rfl 0 rfl) (hBX.cell 3 rfl 0 rfl)) enters99
 obtain ⟨Y,hY⟩:∃ Y,Y=(zBy X i g p n).2:=⟨_,rfl⟩
 obtain ⟨err,herr⟩:∃ err,err=(zBy X i g p n).1:=⟨_,rfl⟩
 rw [←hY,←herr] at hCH ⊢
 have hW':((((w.alloc (.cells #[.slice T tabs.length tcap,.slice G X.gens.length gcap] 71)).alloc (.cells #[.int .i64 i,.int .i64 g] 40)).alloc (.cells #[.int .i64 p] 3)).alloc (.cells #[.int .i64 n] 3)).alloc (.cells #[.slice none 0 0,.slice none 0 0] 71)=W:=hW.symm
 have HW:=zB hW'
 have HB:=zB hBX
 have HBL:=zB hb
 have HS:=zB hs
 unfold stV at hCH
 have HCH:=zB hCH
 clear hW hW' hBX hb hs hCH h hY herr hl
 unfold stV zW
 go_enter Try.func63,Try.ntmps63
 go_wp2_with fail
 go_at_call 97
 rw [zA HW]
 refine (zA HCH).mono ?_
 rintro e w4 ⟨T4,tc4,G4,gc4,rfl,hN4,hb4⟩
 have hb4:Below W.heap.size W w4:=hb4
 have HB4:=zB ((zA HB).below hb4)
 have HL4:=zB ((zA HBL).trans (hb4.mono (zA HBL).size))
 have HN4:=zB (hN4.le (base':=w.heap.size+5) (by rw [zA HS];simp))
 clear hN4 hb4 HW HB HBL HCH HS
 go_wp2_with ((refine zG rfl 71 (.tmp 8) (.tmp 13) rfl (w.heap.size+4) 0 [.slice T4 (zU Y).length tc4,.slice G4 Y.gens.length gc4] rfl rfl (by simp [Value.oneCell']) size71 ((zA HB4).there 4 rfl 2 rfl) ?_;intro W8 hW8;have hB8:=(zA HB4).give 4 rfl [.slice T4 (zU Y).length tc4,.slice G4 Y.gens.length gc4] rfl;have hN8:=(zA HN4).putc (b:=w.heap.size+4) (o:=0) (vs:=[.slice T4 (zU Y).length tc4,.slice G4 Y.gens.length gc4]) (by omega);have hL8:=zM (w.heap.size+4) (by omega) [.slice T4 (zU Y).length tc4,.slice G4 Y.gens.length gc4] 0 w4 (zA HL4);rw [←hW8] at hB8 hN8 hL8;have HB8:=zB hB8;have HN8:=zB hN8;have HL8:=zB hL8;clear hW8 hB8 hN8 hL8))
 have t0:=(zA HB8).cell 4 rfl 0 rfl
 have t1:=(zA HB8).cell 4 rfl 1 rfl
 refine bodyPost_ret (v:=.tuple #[.agg #[.slice T4 (zU Y).length tc4,.slice G4 Y.gens.length gc4],.int .i64 err]) (by simp [results,Try.results63,go_sem,t0,t1]) rfl ⟨T4,tc4,G4,gc4,rfl,(zA HN8).le (by omega),zA HL8⟩
theorem sdrop_any (T:Option Addr) (tcap:Nat) (G:Option Addr) (gcap:Nat) (tabs:List TabI) (X:Wd) (i g p:Int) (w:World) (h:StAt w T G tabs X) :
  Calls Try.prog 65 #[stV T tabs.length tcap G X.gens.length gcap,zW i g,.int .i64 p] w fun e w'=>∃ T' tc' G' gc',e=.returned (.tuple #[stV T' (zU (zAU X i g p).2).length tc' G' (zAU X i g p).2.gens.length gc',.int .i64 (zAU X i g p).1])∧StNew w.heap.size w' T' G' (zU (zAU X i g p).2) (zAU X i g p).2∧Below w.heap.size w w':=by
 have hl:=(zq ((zk X).2 h.right)).1
 have hBX:=Bxs.start w [([.slice T tabs.length tcap,.slice G X.gens.length gcap],71),([.int .i64 i,.int .i64 g],40),([.int .i64 p],3),([.slice none 0 0,.slice none 0 0],71)]
 have hb:=allocs_below [([.slice T tabs.length tcap,.slice G X.gens.length gcap],71),([.int .i64 i,.int .i64 g],40),([.int .i64 p],3),([.slice none 0 0,.slice none 0 0],71)] w
 have hs:=allocs_size [([.slice T tabs.length tcap,.slice G X.gens.length gcap],71),([.int .i64 i,.int .i64 g],40),([.int .i64 p],3),([.slice none 0 0,.slice none 0 0],71)] w
 obtain ⟨W,hW⟩:∃ W,W=zAy w [([.slice T tabs.length tcap,.slice G X.gens.length gcap],71),([.int .i64 i,.int .i64 g],40),([.int .i64 p],3),([.slice none 0 0,.slice none 0 0],71)]:=⟨_,rfl⟩
 rw [←hW] at hBX hb hs
 have hCH:=zCE 101 [.pointer (some ⟨w.heap.size+1,0,none⟩),.pointer (some ⟨w.heap.size+2,0,none⟩)] T tcap G gcap tabs X (zAU X i g p).2 (zAU X i g p).1 0 [] W (h.below hb) (by rw [hs];simp) (fun e=>(drop_keeps e).1) ch_no (becomes_drop X (w.heap.size+1) (w.heap.size+2) g i p W hl (hBX.cell 1 rfl 0 rfl) (hBX.cell 1 rfl 1 rfl) (hBX.cell 2 rfl 0 rfl)) enters101
 obtain ⟨Y,hY⟩:∃ Y,Y=(zAU X i g p).2:=⟨_,rfl⟩
 obtain ⟨err,herr⟩:∃ err,err=(zAU X i g p).1:=⟨_,rfl⟩
 rw [←hY,←herr] at hCH ⊢
 have hW':(((w.alloc (.cells #[.slice T tabs.length tcap,.slice G X.gens.length gcap] 71)).alloc (.cells #[.int .i64 i,.int .i64 g] 40)).alloc (.cells #[.int .i64 p] 3)).alloc (.cells #[.slice none 0 0,.slice none 0 0] 71)=W:=hW.symm
 have HW:=zB hW'
 have HB:=zB hBX
 have HBL:=zB hb
 have HS:=zB hs
 unfold stV at hCH
 have HCH:=zB hCH
 clear hW hW' hBX hb hs hCH h hY herr hl
 unfold stV zW
 go_enter Try.func65,Try.ntmps65
 go_wp2_with fail
 go_at_call 97
 rw [zA HW]
 refine (zA HCH).mono ?_
 rintro e w4 ⟨T4,tc4,G4,gc4,rfl,hN4,hb4⟩
 have hb4:Below W.heap.size W w4:=hb4
 have HB4:=zB ((zA HB).below hb4)
 have HL4:=zB ((zA HBL).trans (hb4.mono (zA HBL).size))
 have HN4:=zB (hN4.le (base':=w.heap.size+4) (by rw [zA HS];simp))
 clear hN4 hb4 HW HB HBL HCH HS
 go_wp2_with ((refine zG rfl 71 (.tmp 6) (.tmp 11) rfl (w.heap.size+3) 0 [.slice T4 (zU Y).length tc4,.slice G4 Y.gens.length gc4] rfl rfl (by simp [Value.oneCell']) size71 ((zA HB4).there 3 rfl 2 rfl) ?_;intro W8 hW8;have hB8:=(zA HB4).give 3 rfl [.slice T4 (zU Y).length tc4,.slice G4 Y.gens.length gc4] rfl;have hN8:=(zA HN4).putc (b:=w.heap.size+3) (o:=0) (vs:=[.slice T4 (zU Y).length tc4,.slice G4 Y.gens.length gc4]) (by omega);have hL8:=zM (w.heap.size+3) (by omega) [.slice T4 (zU Y).length tc4,.slice G4 Y.gens.length gc4] 0 w4 (zA HL4);rw [←hW8] at hB8 hN8 hL8;have HB8:=zB hB8;have HN8:=zB hN8;have HL8:=zB hL8;clear hW8 hB8 hN8 hL8))
 have t0:=(zA HB8).cell 3 rfl 0 rfl
 have t1:=(zA HB8).cell 3 rfl 1 rfl
 refine bodyPost_ret (v:=.tuple #[.agg #[.slice T4 (zU Y).length tc4,.slice G4 Y.gens.length gc4],.int .i64 err]) (by simp [results,Try.results65,go_sem,t0,t1]) rfl ⟨T4,tc4,G4,gc4,rfl,(zA HN8).le (by omega),zA HL8⟩
theorem sspawn_any (T:Option Addr) (tcap:Nat) (G:Option Addr) (gcap:Nat) (tabs:List TabI) (X:Wd) (has n:Int) (w:World) (h:StAt w T G tabs X) :
  Calls Try.prog 62 #[stV T tabs.length tcap G X.gens.length gcap,.int .i64 has,.int .i64 n] w fun e w'=>∃ T' tc' G' gc',e=.returned (.tuple #[stV T' (zU (zh X has n).2.2).length tc' G' (zh X has n).2.2.gens.length gc',zW (zh X has n).2.1.1 (zh X has n).2.1.2,.int .i64 (zh X has n).1])∧StNew w.heap.size w' T' G' (zU (zh X has n).2.2) (zh X has n).2.2∧Below w.heap.size w w':=by
 have hl:=(zq ((zk X).2 h.right)).1
 have hBX:=Bxs.start w [([.slice T tabs.length tcap,.slice G X.gens.length gcap],71),([.int .i64 has],3),([.int .i64 n],3),([.slice none 0 0,.slice none 0 0],71),([.int .i64 0,.int .i64 0],40),([.int .i64 0,.int .i64 0],40)]
 have hb:=allocs_below [([.slice T tabs.length tcap,.slice G X.gens.length gcap],71),([.int .i64 has],3),([.int .i64 n],3),([.slice none 0 0,.slice none 0 0],71),([.int .i64 0,.int .i64 0],40),([.int .i64 0,.int .i64 0],40)] w
 have hs:=allocs_size [([.slice T tabs.length tcap,.slice G X.gens.length gcap],71),([.int .i64 has],3),([.int .i64 n],3),([.slice none 0 0,.slice none 0 0],71),([.int .i64 0,.int .i64 0],40),([.int .i64 0,.int .i64 0],40)] w
 obtain ⟨W,hW⟩:∃ W,W=zAy w [([.slice T tabs.length tcap,.slice G X.gens.length gcap],71),([.int .i64 has],3),([.int .i64 n],3),([.slice none 0 0,.slice none 0 0],71),([.int .i64 0,.int .i64 0],40),([.int .i64 0,.int .i64 0],40)]:=⟨_,rfl⟩
 rw [←hW] at hBX hb hs
 have hcb:B13 (w.heap.size+5) (.int .i64 0) (.int .i64 0) W:=⟨hBX.cell 5 rfl 0 rfl,hBX.cell 5 rfl 1 rfl,fun j=>hBX.free 5 rfl j⟩
 have hCH:=zCE 98 [.pointer (some ⟨w.heap.size+1,0,none⟩),.pointer (some ⟨w.heap.size+2,0,none⟩),.pointer (some ⟨w.heap.size+5,0,none⟩)] T tcap G gcap tabs X (zh X has n).2.2 (zh X has n).1 (w.heap.size+5) _ W (h.below hb) (by rw [hs];simp) (fun e=>(spawn_keeps e 0 0).1) spawn_no (becomes_spawn X (w.heap.size+1) (w.heap.size+2) (w.heap.size+5) has n W hl (hBX.cell 1 rfl 0 rfl) (hBX.cell 2 rfl 0 rfl) hcb (by rw [hs];simp)) enters98
 obtain ⟨Y,hY⟩:∃ Y,Y=(zh X has n).2.2:=⟨_,rfl⟩
 obtain ⟨err,herr⟩:∃ err,err=(zh X has n).1:=⟨_,rfl⟩
 obtain ⟨ci,hci⟩:∃ ci,ci=(zh X has n).2.1.1:=⟨_,rfl⟩
 obtain ⟨cg,hcg⟩:∃ cg,cg=(zh X has n).2.1.2:=⟨_,rfl⟩
 rw [←hY,←herr,←hci,←hcg] at hCH ⊢
 have hW':(((((w.alloc (.cells #[.slice T tabs.length tcap,.slice G X.gens.length gcap] 71)).alloc (.cells #[.int .i64 has] 3)).alloc (.cells #[.int .i64 n] 3)).alloc (.cells #[.slice none 0 0,.slice none 0 0] 71)).alloc (.cells #[.int .i64 0,.int .i64 0] 40)).alloc (.cells #[.int .i64 0,.int .i64 0] 40)=W:=hW.symm
 have HW:=zB hW'
 have HB:=zB hBX
 have HBL:=zB hb
 have HS:=zB hs
 unfold stV at hCH
 have HCH:=zB hCH
 clear hW hW' hBX hb hs hCH h hY herr hl hci hcg hcb
 unfold stV zW
 go_enter Try.func62,Try.ntmps62
 go_wp2_with fail
 go_at_call 97
 rw [zA HW]
 refine (zA HCH).mono ?_
 rintro e w4 ⟨T4,tc4,G4,gc4,rfl,hN4,hb4⟩
 have hB4:=((zA HB).give 5 rfl [.int .i64 ci,.int .i64 cg] rfl).below (by rw [zAD];exact hb4)
 have hz4:w.heap.size+6≤w4.heap.size:=by
  have:=hb4.size
  rw [zAD,zA HS] at this
  simpa using this
 have hL4:Below w.heap.size w w4:=(zM (w.heap.size+5) (by omega) _ 0 _ (zA HBL)).trans (hb4.mono (zA HBL).size)
 have hN4:=hN4.le (base':=w.heap.size+6) (by rw [zA HS];simp)
 have h0:Bxs w.heap.size [([.slice T tabs.length tcap,.slice G X.gens.length gcap],71),([.int .i64 has],3),([.int .i64 n],3),([.slice none 0 0,.slice none 0 0],71),([.int .i64 0,.int .i64 0],40),([.int .i64 ci,.int .i64 cg],40)] (w4.alloc (.cells #[.slice T4 (zU Y).length tc4,.slice G4 Y.gens.length gc4] 71)).drew∧(w4.alloc (.cells #[.slice T4 (zU Y).length tc4,.slice G4 Y.gens.length gc4] 71)).drew.cell? ⟨w4.heap.size,0,none⟩=some (.slice T4 (zU Y).length tc4)∧(w4.alloc (.cells #[.slice T4 (zU Y).length tc4,.slice G4 Y.gens.length gc4] 71)).drew.cell? ⟨w4.heap.size,1,none⟩=some (.slice G4 Y.gens.length gc4)∧StNew (w.heap.size+6) (w4.alloc (.cells #[.slice T4 (zU Y).length tc4,.slice G4 Y.gens.length gc4] 71)).drew T4 G4 (zU Y) Y∧Below w.heap.size w (w4.alloc (.cells #[.slice T4 (zU Y).length tc4,.slice G4 Y.gens.length gc4] 71)).drew :=
  ⟨hB4.below (zAS _ _).drew,by show (w4.alloc _).cell? _=_;simp,by show (w4.alloc _).cell? _=_;simp,hN4.below (zAS _ _).drew,(hL4.trans ((zAS _ _).mono hL4.size)).drew⟩
 have HZ:=zB hz4
 clear hB4 hL4 hN4 hb4 hz4 HW HB HBL HCH HS
 go_wp2_with fail
 refine zc (fun (γ:Unit) ix v=>(([fun v=>v=.agg #[.slice T4 (zU Y).length tc4,.slice G4 Y.gens.length gc4],fun v=>v=.agg #[.int .i64 ci,.int .i64 cg],fun v=>v=.int .i64 err,fun _=>True,fun _=>True,fun v=>v=.int .i64 err]:List (Value→Prop)).getD ix (fun _=>True)) v) (fun (_:Unit) L W=>Bxs w.heap.size [([.slice T tabs.length tcap,.slice G X.gens.length gcap],71),([.int .i64 has],3),([.int .i64 n],3),(if L 3=true then [.slice T4 (zU Y).length tc4,.slice G4 Y.gens.length gc4] else [.slice none 0 0,.slice none 0 0],71),(if L 4=true then [.int .i64 ci,.int .i64 cg] else [.int .i64 0,.int .i64 0],40),([.int .i64 ci,.int .i64 cg],40)] W∧W.cell? ⟨w4.heap.size,0,none⟩=some (.slice T4 (zU Y).length tc4)∧W.cell? ⟨w4.heap.size,1,none⟩=some (.slice G4 Y.gens.length gc4)∧StNew (w.heap.size+6) W T4 G4 (zU Y) Y∧Below w.heap.size w W) (()) (by kernel_rfl) (by kernel_rfl) (by kernel_rfl) h0 ?hstep ?hend
 case hstep =>
  intro γ ix o ho L ac w1 hD hL hed hcl hout hv
  match ix,ho with
  | 0,ho =>
   simp at ho
   subst ho
   have e10:ac.tmps.getD 10 undef=.pointer (some ⟨w4.heap.size,0,none⟩):=hout 10 (by decide +kernel)
   have c0:=hD.2.1
   have c1:=hD.2.2.1
   exact .inl ⟨rfl,zC γ (.agg #[.slice T4 (zU Y).length tc4,.slice G4 Y.gens.length gc4]) (by simp [go_sem,Act.eval,-Array.getD_eq_getD_getElem?,e10,c0,c1]) rfl (by rw [zJ (by decide),zJ (by decide)];exact hD) (fun _ _ _ _ h=>h)⟩
  | 1,ho =>
   simp at ho
   subst ho
   have e9:ac.tmps.getD 9 undef=.pointer (some ⟨w.heap.size+5,0,none⟩):=hout 9 (by decide +kernel)
   have c0:=hD.1.cell 5 rfl 0 rfl
   have c1:=hD.1.cell 5 rfl 1 rfl
   exact .inl ⟨rfl,zC γ (.agg #[.int .i64 ci,.int .i64 cg]) (by simp [go_sem,Act.eval,-Array.getD_eq_getD_getElem?,e9,c0,c1]) rfl (by rw [zJ (by decide),zJ (by decide)];exact hD) (fun _ _ _ _ h=>h)⟩
  | 2,ho =>
   simp at ho
   subst ho
   have e11:ac.tmps.getD 11 undef=.int .i64 err:=hout 11 (by decide +kernel)
   exact .inl ⟨rfl,zC γ (.int .i64 err) (by simp [go_sem,Act.eval,-Array.getD_eq_getD_getElem?,e11]) rfl (by rw [zJ (by decide),zJ (by decide)];exact hD) (fun _ _ _ _ h=>h)⟩
  | 3,ho =>
   simp at ho
   subst ho
   have e6:ac.tmps.getD 6 undef=.pointer (some ⟨w.heap.size+3,0,none⟩):=hout 6 (by decide +kernel)
   have e18:ac.tmps.getD 18 undef=.agg #[.slice T4 (zU Y).length tc4,.slice G4 Y.gens.length gc4]:=hv 0 18 rfl (by kernel_rfl)
   have hg:=hD.1.give 3 rfl [.slice T4 (zU Y).length tc4,.slice G4 Y.gens.length gc4] (by rw [hL];rfl)
   refine .inl ⟨rfl,zBL γ 71 (.tmp 6) (.tmp 18) rfl (w.heap.size+3) 0 [.slice T4 (zU Y).length tc4,.slice G4 Y.gens.length gc4] (by simp [Act.eval,-Array.getD_eq_getD_getElem?,e6]) (by simp [Act.eval,-Array.getD_eq_getD_getElem?,e18]) (by simp [Value.oneCell']) size71 (hD.1.there 3 rfl 2 (by rw [hL];rfl)) trivial ⟨?_,(zS (by have:=zA HZ;simp only [ne_eq];omega)).trans hD.2.1,(zS (by have:=zA HZ;simp only [ne_eq];omega)).trans hD.2.2.1,hD.2.2.2.1.putc (by omega),zM (w.heap.size+3) (by omega) _ 0 _ hD.2.2.2.2⟩ (fun _ _ _ _ h=>h)⟩
   rw [zJ (i:=3) (j:=4) (by decide),zAj,if_pos rfl]
   exact hg
  | 4,ho =>
   simp at ho
   subst ho
   have e7:ac.tmps.getD 7 undef=.pointer (some ⟨w.heap.size+4,0,none⟩):=hout 7 (by decide +kernel)
   have e19:ac.tmps.getD 19 undef=.agg #[.int .i64 ci,.int .i64 cg]:=hv 1 19 rfl (by kernel_rfl)
   have hg:=hD.1.give 4 rfl [.int .i64 ci,.int .i64 cg] (by rw [hL];rfl)
   refine .inl ⟨rfl,zBL γ 40 (.tmp 7) (.tmp 19) rfl (w.heap.size+4) 0 [.int .i64 ci,.int .i64 cg] (by simp [Act.eval,-Array.getD_eq_getD_getElem?,e7]) (by simp [Act.eval,-Array.getD_eq_getD_getElem?,e19]) (by simp [Value.oneCell']) size40 (hD.1.there 4 rfl 2 (by rw [hL];rfl)) trivial ⟨?_,(zS (by have:=zA HZ;simp only [ne_eq];omega)).trans hD.2.1,(zS (by have:=zA HZ;simp only [ne_eq];omega)).trans hD.2.2.1,hD.2.2.2.1.putc (by omega),zM (w.heap.size+4) (by omega) _ 0 _ hD.2.2.2.2⟩ (fun _ _ _ _ h=>h)⟩
   rw [zJ (i:=4) (j:=3) (by decide),zAj,if_pos rfl]
   exact hg
  | 5,ho =>
   simp at ho
   subst ho
   have e20:ac.tmps.getD 20 undef=.int .i64 err:=hv 2 20 rfl (by kernel_rfl)
   exact .inl ⟨rfl,zC γ (.int .i64 err) (by simp [go_sem,Act.eval,-Array.getD_eq_getD_getElem?,e20]) rfl (by rw [zJ (by decide),zJ (by decide)];exact hD) (fun _ _ _ _ h=>h)⟩
  | ix+6,ho=>simp at ho
 case hend =>
  intro γ v L w9 hD hall hv
  rw [hall 3 (by decide),hall 4 (by decide),if_pos rfl,if_pos rfl] at hD
  have v8:v 5=.int .i64 err:=hv 5 8 rfl
  have HD:=zB hD
  clear hv hall hD h0
  simp only [zt,List.getElem?_cons_zero,List.getElem?_cons_succ,Option.bind_some,List.length_cons,List.length_nil,Nat.reduceAdd,v8]
  clear v8
  go_frame
  go_wp2
  have t0:=(zA HD).1.cell 3 rfl 0 rfl
  have t1:=(zA HD).1.cell 3 rfl 1 rfl
  have s0:=(zA HD).1.cell 4 rfl 0 rfl
  have s1:=(zA HD).1.cell 4 rfl 1 rfl
  refine bodyPost_ret (v:=.tuple #[.agg #[.slice T4 (zU Y).length tc4,.slice G4 Y.gens.length gc4],.agg #[.int .i64 ci,.int .i64 cg],.int .i64 err]) (by simp [results,Try.results62,go_sem,t0,t1,s0,s1]) rfl ⟨T4,tc4,G4,gc4,rfl,(zA HD).2.2.2.1.le (by omega),(zA HD).2.2.2.2⟩
end Go.Proofs.Ytnbleebilmghcaa
namespace Go.Proofs.Ytnbleebilmghcaa
open Go Go.RowKit
attribute [local go_sem ↓] Go.wp_at_zero Go.wp_at_succ
end Go.Proofs.Ytnbleebilmghcaa
namespace Go.Proofs.Ytnbleebilmghcaa
open Go Go.RowKit
attribute [local go_sem ↓] Go.wp_at_zero Go.wp_at_succ
end Go.Proofs.Ytnbleebilmghcaa
namespace Go.Proofs.Ytnbleebilmghcaa
open Go Go.RowKit
theorem run_field43 (x y:Value) (w:World):Sem.run Try.prog (Instr.field 43 (.agg #[x,y]) 0) w=.ok x w:=by kernel_rfl
theorem same_ws {X:Wd} (hl:X.rows.length≤60) (hgl:X.gens.length≤60) (W:World) (A:Option Addr) (c:Nat) (G:Option Addr) (gc:Nat) (A':Option Addr) (c':Nat) (G':Option Addr) (gc':Nat) (h:WldAt W A c G gc X) (h':WldAt W A' c' G' gc' X) :
  Calls Try.prog 36 #[.agg #[.slice A X.rows.length c,.slice G X.gens.length gc],.agg #[.slice A' X.rows.length c',.slice G' X.gens.length gc']] W fun e w'=>e=.returned (.bool true)∧Below W.heap.size W w' :=
 same_true A X.rows.length c G X.gens.length gc A' c' G' gc' (fun j=>X.rows.getD j dR) (fun j=>X.gens.getD j 0) W (by omega) (by omega) h.rows h'.rows h.gens h'.gens
end Go.Proofs.Ytnbleebilmghcaa
