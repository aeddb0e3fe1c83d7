/- PRSpawn0, PRSpawn, PRSpawn2 -/
import Derived.Test.YtnbleebilmghcabGreatWG
import Derived.Test.YtnbleebilmghcabGreatWU
set_option linter.all false
namespace Go.Proofs.YtnbleebilmghcabGreat
open Go Go.RowKit
attribute [local go_sem ↓] Go.wp_at_zero Go.wp_at_succ
theorem zCA {P:Program} (w:World) {ops:Array Oper} {rest:List Oper} {o:Oper} {a:Act} {Q:Exit→Act→World→Prop} (hgd:o.guard=none) (s x:Operand) (t:TypeId)
  (ho:o.op=.call { callee:=.builtin .append,args:=#[s,x],argTypes:=#[t,t] })
  (base:Nat) (e:TypeId) (i:TypeInfo) (z:Value) (size bytes:Nat) (ht:P.underlying t=some (.slice e)) (hi:P.info? e=some i) (hz:i.zero=some z)
  (hsize:i.size=size) (hby:i.bytes=bytes) (hzs:z.cells.size=size) (hsz:0<size)
  (g:Nat) (hs:a.eval s=.slice (some ⟨g,0,none⟩) 0 0) (hown:w.ownsRow base e size (.slice (some ⟨g,0,none⟩) 0 0) 0 [])
  (A:Option Addr) (n c:Nat) (xs:List Value) (hx:a.eval x=.slice A n c) (hc:zDB w A n size xs)
  (h63:n≤maxLen) (hbytes:n*bytes≤140737488355328) (hbase:base≤w.heap.size)
  (h:∀ v' w',w'.ownsRow base e size v' n xs→w.grownBy w' (some g)→wpList P ops Q rest (a.put o.dst v') w'):wpList P ops Q (o :: rest) a w:=by
 obtain ⟨h1,h2,h3⟩:=hc
 rcases h3 with rfl | ⟨ad,rfl,h3⟩
 ·have hx0:xs=[]:=List.eq_nil_of_length_eq_zero (by omega)
  subst hx0
  have hr:∀ ty,(Builtin.append_ #[t,t] ty #[.slice (some ⟨g,0,none⟩) 0 0,.slice A 0 c]).run P w=.ok (.slice (some ⟨g,0,none⟩) 0 0) w:=fun ty=>by
   cases A <;> simp [Builtin.append_,run_underlying ht,sizeOf,typeInfo,hi,Builtin.lenOf,Builtin.firstCells,loadCells,loadCellsFrom,storeCells]
  refine wpList_plain hgd fun _ hK=>?_
  unfold Oper.wp execOp
  simp only [ho,resolve,invoke,builtin,Sem.run_bind,Sem.run_pure,Result.andThen_ok,List.map_toArray,List.map_cons,List.map_nil,hs,hx,hr]
  exact hK _ _ (h _ _ hown (World.grownBy.refl _ _))
 ·refine wpList_append_own_at w hgd s x t ho base e i z size bytes ht hi hz hsize hby hzs hsz (.slice (some ⟨g,0,none⟩) 0 0) 0 [] hs hown ad n c xs hx h1 h3 h2 (by omega) (by rw [Nat.zero_add];exact hbytes) hbase ?_
  intro v' w' h4 h5 _ _
  rw [Nat.zero_add,List.nil_append] at h4
  exact h v' w' h4 h5
theorem zGu (W:World):(W.alloc (.cells #[] 3)).ownsRow W.heap.size 3 1 (.slice (some ⟨W.heap.size,0,none⟩) 0 0) 0 [] :=
 ⟨rfl,.inr ⟨W.heap.size,0,#[],rfl,Nat.le_refl _,(by show (W.heap.push _)[W.heap.size]?=_;simp),Nat.le_refl _,by unfold maxLen;omega,rfl,rfl⟩⟩
structure XB (w:World) (u0 u1:Value) (b10 b12:Nat) (i g:Int) (x:RowI) (W:World):Prop where
 sb:SB w u0 u1 (.slice none 0 0) (.slice none 0 0) (.int .i64 0) (.int .i64 0) W
 i0:W.cell? ⟨b10,0,none⟩=some (.int .i64 i)
 i1:W.cell? ⟨b10,1,none⟩=some (.int .i64 g)
 row:RowAt W b12 0 x
 fr:∀ j,W.frozen? ⟨b12,j,none⟩=false
 h10:w.heap.size+3≤b10
 h12:b10<b12
section
variable {w W W1:World} {u0 u1:Value} {b10 b12:Nat} {i g:Int} {x:RowI}
theorem XB.ly (h:XB w u0 u1 b10 b12 i g x W):b12<W.heap.size:=World.block_lt_of_cell? W ⟨b12,0,none⟩ h.row.c0
theorem XB.keep (h:XB w u0 u1 b10 b12 i g x W) (hb:Below (b12+1) W W1):XB w u0 u1 b10 b12 i g x W1 :=
 ⟨h.sb.keep (hb.mono (by have:=h.h10;have:=h.h12;omega)),(hb.cell (p:=⟨b10,0,none⟩) (show b10<b12+1 by have:=h.h12;omega)).trans h.i0,(hb.cell (p:=⟨b10,1,none⟩) (show b10<b12+1 by have:=h.h12;omega)).trans h.i1,
  ⟨(hb.cell (p:=⟨b12,0,none⟩) (by simp)).trans h.row.c0,(hb.cell (p:=⟨b12,0+1,none⟩) (by simp)).trans h.row.c1,(hb.cell (p:=⟨b12,0+2,none⟩) (by simp)).trans h.row.c2,fun k hk=>(hb.cell (p:=⟨b12,0+3+k,none⟩) (by simp)).trans (h.row.v k hk)⟩,
  fun j=>(hb.frozen (p:=⟨b12,j,none⟩) (by simp)).trans (h.fr j),h.h10,h.h12⟩
theorem XB.below (h:XB w u0 u1 b10 b12 i g x W) (hb:Below W.heap.size W W1):XB w u0 u1 b10 b12 i g x W1:=h.keep (hb.mono h.ly)
theorem XB.setV (h:XB w u0 u1 b10 b12 i g x W) (k:Nat) (hk:k<8) (n:Int):XB w u0 u1 b10 b12 i g ⟨x.ix,x.gen,x.has,fun j=>if j=k then n else x.v j⟩ (W.setCell ⟨b12,3+k,none⟩ (.int .i64 n)):=by
 have hb:Below b12 W (W.setCell ⟨b12,3+k,none⟩ (.int .i64 n)):=(Below.refl _ _).setCell (p:=⟨b12,3+k,none⟩) (Nat.le_refl _) _
 exact ⟨h.sb.keep (hb.mono (by have:=h.h10;have:=h.h12;omega)),(hb.cell (p:=⟨b10,0,none⟩) h.h12).trans h.i0,(hb.cell (p:=⟨b10,1,none⟩) h.h12).trans h.i1,by have:=zCX h.row k hk n;rwa [Nat.zero_add] at this,fun j=>by simpa using h.fr j,h.h10,h.h12⟩
theorem XB.start (h:SB w u0 u1 (.slice none 0 0) (.slice none 0 0) (.int .i64 0) (.int .i64 0) W) (i g has:Int) (f:Nat→Int) (hf:∀ k,k<8→f k=0):XB w u0 u1 W.heap.size (W.heap.size+1) i g ⟨i,g,has,f⟩ ((W.alloc (.cells #[.int .i64 i,.int .i64 g] 61)).alloc (.cells #[.int .i64 i,.int .i64 g,.int .i64 has,.int .i64 0,.int .i64 0,.int .i64 0,.int .i64 0,.int .i64 0,.int .i64 0,.int .i64 0,.int .i64 0] 116)):=by
 obtain ⟨a0,a1,af,ab⟩:=zAe (W:=W) (u0:=.int .i64 i) (u1:=.int .i64 g) (t:=61) rfl
 have z:(W.alloc (.cells #[.int .i64 i,.int .i64 g] 61)).heap.size=W.heap.size+1:=by simp
 have h1:=h.below ab
 generalize W.alloc (.cells #[.int .i64 i,.int .i64 g] 61)=W1 at *
 have hb:=zAS W1 (.cells #[.int .i64 i,.int .i64 g,.int .i64 has,.int .i64 0,.int .i64 0,.int .i64 0,.int .i64 0,.int .i64 0,.int .i64 0,.int .i64 0,.int .i64 0] 116)
 obtain ⟨h2,h3⟩:=zDe W1 ⟨i,g,has,fun _=>0⟩ 116
 rw [z] at h2 h3
 exact ⟨h1.below hb,zC hb a0,zC hb a1,⟨h2.c0,h2.c1,h2.c2,fun k hk=>by show _=some (Value.int .i64 (f k));rw [hf k hk];exact h2.v k hk⟩,h3,h.sz,Nat.lt_succ_self _⟩
end
structure GB (w:World) (u0 u1:Value) (b10 b12 B:Nat) (i g:Int) (x:RowI) (v8:Value) (gens:List Int) (W:World):Prop where
 xb:XB w u0 u1 b10 b12 i g x W
 p8:W.ownsRow B 3 1 v8 gens.length (zJ gens)
 hB:b12<B
 hs:B≤W.heap.size
section
variable {w W W1:World} {u0 u1:Value} {b10 b12 B:Nat} {i g:Int} {x:RowI} {v8 v8':Value} {gens gens':List Int}
theorem GB.below (h:GB w u0 u1 b10 b12 B i g x v8 gens W) (hb:Below W.heap.size W W1):GB w u0 u1 b10 b12 B i g x v8 gens W1:=⟨h.xb.below hb,zc h.p8 hb,h.hB,Nat.le_trans h.hs hb.size⟩
theorem GB.row8 (h:GB w u0 u1 b10 b12 B i g x v8 gens W):∀ k,v8.ownBlock=some k→B≤k:=fun k e=>(h.p8.lt k e).1
theorem GB.give (h:GB w u0 u1 b10 b12 B i g x v8 gens W) (hg:W.grownBy W1 v8.ownBlock) (q8:W1.ownsRow B 3 1 v8' gens'.length (zJ gens')):GB w u0 u1 b10 b12 B i g x v8' gens' W1:=by
 have hb:=zZ hg h.row8 h.hs
 exact ⟨h.xb.keep (hb.mono h.hB),q8,h.hB,Nat.le_trans h.hs hb.size⟩
theorem GB.setG {g8 c8 ln:Nat} (h:GB w u0 u1 b10 b12 B i g x (.slice (some ⟨g8,0,none⟩) ln c8) gens W) (hln:ln=gens.length) (k:Nat) (hk:k<gens.length) (n:Int) :
  GB w u0 u1 b10 b12 B i g x (.slice (some ⟨g8,0,none⟩) ln c8) (gens.set k n) (W.setCell ⟨g8,k,none⟩ (.int .i64 n)):=by
 subst hln
 have q:=zGB h.p8 (j:=k) (by rw [zAb];omega) (.int .i64 n)
 rw [zCu] at q
 exact h.give (zDJ W g8 k (.int .i64 n)) (by rw [List.length_set];exact q)
theorem GB.thereG {g8 c8 ln:Nat} (h:GB w u0 u1 b10 b12 B i g x (.slice (some ⟨g8,0,none⟩) ln c8) gens W) (hln:ln=gens.length) (k:Nat) (hk:k<gens.length):W.there g8 k 1:=by
 subst hln
 exact zAL h.p8 k 1 (by rw [zAb];omega)
theorem GB.app {g8 c8:Nat} (h:GB w u0 u1 b10 b12 B i g x v8 gens W) (q8:W1.ownsRow B 3 1 (.slice (some ⟨g8,0,none⟩) (gens.length+1) c8) (gens.length+1) (zJ gens++[.int .i64 0])) (hg:W.grownBy W1 v8.ownBlock) :
  GB w u0 u1 b10 b12 B i g x (.slice (some ⟨g8,0,none⟩) (gens++[0]).length c8) (gens++[0]) W1:=by
 refine h.give hg ?_
 rw [show (gens++[(0:Int)]).length=gens.length+1 by simp,show zJ (gens++[0])=zJ gens++[.int .i64 0] by simp [zJ]]
 exact q8
theorem GB.start (h:XB w u0 u1 b10 b12 i g x W) (hg:(W.alloc (.cells #[] 3)).grownBy W1 (some W.heap.size)) (q8:W1.ownsRow W.heap.size 3 1 v8 gens.length (zJ gens)):GB w u0 u1 b10 b12 W.heap.size i g x v8 gens W1:=by
 have hb:Below W.heap.size W W1:=(zAS W (.cells #[] 3)).trans (zZ hg (fun k e=>by simp only [Option.some.injEq] at e;omega) (by simp))
 exact ⟨h.below hb,q8,h.ly,hb.size⟩
theorem GB.out {v5 c0 c1:Value} {rows:List RowI} (h:GB w u0 u1 b10 b12 B i g x v8 gens W) (q5:W.ownsRow B 116 11 v5 rows.length (zD rows)):ZB w u0 u1 b10 W.heap.size B i g c0 c1 v5 v8 rows gens (W.alloc (.cells #[c0,c1] 43)):=by
 have hb:Below W.heap.size W (W.alloc (.cells #[c0,c1] 43)):=(Below.refl _ _).alloc (Nat.le_refl _) _
 obtain ⟨a0,a1,af,ab⟩:=zAe (W:=W) (u0:=c0) (u1:=c1) (t:=43) rfl
 exact ⟨h.xb.sb.below hb,zC hb h.xb.i0,zC hb h.xb.i1,a0,a1,af,zc q5 hb,zc h.p8 hb,by have:=h.xb.h10;have:=h.xb.h12;have:=h.hB;omega,Nat.lt_trans h.xb.h12 h.hB,h.hs,⟨#[c0,c1],(by show (W.heap.push _)[W.heap.size]?=_;simp)⟩⟩
end
def zEG (i g has n:Int) (j:Nat):RowI:=⟨i,g,has,fun t=>if t<j∧tb has t=true then n else 0⟩
theorem zGo (i g has n:Int) (j:Nat) (h:tb has j=true):zEG i g has n (j+1)=⟨i,g,has,fun t=>if t=j then n else (zEG i g has n j).v t⟩:=by
 unfold zEG
 congr 1
 funext t
 by_cases e:t=j
 ·subst e;simp [h]
 ·have:t<j+1↔t<j:=by omega
  simp [e,this]
theorem zIQ (i g has n:Int) (j:Nat) (h:tb has j=false):zEG i g has n (j+1)=zEG i g has n j:=by
 unfold zEG
 congr 1
 funext t
 by_cases e:t=j
 ·subst e;simp [h]
 ·have:t<j+1↔t<j:=by omega
  simp [this]
theorem zKT (i g has n:Int):zEG i g has n 8=zGS i g has n:=rfl
theorem zPP (has:Int) (j:Nat) (h:j<8) (W:World):(Instr.index 107 (.agg #[.bool (tb has 0),.bool (tb has 1),.bool (tb has 2),.bool (tb has 3),.bool (tb has 4),.bool (tb has 5),.bool (tb has 6),.bool (tb has 7)]) (.int .i64 (j:Int))).run Tryz.prog W=.ok (.bool (tb has j)) W:=by
 rcases (by omega:j=0∨j=1∨j=2∨j=3∨j=4∨j=5∨j=6∨j=7) with rfl | rfl | rfl | rfl | rfl | rfl | rfl | rfl <;> kernel_rfl
end Go.Proofs.YtnbleebilmghcabGreat
set_option maxHeartbeats 8000000
set_option maxRecDepth 8000
namespace Go.Proofs.YtnbleebilmghcabGreat
open Go Go.RowKit
attribute [local go_sem ↓] Go.wp_at_zero Go.wp_at_succ
theorem zJL (A:Option Addr) (cap:Nat) (G:Option Addr) (gcap:Nat) (X:Wd) (has n:Int) (w:World) (hX:WldAt w A cap G gcap X) (hw0:(zP X).1=0) (hs:zAR has=true) (hv:zBY n=true) (k:Nat) (ng:Int) (hN1:(zAM X).1=((k:Int),ng)) (hN2:(zAM X).2=0) (hkl:k=X.gens.length) (rows':List RowI) (hrows:zEC X.rows (zGS (k:Int) ng has n)=rows') :
  Calls Tryz.prog 60 #[zi A cap G gcap X,.int .i64 has,.int .i64 n] w fun e w'=>∃ A' c' G' gc',e=.returned (.tuple #[.agg #[.slice A' rows'.length c',.slice G' ((X.gens++[(0:Int)]).set k ng).length gc'],.agg #[.int .i64 (k:Int),.int .i64 ng],.int .i64 0])∧WldDoc w.heap.size w' none A' c' G' gc' ⟨rows',(X.gens++[(0:Int)]).set k ng⟩∧Below w.heap.size w w':=by
 have hSB:=SB.start w (.slice A X.rows.length cap) (.slice G X.gens.length gcap)
 have hP:=fun W (hb:Below w.heap.size w W)=>zp A X.rows.length cap G X.gens.length gcap (fun j=>X.rows.getD j dR) (fun j=>X.gens.getD j 0) W (by have:=(zk hw0).1;omega) (hX.rows.below hb) (hX.gens.below hb)
 have eW:zAT (fun j=>X.rows.getD j dR) X.rows.length X.gens.length (fun j=>X.gens.getD j 0)=zP X:=rfl
 rw [eW] at hP
 unfold zAG zM at hP
 obtain ⟨hr1,hr2,hr3⟩:=zk hw0
 rw [hw0] at hP
 have hNX:=fun W (hb:Below w.heap.size w W)=>zEt A cap G gcap X W (by omega) (by omega) (fun j hj=>by have:=hr3 j hj;omega) (hX.below hb)
 rw [hN1,hN2] at hNX
 unfold zi zM zS at hNX
 dsimp only at hNX
 have hs0:0≤has∧has≤255:=by unfold zAR at hs;simpa using hs
 obtain ⟨hs0,hs1⟩:=hs0
 have hBI:=fun W=>zEd has W hs0 hs1
 have hST:=zAs has
 have hVL:=zx n
 rw [hs] at hST
 rw [hv] at hVL
 have hWI:=fun W (h:WldAt W A cap G gcap X)=>zDk A cap G gcap X (zGS (k:Int) ng has n) W (by omega) h
 rw [hrows] at hWI
 unfold zi zM zAD at hWI
 obtain ⟨i3,hi3,hz3,hs3,hb3⟩:=info_parts info3
 obtain ⟨r,hr⟩:∃ r,r=zGS (k:Int) ng has n:=⟨_,rfl⟩
 rw [←hr] at hWI
 have HRR:=zB hr
 have hix:=zPP has
 generalize (zP X).2=wa at *
 have HP:=zB hP
 have HX:=zB hX
 have HSB:=zB hSB
 have HNX:=zB hNX
 have HBI:=zB hBI
 have HST:=zB hST
 have HVL:=zB hVL
 have HWI:=zB hWI
 have HI3:=zB hi3
 have HZZ3:=zB hz3
 have HSS3:=zB hs3
 have HBB3:=zB hb3
 have HIX:=zB hix
 clear hP hX hSB hNX hBI hST hVL hWI hi3 hz3 hs3 hb3 eW hrows hN1 hN2 hw0 hs hv hr hix
 have HKL:=zB hkl
 have k0:(0:Int)≤(k:Int):=by omega
 have k1:(X.gens.length:Int)≤(k:Int):=by omega
 have k2:(k:Int)<((X.gens.length+1:Nat):Int):=by omega
 have k3:¬ (k:Int)<(X.gens.length:Int):=by omega
 have HLB:=zB (show X.gens.length+1=(X.gens++[(0:Int)]).length by simp)
 have HKB:=zB (show k<(X.gens++[(0:Int)]).length by simp;omega)
 clear hkl
 unfold zi zM
 go_enter Tryz.func60,Tryz.ntmps60
 go_wp2_with (first
  | (go_at_call 55;refine (zA HP _ (zA HSB).bel).mono ?_;rintro e w5 ⟨rfl,hb5⟩;have hS5:=(zA HSB).below hb5;have hS6:=hS5.below ((Below.refl _ _).alloc (Nat.le_refl _) (.cells #[.int .i64 0,.int .i64 wa] 29));have r0:=hS6.r0;have r1:=hS6.r1;have HS6:=zB hS6;clear hb5 hS5 hS6)
  | (go_at_call 45;refine (zA HST _).mono ?_;rintro e w1 ⟨rfl,hw⟩;obtain rfl:=hw.symm)
  | (go_at_call 97;refine (zA HVL _).mono ?_;rintro e w1 ⟨rfl,hw⟩;obtain rfl:=hw.symm)
  | (go_at_call 99;refine (zA HNX _ (zA HS6).bel).mono ?_;rintro e w6 ⟨rfl,hb6⟩;have hS8:=(zA HS6).below hb6;have HX8:=zB (XB.start hS8 (k:Int) ng has (zEG (k:Int) ng has n 0).v (fun t ht=>by simp [zEG]));have HZ6:=zB hS8.sz;clear hb6 hS8 r0 r1)
  | (go_at_call 100;refine (zA HBI _).mono ?_;rintro e w7 ⟨rfl,hb7,hz7⟩;have HX9:=zB ((zA HX8).below hb7);clear hb7 hz7 HX8))
 go_loopw [51] (fun t wr=>∃ j:Nat,j≤8∧t=.int .i64 j∧XB w (.slice A X.rows.length cap) (.slice G X.gens.length gcap) w6.heap.size (w6.heap.size+1) (k:Int) ng (zEG (k:Int) ng has n j) wr) (fun t _=>8 - (intOf t).toNat)
 case atStart=>exact ⟨0,Nat.zero_le _,rfl,zA HX9⟩
 case round =>
  clear HX9
  obtain ⟨j,hj,rfl,hC⟩:=hrel
  by_cases hlt:j<8
  ·have j0:(0:Int)≤(j:Int):=by omega
   have j1:(j:Int)<8:=by omega
   have hix:=zA HIX j hlt
   cases hb:tb has j
   ·have HEQ:=zB (zIQ (k:Int) ng has n j hb)
    rw [hb] at hix
    have HC:=zB hC
    clear hC hb
    go_wp2
    go_roundw
    case rel=>exact ⟨j+1,by omega,by go_num,by rw [zA HEQ];exact zA HC⟩
    case measure=>simp [intOf];omega
   ·have HEQ:=zB (zGo (k:Int) ng has n j hb)
    rw [hb] at hix
    have HC:=zB hC
    clear hC hb
    go_wp2_with (first
     | (refine zT rfl 3 (.tmp 59) (.tmp 57) rfl (w6.heap.size+1) (3+j) (.int .i64 n) rfl rfl rfl size3 (by have:=zAB ((zA HC).row.v j hlt) (zA HC).fr;rwa [Nat.zero_add] at this) ?_;intro W13 hW13;have hY13:=(zA HC).setV j hlt n;rw [←hW13] at hY13;have HY13:=zB hY13;clear hW13 hY13))
    go_roundw
    case rel=>exact ⟨j+1,by omega,by go_num,by rw [zA HEQ];exact zA HY13⟩
    case measure=>simp [intOf];omega
  ·obtain rfl:j=8:=by omega
   rw [zKT,←zA HRR] at hC
   have r1:=hC.sb.r1
   have lr:=World.block_lt_of_cell? wr _ r1
   have HC:=zB hC
   clear hC HIX HBI
   go_wp2_with (first
    | (at_builtin;refine zCA _ rfl (.tmp 61) (.tmp 63) 23 rfl wr.heap.size 3 i3 _ 1 8 Tryz.underlying23 (zA HI3) (zA HZZ3) (zA HSS3) (zA HBB3) rfl (by decide) wr.heap.size rfl (zGu wr) G X.gens.length gcap (zJ X.gens) rfl ((zA HX).below ((zA HC).sb.bel.trans ((zAS wr (.cells #[] 3)).mono (zA HC).sb.bel.size))).gens.copies (by unfold maxLen;omega) (by omega) (by simp) ?_;intro v8 w8 q8 hg8;obtain ⟨A8,c8,rfl⟩:=zAV q8;have hG8:=GB.start (zA HC) (gens:=X.gens) hg8 q8;have i0:=hG8.xb.i0;have HG8:=zB hG8;clear q8 hg8 hG8 r1 lr)
    | (at_builtin;refine ze _ rfl (.tmp 70) (.tmp 71) 23 rfl wr.heap.size 3 i3 _ 1 8 Tryz.underlying23 (zA HI3) (zA HZZ3) (zA HSS3) (zA HBB3) rfl (by decide) (.slice A8 X.gens.length c8) X.gens.length (zJ X.gens) rfl ((zA HG8).below (zAS _ _)).p8 ⟨w8.heap.size,0,none⟩ 1 1 [.int .i64 0] rfl rfl (zEb w8 (.int .i64 0) 3) (by simp [Value.oneCell']) (by unfold maxLen;omega) (by omega) ((zA HG8).below (zAS _ _)).hs (by omega) ?_;intro g9 c9 w9 q9 hg9 hw9;have hG9:=((zA HG8).below (zAS w8 (.cells #[.int .i64 0] 3))).app q9 hg9;rw [←zA HLB] at hG9;clear i0;have i0:=hG9.xb.i0;have i1:=hG9.xb.i1;have HG9:=zB hG9;clear q9 hg9 hw9 hG9 HG8)
    | (refine zT rfl 3 (.tmp 78) (.tmp 77) rfl g9 k (.int .i64 ng) rfl rfl rfl size3 ((zA HG9).thereG (zA HLB) k (zA HKB)) ?_;intro W5 hW5;have hG10:=(zA HG9).setG (zA HLB) k (zA HKB) ng;rw [←hW5] at hG10;obtain ⟨p0,p1,p2,p3,p4,p5,p6,p7,p8,p9,p10⟩:=zDQ hG10.xb.row;have r0:=hG10.xb.sb.r0;have r1:=hG10.xb.sb.r1;have HG10:=zB hG10;clear hW5 hG10 HG9 i0 i1)
    | (go_at_call 101;refine (zA HWI _ ((zA HX).below (zA HG10).xb.sb.bel)).mono ?_;rintro e w15 ⟨A5,c5,rfl,ho5,hb15⟩;have hG15:=(zA HG10).below hb15;have HZ16:=zB (hG15.out (c0:=.slice A5 rows'.length c5) (c1:=.slice G X.gens.length gcap) (zc (zBX ho5 (zA HG10).hs) (Below.refl _ _)));clear ho5 hb15 hG15 r0 r1 p0 p1 p2 p3 p4 p5 p6 p7 p8 p9 p10 HG10)
    | (refine zT rfl 23 (.tmp 83) (.tmp 82) rfl w15.heap.size 1 (.slice (some ⟨g9,0,none⟩) (X.gens.length+1) c9) rfl rfl rfl size26 ((zA HZ16).there12 1 (by decide)) ?_;intro W8 hW8;have hZ5:=(zA HZ16).set1 (.slice (some ⟨g9,0,none⟩) (X.gens.length+1) c9);rw [←hW8] at hZ5;have HZ5:=zB hZ5;clear hW8 hZ5 HZ16))
   try go_frame
   refine zAg [0,1,4] [2,3] (fun L W=>∃ y0 y1 z0 z1,SB w (.slice A X.rows.length cap) (.slice G X.gens.length gcap) y0 y1 z0 z1 W∧(L 2=true→y0=.slice A5 rows'.length c5∧y1=(.slice (some ⟨g9,0,none⟩) (X.gens.length+1) c9))∧(L 3=true→z0=.int .i64 (k:Int)∧z1=.int .i64 ng)∧FE w w6.heap.size w15.heap.size wr.heap.size (k:Int) ng (.slice A5 rows'.length c5) (.slice (some ⟨g9,0,none⟩) (X.gens.length+1) c9) rows' ((X.gens++[(0:Int)]).set k ng) W)
    (by kernel_rfl) (by kernel_rfl) (by kernel_rfl) (by kernel_rfl) (by kernel_rfl) (by kernel_rfl) (by kernel_rfl) ?_ ?_ ?_ ?_
   ·rintro L w1 x ⟨y0,y1,z0,z1,h1,h2,h3,h4⟩
    exact ⟨y0,y1,z0,z1,h1.below x.bel,h2,h3,h4.below x.bel⟩
   ·rintro L L' w1 he ⟨y0,y1,z0,z1,h1,h2,h3,h4⟩
    exact ⟨y0,y1,z0,z1,h1,by rw [he 2 (by simp)];exact h2,by rw [he 3 (by simp)];exact h3,h4⟩
   ·exact ⟨_,_,_,_,(zA HZ5).sb,fun h=>(by cases h),fun h=>(by cases h),(zA HZ5).fin (c0:=.int .i64 0) (c1:=.int .i64 0) (zA HZ6)⟩
   ·apply Exists.intro
    refine ⟨?hq,?hl,?hend⟩
    case hq =>
     rintro l L w1 hl ⟨y0,y1,z0,z1,h1,h2,h3,h4⟩
     simp only [zCZ,List.getElem?_cons_zero,List.getElem?_cons_succ,Option.toList_some,List.cons_append,List.nil_append] at hl
     subst hl
     have hne:Nonempty (Sub w1):=⟨⟨w1,Below.refl _ _⟩⟩
     have q0:=zN h4.o0
     have q1:=zN h4.o1
     have q2:=zN h4.i0
     have q3:=zN h4.i1
     clear h1 h2 h3 h4
     repeat (go_big_quiet_step (fail))
     exact wpQuiet_nil rfl
    case hl =>
     rintro i o hi ho L w1 ⟨y0,y1,z0,z1,h1,h2,h3,h4⟩ hL
     simp only [List.mem_cons,List.not_mem_nil,or_false] at hi
     rcases hi with rfl | rfl
     ·simp only [List.getElem?_cons_zero,List.getElem?_cons_succ,Option.some.injEq] at ho
      subst ho
      refine zG rfl 43 (.tmp 6) (.tmp 84) rfl (w.heap.size+1) 0 [.slice A5 rows'.length c5,(.slice (some ⟨g9,0,none⟩) (X.gens.length+1) c9)] rfl rfl (by simp [Value.oneCell']) size38 h1.thereA ?_
      intro W3 hW3
      unfold wpList
      exact ⟨rfl,rfl,_,_,z0,z1,by rw [hW3];exact h1.giveA _ _,fun _=>⟨rfl,rfl⟩,fun h=>h3 h,by rw [hW3];exact h4.sets (by omega)⟩
     ·simp only [List.getElem?_cons_zero,List.getElem?_cons_succ,Option.some.injEq] at ho
      subst ho
      refine zG rfl 61 (.tmp 7) (.tmp 85) rfl (w.heap.size+2) 0 [.int .i64 (k:Int),.int .i64 ng] rfl rfl (by simp [Value.oneCell']) size40 h1.thereB ?_
      intro W3 hW3
      unfold wpList
      exact ⟨rfl,rfl,y0,y1,_,_,by rw [hW3];exact h1.giveB _ _,fun h=>h2 h,fun _=>⟨rfl,rfl⟩,by rw [hW3];exact h4.sets (by omega)⟩
    case hend =>
     rintro L w1 ⟨y0,y1,z0,z1,h1,h2,h3,h4⟩ hall
     obtain ⟨rfl,rfl⟩:=h2 (hall 2 (by simp))
     obtain ⟨rfl,rfl⟩:=h3 (hall 3 (by simp))
     have HS8:=zB h1
     have HE:=zB h4
     clear h1 h2 h3 h4 hall
     go_wp2
     have t0:=(zA HS8).t0
     have t1:=(zA HS8).t1
     have s0:=(zA HS8).s0
     have s1:=(zA HS8).s1
     have h8:w1.ownsRow wr.heap.size 3 1 (.slice (some ⟨g9,0,none⟩) ((X.gens++[(0:Int)]).set k ng).length c9) ((X.gens++[(0:Int)]).set k ng).length (zJ ((X.gens++[(0:Int)]).set k ng)):=by have:=(zA HE).p8;rw [show ((X.gens++[(0:Int)]).set k ng).length=X.gens.length+1 by simp] at this ⊢;exact this
     refine bodyPost_ret (v:=.tuple #[.agg #[.slice A5 rows'.length c5,(.slice (some ⟨g9,0,none⟩) (X.gens.length+1) c9)],.agg #[.int .i64 (k:Int),.int .i64 ng],.int .i64 0]) (by simp [results,Tryz.results60,go_sem,t0,t1,s0,s1]) rfl ⟨A5,c5,some ⟨g9,0,none⟩,c9,?_,⟨⟨zAt (zA HE).p5,zEX h8⟩,zAH (zA HE).p5 (by have:=(zA HE).hB;omega),.inr (zAH h8 (by have:=(zA HE).hB;omega))⟩,(zA HS8).bel⟩
     rw [show ((X.gens++[(0:Int)]).set k ng).length=X.gens.length+1 by simp]
theorem zJK (A:Option Addr) (cap:Nat) (G:Option Addr) (gcap:Nat) (X:Wd) (has n:Int) (w:World) (hX:WldAt w A cap G gcap X) (hw0:(zP X).1=0) (hs:zAR has=true) (hv:zBY n=true) (k:Nat) (ng:Int) (hN1:(zAM X).1=((k:Int),ng)) (hN2:(zAM X).2=0) (hkl:k<X.gens.length) (rows':List RowI) (hrows:zEC X.rows (zGS (k:Int) ng has n)=rows') :
  Calls Tryz.prog 60 #[zi A cap G gcap X,.int .i64 has,.int .i64 n] w fun e w'=>∃ A' c' G' gc',e=.returned (.tuple #[.agg #[.slice A' rows'.length c',.slice G' (X.gens.set k ng).length gc'],.agg #[.int .i64 (k:Int),.int .i64 ng],.int .i64 0])∧WldDoc w.heap.size w' none A' c' G' gc' ⟨rows',X.gens.set k ng⟩∧Below w.heap.size w w':=by
 have hSB:=SB.start w (.slice A X.rows.length cap) (.slice G X.gens.length gcap)
 have hP:=fun W (hb:Below w.heap.size w W)=>zp A X.rows.length cap G X.gens.length gcap (fun j=>X.rows.getD j dR) (fun j=>X.gens.getD j 0) W (by have:=(zk hw0).1;omega) (hX.rows.below hb) (hX.gens.below hb)
 have eW:zAT (fun j=>X.rows.getD j dR) X.rows.length X.gens.length (fun j=>X.gens.getD j 0)=zP X:=rfl
 rw [eW] at hP
 unfold zAG zM at hP
 obtain ⟨hr1,hr2,hr3⟩:=zk hw0
 rw [hw0] at hP
 have hNX:=fun W (hb:Below w.heap.size w W)=>zEt A cap G gcap X W (by omega) (by omega) (fun j hj=>by have:=hr3 j hj;omega) (hX.below hb)
 rw [hN1,hN2] at hNX
 unfold zi zM zS at hNX
 dsimp only at hNX
 have hs0:0≤has∧has≤255:=by unfold zAR at hs;simpa using hs
 obtain ⟨hs0,hs1⟩:=hs0
 have hBI:=fun W=>zEd has W hs0 hs1
 have hST:=zAs has
 have hVL:=zx n
 rw [hs] at hST
 rw [hv] at hVL
 have hWI:=fun W (h:WldAt W A cap G gcap X)=>zDk A cap G gcap X (zGS (k:Int) ng has n) W (by omega) h
 rw [hrows] at hWI
 unfold zi zM zAD at hWI
 obtain ⟨i3,hi3,hz3,hs3,hb3⟩:=info_parts info3
 obtain ⟨r,hr⟩:∃ r,r=zGS (k:Int) ng has n:=⟨_,rfl⟩
 rw [←hr] at hWI
 have HRR:=zB hr
 have hix:=zPP has
 generalize (zP X).2=wa at *
 have HP:=zB hP
 have HX:=zB hX
 have HSB:=zB hSB
 have HNX:=zB hNX
 have HBI:=zB hBI
 have HST:=zB hST
 have HVL:=zB hVL
 have HWI:=zB hWI
 have HI3:=zB hi3
 have HZZ3:=zB hz3
 have HSS3:=zB hs3
 have HBB3:=zB hb3
 have HIX:=zB hix
 clear hP hX hSB hNX hBI hST hVL hWI hi3 hz3 hs3 hb3 eW hrows hN1 hN2 hw0 hs hv hr hix
 have HKL:=zB hkl
 have k0:(0:Int)≤(k:Int):=by omega
 have k1:(k:Int)<(X.gens.length:Int):=by omega
 have k3:decide (X.gens.length≤k)=false:=by simp;omega
 have k4:decide ((X.gens.length:Int)≤(k:Int))=false:=by simp;omega
 have HKB:=zB hkl
 clear hkl
 unfold zi zM
 go_enter Tryz.func60,Tryz.ntmps60
 go_wp2_with (first
  | (go_at_call 55;refine (zA HP _ (zA HSB).bel).mono ?_;rintro e w5 ⟨rfl,hb5⟩;have hS5:=(zA HSB).below hb5;have hS6:=hS5.below ((Below.refl _ _).alloc (Nat.le_refl _) (.cells #[.int .i64 0,.int .i64 wa] 29));have r0:=hS6.r0;have r1:=hS6.r1;have HS6:=zB hS6;clear hb5 hS5 hS6)
  | (go_at_call 45;refine (zA HST _).mono ?_;rintro e w1 ⟨rfl,hw⟩;obtain rfl:=hw.symm)
  | (go_at_call 97;refine (zA HVL _).mono ?_;rintro e w1 ⟨rfl,hw⟩;obtain rfl:=hw.symm)
  | (go_at_call 99;refine (zA HNX _ (zA HS6).bel).mono ?_;rintro e w6 ⟨rfl,hb6⟩;have hS8:=(zA HS6).below hb6;have HX8:=zB (XB.start hS8 (k:Int) ng has (zEG (k:Int) ng has n 0).v (fun t ht=>by simp [zEG]));have HZ6:=zB hS8.sz;clear hb6 hS8 r0 r1)
  | (go_at_call 100;refine (zA HBI _).mono ?_;rintro e w7 ⟨rfl,hb7,hz7⟩;have HX9:=zB ((zA HX8).below hb7);clear hb7 hz7 HX8))
 go_loopw [51] (fun t wr=>∃ j:Nat,j≤8∧t=.int .i64 j∧XB w (.slice A X.rows.length cap) (.slice G X.gens.length gcap) w6.heap.size (w6.heap.size+1) (k:Int) ng (zEG (k:Int) ng has n j) wr) (fun t _=>8 - (intOf t).toNat)
 case atStart=>exact ⟨0,Nat.zero_le _,rfl,zA HX9⟩
 case round =>
  clear HX9
  obtain ⟨j,hj,rfl,hC⟩:=hrel
  by_cases hlt:j<8
  ·have j0:(0:Int)≤(j:Int):=by omega
   have j1:(j:Int)<8:=by omega
   have hix:=zA HIX j hlt
   cases hb:tb has j
   ·have HEQ:=zB (zIQ (k:Int) ng has n j hb)
    rw [hb] at hix
    have HC:=zB hC
    clear hC hb
    go_wp2
    go_roundw
    case rel=>exact ⟨j+1,by omega,by go_num,by rw [zA HEQ];exact zA HC⟩
    case measure=>simp [intOf];omega
   ·have HEQ:=zB (zGo (k:Int) ng has n j hb)
    rw [hb] at hix
    have HC:=zB hC
    clear hC hb
    go_wp2_with (first
     | (refine zT rfl 3 (.tmp 59) (.tmp 57) rfl (w6.heap.size+1) (3+j) (.int .i64 n) rfl rfl rfl size3 (by have:=zAB ((zA HC).row.v j hlt) (zA HC).fr;rwa [Nat.zero_add] at this) ?_;intro W13 hW13;have hY13:=(zA HC).setV j hlt n;rw [←hW13] at hY13;have HY13:=zB hY13;clear hW13 hY13))
    go_roundw
    case rel=>exact ⟨j+1,by omega,by go_num,by rw [zA HEQ];exact zA HY13⟩
    case measure=>simp [intOf];omega
  ·obtain rfl:j=8:=by omega
   rw [zKT,←zA HRR] at hC
   have r1:=hC.sb.r1
   have lr:=World.block_lt_of_cell? wr _ r1
   have HC:=zB hC
   clear hC HIX HBI
   go_wp2_with (first
    | (at_builtin;refine zCA _ rfl (.tmp 61) (.tmp 63) 23 rfl wr.heap.size 3 i3 _ 1 8 Tryz.underlying23 (zA HI3) (zA HZZ3) (zA HSS3) (zA HBB3) rfl (by decide) wr.heap.size rfl (zGu wr) G X.gens.length gcap (zJ X.gens) rfl ((zA HX).below ((zA HC).sb.bel.trans ((zAS wr (.cells #[] 3)).mono (zA HC).sb.bel.size))).gens.copies (by unfold maxLen;omega) (by omega) (by simp) ?_;intro v8 w8 q8 hg8;obtain ⟨g9,c9,rfl,_,_⟩:=zAP q8 (show 0<X.gens.length by omega);have hG8:=GB.start (zA HC) (gens:=X.gens) hg8 q8;have i0:=hG8.xb.i0;have i1:=hG8.xb.i1;have HG9:=zB hG8;clear q8 hg8 hG8 r1 lr)
    | (refine zT rfl 3 (.tmp 78) (.tmp 77) rfl g9 k (.int .i64 ng) rfl rfl rfl size3 ((zA HG9).thereG rfl k (zA HKB)) ?_;intro W5 hW5;have hG10:=(zA HG9).setG rfl k (zA HKB) ng;rw [←hW5] at hG10;obtain ⟨p0,p1,p2,p3,p4,p5,p6,p7,p8,p9,p10⟩:=zDQ hG10.xb.row;have r0:=hG10.xb.sb.r0;have r1:=hG10.xb.sb.r1;have HG10:=zB hG10;clear hW5 hG10 HG9 i0 i1)
    | (go_at_call 101;refine (zA HWI _ ((zA HX).below (zA HG10).xb.sb.bel)).mono ?_;rintro e w15 ⟨A5,c5,rfl,ho5,hb15⟩;have hG15:=(zA HG10).below hb15;have HZ16:=zB (hG15.out (c0:=.slice A5 rows'.length c5) (c1:=.slice G X.gens.length gcap) (zc (zBX ho5 (zA HG10).hs) (Below.refl _ _)));clear ho5 hb15 hG15 r0 r1 p0 p1 p2 p3 p4 p5 p6 p7 p8 p9 p10 HG10)
    | (refine zT rfl 23 (.tmp 83) (.tmp 82) rfl w15.heap.size 1 (.slice (some ⟨g9,0,none⟩) X.gens.length c9) rfl rfl rfl size26 ((zA HZ16).there12 1 (by decide)) ?_;intro W8 hW8;have hZ5:=(zA HZ16).set1 (.slice (some ⟨g9,0,none⟩) X.gens.length c9);rw [←hW8] at hZ5;have HZ5:=zB hZ5;clear hW8 hZ5 HZ16))
   try go_frame
   refine zAg [0,1,4] [2,3] (fun L W=>∃ y0 y1 z0 z1,SB w (.slice A X.rows.length cap) (.slice G X.gens.length gcap) y0 y1 z0 z1 W∧(L 2=true→y0=.slice A5 rows'.length c5∧y1=(.slice (some ⟨g9,0,none⟩) X.gens.length c9))∧(L 3=true→z0=.int .i64 (k:Int)∧z1=.int .i64 ng)∧FE w w6.heap.size w15.heap.size wr.heap.size (k:Int) ng (.slice A5 rows'.length c5) (.slice (some ⟨g9,0,none⟩) X.gens.length c9) rows' (X.gens.set k ng) W)
    (by kernel_rfl) (by kernel_rfl) (by kernel_rfl) (by kernel_rfl) (by kernel_rfl) (by kernel_rfl) (by kernel_rfl) ?_ ?_ ?_ ?_
   ·rintro L w1 x ⟨y0,y1,z0,z1,h1,h2,h3,h4⟩
    exact ⟨y0,y1,z0,z1,h1.below x.bel,h2,h3,h4.below x.bel⟩
   ·rintro L L' w1 he ⟨y0,y1,z0,z1,h1,h2,h3,h4⟩
    exact ⟨y0,y1,z0,z1,h1,by rw [he 2 (by simp)];exact h2,by rw [he 3 (by simp)];exact h3,h4⟩
   ·exact ⟨_,_,_,_,(zA HZ5).sb,fun h=>(by cases h),fun h=>(by cases h),(zA HZ5).fin (c0:=.int .i64 0) (c1:=.int .i64 0) (zA HZ6)⟩
   ·apply Exists.intro
    refine ⟨?hq,?hl,?hend⟩
    case hq =>
     rintro l L w1 hl ⟨y0,y1,z0,z1,h1,h2,h3,h4⟩
     simp only [zCZ,List.getElem?_cons_zero,List.getElem?_cons_succ,Option.toList_some,List.cons_append,List.nil_append] at hl
     subst hl
     have hne:Nonempty (Sub w1):=⟨⟨w1,Below.refl _ _⟩⟩
     have q0:=zN h4.o0
     have q1:=zN h4.o1
     have q2:=zN h4.i0
     have q3:=zN h4.i1
     clear h1 h2 h3 h4
     repeat (go_big_quiet_step (fail))
     exact wpQuiet_nil rfl
    case hl =>
     rintro i o hi ho L w1 ⟨y0,y1,z0,z1,h1,h2,h3,h4⟩ hL
     simp only [List.mem_cons,List.not_mem_nil,or_false] at hi
     rcases hi with rfl | rfl
     ·simp only [List.getElem?_cons_zero,List.getElem?_cons_succ,Option.some.injEq] at ho
      subst ho
      refine zG rfl 43 (.tmp 6) (.tmp 84) rfl (w.heap.size+1) 0 [.slice A5 rows'.length c5,(.slice (some ⟨g9,0,none⟩) X.gens.length c9)] rfl rfl (by simp [Value.oneCell']) size38 h1.thereA ?_
      intro W3 hW3
      unfold wpList
      exact ⟨rfl,rfl,_,_,z0,z1,by rw [hW3];exact h1.giveA _ _,fun _=>⟨rfl,rfl⟩,fun h=>h3 h,by rw [hW3];exact h4.sets (by omega)⟩
     ·simp only [List.getElem?_cons_zero,List.getElem?_cons_succ,Option.some.injEq] at ho
      subst ho
      refine zG rfl 61 (.tmp 7) (.tmp 85) rfl (w.heap.size+2) 0 [.int .i64 (k:Int),.int .i64 ng] rfl rfl (by simp [Value.oneCell']) size40 h1.thereB ?_
      intro W3 hW3
      unfold wpList
      exact ⟨rfl,rfl,y0,y1,_,_,by rw [hW3];exact h1.giveB _ _,fun h=>h2 h,fun _=>⟨rfl,rfl⟩,by rw [hW3];exact h4.sets (by omega)⟩
    case hend =>
     rintro L w1 ⟨y0,y1,z0,z1,h1,h2,h3,h4⟩ hall
     obtain ⟨rfl,rfl⟩:=h2 (hall 2 (by simp))
     obtain ⟨rfl,rfl⟩:=h3 (hall 3 (by simp))
     have HS8:=zB h1
     have HE:=zB h4
     clear h1 h2 h3 h4 hall
     go_wp2
     have t0:=(zA HS8).t0
     have t1:=(zA HS8).t1
     have s0:=(zA HS8).s0
     have s1:=(zA HS8).s1
     have h8:w1.ownsRow wr.heap.size 3 1 (.slice (some ⟨g9,0,none⟩) (X.gens.set k ng).length c9) (X.gens.set k ng).length (zJ (X.gens.set k ng)):=by have:=(zA HE).p8;rw [show (X.gens.set k ng).length=X.gens.length by simp] at this ⊢;exact this
     refine bodyPost_ret (v:=.tuple #[.agg #[.slice A5 rows'.length c5,(.slice (some ⟨g9,0,none⟩) X.gens.length c9)],.agg #[.int .i64 (k:Int),.int .i64 ng],.int .i64 0]) (by simp [results,Tryz.results60,go_sem,t0,t1,s0,s1]) rfl ⟨A5,c5,some ⟨g9,0,none⟩,c9,?_,⟨⟨zAt (zA HE).p5,zEX h8⟩,zAH (zA HE).p5 (by have:=(zA HE).hB;omega),.inr (zAH h8 (by have:=(zA HE).hB;omega))⟩,(zA HS8).bel⟩
     rw [show (X.gens.set k ng).length=X.gens.length by simp]
end Go.Proofs.YtnbleebilmghcabGreat
set_option maxHeartbeats 8000000
set_option maxRecDepth 8000
namespace Go.Proofs.YtnbleebilmghcabGreat
open Go Go.RowKit
attribute [local go_sem ↓] Go.wp_at_zero Go.wp_at_succ
theorem zJJ (A:Option Addr) (cap:Nat) (G:Option Addr) (gcap:Nat) (X:Wd) (has n:Int) (w:World) (hn0:X.rows.length≤9223372036854775807) (hX:WldAt w A cap G gcap X) (hw0:(zP X).1=0) (hs:zAR has=false) :
  Calls Tryz.prog 60 #[zi A cap G gcap X,.int .i64 has,.int .i64 n] w fun e w'=>∃ A' c' G' gc',e=.returned (.tuple #[.agg #[.slice A' 0 c',.slice G' 0 gc'],.agg #[.int .i64 0,.int .i64 0],.int .i64 3])∧WldDoc w.heap.size w' none A' c' G' gc' emptyW∧Below w.heap.size w w':=by
 have hSB:=SB.start w (.slice A X.rows.length cap) (.slice G X.gens.length gcap)
 have hP:=fun W (hb:Below w.heap.size w W)=>zp A X.rows.length cap G X.gens.length gcap (fun j=>X.rows.getD j dR) (fun j=>X.gens.getD j 0) W (by omega) (hX.rows.below hb) (hX.gens.below hb)
 have eW:zAT (fun j=>X.rows.getD j dR) X.rows.length X.gens.length (fun j=>X.gens.getD j 0)=zP X:=rfl
 rw [eW] at hP
 unfold zAG zM at hP
 rw [hw0] at hP
 generalize (zP X).2=wa at *
 have HP:=zB hP
 have HX:=zB hX
 have HSB:=zB hSB
 have hST:=zAs has
 rw [hs] at hST
 have HST:=zB hST
 clear hP hSB eW hX hw0 hs hST
 unfold zi zM
 go_enter Tryz.func60,Tryz.ntmps60
 go_wp2_with (first
  | (go_at_call 55;refine (zA HP _ (zA HSB).bel).mono ?_;rintro e w5 ⟨rfl,hb5⟩;have hS5:=(zA HSB).below hb5;have hS6:=hS5.below ((Below.refl _ _).alloc (Nat.le_refl _) (.cells #[.int .i64 0,.int .i64 wa] 29));have r0:=hS6.r0;have r1:=hS6.r1;have HS6:=zB hS6;clear hb5 hS5 hS6)
  | (go_at_call 45;refine (zA HST _).mono ?_;rintro e w1 ⟨rfl,hw⟩;obtain rfl:=hw.symm)
  | (refine zG rfl 43 (.tmp 6) (.tmp 34) rfl (w.heap.size+1) 0 [.slice none 0 0,.slice none 0 0] rfl rfl (by simp [Value.oneCell']) size38 (zA HS6).thereA ?_;intro W3 hW3;have hS7:=(zA HS6).giveA (.slice none 0 0) (.slice none 0 0);rw [←hW3] at hS7;have HS7:=zB hS7;clear hW3 hS7)
  | (refine zG rfl 61 (.tmp 7) (.tmp 35) rfl (w.heap.size+2) 0 [.int .i64 0,.int .i64 0] rfl rfl (by simp [Value.oneCell']) size40 (zA HS7).thereB ?_;intro W4 hW4;have hS8:=(zA HS7).giveB (.int .i64 0) (.int .i64 0);rw [←hW4] at hS8;have HS8:=zB hS8;clear hW4 hS8))
 have t0:=(zA HS8).t0
 have t1:=(zA HS8).t1
 have s0:=(zA HS8).s0
 have s1:=(zA HS8).s1
 refine bodyPost_ret (v:=.tuple #[.agg #[.slice none 0 0,.slice none 0 0],.agg #[.int .i64 0,.int .i64 0],.int .i64 3]) (by simp [results,Tryz.results60,go_sem,t0,t1,s0,s1]) rfl ⟨none,0,none,0,rfl,zy _ _ _,(zA HS8).bel⟩
theorem zJI (A:Option Addr) (cap:Nat) (G:Option Addr) (gcap:Nat) (X:Wd) (has n:Int) (w:World) (hn0:X.rows.length≤9223372036854775807) (hX:WldAt w A cap G gcap X) (hw0:(zP X).1=0) (hs:zAR has=true) (hv:zBY n=false) :
  Calls Tryz.prog 60 #[zi A cap G gcap X,.int .i64 has,.int .i64 n] w fun e w'=>∃ A' c' G' gc',e=.returned (.tuple #[.agg #[.slice A' 0 c',.slice G' 0 gc'],.agg #[.int .i64 0,.int .i64 0],.int .i64 3])∧WldDoc w.heap.size w' none A' c' G' gc' emptyW∧Below w.heap.size w w':=by
 have hSB:=SB.start w (.slice A X.rows.length cap) (.slice G X.gens.length gcap)
 have hP:=fun W (hb:Below w.heap.size w W)=>zp A X.rows.length cap G X.gens.length gcap (fun j=>X.rows.getD j dR) (fun j=>X.gens.getD j 0) W (by omega) (hX.rows.below hb) (hX.gens.below hb)
 have eW:zAT (fun j=>X.rows.getD j dR) X.rows.length X.gens.length (fun j=>X.gens.getD j 0)=zP X:=rfl
 rw [eW] at hP
 unfold zAG zM at hP
 rw [hw0] at hP
 generalize (zP X).2=wa at *
 have HP:=zB hP
 have HX:=zB hX
 have HSB:=zB hSB
 have hST:=zAs has
 rw [hs] at hST
 have HST:=zB hST
 have hVL:=zx n
 rw [hv] at hVL
 have HVL:=zB hVL
 clear hP hSB eW hX hw0 hs hST hv hVL
 unfold zi zM
 go_enter Tryz.func60,Tryz.ntmps60
 go_wp2_with (first
  | (go_at_call 55;refine (zA HP _ (zA HSB).bel).mono ?_;rintro e w5 ⟨rfl,hb5⟩;have hS5:=(zA HSB).below hb5;have hS6:=hS5.below ((Below.refl _ _).alloc (Nat.le_refl _) (.cells #[.int .i64 0,.int .i64 wa] 29));have r0:=hS6.r0;have r1:=hS6.r1;have HS6:=zB hS6;clear hb5 hS5 hS6)
  | (go_at_call 45;refine (zA HST _).mono ?_;rintro e w1 ⟨rfl,hw⟩;obtain rfl:=hw.symm)
  | (go_at_call 97;refine (zA HVL _).mono ?_;rintro e w1 ⟨rfl,hw⟩;obtain rfl:=hw.symm)
  | (refine zG rfl 43 (.tmp 6) (.tmp 34) rfl (w.heap.size+1) 0 [.slice none 0 0,.slice none 0 0] rfl rfl (by simp [Value.oneCell']) size38 (zA HS6).thereA ?_;intro W3 hW3;have hS7:=(zA HS6).giveA (.slice none 0 0) (.slice none 0 0);rw [←hW3] at hS7;have HS7:=zB hS7;clear hW3 hS7)
  | (refine zG rfl 61 (.tmp 7) (.tmp 35) rfl (w.heap.size+2) 0 [.int .i64 0,.int .i64 0] rfl rfl (by simp [Value.oneCell']) size40 (zA HS7).thereB ?_;intro W4 hW4;have hS8:=(zA HS7).giveB (.int .i64 0) (.int .i64 0);rw [←hW4] at hS8;have HS8:=zB hS8;clear hW4 hS8))
 have t0:=(zA HS8).t0
 have t1:=(zA HS8).t1
 have s0:=(zA HS8).s0
 have s1:=(zA HS8).s1
 refine bodyPost_ret (v:=.tuple #[.agg #[.slice none 0 0,.slice none 0 0],.agg #[.int .i64 0,.int .i64 0],.int .i64 3]) (by simp [results,Tryz.results60,go_sem,t0,t1,s0,s1]) rfl ⟨none,0,none,0,rfl,zy _ _ _,(zA HS8).bel⟩
theorem zHd (A:Option Addr) (cap:Nat) (G:Option Addr) (gcap:Nat) (X:Wd) (has n:Int) (w:World) (hn0:X.rows.length≤9223372036854775807) (hX:WldAt w A cap G gcap X) (hw0:(zP X).1=0) (hs:zAR has=true) (hv:zBY n=true) (hne:(zAM X).2≠0) :
  Calls Tryz.prog 60 #[zi A cap G gcap X,.int .i64 has,.int .i64 n] w fun e w'=>∃ A' c' G' gc',e=.returned (.tuple #[.agg #[.slice A' 0 c',.slice G' 0 gc'],.agg #[.int .i64 0,.int .i64 0],.int .i64 (zAM X).2])∧WldDoc w.heap.size w' none A' c' G' gc' emptyW∧Below w.heap.size w w':=by
 have hSB:=SB.start w (.slice A X.rows.length cap) (.slice G X.gens.length gcap)
 have hP:=fun W (hb:Below w.heap.size w W)=>zp A X.rows.length cap G X.gens.length gcap (fun j=>X.rows.getD j dR) (fun j=>X.gens.getD j 0) W (by omega) (hX.rows.below hb) (hX.gens.below hb)
 have eW:zAT (fun j=>X.rows.getD j dR) X.rows.length X.gens.length (fun j=>X.gens.getD j 0)=zP X:=rfl
 rw [eW] at hP
 unfold zAG zM at hP
 obtain ⟨hr1,hr2,hr3⟩:=zk hw0
 have hNX:=fun W (hb:Below w.heap.size w W)=>zEt A cap G gcap X W (by omega) (by omega) (fun j hj=>by have:=hr3 j hj;omega) (hX.below hb)
 unfold zi zM zS at hNX
 rw [hw0] at hP
 generalize (zP X).2=wa at *
 generalize (zAM X).1.1=ni at *
 generalize (zAM X).1.2=ng at *
 generalize (zAM X).2=ne at *
 have HNX:=zB hNX
 clear hNX
 have HP:=zB hP
 have HX:=zB hX
 have HSB:=zB hSB
 have hST:=zAs has
 rw [hs] at hST
 have HST:=zB hST
 have hVL:=zx n
 rw [hv] at hVL
 have HVL:=zB hVL
 clear hP hSB eW hX hw0 hs hST hv hVL
 unfold zi zM
 go_enter Tryz.func60,Tryz.ntmps60
 go_wp2_with (first
  | (go_at_call 55;refine (zA HP _ (zA HSB).bel).mono ?_;rintro e w5 ⟨rfl,hb5⟩;have hS5:=(zA HSB).below hb5;have hS6:=hS5.below ((Below.refl _ _).alloc (Nat.le_refl _) (.cells #[.int .i64 0,.int .i64 wa] 29));have r0:=hS6.r0;have r1:=hS6.r1;have HS6:=zB hS6;clear hb5 hS5 hS6)
  | (go_at_call 45;refine (zA HST _).mono ?_;rintro e w1 ⟨rfl,hw⟩;obtain rfl:=hw.symm)
  | (go_at_call 97;refine (zA HVL _).mono ?_;rintro e w1 ⟨rfl,hw⟩;obtain rfl:=hw.symm)
  | (go_at_call 99;refine (zA HNX _ (zA HS6).bel).mono ?_;rintro e w6 ⟨rfl,hb6⟩;have hS8:=(zA HS6).below hb6;have hS9:=hS8.below ((Below.refl _ _).alloc (Nat.le_refl _) (.cells #[.int .i64 ni,.int .i64 ng] 61));have r0':=hS9.r0;have r1':=hS9.r1;have HS9:=zB hS9;clear hb6 hS8 hS9 r0 r1)
  | (refine zG rfl 43 (.tmp 6) (.tmp 43) rfl (w.heap.size+1) 0 [.slice none 0 0,.slice none 0 0] rfl rfl (by simp [Value.oneCell']) size38 (zA HS9).thereA ?_;intro W3 hW3;have hS7:=(zA HS9).giveA (.slice none 0 0) (.slice none 0 0);rw [←hW3] at hS7;have HS7:=zB hS7;clear hW3 hS7)
  | (refine zG rfl 61 (.tmp 7) (.tmp 44) rfl (w.heap.size+2) 0 [.int .i64 0,.int .i64 0] rfl rfl (by simp [Value.oneCell']) size40 (zA HS7).thereB ?_;intro W4 hW4;have hS8:=(zA HS7).giveB (.int .i64 0) (.int .i64 0);rw [←hW4] at hS8;have HS8:=zB hS8;clear hW4 hS8))
 have t0:=(zA HS8).t0
 have t1:=(zA HS8).t1
 have s0:=(zA HS8).s0
 have s1:=(zA HS8).s1
 refine bodyPost_ret (v:=.tuple #[.agg #[.slice none 0 0,.slice none 0 0],.agg #[.int .i64 0,.int .i64 0],.int .i64 ne]) (by simp [results,Tryz.results60,go_sem,t0,t1,s0,s1]) rfl ⟨none,0,none,0,rfl,zy _ _ _,(zA HS8).bel⟩
theorem zGm (A:Option Addr) (cap:Nat) (G:Option Addr) (gcap:Nat) (X:Wd) (has n:Int) (w:World) (hn0:X.rows.length≤9223372036854775807) (hX:WldAt w A cap G gcap X) (hw0:(zP X).1≠0) :
  Calls Tryz.prog 60 #[zi A cap G gcap X,.int .i64 has,.int .i64 n] w fun e w'=>∃ A' c' G' gc',e=.returned (.tuple #[.agg #[.slice A' 0 c',.slice G' 0 gc'],.agg #[.int .i64 0,.int .i64 0],.int .i64 (zP X).1])∧WldDoc w.heap.size w' none A' c' G' gc' emptyW∧Below w.heap.size w w':=by
 have hSB:=SB.start w (.slice A X.rows.length cap) (.slice G X.gens.length gcap)
 have hP:=fun W (hb:Below w.heap.size w W)=>zp A X.rows.length cap G X.gens.length gcap (fun j=>X.rows.getD j dR) (fun j=>X.gens.getD j 0) W (by omega) (hX.rows.below hb) (hX.gens.below hb)
 have eW:zAT (fun j=>X.rows.getD j dR) X.rows.length X.gens.length (fun j=>X.gens.getD j 0)=zP X:=rfl
 rw [eW] at hP
 unfold zAG zM at hP
 generalize (zP X).2=wa at *
 generalize (zP X).1=we at *
 have HP:=zB hP
 have HX:=zB hX
 have HSB:=zB hSB
 clear hP hSB eW hX
 unfold zi zM
 go_enter Tryz.func60,Tryz.ntmps60
 go_wp2_with (first
  | (go_at_call 55;refine (zA HP _ (zA HSB).bel).mono ?_;rintro e w5 ⟨rfl,hb5⟩;have hS5:=(zA HSB).below hb5;have hS6:=hS5.below ((Below.refl _ _).alloc (Nat.le_refl _) (.cells #[.int .i64 we,.int .i64 wa] 29));have HS6:=zB hS6;have HZ5:=zB hS5.sz;clear hb5 hS5 hS6))
 have hf0:(w5.alloc (.cells #[.int .i64 we,.int .i64 wa] 29)).cell? ⟨w5.heap.size,0,none⟩=some (.int .i64 we):=by simp
 have HF0:=zB hf0
 clear hf0
 refine zAg [0,1,2,3,6] [4,5] (fun _ W=>SB w (.slice A X.rows.length cap) (.slice G X.gens.length gcap) (.slice none 0 0) (.slice none 0 0) (.int .i64 0) (.int .i64 0) W∧W.cell? ⟨w5.heap.size,0,none⟩=some (.int .i64 we)) (by kernel_rfl) (by kernel_rfl) (by kernel_rfl) (by kernel_rfl) (by kernel_rfl) (by kernel_rfl) (by kernel_rfl)
  (fun L w1 x h=>⟨h.1.below x.bel,zC x.bel h.2⟩) (fun _ _ _ _ h=>h) ⟨zA HS6,zA HF0⟩ ?_
 apply Exists.intro
 refine ⟨?hq,?hl,?hend⟩
 case hq =>
  intro l L w1 hl hI
  simp only [zCZ,List.getElem?_cons_zero,List.getElem?_cons_succ,Option.toList_some,List.cons_append,List.nil_append] at hl
  subst hl
  have hne:Nonempty (Sub w1):=⟨⟨w1,Below.refl _ _⟩⟩
  have f0:=zN hI.2
  clear hI
  repeat (go_big_quiet_step (fail))
  exact wpQuiet_nil rfl
 case hl =>
  intro i o hi ho L w1 hI hL
  simp only [List.mem_cons,List.not_mem_nil,or_false] at hi
  rcases hi with rfl | rfl
  ·simp only [List.getElem?_cons_zero,List.getElem?_cons_succ,Option.some.injEq] at ho
   subst ho
   refine zG rfl 43 (.tmp 6) (.tmp 22) rfl (w.heap.size+1) 0 [.slice none 0 0,.slice none 0 0] rfl rfl (by simp [Value.oneCell']) size38 hI.1.thereA ?_
   intro W3 hW3
   unfold wpList
   refine ⟨rfl,rfl,by rw [hW3];exact hI.1.giveA _ _,?_⟩
   rw [hW3]
   exact (zW (by have:=zA HZ5;simp only [ne_eq];omega)).trans hI.2
  ·simp only [List.getElem?_cons_zero,List.getElem?_cons_succ,Option.some.injEq] at ho
   subst ho
   refine zG rfl 61 (.tmp 7) (.tmp 23) rfl (w.heap.size+2) 0 [.int .i64 0,.int .i64 0] rfl rfl (by simp [Value.oneCell']) size40 hI.1.thereB ?_
   intro W3 hW3
   unfold wpList
   refine ⟨rfl,rfl,by rw [hW3];exact hI.1.giveB _ _,?_⟩
   rw [hW3]
   exact (zW (by have:=zA HZ5;simp only [ne_eq];omega)).trans hI.2
 case hend =>
  intro L w1 hI _
  have HS8:=zB hI.1
  clear hI
  go_wp2
  have t0:=(zA HS8).t0
  have t1:=(zA HS8).t1
  have s0:=(zA HS8).s0
  have s1:=(zA HS8).s1
  refine bodyPost_ret (v:=.tuple #[.agg #[.slice none 0 0,.slice none 0 0],.agg #[.int .i64 0,.int .i64 0],.int .i64 we]) (by simp [results,Tryz.results60,go_sem,t0,t1,s0,s1]) rfl ⟨none,0,none,0,rfl,zy _ _ _,(zA HS8).bel⟩
theorem zJM (A:Option Addr) (cap:Nat) (G:Option Addr) (gcap:Nat) (X:Wd) (has n:Int) (w:World) (hn0:X.rows.length≤9223372036854775807) (hX:WldAt w A cap G gcap X) :
  Calls Tryz.prog 60 #[zi A cap G gcap X,.int .i64 has,.int .i64 n] w fun e w'=>∃ A' c' G' gc',e=.returned (.tuple #[zi A' c' G' gc' (zw X has n).2.2,zS (zw X has n).2.1.1 (zw X has n).2.1.2,.int .i64 (zw X has n).1])∧WldDoc w.heap.size w' none A' c' G' gc' (zw X has n).2.2∧Below w.heap.size w w':=by
 by_cases hw0:(zP X).1=0
 ·cases hs:zAR has
  ·have e:zw X has n=(3,(0,0),emptyW):=by unfold zw;rw [if_neg (by simpa using hw0)];simp [hs]
   rw [e]
   exact zJJ A cap G gcap X has n w hn0 hX hw0 hs
  ·cases hv:zBY n
   ·have e:zw X has n=(3,(0,0),emptyW):=by unfold zw;rw [if_neg (by simpa using hw0)];simp [hs,hv]
    rw [e]
    exact zJI A cap G gcap X has n w hn0 hX hw0 hs hv
   ·by_cases hne:(zAM X).2=0
    ·obtain ⟨k,hk1,hk2⟩:=zKx X hne
     have hN1:(zAM X).1=((k:Int),(zAM X).1.2):=Prod.ext hk1 rfl
     have hfree:∀ j,j<X.rows.length→(zR X j).ix≠(k:Int):=fun j hj=>by
      obtain ⟨k',hk',h⟩:=zFA X X.gens.length 0 (by omega) hne
      have e:(k':Int)=(k:Int):=hk'.symm.trans hk1
      rw [←e]
      rcases h with h | h
      ·exact h.2.1 j hj
      ·have:=((zf X).1 hw0).il j hj
       omega
     have hwn:=zLu ((zf X).1 hw0) (zGS (k:Int) (zAM X).1.2 has n) (fun j hj=>hfree j hj)
     have e:zw X has n=(0,((k:Int),(zAM X).1.2),⟨zEC X.rows (zGS (k:Int) (zAM X).1.2 has n),zBz X.gens (k:Int) (zAM X).1.2⟩):=by
      unfold zw
      rw [if_neg (by simpa using hw0),if_neg (by simp [hs,hv]),if_neg (by simpa using hne),hwn,hk1]
      exact congrArg (fun x=>((0:Int),x,_)) hN1
     rw [e]
     unfold zBz
     by_cases hkl:k=X.gens.length
     ·rw [if_pos (by omega)]
      have hg:(X.gens++[(0:Int)]).set k (zAM X).1.2=X.gens++[(zAM X).1.2]:=by rw [hkl];simp
      have:=zJL A cap G gcap X has n w hX hw0 hs hv k (zAM X).1.2 hN1 hne hkl _ rfl
      rw [hg] at this
      exact this
     ·rw [if_neg (by omega),Int.toNat_natCast]
      exact zJK A cap G gcap X has n w hX hw0 hs hv k (zAM X).1.2 hN1 hne (by omega) _ rfl
    ·have e:zw X has n=((zAM X).2,(0,0),emptyW):=by unfold zw;rw [if_neg (by simpa using hw0),if_neg (by simp [hs,hv]),if_pos hne]
     rw [e]
     exact zHd A cap G gcap X has n w hn0 hX hw0 hs hv hne
 ·have e:zw X has n=((zP X).1,(0,0),emptyW):=by unfold zw;rw [if_pos hw0]
  rw [e]
  exact zGm A cap G gcap X has n w hn0 hX hw0
end Go.Proofs.YtnbleebilmghcabGreat
