/- Math, Parts, Ref, PRows, PGet, PRight, PWrong, PWrong2 -/
import Derived.WalkKit
import Derived.Test.YtnbleebilmghcacGreatRows
import Derived.WalkSpells
import Derived.Handy
import Derived.Deep.RegionHeld3
import Derived.Deep.DrawnRows
import Derived.Deep.QuietTactic
import Derived.BigQuiet
import Derived.Deep.DeepCutAuto
import Derived.Test.YtnbleebilmghcacGreatKA
set_option linter.all false
namespace Go.Proofs.YtnbleebilmghcacGreat
open Go.RowKit
def tb (n:Int) (k:Nat):Bool:=n / ((2 ^ k:Nat):Int) % 2 == 1
def zS (n:Int) (k:Nat):List Int:=((List.range k).filter (fun j=>tb n j)).map Int.ofNat
def oc1 (x:Int):Int:=IntKind.u64.wrap (bits BinOp.and IntKind.u64 (x / 2) 6148914691236517205+bits BinOp.and IntKind.u64 x 6148914691236517205)
def oc2 (x:Int):Int:=IntKind.u64.wrap (bits BinOp.and IntKind.u64 (x / 4) 3689348814741910323+bits BinOp.and IntKind.u64 x 3689348814741910323)
def oc3 (x:Int):Int:=bits BinOp.and IntKind.u64 (IntKind.u64.wrap (x / 16+x)) 1085102592571150095
def oc4 (x:Int):Int:=IntKind.u64.wrap (x+x / 256)
def oc5 (x:Int):Int:=IntKind.u64.wrap (x+x / 65536)
def oc6 (x:Int):Int:=IntKind.u64.wrap (x+x / 4294967296)
def oc (x:Int):Int:=bits BinOp.and IntKind.i64 (wrap64 (oc6 (oc5 (oc4 (oc3 (oc2 (oc1 x))))))) 127
def zBQ (k:Int):Int:=if 0≤k∧k<8 then ((2 ^ k.toNat:Nat):Int) else 0
theorem fin_of (n:Int) (h0:0≤n) (h1:n≤255):∃ m:Fin 256,n=(m.val:Int):=⟨⟨n.toNat,by omega⟩,by simp;omega⟩
theorem oc_fin:∀ m:Fin 256,oc (m.val:Int)=((zS (m.val:Int) 8).length:Int):=by decide +kernel
theorem oc_lst (n:Int) (h0:0≤n) (h1:n≤255):oc n=((zS n 8).length:Int):=by
  obtain ⟨m,rfl⟩:=fin_of n h0 h1;exact oc_fin m
theorem and255_fin:∀ m:Fin 256,bits .and .i64 (m.val:Int) 255=(m.val:Int):=by decide +kernel
theorem and255 (n:Int) (h0:0≤n) (h1:n≤255):bits .and .i64 n 255=n:=by
  obtain ⟨m,rfl⟩:=fin_of n h0 h1;exact and255_fin m
theorem has_fin:∀ m:Fin 256,∀ k:Fin 8,(bits .and .i64 (m.val:Int) (zBQ (k.val:Int)) != 0)=tb (m.val:Int) k.val:=by decide +kernel
theorem has_tb (n:Int) (k:Nat) (h0:0≤n) (h1:n≤255) (hk:k<8):(bits .and .i64 n (zBQ (k:Int)) != 0)=tb n k:=by
  obtain ⟨m,rfl⟩:=fin_of n h0 h1;exact has_fin m ⟨k,hk⟩
theorem zCh (n:Int) (k:Nat):(zS n k).length≤k:=by
  unfold zS;rw [List.length_map];exact Nat.le_trans (List.length_filter_le _ _) (by simp)
theorem lst_succ (n:Int) (k:Nat):zS n (k+1)=if tb n k then zS n k++[(k:Int)] else zS n k:=by
  unfold zS;rw [List.range_succ,List.filter_append,List.map_append];by_cases h:tb n k=true <;> simp [h]
def tbs (n:Int):List Bool:=[tb n 0,tb n 1,tb n 2,tb n 3,tb n 4,tb n 5,tb n 6,tb n 7]
end Go.Proofs.YtnbleebilmghcacGreat
set_option maxHeartbeats 400000
namespace Go.Proofs.YtnbleebilmghcacGreat
open Go.RowKit
def zBG (n:Int):Bool:=decide (0≤n∧n≤255)
def zAY (n:Int):Bool:=decide (0≤n∧n<8)
def valB (n:Int):Bool:=decide (-1000000≤n∧n≤1000000)
def zCB (n:Int):Int:=if n < -1000000 then -1000000 else if 1000000<n then 1000000 else n
theorem zAR (n:Int) (w:World) :
    Calls Tryz.prog 37 #[.int .i64 n] w fun e w'=>e=.returned (.bool (zBG n))∧w'=w:=by
  by_cases h0:0≤n <;> by_cases h1:n≤255
  all_goals
    go_enter Tryz.func37,Tryz.ntmps37
    go_wp2
    go_ret
    exact ⟨by simp [zBG,h0,h1],rfl⟩
theorem zBp (n:Int) (w:World) :
    Calls Tryz.prog 71 #[.int .i64 n] w fun e w'=>e=.returned (.bool (zAY n))∧w'=w:=by
  by_cases h0:0≤n <;> by_cases h1:n<8
  all_goals
    go_enter Tryz.func71,Tryz.ntmps71
    go_wp2
    go_ret
    exact ⟨by simp [zAY,h0,h1],rfl⟩
theorem zAo (n:Int) (w:World) :
    Calls Tryz.prog 93 #[.int .i64 n] w fun e w'=>e=.returned (.bool (valB n))∧w'=w:=by
  by_cases h0:-1000000≤n <;> by_cases h1:n≤1000000
  all_goals
    go_enter Tryz.func93,Tryz.ntmps93
    go_wp2
    go_ret
    exact ⟨by simp [valB,h0,h1],rfl⟩
theorem clip_any (n:Int) (w:World) :
    Calls Tryz.prog 111 #[.int .i64 n] w fun e w'=>e=.returned (.int .i64 (zCB n))∧w'=w:=by
  by_cases h0:n < -1000000 <;> by_cases h1:1000000<n
  · omega
  all_goals
    go_enter Tryz.func111,Tryz.ntmps111
    go_wp2
    go_ret
    exact ⟨by unfold zCB;(repeat' split) <;> first | rfl | omega,rfl⟩
theorem bit_cases (k:Int) (h:zAY k=true):k=0∨k=1∨k=2∨k=3∨k=4∨k=5∨k=6∨k=7:=by
  have:=of_decide_eq_true h
  omega
theorem bit_any (k:Int) (w:World) :
    Calls Tryz.prog 87 #[.int .i64 k] w fun e w'=>e=.returned (.int .i64 (zBQ k))∧w'=w:=by
  by_cases h:zAY k=true
  · rcases bit_cases k h with rfl | rfl | rfl | rfl | rfl | rfl | rfl | rfl
    all_goals
      clear h
      go_enter Tryz.func87,Tryz.ntmps87
      go_wp2
      go_ret
      exact ⟨rfl,rfl⟩
  · have h':zAY k=false:=by simpa using h
    clear h
    go_enter Tryz.func87,Tryz.ntmps87
    go_wp2_with (go_at_call 71;refine (zBp _ _).mono ?_;rintro e w' ⟨rfl,rfl⟩)
    go_ret
    exact ⟨by have:=of_decide_eq_false h';simp [zBQ,this],rfl⟩
def zBk (a n h:Int):Bool:=bits .andNot .i64 a h == 0 && bits .and .i64 n h == 0
theorem meets_any (a n h:Int) (w:World) :
    Calls Tryz.prog 82 #[.agg #[.int .i64 a,.int .i64 n],.int .i64 h] w fun e w'=>e=.returned (.bool (zBk a n h))∧w'=w.alloc (.cells #[.int .i64 a,.int .i64 n] 41):=by
  go_enter Tryz.func82,Tryz.ntmps82
  go_wp2
  all_goals
    go_ret
    exact ⟨by simp [zBk, *],rfl⟩
theorem has_any (a k:Int) (w:World) :
    Calls Tryz.prog 58 #[.int .i64 a,.int .i64 k] w fun e w'=>e=.returned (.bool (bits .and .i64 a (zBQ k) != 0))∧w'=w:=by
  go_enter Tryz.func58,Tryz.ntmps58
  go_wp2_with (go_at_call 87;refine (bit_any _ _).mono ?_;rintro e w' ⟨rfl,rfl⟩)
  go_ret
  exact ⟨rfl,rfl⟩
theorem with_any (a k:Int) (w:World) :
    Calls Tryz.prog 94 #[.int .i64 a,.int .i64 k] w fun e w'=>e=.returned (.int .i64 (bits .or .i64 a (zBQ k)))∧w'=w:=by
  go_enter Tryz.func94,Tryz.ntmps94
  go_wp2_with (go_at_call 87;refine (bit_any _ _).mono ?_;rintro e w' ⟨rfl,rfl⟩)
  go_ret
  exact ⟨rfl,rfl⟩
theorem without_any (a k:Int) (w:World) :
    Calls Tryz.prog 96 #[.int .i64 a,.int .i64 k] w fun e w'=>e=.returned (.int .i64 (bits .andNot .i64 a (zBQ k)))∧w'=w:=by
  go_enter Tryz.func96,Tryz.ntmps96
  go_wp2_with (go_at_call 87;refine (bit_any _ _).mono ?_;rintro e w' ⟨rfl,rfl⟩)
  go_ret
  exact ⟨rfl,rfl⟩
end Go.Proofs.YtnbleebilmghcacGreat
set_option maxHeartbeats 400000
namespace Go.Proofs.YtnbleebilmghcacGreat
open Go.RowKit
theorem ret_int {k:IntKind} {a b:Int} (h:a=b):Ending.returned (.int k a)=.returned (.int k b):=by rw [h]
theorem zB {p:Prop} (h:p):Hid p:=h
theorem zA {p:Prop} (h:Hid p):p:=h
theorem oc_any (x:Int) (w:World) (_:0≤x) (_:x≤255) :
    Calls Tryz.prog 125 #[.int .u64 x] w fun e w'=>e=.returned (.int .i64 (oc x))∧w'=w:=by
  go_enter Tryz.func125,Tryz.ntmps125
  go_wp2
  go_ret
  exact ⟨ret_int rfl,rfl⟩
theorem count_any (a:Int) (w:World) (h0:0≤a) (h1:a≤255) :
    Calls Tryz.prog 73 #[.int .i64 a] w fun e w'=>e=.returned (.int .i64 ((zS a 8).length:Int))∧w'=w:=by
  have e1:=and255 a h0 h1
  have e2:Hid (oc a=((zS a 8).length:Int)):=oc_lst a h0 h1
  have e3:IntKind.u64.wrap a=a:=by rw [IntKind.wrap_u64];omega
  go_enter Tryz.func73,Tryz.ntmps73
  go_wp2_with (first | (go_at_call 125;refine (oc_any _ _ (by omega) (by omega)).mono ?_;rintro e w' ⟨rfl,rfl⟩) | go_in)
  go_ret
  exact ⟨ret_int e2.out,rfl⟩
end Go.Proofs.YtnbleebilmghcacGreat
set_option maxHeartbeats 1000000
set_option maxRecDepth 8000
namespace Go.Proofs.YtnbleebilmghcacGreat
open Go.RowKit
attribute [local go_sem ↓] Go.wp_at_zero Go.wp_at_succ
structure RowI where
  ix:Int
  gen:Int
  has:Int
  v:Nat→Int
def zj (x:RowI):Value:=.agg #[.int .i64 x.ix,.int .i64 x.gen,.int .i64 x.has,.int .i64 (x.v 0),.int .i64 (x.v 1),.int .i64 (x.v 2),.int .i64 (x.v 3),.int .i64 (x.v 4),.int .i64 (x.v 5),.int .i64 (x.v 6),.int .i64 (x.v 7)]
structure RowAt (w:World) (b o:Nat) (x:RowI):Prop where
  c0:w.cell? ⟨b,o,none⟩=some (.int .i64 x.ix)
  c1:w.cell? ⟨b,o+1,none⟩=some (.int .i64 x.gen)
  c2:w.cell? ⟨b,o+2,none⟩=some (.int .i64 x.has)
  v:∀ k,k<8→w.cell? ⟨b,o+3+k,none⟩=some (.int .i64 (x.v k))
theorem RowAt.below {w w1:World} {b o:Nat} {x:RowI} (h:RowAt w b o x) (hb:Below w.heap.size w w1):RowAt w1 b o x :=
  ⟨zC hb h.c0,zC hb h.c1,zC hb h.c2,fun k hk=>zC hb (h.v k hk)⟩
def RowsAt (w:World) (A:Option Addr) (n:Nat) (R:Nat→RowI):Prop:=∀ j,j<n→∃ b off,A=some ⟨b,off,none⟩∧RowAt w b (off+j*11) (R j)
theorem RowsAt.below {w w1:World} {A:Option Addr} {n:Nat} {R:Nat→RowI} (h:RowsAt w A n R) (hb:Below w.heap.size w w1):RowsAt w1 A n R:=fun j hj=>by
  obtain ⟨b,off,h0,h1⟩:=h j hj
  exact ⟨b,off,h0,h1.below hb⟩
def isB (x:RowI) (i g:Int):Bool:=x.ix == i && x.gen == g
theorem find1_any (x:RowI) (i g:Int) (b:Nat) (w:World) (h0:w.cell? ⟨b,0,none⟩=some (.int .i64 i)) (h1:w.cell? ⟨b,1,none⟩=some (.int .i64 g)) :
    Calls Tryz.prog 86 #[zj x,.pointer (some ⟨b,0,none⟩)] w fun e w'=>e=.returned (.bool (isB x i g))∧Below w.heap.size w w':=by
  have hz:b<w.heap.size:=World.block_lt_of_cell? w _ h0
  unfold zj
  go_enter Tryz.func86,Tryz.ntmps86
  go_wp2
  all_goals
    go_ret
    exact ⟨by simp [isB, *],by go_grown⟩
def fIx (R:Nat→RowI) (i g:Int):Nat→Nat→Int
  | 0,_=>-1
  | n+1,j=>if isB (R j) i g then (j:Int) else fIx R i g n (j+1)
theorem fIx_step (R:Nat→RowI) (i g:Int) (n j:Nat) (h:j<n):fIx R i g (n - j) j=if isB (R j) i g then (j:Int) else fIx R i g (n - (j+1)) (j+1):=by
  rw [show n - j=(n - (j+1))+1 by omega,fIx]
theorem indexFind_any (A:Option Addr) (n cap:Nat) (R:Nat→RowI) (i g:Int) (b:Nat) (w:World) (hn:n≤9223372036854775807) (hR:RowsAt w A n R) (h0:w.cell? ⟨b,0,none⟩=some (.int .i64 i)) (h1:w.cell? ⟨b,1,none⟩=some (.int .i64 g)) :
    Calls Tryz.prog 85 #[.slice A n cap,.func (.func 86) #[] #[.pointer (some ⟨b,0,none⟩)]] w fun e w'=>e=.returned (.int .i64 (fIx R i g n 0))∧Below w.heap.size w w':=by
  have HR:=zB hR
  have HB0:=zB h0
  have HB1:=zB h1
  clear hR h0 h1
  go_enter Tryz.func85,Tryz.ntmps85
  go_wp2
  go_loopw [8] (fun x wr=>∃ j:Nat,j≤n∧x=.int .i64 j∧fIx R i g n 0=fIx R i g (n - j) j∧Below w.heap.size w wr) (fun x _=>n - (intOf x).toNat)
  case atStart=>exact ⟨0,Nat.zero_le _,rfl,rfl,Below.refl _ _⟩
  case round =>
    obtain ⟨j,hj,rfl,hF,hbr⟩:=hrel
    have HF:=zB hF
    clear hF
    by_cases hlt:j<n
    · have j0:(0:Int)≤(j:Int):=by omega
      have j1:(j:Int)<(n:Int):=by omega
      obtain ⟨b',off,rfl,hrow⟩:=zA HR j hlt
      have hrow:=hrow.below hbr
      have c0:=hrow.c0
      have c1:=hrow.c1
      have c2:=hrow.c2
      have c3:=hrow.v 0 (by omega)
      have c4:=hrow.v 1 (by omega)
      have c5:=hrow.v 2 (by omega)
      have c6:=hrow.v 3 (by omega)
      have c7:=hrow.v 4 (by omega)
      have c8:=hrow.v 5 (by omega)
      have c9:=hrow.v 6 (by omega)
      have c10:=hrow.v 7 (by omega)
      simp only [Nat.add_assoc,Nat.reduceAdd] at c3 c4 c5 c6 c7 c8 c9 c10
      simp only [←Nat.add_assoc] at c3 c4 c5 c6 c7 c8 c9 c10
      have HS:=zB (fIx_step R i g n j hlt)
      have HC:=zB (find1_any (R j) i g b wr (zC hbr (zA HB0)) (zC hbr (zA HB1)))
      have HBR:=zB hbr
      clear hrow hbr HR HB0 HB1
      generalize isB (R j) i g=ok at *
      cases ok
      all_goals
        go_wp2_with (first
          | (go_at_call 86;refine (zA HC).mono ?_;rintro e w5 ⟨rfl,hb5⟩;have HB5:=zB ((zA HBR).trans (hb5.mono (zA HBR).size));clear hb5))
        first
        | (go_ret
           have hv:fIx R i g n 0=(j:Int):=(zA HF).trans ((zA HS).trans (by simp))
           rw [hv]
           exact ⟨rfl,zA HB5⟩)
        | (go_roundw
           case rel=>exact ⟨j+1,by omega,by go_num,(zA HF).trans ((zA HS).trans (by simp)),zA HB5⟩
           case measure=>simp [intOf];omega)
    · obtain rfl:j=n:=by omega
      have hv:fIx R i g j 0=-1:=by rw [zA HF,Nat.sub_self];rfl
      have HB:=zB hbr
      clear hbr HR HB0 HB1
      go_wp2
      go_ret
      rw [hv]
      exact ⟨rfl,zA HB⟩
def zT (i g:Int):Value:=.agg #[.int .i64 i,.int .i64 g]
theorem find_any (A:Option Addr) (n cap:Nat) (R:Nat→RowI) (i g:Int) (w:World) (hn:n≤9223372036854775807) (hR:RowsAt w A n R) :
    Calls Tryz.prog 57 #[.slice A n cap,zT i g] w fun e w'=>e=.returned (.int .i64 (fIx R i g n 0))∧Below w.heap.size w w':=by
  have hb:Below w.heap.size w (w.alloc (.cells #[.int .i64 i,.int .i64 g] 39)):=(Below.refl _ _).alloc (Nat.le_refl _) _
  have HC:=zB (indexFind_any A n cap R i g w.heap.size _ hn (hR.below hb) (by simp) (by simp))
  have HB:=zB hb
  clear hb hR
  unfold zT
  go_enter Tryz.func57,Tryz.ntmps57
  go_wp2_with (first
    | (go_at_call 85;refine (zA HC).mono ?_;rintro e w5 ⟨rfl,hb5⟩;have HB5:=zB ((zA HB).trans (hb5.mono (zA HB).size));clear hb5))
  go_ret
  exact ⟨rfl,zA HB5⟩
theorem fIx_spec (R:Nat→RowI) (i g:Int):∀ n j,fIx R i g n j=-1∨∃ k:Nat,j≤k∧k<j+n∧fIx R i g n j=(k:Int)∧isB (R k) i g=true
  | 0,_=>.inl rfl
  | n+1,j=>by
    unfold fIx
    cases h:isB (R j) i g
    · simp only [Bool.false_eq_true,if_false]
      rcases fIx_spec R i g n (j+1) with h1 | ⟨k,h1,h2,h3,h4⟩
      · exact .inl h1
      · exact .inr ⟨k,by omega,by omega,h3,h4⟩
    · simp only [if_true]
      exact .inr ⟨j,by omega,by omega,rfl,h⟩
end Go.Proofs.YtnbleebilmghcacGreat
set_option maxHeartbeats 1000000
set_option maxRecDepth 8000
namespace Go.Proofs.YtnbleebilmghcacGreat
open Go.RowKit
attribute [local go_sem ↓] Go.wp_at_zero Go.wp_at_succ
def zR (A:Option Addr) (n cap:Nat) (G:Option Addr) (gn gcap:Nat):Value:=.agg #[.slice A n cap,.slice G gn gcap]
def hasI (h p:Int):Bool:=bits .and .i64 h (zBQ p) != 0
def getI (R:Nat→RowI) (n:Nat) (i g p:Int):Int×Bool :=
  if fIx R i g n 0<0 then (0,false) else if hasI (R (fIx R i g n 0).toNat).has p then ((R (fIx R i g n 0).toNat).v p.toNat,true) else (0,false)
theorem has_part (h p:Int) (hh:hasI h p=true):∃ k:Nat,k<8∧p=(k:Int):=by
  by_cases hp:zAY p=true
  · have:=of_decide_eq_true hp
    exact ⟨p.toNat,by omega,by omega⟩
  · exfalso
    have e:zBQ p=0:=by unfold zBQ;rw [if_neg];simpa [zAY] using hp
    unfold hasI at hh
    rw [e] at hh
    have e2:bits .and .i64 h 0=0:=by
      have e3:bits .and .i64 h 0=IntKind.i64.wrap (((BitVec.ofInt 64 h &&& BitVec.ofInt 64 0).toNat:Nat):Int):=rfl
      rw [e3];simp [IntKind.wrap_i64]
    rw [e2] at hh
    simp at hh
structure GW (w:World) (A:Option Addr) (n cap:Nat) (W:World):Prop where
  bel:Below w.heap.size w W
  r:W.cell? ⟨w.heap.size,0,none⟩=some (.slice A n cap)
theorem get_any (A:Option Addr) (n cap:Nat) (G:Option Addr) (gn gcap:Nat) (R:Nat→RowI) (i g p:Int) (w:World) (hn:n≤9223372036854775807) (hR:RowsAt w A n R) :
    Calls Tryz.prog 36 #[zR A n cap G gn gcap,zT i g,.int .i64 p] w fun e w'=>e=.returned (.tuple #[.int .i64 (getI R n i g p).1,.bool (getI R n i g p).2])∧Below w.heap.size w w':=by
  have hb:Below w.heap.size w ((w.alloc (.cells #[.slice A n cap,.slice G gn gcap] 51)).alloc (.cells #[.int .i64 i,.int .i64 g] 39)):=by go_grown
  have HC:=zB (find_any A n cap R i g _ hn (hR.below hb))
  have hG:GW w A n cap ((w.alloc (.cells #[.slice A n cap,.slice G gn gcap] 51)).alloc (.cells #[.int .i64 i,.int .i64 g] 39)):=⟨hb,by simp [go_sem]⟩
  have HG:=zB hG
  have HR:=zB hR
  clear hb hR hG
  unfold zR getI
  unfold zT at *
  rcases fIx_spec R i g n 0 with hf | ⟨k,_,hk,hf,hi⟩
  · rw [hf] at HC
    have e:(if fIx R i g n 0<0 then ((0:Int),false) else if hasI (R (fIx R i g n 0).toNat).has p then ((R (fIx R i g n 0).toNat).v p.toNat,true) else (0,false))=(0,false):=by rw [if_pos (by omega)]
    rw [e]
    clear e hf
    go_enter Tryz.func36,Tryz.ntmps36
    go_wp2_with (first
      | (go_at_call 57;refine (zA HC).mono ?_;rintro e w5 ⟨rfl,hb5⟩;have HB5:=zB ((zA HG).bel.trans (hb5.mono (zA HG).bel.size));clear hb5))
    go_ret2
    exact ⟨rfl,zA HB5⟩
  · rw [hf] at HC
    have hkn:k<n:=by omega
    have e:(if fIx R i g n 0<0 then ((0:Int),false) else if hasI (R (fIx R i g n 0).toNat).has p then ((R (fIx R i g n 0).toNat).v p.toNat,true) else (0,false))=if hasI (R k).has p then ((R k).v p.toNat,true) else (0,false):=by
      rw [if_neg (by omega),hf];rfl
    rw [e]
    clear e
    obtain ⟨b,off,rfl,hrow⟩:=zA HR k hkn
    have HROW:=zB hrow
    have kk0:(0:Int)≤(k:Int):=by omega
    have kk1:(k:Int)<(n:Int):=by omega
    have kk2:¬ (k:Int)<0:=by omega
    have HH:=zB (fun W=>has_any (R k).has p W)
    have HPQ:=zB (has_part (R k).has p)
    clear hrow HR hf hi
    unfold hasI at *
    generalize (bits .and .i64 (R k).has (zBQ p) != 0)=hb at *
    cases hb
    · go_enter Tryz.func36,Tryz.ntmps36
      go_wp2_with (first
        | (go_at_call 57;refine (zA HC).mono ?_;rintro e w5 ⟨rfl,hb5⟩;have HB5:=zB ((zA HG).bel.trans (hb5.mono (zA HG).bel.size));have r0:=zC hb5 (zA HG).r;have c2:=((zA HROW).below (zA HB5)).c2;clear hb5)
        | (go_at_call 58;refine (zA HH _).mono ?_;rintro e w6 ⟨rfl,hw⟩;obtain rfl:=hw.symm))
      go_ret2
      exact ⟨rfl,zA HB5⟩
    · obtain ⟨q,hq,rfl⟩:=zA HPQ rfl
      have qq0:(0:Int)≤(q:Int):=by omega
      have qq1:(q:Int)<8:=by omega
      go_enter Tryz.func36,Tryz.ntmps36
      go_wp2_with (first
        | (go_at_call 57;refine (zA HC).mono ?_;rintro e w5 ⟨rfl,hb5⟩;have HB5:=zB ((zA HG).bel.trans (hb5.mono (zA HG).bel.size));have r0:=zC hb5 (zA HG).r;have c2:=((zA HROW).below (zA HB5)).c2;have cv:=((zA HROW).below (zA HB5)).v q hq;clear hb5)
        | (go_at_call 58;refine (zA HH _).mono ?_;rintro e w6 ⟨rfl,hw⟩;obtain rfl:=hw.symm))
      go_ret2
      exact ⟨rfl,zA HB5⟩
end Go.Proofs.YtnbleebilmghcacGreat
set_option maxHeartbeats 1000000
set_option maxRecDepth 8000
namespace Go.Proofs.YtnbleebilmghcacGreat
open Go.RowKit
attribute [local go_sem ↓] Go.wp_at_zero Go.wp_at_succ
def okV (x:RowI) (k:Nat):Bool:=valB (x.v k) && (x.v k == 0 || hasI x.has (k:Int))
def okVs (x:RowI) (t:Nat):Bool:=(List.range t).all (fun k=>okV x k)
def rvB (x:RowI):Bool:=zBG x.has && okVs x 8
theorem okVs_succ (x:RowI) (t:Nat):okVs x (t+1)=(okVs x t && okV x t):=by
  unfold okVs;rw [List.range_succ,List.all_append];simp
theorem okVs_false (x:RowI) (k t:Nat) (hk:k<t) (h:okV x k=false):okVs x t=false:=by
  unfold okVs
  rw [List.all_eq_false]
  exact ⟨k,List.mem_range.2 hk,by simp [h]⟩
theorem run_ix8 (v:Nat→Int) (k:Nat) (w:World) (hk:k<8) :
    Sem.run Tryz.prog (Instr.index 53 (.agg #[.int .i64 (v 0),.int .i64 (v 1),.int .i64 (v 2),.int .i64 (v 3),.int .i64 (v 4),.int .i64 (v 5),.int .i64 (v 6),.int .i64 (v 7)]) (.int .i64 (k:Int))) w=.ok (.int .i64 (v k)) w:=by
  rcases (by omega:k=0∨k=1∨k=2∨k=3∨k=4∨k=5∨k=6∨k=7) with rfl | rfl | rfl | rfl | rfl | rfl | rfl | rfl
  all_goals simp [Instr.index,go_sem]
theorem rightVals_any (x:RowI) (w:World) :
    Calls Tryz.prog 106 #[zj x] w fun e w'=>e=.returned (.bool (rvB x))∧Below w.heap.size w w':=by
  have hix:=fun k W hk=>run_ix8 x.v k W hk
  unfold zj rvB
  cases hs:zBG x.has
  · go_enter Tryz.func106,Tryz.ntmps106
    go_wp2_with (first
      | (go_at_call 37;refine (zAR _ _).mono ?_;rintro e w1 ⟨rfl,hw⟩;obtain rfl:=hw.symm))
    go_ret
    exact ⟨by simp,by go_grown⟩
  · go_enter Tryz.func106,Tryz.ntmps106
    go_wp2_with (first
      | (go_at_call 37;refine (zAR _ _).mono ?_;rintro e w1 ⟨rfl,hw⟩;obtain rfl:=hw.symm))
    go_loop [11] (fun i=>∃ t:Nat,t≤8∧i=.int .i64 t∧okVs x t=true) (fun i=>8 - (intOf i).toNat)
    case atStart=>exact ⟨0,by omega,rfl,rfl⟩
    case round =>
      obtain ⟨t,ht,rfl,hok⟩:=hrel
      have HO:=zB hok
      clear hok
      by_cases hlt:t<8
      · have t0:(0:Int)≤(t:Int):=by omega
        have t1:(t:Int)<8:=by omega
        have hixt:=fun W=>hix t W hlt
        have HS:=zB (okVs_succ x t)
        have HF:=zB (okVs_false x t 8 hlt)
        have HA:Hid (okV x t=(valB (x.v t) && (x.v t == 0 || hasI x.has (t:Int)))):=rfl
        have HV:=zB (fun W=>zAo (x.v t) W)
        have HH:=zB (fun W=>has_any x.has (t:Int) W)
        clear hix
        unfold hasI at HA
        generalize okV x t=ok at *
        generalize (bits .and .i64 x.has (zBQ (t:Int)) != 0)=hb at *
        generalize valB (x.v t)=vb at *
        generalize x.v t=vt at *
        have hc:vb=false∨(vb=true∧vt=0)∨(vb=true∧¬ vt=0∧hb=false)∨(vb=true∧¬ vt=0∧hb=true):=by
          by_cases h:vt=0 <;> cases vb <;> cases hb <;> simp [h]
        rcases hc with rfl | ⟨rfl,rfl⟩ | ⟨rfl,hz,rfl⟩ | ⟨rfl,hz,rfl⟩
        all_goals
          go_wp2_with (first
            | (go_at_call 93;refine (zA HV _).mono ?_;rintro e w1 ⟨rfl,hw⟩;obtain rfl:=hw.symm)
            | (go_at_call 58;refine (zA HH _).mono ?_;rintro e w1 ⟨rfl,hw⟩;obtain rfl:=hw.symm))
          first
          | (go_ret
             have hv:okVs x 8=false:=zA HF ((zA HA).trans (by simp [*]))
             rw [hv]
             exact ⟨rfl,by go_grown⟩)
          | (go_round
             case rel=>exact ⟨t+1,by omega,by go_num,by rw [zA HS,zA HO,zA HA];simp [*]⟩
             case measure=>simp [intOf];omega)
      · obtain rfl:t=8:=by omega
        clear hix
        go_wp2
        go_ret
        exact ⟨by rw [zA HO];rfl,by go_grown⟩
end Go.Proofs.YtnbleebilmghcacGreat
set_option maxHeartbeats 2000000
set_option maxRecDepth 8000
namespace Go.Proofs.YtnbleebilmghcacGreat
open Go.RowKit
attribute [local go_sem ↓] Go.wp_at_zero Go.wp_at_succ
def IntsAt (w:World) (G:Option Addr) (n:Nat) (f:Nat→Int):Prop:=∀ j,j<n→∃ b off,G=some ⟨b,off,none⟩∧w.cell? ⟨b,off+j,none⟩=some (.int .i64 (f j))
theorem IntsAt.below {w w1:World} {G:Option Addr} {n:Nat} {f:Nat→Int} (h:IntsAt w G n f) (hb:Below w.heap.size w w1):IntsAt w1 G n f:=fun j hj=>by
  obtain ⟨b,off,h0,h1⟩:=h j hj
  exact ⟨b,off,h0,zC hb h1⟩
def wrowI (R:Nat→RowI) (gn:Nat) (f:Nat→Int) (j:Nat):Int :=
  if rvB (R j)=false∨(R j).ix<0∨(gn:Int)≤(R j).ix then 3 else if 0<j∧(R j).ix≤(R (j - 1)).ix then 2 else if (R j).gen=f (R j).ix.toNat then 0 else 7
theorem zBs {B:Nat} {a w:World} (h:Below B a w) (n:Nat):Below B a (w.drewN n):=⟨h.os,h.tape,h.output,h.size,h.block⟩
structure PW (w:World) (A:Option Addr) (n cap:Nat) (G:Option Addr) (gn gcap:Nat) (x:RowI) (W:World):Prop where
  bel:Below w.heap.size w W
  r0:W.cell? ⟨w.heap.size,0,none⟩=some (.slice A n cap)
  r1:W.cell? ⟨w.heap.size,1,none⟩=some (.slice G gn gcap)
  d0:W.cell? ⟨w.heap.size+1,0,none⟩=some (.int .i64 x.ix)
  d1:W.cell? ⟨w.heap.size+1,1,none⟩=some (.int .i64 x.gen)
theorem PW.below {w:World} {A:Option Addr} {n cap:Nat} {G:Option Addr} {gn gcap:Nat} {x:RowI} {W W1:World} (h:PW w A n cap G gn gcap x W) (hb:Below W.heap.size W W1):PW w A n cap G gn gcap x W1 :=
  ⟨h.bel.trans (hb.mono h.bel.size),zC hb h.r0,zC hb h.r1,zC hb h.d0,zC hb h.d1⟩
theorem PW.start (w:World) (A:Option Addr) (n cap:Nat) (G:Option Addr) (gn gcap:Nat) (x:RowI):PW w A n cap G gn gcap x ((w.alloc (.cells #[.slice A n cap,.slice G gn gcap] 51)).alloc (.cells #[.int .i64 x.ix,.int .i64 x.gen,.int .i64 x.has,.int .i64 (x.v 0),.int .i64 (x.v 1),.int .i64 (x.v 2),.int .i64 (x.v 3),.int .i64 (x.v 4),.int .i64 (x.v 5),.int .i64 (x.v 6),.int .i64 (x.v 7)] 55)) :=
  ⟨by go_grown,by simp [go_sem],by simp [go_sem],by simp [go_sem],by simp [go_sem]⟩
theorem wrongRow_any (A:Option Addr) (n cap:Nat) (G:Option Addr) (gn gcap:Nat) (R:Nat→RowI) (f:Nat→Int) (j:Nat) (w:World) (hj:j<n) (hn:n≤9223372036854775807) (hR:RowsAt w A n R) (hG:IntsAt w G gn f) :
    Calls Tryz.prog 79 #[zR A n cap G gn gcap,.int .i64 (j:Int)] w fun e w'=>e=.returned (.int .i64 (wrowI R gn f j))∧Below w.heap.size w w':=by
  have hP:=PW.start w A n cap G gn gcap (R j)
  obtain ⟨b,off,rfl,hrow⟩:=hR j hj
  have hb0:Below w.heap.size w (w.alloc (.cells #[.slice (some ⟨b,off,none⟩) n cap,.slice G gn gcap] 51)):=(Below.refl _ _).alloc (Nat.le_refl _) _
  have c0:=hrow.c0
  have c1:=hrow.c1
  have c2:=hrow.c2
  have c3:=hrow.v 0 (by omega)
  have c4:=hrow.v 1 (by omega)
  have c5:=hrow.v 2 (by omega)
  have c6:=hrow.v 3 (by omega)
  have c7:=hrow.v 4 (by omega)
  have c8:=hrow.v 5 (by omega)
  have c9:=hrow.v 6 (by omega)
  have c10:=hrow.v 7 (by omega)
  simp only [Nat.add_assoc,Nat.reduceAdd] at c3 c4 c5 c6 c7 c8 c9 c10
  simp only [←Nat.add_assoc] at c3 c4 c5 c6 c7 c8 c9 c10
  have hz:b<w.heap.size:=World.block_lt_of_cell? w _ c0
  have HP:=zB hP
  have HRV:=zB (fun W=>rightVals_any (R j) W)
  have HR:=zB hR
  have HG:=zB hG
  have jj0:(0:Int)≤(j:Int):=by omega
  have jj1:(j:Int)<(n:Int):=by omega
  clear hrow hb0 hP hR hG
  unfold zj at HRV
  unfold zR wrowI
  cases hv:rvB (R j)
  · rw [hv] at HRV
    simp only [true_or,if_true]
    go_enter Tryz.func79,Tryz.ntmps79
    go_wp2_with (first
      | (go_at_call 106;refine (zA HRV _).mono ?_;rintro e w5 ⟨rfl,hb5⟩;have HP5:=zB ((zA HP).below hb5);clear hb5))
    go_ret
    exact ⟨rfl,(zA HP5).bel⟩
  · rw [hv] at HRV
    by_cases hi0:(R j).ix<0
    · simp only [hi0,true_or,or_true,if_true]
      go_enter Tryz.func79,Tryz.ntmps79
      go_wp2_with (first
        | (go_at_call 106;refine (zA HRV _).mono ?_;rintro e w5 ⟨rfl,hb5⟩;have HP5:=zB ((zA HP).below hb5);clear hb5))
      go_ret
      exact ⟨rfl,(zA HP5).bel⟩
    · by_cases hi1:(gn:Int)≤(R j).ix
      · simp only [hi1,or_true,if_true]
        go_enter Tryz.func79,Tryz.ntmps79
        go_wp2_with (first
          | (go_at_call 106;refine (zA HRV _).mono ?_;rintro e w5 ⟨rfl,hb5⟩;have hP5:=(zA HP).below hb5;have r1:=hP5.r1;have HP5:=zB hP5;clear hb5 hP5))
        go_ret
        exact ⟨rfl,(zA HP5).bel⟩
      · simp only [hi0,hi1,Bool.true_eq_false,or_self,if_false]
        have hq:∃ q:Nat,q<gn∧(R j).ix=(q:Int):=⟨(R j).ix.toNat,by omega,by omega⟩
        obtain ⟨q,hq,hqe⟩:=hq
        obtain ⟨bg,og,rfl,cg⟩:=zA HG q hq
        have HCG:=zB cg
        have qq0:(0:Int)≤(q:Int):=by omega
        have qq1:(q:Int)<(gn:Int):=by omega
        have qq2:¬ (q:Int)<0:=by omega
        have qq3:¬ (gn:Int)≤(q:Int):=by omega
        clear cg HG hi0 hi1
        cases j with
        | zero =>
          generalize R 0=x at *
          obtain ⟨ix,gen,has,v⟩:=x
          dsimp only at *
          subst hqe
          simp only [Nat.lt_irrefl,false_and,if_false,Int.toNat_natCast]
          simp only [Nat.zero_mul,Nat.add_zero] at c0 c1 c2 c3 c4 c5 c6 c7 c8 c9 c10
          clear HR
          by_cases hge:gen=f q
          all_goals
            first
            | (subst hge;simp only [if_true])
            | simp only [hge,if_false]
            go_enter Tryz.func79,Tryz.ntmps79
            go_wp2_with (first
              | (go_at_call 106;refine (zA HRV _).mono ?_;rintro e w5 ⟨rfl,hb5⟩;have hP5:=(zA HP).below hb5;have r0:=hP5.r0;have r1:=hP5.r1;have d0:=hP5.d0;have d1:=hP5.d1;have cg:=zC hP5.bel (zA HCG);have HP5:=zB hP5;clear hb5 hP5))
            go_quiet (fail)
            go_wp2_with fail
            go_ret
            exact ⟨rfl,zBs (zA HP5).bel _⟩
        | succ m =>
          obtain ⟨b',off',hbo,hprev⟩:=zA HR m (by omega)
          simp only [Option.some.injEq,Addr.mk.injEq,and_true] at hbo
          obtain ⟨rfl,rfl⟩:=hbo
          have HPV:=zB hprev.c0
          clear hprev HR
          simp only [Nat.add_sub_cancel,Nat.zero_lt_succ,true_and]
          generalize R (m+1)=x at *
          obtain ⟨ix,gen,has,v⟩:=x
          dsimp only at *
          subst hqe
          simp only [Int.toNat_natCast]
          generalize (R m).ix=pix at *
          have hm0:(0:Int)<(m:Int)+1:=by omega
          have hm1:(m:Int)<(n:Int):=by omega
          have hm2:(0:Int)≤(m:Int):=by omega
          by_cases hp:(q:Int)≤pix
          · simp only [hp,if_true]
            go_enter Tryz.func79,Tryz.ntmps79
            go_wp2_with (first
              | (go_at_call 106;refine (zA HRV _).mono ?_;rintro e w5 ⟨rfl,hb5⟩;have hP5:=(zA HP).below hb5;have r0:=hP5.r0;have r1:=hP5.r1;have d0:=hP5.d0;have d1:=hP5.d1;have pv:=zC hP5.bel (zA HPV);have HP5:=zB hP5;clear hb5 hP5))
            go_ret
            exact ⟨rfl,(zA HP5).bel⟩
          · simp only [hp,if_false]
            by_cases hge:gen=f q
            all_goals
              first
              | (subst hge;simp only [if_true])
              | simp only [hge,if_false]
              go_enter Tryz.func79,Tryz.ntmps79
              go_wp2_with (first
                | (go_at_call 106;refine (zA HRV _).mono ?_;rintro e w5 ⟨rfl,hb5⟩;have hP5:=(zA HP).below hb5;have r0:=hP5.r0;have r1:=hP5.r1;have d0:=hP5.d0;have d1:=hP5.d1;have cg:=zC hP5.bel (zA HCG);have pv:=zC hP5.bel (zA HPV);have HP5:=zB hP5;clear hb5 hP5))
              go_quiet (fail)
              go_wp2_with fail
              go_ret
              exact ⟨rfl,zBs (zA HP5).bel _⟩
end Go.Proofs.YtnbleebilmghcacGreat
set_option maxHeartbeats 2000000
set_option maxRecDepth 8000
namespace Go.Proofs.YtnbleebilmghcacGreat
open Go.RowKit
attribute [local go_sem ↓] Go.wp_at_zero Go.wp_at_succ
def gTo (f:Nat→Int) (r:Int×Int):Nat→Nat→Int×Int
  | 0,_=>r
  | m+1,j=>if f j<1∨1000<f j then (3,(j:Int)) else gTo f r m (j+1)
def rTo (R:Nat→RowI) (gn:Nat) (f:Nat→Int):Nat→Nat→Int×Int
  | 0,_=>(0,0)
  | m+1,j=>if wrowI R gn f j=0 then rTo R gn f m (j+1) else (wrowI R gn f j,(j:Int))
def plainF (R:Nat→RowI) (n gn:Nat) (f:Nat→Int):Int×Int:=if 60<gn then (4,0) else gTo f (rTo R gn f n 0) gn 0
def zBg (x:Int×Int):Value:=.agg #[.int .i64 x.1,.int .i64 x.2]
theorem gTo_step (f:Nat→Int) (r:Int×Int) (n j:Nat) (h:j<n):gTo f r (n - j) j=if f j<1∨1000<f j then (3,(j:Int)) else gTo f r (n - (j+1)) (j+1):=by
  rw [show n - j=(n - (j+1))+1 by omega,gTo]
theorem rTo_step (R:Nat→RowI) (gn:Nat) (f:Nat→Int) (n j:Nat) (h:j<n):rTo R gn f (n - j) j=if wrowI R gn f j=0 then rTo R gn f (n - (j+1)) (j+1) else (wrowI R gn f j,(j:Int)):=by
  rw [show n - j=(n - (j+1))+1 by omega,rTo]
structure VB (w:World) (A:Option Addr) (n cap:Nat) (G:Option Addr) (gn gcap:Nat) (W:World):Prop where
  bel:Below w.heap.size w W
  r0:W.cell? ⟨w.heap.size,0,none⟩=some (.slice A n cap)
  r1:W.cell? ⟨w.heap.size,1,none⟩=some (.slice G gn gcap)
  t0:W.cell? ⟨w.heap.size+1,0,none⟩=some (.int .i64 0)
  t1:W.cell? ⟨w.heap.size+1,1,none⟩=some (.int .i64 0)
  f:∀ i,W.frozen? ⟨w.heap.size+1,i,none⟩=false
theorem VB.below {w:World} {A:Option Addr} {n cap:Nat} {G:Option Addr} {gn gcap:Nat} {W W1:World} (h:VB w A n cap G gn gcap W) (hb:Below W.heap.size W W1):VB w A n cap G gn gcap W1:=by
  have z:=World.block_lt_of_cell? W _ h.t0
  exact ⟨h.bel.trans (hb.mono h.bel.size),zC hb h.r0,zC hb h.r1,zC hb h.t0,zC hb h.t1,fun i=>(hb.frozen (p:=⟨w.heap.size+1,i,none⟩) z).trans (h.f i)⟩
theorem VB.start (w:World) (A:Option Addr) (n cap:Nat) (G:Option Addr) (gn gcap:Nat):VB w A n cap G gn gcap ((w.alloc (.cells #[.slice A n cap,.slice G gn gcap] 51)).alloc (.cells #[.int .i64 0,.int .i64 0] 35)):=by
  obtain ⟨w1,h1⟩:∃ W,W=w.alloc (.cells #[.slice A n cap,.slice G gn gcap] 51):=⟨_,rfl⟩
  have z1:w1.heap.size=w.heap.size+1:=by rw [h1];simp
  have b1:Below w.heap.size w w1:=by rw [h1];exact (Below.refl _ _).alloc (Nat.le_refl _) _
  have e0:w1.cell? ⟨w.heap.size,0,none⟩=some (.slice A n cap):=by rw [h1];simp
  have e1:w1.cell? ⟨w.heap.size,1,none⟩=some (.slice G gn gcap):=by rw [h1];simp
  rw [←h1]
  clear h1
  have b2:Below w1.heap.size w1 (w1.alloc (.cells #[.int .i64 0,.int .i64 0] 35)):=(Below.refl _ _).alloc (Nat.le_refl _) _
  refine ⟨b1.trans (b2.mono b1.size),zC b2 e0,zC b2 e1,?_,?_,fun i=>?_⟩ <;> rw [←z1] <;> simp [go_sem]
theorem zBr (A:Option Addr) (n cap:Nat) (G:Option Addr) (gn gcap:Nat) (R:Nat→RowI) (f:Nat→Int) (w:World) (hn:n≤9223372036854775807) (hR:RowsAt w A n R) (hG:IntsAt w G gn f) :
    Calls Tryz.prog 52 #[zR A n cap G gn gcap] w fun e w'=>e=.returned (zBg (plainF R n gn f))∧Below w.heap.size w w':=by
  have hV:=VB.start w A n cap G gn gcap
  have HV:=zB hV
  have HRW:=zB (fun (W:World) (hb:Below w.heap.size w W) (j:Nat) (hj:j<n)=>wrongRow_any A n cap G gn gcap R f j W hj hn (hR.below hb) (hG.below hb))
  have HG:=zB hG
  clear hV hR hG
  unfold plainF
  unfold zR at *
  by_cases hg:60<gn
  · have hg':(60:Int)<(gn:Int):=by omega
    simp only [hg,if_true]
    go_enter Tryz.func52,Tryz.ntmps52
    go_wp2
    refine bodyPost_ret (v:=zBg (4,0)) (by simp [results,Tryz.results52,go_sem,zBg]) rfl ⟨rfl,?_⟩
    go_grown
  · have hg':¬ (60:Int)<(gn:Int):=by omega
    simp only [hg,if_false]
    go_enter Tryz.func52,Tryz.ntmps52
    go_wp2
    obtain ⟨W,hW⟩:∃ W,W=(w.alloc (.cells #[.slice A n cap,.slice G gn gcap] 51)).alloc (.cells #[.int .i64 0,.int .i64 0] 35):=⟨_,rfl⟩
    have hV:=zA HV
    rw [←hW] at hV ⊢
    clear hW HV
    have HV:=zB hV
    clear hV
    go_loop [15] (fun i=>∃ j:Nat,j≤gn∧i=.int .i64 j∧gTo f (rTo R gn f n 0) gn 0=gTo f (rTo R gn f n 0) (gn - j) j) (fun i=>gn - (intOf i).toNat)
    case atStart=>exact ⟨0,Nat.zero_le _,rfl,rfl⟩
    case round =>
      obtain ⟨j,hj,rfl,hF⟩:=hrel
      have HF:=zB hF
      clear hF
      by_cases hlt:j<gn
      · have j0:(0:Int)≤(j:Int):=by omega
        have j1:(j:Int)<(gn:Int):=by omega
        obtain ⟨b,off,rfl,cg⟩:=zA HG j hlt
        have cg:=zC (zA HV).bel cg
        have HS:=zB (gTo_step f (rTo R gn f n 0) gn j hlt)
        clear HG HRW
        generalize f j=fj at *
        have hc:fj<1∨(¬ fj<1∧1000<fj)∨(¬ fj<1∧¬ 1000<fj):=by omega
        rcases hc with h1 | ⟨h1,h2⟩ | ⟨h1,h2⟩
        · have t0:=(zA HV).t0
          have t1:=(zA HV).t1
          have f0:=(zA HV).f 0
          have f1:=(zA HV).f 1
          go_wp2
          have hv:=(zA HF).trans ((zA HS).trans (if_pos (.inl h1)))
          refine bodyPost_ret (v:=zBg (3,(j:Int))) (by simp [results,Tryz.results52,go_sem,zBg,t0,t1]) rfl ⟨by rw [hv],?_⟩
          exact zG (w.heap.size+1) (by omega) [.int .i64 3,.int .i64 (j:Int)] 0 W (zA HV).bel
        · have t0:=(zA HV).t0
          have t1:=(zA HV).t1
          have f0:=(zA HV).f 0
          have f1:=(zA HV).f 1
          go_wp2
          have hv:=(zA HF).trans ((zA HS).trans (if_pos (.inr h2)))
          refine bodyPost_ret (v:=zBg (3,(j:Int))) (by simp [results,Tryz.results52,go_sem,zBg,t0,t1]) rfl ⟨by rw [hv],?_⟩
          exact zG (w.heap.size+1) (by omega) [.int .i64 3,.int .i64 (j:Int)] 0 W (zA HV).bel
        · go_wp2
          go_round
          case rel=>exact ⟨j+1,by omega,by go_num,(zA HF).trans ((zA HS).trans (if_neg (by omega)))⟩
          case measure=>simp [intOf];omega
      · obtain rfl:j=gn:=by omega
        have hv:gTo f (rTo R j f n 0) j 0=rTo R j f n 0:=by rw [zA HF,Nat.sub_self];rfl
        have HVV:=zB hv
        have r0:=(zA HV).r0
        have r1:=(zA HV).r1
        clear HG hv HF
        go_wp2
        go_loopw [32] (fun i wr=>∃ k:Nat,k≤n∧i=.int .i64 k∧rTo R j f n 0=rTo R j f (n - k) k∧VB w A n cap G j gcap wr) (fun i _=>n - (intOf i).toNat)
        case atStart=>exact ⟨0,Nat.zero_le _,rfl,rfl,zA HV⟩
        case round =>
          clear HV r0 r1
          obtain ⟨k,hk,rfl,hF,hN⟩:=hrel
          have HF:=zB hF
          clear hF
          by_cases hlt2:k<n
          · have k0:(0:Int)≤(k:Int):=by omega
            have k1:(k:Int)<(n:Int):=by omega
            have HC:=zB (zA HRW wr hN.bel k hlt2)
            have HS:=zB (rTo_step R j f n k hlt2)
            have r0:=hN.r0
            have r1:=hN.r1
            have HN:=zB hN
            clear hN HRW
            generalize wrowI R j f k=ej at *
            by_cases he:ej=0
            · subst he
              go_wp2_with (first
                | (go_at_call 79;refine (zA HC).mono ?_;rintro e w5 ⟨rfl,hb5⟩;have HN5:=zB ((zA HN).below hb5);clear hb5))
              go_roundw
              case rel=>exact ⟨k+1,by omega,by go_num,(zA HF).trans ((zA HS).trans (by simp)),zA HN5⟩
              case measure=>simp [intOf];omega
            · go_wp2_with (first
                | (go_at_call 79;refine (zA HC).mono ?_;rintro e w5 ⟨rfl,hb5⟩;have hN5:=(zA HN).below hb5;have t0:=hN5.t0;have t1:=hN5.t1;have f0:=hN5.f 0;have f1:=hN5.f 1;clear hb5))
              have hv:=(zA HVV).trans ((zA HF).trans ((zA HS).trans (if_neg he)))
              refine bodyPost_ret (v:=zBg (ej,(k:Int))) (by simp [results,Tryz.results52,go_sem,zBg,t0,t1]) rfl ⟨by rw [hv],?_⟩
              exact zG (w.heap.size+1) (by omega) [.int .i64 ej,.int .i64 (k:Int)] 0 w5 hN5.bel
          · obtain rfl:k=n:=by omega
            have hv:gTo f (rTo R j f k 0) j 0=(0,0):=by rw [zA HVV,zA HF,Nat.sub_self];rfl
            have t0:=hN.t0
            have t1:=hN.t1
            have f0:=hN.f 0
            have f1:=hN.f 1
            have HB:=zB hN.bel
            clear hN HRW
            go_wp2
            refine bodyPost_ret (v:=zBg (0,0)) (by simp [results,Tryz.results52,go_sem,zBg,t0,t1]) rfl ⟨by rw [hv],?_⟩
            exact zG (w.heap.size+1) (by omega) [.int .i64 0,.int .i64 0] 0 wr (zA HB)
end Go.Proofs.YtnbleebilmghcacGreat
