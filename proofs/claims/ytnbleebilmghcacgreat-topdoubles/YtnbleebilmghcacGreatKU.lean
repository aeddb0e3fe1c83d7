/- Acts, Needs, Wrong, Clash, May, Right -/
import Derived.Deep.RegionHeld3
import Derived.Deep.DrawnRows
import Derived.Deep.QuietTactic
import Derived.BigQuiet
import Derived.Deep.DeepCutAuto
import Derived.Test.YtnbleebilmghcacGreatKA
import Derived.Test.YtnbleebilmghcacGreatKB
set_option linter.all false
set_option maxHeartbeats 400000
namespace Go.Proofs.YtnbleebilmghcacGreat
open Go.RowKit
attribute [local go_sem ↓] Go.wp_at_zero Go.wp_at_succ
def zCr (k p f n:Int):Value:=.agg #[.int .i64 k,.int .i64 p,.int .i64 f,.int .i64 n]
def rdI (k p f:Int):Int:=if k=2 then bits .or .i64 0 (zBQ f) else if k=3 then bits .or .i64 (bits .or .i64 0 (zBQ f)) (zBQ p) else if k=4 then bits .or .i64 0 (zBQ p) else 0
def wrI (k p:Int):Int:=if k=1∨k=2∨k=3∨k=4∨k=5 then bits .or .i64 0 (zBQ p) else if k=7 then p else 0
def mvB (k p all:Int):Bool:=if k=1∨k=2 then !(bits .and .i64 all (zBQ p) != 0) else decide (k=5)
def afI (k p r:Int):Int:=if k=1∨k=2 then bits .or .i64 r (zBQ p) else if k=5 then bits .andNot .i64 r (zBQ p) else r
def rgB (k p f n:Int):Bool:=if k=1∨k=4 then zAY p && valB n else if k=2∨k=3 then zAY p && zAY f else if k=5 then zAY p else if k=7 then zBG p && valB n else true
def inB (x y:Int):Bool:=bits .andNot .i64 x y == 0
def waI (k p f n r:Int):Int:=if k<1∨7<k then 1 else if rgB k p f n=false then 3 else if inB (rdI k p f) r=false then 7 else 0
theorem bel_drewN {B:Nat} {a w:World} (h:Below B a w) (n:Nat):Below B a (w.drewN n):=⟨h.os,h.tape,h.output,h.size,h.block⟩
theorem within_any (x y:Int) (w:World) :
  Calls Tryz.prog 108 #[.int .i64 x,.int .i64 y] w fun e w'=>e=.returned (.bool (inB x y))∧w'=w:=by
 go_enter Tryz.func108,Tryz.ntmps108
 go_wp2
 go_ret
 exact ⟨rfl,rfl⟩
theorem reads_any (k p f n:Int) (w:World) :
  Calls Tryz.prog 109 #[zCr k p f n] w fun e w'=>e=.returned (.int .i64 (rdI k p f))∧Below w.heap.size w w':=by
 by_cases h3:k=3
 ·subst h3
  unfold zCr
  go_enter Tryz.func109,Tryz.ntmps109
  go_wp2
  go_quiet ((first | (go_at_call 94;refine (with_any _ _ _).mono ?_;rintro e w' ⟨rfl,hw⟩;exact ⟨rfl,_,hw⟩)))
  go_wp2
  go_ret
  exact ⟨rfl,bel_drewN (by go_grown) _⟩
 ·by_cases h2:k=2
  ·subst h2
   unfold zCr
   go_enter Tryz.func109,Tryz.ntmps109
   go_wp2_with (go_at_call 94;refine (with_any _ _ _).mono ?_;rintro e w' ⟨rfl,rfl⟩)
   go_ret
   exact ⟨rfl,by go_grown⟩
  ·by_cases h4:k=4
   ·subst h4
    unfold zCr
    go_enter Tryz.func109,Tryz.ntmps109
    go_wp2_with (go_at_call 94;refine (with_any _ _ _).mono ?_;rintro e w' ⟨rfl,rfl⟩)
    go_ret
    exact ⟨rfl,by go_grown⟩
   ·have e:rdI k p f=0:=by simp [rdI,h2,h3,h4]
    rw [e]
    unfold zCr
    go_enter Tryz.func109,Tryz.ntmps109
    go_wp2
    go_ret
    exact ⟨rfl,by go_grown⟩
theorem kinds (k:Int):k<1∨k=1∨k=2∨k=3∨k=4∨k=5∨k=6∨k=7∨7<k:=by omega
theorem writes_any (k p f n:Int) (w:World) :
  Calls Tryz.prog 135 #[zCr k p f n] w fun e w'=>e=.returned (.int .i64 (wrI k p))∧Below w.heap.size w w':=by
 have hk:=kinds k
 unfold zCr
 by_cases h:k=1∨k=2∨k=3∨k=4∨k=5∨k=6∨k=7
 ·clear hk
  rcases h with rfl | rfl | rfl | rfl | rfl | rfl | rfl
  all_goals
   go_enter Tryz.func135,Tryz.ntmps135
   go_wp2_with (go_at_call 94;refine (with_any _ _ _).mono ?_;rintro e w' ⟨rfl,rfl⟩)
   go_ret
   exact ⟨rfl,by go_grown⟩
 ·have h1:¬ k=1:=by omega
  have h2:¬ k=2:=by omega
  have h3:¬ k=3:=by omega
  have h4:¬ k=4:=by omega
  have h5:¬ k=5:=by omega
  have h7:¬ k=7:=by omega
  have e:wrI k p=0:=by simp [wrI,h1,h2,h3,h4,h5,h7]
  rw [e]
  clear h hk e
  go_enter Tryz.func135,Tryz.ntmps135
  go_wp2
  go_ret
  exact ⟨rfl,by go_grown⟩
theorem moves_any (k p f n all:Int) (w:World) :
  Calls Tryz.prog 136 #[zCr k p f n,.int .i64 all] w fun e w'=>e=.returned (.bool (mvB k p all))∧Below w.heap.size w w':=by
 unfold zCr
 by_cases h:k=1∨k=2∨k=5
 ·rcases h with rfl | rfl | rfl
  all_goals
   go_enter Tryz.func136,Tryz.ntmps136
   go_wp2_with (go_at_call 58;refine (has_any _ _ _).mono ?_;rintro e w' ⟨rfl,rfl⟩)
   go_ret
   exact ⟨by simp [mvB],by go_grown⟩
 ·have h1:¬ k=1:=by omega
  have h2:¬ k=2:=by omega
  have h5:¬ k=5:=by omega
  have e:mvB k p all=false:=by simp [mvB,h1,h2,h5]
  rw [e]
  clear h e
  go_enter Tryz.func136,Tryz.ntmps136
  go_wp2
  go_ret
  exact ⟨rfl,by go_grown⟩
theorem after_any (k p f n r:Int) (w:World) :
  Calls Tryz.prog 81 #[zCr k p f n,.int .i64 r] w fun e w'=>e=.returned (.int .i64 (afI k p r))∧Below w.heap.size w w':=by
 unfold zCr
 by_cases h:k=1∨k=2∨k=5
 ·rcases h with rfl | rfl | rfl
  all_goals
   go_enter Tryz.func81,Tryz.ntmps81
   go_wp2_with (first
    | (go_at_call 94;refine (with_any _ _ _).mono ?_;rintro e w' ⟨rfl,rfl⟩)
    | (go_at_call 96;refine (without_any _ _ _).mono ?_;rintro e w' ⟨rfl,rfl⟩))
   go_ret
   exact ⟨by simp [afI],by go_grown⟩
 ·have h1:¬ k=1:=by omega
  have h2:¬ k=2:=by omega
  have h5:¬ k=5:=by omega
  have e:afI k p r=r:=by simp [afI,h1,h2,h5]
  rw [e]
  clear h e
  go_enter Tryz.func81,Tryz.ntmps81
  go_wp2
  go_ret
  exact ⟨rfl,by go_grown⟩
theorem range_any (k p f n:Int) (w:World) :
  Calls Tryz.prog 107 #[zCr k p f n] w fun e w'=>e=.returned (.bool (rgB k p f n))∧Below w.heap.size w w':=by
 unfold zCr
 by_cases h:k=1∨k=2∨k=3∨k=4∨k=5∨k=7
 ·rcases h with rfl | rfl | rfl | rfl | rfl | rfl
  all_goals
   cases hp:zAY p
   all_goals
    cases hs:zBG p
    all_goals
     go_enter Tryz.func107,Tryz.ntmps107
     go_wp2_with (first
      | (go_at_call 71;refine (zBp _ _).mono ?_;rintro e w' ⟨rfl,rfl⟩)
      | (go_at_call 37;refine (zAR _ _).mono ?_;rintro e w' ⟨rfl,rfl⟩)
      | (go_at_call 93;refine (zAo _ _).mono ?_;rintro e w' ⟨rfl,rfl⟩))
     go_ret
     exact ⟨by simp [rgB,hp,hs],by go_grown⟩
 ·have h1:¬ k=1:=by omega
  have h2:¬ k=2:=by omega
  have h3:¬ k=3:=by omega
  have h4:¬ k=4:=by omega
  have h5:¬ k=5:=by omega
  have h7:¬ k=7:=by omega
  have e:rgB k p f n=true:=by simp [rgB,h1,h2,h3,h4,h5,h7]
  rw [e]
  clear h e
  go_enter Tryz.func107,Tryz.ntmps107
  go_wp2
  go_ret
  exact ⟨rfl,by go_grown⟩
theorem wrongAct_any (k p f n r:Int) (w:World) :
  Calls Tryz.prog 80 #[zCr k p f n,.int .i64 r] w fun e w'=>e=.returned (.int .i64 (waI k p f n r))∧Below w.heap.size w w':=by
 by_cases hlo:k<1
 ·have e:waI k p f n r=1:=by simp [waI,hlo]
  rw [e]
  clear e
  unfold zCr
  go_enter Tryz.func80,Tryz.ntmps80
  go_wp2
  go_ret
  exact ⟨rfl,by go_grown⟩
 ·by_cases hhi:7<k
  ·have e:waI k p f n r=1:=by simp [waI,hhi]
   rw [e]
   clear e
   unfold zCr
   go_enter Tryz.func80,Tryz.ntmps80
   go_wp2
   go_ret
   exact ⟨rfl,by go_grown⟩
  ·have e:waI k p f n r=if rgB k p f n=false then 3 else if inB (rdI k p f) r=false then 7 else 0:=by
    unfold waI;rw [if_neg (by omega)]
   rw [e]
   clear e
   have HR:=range_any k p f n
   have HD:=reads_any k p f n
   unfold zCr at HR HD ⊢
   cases hr:rgB k p f n
   ·rw [hr] at HR
    have HR:=zB HR
    go_enter Tryz.func80,Tryz.ntmps80
    go_wp2_with (first
     | (go_at_call 107;refine (zA HR _).mono ?_;rintro e w1 ⟨rfl,hb⟩))
    go_ret
    exact ⟨rfl,Below.trans (by go_grown) (hb.mono (by simp))⟩
   ·rw [hr] at HR
    have HR:=zB HR
    have HD:=zB HD
    generalize rdI k p f=d at *
    cases hi:inB d r
    all_goals
     go_enter Tryz.func80,Tryz.ntmps80
     go_wp2_with (first
      | (go_at_call 107;refine (zA HR _).mono ?_;rintro e w1 ⟨rfl,hb⟩;have c0:=zC hb (p:=⟨w.heap.size,0,none⟩) (v:=.int .i64 k) (by simp);have c1:=zC hb (p:=⟨w.heap.size,1,none⟩) (v:=.int .i64 p) (by simp);have c2:=zC hb (p:=⟨w.heap.size,2,none⟩) (v:=.int .i64 f) (by simp);have c3:=zC hb (p:=⟨w.heap.size,3,none⟩) (v:=.int .i64 n) (by simp))
      | (go_at_call 109;refine (zA HD _).mono ?_;rintro e w2 ⟨rfl,hb2⟩)
      | (go_at_call 108;refine (within_any _ _ _).mono ?_;rintro e w3 ⟨rfl,hw⟩;obtain rfl:=hw.symm))
     go_ret
     have B1:Below w.heap.size w w1:=Below.trans (by go_grown) (hb.mono (by simp))
     exact ⟨rfl,B1.trans (hb2.mono B1.size)⟩
end Go.Proofs.YtnbleebilmghcacGreat
set_option maxHeartbeats 1000000
set_option maxRecDepth 8000
namespace Go.Proofs.YtnbleebilmghcacGreat
open Go.RowKit
attribute [local go_sem ↓] Go.wp_at_zero Go.wp_at_succ
structure ActI where
 k:Int
 p:Int
 f:Int
 n:Int
def zCL (m al no:Int) (A:Option Addr) (len cap:Nat):Value:=.agg #[.int .i64 m,.int .i64 al,.int .i64 no,.slice A len cap]
def ActsAt (w:World) (A:Option Addr) (len:Nat) (a:Nat→ActI):Prop:=∀ j,j<len→∃ b off,A=some ⟨b,off,none⟩ ∧
 w.cell? ⟨b,off+j*4,none⟩=some (.int .i64 (a j).k)∧w.cell? ⟨b,off+j*4+1,none⟩=some (.int .i64 (a j).p) ∧
 w.cell? ⟨b,off+j*4+2,none⟩=some (.int .i64 (a j).f)∧w.cell? ⟨b,off+j*4+3,none⟩=some (.int .i64 (a j).n)
theorem ActsAt.below {w w1:World} {A:Option Addr} {len:Nat} {a:Nat→ActI} (h:ActsAt w A len a) (hb:Below w.heap.size w w1):ActsAt w1 A len a:=fun j hj=>by
 obtain ⟨b,off,h0,h1,h2,h3,h4⟩:=h j hj
 exact ⟨b,off,h0,zC hb h1,zC hb h2,zC hb h3,zC hb h4⟩
def rdTo (a:Nat→ActI):Nat→Int
 | 0=>0
 | j+1=>bits .or .i64 (rdTo a j) (rdI (a j).k (a j).p (a j).f)
def wrTo (a:Nat→ActI):Nat→Int
 | 0=>0
 | j+1=>bits .or .i64 (wrTo a j) (wrI (a j).k (a j).p)
def mvTo (all:Int) (a:Nat→ActI):Nat→Bool
 | 0=>false
 | j+1=>mvTo all a j || mvB (a j).k (a j).p all
def lfTo (a:Nat→ActI):Nat→Bool
 | 0=>false
 | j+1=>lfTo a j || (decide ((a j).k=6) || decide ((a j).k=7))
theorem cell_same {w:World} {a:Addr} {v u:Value} (h:w.cell? a=some u):(w.setCell a v).cell? a=some v:=by
 first
 | exact World.cell?_setCell_same _ _ _ h
 | exact World.cell?_setCell_same h
theorem zW {w:World} {a b:Addr} {v u:Value} (hn:a≠b) (h:w.cell? b=some u):(w.setCell a v).cell? b=some u:=by
 rw [World.cell?_setCell_other]
 ·exact h
 ·exact hn
structure NB (w:World) (all r u:Int) (m l:Bool) (wr:World):Prop where
 bel:Below w.heap.size w wr
 c0:wr.cell? ⟨w.heap.size+1+1,0,none⟩=some (.int .i64 r)
 c1:wr.cell? ⟨w.heap.size+1+1,1,none⟩=some (.int .i64 u)
 c2:wr.cell? ⟨w.heap.size+1+1,2,none⟩=some (.bool m)
 c3:wr.cell? ⟨w.heap.size+1+1,3,none⟩=some (.bool l)
 f:∀ i,wr.frozen? ⟨w.heap.size+1+1,i,none⟩=false
 e1:wr.cell? ⟨w.heap.size,1,none⟩=some (.int .i64 all)
 t:wr.there (w.heap.size+1) 0 4
structure NW (w:World) (b5:Nat) (x:ActI) (all r u:Int) (m l:Bool) (wr:World):Prop extends NB w all r u m l wr where
 d0:wr.cell? ⟨b5,0,none⟩=some (.int .i64 x.k)
 d1:wr.cell? ⟨b5,1,none⟩=some (.int .i64 x.p)
 d2:wr.cell? ⟨b5,2,none⟩=some (.int .i64 x.f)
 d3:wr.cell? ⟨b5,3,none⟩=some (.int .i64 x.n)
 lt:w.heap.size+2<b5
section
variable {w:World} {b5:Nat} {x:ActI} {all r u:Int} {m l:Bool} {wr w1:World}
theorem NB.below (h:NB w all r u m l wr) (hb:Below wr.heap.size wr w1):NB w all r u m l w1:=by
 have hz:=World.block_lt_of_cell? wr _ h.c0
 exact ⟨h.bel.trans (hb.mono h.bel.size),zC hb h.c0,zC hb h.c1,zC hb h.c2,zC hb h.c3,
  fun i=>(hb.frozen (p:=⟨w.heap.size+1+1,i,none⟩) hz).trans (h.f i),zC hb h.e1,zCZ hb (by simp at hz;omega) h.t⟩
theorem NW.below (h:NW w b5 x all r u m l wr) (hb:Below wr.heap.size wr w1):NW w b5 x all r u m l w1 :=
 ⟨h.toNB.below hb,zC hb h.d0,zC hb h.d1,zC hb h.d2,zC hb h.d3,h.lt⟩
theorem NW.set0 (h:NW w b5 x all r u m l wr) (v:Int):NW w b5 x all v u m l (wr.setCell ⟨w.heap.size+1+1,0,none⟩ (.int .i64 v)):=by
 have hlt:=h.lt
 exact ⟨⟨h.bel.setCell (p:=⟨w.heap.size+1+1,0,none⟩) (by simp <;> omega) _,cell_same h.c0,zW (by simp) h.c1,zW (by simp) h.c2,zW (by simp) h.c3,
  fun i=>by rw [World.frozen?_setCell];exact h.f i,zW (by simp <;> omega) h.e1,World.there_setCells h.t (w.heap.size+1+1) 0 [.int .i64 v]⟩,zW (by simp <;> omega) h.d0,zW (by simp <;> omega) h.d1,zW (by simp <;> omega) h.d2,zW (by simp <;> omega) h.d3,h.lt⟩
theorem NW.set1 (h:NW w b5 x all r u m l wr) (v:Int):NW w b5 x all r v m l (wr.setCell ⟨w.heap.size+1+1,1,none⟩ (.int .i64 v)):=by
 have hlt:=h.lt
 exact ⟨⟨h.bel.setCell (p:=⟨w.heap.size+1+1,1,none⟩) (by simp <;> omega) _,zW (by simp) h.c0,cell_same h.c1,zW (by simp) h.c2,zW (by simp) h.c3,
  fun i=>by rw [World.frozen?_setCell];exact h.f i,zW (by simp <;> omega) h.e1,World.there_setCells h.t (w.heap.size+1+1) 1 [.int .i64 v]⟩,zW (by simp <;> omega) h.d0,zW (by simp <;> omega) h.d1,zW (by simp <;> omega) h.d2,zW (by simp <;> omega) h.d3,h.lt⟩
theorem NW.set2 (h:NW w b5 x all r u m l wr) (v:Bool):NW w b5 x all r u v l (wr.setCell ⟨w.heap.size+1+1,2,none⟩ (.bool v)):=by
 have hlt:=h.lt
 exact ⟨⟨h.bel.setCell (p:=⟨w.heap.size+1+1,2,none⟩) (by simp <;> omega) _,zW (by simp) h.c0,zW (by simp) h.c1,cell_same h.c2,zW (by simp) h.c3,
  fun i=>by rw [World.frozen?_setCell];exact h.f i,zW (by simp <;> omega) h.e1,World.there_setCells h.t (w.heap.size+1+1) 2 [.bool v]⟩,zW (by simp <;> omega) h.d0,zW (by simp <;> omega) h.d1,zW (by simp <;> omega) h.d2,zW (by simp <;> omega) h.d3,h.lt⟩
theorem NW.set3 (h:NW w b5 x all r u m l wr) (v:Bool):NW w b5 x all r u m v (wr.setCell ⟨w.heap.size+1+1,3,none⟩ (.bool v)):=by
 have hlt:=h.lt
 exact ⟨⟨h.bel.setCell (p:=⟨w.heap.size+1+1,3,none⟩) (by simp <;> omega) _,zW (by simp) h.c0,zW (by simp) h.c1,zW (by simp) h.c2,cell_same h.c3,
  fun i=>by rw [World.frozen?_setCell];exact h.f i,zW (by simp <;> omega) h.e1,World.there_setCells h.t (w.heap.size+1+1) 3 [.bool v]⟩,zW (by simp <;> omega) h.d0,zW (by simp <;> omega) h.d1,zW (by simp <;> omega) h.d2,zW (by simp <;> omega) h.d3,h.lt⟩
theorem NB.act (h:NB w all r u m l wr) (y:ActI):NW w wr.heap.size y all r u m l (wr.alloc (.cells #[.int .i64 y.k,.int .i64 y.p,.int .i64 y.f,.int .i64 y.n] 71)):=by
 have hb:Below wr.heap.size wr (wr.alloc (.cells #[.int .i64 y.k,.int .i64 y.p,.int .i64 y.f,.int .i64 y.n] 71)):=(Below.refl _ _).alloc (Nat.le_refl _) _
 have hz:=World.block_lt_of_cell? wr _ h.c0
 have h1:=h.below hb
 exact ⟨h1,by simp,by simp,by simp,by simp,by simpa using hz⟩
theorem NB.start (w:World) (m al no:Int) (A:Option Addr) (len cap:Nat):NB w al 0 0 false false
  (((w.alloc (.cells #[.int .i64 m,.int .i64 al,.int .i64 no,.slice A len cap] 44)).alloc (.cells #[.int .i64 0,.int .i64 0,.bool false,.bool false] 174)).alloc (.cells #[.int .i64 0,.int .i64 0,.bool false,.bool false] 174)):=by
 obtain ⟨w1,h1⟩:∃ W,W=w.alloc (.cells #[.int .i64 m,.int .i64 al,.int .i64 no,.slice A len cap] 44):=⟨_,rfl⟩
 have z1:w1.heap.size=w.heap.size+1:=by rw [h1];simp
 have b1:Below w.heap.size w w1:=by rw [h1];exact (Below.refl _ _).alloc (Nat.le_refl _) _
 have e1:w1.cell? ⟨w.heap.size,1,none⟩=some (.int .i64 al):=by rw [h1];simp
 rw [←h1]
 clear h1
 obtain ⟨w2,h2⟩:∃ W,W=w1.alloc (.cells #[.int .i64 0,.int .i64 0,.bool false,.bool false] 174):=⟨_,rfl⟩
 have z2:w2.heap.size=w.heap.size+1+1:=by rw [h2];simp [z1]
 have b2:Below w1.heap.size w1 w2:=by rw [h2];exact (Below.refl _ _).alloc (Nat.le_refl _) _
 have t2:w2.there (w.heap.size+1) 0 4:=by rw [h2,←z1];exact there_cells w1 _ _
 rw [←h2]
 clear h2
 have b3:Below w2.heap.size w2 (w2.alloc (.cells #[.int .i64 0,.int .i64 0,.bool false,.bool false] 174)):=(Below.refl _ _).alloc (Nat.le_refl _) _
 have b13:=b1.trans ((b2.trans (b3.mono b2.size)).mono b1.size)
 refine ⟨b13,?_,?_,?_,?_,fun i=>?_,zC b3 (zC b2 e1),zCZ b3 (by omega) t2⟩ <;> rw [←z2] <;> simp [go_sem]
end
def needsV (all:Int) (a:Nat→ActI) (len:Nat):Value:=.agg #[.int .i64 (rdTo a len),.int .i64 (wrTo a len),.bool (mvTo all a len),.bool (lfTo a len)]
theorem needs_any (m al no:Int) (A:Option Addr) (len cap:Nat) (a:Nat→ActI) (w:World) (hl:len≤8) (hA:ActsAt w A len a) :
  Calls Tryz.prog 120 #[zCL m al no A len cap] w fun e w'=>e=.returned (needsV al a len)∧Below w.heap.size w w':=by
 have HA:=zB hA
 clear hA
 unfold zCL
 go_enter Tryz.func120,Tryz.ntmps120
 go_wp2
 go_loopw [9] (fun i wr=>∃ j:Nat,j≤len∧i=.int .i64 j∧NB w al (rdTo a j) (wrTo a j) (mvTo al a j) (lfTo a j) wr) (fun i _=>len - (intOf i).toNat)
 case atStart =>
  exact ⟨0,Nat.zero_le _,rfl,NB.start w m al no A len cap⟩
 case round =>
  obtain ⟨j,hj,rfl,hN⟩:=hrel
  by_cases hlt:j<len
  ·have j0:(0:Int)≤(j:Int):=by omega
   have j1:(j:Int)<(len:Int):=by omega
   obtain ⟨b,off,rfl,q0,q1,q2,q3⟩:=zA HA j hlt
   have q0:=zC hN.bel q0
   have q1:=zC hN.bel q1
   have q2:=zC hN.bel q2
   have q3:=zC hN.bel q3
   have HN:=zB hN
   clear hN HA
   go_wp2
   have hN5:=(zA HN).act (a j)
   obtain ⟨W5,hW5⟩:∃ W,W=wr.alloc (.cells #[.int .i64 (a j).k,.int .i64 (a j).p,.int .i64 (a j).f,.int .i64 (a j).n] 71):=⟨_,rfl⟩
   rw [←hW5] at hN5 ⊢
   clear hW5 HN q0 q1 q2 q3
   generalize wr.heap.size=b9 at *
   have hne:Nonempty (Sub W5):=⟨⟨W5,Below.refl _ _⟩⟩
   have s0:=zK hN5.c0
   have t0:=zK hN5.d0
   have t1:=zK hN5.d1
   have t2:=zK hN5.d2
   have t3:=zK hN5.d3
   have HN:=zB hN5
   clear hN5
   refine zCO 6 _ rfl rfl (by kernel_rfl) (by kernel_rfl) (by kernel_rfl) (by kernel_rfl) (by kernel_rfl) ?_
   intro l hl
   simp only [List.take_succ_cons,List.take_zero] at hl
   subst hl
   repeat (go_big_quiet_step ((first
    | (go_at_call 109;exact zBI (reads_any _ _ _ _ _)))))
   refine wpQuiet_nil ?_
   rintro w6 ⟨xs,hxs⟩
   have hb6:=xs.bel
   rw [←hxs] at hb6
   have hN6:=(zA HN).below hb6
   clear hxs xs hb6 s0 t0 t1 t2 t3 hne HN
   have c0:=hN6.c0
   have f0:=hN6.f 0
   have HN:=zB hN6
   clear hN6
   simp [go_sem,c0,f0]
   have hN7:=(zA HN).set0 (bits .or .i64 (rdTo a j) (rdI (a j).k (a j).p (a j).f))
   obtain ⟨W7,hW7⟩:∃ W,W=w6.setCell ⟨w.heap.size+1+1,0,none⟩ (.int .i64 (bits .or .i64 (rdTo a j) (rdI (a j).k (a j).p (a j).f))):=⟨_,rfl⟩
   rw [←hW7] at hN7 ⊢
   clear hW7 HN c0 f0
   have HN:=zB hN7
   clear hN7
   go_wp2_with fail
   have hne:Nonempty (Sub W7):=⟨⟨W7,Below.refl _ _⟩⟩
   have s0:=zK (zA HN).c1
   have t0:=zK (zA HN).d0
   have t1:=zK (zA HN).d1
   have t2:=zK (zA HN).d2
   have t3:=zK (zA HN).d3
   refine zCO 6 _ rfl rfl (by kernel_rfl) (by kernel_rfl) (by kernel_rfl) (by kernel_rfl) (by kernel_rfl) ?_
   intro l hl
   simp only [List.take_succ_cons,List.take_zero] at hl
   subst hl
   repeat (go_big_quiet_step ((first
    | (go_at_call 135;exact zBI (writes_any _ _ _ _ _)))))
   refine wpQuiet_nil ?_
   rintro w8 ⟨xs,hxs⟩
   have hb8:=xs.bel
   rw [←hxs] at hb8
   have hN8:=(zA HN).below hb8
   clear hxs xs hb8 s0 t0 t1 t2 t3 hne HN
   have c1:=hN8.c1
   have f1:=hN8.f 1
   have HN:=zB hN8
   clear hN8
   simp [go_sem,c1,f1]
   have hN9:=(zA HN).set1 (bits .or .i64 (wrTo a j) (wrI (a j).k (a j).p))
   obtain ⟨W9,hW9⟩:∃ W,W=w8.setCell ⟨w.heap.size+1+1,1,none⟩ (.int .i64 (bits .or .i64 (wrTo a j) (wrI (a j).k (a j).p))):=⟨_,rfl⟩
   rw [←hW9] at hN9 ⊢
   clear hW9 HN c1 f1
   have HN:=zB hN9
   have HM:Hid (mvTo al a (j+1)=(mvTo al a j || mvB (a j).k (a j).p al)):=rfl
   have HL:Hid (lfTo a (j+1)=(lfTo a j || (decide ((a j).k=6) || decide ((a j).k=7)))):=rfl
   have c2:=hN9.c2
   have c3:=hN9.c3
   have f2:=hN9.f 2
   have f3:=hN9.f 3
   have e1:=hN9.e1
   have d0:=hN9.d0
   have d1:=hN9.d1
   have d2:=hN9.d2
   have d3:=hN9.d3
   have hlt9:=hN9.lt
   clear hN9
   have HR:Hid (rdTo a (j+1)=bits .or .i64 (rdTo a j) (rdI (a j).k (a j).p (a j).f)):=rfl
   have HU:Hid (wrTo a (j+1)=bits .or .i64 (wrTo a j) (wrI (a j).k (a j).p)):=rfl
   have hne1:¬ w.heap.size+1+1=b9:=by omega
   have hne2:¬ b9=w.heap.size+1+1:=by omega
   clear hlt9
   generalize a j=y at *
   obtain ⟨k,p,f,n⟩:=y
   dsimp only at *
   generalize mvTo al a j=mj at *
   generalize lfTo a j=lj at *
   generalize rdTo a j=rj at *
   generalize wrTo a j=uj at *
   have HMV:=zB (moves_any k p f n al)
   have hk:k=6∨k=7∨¬ (k=6∨k=7):=by omega
   rcases hk with rfl | rfl | hk
   case' inr.inr =>
    have k6:¬ k=6:=fun e=>hk (.inl e)
    have k7:¬ k=7:=fun e=>hk (.inr e)
    clear hk
   all_goals
    cases mj
    all_goals
     cases lj
     all_goals
      go_wp2_with (first
       | (go_at_call 136;refine (zA HMV _).mono ?_;rintro e w10 ⟨rfl,hb10⟩;have hN10:=(zA HN).below hb10;clear HN c2 c3 f2 f3 e1 d0 d1 d2 d3;have c2:=hN10.c2;have c3:=hN10.c3;have f2:=hN10.f 2;have f3:=hN10.f 3;have d0:=hN10.d0;have HN:=zB hN10;clear hN10 hb10))
      go_roundw
      case rel =>
       exact ⟨j+1,by omega,by go_num,by
        rw [zA HR,zA HU,zA HM,zA HL]
        first
        | exact (((zA HN).set2 _).set3 _).toNB
        | (simp only [k6,k7,decide_false,Bool.or_false,Bool.false_or,Bool.true_or];exact (((zA HN).set2 _).set3 _).toNB)⟩
      case measure=>simp [intOf];omega
  ·obtain rfl:j=len:=by omega
   have c0:=hN.c0
   have c1:=hN.c1
   have c2:=hN.c2
   have c3:=hN.c3
   have t0:=(hN.t 0 (by omega)).1
   have t1:=(hN.t 1 (by omega)).1
   have t2:=(hN.t 2 (by omega)).1
   have t3:=(hN.t 3 (by omega)).1
   have g0:=(hN.t 0 (by omega)).2
   have g1:=(hN.t 1 (by omega)).2
   have g2:=(hN.t 2 (by omega)).2
   have g3:=(hN.t 3 (by omega)).2
   simp only [Nat.zero_add] at t0 t1 t2 t3 g0 g1 g2 g3
   obtain ⟨y0,t0⟩:=Option.isSome_iff_exists.1 t0
   obtain ⟨y1,t1⟩:=Option.isSome_iff_exists.1 t1
   obtain ⟨y2,t2⟩:=Option.isSome_iff_exists.1 t2
   obtain ⟨y3,t3⟩:=Option.isSome_iff_exists.1 t3
   have HB:=zB hN.bel
   clear hN HA
   go_wp2
   refine bodyPost_ret (v:=needsV al a j) (by simp [results,Tryz.results120,go_sem,needsV,t0,t1,t2,t3]) rfl ⟨rfl,?_⟩
   exact zG (w.heap.size+1) (by omega) [.int .i64 (rdTo a j),.int .i64 (wrTo a j),.bool (mvTo al a j),.bool (lfTo a j)] 0 wr (zA HB)
end Go.Proofs.YtnbleebilmghcacGreat
set_option maxHeartbeats 2000000
set_option maxRecDepth 8000
namespace Go.Proofs.YtnbleebilmghcacGreat
open Go.RowKit
attribute [local go_sem ↓] Go.wp_at_zero Go.wp_at_succ
def rbTo (al:Int) (a:Nat→ActI):Nat→Int
 | 0=>al
 | j+1=>bits .and .i64 (afI (a j).k (a j).p (rbTo al a j)) al
def waAt (al:Int) (a:Nat→ActI) (j:Nat):Int:=waI (a j).k (a j).p (a j).f (a j).n (rbTo al a j)
def fbTo (al:Int) (a:Nat→ActI):Nat→Nat→Int×Int
 | 0,_=>(0,0)
 | n+1,j=>if waAt al a j=0 then fbTo al a n (j+1) else (waAt al a j,(j:Int))
def headB (m al no:Int):Bool:=decide (0≤m∧m<6) && zBG al && zBG no
def wrF (m al no:Int) (a:Nat→ActI) (len:Nat):Int×Int:=if headB m al no=false then (3,0) else if 8<len then (4,0) else fbTo al a len 0
def zAT (x:Int×Int):Value:=.agg #[.int .i64 x.1,.int .i64 x.2]
structure WB (w:World) (al:Int) (wr:World):Prop where
 bel:Below w.heap.size w wr
 e1:wr.cell? ⟨w.heap.size,1,none⟩=some (.int .i64 al)
 t0:wr.cell? ⟨w.heap.size+1,0,none⟩=some (.int .i64 0)
 t1:wr.cell? ⟨w.heap.size+1,1,none⟩=some (.int .i64 0)
 f:∀ i,wr.frozen? ⟨w.heap.size+1,i,none⟩=false
theorem WB.below {w wr w1:World} {al:Int} (h:WB w al wr) (hb:Below wr.heap.size wr w1):WB w al w1 :=
 ⟨h.bel.trans (hb.mono h.bel.size),zC hb h.e1,zC hb h.t0,zC hb h.t1,fun i=>(hb.frozen (p:=⟨w.heap.size+1,i,none⟩) (by have:=World.block_lt_of_cell? wr _ h.t0;exact this)).trans (h.f i)⟩
theorem WB.start (w:World) (m al no:Int) (A:Option Addr) (len cap:Nat):WB w al
  ((w.alloc (.cells #[.int .i64 m,.int .i64 al,.int .i64 no,.slice A len cap] 44)).alloc (.cells #[.int .i64 0,.int .i64 0] 35)):=by
 obtain ⟨w1,h1⟩:∃ W,W=w.alloc (.cells #[.int .i64 m,.int .i64 al,.int .i64 no,.slice A len cap] 44):=⟨_,rfl⟩
 have z1:w1.heap.size=w.heap.size+1:=by rw [h1];simp
 have b1:Below w.heap.size w w1:=by rw [h1];exact (Below.refl _ _).alloc (Nat.le_refl _) _
 have e1:w1.cell? ⟨w.heap.size,1,none⟩=some (.int .i64 al):=by rw [h1];simp
 rw [←h1]
 clear h1
 have b2:Below w1.heap.size w1 (w1.alloc (.cells #[.int .i64 0,.int .i64 0] 35)):=(Below.refl _ _).alloc (Nat.le_refl _) _
 refine ⟨b1.trans (b2.mono b1.size),zC b2 e1,?_,?_,fun i=>?_⟩ <;> rw [←z1] <;> simp [go_sem]
theorem wrong_head (m al no:Int) (A:Option Addr) (len cap:Nat) (w:World) (h:headB m al no=false) :
  Calls Tryz.prog 53 #[zCL m al no A len cap] w fun e w'=>e=.returned (zAT (3,0))∧Below w.heap.size w w':=by
 have hW:=WB.start w m al no A len cap
 unfold headB at h
 unfold zCL
 have hc:m<0∨(¬ m<0∧6≤m)∨((¬ m<0∧¬ 6≤m)∧zBG al=false)∨((¬ m<0∧¬ 6≤m)∧zBG al=true∧zBG no=false):=by
  cases h1:zBG al <;> cases h2:zBG no <;> simp [h1,h2] at h ⊢ <;> omega
 clear h
 have HW:=zB hW
 clear hW
 rcases hc with h0 | ⟨h0,h1⟩ | ⟨⟨h0,h1⟩,h2⟩ | ⟨⟨h0,h1⟩,h2,h3⟩
 all_goals
  go_enter Tryz.func53,Tryz.ntmps53
  go_wp2_with (first
   | (go_at_call 37;refine (zAR _ _).mono ?_;rintro e w1 ⟨rfl,hw⟩;obtain rfl:=hw.symm))
  refine bodyPost_ret (v:=zAT (3,0)) (by simp [results,Tryz.results53,go_sem,zAT]) rfl ⟨rfl,?_⟩
  go_grown
theorem wrong_many (m al no:Int) (A:Option Addr) (len cap:Nat) (w:World) (h:headB m al no=true) (hl:8<len) :
  Calls Tryz.prog 53 #[zCL m al no A len cap] w fun e w'=>e=.returned (zAT (4,0))∧Below w.heap.size w w':=by
 unfold headB at h
 unfold zCL
 simp only [Bool.and_eq_true,decide_eq_true_eq] at h
 obtain ⟨⟨⟨h0,h1⟩,h2⟩,h3⟩:=h
 have hl':(8:Int)<(len:Int):=by omega
 go_enter Tryz.func53,Tryz.ntmps53
 go_wp2_with (first
  | (go_at_call 37;refine (zAR _ _).mono ?_;rintro e w1 ⟨rfl,hw⟩;obtain rfl:=hw.symm))
 refine bodyPost_ret (v:=zAT (4,0)) (by simp [results,Tryz.results53,go_sem,zAT]) rfl ⟨rfl,?_⟩
 go_grown
theorem fb_step (al:Int) (a:Nat→ActI) (len j:Nat) (h:j<len):fbTo al a (len - j) j=if waAt al a j=0 then fbTo al a (len - (j+1)) (j+1) else (waAt al a j,(j:Int)):=by
 rw [show len - j=(len - (j+1))+1 by omega,fbTo]
theorem wrong_body (m al no:Int) (A:Option Addr) (len cap:Nat) (a:Nat→ActI) (w:World) (h:headB m al no=true) (hl:len≤8) (hA:ActsAt w A len a) :
  Calls Tryz.prog 53 #[zCL m al no A len cap] w fun e w'=>e=.returned (zAT (fbTo al a len 0))∧Below w.heap.size w w':=by
 have hW:=WB.start w m al no A len cap
 unfold headB at h
 unfold zCL
 simp only [Bool.and_eq_true,decide_eq_true_eq] at h
 obtain ⟨⟨⟨h0,h1⟩,h2⟩,h3⟩:=h
 have hl':¬ (8:Int)<(len:Int):=by omega
 have HW:=zB hW
 have HA:=zB hA
 clear hW hA
 go_enter Tryz.func53,Tryz.ntmps53
 go_wp2_with (first
  | (go_at_call 37;refine (zAR _ _).mono ?_;rintro e w1 ⟨rfl,hw⟩;obtain rfl:=hw.symm))
 go_loopw [3,41] (fun r i wr=>∃ j:Nat,j≤len∧i=.int .i64 j∧r=.int .i64 (rbTo al a j)∧fbTo al a len 0=fbTo al a (len - j) j∧WB w al wr) (fun _ i _=>len - (intOf i).toNat)
 case atStart=>exact ⟨0,Nat.zero_le _,rfl,rfl,rfl,zA HW⟩
 case round =>
  clear HW
  obtain ⟨j,hj,rfl,rfl,hF,hN⟩:=hrel
  have HF:=zB hF
  clear hF
  by_cases hlt:j<len
  ·have j0:(0:Int)≤(j:Int):=by omega
   have j1:(j:Int)<(len:Int):=by omega
   obtain ⟨b,off,rfl,q0,q1,q2,q3⟩:=zA HA j hlt
   have q0:=zC hN.bel q0
   have q1:=zC hN.bel q1
   have q2:=zC hN.bel q2
   have q3:=zC hN.bel q3
   have HN:=zB hN
   have HS:=zB (fb_step al a len j hlt)
   have HR:Hid (rbTo al a (j+1)=bits .and .i64 (afI (a j).k (a j).p (rbTo al a j)) al):=rfl
   have HE:Hid (waAt al a j=waI (a j).k (a j).p (a j).f (a j).n (rbTo al a j)):=rfl
   clear hN HA
   generalize waAt al a j=ej at *
   generalize rbTo al a j=rj at *
   generalize a j=y at *
   obtain ⟨k,p,f,n⟩:=y
   dsimp only at *
   have HC:=wrongAct_any k p f n rj
   rw [←zA HE] at HC
   have HC:=zB HC
   clear HE
   by_cases he:ej=0
   ·subst he
    go_wp2_with (first
     | (go_at_call 80;refine (zA HC _).mono ?_;rintro e w5 ⟨rfl,hb5⟩;have hN5:=(zA HN).below (Below.trans ((Below.refl _ _).alloc (Nat.le_refl _) _) (hb5.mono (by simp)));have d0:=zC hb5 (p:=⟨wr.heap.size,0,none⟩) (v:=.int .i64 k) (by simp);have d1:=zC hb5 (p:=⟨wr.heap.size,1,none⟩) (v:=.int .i64 p) (by simp);have d2:=zC hb5 (p:=⟨wr.heap.size,2,none⟩) (v:=.int .i64 f) (by simp);have d3:=zC hb5 (p:=⟨wr.heap.size,3,none⟩) (v:=.int .i64 n) (by simp);clear hb5))
    clear HC HN q0 q1 q2 q3
    generalize wr.heap.size=b9 at *
    have hne:Nonempty (Sub w5):=⟨⟨w5,Below.refl _ _⟩⟩
    have s1:=zK hN5.e1
    have d0:=zK d0
    have d1:=zK d1
    have d2:=zK d2
    have d3:=zK d3
    have HN:=zB hN5
    clear hN5
    refine zAI (by kernel_rfl) (by kernel_rfl) ?_
    repeat (go_big_quiet_step ((first
     | (go_at_call 81;exact zBI (after_any _ _ _ _ _ _)))))
    refine wpQuiet_nil ?_
    rintro w6 ⟨xs,hxs⟩
    have hb6:=xs.bel
    rw [←hxs] at hb6
    have hN6:=(zA HN).below hb6
    clear hxs xs hb6 s1 d0 d1 d2 d3 hne HN
    have HN:=zB hN6
    clear hN6
    go_wp2_with fail
    go_roundw
    case rel=>exact ⟨j+1,by omega,by go_num,by rw [zA HR],(zA HF).trans ((zA HS).trans (by simp)),zA HN⟩
    case measure=>simp [intOf];omega
   ·go_wp2_with (first
     | (go_at_call 80;refine (zA HC _).mono ?_;rintro e w5 ⟨rfl,hb5⟩;have hN5:=(zA HN).below (Below.trans ((Below.refl _ _).alloc (Nat.le_refl _) _) (hb5.mono (by simp)));clear hb5;have t0:=hN5.t0;have t1:=hN5.t1;have f0:=hN5.f 0;have f1:=hN5.f 1))
    have hv:fbTo al a len 0=(ej,(j:Int)):=by rw [zA HF,zA HS,if_neg he]
    refine bodyPost_ret (v:=zAT (ej,(j:Int))) (by simp [results,Tryz.results53,go_sem,zAT,t0,t1]) rfl ⟨by rw [hv],?_⟩
    exact zG (w.heap.size+1) (by omega) [.int .i64 ej,.int .i64 (j:Int)] 0 w5 hN5.bel
  ·obtain rfl:j=len:=by omega
   have hv:fbTo al a j 0=(0,0):=by rw [zA HF,Nat.sub_self];rfl
   have t0:=hN.t0
   have t1:=hN.t1
   have f0:=hN.f 0
   have f1:=hN.f 1
   have HB:=zB hN.bel
   clear hN HA
   go_wp2
   refine bodyPost_ret (v:=zAT (0,0)) (by simp [results,Tryz.results53,go_sem,zAT,t0,t1]) rfl ⟨by rw [hv],?_⟩
   exact zG (w.heap.size+1) (by omega) [.int .i64 0,.int .i64 0] 0 wr (zA HB)
theorem wrong_any (m al no:Int) (A:Option Addr) (len cap:Nat) (a:Nat→ActI) (w:World) (hA:ActsAt w A len a) :
  Calls Tryz.prog 53 #[zCL m al no A len cap] w fun e w'=>e=.returned (zAT (wrF m al no a len))∧Below w.heap.size w w':=by
 unfold wrF
 cases h:headB m al no
 ·exact wrong_head m al no A len cap w h
 ·by_cases hl:8<len
  ·simp only [Bool.true_eq_false,if_false,hl,if_true]
   exact wrong_many m al no A len cap w h hl
  ·simp only [Bool.true_eq_false,if_false,hl]
   exact wrong_body m al no A len cap a w h (by omega) hA
end Go.Proofs.YtnbleebilmghcacGreat
set_option maxHeartbeats 2000000
set_option maxRecDepth 8000
namespace Go.Proofs.YtnbleebilmghcacGreat
open Go.RowKit
attribute [local go_sem ↓] Go.wp_at_zero Go.wp_at_succ
def dsB (u r v:Int):Bool:=bits .and .i64 u (bits .or .i64 r v) != 0
def nV (r u:Int) (m l:Bool):Value:=.agg #[.int .i64 r,.int .i64 u,.bool m,.bool l]
theorem disturbs_any (r u r' u':Int) (m l m' l':Bool) (w:World) :
  Calls Tryz.prog 121 #[nV r u m l,nV r' u' m' l'] w fun e w'=>e=.returned (.bool (dsB u r' u'))∧Below w.heap.size w w':=by
 unfold nV
 go_enter Tryz.func121,Tryz.ntmps121
 go_wp2
 go_ret
 exact ⟨rfl,by go_grown⟩
theorem alloc34 (o:Oper) (ho:o.op=.alloc 174) (a:Act) (w:World) (K:Act→World→Prop) (Q:Exit→Act→World→Prop)
  (h:K (a.put o.dst (.pointer (some ⟨w.heap.size,0,none⟩))) (w.alloc (.cells #[.int .i64 0,.int .i64 0,.bool false,.bool false] 174))):o.wp Tryz.prog a w K Q:=by
 obtain ⟨dst,op,ty,pos,after,guard⟩:=o
 dsimp only at ho
 subst ho
 simp [go_sem]
 exact h
theorem info34:(Tryz.prog.info? 174).map (·.size)=some 4:=by kernel_rfl
structure TwoN (w:World) (g0 g1:Nat) (r u:Int) (m l:Bool) (r' u':Int) (m' l':Bool) (w1:World):Prop where
 bel:Below w.heap.size w w1
 c0:w1.cell? ⟨g0,0,none⟩=some (.int .i64 r)
 c1:w1.cell? ⟨g0,1,none⟩=some (.int .i64 u)
 c2:w1.cell? ⟨g0,2,none⟩=some (.bool m)
 c3:w1.cell? ⟨g0,3,none⟩=some (.bool l)
 d0:w1.cell? ⟨g1,0,none⟩=some (.int .i64 r')
 d1:w1.cell? ⟨g1,1,none⟩=some (.int .i64 u')
 d2:w1.cell? ⟨g1,2,none⟩=some (.bool m')
 d3:w1.cell? ⟨g1,3,none⟩=some (.bool l')
theorem TwoN.below {w:World} {g0 g1:Nat} {r u:Int} {m l:Bool} {r' u':Int} {m' l':Bool} {w1 w2:World} (h:TwoN w g0 g1 r u m l r' u' m' l' w1) (hb:Below w1.heap.size w1 w2):TwoN w g0 g1 r u m l r' u' m' l' w2 :=
 ⟨h.bel.trans (hb.mono h.bel.size),zC hb h.c0,zC hb h.c1,zC hb h.c2,zC hb h.c3,zC hb h.d0,zC hb h.d1,zC hb h.d2,zC hb h.d3⟩
def twoCs (r u:Int) (m l:Bool) (r' u':Int) (m' l':Bool) (k:Nat):List Value:=if k=0 then [.int .i64 r,.int .i64 u,.bool m,.bool l] else [.int .i64 r',.int .i64 u',.bool m',.bool l']
theorem wp_two_needs {id:Nat} {Q:Exit→Act→World→Prop} {a:Act} {w:World} (o0 o1 o2 o3 o4 o5 o6 o7:Oper) (y0 y1 s0 s1:Tmp) (hy:y0≠s0∧y0≠s1∧y1≠s0∧y1≠s1)
  (h4:o4.op=.alloc 174∧o4.dst=some s0) (h5:o5.op=.alloc 174∧o5.dst=some s1)
  (h6:o6.op=.store 174 (.tmp s0) (.tmp y0)∧o6.dst=none) (h7:o7.op=.store 174 (.tmp s1) (.tmp y1)∧o7.dst=none)
  (hb:backB #[o0,o1,o2,o3,o4,o5,o6,o7]=true) (hssa:ssaB [o0,o1,o2,o3,o4,o5,o6,o7]=true) (hdst:dstB [o0,o1,o2,o3,o4,o5,o6,o7]=true)
  (hgd:[o0,o1,o2,o3,o4,o5,o6,o7].all (fun o=>o.guard.isNone)=true) (hsel:Region.noSelect #[o0,o1,o2,o3,o4,o5,o6,o7]=true) (hs0:s0<a.tmps.size) (hs1:s1<a.tmps.size)
  (r u:Int) (m l:Bool) (r' u':Int) (m' l':Bool) (x0 x1:Tmp) (v0 v1:Value) (af:Act) (haf:af=(((a.put (some x0) v0).put (some y0) (nV r u m l)).put (some x1) v1).put (some y1) (nV r' u' m' l'))
  (hx:x1≠y0∧y1≠y0) (hy0:y0<a.tmps.size) (hy1:y1<a.tmps.size)
  (hq:∀ w1,Below w.heap.size w w1→wpQuiet Tryz.prog #[o0,o1,o2,o3,o4,o5,o6,o7] (fun w'=>∃ x:Sub w1,w'=x.val) (fun a'=>a'=af) [o0,o1,o2,o3] a)
  (hend:∀ g0 g1 w1,TwoN w g0 g1 r u m l r' u' m' l' w1→Q .normal ((af.put (some s0) (.pointer (some ⟨g0,0,none⟩))).put (some s1) (.pointer (some ⟨g1,0,none⟩))) w1) :
  (Code.region id #[o0,o1,o2,o3,o4,o5,o6,o7] true).wp Tryz.prog Q a w:=by
 have e0:af.eval (.tmp y0)=nV r u m l:=by
  show af.tmps.getD y0 undef=_
  rw [haf,zAe,if_neg (fun e=>hx.2 e.1),zAe,if_neg (fun e=>hx.1 e.1),zAe,if_pos ⟨rfl,by rw [zAd];exact hy0⟩]
 have e1:af.eval (.tmp y1)=nV r' u' m' l':=by
  show af.tmps.getD y1 undef=_
  rw [haf,zAe,if_pos ⟨rfl,by rw [zAd,zAd,zAd];exact hy1⟩]
 refine wp_region_vars (ops:=[o0,o1,o2,o3,o4,o5,o6,o7]) 4 2 (s:=fun k=>if k=0 then s0 else s1) (T:=fun _=>174) (y:=fun k=>if k=0 then .tmp y0 else .tmp y1)
  (z:=fun _=>#[.int .i64 0,.int .i64 0,.bool false,.bool false]) (sz:=fun _=>4) (twoCs r u m l r' u' m' l') ?_ (by kernel_rfl) hb hssa hdst hgd hsel ?_ ?_ af hq ?_ ?_
 ·refine ⟨rfl,fun k hk=>?_,fun k hk=>?_,fun k _ o ho=>alloc34 o ho,fun _ _=>rfl,fun _ _=>info34⟩
  ·rcases (by omega:k=0∨k=1) with rfl | rfl
   ·exact ⟨o4,rfl,h4.1,h4.2⟩
   ·exact ⟨o5,rfl,h5.1,h5.2⟩
  ·rcases (by omega:k=0∨k=1) with rfl | rfl
   ·exact ⟨o6,rfl,h6.1,h6.2⟩
   ·exact ⟨o7,rfl,h7.1,h7.2⟩
 ·intro k hk k' hk'
  rcases (by omega:k=0∨k=1) with rfl | rfl <;> rcases (by omega:k'=0∨k'=1) with rfl | rfl <;> simp <;> first | exact hy.1 | exact hy.2.1 | exact hy.2.2.1 | exact hy.2.2.2
 ·intro k hk
  rcases (by omega:k=0∨k=1) with rfl | rfl
  ·exact hs0
  ·exact hs1
 ·intro k hk
  rcases (by omega:k=0∨k=1) with rfl | rfl
  ·exact ⟨e0,rfl,by simp [twoCs,Value.oneCell']⟩
  ·exact ⟨e1,rfl,by simp [twoCs,Value.oneCell']⟩
 ·intro v g w1 hv
  have p0:=(hv.own 0 (by omega) rfl).1
  have p1:=(hv.own 1 (by omega) rfl).1
  have R0:=(hv.has 0 (by omega) rfl).2
  have R1:=(hv.has 1 (by omega) rfl).2
  have:=hend (g 0) (g 1) w1 ⟨hv.bel,by simpa using R0 0 _ rfl,by simpa using R0 1 _ rfl,by simpa using R0 2 _ rfl,by simpa using R0 3 _ rfl,by simpa using R1 0 _ rfl,by simpa using R1 1 _ rfl,by simpa using R1 2 _ rfl,by simpa using R1 3 _ rfl⟩
  simpa [zBe,p0,p1] using this
def clN (r u:Int) (m l:Bool) (r' u':Int) (m' l':Bool):Bool:=m || (m' || (l || (l' || (dsB u r' u' || dsB u' r u))))
def clB (al:Int) (a:Nat→ActI) (len:Nat) (al':Int) (a':Nat→ActI) (len':Nat):Bool :=
 clN (rdTo a len) (wrTo a len) (mvTo al a len) (lfTo a len) (rdTo a' len') (wrTo a' len') (mvTo al' a' len') (lfTo a' len')
theorem clash_any (m al no:Int) (A:Option Addr) (len cap:Nat) (a:Nat→ActI) (m' al' no':Int) (A':Option Addr) (len' cap':Nat) (a':Nat→ActI) (w:World) (hl:len≤8) (hl':len'≤8) (hA:ActsAt w A len a) (hA':ActsAt w A' len' a') :
  Calls Tryz.prog 100 #[zCL m al no A len cap,zCL m' al' no' A' len' cap'] w fun e w'=>e=.returned (.bool (clB al a len al' a' len'))∧Below w.heap.size w w':=by
 have hnA:∀ W1,Below w.heap.size w W1→Calls Tryz.prog 120 #[zCL m al no A len cap] W1 fun e w'=>e=.returned (needsV al a len)∧Below W1.heap.size W1 w':=fun W1 h=>needs_any m al no A len cap a W1 hl (hA.below h)
 have hnB:∀ W1,Below w.heap.size w W1→Calls Tryz.prog 120 #[zCL m' al' no' A' len' cap'] W1 fun e w'=>e=.returned (needsV al' a' len')∧Below W1.heap.size W1 w':=fun W1 h=>needs_any m' al' no' A' len' cap' a' W1 hl' (hA'.below h)
 unfold clB
 unfold needsV zCL at *
 generalize rdTo a len=r at *
 generalize wrTo a len=u at *
 generalize mvTo al a len=mv at *
 generalize lfTo a len=lf at *
 generalize rdTo a' len'=r' at *
 generalize wrTo a' len'=u' at *
 generalize mvTo al' a' len'=mv' at *
 generalize lfTo a' len'=lf' at *
 have HA:=zB hnA
 have HB:=zB hnB
 clear hnA hnB hA hA'
 go_enter Tryz.func100,Tryz.ntmps100
 go_wp2
 obtain ⟨W,hW⟩:∃ W,W=(w.alloc (.cells #[.int .i64 m,.int .i64 al,.int .i64 no,.slice A len cap] 44)).alloc (.cells #[.int .i64 m',.int .i64 al',.int .i64 no',.slice A' len' cap'] 44):=⟨_,rfl⟩
 have hB:Below w.heap.size w W:=by rw [hW];go_grown
 have p0:W.cell? ⟨w.heap.size,0,none⟩=some (.int .i64 m):=by rw [hW];simp [go_sem]
 have p1:W.cell? ⟨w.heap.size,1,none⟩=some (.int .i64 al):=by rw [hW];simp [go_sem]
 have p2:W.cell? ⟨w.heap.size,2,none⟩=some (.int .i64 no):=by rw [hW];simp [go_sem]
 have p3:W.cell? ⟨w.heap.size,3,none⟩=some (.slice A len cap):=by rw [hW];simp [go_sem]
 have q0:W.cell? ⟨w.heap.size+1,0,none⟩=some (.int .i64 m'):=by rw [hW];simp [go_sem]
 have q1:W.cell? ⟨w.heap.size+1,1,none⟩=some (.int .i64 al'):=by rw [hW];simp [go_sem]
 have q2:W.cell? ⟨w.heap.size+1,2,none⟩=some (.int .i64 no'):=by rw [hW];simp [go_sem]
 have q3:W.cell? ⟨w.heap.size+1,3,none⟩=some (.slice A' len' cap'):=by rw [hW];simp [go_sem]
 rw [←hW]
 clear hW
 rename_i K1 hK1
 have HK:=zB hK1
 clear hK1
 refine wp_two_needs _ _ _ _ _ _ _ _ 8 10 5 6 (by decide) ⟨rfl,rfl⟩ ⟨rfl,rfl⟩ ⟨rfl,rfl⟩ ⟨rfl,rfl⟩ (by kernel_rfl) (by kernel_rfl) (by kernel_rfl) (by kernel_rfl) (by kernel_rfl) (by simp) (by simp) r u mv lf r' u' mv' lf' 7 9
  (.agg #[.int .i64 m,.int .i64 al,.int .i64 no,.slice A len cap]) (.agg #[.int .i64 m',.int .i64 al',.int .i64 no',.slice A' len' cap']) _ rfl (by decide) (by simp) (by simp) ?q ?fin
 case q =>
  intro w1 hw1
  have hne:Nonempty (Sub w1):=⟨⟨w1,Below.refl _ _⟩⟩
  have p0:=zK (zC hw1 p0)
  have p1:=zK (zC hw1 p1)
  have p2:=zK (zC hw1 p2)
  have p3:=zK (zC hw1 p3)
  have q0:=zK (zC hw1 q0)
  have q1:=zK (zC hw1 q1)
  have q2:=zK (zC hw1 q2)
  have q3:=zK (zC hw1 q3)
  have HW1:=zB (hB.trans (hw1.mono hB.size))
  clear hw1
  have HCA:=zB (fun x:Sub w1=>zA HA x.val ((zA HW1).trans (x.bel.mono (zA HW1).size)))
  have HCB:=zB (fun x:Sub w1=>zA HB x.val ((zA HW1).trans (x.bel.mono (zA HW1).size)))
  go_big_quiet_step (fail)
  go_big_quiet_step ((go_at_call 120;exact zBI (zA HCA _)))
  go_big_quiet_step (fail)
  go_big_quiet_step ((go_at_call 120;exact zBI (zA HCB _)))
  exact wpQuiet_nil (by simp [Act.put,nV])
 case fin =>
  intro g0 g1 w1 hN
  have hB1:Below w.heap.size w w1:=hB.trans (hN.bel.mono hB.size)
  clear p0 p1 p2 p3 q0 q1 q2 q3 HA HB hB
  simp [Act.put,nV]
  have hK:=zA HK
  clear HK
  have HN:=zB hN
  have c0:=hN.c0
  have c1:=hN.c1
  have c2:=hN.c2
  have c3:=hN.c3
  have d0:=hN.d0
  have d1:=hN.d1
  have d2:=hN.d2
  have d3:=hN.d3
  clear hN
  have HD:=zB (disturbs_any r u r' u' mv lf mv' lf')
  have HD2:=zB (disturbs_any r' u' r u mv' lf' mv lf)
  have HB1:=zB hB1
  clear hB1
  cases mv
  case' false=>cases mv'
  case' false.false=>cases lf
  case' false.false.false=>cases lf'
  case' false.false.false.false=>cases hd:dsB u r' u'
  all_goals
   go_wp2_with (first
    | (go_at_call 121;refine (zA HD _).mono ?_;rintro e w2 ⟨rfl,hb2⟩;clear HD;have hN2:=(zA HN).below hb2;clear c0 c1 c2 c3 d0 d1 d2 d3;have c0:=hN2.c0;have c1:=hN2.c1;have c2:=hN2.c2;have c3:=hN2.c3;have d0:=hN2.d0;have d1:=hN2.d1;have d2:=hN2.d2;have d3:=hN2.d3;have HB2:=zB ((zA HB1).trans (hb2.mono (zA HB1).size));clear hN2 hb2 HB1)
    | (go_at_call 121;refine (zA HD2 _).mono ?_;rintro e w3 ⟨rfl,hb3⟩;have HB3:=zB ((zA HB2).trans (hb3.mono (zA HB2).size));clear hb3 HB2))
   go_ret
   first
   | exact ⟨by simp [clN],zA HB1⟩
   | exact ⟨by simp [clN,hd],zA HB2⟩
   | exact ⟨by simp [clN,hd],zA HB3⟩
end Go.Proofs.YtnbleebilmghcacGreat
set_option maxHeartbeats 1000000
set_option maxRecDepth 8000
namespace Go.Proofs.YtnbleebilmghcacGreat
open Go.RowKit
attribute [local go_sem ↓] Go.wp_at_zero Go.wp_at_succ
def modV (r u:Int) (l:Bool):Value:=.agg #[.int .i64 r,.int .i64 u,.bool l]
def mayN (mr mu:Int) (ml:Bool) (al no r u:Int) (l:Bool):Bool:=inB (bits .or .i64 (bits .or .i64 r al) no) mr && (inB u mu && (ml || !l))
def mayB (mr mu:Int) (ml:Bool) (al no:Int) (a:Nat→ActI) (len:Nat):Bool:=mayN mr mu ml al no (rdTo a len) (wrTo a len) (lfTo a len)
theorem le_two (w:World) (o1 o2:Obj):w.heap.size≤((w.alloc o1).alloc o2).heap.size:=by
 have h1:(w.alloc o1).heap.size=w.heap.size+1:=by simp
 have h2:((w.alloc o1).alloc o2).heap.size=(w.alloc o1).heap.size+1:=by simp
 omega
theorem may_after {w w1:World} {mr mu m al no:Int} {ml:Bool} {A:Option Addr} {len cap:Nat}
  (hb:Below ((w.alloc (.cells #[.int .i64 mr,.int .i64 mu,.bool ml] 48)).alloc (.cells #[.int .i64 m,.int .i64 al,.int .i64 no,.slice A len cap] 44)).heap.size
   ((w.alloc (.cells #[.int .i64 mr,.int .i64 mu,.bool ml] 48)).alloc (.cells #[.int .i64 m,.int .i64 al,.int .i64 no,.slice A len cap] 44)) w1) :
  w1.cell? ⟨w.heap.size,0,none⟩=some (.int .i64 mr)∧w1.cell? ⟨w.heap.size,1,none⟩=some (.int .i64 mu)∧w1.cell? ⟨w.heap.size,2,none⟩=some (.bool ml) ∧
  w1.cell? ⟨w.heap.size+1,1,none⟩=some (.int .i64 al)∧w1.cell? ⟨w.heap.size+1,2,none⟩=some (.int .i64 no)∧w.heap.size+1<w1.heap.size∧w.heap.size<w1.heap.size∧Below w.heap.size w w1:=by
 have q1:=zC hb (p:=⟨w.heap.size+1,1,none⟩) (v:=.int .i64 al) (by simp [go_sem])
 have hz1:=World.block_lt_of_cell? w1 _ q1
 dsimp only at hz1
 exact ⟨zC hb (by simp [go_sem]),zC hb (by simp [go_sem]),zC hb (by simp [go_sem]),q1,zC hb (by simp [go_sem]),hz1,by omega,Below.trans (by go_grown) (hb.mono (le_two _ _ _))⟩
theorem may_any (mr mu:Int) (ml:Bool) (m al no:Int) (A:Option Addr) (len cap:Nat) (a:Nat→ActI) (w:World) (hl:len≤8) (hA:ActsAt w A len a) :
  Calls Tryz.prog 97 #[modV mr mu ml,zCL m al no A len cap] w fun e w'=>e=.returned (.bool (mayB mr mu ml al no a len))∧Below w.heap.size w w':=by
 have hnA:∀ W1,Below w.heap.size w W1→Calls Tryz.prog 120 #[zCL m al no A len cap] W1 fun e w'=>e=.returned (needsV al a len)∧Below W1.heap.size W1 w':=fun W1 h=>needs_any m al no A len cap a W1 hl (hA.below h)
 unfold mayB modV
 unfold needsV zCL at *
 generalize rdTo a len=r at *
 generalize wrTo a len=u at *
 generalize mvTo al a len=mv at *
 generalize lfTo a len=lf at *
 have HA:=zB hnA
 clear hnA hA
 cases h1:inB (bits .or .i64 (bits .or .i64 r al) no) mr
 case' true=>cases h2:inB u mu
 case' true.true=>cases ml
 all_goals
  go_enter Tryz.func97,Tryz.ntmps97
  go_wp2_with (first
   | (go_at_call 120;refine (zA HA _ (by go_grown)).mono ?_;rintro e w1 ⟨rfl,hb1⟩;obtain ⟨p0,p1,p2,q1,q2,hz1,hz0,hB1⟩:=may_after hb1;have HB1:=zB hB1;clear hb1 hB1)
   | (go_at_call 108;refine (within_any _ _ _).mono ?_;rintro e w2 ⟨rfl,hw⟩;obtain rfl:=hw.symm))
  go_ret
  exact ⟨by first | (simp [mayN,h1];done) | (simp [mayN,h1,h2];done),(zA HB1).alloc (zA HB1).size _⟩
def actA:Nat→ActI:=fun _=>⟨3,0,1,0⟩
end Go.Proofs.YtnbleebilmghcacGreat
namespace Go.Proofs.YtnbleebilmghcacGreat
open Go.RowKit
theorem wrapz (r:BitVec 64):IntKind.i64.wrap (r.toNat:Int)=0↔r=0#64:=by
 rw [IntKind.wrap_i64]
 have:=r.isLt
 constructor
 ·intro h
  apply BitVec.eq_of_toNat_eq
  simp
  omega
 ·rintro rfl;simp
theorem ofwrap (r:BitVec 64):BitVec.ofInt 64 (IntKind.i64.wrap (r.toNat:Int))=r:=by
 rw [IntKind.wrap_i64]
 have:=r.isLt
 apply BitVec.eq_of_toNat_eq
 rw [BitVec.toNat_ofInt]
 simp
 omega
theorem andNotz (x y:Int):bits .andNot .i64 x y=0↔BitVec.ofInt 64 x &&& ~~~BitVec.ofInt 64 y=0#64:=wrapz _
theorem of_or (x y:Int):BitVec.ofInt 64 (bits .or .i64 x y)=BitVec.ofInt 64 x ||| BitVec.ofInt 64 y:=ofwrap _
theorem small (n:Nat) (h:n<256):IntKind.i64.wrap (n:Int)=(n:Int):=by rw [IntKind.wrap_i64];omega
def okN (al:Int) (a:Nat→ActI) (n:Nat):Prop:=∀ j,j<n→waAt al a j=0
theorem fb_zero (al:Int) (a:Nat→ActI):∀ n j,(fbTo al a n j).1=0↔∀ i,i<n→waAt al a (j+i)=0
 | 0,j=>by simp [fbTo]
 | n+1,j=>by
  unfold fbTo
  by_cases h:waAt al a j=0
  ·rw [if_pos h,fb_zero al a n (j+1)]
   constructor
   ·intro hh i hi
    cases i with
    | zero=>exact h
    | succ i=>have:=hh i (by omega);rwa [show j+1+i=j+(i+1) by omega] at this
   ·intro hh i hi
    have:=hh (i+1) (by omega)
    rwa [show j+(i+1)=j+1+i by omega] at this
  ·rw [if_neg h]
   constructor
   ·intro hh;exact absurd hh h
   ·intro hh;exact absurd (hh 0 (by omega)) h
theorem zBT (m al no:Int) (a:Nat→ActI) (len:Nat):(wrF m al no a len).1=0↔headB m al no=true∧len≤8∧okN al a len:=by
 unfold wrF
 cases h:headB m al no
 ·simp
 ·by_cases hl:8<len
  ·simp [hl];intro h8;omega
  ·simp only [Bool.true_eq_false,if_false,hl,fb_zero,Nat.zero_add,true_and]
   exact ⟨fun hh=>⟨by omega,hh⟩,fun hh=>hh.2⟩
theorem wa_range (k p f n r:Int) (h:waI k p f n r=0):rgB k p f n=true∧1≤k∧k≤7:=by
 unfold waI at h
 split at h
 ·simp at h
 ·split at h
  ·simp at h
  ·rename_i h1 h2
   exact ⟨by simpa using h2,by omega,by omega⟩
theorem clN_comm (r u:Int) (m l:Bool) (r' u':Int) (m' l':Bool):clN r u m l r' u' m' l'=clN r' u' m' l' r u m l:=by
 unfold clN
 cases m <;> cases m' <;> cases l <;> cases l' <;> simp [Bool.or_comm]
theorem clB_comm (al:Int) (a:Nat→ActI) (len:Nat) (al':Int) (a':Nat→ActI) (len':Nat):clB al a len al' a' len'=clB al' a' len' al a len:=clN_comm _ _ _ _ _ _ _ _
end Go.Proofs.YtnbleebilmghcacGreat
