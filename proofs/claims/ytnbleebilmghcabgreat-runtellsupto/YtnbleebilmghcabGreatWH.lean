/- Acts, Needs, Wrong, Clash, May, Right -/
import Derived.Deep.RegionHeld3
import Derived.Deep.DrawnRows
import Derived.Deep.QuietTactic
import Derived.BigQuiet
import Derived.Deep.DeepCutAuto
import Derived.Test.YtnbleebilmghcabGreatWA
import Derived.Test.YtnbleebilmghcabGreatWB
set_option linter.all false
set_option maxHeartbeats 400000
namespace Go.Proofs.YtnbleebilmghcabGreat
open Go.RowKit
attribute [local go_sem ↓] Go.wp_at_zero Go.wp_at_succ
def zBl (k p f n:Int):Value:=.agg #[.int .i64 k,.int .i64 p,.int .i64 f,.int .i64 n]
def rdI (k p f:Int):Int:=if k=2 then bits .or .i64 0 (zAr f) else if k=3 then bits .or .i64 (bits .or .i64 0 (zAr f)) (zAr p) else if k=4 then bits .or .i64 0 (zAr p) else 0
def mvB (k p all:Int):Bool:=if k=1∨k=2 then !(bits .and .i64 all (zAr p) != 0) else decide (k=5)
def afI (k p r:Int):Int:=if k=1∨k=2 then bits .or .i64 r (zAr p) else if k=5 then bits .andNot .i64 r (zAr p) else r
def rgB (k p f n:Int):Bool:=if k=1∨k=4 then zAE p && zBY n else if k=2∨k=3 then zAE p && zAE f else if k=5 then zAE p else if k=7 then zAR p && zBY n else true
def inB (x y:Int):Bool:=bits .andNot .i64 x y == 0
def waI (k p f n r:Int):Int:=if k<1∨7<k then 1 else if rgB k p f n=false then 3 else if inB (rdI k p f) r=false then 7 else 0
theorem zLl {B:Nat} {a w:World} (h:Below B a w) (n:Nat):Below B a (w.drewN n):=⟨h.os,h.tape,h.output,h.size,h.block⟩
theorem zIs (x y:Int) (w:World) :
  Calls Tryz.prog 50 #[.int .i64 x,.int .i64 y] w fun e w'=>e=.returned (.bool (inB x y))∧w'=w:=by
 go_enter Tryz.func50,Tryz.ntmps50
 go_wp2
 go_ret
 exact ⟨rfl,rfl⟩
theorem zKa (k p f n:Int) (w:World) :
  Calls Tryz.prog 85 #[zBl k p f n] w fun e w'=>e=.returned (.int .i64 (rdI k p f))∧Below w.heap.size w w':=by
 by_cases h3:k=3
 ·subst h3
  unfold zBl
  go_enter Tryz.func85,Tryz.ntmps85
  go_wp2
  go_quiet ((first | (go_at_call 86;refine (zDi _ _ _).mono ?_;rintro e w' ⟨rfl,hw⟩;exact ⟨rfl,_,hw⟩)))
  go_wp2
  go_ret
  exact ⟨rfl,zLl (by go_grown) _⟩
 ·by_cases h2:k=2
  ·subst h2
   unfold zBl
   go_enter Tryz.func85,Tryz.ntmps85
   go_wp2_with (go_at_call 86;refine (zDi _ _ _).mono ?_;rintro e w' ⟨rfl,rfl⟩)
   go_ret
   exact ⟨rfl,by go_grown⟩
  ·by_cases h4:k=4
   ·subst h4
    unfold zBl
    go_enter Tryz.func85,Tryz.ntmps85
    go_wp2_with (go_at_call 86;refine (zDi _ _ _).mono ?_;rintro e w' ⟨rfl,rfl⟩)
    go_ret
    exact ⟨rfl,by go_grown⟩
   ·have e:rdI k p f=0:=by simp [rdI,h2,h3,h4]
    rw [e]
    unfold zBl
    go_enter Tryz.func85,Tryz.ntmps85
    go_wp2
    go_ret
    exact ⟨rfl,by go_grown⟩
theorem zOj (k p f n all:Int) (w:World) :
  Calls Tryz.prog 89 #[zBl k p f n,.int .i64 all] w fun e w'=>e=.returned (.bool (mvB k p all))∧Below w.heap.size w w':=by
 unfold zBl
 by_cases h:k=1∨k=2∨k=5
 ·rcases h with rfl | rfl | rfl
  all_goals
   go_enter Tryz.func89,Tryz.ntmps89
   go_wp2_with (go_at_call 126;refine (zFF _ _ _).mono ?_;rintro e w' ⟨rfl,rfl⟩)
   go_ret
   exact ⟨by simp [mvB],by go_grown⟩
 ·have h1:¬ k=1:=by omega
  have h2:¬ k=2:=by omega
  have h5:¬ k=5:=by omega
  have e:mvB k p all=false:=by simp [mvB,h1,h2,h5]
  rw [e]
  clear h e
  go_enter Tryz.func89,Tryz.ntmps89
  go_wp2
  go_ret
  exact ⟨rfl,by go_grown⟩
theorem zLp (k p f n r:Int) (w:World) :
  Calls Tryz.prog 48 #[zBl k p f n,.int .i64 r] w fun e w'=>e=.returned (.int .i64 (afI k p r))∧Below w.heap.size w w':=by
 unfold zBl
 by_cases h:k=1∨k=2∨k=5
 ·rcases h with rfl | rfl | rfl
  all_goals
   go_enter Tryz.func48,Tryz.ntmps48
   go_wp2_with (first
    | (go_at_call 86;refine (zDi _ _ _).mono ?_;rintro e w' ⟨rfl,rfl⟩)
    | (go_at_call 87;refine (zEf _ _ _).mono ?_;rintro e w' ⟨rfl,rfl⟩))
   go_ret
   exact ⟨by simp [afI],by go_grown⟩
 ·have h1:¬ k=1:=by omega
  have h2:¬ k=2:=by omega
  have h5:¬ k=5:=by omega
  have e:afI k p r=r:=by simp [afI,h1,h2,h5]
  rw [e]
  clear h e
  go_enter Tryz.func48,Tryz.ntmps48
  go_wp2
  go_ret
  exact ⟨rfl,by go_grown⟩
theorem zKf (k p f n:Int) (w:World) :
  Calls Tryz.prog 84 #[zBl k p f n] w fun e w'=>e=.returned (.bool (rgB k p f n))∧Below w.heap.size w w':=by
 unfold zBl
 by_cases h:k=1∨k=2∨k=3∨k=4∨k=5∨k=7
 ·rcases h with rfl | rfl | rfl | rfl | rfl | rfl
  all_goals
   cases hp:zAE p
   all_goals
    cases hs:zAR p
    all_goals
     go_enter Tryz.func84,Tryz.ntmps84
     go_wp2_with (first
      | (go_at_call 118;refine (zDp _ _).mono ?_;rintro e w' ⟨rfl,rfl⟩)
      | (go_at_call 44;refine (zBZ _ _).mono ?_;rintro e w' ⟨rfl,rfl⟩)
      | (go_at_call 124;refine (zAo _ _).mono ?_;rintro e w' ⟨rfl,rfl⟩))
     go_ret
     exact ⟨by simp [rgB,hp,hs],by go_grown⟩
 ·have h1:¬ k=1:=by omega
  have h2:¬ k=2:=by omega
  have h3:¬ k=3:=by omega
  have h4:¬ k=4:=by omega
  have h5:¬ k=5:=by omega
  have h7:¬ k=7:=by omega
  have e:rgB k p f n=true:=by simp [rgB,h1,h2,h3,h4,h5,h7]
  rw [e]
  clear h e
  go_enter Tryz.func84,Tryz.ntmps84
  go_wp2
  go_ret
  exact ⟨rfl,by go_grown⟩
theorem zGb (k p f n r:Int) (w:World) :
  Calls Tryz.prog 47 #[zBl k p f n,.int .i64 r] w fun e w'=>e=.returned (.int .i64 (waI k p f n r))∧Below w.heap.size w w':=by
 by_cases hlo:k<1
 ·have e:waI k p f n r=1:=by simp [waI,hlo]
  rw [e]
  clear e
  unfold zBl
  go_enter Tryz.func47,Tryz.ntmps47
  go_wp2
  go_ret
  exact ⟨rfl,by go_grown⟩
 ·by_cases hhi:7<k
  ·have e:waI k p f n r=1:=by simp [waI,hhi]
   rw [e]
   clear e
   unfold zBl
   go_enter Tryz.func47,Tryz.ntmps47
   go_wp2
   go_ret
   exact ⟨rfl,by go_grown⟩
  ·have e:waI k p f n r=if rgB k p f n=false then 3 else if inB (rdI k p f) r=false then 7 else 0:=by
    unfold waI;rw [if_neg (by omega)]
   rw [e]
   clear e
   have HR:=zKf k p f n
   have HD:=zKa k p f n
   unfold zBl at HR HD ⊢
   cases hr:rgB k p f n
   ·rw [hr] at HR
    have HR:=zB HR
    go_enter Tryz.func47,Tryz.ntmps47
    go_wp2_with (first
     | (go_at_call 84;refine (zA HR _).mono ?_;rintro e w1 ⟨rfl,hb⟩))
    go_ret
    exact ⟨rfl,Below.trans (by go_grown) (hb.mono (by simp))⟩
   ·rw [hr] at HR
    have HR:=zB HR
    have HD:=zB HD
    generalize rdI k p f=d at *
    cases hi:inB d r
    all_goals
     go_enter Tryz.func47,Tryz.ntmps47
     go_wp2_with (first
      | (go_at_call 84;refine (zA HR _).mono ?_;rintro e w1 ⟨rfl,hb⟩;have c0:=zC hb (p:=⟨w.heap.size,0,none⟩) (v:=.int .i64 k) (by simp);have c1:=zC hb (p:=⟨w.heap.size,1,none⟩) (v:=.int .i64 p) (by simp);have c2:=zC hb (p:=⟨w.heap.size,2,none⟩) (v:=.int .i64 f) (by simp);have c3:=zC hb (p:=⟨w.heap.size,3,none⟩) (v:=.int .i64 n) (by simp))
      | (go_at_call 85;refine (zA HD _).mono ?_;rintro e w2 ⟨rfl,hb2⟩)
      | (go_at_call 50;refine (zIs _ _ _).mono ?_;rintro e w3 ⟨rfl,hw⟩;obtain rfl:=hw.symm))
     go_ret
     have B1:Below w.heap.size w w1:=Below.trans (by go_grown) (hb.mono (by simp))
     exact ⟨rfl,B1.trans (hb2.mono B1.size)⟩
end Go.Proofs.YtnbleebilmghcabGreat
namespace Go.Proofs.YtnbleebilmghcabGreat
open Go.RowKit
attribute [local go_sem ↓] Go.wp_at_zero Go.wp_at_succ
structure ActI where
 k:Int
 p:Int
 f:Int
 n:Int
def zDV (m al no:Int) (A:Option Addr) (len cap:Nat):Value:=.agg #[.int .i64 m,.int .i64 al,.int .i64 no,.slice A len cap]
def ActsAt (w:World) (A:Option Addr) (len:Nat) (a:Nat→ActI):Prop:=∀ j,j<len→∃ b off,A=some ⟨b,off,none⟩ ∧
 w.cell? ⟨b,off+j*4,none⟩=some (.int .i64 (a j).k)∧w.cell? ⟨b,off+j*4+1,none⟩=some (.int .i64 (a j).p) ∧
 w.cell? ⟨b,off+j*4+2,none⟩=some (.int .i64 (a j).f)∧w.cell? ⟨b,off+j*4+3,none⟩=some (.int .i64 (a j).n)
theorem ActsAt.below {w w1:World} {A:Option Addr} {len:Nat} {a:Nat→ActI} (h:ActsAt w A len a) (hb:Below w.heap.size w w1):ActsAt w1 A len a:=fun j hj=>by
 obtain ⟨b,off,h0,h1,h2,h3,h4⟩:=h j hj
 exact ⟨b,off,h0,zC hb h1,zC hb h2,zC hb h3,zC hb h4⟩
theorem zLe {w:World} {a:Addr} {v u:Value} (h:w.cell? a=some u):(w.setCell a v).cell? a=some v:=by
 first
 | exact World.cell?_setCell_same _ _ _ h
 | exact World.cell?_setCell_same h
theorem zCQ {w:World} {a b:Addr} {v u:Value} (hn:a≠b) (h:w.cell? b=some u):(w.setCell a v).cell? b=some u:=by
 rw [World.cell?_setCell_other]
 ·exact h
 ·exact hn
section
variable {w:World} {b5:Nat} {x:ActI} {all r u:Int} {m l:Bool} {wr w1:World}
end
end Go.Proofs.YtnbleebilmghcabGreat
set_option maxHeartbeats 2000000
set_option maxRecDepth 8000
namespace Go.Proofs.YtnbleebilmghcabGreat
open Go.RowKit
attribute [local go_sem ↓] Go.wp_at_zero Go.wp_at_succ
def zJw (al:Int) (a:Nat→ActI):Nat→Int
 | 0=>al
 | j+1=>bits .and .i64 (afI (a j).k (a j).p (zJw al a j)) al
def zJx (al:Int) (a:Nat→ActI) (j:Nat):Int:=waI (a j).k (a j).p (a j).f (a j).n (zJw al a j)
def zGU (al:Int) (a:Nat→ActI):Nat→Nat→Int×Int
 | 0,_=>(0,0)
 | n+1,j=>if zJx al a j=0 then zGU al a n (j+1) else (zJx al a j,(j:Int))
def zCa (m al no:Int):Bool:=decide (0≤m∧m<6) && zAR al && zAR no
def wrF (m al no:Int) (a:Nat→ActI) (len:Nat):Int×Int:=if zCa m al no=false then (3,0) else if 8<len then (4,0) else zGU al a len 0
def zAX (x:Int×Int):Value:=.agg #[.int .i64 x.1,.int .i64 x.2]
structure WBq (w:World) (al:Int) (wr:World):Prop where
 bel:Below w.heap.size w wr
 e1:wr.cell? ⟨w.heap.size,1,none⟩=some (.int .i64 al)
 t0:wr.cell? ⟨w.heap.size+1,0,none⟩=some (.int .i64 0)
 t1:wr.cell? ⟨w.heap.size+1,1,none⟩=some (.int .i64 0)
 f:∀ i,wr.frozen? ⟨w.heap.size+1,i,none⟩=false
theorem WBq.below {w wr w1:World} {al:Int} (h:WBq w al wr) (hb:Below wr.heap.size wr w1):WBq w al w1 :=
 ⟨h.bel.trans (hb.mono h.bel.size),zC hb h.e1,zC hb h.t0,zC hb h.t1,fun i=>(hb.frozen (p:=⟨w.heap.size+1,i,none⟩) (by have:=World.block_lt_of_cell? wr _ h.t0;exact this)).trans (h.f i)⟩
theorem WBq.start (w:World) (m al no:Int) (A:Option Addr) (len cap:Nat):WBq w al
  ((w.alloc (.cells #[.int .i64 m,.int .i64 al,.int .i64 no,.slice A len cap] 37)).alloc (.cells #[.int .i64 0,.int .i64 0] 29)):=by
 obtain ⟨w1,h1⟩:∃ W,W=w.alloc (.cells #[.int .i64 m,.int .i64 al,.int .i64 no,.slice A len cap] 37):=⟨_,rfl⟩
 have z1:w1.heap.size=w.heap.size+1:=by rw [h1];simp
 have b1:Below w.heap.size w w1:=by rw [h1];exact (Below.refl _ _).alloc (Nat.le_refl _) _
 have e1:w1.cell? ⟨w.heap.size,1,none⟩=some (.int .i64 al):=by rw [h1];simp
 rw [←h1]
 clear h1
 have b2:Below w1.heap.size w1 (w1.alloc (.cells #[.int .i64 0,.int .i64 0] 29)):=(Below.refl _ _).alloc (Nat.le_refl _) _
 refine ⟨b1.trans (b2.mono b1.size),zC b2 e1,?_,?_,fun i=>?_⟩ <;> rw [←z1] <;> simp [go_sem]
theorem zIq (m al no:Int) (A:Option Addr) (len cap:Nat) (w:World) (h:zCa m al no=false) :
  Calls Tryz.prog 22 #[zDV m al no A len cap] w fun e w'=>e=.returned (zAX (3,0))∧Below w.heap.size w w':=by
 have hW:=WBq.start w m al no A len cap
 unfold zCa at h
 unfold zDV
 have hc:m<0∨(¬ m<0∧6≤m)∨((¬ m<0∧¬ 6≤m)∧zAR al=false)∨((¬ m<0∧¬ 6≤m)∧zAR al=true∧zAR no=false):=by
  cases h1:zAR al <;> cases h2:zAR no <;> simp [h1,h2] at h ⊢ <;> omega
 clear h
 have HW:=zB hW
 clear hW
 rcases hc with h0 | ⟨h0,h1⟩ | ⟨⟨h0,h1⟩,h2⟩ | ⟨⟨h0,h1⟩,h2,h3⟩
 all_goals
  go_enter Tryz.func22,Tryz.ntmps22
  go_wp2_with (first
   | (go_at_call 44;refine (zBZ _ _).mono ?_;rintro e w1 ⟨rfl,hw⟩;obtain rfl:=hw.symm))
  refine bodyPost_ret (v:=zAX (3,0)) (by simp [results,Tryz.results22,go_sem,zAX]) rfl ⟨rfl,?_⟩
  go_grown
theorem zIp (m al no:Int) (A:Option Addr) (len cap:Nat) (w:World) (h:zCa m al no=true) (hl:8<len) :
  Calls Tryz.prog 22 #[zDV m al no A len cap] w fun e w'=>e=.returned (zAX (4,0))∧Below w.heap.size w w':=by
 unfold zCa at h
 unfold zDV
 simp only [Bool.and_eq_true,decide_eq_true_eq] at h
 obtain ⟨⟨⟨h0,h1⟩,h2⟩,h3⟩:=h
 have hl':(8:Int)<(len:Int):=by omega
 go_enter Tryz.func22,Tryz.ntmps22
 go_wp2_with (first
  | (go_at_call 44;refine (zBZ _ _).mono ?_;rintro e w1 ⟨rfl,hw⟩;obtain rfl:=hw.symm))
 refine bodyPost_ret (v:=zAX (4,0)) (by simp [results,Tryz.results22,go_sem,zAX]) rfl ⟨rfl,?_⟩
 go_grown
theorem zLW (al:Int) (a:Nat→ActI) (len j:Nat) (h:j<len):zGU al a (len - j) j=if zJx al a j=0 then zGU al a (len - (j+1)) (j+1) else (zJx al a j,(j:Int)):=by
 rw [show len - j=(len - (j+1))+1 by omega,zGU]
theorem zIr (m al no:Int) (A:Option Addr) (len cap:Nat) (a:Nat→ActI) (w:World) (h:zCa m al no=true) (hl:len≤8) (hA:ActsAt w A len a) :
  Calls Tryz.prog 22 #[zDV m al no A len cap] w fun e w'=>e=.returned (zAX (zGU al a len 0))∧Below w.heap.size w w':=by
 have hW:=WBq.start w m al no A len cap
 unfold zCa at h
 unfold zDV
 simp only [Bool.and_eq_true,decide_eq_true_eq] at h
 obtain ⟨⟨⟨h0,h1⟩,h2⟩,h3⟩:=h
 have hl':¬ (8:Int)<(len:Int):=by omega
 have HW:=zB hW
 have HA:=zB hA
 clear hW hA
 go_enter Tryz.func22,Tryz.ntmps22
 go_wp2_with (first
  | (go_at_call 44;refine (zBZ _ _).mono ?_;rintro e w1 ⟨rfl,hw⟩;obtain rfl:=hw.symm))
 go_loopw [3,41] (fun r i wr=>∃ j:Nat,j≤len∧i=.int .i64 j∧r=.int .i64 (zJw al a j)∧zGU al a len 0=zGU al a (len - j) j∧WBq w al wr) (fun _ i _=>len - (intOf i).toNat)
 case atStart=>exact ⟨0,Nat.zero_le _,rfl,rfl,rfl,zA HW⟩
 case round =>
  clear HW
  obtain ⟨j,hj,rfl,rfl,hF,hN⟩:=hrel
  have HF:=zB hF
  clear hF
  by_cases hlt:j<len
  ·have j0:(0:Int)≤(j:Int):=by omega
   have j1:(j:Int)<(len:Int):=by omega
   obtain ⟨b,off,rfl,q0,q1,q2,q3⟩:=zA HA j hlt
   have q0:=zC hN.bel q0
   have q1:=zC hN.bel q1
   have q2:=zC hN.bel q2
   have q3:=zC hN.bel q3
   have HN:=zB hN
   have HS:=zB (zLW al a len j hlt)
   have HR:Hid (zJw al a (j+1)=bits .and .i64 (afI (a j).k (a j).p (zJw al a j)) al):=rfl
   have HE:Hid (zJx al a j=waI (a j).k (a j).p (a j).f (a j).n (zJw al a j)):=rfl
   clear hN HA
   generalize zJx al a j=ej at *
   generalize zJw al a j=rj at *
   generalize a j=y at *
   obtain ⟨k,p,f,n⟩:=y
   dsimp only at *
   have HC:=zGb k p f n rj
   rw [←zA HE] at HC
   have HC:=zB HC
   clear HE
   by_cases he:ej=0
   ·subst he
    go_wp2_with (first
     | (go_at_call 47;refine (zA HC _).mono ?_;rintro e w5 ⟨rfl,hb5⟩;have hN5:=(zA HN).below (Below.trans ((Below.refl _ _).alloc (Nat.le_refl _) _) (hb5.mono (by simp)));have d0:=zC hb5 (p:=⟨wr.heap.size,0,none⟩) (v:=.int .i64 k) (by simp);have d1:=zC hb5 (p:=⟨wr.heap.size,1,none⟩) (v:=.int .i64 p) (by simp);have d2:=zC hb5 (p:=⟨wr.heap.size,2,none⟩) (v:=.int .i64 f) (by simp);have d3:=zC hb5 (p:=⟨wr.heap.size,3,none⟩) (v:=.int .i64 n) (by simp);clear hb5))
    clear HC HN q0 q1 q2 q3
    generalize wr.heap.size=b9 at *
    have hne:Nonempty (Sub w5):=⟨⟨w5,Below.refl _ _⟩⟩
    have s1:=zN hN5.e1
    have d0:=zN d0
    have d1:=zN d1
    have d2:=zN d2
    have d3:=zN d3
    have HN:=zB hN5
    clear hN5
    refine zU (by kernel_rfl) (by kernel_rfl) ?_
    repeat (go_big_quiet_step ((first
     | (go_at_call 48;exact zBn (zLp _ _ _ _ _ _)))))
    refine wpQuiet_nil ?_
    rintro w6 ⟨xs,hxs⟩
    have hb6:=xs.bel
    rw [←hxs] at hb6
    have hN6:=(zA HN).below hb6
    clear hxs xs hb6 s1 d0 d1 d2 d3 hne HN
    have HN:=zB hN6
    clear hN6
    go_wp2_with fail
    go_roundw
    case rel=>exact ⟨j+1,by omega,by go_num,by rw [zA HR],(zA HF).trans ((zA HS).trans (by simp)),zA HN⟩
    case measure=>simp [intOf];omega
   ·go_wp2_with (first
     | (go_at_call 47;refine (zA HC _).mono ?_;rintro e w5 ⟨rfl,hb5⟩;have hN5:=(zA HN).below (Below.trans ((Below.refl _ _).alloc (Nat.le_refl _) _) (hb5.mono (by simp)));clear hb5;have t0:=hN5.t0;have t1:=hN5.t1;have f0:=hN5.f 0;have f1:=hN5.f 1))
    have hv:zGU al a len 0=(ej,(j:Int)):=by rw [zA HF,zA HS,if_neg he]
    refine bodyPost_ret (v:=zAX (ej,(j:Int))) (by simp [results,Tryz.results22,go_sem,zAX,t0,t1]) rfl ⟨by rw [hv],?_⟩
    exact zI (w.heap.size+1) (by omega) [.int .i64 ej,.int .i64 (j:Int)] 0 w5 hN5.bel
  ·obtain rfl:j=len:=by omega
   have hv:zGU al a j 0=(0,0):=by rw [zA HF,Nat.sub_self];rfl
   have t0:=hN.t0
   have t1:=hN.t1
   have f0:=hN.f 0
   have f1:=hN.f 1
   have HB:=zB hN.bel
   clear hN HA
   go_wp2
   refine bodyPost_ret (v:=zAX (0,0)) (by simp [results,Tryz.results22,go_sem,zAX,t0,t1]) rfl ⟨by rw [hv],?_⟩
   exact zI (w.heap.size+1) (by omega) [.int .i64 0,.int .i64 0] 0 wr (zA HB)
theorem zGZ (m al no:Int) (A:Option Addr) (len cap:Nat) (a:Nat→ActI) (w:World) (hA:ActsAt w A len a) :
  Calls Tryz.prog 22 #[zDV m al no A len cap] w fun e w'=>e=.returned (zAX (wrF m al no a len))∧Below w.heap.size w w':=by
 unfold wrF
 cases h:zCa m al no
 ·exact zIq m al no A len cap w h
 ·by_cases hl:8<len
  ·simp only [Bool.true_eq_false,if_false,hl,if_true]
   exact zIp m al no A len cap w h hl
  ·simp only [Bool.true_eq_false,if_false,hl]
   exact zIr m al no A len cap a w h (by omega) hA
end Go.Proofs.YtnbleebilmghcabGreat
namespace Go.Proofs.YtnbleebilmghcabGreat
open Go.RowKit
attribute [local go_sem ↓] Go.wp_at_zero Go.wp_at_succ
end Go.Proofs.YtnbleebilmghcabGreat
namespace Go.Proofs.YtnbleebilmghcabGreat
open Go.RowKit
attribute [local go_sem ↓] Go.wp_at_zero Go.wp_at_succ
end Go.Proofs.YtnbleebilmghcabGreat
namespace Go.Proofs.YtnbleebilmghcabGreat
open Go.RowKit
theorem zKs (r:BitVec 64):BitVec.ofInt 64 (IntKind.i64.wrap (r.toNat:Int))=r:=by
 rw [IntKind.wrap_i64]
 have:=r.isLt
 apply BitVec.eq_of_toNat_eq
 rw [BitVec.toNat_ofInt]
 simp
 omega
theorem zPI (x y:Int):BitVec.ofInt 64 (bits .or .i64 x y)=BitVec.ofInt 64 x ||| BitVec.ofInt 64 y:=zKs _
theorem zNe (n:Nat) (h:n<256):IntKind.i64.wrap (n:Int)=(n:Int):=by rw [IntKind.wrap_i64];omega
theorem zIY (x y:Int) (hx:zAR x=true) (hy:zAR y=true):bits .or .i64 x y=((x.toNat ||| y.toNat:Nat):Int)∧zAR (bits .or .i64 x y)=true:=by
 have h1:=of_decide_eq_true hx
 have h2:=of_decide_eq_true hy
 obtain ⟨a,rfl⟩:=Int.eq_ofNat_of_zero_le h1.1
 obtain ⟨b,rfl⟩:=Int.eq_ofNat_of_zero_le h2.1
 have hlt:a ||| b<2 ^ 8:=Nat.or_lt_two_pow (by omega) (by omega)
 have e:bits .or .i64 (a:Int) (b:Int)=((a ||| b:Nat):Int):=by
  have e1:bits .or .i64 (a:Int) (b:Int)=IntKind.i64.wrap (((BitVec.ofInt 64 (a:Int) ||| BitVec.ofInt 64 (b:Int)).toNat:Nat):Int):=rfl
  rw [e1,BitVec.ofInt_natCast,BitVec.ofInt_natCast,BitVec.toNat_or,BitVec.toNat_ofNat,BitVec.toNat_ofNat,Nat.mod_eq_of_lt (by omega),Nat.mod_eq_of_lt (by omega)]
  exact zNe _ (by omega)
 refine ⟨by simpa using e,?_⟩
 rw [e]
 exact decide_eq_true ⟨by omega,by omega⟩
theorem zCw (k:Int):zAR (zAr k)=true:=by
 by_cases h:zAE k=true
 ·rcases zHL k h with rfl | rfl | rfl | rfl | rfl | rfl | rfl | rfl <;> decide
 ·have e:zAr k=0:=by unfold zAr;rw [if_neg];simpa [zAE] using h
  rw [e];decide
theorem zHi (x:Int) (hx:zAR x=true):bits .or .i64 0 x=x:=by
 rw [(zIY 0 x (by decide) hx).1]
 have h1:=of_decide_eq_true hx
 simp;omega
def okN (al:Int) (a:Nat→ActI) (n:Nat):Prop:=∀ j,j<n→zJx al a j=0
theorem zLV (al:Int) (a:Nat→ActI):∀ n j,(zGU al a n j).1=0↔∀ i,i<n→zJx al a (j+i)=0
 | 0,j=>by simp [zGU]
 | n+1,j=>by
  unfold zGU
  by_cases h:zJx al a j=0
  ·rw [if_pos h,zLV al a n (j+1)]
   constructor
   ·intro hh i hi
    cases i with
    | zero=>exact h
    | succ i=>have:=hh i (by omega);rwa [show j+1+i=j+(i+1) by omega] at this
   ·intro hh i hi
    have:=hh (i+1) (by omega)
    rwa [show j+(i+1)=j+1+i by omega] at this
  ·rw [if_neg h]
   constructor
   ·intro hh;exact absurd hh h
   ·intro hh;exact absurd (hh 0 (by omega)) h
theorem zFa (m al no:Int) (a:Nat→ActI) (len:Nat):(wrF m al no a len).1=0↔zCa m al no=true∧len≤8∧okN al a len:=by
 unfold wrF
 cases h:zCa m al no
 ·simp
 ·by_cases hl:8<len
  ·simp [hl];intro h8;omega
  ·simp only [Bool.true_eq_false,if_false,hl,zLV,Nat.zero_add,true_and]
   exact ⟨fun hh=>⟨by omega,hh⟩,fun hh=>hh.2⟩
theorem zIJ (k p f n r:Int) (h:waI k p f n r=0):rgB k p f n=true∧1≤k∧k≤7:=by
 unfold waI at h
 split at h
 ·simp at h
 ·split at h
  ·simp at h
  ·rename_i h1 h2
   exact ⟨by simpa using h2,by omega,by omega⟩
end Go.Proofs.YtnbleebilmghcabGreat
