/- Twice as many each tick. -/
import Derived.Test.YtnbleebilmghcacGreatYRfMath
import Derived.Test.YtnbleebilmghcacGreatYTpFun
set_option linter.all false
set_option maxRecDepth 100000
namespace Go.Proofs.YtnbleebilmghcacGreat
open Go Go.RowKit
def dblL (t g:Nat):List DoI:=[spD 1 5,sysD 1 ⟨7,1,0,5⟩ g]++List.replicate t tickD
theorem dblL_succ (t g:Nat):dblL (t+1) g=dblL t g++[tickD]:=by
 unfold dblL
 rw [List.replicate_succ',List.append_assoc]
theorem zCo (t g:Nat):(dblL t g).length=2+t:=by simp [dblL];omega
def dst (t:Nat):HI:=(zp mAll (dblL t 0) ([],h0)).2
theorem dst_succ (t:Nat):dst (t+1)=(doF mAll (dst t) tickD).2:=by
 unfold dst
 rw [dblL_succ,zBx]
theorem dst_g (t g:Nat):(zp mAll (dblL t g) ([],h0)).2=dst t:=by
 unfold dst
 rw [←zBL mAll (dblL t g),←zBL mAll (dblL t 0)]
 have e:(dblL t g).map nD=(dblL t 0).map nD:=by
  unfold dblL
  rw [List.map_append,List.map_append]
  rfl
 rw [e]
theorem dE:∀ k,k<5→(doF mAll (dst k) tickD).1.e=0:=by decide +kernel
theorem dE5:(doF mAll (dst 5) tickD).1.e=4:=by decide +kernel
theorem dQ:∀ k,k<6→(doF mAll (dst k) (akD 1 0)).1.bs.length=2 ^ k∧(doF mAll (dst k) (akD 1 0)).1.n=5*(2 ^ k:Nat):=by decide +kernel
theorem dst_stop:∀ t,dst (5+t)=dst 5
 | 0=>rfl
 | t+1=>by
  have ih:=dst_stop t
  show dst (5+t+1)=dst 5
  rw [dst_succ,ih]
  refine do_no ?_
  unfold didB
  rw [dE5]
  rfl
def dN (t:Nat):Nat:=if t<5 then 2 ^ t else 32
theorem d_tick (t:Nat):(doF mAll (dst t) tickD).1.e=if t<5 then 0 else 4:=by
 by_cases h:t<5
 ·rw [if_pos h,dE t h]
 ·obtain ⟨q,rfl⟩:∃ q,t=5+q:=⟨t - 5,by omega⟩
  rw [if_neg h,dst_stop,dE5]
theorem d_ask (t:Nat):(doF mAll (dst t) (akD 1 0)).1.bs.length=dN t∧(doF mAll (dst t) (akD 1 0)).1.n=5*(dN t:Int):=by
 unfold dN
 by_cases h:t<5
 ·rw [if_pos h]
  obtain ⟨h1,h2⟩:=dQ t (by omega)
  exact ⟨h1,h2⟩
 ·obtain ⟨q,rfl⟩:∃ q,t=5+q:=⟨t - 5,by omega⟩
  rw [if_neg h,dst_stop]
  obtain ⟨h1,h2⟩:=dQ 5 (by omega)
  exact ⟨h1,h2⟩
theorem dN_succ (t:Nat):dN (t+1)=if t<5 then 2*dN t else dN t:=by
 unfold dN
 by_cases h:t<5
 ·rw [if_pos h,if_pos h]
  by_cases h2:t+1<5
  ·rw [if_pos h2,Nat.pow_succ,Nat.mul_comm]
  ·obtain rfl:t=4:=by omega
   rfl
 ·rw [if_neg h,if_neg h,if_neg (by omega)]
theorem dN_room (t:Nat):(2*(dN t:Int)≤60)↔t<5:=by
 unfold dN
 by_cases h:t<5
 ·rw [if_pos h]
  rcases (by omega:t=0∨t=1∨t=2∨t=3∨t=4) with rfl | rfl | rfl | rfl | rfl <;> simp
 ·rw [if_neg h]
  constructor
  ·intro h2;omega
  ·intro h2;exact absurd h2 h
theorem dN_le (t:Nat):1≤dN t∧dN t≤32:=by
 unfold dN
 by_cases h:t<5
 ·rw [if_pos h]
  rcases (by omega:t=0∨t=1∨t=2∨t=3∨t=4) with rfl | rfl | rfl | rfl | rfl <;> decide
 ·rw [if_neg h];omega
theorem dbl_take (t g i:Nat) (h:i≤t):(dblL t g++[akD 1 0]).take (2+i)=dblL i g:=by
 rw [List.take_append_of_le_length (by rw [zCo];omega)]
 unfold dblL
 rw [List.take_append]
 simp only [List.length_cons,List.length_nil]
 rw [List.take_of_length_le (by simp),show 2+i - (0+1+1)=i by omega,List.take_replicate,Nat.min_eq_left h]
theorem dbl_ans (t g i:Nat) (h:i<t):∃ x,(zAH mAll (dblL t g++[akD 1 0])).1[2+i]?=some x∧x.e=if i<5 then 0 else 4:=by
 have hl:2+i<(dblL t g++[akD 1 0]).length:=by rw [List.length_append,zCo];simp;omega
 refine ⟨_,play_get mAll _ (2+i) hl,?_⟩
 have e:(dblL t g++[akD 1 0])[2+i]=tickD:=by
  rw [List.getElem_append_left (by rw [zCo];omega)]
  unfold dblL
  rw [List.getElem_append_right (by simp)]
  simp
 rw [e,dbl_take t g i (by omega),dst_g,d_tick]
theorem dbl_last (t g:Nat):∃ x,(zAH mAll (dblL t g++[akD 1 0])).1[2+t]?=some x∧x.bs.length=dN t∧x.n=5*(dN t:Int):=by
 have hl:2+t<(dblL t g++[akD 1 0]).length:=by rw [List.length_append,zCo];simp
 refine ⟨_,play_get mAll _ (2+t) hl,?_⟩
 have e:(dblL t g++[akD 1 0])[2+t]=akD 1 0:=by
  rw [List.getElem_append_right (by rw [zCo];exact Nat.le_refl _)]
  simp [zCo]
 rw [e,dbl_take t g t (Nat.le_refl _),dst_g]
 exact d_ask t
end Go.Proofs.YtnbleebilmghcacGreat
