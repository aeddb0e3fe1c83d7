/- So many systems, each of a part of its own; so many of one part. -/
import Derived.Test.YtnbleebilmghcacGreatTTdMath
set_option linter.all false
set_option maxRecDepth 100000
namespace Go.Proofs.YtnbleebilmghcacGreat
open Go Go.RowKit
def btA (n:Nat) (γ:Nat→Nat):List DoI:=(List.range n).map fun (j:Nat)=>sysD (zBA (j:Int)) ⟨4,(j:Int),0,1⟩ (γ j)
def btB (n:Nat) (γ:Nat→Nat):List DoI:=(List.range n).map fun (j:Nat)=>sysD 1 ⟨4,0,0,1⟩ (γ j)
theorem bt_pure:∀ n,n<9→0<n→((zBJ mAll (btA n (fun _=>0)++[tickD])).1[n]?).map (·.n)=some 1∧((zBJ mAll (btB n (fun _=>0)++[tickD])).1[n]?).map (·.n)=some (n:Int):=by decide +kernel
theorem play_nD (mods:List ModI) (l l':List DoI) (h:l.map nD=l'.map nD):zBJ mods l=zBJ mods l':=by
 unfold zBJ
 rw [←zCp mods l,←zCp mods l',h]
theorem bt_A (n:Nat) (γ:Nat→Nat) (h0:0<n) (h:n<9):((zBJ mAll (btA n γ++[tickD])).1[n]?).map (·.n)=some 1:=by
 rw [play_nD mAll (btA n γ++[tickD]) (btA n (fun _=>0)++[tickD])]
 ·exact (bt_pure n h h0).1
 ·unfold btA
  rw [List.map_append,List.map_append,List.map_map,List.map_map]
  rfl
theorem bt_B (n:Nat) (γ:Nat→Nat) (h0:0<n) (h:n<9):((zBJ mAll (btB n γ++[tickD])).1[n]?).map (·.n)=some (n:Int):=by
 rw [play_nD mAll (btB n γ++[tickD]) (btB n (fun _=>0)++[tickD])]
 ·exact (bt_pure n h h0).2
 ·unfold btB
  rw [List.map_append,List.map_append,List.map_map,List.map_map]
  rfl
theorem btA_succ (n:Nat) (γ:Nat→Nat) (g:Nat):btA (n+1) (fun j=>if j=n then g else γ j)=btA n γ++[sysD (zBA (n:Int)) ⟨4,(n:Int),0,1⟩ g]:=by
 unfold btA
 rw [List.range_succ,List.map_append]
 congr 1
 ·refine List.map_congr_left fun j hj=>?_
  have:j<n:=by simpa using hj
  show sysD _ _ (if j=n then g else γ j)=_
  rw [if_neg (by omega)]
 ·simp
theorem btB_succ (n:Nat) (γ:Nat→Nat) (g:Nat):btB (n+1) (fun j=>if j=n then g else γ j)=btB n γ++[sysD 1 ⟨4,0,0,1⟩ g]:=by
 unfold btB
 rw [List.range_succ,List.map_append]
 congr 1
 ·refine List.map_congr_left fun j hj=>?_
  have:j<n:=by simpa using hj
  show sysD _ _ (if j=n then g else γ j)=_
  rw [if_neg (by omega)]
 ·simp
theorem bt_len (n:Nat) (γ:Nat→Nat):(btA n γ).length=n∧(btB n γ).length=n:=by simp [btA,btB]
end Go.Proofs.YtnbleebilmghcacGreat
