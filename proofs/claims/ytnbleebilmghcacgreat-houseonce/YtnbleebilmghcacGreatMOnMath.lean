/- A name is never given twice. -/
import Derived.Test.YtnbleebilmghcacGreatMY
import Derived.Test.YtnbleebilmghcacGreatMRfMath
set_option linter.all false
namespace Go.Proofs.YtnbleebilmghcacGreat
open Go Go.RowKit
def Had (X:Wd) (i g:Int):Prop:=∃ k:Nat,i=(k:Int)∧k<X.gens.length∧g≤X.gens.getD k 0
def Grows (X Y:Wd):Prop:=∀ k:Nat,k<X.gens.length→k<Y.gens.length∧X.gens.getD k 0≤Y.gens.getD k 0
theorem Grows.refl (X:Wd):Grows X X:=fun k hk=>⟨hk,Int.le_refl _⟩
theorem Grows.trans {X Y Z:Wd} (h:Grows X Y) (h2:Grows Y Z):Grows X Z:=fun k hk=>⟨(h2 k (h k hk).1).1,Int.le_trans (h k hk).2 (h2 k (h k hk).1).2⟩
theorem Had.grows {X Y:Wd} {i g:Int} (h:Had X i g) (hg:Grows X Y):Had Y i g:=by
 obtain ⟨k,e,hk,hl⟩:=h
 exact ⟨k,e,(hg k hk).1,Int.le_trans hl (hg k hk).2⟩
theorem spawn_new {X:Wd} {has n:Int} (h:(zR X has n).1=0):¬ Had X (zR X has n).2.1.1 (zR X has n).2.1.2∧Had (zR X has n).2.2 (zR X has n).2.1.1 (zR X has n).2.1.2∧Grows X (zR X has n).2.2:=by
 obtain ⟨_,k,gn,e1,e2,hk,hu,hg,_⟩:=zCO h
 rw [e1,e2]
 have hl:k<(zBK X.gens (k:Int) gn).length:=by rw [len_gensF _ _ _ hk];split <;> omega
 refine ⟨fun ⟨q,hq,hlt,hle⟩=>?_,⟨k,rfl,hl,?_⟩,fun q hq=>⟨by show q<(zBK X.gens (k:Int) gn).length;rw [len_gensF _ _ _ hk];split <;> omega,?_⟩⟩
 ·have hkq:k=q:=by have:(k:Int)=(q:Int):=hq;omega
  subst hkq
  have:=hg hlt
  have hle:gn≤X.gens.getD k 0:=hle
  omega
 ·show gn≤(zBK X.gens (k:Int) gn).getD k 0
  rw [zCU _ _ _ hk,if_pos rfl]
  exact Int.le_refl _
 ·show X.gens.getD q 0≤(zBK X.gens (k:Int) gn).getD q 0
  rw [zCU _ _ _ hk]
  by_cases e3:q=k
  ·rw [if_pos e3,hg (by omega),e3];omega
  ·rw [if_neg e3];exact Int.le_refl _
theorem kill_grows {X:Wd} {i g:Int} (h:(zAD X i g).1=0):Grows X (zAD X i g).2:=by
 obtain ⟨_,k,_,_,_,_,e⟩:=killF_zero h
 rw [e]
 exact fun k hk=>⟨hk,Int.le_refl _⟩
theorem put_grows {X:Wd} {i g p n:Int} (h:(zCJ X i g p n).1=0):Grows X (zCJ X i g p n).2:=by
 obtain ⟨_,_,_,k,_,_,_,_,e,_⟩:=put_spec h
 rw [e]
 exact fun k hk=>⟨hk,Int.le_refl _⟩
theorem drop_grows {X:Wd} {i g p:Int} (h:(zAU X i g p).1=0):Grows X (zAU X i g p).2:=by
 obtain ⟨_,k,_,_,_,_,_,e,_⟩:=drop_spec h
 rw [e]
 exact fun k hk=>⟨hk,Int.le_refl _⟩
theorem act_grows {X:Wd} {i g:Int} {y:ActI} (h:(zBl X i g y).1=0):Grows X (zBl X i g y).2:=by
 unfold zBl at h ⊢
 split
 ·rename_i e;rw [if_pos e] at h;exact kill_grows h
 ·rename_i e;rw [if_neg e] at h
  split
  ·rename_i e;rw [if_pos e] at h;exact (spawn_new h).2.2
  ·rename_i e;rw [if_neg e] at h
   split
   ·rename_i e;rw [if_pos e] at h
    split
    ·rename_i e;rw [if_pos e] at h;exact drop_grows h
    ·exact Grows.refl _
   ·rename_i e;rw [if_neg e] at h;exact put_grows h
theorem turn_grows (i g:Int) (a:Nat→ActI):∀ n j X,(zm i g a n j X).1=0→Grows X (zm i g a n j X).2
 | 0,_,X,_=>Grows.refl _
 | n+1,j,X,h=>by
  unfold zm at h ⊢
  by_cases e:(zBl X i g (a j)).1=0
  ·rw [if_neg (by simpa using e)] at h ⊢
   split
   ·exact act_grows e
   ·rename_i e2;rw [if_neg e2] at h
    exact (act_grows e).trans (turn_grows i g a n (j+1) _ h)
  ·rw [if_pos e] at h;exact absurd h e
theorem runTo_grows (a:Nat→ActI) (len:Nat):∀ l X,(zAb a len l X).1=0→Grows X (zAb a len l X).2
 | [],X,_=>Grows.refl _
 | b :: l,X,h=>by
  unfold zAb at h ⊢
  by_cases e:(zm b.1 b.2 a len 0 X).1=0
  ·rw [if_neg (by simpa using e)] at h ⊢
   exact (turn_grows b.1 b.2 a len 0 X e).trans (runTo_grows a len l _ h)
  ·rw [if_pos e] at h;exact absurd h e
theorem run_grows {X:Wd} {m al no:Int} {a:Nat→ActI} {len:Nat} (h:(runF X m al no a len).1=0):Grows X (runF X m al no a len).2:=by
 unfold runF at h ⊢
 by_cases e:(wrF m al no a len).1=0
 ·rw [if_neg (by simpa using e)] at h ⊢
  exact runTo_grows a len _ X h
 ·rw [if_pos e] at h;exact absurd h e
theorem allTo_grows (S:Nat→SysI):∀ n j X,(zu S n j X).1.1=0→Grows X (zu S n j X).2
 | 0,j,X,_=>Grows.refl _
 | n+1,j,X,h=>by
  rw [zu] at h ⊢
  by_cases e:(runS X (S j)).1=0
  ·rw [if_neg (by simpa using e)] at h ⊢
   exact (run_grows (m:=(S j).m) (al:=(S j).al) (no:=(S j).no) (a:=(S j).a) (len:=(S j).len) e).trans (allTo_grows S n (j+1) _ h)
  ·rw [if_pos e] at h;exact absurd h e
theorem bec_grows {h:HI} {e:Int} {Y:Wd} (hY:e=0→Grows h.X Y):Grows h.X (bec h e Y).X:=by
 unfold bec
 split
 ·rename_i he;exact hY he
 ·exact Grows.refl _
theorem do_grows (mods:List ModI) (h:HI) (d:DoI):Grows h.X (doF mods h d).2.X:=by
 unfold doF
 split
 ·exact bec_grows fun e=>(spawn_new e).2.2
 split
 ·exact bec_grows fun e=>kill_grows e
 split
 ·exact bec_grows fun e=>put_grows e
 split
 ·exact bec_grows fun e=>drop_grows e
 split
 ·split <;> exact Grows.refl _
 split
 ·exact bec_grows fun e=>allTo_grows _ _ _ _ e
 split
 ·split <;> exact Grows.refl _
 ·exact Grows.refl _
def hAt (mods:List ModI) (l:List DoI) (k:Nat):HI:=(zAF mods (l.take k) ([],h0)).2
theorem hAt_succ (mods:List ModI) (l:List DoI) (k:Nat) (h:k<l.length):hAt mods l (k+1)=(doF mods (hAt mods l k) l[k]).2:=by
 unfold hAt
 rw [List.take_succ_eq_append_getElem h,zBt]
def zCW (mods:List ModI) (l:List DoI):Nat→List (Int×Int)
 | 0=>[]
 | k+1=>if h:k<l.length then (if l[k].k=1∧(doF mods (hAt mods l k) l[k]).1.e=0 then zCW mods l k++[((doF mods (hAt mods l k) l[k]).1.i,(doF mods (hAt mods l k) l[k]).1.g)] else zCW mods l k) else zCW mods l k
theorem do_spawned {mods:List ModI} {h:HI} {d:DoI} (hk:d.k=1) (he:(doF mods h d).1.e=0):¬ Had h.X (doF mods h d).1.i (doF mods h d).1.g∧Had (doF mods h d).2.X (doF mods h d).1.i (doF mods h d).1.g:=by
 unfold doF at he ⊢
 rw [if_pos hk] at he ⊢
 have he:(zR h.X d.has d.n).1=0:=he
 obtain ⟨h1,h2,_⟩:=spawn_new he
 refine ⟨h1,?_⟩
 show Had (bec h (zR h.X d.has d.n).1 (zR h.X d.has d.n).2.2).X _ _
 unfold bec
 rw [if_pos he]
 exact h2
theorem came_had (mods:List ModI) (l:List DoI):∀ k,k≤l.length→∀ b∈zCW mods l k,Had (hAt mods l k).X b.1 b.2
 | 0,_,b,hb=>by cases hb
 | k+1,hk,b,hb=>by
  have hlt:k<l.length:=by omega
  rw [zCW,dif_pos hlt] at hb
  rw [hAt_succ mods l k hlt]
  have ih:=fun hb=>(came_had mods l k (by omega) b hb).grows (do_grows mods _ l[k])
  split at hb
  ·rename_i hc
   rcases List.mem_append.1 hb with hb | hb
   ·exact ih hb
   ·rw [List.mem_singleton] at hb
    subst hb
    exact (do_spawned hc.1 hc.2).2
  ·exact ih hb
theorem came_new (mods:List ModI) (l:List DoI) (k:Nat) (h:k<l.length) (h1:l[k].k=1) (he:(doF mods (hAt mods l k) l[k]).1.e=0):((doF mods (hAt mods l k) l[k]).1.i,(doF mods (hAt mods l k) l[k]).1.g) ∉ zCW mods l k:=fun hb =>
 (do_spawned h1 he).1 (came_had mods l k (Nat.le_of_lt h) _ hb)
end Go.Proofs.YtnbleebilmghcacGreat
