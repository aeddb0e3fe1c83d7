/- What is refused, and what is asked, changes nothing. -/
import Derived.Test.YtnbleebilmghcacGreatYHo12
set_option linter.all false
namespace Go.Proofs.YtnbleebilmghcacGreat
open Go Go.RowKit
def didB (mods:List ModI) (h:HI) (d:DoI):Bool:=decide ((doF mods h d).1.e=0) && decide (d.k≠7)
theorem bec_no {h:HI} {e:Int} {Y:Wd} (he:e≠0):bec h e Y=h:=if_neg he
theorem do_no {mods:List ModI} {h:HI} {d:DoI} (hd:didB mods h d=false):(doF mods h d).2=h:=by
 unfold didB at hd
 by_cases k7:d.k=7
 ·unfold doF
  rw [if_neg (by omega),if_neg (by omega),if_neg (by omega),if_neg (by omega),if_neg (by omega),if_neg (by omega),if_pos k7]
  split <;> rfl
 ·have he:(doF mods h d).1.e≠0:=by simpa [k7] using hd
  unfold doF at he ⊢
  split
  ·rename_i k;rw [if_pos k] at he;exact bec_no he
  rename_i k1;rw [if_neg k1] at he
  split
  ·rename_i k;rw [if_pos k] at he;exact bec_no he
  rename_i k2;rw [if_neg k2] at he
  split
  ·rename_i k;rw [if_pos k] at he;exact bec_no he
  rename_i k3;rw [if_neg k3] at he
  split
  ·rename_i k;rw [if_pos k] at he;exact bec_no he
  rename_i k4;rw [if_neg k4] at he
  split
  ·rename_i k;rw [if_pos k] at he
   split
   ·rename_i hr;rw [if_pos hr] at he;exact absurd rfl he
   ·rfl
  rename_i k5;rw [if_neg k5] at he
  split
  ·rename_i k;rw [if_pos k] at he;exact bec_no he
  rfl
def zAf (mods:List ModI):HI→List DoI→List DoI
 | _,[]=>[]
 | h,d :: l=>if didB mods h d=true then d :: zAf mods (doF mods h d).2 l else zAf mods h l
theorem zCT (mods:List ModI):∀ (l:List DoI) (a b:List AnsI) (h:HI),zp mods l (a++b,h)=(a++(zp mods l (b,h)).1,(zp mods l (b,h)).2)
 | [],a,b,h=>rfl
 | d :: l,a,b,h=>by
  show zp mods l ((a++b)++[(doF mods h d).1],(doF mods h d).2)=_
  rw [List.append_assoc,zCT mods l a (b++[(doF mods h d).1])]
  rfl
theorem goods_same (mods:List ModI):∀ (l:List DoI) (h:HI),(zp mods (zAf mods h l) ([],h)).2=(zp mods l ([],h)).2∧∀ x∈(zp mods (zAf mods h l) ([],h)).1,x.e=0
 | [],h=>⟨rfl,fun x hx=>by cases hx⟩
 | d :: l,h=>by
  have e2:zp mods (d :: l) ([],h)=zp mods l ([(doF mods h d).1],(doF mods h d).2):=rfl
  have a2:=zCT mods l [(doF mods h d).1] [] (doF mods h d).2
  rw [List.append_nil] at a2
  rw [e2,a2]
  cases hd:didB mods h d
  ·have eg:zAf mods h (d :: l)=zAf mods h l:=by rw [zAf,hd];rfl
   rw [eg,do_no hd]
   exact goods_same mods l h
  ·have eg:zAf mods h (d :: l)=d :: zAf mods (doF mods h d).2 l:=by rw [zAf,hd];rfl
   have e1:zp mods (d :: zAf mods (doF mods h d).2 l) ([],h)=zp mods (zAf mods (doF mods h d).2 l) ([(doF mods h d).1],(doF mods h d).2):=rfl
   have a1:=zCT mods (zAf mods (doF mods h d).2 l) [(doF mods h d).1] [] (doF mods h d).2
   rw [List.append_nil] at a1
   rw [eg,e1,a1]
   obtain ⟨i1,i2⟩:=goods_same mods l (doF mods h d).2
   refine ⟨i1,fun x hx=>?_⟩
   rcases List.mem_append.1 hx with hx | hx
   ·rw [List.mem_singleton] at hx
    subst hx
    unfold didB at hd
    simp only [Bool.and_eq_true,decide_eq_true_eq] at hd
    exact hd.1
   ·exact i2 x hx
theorem goods_snoc (mods:List ModI):∀ (l:List DoI) (h:HI) (d:DoI),zAf mods h (l++[d])=zAf mods h l++(if didB mods (zp mods l ([],h)).2 d=true then [d] else [])
 | [],h,d=>by
  show zAf mods h [d]=[]++(if didB mods h d=true then [d] else [])
  rw [zAf,List.nil_append]
  cases didB mods h d <;> rfl
 | x :: l,h,d=>by
  have a2:=zCT mods l [(doF mods h x).1] [] (doF mods h x).2
  rw [List.append_nil] at a2
  have e2:(zp mods (x :: l) ([],h)).2=(zp mods l ([],(doF mods h x).2)).2:=by
   show (zp mods l ([(doF mods h x).1],(doF mods h x).2)).2=_
   rw [a2]
  rw [e2,List.cons_append,zAf,zAf]
  cases hd:didB mods h x
  ·have:=goods_snoc mods l h d
   rw [do_no hd]
   exact this
  ·have:=goods_snoc mods l (doF mods h x).2 d
   rw [if_pos rfl,if_pos rfl,this,List.cons_append]
theorem goods_len (mods:List ModI):∀ (l:List DoI) (h:HI),(zAf mods h l).length≤l.length
 | [],h=>Nat.le_refl _
 | d :: l,h=>by
  rw [zAf]
  split
  ·have:=goods_len mods l (doF mods h d).2
   simp only [List.length_cons]
   omega
  ·have:=goods_len mods l h
   simp only [List.length_cons]
   omega
theorem goods_mem (mods:List ModI):∀ (l:List DoI) (h:HI) (d:DoI),d∈zAf mods h l→d∈l
 | [],h,d,hd=>hd
 | x :: l,h,d,hd=>by
  rw [zAf] at hd
  split at hd
  ·rcases List.mem_cons.1 hd with hd | hd
   ·exact List.mem_cons.2 (.inl hd)
   ·exact List.mem_cons.2 (.inr (goods_mem mods l _ d hd))
  ·exact List.mem_cons.2 (.inr (goods_mem mods l _ d hd))
theorem play_get (mods:List ModI) (l:List DoI) (k:Nat) (h:k<l.length):(zAH mods l).1[k]?=some (doF mods (zp mods (l.take k) ([],h0)).2 l[k]).1:=by
 have e:l=l.take (k+1)++l.drop (k+1):=(List.take_append_drop _ _).symm
 have hs:∀ (a b:List DoI) (r:List AnsI×HI),zp mods (a++b) r=zp mods b (zp mods a r):=fun a=>by
  induction a with
  | nil=>intro b r;rfl
  | cons x a ih=>intro b r;exact ih b _
 have h1:zAH mods l=zp mods (l.drop (k+1)) (zp mods (l.take (k+1)) ([],h0)):=by
  unfold zAH
  conv=>lhs;rw [e]
  exact hs _ _ _
 have h2:zp mods (l.take (k+1)) ([],h0)=((zp mods (l.take k) ([],h0)).1++[(doF mods (zp mods (l.take k) ([],h0)).2 l[k]).1],(doF mods (zp mods (l.take k) ([],h0)).2 l[k]).2):=by
  rw [List.take_succ_eq_append_getElem h,zBx]
 have hl:(zp mods (l.take k) ([],h0)).1.length=k:=by
  rw [zBV,List.length_take]
  simp only [List.length_nil]
  omega
 have h3:=zCT mods (l.drop (k+1)) (zp mods (l.take (k+1)) ([],h0)).1 [] (zp mods (l.take (k+1)) ([],h0)).2
 rw [List.append_nil] at h3
 rw [h1,h3,h2]
 simp only
 rw [List.append_assoc,List.getElem?_append_right (by omega),hl,Nat.sub_self]
 rfl
end Go.Proofs.YtnbleebilmghcacGreat
