/- What is refused, and what is asked, changes nothing. -/
import Derived.Test.YtnbleebilmghcacGreatMHo12
set_option linter.all false
namespace Go.Proofs.YtnbleebilmghcacGreat
open Go Go.RowKit
theorem playTo_acc (mods:List ModI):∀ (l:List DoI) (a b:List AnsI) (h:HI),zAF mods l (a++b,h)=(a++(zAF mods l (b,h)).1,(zAF mods l (b,h)).2)
 | [],a,b,h=>rfl
 | d :: l,a,b,h=>by
  show zAF mods l ((a++b)++[(doF mods h d).1],(doF mods h d).2)=_
  rw [List.append_assoc,playTo_acc mods l a (b++[(doF mods h d).1])]
  rfl
theorem play_get (mods:List ModI) (l:List DoI) (k:Nat) (h:k<l.length):(zAa mods l).1[k]?=some (doF mods (zAF mods (l.take k) ([],h0)).2 l[k]).1:=by
 have e:l=l.take (k+1)++l.drop (k+1):=(List.take_append_drop _ _).symm
 have hs:∀ (a b:List DoI) (r:List AnsI×HI),zAF mods (a++b) r=zAF mods b (zAF mods a r):=fun a=>by
  induction a with
  | nil=>intro b r;rfl
  | cons x a ih=>intro b r;exact ih b _
 have h1:zAa mods l=zAF mods (l.drop (k+1)) (zAF mods (l.take (k+1)) ([],h0)):=by
  unfold zAa
  conv=>lhs;rw [e]
  exact hs _ _ _
 have h2:zAF mods (l.take (k+1)) ([],h0)=((zAF mods (l.take k) ([],h0)).1++[(doF mods (zAF mods (l.take k) ([],h0)).2 l[k]).1],(doF mods (zAF mods (l.take k) ([],h0)).2 l[k]).2):=by
  rw [List.take_succ_eq_append_getElem h,zBt]
 have hl:(zAF mods (l.take k) ([],h0)).1.length=k:=by
  rw [zCR,List.length_take]
  simp only [List.length_nil]
  omega
 have h3:=playTo_acc mods (l.drop (k+1)) (zAF mods (l.take (k+1)) ([],h0)).1 [] (zAF mods (l.take (k+1)) ([],h0)).2
 rw [List.append_nil] at h3
 rw [h1,h3,h2]
 simp only
 rw [List.append_assoc,List.getElem?_append_right (by omega),hl,Nat.sub_self]
 rfl
end Go.Proofs.YtnbleebilmghcacGreat
