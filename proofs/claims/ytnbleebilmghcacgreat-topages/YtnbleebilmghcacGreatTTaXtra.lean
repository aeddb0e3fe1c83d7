/- More. -/
import Derived.Test.YtnbleebilmghcacGreatJG
import Derived.Test.YtnbleebilmghcacGreatTTpTwo
import Derived.Test.YtnbleebilmghcacGreatTRfMath
set_option linter.all false
namespace Go.Proofs.YtnbleebilmghcacGreat
open Go Go.RowKit
theorem killF_at {X:Wd} (hr:RightW X) {i g:Int} {k:Nat} (hf:zAY X i g=(k:Int)):zAR X i g=(0,⟨X.rows.eraseIdx k,X.gens⟩):=by
 unfold zAR
 rw [if_neg (by have:=(zr X).2 hr;omega),if_neg (by omega),hf,Int.toNat_natCast]
theorem playTo_acc (mods:List ModI):∀ (l:List DoI) (a b:List AnsI) (h:HI),zBV mods l (a++b,h)=(a++(zBV mods l (b,h)).1,(zBV mods l (b,h)).2)
 | [],a,b,h=>rfl
 | d :: l,a,b,h=>by
  show zBV mods l ((a++b)++[(doF mods h d).1],(doF mods h d).2)=_
  rw [List.append_assoc,playTo_acc mods l a (b++[(doF mods h d).1])]
  rfl
theorem play_get (mods:List ModI) (l:List DoI) (k:Nat) (h:k<l.length):(zBJ mods l).1[k]?=some (doF mods (zBV mods (l.take k) ([],h0)).2 l[k]).1:=by
 have e:l=l.take (k+1)++l.drop (k+1):=(List.take_append_drop _ _).symm
 have hs:∀ (a b:List DoI) (r:List AnsI×HI),zBV mods (a++b) r=zBV mods b (zBV mods a r):=fun a=>by
  induction a with
  | nil=>intro b r;rfl
  | cons x a ih=>intro b r;exact ih b _
 have h1:zBJ mods l=zBV mods (l.drop (k+1)) (zBV mods (l.take (k+1)) ([],h0)):=by
  unfold zBJ
  conv=>lhs;rw [e]
  exact hs _ _ _
 have h2:zBV mods (l.take (k+1)) ([],h0)=((zBV mods (l.take k) ([],h0)).1++[(doF mods (zBV mods (l.take k) ([],h0)).2 l[k]).1],(doF mods (zBV mods (l.take k) ([],h0)).2 l[k]).2):=by
  rw [List.take_succ_eq_append_getElem h,playTo_snoc]
 have hl:(zBV mods (l.take k) ([],h0)).1.length=k:=by
  rw [playTo_len,List.length_take]
  simp only [List.length_nil]
  omega
 have h3:=playTo_acc mods (l.drop (k+1)) (zBV mods (l.take (k+1)) ([],h0)).1 [] (zBV mods (l.take (k+1)) ([],h0)).2
 rw [List.append_nil] at h3
 rw [h1,h3,h2]
 simp only
 rw [List.append_assoc,List.getElem?_append_right (by omega),hl,Nat.sub_self]
 rfl
theorem act1_ask (B:Nat) (W:World) (n p:Int):Act1 B W (akD n p):=.inl rfl
theorem act1_sp (B:Nat) (W:World) (n p:Int):Act1 B W (spD n p):=.inl rfl
end Go.Proofs.YtnbleebilmghcacGreat
