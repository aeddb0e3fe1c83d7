/- The law's closed fact; two empty houses are alike. -/
import Derived.Test.YtnbleebilmghcacGreatTHo12
set_option linter.all false
namespace Go.Proofs.YtnbleebilmghcacGreat
open Go Go.RowKit
attribute [local go_sem ↓] Go.wp_at_zero Go.wp_at_succ
def nD (d:DoI):DoI:=⟨d.k,d.has,d.p,d.n,d.i,d.g,toP d.s,d.fa,d.fn⟩
theorem doF_nD (mods:List ModI) (h:HI) (d:DoI):doF mods h (nD d)=doF mods h d:=rfl
theorem zCp (mods:List ModI):∀ (l:List DoI) (r:List AnsI×HI),zBV mods (l.map nD) r=zBV mods l r
 | [],r=>rfl
 | d :: l,r=>by
  show zBV mods (l.map nD) (r.1++[(doF mods r.2 (nD d)).1],(doF mods r.2 (nD d)).2)=_
  rw [doF_nD,zCp mods l]
  rfl
end Go.Proofs.YtnbleebilmghcacGreat
