/- The statement HouseMods holds: of beings that stay, parts that no mod may write are as they were ahead of a tick, for every input. -/
import Derived.Test.YtnbleebilmghcacGreatRows
import Derived.Test.YtnbleebilmghcacGreatChecked
import Derived.Test.YtnbleebilmghcacGreatMHoOpen
import Derived.Test.YtnbleebilmghcacGreatMHMods
set_option linter.all false
set_option maxHeartbeats 1000000
set_option maxRecDepth 100000
namespace Go.Proofs.YtnbleebilmghcacGreat.houseMods
open Go.ChangeShapes Go.WideShapes Go.ChangeAt Go.RowKit
theorem own:ownKnob Tryz.prog.godebug=none:=by kernel_rfl
theorem lifted (os:Os) (started:os.Started) (H:Type) (enc:TypeId×Value→H) :
  ReturnsInHanded {} Tryz.checked os 3 .any (Rows.houseModsSpec.pre6 enc Tryz.prog Tryz.f3 Rows.houseModsRow.domain false) (Rows.houseModsSpec.post enc Tryz.prog Tryz.f3 false true false false):=by
 refine returnsInHanded_of_change (C:=Tryz.checked) own started (by kernel_rfl) Tryz.func3
  (ChangeSpec.witness6 (enc:=enc) (C:=Tryz.checked) false ⟨#[],#[.slice none 0 0,.slice none 0 0],[]⟩ 8 (by kernel_rfl) (by kernel_rfl) (by kernel_rfl) (by kernel_rfl)) ?_
 intro W base args ds gs before hval0 hW hcnd _
 have hval:∀ (j:Nat) t v,Tryz.f3.params[j]?=some t→args[j]?=some v→Value.okWide Tryz.prog W .any base t v:=hval0
 have hW':=hW
 obtain ⟨p,q,hA0,hV,rfl,hfz,hnd⟩:=hW
 have hA:DataW.TrodAll enc Tryz.prog W 0 (fun _=>true) true Tryz.f3.params.toList args.toList ds p:=hA0
 rw [Tryz.params3] at hA hval
 obtain ⟨v0,vs0,d0,ds0,p0,q0,hargs,rfl,rfl,h0,r0⟩:=trodAll_cons hA
 obtain ⟨v1,vs1,d1,ds1,p1,q1,rfl,rfl,rfl,h1,r1⟩:=trodAll_cons r0
 obtain ⟨rfl,rfl,rfl⟩:=trodAll_nil r1
 obtain rfl:args=#[v0,v1]:=by cases args;simp_all
 obtain ⟨rfl,rfl⟩:=trodVars_none hV
 obtain ⟨Ax0,lx0,cx0,rfl⟩:=okWide_slice Tryz.underlying22 (hval 0 22 v0 rfl rfl)
 obtain ⟨fuel0,hf0⟩:=h0
 obtain ⟨L0,cl0,l0,hv0,hll0,hLL0⟩:=open_mods (v:=.slice Ax0 lx0 cx0) hf0
 simp only [Value.slice.injEq] at hv0
 obtain ⟨rfl,rfl,rfl⟩:=hv0
 obtain ⟨Ax1,lx1,cx1,rfl⟩:=okWide_slice Tryz.underlying23 (hval 1 23 v1 rfl rfl)
 obtain ⟨fuel1,hf1⟩:=h1
 obtain ⟨L1,cl1,l1,hv1,hll1,hLL1⟩:=open_dos (v:=.slice Ax1 lx1 cx1) hf1
 simp only [Value.slice.injEq] at hv1
 obtain ⟨rfl,rfl,rfl⟩:=hv1
 clear hA0 hval0
 simp only [List.append_nil] at hW'
 have hlt:∀ x∈p0++p1,x.block<W.heap.size:=fun x hx=>by simpa using hW'.lt x hx
 refine (hmods_law Ax0 l0 cx0 Ax1 l1 cx1 W hLL0 hLL1).mono fun e W' ⟨he,hg⟩=>?_
 subst he
 exact ⟨_,rfl,_,_,_,[],_,[],hW',trodAll_mk1 (shut_bool Tryz.underlying4 _),(trodAll_cons_mk (Below.trod laid (by kernel_rfl) (of_decide_eq_true (by kernel_rfl)) ⟨fuel0,hf0⟩ hg (fun x hx=>hlt x (by simp [hx]))) (trodAll_cons_mk (Below.trod laid (by kernel_rfl) (of_decide_eq_true (by kernel_rfl)) ⟨fuel1,hf1⟩ hg (fun x hx=>hlt x (by simp [hx]))) trodAll_mk0)),rfl,hg.frame _,fun h=>by cases h⟩
theorem over:Rows.houseModsRow.holds Tryz.pinned (OpenSpec.ofChange Rows.houseModsSpec) :=
 OpenClaim.holds_of_wide 3 Tryz.f3 rfl rfl rfl rfl rfl rfl rfl ⟨rfl,rfl,rfl,rfl,rfl⟩ rfl rfl rfl rfl rfl (by kernel_rfl) Tryz.func3 (by kernel_rfl)
  (of_decide_eq_true (by kernel_rfl)) (by unfold Func.isWrapper;first | (rw [if_pos (by decide +kernel)];kernel_rfl) | (rw [if_neg (by decide +kernel)];exact ⟨rfl,rfl⟩))
  (fun os started H enc _=>lifted os started H enc)
theorem proved:Rows.HouseModsSaid:=over
end Go.Proofs.YtnbleebilmghcacGreat.houseMods
namespace Go.Proofs.YtnbleebilmghcacGreat
theorem houseMods_holds:Rows.HouseModsSaid:=houseMods.proved
#print axioms houseMods_holds
end Go.Proofs.YtnbleebilmghcacGreat
