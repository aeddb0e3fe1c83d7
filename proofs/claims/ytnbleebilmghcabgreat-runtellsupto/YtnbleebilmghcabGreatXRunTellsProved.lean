/- The statement RunTells holds for every store and every list of systems whose reading together is of bulk at most 1048576: Run and All tell what the document's do. The bound is the given one (UptoSaid); nothing else is asked. -/
import Derived.Test.YtnbleebilmghcabGreatRows
import Derived.Test.YtnbleebilmghcabGreatChecked
import Derived.JoinedCond
import Derived.Test.YtnbleebilmghcabGreatWX
import Derived.Test.YtnbleebilmghcabGreatWR
set_option linter.all false
set_option maxHeartbeats 1000000
set_option maxRecDepth 100000
namespace Go.Proofs.YtnbleebilmghcabGreat.runTells
open Go.ChangeShapes Go.WideShapes Go.ChangeAt Go.RowKit
theorem own:ownKnob Tryz.prog.godebug=none:=by kernel_rfl
theorem lifted (os:Os) (started:os.Started) (H:Type) (enc:TypeId×Value→H) (F:Stop.Interp) :
  ReturnsInHanded {} Tryz.checked os 3 .any ((Rows.OpenSpec.upto Rows.runTellsSpec).pre6 enc Tryz.prog Tryz.f3 Rows.runTellsUptoRow.domain false) (((Rows.OpenSpec.upto Rows.runTellsSpec).at F).post enc Tryz.prog Tryz.f3 false true false false):=by
 refine returnsInHanded_of_cond (C:=Tryz.checked) (s:=Rows.OpenSpec.upto Rows.runTellsSpec) (k:=Rows.uptoSmall) rfl own started (by kernel_rfl) Tryz.func3
  (OpenSpec.witness (enc:=enc) (C:=Tryz.checked) (s:=Rows.OpenSpec.upto Rows.runTellsSpec) (k:=Rows.uptoSmall) rfl false ⟨#[],#[.agg #[.slice none 0 0,.slice none 0 0],.slice none 0 0],[]⟩ 8 (by kernel_rfl) (by kernel_rfl) (by kernel_rfl)
   (x:=([.agg [.nil,.nil],.nil],[],[])) (by kernel_rfl) rfl (by kernel_rfl)) ?_
 intro W base args ds gs before hval0 hW _ hk0 _
 have hk:Rows.uptoSmall H (ds++gs)=true:=hk0
 have hval:∀ (j:Nat) t v,Tryz.f3.params[j]?=some t→args[j]?=some v→Value.okWide Tryz.prog W .any base t v:=hval0
 have hW':=hW
 obtain ⟨p,q,hA0,hV,rfl,hfz,hnd⟩:=hW
 have hA:DataW.TrodAll enc Tryz.prog W 0 (fun _=>true) true Tryz.f3.params.toList args.toList ds p:=hA0
 rw [Tryz.params3] at hA hval
 obtain ⟨v0,vs0,d0,ds0,p0,q0,hargs,rfl,rfl,h0,r0⟩:=trodAll_cons hA
 obtain ⟨v1,vs1,d1,ds1,p1,q1,rfl,rfl,rfl,h1,r1⟩:=trodAll_cons r0
 obtain ⟨rfl,rfl,rfl⟩:=trodAll_nil r1
 obtain rfl:args=#[v0,v1]:=by cases args;simp_all
 obtain ⟨rfl,rfl⟩:=trodVars_none hV
 have hbk:=of_decide_eq_true hk
 simp only [List.append_nil,Rows.uptoBulkAll] at hbk
 obtain ⟨T0,tcap0,G0,gcap0,l0,gens0,rfl,hbk0,hT0,hG0⟩:=open_storeB (hval 0 25 v0 rfl rfl) h0
 obtain ⟨Ax1,lx1,cx1,rfl⟩:=okWide_slice Tryz.underlying26 (hval 1 26 v1 rfl rfl)
 obtain ⟨fuel1,hf1⟩:=h1
 obtain ⟨L1,cl1,S1,hv1,hbk1,hLL1⟩:=open_syssB (v:=.slice Ax1 lx1 cx1) hf1
 simp only [Value.slice.injEq] at hv1
 obtain ⟨rfl,rfl,rfl⟩:=hv1
 clear hA0 hval0
 simp only [List.append_nil] at hW'
 have hlt:∀ x∈p0++p1,x.block<W.heap.size:=fun x hx=>by simpa using hW'.lt x hx
 obtain ⟨hll,hff,tabs0,hTog,hrl⟩:=store_few hT0 (N:=1048576) (by omega) (by omega)
 refine (rtells_law T0 tcap0 G0 gcap0 l0 tabs0 ⟨insTo (tabs0.flatMap (·.rows)) (tabs0.flatMap (·.rows)).length,gens0⟩ Ax1 S1.length cx1 (fun j=>S1.getD j dZs) W ⟨hTog,rfl,hG0,by show gens0.length≤4194304;omega,hrl⟩ (by simp only at hbk1;omega) hLL1).mono fun e W' ⟨he,hg⟩=>?_
 subst he
 exact ⟨_,rfl,_,_,_,[],_,[],hW',trodAll_mk1 (shut_bool Tryz.underlying4 _),(trodAll_cons_mk (Below.trod laid (by kernel_rfl) (of_decide_eq_true (by kernel_rfl)) h0 hg (fun x hx=>hlt x (by simp [hx]))) (trodAll_cons_mk (Below.trod laid (by kernel_rfl) (of_decide_eq_true (by kernel_rfl)) ⟨fuel1,hf1⟩ hg (fun x hx=>hlt x (by simp [hx]))) trodAll_mk0)),rfl,hg.frame _,fun h=>by cases h⟩
theorem over:Rows.runTellsUptoRow.holds Tryz.pinned (Rows.OpenSpec.upto Rows.runTellsSpec) :=
 OpenClaim.holds_of_cond 3 Tryz.f3 rfl rfl rfl rfl rfl rfl rfl ⟨rfl,rfl,rfl,rfl,rfl⟩ rfl rfl rfl rfl rfl (by kernel_rfl) Tryz.func3 (by kernel_rfl)
  (of_decide_eq_true (by kernel_rfl)) (by unfold Func.isWrapper;first | (rw [if_pos (by decide +kernel)];kernel_rfl) | (rw [if_neg (by decide +kernel)];exact ⟨rfl,rfl⟩))
  (fun os started H enc _ F=>lifted os started H enc F)
theorem proved:Rows.RunTellsUptoSaid :=
 over
end Go.Proofs.YtnbleebilmghcabGreat.runTells
namespace Go.Proofs.YtnbleebilmghcabGreat
theorem runTells_holds:Rows.RunTellsUptoSaid:=runTells.proved
#print axioms runTells_holds
end Go.Proofs.YtnbleebilmghcabGreat
