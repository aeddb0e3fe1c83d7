/- The statement StoreTells holds for every store, world, being and numbers whose reading together is of bulk at most 1048576: Wrong, World, Of, Own, Spawn, Kill, Put and Drop tell what the document's do. The bound is the given one (UptoSaid); nothing else is asked. -/
import Derived.Test.YtnbleebilmghcaaRows
import Derived.Test.YtnbleebilmghcaaChecked
import Derived.JoinedCond
import Derived.Test.YtnbleebilmghcaaWX
import Derived.Test.YtnbleebilmghcaaWR
set_option linter.all false
set_option maxHeartbeats 1000000
set_option maxRecDepth 100000
namespace Go.Proofs.Ytnbleebilmghcaa.storeTells
open Go.ChangeShapes Go.WideShapes Go.ChangeAt Go.RowKit
theorem own:ownKnob Try.prog.godebug=none:=by kernel_rfl
theorem lifted (os:Os) (started:os.Started) (H:Type) (enc:TypeId×Value→H) (F:Stop.Interp) :
  ReturnsInHanded {} Try.checked os 9 .any ((Rows.OpenSpec.upto Rows.storeTellsSpec).pre6 enc Try.prog Try.f9 Rows.storeTellsUptoRow.domain false) (((Rows.OpenSpec.upto Rows.storeTellsSpec).at F).post enc Try.prog Try.f9 false true false false):=by
 refine returnsInHanded_of_cond (C:=Try.checked) (s:=Rows.OpenSpec.upto Rows.storeTellsSpec) (k:=Rows.uptoSmall) rfl own started (by kernel_rfl) Try.func9
  (OpenSpec.witness (enc:=enc) (C:=Try.checked) (s:=Rows.OpenSpec.upto Rows.storeTellsSpec) (k:=Rows.uptoSmall) rfl false ⟨#[],#[.agg #[.slice none 0 0,.slice none 0 0],.agg #[.slice none 0 0,.slice none 0 0],.agg #[.int .i64 0,.int .i64 0],.int .i64 0,.int .i64 0,.int .i64 0],[]⟩ 8 (by kernel_rfl) (by kernel_rfl) (by kernel_rfl)
   (x:=([.agg [.nil,.nil],.agg [.nil,.nil],.agg [.lit (.int .i64 0),.lit (.int .i64 0)],.lit (.int .i64 0),.lit (.int .i64 0),.lit (.int .i64 0)],[],[])) (by kernel_rfl) rfl (by kernel_rfl)) ?_
 intro W base args ds gs before hval0 hW _ hk0 _
 have hk:Rows.uptoSmall H (ds++gs)=true:=hk0
 have hval:∀ (j:Nat) t v,Try.f9.params[j]?=some t→args[j]?=some v→Value.okWide Try.prog W .any base t v:=hval0
 have hW':=hW
 obtain ⟨p,q,hA0,hV,rfl,hfz,hnd⟩:=hW
 have hA:DataW.TrodAll enc Try.prog W 0 (fun _=>true) true Try.f9.params.toList args.toList ds p:=hA0
 rw [Try.params9] at hA hval
 obtain ⟨v0,vs0,d0,ds0,p0,q0,hargs,rfl,rfl,h0,r0⟩:=trodAll_cons hA
 obtain ⟨v1,vs1,d1,ds1,p1,q1,rfl,rfl,rfl,h1,r1⟩:=trodAll_cons r0
 obtain ⟨v2,vs2,d2,ds2,p2,q2,rfl,rfl,rfl,h2,r2⟩:=trodAll_cons r1
 obtain ⟨v3,vs3,d3,ds3,p3,q3,rfl,rfl,rfl,h3,r3⟩:=trodAll_cons r2
 obtain ⟨v4,vs4,d4,ds4,p4,q4,rfl,rfl,rfl,h4,r4⟩:=trodAll_cons r3
 obtain ⟨v5,vs5,d5,ds5,p5,q5,rfl,rfl,rfl,h5,r5⟩:=trodAll_cons r4
 obtain ⟨rfl,rfl,rfl⟩:=trodAll_nil r5
 obtain rfl:args=#[v0,v1,v2,v3,v4,v5]:=by cases args;simp_all
 obtain ⟨rfl,rfl⟩:=trodVars_none hV
 have hbk:=of_decide_eq_true hk
 simp only [List.append_nil,Rows.uptoBulkAll] at hbk
 obtain ⟨T0,tcap0,G0,gcap0,l0,gens0,rfl,hbk0,hT0,hG0⟩:=open_storeB (hval 0 71 v0 rfl rfl) h0
 obtain ⟨A1,cap1,G1,gcap1,X1,rfl,hl1,hgl1,hX1⟩:=open_world (hval 1 38 v1 rfl rfl) h1
 obtain ⟨i2,g2,rfl⟩:=open_being (hval 2 40 v2 rfl rfl) h2
 obtain ⟨a3,rfl⟩:=okWide_int Try.underlying3 (hval 3 3 v3 rfl rfl)
 obtain ⟨a4,rfl⟩:=okWide_int Try.underlying3 (hval 4 3 v4 rfl rfl)
 obtain ⟨a5,rfl⟩:=okWide_int Try.underlying3 (hval 5 3 v5 rfl rfl)
 clear hA0 hval0
 simp only [List.append_nil] at hW'
 have hlt:∀ x∈p0++(p1++(p2++(p3++(p4++p5)))),x.block<W.heap.size:=fun x hx=>by simpa using hW'.lt x hx
 obtain ⟨hll,hff,tabs0,hTog,hrl⟩:=store_few hT0 (N:=1048576) (by omega) (by omega)
 refine (stells_law T0 tcap0 G0 gcap0 l0 tabs0 ⟨insTo (tabs0.flatMap (·.rows)) (tabs0.flatMap (·.rows)).length,gens0⟩ A1 cap1 G1 gcap1 X1 i2 g2 a3 a4 a5 W hTog rfl hG0 (by show gens0.length≤4194304;omega) hrl hl1 hX1).mono fun e W' ⟨he,hg⟩=>?_
 subst he
 exact ⟨_,rfl,_,_,_,[],_,[],hW',trodAll_mk1 (shut_bool Try.underlying4 _),(trodAll_cons_mk (Below.trod laid (by kernel_rfl) (of_decide_eq_true (by kernel_rfl)) h0 hg (fun x hx=>hlt x (by simp [hx]))) (trodAll_cons_mk (Below.trod laid (by kernel_rfl) (of_decide_eq_true (by kernel_rfl)) h1 hg (fun x hx=>hlt x (by simp [hx]))) (trodAll_cons_mk (Below.trod laid (by kernel_rfl) (of_decide_eq_true (by kernel_rfl)) h2 hg (fun x hx=>hlt x (by simp [hx]))) (trodAll_cons_mk (Below.trod laid (by kernel_rfl) (of_decide_eq_true (by kernel_rfl)) h3 hg (fun x hx=>hlt x (by simp [hx]))) (trodAll_cons_mk (Below.trod laid (by kernel_rfl) (of_decide_eq_true (by kernel_rfl)) h4 hg (fun x hx=>hlt x (by simp [hx]))) (trodAll_cons_mk (Below.trod laid (by kernel_rfl) (of_decide_eq_true (by kernel_rfl)) h5 hg (fun x hx=>hlt x (by simp [hx]))) trodAll_mk0)))))),rfl,hg.frame _,fun h=>by cases h⟩
theorem over:Rows.storeTellsUptoRow.holds Try.pinned (Rows.OpenSpec.upto Rows.storeTellsSpec) :=
 OpenClaim.holds_of_cond 9 Try.f9 rfl rfl rfl rfl rfl rfl rfl ⟨rfl,rfl,rfl,rfl,rfl⟩ rfl rfl rfl rfl rfl (by kernel_rfl) Try.func9 (by kernel_rfl)
  (of_decide_eq_true (by kernel_rfl)) (by unfold Func.isWrapper;first | (rw [if_pos (by decide +kernel)];kernel_rfl) | (rw [if_neg (by decide +kernel)];exact ⟨rfl,rfl⟩))
  (fun os started H enc _ F=>lifted os started H enc F)
theorem proved:Rows.StoreTellsUptoSaid :=
 over
end Go.Proofs.Ytnbleebilmghcaa.storeTells
namespace Go.Proofs.Ytnbleebilmghcaa
theorem storeTells_holds:Rows.StoreTellsUptoSaid:=storeTells.proved
#print axioms storeTells_holds
end Go.Proofs.Ytnbleebilmghcaa
