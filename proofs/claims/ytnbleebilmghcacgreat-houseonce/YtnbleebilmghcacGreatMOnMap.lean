/- A map of beings. -/
import Derived.Maps.OwnSet
import Derived.DeepKeys4
import Derived.Test.YtnbleebilmghcacGreatMTkOwn
import Derived.Test.YtnbleebilmghcacGreatMOnMath
set_option linter.all false
set_option maxRecDepth 20000
namespace Go.Proofs.YtnbleebilmghcacGreat
open Go Go.RowKit
theorem lay_out:laidOutB Tryz.prog=true:=by kernel_rfl
theorem wide39:(match Tryz.prog.underlying 39 with | some (.array _ _) | some (.struct _)=>true | _=>false)=true:=by kernel_rfl
theorem law39:Maps.Keyed Tryz.prog 39:=Maps.Keyed.of_law (deep_law_laid lay_out (m:=2) (by omega) (of_decide_eq_true (by kernel_rfl)) (by kernel_rfl) wide39)
theorem kt39:Tryz.prog.keyType 39=true:=by kernel_rfl
theorem co39:Tryz.prog.cellsOf 39=2:=by kernel_rfl
theorem co3:Tryz.prog.cellsOf 3=1:=by kernel_rfl
theorem zero4 (w:World):(zeroValue 4).run Tryz.prog w=.ok (.bool false) w:=by kernel_rfl
def kb (b:Int×Int):Lit:=.string (keyBytes [.int .i64 b.1,.int .i64 b.2])
theorem key39 {a b:Int} (wa:(Lit.int .i64 a).wf=true) (wb:(Lit.int .i64 b).wf=true):keyOf Tryz.prog 39 (.agg #[.int .i64 a,.int .i64 b])=some (kb (a,b)):=by
 obtain ⟨m,hm⟩:∃ m,Tryz.prog.types.size=m+1:=⟨Tryz.prog.types.size - 1,by kernel_rfl⟩
 unfold keyOf
 simp only [Tryz.underlying39]
 rw [if_pos (by simp [kt39,Value.formed,Tryz.underlying39,co39]),hm]
 unfold Program.keyLits
 simp only [Tryz.underlying39,Value.cells]
 rw [if_pos (by rw [co39];exact ⟨rfl,by kernel_rfl⟩)]
 simp [Program.keyLits,Tryz.underlying3,co3,wa,wb,kb]
theorem plainElem_bool_inv {v:Value} {x:Bool} {ps:List MemPlace} (h:plainElem (H:=Unit) Tryz.prog 4 v=some (.lit (.bool x),ps)):v=.bool x:=by
 unfold plainElem at h
 rw [Tryz.underlying4] at h
 cases v <;> simp at h
 rw [h.1]
def Wfb (b:Int×Int):Prop:=(Lit.int .i64 b.1).wf=true∧(Lit.int .i64 b.2).wf=true
theorem kb_inj {a b:Int×Int} (ha:Wfb a) (hb:Wfb b) (h:kb a=kb b):a=b:=by
 have:=law39.inj (key39 ha.1 ha.2) (by rw [h];exact key39 hb.1 hb.2)
 simp only [Value.agg.injEq,Array.mk.injEq,List.cons.injEq,Value.int.injEq,true_and,and_true] at this
 exact Prod.ext this.1 this.2
structure KB (D:DataW Unit) (bs:List (Int×Int)):Prop where
 tidy:Maps.Tidy D
 wf:∀ b∈bs,Wfb b
 at_:∀ b,Wfb b→D.atKey (kb b) (.lit (.bool false))=.lit (.bool (decide (b∈bs)))
theorem KB.start:KB (.map []) []:=⟨Maps.tidy_empty,(fun b hb=>by cases hb),fun b _=>rfl⟩
theorem KB.put {D:DataW Unit} {bs:List (Int×Int)} (h:KB D bs) {b:Int×Int} (hw:Wfb b):KB (D.put (kb b) (.lit (.bool true))) (bs++[b]):=by
 have hk:WideAt.IsKeyLit (kb b):=law39.key (key39 hw.1 hw.2)
 refine ⟨h.tidy.put hk _,fun x hx=>?_,fun x hx=>?_⟩
 ·rcases List.mem_append.1 hx with hx | hx
  ·exact h.wf x hx
  ·rw [List.mem_singleton] at hx;subst hx;exact hw
 ·by_cases e:x=b
  ·subst e
   rw [Maps.atKey_put_same h.tidy.isMap hk]
   simp
  ·rw [Maps.atKey_put_other (fun e'=>e (kb_inj hx hw (by first | exact e' | exact e'.symm))),h.at_ x hx]
   simp [e]
theorem KB.look {W:World} {b n:Nat} {D:DataW Unit} {bs:List (Int×Int)} (h:W.ownsMap Tryz.prog 39 (plainElem Tryz.prog 4) b n D) (hk:KB D bs) {x:Int×Int} (hx:Wfb x):(Instr.lookup 67 (.map (some b)) (.agg #[.int .i64 x.1,.int .i64 x.2]) false).run Tryz.prog W=.ok (.bool (decide (x∈bs))) W:=by
 obtain ⟨v,ps,hrun,hv⟩:=h.lookup law39 Tryz.underlying67 (zero4 W) (plainElem_bool Tryz.underlying4 false) (key39 hx.1 hx.2)
 rw [show kb (x.1,x.2)=kb x from rfl,hk.at_ x hx] at hv
 rw [hrun,plainElem_bool_inv hv]
theorem spawn_wf {X:Wd} {has n:Int} (h:(zR X has n).1=0):Wfb ((zR X has n).2.1.1,(zR X has n).2.1.2):=by
 obtain ⟨i,g,e,_,hr,_,⟨j,hj,hf⟩,_⟩:=new_facts h
 rw [e]
 rcases zAv (zR X has n).2.2 i g with h' | ⟨k,hk,_,h1,h2⟩
 ·omega
 ·have b0:=hr.i0 k hk
  have b1:=hr.il k hk
  have b2:=hr.ge k hk
  have b3:=hr.gl
  have b4:=hr.gv (zO (zR X has n).2.2 k).ix.toNat (by omega)
  rw [←b2] at b4
  rw [h1] at b0 b1
  rw [h2] at b4
  exact ⟨WalkArith.wf_i64 (by omega),WalkArith.wf_i64 (by omega)⟩
end Go.Proofs.YtnbleebilmghcacGreat
