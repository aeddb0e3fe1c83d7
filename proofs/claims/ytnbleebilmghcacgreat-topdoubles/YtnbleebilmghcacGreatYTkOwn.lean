/- Things to do, in memory of their own. -/
import Derived.Test.YtnbleebilmghcacGreatYRnSame
import Derived.Test.YtnbleebilmghcacGreatYHo13
import Derived.Test.YtnbleebilmghcacGreatYHoOpen
set_option linter.all false
namespace Go.Proofs.YtnbleebilmghcacGreat
open Go Go.RowKit
theorem zBD (d:DoI):∀ u∈zx d,u.oneCell'=true:=fun u hu=>by
 simp only [zx,List.mem_cons,List.not_mem_nil,or_false] at hu
 rcases hu with rfl | rfl | rfl | rfl | rfl | rfl | rfl | rfl | rfl | rfl | rfl | rfl <;> rfl
theorem info46:(Tryz.prog.info? 46).map (fun i=>(i.zero,i.size,i.bytes))=some (some (.agg #[.int .i64 0,.int .i64 0,.int .i64 0,.int .i64 0,.int .i64 0,.int .i64 0,.int .i64 0,.int .i64 0,.int .i64 0,.slice none 0 0,.int .i64 0,.int .i64 0]),12,112):=by kernel_rfl
theorem dos_own {W:World} {base c:Nat} {A:Option Addr} {l:List DoI} (h:W.ownsRow base 46 12 (.slice A l.length c) l.length (zAj zx l)) (ha:∀ d∈l,ActsAt W d.s.A d.s.len d.s.a):DosAt W A l:=⟨GAt.own zCn h,ha⟩
def tickD:DoI:=⟨6,0,0,0,0,0,dS,0,0⟩
theorem zCq (W:World):ActsAt W dS.A dS.len dS.a:=fun j hj=>by simp [dS] at hj
theorem do_new (W:World) (d:DoI):∀ j u,(zx d)[j]?=some u→(W.alloc (.cells (zx d).toArray 46)).cell? ((⟨W.heap.size,0,none⟩:Addr).add j)=some u:=fun j u hj=>by
 have h:=Bxs.start W [(zx d,46)]
 have:=h.cell 0 rfl j hj
 rw [Nat.add_zero] at this
 rw [Addr.add_mid,Nat.zero_add]
 exact this
theorem own_empty (W:World) (e size:Nat):(W.alloc (.cells #[] e)).ownsRow W.heap.size e size (.slice (some ⟨W.heap.size,0,none⟩) 0 0) 0 []:=by
 refine ⟨by simp,.inr ⟨W.heap.size,0,#[],rfl,Nat.le_refl _,?_,Nat.le_refl _,Nat.zero_le _,by simp,by simp⟩⟩
 show (W.heap.push _)[W.heap.size]?=_
 simp
theorem wpList_appendC {P:Program} (w:World) {ops:Array Oper} {rest:List Oper} {o:Oper} {a:Act} {Q:Exit→Act→World→Prop} (hgd:o.guard=none) (s x:Operand) (t:TypeId)
  (ho:o.op=.call { callee:=.builtin .append,args:=#[s,x],argTypes:=#[t,t] })
  (base:Nat) (e:TypeId) (i:TypeInfo) (z:Value) (size bytes:Nat) (ht:P.underlying t=some (.slice e)) (hi:P.info? e=some i) (hz:i.zero=some z)
  (hsize:i.size=size) (hby:i.bytes=bytes) (hzs:z.cells.size=size) (hsz:0<size)
  (b:Nat) (hs:a.eval s=.slice (some ⟨b,0,none⟩) 0 0) (hown:w.ownsRow base e size (.slice (some ⟨b,0,none⟩) 0 0) 0 [])
  (A:Option Addr) (m c:Nat) (news:List Value) (hx:a.eval x=.slice A m c) (hc:Copies w A m size news)
  (h63:m≤maxLen) (hbytes:m*bytes≤140737488355328) (hbase:base≤w.heap.size)
  (h:∀ v' w',w'.ownsRow base e size v' m news→w.grownBy w' (some b)→(v'.ownBlock=some b∨v'.ownBlock=some w.heap.size)→wpList P ops Q rest (a.put o.dst v') w'):wpList P ops Q (o :: rest) a w:=by
 obtain ⟨h1,h2,h3⟩:=hc
 rcases h3 with rfl | ⟨ad,rfl,h3⟩
 ·have hx0:news=[]:=List.eq_nil_of_length_eq_zero (by omega)
  subst hx0
  have hr:∀ ty,(Builtin.append_ #[t,t] ty #[.slice (some ⟨b,0,none⟩) 0 0,.slice A 0 c]).run P w=.ok (.slice (some ⟨b,0,none⟩) 0 0) w:=fun ty=>by
   cases A <;> simp [Builtin.append_,run_underlying ht,sizeOf,typeInfo,hi,Builtin.lenOf,Builtin.firstCells,loadCells,loadCellsFrom,storeCells]
  refine wpList_plain hgd fun K hK=>?_
  unfold Oper.wp execOp
  simp only [ho,resolve,invoke,builtin,Sem.run_bind,Sem.run_pure,Result.andThen_ok,List.map_toArray,List.map_cons,List.map_nil,hs,hx,hr]
  exact hK _ _ (h _ _ hown ⟨rfl,rfl,rfl,Nat.le_refl _,fun _ _ _=>rfl⟩ (.inl rfl))
 ·refine wpList_append_own_at w hgd s x t ho base e i z size bytes ht hi hz hsize hby hzs hsz _ 0 [] hs hown ad m c news hx h1 h3 h2 (by omega) (by rw [Nat.zero_add];omega) hbase ?_
  intro v' w' g1 g2 _ g4
  rw [Nat.zero_add,List.nil_append] at g1
  exact h v' w' g1 g2 g4
theorem wmTo_zero (m:List ModI):∀ n j,(wmTo m n j).1=0→wmTo m n j=(0,0)
 | 0,_,_=>rfl
 | n+1,j,h=>by
  rw [wmTo] at h ⊢
  split at h
  ·rename_i hc
   rw [if_pos hc]
   exact wmTo_zero m n (j+1) h
  ·cases h
theorem wm_zero {m:List ModI} (h:(wmF m).1=0):wmF m=(0,0):=by
 unfold wmF at h ⊢
 split at h
 ·cases h
 ·rename_i hc
  rw [if_neg hc]
  exact wmTo_zero m _ _ h
end Go.Proofs.YtnbleebilmghcacGreat
