/- Things to do, in memory of their own. -/
import Derived.Test.YtnbleebilmghcacGreatTRnSame
import Derived.Test.YtnbleebilmghcacGreatTHo13
import Derived.Test.YtnbleebilmghcacGreatTHoOpen
set_option linter.all false
namespace Go.Proofs.YtnbleebilmghcacGreat
open Go Go.RowKit
theorem zCc (d:DoI):∀ u∈zAb d,u.oneCell'=true:=fun u hu=>by
 simp only [zAb,List.mem_cons,List.not_mem_nil,or_false] at hu
 rcases hu with rfl | rfl | rfl | rfl | rfl | rfl | rfl | rfl | rfl | rfl | rfl | rfl <;> rfl
theorem info46:(Tryz.prog.info? 46).map (fun i=>(i.zero,i.size,i.bytes))=some (some (.agg #[.int .i64 0,.int .i64 0,.int .i64 0,.int .i64 0,.int .i64 0,.int .i64 0,.int .i64 0,.int .i64 0,.int .i64 0,.slice none 0 0,.int .i64 0,.int .i64 0]),12,112):=by kernel_rfl
theorem dos_own {W:World} {base c:Nat} {A:Option Addr} {l:List DoI} (h:W.ownsRow base 46 12 (.slice A l.length c) l.length (zBO zAb l)) (ha:∀ d∈l,ActsAt W d.s.A d.s.len d.s.a):DosAt W A l:=⟨GAt.own doCells_len h,ha⟩
def tickD:DoI:=⟨6,0,0,0,0,0,dS,0,0⟩
theorem acts_dS (W:World):ActsAt W dS.A dS.len dS.a:=fun j hj=>by simp [dS] at hj
theorem do_new (W:World) (d:DoI):∀ j u,(zAb d)[j]?=some u→(W.alloc (.cells (zAb d).toArray 46)).cell? ((⟨W.heap.size,0,none⟩:Addr).add j)=some u:=fun j u hj=>by
 have h:=Bxs.start W [(zAb d,46)]
 have:=h.cell 0 rfl j hj
 rw [Nat.add_zero] at this
 rw [Addr.add_mid,Nat.zero_add]
 exact this
end Go.Proofs.YtnbleebilmghcacGreat
