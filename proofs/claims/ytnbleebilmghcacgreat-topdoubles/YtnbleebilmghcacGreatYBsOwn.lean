/- Systems in memory of their own, one behind the other. -/
import Derived.Test.YtnbleebilmghcacGreatKO
import Derived.Test.YtnbleebilmghcacGreatKT
import Derived.Test.YtnbleebilmghcacGreatYBsMath
import Derived.Test.YtnbleebilmghcacGreatYRnSame
set_option linter.all false
namespace Go.Proofs.YtnbleebilmghcacGreat
open Go Go.RowKit
attribute [local go_sem ↓] Go.wp_at_zero Go.wp_at_succ
def zAB (s:SysI):List Value:=[.int .i64 s.m,.int .i64 s.al,.int .i64 s.no,.slice s.A s.len s.cap]
def zAN (l:List SysI):List Value:=l.flatMap zAB
theorem sysCells_len (s:SysI):(zAB s).length=4:=rfl
theorem sysCells_one (s:SysI):∀ u∈zAB s,u.oneCell'=true:=fun u hu=>by
 simp only [zAB,List.mem_cons,List.not_mem_nil,or_false] at hu
 rcases hu with rfl | rfl | rfl | rfl <;> rfl
theorem sysCellsL_snoc (l:List SysI) (s:SysI):zAN (l++[s])=zAN l++zAB s:=by simp [zAN]
theorem sysCellsL_get:∀ (l:List SysI) (j i:Nat),i<4→(zAN l)[j*4+i]?=(l[j]?).bind (fun s=>(zAB s)[i]?)
 | [],j,i,_=>by simp [zAN]
 | s :: l,0,i,hi=>by
  rw [Nat.zero_mul,Nat.zero_add]
  show ((zAB s)++zAN l)[i]?=_
  rw [List.getElem?_append_left (by rw [sysCells_len];exact hi)]
  rfl
 | s :: l,j+1,i,hi=>by
  show ((zAB s)++zAN l)[(j+1)*4+i]?=_
  rw [List.getElem?_append_right (by rw [sysCells_len];omega),sysCells_len,show (j+1)*4+i - 4=j*4+i by omega,sysCellsL_get l j i hi]
  simp
theorem sysAt_new (W:World) (s:SysI):∀ j u,(zAB s)[j]?=some u→(W.alloc (.cells #[.int .i64 s.m,.int .i64 s.al,.int .i64 s.no,.slice s.A s.len s.cap] 44)).cell? ((⟨W.heap.size,0,none⟩:Addr).add j)=some u:=fun j u hj=>by
 have h:=Bxs.start W [(zAB s,44)]
 have:=h.cell 0 rfl j hj
 rw [Nat.add_zero] at this
 rw [Addr.add_mid,Nat.zero_add]
 exact this
theorem syss_own {W:World} {base c:Nat} {A:Option Addr} {l:List SysI} (h:W.ownsRow base 44 4 (.slice A l.length c) l.length (zAN l)) (ha:∀ s∈l,ActsAt W s.A s.len s.a) (d:SysI):SyssAt W A l.length (fun j=>l.getD j d):=fun j hj=>by
 obtain ⟨g,cap,e,_,_⟩:=zAP h (by omega)
 injection e with e1 e2 e3
 subst e1
 have hs:l[j]?=some l[j]:=List.getElem?_eq_getElem hj
 have hc:=fun i (hi:i<4) u hu=>ze (e3▸h) (j:=j*4+i) (u:=u) (by rw [sysCellsL_get l j i hi,hs];exact hu)
 have hg:l.getD j d=l[j]:=by rw [List.getD_eq_getElem?_getD,hs];rfl
 refine ⟨g,0,rfl,?_⟩
 show SysAt W g (0+j*4) (l.getD j d)
 rw [hg,Nat.zero_add]
 exact ⟨hc 0 (by omega) _ rfl,hc 1 (by omega) _ rfl,hc 2 (by omega) _ rfl,hc 3 (by omega) _ rfl,ha _ (List.getElem_mem hj)⟩
theorem infoS:(Tryz.prog.info? 44).map (fun i=>(i.zero,i.size,i.bytes))=some (some (.agg #[.int .i64 0,.int .i64 0,.int .i64 0,.slice none 0 0]),4,48):=by kernel_rfl
def turned (t:Bool) (l:List Nat):List Nat:=if t then l.reverse else l
theorem take_one (l:List Nat) (j:Nat) (h:j<l.length):l.take (j+1)=l.take j++[l.getD j 0]:=by
 rw [List.take_succ_eq_append_getElem h,List.getD_eq_getElem?_getD,List.getElem?_eq_getElem h];rfl
theorem flatR_lt {t:Bool} {cl:Nat→Nat→Bool} {n:Nat}:∀ x∈flatR t (mkB cl n),x<n:=fun x hx=>by
 have:=((flatR_perm t _).trans (mkB_perm cl n)).mem_iff.1 hx
 simpa using this
theorem flatR_len {t:Bool} {cl:Nat→Nat→Bool} {n:Nat}:(flatR t (mkB cl n)).length=n:=by
 rw [((flatR_perm t _).trans (mkB_perm cl n)).length_eq,List.length_range]
end Go.Proofs.YtnbleebilmghcacGreat
