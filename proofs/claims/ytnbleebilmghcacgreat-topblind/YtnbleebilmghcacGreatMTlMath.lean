/- Who may not read learns nothing. -/
import Derived.Test.YtnbleebilmghcacGreatMRnWr
import Derived.Test.YtnbleebilmghcacGreatMTpFun
set_option linter.all false
namespace Go.Proofs.YtnbleebilmghcacGreat
open Go Go.RowKit
def blA (f t:Nat) (g1 g2 g3:Nat):List DoI:=[sysD (zAE (f:Int)) ⟨2,(t:Int),(f:Int),0⟩ g1,sysD (zAE (f:Int)) ⟨6,0,0,0⟩ g2,sysD 0 ⟨7,zAE (t:Int),0,0⟩ g3]
theorem in_al:∀ m:Fin 256,∀ k:Fin 8,inB (bits .or .i64 (bits .or .i64 (bits .or .i64 0 (bits .or .i64 0 (zAE ((k.val:Nat):Int)))) (zAE ((k.val:Nat):Int))) 0) (m.val:Int)=bt (m.val:Int) k.val:=by decide +kernel
theorem in_al2:∀ m:Fin 256,∀ k:Fin 8,inB (bits .or .i64 (bits .or .i64 (bits .or .i64 0 0) (zAE ((k.val:Nat):Int))) 0) (m.val:Int)=bt (m.val:Int) k.val:=by decide +kernel
theorem in_wr:∀ m:Fin 256,∀ k:Fin 8,inB (bits .or .i64 0 (bits .or .i64 0 (zAE ((k.val:Nat):Int)))) (m.val:Int)=bt (m.val:Int) k.val:=by decide +kernel
theorem in_wr2:∀ m:Fin 256,∀ k:Fin 8,inB (bits .or .i64 0 (zAE ((k.val:Nat):Int))) (m.val:Int)=bt (m.val:Int) k.val:=by decide +kernel
theorem in_no:∀ m:Fin 256,inB (bits .or .i64 0 0) (m.val:Int)=true:=by decide +kernel
theorem in_no2:∀ m:Fin 256,inB (bits .or .i64 (bits .or .i64 (bits .or .i64 0 0) 0) 0) (m.val:Int)=true:=by decide +kernel
theorem sw_1:∀ f t:Fin 8,(wrF 0 (zAE ((f.val:Nat):Int)) 0 (fun _=>⟨2,((t.val:Nat):Int),((f.val:Nat):Int),0⟩) 1).1=0:=by decide +kernel
theorem sw_2:∀ f:Fin 8,(wrF 0 (zAE ((f.val:Nat):Int)) 0 (fun _=>⟨6,0,0,0⟩) 1).1=0:=by decide +kernel
theorem sw_3:∀ t:Fin 8,(wrF 0 0 0 (fun _=>⟨7,zAE ((t.val:Nat):Int),0,0⟩) 1).1=0:=by decide +kernel
theorem ref_may {mods:List ModI} {n:Nat} {x:SysI} (h1:(sw x).1=0) (h2:x.m<(mods.length:Int)) (h4:n<12):refF mods n x=if mayB (mods.getD x.m.toNat dM).rd (mods.getD x.m.toNat dM).wr (mods.getD x.m.toNat dM).lf x.al x.no x.a x.len=true then 0 else 8:=by
 unfold refF
 rw [if_neg (by simpa using h1),if_neg (by omega)]
 cases mayB (mods.getD x.m.toNat dM).rd (mods.getD x.m.toNat dM).wr (mods.getD x.m.toNat dM).lf x.al x.no x.a x.len
 ·rfl
 ·rw [if_neg (by simp),if_neg (by omega)];rfl
theorem do_sys5 {mods:List ModI} {h:HI} {d:DoI} (hk:d.k=5):(doF mods h d).1.e=refF mods h.S.length d.s∧(doF mods h d).2.S.length≤h.S.length+1:=by
 unfold doF
 rw [if_neg (by omega),if_neg (by omega),if_neg (by omega),if_neg (by omega),if_pos hk]
 split
 ·rename_i e
  refine ⟨e.symm,?_⟩
  simp
 ·exact ⟨rfl,Nat.le_succ _⟩
theorem bl_e (r u:Int) (lf:Bool) (f t:Nat) (hr:0≤r∧r≤255) (hu:0≤u∧u≤255) (hf:f<8) (ht:t<8) (g1 g2 g3:Nat) :
  (zAa [⟨r,u,lf⟩] (blA f t g1 g2 g3)).1.map (·.e)=[if (bt r f && bt u t)=true then 0 else 8,if (bt r f && lf)=true then 0 else 8,if (bt u t && lf)=true then 0 else 8]:=by
 obtain ⟨m,rfl⟩:=zCV r hr.1 hr.2
 obtain ⟨q,rfl⟩:=zCV u hu.1 hu.2
 have s1:=do_sys5 (mods:=[⟨(m.val:Int),(q.val:Int),lf⟩]) (h:=h0) (d:=sysD (zAE (f:Int)) ⟨2,(t:Int),(f:Int),0⟩ g1) rfl
 generalize hh1:doF [⟨(m.val:Int),(q.val:Int),lf⟩] h0 (sysD (zAE (f:Int)) ⟨2,(t:Int),(f:Int),0⟩ g1)=p1 at s1
 have s2:=do_sys5 (mods:=[⟨(m.val:Int),(q.val:Int),lf⟩]) (h:=p1.2) (d:=sysD (zAE (f:Int)) ⟨6,0,0,0⟩ g2) rfl
 generalize hh2:doF [⟨(m.val:Int),(q.val:Int),lf⟩] p1.2 (sysD (zAE (f:Int)) ⟨6,0,0,0⟩ g2)=p2 at s2
 have s3:=do_sys5 (mods:=[⟨(m.val:Int),(q.val:Int),lf⟩]) (h:=p2.2) (d:=sysD 0 ⟨7,zAE (t:Int),0,0⟩ g3) rfl
 generalize hh3:doF [⟨(m.val:Int),(q.val:Int),lf⟩] p2.2 (sysD 0 ⟨7,zAE (t:Int),0,0⟩ g3)=p3 at s3
 have e:(zAa [⟨(m.val:Int),(q.val:Int),lf⟩] (blA f t g1 g2 g3)).1=[p1.1,p2.1,p3.1]:=by
  unfold zAa blA
  simp only [zAF,List.nil_append,List.cons_append,hh1,hh2,hh3]
 have z0:h0.S.length=0:=rfl
 rw [ref_may (x:=(sysD (zAE (f:Int)) ⟨2,(t:Int),(f:Int),0⟩ g1).s) (sw_1 ⟨f,hf⟩ ⟨t,ht⟩) (by simp [sysD]) (by omega)] at s1
 rw [ref_may (x:=(sysD (zAE (f:Int)) ⟨6,0,0,0⟩ g2).s) (sw_2 ⟨f,hf⟩) (by simp [sysD]) (by omega)] at s2
 rw [ref_may (x:=(sysD 0 ⟨7,zAE (t:Int),0,0⟩ g3).s) (sw_3 ⟨t,ht⟩) (by simp [sysD]) (by omega)] at s3
 have m1:mayB (m.val:Int) (q.val:Int) lf (zAE (f:Int)) 0 (fun _=>⟨2,(t:Int),(f:Int),0⟩) 1=(bt (m.val:Int) f && bt (q.val:Int) t):=by
  show (inB _ _ && (inB _ _ && (lf || !false)))=_
  rw [←in_al m ⟨f,hf⟩,←in_wr q ⟨t,ht⟩]
  simp only [Bool.not_false,Bool.or_true,Bool.and_true]
  rfl
 have m2:mayB (m.val:Int) (q.val:Int) lf (zAE (f:Int)) 0 (fun _=>⟨6,0,0,0⟩) 1=(bt (m.val:Int) f && lf):=by
  show (inB (bits .or .i64 (bits .or .i64 (bits .or .i64 0 0) (zAE (f:Int))) 0) (m.val:Int) && (inB (bits .or .i64 0 0) (q.val:Int) && (lf || !true)))=_
  rw [in_al2 m ⟨f,hf⟩,in_no q]
  simp
 have m3:mayB (m.val:Int) (q.val:Int) lf 0 0 (fun _=>⟨7,zAE (t:Int),0,0⟩) 1=(bt (q.val:Int) t && lf):=by
  show (inB (bits .or .i64 (bits .or .i64 (bits .or .i64 0 0) 0) 0) (m.val:Int) && (inB (bits .or .i64 0 (zAE (t:Int))) (q.val:Int) && (lf || !true)))=_
  rw [in_no2 m,in_wr2 q ⟨t,ht⟩]
  simp
 rw [e]
 simp only [List.map_cons,List.map_nil]
 rw [s1.1,s2.1,s3.1]
 rw [←m1,←m2,←m3]
 rfl
end Go.Proofs.YtnbleebilmghcacGreat
