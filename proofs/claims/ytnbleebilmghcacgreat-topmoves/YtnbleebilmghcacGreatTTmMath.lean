/- Who has a speed moves. -/
import Derived.Test.YtnbleebilmghcacGreatTRnOrd
import Derived.Test.YtnbleebilmghcacGreatTTpFun
set_option linter.all false
namespace Go.Proofs.YtnbleebilmghcacGreat
open Go Go.RowKit
def ptD (i g p n:Int):DoI:=⟨3,0,p,n,i,g,dS,0,0⟩
def mvA (f s:Int) (g:Nat):List DoI:=[spD 1 f,spD 1 f,ptD 0 1 1 s,sysD 3 ⟨3,0,1,0⟩ g]
def mvL (f s:Int) (g t:Nat):List DoI:=mvA f s g++List.replicate t tickD
def mvS:SysI:=⟨0,3,0,none,1,0,fun _=>⟨3,0,1,0⟩⟩
theorem spawn_ok {X:Wd} (hr:RightW X) {has n:Int} (hs:(zBB has && valB n)=true) (hn:(zBb X).2=0):zW X has n=(0,(zBb X).1,⟨zCl X.rows (zAj X.rows (zBb X).1.1) (newR (zBb X).1.1 (zBb X).1.2 has n),zBp X.gens (zBb X).1.1 (zBb X).1.2⟩):=by
 unfold zW
 rw [if_neg (by rw [(zr X).2 hr];simp),if_neg (by rw [hs];simp),if_neg (by rw [hn];simp)]
theorem put_ok {X:Wd} (hr:RightW X) {i g p n:Int} {k:Nat} (hf:zAY X i g=(k:Int)) (hp:(zAU p && valB n)=true):zCN X i g p n=(0,⟨X.rows.set k (putR (zM X k) p n),X.gens⟩):=by
 have hC:putC (X.rows.getD k dR) p n=(putR (zM X k) p n,true,0):=by
  unfold putC
  rw [if_pos hp]
  rfl
 unfold zCN chF
 rw [if_neg (by rw [(zr X).2 hr];simp),hf,if_neg (by omega),Int.toNat_natCast]
 simp only [hC]
 rw [if_neg (by simp)]
theorem do_sp {mods:List ModI} {h:HI} (H:HOk mods h) {has n:Int} (hs:(zBB has && valB n)=true) (hn:(zBb h.X).2=0):(doF mods h (spD has n)).2=⟨⟨zCl h.X.rows (zAj h.X.rows (zBb h.X).1.1) (newR (zBb h.X).1.1 (zBb h.X).1.2 has n),zBp h.X.gens (zBb h.X).1.1 (zBb h.X).1.2⟩,h.S⟩:=by
 unfold doF
 rw [if_pos (show (spD has n).k=1 from rfl)]
 show bec h (zW h.X has n).1 (zW h.X has n).2.2=_
 rw [spawn_ok H.wld hs hn]
 rfl
theorem do_pt {mods:List ModI} {h:HI} (H:HOk mods h) {i g p n:Int} {k:Nat} (hf:zAY h.X i g=(k:Int)) (hp:(zAU p && valB n)=true):(doF mods h (ptD i g p n)).2=⟨⟨h.X.rows.set k (putR (zM h.X k) p n),h.X.gens⟩,h.S⟩:=by
 unfold doF
 rw [if_neg (show ¬ (ptD i g p n).k=1 from (by decide:¬ (3:Int)=1)),if_neg (show ¬ (ptD i g p n).k=2 from (by decide:¬ (3:Int)=2)),if_pos (show (ptD i g p n).k=3 from rfl)]
 show bec h (zCN h.X i g p n).1 (zCN h.X i g p n).2=_
 rw [put_ok H.wld hf hp]
 rfl
theorem do_sy {mods:List ModI} {h:HI} {need:Int} {y:ActI} {g:Nat} (hr:refF mods h.S.length (toP (sysD need y g).s)=0):(doF mods h (sysD need y g)).2=⟨h.X,h.S++[⟨0,need,0,none,1,0,fun _=>y⟩]⟩:=by
 have hr:refF mods h.S.length (sysD need y g).s=0:=hr
 unfold doF
 rw [if_neg (show ¬ (sysD need y g).k=1 from (by decide:¬ (5:Int)=1)),if_neg (show ¬ (sysD need y g).k=2 from (by decide:¬ (5:Int)=2)),if_neg (show ¬ (sysD need y g).k=3 from (by decide:¬ (5:Int)=3)),if_neg (show ¬ (sysD need y g).k=4 from (by decide:¬ (5:Int)=4)),if_pos (show (sysD need y g).k=5 from rfl),if_pos hr]
 rfl
def mvX1 (f:Int):Wd:=⟨[newR 0 1 1 f],[1]⟩
def mvX2 (f:Int):Wd:=⟨[newR 0 1 1 f,newR 1 1 1 f],[1,1]⟩
def mvX3 (f s:Int):Wd:=⟨[putR (newR 0 1 1 f) 1 s,newR 1 1 1 f],[1,1]⟩
theorem val_small {n:Int} (h:-1000≤n∧n≤1000):valB n=true:=decide_eq_true (by omega)
theorem mv_start {f s:Int} (g:Nat) (hf:-1000≤f∧f≤1000) (hs:-1000≤s∧s≤1000):(zBV mAll (mvA f s g) ([],h0)).2=⟨mvX3 f s,[mvS]⟩:=by
 have H0:=h0_ok mAll
 have e1:(doF mAll h0 (spD 1 f)).2=⟨mvX1 f,[]⟩:=do_sp H0 (by rw [val_small hf];rfl) rfl
 have H1:HOk mAll ⟨mvX1 f,[]⟩:=by rw [←e1];exact do_ok H0 _
 have e2:(doF mAll ⟨mvX1 f,[]⟩ (spD 1 f)).2=⟨mvX2 f,[]⟩:=do_sp H1 (by rw [val_small hf];rfl) rfl
 have H2:HOk mAll ⟨mvX2 f,[]⟩:=by rw [←e2];exact do_ok H1 _
 have e3:(doF mAll ⟨mvX2 f,[]⟩ (ptD 0 1 1 s)).2=⟨mvX3 f s,[]⟩:=do_pt (k:=0) H2 rfl (by rw [val_small hs];rfl)
 have e4:(doF mAll ⟨mvX3 f s,[]⟩ (sysD 3 ⟨3,0,1,0⟩ g)).2=⟨mvX3 f s,[mvS]⟩:=do_sy (h:=⟨mvX3 f s,[]⟩) (show refF mAll 0 ⟨0,3,0,none,1,0,fun _=>⟨3,0,1,0⟩⟩=0 by decide +kernel)
 show (doF mAll (doF mAll (doF mAll (doF mAll h0 (spD 1 f)).2 (spD 1 f)).2 (ptD 0 1 1 s)).2 (sysD 3 ⟨3,0,1,0⟩ g)).2=_
 rw [e1,e2,e3,e4]
structure Mv (f s:Int) (t:Nat) (h:HI):Prop where
 S:h.S=[mvS]
 len:h.X.rows.length=2
 i0:(zM h.X 0).ix=0
 g0:(zM h.X 0).gen=1
 h0:(zM h.X 0).has=3
 p0:(zM h.X 0).v 0=f+t*s
 s0:(zM h.X 0).v 1=s
 i1:(zM h.X 1).ix=1
 g1:(zM h.X 1).gen=1
 h1:(zM h.X 1).has=1
 p1:(zM h.X 1).v 0=f
theorem or_31:bits .or .i64 1 (zBA 1)=3:=by decide +kernel
theorem mv_row (f s:Int):zM (mvX3 f s) 0=putR (newR 0 1 1 f) 1 s:=rfl
theorem mv_zero (f s:Int):Mv f s 0 ⟨mvX3 f s,[mvS]⟩:=⟨rfl,rfl,rfl,rfl,(by show (zM (mvX3 f s) 0).has=3;rw [mv_row];simp only [putR,newR];exact or_31),(by show f=_;simp),rfl,rfl,rfl,rfl,rfl⟩
theorem mv_tick {f s:Int} {t:Nat} {h:HI} (H:HOk mAll h) (hm:Mv f s t h) (hf:-1000≤f∧f≤1000) (hs:-1000≤s∧s≤1000) (hb:-40000≤f+t*s∧f+t*s≤40000):Mv f s (t+1) (doF mAll h tickD).2:=by
 obtain ⟨Z,hZ,hR⟩:=run_rowed H.wld (s:=mvS) (by decide +kernel) (fun j _=>(show putsY ⟨3,0,1,0⟩ from ⟨by decide,by decide,by decide,by decide⟩))
 have e:(doF mAll h tickD).2=⟨Z,h.S⟩:=by
  have ht:tickF h=((0,0),Z):=by
   unfold tickF
   rw [hm.S]
   show (if (runS h.X mvS).1≠0 then (((runS h.X mvS).1,((0:Nat):Int)),emptyW) else ((0,0),(runS h.X mvS).2))=_
   rw [hZ,if_neg (by simp)]
  unfold doF
  rw [if_neg (show ¬ tickD.k=1 from (by decide:¬ (6:Int)=1)),if_neg (show ¬ tickD.k=2 from (by decide:¬ (6:Int)=2)),if_neg (show ¬ tickD.k=3 from (by decide:¬ (6:Int)=3)),if_neg (show ¬ tickD.k=4 from (by decide:¬ (6:Int)=4)),if_neg (show ¬ tickD.k=5 from (by decide:¬ (6:Int)=5)),if_pos (show tickD.k=6 from rfl)]
  show bec h (tickF h).1.1 (tickF h).2=_
  rw [ht]
  rfl
 have r0:=hR.row 0 (by rw [hm.len];decide)
 have r1:=hR.row 1 (by rw [hm.len];decide)
 rw [if_pos (by rw [hm.len];decide)] at r0 r1
 have q0:zM Z 0=putR (zM h.X 0) 0 (f+t*s+s):=by
  rw [r0]
  unfold rowF
  rw [hm.h0,if_pos (by decide +kernel)]
  show putR (zM h.X 0) 0 (zBr (amR (zM h.X 0) ⟨3,0,1,0⟩))=_
  have ha:amR (zM h.X 0) ⟨3,0,1,0⟩=IntKind.i64.wrap (gR (zM h.X 0) 0+gR (zM h.X 0) 1):=rfl
  have g0:gR (zM h.X 0) 0=f+t*s:=by
   unfold gR
   rw [hm.h0,if_pos (by decide +kernel)]
   exact hm.p0
  have g1:gR (zM h.X 0) 1=s:=by
   unfold gR
   rw [hm.h0,if_pos (by decide +kernel)]
   exact hm.s0
  rw [ha,g0,g1,i64_id (by omega) (by omega)]
  unfold zBr
  rw [if_neg (by omega),if_neg (by omega)]
 have q1:zM Z 1=zM h.X 1:=by
  rw [r1]
  unfold rowF
  rw [hm.h1,if_neg (by decide +kernel)]
 rw [e]
 refine ⟨hm.S,hR.len.trans hm.len,?_,?_,?_,?_,?_,?_,?_,?_,?_⟩
 ·show (zM Z 0).ix=0;rw [q0];exact hm.i0
 ·show (zM Z 0).gen=1;rw [q0];exact hm.g0
 ·show (zM Z 0).has=3
  rw [q0]
  show bits .or .i64 (zM h.X 0).has (zBA 0)=3
  rw [hm.h0]
  decide +kernel
 ·show (zM Z 0).v 0=f+((t+1:Nat):Int)*s
  rw [q0]
  show f+t*s+s=_
  rw [Int.natCast_add,Int.add_mul]
  omega
 ·show (zM Z 0).v 1=s;rw [q0];exact hm.s0
 ·show (zM Z 1).ix=1;rw [q1];exact hm.i1
 ·show (zM Z 1).gen=1;rw [q1];exact hm.g1
 ·show (zM Z 1).has=1;rw [q1];exact hm.h1
 ·show (zM Z 1).v 0=f;rw [q1];exact hm.p1
theorem mv_bound {f s:Int} {t:Nat} (hf:-1000≤f∧f≤1000) (hs:-1000≤s∧s≤1000) (ht:t≤30):-40000≤f+t*s∧f+t*s≤40000:=by
 have a:(t:Int)*s≤t*1000:=Int.mul_le_mul_of_nonneg_left hs.2 (by omega)
 have b:(t:Int)*(-1000)≤t*s:=Int.mul_le_mul_of_nonneg_left hs.1 (by omega)
 omega
theorem mv_play {f s:Int} (g:Nat) (hf:-1000≤f∧f≤1000) (hs:-1000≤s∧s≤1000):∀ t:Nat,t≤30→Mv f s t (zBV mAll (mvL f s g t) ([],h0)).2
 | 0,_=>by
  show Mv f s 0 (zBV mAll (mvA f s g++[]) ([],h0)).2
  rw [List.append_nil,mv_start g hf hs]
  exact mv_zero f s
 | t+1,ht=>by
  have ih:=mv_play g hf hs t (by omega)
  have e:mvL f s g (t+1)=mvL f s g t++[tickD]:=by
   unfold mvL
   rw [List.replicate_succ',List.append_assoc]
  rw [e,playTo_snoc]
  exact mv_tick (play_ok _ _ (h0_ok mAll)) ih hf hs (mv_bound hf hs (by omega))
theorem getw_full {X:Wd} {i g p:Int} {k:Nat} (hf:zAY X i g=(k:Int)) (hh:hasI (zM X k).has p=true):zBW X i g p=((zM X k).v p.toNat,true):=by
 unfold zBW getI
 have hf':fIx (fun j=>X.rows.getD j dR) i g X.rows.length 0=(k:Int):=hf
 rw [hf',if_neg (by omega),Int.toNat_natCast]
 exact if_pos hh
theorem mv_end {f s:Int} (g t:Nat) (hf:-1000≤f∧f≤1000) (hs:-1000≤s∧s≤1000) (ht:t≤30) :
  zBW (zBJ mAll (mvL f s g t)).2.X 0 1 0=(f+t*s,true)∧zBW (zBJ mAll (mvL f s g t)).2.X 1 1 0=(f,true):=by
 have hm:=mv_play g hf hs t ht
 have hm:Mv f s t (zBJ mAll (mvL f s g t)).2:=hm
 generalize (zBJ mAll (mvL f s g t)).2=h at *
 have f0:zAY h.X 0 1=((0:Nat):Int):=by
  rcases zBP h.X 0 1 with e | ⟨k,h1,h2,h3,h4⟩
  ·exact absurd ⟨hm.i0,hm.g0⟩ (find_no e (by rw [hm.len];decide))
  ·rw [hm.len] at h1
   rcases (by omega:k=0∨k=1) with rfl | rfl
   ·exact h2
   ·rw [hm.i1] at h3;cases h3
 have f1:zAY h.X 1 1=((1:Nat):Int):=by
  rcases zBP h.X 1 1 with e | ⟨k,h1,h2,h3,h4⟩
  ·exact absurd ⟨hm.i1,hm.g1⟩ (find_no e (by rw [hm.len];decide))
  ·rw [hm.len] at h1
   rcases (by omega:k=0∨k=1) with rfl | rfl
   ·rw [hm.i0] at h3;cases h3
   ·exact h2
 rw [getw_full f0 (by rw [hm.h0];decide +kernel),getw_full f1 (by rw [hm.h1];decide +kernel)]
 exact ⟨by rw [←hm.p0];rfl,by rw [←hm.p1];rfl⟩
end Go.Proofs.YtnbleebilmghcacGreat
