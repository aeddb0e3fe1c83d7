/- All age, and go. -/
import Derived.Test.YtnbleebilmghcacGreatTRfMath
import Derived.Test.YtnbleebilmghcacGreatTTmMath
import Derived.Test.YtnbleebilmghcacGreatTTaXtra
set_option linter.all false
set_option maxRecDepth 100000
namespace Go.Proofs.YtnbleebilmghcacGreat
open Go Go.RowKit
def agX (n:Nat):Wd:=⟨(List.range n).map (fun (i:Nat)=>newR (i:Int) 1 4 0),List.replicate n 1⟩
def agP (n g t:Nat):List DoI:=List.replicate n (spD 4 0)++[sysD 4 ⟨4,2,0,1⟩ g]++List.replicate t tickD
def agL (n g t g2:Nat):List DoI:=agP n g t++[akD 4 2,sysD 4 ⟨6,0,0,0⟩ g2,tickD,akD 0 2]
def agS:SysI:=⟨0,4,0,none,1,0,fun _=>⟨4,2,0,1⟩⟩
def agK:SysI:=⟨0,4,0,none,1,0,fun _=>⟨6,0,0,0⟩⟩
theorem ag_next:∀ n,n<20→zBb (agX n)=(((n:Int),1),0)∧zAj (agX n).rows (n:Int)=n:=by decide +kernel
theorem agX_succ (n:Nat):agX (n+1)=⟨(agX n).rows++[newR (n:Int) 1 4 0],(agX n).gens++[1]⟩:=by
 unfold agX
 rw [List.range_succ,List.map_append,List.replicate_succ']
 rfl
theorem ag_spawn:∀ n,n≤20→(zBV mAll (List.replicate n (spD 4 0)) ([],h0)).2=⟨agX n,[]⟩
 | 0,_=>rfl
 | n+1,hn=>by
  have ih:=ag_spawn n (by omega)
  have H:HOk mAll ⟨agX n,[]⟩:=by rw [←ih];exact play_ok _ _ (h0_ok mAll)
  obtain ⟨e1,e2⟩:=ag_next n (by omega)
  rw [List.replicate_succ',playTo_snoc]
  show (doF mAll (zBV mAll (List.replicate n (spD 4 0)) ([],h0)).2 (spD 4 0)).2=_
  rw [ih,do_sp H (by decide) (by rw [e1]),agX_succ]
  show HI.mk ⟨zCl (agX n).rows (zAj (agX n).rows (zBb (agX n)).1.1) (newR (zBb (agX n)).1.1 (zBb (agX n)).1.2 4 0),zBp (agX n).gens (zBb (agX n)).1.1 (zBb (agX n)).1.2⟩ []=_
  rw [e1]
  show HI.mk ⟨zCl (agX n).rows (zAj (agX n).rows (n:Int)) (newR (n:Int) 1 4 0),zBp (agX n).gens (n:Int) 1⟩ []=_
  rw [e2]
  have hl:(agX n).rows.length=n:=by simp [agX]
  have hg:(agX n).gens.length=n:=by simp [agX]
  unfold zCl zBp
  rw [if_pos (by rw [hg]),List.take_of_length_le (by omega),List.drop_of_length_le (by omega)]
structure Ag (n:Nat) (a:Int) (X:Wd):Prop where
 right:RightW X
 len:X.rows.length=n
 row:∀ i,i<n→(zM X i).ix=(i:Int)∧(zM X i).gen=1∧(zM X i).has=4∧(zM X i).v 2=a
theorem ag_zero {n:Nat} (hr:RightW (agX n)):Ag n 0 (agX n):=⟨hr,by simp [agX],fun i hi=>by
 have e:zM (agX n) i=newR (i:Int) 1 4 0:=by
  unfold zM agX
  rw [List.getD_eq_getElem?_getD,List.getElem?_map,List.getElem?_range hi]
  rfl
 rw [e]
 refine ⟨rfl,rfl,rfl,?_⟩
 show (if 2<8∧tb 4 2=true then (0:Int) else 0)=0
 split <;> rfl⟩
theorem ag_run {n:Nat} {a:Int} {X:Wd} (h:Ag n a X) (ha:0≤a∧a≤1000):∃ Z,runS X agS=(0,Z)∧Ag n (a+1) Z:=by
 obtain ⟨Z,hZ,hR⟩:=run_rowed h.right (s:=agS) (by decide +kernel) (fun j _=>(show putsY ⟨4,2,0,1⟩ from ⟨by decide,by decide,by decide,by decide⟩))
 refine ⟨Z,hZ,hR.right,hR.len.trans h.len,fun i hi=>?_⟩
 obtain ⟨h1,h2,h3,h4⟩:=h.row i hi
 have r0:=hR.row i (by rw [h.len];exact hi)
 rw [if_pos (by rw [h.len];exact hi)] at r0
 have q0:zM Z i=putR (zM X i) 2 (a+1):=by
  rw [r0]
  unfold rowF
  rw [h3,if_pos (by decide +kernel)]
  show putR (zM X i) 2 (zBr (amR (zM X i) ⟨4,2,0,1⟩))=_
  have hm:amR (zM X i) ⟨4,2,0,1⟩=IntKind.i64.wrap (gR (zM X i) 2+1):=rfl
  have g0:gR (zM X i) 2=a:=by
   unfold gR
   rw [h3,if_pos (by decide +kernel)]
   exact h4
  rw [hm,g0,i64_id (by omega) (by omega)]
  unfold zBr
  rw [if_neg (by omega),if_neg (by omega)]
 rw [q0]
 refine ⟨h1,h2,?_,rfl⟩
 show bits .or .i64 (zM X i).has (zBA 2)=4
 rw [h3]
 decide +kernel
theorem doF_tick {mods:List ModI} {h:HI} {Z:Wd} (ht:tickF h=((0,0),Z)):(doF mods h tickD).2=⟨Z,h.S⟩:=by
 unfold doF
 rw [if_neg (show ¬ tickD.k=1 from (by decide:¬ (6:Int)=1)),if_neg (show ¬ tickD.k=2 from (by decide:¬ (6:Int)=2)),if_neg (show ¬ tickD.k=3 from (by decide:¬ (6:Int)=3)),if_neg (show ¬ tickD.k=4 from (by decide:¬ (6:Int)=4)),if_neg (show ¬ tickD.k=5 from (by decide:¬ (6:Int)=5)),if_pos (show tickD.k=6 from rfl)]
 show bec h (tickF h).1.1 (tickF h).2=_
 rw [ht]
 rfl
theorem ag_tick {n:Nat} {a:Int} {X:Wd} (h:Ag n a X) (ha:0≤a∧a≤1000):∃ Z,(doF mAll ⟨X,[agS]⟩ tickD).2=⟨Z,[agS]⟩∧Ag n (a+1) Z:=by
 obtain ⟨Z,hZ,hA⟩:=ag_run h ha
 refine ⟨Z,doF_tick (h:=⟨X,[agS]⟩) ?_,hA⟩
 show (if (runS X agS).1≠0 then (((runS X agS).1,((0:Nat):Int)),emptyW) else ((0,0),(runS X agS).2))=_
 rw [hZ,if_neg (by simp)]
theorem ag_play (n g:Nat) (hn:n≤20):∀ t:Nat,t≤20→∃ X,(zBV mAll (agP n g t) ([],h0)).2=⟨X,[agS]⟩∧Ag n (t:Int) X
 | 0,_=>by
  refine ⟨agX n,?_,ag_zero ?_⟩
  ·unfold agP
   rw [List.replicate_zero,List.append_nil,playTo_snoc]
   show (doF mAll (zBV mAll (List.replicate n (spD 4 0)) ([],h0)).2 _).2=_
   rw [ag_spawn n hn]
   exact do_sy (h:=⟨agX n,[]⟩) (show refF mAll 0 ⟨0,4,0,none,1,0,fun _=>⟨4,2,0,1⟩⟩=0 by decide +kernel)
  ·have:=(play_ok (mods:=mAll) (List.replicate n (spD 4 0)) ([],h0) (h0_ok mAll)).wld
   rw [ag_spawn n hn] at this
   exact this
 | t+1,ht=>by
  obtain ⟨X,e,hA⟩:=ag_play n g hn t (by omega)
  have e':agP n g (t+1)=agP n g t++[tickD]:=by
   unfold agP
   simp [List.replicate_succ',List.append_assoc]
  rw [e',playTo_snoc]
  show ∃ X',(doF mAll (zBV mAll (agP n g t) ([],h0)).2 tickD).2=_∧_
  rw [e]
  obtain ⟨Z,h1,h2⟩:=ag_tick hA (by omega)
  exact ⟨Z,h1,by rw [Int.natCast_add];exact h2⟩
theorem ag_bs {n:Nat} {a:Int} {X:Wd} (h:Ag n a X):zBQ X 4 0 X.rows.length=X.rows.map (fun r=>(r.ix,r.gen)):=by
 unfold zBQ
 rw [List.take_length,List.filter_eq_self.2 (fun r hr=>by
  obtain ⟨i,hi,rfl⟩:=List.getElem_of_mem hr
  have:=(h.row i (by rw [←h.len];exact hi)).2.2.1
  unfold zM at this
  rw [List.getD_eq_getElem?_getD,List.getElem?_eq_getElem hi] at this
  rw [show X.rows[i].has=4 from this]
  decide +kernel)]
theorem sum_to {X:Wd} {a:Int} (ha:0≤a∧a≤1000):∀ (l:List (Int×Int)) (c:Int),(∀ b∈l,(zBW X b.1 b.2 2).1=a)→0≤c→c+l.length*a≤1000000→sumTo X 2 l c=c+l.length*a
 | [],c,_,_,_=>by simp [sumTo]
 | b :: l,c,hl,h0,h1=>by
  have e:(((b :: l).length:Nat):Int)*a=l.length*a+a:=by rw [List.length_cons,Int.natCast_add,Int.add_mul];omega
  have p:0≤(l.length:Int)*a:=Int.mul_nonneg (by omega) ha.1
  rw [e] at h1 ⊢
  show sumTo X 2 l (IntKind.i64.wrap (c+(zBW X b.1 b.2 2).1))=_
  rw [hl b (List.mem_cons_self ..),i64_id (by omega) (by omega),sum_to ha l (c+a) (fun x hx=>hl x (List.mem_cons_of_mem _ hx)) (by omega) (by omega)]
  omega
theorem ag_find {n:Nat} {a:Int} {X:Wd} (h:Ag n a X) {i:Nat} (hi:i<n):zAY X (i:Int) 1=(i:Int):=by
 rcases zBP X (i:Int) 1 with e | ⟨k,h1,h2,h3,h4⟩
 ·exact absurd ⟨(h.row i hi).1,(h.row i hi).2.1⟩ (find_no e (by rw [h.len];exact hi))
 ·rw [(h.row k (by rw [←h.len];exact h1)).1] at h3
  rw [h2,h3]
theorem ag_ask {n:Nat} {a:Int} {X:Wd} {S:List SysI} (h:Ag n a X) (ha:0≤a∧a≤1000) (hn:n≤20):(doF mAll ⟨X,S⟩ (akD 4 2)).1.bs.length=n∧(doF mAll ⟨X,S⟩ (akD 4 2)).1.n=n*a:=by
 have e:doF mAll ⟨X,S⟩ (akD 4 2)=(⟨0,0,0,zBQ X 4 0 X.rows.length,sumTo X 2 (zBQ X 4 0 X.rows.length) 0⟩,⟨X,S⟩):=rfl
 rw [e,ag_bs h]
 refine ⟨by simp [h.len],?_⟩
 show sumTo X 2 (X.rows.map fun r=>(r.ix,r.gen)) 0=_
 have p:(n:Int)*a≤n*1000:=Int.mul_le_mul_of_nonneg_left ha.2 (by omega)
 rw [sum_to ha _ 0 (fun b hb=>?_) (by omega) (by rw [List.length_map,h.len];omega),List.length_map,h.len]
 ·omega
 ·obtain ⟨r,hr,rfl⟩:=List.mem_map.1 hb
  obtain ⟨i,hi,rfl⟩:=List.getElem_of_mem hr
  have hi':i<n:=by rw [←h.len];exact hi
  have hrow:zM X i=X.rows[i]:=by
   unfold zM
   rw [List.getD_eq_getElem?_getD,List.getElem?_eq_getElem hi]
   rfl
  obtain ⟨h1,h2,h3,h4⟩:=h.row i hi'
  show (zBW X X.rows[i].ix X.rows[i].gen 2).1=a
  rw [←hrow,h1,h2,getw_full (ag_find h hi') (by rw [h3];decide +kernel)]
  exact h4
theorem kill_all {a:Nat→ActI} (ha:(a 0).k=6):∀ (l:List RowI) (G:List Int),RightW ⟨l,G⟩→zAh a 1 (l.map fun r=>(r.ix,r.gen)) ⟨l,G⟩=(0,⟨[],G⟩)
 | [],G,_=>rfl
 | r :: l,G,hr=>by
  have hf:zAY ⟨r :: l,G⟩ r.ix r.gen=((0:Nat):Int):=by
   show (if isB r r.ix r.gen=true then ((0:Nat):Int) else _)=_
   rw [if_pos (by simp [isB])]
  have hk:=killF_at hr hf
  have hR:RightW ⟨l,G⟩:=by
   have:=(kill_keeps (X:=⟨r :: l,G⟩) (i:=r.ix) (g:=r.gen) (by rw [hk])).1
   rw [hk] at this
   exact this
  have ht:zq r.ix r.gen a 1 0 ⟨r :: l,G⟩=(0,⟨l,G⟩):=by
   have hac:zCM ⟨r :: l,G⟩ r.ix r.gen (a 0)=(0,⟨l,G⟩):=by
    unfold zCM
    rw [if_pos ha,hk]
    rfl
   show (if (zCM ⟨r :: l,G⟩ r.ix r.gen (a 0)).1≠0 then _ else if (a 0).k=6 then (0,(zCM ⟨r :: l,G⟩ r.ix r.gen (a 0)).2) else _)=_
   rw [hac,if_neg (by simp),if_pos ha]
  rw [List.map_cons,runTo_cons]
  show (if (zq r.ix r.gen a 1 0 ⟨r :: l,G⟩).1≠0 then _ else zAh a 1 (l.map fun r=>(r.ix,r.gen)) (zq r.ix r.gen a 1 0 ⟨r :: l,G⟩).2)=_
  rw [ht,if_neg (by simp)]
  exact kill_all ha l G hR
theorem ag_gone {n:Nat} {a:Int} {X:Wd} (h:Ag n a X) (ha:0≤a∧a≤1000):∃ G,(doF mAll ⟨X,[agS,agK]⟩ tickD).2=⟨⟨[],G⟩,[agS,agK]⟩:=by
 obtain ⟨Z,hZ,hA⟩:=ag_run h ha
 have hK:runS Z agK=(0,⟨[],Z.gens⟩):=by
  unfold runS runF
  rw [if_neg (by decide +kernel)]
  show zAh agK.a 1 (zBQ Z 4 0 Z.rows.length) Z=_
  rw [ag_bs hA]
  exact kill_all rfl Z.rows Z.gens hA.right
 refine ⟨Z.gens,doF_tick (h:=⟨X,[agS,agK]⟩) ?_⟩
 show (if (runS X agS).1≠0 then (((runS X agS).1,((0:Nat):Int)),emptyW) else if (runS (runS X agS).2 agK).1≠0 then (((runS (runS X agS).2 agK).1,((1:Nat):Int)),emptyW) else ((0,0),(runS (runS X agS).2 agK).2))=_
 rw [hZ,if_neg (by simp)]
 show (if (runS Z agK).1≠0 then (((runS Z agK).1,((1:Nat):Int)),emptyW) else ((0,0),(runS Z agK).2))=_
 rw [hK,if_neg (by simp)]
theorem agP_len (n g t:Nat):(agP n g t).length=n+1+t:=by simp [agP];omega
theorem ag_end (n g t g2:Nat) (hn:n≤20) (ht:t≤20):(∃ x,(zBJ mAll (agL n g t g2)).1[n+1+t]?=some x∧x.bs.length=n∧x.n=(n:Int)*t)∧∃ x,(zBJ mAll (agL n g t g2)).1[n+1+t+3]?=some x∧x.bs.length=0:=by
 obtain ⟨X,e,hA⟩:=ag_play n g hn t ht
 have hp:=agP_len n g t
 obtain ⟨q1,q2⟩:=ag_ask (S:=[agS]) hA (by omega) hn
 obtain ⟨G,hG⟩:=ag_gone hA (by omega)
 have e2:(doF mAll ⟨X,[agS]⟩ (akD 4 2)).2=⟨X,[agS]⟩:=rfl
 have e3:(doF mAll ⟨X,[agS]⟩ (sysD 4 ⟨6,0,0,0⟩ g2)).2=⟨X,[agS,agK]⟩:=do_sy (h:=⟨X,[agS]⟩) (show refF mAll 1 ⟨0,4,0,none,1,0,fun _=>⟨6,0,0,0⟩⟩=0 by decide +kernel)
 constructor
 ·have hl:n+1+t<(agL n g t g2).length:=by unfold agL;rw [List.length_append,hp];simp
  refine ⟨_,play_get mAll _ _ hl,?_⟩
  have e1:(agL n g t g2)[n+1+t]=akD 4 2:=by
   have q:(agL n g t g2)[n+1+t]?=some (akD 4 2):=by
    unfold agL
    rw [List.getElem?_append_right (by rw [hp];omega),hp]
    simp
   rw [List.getElem?_eq_getElem hl] at q
   exact Option.some.inj q
  have e4:(agL n g t g2).take (n+1+t)=agP n g t:=by
   unfold agL
   rw [List.take_append_of_le_length (by rw [hp];exact Nat.le_refl _),List.take_of_length_le (by rw [hp];exact Nat.le_refl _)]
  rw [e1,e4,e]
  exact ⟨q1,q2⟩
 ·have hl:n+1+t+3<(agL n g t g2).length:=by unfold agL;rw [List.length_append,hp];simp
  refine ⟨_,play_get mAll _ _ hl,?_⟩
  have e1:(agL n g t g2)[n+1+t+3]=akD 0 2:=by
   have q:(agL n g t g2)[n+1+t+3]?=some (akD 0 2):=by
    unfold agL
    rw [List.getElem?_append_right (by rw [hp];omega),hp]
    simp
   rw [List.getElem?_eq_getElem hl] at q
   exact Option.some.inj q
  have e4:(agL n g t g2).take (n+1+t+3)=agP n g t++[akD 4 2]++[sysD 4 ⟨6,0,0,0⟩ g2]++[tickD]:=by
   unfold agL
   rw [List.take_append,hp,List.take_of_length_le (by rw [hp];omega)]
   simp
  rw [e1,e4,playTo_snoc]
  simp only []
  rw [playTo_snoc]
  simp only []
  rw [playTo_snoc]
  simp only []
  rw [e,e2,e3,hG]
  rfl
end Go.Proofs.YtnbleebilmghcacGreat
