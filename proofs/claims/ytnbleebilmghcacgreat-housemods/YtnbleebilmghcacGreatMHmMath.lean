/- What no mod may write no tick writes. -/
import Derived.Test.YtnbleebilmghcacGreatMRnWr
import Derived.Test.YtnbleebilmghcacGreatMH1
set_option linter.all false
namespace Go.Proofs.YtnbleebilmghcacGreat
open Go Go.RowKit
def uwTo (m:List ModI):Nat→Int
 | 0=>0
 | k+1=>bits .or .i64 (uwTo m k) (m.getD k dM).wr
def ulTo (m:List ModI):Nat→Bool
 | 0=>false
 | k+1=>ulTo m k || (m.getD k dM).lf
theorem or_setUF:∀ a b:Fin 256,zAg (bits .or .i64 (a.val:Int) (b.val:Int))=true:=by decide +kernel
theorem or_setU {x y:Int} (hx:zAg x=true) (hy:zAg y=true):zAg (bits .or .i64 x y)=true:=by
 have h1:=of_decide_eq_true (by unfold zAg at hx;exact hx)
 have h2:=of_decide_eq_true (by unfold zAg at hy;exact hy)
 obtain ⟨a,rfl⟩:=zCV x h1.1 h1.2
 obtain ⟨b,rfl⟩:=zCV y h2.1 h2.2
 exact or_setUF a b
theorem wmTo_all (m:List ModI):∀ n j,(wmTo m n j).1=0→∀ k,j≤k→k<j+n→zAg (m.getD k dM).rd=true∧zAg (m.getD k dM).wr=true
 | 0,j,_,k,h1,h2=>by omega
 | n+1,j,h,k,h1,h2=>by
  rw [wmTo] at h
  split at h
  ·rename_i hc
   by_cases e:k=j
   ·subst e;exact Bool.and_eq_true _ _▸hc
   ·exact wmTo_all m n (j+1) h k (by omega) (by omega)
  ·cases h
theorem wm_all {m:List ModI} (h:wmF m=(0,0)):m.length≤6∧∀ k,k<m.length→zAg (m.getD k dM).rd=true∧zAg (m.getD k dM).wr=true:=by
 unfold wmF at h
 split at h
 ·cases h
 ·exact ⟨by omega,fun k hk=>wmTo_all m _ _ (by rw [h]) k (Nat.zero_le _) (by omega)⟩
theorem uw_set {m:List ModI} (h:wmF m=(0,0)):∀ k,k≤m.length→zAg (uwTo m k)=true
 | 0,_=>rfl
 | k+1,hk=>or_setU (uw_set h k (by omega)) ((wm_all h).2 k (by omega)).2
theorem uw_mem (m:List ModI) {q:Nat}:∀ n j,j<n→bt (m.getD j dM).wr q=true→bt (uwTo m n) q=true
 | 0,j,h,_=>by omega
 | n+1,j,h,hb=>by
  unfold uwTo
  rw [bt_or,Bool.or_eq_true]
  by_cases e:j=n
  ·subst e;exact .inr hb
  ·exact .inl (uw_mem m n j (by omega) hb)
theorem ul_mem (m:List ModI):∀ n j,j<n→(m.getD j dM).lf=true→ulTo m n=true
 | 0,j,h,_=>by omega
 | n+1,j,h,hb=>by
  unfold ulTo
  rw [Bool.or_eq_true]
  by_cases e:j=n
  ·subst e;exact .inr hb
  ·exact .inl (ul_mem m n j (by omega) hb)
def AsU (U:Int) (r r':RowI):Prop:=∀ k:Nat,k<8→bt U k=false→r'.v k=r.v k∧bt r'.has k=bt r.has k
theorem AsU.refl (U:Int) (r:RowI):AsU U r r:=fun _ _ _=>⟨rfl,rfl⟩
theorem AsU.trans (U:Int) (a b c:RowI) (h:AsU U a b) (h2:AsU U b c):AsU U a c:=fun k hk hb=>⟨(h2 k hk hb).1.trans (h k hk hb).1,(h2 k hk hb).2.trans (h k hk hb).2⟩
theorem Stays.weak {P Q:RowI→RowI→Prop} {l l':Prop} {X Y:Wd} {i g:Int} (h:Stays P l X Y i g) (hP:∀ a b,P a b→Q a b) (hl:l→l'):Stays Q l' X Y i g:=fun k hk hf=>by
 rcases h k hk hf with ⟨h1,h2⟩ | ⟨j,hj,h1,h2⟩
 ·exact .inl ⟨hl h1,h2⟩
 ·exact .inr ⟨j,hj,h1,hP _ _ h2⟩
theorem run_stays {X:Wd} (hr:RightW X) {m al no:Int} {a:Nat→ActI} {len:Nat} (h:(runF X m al no a len).1=0) (i g:Int):Stays (AsW al (wrTo a len) (mvTo al a len)) (lfTo a len=true) X (runF X m al no a len).2 i g∧(Gone X i g→Gone (runF X m al no a len).2 i g):=by
 unfold runF at h ⊢
 by_cases e:(wrF m al no a len).1=0
 ·rw [if_neg (by simpa using e)] at h ⊢
  exact ⟨runTo_stays e _ _ _ X hr h,runTo_gone a len i g _ X hr h⟩
 ·rw [if_pos e] at h;exact absurd h e
theorem allTo_stays (S:Nat→SysI) (U:Int) (L:Bool) (i g:Int):∀ n j X,RightW X→(∀ t,j≤t→t<j+n→(∀ k:Nat,k<8→bt U k=false→bt (wrTo (S t).a (S t).len) k=false)∧(lfTo (S t).a (S t).len=true→L=true))→(zu S n j X).1.1=0→Stays (AsU U) (L=true) X (zu S n j X).2 i g∧(Gone X i g→Gone (zu S n j X).2 i g)
 | 0,j,X,_,_,_=>⟨(Keeps.refl' _ _ _).stays (AsU.refl _),fun h=>h⟩
 | n+1,j,X,hr,hS,h=>by
  rw [zu] at h ⊢
  by_cases e:(runS X (S j)).1=0
  ·rw [if_neg (by simpa using e)] at h ⊢
   obtain ⟨s1,s2⟩:=run_stays hr (m:=(S j).m) (al:=(S j).al) (no:=(S j).no) (a:=(S j).a) (len:=(S j).len) e i g
   obtain ⟨h1,h2⟩:=hS j (Nat.le_refl _) (by omega)
   obtain ⟨t1,t2⟩:=allTo_stays S U L i g n (j+1) _ (run_right (m:=(S j).m) (al:=(S j).al) (no:=(S j).no) (a:=(S j).a) (len:=(S j).len) hr e) (fun t ht ht2=>hS t (by omega) (by omega)) h
   exact ⟨Stays.trans (AsU.trans U) (s1.weak (fun a b hab k hk hb=>hab.1 k hk (h1 k hk hb)) h2) t1 t2,fun hG=>t2 (s2 hG)⟩
  ·rw [if_pos e] at h;exact absurd h e
theorem allTo_len (S:Nat→SysI):∀ n j X,(∀ t,j≤t→t<j+n→lfTo (S t).a (S t).len=false)→(zu S n j X).1.1=0→(zu S n j X).2.rows.length=X.rows.length
 | 0,j,X,_,_=>rfl
 | n+1,j,X,hS,h=>by
  rw [zu] at h ⊢
  by_cases e:(runS X (S j)).1=0
  ·rw [if_neg (by simpa using e)] at h ⊢
   exact (allTo_len S n (j+1) _ (fun t h1 h2=>hS t (by omega) (by omega)) h).trans (writes_len (m:=(S j).m) (al:=(S j).al) (no:=(S j).no) (a:=(S j).a) (len:=(S j).len) e (hS j (Nat.le_refl _) (by omega)))
  ·rw [if_pos e] at h;exact absurd h e
theorem may_sys {mods:List ModI} {h:HI} (H:HOk mods h) (t:Nat) (ht:t<h.S.length):(∀ k:Nat,k<8→bt (uwTo mods mods.length) k=false→bt (wrTo (sOf h.S t).a (sOf h.S t).len) k=false)∧(lfTo (sOf h.S t).a (sOf h.S t).len=true→ulTo mods mods.length=true):=by
 have e:sOf h.S t=h.S[t]:=by unfold sOf;rw [List.getD_eq_getElem?_getD,List.getElem?_eq_getElem ht];rfl
 obtain ⟨h1,h2,h3,_⟩:=refF_zero (H.sys _ (List.getElem_mem ht))
 rw [e]
 have hm:h.S[t].m.toNat<mods.length:=by
  have hh:=((zBP _ _ _ _ _).1 h1).1
  unfold headB at hh
  rw [Bool.and_eq_true,Bool.and_eq_true] at hh
  have:=of_decide_eq_true hh.1.1
  omega
 unfold mayB mayN at h3
 rw [Bool.and_eq_true,Bool.and_eq_true] at h3
 refine ⟨fun k hk hb=>?_,fun hl=>?_⟩
 ·cases hw:bt (wrTo h.S[t].a h.S[t].len) k
  ·rfl
  ·rw [uw_mem mods _ _ hm (inB_bt h3.2.1 (by omega) hw)] at hb
   cases hb
 ·have:=h3.2.2
  rw [hl] at this
  refine ul_mem mods _ _ hm ?_
  simpa using this
theorem mods_tick {mods:List ModI} {h:HI} (H:HOk mods h) :
  RightW (bec h (zBB h).1.1 (zBB h).2).X∧(∀ j,j<h.X.rows.length→(ulTo mods mods.length=true∧zAG (bec h (zBB h).1.1 (zBB h).2).X (zO h.X j).ix (zO h.X j).gen=-1) ∨
   ∃ q:Nat,q<(bec h (zBB h).1.1 (zBB h).2).X.rows.length∧zAG (bec h (zBB h).1.1 (zBB h).2).X (zO h.X j).ix (zO h.X j).gen=(q:Int)∧AsU (uwTo mods mods.length) (zO h.X j) (zO (bec h (zBB h).1.1 (zBB h).2).X q)) ∧
  (ulTo mods mods.length=false→(bec h (zBB h).1.1 (zBB h).2).X.rows.length=h.X.rows.length):=by
 by_cases he:(zBB h).1.1=0
 ·have e:(bec h (zBB h).1.1 (zBB h).2).X=(zBB h).2:=by unfold bec;rw [if_pos he]
  rw [e]
  refine ⟨allTo_right _ _ _ H.wld he,fun j hj=>?_,fun hl=>?_⟩
  ·rcases (allTo_stays (sOf h.S) (uwTo mods mods.length) (ulTo mods mods.length) (zO h.X j).ix (zO h.X j).gen h.S.length 0 h.X H.wld (fun t _ ht=>may_sys H t (by omega)) he).1 j hj (find_at H.wld hj) with ⟨h1,h2⟩ | ⟨q,hq,h1,h2⟩
   ·exact .inl ⟨h1,h2.1⟩
   ·exact .inr ⟨q,hq,h1,h2⟩
  ·refine allTo_len (sOf h.S) h.S.length 0 h.X (fun t _ ht=>?_) he
   cases hf:lfTo (sOf h.S t).a (sOf h.S t).len
   ·rfl
   ·rw [(may_sys H t (by omega)).2 hf] at hl;cases hl
 ·have e:(bec h (zBB h).1.1 (zBB h).2).X=h.X:=by unfold bec;rw [if_neg he]
  rw [e]
  exact ⟨H.wld,fun j hj=>.inr ⟨j,hj,find_at H.wld hj,AsU.refl _ _⟩,fun _=>rfl⟩
end Go.Proofs.YtnbleebilmghcacGreat
