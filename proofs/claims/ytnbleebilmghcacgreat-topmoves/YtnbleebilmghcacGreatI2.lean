/- Ho9, Ho10 -/
import Derived.Test.YtnbleebilmghcacGreatTHo8
set_option linter.all false
namespace Go.Proofs.YtnbleebilmghcacGreat
open Go Go.RowKit
def Av (p:Nat) (v:Value) (ex:Nat→Prop) (b:Nat):Prop:=b=p∨v.ownBlock=some b∨ex b
structure GH (ex:Nat→Prop) (p:Nat) (T:Option Addr) (tc:Nat) (G:Option Addr) (gc:Nat) (M:Option Addr) (mc:Nat) (SA:Option Addr) (sc:Nat) (u4:Value) (mods:List ModI) (X:Wd) (ss:List SysI) (W:World):Prop where
 bx:Bxs p [([.slice T (zK X).length tc,.slice G X.gens.length gc,.slice M mods.length mc,.slice SA ss.length sc,u4],82)] W
 st:Foot (fun W=>StAt W T G (zK X) X) (Av p (.slice SA ss.length sc) ex) W
 md:Foot (fun W=>GAt zAM 3 W M mods) (Av p (.slice SA ss.length sc) ex) W
 so:W.ownsRow (p+1) 44 4 (.slice SA ss.length sc) ss.length (zAG ss)
 ac:Foot (fun W=>∀ s∈ss,ActsAt W s.A s.len s.a) (Av p (.slice SA ss.length sc) ex) W
section
variable {ex:Nat→Prop} {p:Nat} {T:Option Addr} {tc:Nat} {G:Option Addr} {gc:Nat} {M:Option Addr} {mc:Nat} {SA:Option Addr} {sc:Nat} {u4:Value} {mods:List ModI} {X:Wd} {ss:List SysI} {W W1:World}
theorem GH.lt (h:GH ex p T tc G gc M mc SA sc u4 mods X ss W):p<W.heap.size:=h.bx.lt (k:=0) rfl
theorem GH.below (h:GH ex p T tc G gc M mc SA sc u4 mods X ss W) (hb:Below W.heap.size W W1):GH ex p T tc G gc M mc SA sc u4 mods X ss W1 :=
 ⟨h.bx.below hb,h.st.keep (Tw.of_below hb),h.md.keep (Tw.of_below hb),zb h.so hb,h.ac.keep (Tw.of_below hb)⟩
theorem GH.bec (h:GH ex p T tc G gc M mc SA sc u4 mods X ss W) (hex:∀ b,ex b→b<W.heap.size) {Y:Wd} {err:Int} (he:err=0) (hb:Bec p (.slice M mods.length mc) (.slice SA ss.length sc) u4 err Y W W1):∃ T' tc' G' gc',GH ex p T' tc' G' gc' M mc SA sc u4 mods Y ss W1:=by
 unfold Bec at hb
 rw [if_pos he] at hb
 obtain ⟨T',tc',G',gc',h1,h2,h3⟩:=hb
 have h4:Tw (Av p (.slice SA ss.length sc) ex) W W1:=h3.mono (fun k _ hk=>.inl hk)
 refine ⟨T',tc',G',gc',h1,Foot.new h2 (fun g hg _ ha=>?_),h.md.keep h4,zCi h.so h3 (fun g hg e=>?_),h.ac.keep h4⟩
 ·have:=h.lt
  rcases ha with e | e | e
  ·omega
  ·have:=(h.so.lt g e).2;omega
  ·have:=hex g e;omega
 ·have:=(h.so.lt g hg).1;omega
theorem GH.join (h:GH ex p T tc G gc M mc SA sc u4 mods X ss W) (hex:∀ b,ex b→b<W.heap.size) {x:SysI} {A:Option Addr} {c g cg:Nat} (hj:JOk p (.slice T (zK X).length tc) (.slice G X.gens.length gc) (.slice M mods.length mc) u4 SA ss.length sc (zAG ss) x W W1 A c g cg) :
  GH ex p T tc G gc M mc (some ⟨g,0,none⟩) cg u4 mods X (ss++[⟨x.m,x.al,x.no,A,x.len,c,x.a⟩]) W1:=by
 have hl:(ss++[(⟨x.m,x.al,x.no,A,x.len,c,x.a⟩:SysI)]).length=ss.length+1:=by simp
 have hp:=h.lt
 have key:∀ {Q:World→Prop},Foot Q (Av p (.slice SA ss.length sc) ex) W→Foot Q (Av p (.slice (some ⟨g,0,none⟩) (ss.length+1) cg) ex) W1:=fun hQ=>by
  have h1:=hQ.less (av':=fun b=>Av p (.slice SA ss.length sc) ex b∨W.heap.size≤b) (fun b hb hh=>hh.elim id (fun e=>by omega))
  have h2:=h1.keep (hj.tw.mono (fun b _ hb=>.inl (hb.elim (fun e=>.inl e) (fun e=>.inr (.inl e)))))
  refine h2.less (fun b _ hb=>?_)
  rcases hb with e | e | e
  ·exact .inl (.inl e)
  ·have e:=Option.some.inj e
   simp only at e
   subst e
   exact hj.new.elim (fun e=>.inl (.inr (.inl e))) (fun e=>.inr e)
  ·exact .inl (.inr (.inr e))
 refine ⟨by rw [hl];exact hj.bx,by rw [hl];exact key h.st,by rw [hl];exact key h.md,by rw [hl,sysCellsL_snoc];exact hj.own,?_⟩
 rw [hl]
 refine ((key h.ac).and (hj.acts.less (fun b _ hb=>?_))).imp (fun W2 ⟨h1,h2⟩ s hs=>?_)
 ·rcases hb with e | e | e
  ·exact .inl (by omega)
  ·have e:=Option.some.inj e
   simp only at e
   exact .inr e.symm
  ·exact .inl (hex b e)
 ·rcases List.mem_append.1 hs with hs | hs
  ·exact h1 s hs
  ·rw [List.mem_singleton] at hs
   subst hs
   exact h2
end
theorem toP_getD (l:List SysI) (j:Nat):(l.map toP).getD j dS=toP (l.getD j dS):=by
 rw [List.getD_eq_getElem?_getD,List.getD_eq_getElem?_getD,List.getElem?_map]
 cases l[j]? <;> rfl
theorem allTo_toP (S:Nat→SysI):∀ n j X,zAC (fun j=>toP (S j)) n j X=zAC S n j X
 | 0,_,_=>rfl
 | n+1,j,X=>by
  have e:∀ s,runS X (toP s)=runS X s:=fun _=>rfl
  rw [zAC,zAC,e,allTo_toP S n (j+1)]
theorem sOf_toP (l:List SysI):sOf (l.map toP)=fun j=>toP (l.getD j dS):=funext fun j=>toP_getD l j
theorem clS_toP (S:Nat→SysI):clS (fun j=>toP (S j))=clS S:=rfl
theorem bs_nil (W:World) (base:Nat):W.ownsRow base 39 2 (.slice none 0 0) 0 (zc []):=World.ownsRow_nil _ _ _ _
theorem do_any (ex:Nat→Prop) (p:Nat) (T:Option Addr) (tc:Nat) (G:Option Addr) (gc:Nat) (M:Option Addr) (mc:Nat) (SA:Option Addr) (sc:Nat) (u4:Value) (mods:List ModI) (X:Wd) (ss:List SysI) (d:DoI) (W:World)
  (h:GH ex p T tc G gc M mc SA sc u4 mods X ss W) (hex:∀ b,ex b→b<W.heap.size) (hA:ActsAt W d.s.A d.s.len d.s.a) (hml:mods.length≤6) (hok:HOk mods ⟨X,ss.map toP⟩) :
  Calls Tryz.prog 28 #[.pointer (some ⟨p,0,none⟩),doV d] W fun e W1=>∃ T' tc' G' gc' SA' sc' ss' A c,e=.returned (hansV (doF mods ⟨X,ss.map toP⟩ d).1 A c) ∧
   GH ex p T' tc' G' gc' M mc SA' sc' u4 mods (doF mods ⟨X,ss.map toP⟩ d).2.X ss' W1∧ss'.map toP=(doF mods ⟨X,ss.map toP⟩ d).2.S ∧
   W1.ownsRow W.heap.size 39 2 (.slice A (doF mods ⟨X,ss.map toP⟩ d).1.bs.length c) (doF mods ⟨X,ss.map toP⟩ d).1.bs.length (zc (doF mods ⟨X,ss.map toP⟩ d).1.bs) ∧
   Tw (fun b=>b=p∨(Value.slice SA ss.length sc).ownBlock=some b) W W1∧(∀ b,(Value.slice SA' ss'.length sc').ownBlock=some b→(Value.slice SA ss.length sc).ownBlock=some b∨W.heap.size≤b):=by
 have hst:=h.st.here
 have tb:∀ {W1},Below W.heap.size W W1→Tw (fun b=>b=p∨(Value.slice SA ss.length sc).ownBlock=some b) W W1:=fun hb=>Tw.of_below hb
 have hlen:(ss.map toP).length=ss.length:=List.length_map _
 have main:∀ {err:Int} {Y:Wd} {a:AnsI} {W1:World},a.bs=[]→Bec p (.slice M mods.length mc) (.slice SA ss.length sc) u4 err Y W W1→∃ T' tc' G' gc' SA' sc' ss' A c,(Ending.returned (hansV a none 0)=Ending.returned (hansV a A c)) ∧
   GH ex p T' tc' G' gc' M mc SA' sc' u4 mods (bec ⟨X,ss.map toP⟩ err Y).X ss' W1∧ss'.map toP=(bec ⟨X,ss.map toP⟩ err Y).S ∧
   W1.ownsRow W.heap.size 39 2 (.slice A a.bs.length c) a.bs.length (zc a.bs)∧Tw (fun b=>b=p∨(Value.slice SA ss.length sc).ownBlock=some b) W W1∧(∀ b,(Value.slice SA' ss'.length sc').ownBlock=some b→(Value.slice SA ss.length sc).ownBlock=some b∨W.heap.size≤b):=by
  intro err Y a W1 hbs hb
  by_cases he:err=0
  ·obtain ⟨T',tc',G',gc',hg⟩:=h.bec hex he hb
   refine ⟨T',tc',G',gc',SA,sc,ss,none,0,rfl,?_,?_,by rw [hbs];exact bs_nil _ _,(bec_tw hb).mono (fun _ _ e=>.inl e),fun _ e=>.inl e⟩
   ·unfold bec;rw [if_pos he];exact hg
   ·unfold bec;rw [if_pos he]
  ·have hb2:=hb
   unfold Bec at hb2
   rw [if_neg he] at hb2
   refine ⟨T,tc,G,gc,SA,sc,ss,none,0,rfl,?_,?_,by rw [hbs];exact bs_nil _ _,tb hb2,fun _ e=>.inl e⟩
   ·unfold bec;rw [if_neg he];exact h.below hb2
   ·unfold bec;rw [if_neg he]
 unfold doF
 by_cases k1:d.k=1
 ·rw [if_pos k1]
  refine (do_spawn p T tc G gc _ _ u4 X d W h.bx hst k1).mono ?_
  rintro e W1 ⟨rfl,hb⟩
  exact main (a:=⟨_,_,_,[],0⟩) rfl hb
 rw [if_neg k1]
 by_cases k2:d.k=2
 ·rw [if_pos k2]
  refine (do_kill p T tc G gc _ _ u4 X d W h.bx hst k2).mono ?_
  rintro e W1 ⟨rfl,hb⟩
  exact main (a:=⟨_,0,0,[],0⟩) rfl hb
 rw [if_neg k2]
 by_cases k3:d.k=3
 ·rw [if_pos k3]
  refine (do_put p T tc G gc _ _ u4 X d W h.bx hst k3).mono ?_
  rintro e W1 ⟨rfl,hb⟩
  exact main (a:=⟨_,0,0,[],0⟩) rfl hb
 rw [if_neg k3]
 by_cases k4:d.k=4
 ·rw [if_pos k4]
  refine (do_drop p T tc G gc _ _ u4 X d W h.bx hst k4).mono ?_
  rintro e W1 ⟨rfl,hb⟩
  exact main (a:=⟨_,0,0,[],0⟩) rfl hb
 rw [if_neg k4]
 by_cases k5:d.k=5
 ·rw [if_pos k5]
  have hn:ss.length≤12:=by have:=hok.few;simp only [hlen] at this;exact this
  simp only [hlen]
  by_cases he:refF mods ss.length d.s=0
  ·rw [if_pos he]
   refine (do_join p _ _ u4 M mc mods SA ss.length sc (zAG ss) d W h.bx h.so h.md.here hA hml hn k5 he).mono ?_
   rintro e W1 ⟨A,c,g,cg,rfl,hj⟩
   exact ⟨T,tc,G,gc,some ⟨g,0,none⟩,cg,_,none,0,rfl,h.join hex hj,by simp [toP],bs_nil _ _,hj.tw,fun b e=>by have e:=Option.some.inj e;simp only at e;subst e;exact hj.new⟩
  ·rw [if_neg he]
   refine (do_joinno p _ _ u4 M mc mods SA ss.length sc (zAG ss) d W h.bx h.so h.md.here hA hml hn k5 he).mono ?_
   rintro e W1 ⟨rfl,hb⟩
   exact ⟨T,tc,G,gc,SA,sc,ss,none,0,rfl,h.below hb,rfl,bs_nil _ _,tb hb,fun _ e=>.inl e⟩
 rw [if_neg k5]
 by_cases k6:d.k=6
 ·rw [if_pos k6]
  have hL:=syss_own h.so h.ac.here dS
  have hn:ss.length≤12:=by have:=hok.few;simp only [hlen] at this;exact this
  have hsw:∀ j,j<ss.length→(sw (ss.getD j dS)).1=0:=fun j hj=>by
   have:=hok.right j (by simpa using hj)
   rw [sOf_toP] at this
   exact this
  have et:tickF ⟨X,ss.map toP⟩=zAC (fun j=>ss.getD j dS) ss.length 0 X:=by
   unfold tickF
   simp only [hlen]
   rw [sOf_toP,allTo_toP]
  have ec:mkB (clS (sOf (ss.map toP))) (ss.map toP).length=mkB (clS (fun j=>ss.getD j dS)) ss.length:=by
   rw [hlen,sOf_toP,clS_toP]
  simp only [et,ec]
  refine (do_tick p T tc G gc _ u4 SA ss.length sc (fun j=>ss.getD j dS) X d W h.bx hst hL hn hsw k6).mono ?_
  rintro e W1 ⟨rfl,hb⟩
  exact main (a:=⟨_,0,0,[],_⟩) rfl hb
 rw [if_neg k6]
 by_cases k7:d.k=7
 ·rw [if_pos k7]
  cases hc:(zBB d.fa && zBB d.fn && zAU d.p)
  ·rw [if_neg (by simp)]
   refine (do_asknot p T tc G gc _ _ u4 X d W h.bx hst k7 hc).mono ?_
   rintro e W1 ⟨rfl,hb⟩
   exact ⟨T,tc,G,gc,SA,sc,ss,none,0,rfl,h.below hb,rfl,bs_nil _ _,tb hb,fun _ e=>.inl e⟩
  ·rw [if_pos rfl]
   simp only [Bool.and_eq_true] at hc
   refine (do_ask p T tc G gc _ _ u4 X d W h.bx hst k7 hc.1.1 hc.1.2 hc.2).mono ?_
   rintro e W1 ⟨A,c,rfl,ho,hb⟩
   exact ⟨T,tc,G,gc,SA,sc,ss,A,c,rfl,h.below hb,rfl,ho,tb hb,fun _ e=>.inl e⟩
 rw [if_neg k7]
 refine (do_else p _ _ _ _ u4 d W h.bx k1 k2 k3 k4 k5 k6 k7).mono ?_
 rintro e W1 ⟨rfl,hb⟩
 exact ⟨T,tc,G,gc,SA,sc,ss,none,0,rfl,h.below hb,rfl,bs_nil _ _,tb hb,fun _ e=>.inl e⟩
end Go.Proofs.YtnbleebilmghcacGreat
set_option maxHeartbeats 2000000
set_option maxRecDepth 8000
namespace Go.Proofs.YtnbleebilmghcacGreat
open Go Go.RowKit
attribute [local go_sem ↓] Go.wp_at_zero Go.wp_at_succ
theorem sz29:(Tryz.prog.info? 35).map (·.size)=some 2:=by kernel_rfl
theorem wrongm_any (M:Option Addr) (mc:Nat) (mods:List ModI) (w:World) (hM:GAt zAM 3 w M mods) :
  Calls Tryz.prog 26 #[.slice M mods.length mc] w fun e w'=>e=.returned (zAV (wmF mods))∧Below w.heap.size w w':=by
 obtain ⟨rv,hrv⟩:∃ rv,wmF mods=rv:=⟨_,rfl⟩
 rw [hrv]
 unfold wmF at hrv
 have HRV:=zB hrv
 have HM:=zB hM
 clear hrv hM
 obtain ⟨W0,hW0,hbx,hX0⟩:=zAL w [([.int .i64 0,.int .i64 0],35)]
 have HW0:Hid (w.alloc (.cells #[.int .i64 0,.int .i64 0] 35)=W0):=zB hW0
 clear hW0
 have HL0:=zB hbx
 have HX0:=zB hX0
 clear hbx hX0
 unfold zAV
 by_cases h6:6<mods.length
 ·have d6:decide ((6:Int)<(mods.length:Int))=true:=decide_eq_true (by omega)
  have HV:=zB (show rv=(4,0) by rw [←zA HRV,if_pos h6])
  go_enter Tryz.func26,Tryz.ntmps26
  go_upto_region 1 with fail
  rw [zA HW0]
  go_wp2_with ((refine zH rfl 35 (.tmp 2) (.tmp 8) rfl w.heap.size 0 [.int .i64 4,.int .i64 0] rfl rfl (by simp [Value.oneCell']) sz29 ((zA HX0).there 0 rfl 2 rfl) ?_;intro W9 hW9;have HR:=zB ((zA HX0).give 0 rfl [.int .i64 4,.int .i64 0] rfl);have HE:=zB (zF (B:=w.heap.size) w.heap.size (Nat.le_refl _) [.int .i64 4,.int .i64 0] 0 _ (zA HL0));rw [Nat.add_zero] at HR;rw [←hW9] at HR HE;clear hW9))
  have r0:=(zA HR).cell 0 rfl 0 rfl
  have r1:=(zA HR).cell 0 rfl 1 rfl
  rw [Nat.add_zero] at r0 r1
  refine bodyPost_ret (v:=.agg #[.int .i64 4,.int .i64 0]) (by simp [results,Tryz.results26,go_sem,r0,r1]) rfl ⟨by rw [zA HV],zA HE⟩
 ·have d6:decide ((6:Int)<(mods.length:Int))=false:=decide_eq_false (by omega)
  have HV:=zB (show wmTo mods mods.length 0=rv by rw [←zA HRV,if_neg h6])
  have hml:mods.length≤6:=by omega
  clear h6
  go_enter Tryz.func26,Tryz.ntmps26
  go_upto_region 1 with fail
  rw [zA HW0]
  go_wp2_with fail
  go_loopw [11] (fun x wr=>∃ k:Nat,k≤mods.length∧x=.int .i64 (k:Int)∧wmTo mods (mods.length - k) k=rv∧Bxs w.heap.size [([.int .i64 0,.int .i64 0],35)] wr∧Below w.heap.size w wr) (fun x _=>mods.length - (intOf x).toNat)
  case atStart=>exact ⟨0,Nat.zero_le _,rfl,zA HV,zA HX0,zA HL0⟩
  case round =>
   clear HV HX0 HL0
   obtain ⟨k,hk,rfl,hF,hX,hb⟩:=hrel
   by_cases hlt:k<mods.length
   ·have k0:(0:Int)≤(k:Int):=by omega
    have k1:(k:Int)<(mods.length:Int):=by omega
    rw [wm_step mods mods.length k hlt] at hF
    have hmg:mods[k]?=some (mods.getD k dM):=by rw [List.getD_eq_getElem?_getD,List.getElem?_eq_getElem hlt];rfl
    obtain ⟨b,off,hAe,hmc⟩:=((zA HM).below hb) k _ hmg
    have m0:=hmc 0 _ rfl
    have m1:=hmc 1 _ rfl
    have m2:=hmc 2 _ rfl
    rw [Nat.add_zero] at m0
    generalize mods.getD k dM=m at *
    have hSR:=zAJ m.rd
    have hSW:=zAJ m.wr
    obtain ⟨wk,rfl⟩:∃ wk,wk=wr:=⟨_,rfl⟩
    obtain ⟨W1,hW1,hbx,hX1⟩:=zAL wk [([.int .i64 m.rd,.int .i64 m.wr,.bool m.lf],48)]
    have HW1:Hid (wk.alloc (.cells #[.int .i64 m.rd,.int .i64 m.wr,.bool m.lf] 48)=W1):=zB hW1
    clear hW1
    have HX1:=zB (hX.below hbx)
    have HL1:=zB (hb.trans (hbx.mono hb.size))
    have y0:=hX1.cell 0 rfl 0 rfl
    have y1:=hX1.cell 0 rfl 1 rfl
    rw [Nat.add_zero] at y0 y1
    have HF:=zB hF
    subst hAe
    clear hF hX hb hmc hmg hX1 hbx
    go_upto_region 6 with fail
    rw [zA HW1]
    clear m0 m1 m2
    cases h1:zBB m.rd
    ·rw [h1] at hSR
     have HV:=zB (show rv=(3,(k:Int)) by rw [←zA HF,h1];rfl)
     clear h1 hSW
     go_wp2_with fail
     go_at_call 37
     refine (hSR _).mono ?_
     rintro e w2 ⟨rfl,hw⟩
     obtain rfl:=hw.symm
     clear hSR
     go_wp2_with ((refine zH rfl 35 (.tmp 2) (.tmp 27) rfl w.heap.size 0 [.int .i64 3,.int .i64 (k:Int)] rfl rfl (by simp [Value.oneCell']) sz29 ((zA HX1).there 0 rfl 2 rfl) ?_;intro W9 hW9;have HR:=zB ((zA HX1).give 0 rfl [.int .i64 3,.int .i64 (k:Int)] rfl);have HE:=zB (zF (B:=w.heap.size) w.heap.size (Nat.le_refl _) [.int .i64 3,.int .i64 (k:Int)] 0 _ (zA HL1));rw [Nat.add_zero] at HR;rw [←hW9] at HR HE;clear hW9))
     have r0:=(zA HR).cell 0 rfl 0 rfl
     have r1:=(zA HR).cell 0 rfl 1 rfl
     rw [Nat.add_zero] at r0 r1
     refine bodyPost_ret (v:=.agg #[.int .i64 3,.int .i64 (k:Int)]) (by simp [results,Tryz.results26,go_sem,r0,r1]) rfl ⟨by rw [zA HV],zA HE⟩
    ·cases h2:zBB m.wr
     ·rw [h1] at hSR
      rw [h2] at hSW
      have HV:=zB (show rv=(3,(k:Int)) by rw [←zA HF,h1,h2];rfl)
      have HSW:=zB hSW
      have HSR:=zB hSR
      clear h1 h2 hSW hSR
      go_wp2_with fail
      go_at_call 37
      refine (zA HSR _).mono ?_
      rintro e w2 ⟨rfl,hw⟩
      obtain rfl:=hw.symm
      go_wp2_with fail
      go_at_call 37
      refine (zA HSW _).mono ?_
      rintro e w2 ⟨rfl,hw⟩
      obtain rfl:=hw.symm
      go_wp2_with ((refine zH rfl 35 (.tmp 2) (.tmp 27) rfl w.heap.size 0 [.int .i64 3,.int .i64 (k:Int)] rfl rfl (by simp [Value.oneCell']) sz29 ((zA HX1).there 0 rfl 2 rfl) ?_;intro W9 hW9;have HR:=zB ((zA HX1).give 0 rfl [.int .i64 3,.int .i64 (k:Int)] rfl);have HE:=zB (zF (B:=w.heap.size) w.heap.size (Nat.le_refl _) [.int .i64 3,.int .i64 (k:Int)] 0 _ (zA HL1));rw [Nat.add_zero] at HR;rw [←hW9] at HR HE;clear hW9))
      have r0:=(zA HR).cell 0 rfl 0 rfl
      have r1:=(zA HR).cell 0 rfl 1 rfl
      rw [Nat.add_zero] at r0 r1
      refine bodyPost_ret (v:=.agg #[.int .i64 3,.int .i64 (k:Int)]) (by simp [results,Tryz.results26,go_sem,r0,r1]) rfl ⟨by rw [zA HV],zA HE⟩
     ·rw [h1] at hSR
      rw [h2] at hSW
      have HV:=zB (show wmTo mods (mods.length - (k+1)) (k+1)=rv by rw [←zA HF,h1,h2];rfl)
      have HSW:=zB hSW
      have HSR:=zB hSR
      clear h1 h2 hSW hSR
      go_wp2_with fail
      go_at_call 37
      refine (zA HSR _).mono ?_
      rintro e w2 ⟨rfl,hw⟩
      obtain rfl:=hw.symm
      go_wp2_with fail
      go_at_call 37
      refine (zA HSW _).mono ?_
      rintro e w2 ⟨rfl,hw⟩
      obtain rfl:=hw.symm
      go_wp2
      go_roundw
      case rel=>exact ⟨k+1,by omega,by go_num,zA HV,zA HX1,zA HL1⟩
      case measure=>simp [intOf];omega
   ·have hkn:mods.length=k:=by omega
    rw [show mods.length - k=0 by omega] at hF
    have HV:=zB (show rv=(0,0) from hF.symm)
    have HX1:=zB hX
    have HL1:=zB hb
    have dk:decide ((k:Int)<(mods.length:Int))=false:=decide_eq_false (by omega)
    clear hF hX hb hkn
    go_wp2_with ((refine zH rfl 35 (.tmp 2) (.tmp 29) rfl w.heap.size 0 [.int .i64 0,.int .i64 0] rfl rfl (by simp [Value.oneCell']) sz29 ((zA HX1).there 0 rfl 2 rfl) ?_;intro W9 hW9;have HR:=zB ((zA HX1).give 0 rfl [.int .i64 0,.int .i64 0] rfl);have HE:=zB (zF (B:=w.heap.size) w.heap.size (Nat.le_refl _) [.int .i64 0,.int .i64 0] 0 _ (zA HL1));rw [Nat.add_zero] at HR;rw [←hW9] at HR HE;clear hW9))
    have r0:=(zA HR).cell 0 rfl 0 rfl
    have r1:=(zA HR).cell 0 rfl 1 rfl
    rw [Nat.add_zero] at r0 r1
    refine bodyPost_ret (v:=.agg #[.int .i64 0,.int .i64 0]) (by simp [results,Tryz.results26,go_sem,r0,r1]) rfl ⟨by rw [zA HV],zA HE⟩
end Go.Proofs.YtnbleebilmghcacGreat
