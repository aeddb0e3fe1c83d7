/- The document's Step. -/
import Derived.Test.YtnbleebilmghcabGreatUAZ
import Derived.Test.YtnbleebilmghcabGreatUBQ
import Derived.Test.YtnbleebilmghcabGreatUBS
import Derived.Test.YtnbleebilmghcabGreatUBP
import Derived.Test.YtnbleebilmghcabGreatUBM
import Derived.Test.YtnbleebilmghcabGreatUBT
set_option linter.all false
set_option maxRecDepth 8000
set_option maxHeartbeats 8000000
open Go.Value renaming int→I,slice→S,pointer→Ae,agg→Af,tuple→Ai,bool→Aj,oneCell'→Ar
open Go.IntKind renaming i64→K
open Option renaming none→N,some→O
open Go.Obj renaming cells→Al
open Go.Operand renaming tmp→Am
open Go.Ending renaming returned→Ao
open Array renaming getD_eq_getD_getElem?→Ap
open Go.Act renaming eval→Aq
open Go.Proofs.Tryz renaming prog→Au
namespace Go.Proofs.YtnbleebilmghcabGreat
open Go Go.RowKit
attribute [local go_sem ↓] Go.wp_at_zero Go.wp_at_succ
structure RC(w0:World)(ex:Nat→Prop)(p:Nat)(A:Option Addr)(c:Nat)(G:Option Addr)(gc:Nat)(mv:Value)(SA:Option Addr)(sc n:Nat)(X:Wd)(d:LE)(r:Mj×HI)(W:World)(e:Int)(γ:GA)(Y:Wd)(SA':Option Addr)(sc':Nat)(ss':List GG)(a:Mj)(A3:Option Addr)(c3:Nat)(V:World):Prop where
 bx:GJ W.heap.size [(Iv d,89),(z5,64),(wC γ Y,43),(GE (a,A3,c3),64)] V
 rh:RH w0 ex p A c G gc mv SA' sc' X ss' V
 wl:FX V γ.1 γ.2.1 γ.2.2.1 γ.2.2.2 Y
 aw:∀b,OU γ.1 γ.2.2.1 Y b→¬ Av p (.slice SA' ss'.length sc') ex b∧(b<W.heap.size∨W.heap.size+4≤b)
 no:e≠0→r=(⟨e,0,0,[],0⟩,⟨X,ss'.map I1⟩)
 yes:e=0→r=(a,⟨Y,ss'.map I1⟩)
 own:V.ownsRow (W.heap.size+4) 61 2 (.slice A3 a.bs.length c3) a.bs.length (Fz a.bs)
 tw:Tw (fun b=>b=p∨(Value.slice SA n sc).ownBlock=some b) W V
 new:∀b,(Value.slice SA' ss'.length sc').ownBlock=some b→(Value.slice SA n sc).ownBlock=some b∨W.heap.size+4≤b
section
variable {w0:World} {ex:Nat→Prop} {p:Nat} {A:Option Addr} {c:Nat} {G:Option Addr} {gc:Nat} {mv:Value} {SA:Option Addr} {sc:Nat} {X:Wd} {ss:List GG} {d:LE} {r:Mj×HI} {W V:World} {e:Int} {γ:GA} {Y:Wd} {SA':Option Addr} {sc':Nat} {ss':List GG} {a:Mj} {A3:Option Addr} {c3:Nat}
theorem RC.of4(h:RH w0 ex p A c G gc mv SA sc X ss W)(hex:∀ b,ex b→b<W.heap.size){i g:Int}{G0:Option Addr}{s2:Bool}(hR:R4 d (A,c,G,gc) X Y i g G0 W true s2 true γ V)(hg:Y.gens≠[]→G0=N∨(G0=G∧X.gens≠[]))(ha:a.bs=[])(hc:(if s2=true then [I K 0,I K i,I K g,S N 0 0,I K 0] else z5)=GE (a,N,0))(hno:e≠0→r=(⟨e,0,0,[],0⟩,⟨X,ss.map I1⟩))(hyes:e=0→r=(a,⟨Y,ss.map I1⟩)):RC w0 ex p A c G gc mv SA sc ss.length X d r W e γ Y SA sc ss a N 0 V:=by
 have hF:WF (W.heap.size+4) A G X V γ.1 γ.2.1 γ.2.2.1 γ.2.2.2 Y:=ie (hR.doc R) hg;exact⟨by have:=hR.bx;rw[hc]at this;exact this,h.below hR.bel,hF.at_,h.away hex (by omega) hF,hno,hyes,by rw[ha];exact Bn _ _ _ _,Tw.of_below hR.bel,fun b hb=>.inl hb⟩
theorem RC.lt(h:RH w0 ex p A c G gc mv SA sc X ss W)(hC:RC w0 ex p A c G gc mv SA sc ss.length X d r W e γ Y SA' sc' ss' a A3 c3 V):(S SA' ss'.length sc').ownBlock≠O (W.heap.size+1):=fun hb=>by
 rcases hC.new _ hb with hb|hb
 ·have:=(h.so.lt _ hb).2;omega
 ·omega
theorem RC.ok(h:RH w0 ex p A c G gc mv SA sc X ss W)(hC:RC w0 ex p A c G gc mv SA sc ss.length X d r W e γ Y SA' sc' ss' a A3 c3 V)(he:e=0){V2:World}(hV:V2=(V.setCells p 0 (wC γ Y)).setCells (W.heap.size+1) 0 (GE (a,A3,c3))):iH w0 ex p mv SA sc ss.length r W (Ao (Af (GE (a,A3,c3)).toArray)) V2:=by
 have hp:=h.lt;have hlo:=h.lo;have hb:=h.bel.size;have h1:=(hC.rh.bec hC.wl (fun b hb=>(hC.aw b hb).1)).put (b:=W.heap.size+1) (o:=0) (vs:=GE (a,A3,c3)) (by omega) (RC.lt h hC) (fun hb=>by have:=(hC.aw _ hb).2;omega) (by omega);rw[hV,hC.yes he];refine⟨γ.1,γ.2.1,γ.2.2.1,γ.2.2.2,SA',sc',ss',A3,c3,rfl,h1,rfl,?_,?_,fun b hb=>(hC.new b hb).imp (fun e=>e) (fun e=>by omega)⟩
 ·have ht:Tw (fun b=>b=p∨b=W.heap.size+1) V ((V.setCells p 0 (wC γ Y)).setCells (W.heap.size+1) 0 (GE (a,A3,c3))):=((Tw.refl _ V).sets (.inl (.inl R))).sets (.inl (.inr R));exact Oe (Iu hC.own ht (fun g hg e=>by have:=(hC.own.lt g hg).1;omega)) (by omega)
 ·exact((hC.tw.sets (b:=p) (o:=0) (vs:=wC γ Y) (.inl (.inl R))).sets (.inr (by omega)))
theorem RC.ko(h:RH w0 ex p A c G gc mv SA sc X ss W)(hC:RC w0 ex p A c G gc mv SA sc ss.length X d r W e γ Y SA' sc' ss' a A3 c3 V)(he:e≠0){V1 V2:World}(hb:Below V.heap.size V V1)(hV:V2=V1.setCells (W.heap.size+1) 0 [I K e,I K 0,I K 0,S N 0 0,I K 0]):iH w0 ex p mv SA sc ss.length r W (Ao (Af #[I K e,I K 0,I K 0,S N 0 0,I K 0])) V2:=by
 have hp:=h.lt;have hlo:=h.lo;have h1:=(hC.rh.below hb).put (b:=W.heap.size+1) (o:=0) (vs:=[I K e,I K 0,I K 0,S N 0 0,I K 0]) (by omega) (RC.lt h hC) (fun hb=>by have:=IS h.wl hb;omega) (by omega);rw[hV,hC.no he];exact⟨A,c,G,gc,SA',sc',ss',N,0,rfl,h1,rfl,Bn _ _ _ _,(hC.tw.trans (Tw.of_below (av:=fun _=>False) hb) (fun _ _ h=>h.elim)).sets (.inr (by omega)),fun b hb=>(hC.new b hb).imp (fun e=>e) (fun e=>by omega)⟩
theorem MM(h:RH w0 ex p A c G gc mv SA sc X ss W)(hr:r=(⟨e,0,0,[],0⟩,⟨X,ss.map I1⟩))(hb:Below W.heap.size W V):iH w0 ex p mv SA sc ss.length r W (Ao (Af #[I K e,I K 0,I K 0,S N 0 0,I K 0])) V:=by
 rw[hr];exact⟨A,c,G,gc,SA,sc,ss,N,0,rfl,h.below hb,rfl,Bn _ _ _ _,Tw.of_below hb,fun _ e=>.inl e⟩
end
theorem S4{X:Wd}{has n:Int}(h:(FQ X has n).1≠0):(FQ X has n).2.1=(0,0):=by
 unfold FQ at h⊢;split
 ·rfl
 split
 ·rfl
 split
 ·rfl
 ·rename_i h1 h2 h3;rw[AA h1,AA h2,AA h3]at h;exact absurd R h
section
variable {mods:List Ho} {X:Wd} {S:List GG} {d:LE}
theorem lD(hk:d.k=1):((FQ X d.has d.n).1≠0→Ka mods ⟨X,S⟩ d=(⟨(FQ X d.has d.n).1,0,0,[],0⟩,⟨X,S⟩))∧((FQ X d.has d.n).1=0→Ka mods ⟨X,S⟩ d=(⟨0,(FQ X d.has d.n).2.1.1,(FQ X d.has d.n).2.1.2,[],0⟩,⟨(FQ X d.has d.n).2.2,S⟩)):=by
 unfold Ka bec;refine⟨fun h=>?_,fun h=>?_⟩
 ·rw[AF hk,AA h,S4 h]
 ·rw[AF hk,AF h,h]
theorem lC(hk:d.k=2):((GS X d.i d.g).1≠0→Ka mods ⟨X,S⟩ d=(⟨(GS X d.i d.g).1,0,0,[],0⟩,⟨X,S⟩))∧((GS X d.i d.g).1=0→Ka mods ⟨X,S⟩ d=(⟨0,0,0,[],0⟩,⟨(GS X d.i d.g).2,S⟩)):=by
 unfold Ka bec;exact⟨fun h=>by simp[hk,h],fun h=>by simp[hk,h]⟩
theorem lB(hk:d.k=3):((Hc X d.i d.g d.p d.n).1≠0→Ka mods ⟨X,S⟩ d=(⟨(Hc X d.i d.g d.p d.n).1,0,0,[],0⟩,⟨X,S⟩))∧((Hc X d.i d.g d.p d.n).1=0→Ka mods ⟨X,S⟩ d=(⟨0,0,0,[],0⟩,⟨(Hc X d.i d.g d.p d.n).2,S⟩)):=by
 unfold Ka bec;exact⟨fun h=>by simp[hk,h],fun h=>by simp[hk,h]⟩
theorem lA(hk:d.k=4):((GK X d.i d.g d.p).1≠0→Ka mods ⟨X,S⟩ d=(⟨(GK X d.i d.g d.p).1,0,0,[],0⟩,⟨X,S⟩))∧((GK X d.i d.g d.p).1=0→Ka mods ⟨X,S⟩ d=(⟨0,0,0,[],0⟩,⟨(GK X d.i d.g d.p).2,S⟩)):=by
 unfold Ka bec;exact⟨fun h=>by simp[hk,h],fun h=>by simp[hk,h]⟩
theorem kJ(hk:d.k=5){e:Int}(he:Ke mods S.length d.s=e)(h0:e≠0):Ka mods ⟨X,S⟩ d=(⟨e,0,0,[],0⟩,⟨X,S⟩):=by
 subst he;unfold Ka;simp[hk,h0]
theorem jc(hk:d.k=5)(he:Ke mods S.length d.s=0):Ka mods ⟨X,S⟩ d=(⟨0,0,0,[],((S.length+1:Nat):Int)⟩,⟨X,S++[I1 d.s]⟩):=by
 unfold Ka;simp[hk,he]
theorem k9(hk:d.k=6):((Ml ⟨X,S⟩).1.1≠0→Ka mods ⟨X,S⟩ d=(⟨(Ml ⟨X,S⟩).1.1,0,0,[],0⟩,⟨X,S⟩))∧((Ml ⟨X,S⟩).1.1=0→Ka mods ⟨X,S⟩ d=(⟨0,0,0,[],((IM (He (fe S)) S.length).length:Nat)⟩,⟨(Ml ⟨X,S⟩).2,S⟩)):=by
 unfold Ka bec;exact⟨fun h=>by simp[hk,h],fun h=>by simp[hk,h]⟩
theorem kI(hk:d.k=7)(h:(FV d.fa && FV d.fn && F5 d.p)=false):Ka mods ⟨X,S⟩ d=(⟨3,0,0,[],0⟩,⟨X,S⟩):=by
 unfold Ka;rw[h];simp[hk]
theorem k8(hk:d.k=7)(h:(FV d.fa && FV d.fn && F5 d.p)=true):Ka mods ⟨X,S⟩ d=(⟨0,0,0,GV X d.fa d.fn X.rows.length,Jh X d.p (GV X d.fa d.fn X.rows.length) 0⟩,⟨X,S⟩):=by
 unfold Ka;rw[h];simp[hk]
theorem kz(h1:d.k≠1)(h2:d.k≠2)(h3:d.k≠3)(h4:d.k≠4)(h5:d.k≠5)(h6:d.k≠6)(h7:d.k≠7):Ka mods ⟨X,S⟩ d=(⟨1,0,0,[],0⟩,⟨X,S⟩):=by
 unfold Ka;rw[AA h1,AA h2,AA h3,AA h4,AA h5,AA h6,AA h7]
end
theorem QH(m:List Ho):∀n j,O2 m n j=(0,0)→∀k,j≤k→k<j+n→FV (m.getD k dM).rd=true∧FV (m.getD k dM).wr=true
 |0,j,_,k,h1,h2=>by omega
 | n+1,j,h,k,h1,h2=>by
  rw[O2]at h;split at h
  ·rename_i hs;by_cases e:k=j
   ·subst e;simpa using hs
   ·exact QH m n (j+1) h k (by omega) (by omega)
  ·cases h
theorem Zw{m:List Ho}(h:Ns m=(0,0)){k:Nat}(hk:k<m.length):FV (m.getD k dM).rd=true∧FV (m.getD k dM).wr=true:=by
 unfold Ns at h;split at h
 ·cases h
 ·exact QH m _ 0 h k Fw (by omega)
theorem aG{X:Wd}(hr:FK X){p:Int}(hp:F5 p=true)(a n:Int){j:Nat}(hj:j<X.rows.length):Jh X p (GV X a n (j+1)) 0=if IJ a n (X.rows.getD j dR).has=true then IntKind.i64.wrap (Jh X p (GV X a n j) 0+(X.rows.getD j dR).v p.toNat)else Jh X p (GV X a n j) 0:=by
 rw[L3 X a n j hj];split
 ·rw[N0];exact B8 (fun z=>IntKind.i64.wrap (Jh X p (GV X a n j) 0+z)) (K3 hr hj (U6 hr hj) hp).1
 ·rfl
theorem fR(X:Wd)(ss:List GG):Ml ⟨X,ss.map I1⟩=GX (fun j=>ss.getD j dS) ss.length 0 X:=by
 unfold Ml;simp only[List.length_map];rw[NO,PT]
structure R7(d:LE)(γ0:GA)(X:Wd)(W:World)(bs:List (Int×Int))(s:Int)(A3:Option Addr)(c3:Nat)(V:World):Prop where
 bx:GJ W.heap.size [(Iv d,89),(z5,64),(wC γ0 X,43),(GE (⟨0,0,0,bs,s⟩,A3,c3),64)] V
 own:V.ownsRow (W.heap.size+4) 61 2 (.slice A3 bs.length c3) bs.length (Fz bs)
 bel:Below W.heap.size W V
section
variable {d:LE} {γ0:GA} {X:Wd} {W:World} {bs:List (Int×Int)} {s:Int} {A3:Option Addr} {c3:Nat} {V V1:World}
theorem R7.sz (h:R7 d γ0 X W bs s A3 c3 V):W.heap.size+4≤V.heap.size:=h.bx.sz (by simp)
theorem R7.below(h:R7 d γ0 X W bs s A3 c3 V)(hb:Below V.heap.size V V1):R7 d γ0 X W bs s A3 c3 V1:=⟨h.bx.below hb,FT h.own hb,h.bel.trans (hb.mono h.bel.size)⟩
theorem R7.tw(h:R7 d γ0 X W bs s A3 c3 V)(hg:V.grownBy V1 (S A3 bs.length c3).ownBlock):GJ W.heap.size [(Iv d,89),(z5,64),(wC γ0 X,43),(GE (⟨0,0,0,bs,s⟩,A3,c3),64)] V1∧Below W.heap.size W V1:=by
 have ht:Tw (fun b=>(S A3 bs.length c3).ownBlock=O b) V V1:=Tw.of_grown hg (fun k hk=>hk);refine⟨h.bx.tw ht (fun k hk e=>?_),h.bel.trans (ht.below h.bel.size (fun k hk e=>?_))⟩
 ·simp only[AJ,AK]at hk;have:=(h.own.lt _ e).1;omega
 ·have:=(h.own.lt _ e).1;omega
theorem R7.app(h:R7 d γ0 X W bs s A3 c3 V){i g:Int}{b cb:Nat}(ho:V1.ownsRow (W.heap.size+4) 61 2 (S (O ⟨b,0,N⟩) (bs.length+1) cb) (bs.length+1) (Fz bs++[I K i,I K g]))(hg:V.grownBy V1 (S A3 bs.length c3).ownBlock):
  R7 d γ0 X W (bs++[(i,g)]) s (O ⟨b,0,N⟩) cb (V1.setCell ⟨W.heap.size+3,3,N⟩ (S (O ⟨b,0,N⟩) (bs.length+1) cb)):=by
 obtain⟨h1,h2⟩:=h.tw hg;have hl:(bs++[(i,g)]).length=bs.length+1:=by simp
 have hb:=(ho.lt b R).1;refine⟨?_,?_,h2.setCell (p:=⟨W.heap.size+3,3,N⟩) (by simp) _⟩
 ·have:=h1.part 3 R 3 [S (O ⟨b,0,N⟩) (bs.length+1) cb] (by simp[GE]);unfold GE;simp only[hl];exact this
 ·rw[hl,Re];exact B7 ho (a:=⟨W.heap.size+3,3,N⟩) (fun e=>by have e:=Bd e;simp only at e;omega) _
theorem R7.sum(h:R7 d γ0 X W bs s A3 c3 V)(s':Int):R7 d γ0 X W bs s' A3 c3 (V.setCell ⟨W.heap.size+3,4,N⟩ (I K s')):=by
 refine⟨h.bx.part 3 R 4 [I K s'] (by simp[GE]),?_,h.bel.setCell (p:=⟨W.heap.size+3,4,N⟩) (by simp) _⟩;refine Iu h.own ((Tw.refl (fun b=>b=W.heap.size+3) V).sets (b:=W.heap.size+3) (o:=4) (vs:=[I K s']) (.inl R)) (fun g hg e=>?_);have:=(h.own.lt g hg).1;omega
end
theorem UQ(x:D7){q:Nat}(hq:q<8):(D' x)[3+q]?=O (I K (x.v q)):=by
 rcases(by omega:q=0∨q=1∨q=2∨q=3∨q=4∨q=5∨q=6∨q=7)with rfl|rfl|rfl|rfl|rfl|rfl|rfl|rfl <;>rfl
theorem kT:(Tryz.prog.info? 62).map (·.size)=some 1:=by kernel_rfl
theorem YX(RR:js)(w0:World)(ex:Nat→Prop)(p:Nat)(A:Option Addr)(c:Nat)(G:Option Addr)(gc:Nat)(M:Option Addr)(mc:Nat)(mods:List Ho)(SA:Option Addr)(sc:Nat)(X:Wd)(ss:List GG)(d:LE)(W:World)(h:RH w0 ex p A c G gc (.slice M mods.length mc) SA sc X ss W)(hex:∀ b,ex b→b<W.heap.size)(hM:L7 GO 3 w0 M mods)(hA:GZ w0 d.s.A d.s.len d.s.a)(hwm:Ns mods=(0,0))(hok:XP mods ⟨X,ss.map I1⟩):
  Calls Au 43 #[Ae (O ⟨p,0,N⟩),Pv d] W fun e V=>iH w0 ex p (.slice M mods.length mc) SA sc ss.length (Ka mods ⟨X,ss.map I1⟩ d) W e V:=by
 obtain⟨hl,hgl,_⟩:=GD ((F7 X).2 hok.wld);have hlt:=h.lt;obtain⟨r,hr⟩:∃r,r=Ka mods ⟨X,ss.map I1⟩ d:=⟨_,rfl⟩;rw[←hr];obtain⟨W1,hW1,hL1,hX1⟩:=LZ W [(Iv d,89),(z5,64),(wC (A,c,G,gc) X,43),(z5,64)];simp only[GQ,Iv,wC,z5]at hW1;obtain⟨p0,p1⟩:=h.bx.g2 R;have y0:=hX1.cell 0 R 0 R;rw[Ay]at y0;have HRR:=An hr;have HW1:=An hW1;have HL1:=An hL1;have HX1:=An hX1;have HP:=An h;have HEX:=An hex;have HM:=An hM;have HA:=An hA;have HWM:=An hwm;have HOK:=An hok;clear hr hW1 hL1 hX1 h hex hM hA hwm hok;unfold Pv;go_enter Tryz.func43,Tryz.ntmps43
 go_upto_region 4 with fail
 rw[AN HW1];clear p0 p1;go_upto_block 0 with fail
 clear y0;go_cut [7]from 9 (fun x wc=>∃(e:Int) (γ:GA) (Y:Wd) (SA':Option Addr) (sc':Nat) (ss':List GG) (a:Mj) (A3:Option Addr) (c3:Nat),x=I K e∧RC w0 ex p A c G gc (.slice M mods.length mc) SA sc ss.length X d r W e γ Y SA' sc' ss' a A3 c3 wc)
 case first =>
  by_cases hk1:d.k=1
  ·have hk:=hk1;clear hk1;as_aux_lemma =>
    have hC:=fun V (hb:Below W.heap.size W V)=>QZ A c G gc X d.has d.n V (by omega) ((AN HP).wl.below hb);unfold Up FF FJ at hC;have hG0:((FQ X d.has d.n).2.2).gens≠[]→∀c o,(N:Option Addr)=O ⟨c,o,N⟩→c<W.heap.size:=fun _ _ _ e=>(by cases e);have hDo:=lD (mods:=mods) (X:=X) (S:=ss.map I1) hk;rw[←AN HRR]at hDo;generalize FQ X d.has d.n=q at hC hG0 hDo;have HC:=An hC;have HG0:=An hG0;have HDO:=An hDo;clear hC hG0 hDo;have h0:R4 d (A,c,G,gc) X q.2.2 (q.2.1.1) (q.2.1.2) (N:Option Addr) W false false false (N,0,N,0) W1.drew:=⟨AN HX1,(AN HL1).drew,fun h=>(by cases h)⟩;have kb1:(d.k == 1)=true:=(by simp[hk]);have kd1:decide (d.k=1)=true:=(by simp[hk]);clear hk;go_upto_region 7 with fail
    refine FW (fun(γ:GA)=>[Ae (O ⟨p,0,N⟩),Ae (O ⟨p,0,N⟩),Ae (O ⟨p,0,N⟩),Af #[.slice A X.rows.length c,.slice G X.gens.length gc],Ae (O ⟨W.heap.size,1,N⟩),I K d.has,Ae (O ⟨W.heap.size,3,N⟩),I K d.n,Ai #[Af #[.slice γ.1 (q.2.2).rows.length γ.2.1,.slice γ.2.2.1 (q.2.2).gens.length γ.2.2.2],Af #[I K (q.2.1.1),I K (q.2.1.2)],I K (q.1)],Ai #[Af #[.slice γ.1 (q.2.2).rows.length γ.2.1,.slice γ.2.2.1 (q.2.2).gens.length γ.2.2.2],Af #[I K (q.2.1.1),I K (q.2.1.2)],I K (q.1)],Af #[.slice γ.1 (q.2.2).rows.length γ.2.1,.slice γ.2.2.1 (q.2.2).gens.length γ.2.2.2],Af #[I K (q.2.1.1),I K (q.2.1.2)],I K (q.1),undef,Ae (O ⟨W.heap.size+3,1,N⟩),undef,I K (q.1)]) (fun(γ:GA) L V=>R4 d (A,c,G,gc) X (q.2.2) (q.2.1.1) (q.2.1.2) (N:Option Addr) W (L 13) (L 15) (L 8) γ V) (N,0,N,0) (by kernel_rfl) (by kernel_rfl) (by kernel_rfl) (by kernel_rfl) h0 ?hstep ?hend
    case hstep =>
     intro F γ hout hF ix o ho L w1 hD hL hed hcl;simp only[Hu,G9,Br,Bx]at hF;have e0:F.tmps.getD 0 undef=Ae (O ⟨p,0,N⟩):=hout 0 (by decide +kernel);have e3:F.tmps.getD 3 undef=Ae (O ⟨W.heap.size,0,N⟩):=hout 3 (by decide +kernel);have e6:F.tmps.getD 6 undef=Ae (O ⟨W.heap.size+2,0,N⟩):=hout 6 (by decide +kernel);have e8:F.tmps.getD 8 undef=Ae (O ⟨W.heap.size+3,0,N⟩):=hout 8 (by decide +kernel);have bp:=(AN HP).bx.below hD.bel;obtain⟨p0,p1⟩:=bp.g2 R;have d1:=hD.bx.cell 0 R 1 R;have d3:=hD.bx.cell 0 R 3 R;rw[Ay]at d1 d3
     match ix,ho with
     |0,ho|1,ho|2,ho|3,ho|4,ho|5,ho|6,ho|7,ho|9,ho|10,ho|11,ho|12,ho|14,ho|16,ho =>
      simp at ho;subst ho;exact .inl ⟨rfl,FB γ _ (by simp[go_sem,Aq,-Ap,hF,e0,e3,e6,e8,p0,p1,d1,d3]) R (hD) (fun _ _ _=>rfl)⟩
     | 8,ho =>
      simp at ho;subst ho;have q1:L 13=false:=FA hcl hL 17 13 (by kernel_rfl);have q2:L 15=false:=FA hcl hL 17 15 (by kernel_rfl);refine .inl ⟨rfl,GU 60 #[Af #[.slice A X.rows.length c,.slice G X.gens.length gc],I K d.has,I K d.n] (by simp[go_sem,Aq,-Ap,hF]) ?_⟩;refine((AN HC) _ hD.bel).mono ?_;rintro e w2⟨A2,c2,G2,gc2,rfl,hd2,hb2⟩;exact⟨_,(A2,c2,G2,gc2),rfl,rfl,hD.call q1 q2 hb2 hd2,I5 hcl hL 17 [9,10,11,12,16] (by kernel_rfl) (fun j h1 h2=>by
       match j with
       |0|1|2|3|4|5|6|7|13|14|15=>rfl
       |8=>exact absurd R h1
       |9|10|11|12|16=>simp at h2
       |j+17=>rfl)⟩
     | 13,ho =>
      simp at ho;subst ho;have ql:L 8=true:=by
       cases h:L 8
       ·have:=FA hcl h 17 10 (by kernel_rfl);rw[hed 10 (by kernel_rfl)]at this;cases this
       ·rfl
      exact .inl ⟨rfl,Gy γ 43 (Am 6) (Am 37) R (W.heap.size+2) 0 (wC γ (q.2.2)) (by simp[Aq,-Ap,e6]) (by simp[Aq,-Ap,hF,wC]) (by simp[wC,Ar]) YM (hD.bx.there 2 R 2 (by split <;>rfl)) R (hD.put1 ql (AN HG0)) (fun _ _ _=>rfl)⟩
     | 15,ho =>
      simp at ho;subst ho;have ql:L 8=true:=by
       cases h:L 8
       ·have:=FA hcl h 17 11 (by kernel_rfl);rw[hed 11 (by kernel_rfl)]at this;cases this
       ·rfl
      exact .inl ⟨rfl,Gy γ 61 (Am 40) (Am 38) R (W.heap.size+3) 1 [I K (q.2.1.1),I K (q.2.1.2)] (by simp[Aq,-Ap,hF]) (by simp[Aq,-Ap,hF]) (by simp[Ar]) jy (Hj (hD.bx.there 3 R 5 (by split <;>rfl)) 1 2 (by omega)) R (hD.put2 hL ql (AN HG0)) (fun _ _ _=>rfl)⟩
     |ix+17,ho=>simp at ho
    case hend =>
     intro γ L V hD hall;have hR:=hD;rw[hall 13 (by decide),hall 8 (by decide),hall 15 (by decide)]at hR;have HR:=An hR;clear hD hall hR h0;simp only[GN,AI,AH,Ba,AJ,AK,Nat.reduceAdd,Bf,Be];go_frame;go_wp2_with fail
     go_meet
     exact⟨_,γ,q.2.2,SA,sc,ss,⟨0,q.2.1.1,q.2.1.2,[],0⟩,N,0,rfl,RC.of4 (AN HP) (AN HEX) (AN HR) (fun _=>.inl R) R R (AN HDO).1 (AN HDO).2⟩
  by_cases hk2:d.k=2
  ·have hk:=hk2;clear hk2;as_aux_lemma =>
    have hC:=fun V (hb:Below W.heap.size W V)=>SO A c G gc X d.i d.g V (by omega) ((AN HP).wl.below hb);unfold Up FF FJ at hC;have hG0:((GS X d.i d.g).2).gens≠[]→∀c o,G=O ⟨c,o,N⟩→c<W.heap.size:=fun hn=>TY (AN HP).wl.gens (PF X _ _ hn);have hG1:((GS X d.i d.g).2).gens≠[]→X.gens≠[]:=PF X _ _;have hDo:=lC (mods:=mods) (X:=X) (S:=ss.map I1) hk;rw[←AN HRR]at hDo;generalize GS X d.i d.g=q at hC hG0 hG1 hDo;have HC:=An hC;have HG0:=An hG0;have HDO:=An hDo;clear hC hG0 hDo;have HG1:=An hG1;clear hG1;have h0:R4 d (A,c,G,gc) X q.2 (0) (0) G W false false false (N,0,N,0) W1.drew:=⟨AN HX1,(AN HL1).drew,fun h=>(by cases h)⟩;have kb1:(d.k == 1)=false:=(by simp[hk]);have kd1:decide (d.k=1)=false:=(by simp[hk]);have kb2:(d.k == 2)=true:=(by simp[hk]);have kd2:decide (d.k=2)=true:=(by simp[hk]);clear hk;go_upto_region 9 with fail
    refine FW (fun(γ:GA)=>[Ae (O ⟨p,0,N⟩),Ae (O ⟨p,0,N⟩),Ae (O ⟨p,0,N⟩),Af #[.slice A X.rows.length c,.slice G X.gens.length gc],Ae (O ⟨W.heap.size,4,N⟩),Af #[I K d.i,I K d.g],Ai #[Af #[.slice γ.1 (q.2).rows.length γ.2.1,.slice γ.2.2.1 (q.2).gens.length γ.2.2.2],I K (q.1)],Ai #[Af #[.slice γ.1 (q.2).rows.length γ.2.1,.slice γ.2.2.1 (q.2).gens.length γ.2.2.2],I K (q.1)],Af #[.slice γ.1 (q.2).rows.length γ.2.1,.slice γ.2.2.1 (q.2).gens.length γ.2.2.2],I K (q.1),undef,I K (q.1)]) (fun(γ:GA) L V=>R4 d (A,c,G,gc) X (q.2) (0) (0) G W (L 10) (false) (L 6) γ V) (N,0,N,0) (by kernel_rfl) (by kernel_rfl) (by kernel_rfl) (by kernel_rfl) h0 ?hstep ?hend
    case hstep =>
     intro F γ hout hF ix o ho L w1 hD hL hed hcl;simp only[Hu,G9,Br,Bx]at hF;have e0:F.tmps.getD 0 undef=Ae (O ⟨p,0,N⟩):=hout 0 (by decide +kernel);have e3:F.tmps.getD 3 undef=Ae (O ⟨W.heap.size,0,N⟩):=hout 3 (by decide +kernel);have e6:F.tmps.getD 6 undef=Ae (O ⟨W.heap.size+2,0,N⟩):=hout 6 (by decide +kernel);have bp:=(AN HP).bx.below hD.bel;obtain⟨p0,p1⟩:=bp.g2 R;have d4:=hD.bx.cell 0 R 4 R;have d5:=hD.bx.cell 0 R 5 R;rw[Ay]at d4 d5
     match ix,ho with
     |0,ho|1,ho|2,ho|3,ho|4,ho|5,ho|7,ho|8,ho|9,ho|11,ho =>
      simp at ho;subst ho;exact .inl ⟨rfl,FB γ _ (by simp[go_sem,Aq,-Ap,hF,e0,e3,e6,p0,p1,d4,d5]) R (hD) (fun _ _ _=>rfl)⟩
     | 6,ho =>
      simp at ho;subst ho;have q1:L 10=false:=FA hcl hL 12 10 (by kernel_rfl);refine .inl ⟨rfl,GU 58 #[Af #[.slice A X.rows.length c,.slice G X.gens.length gc],Af #[I K d.i,I K d.g]] (by simp[go_sem,Aq,-Ap,hF]) ?_⟩;refine((AN HC) _ hD.bel).mono ?_;rintro e w2⟨A2,c2,G2,gc2,rfl,hd2,hb2⟩;exact⟨_,(A2,c2,G2,gc2),rfl,rfl,hD.call q1 R hb2 hd2,I5 hcl hL 12 [7,8,9,11] (by kernel_rfl) (fun j h1 h2=>by
       match j with
       |0|1|2|3|4|5|10=>rfl
       |6=>exact absurd R h1
       |7|8|9|11=>simp at h2
       |j+12=>rfl)⟩
     | 10,ho =>
      simp at ho;subst ho;have ql:L 6=true:=by
       cases h:L 6
       ·have:=FA hcl h 12 8 (by kernel_rfl);rw[hed 8 (by kernel_rfl)]at this;cases this
       ·rfl
      exact .inl ⟨rfl,Gy γ 43 (Am 6) (Am 51) R (W.heap.size+2) 0 (wC γ (q.2)) (by simp[Aq,-Ap,e6]) (by simp[Aq,-Ap,hF,wC]) (by simp[wC,Ar]) YM (hD.bx.there 2 R 2 (by split <;>rfl)) R (hD.put1 ql (AN HG0)) (fun _ _ _=>rfl)⟩
     |ix+12,ho=>simp at ho
    case hend =>
     intro γ L V hD hall;have hR:=hD;rw[hall 10 (by decide),hall 6 (by decide)]at hR;have HR:=An hR;clear hD hall hR h0;simp only[GN,AI,AH,Ba,AJ,AK,Nat.reduceAdd,Bf,Be];go_frame;go_wp2_with fail
     go_meet
     exact⟨_,γ,q.2,SA,sc,ss,⟨0,0,0,[],0⟩,N,0,rfl,RC.of4 (AN HP) (AN HEX) (AN HR) (fun hn=>.inr ⟨rfl,AN HG1 hn⟩) R R (AN HDO).1 (AN HDO).2⟩
  by_cases hk3:d.k=3
  ·have hk:=hk3;clear hk3;as_aux_lemma =>
    have hC:=fun V (hb:Below W.heap.size W V)=>UM A c G gc X d.i d.g d.p d.n V (by omega) ((AN HP).wl.below hb);unfold Up FF FJ at hC;have hG0:((Hc X d.i d.g d.p d.n).2).gens≠[]→∀c o,G=O ⟨c,o,N⟩→c<W.heap.size:=fun hn=>TY (AN HP).wl.gens (Nc X _ _ _ hn);have hG1:((Hc X d.i d.g d.p d.n).2).gens≠[]→X.gens≠[]:=Nc X _ _ _;have hDo:=lB (mods:=mods) (X:=X) (S:=ss.map I1) hk;rw[←AN HRR]at hDo;generalize Hc X d.i d.g d.p d.n=q at hC hG0 hG1 hDo;have HC:=An hC;have HG0:=An hG0;have HDO:=An hDo;clear hC hG0 hDo;have HG1:=An hG1;clear hG1;have h0:R4 d (A,c,G,gc) X q.2 (0) (0) G W false false false (N,0,N,0) W1.drew:=⟨AN HX1,(AN HL1).drew,fun h=>(by cases h)⟩;have kb1:(d.k == 1)=false:=(by simp[hk]);have kd1:decide (d.k=1)=false:=(by simp[hk]);have kb2:(d.k == 2)=false:=(by simp[hk]);have kd2:decide (d.k=2)=false:=(by simp[hk]);have kb3:(d.k == 3)=true:=(by simp[hk]);have kd3:decide (d.k=3)=true:=(by simp[hk]);clear hk;go_upto_region 11 with fail
    refine FW (fun(γ:GA)=>[Ae (O ⟨p,0,N⟩),Ae (O ⟨p,0,N⟩),Ae (O ⟨p,0,N⟩),Af #[.slice A X.rows.length c,.slice G X.gens.length gc],Ae (O ⟨W.heap.size,4,N⟩),Af #[I K d.i,I K d.g],Ae (O ⟨W.heap.size,2,N⟩),I K d.p,Ae (O ⟨W.heap.size,3,N⟩),I K d.n,Ai #[Af #[.slice γ.1 (q.2).rows.length γ.2.1,.slice γ.2.2.1 (q.2).gens.length γ.2.2.2],I K (q.1)],Ai #[Af #[.slice γ.1 (q.2).rows.length γ.2.1,.slice γ.2.2.1 (q.2).gens.length γ.2.2.2],I K (q.1)],Af #[.slice γ.1 (q.2).rows.length γ.2.1,.slice γ.2.2.1 (q.2).gens.length γ.2.2.2],I K (q.1),undef,I K (q.1)]) (fun(γ:GA) L V=>R4 d (A,c,G,gc) X (q.2) (0) (0) G W (L 14) (false) (L 10) γ V) (N,0,N,0) (by kernel_rfl) (by kernel_rfl) (by kernel_rfl) (by kernel_rfl) h0 ?hstep ?hend
    case hstep =>
     intro F γ hout hF ix o ho L w1 hD hL hed hcl;simp only[Hu,G9,Br,Bx]at hF;have e0:F.tmps.getD 0 undef=Ae (O ⟨p,0,N⟩):=hout 0 (by decide +kernel);have e3:F.tmps.getD 3 undef=Ae (O ⟨W.heap.size,0,N⟩):=hout 3 (by decide +kernel);have e6:F.tmps.getD 6 undef=Ae (O ⟨W.heap.size+2,0,N⟩):=hout 6 (by decide +kernel);have bp:=(AN HP).bx.below hD.bel;obtain⟨p0,p1⟩:=bp.g2 R;have d4:=hD.bx.cell 0 R 4 R;have d5:=hD.bx.cell 0 R 5 R;have d2:=hD.bx.cell 0 R 2 R;have d3:=hD.bx.cell 0 R 3 R;rw[Ay]at d4 d5 d2 d3
     match ix,ho with
     |0,ho|1,ho|2,ho|3,ho|4,ho|5,ho|6,ho|7,ho|8,ho|9,ho|11,ho|12,ho|13,ho|15,ho =>
      simp at ho;subst ho;exact .inl ⟨rfl,FB γ _ (by simp[go_sem,Aq,-Ap,hF,e0,e3,e6,p0,p1,d4,d5,d2,d3]) R (hD) (fun _ _ _=>rfl)⟩
     | 10,ho =>
      simp at ho;subst ho;have q1:L 14=false:=FA hcl hL 16 14 (by kernel_rfl);refine .inl ⟨rfl,GU 63 #[Af #[.slice A X.rows.length c,.slice G X.gens.length gc],Af #[I K d.i,I K d.g],I K d.p,I K d.n] (by simp[go_sem,Aq,-Ap,hF]) ?_⟩;refine((AN HC) _ hD.bel).mono ?_;rintro e w2⟨A2,c2,G2,gc2,rfl,hd2,hb2⟩;exact⟨_,(A2,c2,G2,gc2),rfl,rfl,hD.call q1 R hb2 hd2,I5 hcl hL 16 [11,12,13,15] (by kernel_rfl) (fun j h1 h2=>by
       match j with
       |0|1|2|3|4|5|6|7|8|9|14=>rfl
       |10=>exact absurd R h1
       |11|12|13|15=>simp at h2
       |j+16=>rfl)⟩
     | 14,ho =>
      simp at ho;subst ho;have ql:L 10=true:=by
       cases h:L 10
       ·have:=FA hcl h 16 12 (by kernel_rfl);rw[hed 12 (by kernel_rfl)]at this;cases this
       ·rfl
      exact .inl ⟨rfl,Gy γ 43 (Am 6) (Am 67) R (W.heap.size+2) 0 (wC γ (q.2)) (by simp[Aq,-Ap,e6]) (by simp[Aq,-Ap,hF,wC]) (by simp[wC,Ar]) YM (hD.bx.there 2 R 2 (by split <;>rfl)) R (hD.put1 ql (AN HG0)) (fun _ _ _=>rfl)⟩
     |ix+16,ho=>simp at ho
    case hend =>
     intro γ L V hD hall;have hR:=hD;rw[hall 14 (by decide),hall 10 (by decide)]at hR;have HR:=An hR;clear hD hall hR h0;simp only[GN,AI,AH,Ba,AJ,AK,Nat.reduceAdd,Bf,Be];go_frame;go_wp2_with fail
     go_meet
     exact⟨_,γ,q.2,SA,sc,ss,⟨0,0,0,[],0⟩,N,0,rfl,RC.of4 (AN HP) (AN HEX) (AN HR) (fun hn=>.inr ⟨rfl,AN HG1 hn⟩) R R (AN HDO).1 (AN HDO).2⟩
  by_cases hk4:d.k=4
  ·have hk:=hk4;clear hk4;as_aux_lemma =>
    have hC:=fun V (hb:Below W.heap.size W V)=>SS A c G gc X d.i d.g d.p V (by omega) ((AN HP).wl.below hb);unfold Up FF FJ at hC;have hG0:((GK X d.i d.g d.p).2).gens≠[]→∀c o,G=O ⟨c,o,N⟩→c<W.heap.size:=fun hn=>TY (AN HP).wl.gens (Nc X _ _ _ hn);have hG1:((GK X d.i d.g d.p).2).gens≠[]→X.gens≠[]:=Nc X _ _ _;have hDo:=lA (mods:=mods) (X:=X) (S:=ss.map I1) hk;rw[←AN HRR]at hDo;generalize GK X d.i d.g d.p=q at hC hG0 hG1 hDo;have HC:=An hC;have HG0:=An hG0;have HDO:=An hDo;clear hC hG0 hDo;have HG1:=An hG1;clear hG1;have h0:R4 d (A,c,G,gc) X q.2 (0) (0) G W false false false (N,0,N,0) W1.drew:=⟨AN HX1,(AN HL1).drew,fun h=>(by cases h)⟩;have kb1:(d.k == 1)=false:=(by simp[hk]);have kd1:decide (d.k=1)=false:=(by simp[hk]);have kb2:(d.k == 2)=false:=(by simp[hk]);have kd2:decide (d.k=2)=false:=(by simp[hk]);have kb3:(d.k == 3)=false:=(by simp[hk]);have kd3:decide (d.k=3)=false:=(by simp[hk]);have kb4:(d.k == 4)=true:=(by simp[hk]);have kd4:decide (d.k=4)=true:=(by simp[hk]);clear hk;go_upto_region 13 with fail
    refine FW (fun(γ:GA)=>[Ae (O ⟨p,0,N⟩),Ae (O ⟨p,0,N⟩),Ae (O ⟨p,0,N⟩),Af #[.slice A X.rows.length c,.slice G X.gens.length gc],Ae (O ⟨W.heap.size,4,N⟩),Af #[I K d.i,I K d.g],Ae (O ⟨W.heap.size,2,N⟩),I K d.p,Ai #[Af #[.slice γ.1 (q.2).rows.length γ.2.1,.slice γ.2.2.1 (q.2).gens.length γ.2.2.2],I K (q.1)],Ai #[Af #[.slice γ.1 (q.2).rows.length γ.2.1,.slice γ.2.2.1 (q.2).gens.length γ.2.2.2],I K (q.1)],Af #[.slice γ.1 (q.2).rows.length γ.2.1,.slice γ.2.2.1 (q.2).gens.length γ.2.2.2],I K (q.1),undef,I K (q.1)]) (fun(γ:GA) L V=>R4 d (A,c,G,gc) X (q.2) (0) (0) G W (L 12) (false) (L 8) γ V) (N,0,N,0) (by kernel_rfl) (by kernel_rfl) (by kernel_rfl) (by kernel_rfl) h0 ?hstep ?hend
    case hstep =>
     intro F γ hout hF ix o ho L w1 hD hL hed hcl;simp only[Hu,G9,Br,Bx]at hF;have e0:F.tmps.getD 0 undef=Ae (O ⟨p,0,N⟩):=hout 0 (by decide +kernel);have e3:F.tmps.getD 3 undef=Ae (O ⟨W.heap.size,0,N⟩):=hout 3 (by decide +kernel);have e6:F.tmps.getD 6 undef=Ae (O ⟨W.heap.size+2,0,N⟩):=hout 6 (by decide +kernel);have bp:=(AN HP).bx.below hD.bel;obtain⟨p0,p1⟩:=bp.g2 R;have d4:=hD.bx.cell 0 R 4 R;have d5:=hD.bx.cell 0 R 5 R;have d2:=hD.bx.cell 0 R 2 R;rw[Ay]at d4 d5 d2
     match ix,ho with
     |0,ho|1,ho|2,ho|3,ho|4,ho|5,ho|6,ho|7,ho|9,ho|10,ho|11,ho|13,ho =>
      simp at ho;subst ho;exact .inl ⟨rfl,FB γ _ (by simp[go_sem,Aq,-Ap,hF,e0,e3,e6,p0,p1,d4,d5,d2]) R (hD) (fun _ _ _=>rfl)⟩
     | 8,ho =>
      simp at ho;subst ho;have q1:L 12=false:=FA hcl hL 14 12 (by kernel_rfl);refine .inl ⟨rfl,GU 62 #[Af #[.slice A X.rows.length c,.slice G X.gens.length gc],Af #[I K d.i,I K d.g],I K d.p] (by simp[go_sem,Aq,-Ap,hF]) ?_⟩;refine((AN HC) _ hD.bel).mono ?_;rintro e w2⟨A2,c2,G2,gc2,rfl,hd2,hb2⟩;exact⟨_,(A2,c2,G2,gc2),rfl,rfl,hD.call q1 R hb2 hd2,I5 hcl hL 14 [9,10,11,13] (by kernel_rfl) (fun j h1 h2=>by
       match j with
       |0|1|2|3|4|5|6|7|12=>rfl
       |8=>exact absurd R h1
       |9|10|11|13=>simp at h2
       |j+14=>rfl)⟩
     | 12,ho =>
      simp at ho;subst ho;have ql:L 8=true:=by
       cases h:L 8
       ·have:=FA hcl h 14 10 (by kernel_rfl);rw[hed 10 (by kernel_rfl)]at this;cases this
       ·rfl
      exact .inl ⟨rfl,Gy γ 43 (Am 6) (Am 81) R (W.heap.size+2) 0 (wC γ (q.2)) (by simp[Aq,-Ap,e6]) (by simp[Aq,-Ap,hF,wC]) (by simp[wC,Ar]) YM (hD.bx.there 2 R 2 (by split <;>rfl)) R (hD.put1 ql (AN HG0)) (fun _ _ _=>rfl)⟩
     |ix+14,ho=>simp at ho
    case hend =>
     intro γ L V hD hall;have hR:=hD;rw[hall 12 (by decide),hall 8 (by decide)]at hR;have HR:=An hR;clear hD hall hR h0;simp only[GN,AI,AH,Ba,AJ,AK,Nat.reduceAdd,Bf,Be];go_frame;go_wp2_with fail
     go_meet
     exact⟨_,γ,q.2,SA,sc,ss,⟨0,0,0,[],0⟩,N,0,rfl,RC.of4 (AN HP) (AN HEX) (AN HR) (fun hn=>.inr ⟨rfl,AN HG1 hn⟩) R R (AN HDO).1 (AN HDO).2⟩
  by_cases hk5:d.k=5
  ·have hk:=hk5;clear hk5;as_aux_lemma =>
    have hAW:=(AN HA).below (AN HP).bel;have hWR:=fun V (hb:Below W.heap.size W V)=>QU d.s.m d.s.al d.s.no d.s.A d.s.len d.s.cap d.s.a V (hAW.below hb);have hrs:=fun h=>(Ie d.s.m d.s.al d.s.no d.s.a d.s.len).1 h;have hn12:ss.length≤12:=(by have:=(AN HOK).few;simpa using this);have hlm:(ss.map I1).length=ss.length:=Bj _;have hno:∀(e:Int),Ke mods ss.length d.s=e→e≠0→r=(⟨e,0,0,[],0⟩,⟨X,ss.map I1⟩):=fun e h1 h2=>(AN HRR).trans (kJ hk (by rw[hlm];exact h1) h2);have hyes:Ke mods ss.length d.s=0→r=(⟨0,0,0,[],((ss.length+1:Nat):Int)⟩,⟨X,ss.map I1++[I1 d.s]⟩):=fun h1=>(by have:=(AN HRR).trans (jc (mods:=mods) (X:=X) (S:=ss.map I1) hk (by rw[hlm];exact h1));rwa[hlm]at this);have hsw:sw d.s=MA d.s.m d.s.al d.s.no d.s.a d.s.len:=rfl;unfold Ke at hno hyes;rw[hsw]at hno hyes;unfold Gz GC at hWR;generalize MA d.s.m d.s.al d.s.no d.s.a d.s.len=f at hWR hrs hno hyes;have HNO:=An hno;have HYES:=An hyes;have HWR:=An hWR;have HRS:=An hrs;clear hWR hrs hno hyes hsw hlm hAW;have kb1:(d.k == 1)=false:=(by simp[hk]);have kd1:decide (d.k=1)=false:=(by simp[hk]);have kb2:(d.k == 2)=false:=(by simp[hk]);have kd2:decide (d.k=2)=false:=(by simp[hk]);have kb3:(d.k == 3)=false:=(by simp[hk]);have kd3:decide (d.k=3)=false:=(by simp[hk]);have kb4:(d.k == 4)=false:=(by simp[hk]);have kd4:decide (d.k=4)=false:=(by simp[hk]);have kb5:(d.k == 5)=true:=(by simp[hk]);have kd5:decide (d.k=5)=true:=(by simp[hk]);clear hk;have z6:=(AN HX1).cell 0 R 6 R;have z7:=(AN HX1).cell 0 R 7 R;have z8:=(AN HX1).cell 0 R 8 R;have z9:=(AN HX1).cell 0 R 9 R;rw[Ay]at z6 z7 z8 z9;go_wp2_with fail
    go_at_call 29;refine(AN HWR W1 (AN HL1)).mono ?_;rintro e w2⟨rfl,hb2⟩;obtain⟨W2,hW2,hL2,hX2⟩:=LZ w2 [([I K f.1,I K f.2],29)];simp only[GQ]at hW2;have HW2:=An hW2;have hb22:=hb2.trans (hL2.mono hb2.size);have HL2:=An ((AN HL1).trans (hb22.mono (AN HL1).size));have HX2:=An ((AN HX1).below hb22);have f0:=hX2.cell 0 R 0 R;rw[Ay]at f0;clear hW2 hL2 hX2 hb22 hb2 z6 z7 z8 z9 HWR;go_upto_region 16 with fail
    rw[AN HW2];by_cases h1:f.1=0
    ·obtain⟨hhd,hl8,hokn⟩:=AN HRS h1;have hm0:0≤d.s.m:=Xn hhd;obtain⟨k,hkm⟩:∃k:Nat,d.s.m=(k:Int):=⟨d.s.m.toNat,by omega⟩;have hsets:FV d.s.al=true∧FV d.s.no=true:=(by unfold Is at hhd;simp only[AP]at hhd;exact⟨hhd.1.2,hhd.2⟩);have hno:=AN HNO;have hyes:=AN HYES;rw[AA (by simpa using h1)]at hno hyes;rw[hkm,Bi]at hno hyes;have HKM:=An hkm;clear hkm;have HNO2:=An hno;have HYES2:=An hyes;rw[h1]at f0;clear hno hyes HNO HYES HRS h1;have hsub:Nonempty (Hm W2):=⟨⟨W2,AD _ _⟩⟩;have z6:=B1 ((AN HX2).cell 0 R 6 R);have p2:=B1 (((AN HP).bx.below (AN HL2)).cell 0 R 2 R);simp only[Ay]at z6 p2;rw[AN HKM]at z6;by_cases h2:(mods.length:Int)≤(k:Int)
     ·have HQ:=An (AN HNO2 _ (AF h2) (by decide));have d2:decide ((mods.length:Int)≤(k:Int))=true:=Bq h2;go_wp2_with fail
      refine FN (by kernel_rfl) (by kernel_rfl) ?_
      repeat(go_big_quiet_step(fail))
      refine Bg ?_;rintro w3⟨xs,hxs⟩;have hb3:=xs.bel;rw[←hxs]at hb3;have HL3:=An ((AN HL2).trans (hb3.mono (AN HL2).size));have HX3:=An ((AN HX2).below hb3);clear hxs xs hb3 hsub z6 p2 f0;go_wp2_with(first
       |(go_at_call 80;refine(LT (5) _).mono ?_;rintro e w8⟨rfl,hb8⟩;have HL8:=An ((AN HL3).trans (hb8.mono (AN HL3).size));have HX8:=An ((AN HX3).below hb8);clear hb8)
       |(refine As R 64 (Am 4) (Am 105) R (W.heap.size+1) 0 [I K (5),I K 0,I K 0,.slice N 0 0,I K 0] R R (by simp[Ar]) JT ((AN HX8).there 1 R 5 R) ?_;intro W9 hW9;have HR:=An ((AN HX8).give 1 R [I K (5),I K 0,I K 0,.slice N 0 0,I K 0] R);have HE:=An (Bv (w0:=W) (W.heap.size+1) (by omega) [I K (5),I K 0,I K 0,.slice N 0 0,I K 0] 0 w8 (AN HL8));rw[←hW9]at HR HE;clear hW9)
       |(obtain⟨r0,r1,r2,r3,r4⟩:=(AN HR).f5 1 R;exact AG (by simp[results,Tryz.results43,go_sem,r0,r1,r2,r3,r4]<;>rfl) R (MM (AN HP) (AN HQ) (AN HE))))
     ·have d2:decide ((mods.length:Int)≤(k:Int))=false:=AO h2;have hkl:k<mods.length:=(by omega);have hno:=AN HNO2;have hyes:=AN HYES2;rw[AA h2]at hno hyes;have HNO3:=An hno;have HYES3:=An hyes;clear hno hyes HNO2 HYES2;go_wp2_with fail
      refine FN (by kernel_rfl) (by kernel_rfl) ?_
      repeat(go_big_quiet_step(fail))
      refine Bg ?_;rintro w3⟨xs,hxs⟩;have hb3:=xs.bel;rw[←hxs]at hb3;have hL3:=(AN HL2).trans (hb3.mono (AN HL2).size);have HL3:=An hL3;have HX3:=An ((AN HX2).below hb3);clear hxs xs hb3 hsub z6 p2 f0;have hsub:Nonempty (Hm w3):=⟨⟨w3,AD _ _⟩⟩;have z6:=B1 ((AN HX3).cell 0 R 6 R);have z7:=B1 ((AN HX3).cell 0 R 7 R);have z8:=B1 ((AN HX3).cell 0 R 8 R);have z9:=B1 ((AN HX3).cell 0 R 9 R);have p2:=B1 (((AN HP).bx.below hL3).cell 0 R 2 R);simp only[Ay]at z6 z7 z8 z9 p2;rw[AN HKM]at z6;have hmg:mods[k]?=O (mods.getD k dM):=(by rw[Az,AE hkl];rfl);obtain⟨b,off,hAe,hmc⟩:=((AN HM).below ((AN HP).bel.trans (hL3.mono (AN HP).bel.size))) k _ hmg;have m0:=B1 (hmc 0 _ R);have m1:=B1 (hmc 1 _ R);have m2:=B1 (hmc 2 _ R);rw[Ay]at m0;obtain⟨hsr,hsu⟩:=Zw (AN HWM) hkl;have hMY:=fun x:Hm w3=>ao (mods.getD k dM).rd (mods.getD k dM).wr (mods.getD k dM).lf (k:Int) d.s.al d.s.no d.s.A d.s.len d.s.cap d.s.a x.val hsr hsu hsets.1 hsets.2 hl8 hokn ((((AN HA).below (AN HP).bel).below hL3).below x.bel);unfold Y4 Gz at hMY;generalize mods.getD k dM=mm at *;generalize Rx mm.rd mm.wr mm.lf d.s.al d.s.no d.s.a d.s.len=mb at *;have HMY:=An hMY;have k0:(0:Int)≤(k:Int):=(by omega);have k1:(k:Int)<(mods.length:Int):=(by omega);subst hAe;clear hMY hmc hmg h2 d2 hsr hsu hsets hokn hhd hm0 hL3
      cases mb
      ·have HQ:=An (AN HNO3 _ (AF R) (by decide));go_wp2_with fail
       refine FN (by kernel_rfl) (by kernel_rfl) ?_
       repeat(go_big_quiet_step((go_at_call 81;exact Gf (AN HMY _))))
       refine Bg ?_;rintro w4⟨xs,hxs⟩;have hb4:=xs.bel;rw[←hxs]at hb4;have HL4:=An ((AN HL3).trans (hb4.mono (AN HL3).size));have HX4:=An ((AN HX3).below hb4);clear hxs xs hb4 hsub z6 z7 z8 z9 p2 m0 m1 m2;go_wp2_with(first
        |(go_at_call 80;refine(LT (8) _).mono ?_;rintro e w8⟨rfl,hb8⟩;have HL8:=An ((AN HL4).trans (hb8.mono (AN HL4).size));have HX8:=An ((AN HX4).below hb8);clear hb8)
        |(refine As R 64 (Am 4) (Am 120) R (W.heap.size+1) 0 [I K (8),I K 0,I K 0,.slice N 0 0,I K 0] R R (by simp[Ar]) JT ((AN HX8).there 1 R 5 R) ?_;intro W9 hW9;have HR:=An ((AN HX8).give 1 R [I K (8),I K 0,I K 0,.slice N 0 0,I K 0] R);have HE:=An (Bv (w0:=W) (W.heap.size+1) (by omega) [I K (8),I K 0,I K 0,.slice N 0 0,I K 0] 0 w8 (AN HL8));rw[←hW9]at HR HE;clear hW9)
        |(obtain⟨r0,r1,r2,r3,r4⟩:=(AN HR).f5 1 R;exact AG (by simp[results,Tryz.results43,go_sem,r0,r1,r2,r3,r4]<;>rfl) R (MM (AN HP) (AN HQ) (AN HE))))
      ·go_wp2_with fail
       refine FN (by kernel_rfl) (by kernel_rfl) ?_
       repeat(go_big_quiet_step((go_at_call 81;exact Gf (AN HMY _))))
       refine Bg ?_;rintro w4⟨xs,hxs⟩;have hb4:=xs.bel;rw[←hxs]at hb4;have hL4:=(AN HL3).trans (hb4.mono (AN HL3).size);have HL4:=An hL4;have HX4:=An ((AN HX3).below hb4);clear hxs xs hb4 hsub z6 z7 z8 z9 p2 m0 m1 m2;have p3:=((AN HP).bx.below hL4).cell 0 R 3 R;rw[Ay]at p3;clear hL4;have hno:=AN HNO3;have hyes:=AN HYES3;rw[AA (by simp)]at hno hyes;by_cases h4:12≤ss.length
       ·have HQ:=An (hno _ (AF h4) (by decide));have d4:decide ((12:Int)≤(ss.length:Int))=true:=Bq (by omega);clear hno hyes HNO3 HYES3;go_wp2_with(first
         |(go_at_call 80;refine(LT (4) _).mono ?_;rintro e w8⟨rfl,hb8⟩;have HL8:=An ((AN HL4).trans (hb8.mono (AN HL4).size));have HX8:=An ((AN HX4).below hb8);clear hb8)
         |(refine As R 64 (Am 4) (Am 128) R (W.heap.size+1) 0 [I K (4),I K 0,I K 0,.slice N 0 0,I K 0] R R (by simp[Ar]) JT ((AN HX8).there 1 R 5 R) ?_;intro W9 hW9;have HR:=An ((AN HX8).give 1 R [I K (4),I K 0,I K 0,.slice N 0 0,I K 0] R);have HE:=An (Bv (w0:=W) (W.heap.size+1) (by omega) [I K (4),I K 0,I K 0,.slice N 0 0,I K 0] 0 w8 (AN HL8));rw[←hW9]at HR HE;clear hW9)
         |(obtain⟨r0,r1,r2,r3,r4⟩:=(AN HR).f5 1 R;exact AG (by simp[results,Tryz.results43,go_sem,r0,r1,r2,r3,r4]<;>rfl) R (MM (AN HP) (AN HQ) (AN HE))))
       ·have HQ:=An (hyes (AA h4));have d4:decide ((12:Int)≤(ss.length:Int))=false:=AO (by omega);clear hno hyes HNO3 HYES3;go_upto_region 24 with fail
        have hSp:(Value.slice SA ss.length sc).ownBlock≠O p:=fun e=>(by have:=((AN HP).so.lt p e).1;omega);have HNX:Hid (∀k,k<4→¬ (W.heap.size+k=p∨(Value.slice SA ss.length sc).ownBlock=O (W.heap.size+k))):=An (fun k hk h=>by
         rcases h with h|h
         ·omega
         ·have:=((AN HP).so.lt _ h).2;omega)
        obtain⟨i37,hi37,hz37,hs37,hb37⟩:=BC b8;have HI:=An hi37;have HZ:=An hz37;have HS:=An hs37;have HBB:=An hb37;clear hi37 hz37 hs37 hb37 p3;have h0:RA w4 p (.slice A X.rows.length c) (.slice G X.gens.length gc) (.slice (O ⟨b,off,N⟩) mods.length mc) [] 93 SA ss.length sc (Gj ss) d.s false false false (0,0,0) w4.drew:=RA.start ((AN HP).bx.below (AN HL4));refine FW (fun(γ:Nat×Nat×Nat)=>[Ae (O ⟨p,0,N⟩),Ae (O ⟨p,0,N⟩),Ae (O ⟨p,0,N⟩),Ae (O ⟨p,3,N⟩),.slice SA ss.length sc,Ae (O ⟨W.heap.size,6,N⟩),Af #[I K d.s.m,I K d.s.al,I K d.s.no,.slice d.s.A d.s.len d.s.cap],.slice (O ⟨γ.1,0,N⟩) 1 1,.slice (O ⟨γ.2.1,0,N⟩) (ss.length+1) γ.2.2,Ae (O ⟨p,0,N⟩),Ae (O ⟨p,3,N⟩),undef]) (fun(γ:Nat×Nat×Nat) L V=>RA w4 p (.slice A X.rows.length c) (.slice G X.gens.length gc) (.slice (O ⟨b,off,N⟩) mods.length mc) [] 93 SA ss.length sc (Gj ss) d.s (L 7) (L 8) (L 11) γ V) (0,0,0) (by kernel_rfl) (by kernel_rfl) (by kernel_rfl) (by kernel_rfl) h0 ?hstep ?hend
        case hstep =>
         intro F γ hout hF ix o ho L w1 hD hL hed hcl;simp only[Hu,G9,Br,Bx]at hF;have e0:F.tmps.getD 0 undef=Ae (O ⟨p,0,N⟩):=hout 0 (by decide +kernel);have e3:F.tmps.getD 3 undef=Ae (O ⟨W.heap.size,0,N⟩):=hout 3 (by decide +kernel);have bb:=(AN HX4).tw hD.tw (AN HNX);have d6:=bb.cell 0 R 6 R;have d7:=bb.cell 0 R 7 R;have d8:=bb.cell 0 R 8 R;have d9:=bb.cell 0 R 9 R;rw[Ay]at d6 d7 d8 d9
         match ix,ho with
         |0,ho|1,ho|2,ho|3,ho|5,ho|6,ho|9,ho|10,ho =>
          simp at ho;subst ho;exact .inl ⟨rfl,FB γ _ (by simp[go_sem,Aq,-Ap,hF,e0,e3,d6,d7,d8,d9]) R (hD) (fun _ _ _=>rfl)⟩
         |4,ho =>
          simp at ho;subst ho;have q:L 11=false:=FA hcl hL 12 11 (by kernel_rfl);have bx:=hD.bx;rw[q]at bx;have c3:=bx.cell 0 R 3 R;rw[Ay]at c3;exact .inl ⟨rfl,FB γ _ (by simp[go_sem,Aq,-Ap,hF,c3]) R hD (fun _ _ _=>rfl)⟩
         |7,ho =>
          simp at ho;subst ho;have q8:L 8=false:=FA hcl hL 12 8 (by kernel_rfl);have q11:L 11=false:=FA hcl hL 12 11 (by kernel_rfl);exact .inl ⟨rfl,J' (w1.heap.size,γ.2) (.slice (O ⟨w1.heap.size,0,N⟩) 1 1) (w2:=w1.alloc (Al (GI d.s).toArray 37)) (by simp[go_sem,Aq,-Ap,GI,hF]) R (hD.make q8 q11) (fun j hj _=>by match j with|0|1|2|3|4|5|6|8|9|10|11=>rfl|7=>exact absurd R hj|j+12=>rfl)⟩
         |8,ho =>
          simp at ho;subst ho;have q11:L 11=false:=FA hcl hL 12 11 (by kernel_rfl);have q7:L 7=true:=hed 7 (by kernel_rfl);obtain⟨hlo,hbs⟩:=hD.bs q7 hL;have hbl:=hD.bel hL q11;have hnews:∀j u,(GI d.s)[j]?=O u→w1.cell? ((⟨γ.1,0,N⟩:Addr).add j)=O u:=fun j u hj=>(by have:=hbs.cell 0 R j hj;rw[Ay]at this;rw[CT,AT];exact this);obtain⟨v',w2,hr,ho2,hg2,_,hw2⟩:=DZ (P:=Au) w1 (p+1) 26 26 37 i37 _ 4 48 Tryz.underlying26 (AN HI) (AN HZ) (AN HS) (AN HBB) R (by decide) (.slice SA ss.length sc) ss.length (Gj ss) (FT (FT (AN HP).so (AN HL4)) hbl) ⟨γ.1,0,N⟩ 1 1 (GI d.s) R hnews (MF _) (by unfold maxLen;omega) (by omega) (by have:=hbl.size;have:=(AN HL4).size;omega);obtain⟨g,cg,rfl,_,_⟩:=Gi ho2 (by omega);exact .inl ⟨rfl,K2 (γ.1,g,cg) (Am 133) (Am 136) 26 R (.slice SA ss.length sc) (.slice (O ⟨γ.1,0,N⟩) 1 1) (.slice (O ⟨g,0,N⟩) (ss.length+1) cg) (by simp[Aq,-Ap,hF]) (by simp[Aq,-Ap,hF]) hr R (hD.app q11 hSp ho2 hg2 (hw2.imp (fun h=>h.symm) (fun h=>by have:=Bd h;simp only at this;have:=hbl.size;omega))) (fun j hj _=>by match j with|0|1|2|3|4|5|6|7|9|10|11=>rfl|8=>exact absurd R hj|j+12=>rfl)⟩
         |11,ho =>
          simp at ho;subst ho;have q8:L 8=true:=hed 8 (by kernel_rfl);have hbx:=hD.bx;rw[hL]at hbx;exact .inl ⟨rfl,K0 γ 26 (Am 139) (Am 137) R p 3 (.slice (O ⟨γ.2.1,0,N⟩) (ss.length+1) γ.2.2) (by simp[Aq,-Ap,hF]) (by simp[Aq,-Ap,hF]) R jz (Hj (hbx.there 0 R 4 R) 3 1 (by omega)) R (hD.put q8 hL) (fun _ _ _=>rfl)⟩
         |ix+12,ho=>simp at ho
        case hend =>
         intro γ L V hD hall;have hR:=hD;rw[hall 7 (by decide),hall 8 (by decide),hall 11 (by decide)]at hR;obtain⟨gx,g,cg⟩:=γ;obtain⟨ho5,hw5⟩:=hR.own R;have hbx:=hR.bx;rw[AF R]at hbx;dsimp only at ho5 hw5 hbx;have hRH:=((AN HP).below (AN HL4)).join (x:=d.s) (AN HA) hbx ho5 hR.tw hw5;have HRH:=An hRH;have HX5:=An ((AN HX4).tw hR.tw (AN HNX));have HT5:=An ((Tw.of_below (av:=fun b=>b=p∨(Value.slice SA ss.length sc).ownBlock=O b) (AN HL4)).trans hR.tw (fun _ _ h=>h));have c3:=hbx.cell 0 R 3 R;rw[Ay]at c3;have HW5:=An hw5;have hs5:=(AN HX4).sz (by simp);clear hD hall hR ho5 hw5 hbx hRH h0;simp only[GN,AI,AH,Ba,AJ,AK,Nat.reduceAdd,Bf,Be];go_frame;go_wp2_with((refine FU R 3 (Am 145) (Am 144) R (W.heap.size+3) 4 (I K ((ss.length+1:Nat):Int)) R R R kM (Hj ((AN HX5).there 3 R 5 R) 4 1 (by omega)) ?_;intro W9 hW9;have HX9:=An ((AN HX5).part 3 R 4 [I K ((ss.length+1:Nat):Int)] (by simp));have HT9:=An ((AN HT5).sets (b:=W.heap.size+3) (o:=4) (vs:=[I K ((ss.length+1:Nat):Int)]) (.inr (by omega)));have HRH9:=An ((AN HRH).put (b:=W.heap.size+3) (o:=4) (vs:=[I K ((ss.length+1:Nat):Int)]) (by omega) (fun e=>by have e:=Bd e;simp only at e;subst e;exact(AN HW5).elim (fun h=>by have:=((AN HP).so.lt _ h).2;omega) (fun h=>by simp only[AJ,AK]at hs5;omega)) (fun e=>by have:=IS (AN HP).wl e;omega) (by have:=(AN HP).lo;omega));have HXW:=An (show GJ W.heap.size [(Iv d,89),(z5,64),(wC (A,c,G,gc) X,43),(GE (⟨0,0,0,[],((ss.length+1:Nat):Int)⟩,N,0),64)] W9 by rw[hW9];exact AN HX9);have HTW:=An (show Tw (fun b=>b=p∨(Value.slice SA ss.length sc).ownBlock=O b) W W9 by rw[hW9];exact AN HT9);have HRW:=An (show RH w0 ex p A c G gc (.slice (O ⟨b,off,N⟩) mods.length mc) (O ⟨g,0,N⟩) cg X (ss++[d.s]) W9 by rw[hW9];exact AN HRH9);clear hW9 HX9 HT9 HRH9))
         go_frame;go_wp2_with fail
         go_meet
         exact⟨0,(A,c,G,gc),X,O ⟨g,0,N⟩,cg,ss++[d.s],⟨0,0,0,[],((ss.length+1:Nat):Int)⟩,N,0,rfl,⟨AN HXW,AN HRW,(AN HRW).wl,fun b hb=>⟨(AN HRW).aw b hb,.inl (IS (AN HP).wl hb)⟩,fun h=>absurd R h,fun _=>by rw[AN HQ,CH];rfl,Bn _ _ _ _,AN HTW,fun b hb=>by have e:=Bd hb;simp only at e;subst e;exact(AN HW5).imp (fun e=>e) (fun e=>by simp only[AJ,AK]at hs5;omega)⟩⟩
    ·have hq:=AN HNO _ (AF h1) h1;have HQ:=An hq;have b0:(f.1 == 0)=false:=(by simpa using h1);have b1:(f.1 != 0)=true:=(by simpa using h1);clear hq h1;go_wp2_with(first
      |(go_at_call 80;refine(LT (f.1) _).mono ?_;rintro e w8⟨rfl,hb8⟩;have HL8:=An ((AN HL2).trans (hb8.mono (AN HL2).size));have HX8:=An ((AN HX2).below hb8);clear hb8)
      |(refine As R 64 (Am 4) (Am 94) R (W.heap.size+1) 0 [I K (f.1),I K 0,I K 0,.slice N 0 0,I K 0] R R (by simp[Ar]) JT ((AN HX8).there 1 R 5 R) ?_;intro W9 hW9;have HR:=An ((AN HX8).give 1 R [I K (f.1),I K 0,I K 0,.slice N 0 0,I K 0] R);have HE:=An (Bv (w0:=W) (W.heap.size+1) (by omega) [I K (f.1),I K 0,I K 0,.slice N 0 0,I K 0] 0 w8 (AN HL8));rw[←hW9]at HR HE;clear hW9)
      |(obtain⟨r0,r1,r2,r3,r4⟩:=(AN HR).f5 1 R;exact AG (by simp[results,Tryz.results43,go_sem,r0,r1,r2,r3,r4]<;>rfl) R (MM (AN HP) (AN HQ) (AN HE))))
  by_cases hk6:d.k=6
  ·have hk:=hk6;clear hk6;as_aux_lemma =>
    have hn12:ss.length≤12:=(by have:=(AN HOK).few;simpa using this);have hLS:=M0 (AN HP).so (fun s hs=>((AN HP).ac s hs).below (AN HP).bel) dS;have hsw:∀j,j<ss.length→(sw (ss.getD j dS)).1=0:=fun j hj=>(by have:=(AN HOK).right j (by simpa using hj);rw[NO]at this;exact this);have ec:IM (He (fe (ss.map I1))) (ss.map I1).length=IM (He (fun j=>ss.getD j dS)) ss.length:=(by rw[Bj,NO,Xv]);have hDo:=k9 (mods:=mods) (X:=X) (S:=ss.map I1) hk;rw[←AN HRR,fR,ec]at hDo;have hBT:=fun V (hb:Below W.heap.size W V)=>Qe SA ss.length sc (fun j=>ss.getD j dS) V (hLS.below hb) (VJ hn12 hsw);unfold GC at hBT;generalize IM (He (fun j=>ss.getD j dS)) ss.length=bt at hBT hDo;generalize hal:GX (fun j=>ss.getD j dS) ss.length 0 X=al at hDo;have HDO:=An hDo;have HAL:=An hal;have HBT:=An hBT;have HLS:=An hLS;have HSW:=An hsw;clear hDo hal hBT hLS hsw ec;have kb1:(d.k == 1)=false:=(by simp[hk]);have kd1:decide (d.k=1)=false:=(by simp[hk]);have kb2:(d.k == 2)=false:=(by simp[hk]);have kd2:decide (d.k=2)=false:=(by simp[hk]);have kb3:(d.k == 3)=false:=(by simp[hk]);have kd3:decide (d.k=3)=false:=(by simp[hk]);have kb4:(d.k == 4)=false:=(by simp[hk]);have kd4:decide (d.k=4)=false:=(by simp[hk]);have kb5:(d.k == 5)=false:=(by simp[hk]);have kd5:decide (d.k=5)=false:=(by simp[hk]);have kb6:(d.k == 6)=true:=(by simp[hk]);have kd6:decide (d.k=6)=true:=(by simp[hk]);clear hk;have p3:=((AN HP).bx.below (AN HL1)).cell 0 R 3 R;rw[Ay]at p3;go_wp2_with fail
    go_at_call 82;refine(AN HBT W1 (AN HL1)).mono ?_;rintro e w2⟨B5,c5,rfl,_,hb2⟩;obtain⟨W2,hW2,hL2,hX2⟩:=LZ w2 [([I K 0,I K 0],29)];simp only[GQ]at hW2;have HW2:=An hW2;have hb22:=hb2.trans (hL2.mono hb2.size);have hLL:=(AN HL1).trans (hb22.mono (AN HL1).size);have HL2:=An hLL;have HX2:=An ((AN HX1).below hb22);clear p3 hW2 hL2 hX2 hb22 hb2 HBT;have p3:=((AN HP).bx.below hLL).cell 0 R 3 R;rw[Ay]at p3;clear hLL;go_upto_region 28 with fail
    rw[AN HW2];go_wp2_with fail
    clear p3;go_loopw [7,161] (fun x y wr=>∃(j:Nat) (γ:GA) (Y:Wd),j≤ss.length∧x=I K 0∧y=I K (j:Int)∧GJ W.heap.size [(Iv d,89),(z5,64),(wC γ Y,43),(z5,64)] wr∧Below W.heap.size W wr∧WF (W.heap.size+4) A G X wr γ.1 γ.2.1 γ.2.2.1 γ.2.2.2 Y∧FK Y∧GX (fun j=>ss.getD j dS) (ss.length - j) j Y=al) (fun _ y _=>ss.length - (intOf y).toNat)
    case atStart=>exact⟨0,(A,c,G,gc),X,AS _,rfl,rfl,AN HX2,AN HL2,WF.refl ((AN HP).wl.below (AN HL2)),(AN HOK).wld,AN HAL⟩
    case round =>
     clear HX2 HL2 HAL;obtain⟨j,γ,Y,hj,rfl,rfl,hX,hb,hF,hrY,hal⟩:=hrel;by_cases hlt:j<ss.length
     ·have j0:(0:Int)≤(j:Int):=(by omega);have j1:(j:Int)<(ss.length:Int):=(by omega);rw[VZ _ _ _ _ hlt]at hal;obtain⟨b,off,hAe,hsy⟩:=(AN HLS).below hb j hlt;have hswj:=AN HSW j hlt;dsimp only at hsy hal;generalize ss.getD j dS=x at hal hsy hswj;have c0:=hsy.c0;have c1:=hsy.c1;have c2:=hsy.c2;have c3:=hsy.c3;have hac:=hsy.acts;obtain⟨wk,rfl⟩:∃wk,wk=wr:=⟨_,rfl⟩;obtain⟨W5,hW5,hL5,hX5⟩:=LZ wk [(GI x,37)];simp only[GQ,GI]at hW5;have HW5:=An hW5;have hrs:I' Y x=Gq x.a x.len (GV Y x.al x.no Y.rows.length) Y:=(by unfold I' Jl;exact AA (by simpa[sw]using hswj));have hRU:=RR γ.1 γ.2.1 γ.2.2.1 γ.2.2.2 Y x.m x.al x.no x.A x.len x.cap x.a W5 (hF.at_.below hL5) hrY (hac.below hL5) hswj;have hrr:=fun h=>NQ (m:=x.m) (al:=x.al) (no:=x.no) (a:=x.a) (len:=x.len) hrY h;have hrz:Jl Y x.m x.al x.no x.a x.len=I' Y x:=rfl;rw[hrz]at hrr;rw[hrs]at hal hrr;generalize Gq x.a x.len (GV Y x.al x.no Y.rows.length) Y=q at hRU hal hrr;obtain⟨y0,y1⟩:=(hX.below hL5).f2 2 R;obtain⟨x0,x1,x2,x3⟩:=hX5.g4 R;have HRU:=An hRU;have HX5:=An (hX.below hL5);have HL5:=An (hb.trans (hL5.mono hb.size));have HF5:=An (hF.below hL5);have HRR2:=An hrr;have HAL:=An hal;have hsz:=hX.sz (by simp);simp only[AJ,AK]at hsz;have hs5:=hL5.size;subst hAe;clear hW5 hL5 hX5 hX hb hF hsy hac hRU hrr hal hrs hrz hswj;go_upto_region 31 with fail
      rw[AN HW5];clear c0 c1 c2 c3;go_upto_region 32 with(first
       |(go_at_call 30;refine(AN HRU).mono ?_;rintro e w6⟨A6,c6,G6,gc6,rfl,hF6,hb6⟩;have HX6:=An ((AN HX5).below hb6);have HL6:=An ((AN HL5).trans (hb6.mono (AN HL5).size));have HF6:=An ((AN HF5).trans hF6 (by omega));clear hF6 hb6)
       |(refine As R 43 (Am 6) (Am 169) R (W.heap.size+2) 0 (wC (A6,c6,G6,gc6) q.2) R R (by simp[wC,Ar]) YM ((AN HX6).there 2 R 2 R) ?_;intro W7 hW7;have HX7:=An ((AN HX6).give 2 R (wC (A6,c6,G6,gc6) q.2) R);have HL7:=An (Bv (w0:=W) (W.heap.size+2) (by omega) (wC (A6,c6,G6,gc6) q.2) 0 w6 (AN HL6));have HF7:=An ((AN HF6).puts (b:=W.heap.size+2) (o:=0) (vs:=wC (A6,c6,G6,gc6) q.2) (fun e=>by have:=IS (AN HP).wl e;omega) (by omega));rw[←hW7]at HX7 HL7 HF7;clear hW7;clear y0 y1 x0 x1 x2 x3))
      have hal:=AN HAL;clear HAL;by_cases hq:q.1=0
      ·rw[AA (by simpa using hq)]at hal;have HAL3:=An hal;have HRY:=An ((AN HRR2) hq);rw[hq];clear hal hq;go_wp2_with fail
       go_roundw
       case rel=>exact⟨j+1,(A6,c6,G6,gc6),q.2,by omega,rfl,by go_num,AN HX7,AN HL7,AN HF7,AN HRY,AN HAL3⟩
       case measure=>simp[intOf];omega
      ·rw[AF hq]at hal;have hdo:=(AN HDO).1;rw[←hal]at hdo;have HQ:=An (hdo hq);have b0:(q.1 == 0)=false:=(by simpa using hq);have b1:(q.1 != 0)=true:=(by simpa using hq);clear hal hdo hq;go_wp2_with(first
        |(go_at_call 80;refine(LT (q.1) _).mono ?_;rintro e w8⟨rfl,hb8⟩;have HL8:=An ((AN HL7).trans (hb8.mono (AN HL7).size));have HX8:=An ((AN HX7).below hb8);clear hb8)
        |(refine As R 64 (Am 4) (Am 175) R (W.heap.size+1) 0 [I K (q.1),I K 0,I K 0,.slice N 0 0,I K 0] R R (by simp[Ar]) JT ((AN HX8).there 1 R 5 R) ?_;intro W9 hW9;have HR:=An ((AN HX8).give 1 R [I K (q.1),I K 0,I K 0,.slice N 0 0,I K 0] R);have HE:=An (Bv (w0:=W) (W.heap.size+1) (by omega) [I K (q.1),I K 0,I K 0,.slice N 0 0,I K 0] 0 w8 (AN HL8));rw[←hW9]at HR HE;clear hW9)
        |(obtain⟨r0,r1,r2,r3,r4⟩:=(AN HR).f5 1 R;exact AG (by simp[results,Tryz.results43,go_sem,r0,r1,r2,r3,r4]<;>rfl) R (MM (AN HP) (AN HQ) (AN HE))))
     ·obtain rfl:j=ss.length:=(by omega);rw[BR,GX]at hal;subst hal;have HX9:=An hX;have HL9:=An hb;have HF9:=An hF;have dj:decide ((ss.length:Int)<(ss.length:Int))=false:=AO (by omega);clear hX hb hF hrY hj hlt;go_wp2_with((refine FU R 3 (Am 179) (Am 178) R (W.heap.size+3) 4 (I K ((bt.length:Nat):Int)) R R R kM (Hj ((AN HX9).there 3 R 5 R) 4 1 (by omega)) ?_;intro W9 hW9;have HXW:=An (show GJ W.heap.size [(Iv d,89),(z5,64),(wC γ Y,43),(GE (⟨0,0,0,[],((bt.length:Nat):Int)⟩,N,0),64)] W9 by rw[hW9];exact(AN HX9).part 3 R 4 [I K ((bt.length:Nat):Int)] (by simp));have HLW:=An (show Below W.heap.size W W9 by rw[hW9];exact(AN HL9).setCell (p:=⟨W.heap.size+3,4,N⟩) (by simp) _);have HFW:=An (show WF (W.heap.size+4) A G X W9 γ.1 γ.2.1 γ.2.2.1 γ.2.2.2 Y by rw[hW9];exact(AN HF9).puts (b:=W.heap.size+3) (o:=4) (vs:=[I K ((bt.length:Nat):Int)]) (fun e=>by have:=IS (AN HP).wl e;omega) (by omega));clear hW9))
      go_meet
      exact⟨0,γ,Y,SA,sc,ss,⟨0,0,0,[],((bt.length:Nat):Int)⟩,N,0,rfl,⟨AN HXW,(AN HP).below (AN HLW),(AN HFW).at_,(AN HP).away (AN HEX) (by omega) (AN HFW),fun h=>absurd R h,fun _=>(AN HDO).2 (by simp),Bn _ _ _ _,Tw.of_below (AN HLW),fun b hb=>.inl hb⟩⟩
  by_cases hk7:d.k=7
  ·have hk:=hk7;clear hk7;as_aux_lemma =>
    have hD0:=fun h=>(AN HRR).trans (kI (mods:=mods) (X:=X) (S:=ss.map I1) hk h);have hD1:=fun h=>(AN HRR).trans (k8 (mods:=mods) (X:=X) (S:=ss.map I1) hk h);have HD0:=An hD0;have HD1:=An hD1;clear hD0 hD1;have kb1:(d.k == 1)=false:=(by simp[hk]);have kd1:decide (d.k=1)=false:=(by simp[hk]);have kb2:(d.k == 2)=false:=(by simp[hk]);have kd2:decide (d.k=2)=false:=(by simp[hk]);have kb3:(d.k == 3)=false:=(by simp[hk]);have kd3:decide (d.k=3)=false:=(by simp[hk]);have kb4:(d.k == 4)=false:=(by simp[hk]);have kd4:decide (d.k=4)=false:=(by simp[hk]);have kb5:(d.k == 5)=false:=(by simp[hk]);have kd5:decide (d.k=5)=false:=(by simp[hk]);have kb6:(d.k == 6)=false:=(by simp[hk]);have kd6:decide (d.k=6)=false:=(by simp[hk]);have kb7:(d.k == 7)=true:=(by simp[hk]);have kd7:decide (d.k=7)=true:=(by simp[hk]);clear hk;have z2:=(AN HX1).cell 0 R 2 R;have z10:=(AN HX1).cell 0 R 10 R;have z11:=(AN HX1).cell 0 R 11 R;rw[Ay]at z2 z10 z11;go_upto_region 37 with fail
    go_cut [203] (fun x wc=>x=Aj (!(FV d.fa && FV d.fn && F5 d.p))∧wc=W1)
    case first =>
     have HSA:=An (IG d.fa);have HSN:=An (IG d.fn)
     cases ha:FV d.fa
     ·rw[ha]at HSA;have HAB:=An ha;clear ha;go_wp2_with fail
      go_at_call 45;refine(AN HSA _).mono ?_;rintro e w2⟨rfl,hw⟩;obtain rfl:=hw.symm;go_wp2_with fail
      go_meet
      exact⟨by rw[AN HAB];rfl,rfl⟩
     ·rw [ha]at HSA;have HAB:=An ha;clear ha
      cases hn:FV d.fn
      ·rw[hn]at HSN;have HNB:=An hn;clear hn;go_wp2_with fail
       go_at_call 45;refine(AN HSA _).mono ?_;rintro e w2⟨rfl,hw⟩;obtain rfl:=hw.symm;go_wp2_with fail
       go_at_call 45;refine(AN HSN _).mono ?_;rintro e w2⟨rfl,hw⟩;obtain rfl:=hw.symm;go_wp2_with fail
       go_meet
       exact⟨by rw[AN HAB,AN HNB];rfl,rfl⟩
      ·rw[hn]at HSN;have HNB:=An hn;clear hn;by_cases h1:d.p<0
       ·have HPB:=An (show F5 d.p=false by unfold F5;exact AO (by omega));have d1:decide (d.p<0)=true:=Bq h1;clear h1;go_wp2_with fail
        go_at_call 45;refine(AN HSA _).mono ?_;rintro e w2⟨rfl,hw⟩;obtain rfl:=hw.symm;go_wp2_with fail
        go_at_call 45;refine(AN HSN _).mono ?_;rintro e w2⟨rfl,hw⟩;obtain rfl:=hw.symm;go_wp2_with fail
        go_meet
        exact⟨by rw[AN HAB,AN HNB,AN HPB];rfl,rfl⟩
       ·have d1:decide (d.p<0)=false:=AO h1;by_cases h2:7<d.p
        ·have HPB:=An (show F5 d.p=false by unfold F5;exact AO (by omega));have d2:decide (7<d.p)=true:=Bq h2;clear h1 h2;go_wp2_with fail
         go_at_call 45;refine(AN HSA _).mono ?_;rintro e w2⟨rfl,hw⟩;obtain rfl:=hw.symm;go_wp2_with fail
         go_at_call 45;refine(AN HSN _).mono ?_;rintro e w2⟨rfl,hw⟩;obtain rfl:=hw.symm;go_wp2_with fail
         go_meet
         exact⟨by rw[AN HAB,AN HNB,AN HPB];rfl,rfl⟩
        ·have HPB:=An (show F5 d.p=true by unfold F5;exact Bq (by omega));have d2:decide (7<d.p)=false:=AO h2;clear h1 h2;go_wp2_with fail
         go_at_call 45;refine(AN HSA _).mono ?_;rintro e w2⟨rfl,hw⟩;obtain rfl:=hw.symm;go_wp2_with fail
         go_at_call 45;refine(AN HSN _).mono ?_;rintro e w2⟨rfl,hw⟩;obtain rfl:=hw.symm;go_wp2_with fail
         go_meet
         exact⟨by rw[AN HAB,AN HNB,AN HPB];rfl,rfl⟩
    case rest =>
     obtain⟨rfl,hw⟩:=hcut;obtain rfl:=hw.symm;clear z2 z10 z11
     cases hc:(FV d.fa && FV d.fn && F5 d.p)
     ·as_aux_lemma =>
       have HQ:=An (AN HD0 hc);clear hc;go_wp2_with(first
        |(go_at_call 80;refine(LT (3) _).mono ?_;rintro e w8⟨rfl,hb8⟩;have HL8:=An ((AN HL1).trans (hb8.mono (AN HL1).size));have HX8:=An ((AN HX1).below hb8);clear hb8)
        |(refine As R 64 (Am 4) (Am 205) R (W.heap.size+1) 0 [I K (3),I K 0,I K 0,.slice N 0 0,I K 0] R R (by simp[Ar]) JT ((AN HX8).there 1 R 5 R) ?_;intro W9 hW9;have HR:=An ((AN HX8).give 1 R [I K (3),I K 0,I K 0,.slice N 0 0,I K 0] R);have HE:=An (Bv (w0:=W) (W.heap.size+1) (by omega) [I K (3),I K 0,I K 0,.slice N 0 0,I K 0] 0 w8 (AN HL8));rw[←hW9]at HR HE;clear hW9)
        |(obtain⟨r0,r1,r2,r3,r4⟩:=(AN HR).f5 1 R;exact AG (by simp[results,Tryz.results43,go_sem,r0,r1,r2,r3,r4]<;>rfl) R (MM (AN HP) (AN HQ) (AN HE))))
     ·as_aux_lemma =>
       have HQ:=An (AN HD1 hc);simp only[AP]at hc;obtain⟨⟨hca,hcn⟩,hcp⟩:=hc;have q1:=ML hca;have q2:=ML hcn;obtain⟨q,hq,hqp⟩:=Uc hcp;have HST:=An (fun(j:Nat) (hj:j<X.rows.length)=>aG (AN HOK).wld hcp d.fa d.fn hj);have hME:∀j,j<X.rows.length→∀V,Calls Au 83 #[Af #[I K d.fa,I K d.fn],I K (X.rows.getD j dR).has] V fun e w'=>e=Ao (Aj (IJ d.fa d.fn (X.rows.getD j dR).has))∧Below V.heap.size V w':=fun j hj V=>by
        have q3:0≤(X.rows.getD j dR).has∧(X.rows.getD j dR).has≤255:=(Hz ((AN HOK).wld.rv j hj)).1;have:=Qc d.fa d.fn (X.rows.getD j dR).has V q1.1 q1.2 q2.1 q2.2 q3.1 q3.2;rw[←Ul d.fa d.fn _ q1.1 q1.2 q2.1 q2.2 q3.1]at this;exact this
       have HME:=An hME;have HQP:=An hqp;clear hME hqp q1 q2 hca hcn hcp;obtain⟨i40,hi,hz,hs,hb⟩:=BC Q4;have HI:=An hi;have HZ:=An hz;have HS:=An hs;have HBB:=An hb;clear hi hz hs hb;have p0:=((AN HP).bx.below (AN HL1)).cell 0 R 0 R;rw[Ay]at p0;have H7:=An (show R7 d (A,c,G,gc) X W (GV X d.fa d.fn 0) (Jh X d.p (GV X d.fa d.fn 0) 0) N 0 W1 from⟨AN HX1,Bn _ _ _ _,AN HL1⟩);go_wp2_with fail
       clear p0;go_loopw [212] (fun x wr=>∃(j:Nat) (A3:Option Addr) (c3:Nat),j≤X.rows.length∧x=I K (j:Int)∧R7 d (A,c,G,gc) X W (GV X d.fa d.fn j) (Jh X d.p (GV X d.fa d.fn j) 0) A3 c3 wr) (fun x _=>X.rows.length - (intOf x).toNat)
       case atStart=>exact⟨0,N,0,AS _,rfl,AN H7⟩
       case round =>
        clear H7;obtain⟨j,A3,c3,hj,rfl,h7⟩:=hrel;by_cases hlt:j<X.rows.length
        ·have j0:(0:Int)≤(j:Int):=(by omega);have j1:(j:Int)<(X.rows.length:Int):=(by omega);obtain⟨b,off,hAe,hrow⟩:=((AN HP).wl.below h7.bel).rows j hlt;have hbs:=L3 X d.fa d.fn j hlt;have hsu:=AN HST j hlt;have hMj:=AN HME j hlt;have hbl:=Ot X d.fa d.fn j;dsimp only at hrow;obtain⟨wk,rfl⟩:∃wk,wk=wr:=⟨_,rfl⟩;generalize (Jh X d.p (GV X d.fa d.fn j) 0)=su at h7 hsu;generalize (GV X d.fa d.fn j)=bs at h7 hbs hbl;generalize X.rows.getD j dR=x at hrow hbs hsu hMj;obtain⟨c0,c1,c2,c3',c4,c5,c6,c7,c8,c9,c10⟩:=IX hrow;obtain⟨W5,hW5,hL5,hX5⟩:=LZ wk [(D' x,116)];simp only[GQ,D']at hW5;have HW5:=An hW5;have HR5:=An (h7.below hL5);have HB5:=An hX5;have hA3:∀k,(Value.slice A3 bs.length c3).ownBlock=O k→k<wk.heap.size:=fun k hk=>(h7.own.lt k hk).2;have HA3:=An hA3;have hsz:=h7.sz;have x2:=hX5.cell 0 R 2 R;rw[Ay]at x2;have y10:=(AN HR5).bx.cell 0 R 10 R;have y11:=(AN HR5).bx.cell 0 R 11 R;rw[Ay]at y10 y11;have hs5:=hL5.size;subst hAe;have HBS:=An hbs;have HSU:=An hsu;clear hW5 hL5 hX5 h7 hrow hbs hsu hA3;go_upto_region 42 with fail
         rw[AN HW5];clear c0 c1 c2 c3' c4 c5 c6 c7 c8 c9 c10;generalize IJ d.fa d.fn x.has=me at *;have HMJ:=An hMj;clear hMj
         cases me
         ·as_aux_lemma =>
           have HE1:=An ((AN HBS).trans (AA (by simp)));have HE2:=An ((AN HSU).trans (AA (by simp)));go_wp2_with((go_at_call 83;refine(AN HMJ _).mono ?_;rintro e w6⟨rfl,hb6⟩;have HR6:=An ((AN HR5).below hb6);clear hb6))
           go_roundw
           case rel=>exact⟨j+1,A3,c3,by omega,by go_num,by have h1:=AN HE1;have h2:=AN HE2;rw[h2,h1];exact AN HR6⟩
           case measure=>simp[intOf];omega
         ·as_aux_lemma =>
           have HE1:=An ((AN HBS).trans (AF R));have HE2:=An ((AN HSU).trans (AF R));go_upto_region 44 with(first
            |(go_at_call 83;refine(AN HMJ _).mono ?_;rintro e w6⟨rfl,hb6⟩;have HR6:=An ((AN HR5).below hb6);have HB6:=An ((AN HB5).below hb6);have hs6:=hb6.size;clear hb6 x2 y10 y11;have a3:=(AN HR6).bx.cell 3 R 3 R;have x0:=(AN HB6).cell 0 R 0 R;have x1:=(AN HB6).cell 0 R 1 R;rw[Ay]at x0 x1)
            |(at_builtin;refine FY _ R (Am 222) (Am 225) 62 R (W.heap.size+4) 61 i40 (Af #[I K 0,I K 0]) 2 16 Tryz.underlying62 (AN HI) (AN HZ) (AN HS) (AN HBB) R (by decide) _ bs.length (Fz bs) R ((AN HR6).own.alloc _) ⟨w6.heap.size,0,N⟩ 1 1 [I K x.ix,I K x.gen] R R (Oh _ _ _ _) (Og _ _) (by unfold maxLen;omega) (by omega) (by simp;omega) (by omega) ?_;intro g capg w7 ho7 hg7 hw7;have HR7:=An ((AN HR6).below (GF w6 (Al #[I K x.ix,I K x.gen] 61)));have HB7:=An (((AN HB6).below (GF w6 (Al #[I K x.ix,I K x.gen] 61))).tw (Tw.of_grown (av:=fun k=>(Value.slice A3 bs.length c3).ownBlock=O k) hg7 (fun k hk=>hk)) (fun k hk e=>by simp only[AJ,AK]at hk;have:=AN HA3 _ e;omega));have HO7:=An ho7;have HG7:=An hg7;clear ho7 hg7 hw7)
            |(refine FU R 62 (Am 227) (Am 226) R (W.heap.size+3) 3 (.slice (O ⟨g,0,N⟩) (bs.length+1) capg) R R R kT (Hj (((AN HR7).tw (AN HG7)).1.there 3 R 5 R) 3 1 (by omega)) ?_;intro W8 hW8;have HR8:=An ((AN HR7).app (AN HO7) (AN HG7));have HB8:=An ((AN HB7).turn (cb:=W.heap.size+3) (o:=3) (vs:=[.slice (O ⟨g,0,N⟩) (bs.length+1) capg]) (.inl (by omega)));have HB9:=An (show GJ wk.heap.size [(D' x,116)] W8 by rw[hW8];exact AN HB8);rw[←hW8]at HR8;clear hW8 HB8 a3 x0 x1))
           have h0:R7 d (O ⟨b,off,N⟩,c,G,gc) X W (bs++[(x.ix,x.gen)]) (if(fun(_:Nat)=>false) 9=true then IntKind.i64.wrap (su+x.v q)else su) (O ⟨g,0,N⟩) capg W8.drew∧GJ wk.heap.size [(D' x,116)] W8.drew:=⟨(AN HR8).below Fv.drew,(AN HB9).below Fv.drew⟩;have k0:(0:Int)≤(q:Int):=(by omega);have k1:(q:Int)<8:=(by omega);refine FW (fun(γ:Unit)=>[Ae (O ⟨W.heap.size+3,4,N⟩),I K su,Ae (O ⟨W.heap.size,2,N⟩),I K (q:Int),Ae (O ⟨wk.heap.size,3,N⟩),Ae (O ⟨wk.heap.size,3+q,N⟩),I K (x.v q),I K (IntKind.i64.wrap (su+x.v q)),Ae (O ⟨W.heap.size+3,4,N⟩),undef]) (fun(γ:Unit) L V=>R7 d (O ⟨b,off,N⟩,c,G,gc) X W (bs++[(x.ix,x.gen)]) (if L 9=true then IntKind.i64.wrap (su+x.v q)else su) (O ⟨g,0,N⟩) capg V∧GJ wk.heap.size [(D' x,116)] V) (()) (by kernel_rfl) (by kernel_rfl) (by kernel_rfl) (by kernel_rfl) h0 ?hstep ?hend
           case hstep =>
            intro F γ hout hF ix o ho L w1 hD hL hed hcl;simp only[Hu,G9,Br,Bx]at hF;have e8:F.tmps.getD 8 undef=Ae (O ⟨W.heap.size+3,0,N⟩):=hout 8 (by decide +kernel);have e3:F.tmps.getD 3 undef=Ae (O ⟨W.heap.size,0,N⟩):=hout 3 (by decide +kernel);have e15:F.tmps.getD 15 undef=Ae (O ⟨wk.heap.size,0,N⟩):=hout 15 (by decide +kernel);have d2:=hD.1.bx.cell 0 R 2 R;rw[Ay]at d2;rw[AN HQP]at d2
            match ix,ho with
            |0,ho|2,ho|3,ho|4,ho|5,ho|7,ho|8,ho =>
             simp at ho;subst ho;exact .inl ⟨rfl,FB γ _ (by simp[go_sem,Aq,-Ap,hF,e8,e3,e15,d2,k0,k1]) R (hD) (fun _ _ _=>rfl)⟩
            |1,ho =>
             simp at ho;subst ho;have q9:L 9=false:=FA hcl hL 10 9 (by kernel_rfl);have a4:=hD.1.bx.cell 3 R 4 R;rw[q9]at a4;simp only[Cy,BG]at a4;exact .inl ⟨rfl,FB γ _ (by simp[go_sem,Aq,-Ap,hF,a4]) R hD (fun _ _ _=>rfl)⟩
            |6,ho =>
             simp at ho;subst ho;have xv:=hD.2.cell 0 R (3+q) (UQ x hq);rw[Ay]at xv;exact .inl ⟨rfl,FB γ _ (by simp[go_sem,Aq,-Ap,hF,xv]) R hD (fun _ _ _=>rfl)⟩
            |9,ho =>
             simp at ho;subst ho;exact .inl ⟨rfl,K0 γ 3 (Am 236) (Am 235) R (W.heap.size+3) 4 (I K (IntKind.i64.wrap (su+x.v q))) (by simp[Aq,-Ap,hF]) (by simp[Aq,-Ap,hF]) R kM (Hj (hD.1.bx.there 3 R 5 R) 4 1 (by omega)) R ⟨hD.1.sum _,hD.2.turn (cb:=W.heap.size+3) (o:=4) (vs:=[I K (IntKind.i64.wrap (su+x.v q))]) (.inl (by omega))⟩ (fun _ _ _=>rfl)⟩
            |ix+10,ho=>simp at ho
           case hend =>
            intro γ L V hD hall;have hR:=hD.1;rw[hall 9 (by decide),AF R]at hR;have HR:=An hR;clear hD hall hR h0;simp only[GN,AI,AH,Ba,AJ,AK,Nat.reduceAdd,Bf,Be];go_frame;go_wp2;go_roundw
            case rel=>exact⟨j+1,_,_,by omega,by go_num,by have h1:=AN HE1;have h2:=AN HE2;rw[AN HQP]at h2;rw[Bi]at h2;rw[show d.p=(q:Int)from AN HQP,h2,h1];exact AN HR⟩
            case measure=>simp[intOf];omega
        ·obtain rfl:j=X.rows.length:=(by omega);have HR:=An h7;have dj:decide ((X.rows.length:Int)<(X.rows.length:Int))=false:=AO (by omega);clear h7 hj hlt;go_wp2_with fail
         go_meet
         exact⟨0,(A,c,G,gc),X,SA,sc,ss,⟨0,0,0,_,_⟩,A3,c3,rfl,⟨(AN HR).bx,(AN HP).below (AN HR).bel,(AN HP).wl.below (AN HR).bel,fun b hb=>⟨(AN HP).aw b hb,.inl (IS (AN HP).wl hb)⟩,fun h=>absurd R h,fun _=>AN HQ,(AN HR).own,Tw.of_below (AN HR).bel,fun b hb=>.inl hb⟩⟩
  have HQ:=An ((AN HRR).trans (kz hk1 hk2 hk3 hk4 hk5 hk6 hk7));have kb1:(d.k == 1)=false:=by simpa using hk1
  have kd1:decide (d.k=1)=false:=AO hk1;have kb2:(d.k == 2)=false:=by simpa using hk2
  have kd2:decide (d.k=2)=false:=AO hk2;have kb3:(d.k == 3)=false:=by simpa using hk3
  have kd3:decide (d.k=3)=false:=AO hk3;have kb4:(d.k == 4)=false:=by simpa using hk4
  have kd4:decide (d.k=4)=false:=AO hk4;have kb5:(d.k == 5)=false:=by simpa using hk5
  have kd5:decide (d.k=5)=false:=AO hk5;have kb6:(d.k == 6)=false:=by simpa using hk6
  have kd6:decide (d.k=6)=false:=AO hk6;have kb7:(d.k == 7)=false:=by simpa using hk7
  have kd7:decide (d.k=7)=false:=AO hk7;clear hk1 hk2 hk3 hk4 hk5 hk6 hk7;go_wp2_with(first
   |(go_at_call 80;refine(LT (1) _).mono ?_;rintro e w8⟨rfl,hb8⟩;have HL8:=An ((AN HL1).trans (hb8.mono (AN HL1).size));have HX8:=An ((AN HX1).below hb8);clear hb8)
   |(refine As R 64 (Am 4) (Am 24) R (W.heap.size+1) 0 [I K (1),I K 0,I K 0,.slice N 0 0,I K 0] R R (by simp[Ar]) JT ((AN HX8).there 1 R 5 R) ?_;intro W9 hW9;have HR:=An ((AN HX8).give 1 R [I K (1),I K 0,I K 0,.slice N 0 0,I K 0] R);have HE:=An (Bv (w0:=W) (W.heap.size+1) (by omega) [I K (1),I K 0,I K 0,.slice N 0 0,I K 0] 0 w8 (AN HL8));rw[←hW9]at HR HE;clear hW9)
   |(obtain⟨r0,r1,r2,r3,r4⟩:=(AN HR).f5 1 R;exact AG (by simp[results,Tryz.results43,go_sem,r0,r1,r2,r3,r4]<;>rfl) R (MM (AN HP) (AN HQ) (AN HE))))
 case rest =>
  obtain⟨e,γ,Y,SA',sc',ss',a,A3,c3,rfl,hC⟩:=hcut;have HC:=An hC;by_cases he:e=0
  ·subst he;obtain⟨b0,b1⟩:=hC.bx.f2 2 R;clear hC;go_wp2_with(first
    |(refine As R 43 (Am 246) (Am 244) R p 0 (wC γ Y) R R (by simp[wC,Ar]) YM (Hj ((AN HC).rh.bx.there 0 R 4 R) 0 2 (by omega)) ?_;intro W8 hW8;have HB8:=An ((AN HC).bx.turn (cb:=p) (o:=0) (vs:=wC γ Y) (.inl hlt));rw[←hW8]at HB8;have HW8:=An hW8;clear hW8 b0 b1;have a0:=(AN HB8).cell 3 R 0 R;have a1:=(AN HB8).cell 3 R 1 R;have a2:=(AN HB8).cell 3 R 2 R;have a3:=(AN HB8).cell 3 R 3 R;have a4:=(AN HB8).cell 3 R 4 R)
    |(refine As R 64 (Am 4) (Am 247) R (W.heap.size+1) 0 (GE (a,A3,c3)) R R (by simp[GE,Ar]) JT ((AN HB8).there 1 R 5 R) ?_;intro W9 hW9;have HR:=An ((AN HB8).give 1 R (GE (a,A3,c3)) R);rw[←hW9]at HR;have HW9:=An hW9;clear hW9 a0 a1 a2 a3 a4)
    |(obtain⟨r0,r1,r2,r3,r4⟩:=(AN HR).f5 1 R;exact AG (by simp[results,Tryz.results43,go_sem,r0,r1,r2,r3,r4,GE]<;>rfl) R (RC.ok (AN HP) (AN HC) R (by rw[AN HW9,AN HW8]))))
  ·have b0:(e == 0)=false:=(by simpa using he);have b1:(e != 0)=true:=(by simpa using he);have HNE:=An he;clear hC he;go_wp2_with(first
    |(go_at_call 80;refine(LT e _).mono ?_;rintro e' w8⟨rfl,hb8⟩;have HL8:=An hb8;have HX8:=An ((AN HC).bx.below hb8);clear hb8)
    |(refine As R 64 (Am 4) (Am 242) R (W.heap.size+1) 0 [I K (e),I K 0,I K 0,.slice N 0 0,I K 0] R R (by simp[Ar]) JT ((AN HX8).there 1 R 5 R) ?_;intro W9 hW9;have HR:=An ((AN HX8).give 1 R [I K (e),I K 0,I K 0,.slice N 0 0,I K 0] R);rw[←hW9]at HR;have HW9:=An hW9;clear hW9)
    |(obtain⟨r0,r1,r2,r3,r4⟩:=(AN HR).f5 1 R;exact AG (by simp[results,Tryz.results43,go_sem,r0,r1,r2,r3,r4]<;>rfl) R (RC.ko (AN HP) (AN HC) (AN HNE) (AN HL8) (AN HW9))))
end Go.Proofs.YtnbleebilmghcabGreat
