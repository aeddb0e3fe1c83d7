/- The document's World, of tables that are right. -/
import Derived.Deep.CutBlock
import Derived.Test.YtnbleebilmghcabGreatWL
import Derived.Test.YtnbleebilmghcabGreatWP
set_option linter.all false
set_option maxHeartbeats 16000000
set_option maxRecDepth 8000
namespace Go.Proofs.YtnbleebilmghcabGreat
open Go Go.RowKit
attribute [local go_sem ↓] Go.wp_at_zero Go.wp_at_succ
structure WS (w:World) (Tv Gv v:Value) (rows:List RowI) (W:World):Prop where
 bel:Below w.heap.size w W
 bx:Bxs w.heap.size [([Tv,Gv],25),([.slice none 0 0,.slice none 0 0],43),([v,Gv],43)] W
 own:W.ownsRow w.heap.size 116 11 v rows.length (zD rows)
 emp:rows=[]→v=.slice none 0 0
section
variable {w:World} {Tv Gv v v':Value} {rows rows':List RowI} {W W1:World}
theorem WS.below (h:WS w Tv Gv v rows W) (hb:Below W.heap.size W W1):WS w Tv Gv v rows W1:=⟨h.bel.trans (hb.mono h.bel.size),h.bx.below hb,zc h.own hb,h.emp⟩
theorem WS.put (h:WS w Tv Gv v rows W) (hb:Below W.heap.size W W1) (ho:W1.ownsRow W.heap.size 116 11 v' rows'.length (zD rows')) (hn:rows'≠[]):WS w Tv Gv v' rows' (W1.setCell ⟨w.heap.size+2,0,none⟩ v'):=by
 have h1:=h.below hb
 have b2:=h1.bx 2 _ _ rfl
 refine ⟨h1.bel.setCell (p:=⟨w.heap.size+2,0,none⟩) (by simp) _,fun k vs t hk=>?_,?_,fun e=>absurd e hn⟩
 ·match k,hk with
  | 0,hk=>rw [heap_setCell_other W1 ⟨w.heap.size+2,0,none⟩ _ _ (by simp)];exact h1.bx 0 vs t hk
  | 1,hk=>rw [heap_setCell_other W1 ⟨w.heap.size+2,0,none⟩ _ _ (by simp)];exact h1.bx 1 vs t hk
  | 2,hk =>
   simp only [List.getElem?_cons_succ,List.getElem?_cons_zero,Option.some.injEq,Prod.mk.injEq] at hk
   obtain ⟨rfl,rfl⟩:=hk
   exact zDR b2 (by simp)
  | k+3,hk=>simp at hk
 ·exact (zBX ho h.bel.size).kept (zAZ W1 _ 0 v') (.inr (zAI ho ⟨_,b2⟩ (by decide)))
theorem WS.keep2 (h:WS w Tv Gv v rows W) {b o:Nat} {u:Value} (hb:w.heap.size+3≤b) (hv:v.ownBlock≠some b):WS w Tv Gv v rows (W.setCell ⟨b,o,none⟩ u):=by
 refine ⟨h.bel.setCell (p:=⟨b,o,none⟩) (by show w.heap.size≤b;omega) _,fun k vs t hk=>?_,h.own.kept (zAZ W b o u) (.inr hv),h.emp⟩
 have hk3:k<3:=(List.getElem?_eq_some_iff.1 hk).1
 rw [heap_setCell_other W ⟨b,o,none⟩ _ _ (by simp only;omega)]
 exact h.bx k vs t hk
end
theorem zJO (tabs:List TabI) (j:Nat) (hj:j<tabs.length) (i:Nat) (hi:i<tabs[j].rows.length):(tabs.flatMap (·.rows)).getD ((zBD tabs j).length+i) dR=tabs[j].rows[i]:=by
 have e:tabs.flatMap (·.rows)=zBD tabs j++(tabs[j].rows++(tabs.drop (j+1)).flatMap (·.rows)):=by
  conv=>lhs;rw [←List.take_append_drop j tabs]
  rw [List.flatMap_append,List.drop_eq_getElem_cons hj,List.flatMap_cons]
  rfl
 rw [e,List.getD_eq_getElem?_getD,List.getElem?_append_right (by omega),show (zBD tabs j).length+i - (zBD tabs j).length=i by omega,List.getElem?_append_left hi,List.getElem?_eq_getElem hi]
 rfl
theorem zNt {r:RowI} {W:World} {b k p:Nat} (h:Bxs b [(zH (zAU r k),116)] W) (hk:k<(zO r.has 8).length) (hp:(zO r.has 8).getD k 0=(p:Int)) (hp8:p<8):Bxs b [(zH (zAU r (k+1)),116)] (W.setCell ⟨b,3+p,none⟩ (.int .i64 (r.v p))):=by
 have:=zGN (v:=.int .i64 (r.v p)) h (o:=3+p) (by rw [zQ];omega)
 have e:(zH (zAU r k)).set (3+p) (.int .i64 (r.v p))=zH (zAU r (k+1)):=by
  rw [zEQ r k p hk hp]
  rcases (by omega:p=0∨p=1∨p=2∨p=3∨p=4∨p=5∨p=6∨p=7) with rfl | rfl | rfl | rfl | rfl | rfl | rfl | rfl <;> (simp [zH];exact ⟨rfl,rfl,rfl⟩)
 rwa [e] at this
theorem zNJ {b:Nat} {r:RowI} {W:World} (h:Bxs b [(zH r,116)] W):RowAt W b 0 r:=by
 have g:=fun j u (hj:(zH r)[j]?=some u)=>h.cell 0 rfl j hj
 simp only [Nat.add_zero] at g
 refine ⟨g 0 _ rfl,g 1 _ rfl,g 2 _ rfl,fun p hp=>?_⟩
 rcases (by omega:p=0∨p=1∨p=2∨p=3∨p=4∨p=5∨p=6∨p=7) with rfl | rfl | rfl | rfl | rfl | rfl | rfl | rfl <;> exact g _ _ rfl
theorem zJY {b:Nat} {r:RowI} {W:World} (h:Bxs b [(zH r,116)] W):zDB W (some ⟨b,0,none⟩) 1 11 (zH r):=by
 refine ⟨rfl,?_,.inr ⟨_,rfl,fun j u hj=>?_⟩⟩
 ·rw [←zDx];exact zAa [r]
 ·have:=h.cell 0 rfl j hj
  rw [Nat.add_zero] at this
  have e:(⟨b,0,none⟩:Addr).add j=⟨b,j,none⟩:=by simp [Addr.add];exact fun h=>h.symm
  rw [e]
  exact this
theorem zKQ {W:World} {A:Option Addr} {rows:List RowI} (h:RowsL W A rows) (q:Nat) (hq:q≤rows.length):zDB W A q 11 (zD (rows.take q)):=by
 have hl:(rows.take q).length=q:=by rw [List.length_take];omega
 have:RowsL W A (rows.take q):=fun j hj=>by
  obtain ⟨b,o,e,hr⟩:=h j (by omega)
  refine ⟨b,o,e,?_⟩
  show RowAt W b _ ((rows.take q).getD j dR)
  rw [List.getD_eq_getElem?_getD,List.getElem?_take,if_pos (by omega),←List.getD_eq_getElem?_getD]
  exact hr
 have:=this.copies
 rwa [hl] at this
theorem zKR {W:World} {g:Nat} {rows:List RowI} (h:RowsL W (some ⟨g,0,none⟩) rows) (q:Nat) (hq:q≤rows.length):zDB W (some ⟨g,q*11,none⟩) (rows.length - q) 11 (zD (rows.drop q)):=by
 have hl:(rows.drop q).length=rows.length - q:=List.length_drop
 have:RowsL W (some ⟨g,q*11,none⟩) (rows.drop q):=fun j hj=>by
  obtain ⟨b,o,e,hr⟩:=h (q+j) (by omega)
  simp only [Option.some.injEq,Addr.mk.injEq,and_true] at e
  obtain ⟨rfl,rfl⟩:=e
  refine ⟨g,q*11,rfl,?_⟩
  show RowAt W g _ ((rows.drop q).getD j dR)
  rw [List.getD_eq_getElem?_getD,List.getElem?_drop,←List.getD_eq_getElem?_getD,show q*11+j*11=0+(q+j)*11 by omega]
  exact hr
 have:=this.copies
 rwa [hl] at this
theorem zOr {Av:Option Addr} {cap m q:Nat} (h:Av=none∧m=0∧cap=0∨∃ g,Av=some ⟨g,0,none⟩∧m≤cap) (hq:q≤m):∃ Bv:Option Addr,(Av=none∧Bv=none∧q=0∧m=0∧cap=0∨∃ g,Av=some ⟨g,0,none⟩∧Bv=some ⟨g,if cap=q then 0 else q*11,none⟩∧m≤cap∧q≤cap)∧(q=0→Av=none→cap=0)∧(m - q=0→Bv=none→cap - q=0)∧(∀ W (rows:List RowI),m=rows.length→RowsL W Av rows→zDB W Bv (m - q) 11 (zD (rows.drop q))):=by
 rcases h with ⟨h1,h2,h3⟩ | ⟨g,h1,h2⟩
 ·refine ⟨none,.inl ⟨h1,rfl,by omega,h2,h3⟩,fun _ _=>h3,fun _ _=>by omega,fun W rows hm _=>?_⟩
  rw [List.drop_eq_nil_of_le (by omega)]
  exact ⟨by rw [h2];simp [zD],(fun u hu=>by cases hu),.inl (by omega)⟩
 ·refine ⟨some ⟨g,if cap=q then 0 else q*11,none⟩,.inr ⟨g,h1,rfl,h2,by omega⟩,(fun _ e=>by rw [h1] at e;cases e),(fun _ e=>by cases e),fun W rows hm hR=>?_⟩
  by_cases hc:cap=q
  ·rw [if_pos hc,List.drop_eq_nil_of_le (by omega)]
   exact ⟨by rw [show m - q=0 by omega];simp [zD],(fun u hu=>by cases hu),.inl (by omega)⟩
  ·rw [hm,if_neg hc]
   exact zKR (by rw [←h1];exact hR) q (by omega)
theorem zJh (rows:List RowI) (r:RowI):zD (zJi rows r)=zD (rows.take (zBb rows r.ix rows.length))++zH r++zD (rows.drop (zBb rows r.ix rows.length)):=by
 unfold zJi
 rw [zAx,show r :: rows.drop (zBb rows r.ix rows.length)=[r]++rows.drop (zBb rows r.ix rows.length) from rfl,zAx,zDx,List.append_assoc]
theorem zIb (rows:List RowI) (r:RowI):(zJi rows r).length=rows.length+1:=by
 have:=zEW rows r.ix rows.length
 unfold zJi
 simp only [List.length_append,List.length_take,List.length_cons,List.length_drop]
 omega
structure PS (w:World) (Tv Gv v:Value) (rows:List RowI) (bt bb:Nat) (TB:List Value) (ix gen:Int) (vh:Value) (L:List Int) (R:RowI) (W:World):Prop where
 ws:WS w Tv Gv v rows W
 tb:Bxs bt [(TB,75)] W
 be:Bxs bb [([.int .i64 ix,.int .i64 gen],61)] W
 rb:Bxs (bb+1) [(zH R,116)] W
 held:W.ownsRow w.heap.size 3 1 vh L.length (zJ L)
 nt:bt<bb
 three:w.heap.size+3≤bb
 nv:v.ownBlock≠some (bb+1)
theorem PS.set {w:World} {Tv Gv v:Value} {rows:List RowI} {bt bb:Nat} {TB:List Value} {ix gen:Int} {vh:Value} {L:List Int} {r:RowI} {W:World} {k p:Nat} (h:PS w Tv Gv v rows bt bb TB ix gen vh L (zAU r k) W) (hk:k<(zO r.has 8).length) (hp:(zO r.has 8).getD k 0=(p:Int)) (hp8:p<8):PS w Tv Gv v rows bt bb TB ix gen vh L (zAU r (k+1)) (W.setCell ⟨bb+1,3+p,none⟩ (.int .i64 (r.v p))):=by
 have nt:=h.nt
 have th:=h.three
 refine ⟨h.ws.keep2 (by omega) h.nv,zBk h.tb (by omega),zBk h.be (by omega),zNt h.rb hk hp hp8,h.held.kept (zAZ W _ _ _) (.inr ?_),nt,th,h.nv⟩
 have b2:=h.rb 0 _ _ rfl
 exact zAI h.held ⟨_,b2⟩ (by decide)
theorem zFV (T:Option Addr) (tcap:Nat) (G:Option Addr) (gcap:Nat) (tabs:List TabI) (gens:List Int) (w:World) (hT:TabsAt w T tabs) (he:∀ t∈tabs,TabRight t) (htl:tabs.length≤4194304) (hrl:(tabs.flatMap (·.rows)).length≤4194304) :
  Calls Tryz.prog 31 #[stV T tabs.length tcap G gens.length gcap] w fun e w'=>∃ v,e=.returned (.agg #[v,.slice G gens.length gcap])∧w'.ownsRow w.heap.size 116 11 v (tabs.flatMap (·.rows)).length (zD (insTo (tabs.flatMap (·.rows)) (tabs.flatMap (·.rows)).length))∧Below w.heap.size w w':=by
 obtain ⟨i61,hi61,hz61,hs61,hb61⟩:=info_parts info61
 have H61:=zB (And.intro hi61 (And.intro hz61 (And.intro hs61 hb61)))
 have HT:=zB hT
 have HE:=zB he
 have HGET:=zB (fun j hj i hi=>zJO tabs j hj i hi)
 have HRT:=zB (fun j=>zFY tabs j)
 have HSU:=zB (fun j hj=>zEn tabs j hj)
 have HEND:Hid (zBD tabs tabs.length=tabs.flatMap (·.rows)):=zB (by unfold zBD;rw [List.take_length])
 clear hT he hi61 hz61 hs61 hb61
 generalize tabs.flatMap (·.rows)=all at *
 obtain ⟨W1,hW1,hbx,hX1⟩:=zET w [([.slice T tabs.length tcap,.slice G gens.length gcap],25),([.slice none 0 0,.slice none 0 0],43),([.slice none 0 0,.slice G gens.length gcap],43)]
 have HW1:Hid (((w.alloc (.cells #[.slice T tabs.length tcap,.slice G gens.length gcap] 25)).alloc (.cells #[.slice none 0 0,.slice none 0 0] 43)).alloc (.cells #[.slice none 0 0,.slice G gens.length gcap] 43)=W1):=zB hW1
 clear hW1
 have hWS:WS w (.slice T tabs.length tcap) (.slice G gens.length gcap) (.slice none 0 0) (insTo all 0) W1:=⟨hbx,hX1,World.ownsRow_nil _ _ _ _,fun _=>rfl⟩
 have HWS:=zB hWS
 have r0:=hX1.cell 0 rfl 0 rfl
 rw [Nat.add_zero] at r0
 clear hbx hX1 hWS
 unfold stV
 go_enter Tryz.func31,Tryz.ntmps31
 go_upto_region 2 with fail
 rw [zA HW1]
 go_wp2_with fail
 clear r0
 go_loopw [18] (fun x wr=>∃ (j:Nat) (v:Value),j≤tabs.length∧x=.int .i64 (j:Int)∧WS w (.slice T tabs.length tcap) (.slice G gens.length gcap) v (insTo all (zBD tabs j).length) wr) (fun x _=>tabs.length - (intOf x).toNat)
 case atStart=>exact ⟨0,_,Nat.zero_le _,rfl,zA HWS⟩
 case round =>
  clear HWS HW1
  obtain ⟨j,v,hj,rfl,hS⟩:=hrel
  by_cases hlt:j<tabs.length
  ·have j0:(0:Int)≤(j:Int):=by omega
   have j1:(j:Int)<(tabs.length:Int):=by omega
   obtain ⟨wo,rfl⟩:∃ wo,wo=wr:=⟨_,rfl⟩
   obtain ⟨tb,tf,hTe,A,c,C,cc,hta⟩:=(zA HT) j hlt
   have hrt:=(zA HE) _ (List.getElem_mem hlt)
   have hget:=zA HGET j hlt
   have hsu:=congrArg List.length (zA HSU j hlt)
   rw [List.length_append] at hsu
   have hrt1:=zA HRT (j+1)
   generalize tabs[j]=t at *
   generalize hn0:(zBD tabs j).length=n0 at *
   have HN0:=zB hn0
   have d0:=zC hS.bel hta.c0
   have d1:=zC hS.bel hta.c1
   have d2:=zC hS.bel hta.c2
   have ml:=zBs t.has 8
   have nf:t.rows.length≤4194304:=hrt.few
   have hs0:=zCg hrt.set
   have HLI:=zB (fun W=>zEu t.has W hs0.1 hs0.2)
   have HRT1:=zB hrt
   have HTA:=zB hta
   have HG:=zB hget
   have HS1:=zB hsu
   have hnl:n0+t.rows.length≤4194304:=by omega
   obtain ⟨bt,hbt⟩:∃ bt,bt=wo.heap.size:=⟨_,rfl⟩
   have h3:w.heap.size+3≤bt:=by rw [hbt];exact hS.bx.sz (by simp)
   obtain ⟨W2,hW2,hbx,hX2⟩:=zET wo [([.int .i64 t.has,.slice A t.rows.length c,.slice C (zO t.has 8).length cc],75)]
   have HW2:Hid (wo.alloc (.cells #[.int .i64 t.has,.slice A t.rows.length c,.slice C (zO t.has 8).length cc] 75)=W2):=zB hW2
   clear hW2
   rw [←hbt] at hX2
   have HS2:=zB (hS.below hbx)
   have HX2:=zB hX2
   have y1:=hX2.cell 0 rfl 1 rfl
   rw [Nat.add_zero] at y1
   subst hTe
   clear hS hta hrt hget hsu hrt1 hn0 hbx hX2 hs0
   go_upto_region 5 with fail
   rw [zA HW2,←hbt]
   clear d0 d1 d2 HW2 hbt
   go_wp2_with fail
   clear y1
   go_loopw [25] (fun x wr=>∃ (i:Nat) (v:Value),i≤t.rows.length∧x=.int .i64 (i:Int)∧WS w (.slice (some ⟨tb,tf,none⟩) tabs.length tcap) (.slice G gens.length gcap) v (insTo all (n0+i)) wr∧Bxs bt [([.int .i64 t.has,.slice A t.rows.length c,.slice C (zO t.has 8).length cc],75)] wr) (fun x _=>t.rows.length - (intOf x).toNat)
   case atStart=>exact ⟨0,_,Nat.zero_le _,rfl,zA HS2,zA HX2⟩
   case round =>
    clear HS2 HX2
    obtain ⟨i,v,hi,rfl,hS,hX⟩:=hrel
    by_cases hli:i<t.rows.length
    ·have i0:(0:Int)≤(i:Int):=by omega
     have i1:(i:Int)<(t.rows.length:Int):=by omega
     obtain ⟨wq,rfl⟩:∃ wq,wq=wr:=⟨_,rfl⟩
     obtain ⟨r,hrr⟩:∃ r,r=t.rows[i]:=⟨_,rfl⟩
     have hrh:=(zA HRT1).has r (by rw [hrr];exact List.getElem_mem hli)
     have hins:insTo all (n0+i+1)=zJi (insTo all (n0+i)) r:=by rw [insTo,zA HG i hli,←hrr]
     have hml:=zCN all (n0+i)
     obtain ⟨ab,ao,hAb,g0,g1⟩:=((zA HTA).bs.below hS.bel) i (by rw [zCf];exact hli)
     have hbv:(bsV t).getD i (0,0)=(r.ix,r.gen):=by
      unfold bsV
      rw [List.getD_eq_getElem?_getD,List.getElem?_eq_getElem (by simpa using hli),hrr]
      simp
     rw [hbv] at g0 g1
     dsimp only at g0 g1
     generalize insTo all (n0+i)=rows at *
     have y0:=hX.cell 0 rfl 0 rfl
     rw [Nat.add_zero] at y0
     obtain ⟨bb,hbb⟩:∃ bb,bb=wq.heap.size:=⟨_,rfl⟩
     have h4:bt<bb:=by rw [hbb];exact hX.lt (k:=0) rfl
     have hnv:v.ownBlock≠some (bb+1):=fun e=>by have:=(hS.own.lt _ e).2;omega
     obtain ⟨W3,hW3,hbx,hX3⟩:=zET wq [([.int .i64 r.ix,.int .i64 r.gen],61),([.int .i64 r.ix,.int .i64 r.gen,.int .i64 t.has,.int .i64 0,.int .i64 0,.int .i64 0,.int .i64 0,.int .i64 0,.int .i64 0,.int .i64 0,.int .i64 0],116)]
     have HW3:Hid ((wq.alloc (.cells #[.int .i64 r.ix,.int .i64 r.gen] 61)).alloc (.cells #[.int .i64 r.ix,.int .i64 r.gen,.int .i64 t.has,.int .i64 0,.int .i64 0,.int .i64 0,.int .i64 0,.int .i64 0,.int .i64 0,.int .i64 0,.int .i64 0] 116)=W3):=zB hW3
     clear hW3
     rw [←hbb] at hX3
     have e0:[.int .i64 r.ix,.int .i64 r.gen,.int .i64 t.has,.int .i64 0,.int .i64 0,.int .i64 0,.int .i64 0,.int .i64 0,.int .i64 0,.int .i64 0,.int .i64 0]=zH (zAU r 0):=by simp [zH,zAU,hrh.1]
     have hP3:=fun vh W4 (hb4:Below W3.heap.size W3 W4) (hh:W4.ownsRow W3.heap.size 3 1 vh (zO t.has 8).length ((zO t.has 8).map (Value.int .i64)))=>(show PS w (.slice (some ⟨tb,tf,none⟩) tabs.length tcap) (.slice G gens.length gcap) v rows bt bb [.int .i64 t.has,.slice A t.rows.length c,.slice C (zO t.has 8).length cc] r.ix r.gen vh (zO t.has 8) (zAU r 0) W4 from ⟨(hS.below hbx).below hb4,(hX.below hbx).below hb4,fun k vs ty hk=>(hX3.below hb4) k vs ty (by match k,hk with | 0,hk=>exact hk),fun k vs ty hk=>by
      match k,hk with
      | 0,hk=>rw [←e0] at hk;exact (hX3.below hb4) 1 vs ty hk,zBX hh (Nat.le_trans hS.bel.size hbx.size),h4,by omega,hnv⟩)
     have z0:W3.cell? ⟨bt,0,none⟩=some (.int .i64 t.has):=zC hbx y0
     have HP3:=zB hP3
     have HRR:=zB hrr
     have HRH:=zB hrh
     have HIN:=zB hins
     have HML:=zB hml
     have HBB:=zB hbb
     have h5:bt<wq.heap.size:=by omega
     subst hAb
     clear hS hX hbv hrr hrh hins hbb hbx hX3 e0 hP3 hnv
     go_upto_region 9 with fail
     rw [zA HW3,←zA HBB]
     clear g0 g1 y0 HW3 h5
     go_wp2_with ((go_at_call 65;refine (zA HLI _).mono ?_;rintro e w4 ⟨vh,rfl,hh,hb4⟩;obtain ⟨Ah,ch,rfl⟩:=zAV hh;have HP4:=zB (zA HP3 _ w4 hb4 hh);clear hh hb4))
     clear z0 HP3
     go_loopw [38] (fun x wr=>∃ k:Nat,k≤(zO t.has 8).length∧x=.int .i64 (k:Int)∧PS w (.slice (some ⟨tb,tf,none⟩) tabs.length tcap) (.slice G gens.length gcap) v rows bt bb [.int .i64 t.has,.slice (some ⟨ab,ao,none⟩) t.rows.length c,.slice C (zO t.has 8).length cc] r.ix r.gen (.slice Ah (zO t.has 8).length ch) (zO t.has 8) (zAU r k) wr) (fun x _=>(zO t.has 8).length - (intOf x).toNat)
     case atStart=>exact ⟨0,Nat.zero_le _,rfl,zA HP4⟩
     case round =>
      clear HP4
      obtain ⟨k,hk,rfl,hP⟩:=hrel
      by_cases hlk:k<(zO t.has 8).length
      ·have k0:(0:Int)≤(k:Int):=by omega
       have k1:(k:Int)<((zO t.has 8).length:Int):=by omega
       obtain ⟨p,hp,hpk⟩:∃ p:Nat,p<8∧(zO t.has 8).getD k 0=(p:Int):=by
        have hm:(zO t.has 8).getD k 0∈zO t.has 8:=by
         rw [List.getD_eq_getElem?_getD,List.getElem?_eq_getElem hlk];exact List.getElem_mem hlk
        generalize (zO t.has 8).getD k 0=z at *
        unfold zO at hm
        rw [List.mem_map] at hm
        obtain ⟨q,hq,e⟩:=hm
        rw [List.mem_filter,List.mem_range] at hq
        exact ⟨q,hq.1,e.symm⟩
       have p0:(0:Int)≤(p:Int):=by omega
       have p1:(p:Int)<8:=by omega
       obtain ⟨gh,ch',hvh,_,_⟩:=zAP hP.held (by omega)
       simp only [Value.slice.injEq,true_and] at hvh
       obtain ⟨hvA,hvc⟩:=hvh
       have hcell:wr.cell? ⟨gh,k,none⟩=some (.int .i64 (p:Int)):=by
        have hh:=hP.held
        rw [hvA] at hh
        refine zh hh ?_
        unfold zJ
        rw [List.getElem?_map,List.getElem?_eq_getElem hlk]
        rw [List.getD_eq_getElem?_getD,List.getElem?_eq_getElem hlk] at hpk
        simpa using hpk
       obtain ⟨b',o',hC,A1,c1,d0,hI⟩:=(zA HTA).cols.below hP.ws.bel k hlk
       obtain ⟨b2,o2,hA1,dd⟩:=hI i (by rw [zBU];exact hli)
       have d1:wr.cell? ⟨b2,o2+i,none⟩=some (.int .i64 (r.v p)):=by
        have e:(zGV t k).getD i 0=r.v p:=by
         unfold zGV
         rw [hpk,Int.toNat_natCast,List.getD_eq_getElem?_getD,List.getElem?_eq_getElem (by simpa using hli),zA HRR]
         simp
        rw [←e]
        exact dd
       have y2:=hP.tb.cell 0 rfl 2 rfl
       rw [Nat.add_zero] at y2
       have hth:wr.there (bb+1) (3+p) 1:=by
        have hf:=fun q=>hP.rb.free 0 rfl q
        have:=zAB ((zNJ hP.rb).v p hp) (by simpa using hf)
        rwa [Nat.zero_add] at this
       have HNP:=zB (hP.set (by rw [(zA HRH).1];exact hlk) (by rw [(zA HRH).1];exact hpk) hp)
       have HTHR:=zB hth
       clear hP hpk hth hI dd
       subst hC hA1 hvA hvc
       go_wp2_with ((refine zT rfl 3 (.tmp 68) (.tmp 66) rfl (bb+1) (3+p) (.int .i64 (r.v p)) rfl rfl rfl size3 (zA HTHR) ?_;intro W13 hW13;have hY:=zA HNP;rw [←hW13] at hY;have HY:=zB hY;clear hW13 hY))
       go_roundw
       case rel=>exact ⟨k+1,by omega,by go_num,zA HY⟩
       case measure=>simp [intOf];omega
      ·obtain rfl:k=(zO t.has 8).length:=by omega
       have hec:=zEz r (zA HRH).2
       rw [(zA HRH).1] at hec
       have dk:decide (((zO t.has 8).length:Int)<((zO t.has 8).length:Int))=false:=decide_eq_false (by omega)
       have hrb:=hP.rb
       rw [hec] at hrb
       have HRB0:=zB hrb
       have HTBX:=zB hP.tb
       have HBE:=zB hP.be
       have h9:w.heap.size+2≠bt:=by omega
       obtain ⟨wk,rfl⟩:∃ wk,wk=wr:=⟨_,rfl⟩
       obtain ⟨Av,cap,hv,hAv⟩:∃ Av cap,v=.slice Av rows.length cap∧(Av=none∧rows.length=0∧cap=0∨∃ g,Av=some ⟨g,0,none⟩∧rows.length≤cap):=by
        rcases hP.ws.own.2 with ⟨e,h0⟩ | ⟨g,cap,cur,e,_,_,h3,_⟩
        ·exact ⟨none,0,by rw [e,h0],.inl ⟨rfl,h0,rfl⟩⟩
        ·exact ⟨_,cap,e,.inr ⟨g,rfl,h3⟩⟩
       subst hv
       have x0:=hP.ws.bx.cell 2 rfl 0 rfl
       have HPW:=zB hP.ws
       have HAV:=zB hAv
       have HML2:Hid (rows.length≤4194304):=zB (by omega)
       clear hP hec hrb hml hAv
       go_upto_block 6 with fail
       go_cut [11,25] from 25 to 105 (fun x y wc=>y=.int .i64 (i:Int)∧∃ q:Nat,q≤rows.length∧x=.int .i64 (q:Int)∧zBb rows r.ix rows.length=q∧Below wk.heap.size wk wc)
       case first =>
        go_wp2_with fail
        clear x0
        go_loopw [11] (fun x wr=>∃ q:Nat,q≤rows.length∧x=.int .i64 (q:Int)∧zBb rows r.ix q=zBb rows r.ix rows.length∧Below wk.heap.size wk wr) (fun x _=>(intOf x).toNat)
        case atStart=>exact ⟨rows.length,Nat.le_refl _,rfl,rfl,Below.refl _ _⟩
        case round =>
         obtain ⟨q,hq,rfl,hpo,hbk⟩:=hrel
         have HL0:=zB hbk
         have hsub:Nonempty (Sub wr):=⟨⟨wr,Below.refl _ _⟩⟩
         have hml:=zA HML2
         by_cases hq0:q=0
         ·subst hq0
          have HQ:Hid (zBb rows r.ix rows.length=0):=zB (by rw [←hpo];rfl)
          clear hbk hpo
          go_wp2_with fail
          refine zU (by kernel_rfl) (by kernel_rfl) ?_
          repeat (go_big_quiet_step (fail))
          refine wpQuiet_nil ?_
          rintro w9 ⟨xs,hxs⟩
          have hb9:=xs.bel
          rw [←hxs] at hb9
          have HB9:=zB ((zA HL0).trans (hb9.mono (zA HL0).size))
          have HB0:=zB hb9
          clear hxs hb9 xs
          clear hsub
          go_wp2_with fail
          go_meet
          case rel=>exact ⟨rfl,0,Nat.zero_le _,rfl,zA HQ,zA HB9⟩
         ·obtain ⟨k,rfl⟩:∃ k,q=k+1:=⟨q - 1,by omega⟩
          have hPk:=(zA HPW).below hbk
          have x0:=hPk.bx.cell 2 rfl 0 rfl
          have s2:=zN x0
          have e0:=((zA HBE).below hbk).cell 0 rfl 0 rfl
          rw [Nat.add_zero] at e0
          have s1:=zN e0
          have hgt:decide (((k+1:Nat):Int) > 0)=true:=decide_eq_true (by omega)
          have k0:(0:Int)≤(k:Int):=by omega
          have k1:(k:Int)<(rows.length:Int):=by omega
          have hw1:IntKind.i64.wrap (((k+1:Nat):Int) - 1)=(k:Int):=by rw [IntWalk.i64_in _ (by omega)];omega
          obtain ⟨gr,o',e',hrow⟩:=zAt hPk.own k (by omega)
          have hrow:RowAt wr gr (o'+k*11) (rows.getD k dR):=hrow
          have hp1:zBb rows r.ix (k+1)=if r.ix<(rows.getD k dR).ix then zBb rows r.ix k else k+1:=rfl
          have c0:=hrow.c0
          generalize (rows.getD k dR).ix=xx at *
          have s0:=zN c0
          subst e'
          by_cases hx:r.ix<xx
          ·have hd:decide (r.ix<xx)=true:=decide_eq_true hx
           have HPO:Hid (zBb rows r.ix k=zBb rows r.ix rows.length):=zB (by rw [←hpo,hp1,if_pos hx])
           clear hPk hbk hpo x0 e0 hrow hp1 c0 hx
           go_wp2_with fail
           refine zU (by kernel_rfl) (by kernel_rfl) ?_
           repeat (go_big_quiet_step (fail))
           refine wpQuiet_nil ?_
           rintro w9 ⟨xs,hxs⟩
           have hb9:=xs.bel
           rw [←hxs] at hb9
           have HB9:=zB ((zA HL0).trans (hb9.mono (zA HL0).size))
           have HB0:=zB hb9
           clear hxs hb9 xs
           clear s0 s1 s2 hsub
           go_wp2
           go_roundw
           case rel=>exact ⟨k,by omega,by go_num,zA HPO,zA HB9⟩
           case measure=>simp [intOf]
          ·have hd:decide (r.ix<xx)=false:=decide_eq_false hx
           have HQ:Hid (zBb rows r.ix rows.length=k+1):=zB (by rw [←hpo,hp1,if_neg hx])
           clear hPk hbk hpo x0 e0 hrow hp1 c0 hx
           go_wp2_with fail
           refine zU (by kernel_rfl) (by kernel_rfl) ?_
           repeat (go_big_quiet_step (fail))
           refine wpQuiet_nil ?_
           rintro w9 ⟨xs,hxs⟩
           have hb9:=xs.bel
           rw [←hxs] at hb9
           have HB9:=zB ((zA HL0).trans (hb9.mono (zA HL0).size))
           have HB0:=zB hb9
           clear hxs hb9 xs
           clear s0 s1 s2 hsub
           go_wp2_with fail
           go_meet
           case rel=>exact ⟨rfl,k+1,by omega,rfl,zA HQ,zA HB9⟩
       case rest =>
        obtain ⟨rfl,q,hq,rfl,hQ,hB9⟩:=hcut
        have HQ:=zB hQ
        have HB9:=zB hB9
        clear hQ hB9 x0
        have hml:=zA HML2
        go_wp2_with fail
        obtain ⟨Wr,rfl⟩:∃ Wr,Wr=wc:=⟨_,rfl⟩
        have hPW:=(zA HPW).below (zA HB9)
        have HR0:=zB (hPW.bx.cell 2 rfl 0 rfl)
        have HRB:=zB ((zA HRB0).below (zA HB9))
        have HTH:Hid (∀ W,Below Wr.heap.size Wr W→W.there (w.heap.size+2) 0 1):=zB (fun W hW j hj=>(hPW.bx.below hW).there 2 rfl 2 rfl j (by omega))
        have hRL:=zAt hPW.own
        obtain ⟨X1,hX1⟩:∃ X1,X1=zD (rows.take q):=⟨_,rfl⟩
        obtain ⟨X2,hX2⟩:∃ X2,X2=zD (rows.drop q):=⟨_,rfl⟩
        have HC1:Hid (∀ W,Below Wr.heap.size Wr W→zDB W Av q 11 X1):=zB (fun W hW=>by rw [hX1];exact zKQ (hRL.below hW) q hq)
        obtain ⟨Bv,hAB,hA1,hA2,hC2⟩:=zOr (zA HAV) hq
        have HC2:Hid (∀ W,Below Wr.heap.size Wr W→zDB W Bv (rows.length - q) 11 X2):=zB (fun W hW=>by rw [hX2];exact hC2 W rows rfl (hRL.below hW))
        have HA1:=zB hA1
        have HA2:=zB hA2
        have HX12:=zB (And.intro hX1 hX2)
        have HAB:=zB hAB
        have h0:=R18.start Wr (w.heap.size+2) q rows.length X1 X2 r
        have HPW9:=zB hPW
        clear hRL hX1 hX2 hAB hPW hA1 hA2 hC2
        refine zd (fun (γ:G18) ix v=>if ix=0 then v=γ.v0 else if ix=5 then v=γ.v5 else if ix=7 then v=.slice (some ⟨γ.S1,0,none⟩) 1 1 else if ix=8 then v=γ.v8 else if ix=13 then v=γ.v13 else (([fun _=>True,fun v=>v=.pointer (some ⟨w.heap.size+2,0,none⟩),fun v=>v=.slice Av rows.length cap,fun v=>v=.int .i64 (q:Int),fun v=>v=.slice Av q cap,fun _=>True,fun v=>v=.agg #[.int .i64 r.ix,.int .i64 r.gen,.int .i64 r.has,.int .i64 (r.v 0),.int .i64 (r.v 1),.int .i64 (r.v 2),.int .i64 (r.v 3),.int .i64 (r.v 4),.int .i64 (r.v 5),.int .i64 (r.v 6),.int .i64 (r.v 7)],fun _=>True,fun _=>True,fun v=>v=.pointer (some ⟨w.heap.size+2,0,none⟩),fun v=>v=.slice Av rows.length cap,fun v=>v=.int .i64 (q:Int),fun v=>v=.slice Bv (rows.length - q) (cap - q),fun _=>True,fun v=>v=.pointer (some ⟨w.heap.size+2,0,none⟩),fun _=>True]:List (Value→Prop)).getD ix (fun _=>True)) v) (fun (γ:G18) L W=>R18 Wr (w.heap.size+2) q rows.length X1 X2 r γ L W) (g18) (by kernel_rfl) (by kernel_rfl) (by kernel_rfl) h0 ?hstep ?hend
        case hstep =>
         intro γ ix o ho L ac w1 hD hL hed hcl hout hv
         match ix,ho with
         | 0,ho =>
          simp at ho
          subst ho
          have q5:L 5=false:=by
           cases h:L 5
           ·rfl
           ·exact absurd (hcl 5 _ rfl h 0 (by kernel_rfl)) (by rw [hL];decide)
          have q8:L 8=false:=by
           cases h:L 8
           ·rfl
           ·exact absurd (hcl 8 _ rfl h 5 (by kernel_rfl)) (by rw [q5];decide)
          have q13:L 13=false:=by
           cases h:L 13
           ·rfl
           ·exact absurd (hcl 13 _ rfl h 8 (by kernel_rfl)) (by rw [q8];decide)
          have q15:L 15=false:=by
           cases h:L 15
           ·rfl
           ·exact absurd (hcl 15 _ rfl h 13 (by kernel_rfl)) (by rw [q13];decide)
          exact .inl ⟨rfl,zBu ⟨.slice (some ⟨w1.heap.size,0,none⟩) 0 0,γ.v5,γ.S1,γ.v8,γ.v13⟩ (.slice (some ⟨w1.heap.size,0,none⟩) 0 0) (w2:=w1.alloc (.cells #[] 116)) (by simp [go_sem,Act.eval]) rfl (hD.mk0 q5 q8 q13 q15) (fun j u hj hLj h=>by simpa [hj] using h)⟩
         | 1,ho =>
          simp at ho
          subst ho
          have e3:ac.tmps.getD 3 undef=.pointer (some ⟨w.heap.size+2,0,none⟩):=hout 3 (by decide +kernel)
          exact .inl ⟨rfl,zF γ _ (by simp [go_sem,Act.eval,-Array.getD_eq_getD_getElem?,e3]) rfl (hD.same (by decide)) (fun _ _ _ _ h=>h)⟩
         | 2,ho =>
          simp at ho
          subst ho
          have e91:ac.tmps.getD 91 undef=_:=hv 1 91 rfl (by kernel_rfl)
          have q4:L 4=false:=by
           cases h:L 4
           ·rfl
           ·exact absurd (hcl 4 _ rfl h 2 (by kernel_rfl)) (by rw [hL];decide)
          have q5:L 5=false:=by
           cases h:L 5
           ·rfl
           ·exact absurd (hcl 5 _ rfl h 4 (by kernel_rfl)) (by rw [q4];decide)
          have q8:L 8=false:=by
           cases h:L 8
           ·rfl
           ·exact absurd (hcl 8 _ rfl h 5 (by kernel_rfl)) (by rw [q5];decide)
          have q13:L 13=false:=by
           cases h:L 13
           ·rfl
           ·exact absurd (hcl 13 _ rfl h 8 (by kernel_rfl)) (by rw [q8];decide)
          have q15:L 15=false:=by
           cases h:L 15
           ·rfl
           ·exact absurd (hcl 15 _ rfl h 13 (by kernel_rfl)) (by rw [q13];decide)
          have hW:=hD.bel q15
          have c0:=zC hW (zA HR0)
          exact .inl ⟨rfl,zF γ _ (by simp [go_sem,Act.eval,-Array.getD_eq_getD_getElem?,e91,c0]) rfl (hD.same (by decide)) (fun _ _ _ _ h=>h)⟩
         | 3,ho =>
          simp at ho
          subst ho
          have e11:ac.tmps.getD 11 undef=.int .i64 (q:Int):=hout 11 (by decide +kernel)
          exact .inl ⟨rfl,zF γ _ (by simp [go_sem,Act.eval,-Array.getD_eq_getD_getElem?,e11]) rfl (hD.same (by decide)) (fun _ _ _ _ h=>h)⟩
         | 4,ho =>
          simp at ho
          subst ho
          have e92:ac.tmps.getD 92 undef=_:=hv 2 92 rfl (by kernel_rfl)
          have e93:ac.tmps.getD 93 undef=_:=hv 3 93 rfl (by kernel_rfl)
          rcases zA HAB with ⟨hz3,hz4,hz0,hz1,hz2⟩ | ⟨g,hz3,hz4,hz1,hz2⟩
          ·rw [hz3,hz1,hz2] at e92
           exact .inl ⟨rfl,zF γ _ (by simp [go_sem,Act.eval,-Array.getD_eq_getD_getElem?,e92,e93,hz0,hz1,hz2,hz3,hz4]) rfl (hD.same (by decide)) (fun _ _ _ _ h=>h)⟩
          ·have q0:(0:Int)≤(q:Int):=by omega
           have q1:(q:Int)≤(rows.length:Int):=by omega
           have q2:(q:Int)≤(cap:Int):=by omega
           have q3:(rows.length:Int)≤(cap:Int):=by omega
           rw [hz3] at e92
           exact .inl ⟨rfl,zF γ _ (by simp [go_sem,Act.eval,-Array.getD_eq_getD_getElem?,e92,e93,q0,q1,q2,q3,hz3,hz4]) rfl (hD.same (by decide)) (fun _ _ _ _ h=>h)⟩
         | 5,ho =>
          simp at ho
          subst ho
          have e90:ac.tmps.getD 90 undef=γ.v0:=hv 0 90 rfl (by kernel_rfl)
          have e94:ac.tmps.getD 94 undef=_:=hv 4 94 rfl (by kernel_rfl)
          have q8:L 8=false:=by
           cases h:L 8
           ·rfl
           ·exact absurd (hcl 8 _ rfl h 5 (by kernel_rfl)) (by rw [hL];decide)
          have q13:L 13=false:=by
           cases h:L 13
           ·rfl
           ·exact absurd (hcl 13 _ rfl h 8 (by kernel_rfl)) (by rw [q8];decide)
          have q15:L 15=false:=by
           cases h:L 15
           ·rfl
           ·exact absurd (hcl 15 _ rfl h 13 (by kernel_rfl)) (by rw [q13];decide)
          have t0:L 0=true:=hed 0 (by kernel_rfl)
          have hW:=hD.bel q15
          obtain ⟨v',w',hr,ho,hg,hm⟩:=zEM Wr.heap.size 41 116 i61 _ 11 88 Tryz.underlying41 (zA H61).1 (zA H61).2.1 (zA H61).2.2.1 (zA H61).2.2.2 rfl (by decide) w1 γ.v0 0 [] (hD.o0 t0 hL) _ q cap X1 (zA HC1 w1 hW) (by unfold maxLen;omega) (by omega) hW.size (zA HA1)
          rw [Nat.zero_add,List.nil_append] at ho
          exact .inl ⟨rfl,zBj ⟨γ.v0,v',γ.S1,γ.v8,γ.v13⟩ (.tmp 90) (.tmp 94) 41 rfl γ.v0 (.slice Av q cap) v' (by simp [Act.eval,-Array.getD_eq_getD_getElem?,e90]) (by simp [Act.eval,-Array.getD_eq_getD_getElem?,e94]) (hr _) rfl (hD.app5 t0 hL q8 q13 q15 ho hg hm) (fun j u hj hLj h=>by simpa [hj] using h)⟩
         | 6,ho =>
          simp at ho
          subst ho
          have e8:ac.tmps.getD 8 undef=.pointer (some ⟨bb+1,0,none⟩):=hout 8 (by decide +kernel)
          have q7:L 7=false:=by
           cases h:L 7
           ·rfl
           ·exact absurd (hcl 7 _ rfl h 6 (by kernel_rfl)) (by rw [hL];decide)
          have q8:L 8=false:=by
           cases h:L 8
           ·rfl
           ·exact absurd (hcl 8 _ rfl h 7 (by kernel_rfl)) (by rw [q7];decide)
          have q13:L 13=false:=by
           cases h:L 13
           ·rfl
           ·exact absurd (hcl 13 _ rfl h 8 (by kernel_rfl)) (by rw [q8];decide)
          have q15:L 15=false:=by
           cases h:L 15
           ·rfl
           ·exact absurd (hcl 15 _ rfl h 13 (by kernel_rfl)) (by rw [q13];decide)
          have hW:=hD.bel q15
          obtain ⟨c0,c1,c2,c3,c4,c5,c6,c7,c8,c9,c10⟩:=zBh (zNJ ((zA HRB).below hW))
          exact .inl ⟨rfl,zF γ _ (by simp [go_sem,Act.eval,-Array.getD_eq_getD_getElem?,e8,c0,c1,c2,c3,c4,c5,c6,c7,c8,c9,c10]) rfl (hD.same (by decide)) (fun _ _ _ _ h=>h)⟩
         | 7,ho =>
          simp at ho
          subst ho
          have e96:ac.tmps.getD 96 undef=_:=hv 6 96 rfl (by kernel_rfl)
          have q8:L 8=false:=by
           cases h:L 8
           ·rfl
           ·exact absurd (hcl 8 _ rfl h 7 (by kernel_rfl)) (by rw [hL];decide)
          have q13:L 13=false:=by
           cases h:L 13
           ·rfl
           ·exact absurd (hcl 13 _ rfl h 8 (by kernel_rfl)) (by rw [q8];decide)
          have q15:L 15=false:=by
           cases h:L 15
           ·rfl
           ·exact absurd (hcl 15 _ rfl h 13 (by kernel_rfl)) (by rw [q13];decide)
          exact .inl ⟨rfl,zBu ⟨γ.v0,γ.v5,w1.heap.size,γ.v8,γ.v13⟩ (.slice (some ⟨w1.heap.size,0,none⟩) 1 1) (w2:=w1.alloc (.cells (zH r).toArray 116)) (by simp [go_sem,Act.eval,-Array.getD_eq_getD_getElem?,e96,zH]) rfl (hD.mk7 q8 q13 q15) (fun j u hj hLj h=>by simpa [hj] using h)⟩
         | 8,ho =>
          simp at ho
          subst ho
          have e95:ac.tmps.getD 95 undef=γ.v5:=hv 5 95 rfl (by kernel_rfl)
          have e97:ac.tmps.getD 97 undef=_:=hv 7 97 rfl (by kernel_rfl)
          have q13:L 13=false:=by
           cases h:L 13
           ·rfl
           ·exact absurd (hcl 13 _ rfl h 8 (by kernel_rfl)) (by rw [hL];decide)
          have q15:L 15=false:=by
           cases h:L 15
           ·rfl
           ·exact absurd (hcl 15 _ rfl h 13 (by kernel_rfl)) (by rw [q13];decide)
          have t5:L 5=true:=hed 5 (by kernel_rfl)
          have t7:L 7=true:=hed 7 (by kernel_rfl)
          have hW:=hD.bel q15
          obtain ⟨v',w',hr,ho,hg,hm⟩:=zEM Wr.heap.size 41 116 i61 _ 11 88 Tryz.underlying41 (zA H61).1 (zA H61).2.1 (zA H61).2.2.1 (zA H61).2.2.2 rfl (by decide) w1 γ.v5 q X1 (hD.o5 t5 hL) (some ⟨γ.S1,0,none⟩) 1 1 (zH r) (zJY (hD.o7 t7 hL)) (by unfold maxLen;omega) (by omega) hW.size (by simp)
          exact .inl ⟨rfl,zBj ⟨γ.v0,γ.v5,γ.S1,v',γ.v13⟩ (.tmp 95) (.tmp 97) 41 rfl γ.v5 (.slice (some ⟨γ.S1,0,none⟩) 1 1) v' (by simp [Act.eval,-Array.getD_eq_getD_getElem?,e95]) (by simp [Act.eval,-Array.getD_eq_getD_getElem?,e97]) (hr _) rfl (hD.app8 t5 hL q13 q15 ho hg) (fun j u hj hLj h=>by simpa [hj] using h)⟩
         | 9,ho =>
          simp at ho
          subst ho
          have e3:ac.tmps.getD 3 undef=.pointer (some ⟨w.heap.size+2,0,none⟩):=hout 3 (by decide +kernel)
          exact .inl ⟨rfl,zF γ _ (by simp [go_sem,Act.eval,-Array.getD_eq_getD_getElem?,e3]) rfl (hD.same (by decide)) (fun _ _ _ _ h=>h)⟩
         | 10,ho =>
          simp at ho
          subst ho
          have e99:ac.tmps.getD 99 undef=_:=hv 9 99 rfl (by kernel_rfl)
          have q12:L 12=false:=by
           cases h:L 12
           ·rfl
           ·exact absurd (hcl 12 _ rfl h 10 (by kernel_rfl)) (by rw [hL];decide)
          have q13:L 13=false:=by
           cases h:L 13
           ·rfl
           ·exact absurd (hcl 13 _ rfl h 12 (by kernel_rfl)) (by rw [q12];decide)
          have q15:L 15=false:=by
           cases h:L 15
           ·rfl
           ·exact absurd (hcl 15 _ rfl h 13 (by kernel_rfl)) (by rw [q13];decide)
          have hW:=hD.bel q15
          have c0:=zC hW (zA HR0)
          exact .inl ⟨rfl,zF γ _ (by simp [go_sem,Act.eval,-Array.getD_eq_getD_getElem?,e99,c0]) rfl (hD.same (by decide)) (fun _ _ _ _ h=>h)⟩
         | 11,ho =>
          simp at ho
          subst ho
          have e11:ac.tmps.getD 11 undef=.int .i64 (q:Int):=hout 11 (by decide +kernel)
          exact .inl ⟨rfl,zF γ _ (by simp [go_sem,Act.eval,-Array.getD_eq_getD_getElem?,e11]) rfl (hD.same (by decide)) (fun _ _ _ _ h=>h)⟩
         | 12,ho =>
          simp at ho
          subst ho
          have e100:ac.tmps.getD 100 undef=_:=hv 10 100 rfl (by kernel_rfl)
          have e101:ac.tmps.getD 101 undef=_:=hv 11 101 rfl (by kernel_rfl)
          rcases zA HAB with ⟨hz3,hz4,hz0,hz1,hz2⟩ | ⟨g,hz3,hz4,hz1,hz2⟩
          ·rw [hz3,hz1,hz2] at e100
           exact .inl ⟨rfl,zF γ _ (by simp [go_sem,Act.eval,-Array.getD_eq_getD_getElem?,e100,e101,hz0,hz1,hz2,hz3,hz4]) rfl (hD.same (by decide)) (fun _ _ _ _ h=>h)⟩
          ·have q0:(0:Int)≤(q:Int):=by omega
           have q1:(q:Int)≤(rows.length:Int):=by omega
           have q2:(q:Int)≤(cap:Int):=by omega
           have q3:(rows.length:Int)≤(cap:Int):=by omega
           rw [hz3] at e100
           by_cases hcq:cap=q
           all_goals exact .inl ⟨rfl,zF γ _ (by simp [go_sem,Act.eval,-Array.getD_eq_getD_getElem?,e100,e101,q0,q1,q2,q3,hz3,hz4,hcq]) rfl (hD.same (by decide)) (fun _ _ _ _ h=>h)⟩
         | 13,ho =>
          simp at ho
          subst ho
          have e98:ac.tmps.getD 98 undef=γ.v8:=hv 8 98 rfl (by kernel_rfl)
          have e102:ac.tmps.getD 102 undef=_:=hv 12 102 rfl (by kernel_rfl)
          have q15:L 15=false:=by
           cases h:L 15
           ·rfl
           ·exact absurd (hcl 15 _ rfl h 13 (by kernel_rfl)) (by rw [hL];decide)
          have t8:L 8=true:=hed 8 (by kernel_rfl)
          have t5:L 5=true:=hcl 8 _ rfl t8 5 (by kernel_rfl)
          have hW:=hD.bel q15
          obtain ⟨v',w',hr,ho,hg,hm⟩:=zEM Wr.heap.size 41 116 i61 _ 11 88 Tryz.underlying41 (zA H61).1 (zA H61).2.1 (zA H61).2.2.1 (zA H61).2.2.2 rfl (by decide) w1 γ.v8 (q+1) (X1++zH r) (hD.o8 t8 hL) _ (rows.length - q) (cap - q) X2 (zA HC2 w1 hW) (by unfold maxLen;omega) (by omega) hW.size (zA HA2)
          have ho:w'.ownsRow Wr.heap.size 116 11 v' (rows.length+1) (X1++zH r++X2):=by rw [show rows.length+1=q+1+(rows.length - q) by omega];exact ho
          exact .inl ⟨rfl,zBj ⟨γ.v0,γ.v5,γ.S1,γ.v8,v'⟩ (.tmp 98) (.tmp 102) 41 rfl γ.v8 (.slice Bv (rows.length - q) (cap - q)) v' (by simp [Act.eval,-Array.getD_eq_getD_getElem?,e98]) (by simp [Act.eval,-Array.getD_eq_getD_getElem?,e102]) (hr _) rfl (hD.app13 t5 t8 hL q15 ho hg) (fun j u hj hLj h=>by simpa [hj] using h)⟩
         | 14,ho =>
          simp at ho
          subst ho
          have e3:ac.tmps.getD 3 undef=.pointer (some ⟨w.heap.size+2,0,none⟩):=hout 3 (by decide +kernel)
          exact .inl ⟨rfl,zF γ _ (by simp [go_sem,Act.eval,-Array.getD_eq_getD_getElem?,e3]) rfl (hD.same (by decide)) (fun _ _ _ _ h=>h)⟩
         | 15,ho =>
          simp at ho
          subst ho
          have e104:ac.tmps.getD 104 undef=_:=hv 14 104 rfl (by kernel_rfl)
          have e103:ac.tmps.getD 103 undef=γ.v13:=hv 13 103 rfl (by kernel_rfl)
          have t13:L 13=true:=hed 13 (by kernel_rfl)
          have t8:L 8=true:=hcl 13 _ rfl t13 8 (by kernel_rfl)
          have t5:L 5=true:=hcl 8 _ rfl t8 5 (by kernel_rfl)
          have hW:=hD.bel hL
          have o13:=hD.o13 t13 hL
          obtain ⟨gv,cv,hgv,_,_⟩:=zAP o13 (by omega)
          exact .inl ⟨rfl,zDt γ 41 (.tmp 104) (.tmp 103) rfl (w.heap.size+2) 0 γ.v13 (by simp [Act.eval,-Array.getD_eq_getD_getElem?,e104]) (by simp [Act.eval,-Array.getD_eq_getD_getElem?,e103]) (by rw [hgv];rfl) size36 (zA HTH w1 hW) trivial (hD.put t5 t8 t13 hL) (fun _ _ _ _ h=>h)⟩
         | ix+16,ho=>simp at ho
        case hend =>
         intro γ vv L w10 hD hall hv
         obtain ⟨W',hb',ho',hw'⟩:=hD.fin (hall 15 (by decide))
         have hput:=(zA HPW9).put (rows':=zJi rows r) hb' (by rw [zIb,zJh,zA HQ,←(zA HX12).1,←(zA HX12).2];exact ho') (fun e=>by have:=congrArg List.length e;rw [zIb] at this;simp at this)
         have hxx:=zBk (g:=w.heap.size+2) (o:=0) (v:=γ.v13) (((zA HTBX).below (zA HB9)).below hb') h9
         rw [←hw'] at hput hxx
         have HPUT:=zB hput
         have HXX:=zB hxx
         clear hv hall hD h0 hput hxx hb' ho' hw'
         simp only [zu,List.getElem?_cons_zero,List.getElem?_cons_succ,Option.bind_some,List.length_cons,List.length_nil,Nat.reduceAdd]
         go_frame
         go_wp2
         go_roundw
         case rel=>exact ⟨i+1,γ.v13,by omega,by go_num,by rw [←Nat.add_assoc,zA HIN];exact zA HPUT,zA HXX⟩
         case measure=>simp [intOf];omega
    ·obtain rfl:i=t.rows.length:=by omega
     have di:decide ((t.rows.length:Int)<(t.rows.length:Int))=false:=decide_eq_false (by omega)
     have HS3:=zB hS
     clear hS hX
     go_wp2
     go_roundw
     case rel=>exact ⟨j+1,_,by omega,by go_num,by rw [zA HS1];exact zA HS3⟩
     case measure=>simp [intOf];omega
  ·obtain rfl:j=tabs.length:=by omega
   rw [zA HEND] at hS
   have hl:=zCN all all.length
   obtain ⟨Av,cv,rfl⟩:=zAV hS.own
   have x0:=hS.bx.cell 2 rfl 0 rfl
   have x1:=hS.bx.cell 2 rfl 1 rfl
   obtain ⟨L,hL⟩:∃ L,L=insTo all all.length:=⟨_,rfl⟩
   rw [←hL] at hl x0 hS
   have HLL:=zB hL
   clear hL
   have hb9:=zI (w.heap.size+1) (by omega) [.slice Av L.length cv,.slice G gens.length gcap] 0 wr hS.bel
   have hTH:=hS.bx.there 1 rfl 2 rfl
   have hO9:=hS.own.kept (zCc (w.heap.size+1) [.slice Av L.length cv,.slice G gens.length gcap] 0 wr) (.inr (zAI hS.own ⟨_,hS.bx 1 _ _ rfl⟩ (by decide)))
   have HG9:=zB (hS.bx.give 1 rfl [.slice Av L.length cv,.slice G gens.length gcap] rfl)
   have HTH:=zB hTH
   have HB9:=zB hb9
   have HO9:=zB hO9
   have HL9:=zB hl
   have kn:decide ((tabs.length:Int)<(tabs.length:Int))=false:=decide_eq_false (by omega)
   clear hS hb9 hTH hO9 hl
   go_wp2_with ((refine zG rfl 43 (.tmp 2) _ rfl (w.heap.size+1) 0 [.slice Av L.length cv,.slice G gens.length gcap] rfl rfl (by simp [Value.oneCell']) size38 (zA HTH) ?_;intro W9 hW9;have HGG:=zB (zA HG9);have HBB:=zB (zA HB9);have HOO:=zB (zA HO9);rw [←hW9] at HGG HBB HOO;clear hW9))
   have g0:=(zA HGG).cell 1 rfl 0 rfl
   have g1:=(zA HGG).cell 1 rfl 1 rfl
   refine bodyPost_ret (v:=.agg #[.slice Av L.length cv,.slice G gens.length gcap]) (by simp [results,Tryz.results31,go_sem,g0,g1]) rfl ⟨_,rfl,by rw [←zA HLL,←zA HL9];exact zA HOO,zA HBB⟩
end Go.Proofs.YtnbleebilmghcabGreat
