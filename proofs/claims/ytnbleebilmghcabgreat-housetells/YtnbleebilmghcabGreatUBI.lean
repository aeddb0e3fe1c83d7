/- package house: join. -/
import Derived.Test.YtnbleebilmghcabGreatUBH
import Derived.Test.YtnbleebilmghcabGreatUBF
import Derived.Test.YtnbleebilmghcabGreatUBC
set_option linter.all false
set_option maxRecDepth 8000
set_option maxHeartbeats 4000000
open Go.Value renaming int→I,slice→S,pointer→Ae,agg→Af,oneCell'→Ar
open Go.IntKind renaming i64→K
open Option renaming none→N,some→O
open Go.Obj renaming cells→Al
open Go.Operand renaming tmp→Am
open Go.Ending renaming returned→Ao
open Array renaming getD_eq_getD_getElem?→Ap
open Go.Act renaming eval→Aq
open Go.Proofs.Tryz renaming prog→Au
namespace Go.Proofs.YtnbleebilmghcabGreat
open Go Go.RowKit
attribute [local go_sem ↓] Go.wp_at_zero Go.wp_at_succ
structure Vg(W5:World)(p:Nat)(u0 u1 u2 u4:Value)(SA:Option Addr)(n sc:Nat)(cs:List Value)(s:GG)(γ:Nat×Nat×Nat)(L:Nat→Bool)(W:World):Prop where
 bel:L 8=false→L 12=false→Below W5.heap.size W5 W
 bs:L 7=true→L 8=false→W5.heap.size≤γ.1∧GJ γ.1 [(GI s,37)] W
 own:L 8=true→W.ownsRow (p+1) 37 4 (.slice (some ⟨γ.2.1,0,none⟩) (n+1) γ.2.2) (n+1) (cs++GI s)∧((Value.slice SA n sc).ownBlock=some γ.2.1∨W5.heap.size≤γ.2.1)
 tw:Tw (fun b=>b=p∨(Value.slice SA n sc).ownBlock=some b) W5 W
 bx:GJ p [(if L 12=true then [u0,u1,u2,.slice (some ⟨γ.2.1,0,none⟩) (n+1) γ.2.2,u4]else [u0,u1,u2,.slice SA n sc,u4],87)] W
section
variable {W5:World} {p:Nat} {u0 u1 u2 u4:Value} {SA:Option Addr} {n sc:Nat} {cs:List Value} {s:GG} {γ:Nat×Nat×Nat} {L:Nat→Bool} {W W1:World}
theorem Vg.start(h:GJ p [([u0,u1,u2,.slice SA n sc,u4],87)] W5):Vg W5 p u0 u1 u2 u4 SA n sc cs s (0,0,0) (fun _=>false) W5.drew :=
 ⟨fun _ _=>(Below.refl _ _).drew,fun h=>(by cases h),fun h=>(by cases h),Tw.of_below (Below.refl _ _).drew,h⟩
theorem Vg.same(h:Vg W5 p u0 u1 u2 u4 SA n sc cs s γ L W){i:Nat}(h1:i≠7)(h2:i≠8)(h3:i≠12):Vg W5 p u0 u1 u2 u4 SA n sc cs s γ (upd L i) W:=by
 have e:∀j,j≠i→upd L i j=L j:=fun j hj=>Fx hj;refine⟨?_,?_,?_,h.tw,?_⟩
 ·rw[e _ (BW h2),e _ (BW h3)];exact h.bel
 ·rw[e _ (BW h1),e _ (BW h2)];exact h.bs
 ·rw[e _ (BW h2)];exact h.own
 ·rw[e _ (BW h3)];exact h.bx
theorem Vg.make(h:Vg W5 p u0 u1 u2 u4 SA n sc cs s γ L W)(h8:L 8=false)(h12:L 12=false):Vg W5 p u0 u1 u2 u4 SA n sc cs s (W.heap.size,γ.2) (upd L 7) (W.alloc (Al (GI s).toArray 37)):=by
 have e:∀j,j≠7→upd L 7 j=L j:=fun j hj=>Fx hj;have hb:=GF W (Al (GI s).toArray 37);have hb0:=h.bel h8 h12;have hbx:=h.bx;rw[h12]at hbx;refine⟨fun _ _=>hb0.trans (hb.mono hb0.size),fun _ _=>⟨hb0.size,GJ.start W [(GI s,37)]⟩,fun h'=>?_,h.tw.trans (Tw.of_below (av:=fun b=>b=p∨(S SA n sc).ownBlock=O b) hb) (fun _ _ h=>h),?_⟩
 ·rw[e 8 (by decide),h8]at h';cases h'
 ·rw[e 12 (by decide),h12];exact hbx.below hb
theorem Vg.app(h:Vg W5 p u0 u1 u2 u4 SA n sc cs s γ L W)(h12:L 12=false)(hS:(S SA n sc).ownBlock≠O p){g c:Nat}(ho:W1.ownsRow (p+1) 37 4 (S (O ⟨g,0,N⟩) (n+1) c) (n+1) (cs++GI s))(hg:W.grownBy W1 (S SA n sc).ownBlock)(hw:(S SA n sc).ownBlock=O g∨W5.heap.size≤g):Vg W5 p u0 u1 u2 u4 SA n sc cs s (γ.1,g,c) (upd L 8) W1:=by
 have e:∀j,j≠8→upd L 8 j=L j:=fun j hj=>Fx hj;have hbx:=h.bx;rw[h12]at hbx;have ht:Tw (fun b=>(S SA n sc).ownBlock=O b) W W1:=Tw.of_grown hg (fun k hk=>hk);refine⟨fun h'=>?_,fun _ h'=>?_,fun _=>⟨ho,hw⟩,h.tw.trans ht (fun _ _ h=>.inr h),?_⟩
 ·rw[IF]at h';cases h'
 ·rw[IF]at h';cases h'
 ·rw[e 12 (by decide),h12];exact hbx.tw ht (fun k hk=>by simp at hk;subst hk;exact hS)
theorem Vg.put(h:Vg W5 p u0 u1 u2 u4 SA n sc cs s γ L W)(h8:L 8=true)(h12:L 12=false)(hp:p<W5.heap.size):Vg W5 p u0 u1 u2 u4 SA n sc cs s γ (upd L 12) (W.setCell ⟨p,3,N⟩ (S (O ⟨γ.2.1,0,N⟩) (n+1) γ.2.2)):=by
 have e:∀j,j≠12→upd L 12 j=L j:=fun j hj=>Fx hj;have hbx:=h.bx;rw[h12]at hbx;obtain⟨ho,hw⟩:=h.own h8;have hlo:=(ho.lt γ.2.1 R).1;refine⟨fun _ h'=>?_,fun _ h'=>?_,fun _=>⟨B7 ho (a:=⟨p,3,N⟩) (fun e=>by have e:=Bd e;simp only at e;omega) _,hw⟩,h.tw.sets (b:=p) (o:=3) (vs:=[S (O ⟨γ.2.1,0,N⟩) (n+1) γ.2.2]) (.inl (.inl R)),?_⟩
 ·rw[IF]at h';cases h'
 ·rw[e 8 (by decide),h8]at h';cases h'
 ·rw[IF];have:=hbx.part 0 R 3 [S (O ⟨γ.2.1,0,N⟩) (n+1) γ.2.2] (by simp);rw[Ay]at this;exact this
end
theorem jz:(Tryz.prog.info? 26).map (·.size)=some 1:=by kernel_rfl
theorem kW:(Tryz.prog.info? 35).map (·.size)=some 1:=by kernel_rfl
structure kL(p:Nat)(u0 u1 u2 u4:Value)(SA:Option Addr)(n sc:Nat)(cs:List Value)(x:GG)(w w':World)(A:Option Addr)(c:Nat)(g cg:Nat):Prop where
 bx:GJ p [([u0,u1,u2,.slice (some ⟨g,0,none⟩) (n+1) cg,u4],87)] w'
 own:w'.ownsRow (p+1) 37 4 (.slice (some ⟨g,0,none⟩) (n+1) cg) (n+1) (cs++GI ⟨x.m,x.al,x.no,A,x.len,c,x.a⟩)
 acts:ID (fun W=>GZ W A x.len x.a) (fun b=>b<w.heap.size∨b=g) w'
 tw:Tw (fun b=>b=p∨(Value.slice SA n sc).ownBlock=some b) w w'
 new:(Value.slice SA n sc).ownBlock=some g∨w.heap.size≤g
theorem gJ(p:Nat)(u0 u1 u4:Value)(M:Option Addr)(mc:Nat)(mods:List Ho)(SA:Option Addr)(n sc:Nat)(cs:List Value)(x:GG)(w:World)(hB:GJ p [([u0,u1,S M mods.length mc,S SA n sc,u4],87)] w)(ho:w.ownsRow (p+1) 37 4 (S SA n sc) n cs)(hM:L7 GO 3 w M mods)(hA:GZ w x.A x.len x.a)(hml:mods.length≤6)(hn:n≤12)(he:Ke mods n x≠0):
  Calls Au 77 #[Ae (O ⟨p,0,N⟩),Rr x] w fun e w'=>e=Ao (Af #[I K (Ke mods n x),I K 0,I K 0,S N 0 0,I K 0])∧Below w.heap.size w w':=by
 have hRF:=fun W h (hb:Below w.heap.size w W)=>Pg p u0 u1 u4 M mc mods SA n sc x W h (hM.below hb) (hA.below hb) hml hn;unfold Rr Gz at hRF;obtain⟨err,herr⟩:∃err,err=Ke mods n x:=⟨_,rfl⟩;rw[←herr]at hRF he⊢;have hne:(err == 0)=false:=by simpa using he
 clear herr hA hM ho;obtain⟨W0,hW0,hbx,hX0⟩:=Gs w [([I K x.m,I K x.al,I K x.no,S x.A x.len x.cap],37),([I K 0,I K 0,I K 0,S N 0 0,I K 0],64)];have HW0:Hid ((w.alloc (Al #[I K x.m,I K x.al,I K x.no,S x.A x.len x.cap] 37)).alloc (Al #[I K 0,I K 0,I K 0,S N 0 0,I K 0] 64)=W0):=An hW0;clear hW0;have hp:p<w.heap.size:=hB.lt (k:=0) R;have hP0:=hB.below hbx;have HL0:=An hbx;obtain⟨y0,y1,y2,y3⟩:=hX0.g4 R;clear hbx hB;unfold Rr Gz;go_enter Tryz.func77,Tryz.ntmps77
 go_upto_region 1 with fail
 rw[AN HW0];go_wp2_with fail
 go_at_call 116;refine(hRF W0 hP0 (AN HL0)).mono ?_;rintro e w1⟨rfl,hb1⟩;have HL1:=((AN HL0).trans (hb1.mono (AN HL0).size));have HX1:=(hX0.below hb1);have HP1:=An (hP0.below hb1);clear y0 y1 y2 y3 hP0 hRF;clear hb1;go_wp2_with((refine As R 64 (Am 4) (Am 12) R (w.heap.size+1) 0 [I K err,I K 0,I K 0,S N 0 0,I K 0] R R (by simp[Ar]) JT (HX1.there 1 R 5 R) ?_;intro W2 hW2;have HX2:=(HX1.give 1 R [I K err,I K 0,I K 0,S N 0 0,I K 0] R);have HE:=(Bv (B:=w.heap.size) (w.heap.size+1) (by omega) [I K err,I K 0,I K 0,S N 0 0,I K 0] 0 w1 HL1);rw[←hW2]at HX2 HE;clear hW2))
 obtain⟨r0,r1,r2,r3,r4⟩:=HX2.f5 1 R;refine AG (by simp[results,Tryz.results77,go_sem,r0,r1,r2,r3,r4]<;>rfl) R ⟨rfl,HE⟩
theorem gI(p:Nat)(u0 u1 u4:Value)(M:Option Addr)(mc:Nat)(mods:List Ho)(SA:Option Addr)(n sc:Nat)(cs:List Value)(x:GG)(w:World)(hB:GJ p [([u0,u1,S M mods.length mc,S SA n sc,u4],87)] w)(ho:w.ownsRow (p+1) 37 4 (S SA n sc) n cs)(hM:L7 GO 3 w M mods)(hA:GZ w x.A x.len x.a)(hml:mods.length≤6)(hn:n≤12)(he:Ke mods n x=0):
  Calls Au 77 #[Ae (O ⟨p,0,N⟩),Rr x] w fun e w'=>∃A c g cg,e=Ao (Af #[I K 0,I K 0,I K 0,S N 0 0,I K ((n+1:Nat):Int)])∧kL p u0 u1 (S M mods.length mc) u4 SA n sc cs x w w' A c g cg:=by
 have hl8:x.len≤8:=((Ie _ _ _ _ _).1 (Ls he).1).2.1;have hCA:=fun W (hb:Below w.heap.size w W)=>VC x.A x.cap x.len x.a W (by omega) (hA.below hb);have hRF:=fun W h (hb:Below w.heap.size w W)=>Pg p u0 u1 u4 M mc mods SA n sc x W h (hM.below hb) (hA.below hb) hml hn;unfold Rr Gz at hRF;rw[he]at hRF;clear hA hM he;obtain⟨W0,hW0,hbx,hX0⟩:=Gs w [([I K x.m,I K x.al,I K x.no,S x.A x.len x.cap],37),([I K 0,I K 0,I K 0,S N 0 0,I K 0],64)];have HW0:Hid ((w.alloc (Al #[I K x.m,I K x.al,I K x.no,S x.A x.len x.cap] 37)).alloc (Al #[I K 0,I K 0,I K 0,S N 0 0,I K 0] 64)=W0):=An hW0;clear hW0;have hp:p<w.heap.size:=hB.lt (k:=0) R;have hP0:=hB.below hbx;have HL0:=An hbx;obtain⟨y0,y1,y2,y3⟩:=hX0.g4 R;clear hbx hB;unfold Rr Gz;go_enter Tryz.func77,Tryz.ntmps77
 go_upto_region 1 with fail
 rw[AN HW0];go_wp2_with fail
 go_at_call 116;refine(hRF W0 hP0 (AN HL0)).mono ?_;rintro e w1⟨rfl,hb1⟩;have HL1:=An ((AN HL0).trans (hb1.mono (AN HL0).size));have HX1:=(hX0.below hb1);have HP1:=(hP0.below hb1);clear y0 y1 y2 y3 hP0 hRF hb1;have y3:=HX1.cell 0 R 3 R;rw[Ay]at y3;go_wp2_with fail
 go_at_call 117;refine(hCA w1 (AN HL1)).mono ?_;rintro e w2⟨A2,c2,rfl,ho2,hb2⟩;have HL2:=((AN HL1).trans (hb2.mono (AN HL1).size));have HX2:=(HX1.below hb2);have HP2:=(HP1.below hb2);have hsz1:w.heap.size+2≤w1.heap.size:=HX1.sz (by simp);have HS2:=hb2.size;clear y3 hb2 HX1 HP1 hCA;obtain⟨i37,hi37,hz37,hs37,hb37⟩:=BC b8;go_wp2_with((refine FU R 35 (Am 16) (Am 15) R w.heap.size 3 (S A2 x.len c2) R R R kW (Hj (HX2.there 0 R 4 R) 3 1 (by omega)) ?_;intro W3 hW3;have hX3:=HX2.part 0 R 3 [S A2 x.len c2] (by simp);rw[Ay]at hX3;have HX3:=(show GJ w.heap.size [([I K x.m,I K x.al,I K x.no,S A2 x.len c2],37),([I K 0,I K 0,I K 0,S N 0 0,I K 0],64)] W3 by rw[hW3];exact hX3);have HT3:=(show Below w.heap.size w W3 by rw[hW3];exact HL2.setCell (p:=⟨w.heap.size,3,N⟩) Fu _);have HP3:=(show GJ p [([u0,u1,S M mods.length mc,S SA n sc,u4],87)] W3 by rw[hW3];exact HP2.turn (cb:=w.heap.size) (o:=3) (vs:=[S A2 x.len c2]) (.inr (by simp only[AJ,AK];omega)));have HO3:=(show W3.ownsRow w1.heap.size 95 4 (S A2 x.len c2) x.len (It JY (R8 x.len x.a)) by rw[hW3];exact Cs ho2 (a:=⟨w.heap.size,3,N⟩) (by simp only;omega) _);have HS3:=An (show w1.heap.size≤W3.heap.size by rw[hW3];simpa[World.setCell]using HS2);clear hW3 hX3))
 clear HX2 HP2 ho2 HL2 HS2;have hlo3:w.heap.size≤W3.heap.size:=HT3.size;have hSp:(S SA n sc).ownBlock≠O p:=fun e=>by have:=(ho.lt p e).1;omega
 have hSo:W3.ownsRow (p+1) 37 4 (S SA n sc) n cs:=FT ho HT3;have h0:Vg W3 p u0 u1 (S M mods.length mc) u4 SA n sc cs ⟨x.m,x.al,x.no,A2,x.len,c2,x.a⟩ (0,0,0) (fun _=>false) W3.drew:=Vg.start HP3;refine FW (fun(γ:Nat×Nat×Nat)=>[Ae (O ⟨p,0,N⟩),Ae (O ⟨p,0,N⟩),Ae (O ⟨p,0,N⟩),Ae (O ⟨p,0,N⟩),Ae (O ⟨p,3,N⟩),S SA n sc,Af #[I K x.m,I K x.al,I K x.no,S A2 x.len c2],S (O ⟨γ.1,0,N⟩) 1 1,S (O ⟨γ.2.1,0,N⟩) (n+1) γ.2.2,Ae (O ⟨p,0,N⟩),Ae (O ⟨p,0,N⟩),Ae (O ⟨p,3,N⟩),undef]) (fun(γ:Nat×Nat×Nat) L W=>Vg W3 p u0 u1 (S M mods.length mc) u4 SA n sc cs ⟨x.m,x.al,x.no,A2,x.len,c2,x.a⟩ γ L W) ((0,0,0)) (by kernel_rfl) (by kernel_rfl) (by kernel_rfl) (by kernel_rfl) h0 ?hstep ?hend
 case hstep =>
  intro F γ hout hkn ix o ho L w1 hD hL hed hcl;simp only[Hu,G9,Br,Bx]at hkn;have e0:F.tmps.getD 0 undef=Ae (O ⟨p,0,N⟩):=hout 0 (by decide +kernel);have e3:F.tmps.getD 3 undef=Ae (O ⟨w.heap.size,0,N⟩):=hout 3 (by decide +kernel)
  match ix,ho with
  |0,ho|1,ho|2,ho|3,ho|4,ho|9,ho|10,ho|11,ho =>
   simp at ho;subst ho;exact .inl ⟨rfl,FB γ _ (by simp[go_sem,Aq,-Ap,hkn,e0]) R (hD.same (by decide) (by decide) (by decide)) (fun _ _ _=>rfl)⟩
  |5,ho =>
   simp at ho;subst ho;have q8:L 8=false:=FA hcl hL 13 8 (by kernel_rfl);have q12:L 12=false:=FA hcl hL 13 12 (by kernel_rfl);have bb:=hD.bx;rw[q12]at bb;have c3:=bb.cell 0 R 3 R;rw[Ay]at c3;exact .inl ⟨rfl,FB γ _ (by simp[go_sem,Aq,-Ap,hkn,c3]) R (hD.same (by decide) (by decide) (by decide)) (fun _ _ _=>rfl)⟩
  |6,ho =>
   simp at ho;subst ho;have q7:L 7=false:=FA hcl hL 13 7 (by kernel_rfl);have q8:L 8=false:=FA hcl hL 13 8 (by kernel_rfl);have q12:L 12=false:=FA hcl hL 13 12 (by kernel_rfl);have bb:=HX3.below (hD.bel q8 q12);obtain⟨d0,d1,d2,d3⟩:=bb.g4 R;exact .inl ⟨rfl,FB γ _ (by simp[go_sem,Aq,-Ap,e3,d0,d1,d2,d3]) R (hD.same (by decide) (by decide) (by decide)) (fun _ _ _=>rfl)⟩
  |7,ho =>
   simp at ho;subst ho;have q8:L 8=false:=FA hcl hL 13 8 (by kernel_rfl);have q12:L 12=false:=FA hcl hL 13 12 (by kernel_rfl);exact .inl ⟨rfl,J' (w1.heap.size,γ.2) (S (O ⟨w1.heap.size,0,N⟩) 1 1) (w2:=w1.alloc (Al (GI ⟨x.m,x.al,x.no,A2,x.len,c2,x.a⟩).toArray 37)) (by simp[go_sem,Aq,-Ap,hkn,GI]) R (hD.make q8 q12) (I5 hcl hL 13 [8] (by kernel_rfl) (fun j h1 h2=>by match j with|0|1|2|3|4|5|6|9|10|11|12=>rfl|7=>exact absurd R h1|8=>simp at h2|j+13=>rfl))⟩
  |8,ho =>
   simp at ho;subst ho;have q12:L 12=false:=FA hcl hL 13 12 (by kernel_rfl);have q7:L 7=true:=hed 7 (by kernel_rfl);obtain⟨hlo,hbs⟩:=hD.bs q7 hL;have hbl:=hD.bel hL q12;have hnews:∀j u,(GI ⟨x.m,x.al,x.no,A2,x.len,c2,x.a⟩)[j]?=O u→w1.cell? ((⟨γ.1,0,N⟩:Addr).add j)=O u:=fun j u hj=>(by have:=hbs.cell 0 R j hj;rw[Ay]at this;rw[CT,AT];exact this);obtain⟨v',w2,hr,ho2,hg2,_,hw2⟩:=DZ (P:=Au) w1 (p+1) 26 26 37 i37 _ 4 48 Tryz.underlying26 hi37 hz37 hs37 hb37 R (by decide) (S SA n sc) n cs (FT hSo hbl) ⟨γ.1,0,N⟩ 1 1 (GI ⟨x.m,x.al,x.no,A2,x.len,c2,x.a⟩) R hnews (MF _) (by unfold maxLen;omega) (by omega) (by have:=hbl.size;omega);obtain⟨g,cg,rfl,_,_⟩:=Gi ho2 (by omega);exact .inl ⟨rfl,K2 (γ.1,g,cg) (Am 22) (Am 24) 26 R (S SA n sc) (S (O ⟨γ.1,0,N⟩) 1 1) (S (O ⟨g,0,N⟩) (n+1) cg) (by simp[Aq,-Ap,hkn]) (by simp[Aq,-Ap,hkn]) hr R (hD.app q12 hSp ho2 hg2 (hw2.imp (fun h=>h.symm) (fun h=>by have:=Bd h;simp only at this;have:=hbl.size;omega))) (fun j hj _=>by match j with|0|1|2|3|4|5|6|7|9|10|11|12=>rfl|8=>exact absurd R hj|j+13=>rfl)⟩
  |12,ho =>
   simp at ho;subst ho;have q8:L 8=true:=hed 8 (by kernel_rfl);have hbx:=hD.bx;rw[hL]at hbx;exact .inl ⟨rfl,K0 γ 26 (Am 28) (Am 25) R p 3 (S (O ⟨γ.2.1,0,N⟩) (n+1) γ.2.2) (by simp[Aq,-Ap,hkn]) (by simp[Aq,-Ap,hkn]) R jz (Hj (hbx.there 0 R 5 R) 3 1 (by omega)) R (hD.put q8 hL (by omega)) (fun _ _ _=>rfl)⟩
  |ix+13,ho=>simp at ho
 case hend =>
  intro γ L w9 hD hall;have a7:=hall 7 (by decide);have a8:=hall 8 (by decide);have a12:=hall 12 (by decide);have hbx:=hD.bx;rw[a12,AF R]at hbx;obtain⟨ho9,hw9⟩:=hD.own a8;have htw:=hD.tw;obtain⟨gx,g,cg⟩:=γ;dsimp only at hbx ho9 hw9;have c3:=hbx.cell 0 R 3 R;rw[Ay]at c3;have hnx:∀k,k<2→¬ (w.heap.size+k=p∨(S SA n sc).ownBlock=O (w.heap.size+k)):=fun k hk h=>by
   rcases h with h|h
   ·omega
   ·have:=(ho.lt _ h).2;omega
  have HX9:=(HX3.tw htw hnx);have HT9:=((Tw.of_below (av:=fun b=>b=p∨(S SA n sc).ownBlock=O b) HT3).trans htw (fun _ _ h=>h));have hAb:∀b,(S A2 x.len c2).ownBlock=O b→w.heap.size+2≤b∧b<W3.heap.size:=fun b hb=>by
   have:=HO3.lt b hb;exact⟨by omega,this.2⟩
  have hgA:∀b,(S A2 x.len c2).ownBlock=O b→b≠g:=fun b hb e=>by
   subst e;rcases hw9 with h|h
   ·have:=(ho.lt _ h).2;have:=hAb _ hb;omega
   ·have:=hAb _ hb;omega
  have hO9:w9.ownsRow w1.heap.size 95 4 (S A2 x.len c2) x.len (It JY (R8 x.len x.a)):=Iu HO3 htw (fun b hb h=>by
   rcases h with h|h
   ·have:=hAb b hb;omega
   ·have:=(ho.lt _ h).2;have:=hAb b hb;omega)
  have HF9:=(ID.own (av:=fun b=>b<w.heap.size+2∨b=g) hO9 (fun b hb h=>by
   rcases h with h|h
   ·have:=hAb b hb;omega
   ·exact hgA b hb h))
  have HB9:=hbx;have HGL:Hid (p+1≤g∧g<w9.heap.size):=An (ho9.lt g R);clear hall hD h0 a7 a8 a12 hbx htw hAb hgA hO9;simp only[GN,AI,AH,Ba,AJ,AK,Nat.reduceAdd,Bf,Be];go_frame;go_wp2_with((refine As R 64 (Am 4) (Am 35) R (w.heap.size+1) 0 [I K 0,I K 0,I K 0,S N 0 0,I K ((n+1:Nat):Int)] R R (by simp[Ar]) JT (HX9.there 1 R 5 R) ?_;intro W10 hW10;have HX10:=(HX9.give 1 R [I K 0,I K 0,I K 0,S N 0 0,I K ((n+1:Nat):Int)] R);have HT10:=(HT9.sets (b:=w.heap.size+1) (o:=0) (vs:=[I K 0,I K 0,I K 0,S N 0 0,I K ((n+1:Nat):Int)]) (.inr (by omega)));have HB10:=(HB9.turn (cb:=w.heap.size+1) (o:=0) (vs:=[I K 0,I K 0,I K 0,S N 0 0,I K ((n+1:Nat):Int)]) (.inr (by simp only[AJ,AK];omega)));have HV10:=((Tw.refl (fun b=>b=w.heap.size+1) w9).sets (b:=w.heap.size+1) (o:=0) (vs:=[I K 0,I K 0,I K 0,S N 0 0,I K ((n+1:Nat):Int)]) (.inl R));rw[←hW10]at HX10 HT10 HB10 HV10;clear hW10))
  obtain⟨r0,r1,r2,r3,r4⟩:=HX10.f5 1 R;have hg9:g≠w.heap.size+1:=fun e=>by
   rcases hw9 with h|h
   ·have:=(ho.lt _ h).2;omega
   ·have:=HX3.sz (by simp);simp at this;omega
  refine AG (by simp[results,Tryz.results77,go_sem,r0,r1,r2,r3,r4]<;>rfl) R ⟨A2,c2,g,cg,rfl,HB10,Iu ho9 HV10 (fun b hb h=>by have hb:=Bd hb;simp only at hb;omega),?_,HT10,hw9.imp id (fun h=>by omega)⟩
  refine ID.imp ((ID.keep (ID.less HF9 (av':=fun b=>b<w.heap.size+2∨b=g) (fun b _ h=>h)) (HV10.mono (fun b _ h=>.inl (by omega)))).less (fun b _ h=>h.imp (fun h=>by omega) id)) (fun W hW=>eL (L7.own Oy (c:=c2) (by rw[Rg];exact hW)))
end Go.Proofs.YtnbleebilmghcabGreat
