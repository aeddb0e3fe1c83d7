/- Ho8, Ho9, Ho11 -/
import Derived.Test.YtnbleebilmghcabGreatUBH
import Derived.Test.YtnbleebilmghcabGreatUBG
import Derived.Test.YtnbleebilmghcabGreatUBI
import Derived.Test.YtnbleebilmghcabGreatUBJ
set_option linter.all false
set_option maxRecDepth 8000
set_option maxHeartbeats 4000000
open Go.Value renaming int→I,slice→S,pointer→Ae,agg→Af,tuple→Ai,oneCell'→Ar
open Go.IntKind renaming i64→K
open Option renaming none→N,some→O
open Go.Obj renaming cells→Al
open Go.Operand renaming tmp→Am
open Go.Ending renaming returned→Ao
open Array renaming getD_eq_getD_getElem?→Ap
open Go.Act renaming eval→Aq
open Go.Proofs.Tryz renaming prog→Au
namespace Go.Proofs.YtnbleebilmghcabGreat
open Go Go.RowKit
attribute [local go_sem ↓] Go.wp_at_zero Go.wp_at_succ
theorem gS(p:Nat)(T:Option Addr)(tc:Nat)(G:Option Addr)(gc:Nat)(u2 u4:Value)(SA:Option Addr)(n sc:Nat)(S:Nat→GG)(X:Wd)(d:LE)(w:World)(hB:GJ p [([.slice T (FG X).length tc,.slice G X.gens.length gc,u2,.slice SA n sc,u4],87)] w)(hS:Ir w T G (FG X) X)(hL:Iw w SA n S)(hn:n≤12)(hsw:∀ j,j<n→(sw (S j)).1=0)(hk:d.k=6):
  Calls Au 42 #[Ae (O ⟨p,0,N⟩),Pv d] w fun e w'=>e=Ao (Af #[I K (GX S n 0 X).1.1,I K 0,I K 0,.slice N 0 0,I K (if(GX S n 0 X).1.1=0 then(((IM (He S) n).length:Nat):Int)else 0)])∧Ro p u2 (.slice SA n sc) u4 (GX S n 0 X).1.1 (GX S n 0 X).2 w w':=by
 have hC:=fun W h (hb:Below w.heap.size w W)=>Z7 p T tc G gc u2 u4 SA n sc S X W h (hS.below hb) (hL.below hb) hn hsw;obtain⟨nn,hnn⟩:∃nn,nn=(if(GX S n 0 X).1.1=0 then(((IM (He S) n).length:Nat):Int)else 0):=⟨_,rfl⟩;rw[←hnn]at hC⊢;obtain⟨e1,he1⟩:∃e1,e1=(GX S n 0 X).1.1:=⟨_,rfl⟩;obtain⟨Y,hY⟩:∃Y,Y=(GX S n 0 X).2:=⟨_,rfl⟩;rw[←he1,←hY]at hC⊢;clear hS hL hsw hn hnn he1 hY;obtain⟨W0,hW0,hbx,hX0⟩:=Gs w [([I K d.k,I K d.has,I K d.p,I K d.n,I K d.i,I K d.g,I K d.s.m,I K d.s.al,I K d.s.no,.slice d.s.A d.s.len d.s.cap,I K d.fa,I K d.fn],89),([I K 0,I K 0,I K 0,.slice N 0 0,I K 0],64)];have HW0:Hid ((w.alloc (Al #[I K d.k,I K d.has,I K d.p,I K d.n,I K d.i,I K d.g,I K d.s.m,I K d.s.al,I K d.s.no,.slice d.s.A d.s.len d.s.cap,I K d.fa,I K d.fn] 89)).alloc (Al #[I K 0,I K 0,I K 0,.slice N 0 0,I K 0] 64)=W0):=An hW0;clear hW0;have hP0:=hB.below hbx;have hp:p<w.heap.size:=hB.lt (k:=0) R;have hsz:w.heap.size+2≤W0.heap.size:=hX0.sz (by simp);have z0:=hX0.cell 0 R 0 R;rw[Ay]at z0;rw[hk]at z0;clear hk;unfold Pv;go_enter Tryz.func42,Tryz.ntmps42
 go_upto_region 1 with fail
 rw[AN HW0];go_wp2_with(first
  |(go_at_call 78;refine(hC W0 hP0 hbx).mono ?_;rintro e w1⟨rfl,hbc⟩;have HX1:=(X6 hbc hX0 hp))
  |(refine As R 64 (Am 4) (Am 72) R (w.heap.size+1) 0 [I K e1,I K 0,I K 0,.slice N 0 0,I K nn] R R (by simp[Ar]) JT (HX1.there 1 R 5 R) ?_;intro W2 hW2;have HX2:=(HX1.give 1 R [I K e1,I K 0,I K 0,.slice N 0 0,I K nn] R);rw[←hW2]at HX2;skip;have HW2:=An hW2;clear hW2))
 have hE:=X5 hbc hbx hB (c:=w.heap.size+1) (vs:=[I K e1,I K 0,I K 0,.slice N 0 0,I K nn]) (o:=0) (by omega) (by omega);rw[←AN HW2]at hE;obtain⟨r0,r1,r2,r3,r4⟩:=HX2.f5 1 R;refine AG (by simp[results,Tryz.results42,go_sem,r0,r1,r2,r3,r4]<;>rfl) R ⟨rfl,hE⟩
theorem jZ(p:Nat)(T:Option Addr)(tc:Nat)(G:Option Addr)(gc:Nat)(u2 u3 u4:Value)(X:Wd)(d:LE)(w:World)(hB:GJ p [([S T (FG X).length tc,S G X.gens.length gc,u2,u3,u4],87)] w)(hS:Ir w T G (FG X) X)(hk:d.k=7)(h1:FV d.fa=true)(h2:FV d.fn=true)(h3:F5 d.p=true):
  Calls Au 42 #[Ae (O ⟨p,0,N⟩),Pv d] w fun e w'=>∃A c,e=Ao (Af #[I K 0,I K 0,I K 0,S A (GV X d.fa d.fn X.rows.length).length c,I K (Jh X d.p (GV X d.fa d.fn X.rows.length) 0)])∧w'.ownsRow w.heap.size 61 2 (S A (GV X d.fa d.fn X.rows.length).length c) (GV X d.fa d.fn X.rows.length).length (Fz (GV X d.fa d.fn X.rows.length))∧Below w.heap.size w w':=by
 have hC:=fun W h (hb:Below w.heap.size w W)=>jj p T tc G gc u2 u3 u4 X d.fa d.fn d.p W h (hS.below hb) h1 h2 h3;generalize Jh X d.p (GV X d.fa d.fn X.rows.length) 0=sm at *;generalize Fz (GV X d.fa d.fn X.rows.length)=cs at *;generalize (GV X d.fa d.fn X.rows.length).length=n at *;clear hS h1 h2 h3;obtain⟨W0,hW0,hbx,hX0⟩:=Gs w [([I K d.k,I K d.has,I K d.p,I K d.n,I K d.i,I K d.g,I K d.s.m,I K d.s.al,I K d.s.no,S d.s.A d.s.len d.s.cap,I K d.fa,I K d.fn],89),([I K 0,I K 0,I K 0,S N 0 0,I K 0],64)];have HW0:Hid ((w.alloc (Al #[I K d.k,I K d.has,I K d.p,I K d.n,I K d.i,I K d.g,I K d.s.m,I K d.s.al,I K d.s.no,S d.s.A d.s.len d.s.cap,I K d.fa,I K d.fn] 89)).alloc (Al #[I K 0,I K 0,I K 0,S N 0 0,I K 0] 64)=W0):=An hW0;clear hW0;have hP0:=hB.below hbx;have hp:p<w.heap.size:=hB.lt (k:=0) R;have HL0:=An hbx;have hsz:w.heap.size+2≤W0.heap.size:=hX0.sz (by simp);have z0:=hX0.cell 0 R 0 R;have z2:=hX0.cell 0 R 2 R;have z10:=hX0.cell 0 R 10 R;have z11:=hX0.cell 0 R 11 R;rw[Ay]at z0 z2 z10 z11;rw[hk]at z0;clear hk;clear hbx;unfold Pv;go_enter Tryz.func42,Tryz.ntmps42
 go_upto_region 1 with fail
 rw[AN HW0];go_wp2_with(first
  |(go_at_call 79;refine(hC W0 hP0 (AN HL0)).mono ?_;rintro e w1⟨A1,c1,rfl,ho1,hb1⟩;have HX1:=(hX0.below hb1);have HL1:=((AN HL0).trans (hb1.mono (AN HL0).size));clear hb1)
  |(refine As R 64 (Am 4) (Am 80) R (w.heap.size+1) 0 [I K 0,I K 0,I K 0,S A1 n c1,I K sm] R R (by simp[Ar]) JT (HX1.there 1 R 5 R) ?_;intro W2 hW2;have HX2:=(HX1.give 1 R [I K 0,I K 0,I K 0,S A1 n c1,I K sm] R);rw[←hW2]at HX2;skip;have HW2:=An hW2;clear hW2))
 have hE:=Bv (B:=w.heap.size) (w.heap.size+1) (by omega) [I K 0,I K 0,I K 0,S A1 n c1,I K sm] 0 w1 HL1;have hO:=Iu ho1 ((Tw.refl (fun b=>b=w.heap.size+1) w1).sets (b:=w.heap.size+1) (o:=0) (vs:=[I K 0,I K 0,I K 0,S A1 n c1,I K sm]) (.inl R)) (fun g hg hb=>by have:=(ho1.lt g hg).1;omega);rw[←AN HW2]at hE hO;obtain⟨r0,r1,r2,r3,r4⟩:=HX2.f5 1 R;refine AG (by simp[results,Tryz.results42,go_sem,r0,r1,r2,r3,r4]<;>rfl) R ⟨A1,c1,rfl,Oe hO (by omega),hE⟩
theorem Zk(p:Nat)(T:Option Addr)(tc:Nat)(G:Option Addr)(gc:Nat)(u2 u3 u4:Value)(X:Wd)(fa fn part:Int)(w:World)(hB:GJ p [([S T (FG X).length tc,S G X.gens.length gc,u2,u3,u4],87)] w)(hS:Ir w T G (FG X) X)(h:(FV fa && FV fn && F5 part)=false):
  Calls Au 79 #[Ae (O ⟨p,0,N⟩),Af #[I K fa,I K fn],I K part] w fun e w'=>e=Ao (Af #[I K 3,I K 0,I K 0,S N 0 0,I K 0])∧Below w.heap.size w w':=by
 cases h1:FV fa
 ·exact fE p T tc G gc u2 u3 u4 X fa fn part w hB hS h1
 ·cases h2:FV fn
  ·exact fD p T tc G gc u2 u3 u4 X fa fn part w hB hS h1 h2
  ·cases h3:F5 part
   ·exact fC p T tc G gc u2 u3 u4 X fa fn part w hB hS h1 h2 h3
   ·rw[h1,h2,h3]at h;cases h
theorem ZU(p:Nat)(T:Option Addr)(tc:Nat)(G:Option Addr)(gc:Nat)(u2 u3 u4:Value)(X:Wd)(d:LE)(w:World)(hB:GJ p [([S T (FG X).length tc,S G X.gens.length gc,u2,u3,u4],87)] w)(hS:Ir w T G (FG X) X)(hk:d.k=7)(h:(FV d.fa && FV d.fn && F5 d.p)=false):
  Calls Au 42 #[Ae (O ⟨p,0,N⟩),Pv d] w fun e w'=>e=Ao (Af #[I K 3,I K 0,I K 0,S N 0 0,I K 0])∧Below w.heap.size w w':=by
 have hC:=fun W h0 (hb:Below w.heap.size w W)=>Zk p T tc G gc u2 u3 u4 X d.fa d.fn d.p W h0 (hS.below hb) h;clear hS h;obtain⟨W0,hW0,hbx,hX0⟩:=Gs w [([I K d.k,I K d.has,I K d.p,I K d.n,I K d.i,I K d.g,I K d.s.m,I K d.s.al,I K d.s.no,S d.s.A d.s.len d.s.cap,I K d.fa,I K d.fn],89),([I K 0,I K 0,I K 0,S N 0 0,I K 0],64)];have HW0:Hid ((w.alloc (Al #[I K d.k,I K d.has,I K d.p,I K d.n,I K d.i,I K d.g,I K d.s.m,I K d.s.al,I K d.s.no,S d.s.A d.s.len d.s.cap,I K d.fa,I K d.fn] 89)).alloc (Al #[I K 0,I K 0,I K 0,S N 0 0,I K 0] 64)=W0):=An hW0;clear hW0;have hP0:=hB.below hbx;have hp:p<w.heap.size:=hB.lt (k:=0) R;have HL0:=An hbx;have hsz:w.heap.size+2≤W0.heap.size:=hX0.sz (by simp);have z0:=hX0.cell 0 R 0 R;have z2:=hX0.cell 0 R 2 R;have z10:=hX0.cell 0 R 10 R;have z11:=hX0.cell 0 R 11 R;rw[Ay]at z0 z2 z10 z11;rw[hk]at z0;clear hk;clear hbx;unfold Pv;go_enter Tryz.func42,Tryz.ntmps42
 go_upto_region 1 with fail
 rw[AN HW0];go_wp2_with(first
  |(go_at_call 79;refine(hC W0 hP0 (AN HL0)).mono ?_;rintro e w1⟨rfl,hb1⟩;have HX1:=(hX0.below hb1);have HL1:=((AN HL0).trans (hb1.mono (AN HL0).size));clear hb1)
  |(refine As R 64 (Am 4) (Am 80) R (w.heap.size+1) 0 [I K 3,I K 0,I K 0,S N 0 0,I K 0] R R (by simp[Ar]) JT (HX1.there 1 R 5 R) ?_;intro W2 hW2;have HX2:=(HX1.give 1 R [I K 3,I K 0,I K 0,S N 0 0,I K 0] R);rw[←hW2]at HX2;skip;have HW2:=An hW2;clear hW2))
 have hE:=Bv (B:=w.heap.size) (w.heap.size+1) (by omega) [I K 3,I K 0,I K 0,S N 0 0,I K 0] 0 w1 HL1;rw[←AN HW2]at hE;obtain⟨r0,r1,r2,r3,r4⟩:=HX2.f5 1 R;refine AG (by simp[results,Tryz.results42,go_sem,r0,r1,r2,r3,r4]<;>rfl) R ⟨rfl,hE⟩
theorem gW(p:Nat)(u0 u1 u2 u3 u4:Value)(d:LE)(w:World)(hB:GJ p [([u0,u1,u2,u3,u4],87)] w)(h1:d.k≠1)(h2:d.k≠2)(h3:d.k≠3)(h4:d.k≠4)(h5:d.k≠5)(h6:d.k≠6)(h7:d.k≠7):
  Calls Au 42 #[Ae (O ⟨p,0,N⟩),Pv d] w fun e w'=>e=Ao (Af #[I K 1,I K 0,I K 0,S N 0 0,I K 0])∧Below w.heap.size w w':=by
 have k1:(d.k == 1)=false:=by simpa using h1
 have k2:(d.k == 2)=false:=by simpa using h2
 have k3:(d.k == 3)=false:=by simpa using h3
 have k4:(d.k == 4)=false:=by simpa using h4
 have k5:(d.k == 5)=false:=by simpa using h5
 have k6:(d.k == 6)=false:=by simpa using h6
 have k7:(d.k == 7)=false:=by simpa using h7
 clear h1 h2 h3 h4 h5 h6 h7;obtain⟨W0,hW0,hbx,hX0⟩:=Gs w [([I K d.k,I K d.has,I K d.p,I K d.n,I K d.i,I K d.g,I K d.s.m,I K d.s.al,I K d.s.no,S d.s.A d.s.len d.s.cap,I K d.fa,I K d.fn],89),([I K 0,I K 0,I K 0,S N 0 0,I K 0],64)];have HW0:Hid ((w.alloc (Al #[I K d.k,I K d.has,I K d.p,I K d.n,I K d.i,I K d.g,I K d.s.m,I K d.s.al,I K d.s.no,S d.s.A d.s.len d.s.cap,I K d.fa,I K d.fn] 89)).alloc (Al #[I K 0,I K 0,I K 0,S N 0 0,I K 0] 64)=W0):=An hW0;clear hW0;have hP0:=hB.below hbx;have hp:p<w.heap.size:=hB.lt (k:=0) R;have hsz:w.heap.size+2≤W0.heap.size:=hX0.sz (by simp);have z0:=hX0.cell 0 R 0 R;rw[Ay]at z0;unfold Pv;go_enter Tryz.func42,Tryz.ntmps42
 go_upto_region 1 with fail
 rw[AN HW0];have HX1:=hX0;go_wp2_with((refine As R 64 (Am 4) (Am 81) R (w.heap.size+1) 0 [I K 1,I K 0,I K 0,S N 0 0,I K 0] R R (by simp[Ar]) JT (HX1.there 1 R 5 R) ?_;intro W2 hW2;have HX2:=(HX1.give 1 R [I K 1,I K 0,I K 0,S N 0 0,I K 0] R);rw[←hW2]at HX2;skip;have HW2:=An hW2;clear hW2))
 have hE:=Bv (B:=w.heap.size) (w.heap.size+1) (by omega) [I K 1,I K 0,I K 0,S N 0 0,I K 0] 0 W0 hbx;rw[←AN HW2]at hE;obtain⟨r0,r1,r2,r3,r4⟩:=HX2.f5 1 R;refine AG (by simp[results,Tryz.results42,go_sem,r0,r1,r2,r3,r4]<;>rfl) R ⟨rfl,hE⟩
theorem gH{p:Nat}{u0 u1 u2 u4:Value}{SA:Option Addr}{n sc:Nat}{cs:List Value}{x:GG}{w W0 W1:World}{A:Option Addr}{c g cg:Nat}(h:kL p u0 u1 u2 u4 SA n sc cs x W0 W1 A c g cg)(h0:Below w.heap.size w W0)(hp:p<w.heap.size)(hS:∀ b,(S SA n sc).ownBlock=O b→b<w.heap.size){q o:Nat}{vs:List Value}(hq:w.heap.size≤q)(hq2:q<W0.heap.size):kL p u0 u1 u2 u4 SA n sc cs x w (W1.setCells q o vs) A c g cg:=by
 have hgq:g≠q:=fun e=>by
  subst e;rcases h.new with h|h
  ·have:=hS _ h;omega
  ·omega
 have ht:Tw (fun b=>b=q) W1 (W1.setCells q o vs):=(Tw.refl _ _).sets (.inl R);refine⟨h.bx.turn (.inr (by simp only[AJ,AK];omega)),Iu h.own ht (fun b hb hh=>by have hb:=Bd hb;simp only at hb;omega),?_,((Tw.of_below (av:=fun b=>b=p∨(S SA n sc).ownBlock=O b) h0).trans h.tw (fun _ _ h=>h)).sets (.inr hq),h.new.imp id (fun h=>AU h0.size h)⟩;exact(ID.keep h.acts (ht.mono (fun b _ hb=>.inl (by omega)))).less (fun b _ hb=>hb.imp (fun h=>Bs h h0.size) id)
theorem ZT(p:Nat)(u0 u1 u4:Value)(M:Option Addr)(mc:Nat)(mods:List Ho)(SA:Option Addr)(n sc:Nat)(cs:List Value)(d:LE)(w:World)(hB:GJ p [([u0,u1,S M mods.length mc,S SA n sc,u4],87)] w)(ho:w.ownsRow (p+1) 37 4 (S SA n sc) n cs)(hM:L7 GO 3 w M mods)(hA:GZ w d.s.A d.s.len d.s.a)(hml:mods.length≤6)(hn:n≤12)(hk:d.k=5)(he:Ke mods n d.s≠0):
  Calls Au 42 #[Ae (O ⟨p,0,N⟩),Pv d] w fun e w'=>e=Ao (Af #[I K (Ke mods n d.s),I K 0,I K 0,S N 0 0,I K 0])∧Below w.heap.size w w':=by
 have hC:=fun W h (hb:Below w.heap.size w W)=>gJ p u0 u1 u4 M mc mods SA n sc cs d.s W h (FT ho hb) (hM.below hb) (hA.below hb) hml hn he;unfold Rr Gz at hC;generalize Ke mods n d.s=er at *;clear ho hM hA he;obtain⟨W0,hW0,hbx,hX0⟩:=Gs w [([I K d.k,I K d.has,I K d.p,I K d.n,I K d.i,I K d.g,I K d.s.m,I K d.s.al,I K d.s.no,S d.s.A d.s.len d.s.cap,I K d.fa,I K d.fn],89),([I K 0,I K 0,I K 0,S N 0 0,I K 0],64)];have HW0:Hid ((w.alloc (Al #[I K d.k,I K d.has,I K d.p,I K d.n,I K d.i,I K d.g,I K d.s.m,I K d.s.al,I K d.s.no,S d.s.A d.s.len d.s.cap,I K d.fa,I K d.fn] 89)).alloc (Al #[I K 0,I K 0,I K 0,S N 0 0,I K 0] 64)=W0):=An hW0;clear hW0;have hP0:=hB.below hbx;have hp:p<w.heap.size:=hB.lt (k:=0) R;have HL0:=An hbx;have hsz:w.heap.size+2≤W0.heap.size:=hX0.sz (by simp);have z0:=hX0.cell 0 R 0 R;have z6:=hX0.cell 0 R 6 R;have z7:=hX0.cell 0 R 7 R;have z8:=hX0.cell 0 R 8 R;have z9:=hX0.cell 0 R 9 R;rw[Ay]at z0 z6 z7 z8 z9;rw[hk]at z0;clear hk;clear hbx;unfold Pv;go_enter Tryz.func42,Tryz.ntmps42
 go_upto_region 1 with fail
 rw[AN HW0];go_wp2_with(first
  |(go_at_call 77;refine(hC W0 hP0 (AN HL0)).mono ?_;rintro e w1⟨rfl,hb1⟩;have HX1:=(hX0.below hb1);have HL1:=((AN HL0).trans (hb1.mono (AN HL0).size));clear hb1)
  |(refine As R 64 (Am 4) (Am 68) R (w.heap.size+1) 0 [I K er,I K 0,I K 0,S N 0 0,I K 0] R R (by simp[Ar]) JT (HX1.there 1 R 5 R) ?_;intro W2 hW2;have HX2:=(HX1.give 1 R [I K er,I K 0,I K 0,S N 0 0,I K 0] R);rw[←hW2]at HX2;skip;have HW2:=An hW2;clear hW2))
 have hE:=Bv (B:=w.heap.size) (w.heap.size+1) (by omega) [I K er,I K 0,I K 0,S N 0 0,I K 0] 0 w1 HL1;rw[←AN HW2]at hE;obtain⟨r0,r1,r2,r3,r4⟩:=HX2.f5 1 R;refine AG (by simp[results,Tryz.results42,go_sem,r0,r1,r2,r3,r4]<;>rfl) R ⟨rfl,hE⟩
theorem gU(p:Nat)(u0 u1 u4:Value)(M:Option Addr)(mc:Nat)(mods:List Ho)(SA:Option Addr)(n sc:Nat)(cs:List Value)(d:LE)(w:World)(hB:GJ p [([u0,u1,S M mods.length mc,S SA n sc,u4],87)] w)(ho:w.ownsRow (p+1) 37 4 (S SA n sc) n cs)(hM:L7 GO 3 w M mods)(hA:GZ w d.s.A d.s.len d.s.a)(hml:mods.length≤6)(hn:n≤12)(hk:d.k=5)(he:Ke mods n d.s=0):
  Calls Au 42 #[Ae (O ⟨p,0,N⟩),Pv d] w fun e w'=>∃A c g cg,e=Ao (Af #[I K 0,I K 0,I K 0,S N 0 0,I K ((n+1:Nat):Int)])∧kL p u0 u1 (S M mods.length mc) u4 SA n sc cs d.s w w' A c g cg:=by
 have hC:=fun W h (hb:Below w.heap.size w W)=>gI p u0 u1 u4 M mc mods SA n sc cs d.s W h (FT ho hb) (hM.below hb) (hA.below hb) hml hn he;unfold Rr Gz at hC;have HSB:=(fun b hb=>(ho.lt b hb).2);clear ho hM hA he;obtain⟨W0,hW0,hbx,hX0⟩:=Gs w [([I K d.k,I K d.has,I K d.p,I K d.n,I K d.i,I K d.g,I K d.s.m,I K d.s.al,I K d.s.no,S d.s.A d.s.len d.s.cap,I K d.fa,I K d.fn],89),([I K 0,I K 0,I K 0,S N 0 0,I K 0],64)];have HW0:Hid ((w.alloc (Al #[I K d.k,I K d.has,I K d.p,I K d.n,I K d.i,I K d.g,I K d.s.m,I K d.s.al,I K d.s.no,S d.s.A d.s.len d.s.cap,I K d.fa,I K d.fn] 89)).alloc (Al #[I K 0,I K 0,I K 0,S N 0 0,I K 0] 64)=W0):=An hW0;clear hW0;have hP0:=hB.below hbx;have hp:p<w.heap.size:=hB.lt (k:=0) R;have hsz:w.heap.size+2≤W0.heap.size:=hX0.sz (by simp);have z0:=hX0.cell 0 R 0 R;have z6:=hX0.cell 0 R 6 R;have z7:=hX0.cell 0 R 7 R;have z8:=hX0.cell 0 R 8 R;have z9:=hX0.cell 0 R 9 R;rw[Ay]at z0 z6 z7 z8 z9;rw[hk]at z0;clear hk;unfold Pv;go_enter Tryz.func42,Tryz.ntmps42
 go_upto_region 1 with fail
 rw[AN HW0];go_wp2_with(first
  |(go_at_call 77;refine(hC W0 hP0 hbx).mono ?_;rintro e w1⟨A1,c1,g1,cg1,rfl,hj1⟩;have HX1:=(hX0.tw hj1.tw (fun k hk h=>by rcases h with h|h;omega;have:=HSB _ h;omega)))
  |(refine As R 64 (Am 4) (Am 68) R (w.heap.size+1) 0 [I K 0,I K 0,I K 0,S N 0 0,I K ((n+1:Nat):Int)] R R (by simp[Ar]) JT (HX1.there 1 R 5 R) ?_;intro W2 hW2;have HX2:=(HX1.give 1 R [I K 0,I K 0,I K 0,S N 0 0,I K ((n+1:Nat):Int)] R);rw[←hW2]at HX2;skip;have HW2:=An hW2;clear hW2))
 have hE:=gH hj1 hbx hp HSB (q:=w.heap.size+1) (o:=0) (vs:=[I K 0,I K 0,I K 0,S N 0 0,I K ((n+1:Nat):Int)]) (by omega) (by omega);rw[←AN HW2]at hE;obtain⟨r0,r1,r2,r3,r4⟩:=HX2.f5 1 R;refine AG (by simp[results,Tryz.results42,go_sem,r0,r1,r2,r3,r4]<;>rfl) R ⟨A1,c1,g1,cg1,rfl,hE⟩
end Go.Proofs.YtnbleebilmghcabGreat
namespace Go.Proofs.YtnbleebilmghcabGreat
open Go Go.RowKit
set_option maxRecDepth 8000
def Av(p:Nat)(v:Value)(ex:Nat→Prop)(b:Nat):Prop:=b=p∨v.ownBlock=O b∨ex b
structure GH(ex:Nat→Prop)(p:Nat)(T:Option Addr)(tc:Nat)(G:Option Addr)(gc:Nat)(M:Option Addr)(mc:Nat)(SA:Option Addr)(sc:Nat)(u4:Value)(mods:List Ho)(X:Wd)(ss:List GG)(W:World):Prop where
 bx:GJ p [([S T (FG X).length tc,S G X.gens.length gc,S M mods.length mc,S SA ss.length sc,u4],87)] W
 st:ID (fun W=>Ir W T G (FG X) X) (Av p (S SA ss.length sc) ex) W
 md:ID (fun W=>L7 GO 3 W M mods) (Av p (S SA ss.length sc) ex) W
 so:W.ownsRow (p+1) 37 4 (S SA ss.length sc) ss.length (Gj ss)
 ac:ID (fun W=>∀s∈ss,GZ W s.A s.len s.a) (Av p (S SA ss.length sc) ex) W
section
variable {ex:Nat→Prop} {p:Nat} {T:Option Addr} {tc:Nat} {G:Option Addr} {gc:Nat} {M:Option Addr} {mc:Nat} {SA:Option Addr} {sc:Nat} {u4:Value} {mods:List Ho} {X:Wd} {ss:List GG} {W W1:World}
theorem GH.lt(h:GH ex p T tc G gc M mc SA sc u4 mods X ss W):p<W.heap.size:=h.bx.lt (k:=0) R
theorem GH.below(h:GH ex p T tc G gc M mc SA sc u4 mods X ss W)(D:Below W.heap.size W W1):GH ex p T tc G gc M mc SA sc u4 mods X ss W1 :=
 ⟨h.bx.below D,h.st.keep (Tw.of_below D),h.md.keep (Tw.of_below D),FT h.so D,h.ac.keep (Tw.of_below D)⟩
theorem GH.bec(h:GH ex p T tc G gc M mc SA sc u4 mods X ss W)(H:∀ b,ex b→b<W.heap.size){Y:Wd}{F:Int}(he:F=0)(J:Ro p (S M mods.length mc) (S SA ss.length sc) u4 F Y W W1):∃L D U E,GH ex p L D U E M mc SA sc u4 mods Y ss W1:=by
 unfold Ro at J;rw[AF he]at J;obtain⟨L,D,U,E,h1,h2,V⟩:=J;have Z:Tw (Av p (S SA ss.length sc) ex) W W1:=V.mono (fun k _ hk=>.inl hk);refine⟨L,D,U,E,h1,ID.new h2 (fun g hg _ ha=>?_),h.md.keep Z,Iu h.so V (fun g hg e=>?_),h.ac.keep Z⟩
 ·have:=h.lt;rcases ha with e|e|e
  ·omega
  ·have:=(h.so.lt g e).2;omega
  ·have:=H g e;omega
 ·have:=(h.so.lt g hg).1;omega
theorem GH.join(h:GH ex p T tc G gc M mc SA sc u4 mods X ss W)(L:∀ b,ex b→b<W.heap.size){x:GG}{A:Option Addr}{c g U:Nat}(H:kL p (S T (FG X).length tc) (S G X.gens.length gc) (S M mods.length mc) u4 SA ss.length sc (Gj ss) x W W1 A c g U):
  GH ex p T tc G gc M mc (O ⟨g,0,N⟩) U u4 mods X (ss++[⟨x.m,x.al,x.no,A,x.len,c,x.a⟩]) W1:=by
 have J:(ss++[(⟨x.m,x.al,x.no,A,x.len,c,x.a⟩:GG)]).length=ss.length+1:=by simp
 have hp:=h.lt;have D:∀ {Q:World→Prop},ID Q (Av p (S SA ss.length sc) ex) W→ID Q (Av p (S (O ⟨g,0,N⟩) (ss.length+1) U) ex) W1:=fun Z=>by
  have V:=Z.less (av':=fun b=>Av p (S SA ss.length sc) ex b∨W.heap.size≤b) (fun b E hh=>hh.elim id (fun e=>by omega));have Y:=V.keep (H.tw.mono (fun b _ E=>.inl (E.elim (fun e=>.inl e) (fun e=>.inr (.inl e)))));refine Y.less (fun b _ E=>?_);rcases E with e|e|e
  ·exact .inl (.inl e)
  ·have e:=Bd e;simp only at e;subst e;exact H.new.elim (fun e=>.inl (.inr (.inl e))) (fun e=>.inr e)
  ·exact .inl (.inr (.inr e))
 refine⟨by rw[J];exact H.bx,by rw[J];exact D h.st,by rw[J];exact D h.md,by rw[J,Kn];exact H.own,?_⟩;rw[J];refine((D h.ac).and (H.acts.less (fun b _ E=>?_))).imp (fun W2 ⟨V,Y⟩ s F=>?_)
 ·rcases E with e|e|e
  ·exact .inl (by omega)
  ·have e:=Bd e;simp only at e;exact .inr e.symm
  ·exact .inl (L b e)
 ·rcases BV.1 F with F|F
  ·exact V s F
  ·rw[BH]at F;subst F;exact Y
end
theorem QL(l:List GG)(j:Nat):(l.map I1).getD j dS=I1 (l.getD j dS):=by
 rw[Az,Az,Bw]
 cases l[j]? <;>rfl
theorem PT(S:Nat→GG):∀n j X,GX (fun j=>I1 (S j)) n j X=GX S n j X
 |0,_,_=>rfl
 |n+1,j,X=>by
  have e:∀s,I' X (I1 s)=I' X s:=fun _=>rfl;rw[GX,GX,e,PT S n (j+1)]
theorem NO(l:List GG):fe (l.map I1)=fun j=>I1 (l.getD j dS):=funext fun j=>QL l j
theorem Xv(S:Nat→GG):He (fun j=>I1 (S j))=He S:=rfl
theorem bX{l:List GG}{j:Nat}(h:j<l.length):l.getD j dS∈l:=by
 rw[Az,AE h];exact Bm h
theorem PP(W:World)(h:Nat):W.ownsRow h 61 2 (S N 0 0) 0 (Fz []):=Bn _ _ _ _
theorem jb(ex:Nat→Prop)(p:Nat)(T:Option Addr)(tc:Nat)(G:Option Addr)(gc:Nat)(M:Option Addr)(mc:Nat)(SA:Option Addr)(sc:Nat)(u4:Value)(mods:List Ho)(X:Wd)(ss:List GG)(d:LE)(W:World)
  (h:GH ex p T tc G gc M mc SA sc u4 mods X ss W) (hh:∀b,ex b→b<W.heap.size) (hA:GZ W d.s.A d.s.len d.s.a) (hi:mods.length≤6) (hf:XP mods ⟨X,ss.map I1⟩):
  Calls Au 42 #[Ae (O ⟨p,0,N⟩),Pv d] W fun e W1=>∃T' L G' U V Z H A c,e=Ao (Np (Ka mods ⟨X,ss.map I1⟩ d).1 A c) ∧
   GH ex p T' L G' U M mc V Z u4 mods (Ka mods ⟨X,ss.map I1⟩ d).2.X H W1∧H.map I1=(Ka mods ⟨X,ss.map I1⟩ d).2.S ∧
   W1.ownsRow W.heap.size 61 2 (.slice A (Ka mods ⟨X,ss.map I1⟩ d).1.bs.length c) (Ka mods ⟨X,ss.map I1⟩ d).1.bs.length (Fz (Ka mods ⟨X,ss.map I1⟩ d).1.bs) ∧
   Tw (fun b=>b=p∨(Value.slice SA ss.length sc).ownBlock=O b) W W1∧(∀b,(Value.slice V H.length Z).ownBlock=O b→(Value.slice SA ss.length sc).ownBlock=O b∨W.heap.size≤b):=by
 have J:=h.st.here;have tb:∀ {W1},Below W.heap.size W W1→Tw (fun b=>b=p∨(Value.slice SA ss.length sc).ownBlock=O b) W W1:=fun D=>Tw.of_below D;have E:(ss.map I1).length=ss.length:=Bj _;have F:∀ {ha:Int} {Y:Wd} {a:Mj} {W1:World},a.bs=[]→Ro p (.slice M mods.length mc) (.slice SA ss.length sc) u4 ha Y W W1→∃T' L G' U V Z H A c,(Ending.returned (Np a N 0)=Ending.returned (Np a A c)) ∧
   GH ex p T' L G' U M mc V Z u4 mods (bec ⟨X,ss.map I1⟩ ha Y).X H W1∧H.map I1=(bec ⟨X,ss.map I1⟩ ha Y).S ∧
   W1.ownsRow W.heap.size 61 2 (.slice A a.bs.length c) a.bs.length (Fz a.bs)∧Tw (fun b=>b=p∨(Value.slice SA ss.length sc).ownBlock=O b) W W1∧(∀b,(Value.slice V H.length Z).ownBlock=O b→(Value.slice SA ss.length sc).ownBlock=O b∨W.heap.size≤b):=by
  intro ha Y a W1 hk D;by_cases he:ha=0
  ·obtain⟨T',L,G',U,hg⟩:=h.bec hh he D;refine⟨T',L,G',U,SA,sc,ss,N,0,rfl,?_,?_,by rw[hk];exact PP _ _,(ey D).mono (fun _ _ e=>.inl e),fun _ e=>.inl e⟩
   ·unfold bec;rw[AF he];exact hg
   ·unfold bec;rw[AF he]
  ·have hd:=D;unfold Ro at hd;rw[AA he]at hd;refine⟨T,tc,G,gc,SA,sc,ss,N,0,rfl,?_,?_,by rw[hk];exact PP _ _,tb hd,fun _ e=>.inl e⟩
   ·unfold bec;rw[AA he];exact h.below hd
   ·unfold bec;rw[AA he]
 unfold Ka;by_cases k1:d.k=1
 ·rw[AF k1];refine(eR p T tc G gc _ _ u4 X d W h.bx J k1).mono ?_;rintro e W1⟨rfl,D⟩;exact F (a:=⟨_,_,_,[],0⟩) R D
 rw[AA k1];by_cases k2:d.k=2
 ·rw[AF k2];refine(gT p T tc G gc _ _ u4 X d W h.bx J k2).mono ?_;rintro e W1⟨rfl,D⟩;exact F (a:=⟨_,0,0,[],0⟩) R D
 rw[AA k2];by_cases k3:d.k=3
 ·rw[AF k3];refine(jX p T tc G gc _ _ u4 X d W h.bx J k3).mono ?_;rintro e W1⟨rfl,D⟩;exact F (a:=⟨_,0,0,[],0⟩) R D
 rw[AA k3];by_cases k4:d.k=4
 ·rw[AF k4];refine(gX p T tc G gc _ _ u4 X d W h.bx J k4).mono ?_;rintro e W1⟨rfl,D⟩;exact F (a:=⟨_,0,0,[],0⟩) R D
 rw[AA k4];by_cases k5:d.k=5
 ·rw[AF k5];have hn:ss.length≤12:=by have:=hf.few;simp only[E]at this;exact this
  simp only[E];by_cases he:Ke mods ss.length d.s=0
  ·rw[AF he];refine(gU p _ _ u4 M mc mods SA ss.length sc (Gj ss) d W h.bx h.so h.md.here hA hi hn k5 he).mono ?_;rintro e W1⟨A,c,g,cg,rfl,hj⟩;exact⟨T,tc,G,gc,O ⟨g,0,N⟩,cg,_,N,0,rfl,h.join hh hj,by simp[I1],PP _ _,hj.tw,fun b e=>by have e:=Bd e;simp only at e;subst e;exact hj.new⟩
  ·rw[AA he];refine(ZT p _ _ u4 M mc mods SA ss.length sc (Gj ss) d W h.bx h.so h.md.here hA hi hn k5 he).mono ?_;rintro e W1⟨rfl,D⟩;exact⟨T,tc,G,gc,SA,sc,ss,N,0,rfl,h.below D,rfl,PP _ _,tb D,fun _ e=>.inl e⟩
 rw[AA k5];by_cases k6:d.k=6
 ·rw[AF k6];have hL:=M0 h.so h.ac.here dS;have hn:ss.length≤12:=by have:=hf.few;simp only[E]at this;exact this
  have hl:∀j,j<ss.length→(sw (ss.getD j dS)).1=0:=fun j hj=>by
   have:=hf.right j (by simpa using hj);rw[NO]at this;exact this
  have et:Ml ⟨X,ss.map I1⟩=GX (fun j=>ss.getD j dS) ss.length 0 X:=by
   unfold Ml;simp only[E];rw[NO,PT]
  have ec:IM (He (fe (ss.map I1))) (ss.map I1).length=IM (He (fun j=>ss.getD j dS)) ss.length:=by
   rw[E,NO,Xv]
  simp only[et,ec];refine(gS p T tc G gc _ u4 SA ss.length sc (fun j=>ss.getD j dS) X d W h.bx J hL hn hl k6).mono ?_;rintro e W1⟨rfl,D⟩;exact F (a:=⟨_,0,0,[],_⟩) R D
 rw[AA k6];by_cases k7:d.k=7
 ·rw[AF k7]
  cases hc:(FV d.fa && FV d.fn && F5 d.p)
  ·rw[AA (by simp)];refine(ZU p T tc G gc _ _ u4 X d W h.bx J k7 hc).mono ?_;rintro e W1⟨rfl,D⟩;exact⟨T,tc,G,gc,SA,sc,ss,N,0,rfl,h.below D,rfl,PP _ _,tb D,fun _ e=>.inl e⟩
  ·rw[AF R];simp only[AP]at hc;refine(jZ p T tc G gc _ _ u4 X d W h.bx J k7 hc.1.1 hc.1.2 hc.2).mono ?_;rintro e W1⟨A,c,rfl,ho,D⟩;exact⟨T,tc,G,gc,SA,sc,ss,A,c,rfl,h.below D,rfl,ho,tb D,fun _ e=>.inl e⟩
 rw[AA k7];refine(gW p _ _ _ _ u4 d W h.bx k1 k2 k3 k4 k5 k6 k7).mono ?_;rintro e W1⟨rfl,D⟩;exact⟨T,tc,G,gc,SA,sc,ss,N,0,rfl,h.below D,rfl,PP _ _,tb D,fun _ e=>.inl e⟩
attribute [local go_sem ↓] Go.wp_at_zero Go.wp_at_succ
def Iv(d:LE):List Value:=[.int .i64 d.k,.int .i64 d.has,.int .i64 d.p,.int .i64 d.n,.int .i64 d.i,.int .i64 d.g,.int .i64 d.s.m,.int .i64 d.s.al,.int .i64 d.s.no,.slice d.s.A d.s.len d.s.cap,.int .i64 d.fa,.int .i64 d.fn]
abbrev Ki:=Mj×Option Addr×Nat
def GE(x:Ki):List Value:=[.int .i64 x.1.e,.int .i64 x.1.i,.int .i64 x.1.g,.slice x.2.1 x.1.bs.length x.2.2,.int .i64 x.1.n]
theorem Ox (x:Ki):(GE x).length=5:=rfl
theorem Ow(x:Ki):∀u∈GE x,u.oneCell'=true:=fun u hu=>by
 simp only[GE,Bu,Ch,Dk]at hu;rcases hu with rfl|rfl|rfl|rfl|rfl <;>rfl
theorem eB:(Tryz.prog.info? 64).map (fun i=>(i.zero,i.size,i.bytes))=some (some (.agg #[.int .i64 0,.int .i64 0,.int .i64 0,.slice none 0 0,.int .i64 0]),5,56):=by kernel_rfl
theorem fT:(Tryz.prog.info? 53).map (·.size)=some 4:=by kernel_rfl
theorem kU:(Tryz.prog.info? 54).map (·.size)=some 1:=by kernel_rfl
structure Oz (w:World) (L:Option Addr) (l:List LE):Prop where
 at_:L7 Iv 12 w L l
 acts:∀ d∈l,GZ w d.s.A d.s.len d.s.a
theorem Oz.below{w w1:World}{L:Option Addr}{l:List LE}(h:Oz w L l)(hb:Below w.heap.size w w1):Oz w1 L l:=⟨h.at_.below hb,fun d hd=>(h.acts d hd).below hb⟩
structure Sq (w:World) (C:Option Addr) (la:List Ki):Prop where
 at_:L7 GE 5 w C la
 bs:∀ x∈la,LB w x.2.1 x.1.bs
theorem Sq.below{w w1:World}{C:Option Addr}{la:List Ki}(h:Sq w C la)(hb:Below w.heap.size w w1):Sq w1 C la:=⟨h.at_.below hb,fun x hx=>(h.bs x hx).below hb⟩
theorem VL{W:World}{base:Nat}{A:Option Addr}{c:Nat}{l:List (Int×Int)}(h:W.ownsRow base 61 2 (S A l.length c) l.length (Fz l)):LB W A l:=by
 obtain⟨A',c',e,hb⟩:=Rd h;simp only[A9,Br]at e;rw[e.1];exact hb
structure PL(w:World)(p:Nat)(M:Option Addr)(mc:Nat)(mods:List Ho)(T:Option Addr)(tc:Nat)(G:Option Addr)(gc:Nat)(SA:Option Addr)(sc:Nat)(CA:Option Addr)(cc:Nat)(X:Wd)(ss:List GG)(la:List Ki)(W:World):Prop where
 gh:GH (fun b=>(Value.slice CA la.length cc).ownBlock=some b∨b<w.heap.size+2) p T tc G gc M mc SA sc (.slice CA la.length cc) mods X ss W
 co:W.ownsRow (p+1) 64 5 (.slice CA la.length cc) la.length (It GE la)
 bs:ID (fun W=>∀x∈la,LB W x.2.1 x.1.bs) (Av p (.slice SA ss.length sc) (fun b=>(Value.slice CA la.length cc).ownBlock=some b∨b<w.heap.size+2)) W
 rb:GJ w.heap.size [([.slice none 0 0,.slice none 0 0,.slice none 0 0,.slice none 0 0],53),([.int .i64 0,.int .i64 0],29)] W
 bel:Below w.heap.size w W
 lo:w.heap.size+2≤p
section
variable {w:World} {p:Nat} {M:Option Addr} {mc:Nat} {mods:List Ho} {T:Option Addr} {tc:Nat} {G:Option Addr} {gc:Nat} {SA:Option Addr} {sc:Nat} {CA:Option Addr} {cc:Nat} {X:Wd} {ss:List GG} {la:List Ki} {W W1:World}
theorem PL.below(h:PL w p M mc mods T tc G gc SA sc CA cc X ss la W)(hb:Below W.heap.size W W1):PL w p M mc mods T tc G gc SA sc CA cc X ss la W1 :=
 ⟨h.gh.below hb,FT h.co hb,h.bs.keep (Tw.of_below hb),h.rb.below hb,h.bel.trans (hb.mono h.bel.size),h.lo⟩
theorem PL.exl(h:PL w p M mc mods T tc G gc SA sc CA cc X ss la W):∀b,((S CA la.length cc).ownBlock=O b∨b<w.heap.size+2)→b<W.heap.size:=fun b hb=>hb.elim (fun hb=>(h.co.lt b hb).2) (fun hb=>by have:=h.lo;have:=h.gh.lt;omega)
theorem SI{e e' size size' n n' base base':Nat}{v v':Value}{xs xs':List Value}{W:World}(h:W.ownsRow base e size v n xs)(h':W.ownsRow base' e' size' v' n' xs')(he:e≠e'){b:Nat}(hb:v.ownBlock=O b):v'.ownBlock≠O b:=fun hc=>by
 rcases F1 h h' he with h|h
 ·rw[h]at hb;cases hb
 ·exact h (hb.trans hc.symm)
structure PD(w:World)(p:Nat)(M:Option Addr)(mc:Nat)(mods:List Ho)(T:Option Addr)(tc:Nat)(G:Option Addr)(gc:Nat)(SA:Option Addr)(sc:Nat)(CA:Option Addr)(cc:Nat)(X:Wd)(ss:List GG)(la:List Ki)(x:Ki)(W:World):Prop where
 gh:GH (fun b=>(Value.slice CA la.length cc).ownBlock=some b∨b<w.heap.size+2) p T tc G gc M mc SA sc (.slice CA la.length cc) mods X ss W
 co:W.ownsRow (p+1) 64 5 (.slice CA la.length cc) la.length (It GE la)
 bs:ID (fun W=>∀y∈la++[x],LB W y.2.1 y.1.bs) (Av p (.slice SA ss.length sc) (fun b=>(Value.slice CA la.length cc).ownBlock=some b∨b<w.heap.size+2)) W
 rb:GJ w.heap.size [([.slice none 0 0,.slice none 0 0,.slice none 0 0,.slice none 0 0],53),([.int .i64 0,.int .i64 0],29)] W
 bel:Below w.heap.size w W
 lo:w.heap.size+2≤p
theorem PD.below{x:Ki}(h:PD w p M mc mods T tc G gc SA sc CA cc X ss la x W)(hb:Below W.heap.size W W1):PD w p M mc mods T tc G gc SA sc CA cc X ss la x W1 :=
 ⟨h.gh.below hb,FT h.co hb,h.bs.keep (Tw.of_below hb),h.rb.below hb,h.bel.trans (hb.mono h.bel.size),h.lo⟩
theorem PL.did(h:PL w p M mc mods T tc G gc SA sc CA cc X ss la W){T':Option Addr}{tc':Nat}{G':Option Addr}{gc':Nat}{SA':Option Addr}{sc':Nat}{X':Wd}{ss':List GG}{x:Ki}
  (hg:GH (fun b=>(S CA la.length cc).ownBlock=O b∨b<w.heap.size+2) p T' tc' G' gc' M mc SA' sc' (S CA la.length cc) mods X' ss' W1)
  (ho:W1.ownsRow W.heap.size 61 2 (S x.2.1 x.1.bs.length x.2.2) x.1.bs.length (Fz x.1.bs))
  (ht:Tw (fun b=>b=p∨(S SA ss.length sc).ownBlock=O b) W W1)
  (hn:∀b,(S SA' ss'.length sc').ownBlock=O b→(S SA ss.length sc).ownBlock=O b∨W.heap.size≤b):PD w p M mc mods T' tc' G' gc' SA' sc' CA cc X' ss' la x W1:=by
 have hp:=h.gh.lt;have hco:=Iu h.co ht (fun b hb hh=>by
  rcases hh with e|e
  ·have:=(h.co.lt b hb).1;omega
  ·exact SI h.gh.so h.co (by decide) e hb)
 refine⟨hg,hco,?_,h.rb.tw ht (fun k hk hh=>?_),h.bel.trans ((ht.below (B:=w.heap.size) h.bel.size (fun k hk hh=>?_))),h.lo⟩
 ·have h1:=h.bs.less (av':=fun b=>Av p (S SA ss.length sc) (fun b=>(S CA la.length cc).ownBlock=O b∨b<w.heap.size+2) b∨W.heap.size≤b) (fun b hb hh=>hh.elim id (fun e=>by omega));have h2:=h1.keep (ht.mono (fun b _ hb=>.inl (hb.elim (fun e=>.inl e) (fun e=>.inr (.inl e)))));have h3:=h2.less (av':=Av p (S SA' ss'.length sc') (fun b=>(S CA la.length cc).ownBlock=O b∨b<w.heap.size+2)) (fun b _ hb=>by
   rcases hb with e|e|e
   ·exact .inl (.inl e)
   ·exact(hn b e).elim (fun e=>.inl (.inr (.inl e))) (fun e=>.inr e)
   ·exact .inl (.inr (.inr e)))
  have h4:ID (fun W=>LB W x.2.1 x.1.bs) (Av p (S SA' ss'.length sc') (fun b=>(S CA la.length cc).ownBlock=O b∨b<w.heap.size+2)) W1:=(ID.own ho (fun b hb hh=>by
   have hlo:=(ho.lt b hb).1;rcases hh with e|e|e
   ·omega
   ·exact SI hg.so ho (by decide) e hb
   ·have:=h.exl b e;omega)).imp (fun W2 h=>VL h)
  exact(h3.and h4).imp (fun W2 ⟨h1,h2⟩ y hy=>by
   rcases BV.1 hy with hy|hy
   ·exact h1 y hy
   ·rw[BH]at hy;subst hy;exact h2)
 ·have:=h.lo;simp only[AJ,AK]at hk;rcases hh with e|e
  ·omega
  ·have:=(h.gh.so.lt _ e).1;omega
 ·have:=h.lo;rcases hh with e|e
  ·omega
  ·have:=(h.gh.so.lt _ e).1;omega
theorem PD.kept{x:Ki}(h:PD w p M mc mods T tc G gc SA sc CA cc X ss la x W){g cg:Nat}(ho:W1.ownsRow (p+1) 64 5 (S (O ⟨g,0,N⟩) (la.length+1) cg) (la.length+1) (It GE la++GE x))(hg:W.grownBy W1 (S CA la.length cc).ownBlock)(hw:O g=(S CA la.length cc).ownBlock∨g=W.heap.size):
  PL w p M mc mods T tc G gc SA sc (O ⟨g,0,N⟩) cg X ss (la++[x]) (W1.setCell ⟨p,4,N⟩ (S (O ⟨g,0,N⟩) (la.length+1) cg)):=by
 have hp:=h.gh.lt;have hl:(la++[x]).length=la.length+1:=by simp
 have hgp:g≠p:=fun e=>by subst e;have:=(ho.lt g R).1;omega
 have ht:Tw (fun b=>b=p∨(S CA la.length cc).ownBlock=O b) W (W1.setCell ⟨p,4,N⟩ (S (O ⟨g,0,N⟩) (la.length+1) cg)):=(Tw.of_grown (av:=fun b=>b=p∨(S CA la.length cc).ownBlock=O b) hg (fun k hk=>.inr hk)).sets (b:=p) (o:=4) (vs:=[S (O ⟨g,0,N⟩) (la.length+1) cg]) (.inl (.inl R));have key:∀ {Q:World→Prop},ID Q (Av p (S SA ss.length sc) (fun b=>(S CA la.length cc).ownBlock=O b∨b<w.heap.size+2)) W→ID Q (Av p (S SA ss.length sc) (fun b=>(S (O ⟨g,0,N⟩) (la.length+1) cg).ownBlock=O b∨b<w.heap.size+2)) (W1.setCell ⟨p,4,N⟩ (S (O ⟨g,0,N⟩) (la.length+1) cg)):=fun hQ=>by
  have h1:=hQ.less (av':=fun b=>Av p (S SA ss.length sc) (fun b=>(S CA la.length cc).ownBlock=O b∨b<w.heap.size+2) b∨W.heap.size≤b) (fun b hb hh=>hh.elim id (fun e=>by omega));have h2:=h1.keep (ht.mono (fun b _ hb=>.inl (hb.elim (fun e=>.inl e) (fun e=>.inr (.inr (.inl e))))));refine h2.less (fun b _ hb=>?_);rcases hb with e|e|e|e
  ·exact .inl (.inl e)
  ·exact .inl (.inr (.inl e))
  ·have e:=Bd e;simp only at e;subst e;exact hw.elim (fun e=>.inl (.inr (.inr (.inl e.symm)))) (fun e=>.inr (by omega))
  ·exact .inl (.inr (.inr (.inr e)))
 have hbx1:GJ p [([S T (FG X).length tc,S G X.gens.length gc,S M mods.length mc,S SA ss.length sc,S CA la.length cc],87)] W1:=h.gh.bx.tw (Tw.of_grown (av:=fun b=>(S CA la.length cc).ownBlock=O b) hg (fun k hk=>hk)) (fun k hk e=>by
  simp only[AJ,AK]at hk;have:=(h.co.lt _ e).1;omega)
 have hbx:=hbx1.part 0 R 4 [S (O ⟨g,0,N⟩) (la.length+1) cg] (by simp);rw[Ay]at hbx;refine⟨⟨by rw[hl];exact hbx,by rw[hl];exact key h.gh.st,by rw[hl];exact key h.gh.md,Iu h.gh.so ht (fun b hb hh=>?_),by rw[hl];exact key h.gh.ac⟩,?_,by rw[hl];exact key h.bs,h.rb.tw ht (fun k hk hh=>?_),h.bel.trans (ht.below (B:=w.heap.size) h.bel.size (fun k hk hh=>?_)),h.lo⟩
 ·rcases hh with e|e
  ·have:=(h.gh.so.lt b hb).1;omega
  ·exact SI h.gh.so h.co (by decide) hb e
 ·rw[hl,RN];exact B7 ho (a:=⟨p,4,N⟩) (fun e=>hgp (by have e:=Bd e;simpa using e)) _
 ·have:=h.lo;simp only[AJ,AK]at hk;rcases hh with e|e
  ·omega
  ·have:=(h.co.lt _ e).1;omega
 ·have:=h.lo;rcases hh with e|e
  ·omega
  ·have:=(h.co.lt _ e).1;omega
end
theorem Ql{f h:FuncId}(hf:(f=15∧h=17)∨(f=16∧h=18))(hwm:∀ (M:Option Addr) (mc:Nat) (mods:List Ho) (w:World),L7 GO 3 w M mods→Calls Au h #[S M mods.length mc] w fun e w'=>e=Ao (GC (Ns mods))∧Below w.heap.size w w')(M:Option Addr)(mc:Nat)(mods:List Ho)(LD:Option Addr)(lc:Nat)(l:List LE)(w:World)(hM:L7 GO 3 w M mods)(hw:(Ns mods).1≠0):
  Calls Au f #[S M mods.length mc,S LD l.length lc] w fun e w'=>e=Ao (Ai #[Af #[S N 0 0,S N 0 0,S N 0 0,S N 0 0],S N 0 0,Af #[I K (Ns mods).1,I K (Ns mods).2]])∧Below w.heap.size w w':=by
 rcases hf with⟨rfl,rfl⟩|⟨rfl,rfl⟩
 all_goals
  have hWM:=fun W (hb:Below w.heap.size w W)=>hwm M mc mods W (hM.below hb);unfold GC at hWM;obtain⟨f0,hf0⟩:∃f0,f0=(Ns mods).1:=⟨_,rfl⟩;obtain⟨f1,hf1⟩:∃f1,f1=(Ns mods).2:=⟨_,rfl⟩;rw[←hf0,←hf1]at hWM⊢;rw[←hf0]at hw;have hne:(f0 == 0)=false:=by simpa using hw
  clear hM hw hf0 hf1;obtain⟨W0,hW0,hbx,hX0⟩:=Gs w [([S N 0 0,S N 0 0,S N 0 0,S N 0 0],53),([I K 0,I K 0],29)];have HW0:Hid ((w.alloc (Al #[S N 0 0,S N 0 0,S N 0 0,S N 0 0] 53)).alloc (Al #[I K 0,I K 0] 29)=W0):=An hW0;clear hW0;have HL0:=An hbx;clear hbx
  (first|go_enter Tryz.func15,Tryz.ntmps15|go_enter Tryz.func16,Tryz.ntmps16)
  go_upto_region 1 with fail
  rw[AN HW0];go_wp2_with fail
  (first|go_at_call 17|go_at_call 18)
  refine(hWM W0 (AN HL0)).mono ?_;rintro e wq⟨rfl,hb1⟩;obtain⟨W2,hW2,hbx,hX2⟩:=Gs wq [([I K f0,I K f1],29)];have HW2:Hid (wq.alloc (Al #[I K f0,I K f1] 29)=W2):=An hW2;clear hW2;have hb12:=hb1.trans (hbx.mono hb1.size);have HL2:=((AN HL0).trans (hb12.mono (AN HL0).size));have HX2:=(hX0.below hb12);have hz1:w.heap.size+2≤wq.heap.size:=(hX0.below hb1).sz (by simp);have q0:=hX2.cell 0 R 0 R;rw[Ay]at q0;clear hb1 hbx hb12 hX0 hWM;go_upto_region 2 with fail
  rw[AN HW2];have h0:GJ w.heap.size [([S N 0 0,S N 0 0,S N 0 0,S N 0 0],53),(if(fun(_:Nat)=>false) 4=true then [I K f0,I K f1]else [I K 0,I K 0],29)] W2.drew∧GJ wq.heap.size [([I K f0,I K f1],29)] W2.drew∧Below w.heap.size w W2.drew:=⟨HX2,hX2,HL2.drew⟩;have H0:=An h0;clear h0;go_upto_region 3 with fail
  have h0:=AN H0;refine FW (fun(γ:Unit)=>[Af #[S N 0 0,S N 0 0,S N 0 0,S N 0 0],Af #[I K f0,I K f1],undef,S N 0 0,undef]) (fun(_:Unit) L W=>GJ w.heap.size [([S N 0 0,S N 0 0,S N 0 0,S N 0 0],53),(if L 4=true then [I K f0,I K f1]else [I K 0,I K 0],29)] W∧GJ wq.heap.size [([I K f0,I K f1],29)] W∧Below w.heap.size w W) (()) (by kernel_rfl) (by kernel_rfl) (by kernel_rfl) (by kernel_rfl) h0 ?hstep ?hend
  case hstep =>
   intro F γ hout hkn ix o ho L w1 hD hL hed hcl;simp only[Hu,G9,Br,Bx]at hkn;have e4:F.tmps.getD 4 undef=Ae (O ⟨w.heap.size,0,N⟩):=hout 4 (by decide +kernel);have e6:F.tmps.getD 6 undef=Ae (O ⟨w.heap.size+1,0,N⟩):=hout 6 (by decide +kernel);have e7:F.tmps.getD 7 undef=Ae (O ⟨wq.heap.size,0,N⟩):=hout 7 (by decide +kernel)
   match ix,ho with
   |0,ho|3,ho =>
    simp at ho;subst ho;exact .inl ⟨rfl,FB γ _ (by simp[go_sem,Aq,-Ap,hkn]) R hD (fun _ _ _=>rfl)⟩
   |1,ho =>
    simp at ho;subst ho;obtain⟨c0,c1⟩:=hD.2.1.g2 R;exact .inl ⟨rfl,FB γ _ (by simp[go_sem,Aq,-Ap,e7,c0,c1]) R hD (fun _ _ _=>rfl)⟩
   |2,ho =>
    simp at ho;subst ho;refine .inl ⟨rfl,Gy γ 53 (Am 4) (Am 17) R w.heap.size 0 [S N 0 0,S N 0 0,S N 0 0,S N 0 0] (by simp[Aq,-Ap,e4]) (by simp[Aq,-Ap,hkn]) (by simp[Ar]) fT (hD.1.there 0 R 4 R) R ⟨?_,hD.2.1.turn (.inl (by omega)),Bv _ Fu _ _ _ hD.2.2⟩ (fun _ _ _=>rfl)⟩;rw[Fx (by decide)];exact hD.1.give 0 R [S N 0 0,S N 0 0,S N 0 0,S N 0 0] R
   |4,ho =>
    simp at ho;subst ho;have h1:=hD.1;rw[hL]at h1;refine .inl ⟨rfl,Gy γ 29 (Am 6) (Am 18) R (w.heap.size+1) 0 [I K f0,I K f1] (by simp[Aq,-Ap,e6]) (by simp[Aq,-Ap,hkn]) (by simp[Ar]) Tz (h1.there 1 R 2 R) R ⟨?_,hD.2.1.turn (.inl (by omega)),Bv _ (by omega) _ _ _ hD.2.2⟩ (fun _ _ _=>rfl)⟩;rw[IF];exact h1.give 1 R [I K f0,I K f1] R
   |ix+5,ho=>simp at ho
  case hend =>
   intro γ L w9 hD hall;obtain⟨hB,_,hE⟩:=hD;rw[hall 4 (by decide),AF R]at hB;obtain⟨r0,r1,r2,r3⟩:=hB.g4 R;obtain⟨r4,r5⟩:=hB.f2 1 R;clear hall h0 hB q0;simp only[GN,AI,AH,Ba,AJ,AK,Nat.reduceAdd,Bf,Be];go_frame;go_wp2;refine AG (by simp[results,Tryz.results15,Tryz.results16,go_sem,r0,r1,r2,r3,r4,r5]<;>rfl) R ⟨rfl,hE⟩
theorem SV{f h:FuncId}(hf:(f=15∧h=17)∨(f=16∧h=18))(hwm:∀ (M:Option Addr) (mc:Nat) (mods:List Ho) (w:World),L7 GO 3 w M mods→Calls Au h #[S M mods.length mc] w fun e w'=>e=Ao (GC (Ns mods))∧Below w.heap.size w w')(M:Option Addr)(mc:Nat)(mods:List Ho)(LD:Option Addr)(lc:Nat)(l:List LE)(w:World)(hM:L7 GO 3 w M mods)(hw:Ns mods=(0,0))(hl:80<l.length):
  Calls Au f #[S M mods.length mc,S LD l.length lc] w fun e w'=>e=Ao (Ai #[Af #[S N 0 0,S N 0 0,S N 0 0,S N 0 0],S N 0 0,Af #[I K 4,I K 0]])∧Below w.heap.size w w':=by
 rcases hf with⟨rfl,rfl⟩|⟨rfl,rfl⟩
 all_goals
  have hWM:=fun W (hb:Below w.heap.size w W)=>hwm M mc mods W (hM.below hb);unfold GC at hWM;have hz:Ns mods=(0,0):=hw;rw[hz]at hWM;obtain⟨f0,hf0⟩:∃f0:Int,f0=0:=⟨_,rfl⟩;clear f0 hf0;clear hz hw;have d80:decide ((80:Int)<(l.length:Int))=true:=Bq (by omega);obtain⟨W0,hW0,hbx,hX0⟩:=Gs w [([S N 0 0,S N 0 0,S N 0 0,S N 0 0],53),([I K 0,I K 0],29)];have HW0:Hid ((w.alloc (Al #[S N 0 0,S N 0 0,S N 0 0,S N 0 0] 53)).alloc (Al #[I K 0,I K 0] 29)=W0):=An hW0;clear hW0;have HL0:=An hbx;clear hbx
  (first|go_enter Tryz.func15,Tryz.ntmps15|go_enter Tryz.func16,Tryz.ntmps16)
  go_upto_region 1 with fail
  rw[AN HW0];go_wp2_with fail
  (first|go_at_call 17|go_at_call 18)
  refine(hWM W0 (AN HL0)).mono ?_;rintro e wq⟨rfl,hb1⟩;obtain⟨W2,hW2,hbx,hX2⟩:=Gs wq [([I K 0,I K 0],29)];have HW2:Hid (wq.alloc (Al #[I K 0,I K 0] 29)=W2):=An hW2;clear hW2;have hb12:=hb1.trans (hbx.mono hb1.size);have HL2:=((AN HL0).trans (hb12.mono (AN HL0).size));have HX2:=(hX0.below hb12);have hz1:w.heap.size+2≤wq.heap.size:=(hX0.below hb1).sz (by simp);have q0:=hX2.cell 0 R 0 R;rw[Ay]at q0;clear hb1 hbx hb12 hX0 hWM;go_upto_region 2 with fail
  rw[AN HW2];go_wp2_with(first
   |(refine As R 53 (Am 4) (Am 22) R w.heap.size 0 [S N 0 0,S N 0 0,S N 0 0,S N 0 0] R R (by simp[Ar]) fT (HX2.there 0 R 4 R) ?_;intro W3 hW3;have HX3:=(HX2.give 0 R [S N 0 0,S N 0 0,S N 0 0,S N 0 0] R);have HE3:=(Bv (B:=w.heap.size) w.heap.size Fu [S N 0 0,S N 0 0,S N 0 0,S N 0 0] 0 _ HL2);rw[Ay]at HX3;rw[←hW3]at HX3 HE3;clear hW3)
   |(refine As R 29 (Am 6) (Am 23) R (w.heap.size+1) 0 [I K 4,I K 0] R R (by simp[Ar]) Tz (HX3.there 1 R 2 R) ?_;intro W4 hW4;have HX4:=(HX3.give 1 R [I K 4,I K 0] R);have HE4:=(Bv (B:=w.heap.size) (w.heap.size+1) (by omega) [I K 4,I K 0] 0 _ HE3);rw[←hW4]at HX4 HE4;clear hW4))
  have hB:=HX4;obtain⟨r0,r1,r2,r3⟩:=hB.g4 R;obtain⟨r4,r5⟩:=hB.f2 1 R;refine AG (by simp[results,Tryz.results15,Tryz.results16,go_sem,r0,r1,r2,r3,r4,r5]<;>rfl) R ⟨rfl,HE4⟩
end Go.Proofs.YtnbleebilmghcabGreat
