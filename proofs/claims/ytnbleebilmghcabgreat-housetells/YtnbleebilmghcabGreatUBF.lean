/- Ho1, Ho2 -/
import Derived.Test.YtnbleebilmghcabGreatUBE
import Derived.Test.YtnbleebilmghcabGreatUBD
import Derived.Test.YtnbleebilmghcabGreatUAV
set_option linter.all false
set_option maxRecDepth 8000
set_option maxHeartbeats 4000000
open Go.Value renaming int→I,slice→S,pointer→Ae,agg→Af,tuple→Ai,oneCell'→Ar
open Go.IntKind renaming i64→K
open Option renaming none→N,some→O
open Go.Obj renaming cells→Al
open Go.Operand renaming tmp→Am
open Go.Ending renaming returned→Ao
open Array renaming getD_eq_getD_getElem?→Ap
open Go.Act renaming eval→Aq
open Go.Proofs.Tryz renaming prog→Au
namespace Go.Proofs.YtnbleebilmghcabGreat
open Go Go.RowKit
attribute [local go_sem ↓] Go.wp_at_zero Go.wp_at_succ
def Np(a:Mj)(A:Option Addr)(c:Nat):Value:=.agg #[.int .i64 a.e,.int .i64 a.i,.int .i64 a.g,.slice A a.bs.length c,.int .i64 a.n]
theorem JT:(Tryz.prog.info? 64).map (·.size)=some 5:=by kernel_rfl
theorem kX:(Tryz.prog.info? 25).map (·.size)=some 2:=by kernel_rfl
theorem jy:(Tryz.prog.info? 61).map (·.size)=some 2:=by kernel_rfl
theorem GJ.part{B:Nat}{l:List (List Value×TypeId)}{W:World}(h:GJ B l W)(k:Nat){us:List Value}{t:TypeId}(hk:l[k]?=O (us,t))(o:Nat)(vs:List Value)(hn:o+vs.length≤us.length):GJ B (l.set k (us.take o++vs++us.drop (o+vs.length),t)) (W.setCells (B+k) o vs):=fun j ws t' hj=>by
 by_cases e:k=j
 ·subst e;rw[Co (AX.1 hk).1,Bc,Dv]at hj;obtain⟨rfl,rfl⟩:=hj;exact Jv (B+k) t vs o us W (h k us t hk) hn
 ·rw[Cx e]at hj;rw[J9 (B+k) vs o W (B+j) (by omega)];exact h j ws t' hj
theorem IN.tw{base:Nat}{W W1:World}{T G:Option Addr}{tabs:List Gu}{X:Wd}{av:Nat→Prop}(h:IN base W T G tabs X)(ht:Tw av W W1)(ha:∀ g,av g→g<base):IN base W1 T G tabs X:=fun W' hW=>h W' fun g h1 h2=>(hW g h1 (Bs h2 ht.size)).trans (ht.block g h2 (fun e=>by have:=ha g e;omega))
theorem Hj{W:World}{b n:Nat}(h:W.there b 0 n)(o m:Nat)(hm:o+m≤n):W.there b o m:=fun j hj=>by
 have:=h (o+j) (by omega);rwa[AT]at this
theorem Zi(p:Nat)(T:Option Addr)(tl tc:Nat)(G:Option Addr)(gl gc:Nat)(err:Int)(u0 u1 u2 u3 u4:Value)(w:World)(hB:GJ p [([u0,u1,u2,u3,u4],87)] w)(he:err≠0):
  Calls Au 73 #[Ae (O ⟨p,0,N⟩),JN T tl tc G gl gc,I K err] w fun e w'=>e=Ao (Np ⟨err,0,0,[],0⟩ N 0)∧Below w.heap.size w w':=by
 obtain⟨W0,hW0,hbx,hX0⟩:=Gs w [([S T tl tc,S G gl gc],25),([I K 0,I K 0,I K 0,S N 0 0,I K 0],64)];have HW0:Hid ((w.alloc (Al #[S T tl tc,S G gl gc] 25)).alloc (Al #[I K 0,I K 0,I K 0,S N 0 0,I K 0] 64)=W0):=An hW0;clear hW0;have hp:p<w.heap.size:=hB.lt (k:=0) R;have HP0:=An (hB.below hbx);have HT0:=An (Tw.of_below (av:=fun b=>b=p) hbx);obtain⟨q0,q1⟩:=hX0.g2 R;have hne:(err == 0)=false:=by simpa using he
 clear hB;unfold JN Np;go_enter Tryz.func73,Tryz.ntmps73
 go_upto_region 1 with fail
 rw[AN HW0];go_wp2_with(first
  |(refine As R 64 (Am 6) (Am 10) R (w.heap.size+1) 0 [I K err,I K 0,I K 0,S N 0 0,I K 0] R R (by simp[Ar]) JT (hX0.there 1 R 5 R) ?_;intro W1 hW1;have HR:=(hX0.give 1 R [I K err,I K 0,I K 0,S N 0 0,I K 0] R);have HE:=(Bv (B:=w.heap.size) (w.heap.size+1) (by omega) [I K err,I K 0,I K 0,S N 0 0,I K 0] 0 W0 hbx);rw[←hW1]at HR HE;clear hW1))
 obtain⟨r0,r1,r2,r3,r4⟩:=HR.f5 1 R;refine AG (by simp[results,Tryz.results73,go_sem,r0,r1,r2,r3,r4]<;>rfl) R ⟨rfl,HE⟩
theorem Zh(p:Nat)(T:Option Addr)(tl tc:Nat)(G:Option Addr)(gl gc:Nat)(err:Int)(u0 u1 u2 u3 u4:Value)(w:World)(hB:GJ p [([u0,u1,u2,u3,u4],87)] w)(he:err=0):
  Calls Au 73 #[Ae (O ⟨p,0,N⟩),JN T tl tc G gl gc,I K err] w fun e w'=>e=Ao (Np ⟨err,0,0,[],0⟩ N 0)∧GJ p [([S T tl tc,S G gl gc,u2,u3,u4],87)] w'∧Tw (fun b=>b=p) w w':=by
 obtain⟨W0,hW0,hbx,hX0⟩:=Gs w [([S T tl tc,S G gl gc],25),([I K 0,I K 0,I K 0,S N 0 0,I K 0],64)];have HW0:Hid ((w.alloc (Al #[S T tl tc,S G gl gc] 25)).alloc (Al #[I K 0,I K 0,I K 0,S N 0 0,I K 0] 64)=W0):=An hW0;clear hW0;have hp:p<w.heap.size:=hB.lt (k:=0) R;have HP0:=(hB.below hbx);have HT0:=(Tw.of_below (av:=fun b=>b=p) hbx);obtain⟨q0,q1⟩:=hX0.g2 R;subst he;clear hbx hB;unfold JN Np;go_enter Tryz.func73,Tryz.ntmps73
 go_upto_region 1 with fail
 rw[AN HW0];go_wp2_with(first
  |(refine As R 25 (Am 15) (Am 12) R p 0 [S T tl tc,S G gl gc] R R (by simp[Ar]) kX (Hj (HP0.there 0 R 5 R) 0 2 (by omega)) ?_;intro W1 hW1;have HP1:=(HP0.part 0 R 0 [S T tl tc,S G gl gc] (by simp));have HT1:=(HT0.sets (b:=p) (o:=0) (vs:=[S T tl tc,S G gl gc]) (.inl R));have HB1:=(hX0.turn (cb:=p) (o:=0) (vs:=[S T tl tc,S G gl gc]) (.inl hp));rw[Ay,←hW1]at HP1;rw[←hW1]at HT1 HB1;clear hW1)
  |(refine As R 64 (Am 6) (Am 16) R (w.heap.size+1) 0 [I K 0,I K 0,I K 0,S N 0 0,I K 0] R R (by simp[Ar]) JT (HB1.there 1 R 5 R) ?_;intro W2 hW2;have HR:=(HB1.give 1 R [I K 0,I K 0,I K 0,S N 0 0,I K 0] R);have HT2:=(HT1.sets (b:=w.heap.size+1) (o:=0) (vs:=[I K 0,I K 0,I K 0,S N 0 0,I K 0]) (.inr (by omega)));have HP2:=(HP1.turn (cb:=w.heap.size+1) (o:=0) (vs:=[I K 0,I K 0,I K 0,S N 0 0,I K 0]) (.inr (by simp only[By,AJ,AK];omega)));rw[←hW2]at HR HT2 HP2;clear hW2))
 obtain⟨r0,r1,r2,r3,r4⟩:=HR.f5 1 R;refine AG (by simp[results,Tryz.results73,go_sem,r0,r1,r2,r3,r4]<;>rfl) R ⟨rfl,HP2,HT2⟩
def Pv(d:LE):Value:=.agg #[.int .i64 d.k,.int .i64 d.has,.int .i64 d.p,.int .i64 d.n,.int .i64 d.i,.int .i64 d.g,.int .i64 d.s.m,.int .i64 d.s.al,.int .i64 d.s.no,.slice d.s.A d.s.len d.s.cap,.int .i64 d.fa,.int .i64 d.fn]
def Ro(p:Nat)(u2 u3 u4:Value)(err:Int)(Y:Wd)(w w':World):Prop :=
 if err=0 then ∃T tc G gc,GJ p [([.slice T (FG Y).length tc,.slice G Y.gens.length gc,u2,u3,u4],87)] w'∧IN w.heap.size w' T G (FG Y) Y∧Tw (fun b=>b=p) w w' else Below w.heap.size w w'
theorem Sw{p:Nat}{us:List Value}{t:TypeId}{w w':World}(h:Tw (fun b=>b=p) w w')(h1:GJ p [(us,t)] w)(h2:GJ p [(us,t)] w'):Below w.heap.size w w':=⟨h.os,h.tape,h.output,h.size,fun k hk=>by
 by_cases e:k=p
 ·subst e;have a:=h1 0 us t R;have b:=h2 0 us t R;rw[Ay]at a b;rw[a,b]
 ·exact h.block k hk e⟩
structure G4 where
 T:Option Addr
 tc:Nat
 G:Option Addr
 gc:Nat
def g4:G4:=⟨none,0,none,0⟩
structure R5(W0:World)(p c:Nat)(u0 u1 u2 u3 u4:Value)(err:Int)(Y:Wd)(ic ib is:Nat)(γ:G4)(L:Nat→Bool)(W:World):Prop where
 bel:L ib=false→L is=false→Below W0.heap.size W0 W
 st:L ic=true→IN W0.heap.size W γ.T γ.G (FG Y) Y
 tw:Tw (fun b=>b=p∨b=c) W0 W
 bx:GJ p [(if L ib=true then(if err=0 then [.slice γ.T (FG Y).length γ.tc,.slice γ.G Y.gens.length γ.gc,u2,u3,u4]else [u0,u1,u2,u3,u4])else [u0,u1,u2,u3,u4],87)] W
 rb:GJ c [(if L is=true then [.int .i64 err,.int .i64 0,.int .i64 0,.slice none 0 0,.int .i64 0]else [.int .i64 0,.int .i64 0,.int .i64 0,.slice none 0 0,.int .i64 0],64)] W
section
variable {W0:World} {p c:Nat} {u0 u1 u2 u3 u4:Value} {err:Int} {Y:Wd} {ic ib is:Nat} {γ:G4} {L:Nat→Bool} {W W1:World}
theorem R5.start(h1:GJ p [([u0,u1,u2,u3,u4],87)] W0)(h2:GJ c [([I K 0,I K 0,I K 0,S N 0 0,I K 0],64)] W0):R5 W0 p c u0 u1 u2 u3 u4 err Y ic ib is g4 (fun _=>false) W0.drew :=
 ⟨fun _ _=>Fv.drew,fun h=>(by cases h),Tw.of_below Fv.drew,h1,h2⟩
theorem R5.same(h:R5 W0 p c u0 u1 u2 u3 u4 err Y ic ib is γ L W){i:Nat}(h1:i≠ic)(h2:i≠ib)(h3:i≠is):R5 W0 p c u0 u1 u2 u3 u4 err Y ic ib is γ (upd L i) W:=by
 have e:∀j,j≠i→upd L i j=L j:=fun j hj=>Fx hj;refine⟨?_,?_,h.tw,?_,?_⟩
 ·rw[e _ (BW h2),e _ (BW h3)];exact h.bel
 ·rw[e _ (BW h1)];exact h.st
 ·rw[e _ (BW h2)];exact h.bx
 ·rw[e _ (BW h3)];exact h.rb
theorem R5.ask(h:R5 W0 p c u0 u1 u2 u3 u4 err Y ic ib is γ L W)(hp:p<W0.heap.size)(n1:ic≠ib)(n2:ic≠is)(hb:L ib=false)(hs:L is=false){T:Option Addr}{tc:Nat}{G:Option Addr}{gc:Nat}(hN:IN W.heap.size W1 T G (FG Y) Y)(hW:Below W.heap.size W W1):R5 W0 p c u0 u1 u2 u3 u4 err Y ic ib is ⟨T,tc,G,gc⟩ (upd L ic) W1:=by
 have e:∀j,j≠ic→upd L ic j=L j:=fun j hj=>Fx hj;have hb0:=h.bel hb hs;have hbx:=h.bx;rw[hb]at hbx;refine⟨fun _ _=>hb0.trans (hW.mono hb0.size),fun _=>hN.le hb0.size,h.tw.trans (Tw.of_below (av:=fun b=>b=p∨b=c) hW) (fun _ _ h=>h),?_,?_⟩
 ·rw[e _ (BW n1),hb];exact hbx.below hW
 ·rw[e _ (BW n2)];exact h.rb.below hW
theorem R5.bec(h:R5 W0 p c u0 u1 u2 u3 u4 err Y ic ib is γ L W)(hp:p<W0.heap.size)(hc:c<W0.heap.size)(hpc:p≠c)(n1:ib≠ic)(n2:ib≠is)(hi:L ic=true)(hs:L is=false)(hb:L ib=false)
  (hx:GJ p [(if err=0 then [S γ.T (FG Y).length γ.tc,S γ.G Y.gens.length γ.gc,u2,u3,u4]else [u0,u1,u2,u3,u4],87)] W1) (ht:Tw (fun b=>b=p) W W1):R5 W0 p c u0 u1 u2 u3 u4 err Y ic ib is γ (upd L ib) W1:=by
 have e:∀j,j≠ib→upd L ib j=L j:=fun j hj=>Fx hj;refine⟨fun h'=>?_,fun _=>(h.st hi).tw ht (fun g hg=>by subst hg;exact hp),h.tw.trans ht (fun _ _ h=>.inl h),?_,?_⟩
 ·rw[IF]at h';cases h'
 ·rw[IF];exact hx
 ·rw[e _ (BW n2)];exact h.rb.tw ht (fun k hk=>by simp at hk;subst hk;exact fun h=>hpc (by simpa using h.symm))
theorem R5.put(h:R5 W0 p c u0 u1 u2 u3 u4 err Y ic ib is γ L W)(hp:p<W0.heap.size)(hc:c<W0.heap.size)(hpc:p≠c)(n1:is≠ic)(n2:is≠ib)(hi:L ic=true)(hb:L ib=true)(hs:L is=false):R5 W0 p c u0 u1 u2 u3 u4 err Y ic ib is γ (upd L is) (W.setCells c 0 [I K err,I K 0,I K 0,S N 0 0,I K 0]):=by
 have e:∀j,j≠is→upd L is j=L j:=fun j hj=>Fx hj;have hrb:=h.rb;rw[hs]at hrb;have ht:Tw (fun b=>b=p∨b=c) W (W.setCells c 0 [I K err,I K 0,I K 0,S N 0 0,I K 0]):=(Tw.refl _ _).sets (.inl (.inr R));refine⟨fun _ h'=>?_,fun _=>(h.st hi).tw ht (fun g hg=>by rcases hg with rfl|rfl <;>assumption),h.tw.sets (.inl (.inr R)),?_,?_⟩
 ·rw[IF]at h';cases h'
 ·rw[e _ (BW n2)];exact h.bx.turn (by simp only[AJ,AK];omega)
 ·rw[IF];exact hrb.give 0 R _ R
theorem R5.done(h:R5 W0 p c u0 u1 u2 u3 u4 err Y ic ib is γ L W){w:World}(h0:Below w.heap.size w W0)(hc:w.heap.size≤c)(hB:GJ p [([u0,u1,u2,u3,u4],87)] w)(hi:L ic=true)(hb:L ib=true):Ro p u2 u3 u4 err Y w W:=by
 have ht:Tw (fun b=>b=p) w W:=(Tw.of_below (av:=fun b=>b=p) h0).trans h.tw (fun k hk hh=>by rcases hh with rfl|rfl <;>omega)
 have hbx:=h.bx;rw[hb]at hbx;unfold Ro;by_cases he:err=0
 ·simp only[BX,AF he]at hbx;rw[AF he];exact⟨_,_,_,_,hbx,(h.st hi).le h0.size,ht⟩
 ·simp only[BX,AA he]at hbx;rw[AA he];exact Sw ht hB hbx
end
theorem K9(p:Nat)(T:Option Addr)(tl tc:Nat)(G:Option Addr)(gl gc:Nat)(err:Int)(u0 u1 u2 u3 u4:Value)(w:World)(hB:GJ p [([u0,u1,u2,u3,u4],87)] w):
  Calls Au 73 #[Ae (O ⟨p,0,N⟩),JN T tl tc G gl gc,I K err] w fun e w'=>e=Ao (Af #[I K err,I K 0,I K 0,S N 0 0,I K 0])∧GJ p [(if err=0 then [S T tl tc,S G gl gc,u2,u3,u4]else [u0,u1,u2,u3,u4],87)] w'∧Tw (fun b=>b=p) w w':=by
 by_cases he:err=0
 ·refine(Zh p T tl tc G gl gc err u0 u1 u2 u3 u4 w hB he).mono ?_;rintro e w'⟨rfl,h1,h2⟩;rw[AF he];exact⟨rfl,h1,h2⟩
 ·refine(Zi p T tl tc G gl gc err u0 u1 u2 u3 u4 w hB he).mono ?_;rintro e w'⟨rfl,h1⟩;rw[AA he];exact⟨rfl,hB.below h1,Tw.of_below h1⟩
theorem gT(p:Nat)(T:Option Addr)(tc:Nat)(G:Option Addr)(gc:Nat)(u2 u3 u4:Value)(X:Wd)(d:LE)(w:World)(hB:GJ p [([S T (FG X).length tc,S G X.gens.length gc,u2,u3,u4],87)] w)(hS:Ir w T G (FG X) X)(hk:d.k=2):
  Calls Au 42 #[Ae (O ⟨p,0,N⟩),Pv d] w fun e w'=>e=Ao (Af #[I K (GS X d.i d.g).1,I K 0,I K 0,S N 0 0,I K 0])∧Ro p u2 u3 u4 (GS X d.i d.g).1 (GS X d.i d.g).2 w w':=by
 have hC:=fun W (hb:Below w.heap.size w W)=>YR T tc G gc (FG X) X d.i d.g W (hS.below hb);unfold JN FJ at hC;obtain⟨err,herr⟩:∃err,err=(GS X d.i d.g).1:=⟨_,rfl⟩;obtain⟨Y,hY⟩:∃Y,Y=(GS X d.i d.g).2:=⟨_,rfl⟩;rw[←herr,←hY]at hC⊢;have hBE:=fun T' tc' G' gc' W h=>K9 p T' (FG Y).length tc' G' Y.gens.length gc' err (S T (FG X).length tc) (S G X.gens.length gc) u2 u3 u4 W h;unfold JN at hBE;clear hS herr hY;obtain⟨W0,hW0,hbx,hX0⟩:=Gs w [([I K d.k,I K d.has,I K d.p,I K d.n,I K d.i,I K d.g,I K d.s.m,I K d.s.al,I K d.s.no,S d.s.A d.s.len d.s.cap,I K d.fa,I K d.fn],89),([I K 0,I K 0,I K 0,S N 0 0,I K 0],64)];have HW0:Hid ((w.alloc (Al #[I K d.k,I K d.has,I K d.p,I K d.n,I K d.i,I K d.g,I K d.s.m,I K d.s.al,I K d.s.no,S d.s.A d.s.len d.s.cap,I K d.fa,I K d.fn] 89)).alloc (Al #[I K 0,I K 0,I K 0,S N 0 0,I K 0] 64)=W0):=An hW0;clear hW0;have hp:p<w.heap.size:=hB.lt (k:=0) R;have hsz:w.heap.size+2≤W0.heap.size:=hX0.sz (by simp);have hP0:=hB.below hbx;have HL0:=An hbx;have hR0:GJ (w.heap.size+1) [([I K 0,I K 0,I K 0,S N 0 0,I K 0],64)] W0:=fun k vs t hk=>by
  match k,hk with
  |0,hk=>have:=hX0 1 vs t hk;simpa using this
  |k+1,hk=>simp at hk
 have h0:R5 W0 p (w.heap.size+1) (S T (FG X).length tc) (S G X.gens.length gc) u2 u3 u4 err Y 8 11 12 g4 (fun _=>false) W0.drew:=R5.start hP0 hR0;have z0:=hX0.cell 0 R 0 R;rw[Ay,hk]at z0;clear hk;clear hbx hR0;unfold Pv;go_enter Tryz.func42,Tryz.ntmps42
 go_upto_region 1 with fail
 rw[AN HW0];go_upto_region 5 with fail
 have h0:=h0;refine FW (fun(γ:G4)=>[Ae (O ⟨p,0,N⟩),Ae (O ⟨p,0,N⟩),Ae (O ⟨p,0,N⟩),Ae (O ⟨p,0,N⟩),Ae (O ⟨p,0,N⟩),Af #[S T (FG X).length tc,S G X.gens.length gc],Ae (O ⟨w.heap.size,4,N⟩),Af #[I K d.i,I K d.g],Ai #[Af #[S γ.T (FG Y).length γ.tc,S γ.G Y.gens.length γ.gc],I K err],Af #[S γ.T (FG Y).length γ.tc,S γ.G Y.gens.length γ.gc],I K err,Af #[I K err,I K 0,I K 0,S N 0 0,I K 0],undef]) (fun(γ:G4) L W=>R5 W0 p (w.heap.size+1) (S T (FG X).length tc) (S G X.gens.length gc) u2 u3 u4 err Y 8 11 12 γ L W) (g4) (by kernel_rfl) (by kernel_rfl) (by kernel_rfl) (by kernel_rfl) h0 ?hstep ?hend
 case hstep =>
  intro F γ hout hkn ix o ho L w1 hD hL hed hcl;simp only[Hu,G9,Br,Bx]at hkn;have e0:F.tmps.getD 0 undef=Ae (O ⟨p,0,N⟩):=hout 0 (by decide +kernel);have e3:F.tmps.getD 3 undef=Ae (O ⟨w.heap.size,0,N⟩):=hout 3 (by decide +kernel);have e4:F.tmps.getD 4 undef=Ae (O ⟨w.heap.size+1,0,N⟩):=hout 4 (by decide +kernel)
  match ix,ho with
  |0,ho|1,ho|2,ho|3,ho|4,ho|6,ho|9,ho|10,ho =>
   simp at ho;subst ho;exact .inl ⟨rfl,FB γ _ (by simp[go_sem,Aq,-Ap,hkn,e0,e3]) R (hD.same (by decide) (by decide) (by decide)) (fun _ _ _=>rfl)⟩
  |5,ho =>
   simp at ho;subst ho;have q8:L 8=false:=FA hcl hL 13 8 (by kernel_rfl);have q11:L 11=false:=FA hcl hL 13 11 (by kernel_rfl);have q12:L 12=false:=FA hcl hL 13 12 (by kernel_rfl);have bb:=hD.bx;rw[q11]at bb;obtain⟨c0,c1⟩:=bb.g2 R;exact .inl ⟨rfl,FB γ _ (by simp[go_sem,Aq,-Ap,hkn,c0,c1]) R (hD.same (by decide) (by decide) (by decide)) (fun _ _ _=>rfl)⟩
  |7,ho =>
   simp at ho;subst ho;have q8:L 8=false:=FA hcl hL 13 8 (by kernel_rfl);have q11:L 11=false:=FA hcl hL 13 11 (by kernel_rfl);have q12:L 12=false:=FA hcl hL 13 12 (by kernel_rfl);have bb:=hX0.below (hD.bel q11 q12);have c4:=bb.cell 0 R 4 R;have c5:=bb.cell 0 R 5 R;rw[Ay]at c4 c5;exact .inl ⟨rfl,FB γ _ (by simp[go_sem,Aq,-Ap,hkn,c4,c5]) R (hD.same (by decide) (by decide) (by decide)) (fun _ _ _=>rfl)⟩
  |8,ho =>
   simp at ho;subst ho;have q11:L 11=false:=FA hcl hL 13 11 (by kernel_rfl);have q12:L 12=false:=FA hcl hL 13 12 (by kernel_rfl);have q9:L 9=false:=FA hcl hL 13 9 (by kernel_rfl);refine .inl ⟨rfl,GU 74 #[Af #[S T (FG X).length tc,S G X.gens.length gc],Af #[I K d.i,I K d.g]] (by simp[go_sem,Aq,-Ap,hkn]) ?_⟩;refine(hC w1 ((AN HL0).trans ((hD.bel q11 q12).mono (AN HL0).size))).mono ?_;rintro e w6'⟨T6,tc6,G6,gc6,rfl,hN6,hb6⟩;exact⟨_,⟨T6,tc6,G6,gc6⟩,rfl,rfl,hD.ask (by omega) (by decide) (by decide) q11 q12 hN6 hb6,I5 hcl hL 13 [9] (by kernel_rfl) (fun j h1 h2=>by match j with|0|1|2|3|4|5|6|7|10|11|12=>rfl|8=>exact absurd R h1|9=>simp at h2|j+13=>rfl)⟩
  |11,ho =>
   simp at ho;subst ho;have q12:L 12=false:=FA hcl hL 13 12 (by kernel_rfl);have q8:L 8=true:=hcl 9 _ R (hed 9 (by kernel_rfl)) 8 (by kernel_rfl);have hbx:=hD.bx;rw[hL]at hbx;refine .inl ⟨rfl,GU 73 #[Ae (O ⟨p,0,N⟩),Af #[S γ.T (FG Y).length γ.tc,S γ.G Y.gens.length γ.gc],I K err] (by simp[go_sem,Aq,-Ap,hkn]) ?_⟩;refine(hBE γ.T γ.tc γ.G γ.gc w1 hbx).mono ?_;rintro e w6'⟨rfl,h1,h2⟩;exact⟨_,γ,rfl,rfl,hD.bec (by omega) (by omega) (by omega) (by decide) (by decide) q8 q12 hL h1 h2,fun _ _ _=>rfl⟩
  |12,ho =>
   simp at ho;subst ho;have q11:L 11=true:=hed 11 (by kernel_rfl);have q8:L 8=true:=hcl 9 _ R (hcl 11 _ R q11 9 (by kernel_rfl)) 8 (by kernel_rfl);have hrb:=hD.rb;rw[hL]at hrb;exact .inl ⟨rfl,Gy γ 64 (Am 4) (Am 28) R (w.heap.size+1) 0 [I K err,I K 0,I K 0,S N 0 0,I K 0] (by simp[Aq,-Ap,e4]) (by simp[Aq,-Ap,hkn]) (by simp[Ar]) JT (hrb.there 0 R 5 R) R (hD.put (by omega) (by omega) (by omega) (by decide) (by decide) q8 q11 hL) (fun _ _ _=>rfl)⟩
  |ix+13,ho=>simp at ho
 case hend =>
  intro γ L w9 hD hall;have a1:=hall 8 (by decide);have a2:=hall 11 (by decide);have a3:=hall 12 (by decide);have hrb:=hD.rb;rw[a3,AF R]at hrb;obtain⟨r0,r1,r2,r3,r4⟩:=hrb.g5 R;have HD:=(hD.done (AN HL0) (by omega) hB a1 a2);clear hall hD a1 a2 a3 hrb z0;simp only[GN,AI,AH,Ba,AJ,AK,Nat.reduceAdd,Bf,Be];go_frame;go_wp2;refine AG (by simp[results,Tryz.results42,go_sem,r0,r1,r2,r3,r4]<;>rfl) R ⟨rfl,HD⟩
theorem jX(p:Nat)(T:Option Addr)(tc:Nat)(G:Option Addr)(gc:Nat)(u2 u3 u4:Value)(X:Wd)(d:LE)(w:World)(hB:GJ p [([S T (FG X).length tc,S G X.gens.length gc,u2,u3,u4],87)] w)(hS:Ir w T G (FG X) X)(hk:d.k=3):
  Calls Au 42 #[Ae (O ⟨p,0,N⟩),Pv d] w fun e w'=>e=Ao (Af #[I K (Hc X d.i d.g d.p d.n).1,I K 0,I K 0,S N 0 0,I K 0])∧Ro p u2 u3 u4 (Hc X d.i d.g d.p d.n).1 (Hc X d.i d.g d.p d.n).2 w w':=by
 have hC:=fun W (hb:Below w.heap.size w W)=>aK T tc G gc (FG X) X d.i d.g d.p d.n W (hS.below hb);unfold JN FJ at hC;obtain⟨err,herr⟩:∃err,err=(Hc X d.i d.g d.p d.n).1:=⟨_,rfl⟩;obtain⟨Y,hY⟩:∃Y,Y=(Hc X d.i d.g d.p d.n).2:=⟨_,rfl⟩;rw[←herr,←hY]at hC⊢;have hBE:=fun T' tc' G' gc' W h=>K9 p T' (FG Y).length tc' G' Y.gens.length gc' err (S T (FG X).length tc) (S G X.gens.length gc) u2 u3 u4 W h;unfold JN at hBE;clear hS herr hY;obtain⟨W0,hW0,hbx,hX0⟩:=Gs w [([I K d.k,I K d.has,I K d.p,I K d.n,I K d.i,I K d.g,I K d.s.m,I K d.s.al,I K d.s.no,S d.s.A d.s.len d.s.cap,I K d.fa,I K d.fn],89),([I K 0,I K 0,I K 0,S N 0 0,I K 0],64)];have HW0:Hid ((w.alloc (Al #[I K d.k,I K d.has,I K d.p,I K d.n,I K d.i,I K d.g,I K d.s.m,I K d.s.al,I K d.s.no,S d.s.A d.s.len d.s.cap,I K d.fa,I K d.fn] 89)).alloc (Al #[I K 0,I K 0,I K 0,S N 0 0,I K 0] 64)=W0):=An hW0;clear hW0;have hp:p<w.heap.size:=hB.lt (k:=0) R;have hsz:w.heap.size+2≤W0.heap.size:=hX0.sz (by simp);have hP0:=hB.below hbx;have HL0:=An hbx;have hR0:GJ (w.heap.size+1) [([I K 0,I K 0,I K 0,S N 0 0,I K 0],64)] W0:=fun k vs t hk=>by
  match k,hk with
  |0,hk=>have:=hX0 1 vs t hk;simpa using this
  |k+1,hk=>simp at hk
 have h0:R5 W0 p (w.heap.size+1) (S T (FG X).length tc) (S G X.gens.length gc) u2 u3 u4 err Y 12 15 16 g4 (fun _=>false) W0.drew:=R5.start hP0 hR0;have z0:=hX0.cell 0 R 0 R;rw[Ay,hk]at z0;clear hk;clear hbx hR0;unfold Pv;go_enter Tryz.func42,Tryz.ntmps42
 go_upto_region 1 with fail
 rw[AN HW0];go_upto_region 7 with fail
 have h0:=h0;refine FW (fun(γ:G4)=>[Ae (O ⟨p,0,N⟩),Ae (O ⟨p,0,N⟩),Ae (O ⟨p,0,N⟩),Ae (O ⟨p,0,N⟩),Ae (O ⟨p,0,N⟩),Af #[S T (FG X).length tc,S G X.gens.length gc],Ae (O ⟨w.heap.size,4,N⟩),Af #[I K d.i,I K d.g],Ae (O ⟨w.heap.size,2,N⟩),I K d.p,Ae (O ⟨w.heap.size,3,N⟩),I K d.n,Ai #[Af #[S γ.T (FG Y).length γ.tc,S γ.G Y.gens.length γ.gc],I K err],Af #[S γ.T (FG Y).length γ.tc,S γ.G Y.gens.length γ.gc],I K err,Af #[I K err,I K 0,I K 0,S N 0 0,I K 0],undef]) (fun(γ:G4) L W=>R5 W0 p (w.heap.size+1) (S T (FG X).length tc) (S G X.gens.length gc) u2 u3 u4 err Y 12 15 16 γ L W) (g4) (by kernel_rfl) (by kernel_rfl) (by kernel_rfl) (by kernel_rfl) h0 ?hstep ?hend
 case hstep =>
  intro F γ hout hkn ix o ho L w1 hD hL hed hcl;simp only[Hu,G9,Br,Bx]at hkn;have e0:F.tmps.getD 0 undef=Ae (O ⟨p,0,N⟩):=hout 0 (by decide +kernel);have e3:F.tmps.getD 3 undef=Ae (O ⟨w.heap.size,0,N⟩):=hout 3 (by decide +kernel);have e4:F.tmps.getD 4 undef=Ae (O ⟨w.heap.size+1,0,N⟩):=hout 4 (by decide +kernel)
  match ix,ho with
  |0,ho|1,ho|2,ho|3,ho|4,ho|6,ho|8,ho|10,ho|13,ho|14,ho =>
   simp at ho;subst ho;exact .inl ⟨rfl,FB γ _ (by simp[go_sem,Aq,-Ap,hkn,e0,e3]) R (hD.same (by decide) (by decide) (by decide)) (fun _ _ _=>rfl)⟩
  |5,ho =>
   simp at ho;subst ho;have q12:L 12=false:=FA hcl hL 17 12 (by kernel_rfl);have q15:L 15=false:=FA hcl hL 17 15 (by kernel_rfl);have q16:L 16=false:=FA hcl hL 17 16 (by kernel_rfl);have bb:=hD.bx;rw[q15]at bb;obtain⟨c0,c1⟩:=bb.g2 R;exact .inl ⟨rfl,FB γ _ (by simp[go_sem,Aq,-Ap,hkn,c0,c1]) R (hD.same (by decide) (by decide) (by decide)) (fun _ _ _=>rfl)⟩
  |7,ho =>
   simp at ho;subst ho;have q12:L 12=false:=FA hcl hL 17 12 (by kernel_rfl);have q15:L 15=false:=FA hcl hL 17 15 (by kernel_rfl);have q16:L 16=false:=FA hcl hL 17 16 (by kernel_rfl);have bb:=hX0.below (hD.bel q15 q16);have c4:=bb.cell 0 R 4 R;have c5:=bb.cell 0 R 5 R;rw[Ay]at c4 c5;exact .inl ⟨rfl,FB γ _ (by simp[go_sem,Aq,-Ap,hkn,c4,c5]) R (hD.same (by decide) (by decide) (by decide)) (fun _ _ _=>rfl)⟩
  |9,ho =>
   simp at ho;subst ho;have q12:L 12=false:=FA hcl hL 17 12 (by kernel_rfl);have q15:L 15=false:=FA hcl hL 17 15 (by kernel_rfl);have q16:L 16=false:=FA hcl hL 17 16 (by kernel_rfl);have bb:=hX0.below (hD.bel q15 q16);have c4:=bb.cell 0 R 2 R;rw[Ay]at c4;exact .inl ⟨rfl,FB γ _ (by simp[go_sem,Aq,-Ap,hkn,c4]) R (hD.same (by decide) (by decide) (by decide)) (fun _ _ _=>rfl)⟩
  |11,ho =>
   simp at ho;subst ho;have q12:L 12=false:=FA hcl hL 17 12 (by kernel_rfl);have q15:L 15=false:=FA hcl hL 17 15 (by kernel_rfl);have q16:L 16=false:=FA hcl hL 17 16 (by kernel_rfl);have bb:=hX0.below (hD.bel q15 q16);have c4:=bb.cell 0 R 3 R;rw[Ay]at c4;exact .inl ⟨rfl,FB γ _ (by simp[go_sem,Aq,-Ap,hkn,c4]) R (hD.same (by decide) (by decide) (by decide)) (fun _ _ _=>rfl)⟩
  |12,ho =>
   simp at ho;subst ho;have q15:L 15=false:=FA hcl hL 17 15 (by kernel_rfl);have q16:L 16=false:=FA hcl hL 17 16 (by kernel_rfl);have q13:L 13=false:=FA hcl hL 17 13 (by kernel_rfl);refine .inl ⟨rfl,GU 75 #[Af #[S T (FG X).length tc,S G X.gens.length gc],Af #[I K d.i,I K d.g],I K d.p,I K d.n] (by simp[go_sem,Aq,-Ap,hkn]) ?_⟩;refine(hC w1 ((AN HL0).trans ((hD.bel q15 q16).mono (AN HL0).size))).mono ?_;rintro e w6'⟨T6,tc6,G6,gc6,rfl,hN6,hb6⟩;exact⟨_,⟨T6,tc6,G6,gc6⟩,rfl,rfl,hD.ask (by omega) (by decide) (by decide) q15 q16 hN6 hb6,I5 hcl hL 17 [13] (by kernel_rfl) (fun j h1 h2=>by match j with|0|1|2|3|4|5|6|7|8|9|10|11|14|15|16=>rfl|12=>exact absurd R h1|13=>simp at h2|j+17=>rfl)⟩
  |15,ho =>
   simp at ho;subst ho;have q16:L 16=false:=FA hcl hL 17 16 (by kernel_rfl);have q12:L 12=true:=hcl 13 _ R (hed 13 (by kernel_rfl)) 12 (by kernel_rfl);have hbx:=hD.bx;rw[hL]at hbx;refine .inl ⟨rfl,GU 73 #[Ae (O ⟨p,0,N⟩),Af #[S γ.T (FG Y).length γ.tc,S γ.G Y.gens.length γ.gc],I K err] (by simp[go_sem,Aq,-Ap,hkn]) ?_⟩;refine(hBE γ.T γ.tc γ.G γ.gc w1 hbx).mono ?_;rintro e w6'⟨rfl,h1,h2⟩;exact⟨_,γ,rfl,rfl,hD.bec (by omega) (by omega) (by omega) (by decide) (by decide) q12 q16 hL h1 h2,fun _ _ _=>rfl⟩
  |16,ho =>
   simp at ho;subst ho;have q15:L 15=true:=hed 15 (by kernel_rfl);have q12:L 12=true:=hcl 13 _ R (hcl 15 _ R q15 13 (by kernel_rfl)) 12 (by kernel_rfl);have hrb:=hD.rb;rw[hL]at hrb;exact .inl ⟨rfl,Gy γ 64 (Am 4) (Am 46) R (w.heap.size+1) 0 [I K err,I K 0,I K 0,S N 0 0,I K 0] (by simp[Aq,-Ap,e4]) (by simp[Aq,-Ap,hkn]) (by simp[Ar]) JT (hrb.there 0 R 5 R) R (hD.put (by omega) (by omega) (by omega) (by decide) (by decide) q12 q15 hL) (fun _ _ _=>rfl)⟩
  |ix+17,ho=>simp at ho
 case hend =>
  intro γ L w9 hD hall;have a1:=hall 12 (by decide);have a2:=hall 15 (by decide);have a3:=hall 16 (by decide);have hrb:=hD.rb;rw[a3,AF R]at hrb;obtain⟨r0,r1,r2,r3,r4⟩:=hrb.g5 R;have HD:=(hD.done (AN HL0) (by omega) hB a1 a2);clear hall hD a1 a2 a3 hrb z0;simp only[GN,AI,AH,Ba,AJ,AK,Nat.reduceAdd,Bf,Be];go_frame;go_wp2;refine AG (by simp[results,Tryz.results42,go_sem,r0,r1,r2,r3,r4]<;>rfl) R ⟨rfl,HD⟩
theorem gX(p:Nat)(T:Option Addr)(tc:Nat)(G:Option Addr)(gc:Nat)(u2 u3 u4:Value)(X:Wd)(d:LE)(w:World)(hB:GJ p [([S T (FG X).length tc,S G X.gens.length gc,u2,u3,u4],87)] w)(hS:Ir w T G (FG X) X)(hk:d.k=4):
  Calls Au 42 #[Ae (O ⟨p,0,N⟩),Pv d] w fun e w'=>e=Ao (Af #[I K (GK X d.i d.g d.p).1,I K 0,I K 0,S N 0 0,I K 0])∧Ro p u2 u3 u4 (GK X d.i d.g d.p).1 (GK X d.i d.g d.p).2 w w':=by
 have hC:=fun W (hb:Below w.heap.size w W)=>YU T tc G gc (FG X) X d.i d.g d.p W (hS.below hb);unfold JN FJ at hC;obtain⟨err,herr⟩:∃err,err=(GK X d.i d.g d.p).1:=⟨_,rfl⟩;obtain⟨Y,hY⟩:∃Y,Y=(GK X d.i d.g d.p).2:=⟨_,rfl⟩;rw[←herr,←hY]at hC⊢;have hBE:=fun T' tc' G' gc' W h=>K9 p T' (FG Y).length tc' G' Y.gens.length gc' err (S T (FG X).length tc) (S G X.gens.length gc) u2 u3 u4 W h;unfold JN at hBE;clear hS herr hY;obtain⟨W0,hW0,hbx,hX0⟩:=Gs w [([I K d.k,I K d.has,I K d.p,I K d.n,I K d.i,I K d.g,I K d.s.m,I K d.s.al,I K d.s.no,S d.s.A d.s.len d.s.cap,I K d.fa,I K d.fn],89),([I K 0,I K 0,I K 0,S N 0 0,I K 0],64)];have HW0:Hid ((w.alloc (Al #[I K d.k,I K d.has,I K d.p,I K d.n,I K d.i,I K d.g,I K d.s.m,I K d.s.al,I K d.s.no,S d.s.A d.s.len d.s.cap,I K d.fa,I K d.fn] 89)).alloc (Al #[I K 0,I K 0,I K 0,S N 0 0,I K 0] 64)=W0):=An hW0;clear hW0;have hp:p<w.heap.size:=hB.lt (k:=0) R;have hsz:w.heap.size+2≤W0.heap.size:=hX0.sz (by simp);have hP0:=hB.below hbx;have HL0:=An hbx;have hR0:GJ (w.heap.size+1) [([I K 0,I K 0,I K 0,S N 0 0,I K 0],64)] W0:=fun k vs t hk=>by
  match k,hk with
  |0,hk=>have:=hX0 1 vs t hk;simpa using this
  |k+1,hk=>simp at hk
 have h0:R5 W0 p (w.heap.size+1) (S T (FG X).length tc) (S G X.gens.length gc) u2 u3 u4 err Y 10 13 14 g4 (fun _=>false) W0.drew:=R5.start hP0 hR0;have z0:=hX0.cell 0 R 0 R;rw[Ay,hk]at z0;clear hk;clear hbx hR0;unfold Pv;go_enter Tryz.func42,Tryz.ntmps42
 go_upto_region 1 with fail
 rw[AN HW0];go_upto_region 9 with fail
 have h0:=h0;refine FW (fun(γ:G4)=>[Ae (O ⟨p,0,N⟩),Ae (O ⟨p,0,N⟩),Ae (O ⟨p,0,N⟩),Ae (O ⟨p,0,N⟩),Ae (O ⟨p,0,N⟩),Af #[S T (FG X).length tc,S G X.gens.length gc],Ae (O ⟨w.heap.size,4,N⟩),Af #[I K d.i,I K d.g],Ae (O ⟨w.heap.size,2,N⟩),I K d.p,Ai #[Af #[S γ.T (FG Y).length γ.tc,S γ.G Y.gens.length γ.gc],I K err],Af #[S γ.T (FG Y).length γ.tc,S γ.G Y.gens.length γ.gc],I K err,Af #[I K err,I K 0,I K 0,S N 0 0,I K 0],undef]) (fun(γ:G4) L W=>R5 W0 p (w.heap.size+1) (S T (FG X).length tc) (S G X.gens.length gc) u2 u3 u4 err Y 10 13 14 γ L W) (g4) (by kernel_rfl) (by kernel_rfl) (by kernel_rfl) (by kernel_rfl) h0 ?hstep ?hend
 case hstep =>
  intro F γ hout hkn ix o ho L w1 hD hL hed hcl;simp only[Hu,G9,Br,Bx]at hkn;have e0:F.tmps.getD 0 undef=Ae (O ⟨p,0,N⟩):=hout 0 (by decide +kernel);have e3:F.tmps.getD 3 undef=Ae (O ⟨w.heap.size,0,N⟩):=hout 3 (by decide +kernel);have e4:F.tmps.getD 4 undef=Ae (O ⟨w.heap.size+1,0,N⟩):=hout 4 (by decide +kernel)
  match ix,ho with
  |0,ho|1,ho|2,ho|3,ho|4,ho|6,ho|8,ho|11,ho|12,ho =>
   simp at ho;subst ho;exact .inl ⟨rfl,FB γ _ (by simp[go_sem,Aq,-Ap,hkn,e0,e3]) R (hD.same (by decide) (by decide) (by decide)) (fun _ _ _=>rfl)⟩
  |5,ho =>
   simp at ho;subst ho;have q10:L 10=false:=FA hcl hL 15 10 (by kernel_rfl);have q13:L 13=false:=FA hcl hL 15 13 (by kernel_rfl);have q14:L 14=false:=FA hcl hL 15 14 (by kernel_rfl);have bb:=hD.bx;rw[q13]at bb;obtain⟨c0,c1⟩:=bb.g2 R;exact .inl ⟨rfl,FB γ _ (by simp[go_sem,Aq,-Ap,hkn,c0,c1]) R (hD.same (by decide) (by decide) (by decide)) (fun _ _ _=>rfl)⟩
  |7,ho =>
   simp at ho;subst ho;have q10:L 10=false:=FA hcl hL 15 10 (by kernel_rfl);have q13:L 13=false:=FA hcl hL 15 13 (by kernel_rfl);have q14:L 14=false:=FA hcl hL 15 14 (by kernel_rfl);have bb:=hX0.below (hD.bel q13 q14);have c4:=bb.cell 0 R 4 R;have c5:=bb.cell 0 R 5 R;rw[Ay]at c4 c5;exact .inl ⟨rfl,FB γ _ (by simp[go_sem,Aq,-Ap,hkn,c4,c5]) R (hD.same (by decide) (by decide) (by decide)) (fun _ _ _=>rfl)⟩
  |9,ho =>
   simp at ho;subst ho;have q10:L 10=false:=FA hcl hL 15 10 (by kernel_rfl);have q13:L 13=false:=FA hcl hL 15 13 (by kernel_rfl);have q14:L 14=false:=FA hcl hL 15 14 (by kernel_rfl);have bb:=hX0.below (hD.bel q13 q14);have c4:=bb.cell 0 R 2 R;rw[Ay]at c4;exact .inl ⟨rfl,FB γ _ (by simp[go_sem,Aq,-Ap,hkn,c4]) R (hD.same (by decide) (by decide) (by decide)) (fun _ _ _=>rfl)⟩
  |10,ho =>
   simp at ho;subst ho;have q13:L 13=false:=FA hcl hL 15 13 (by kernel_rfl);have q14:L 14=false:=FA hcl hL 15 14 (by kernel_rfl);have q11:L 11=false:=FA hcl hL 15 11 (by kernel_rfl);refine .inl ⟨rfl,GU 76 #[Af #[S T (FG X).length tc,S G X.gens.length gc],Af #[I K d.i,I K d.g],I K d.p] (by simp[go_sem,Aq,-Ap,hkn]) ?_⟩;refine(hC w1 ((AN HL0).trans ((hD.bel q13 q14).mono (AN HL0).size))).mono ?_;rintro e w6'⟨T6,tc6,G6,gc6,rfl,hN6,hb6⟩;exact⟨_,⟨T6,tc6,G6,gc6⟩,rfl,rfl,hD.ask (by omega) (by decide) (by decide) q13 q14 hN6 hb6,I5 hcl hL 15 [11] (by kernel_rfl) (fun j h1 h2=>by match j with|0|1|2|3|4|5|6|7|8|9|12|13|14=>rfl|10=>exact absurd R h1|11=>simp at h2|j+15=>rfl)⟩
  |13,ho =>
   simp at ho;subst ho;have q14:L 14=false:=FA hcl hL 15 14 (by kernel_rfl);have q10:L 10=true:=hcl 11 _ R (hed 11 (by kernel_rfl)) 10 (by kernel_rfl);have hbx:=hD.bx;rw[hL]at hbx;refine .inl ⟨rfl,GU 73 #[Ae (O ⟨p,0,N⟩),Af #[S γ.T (FG Y).length γ.tc,S γ.G Y.gens.length γ.gc],I K err] (by simp[go_sem,Aq,-Ap,hkn]) ?_⟩;refine(hBE γ.T γ.tc γ.G γ.gc w1 hbx).mono ?_;rintro e w6'⟨rfl,h1,h2⟩;exact⟨_,γ,rfl,rfl,hD.bec (by omega) (by omega) (by omega) (by decide) (by decide) q10 q14 hL h1 h2,fun _ _ _=>rfl⟩
  |14,ho =>
   simp at ho;subst ho;have q13:L 13=true:=hed 13 (by kernel_rfl);have q10:L 10=true:=hcl 11 _ R (hcl 13 _ R q13 11 (by kernel_rfl)) 10 (by kernel_rfl);have hrb:=hD.rb;rw[hL]at hrb;exact .inl ⟨rfl,Gy γ 64 (Am 4) (Am 62) R (w.heap.size+1) 0 [I K err,I K 0,I K 0,S N 0 0,I K 0] (by simp[Aq,-Ap,e4]) (by simp[Aq,-Ap,hkn]) (by simp[Ar]) JT (hrb.there 0 R 5 R) R (hD.put (by omega) (by omega) (by omega) (by decide) (by decide) q10 q13 hL) (fun _ _ _=>rfl)⟩
  |ix+15,ho=>simp at ho
 case hend =>
  intro γ L w9 hD hall;have a1:=hall 10 (by decide);have a2:=hall 13 (by decide);have a3:=hall 14 (by decide);have hrb:=hD.rb;rw[a3,AF R]at hrb;obtain⟨r0,r1,r2,r3,r4⟩:=hrb.g5 R;have HD:=(hD.done (AN HL0) (by omega) hB a1 a2);clear hall hD a1 a2 a3 hrb z0;simp only[GN,AI,AH,Ba,AJ,AK,Nat.reduceAdd,Bf,Be];go_frame;go_wp2;refine AG (by simp[results,Tryz.results42,go_sem,r0,r1,r2,r3,r4]<;>rfl) R ⟨rfl,HD⟩
end Go.Proofs.YtnbleebilmghcabGreat
