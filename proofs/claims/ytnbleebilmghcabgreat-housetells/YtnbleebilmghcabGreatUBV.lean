/- package house: Play, when nothing is wrong. -/
import Derived.Test.YtnbleebilmghcabGreatUBK
set_option linter.all false
set_option maxRecDepth 8000
set_option maxHeartbeats 4000000
open Go.Value renaming int→I,slice→S,pointer→Ae,agg→Af,tuple→Ai,oneCell'→Ar
open Go.IntKind renaming i64→K
open Option renaming none→N,some→O
open Go.Obj renaming cells→Al
open Go.Operand renaming tmp→Am
open Go.Ending renaming returned→Ao
open Array renaming getD_eq_getD_getElem?→Ap
open Go.Act renaming eval→Aq
open Go.Proofs.Tryz renaming prog→Au
namespace Go.Proofs.YtnbleebilmghcabGreat
open Go Go.RowKit
attribute [local go_sem ↓] Go.wp_at_zero Go.wp_at_succ
theorem MO(mods:List Ho):∀(l:List LE) (r:List Mj×HI),(I2 mods l r).1.length=r.1.length+l.length
 |[],r=>by simp[I2]
 |d :: l,r=>by
  rw[I2,MO mods l];simp only[List.length_append,List.length_cons,List.length_nil];omega
theorem YC(W:World)(x:Ki):∀j u,(GE x)[j]?=O u→(W.alloc (Al #[I K x.1.e,I K x.1.i,I K x.1.g,S x.2.1 x.1.bs.length x.2.2,I K x.1.n] 64)).cell? ((⟨W.heap.size,0,N⟩:Addr).add j)=O u:=fun j u hj=>by
 have h:=GJ.start W [(GE x,64)];have:=h.cell 0 R j hj;rw[Ay]at this;rw[CT,AT];exact this
theorem WR(M:Option Addr)(mc:Nat)(mods:List Ho)(LD:Option Addr)(lc:Nat)(l:List LE)(w:World)(hM:L7 GO 3 w M mods)(hL:Oz w LD l)(hw:Ns mods=(0,0))(hl:l.length≤80):
  Calls Au 15 #[.slice M mods.length mc,.slice LD l.length lc] w fun e w'=>∃(T:Option Addr) (tc:Nat) (G:Option Addr) (gc:Nat) (M':Option Addr) (mc':Nat) (SA:Option Addr) (sc:Nat) (CA:Option Addr) (cc:Nat) (ss:List GG) (la:List Ki),e=Ao (Ai #[Af #[.slice T (FG (KN mods l).2.X).length tc,.slice G (KN mods l).2.X.gens.length gc,.slice M' mods.length mc',.slice SA ss.length sc],.slice CA la.length cc,Af #[I K 0,I K 0]]) ∧
   Ir w' T G (FG (KN mods l).2.X) (KN mods l).2.X∧L7 GO 3 w' M' mods∧Iw w' SA ss.length (fun j=>ss.getD j dS)∧ss.map I1=(KN mods l).2.S∧Sq w' CA la∧la.map Prod.fst=(KN mods l).1∧Below w.heap.size w w':=by
 have hml:mods.length≤6:=by
  unfold Ns at hw;by_cases h:6<mods.length
  ·rw[AF h]at hw;cases hw
  ·omega
 have hCM:=fun W (hb:Below w.heap.size w W)=>VA M mc mods W (by omega) (hM.below hb);have hWM:=fun W (hb:Below w.heap.size w W)=>L9 M mc mods W (hM.below hb);unfold GC at hWM;have hz:Ns mods=(0,0):=hw;rw[hz]at hWM;obtain⟨f0,hf0⟩:∃f0:Int,f0=0:=⟨_,rfl⟩;clear f0 hf0;clear hz hw hM;have d80:decide ((80:Int)<(l.length:Int))=false:=AO (by omega);obtain⟨i64',hi64,hz64,hs64,hb64⟩:=BC eB;obtain⟨W0,hW0,hbx,hX0⟩:=Gs w [([.slice N 0 0,.slice N 0 0,.slice N 0 0,.slice N 0 0],53),([I K 0,I K 0],29)];have HW0:Hid ((w.alloc (Al #[.slice N 0 0,.slice N 0 0,.slice N 0 0,.slice N 0 0] 53)).alloc (Al #[I K 0,I K 0] 29)=W0):=An hW0;clear hW0;have HL0:=An hbx;clear hbx;go_enter Tryz.func15,Tryz.ntmps15
 go_upto_region 1 with fail
 rw[AN HW0];go_wp2_with fail
 go_at_call 17;refine(hWM W0 (AN HL0)).mono ?_;rintro e wq⟨rfl,hb1⟩;obtain⟨W2,hW2,hbx,hX2⟩:=Gs wq [([I K 0,I K 0],29)];have HW2:Hid (wq.alloc (Al #[I K 0,I K 0] 29)=W2):=An hW2;clear hW2;have hb12:=hb1.trans (hbx.mono hb1.size);have HL2:=An ((AN HL0).trans (hb12.mono (AN HL0).size));have HX2:=(hX0.below hb12);have hz1:w.heap.size+2≤wq.heap.size:=(hX0.below hb1).sz (by simp);have q0:=hX2.cell 0 R 0 R;rw[Ay]at q0;clear hb1 hbx hb12 hX0 hWM;go_upto_region 2 with fail
 rw[AN HW2];go_wp2_with fail
 go_at_call 41;refine(hCM W2 (AN HL2)).mono ?_;rintro e w3⟨M3,c3,rfl,ho3,hb3⟩;obtain⟨W4,hW4,hbx,hX4⟩:=Gs w3 [([.slice N 0 0,.slice N 0 0,.slice M3 mods.length c3,.slice N 0 0,.slice N 0 0],87)];have HW4:Hid (w3.alloc (Al #[.slice N 0 0,.slice N 0 0,.slice M3 mods.length c3,.slice N 0 0,.slice N 0 0] 87)=W4):=An hW4;clear hW4;have hb34:=hb3.trans (hbx.mono hb3.size);have hz2:w.heap.size+2≤w3.heap.size:=by have:=(HX2.below hb3).sz (by simp);simpa using this
 have hzW:w.heap.size+2≤W2.heap.size:=by have:=HX2.sz (by simp);simpa using this
 have HPL:(PL w w3.heap.size M3 c3 mods N 0 N 0 N 0 N 0 FL [] [] W4):=An
  ⟨⟨hX4,ID.triv (fun W=>(LM W.heap.size W).st),(ID.own (FT ho3 hbx) (fun g hg hh=>by
    rcases hh with e|e|e|e
    ·have:=(ho3.lt g hg).2;omega
    ·cases e
    ·cases e
    ·have:=(ho3.lt g hg).1;omega)).imp (fun W h=>L7.own MS h),Bn _ _ _ _,ID.triv (fun W s hs=>by cases hs)⟩,
   Bn _ _ _ _,ID.triv (fun W s hs=>by cases hs),HX2.below hb34,(AN HL2).trans (hb34.mono (AN HL2).size),hz2⟩
 clear q0 ho3 hb3 hbx hb34 hX4 HX2 hX2 HL2 hCM hz1;go_upto_region 7 with fail
 rw[AN HW4];go_wp2_with fail
 go_loopw [30] (fun x wr=>∃(k:Nat) (T:Option Addr) (tc:Nat) (G:Option Addr) (gc:Nat) (SA:Option Addr) (sc:Nat) (CA:Option Addr) (cc:Nat) (X:Wd) (ss:List GG) (la:List Ki),k≤l.length∧x=I K (k:Int)∧PL w w3.heap.size M3 c3 mods T tc G gc SA sc CA cc X ss la wr∧I2 mods (l.take k) ([],h0)=(la.map Prod.fst,⟨X,ss.map I1⟩)) (fun x _=>l.length - (intOf x).toNat)
 case atStart=>exact⟨0,N,0,N,0,N,0,N,0,FL,[],[],AS _,rfl,HPL,rfl⟩
 case round =>
  clear HPL;obtain⟨k,T,tc,G,gc,SA,sc,CA,cc,X,ss,la,hk,rfl,hPL,hpl⟩:=hrel;by_cases hlt:k<l.length
  ·have k0:(0:Int)≤(k:Int):=(by omega);have k1:(k:Int)<(l.length:Int):=(by omega);have hok:XP mods ⟨X,ss.map I1⟩:=by
    have:=P2 (mods:=mods) (l.take k) ([],h0) (Xo mods);rw[hpl]at this;exact this
   have hsn:I2 mods (l.take (k+1)) ([],h0)=(la.map Prod.fst++[(Ka mods ⟨X,ss.map I1⟩ l[k]).1],(Ka mods ⟨X,ss.map I1⟩ l[k]).2):=by
    rw[A0 hlt,NC,hpl]
   have hkl:la.length≤80:=by
    have e1:=MO mods (l.take k) ([],h0);rw[hpl]at e1;simp only[Bj,AK,AZ]at e1;omega
   have hdk:l[k]?=O l[k]:=AE hlt;obtain⟨b,off,hLe,hdc⟩:=(hL.below hPL.bel).at_ k _ hdk;have hact:=hL.acts _ (Bm hlt);generalize l[k]=d at *;obtain⟨wk,rfl⟩:∃wk,wk=wr:=⟨_,rfl⟩;have c0:=hdc 0 _ R;have c1:=hdc 1 _ R;have c2:=hdc 2 _ R;have c3:=hdc 3 _ R;have c4:=hdc 4 _ R;have c5:=hdc 5 _ R;have c6:=hdc 6 _ R;have c7:=hdc 7 _ R;have c8:=hdc 8 _ R;have c9:=hdc 9 _ R;have c10:=hdc 10 _ R;have c11:=hdc 11 _ R;rw[Ay]at c0;obtain⟨W5,hW5,hbx,hX5⟩:=Gs wk [([I K d.k,I K d.has,I K d.p,I K d.n,I K d.i,I K d.g,I K d.s.m,I K d.s.al,I K d.s.no,.slice d.s.A d.s.len d.s.cap,I K d.fa,I K d.fn],89)];have HW5:Hid (wk.alloc (Al #[I K d.k,I K d.has,I K d.p,I K d.n,I K d.i,I K d.g,I K d.s.m,I K d.s.al,I K d.s.no,.slice d.s.A d.s.len d.s.cap,I K d.fa,I K d.fn] 89)=W5):=An hW5;clear hW5;have hP5:=hPL.below hbx;have hact5:=hact.below hP5.bel;have hDO:=jb _ _ _ _ _ _ _ _ _ _ _ mods X ss d W5 hP5.gh hP5.exl hact5 hml hok;unfold Pv at hDO;obtain⟨z0,z1,z2,z3,z4,z5,z6,z7,z8,z9,z10,z11⟩:=hX5.g12 R;have HSN:=An hsn;subst hLe;clear hbx hact hact5 hX5 hpl hok hsn hdc hdk;go_upto_region 10 with fail
   rw[AN HW5];clear c0 c1 c2 c3 c4 c5 c6 c7 c8 c9 c10 c11;go_wp2_with fail
   go_at_call 42;refine hDO.mono ?_;rintro e w6⟨T6,tc6,G6,gc6,SA6,sc6,ss6,A6,c6,rfl,hg6,hs6,ho6,ht6,hn6⟩;obtain⟨a,ha⟩:∃a,a=(Ka mods ⟨X,ss.map I1⟩ d).1:=⟨_,rfl⟩;obtain⟨h',hh'⟩:∃h',h'=(Ka mods ⟨X,ss.map I1⟩ d).2:=⟨_,rfl⟩;rw[←ha]at ho6;rw[←hh']at hg6 hs6;have HSN2:=(show I2 mods (l.take (k+1)) ([],h0)=((la++[(a,A6,c6)]).map Prod.fst,⟨h'.X,ss6.map I1⟩) by rw[AN HSN,←ha,←hh',hs6,CH];rfl);have hPD:=PL.did hP5 (x:=(a,A6,c6)) hg6 ho6 ht6 hn6;rw[←ha];unfold Np;obtain⟨W7,hW7,hbx,hX7⟩:=Gs w6 [([I K a.e,I K a.i,I K a.g,.slice A6 a.bs.length c6,I K a.n],64)];have HW7:Hid (w6.alloc (Al #[I K a.e,I K a.i,I K a.g,.slice A6 a.bs.length c6,I K a.n] 64)=W7):=An hW7;clear hW7;have hP7:=hPD.below hbx;have u4:=hP7.gh.bx.cell 0 R 4 R;rw[Ay]at u4;obtain⟨y0,y1,y2,y3,y4⟩:=hX7.g5 R;generalize h'.X=X' at *;clear hg6 hs6 ho6 ht6 hn6 hPD hbx hX7 ha hh' hDO hP5 HSN z0 z1 z2 z3 z4 z5 z6 z7 z8 z9 z10 z11;go_upto_region 11 with fail
   rw[AN HW7];have hNS:=YC W7 (a,A6,c6);go_wp2_with(first
    |(at_builtin;refine FY _ R (Am 37) (Am 39) 54 R (w3.heap.size+1) 64 i64' _ 5 56 Tryz.underlying54 hi64 hz64 hs64 hb64 R (by decide) _ la.length (It GE la) R (hP7.below (GF W7 (Al (GE (a,A6,c6)).toArray 64))).co ⟨_,0,N⟩ 1 1 (GE (a,A6,c6)) R R hNS (Ow _) (by unfold maxLen;omega) (by omega) (AU hP7.gh.lt (GF _ _).size) (by omega) ?_;intro g capg w17 ho7 hg7 hw7;have HP8:=(hP7.below (GF W7 (Al (GE (a,A6,c6)).toArray 64)));have hbx8:=HP8.gh.bx.tw (Tw.of_grown (av:=fun b=>(Value.slice CA la.length cc).ownBlock=O b) hg7 (fun k hk=>hk)) (fun k hk e=>by simp only[AJ,AK]at hk;have:=(HP8.co.lt _ e).1;omega))
    |(refine FU R 54 (Am 41) (Am 40) R w3.heap.size 4 (.slice (O ⟨g,0,N⟩) (la.length+1) capg) R R R kU (Hj (hbx8.there 0 R 5 R) 4 1 (by omega)) ?_;intro W9 hW9;have HPF:=An (HP8.kept ho7 hg7 hw7);rw[←hW9]at HPF;clear hW9))
   go_roundw
   case rel=>exact⟨k+1,_,_,_,_,_,_,_,_,_,_,_,by omega,by go_num,AN HPF,HSN2⟩
   case measure=>simp[intOf];omega
  ·have hkl:l.take k=l:=BY (by omega);have dk:decide ((k:Int)<(l.length:Int))=false:=AO (by omega);rw[hkl]at hpl;have hpf:KN mods l=(la.map Prod.fst,⟨X,ss.map I1⟩):=hpl;have HPF:=An hpf;obtain⟨w9,rfl⟩:∃w9,w9=wr:=⟨_,rfl⟩;have h0:GJ w.heap.size [(if(fun(_:Nat)=>false) 5=true then [.slice T (FG X).length tc,.slice G X.gens.length gc,.slice M3 mods.length c3,.slice SA ss.length sc]else [.slice N 0 0,.slice N 0 0,.slice N 0 0,.slice N 0 0],53),([I K 0,I K 0],29)] w9.drew∧Tw (fun b=>b=w.heap.size∨b=w.heap.size+1) w9 w9.drew:=⟨hPL.rb,Tw.of_below Fv.drew⟩;clear hkl hpl hpf;have H0:=An h0;clear h0;go_upto_region 13 with fail
   have h0:=AN H0;refine FW (fun(γ:Unit)=>[Ae (O ⟨w3.heap.size,0,N⟩),Af #[.slice T (FG X).length tc,.slice G X.gens.length gc,.slice M3 mods.length c3,.slice SA ss.length sc],Ae (O ⟨w3.heap.size,4,N⟩),.slice CA la.length cc,Af #[I K 0,I K 0],undef,.slice CA la.length cc,undef]) (fun(_:Unit) L W=>GJ w.heap.size [(if L 5=true then [.slice T (FG X).length tc,.slice G X.gens.length gc,.slice M3 mods.length c3,.slice SA ss.length sc]else [.slice N 0 0,.slice N 0 0,.slice N 0 0,.slice N 0 0],53),([I K 0,I K 0],29)] W∧Tw (fun b=>b=w.heap.size∨b=w.heap.size+1) w9 W) (()) (by kernel_rfl) (by kernel_rfl) (by kernel_rfl) (by kernel_rfl) h0 ?hstep ?hend
   case hstep =>
    intro F γ hout hkn ix o ho L w1 hD hL hed hcl;simp only[Hu,G9,Br,Bx]at hkn;have e4:F.tmps.getD 4 undef=Ae (O ⟨w.heap.size,0,N⟩):=hout 4 (by decide +kernel);have e6:F.tmps.getD 6 undef=Ae (O ⟨w.heap.size+1,0,N⟩):=hout 6 (by decide +kernel);have e8:F.tmps.getD 8 undef=Ae (O ⟨w3.heap.size,0,N⟩):=hout 8 (by decide +kernel)
    match ix,ho with
    |0,ho|2,ho|4,ho|6,ho =>
     simp at ho;subst ho;exact .inl ⟨rfl,FB γ _ (by simp[go_sem,Aq,-Ap,hkn,e8]) R hD (fun _ _ _=>rfl)⟩
    |1,ho =>
     simp at ho;subst ho;have hlo:=hPL.lo;have bb:=hPL.gh.bx.tw hD.2 (fun k hk e=>by simp only[AJ,AK]at hk;omega);obtain⟨d0,d1,d2,d3⟩:=bb.g4 R;exact .inl ⟨rfl,FB γ _ (by simp[go_sem,Aq,-Ap,hkn,d0,d1,d2,d3]) R hD (fun _ _ _=>rfl)⟩
    |3,ho =>
     simp at ho;subst ho;have hlo:=hPL.lo;have bb:=hPL.gh.bx.tw hD.2 (fun k hk e=>by simp only[AJ,AK]at hk;omega);have d4:=bb.cell 0 R 4 R;rw[Ay]at d4;exact .inl ⟨rfl,FB γ _ (by simp[go_sem,Aq,-Ap,hkn,d4]) R hD (fun _ _ _=>rfl)⟩
    |5,ho =>
     simp at ho;subst ho;have h1:=hD.1;rw[hL]at h1;refine .inl ⟨rfl,Gy γ 53 (Am 4) (Am 44) R w.heap.size 0 [.slice T (FG X).length tc,.slice G X.gens.length gc,.slice M3 mods.length c3,.slice SA ss.length sc] (by simp[Aq,-Ap,e4]) (by simp[Aq,-Ap,hkn]) (by simp[Ar]) fT (h1.there 0 R 4 R) R ⟨?_,hD.2.sets (.inl (.inl R))⟩ (fun _ _ _=>rfl)⟩;rw[IF];exact h1.give 0 R [.slice T (FG X).length tc,.slice G X.gens.length gc,.slice M3 mods.length c3,.slice SA ss.length sc] R
    |7,ho =>
     simp at ho;subst ho;refine .inl ⟨rfl,Gy γ 29 (Am 6) (Am 47) R (w.heap.size+1) 0 [I K 0,I K 0] (by simp[Aq,-Ap,e6]) (by simp[Aq,-Ap,hkn]) (by simp[Ar]) Tz (hD.1.there 1 R 2 R) R ⟨?_,hD.2.sets (.inl (.inr R))⟩ (fun _ _ _=>rfl)⟩;rw[Fx (by decide)];exact hD.1.give 1 R [I K 0,I K 0] R
    |ix+8,ho=>simp at ho
   case hend =>
    intro γ L W10 hD hall;obtain⟨hB,hT⟩:=hD;rw[hall 5 (by decide),AF R]at hB;obtain⟨r0,r1,r2,r3⟩:=hB.g4 R;obtain⟨r4,r5⟩:=hB.f2 1 R;clear hall h0 hB;simp only[GN,AI,AH,Ba,AJ,AK,Nat.reduceAdd,Bf,Be];go_frame;go_wp2;have hP9:=hPL;have hlo:=hP9.lo;have hT:=hT;have hTA:Tw (Av w3.heap.size (.slice SA ss.length sc) (fun b=>(Value.slice CA la.length cc).ownBlock=O b∨b<w.heap.size+2)) w9 W10:=hT.mono (fun b _ hb=>.inr (.inr (.inr (by omega))));have hpf:=AN HPF;rw[hpf];refine AG (by simp[results,Tryz.results15,go_sem,r0,r1,r2,r3,r4,r5]<;>rfl) R ⟨T,tc,G,gc,M3,c3,SA,sc,CA,cc,ss,la,rfl,(hP9.gh.st.keep hTA).here,(hP9.gh.md.keep hTA).here,M0 (Iu hP9.gh.so hT (fun g hg hh=>by have:=(hP9.gh.so.lt g hg).1;omega)) (hP9.gh.ac.keep hTA).here dS,rfl,⟨L7.own Ox (Iu hP9.co hT (fun g hg hh=>by have:=(hP9.co.lt g hg).1;omega)),(hP9.bs.keep hTA).here⟩,rfl,hP9.bel.trans (hT.below hP9.bel.size (fun k hk hh=>by omega))⟩
end Go.Proofs.YtnbleebilmghcabGreat
