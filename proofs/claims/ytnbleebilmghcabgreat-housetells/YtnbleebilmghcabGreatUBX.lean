/- Ht3, Ht4 -/
import Derived.Test.YtnbleebilmghcabGreatUBY
import Derived.Test.YtnbleebilmghcabGreatUBV
import Derived.Test.YtnbleebilmghcabGreatUBU
import Derived.Test.YtnbleebilmghcabGreatUBW
import Derived.Test.YtnbleebilmghcabGreatUBR
set_option linter.all false
set_option maxRecDepth 8000
set_option maxHeartbeats 4000000
open Go.Value renaming int→I,slice→S,pointer→Ae,agg→Af,tuple→Ai,bool→Aj,oneCell'→Ar
open Go.IntKind renaming i64→K
open Option renaming none→N,some→O
open Go.Obj renaming cells→Al
open Go.Operand renaming tmp→Am
open Go.Ending renaming returned→Ao
open Array renaming getD_eq_getD_getElem?→Ap
open Go.Act renaming eval→Aq
open Go.Proofs.Tryz renaming prog→Au
namespace Go.Proofs.YtnbleebilmghcabGreat
open Go Go.RowKit
attribute [local go_sem ↓] Go.wp_at_zero Go.wp_at_succ
structure RP(w:World)(p:Nat)(A:Option Addr)(c:Nat)(G:Option Addr)(gc:Nat)(mv:Value)(SA:Option Addr)(sc:Nat)(CA:Option Addr)(cc:Nat)(X:Wd)(ss:List GG)(la lb:List Ki)(W:World):Prop where
 rh:RH w (fun b=>(Value.slice CA la.length cc).ownBlock=some b∨b<w.heap.size+2) p A c G gc mv SA sc X ss W
 co:W.ownsRow (p+1) 64 5 (.slice CA la.length cc) la.length (It GE la)
 bs:ID (fun W=>∀x∈lb,LB W x.2.1 x.1.bs) (Av p (.slice SA ss.length sc) (fun b=>(Value.slice CA la.length cc).ownBlock=some b∨b<w.heap.size+2)) W
 rb:GJ w.heap.size [([.slice none 0 0,.slice none 0 0,.slice none 0 0,.slice none 0 0],53),([.int .i64 0,.int .i64 0],29)] W
 lo:w.heap.size+2≤p
section
variable {w:World} {p:Nat} {A:Option Addr} {c:Nat} {G:Option Addr} {gc:Nat} {mv:Value} {SA:Option Addr} {sc:Nat} {CA:Option Addr} {cc:Nat} {X:Wd} {ss:List GG} {la lb:List Ki} {W W1:World}
theorem RP.below(h:RP w p A c G gc mv SA sc CA cc X ss la lb W)(hb:Below W.heap.size W W1):RP w p A c G gc mv SA sc CA cc X ss la lb W1 :=
 ⟨h.rh.below hb,FT h.co hb,h.bs.keep (Tw.of_below hb),h.rb.below hb,h.lo⟩
theorem RP.exl(h:RP w p A c G gc mv SA sc CA cc X ss la lb W):∀b,((S CA la.length cc).ownBlock=O b∨b<w.heap.size+2)→b<W.heap.size:=fun b hb=>hb.elim (fun hb=>(h.co.lt b hb).2) (fun hb=>by have:=h.lo;have:=h.rh.lt;omega)
theorem RP.did(h:RP w p A c G gc mv SA sc CA cc X ss la la W){A':Option Addr}{c':Nat}{G':Option Addr}{gc':Nat}{SA':Option Addr}{sc':Nat}{X':Wd}{ss':List GG}{x:Ki}
  (hg:RH w (fun b=>(S CA la.length cc).ownBlock=O b∨b<w.heap.size+2) p A' c' G' gc' mv SA' sc' X' ss' W1)
  (ho:W1.ownsRow W.heap.size 61 2 (S x.2.1 x.1.bs.length x.2.2) x.1.bs.length (Fz x.1.bs))
  (ht:Tw (fun b=>b=p∨(S SA ss.length sc).ownBlock=O b) W W1)
  (hn:∀b,(S SA' ss'.length sc').ownBlock=O b→(S SA ss.length sc).ownBlock=O b∨W.heap.size≤b):RP w p A' c' G' gc' mv SA' sc' CA cc X' ss' la (la++[x]) W1:=by
 have hp:=h.rh.lt;have hlo:=h.lo;refine⟨hg,Iu h.co ht (fun b hb hh=>?_),?_,h.rb.tw ht (fun k hk hh=>?_),h.lo⟩
 ·rcases hh with e|e
  ·have:=(h.co.lt b hb).1;omega
  ·exact SI h.rh.so h.co (by decide) e hb
 ·have h1:=h.bs.less (av':=fun b=>Av p (S SA ss.length sc) (fun b=>(S CA la.length cc).ownBlock=O b∨b<w.heap.size+2) b∨W.heap.size≤b) (fun b hb hh=>hh.elim (fun e=>e) (fun e=>by omega));have h2:=h1.keep (ht.mono (fun b _ hb=>.inl (hb.elim (fun e=>.inl e) (fun e=>.inr (.inl e)))));have h3:=h2.less (av':=Av p (S SA' ss'.length sc') (fun b=>(S CA la.length cc).ownBlock=O b∨b<w.heap.size+2)) (fun b _ hb=>by
   rcases hb with e|e|e
   ·exact .inl (.inl e)
   ·exact(hn b e).elim (fun e=>.inl (.inr (.inl e))) (fun e=>.inr e)
   ·exact .inl (.inr (.inr e)))
  have h4:ID (fun W=>LB W x.2.1 x.1.bs) (Av p (S SA' ss'.length sc') (fun b=>(S CA la.length cc).ownBlock=O b∨b<w.heap.size+2)) W1:=(ID.own ho (fun b hb hh=>by
   have hlo:=(ho.lt b hb).1;rcases hh with e|e|e
   ·omega
   ·exact SI hg.so ho (by decide) e hb
   ·have:=h.exl b e;omega)).imp (fun W2 h=>VL h)
  exact(h3.and h4).imp (fun W2 ⟨h1,h2⟩ y hy=>by
   rcases BV.1 hy with hy|hy
   ·exact h1 y hy
   ·rw[BH]at hy;subst hy;exact h2)
 ·simp only[AJ,AK]at hk;rcases hh with e|e
  ·omega
  ·have:=(h.rh.so.lt _ e).1;omega
theorem RP.kept{x:Ki}(h:RP w p A c G gc mv SA sc CA cc X ss la lb W){g cg:Nat}(ho:W1.ownsRow (p+1) 64 5 (S (O ⟨g,0,N⟩) (la.length+1) cg) (la.length+1) (It GE la++GE x))(hg:W.grownBy W1 (S CA la.length cc).ownBlock)(hw:O g=(S CA la.length cc).ownBlock∨g=W.heap.size):
  RP w p A c G gc mv SA sc (O ⟨g,0,N⟩) cg X ss (la++[x]) lb W1:=by
 have hp:=h.rh.lt;have hlo:=h.lo;have hl:(la++[x]).length=la.length+1:=by simp
 have ht:Tw (fun b=>(S CA la.length cc).ownBlock=O b) W W1:=Tw.of_grown hg (fun k hk=>hk);have key:∀b,b<W.heap.size→Av p (S SA ss.length sc) (fun b=>(S (O ⟨g,0,N⟩) (la.length+1) cg).ownBlock=O b∨b<w.heap.size+2) b→Av p (S SA ss.length sc) (fun b=>(S CA la.length cc).ownBlock=O b∨b<w.heap.size+2) b:=fun b hb ha=>by
  rcases ha with e|e|e|e
  ·exact .inl e
  ·exact .inr (.inl e)
  ·have e:=Bd e;simp only at e;subst e;exact hw.elim (fun e=>.inr (.inr (.inl e.symm))) (fun e=>by omega)
  ·exact .inr (.inr (.inr e))
 have hcp:∀b,(S CA la.length cc).ownBlock=O b→p+1≤b:=fun b hb=>(h.co.lt b hb).1;rw[←hl]at ho key;refine⟨⟨h.rh.bx.tw ht (fun k hk e=>?_),h.rh.wl.tw ht (fun b hb e=>h.rh.aw b hb (.inr (.inr (.inl e)))),fun b hb ha=>h.rh.aw b hb (key b (IS h.rh.wl hb) ha),Iu h.rh.so ht (fun b hb e=>SI h.rh.so h.co (by decide) hb e),h.rh.ac,h.rh.bel.trans (ht.below h.rh.bel.size (fun k hk e=>?_)),h.rh.lo⟩,by rw[RN];exact ho,?_,h.rb.tw ht (fun k hk e=>?_),h.lo⟩
 ·simp only[AJ,AK]at hk;have:=hcp _ e;omega
 ·have:=hcp _ e;omega
 ·have h1:=h.bs.less (av':=fun b=>Av p (S SA ss.length sc) (fun b=>(S CA la.length cc).ownBlock=O b∨b<w.heap.size+2) b∨W.heap.size≤b) (fun b hb hh=>hh.elim (fun e=>e) (fun e=>by omega));refine(h1.keep (ht.mono (fun b _ hb=>.inl (.inr (.inr (.inl hb)))))).less (fun b _ hb=>?_);by_cases hbW:b<W.heap.size
  ·exact .inl (key b hbW hb)
  ·exact .inr (by omega)
 ·simp only[AJ,AK]at hk;have:=hcp _ e;omega
end
structure R9(w w9:World)(X:Wd)(G:Option Addr)(s1 s2:Bool)(γ:Option Addr×Nat)(gn gc:Nat)(tabs:List Gu)(mv sv:Value)(cl:Bool)(V:World):Prop where
 bx:GJ w.heap.size [(if s1=true then [.slice γ.1 tabs.length γ.2,.slice G gn gc,mv,sv]else [.slice none 0 0,.slice none 0 0,.slice none 0 0,.slice none 0 0],53),([.int .i64 0,.int .i64 0],29)] V
 tw:Tw (fun b=>b=w.heap.size∨b=w.heap.size+1) w9 V
 doc:cl=true→Rk (w.heap.size+2) V γ.1 G tabs X
section
variable {w w9:World} {X:Wd} {G:Option Addr} {s1 s2 cl:Bool} {γ γ':Option Addr×Nat} {gn gc:Nat} {tabs:List Gu} {mv sv:Value} {V V1:World}
theorem R9.start(h:GJ w.heap.size [([.slice none 0 0,.slice none 0 0,.slice none 0 0,.slice none 0 0],53),([.int .i64 0,.int .i64 0],29)] w9):R9 w w9 X G false false γ gn gc tabs mv sv false w9.drew:=⟨h,Tw.of_below (Below.refl _ _).drew,fun h=>(by cases h)⟩
theorem R9.call(h:R9 w w9 X G s1 s2 γ gn gc tabs mv sv cl V)(h1:s1=false)(hb:Below V.heap.size V V1)(hd:Rk V.heap.size V1 γ'.1 G tabs X):R9 w w9 X G s1 s2 γ' gn gc tabs mv sv true V1:=by
 subst h1;have hs:=h.bx.sz (by simp);exact⟨h.bx.below hb,h.tw.trans (Tw.of_below (av:=fun _=>False) hb) (fun _ _ e=>e.elim),fun _ W' ha=>hd W' (fun g h1 h2=>ha g (by simp only[AJ,AK]at hs;omega) h2)⟩
theorem Rk.sets{base b o:Nat}{vs:List Value}{T:Option Addr}(h:Rk base V T G tabs X)(hb:b<base):Rk base (V.setCells b o vs) T G tabs X:=fun W' ha=>h W' (fun g h1 h2=>(ha g h1 (by have:=(Bv (w0:=V) b (AS b) vs o V (AD 0 V)).size;omega)).trans (J9 b vs o V g (by omega)))
theorem R9.put1(h:R9 w w9 X G s1 s2 γ gn gc tabs mv sv cl V)(hc:cl=true):R9 w w9 X G true s2 γ gn gc tabs mv sv cl (V.setCells w.heap.size 0 [S γ.1 tabs.length γ.2,S G gn gc,mv,sv]):=
 ⟨h.bx.give 0 R _ (by cases s1 <;>rfl),h.tw.sets (.inl (.inl R)),fun _=>(h.doc hc).sets (by omega)⟩
theorem R9.put2(h:R9 w w9 X G s1 s2 γ gn gc tabs mv sv cl V):R9 w w9 X G s1 true γ gn gc tabs mv sv cl (V.setCells (w.heap.size+1) 0 [I K 0,I K 0]):=
 ⟨h.bx.give 1 R _ R,h.tw.sets (.inl (.inr R)),fun hc=>(h.doc hc).sets (by omega)⟩
end
theorem UN(M:Option Addr)(mc:Nat)(mods:List Ho)(LD:Option Addr)(lc:Nat)(l:List LE)(w:World)(hM:L7 GO 3 w M mods)(hL:Oz w LD l)(hw:Ns mods=(0,0))(hl:l.length≤80):
  Calls Au 16 #[.slice M mods.length mc,.slice LD l.length lc] w fun e w'=>∃(T:Option Addr) (tc:Nat) (G:Option Addr) (gc:Nat) (SA:Option Addr) (sc:Nat) (CA:Option Addr) (cc:Nat) (ss:List GG) (la:List Ki),e=Ao (Ai #[Af #[.slice T (FG (KN mods l).2.X).length tc,.slice G (KN mods l).2.X.gens.length gc,.slice M mods.length mc,.slice SA ss.length sc],.slice CA la.length cc,Af #[I K 0,I K 0]]) ∧
   Ir w' T G (FG (KN mods l).2.X) (KN mods l).2.X∧Iw w' SA ss.length (fun j=>ss.getD j dS)∧ss.map I1=(KN mods l).2.S∧Sq w' CA la∧la.map Prod.fst=(KN mods l).1∧Below w.heap.size w w':=by
 have hWM:=fun W (hb:Below w.heap.size w W)=>LO M mc mods W (hM.below hb);unfold GC at hWM;have hz:Ns mods=(0,0):=hw;rw[hz]at hWM;have HWM:=An hWM;have HDL:=An hL;have HM:=An hM;have HWZ:=An hw;clear hWM hz hw hL hM;have d80:decide ((80:Int)<(l.length:Int))=false:=AO (by omega);obtain⟨i64',hi64,hz64,hs64,hb64⟩:=BC eB;have HI:=An hi64;have HZ:=An hz64;have HS:=An hs64;have HBB:=An hb64;clear hi64 hz64 hs64 hb64;obtain⟨W0,hW0,hL0,hX0⟩:=LZ w [([.slice N 0 0,.slice N 0 0,.slice N 0 0,.slice N 0 0],53),([I K 0,I K 0],29)];simp only[GQ]at hW0;have HW0:=An hW0;have HL0:=An hL0;have HX0:=An hX0;clear hW0 hL0 hX0;go_enter Tryz.func16,Tryz.ntmps16
 go_upto_region 1 with fail
 rw[AN HW0];go_wp2_with fail
 go_at_call 18;refine(AN HWM W0 (AN HL0)).mono ?_;rintro e wq⟨rfl,hb1⟩;obtain⟨W2,hW2,hL2,hX2⟩:=LZ wq [([I K 0,I K 0],29)];simp only[GQ]at hW2;have HW2:=An hW2;have hb12:=hb1.trans (hL2.mono hb1.size);have hLL:=(AN HL0).trans (hb12.mono (AN HL0).size);have hXX:=(AN HX0).below hb12;have q0:=hX2.cell 0 R 0 R;rw[Ay]at q0;obtain⟨W4,hW4,hL4,hX4⟩:=LZ W2 [([.slice N 0 0,.slice N 0 0,.slice M mods.length mc,.slice N 0 0],93)];simp only[GQ]at hW4;have HW4:=An hW4;have hz2:w.heap.size+2≤W2.heap.size:=by have:=hXX.sz (by simp);simpa using this
 have hRP:RP w W2.heap.size N 0 N 0 (.slice M mods.length mc) N 0 N 0 FL [] [] [] W4 :=
  ⟨⟨hX4,Mx W4,(fun b hb=>by rcases hb with⟨h,_⟩|⟨h,_⟩<;>simp[FL]at h),Bn _ _ _ _,(fun s hs=>by cases hs),hLL.trans (hL4.mono hLL.size),by omega⟩,Bn _ _ _ _,ID.triv (fun W s hs=>by cases hs),hXX.below hL4,hz2⟩
 have HRP:=An hRP;clear hW2 hW4 hL2 hX2 hb1 hb12 hLL hXX hL4 hX4 hRP HX0 HWM;go_upto_region 2 with fail
 rw[AN HW2];go_upto_region 7 with fail
 rw[AN HW4];clear q0;go_wp2_with fail
 go_loopw [9,29] (fun o x wr=>∃(k:Nat) (A:Option Addr) (c:Nat) (G:Option Addr) (gc:Nat) (SA:Option Addr) (sc:Nat) (CA:Option Addr) (cc:Nat) (X:Wd) (ss:List GG) (la:List Ki),k≤l.length∧o=.slice CA la.length cc∧x=I K (k:Int)∧RP w W2.heap.size A c G gc (.slice M mods.length mc) SA sc CA cc X ss la la wr∧I2 mods (l.take k) ([],h0)=(la.map Prod.fst,⟨X,ss.map I1⟩)) (fun _ x _=>l.length - (intOf x).toNat)
 case atStart=>exact⟨0,N,0,N,0,N,0,N,0,FL,[],[],AS _,rfl,rfl,AN HRP,rfl⟩
 case round =>
  clear HRP;obtain⟨k,A,c,G,gc,SA,sc,CA,cc,X,ss,la,hk,rfl,rfl,hRP,hpl⟩:=hrel;have hok:XP mods ⟨X,ss.map I1⟩:=by
   have:=P2 (mods:=mods) (l.take k) ([],h0) (Xo mods);rw[hpl]at this;exact this
  by_cases hlt:k<l.length
  ·have k0:(0:Int)≤(k:Int):=(by omega);have k1:(k:Int)<(l.length:Int):=(by omega);have hsn:I2 mods (l.take (k+1)) ([],h0)=(la.map Prod.fst++[(Ka mods ⟨X,ss.map I1⟩ l[k]).1],(Ka mods ⟨X,ss.map I1⟩ l[k]).2):=by
    rw[A0 hlt,NC,hpl]
   have hkl:la.length≤80:=by
    have e1:=MO mods (l.take k) ([],h0);rw[hpl]at e1;simp only[Bj,AK,AZ]at e1;omega
   have hdk:l[k]?=O l[k]:=AE hlt;obtain⟨b,off,hLe,hdc⟩:=((AN HDL).below hRP.rh.bel).at_ k _ hdk;have hact:=(AN HDL).acts _ (Bm hlt);generalize l[k]=d at *;obtain⟨wk,rfl⟩:∃wk,wk=wr:=⟨_,rfl⟩;have c0:=hdc 0 _ R;have c1:=hdc 1 _ R;have c2:=hdc 2 _ R;have c3:=hdc 3 _ R;have c4:=hdc 4 _ R;have c5:=hdc 5 _ R;have c6:=hdc 6 _ R;have c7:=hdc 7 _ R;have c8:=hdc 8 _ R;have c9:=hdc 9 _ R;have c10:=hdc 10 _ R;have c11:=hdc 11 _ R;rw[Ay]at c0;obtain⟨W5,hW5,hL5,hX5⟩:=LZ wk [(Iv d,89)];simp only[GQ,Iv]at hW5;have HW5:=An hW5;have hP5:=hRP.below hL5;have hDO:=YX aX w _ _ _ _ _ _ M mc mods SA sc X ss d W5 hP5.rh hP5.exl (AN HM) hact (AN HWZ) hok;unfold Pv at hDO;have HDO:=An hDO;have HP5:=An hP5;obtain⟨z0,z1,z2,z3,z4,z5,z6,z7,z8,z9,z10,z11⟩:=hX5.g12 R;have HSN:=An hsn;subst hLe;clear hW5 hL5 hX5 hP5 hact hDO hRP hpl hok hsn hdc hdk;go_upto_region 11 with fail
   rw[AN HW5];clear c0 c1 c2 c3 c4 c5 c6 c7 c8 c9 c10 c11;go_wp2_with fail
   go_at_call 43;refine(AN HDO).mono ?_;rintro e w6⟨A6,c6,G6,gc6,SA6,sc6,ss6,A7,c7,rfl,hg6,hs6,ho6,ht6,hn6⟩;obtain⟨a,ha⟩:∃a,a=(Ka mods ⟨X,ss.map I1⟩ d).1:=⟨_,rfl⟩;obtain⟨h',hh'⟩:∃h',h'=(Ka mods ⟨X,ss.map I1⟩ d).2:=⟨_,rfl⟩;rw[←ha]at ho6;rw[←hh']at hg6 hs6;have HSN2:=An (show I2 mods (l.take (k+1)) ([],h0)=((la++[(a,A7,c7)]).map Prod.fst,⟨h'.X,ss6.map I1⟩) by rw[AN HSN,←ha,←hh',hs6,CH];rfl);have HP7:=An (RP.did (AN HP5) (x:=(a,A7,c7)) hg6 ho6 ht6 hn6);rw[←ha];unfold Np;generalize h'.X=X' at *;have HNS:=An (YC w6 (a,A7,c7));clear hg6 hs6 ho6 ht6 hn6 ha hh' HDO HP5 HSN z0 z1 z2 z3 z4 z5 z6 z7 z8 z9 z10 z11;go_wp2_with((at_builtin;refine FY _ R (Am 33) (Am 37) 54 R (W2.heap.size+1) 64 i64' _ 5 56 Tryz.underlying54 (AN HI) (AN HZ) (AN HS) (AN HBB) R (by decide) _ la.length (It GE la) R ((AN HP7).below (GF w6 (Al (GE (a,A7,c7)).toArray 64))).co ⟨_,0,N⟩ 1 1 (GE (a,A7,c7)) R R (AN HNS) (Ow _) (by unfold maxLen;omega) (by omega) (AU (AN HP7).rh.lt (GF _ _).size) (by omega) ?_;intro g capg w8 ho8 hg8 hw8;have HP8:=An (((AN HP7).below (GF w6 (Al (GE (a,A7,c7)).toArray 64))).kept ho8 hg8 hw8);clear ho8 hg8 hw8))
   go_roundw
   case rel=>exact⟨k+1,_,_,_,_,_,_,O ⟨g,0,N⟩,capg,_,_,la++[(a,A7,c7)],by omega,by rw[AV];rfl,by go_num,AN HP8,AN HSN2⟩
   case measure=>simp[intOf];omega
  ·have hkl:l.take k=l:=BY (by omega);have dk:decide ((k:Int)<(l.length:Int))=false:=AO (by omega);rw[hkl]at hpl;have hpf:KN mods l=(la.map Prod.fst,⟨X,ss.map I1⟩):=hpl;have HPF:=An hpf;have HP9:=An hRP;obtain⟨w9,rfl⟩:∃w9,w9=wr:=⟨_,rfl⟩;have HOF:=An (fun V (hb:FX V A c G gc X)=>fv A c G gc X V hb hok.wld);have h0:R9 w w9 X G false false (N,0) X.gens.length gc (FG X) (.slice M mods.length mc) (.slice SA ss.length sc) false w9.drew:=R9.start hRP.rb;clear hkl hpl hpf hRP hok;have H0:=An h0;clear h0;go_upto_region 13 with fail
   have h0:=AN H0;refine FW (fun(γ:Option Addr×Nat)=>[Ae (O ⟨W2.heap.size,0,N⟩),Ae (O ⟨W2.heap.size,0,N⟩),Ae (O ⟨W2.heap.size,0,N⟩),Af #[.slice A X.rows.length c,.slice G X.gens.length gc],Af #[.slice γ.1 (FG X).length γ.2,.slice G X.gens.length gc],Ae (O ⟨W2.heap.size,0,N⟩),Ae (O ⟨W2.heap.size,0,N⟩),Ae (O ⟨W2.heap.size,2,N⟩),.slice M mods.length mc,Ae (O ⟨W2.heap.size,0,N⟩),Ae (O ⟨W2.heap.size,0,N⟩),Ae (O ⟨W2.heap.size,3,N⟩),.slice SA ss.length sc,Af #[.slice γ.1 (FG X).length γ.2,.slice G X.gens.length gc,.slice M mods.length mc,.slice SA ss.length sc],.slice CA la.length cc,Af #[I K 0,I K 0],undef,.slice CA la.length cc,undef]) (fun(γ:Option Addr×Nat) L V=>R9 w w9 X G (L 16) (L 18) γ X.gens.length gc (FG X) (.slice M mods.length mc) (.slice SA ss.length sc) (L 4) V) (N,0) (by kernel_rfl) (by kernel_rfl) (by kernel_rfl) (by kernel_rfl) h0 ?hstep ?hend
   case hstep =>
    intro F γ hout hF ix o ho L w1 hD hL hed hcl;simp only[Hu,G9,Br,Bx]at hF;have e8:F.tmps.getD 8 undef=Ae (O ⟨W2.heap.size,0,N⟩):=hout 8 (by decide +kernel);have e9:F.tmps.getD 9 undef=.slice CA la.length cc:=hout 9 (by decide +kernel);have e4:F.tmps.getD 4 undef=Ae (O ⟨w.heap.size,0,N⟩):=hout 4 (by decide +kernel);have e6:F.tmps.getD 6 undef=Ae (O ⟨w.heap.size+1,0,N⟩):=hout 6 (by decide +kernel);have hlo:=(AN HP9).lo;have hp9:=(AN HP9).rh.lt;have bp:=(AN HP9).rh.bx.tw hD.tw (fun k hk e=>by simp only[AJ,AK]at hk;omega);obtain⟨p0,p1,p2,p3⟩:=bp.g4 R;have hwl:=(AN HP9).rh.wl.tw hD.tw (fun b hb e=>(AN HP9).rh.aw b hb (.inr (.inr (.inr (by omega)))))
    match ix,ho with
    |0,ho|1,ho|2,ho|3,ho|5,ho|6,ho|7,ho|8,ho|9,ho|10,ho|11,ho|12,ho|13,ho|14,ho|15,ho|17,ho =>
     simp at ho;subst ho;exact .inl ⟨rfl,FB γ _ (by simp[go_sem,Aq,-Ap,hF,e8,e9,e4,e6,p0,p1,p2,p3]) R (hD) (fun _ _ _=>rfl)⟩
    | 4,ho =>
     simp at ho;subst ho;have q:L 16=false:=FA hcl hL 19 16 (by kernel_rfl);refine .inl ⟨rfl,GU 32 #[Af #[.slice A X.rows.length c,.slice G X.gens.length gc]] (by simp[go_sem,Aq,-Ap,hF]) ?_⟩;refine((AN HOF) _ hwl).mono ?_;rintro e w2⟨T2,tc2,rfl,hd2,hb2⟩;exact⟨_,(T2,tc2),rfl,rfl,hD.call q hb2 hd2,I5 hcl hL 19 [13] (by kernel_rfl) (fun j h1 h2=>by
      match j with
      |0|1|2|3|5|6|7|8|9|10|11|12|14|15|16|17|18=>rfl
      |4=>exact absurd R h1
      |13=>simp at h2
      |j+19=>rfl)⟩
    | 16,ho =>
     simp at ho;subst ho;have ql:L 4=true:=by
      cases h:L 4
      ·have:=FA hcl h 19 13 (by kernel_rfl);rw[hed 13 (by kernel_rfl)]at this;cases this
      ·rfl
     exact .inl ⟨rfl,Gy γ 53 (Am 4) (Am 53) R w.heap.size 0 [.slice γ.1 (FG X).length γ.2,.slice G X.gens.length gc,.slice M mods.length mc,.slice SA ss.length sc] (by simp[Aq,-Ap,e4]) (by simp[Aq,-Ap,hF]) (by simp[Ar]) fT (hD.bx.there 0 R 4 (by split <;>rfl)) R (hD.put1 ql) (fun _ _ _=>rfl)⟩
    |18,ho =>
     simp at ho;subst ho;exact .inl ⟨rfl,Gy γ 29 (Am 6) (Am 55) R (w.heap.size+1) 0 [I K 0,I K 0] (by simp[Aq,-Ap,e6]) (by simp[Aq,-Ap,hF]) (by simp[Ar]) Tz (hD.bx.there 1 R 2 R) R hD.put2 (fun _ _ _=>rfl)⟩
    |ix+19,ho=>simp at ho
   case hend =>
    intro γ L V hD hall;have hR:=hD;rw[hall 16 (by decide),hall 18 (by decide),hall 4 (by decide)]at hR;obtain⟨r0,r1,r2,r3⟩:=hR.bx.g4 R;obtain⟨r4,r5⟩:=hR.bx.f2 1 R;have HR:=An hR;clear hD hall hR h0;simp only[GN,AI,AH,Ba,AJ,AK,Nat.reduceAdd,Bf,Be];go_frame;go_wp2;have hP9:=AN HP9;have hR:=AN HR;have hlo:=hP9.lo;have hT:=hR.tw;rw[AN HPF];have hTA:Tw (Av W2.heap.size (.slice SA ss.length sc) (fun b=>(Value.slice CA la.length cc).ownBlock=O b∨b<w.heap.size+2)) w9 V:=hT.mono (fun b _ hb=>.inr (.inr (.inr (by omega))));have hwl:=hP9.rh.wl.tw hT (fun b hb e=>hP9.rh.aw b hb (.inr (.inr (.inr (by omega)))));refine AG (by simp[results,Tryz.results16,go_sem,r0,r1,r2,r3,r4,r5]<;>rfl) R ⟨γ.1,γ.2,G,gc,SA,sc,CA,cc,ss,la,rfl,hR.doc R V (fun _ _ _=>rfl) hwl.gens,M0 (Iu hP9.rh.so hT (fun g hg hh=>by have:=(hP9.rh.so.lt g hg).1;omega)) (fun s hs=>(hP9.rh.ac s hs).below (hP9.rh.bel.trans (hT.below hP9.rh.bel.size (fun k hk hh=>by omega)))) dS,rfl,⟨L7.own Ox (Iu hP9.co hT (fun g hg hh=>by have:=(hP9.co.lt g hg).1;omega)),(hP9.bs.keep hTA).here⟩,rfl,hP9.rh.bel.trans (hT.below hP9.rh.bel.size (fun k hk hh=>by omega))⟩
structure iI where
 X:Wd
 S:List GG
 an:List Mj
 f:Int×Int
 ms:List Ho
def Qo (mods:List Ho) (l:List LE):iI:=if (Ns mods).1≠0 then ⟨FL,[],[],Ns mods,[]⟩ else if 80<l.length then ⟨FL,[],[],(4,0),[]⟩ else ⟨(KN mods l).2.X,(KN mods l).2.S,(KN mods l).1,(0,0),mods⟩
structure YE (w:World) (o:iI) (T G M SA CA:Option Addr) (ss:List GG) (la:List Ki):Prop where
 st:Ir w T G (FG o.X) o.X
 md:L7 GO 3 w M o.ms
 sy:Iw w SA ss.length (fun j=>ss.getD j dS)
 ss:ss.map I1=o.S
 an:Sq w CA la
 la:la.map Prod.fst=o.an
theorem YE.below{w w1:World}{o:iI}{T G M SA CA:Option Addr}{ss:List GG}{la:List Ki}(h:YE w o T G M SA CA ss la)(hb:Below w.heap.size w w1):YE w1 o T G M SA CA ss la:=⟨h.st.below hb,h.md.below hb,h.sy.below hb,h.ss,h.an.below hb,h.la⟩
def jt(w:World)(o:iI)(e:Ending)(w':World):Prop:=∃(T:Option Addr) (tc:Nat) (G:Option Addr) (gc:Nat) (M:Option Addr) (mc:Nat) (SA:Option Addr) (sc:Nat) (CA:Option Addr) (cc:Nat) (ss:List GG) (la:List Ki),
 e=.returned (.tuple #[.agg #[.slice T (FG o.X).length tc,.slice G o.X.gens.length gc,.slice M o.ms.length mc,.slice SA ss.length sc],.slice CA la.length cc,.agg #[.int .i64 o.f.1,.int .i64 o.f.2]])∧YE w' o T G M SA CA ss la∧Below w.heap.size w w'
theorem P1{w w':World}{e:Ending}(f:Int×Int)(he:e=Ao (Ai #[Af #[S N 0 0,S N 0 0,S N 0 0,S N 0 0],S N 0 0,Af #[I K f.1,I K f.2]]))(hb:Below w.heap.size w w'):jt w ⟨FL,[],[],f,[]⟩ e w' :=
 ⟨N,0,N,0,N,0,N,0,N,0,[],[],he,⟨(LM w'.heap.size w').st,fun j x hj=>by simp at hj,fun j hj=>absurd hj (C3 _),rfl,⟨fun j x hj=>by simp at hj,fun x hx=>by cases hx⟩,rfl⟩,hb⟩
theorem OY{m:List Ho}(h:(Ns m).1=0):Ns m=(0,0):=by
 have key:∀n j,(O2 m n j).1=0→O2 m n j=(0,0):=fun n=>by
  induction n with
  |zero=>intro j _;rfl
  |succ n ih =>
   intro j h;rw[O2]at h⊢;split at h
   ·rename_i hs;rw[AF hs];exact ih _ h
   ·exact absurd h (by simp)
 unfold Ns at h⊢;split at h
 ·exact absurd h (by decide)
 ·rename_i hs;rw[AA hs];exact key _ _ h
theorem bD(M:Option Addr)(mc:Nat)(mods:List Ho)(LD:Option Addr)(lc:Nat)(l:List LE)(w:World)(hM:L7 GO 3 w M mods)(hL:Oz w LD l):Calls Au 15 #[S M mods.length mc,S LD l.length lc] w (jt w (Qo mods l)):=by
 unfold Qo;by_cases h1:(Ns mods).1=0
 ·rw[AA (by simpa using h1)];by_cases h2:80<l.length
  ·rw[AF h2];exact(SV (.inl ⟨rfl,rfl⟩) L9 M mc mods LD lc l w hM (OY h1) h2).mono fun e w' ⟨he,hb⟩=>P1 _ he hb
  ·rw[AA h2];refine(WR M mc mods LD lc l w hM hL (OY h1) (by omega)).mono ?_;rintro e w'⟨T,tc,G,gc,M',mc',SA,sc,CA,cc,ss,la,rfl,h3,h4,h5,h6,h7,h8,h9⟩;exact⟨T,tc,G,gc,M',mc',SA,sc,CA,cc,ss,la,rfl,⟨h3,h4,h5,h6,h7,h8⟩,h9⟩
 ·rw[AF h1];exact(Ql (.inl ⟨rfl,rfl⟩) L9 M mc mods LD lc l w hM h1).mono fun e w' ⟨he,hb⟩=>P1 _ he hb
theorem YZ(M:Option Addr)(mc:Nat)(mods:List Ho)(LD:Option Addr)(lc:Nat)(l:List LE)(w:World)(hM:L7 GO 3 w M mods)(hL:Oz w LD l):Calls Au 16 #[S M mods.length mc,S LD l.length lc] w (jt w (Qo mods l)):=by
 unfold Qo;by_cases h1:(Ns mods).1=0
 ·rw[AA (by simpa using h1)];by_cases h2:80<l.length
  ·rw[AF h2];exact(SV (.inr ⟨rfl,rfl⟩) LO M mc mods LD lc l w hM (OY h1) h2).mono fun e w' ⟨he,hb⟩=>P1 _ he hb
  ·rw[AA h2];refine(UN M mc mods LD lc l w hM hL (OY h1) (by omega)).mono ?_;rintro e w'⟨T,tc,G,gc,SA,sc,CA,cc,ss,la,rfl,h3,h5,h6,h7,h8,h9⟩;exact⟨T,tc,G,gc,M,mc,SA,sc,CA,cc,ss,la,rfl,⟨h3,hM.below h9,h5,h6,h7,h8⟩,h9⟩
 ·rw[AF h1];exact(Ql (.inr ⟨rfl,rfl⟩) LO M mc mods LD lc l w hM h1).mono fun e w' ⟨he,hb⟩=>P1 _ he hb
theorem jg(X:Wd)(a n:Int)(j:Nat)(hr:FK X):(GV X a n j).length≤60:=by
 have h1:=(GD ((F7 X).2 hr)).1;unfold GV;rw[Bj];exact AU (BT _ _) (AU (by rw[AZ];omega) h1)
theorem jY{mods:List Ho}{h:HI}(H:XP mods h)(d:LE):(Ka mods h d).1.bs.length≤60:=by
 unfold Ka
 repeat' split
 all_goals first|exact jg _ _ _ _ H.wld|exact Nat.zero_le _
theorem Ub{mods:List Ho}:∀(l:List LE) (r:List Mj×HI),XP mods r.2→(∀a∈r.1,a.bs.length≤60)→∀a∈(I2 mods l r).1,a.bs.length≤60
 |[],r,_,h=>h
 |d :: l,r,H,h=>Ub l _ (iU H d) fun a ha=>by
  rcases BV.1 ha with ha|ha
  ·exact h a ha
  ·rw[BH]at ha;rw[ha];exact jY H d
theorem i5(mods:List Ho)(l:List LE):(Qo mods l).ms.length≤6∧(Qo mods l).S.length≤12∧(∀s∈(Qo mods l).S,s.len≤8)∧(Qo mods l).an.length≤80∧∀a∈(Qo mods l).an,a.bs.length≤60:=by
 unfold Qo;split
 ·simp
 ·rename_i h1;split
  ·simp
  ·rename_i h2;have hok:=P2 (mods:=mods) l ([],h0) (Xo mods);refine⟨?_,hok.few,fun s hs=>?_,?_,Ub l ([],h0) (Xo mods) (fun a ha=>by cases ha)⟩
   ·have h3:=OY (by simpa using h1);unfold Ns at h3;split at h3
    ·cases h3
    ·dsimp only;omega
   ·exact((Ie _ _ _ _ _).1 (Ls (hok.sys s hs)).1).2.1
   ·show(I2 mods l ([],h0)).1.length≤80;rw[MO];simp only[AK];omega
theorem Wt(M:Option Addr)(mc:Nat)(mods:List Ho)(LD:Option Addr)(lc:Nat)(l:List LE)(w:World)(hM:L7 GO 3 w M mods)(hL:Oz w LD l):
  Calls Au 5 #[S M mods.length mc,S LD l.length lc] w fun e w'=>e=Ao (Aj true)∧Below w.heap.size w w':=by
 have hp1:=bD M mc mods LD lc l w hM hL;have hp2:=fun W (hb:Below w.heap.size w W)=>YZ M mc mods LD lc l W (hM.below hb) ⟨hL.at_.below hb,fun d hd=>(hL.acts d hd).below hb⟩;obtain⟨hm6,hs12,hs8,ha80,hb60⟩:=i5 mods l;have hw1:=fun W (hb:Below w.heap.size w W)=>L9 M mc mods W (hM.below hb);have hw2:=fun W (hb:Below w.heap.size w W)=>LO M mc mods W (hM.below hb);unfold GC at hw1 hw2;generalize Qo mods l=o at *;generalize Ns mods=f at *;have HP1:=An hp1;have HP2:=An hp2;have HW1:=An hw1;have HW2:=An hw2;have HB60:=An hb60;have HS8:=An hs8;clear hp1 hp2 hw1 hw2 hM hL hb60 hs8;go_enter Tryz.func5,Tryz.ntmps5
 go_wp2_with fail
 go_at_call 15;refine(AN HP1).mono ?_;rintro e w1⟨T1,tc1,G1,gc1,M1,mc1,SA1,sc1,CA1,cc1,ss1,la1,rfl,h1,hb1⟩;obtain⟨W1,hW1,hL1,hX1⟩:=LZ w1 [([S T1 (FG o.X).length tc1,S G1 o.X.gens.length gc1,S M1 o.ms.length mc1,S SA1 ss1.length sc1],53),([I K o.f.1,I K o.f.2],29)];simp only[GQ]at hW1;have HA1:=An hW1;have HX1:=An hX1;have HO1:=An (h1.below hL1);have HL1:=An (hb1.trans (hL1.mono hb1.size));clear hW1 hX1 h1 hL1 hb1;go_upto_region 2 with fail
 rw[AN HA1];go_wp2_with fail
 go_at_call 16;refine(AN HP2 W1 (AN HL1)).mono ?_;rintro e w2⟨T2,tc2,G2,gc2,M2,mc2,SA2,sc2,CA2,cc2,ss2,la2,rfl,h2,hb2⟩;have e12:ss2.length=ss1.length:=by
  have e1:=B8 List.length (AN HO1).ss;have e2:=B8 List.length h2.ss;rw[Bj]at e1 e2;omega
 have elen:la2.length=la1.length:=by
  have e1:=B8 List.length (AN HO1).la;have e2:=B8 List.length h2.la;rw[Bj]at e1 e2;omega
 rw[e12,elen];have HE12:=An e12;have HLN:=An elen;clear e12 elen;obtain⟨W2,hW2,hL2,hX2⟩:=LZ w2 [([S T2 (FG o.X).length tc2,S G2 o.X.gens.length gc2,S M2 o.ms.length mc2,S SA2 ss1.length sc2],53),([I K o.f.1,I K o.f.2],29)];simp only[GQ]at hW2;have HA2:=An hW2;have hb22:=hb2.trans (hL2.mono hb2.size);have HX2:=An hX2;have HY2:=An ((AN HX1).below hb22);have HO2:=An (h2.below hL2);have HO3:=An ((AN HO1).below hb22);have HL2:=An ((AN HL1).trans (hb22.mono (AN HL1).size));clear hW2 hX2 h2 hL2 hb2 hb22 HX1 HO1 HL1;have hl80:la1.length≤80:=by
  have e1:=B8 List.length (AN HO3).la;rw[Bj]at e1;omega
 have hsn:ss1.length≤12:=by
  have e1:=B8 List.length (AN HO3).ss;rw[Bj]at e1;omega
 have hSH:=fun V (hb:Below W2.heap.size W2 V)=>QT T1 tc1 G1 gc1 M1 mc1 SA1 sc1 T2 tc2 G2 gc2 M2 mc2 SA2 sc2 o.X o.ms ss1.length (fun j=>ss1.getD j dS) (fun j=>ss2.getD j dS) V hsn hm6 ((AN HO3).below hb).st ((AN HO2).below hb).st ((AN HO3).below hb).md ((AN HO2).below hb).md ((AN HO3).below hb).sy (by rw[←AN HE12];exact((AN HO2).below hb).sy) (fun j _=>by
  rw[←QL,←QL,(AN HO3).ss,(AN HO2).ss]) (fun j hj=>by
  have:=AN HS8 (I1 (ss1.getD j dS)) (by rw[←(AN HO3).ss];exact List.mem_map_of_mem (bX hj));exact this)
 have HSH:=An hSH;clear hSH hsn;go_upto_region 3 with fail
 rw[AN HA2];go_wp2_with fail
 go_at_call 17;refine(AN HW1 W2 (AN HL2)).mono ?_;rintro e w3⟨rfl,hb3⟩;have HL3:=An ((AN HL2).trans (hb3.mono (AN HL2).size));have HB3:=An hb3;clear hb3;go_wp2_with fail
 go_at_call 18;refine(AN HW2 w3 (AN HL3)).mono ?_;rintro e w4⟨rfl,hb4⟩;have hb24:=(AN HB3).trans (hb4.mono (AN HB3).size);have HB4:=An hb24;have n1:=bT f.1 f.2 w4;have n2:=bT o.f.1 o.f.2 w4;have hx:=(AN HX2).below hb24;have hy:=(AN HY2).below hb24;obtain⟨x0,x1,x2,x3⟩:=hx.g4 R;obtain⟨x4,x5⟩:=hx.f2 1 R;obtain⟨y0,y1,y2,y3⟩:=hy.g4 R;obtain⟨y4,y5⟩:=hy.f2 1 R;clear hb4 hb24 hx hy HB3 HL3;go_wp2_with fail
 go_at_call 19;refine(AN HSH w4 (AN HB4)).mono ?_;rintro e w5⟨rfl,hb5⟩;have hb25:=(AN HB4).trans (hb5.mono (AN HB4).size);have HL5:=An ((AN HL2).trans (hb25.mono (AN HL2).size));have HA5:=An ((AN HO3).below hb25);have HA6:=An ((AN HO2).below hb25);clear hb5 hb25 n1 n2 x0 x1 x2 x3 x4 x5 y0 y1 y2 y3 y4 y5 HO2 HO3 HX2 HY2;go_wp2_with fail
 go_loopw [51] (fun x wr=>∃j:Nat,j≤la1.length∧x=I K (j:Int)∧Below w5.heap.size w5 wr) (fun x _=>la1.length - (intOf x).toNat)
 case atStart=>exact⟨0,AS _,rfl,AD _ _⟩
 case round =>
  obtain⟨j,hj,rfl,hbr⟩:=hrel;by_cases hlt:j<la1.length
  ·have hlen:=AN HLN;have j0:(0:Int)≤(j:Int):=(by omega);have j1:(j:Int)<(la1.length:Int):=(by omega);have hlt2:j<la2.length:=(by omega);have h1:=(AN HA5).below hbr;have h2:=(AN HA6).below hbr;have g1:la1[j]?=O la1[j]:=AE hlt;have g2:la2[j]?=O la2[j]:=AE hlt2;have e1:o.an[j]?=O la1[j].1:=(by rw[←h1.la,Bw,g1];rfl);have e2:o.an[j]?=O la2[j].1:=(by rw[←h2.la,Bw,g2];rfl);obtain⟨b1,o1,hC1,hc1⟩:=h1.an.at_ j _ g1;obtain⟨b2,o2,hC2,hc2⟩:=h2.an.at_ j _ g2;have hbs1:=h1.an.bs _ (Bm hlt);have hbs2:=h2.an.bs _ (Bm hlt2);have h60:=AN HB60 la1[j].1 (BE e1);rw[e1]at e2;have e2:=Bd e2;generalize la1[j]=x1 at *;generalize la2[j]=x2 at *;obtain⟨a,A1,c1⟩:=x1;obtain⟨a2,A2,c2⟩:=x2;dsimp only at e2 hbs1 hbs2 h60;subst e2;have hSA:=fun x:Hm wr=>S6 a A1 c1 A2 c2 x.val (by omega) (hbs1.below x.bel) (hbs2.below x.bel);have HSA:=An hSA;have q0:=B1 (hc1 0 _ R);have q1:=B1 (hc1 1 _ R);have q2:=B1 (hc1 2 _ R);have q3:=B1 (hc1 3 _ R);have q4:=B1 (hc1 4 _ R);have r0:=B1 (hc2 0 _ R);have r1:=B1 (hc2 1 _ R);have r2:=B1 (hc2 2 _ R);have r3:=B1 (hc2 3 _ R);have r4:=B1 (hc2 4 _ R);simp only[Ay]at q0 r0;have hsub:Nonempty (Hm wr):=⟨⟨wr,AD _ _⟩⟩;have HBR:=An hbr;subst hC1 hC2;clear h1 h2 g1 g2 e1 hc1 hc2 hbs1 hbs2 hSA hbr hlen;go_upto_region 8 with fail
   refine FN (by kernel_rfl) (by kernel_rfl) ?_
   repeat(go_big_quiet_step((go_at_call 20;exact Gf (AN HSA _))))
   refine Bg ?_;rintro w6⟨xs,hxs⟩;have hb6:=xs.bel;rw[←hxs]at hb6;have HB6:=An ((AN HBR).trans (hb6.mono (AN HBR).size));clear hxs xs hb6 q0 q1 q2 q3 q4 r0 r1 r2 r3 r4 hsub;go_wp2;go_roundw
   case rel=>exact⟨j+1,by omega,by go_num,AN HB6⟩
   case measure=>simp[intOf];omega
  ·have dj:decide ((j:Int)<(la1.length:Int))=false:=AO (by omega);have HE:=An ((AN HL5).trans (hbr.mono (AN HL5).size));clear hbr;go_wp2;go_ret;exact⟨rfl,AN HE⟩
end Go.Proofs.YtnbleebilmghcabGreat
