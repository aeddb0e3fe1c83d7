/- A place, the document's house: a world, mods, systems. -/
import Derived.Test.YtnbleebilmghcabGreatUAO
import Derived.Test.YtnbleebilmghcabGreatUBK
set_option linter.all false
open Go.Value renaming slice→S
open Option renaming none→N,some→O
open Go.Ending renaming returned→Ao
namespace Go.Proofs.YtnbleebilmghcabGreat
open Go Go.RowKit
theorem FX.tw{av:Nat→Prop}{W W1:World}{A:Option Addr}{c:Nat}{G:Option Addr}{gc:Nat}{X:Wd}(h:FX W A c G gc X)(V:Tw av W W1)(Y:∀ b,OU A G X b→¬ av b):FX W1 A c G gc X:=by
 have H:∀b,OU A G X b→W1.heap[b]?=W.heap[b]?:=fun b U=>V.block b (IS h U) (Y b U);refine⟨fun j L=>?_,fun j L=>?_⟩
 ·obtain⟨J,D,e,E⟩:=h.rows j L;have F:=H J (.inl ⟨by omega,D,e⟩);exact⟨J,D,e,⟨(C4 (w:=W) F).trans E.c0,(C4 (w:=W) F).trans E.c1,(C4 (w:=W) F).trans E.c2,fun k M=>(C4 (w:=W) F).trans (E.v k M)⟩⟩
 ·obtain⟨J,D,e,E⟩:=h.gens j L;have F:=H J (.inr ⟨by omega,D,e⟩);exact⟨J,D,e,(C4 (w:=W) F).trans E⟩
theorem ie{B:Nat}{A G:Option Addr}{X:Wd}{W:World}{D J:Option Addr}{L:Nat}{M:Option Addr}{h:Nat}{Y:Wd}(E:Hd B W D J L M h Y)(V:Y.gens≠[]→D=N∨(D=G∧X.gens≠[])):WF B A G X W J L M h Y :=
 ⟨E.toFX,fun b Z=>by
  rcases Z with⟨_,o,e⟩|⟨hl,o,e⟩
  ·exact .inr (E.fa b o e)
  ·rcases E.fg with U|h'
   ·rcases V (CD.1 hl)with F|⟨F,H⟩
    ·rw[U,F]at e;cases e
    ·exact .inl (.inr ⟨CD.2 H,o,by rw[←F,←U,e]⟩)
   ·exact .inr (h' b o e)⟩
structure RH(w0:World)(ex:Nat→Prop)(p:Nat)(A:Option Addr)(c:Nat)(G:Option Addr)(gc:Nat)(mv:Value)(SA:Option Addr)(sc:Nat)(X:Wd)(ss:List GG)(W:World):Prop where
 bx:GJ p [([S A X.rows.length c,S G X.gens.length gc,mv,S SA ss.length sc],93)] W
 wl:FX W A c G gc X
 aw:∀b,OU A G X b→¬ Av p (S SA ss.length sc) ex b
 so:W.ownsRow (p+1) 37 4 (S SA ss.length sc) ss.length (Gj ss)
 ac:∀s∈ss,GZ w0 s.A s.len s.a
 bel:Below w0.heap.size w0 W
 lo:w0.heap.size≤p
section
variable {w0:World} {ex:Nat→Prop} {p:Nat} {A:Option Addr} {c:Nat} {G:Option Addr} {gc:Nat} {mv:Value} {SA:Option Addr} {sc:Nat} {X:Wd} {ss:List GG} {W W1:World}
theorem RH.lt(h:RH w0 ex p A c G gc mv SA sc X ss W):p<W.heap.size:=h.bx.lt (k:=0) R
theorem RH.below(h:RH w0 ex p A c G gc mv SA sc X ss W)(D:Below W.heap.size W W1):RH w0 ex p A c G gc mv SA sc X ss W1 :=
 ⟨h.bx.below D,h.wl.below D,h.aw,FT h.so D,h.ac,h.bel.trans (D.mono h.bel.size),h.lo⟩
theorem RH.old(h:RH w0 ex p A c G gc mv SA sc X ss W)(D:Tw (fun b=>b=p∨(S SA ss.length sc).ownBlock=O b) W W1):Below w0.heap.size w0 W1 :=
 h.bel.trans (D.below h.bel.size fun k E e=>by
  have:=h.lo;rcases e with e|e
  ·omega
  ·have:=(h.so.lt k e).1;omega)
theorem RH.bec(h:RH w0 ex p A c G gc mv SA sc X ss W){E:Option Addr}{H:Nat}{F:Option Addr}{D:Nat}{Y:Wd}(U:FX W E H F D Y)(L:∀ b,OU E F Y b→¬ Av p (S SA ss.length sc) ex b):
  RH w0 ex p E H F D mv SA sc Y ss (W.setCells p 0 [S E Y.rows.length H,S F Y.gens.length D]):=by
 have hp:=h.lt;have M:Tw (fun b=>b=p) W (W.setCells p 0 [S E Y.rows.length H,S F Y.gens.length D]):=(Tw.refl _ W).sets (.inl R);have J:=h.bx.part 0 R 0 [S E Y.rows.length H,S F Y.gens.length D] (by simp);rw[Ay]at J;exact⟨J,Mw U fun V=>L p V (.inl R),L,Iu h.so M fun g Z e=>(by have:=(h.so.lt g Z).1;omega),h.ac,h.old (M.mono fun _ _ e=>.inl e),h.lo⟩
theorem RH.put(h:RH w0 ex p A c G gc mv SA sc X ss W){b o:Nat}{vs:List Value}(L:b≠p)(F:(S SA ss.length sc).ownBlock≠O b)(H:¬ OU A G X b)(h0:w0.heap.size≤b):RH w0 ex p A c G gc mv SA sc X ss (W.setCells b o vs):=by
 have D:Tw (fun k=>k=b) W (W.setCells b o vs):=(Tw.refl _ W).sets (.inl R);exact⟨h.bx.tw D (fun k E e=>by simp only[AJ,AK]at E;omega),Mw h.wl H,h.aw,Iu h.so D (fun g J e=>F (by rw[J,e])),h.ac,h.bel.trans (D.below h.bel.size (fun k E e=>by omega)),h.lo⟩
theorem RH.away(h:RH w0 ex p A c G gc mv SA sc X ss W)(E:∀ b,ex b→b<W.heap.size){B:Nat}(Z:W.heap.size≤B){H:Option Addr}{L:Nat}{J:Option Addr}{F:Nat}{Y:Wd}{V:World}(M:WF B A G X V H L J F Y):∀b,OU H J Y b→¬ Av p (S SA ss.length sc) ex b∧(b<W.heap.size∨B≤b):=fun b U=>by
 have hp:=h.lt;rcases M.blk b U with e|e
 ·exact⟨h.aw b e,.inl (IS h.wl e)⟩
 ·refine⟨fun D=>?_,.inr e⟩;rcases D with D|D|D
  ·omega
  ·have:=(h.so.lt b D).2;omega
  ·have:=E b D;omega
theorem RH.join(h:RH w0 ex p A c G gc mv SA sc X ss W){x:GG}(M:GZ w0 x.A x.len x.a){g F:Nat}{V:World}(D:GJ p [([S A X.rows.length c,S G X.gens.length gc,mv,S (O ⟨g,0,N⟩) (ss.length+1) F],93)] V)(U:V.ownsRow (p+1) 37 4 (S (O ⟨g,0,N⟩) (ss.length+1) F) (ss.length+1) (Gj ss++GI x))(J:Tw (fun b=>b=p∨(S SA ss.length sc).ownBlock=O b) W V)(Y:(S SA ss.length sc).ownBlock=O g∨W.heap.size≤g):
  RH w0 ex p A c G gc mv (O ⟨g,0,N⟩) F X (ss++[x]) V:=by
 have H:(ss++[x]).length=ss.length+1:=by simp
 refine⟨by rw[H];exact D,h.wl.tw J (fun b D e=>h.aw b D (e.elim .inl fun e=>.inr (.inl e))),fun b D L=>?_,by rw[H,Kn];exact U,fun s E=>?_,h.old J,h.lo⟩
 ·rw[H]at L;rcases L with e|e|e
  ·exact h.aw b D (.inl e)
  ·have e:=Bd e;simp only at e;subst e;rcases Y with e|e
   ·exact h.aw _ D (.inr (.inl e))
   ·have:=IS h.wl D;omega
  ·exact h.aw b D (.inr (.inr e))
 ·rcases BV.1 E with E|E
  ·exact h.ac s E
  ·rw[BH]at E;subst E;exact M
end
def iH(w0:World)(ex:Nat→Prop)(p:Nat)(mv:Value)(SA:Option Addr)(sc n:Nat)(r:Mj×HI)(W:World)(e:Ending)(W1:World):Prop :=
 ∃A c G gc SA' sc' ss' A' c',e=Ao (Np r.1 A' c')∧RH w0 ex p A c G gc mv SA' sc' r.2.X ss' W1∧ss'.map I1=r.2.S ∧
  W1.ownsRow W.heap.size 61 2 (.slice A' r.1.bs.length c') r.1.bs.length (Fz r.1.bs) ∧
  Tw (fun b=>b=p∨(Value.slice SA n sc).ownBlock=O b) W W1∧(∀b,(Value.slice SA' ss'.length sc').ownBlock=O b→(Value.slice SA n sc).ownBlock=O b∨W.heap.size≤b)
end Go.Proofs.YtnbleebilmghcabGreat
