/- What the document's Run wants: who is there stays there until its own turn; what is refused. -/
import Derived.Test.YtnbleebilmghcabGreatWL
import Derived.Test.YtnbleebilmghcabGreatWY
import Derived.Test.YtnbleebilmghcabGreatWW
import Derived.Test.YtnbleebilmghcabGreatWJ
set_option linter.all false
namespace Go.Proofs.YtnbleebilmghcabGreat
open Go Go.RowKit
def Here (X:Wd) (b:Int×Int):Prop:=∃ k:Nat,k<X.rows.length∧zAN X b.1 b.2=(k:Int)
theorem Here.keeps {X Y:Wd} {b:Int×Int} (h:Here X b) (hk:Keeps X Y b.1 b.2):Here Y b:=by
 obtain ⟨k,h1,h2⟩:=h
 obtain ⟨j,h3,h4,_⟩:=hk k h1 h2
 exact ⟨j,h3,h4⟩
theorem zOt {X:Wd} {al no:Int} {n:Nat} {b:Int×Int} (h:b∈zCv X al no n):∃ j:Nat,j<X.rows.length∧b=((zR X j).ix,(zR X j).gen):=by
 unfold zCv at h
 obtain ⟨r,hr,rfl⟩:=List.mem_map.1 h
 have hm:=List.mem_of_mem_take (List.mem_filter.1 hr).1
 obtain ⟨j,hj,e⟩:=List.mem_iff_getElem.1 hm
 refine ⟨j,hj,?_⟩
 have:zR X j=r:=by unfold zR;rw [zAF _ _ hj,e]
 rw [this]
theorem zOH {X:Wd} (hr:RightW X) {al no:Int} {n:Nat} {b:Int×Int} (h:b∈zCv X al no n):Here X b:=by
 obtain ⟨j,hj,rfl⟩:=zOt h
 exact ⟨j,hj,zMn hr hj⟩
theorem zMt {X:Wd} (hr:RightW X) (al no:Int) (n:Nat):(zCv X al no n).Pairwise (fun a b=>a≠b):=by
 unfold zCv
 rw [List.pairwise_map]
 refine List.Pairwise.filter _ ?_
 refine List.Pairwise.sublist (List.take_sublist _ _) ?_
 exact (zBW hr).imp fun h e=>by
  have:=congrArg Prod.fst e
  simp only at this
  omega
theorem zPB {X:Wd} {i g:Int} {k:Nat} (hk:k<X.rows.length) (hf:zAN X i g=(k:Int)):(zR X k).ix=i∧(zR X k).gen=g:=by
 rcases zAi X i g with e | ⟨k',_,e,h1,h2⟩
 ·omega
 ·have:k'=k:=by omega
  subst this;exact ⟨h1,h2⟩
theorem zDK {X:Wd} (hr:RightW X) {i g p:Int} {k:Nat} (hk:k<X.rows.length) (hf:zAN X i g=(k:Int)) (hp:zAE p=true):(zCj X i g p).1=(zR X k).v p.toNat∧(zCj X i g p).2=zFH (zR X k).has p:=by
 obtain ⟨hbd,hv⟩:=zAd (hr.rv k hk)
 have hp':=of_decide_eq_true hp
 have e1:fIx (fun j=>X.rows.getD j dR) i g X.rows.length 0=(k:Int):=hf
 have e2:X.rows.getD k dR=zR X k:=rfl
 have hI:=zFG (zR X k).has p hbd.1 hbd.2
 unfold zCj zNP
 rw [e1,if_neg (by omega),Int.toNat_natCast]
 show (if zBy (zR X k).has p=true then ((zR X k).v p.toNat,true) else (0,false)).1=(zR X k).v p.toNat∧(if zBy (zR X k).has p=true then ((zR X k).v p.toNat,true) else (0,false)).2=zFH (zR X k).has p
 by_cases h:zBy (zR X k).has p=true
 ·rw [if_pos h]
  exact ⟨rfl,by rw [←hI,h]⟩
 ·rw [if_neg h]
  refine ⟨?_,by rw [←hI];simpa using h⟩
  rcases (hv p.toNat (by omega)).2 with h0 | h0
  ·exact h0.symm
  ·rw [Int.toNat_of_nonneg hp'.1] at h0;exact absurd h0 h
theorem zOF (n:Int):zBY (zBv n)=true:=by
 unfold zBv zBY
 apply decide_eq_true
 split
 ·omega
 ·split <;> omega
theorem zOe {X:Wd} (hr:RightW X) {i g p n:Int} (hh:Here X (i,g)) (hp:zAE p=true) (hn:zBY n=true):(zDF X i g p n).1=0:=by
 obtain ⟨k,hk,hf⟩:=hh
 have hf:zAN X i g=(k:Int):=hf
 unfold zDF chF
 rw [if_neg (by simpa using (zf X).2 hr),if_neg (by omega)]
 have:∀ x,(zGR x p n).2.2=0:=fun x=>by unfold zGR;rw [hp,hn];rfl
 rw [if_neg (by rw [this];simp)]
theorem zNU {X:Wd} (hr:RightW X) {i g:Int} (hh:Here X (i,g)) {y:ActI} (hk:1≤y.k∧y.k≤7) (hw:rgB y.k y.p y.f y.n=true) (h7:y.k≠7):(zBw X i g y).1=0:=by
 have hp:y.k≠6→zAE y.p=true:=fun h6=>by
  unfold rgB at hw
  repeat' split at hw
  all_goals first | exact (Bool.and_eq_true_iff.1 hw).1 | exact hw | omega
 obtain ⟨k,hkk,hf⟩:=hh
 have hf:zAN X i g=(k:Int):=hf
 have hz:=(zf X).2 hr
 unfold zBw
 by_cases h6:y.k=6
 ·rw [if_pos h6]
  unfold zAn
  rw [if_neg (by simpa using hz),if_neg (by omega)]
 ·rw [if_neg h6,if_neg h7]
  by_cases h5:y.k=5
  ·rw [if_pos h5]
   by_cases h:(zCj X i g y.p).2=true
   ·rw [if_pos h]
    obtain ⟨hbd,_⟩:=zAd (hr.rv k hkk)
    have hI:=zFG (zR X k).has y.p hbd.1 hbd.2
    rw [(zDK hr hkk hf (hp h6)).2,←hI] at h
    unfold zAf chF
    rw [if_neg (by simpa using hz),if_neg (by omega),hf,Int.toNat_natCast]
    have:(zCk (X.rows.getD k dR) y.p).2.2=0:=by unfold zCk;rw [if_pos (show zBy (X.rows.getD k dR).has y.p=true from h)]
    rw [if_neg (by rw [this];simp)]
   ·rw [if_neg h]
  ·rw [if_neg h5]
   exact zOe hr ⟨k,hkk,hf⟩ (hp h6) (zOF _)
theorem zIo {X:Wd} (hr:RightW X) {i g:Int} {y:ActI} (h:(zBw X i g y).1=0) (h6:y.k≠6) (hh:Here X (i,g)):Here (zBw X i g y).2 (i,g):=by
 obtain ⟨k,hk,hf⟩:=hh
 rcases zMy hr h hk hf with ⟨e,_⟩ | ⟨_,j,hj,hf',_⟩
 ·exact absurd e h6
 ·exact ⟨j,hj,hf'⟩
theorem zMx {X:Wd} (hr:RightW X) {i g:Int} {k:Nat} (hk:k<X.rows.length) (hf:zAN X i g=(k:Int)) {y:ActI} (hw:rgB y.k y.p y.f y.n=true) :
  (y.k=2→zGW X i g y=(zR X k).v y.f.toNat∧zAE y.f=true)∧(y.k=3→zGW X i g y=IntKind.i64.wrap ((zR X k).v y.p.toNat+(zR X k).v y.f.toNat)∧zAE y.f=true∧zAE y.p=true)∧(y.k=4→zGW X i g y=IntKind.i64.wrap ((zR X k).v y.p.toNat+y.n)∧zAE y.p=true)∧(y.k=1→zGW X i g y=y.n):=by
 refine ⟨fun h=>?_,fun h=>?_,fun h=>?_,fun h=>?_⟩
 ·rw [h] at hw
  have hb:=Bool.and_eq_true_iff.1 (show (zAE y.p && zAE y.f)=true from hw)
  refine ⟨?_,hb.2⟩
  unfold zGW
  rw [if_pos h,(zDK hr hk hf hb.2).1]
 ·rw [h] at hw
  have hb:=Bool.and_eq_true_iff.1 (show (zAE y.p && zAE y.f)=true from hw)
  refine ⟨?_,hb.2,hb.1⟩
  unfold zGW
  rw [if_neg (by omega),if_pos h,(zDK hr hk hf hb.2).1,(zDK hr hk hf hb.1).1]
 ·rw [h] at hw
  have hb:=Bool.and_eq_true_iff.1 (show (zAE y.p && zBY y.n)=true from hw)
  refine ⟨?_,hb.1⟩
  unfold zGW
  rw [if_neg (by omega),if_neg (by omega),if_pos h,(zDK hr hk hf hb.1).1]
 ·unfold zGW
  rw [if_neg (by omega),if_neg (by omega),if_neg (by omega)]
structure RU (w:World) (A G:Option Addr) (X:Wd) (m al no:Int) (sl:Value) (AB:Option Addr) (bs:List (Int×Int)) (Ac:Option Addr) (cc:Nat) (Gc:Option Addr) (gcc:Nat) (Xc:Wd) (W:World):Prop where
 ob:OB w A G X m al no sl Ac cc Gc gcc Xc W
 bs:BsAt W AB bs
section
variable {w:World} {A G:Option Addr} {X:Wd} {m al no:Int} {sl:Value} {AB:Option Addr} {bs:List (Int×Int)} {Ac:Option Addr} {cc:Nat} {Gc:Option Addr} {gcc:Nat} {Xc:Wd} {W W1:World} {A4:Option Addr} {c4:Nat} {G4:Option Addr} {gc4:Nat} {Y:Wd}
theorem RU.below (h:RU w A G X m al no sl AB bs Ac cc Gc gcc Xc W) (hb:Below W.heap.size W W1):RU w A G X m al no sl AB bs Ac cc Gc gcc Xc W1 :=
 ⟨h.ob.below hb,h.bs.below hb⟩
theorem RU.put (h:RU w A G X m al no sl AB bs Ac cc Gc gcc Xc W) (hF:WF (w.heap.size+3) A G X W A4 c4 G4 gc4 Y) (hN:∀ k,¬ Blk A G X (w.heap.size+k)) (hAB:∀ o',AB=some ⟨w.heap.size,o',none⟩→bs.length=0):RU w A G X m al no sl AB bs A4 c4 G4 gc4 Y (W.setCells (w.heap.size+0) 0 [.slice A4 Y.rows.length c4,.slice G4 Y.gens.length gc4]) :=
 ⟨⟨h.ob.bx.give 0 rfl _ rfl,zI (w.heap.size+0) (by omega) _ 0 _ h.ob.bel,zAc (k:=0) hF hN (by omega)⟩,zLf h.bs hAB⟩
structure RV (w:World) (A G:Option Addr) (X:Wd) (m al no:Int) (sl:Value) (AB:Option Addr) (bs:List (Int×Int)) (bb:Nat) (i g:Int) (Ac:Option Addr) (cc:Nat) (Gc:Option Addr) (gcc:Nat) (Xc:Wd) (W:World):Prop where
 rb:RU w A G X m al no sl AB bs Ac cc Gc gcc Xc W
 be:Bxs bb [([.int .i64 i,.int .i64 g],61)] W
variable {bb:Nat} {i g:Int}
theorem RV.below (h:RV w A G X m al no sl AB bs bb i g Ac cc Gc gcc Xc W) (hb:Below W.heap.size W W1):RV w A G X m al no sl AB bs bb i g Ac cc Gc gcc Xc W1 :=
 ⟨h.rb.below hb,h.be.below hb⟩
theorem RV.put (h:RV w A G X m al no sl AB bs bb i g Ac cc Gc gcc Xc W) (hF:WF (w.heap.size+3) A G X W A4 c4 G4 gc4 Y) (hN:∀ k,¬ Blk A G X (w.heap.size+k)) (hAB:∀ o',AB=some ⟨w.heap.size,o',none⟩→bs.length=0) (hbb:w.heap.size<bb):RV w A G X m al no sl AB bs bb i g A4 c4 G4 gc4 Y (W.setCells (w.heap.size+0) 0 [.slice A4 Y.rows.length c4,.slice G4 Y.gens.length gc4]) :=
 ⟨h.rb.put hF hN hAB,h.be.turn (.inl (by omega))⟩
theorem RU.doc (h:RU w A G X m al no sl AB bs Ac cc Gc gcc Xc W) {B:Nat} (hB:w.heap.size+3≤B) {G0:Option Addr} (hD:WldDoc B W1 G0 A4 c4 G4 gc4 Y) (hg:Y.gens≠[]→G0=none∨(G0=Gc∧Xc.gens≠[])):WF (w.heap.size+3) A G X W1 A4 c4 G4 gc4 Y :=
 ⟨hD.toWldAt,fun b hb=>by
  rcases hb with ⟨_,o,e⟩ | ⟨hl,o,e⟩
  ·exact .inr (Nat.le_trans hB (hD.fa b o e))
  ·rcases hD.fg with e' | h'
   ·rcases hg (List.length_pos_iff.1 hl) with e0 | ⟨e0,hne⟩
    ·rw [e',e0] at e;cases e
    ·exact h.ob.wf.blk b (.inr ⟨List.length_pos_iff.2 hne,o,by rw [←e0,←e',e]⟩)
   ·exact .inr (Nat.le_trans hB (h' b o e))⟩
end
end Go.Proofs.YtnbleebilmghcabGreat
