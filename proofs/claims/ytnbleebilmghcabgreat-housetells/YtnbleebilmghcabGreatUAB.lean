/- Bat2, Bat3, PNext, Mix, Gen, Can -/
import Derived.Test.YtnbleebilmghcabGreatRows
import Derived.Test.YtnbleebilmghcabGreatUAA
import Derived.Test.YtnbleebilmghcabGreatUAE
import Derived.Test.YtnbleebilmghcabGreatUAC
import Derived.Test.YtnbleebilmghcabGreatUAJ
set_option linter.all false
set_option maxRecDepth 8000
set_option maxHeartbeats 4000000
open Go.Value renaming int→I,slice→S,pointer→Ae,bool→Aj,ownBlock→Ax
open Go.IntKind renaming i64→K
open Option renaming none→N,some→O
open Go.Obj renaming cells→Al
open Go.Operand renaming tmp→Am
open Go.Ending renaming returned→Ao
open Go.Act renaming eval→Aq
open Go.Proofs.Tryz renaming prog→Au
namespace Go.Proofs.YtnbleebilmghcabGreat
open Go Go.RowKit
attribute [local go_sem ↓] Go.wp_at_zero Go.wp_at_succ
def Rn(w:World)(b1 b7 n:Nat)(p:Nat→Bool):Prop:=∀W,Below w.heap.size w W→∀o,o<n→Calls Au 38 #[I K (o:Int),Ae (O ⟨b1,0,N⟩),Ae (O ⟨b7,0,N⟩)] W fun e w'=>e=Ao (Aj (p o))∧Below W.heap.size W w'
theorem Rn.below{w w1:World}{D E n:Nat}{p:Nat→Bool}(h:Rn w D E n p)(F:Below w.heap.size w w1):Rn w1 D E n p:=fun W H o J=>h W (F.trans (H.mono F.size)) o J
def Lk(w:World)(A:Option Addr)(l:List Nat):Prop:=∀j,j<l.length→∃b off,A=O ⟨b,off,N⟩∧w.cell? ⟨b,off+j,N⟩=O (I K ((l.getD j 0:Nat):Int))
theorem Lk.below{w w1:World}{A:Option Addr}{l:List Nat}(h:Lk w A l)(E:Below w.heap.size w w1):Lk w1 A l:=fun j F=>by
  obtain⟨b,D,h0,H⟩:=h j F;exact⟨b,D,h0,AW E H⟩
theorem RG(l:List Nat)(j:Nat)(h:j<l.length):l.getD j 0∈l:=by
  rw[Az,AE h];exact Bm h
theorem Zb(l:List Nat)(p:Nat→Bool)(j:Nat)(h:j<l.length):(l.take (j+1)).any p=((l.take j).any p || p (l.getD j 0)):=by
  rw[A0 h,List.any_append,Az,AE h];simp
theorem TS(A:Option Addr)(l:List Nat)(U n b1 b7:Nat)(p:Nat→Bool)(w:World)(hl:l.length≤140737488355328)(V:∀ x∈l,x<n)(Y:Lk w A l)(Z:Rn w b1 b7 n p):
    Calls Au 107 #[S A l.length U,.func (.func 38) #[] #[Ae (O ⟨b1,0,N⟩),Ae (O ⟨b7,0,N⟩)]] w fun e w'=>∃r:Int,e=Ao (I K r)∧decide (0≤r)=l.any p∧Below w.heap.size w w':=by
  go_enter Tryz.func107,Tryz.ntmps107
  go_wp2;go_loopw [8] (fun x wr=>∃j:Nat,j≤l.length∧x=I K j∧(l.take j).any p=false∧Below w.heap.size w wr) (fun x _=>l.length - (intOf x).toNat)
  case atStart=>exact⟨0,AS _,rfl,rfl,AD _ _⟩
  case round =>
    obtain⟨j,hj,rfl,hF,D⟩:=hrel;by_cases F:j<l.length
    · have j0:(0:Int)≤(j:Int):=by omega
      have j1:(j:Int)<(l.length:Int):=(by omega);obtain⟨b,hf,rfl,E⟩:=Y j F;have E:=AW D E;have HT:=An (Zb l p j F);have hb:=(RG l j F);have hC:=Z wr D (l.getD j 0) (V _ (RG l j F));have HP:Hid (∀q,p (l.getD j 0)=q→(p (l.getD j 0))=q):=fun _ h=>h;have H:=An D;clear D Z Y V;generalize hx:l.getD j 0=x at *;clear hx HP;generalize hd:p x=px at *
      cases px
      all_goals
        go_wp2_with(first
          |(go_at_call 38;refine hC.mono ?_;rintro e w5⟨rfl,J⟩;have L:=((AN H).trans (J.mono (AN H).size));clear J))
        first
        | (go_ret
           refine⟨(j:Int),rfl,?_,L⟩;have M:l.any p=true:=DK.2 ⟨x,hb,hd⟩;rw[M];simp)
        | (go_roundw
           case rel=>exact⟨j+1,by omega,by go_num,by rw[AN HT,hF];rfl,L⟩
           case measure=>simp[intOf];omega)
    · obtain rfl:j=l.length:=by omega
      have M:l.any p=false:=(by simpa using hF);have HB:=D;have he:=An M;clear D Y Z V M hF;go_wp2;go_ret;refine⟨-1,rfl,?_,HB⟩;rw[AN he];rfl
theorem Pw(A:Option Addr)(l:List Nat)(h n D E:Nat)(p:Nat→Bool)(w:World)(U:l.length≤140737488355328)(H:∀ x∈l,x<n)(J:Lk w A l)(L:Rn w D E n p):
    Calls Au 71 #[S A l.length h,.func (.func 38) #[] #[Ae (O ⟨D,0,N⟩),Ae (O ⟨E,0,N⟩)]] w fun e V=>e=Ao (Aj (l.any p))∧Below w.heap.size w V:=by
  have Y:=(TS A l h n D E p w U H J L);clear H J L;go_enter Tryz.func71,Tryz.ntmps71
  go_wp2_with(first
    |(go_at_call 107;refine Y.mono ?_;rintro e w5⟨r,rfl,M,F⟩;have Z:=An M;clear M))
  all_goals
    go_ret;refine⟨?_,F⟩;rw[←AN Z];simp[*]
def Mi(w:World)(B:Option Addr)(bs:List (List Nat)):Prop:=∀k,k<bs.length→∃b off A cap,B=O ⟨b,off,N⟩∧w.cell? ⟨b,off+k,N⟩=O (S A (bs.getD k []).length cap)∧Lk w A (bs.getD k [])
theorem Mi.below{w w1:World}{B:Option Addr}{F:List (List Nat)}(h:Mi w B F)(H:Below w.heap.size w w1):Mi w1 B F:=fun k J=>by
  obtain⟨b,D,A,E,h0,L,M⟩:=h k J;exact⟨b,D,A,E,h0,AW H L,M.below H⟩
theorem ew(p:Nat→Bool)(B:List (List Nat))(a:Nat):Tn p B (a+1)=if(B.getD a []).any p then a+1 else Tn p B a:=rfl
theorem XI(B:Option Addr)(h:List (List Nat))(Y n Z b7:Nat)(p:Nat→Bool)(w:World)(hl:h.length≤100)(H:∀ k,k<h.length→(h.getD k []).length≤100)(hn:∀ k,k<h.length→∀ x∈h.getD k [],x<n)(hB:Mi w B h)(hc:Rn w Z b7 n p):
    Calls Au 40 #[S B h.length Y,.func (.func 38) #[] #[Ae (O ⟨Z,0,N⟩),Ae (O ⟨b7,0,N⟩)]] w fun e w'=>e=Ao (I K (Tn p h h.length:Nat))∧Below w.heap.size w w':=by
  go_enter Tryz.func40,Tryz.ntmps40
  go_wp2;go_loopw [5] (fun x wr=>∃a:Nat,a≤h.length∧x=I K a∧Tn p h h.length=Tn p h a∧Below w.heap.size w wr) (fun x _=>(intOf x).toNat)
  case atStart=>exact⟨h.length,AC _,rfl,rfl,AD _ _⟩
  case round =>
    obtain⟨a,ha,rfl,hF,D⟩:=hrel;have V:=An hF;clear hF
    cases a with
    | zero =>
      have hv:Tn p h h.length=0:=AN V;have HB:=D;have HV:=An hv;clear D hv hB hc hn V;go_wp2;go_ret;exact⟨by rw[AN HV];rfl,HB⟩
    | succ a =>
      have a0:(0:Int)≤(a:Int):=(by omega);have a1:(a:Int)<(h.length:Int):=(by omega);have a2:(0:Int)<(a:Int)+1:=(by omega);obtain⟨b,hd,A,J,rfl,E,F⟩:=hB a (by omega);have E:=AW D E;have HC:=(Pw A (h.getD a []) J n Z b7 p wr (by have:=H a (by omega);omega) (hn a (by omega)) (F.below D) (hc.below D));have HS:=An (ew p h a);have L:=An D;clear D hc hB hn F H;generalize (h.getD a []).any p=hb at *;generalize (h.getD a []).length=len at *
      cases hb
      all_goals
        go_wp2_with(first
          |(go_at_call 71;refine HC.mono ?_;rintro e w5⟨rfl,M⟩;have U:=((AN L).trans (M.mono (AN L).size));clear M))
        first
        | (go_ret
           exact⟨by rw[AN V,AN HS];simp,U⟩)
        | (go_roundw
           case rel=>exact⟨a,by omega,by go_num,(AN V).trans ((AN HS).trans (by simp)),U⟩
           case measure=>simp[intOf])
end Go.Proofs.YtnbleebilmghcabGreat
namespace Go.Proofs.YtnbleebilmghcabGreat
open Go Go.RowKit
def IQ(l:List Nat):List Value:=l.map fun x=>I K ((x:Nat):Int)
def Ii:Value:=S N 0 0
structure KV(W:World)(base:Nat)(v:Value)(bs:List (List Nat))(xs:List Value):Prop where
 top:W.ownsRow base 23 1 v bs.length xs
 each:∀k,k<bs.length→W.ownsRow base 3 1 (xs.getD k Ii) (bs.getD k []).length (IQ (bs.getD k []))
 apart:∀k k',k<bs.length→k'<bs.length→k≠k'→∀g,(xs.getD k Ii).ownBlock=O g→(xs.getD k' Ii).ownBlock≠O g
theorem KV.nil(W:World)(D:Nat):KV W D (S N 0 0) [] []:=⟨Bn _ _ _ _,fun _ h=>by simp at h,fun _ _ h=>by simp at h⟩
theorem KV.len{W:World}{D:Nat}{v:Value}{E:List (List Nat)}{F:List Value}(h:KV W D v E F):F.length=E.length:=by simpa using h.top.1
theorem KV.below{W W1:World}{D:Nat}{v:Value}{E:List (List Nat)}{F:List Value}(h:KV W D v E F)(H:Below W.heap.size W W1):KV W1 D v E F :=
 ⟨FT h.top H,fun k J=>FT (h.each k J) H,h.apart⟩
theorem Qr{W:World}{F:Nat}{v:Value}{l:List Nat}(h:W.ownsRow F 3 1 v l.length (IQ l)):∃A D,v=S A l.length D∧Lk W A l:=by
 by_cases h0:0<l.length
 ·obtain⟨g,D,rfl,_,_⟩:=Gi h h0;refine⟨O ⟨g,0,N⟩,D,rfl,fun j E=>⟨g,0,rfl,?_⟩⟩;rw[AT];refine F4 h ?_;unfold IQ;rw[Bw,AE E,Az,AE E];rfl
 ·obtain rfl:l=[]:=BK (by omega);rcases h.2 with⟨rfl,_⟩|⟨g,D,H,rfl,_⟩
  ·exact⟨N,0,rfl,fun j E=>by simp at E⟩
  ·exact⟨_,D,rfl,fun j E=>by simp at E⟩
theorem KV.bats{W:World}{E:Nat}{v:Value}{F:List (List Nat)}{L:List Value}(h:KV W E v F L):∃B D,v=S B F.length D∧Mi W B F:=by
 by_cases h0:0<F.length
 ·have M:=h.top;obtain⟨g,D,rfl,_,_⟩:=Gi M h0;refine⟨O ⟨g,0,N⟩,D,rfl,fun k U=>?_⟩;obtain⟨A,c,V,Y⟩:=Qr (h.each k U);refine⟨g,0,A,c,rfl,?_,Y⟩;rw[AT];refine F4 M ?_;have H:k<L.length:=by rw[h.len];exact U
  rw[←V,Az,AE H];rfl
 ·obtain rfl:F=[]:=BK (by omega);rcases h.top.2 with⟨rfl,_⟩|⟨g,D,Z,rfl,_⟩
  ·exact⟨N,0,rfl,fun j J=>by simp at J⟩
  ·exact⟨_,D,rfl,fun j J=>by simp at J⟩
theorem RJ(D:List Value)(u:Value)(k:Nat)(h:k<D.length):(D++[u]).getD k Ii=D.getD k Ii:=by
 rw[Az,Az,BF h]
theorem NZ(h:List Value)(u:Value):(h++[u]).getD h.length Ii=u:=by
 rw[Az];simp
theorem ZK(D:List (List Nat))(u:List Nat)(k:Nat)(h:k<D.length):(D++[u]).getD k []=D.getD k []:=by
 rw[Az,Az,BF h]
theorem OF(h:List (List Nat))(u:List Nat):(h++[u]).getD h.length []=u:=by
 rw[Az];simp
theorem KV.push{W W':World}{D:Nat}{v Z:Value}{H:List (List Nat)}{J:List Value}(h:KV W D v H J)(ho:W'.ownsRow D 23 1 Z (H.length+1) (J++[Ii]))(hg:W.grownBy W' v.ownBlock):KV W' D Z (H++[[]]) (J++[Ii]):=by
 have hl:=h.len;refine⟨by simpa using ho,fun k M=>?_,fun k U M V Y g F=>?_⟩
 ·by_cases E:k<H.length
  ·rw[RJ _ _ _ (by omega),ZK _ _ _ E];exact(h.each k E).kept hg (F1 (h.each k E) h.top (by decide))
  ·have:k=H.length:=(by simp at M;omega);subst this;have e:=NZ J Ii;rw[hl]at e;rw[e,OF];exact Bn _ _ _ _
 ·by_cases E:k<H.length
  ·rw[RJ _ _ _ (by omega)]at F;by_cases L:U<H.length
   ·rw[RJ _ _ _ (by omega)];exact h.apart k U E L Y g F
   ·have:U=J.length:=(by simp at V;omega);subst this;rw[NZ];simp[Ii,Ax]
  ·have:k=J.length:=(by simp at M;omega);subst this;rw[NZ]at F;simp[Ii,Ax]at F
theorem Lj(D:List Value)(u:Value)(k:Nat)(h:k<D.length):(D.set k u).getD k Ii=u:=by
 rw[Az,Co h];rfl
theorem Jw(D:List Value)(u:Value)(k j:Nat)(h:k≠j):(D.set k u).getD j Ii=D.getD j Ii:=by
 rw[Az,Cx h,Az]
theorem RE(D:List (List Nat))(u:List Nat)(k:Nat)(h:k<D.length):(D.set k u).getD k []=u:=by
 rw[Az,Co h];rfl
theorem Pt(D:List (List Nat))(u:List Nat)(k j:Nat)(h:k≠j):(D.set k u).getD j []=D.getD j []:=by
 rw[Az,Cx h,Az]
theorem KV.add{W W':World}{F g V:Nat}{D:List (List Nat)}{L:List Value}(h:KV W F (S (O ⟨g,0,N⟩) D.length V) D L){k x g2 cap2:Nat}(hk:k<D.length)
  (ho:W'.ownsRow F 3 1 (S (O ⟨g2,0,N⟩) ((D.getD k []).length+1) cap2) ((D.getD k []).length+1) (IQ (D.getD k [])++[I K (x:Int)])) (hg:W.grownBy W' (L.getD k Ii).ownBlock) (hw:O g2=(L.getD k Ii).ownBlock∨W.heap.size≤g2):
  KV (W'.setCell ⟨g,k,N⟩ (S (O ⟨g2,0,N⟩) ((D.getD k []).length+1) cap2)) F (S (O ⟨g,0,N⟩) D.length V) (D.set k (D.getD k []++[x])) (L.set k (S (O ⟨g2,0,N⟩) ((D.getD k []).length+1) cap2)):=by
 have hl:=h.len;have ht:=h.top.kept hg (F1 h.top (h.each k hk) (by decide));have hh:=(h.top.lt g R).2;have hd:g2≠g:=by
  intro e;subst e;obtain⟨hi,Y,_⟩:=I4 ht;obtain⟨hf,h2,_⟩:=I4 ho;rw[Y]at h2;simp at h2
 have Z:∀j,j<D.length→j≠k→(L.getD j Ii).ownBlock≠O g2:=by
  intro j E he H;rcases hw with hw|hw
  ·exact h.apart j k E hk he g2 H hw.symm
  ·have:=((h.each j E).lt g2 H).2;omega
 have ha:∀j,j<D.length→(L.getD j Ii).ownBlock≠O g:=by
  intro j E H;have:=F1 (h.each j E) h.top (by decide);rcases this with Y|Y
  ·rw[Y]at H;cases H
  ·exact Y H
 refine⟨?_,fun j E=>?_,fun j j' E M J y U=>?_⟩
 ·rw[By];exact NX ht (by omega) _
 ·rw[By]at E;by_cases e:k=j
  ·subst e;rw[Lj _ _ _ (by omega),RE _ _ _ hk];refine B7 ?_ (by simpa[Ax]using hd) _;simpa[IQ]using ho
  ·rw[Jw _ _ _ _ e,Pt _ _ _ _ e];refine B7 ((h.each j E).kept hg ?_) (ha j E) _
   cases hb:(L.getD j Ii).ownBlock with
   |none=>exact .inl R
   |some y=>exact .inr fun H=>h.apart j k E hk (BW e) y hb H.symm
 ·rw[By]at E M;by_cases e:k=j
  ·subst e;rw[Lj _ _ _ (by omega)]at U;rw[Jw _ _ _ _ J];simp only[Ax,Bc]at U;subst U;exact Z j' M (BW J)
  ·rw[Jw _ _ _ _ e]at U;by_cases e':k=j'
   ·subst e';rw[Lj _ _ _ (by omega)];intro H;simp only[Ax,Bc]at H;subst H;exact Z j E J U
   ·rw[Jw _ _ _ _ e'];exact h.apart j j' E M J y U
attribute [local go_sem ↓] Go.wp_at_zero Go.wp_at_succ
theorem kC:(Au.info? 4).map (fun i=>(i.zero,i.size,i.bytes))=O (O (Aj false),1,1):=by kernel_rfl
theorem j5:(Au.info? 4).map (·.size)=O 1:=by kernel_rfl
def KI(rows:List D7)(j i:Nat):Bool:=(rows.take j).any fun x=>x.ix == (i:Int)
def Jx(rows:List D7)(gn j:Nat):List Value:=(List.range gn).map fun i=>Aj (KI rows j i)
theorem NN(h:List D7)(D j:Nat):(Jx h D j).length=D:=by simp[Jx]
theorem Nv(D:List D7)(j i:Nat)(h:j<D.length):KI D (j+1) i=(KI D j i || (D.getD j dR).ix == (i:Int)):=by
 unfold KI;rw[A0 h,List.any_append,Az,AE h];simp
theorem Vr(D:List D7)(E j:Nat)(h:j<D.length)(H:(D.getD j dR).ix<0∨(E:Int)≤(D.getD j dR).ix):Jx D E (j+1)=Jx D E j:=by
 unfold Jx;refine CC fun i F=>?_;rw[Bh]at F;rw[Nv D j i h];have:((D.getD j dR).ix == (i:Int))=false:=by rw[DQ];omega
 rw[this];simp
theorem YI(D:List D7)(E j q:Nat)(h:j<D.length)(H:q<E)(J:(D.getD j dR).ix=(q:Int)):Jx D E (j+1)=(Jx D E j).set q (Aj true):=by
 apply CX;intro i;by_cases F:i<E
 ·have L:(Jx D E (j+1))[i]?=O (Aj (KI D (j+1) i)):=by unfold Jx;rw[Bw,CE F];rfl
  have M:(Jx D E j)[i]?=O (Aj (KI D j i)):=by unfold Jx;rw[Bw,CE F];rfl
  rw[L,Nv D j i h,J];by_cases e:q=i
  ·subst e;rw[Co (by rw[NN];exact H)];simp
  ·rw[Cx e,M];have:((q:Int) == (i:Int))=false:=(by simp;omega);rw[this];simp
 ·rw[Bb (by rw[NN];omega),Bb (by rw[By,NN];omega)]
theorem Ts(h:List D7)(D:Nat):(madeCells (Aj false).cells (D*1)).toList=Jx h D 0:=by
 apply CX;intro i;unfold Jx KI;by_cases E:i<D
 ·rw[Bw,CE E];simp[madeCells,E,Value.cells,Fm]
 ·rw[Bb (by simp[madeCells];omega),Bb (by simp;omega)]
theorem Z3(D:List D7)(E j i:Nat)(h:i<E):(Jx D E j)[i]?=O (Aj (KI D j i)):=by unfold Jx;rw[Bw,CE h];rfl
structure Tl(w:World)(u0 u1:Value)(W:World):Prop where
 bel:Below w.heap.size w W
 sz:w.heap.size+1≤W.heap.size
 r0:W.cell? ⟨w.heap.size,0,N⟩=O u0
 r1:W.cell? ⟨w.heap.size,1,N⟩=O u1
theorem Tl.keep{w W W1:World}{u0 u1:Value}(h:Tl w u0 u1 W)(D:Below (w.heap.size+1) W W1):Tl w u0 u1 W1 :=
 ⟨h.bel.trans (D.mono (by omega)),AU h.sz D.size,(D.cell (p:=⟨w.heap.size,0,N⟩) (by simp)).trans h.r0,(D.cell (p:=⟨w.heap.size,1,N⟩) (by simp)).trans h.r1⟩
theorem Tl.below{w W W1:World}{u0 u1:Value}(h:Tl w u0 u1 W)(D:Below W.heap.size W W1):Tl w u0 u1 W1:=h.keep (D.mono h.sz)
theorem Tl.start(w:World)(u0 u1:Value):Tl w u0 u1 (w.alloc (Al #[u0,u1] 43)):=⟨Fv.alloc Fu _,by simp,by simp,by simp⟩
theorem ZF(A:Option Addr)(H:Nat)(G:Option Addr)(D:Nat)(X:Wd)(w:World)(hn:X.rows.length≤140737488355328)(hs:X.gens.length≤140737488355328)(hX:FX w A H G D X):
  Calls Au 162 #[Up A H G D X] w fun e w'=>∃u,e=Ao (S (O ⟨u,0,N⟩) X.gens.length X.gens.length)∧w'.ownsRow (w.heap.size+1) 4 1 (S (O ⟨u,0,N⟩) X.gens.length X.gens.length) X.gens.length (Jx X.rows X.gens.length X.rows.length)∧Below w.heap.size w w':=by
 obtain⟨i4,hg,hh,hi,M⟩:=BC kC;have hl:i4.bytes*X.gens.length≤281474976710656:=by rw[M];omega
 have F:=An (Tl.start w (S A X.rows.length H) (S G X.gens.length D));have U:=An (Ts X.rows X.gens.length);clear M;unfold Up FF;go_enter Tryz.func162,Tryz.ntmps162
 go_wp2_with(first
  |(at_make;refine DI _ R (Am 8) (Am 8) 196 R (w.heap.size+1) 4 i4 (Aj false) 1 Tryz.underlying196 hg hh hi K K (X.gens.length:Int) (X.gens.length:Int) X.gens.length R R R R hl (by unfold maxLen;omega) F.sz ?_;intro w3 E V;have J:=F.keep (F0 V (fun k hk=>by cases hk) F.sz);rw[AN U]at E;have Y:=E;have r0:=J.r0;have r1:=J.r1;clear E V F))
 clear r0 r1;have E:w3.ownsRow (w.heap.size+1) 4 1 (S (O ⟨w.heap.size+1,0,N⟩) X.gens.length X.gens.length) X.gens.length (Jx X.rows X.gens.length 0):=by simpa using Y
 have Z:=E;clear E Y U;go_loopw [13] (fun i wr=>∃j:Nat,j≤X.rows.length∧i=I K j∧wr.ownsRow (w.heap.size+1) 4 1 (S (O ⟨w.heap.size+1,0,N⟩) X.gens.length X.gens.length) X.gens.length (Jx X.rows X.gens.length j)∧Tl w (S A X.rows.length H) (S G X.gens.length D) wr) (fun i _=>X.rows.length - (intOf i).toNat)
 case atStart=>exact⟨0,AS _,rfl,Z,J⟩
 case round =>
  clear Z J;obtain⟨j,hj,rfl,ho,F⟩:=hrel;by_cases L:j<X.rows.length
  ·have j0:(0:Int)≤(j:Int):=(by omega);have j1:(j:Int)<(X.rows.length:Int):=(by omega);obtain⟨b,hm,hA,h⟩:=hX.rows j L;have h:Hb wr b (hm+j*11) (X.rows.getD j dR):=h.below F.bel;have c0:=h.c0;have c1:=h.c1;have c2:=h.c2;have c3:=h.v 0 (by omega);have c4:=h.v 1 (by omega);have c5:=h.v 2 (by omega);have c6:=h.v 3 (by omega);have c7:=h.v 4 (by omega);have c8:=h.v 5 (by omega);have c9:=h.v 6 (by omega);have ha:=h.v 7 (by omega);simp only[Bt,Nat.reduceAdd]at c3 c4 c5 c6 c7 c8 c9 ha;simp only[←Bt]at c3 c4 c5 c6 c7 c8 c9 ha;have hb:=An (Vr X.rows X.gens.length j L);have hp:=An (fun q hq=>YI X.rows X.gens.length j q L hq);have hd:=An (NN X.rows X.gens.length j);subst hA;clear h hX;generalize X.rows.getD j dR=x at *;have hc:x.ix<0∨(¬ x.ix<0∧(X.gens.length:Int)≤x.ix)∨∃q:Nat,q<X.gens.length∧x.ix=(q:Int):=by
    by_cases h1:x.ix<0
    ·exact .inl h1
    ·by_cases h2:(X.gens.length:Int)≤x.ix
     ·exact .inr (.inl ⟨h1,h2⟩)
     ·exact .inr (.inr ⟨x.ix.toNat,by omega,by omega⟩)
   rcases hc with h1|⟨h1,h2⟩|⟨q,hq,hx⟩
   ·have hr:¬ (0:Int)≤x.ix:=(by omega);go_wp2;go_roundw
    case rel=>exact⟨j+1,by omega,by go_num,by rw[AN hb (.inl h1)];exact ho.alloc _,F.below (Fv.alloc Fu _)⟩
    case measure=>simp[intOf];omega
   ·have hr:(0:Int)≤x.ix:=(by omega);have ht:¬ x.ix<(X.gens.length:Int):=(by omega);go_wp2;go_roundw
    case rel=>exact⟨j+1,by omega,by go_num,by rw[AN hb (.inr h2)];exact ho.alloc _,F.below (Fv.alloc Fu _)⟩
    case measure=>simp[intOf];omega
   ·obtain⟨ix,hu,hv,v⟩:=x;dsimp only at *;subst hx;have q0:(0:Int)≤(q:Int):=(by omega);have q1:(q:Int)<(X.gens.length:Int):=(by omega);go_wp2_with(first
     |(refine FU R 4 (Am 33) (.const (Aj true)) R (w.heap.size+1) q (Aj true) R R R j5 (Hl (ho.alloc _) q 1 (by rw[AN hd];omega)) ?_;intro W2 he;have hf:=An he;clear he))
    go_roundw
    case rel=>exact⟨j+1,by omega,by go_num,by rw[AN hp q hq R,AN hf];exact NX (ho.alloc _) (by rw[AN hd];exact hq) _,by rw[AN hf];exact(F.below (Fv.alloc Fu _)).keep (Fv.setCell (p:=⟨w.heap.size+1,q,N⟩) Fu _)⟩
    case measure=>simp[intOf];omega
  ·obtain rfl:j=X.rows.length:=(by omega);have HB:=F.bel;clear hX;go_wp2;go_ret;exact⟨w.heap.size+1,rfl,ho,HB⟩
def Kv(X:Wd):Nat→Nat→(Int×Int)×Int
 |0,_=>if 60≤X.gens.length then((0,0),4)else((((X.gens.length:Nat):Int),1),0)
 |m+1,j=>if KI X.rows X.rows.length j=false∧X.gens.getD j 0<1000 then((((j:Nat):Int),X.gens.getD j 0+1),0)else Kv X m (j+1)
end Go.Proofs.YtnbleebilmghcabGreat
namespace Go.Proofs.YtnbleebilmghcabGreat
open Go Go.RowKit
def PR(ops:Array Oper):Bool:=(List.range ops.size).all fun j=>match ops[j]? with
 |some o=>o.after.all fun e=>decide (e.on<j) || !Region.binds .any e
 |none=>true
theorem Va{ops:Array Oper}(L:PR ops=true)(h:Array Bool)(M:h.size=ops.size)(U:Region.ready .any ops h=[]):
  ∀j,j<ops.size→h.getD j false=true:=by
 intro j
 induction j using Nat.strongRecOn with
 | ind j ih =>
  intro D
  cases V:h.getD j false with
  |true=>rfl
  | false =>
   exfalso;have F:ops[j]?=O ops[j]:=(by simp[D]);have H:j∈Region.ready .any ops h:=by
    rw[Cu];refine⟨by simpa[Array.getD,M,D]using V,ops[j],F,fun e Y E=>?_⟩;have J:=AY.1 L j (Bh.2 D);simp only[F]at J;have Z:=Ct.1 J e Y;have h3:e.on<j:=(by simpa[E]using Z);exact ih e.on h3 (by omega)
   rw[U]at H;exact absurd H (by simp)
theorem Kl{P:Program}{ops:Array Oper}{Q:Exit→Act→World→Prop}{id:Nat}{a:Act}{w:World}(hm:P.follows .mixedOrders=true)
  (I:(Nat→Bool)→Act→World→Prop) (hb:PR ops=true)
  (hstart:I (fun _=>false) a { w with drawn:=w.drawn+1 })
  (hstep:∀L a w i o,I L a w→ops[i]?=O o→L i=false→(∀e∈o.after,Region.binds .any e=true→L e.on=true)→wpOp P ops Q i (I (upd L i)) a w)
  (hend:∀L a w,I L a w→(∀j,j<ops.size→L j=true)→Q .normal a w):(Code.region id ops true).wp P Q a w:=by
 refine Ep hm (SC (fun l a w=>l.size=ops.size∧I (fun j=>l.getD j false) a w) ?_ ?_ _ _ _ _ ?_ ?_)
 ·rintro l a w i⟨hs,hI⟩ hi;obtain⟨h1,o,ho,h2⟩:=Cu.1 hi;have hi':=(P6 l i h1).1;refine E4 (fun a' w' h'=>⟨by simpa using hs,?_⟩) (hstep _ a w i o hI ho (by simpa[Array.getD,hi']using h1) h2);have e:(fun j=>(l.setIfInBounds i true).getD j false)=upd (fun j=>l.getD j false) i:=by
   funext j;unfold upd;by_cases hj:j=i
   ·subst hj;simp[Array.getD,hi']
   ·rw[AA hj,Eg _ (BW hj)]
  show I (fun j=>(l.setIfInBounds i true).getD j false) a' w';rw[e];exact h'
 ·rintro l a w⟨hs,hI⟩ hr;exact hend _ a w hI (Va hb l hs hr)
 ·refine⟨by simp,?_⟩;have e:(fun j=>(Array.replicate ops.size false).getD j false)=fun _=>false:=by
   funext j;simp[Array.getD]
  rw[e];exact hstart
 ·simpa using Fe (p:=fun b=>!b) (l:=List.replicate ops.size false)
def YF(K:Act→World→Prop)(e:Exit)(a:Act)(w:World):Prop:=e=.normal∧K a w
theorem Jj{K:Act→World→Prop}{a:Act}{w:World}(h:K a w):YF K .normal a w:=⟨rfl,h⟩
def Ja(P:Program)(ops:Array Oper)(D:World→Prop)(R:Act→World→Prop):Nat→List Oper→Act→World→Prop
 |_,[],a,w=>R a w
 |m,o :: rest,a,w=>wpList P ops (YF fun a' w'=>∀x:Hm w',(0<m→D x.val)∧Ja P ops D R (m - 1) rest a' x.val) [o] a w
theorem Vs{P:Program}{o:Oper}{a b:Act}{N N':Act→World→Prop}{Q Q':Exit→Act→World→Prop}(hQ:∀ ch a w,¬ Q' (.panic ch) a w)(hL:¬ LetsOut Q')
  (hN:∀v w',N (b.put o.dst v) w'→N' (a.put o.dst v) w') (hd:∀d w',N (({ b with defers:=d :: b.defers }:Act).put o.dst undef) w'→N' (({ a with defers:=d :: a.defers }:Act).put o.dst undef) w'):
  ∀r,o.upon P b N Q' r→o.upon P a N' Q r
 |.ok (.value v) w',h=>hN _ _ h
 |.ok .skip w',h=>hN _ _ h
 |.ok (.defer d) w',h=>hd _ _ h
 | .ok (.enter f args) w',h=>Dx h fun e w'' he=>by
   cases e with
   |returned v=>exact hN _ _ he
   |panicked ch=>exact absurd he (hQ _ _ _)
   |outgrown=>exact absurd he hL
 |.ok (.row row args) w',h=>Rows.mono h fun v w'' hv=>hN _ _ hv
 |.halt (.panic v) w',h=>absurd h (hQ _ _ _)
def eG(l:List Nat):Bool:=(List.range l.length).all fun j=>(List.range j).all fun i=>decide (l.getD i 0<l.getD j 0)
theorem Ok{l:List Nat}(h:eG l=true){i j x y:Nat}(F:l[i]?=O x)(E:l[j]?=O y)(D:i<j):x<y:=by
 have H:=AY.1 h j (Bh.2 (AX.1 E).1);have J:=AM (AY.1 H i (Bh.2 D));simpa[F,E]using J
def jM(m:Nat)(an ps qs ls:List Nat)(ops:List Oper):Bool :=
 (qs.all fun i=>ps.contains i || (decide (m<ls.length) && an.contains i) || decide (ls.length≤m)) && (ps.all fun i=>qs.contains i) && eG ps &&
 (an.all fun i=>ls[m]? == O i || an.any fun k=>decide (i<k) && decide (k<ops.length) && match ops[k]? with
  |none=>false
  |some o=>o.after.any fun e=>decide (e.on=i) && Region.binds .any e) &&
 ((List.range ops.length).all fun i=>qs.contains i != ls.contains i) && (qs.all fun i=>decide (i<ops.length)) && (ls.all fun i=>decide (i<ops.length)) && eG qs && eG ls &&
 (qs.all fun q=>match ops[q]? with
  |none=>true
  |some o=>(Z6 o).all fun t=>ls.all fun l=>match ops[l]? with
   |none=>true
   |some p=>p.dst != O t) &&
 ((List.range ls.length).all fun k=>decide (k=0) || match ls[k]?,ls[k - 1]? with
  |some i,O j=>(match ops[i]? with
   |none=>false
   |some o=>o.after.any fun e=>decide (e.on=j) && Region.binds .any e)
  |_,_=>true)
structure kj(m:Nat)(an ps qs ls:List Nat)(ops:List Oper):Prop where
 cov:∀i∈qs,i∈ps∨(m<ls.length∧i∈an)∨ls.length≤m
 pq:∀i∈ps,i∈qs
 pi:∀i j x y:Nat,ps[i]?=O x→ps[j]?=O y→i<j→x<y
 up:∀i∈an,ls[m]?=O i∨∃k o,k∈an∧i<k∧k<ops.length∧ops[k]?=O o∧∃e∈o.after,e.on=i∧Region.binds .any e=true
 one:∀i,i<ops.length→(i∈qs∧i ∉ ls)∨(i ∉ qs∧i∈ls)
 q:∀i∈qs,i<ops.length
 l:∀i∈ls,i<ops.length
 qi:∀i j x y:Nat,qs[i]?=O x→qs[j]?=O y→i<j→x<y
 li:∀i j x y:Nat,ls[i]?=O x→ls[j]?=O y→i<j→x<y
 sep:∀(i:Nat) (o:Oper),i∈qs→ops[i]?=O o→∀t:Tmp,Operand.tmp t∈o.op.operands→∀(j:Nat) (p:Oper),j∈ls→ops[j]?=O p→p.dst≠O t
 ch:∀k i j:Nat,ls[k+1]?=O i→ls[k]?=O j→∀o,ops[i]?=O o→∃e∈o.after,e.on=j∧Region.binds .any e=true
theorem bW{m:Nat}{U V J L:List Nat}{ops:List Oper}(h:jM m U V J L ops=true):kj m U V J L ops:=by
 unfold jM at h;rw[AP,AP,AP,AP,AP,AP,AP,AP,AP,AP]at h;obtain⟨⟨⟨⟨⟨⟨⟨⟨⟨⟨Y,g2⟩,Z⟩,g4⟩,h1⟩,h2⟩,h3⟩,h4⟩,h5⟩,h6⟩,h7⟩:=h;refine⟨fun i D=>?_,fun i D=>by simpa using AY.1 g2 i D,fun i j x y a b c=>Ok Z a b c,fun i D=>?_,fun i D=>?_,fun i D=>AM (AY.1 h2 i D),fun i D=>AM (AY.1 h3 i D),fun i j x y a b c=>Ok h4 a b c,fun i j x y a b c=>Ok h5 a b c,?_,?_⟩
 ·have:=AY.1 Y i D;simp only[Cg,AP,Ci,Ed]at this;rcases this with(h|h)|h
  ·exact .inl h
  ·exact .inr (.inl h)
  ·exact .inr (.inr h)
 ·have:=AY.1 g4 i D;simp only[Cg,Dl]at this;rcases this with h|h
  ·exact .inl h
  ·obtain⟨k,hk,h⟩:=DK.1 h;rw[AP,AP]at h;obtain⟨⟨h8,h9⟩,E⟩:=h
   cases F:ops[k]? with
   |none=>rw[F]at E;cases E
   |some o =>
    rw[F]at E;obtain⟨n,hn,H⟩:=Cc.1 E;rw[AP]at H;exact .inr ⟨k,o,hk,AM h8,AM h9,F,o.after[n],by simp,AM H.1,H.2⟩
 ·have:=AY.1 h1 i (Bh.2 D);by_cases a:i∈J <;>by_cases b:i∈L <;>simp_all
 ·intro i o D F t ht j p M hp;have:=AY.1 h6 i D;simp only[F]at this;have:=AY.1 this t (De.2 ⟨Am t,by simpa using ht,rfl⟩);have:=AY.1 this j M;simpa[hp]using this
 ·intro k i j D M o F;have:=AY.1 h7 (k+1) (Bh.2 (AX.1 D).1);simp only[Dw,D,M,F,Cg,Ci]at this;rcases this with h|h
  ·omega
  ·obtain⟨n,hn,H⟩:=Cc.1 h;rw[AP]at H;exact⟨o.after[n],by simp,AM H.1,H.2⟩
theorem Wx(ops:List Oper):∀(D:List Nat),(∀q∈D,q<ops.length)→∀j:Nat,(D.filterMap (ops[·]?))[j]?=D[j]?.bind (ops[·]?)
 |[],_,j=>by simp
 |q :: D,h,j=>by
  have e:ops[q]?=O (ops[q]'(h q (by simp))):=by simp[h q (by simp)]
  rw[E1 e]
  cases j with
  |zero=>simp[e]
  |succ j=>simpa using Wx ops D (fun x E=>h x (by simp[E])) j
def Jp(ops:List Oper):List Nat→List Oper
 |[]=>[]
 |i :: r=>(ops[i]?).toList++Jp ops r
theorem Qm(ops:List Oper):∀l:List Nat,Jp ops l=l.filterMap (ops[·]?)
 |[]=>rfl
 |i :: r=>by
  unfold Jp;rw[Qm ops r,List.filterMap_cons]
  cases ops[i]? <;>simp
structure FM(ops:List Oper)(qs:List Nat)(L:Nat→Bool)(b ac:Act):Prop where
 size:ac.tmps.size=b.tmps.size
 defs:ac.defers=b.defers
 at_:∀t,(∀(i:Nat) (o:Oper),i∈qs→ops[i]?=O o→L i=false→o.dst≠O t)→ac.tmps.getD t undef=b.tmps.getD t undef
theorem Tj{a b:Act}(D:a.tmps.size=b.tmps.size)(J:a.defers=b.defers)(h:∀ t,a.tmps.getD t undef=b.tmps.getD t undef):a=b:=by
 have E:a.tmps=b.tmps:=by
  apply E6 D;intro i F H;have:=h i;simpa[Array.getD,F,H]using this
 cases a
 cases b;simp_all
theorem Nk{P:Program}{id:Nat}{Q:Exit→Act→World→Prop}{a:Act}{w:World}{ops:List Oper}(m:Nat)(an ps qs ls:List Nat)(D:World→Prop)
  (hm:P.follows .mixedOrders=true) (hgd:ops.all (fun o=>o.guard.isNone)=true) (hb:PR ops.toArray=true) (hssa:YP ops=true) (hdst:ZR ops=true)
  (hsel:Region.noSelect ops.toArray=true) (hmix:jM m an ps qs ls ops=true) (hD:∀w1 (x:Hm w1),D w1→D x.val) (hD0:D w) (hall:∃af:Act,
  ( ∀l w1,l=Jp ops qs→D w1→wpQuiet P ops.toArray (fun w'=>∃x:Hm w1,w'=x.val) (fun a'=>a'=af) l a) ∧
  (∀l w1,l=Jp ops ps→wpQuiet P ops.toArray (fun w'=>∃x:Hm w1,w'=x.val) (fun a'=>a'=af) l af) ∧
  (∀l,l=Jp ops ls→∀x:Hm w,Ja P ops.toArray D (Q .normal) m l af x.val)):(Code.region id ops.toArray true).wp P Q a w:=by
 obtain⟨af,hq,hp,hl⟩:=hall;simp only[Qm]at hq hp hl;have hgn:∀o∈ops,o.guard=N:=fun o ho=>by simpa using AY.1 hgd o ho
 have M:=bW hmix;have hfm:∀l:List Nat,∀o∈l.filterMap (ops[·]?),o∈ops:=fun l o ho=>by
  obtain⟨i,_,hi⟩:=De.1 ho;exact BE hi
 have hk0:=J1 (qs.filterMap (ops[·]?)) a (fun o ho=>hgn o (hfm _ o ho)) (hq _ w R hD0);have hss:∀(l:List Nat) (a0:Act),(∀i∈l,i<ops.length)→(∀i j x y:Nat,l[i]?=O x→l[j]?=O y→i<j→x<y)→∀(w1:World),wpQuiet P ops.toArray (fun w'=>∃x:Hm w1,w'=x.val) (fun a'=>a'=af) (l.filterMap (ops[·]?)) a0→∀(i:Nat) (o:Oper),i∈l→ops[i]?=O o→∃u,(∀w2,(∃x:Hm w1,w2=x.val)→o.quietAt P af (fun w'=>∃x:Hm w1,w'=x.val) w2 u)∧∀d,o.dst=O d→d<af.tmps.size→af.tmps.getD d undef=u:=by
  intro l a0 hlr hli w1 hwq i o hi ho;have hqget:=Wx ops l hlr;obtain⟨j,hj⟩:=Cl hi;refine NU (P:=P) (ops:=ops.toArray) (C:=fun w'=>∃x:Hm w1,w'=x.val) (af:=af) ⟨w1,⟨w1,AD _ _⟩,rfl⟩ (l.filterMap (ops[·]?)) a0 (fun o ho=>hgn o (hfm _ o ho))
   (fun o ho cs b=>by
    obtain⟨j,hj⟩:=Cl (hfm _ o ho);exact CI hsel j o cs b (by simpa using hj)) hwq ?_ ?_ j o (by rw[hqget,hj];exact ho)
  ·intro i j o p hi hj t ht hp;rw[hqget]at hi hj;obtain⟨x,hx,hx2⟩:=Cw.1 hi;obtain⟨y,hy,hy2⟩:=Cw.1 hj;have h3:=(KJ hssa hy2 hx2 ht hp).1;rcases CM i j with h|h|h
   ·exact h
   ·subst h;rw[hx]at hy;obtain rfl:=Bd hy;omega
   ·have:=hli j i y x hy hx h;omega
  ·intro i j o p hij hi hj d hp;rw[hqget]at hi hj;obtain⟨x,hx,hx2⟩:=Cw.1 hi;obtain⟨y,hy,hy2⟩:=Cw.1 hj;refine K4 hdst (fun e=>?_) hx2 hy2 hp;subst e;rcases Dd hij with h|h
   ·have:=hli i j x x hx hy h;omega
   ·have:=hli j i x x hy hx h;omega
 refine Kl hm (fun L ac w1=>∃k b,FM ops qs L b ac∧b.tmps.size=af.tmps.size∧(∀t,(∀(i:Nat) (o:Oper),i∈ls→ops[i]?=O o→o.dst≠O t)→b.tmps.getD t undef=af.tmps.getD t undef) ∧
  k≤ls.length∧(∀j i:Nat,ls[j]?=O i→(L i=true↔j<k))∧(k≤m→D w1)∧(∀(i:Nat) (o:Oper),ops[i]?=O o→L i=true→∀e∈o.after,Region.binds .any e=true→L e.on=true)∧∀x:Hm w1,Ja P ops.toArray D (Q .normal) (m - k) ((ls.drop k).filterMap (ops[·]?)) b x.val) hb ?_ ?_ ?_
 ·have hx0:Below w.heap.size w { w with drawn:=w.drawn+1 }:=Fv.drew;refine⟨0,af,⟨hk0.1,hk0.2.1,fun t ht=>hk0.2.2 t (fun o ho=>?_)⟩,rfl,fun _ _=>rfl,AS _,fun j i _=>by simp,fun _=>hD w ⟨_,hx0⟩ hD0,fun i o _ h=>(by cases h),fun x=>hl _ R ⟨x.val,hx0.trans x.bel⟩⟩;obtain⟨i,hi,hi2⟩:=De.1 ho;exact ht i o hi hi2 R
 ·rintro L ac w1 i o⟨k,b,hF,hbs,hba,hk,hlk,hDw,hcl,hlo⟩ ho0 hL he;have ho:ops[i]?=O o:=by simpa using ho0
  have hil:i<ops.length:=(AX.1 ho).1;have hmem:=BE ho;have hev:∀x∈o.op.operands,ac.eval x=b.eval x:=by
   intro x hx
   cases x with
   |tmp t =>
    refine hF.at_ t (fun j p hj hp hLj hpd=>?_);obtain⟨_,e,hea,hei,heb⟩:=KJ hssa ho hp hx hpd;have:=he e hea heb;rw[hei,hLj]at this;cases this
   |_=>rfl
  have hcl2:∀(i':Nat) (o':Oper),ops[i']?=O o'→upd L i i'=true→∀e∈o'.after,Region.binds .any e=true→upd L i e.on=true:=by
   intro i' o' ho' hL' e hea heb;unfold upd at hL'⊢;by_cases h:e.on=i
   ·rw[AF h]
   ·rw[AA h];by_cases h2:i'=i
    ·subst h2;rw[ho]at ho';obtain rfl:=Bd ho';exact he e hea heb
    ·rw[AA h2]at hL';exact hcl i' o' ho' hL' e hea heb
  refine Gn ho0 (hgn o hmem) ?_;rcases M.one i hil with⟨hiq,hinl⟩|⟨hinq,hil2⟩
  ·have hu:∃u,(∀w2,(∃x:Hm w1,w2=x.val)→o.quietAt P af (fun w'=>∃x:Hm w1,w'=x.val) w2 u)∧∀d,o.dst=O d→d<af.tmps.size→af.tmps.getD d undef=u:=by
    by_cases hip:i∈ps
    ·exact hss ps af (fun i hi=>M.q i (M.pq i hi)) M.pi w1 (hp _ w1 R) i o hip ho
    ·refine hss qs a M.q M.qi w1 (hq _ w1 R (hDw ?_)) i o hiq ho;rcases M.cov i hiq with h|⟨h1,h2⟩|h
     ·exact absurd h hip
     ·rcases Bo m k with h|h
      ·exfalso;have hlm:ls[m]?=O ls[m]:=(by simp[h1]);have hLm:=(hlk m _ hlm).2 h;have hall:∀d i',i'+d=ops.length→i'∈an→L i'=true:=by
        intro d
        induction d using Nat.strongRecOn with
        |ind d ih =>
         intro i' hd hi';rcases M.up i' hi' with h|⟨k',o',hk',hik,hkl,hok,e,hea,hei,heb⟩
         ·rw[hlm]at h;obtain rfl:=Bd h;exact hLm
         ·have:=ih (ops.length - k') (by omega) k' (by omega) hk';rw[←hei];exact hcl k' o' hok this e hea heb
       rw[hall (ops.length - i) i (by omega) h2]at hL;cases hL
      ·exact h
     ·omega
   obtain⟨u,hu1,hu2⟩:=hu;have hqt:o.quiet P ac (fun w'=>∃x:Hm w1,w'=x.val) (fun a'=>a'=ac.put o.dst u):=by
    refine⟨u,fun w2 hw2=>?_,rfl⟩;have:=hu1 w2 hw2;unfold Oper.quietAt at this⊢;rwa[DC (ρ:=ac.eval) (ρ':=af.eval) o (fun cs b=>CI hsel i o cs b ho0) (fun x hx=>?_)];rw[hev x hx]
    cases x with
    |tmp t=>exact hba t (fun j p hj hp=>M.sep i o hiq ho t hx j p hj hp)
    |_=>rfl
   refine DJ (C:=fun w'=>∃x:Hm w1,w'=x.val) ⟨⟨w1,AD _ _⟩,rfl⟩ (fun a' w2 hw2 ha'=>?_) hqt;obtain⟨x,rfl⟩:=hw2;subst ha';refine⟨k,b,⟨by rw[II];exact hF.size,by rw[JA];exact hF.defs,fun t ht=>?_⟩,hbs,hba,hk,fun j i' hj=>?_,fun h=>hD w1 x (hDw h),hcl2,fun y=>hlo ⟨y.val,x.bel.trans (y.bel.mono x.bel.size)⟩⟩
   ·cases hod:o.dst with
    |none =>
     refine hF.at_ t (fun j p hj hp hLj=>?_);by_cases hji:j=i
     ·subst hji;rw[ho]at hp;obtain rfl:=Bd hp;rw[hod];simp
     ·exact ht j p hj hp (by unfold upd;rw[AA hji];exact hLj)
    | some d =>
     rw[Hv];by_cases hdt:d=t
     ·subst hdt;by_cases hlt:d<ac.tmps.size
      ·rw[AF ⟨rfl,hlt⟩,hba d (fun j p hj hp=>?_),hu2 d hod (by rw[←hbs,←hF.size];exact hlt)];refine K4 hdst (fun e=>?_) ho hp hod;subst e;exact hinl hj
      ·rw[AA (fun e=>hlt e.2)];have h2:¬ d<b.tmps.size:=(by rw[←hF.size];exact hlt);simp[Array.getD,hlt,h2]
     ·rw[AA (fun e=>hdt e.1)];refine hF.at_ t (fun j p hj hp hLj=>?_);by_cases hji:j=i
      ·subst hji;rw[ho]at hp;obtain rfl:=Bd hp;rw[hod];simpa using hdt
      ·exact ht j p hj hp (by unfold upd;rw[AA hji];exact hLj)
   ·have:i'≠i:=fun e=>hinl (by rw[←e];exact BE hj);unfold upd;rw[AA this];exact hlk j i' hj
  ·obtain⟨j,hj⟩:=Cl hil2;have hjk:j=k:=by
    have h1:¬ j<k:=fun h=>(by rw[(hlk j i hj).2 h]at hL;cases hL);rcases Bo k j with h|h
    ·exfalso;obtain⟨j',rfl⟩:∃j',j=j'+1:=⟨j - 1,by omega⟩;have hlt:j'<ls.length:=(by have:=(AX.1 hj).1;omega);have hj':ls[j']?=O ls[j']:=(by simp[hlt]);obtain⟨e,hea,hei,heb⟩:=M.ch j' i _ hj hj' o ho;have h2:=he e hea heb;rw[hei]at h2;have:=(hlk j' _ hj').1 h2;omega
    ·omega
   subst hjk;have hjl:j<ls.length:=(AX.1 hj).1;have hji:ls[j]=i:=(by simpa[hjl]using hj);have h0:=hlo ⟨w1,AD _ _⟩;rw[CP hjl,hji,E1 ho]at h0;unfold Ja wpList at h0;rw[AF (by unfold Region.wanted;rw[hgn o hmem])]at h0;have hLo:¬ LetsOut (YF fun(a':Act) (w':World)=>∀x:Hm w',(0<m - j→D x.val)∧Ja P ops.toArray D (Q .normal) (m - j - 1) ((ls.drop (j+1)).filterMap (ops[·]?)) a' x.val):=by
    rintro⟨_,_,h,_⟩;cases h
   rcases h0 with h0|h0
   ·unfold Oper.wp at h0⊢;rw[DC (ρ:=ac.eval) (ρ':=b.eval) o (fun cs b=>CI hsel i o cs b ho0) hev];have key:∀(b' ac':Act) v w2,b'.tmps=b.tmps→ac'.tmps=ac.tmps→ac'.defers=b'.defers→wpList P ops.toArray (YF fun(a':Act) (w':World)=>∀x:Hm w',(0<m - j→D x.val)∧Ja P ops.toArray D (Q .normal) (m - j - 1) ((ls.drop (j+1)).filterMap (ops[·]?)) a' x.val) [] (b'.put o.dst v) w2 →
      ∃k b,FM ops qs (upd L i) b (ac'.put o.dst v)∧b.tmps.size=af.tmps.size∧(∀t,(∀(i:Nat) (o:Oper),i∈ls→ops[i]?=O o→o.dst≠O t)→b.tmps.getD t undef=af.tmps.getD t undef) ∧
       k≤ls.length∧(∀j i_1:Nat,ls[j]?=O i_1→(upd L i i_1=true↔j<k))∧(k≤m→D w2)∧(∀(i':Nat) (o':Oper),ops[i']?=O o'→upd L i i'=true→∀e∈o'.after,Region.binds .any e=true→upd L i e.on=true)∧∀x:Hm w2,Ja P ops.toArray D (Q .normal) (m - k) ((ls.drop k).filterMap (ops[·]?)) b x.val:=by
     intro b' ac' v w2 e1 e2 e3 h2;unfold wpList at h2;obtain⟨_,h2⟩:=h2;refine⟨j+1,b'.put o.dst v,⟨by rw[II,II,e1,e2];exact hF.size,by rw[JA,JA];exact e3,fun t ht=>?_⟩,by rw[II,e1];exact hbs,fun t ht=>?_,hjl,fun j' i' hj'=>?_,fun h=>(h2 ⟨w2,AD _ _⟩).1 (by omega),hcl2,fun x=>by rw[show m - (j+1)=m - j - 1 by omega];exact(h2 x).2⟩
     ·have hat:=hF.at_ t (fun j' p hj' hp hLj=>ht j' p hj' hp (by
       unfold upd;rw[AA (fun e=>hinq (by rw[←e];exact hj'))];exact hLj))
      cases hod:o.dst with
      |none=>show ac'.tmps.getD t undef=b'.tmps.getD t undef;rw[e1,e2];exact hat
      |some d =>
       rw[Hv,Hv,e1,e2,hF.size,hat]
     ·rw[←hba t ht]
      cases hod:o.dst with
      |none=>show b'.tmps.getD t undef=_;rw[e1]
      |some d =>
       rw[Hv,AA (fun e=>ht i o hil2 ho (by rw[hod,e.1])),e1]
     ·by_cases hjj:j'=j
      ·subst hjj;rw[hj]at hj';obtain rfl:=Bd hj';simp[upd]
      ·have hne:i'≠i:=by
        intro e;subst e;rcases Dd hjj with h|h
        ·have:=M.li j' j i' i' hj' hj h;omega
        ·have:=M.li j j' i' i' hj hj' h;omega
       unfold upd;rw[AA hne,hlk j' i' hj'];omega
    exact Vs (fun ch a w h=>by cases h.1) hLo (fun v w2 h2=>key b ac v w2 R R hF.defs h2)
     (fun d w2 h2=>key { b with defers:=d :: b.defers } { ac with defers:=d :: ac.defers } undef w2 R R (by show d :: ac.defers=d :: b.defers;rw[hF.defs]) h2) _ h0
   ·exact absurd h0.2 hLo
 ·rintro L ac w1⟨k,b,hF,hbs,hba,hk,hlk,hDw,hcl,hlo⟩ hall;have hL:∀j,j<ops.length→L j=true:=fun j hj=>hall j (by simpa using hj);have hkl:k=ls.length:=by
   rcases Bo k ls.length with h|h
   ·exfalso;have hj:ls[k]?=O ls[k]:=(by simp[h]);have:=(hlk k _ hj).1 (hL _ (M.l _ (BE hj)));omega
   ·omega
  subst hkl;have e:ac=b:=Tj hF.size hF.defs (fun t=>hF.at_ t (fun i o hi ho hLi=>by
   rw[hL i (M.q i hi)]at hLi;cases hLi))
  subst e;have:=hlo ⟨w1,AD _ _⟩;rw[D9]at this;exact this
def a5(qs ls:List Nat)(ops:List Oper):Bool :=
 ((List.range ops.length).all fun i=>qs.contains i != ls.contains i) && (qs.all fun i=>decide (i<ops.length)) && (ls.all fun i=>decide (i<ops.length)) && eG qs &&
 (ls.all fun l=>match ops[l]? with
  |none=>true
  |some o=>o.dst.isNone)
structure kK(qs ls:List Nat)(ops:List Oper):Prop where
 one:∀i,i<ops.length→(i∈qs∧i ∉ ls)∨(i ∉ qs∧i∈ls)
 q:∀i∈qs,i<ops.length
 l:∀i∈ls,i<ops.length
 qi:∀i j x y:Nat,qs[i]?=O x→qs[j]?=O y→i<j→x<y
 no:∀i∈ls,∀o,ops[i]?=O o→o.dst=N
theorem Yl{E F:List Nat}{ops:List Oper}(h:a5 E F ops=true):kK E F ops:=by
 unfold a5 at h;simp only[AP]at h;obtain⟨⟨⟨⟨H,J⟩,L⟩,M⟩,U⟩:=h;refine⟨fun i D=>?_,fun i D=>AM (AY.1 J i D),fun i D=>AM (AY.1 L i D),fun i j x y a b c=>Ok M a b c,fun i D o V=>?_⟩
 ·have:=AY.1 H i (Bh.2 D);by_cases a:i∈E <;>by_cases b:i∈F <;>simp_all
 ·have:=AY.1 U i D;simpa[V]using this
theorem Ik{P:Program}{id:Nat}{Q:Exit→Act→World→Prop}{a:Act}{w:World}{ops:List Oper}(qs ls:List Nat)(I:(Nat→Bool)→World→Prop)
  (hm:P.follows .mixedOrders=true) (hgd:ops.all (fun o=>o.guard.isNone)=true) (hb:PR ops.toArray=true) (hssa:YP ops=true) (hdst:ZR ops=true)
  (hsel:Region.noSelect ops.toArray=true) (hmix:a5 qs ls ops=true) (hD:∀L w1 (x:Hm w1),I L w1→I L x.val) (hc:∀L L' w1,(∀i∈ls,L' i=L i)→I L w1→I L' w1) (hD0:I (fun _=>false) w) (hall:∃af:Act,
  ( ∀l L w1,l=Jp ops qs→I L w1→wpQuiet P ops.toArray (fun w'=>∃x:Hm w1,w'=x.val) (fun a'=>a'=af) l a) ∧
  (∀i o,i∈ls→ops[i]?=O o→∀L w1,I L w1→L i=false→wpList P ops.toArray (fun e a' w'=>e=.normal∧a'.defers=af.defers∧I (upd L i) w') [o] af w1) ∧
  (∀L w1,I L w1→(∀i∈ls,L i=true)→Q .normal af w1)):(Code.region id ops.toArray true).wp P Q a w:=by
 obtain⟨af,hq,hl,hend⟩:=hall;simp only[Qm]at hq;have hgn:∀o∈ops,o.guard=N:=fun o ho=>by simpa using AY.1 hgd o ho
 have M:=Yl hmix;have hfm:∀l:List Nat,∀o∈l.filterMap (ops[·]?),o∈ops:=fun l o ho=>by
  obtain⟨i,_,hi⟩:=De.1 ho;exact BE hi
 have hk0:=J1 (qs.filterMap (ops[·]?)) a (fun o ho=>hgn o (hfm _ o ho)) (hq _ _ w R hD0);refine Kl hm (fun L ac w1=>FM ops qs L af ac∧I L w1) hb ?_ ?_ ?_
 ·have hx0:Below w.heap.size w { w with drawn:=w.drawn+1 }:=Fv.drew;refine⟨⟨hk0.1,hk0.2.1,fun t ht=>hk0.2.2 t (fun o ho=>?_)⟩,hD _ w ⟨_,hx0⟩ hD0⟩;obtain⟨i,hi,hi2⟩:=De.1 ho;exact ht i o hi hi2 R
 ·rintro L ac w1 i o⟨hF,hI⟩ ho0 hL he;have ho:ops[i]?=O o:=by simpa using ho0
  have hil:i<ops.length:=(AX.1 ho).1;have hmem:=BE ho;have hev:∀x∈o.op.operands,ac.eval x=af.eval x:=by
   intro x hx
   cases x with
   |tmp t =>
    refine hF.at_ t (fun j p hj hp hLj hpd=>?_);obtain⟨_,e,hea,hei,heb⟩:=KJ hssa ho hp hx hpd;have:=he e hea heb;rw[hei,hLj]at this;cases this
   |_=>rfl
  refine Gn ho0 (hgn o hmem) ?_;rcases M.one i hil with⟨hiq,hinl⟩|⟨hinq,hil2⟩
  ·have hqget:=Wx ops qs M.q;obtain⟨j,hj⟩:=Cl hiq;obtain⟨u,hu1,hu2⟩:=NU (P:=P) (ops:=ops.toArray) (C:=fun w'=>∃x:Hm w1,w'=x.val) (af:=af) ⟨w1,⟨w1,AD _ _⟩,rfl⟩ (qs.filterMap (ops[·]?)) a (fun o ho=>hgn o (hfm _ o ho))
    (fun o ho cs b=>by
     obtain⟨j,hj⟩:=Cl (hfm _ o ho);exact CI hsel j o cs b (by simpa using hj)) (hq _ _ w1 R hI)
    (by
     intro i j o p hi hj t ht hp;rw[hqget]at hi hj;obtain⟨x,hx,hx2⟩:=Cw.1 hi;obtain⟨y,hy,hy2⟩:=Cw.1 hj;have h3:=(KJ hssa hy2 hx2 ht hp).1;rcases CM i j with h|h|h
     ·exact h
     ·subst h;rw[hx]at hy;obtain rfl:=Bd hy;omega
     ·have:=M.qi j i y x hy hx h;omega)
    (by
     intro i j o p hij hi hj d hp;rw[hqget]at hi hj;obtain⟨x,hx,hx2⟩:=Cw.1 hi;obtain⟨y,hy,hy2⟩:=Cw.1 hj;refine K4 hdst (fun e=>?_) hx2 hy2 hp;subst e;rcases Dd hij with h|h
     ·have:=M.qi i j x x hx hy h;omega
     ·have:=M.qi j i x x hy hx h;omega) j o (by rw[hqget,hj];exact ho)
   have hqt:o.quiet P ac (fun w'=>∃x:Hm w1,w'=x.val) (fun a'=>a'=ac.put o.dst u):=by
    refine⟨u,fun w2 hw2=>?_,rfl⟩;have:=hu1 w2 hw2;unfold Oper.quietAt at this⊢;rwa[DC (ρ:=ac.eval) (ρ':=af.eval) o (fun cs b=>CI hsel i o cs b ho0) hev]
   refine DJ (C:=fun w'=>∃x:Hm w1,w'=x.val) ⟨⟨w1,AD _ _⟩,rfl⟩ (fun a' w2 hw2 ha'=>?_) hqt;obtain⟨x,rfl⟩:=hw2;subst ha';refine⟨⟨by rw[II];exact hF.size,by rw[JA];exact hF.defs,fun t ht=>?_⟩,hc L _ _ (fun k hk=>?_) (hD L w1 x hI)⟩
   ·cases hod:o.dst with
    |none =>
     refine hF.at_ t (fun j p hj hp hLj=>?_);by_cases hji:j=i
     ·subst hji;rw[ho]at hp;obtain rfl:=Bd hp;rw[hod];simp
     ·exact ht j p hj hp (by unfold upd;rw[AA hji];exact hLj)
    | some d =>
     rw[Hv];by_cases hdt:d=t
     ·subst hdt;by_cases hlt:d<ac.tmps.size
      ·rw[AF ⟨rfl,hlt⟩,hu2 d hod (by rw[←hF.size];exact hlt)]
      ·rw[AA (fun e=>hlt e.2)];have h2:¬ d<af.tmps.size:=(by rw[←hF.size];exact hlt);simp[Array.getD,hlt,h2]
     ·rw[AA (fun e=>hdt e.1)];refine hF.at_ t (fun j p hj hp hLj=>?_);by_cases hji:j=i
      ·subst hji;rw[ho]at hp;obtain rfl:=Bd hp;rw[hod];simpa using hdt
      ·exact ht j p hj hp (by unfold upd;rw[AA hji];exact hLj)
   ·unfold upd;rw[AA (fun e=>hinl (by rw[←e];exact hk))]
  ·have h0:=hl i o hil2 ho L w1 hI hL;unfold wpList at h0;rw[AF (by unfold Region.wanted;rw[hgn o hmem])]at h0;have hLo:¬ LetsOut (fun(e:Exit) (a':Act) (w':World)=>e=.normal∧a'.defers=af.defers∧I (upd L i) w'):=by
    rintro⟨_,_,h,_⟩;cases h
   rcases h0 with h0|h0
   ·unfold Oper.wp at h0⊢;rw[DC (ρ:=ac.eval) (ρ':=af.eval) o (fun cs b=>CI hsel i o cs b ho0) hev];have hno:=M.no i hil2 o ho;have key:∀(ac':Act) v w2,ac'.tmps=ac.tmps→(I (upd L i) w2)→ac'.defers=ac.defers→FM ops qs (upd L i) af (ac'.put o.dst v)∧I (upd L i) w2:=by
     intro ac' v w2 e1 h2 e3;rw[hno];refine⟨⟨by show ac'.tmps.size=_;rw[e1];exact hF.size,by show ac'.defers=_;rw[e3];exact hF.defs,fun t ht=>?_⟩,h2⟩;show ac'.tmps.getD t undef=_;rw[e1];exact hF.at_ t (fun j' p hj' hp hLj=>ht j' p hj' hp (by
      unfold upd;rw[AA (fun e=>hinq (by rw[←e];exact hj'))];exact hLj))
    generalize (execOp af.eval o).run P w1=r at h0⊢
    match r,h0 with
    |.ok (.value v) w',h=>exact key ac v w' R (by unfold Oper.upon wpList at h;exact h.2.2) R
    |.ok .skip w',h=>exact key ac undef w' R (by unfold Oper.upon wpList at h;exact h.2.2) R
    |.ok (.enter f args) w',h =>
     unfold Oper.upon at h⊢;refine Dx h fun e w'' he=>?_
     cases e with
     |returned v=>exact key ac v w'' R (by unfold wpList at he;exact he.2.2) R
     |panicked ch=>exact absurd he.1 (by simp)
     |outgrown=>exact absurd he hLo
    |.ok (.row row args) w',h =>
     unfold Oper.upon at h⊢;exact Rows.mono h fun v w'' hv=>key ac v w'' R (by unfold wpList at hv;exact hv.2.2) R
    |.ok (.defer d) w',h =>
     exfalso;unfold Oper.upon wpList at h;have h3:=h.2.1;rw[JA]at h3;have:=B8 List.length h3;simp at this
    |.halt (.panic v) w',h=>exact absurd h.1 (by simp)
   ·exact absurd h0.2 hLo
 ·rintro L ac w1⟨hF,hI⟩ hall;have hL:∀j,j<ops.length→L j=true:=fun j hj=>hall j (by simpa using hj);have e:ac=af:=Tj hF.size hF.defs (fun t=>hF.at_ t (fun i o hi ho hLi=>by
   rw[hL i (M.q i hi)]at hLi;cases hLi))
  subst e;exact hend L w1 hI (fun i hi=>hL i (M.l i hi))
def GN(ops:List Oper)(v:Nat→Value)(a:Act):Nat→Act
 |0=>a
 |m+1=>(GN ops v a m).put ((ops[m]?).bind (·.dst)) (v m)
theorem LV(ops:List Oper)(v:Nat→Value)(a:Act):∀m,(GN ops v a m).tmps.size=a.tmps.size
 |0=>rfl
 |m+1=>by show((GN ops v a m).put _ _).tmps.size=_;rw[II,LV ops v a m]
theorem Ph(ops:List Oper)(v:Nat→Value)(a:Act):∀m,(GN ops v a m).defers=a.defers
 |0=>rfl
 |m+1=>by show((GN ops v a m).put _ _).defers=_;rw[JA,Ph ops v a m]
theorem Kt(a:Act)(d:Option Tmp)(t:Tmp)(v:Value):(a.put d v).tmps.getD t undef=if d=O t∧t<a.tmps.size then v else a.tmps.getD t undef:=by
 cases d with
 |none=>simp[Act.put]
 |some d =>
  rw[Hv];by_cases e:d=t
  ·subst e;simp
  ·simp[e]
theorem N7(ops:List Oper)(v:Nat→Value)(a:Act)(t:Tmp):∀m,(∀k,k<m→(ops[k]?).bind (·.dst)≠O t)→(GN ops v a m).tmps.getD t undef=a.tmps.getD t undef
 |0,_=>rfl
 |m+1,h=>by
  show((GN ops v a m).put _ _).tmps.getD t undef=_;rw[Kt,AA (fun e=>h m (by omega) e.1)];exact N7 ops v a t m (fun k D=>h k (by omega))
theorem O8(ops:List Oper)(v:Nat→Value)(a:Act)(k:Nat)(t:Tmp)(D:(ops[k]?).bind (·.dst)=O t)(E:t<a.tmps.size):∀m,k<m→(∀j,j<m→j≠k→(ops[j]?).bind (·.dst)≠O t)→(GN ops v a m).tmps.getD t undef=v k
 |m+1,hk,h=>by
  show((GN ops v a m).put _ _).tmps.getD t undef=_;by_cases e:k=m
  ·subst e;rw[Kt,AF ⟨D,by rw[LV];exact E⟩]
  ·rw[Kt,AA (fun H=>h m (by omega) (BW e) H.1)];exact O8 ops v a k t D E m (by omega) (fun j J F=>h j (by omega) F)
def V6(ops:List Oper)(sz:Nat):Bool:=(List.range ops.length).all fun j=>match(ops[j]?).bind (·.dst)with
 |none=>true
 |some t=>decide (t<sz) && (List.range ops.length).all fun i=>i == j || (ops[i]?).bind (·.dst) != O t
theorem Ko{ops:List Oper}{sz:Nat}(h:V6 ops sz=true){j:Nat}{t:Tmp}(D:(ops[j]?).bind (·.dst)=O t):t<sz∧∀i,i≠j→(ops[i]?).bind (·.dst)≠O t:=by
 have E:j<ops.length:=by
  rcases Bo j ops.length with h|h
  ·exact h
  ·rw[Bb h]at D;cases D
 have F:=AY.1 h j (Bh.2 E);simp only[D,AP,Ci]at F;refine⟨F.1,fun i H e=>?_⟩;have J:i<ops.length:=by
  rcases Bo i ops.length with h|h
  ·exact h
  ·rw[Bb h]at e;cases e
 have:=AY.1 F.2 i (Bh.2 J);simp[H,e]at this
def L2(o:Oper)(j:Nat):Bool:=o.after.any fun e=>e.on == j && Region.binds .any e
def G9(F:Act)(d:Option Tmp)(x:Value):Prop:=match d with
 |some t=>F.tmps.getD t undef=x
 |none=>True
def Hu(F:Act):List Oper→List Value→Prop
 |o :: os,x :: xs=>G9 F o.dst x∧Hu F os xs
 |_,_=>True
theorem Un{F:Act}:∀(ops:List Oper) (D:List Value),(∀(j:Nat) t,(ops[j]?).bind (·.dst)=O t→F.tmps.getD t undef=D.getD j undef)→Hu F ops D
 |[],_,_=>by unfold Hu;trivial
 |_ :: _,[],_=>by unfold Hu;trivial
 |o :: os,x :: D,h=>by
  refine⟨?_,Un os D fun j t E=>by simpa using h (j+1) t (by simpa using E)⟩;unfold G9;split
  ·rename_i t e;simpa using h 0 t (by simpa using e)
  ·trivial
def bk(ops:List Oper):Bool:=ops.all fun o=>(match o.op with|.select _ _=>false|_=>true) && (List.range ops.length).all fun j=>match(ops[j]?).bind (·.dst)with
 |none=>true
 |some t=>L2 o j || (!o.op.operands.any (fun x=>match x with|Am s=>s == t|_=>false) && !(match o.guard with|some (g,_)=>g == j|none=>false))
theorem Od{F D:Act}(J:F.tmps.size=D.tmps.size){d:Option Tmp}{u v:Value}(h:F.put d u=F.put d v):D.put d u=D.put d v:=by
 cases d with
 |none=>rfl
 |some t =>
  by_cases E:t<F.tmps.size
  ·have H:=B8 (fun a:Act=>a.tmps.getD t undef) h;simp only[Kt,E,and_self,BX]at H;rw[H]
  ·simp only[Act.put,Array.setIfInBounds,J▸E,dite_false]
theorem fO{P:Program}{o:Oper}{F J:Act}{w:World}{post:Value→World→Prop}{Q:Exit→Act→World→Prop}(Y:execOp J.eval o=execOp F.eval o)(M:F.tmps.size=J.tmps.size)
  (h:o.wp P F w (fun H U=>∃v,H=F.put o.dst v∧post v U) (fun _ _ _=>False)):o.wp P J w (fun H U=>∃v,H=J.put o.dst v∧post v U) Q:=by
 unfold Oper.wp at h⊢;rw[Y]
 cases V:(execOp F.eval o).run P w with
 | ok n w1 =>
  rw[V]at h
  cases n with
  |value u=>obtain⟨v,E,D⟩:=h;exact⟨v,Od M E,D⟩
  |skip=>obtain⟨v,E,D⟩:=h;exact⟨v,Od M E,D⟩
  |defer d =>
   obtain⟨v,E,D⟩:=h;have:=B8 (fun a:Act=>a.defers.length) E;simp only[JA,AJ]at this;omega
  |enter f args =>
   refine Dx h fun e w2 D=>?_
   cases e with
   |returned u=>obtain⟨v,E,D⟩:=D;exact⟨v,Od M E,D⟩
   |panicked c=>exact D.elim
   |outgrown=>exact absurd D (by unfold LetsOut;simp)
  |row r args=>exact Rows.mono h fun u w2 D=>by obtain⟨v,E,D⟩:=D;exact⟨v,Od M E,D⟩
  |_=>exact h.elim
 |halt hh w1 =>
  rw[V]at h
  cases hh <;>exact h.elim
theorem ZA{ops:List Oper}(h:bk ops=true){i j:Nat}{o:Oper}{t:Tmp}(V:ops[i]?=O o)(E:(ops[j]?).bind (·.dst)=O t):
  (∀cs b,o.op≠.select cs b)∧(L2 o j=true∨(Am t ∉ o.op.operands∧∀g b,o.guard=O (g,b)→g≠j)):=by
 have D:=AY.1 h o (BE V);rw[AP]at D;refine⟨fun cs b e=>by rw[e]at D;exact absurd D.1 (by simp),?_⟩;have F:j<ops.length:=by
  rcases Bo j ops.length with h|h
  ·exact h
  ·rw[Bb h]at E;cases E
 have J:=AY.1 D.2 j (Bh.2 F);simp only[E,Cg,AP,Bool.not_eq_true']at J;refine J.imp id fun⟨M,U⟩=>⟨fun Y=>?_,fun g b e Z=>?_⟩
 ·rw[←Bool.not_eq_true]at M;obtain⟨k,hk,H⟩:=Array.mem_iff_getElem.1 Y;exact M (Cc.2 ⟨k,hk,by rw[H];simp⟩)
 ·rw[e]at U;simp[Z]at U
theorem aR{ops:List Oper}(h:bk ops=true){i:Nat}{o:Oper}(E:ops[i]?=O o):∀cs b,o.op≠.select cs b:=fun cs b e=>by
 have D:=AY.1 h o (BE E);rw[AP]at D;rw[e]at D;exact absurd D.1 (by simp)
theorem Rp{Γ:Type}{P:Program}{id:Nat}{Q:Exit→Act→World→Prop}{a:Act}{w:World}{ops:List Oper}(V:Γ→Nat→Value→Prop)(D:Γ→(Nat→Bool)→World→Prop)(γ0:Γ)
  (hm:P.follows .mixedOrders=true) (hb:PR ops.toArray=true) (hv:V6 ops a.tmps.size=true) (hC:D γ0 (fun _=>false) w.drew)
  (hf:∀γ i o,ops[i]?=O o→∀L F w1,F.tmps.size=a.tmps.size→D γ L w1→L i=false→(∀j,L2 o j=true→L j=true)→(∀k o',ops[k]?=O o'→L k=true→∀j,L2 o' j=true→L j=true)→(∀t,(∀o∈ops,o.dst≠O t)→F.tmps.getD t undef=a.tmps.getD t undef) →
   (∀j t,(ops[j]?).bind (·.dst)=O t→L2 o j=true→V γ j (F.tmps.getD t undef)) →
   (Region.wanted o (yielded ops.toArray F.tmps)=true∧o.wp P F w1 (fun hn w'=>∃v E,hn=F.put o.dst v∧V E i v∧D E (upd L i) w'∧∀j u,j≠i→L j=true→V γ j u→V E j u) Q)∨(Region.wanted o (yielded ops.toArray F.tmps)=false∧V γ i undef∧D γ (upd L i) w1))
  (hq:∀γ (v:Nat→Value) L w1,D γ L w1→(∀i,i<ops.length→L i=true)→(∀i t,(ops[i]?).bind (·.dst)=O t→V γ i (v i))→Q .normal (GN ops v a ops.length) w1):(Code.region id ops.toArray true).wp P Q a w:=by
 refine Kl hm (fun L F w1=>F.tmps.size=a.tmps.size∧F.defers=a.defers∧(∀t,(∀o∈ops,o.dst≠O t)→F.tmps.getD t undef=a.tmps.getD t undef)∧(∀k o',ops[k]?=O o'→L k=true→∀j,L2 o' j=true→L j=true)∧∃γ,(∀i t,(ops[i]?).bind (·.dst)=O t→L i=true→V γ i (F.tmps.getD t undef))∧D γ L w1) hb ?_ ?_ ?_
 ·exact⟨rfl,rfl,fun _ _=>rfl,fun _ _ _ h=>(by cases h),γ0,fun _ _ _ h=>(by cases h),hC⟩
 ·rintro L F w1 i o⟨h1,h2,h3,hr,γ,h4,h5⟩ ho hL he;have U:ops[i]?=O o:=by simpa using ho
  have hi:i<ops.length:=(AX.1 U).1;have hs:(ops[i]?).bind (·.dst)=o.dst:=by rw[U];rfl
  have hg:∀j,L2 o j=true→L j=true:=fun j J=>by
   obtain⟨k,M,hp⟩:=Cc.1 J;rw[AP,Dl]at hp;rw[←hp.1];exact he _ (D3 M) hp.2
  have hu:∀w' v E,V E i v→D E (upd L i) w'→(∀j u,j≠i→L j=true→V γ j u→V E j u)→(F.put o.dst v).tmps.size=a.tmps.size∧(F.put o.dst v).defers=a.defers∧(∀t,(∀o∈ops,o.dst≠O t)→(F.put o.dst v).tmps.getD t undef=a.tmps.getD t undef)∧(∀k o',ops[k]?=O o'→upd L i k=true→∀j,L2 o' j=true→upd L i j=true)∧∃γ,(∀j t,(ops[j]?).bind (·.dst)=O t→upd L i j=true→V γ j ((F.put o.dst v).tmps.getD t undef))∧D γ (upd L i) w':=fun w' v E hh hl H=>by
   refine⟨by rw[II];exact h1,by rw[JA];exact h2,fun t ht=>?_,fun k o' M hx j J=>?_,E,fun j t J hy=>?_,hl⟩
   ·rw[Kt,AA (fun e=>ht o (BE U) e.1)];exact h3 t ht
   ·have hz:∀j,L j=true→upd L i j=true:=fun j h=>by unfold upd;split <;>simp[h]
    by_cases e:k=i
    ·subst e;rw[U]at M;obtain rfl:=Bd M;exact hz j (hg j J)
    ·refine hz j (hr k o' M ?_ j J);unfold upd at hx;rwa[AA e]at hx
   ·obtain⟨ha,Y⟩:=Ko hv J;by_cases e:j=i
    ·subst e;rw[hs]at J;rw[Kt,AF ⟨J,by rw[h1];exact ha⟩];exact hh
    ·rw[Kt,AA (fun e'=>Y i (BW e) (by rw[hs];exact e'.1))];have hc:L j=true:=by
      unfold upd at hy;rwa[AA e]at hy
     exact H j _ e hc (h4 j t J hc)
  unfold wpOp;simp only[ho];rcases hf γ i o U L F w1 h1 h5 hL hg hr h3 (fun j t J hD=>h4 j t J (hg j hD))with⟨hw,hE⟩|⟨hw,hF,hG⟩
  ·rw[AF hw];refine .inl (Dc ?_ hE);rintro hn w'⟨v,E,rfl,hh,hl,H⟩;exact hu w' v E hh hl H
  ·rw[AA (by rw[hw];decide)];exact hu w1 undef γ hF hG (fun _ _ _ _ h=>h)
 ·rintro L F w1⟨h1,h2,h3,_,γ,h4,h5⟩ hA;have Z:∀j,j<ops.length→L j=true:=fun j J=>hA j (by simpa using J);have ha:∀i t,(ops[i]?).bind (·.dst)=O t→i<ops.length:=fun i t hi=>by
   rcases Bo i ops.length with h|h
   ·exact h
   ·rw[Bb h]at hi;cases hi
  have e:F=GN ops (fun i=>F.tmps.getD (Xt ops i) undef) a ops.length:=by
   refine Tj (by rw[LV];exact h1) (by rw[Ph];exact h2) fun t=>?_;by_cases ht:∃k:Nat,(ops[k]?).bind (·.dst)=O t
   ·obtain⟨k,M⟩:=ht;obtain⟨hB,Y⟩:=Ko hv M;rw[O8 ops _ a k t M hB ops.length (ha k t M) (fun j _ hH=>Y j hH)];simp[Xt,M]
   ·rw[N7 ops _ a t ops.length (fun k _ e=>ht ⟨k,e⟩)];refine h3 t fun o ho hd=>?_;obtain⟨k,M,hI⟩:=BL ho;exact ht ⟨k,by rw[AE M,hI];exact hd⟩
  have:=hq γ (fun i=>F.tmps.getD (Xt ops i) undef) L w1 h5 Z (fun i t hi=>by
   have:=h4 i t hi (Z i (ha i t hi));simpa[Xt,hi]using this)
  rw[←e]at this;exact this
theorem FW{Γ:Type}{P:Program}{id:Nat}{Q:Exit→Act→World→Prop}{a:Act}{w:World}{ops:List Oper}(vs:Γ→List Value)(D:Γ→(Nat→Bool)→World→Prop)(γ0:Γ)
  (hm:P.follows .mixedOrders=true) (hb:PR ops.toArray=true) (hv:V6 ops a.tmps.size=true) (hk:bk ops=true) (hw:D γ0 (fun _=>false) w.drew)
  (ha:∀F γ,(∀t,(∀o∈ops,o.dst≠O t)→F.tmps.getD t undef=a.tmps.getD t undef)→Hu F ops (vs γ)→∀i o,ops[i]?=O o→∀L w1,D γ L w1→L i=false→(∀j,L2 o j=true→L j=true)→(∀k o',ops[k]?=O o'→L k=true→∀j,L2 o' j=true→L j=true) →
   (Region.wanted o (yielded ops.toArray F.tmps)=true∧o.wp P F w1 (fun hc w'=>∃v E,hc=F.put o.dst v∧v=(vs E).getD i undef∧D E (upd L i) w'∧∀j,j≠i→L j=true→(vs E).getD j undef=(vs γ).getD j undef) (fun _ _ _=>False))∨(Region.wanted o (yielded ops.toArray F.tmps)=false∧(vs γ).getD i undef=undef∧D γ (upd L i) w1))
  (hf:∀γ L w1,D γ L w1→(∀i,i<ops.length→L i=true)→Q .normal (GN ops (fun i=>(vs γ).getD i undef) a ops.length) w1):(Code.region id ops.toArray true).wp P Q a w:=by
 refine Rp (fun γ i v=>v=(vs γ).getD i undef) D γ0 hm hb hv hw ?_ ?_
 ·intro γ i o ho L M w1 hh hD hL hz hA hl hV;obtain⟨F,hF⟩:∃F,F=GN ops (fun i=>(vs γ).getD i undef) M ops.length:=⟨_,rfl⟩;have hn:F.tmps.size=M.tmps.size:=by rw[hF,LV]
  have hB:∀i t,(ops[i]?).bind (·.dst)=O t→i<ops.length:=fun i t hi=>by
   rcases Bo i ops.length with h|h
   ·exact h
   ·rw[Bb h]at hi;cases hi
  have hp:∀(j:Nat) t,(ops[j]?).bind (·.dst)=O t→F.tmps.getD t undef=(vs γ).getD j undef:=fun j t U=>by
   obtain⟨H,V⟩:=Ko hv U;rw[hF];exact O8 ops _ M j t U (by rw[hh];exact H) ops.length (hB j t U) fun k _ hC=>V k hC
  have hq:∀t,(∀o∈ops,o.dst≠O t)→F.tmps.getD t undef=M.tmps.getD t undef:=fun t Z=>by
   rw[hF];refine N7 ops _ M t ops.length fun k hk e=>?_;rw[AE hk]at e;exact Z _ (Bm hk) e
  have J:∀t,(Am t∈o.op.operands∨∃g b,o.guard=O (g,b)∧(ops[g]?).bind (·.dst)=O t)→M.tmps.getD t undef=F.tmps.getD t undef:=fun t Z=>by
   by_cases hd:∃j:Nat,(ops[j]?).bind (·.dst)=O t
   ·obtain⟨j,U⟩:=hd;rw[hp j t U];rcases(ZA hk ho U).2 with he|⟨H,V⟩
    ·exact hV j t U he
    ·rcases Z with Z|⟨g,b,hg,hE⟩
     ·exact absurd Z H
     ·have:g≠j:=V g b hg;exact absurd hE ((Ko hv U).2 g this)
   ·refine(hq t fun o' hG Y=>hd ?_).symm;obtain⟨k,hk,hH⟩:=BL hG;exact⟨k,by rw[AE hk,hH];exact Y⟩
  have hI:execOp M.eval o=execOp F.eval o:=DC o (aR hk ho) fun x hx=>by
   cases x with
   |tmp t=>have:=J t (.inl hx);simpa[Aq]using this
   |_=>rfl
  have hJ:Region.wanted o (yielded ops.toArray M.tmps)=Region.wanted o (yielded ops.toArray F.tmps):=by
   unfold Region.wanted
   cases hg:o.guard with
   |none=>rfl
   | some gw =>
    obtain⟨g,hr⟩:=gw;have hy:yielded ops.toArray M.tmps g=yielded ops.toArray F.tmps g:=by
     unfold yielded
     cases hd:(ops.toArray[g]?).bind (·.dst)with
     |none=>rfl
     |some t =>
      have Y:(ops[g]?).bind (·.dst)=O t:=(by simpa using hd);have H:=J t (.inr ⟨g,hr,hg,Y⟩);have V:=(Ko hv Y).1;have l1:t<M.tmps.size:=(by rw[hh];exact V);have l2:t<F.tmps.size:=(by rw[hn];exact l1);simp only[Ba,EZ l1,EZ l2];simp only[Array.getD,l1,l2,dite_true]at H;simp only[Array.getInternal_eq_getElem]at H;rw[H]
    simp only[hy]
  rw[hJ];refine(ha F γ (fun t Z=>(hq t Z).trans (hl t Z)) (Un ops _ hp) i o ho L w1 hD hL hz hA).imp (fun⟨H,V⟩=>⟨H,?_⟩) (fun⟨H,V,h3⟩=>⟨H,V.symm,h3⟩);have:=fO (Q:=Q) (post:=fun v w'=>∃E,v=(vs E).getD i undef∧D E (upd L i) w'∧∀j,j≠i→L j=true→(vs E).getD j undef=(vs γ).getD j undef) hI hn (Dc (fun hc w' ⟨v,E,e1,e2⟩=>⟨v,e1,E,e2⟩) V);refine Dc (fun hc w' h=>?_) this;obtain⟨v,e1,E,e2,e3,e4⟩:=h;exact⟨v,E,e1,e2,e3,fun j u U hK hu=>by rw[hu,e4 j U hK]⟩
 ·intro γ v L w1 hD hs hV;have:=hf γ L w1 hD hs;have e:GN ops (fun i=>(vs γ).getD i undef) a ops.length=GN ops v a ops.length:=by
   have:∀m,GN ops (fun i=>(vs γ).getD i undef) a m=GN ops v a m:=fun m=>by
    induction m with
    |zero=>rfl
    |succ m ih =>
     show(GN ops (fun i=>(vs γ).getD i undef) a m).put _ _=(GN ops v a m).put _ _;rw[ih]
     cases hd:(ops[m]?).bind (·.dst)with
     |none=>rfl
     |some t=>rw[hV m t hd]
   exact this _
  rw[e]at this;exact this
def S'(ops:List Oper):Nat→Nat→Nat→Bool
 |0,_,_=>false
 |n+1,k,i=>match ops[k]? with
  |none=>false
  |some o=>o.after.any fun e=>Region.binds .any e && (e.on == i || S' ops n e.on i)
section
variable {ops:List Oper} {L:Nat→Bool} {i:Nat}
theorem FA(D:∀ k o',ops[k]?=O o'→L k=true→∀ j,L2 o' j=true→L j=true)(H:L i=false):∀n k,S' ops n k i=true→L k=false
 |0,_,h=>by cases h
 | n+1,k,h=>by
  cases J:L k with
  |false=>rfl
  | true =>
   unfold S' at h;split at h
   ·cases h
   ·rename_i o M;obtain⟨m,U,F⟩:=Cc.1 h;rw[AP,Cg,Dl]at F;have V:L2 o o.after[m].on=true:=Cc.2 ⟨m,U,by rw[F.1];simp⟩;have E:=D k o M J _ V;rcases F.2 with e|e
    ·rw[e,H]at E;cases E
    ·rw[FA D H n _ e]at E;cases E
theorem I5(E:∀ k o',ops[k]?=O o'→L k=true→∀ j,L2 o' j=true→L j=true)(F:L i=false){f g:Nat→Value}(n:Nat)(S:List Nat)(H:(S.all fun k=>S' ops n k i)=true)(J:∀ j,j≠i→j ∉ S→f j=g j):∀j,j≠i→L j=true→f j=g j:=fun j M D=>by
 by_cases h:j∈S
 ·rw[FA E F n j (AY.1 H j h)]at D;cases D
 ·exact J j M h
end
end Go.Proofs.YtnbleebilmghcabGreat
