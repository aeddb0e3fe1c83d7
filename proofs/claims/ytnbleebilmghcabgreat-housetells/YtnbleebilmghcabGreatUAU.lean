/- SApart0, SApart, SChange, SBxs, SOf -/
import Derived.Test.YtnbleebilmghcabGreatUAP
import Derived.Test.YtnbleebilmghcabGreatUAQ
import Derived.Test.YtnbleebilmghcabGreatUAT
set_option linter.all false
set_option maxHeartbeats 8000000
open Go.Value renaming int→I,slice→S,agg→Af,tuple→Ai,oneCell'→Ar
open Go.IntKind renaming i64→K
open Option renaming none→N,some→O
open Go.Obj renaming cells→Al
open Go.Operand renaming tmp→Am
open Go.Ending renaming returned→Ao
open Go.Proofs.Tryz renaming prog→Au
namespace Go.Proofs.YtnbleebilmghcabGreat
open Go Go.RowKit
attribute [local go_sem ↓] Go.wp_at_zero Go.wp_at_succ
def Mr(rs:List D7)(h:Int):List D7:=rs.filter (fun x=>x.has == h)
def Ll(l:List Gu)(rs:List D7):JQ:=⟨l.map (·.has),fun h=>(Mr rs h).map fun r=>(r.ix,r.gen),fun h k=>if k<F3 h then(Mr rs h).map (fun r=>r.v ((FR h 8).getD k 0).toNat)else []⟩
theorem NF(D:List D7)(r:D7)(h:Int):Mr (D++[r]) h=if h=r.has then Mr D h++[r]else Mr D h:=by
 unfold Mr;rw[Cf];by_cases e:h=r.has
 ·subst e;simp
 ·have:(r.has == h)=false:=by simpa using fun E=>e E.symm
  simp[this,e]
theorem YL(l:List Gu)(D:List D7)(r:D7):XU (Ll l D) r=Ll (JM l r) (D++[r]):=by
 unfold XU LH Ll;simp only[JQ.mk.injEq];refine⟨(Ux l r).symm,?_,?_⟩
 ·funext h;unfold IL;rw[NF];by_cases e:h=r.has
  ·subst e;simp
  ·simp[e]
 ·funext h k;rw[NF];by_cases e:h=r.has
  ·subst e;by_cases E:k<F3 r.has
   ·simp[E]
   ·simp[E]
  ·simp[e]
theorem JJ{W W':World}{base:Nat}{e:TypeId}{D n:Nat}{v:Value}{M:List Value}(h:W.ownsRow base e D v n M)(U:∀ g,base≤g→g<W.heap.size→W'.heap[g]?=W.heap[g]?):W'.ownsRow base e D v n M:=by
 refine⟨h.1,?_⟩;rcases h.2 with V|⟨g,J,L,rfl,E,F,H⟩
 ·exact .inl V
 ·exact .inr ⟨g,J,L,rfl,E,(U g E (Bk.1 F).1).trans F,H⟩
def IN(base:Nat)(W:World)(T G:Option Addr)(tabs:List Gu)(X:Wd):Prop:=∀W':World,(∀g,base≤g→g<W.heap.size→W'.heap[g]?=W.heap[g]?)→Ir W' T G tabs X
section
variable {base:Nat} {W W1:World} {T G:Option Addr} {tabs:List Gu} {X:Wd}
theorem IN.st(h:IN base W T G tabs X):Ir W T G tabs X:=h W fun _ _ _=>rfl
theorem IN.below(h:IN base W T G tabs X)(D:Below W.heap.size W W1):IN base W1 T G tabs X:=fun W' F=>h W' fun g H E=>(F g H (Bs E D.size)).trans (D.block g E)
theorem IN.le(h:IN base W T G tabs X){base':Nat}(D:base'≤base):IN base' W T G tabs X:=fun W' E=>h W' fun g F H=>E g (AU D F) H
theorem IN.putc(h:IN base W T G tabs X){b o:Nat}{vs:List Value}(H:b<base):IN base (W.setCells b o vs) T G tabs X:=fun W' D=>h W' fun g E F=>(D g E (by rw[Pm];exact F)).trans (J9 b vs o W g (by omega))
end
theorem IU.agree{base E:Nat}{T G:Value}{gens:List Int}{m:KC}{d:JQ}{W W':World}(h:IU base E T G gens m d W)(D:∀ g,base≤g→g<W.heap.size→W'.heap[g]?=W.heap[g]?):IU base E T G gens m d W' :=
 ⟨(D E h.lo h.lt).trans h.box,h.lo,JJ h.ownT D,JJ h.ownG D,fun x=>JJ (h.ownA x) D,fun x F=>JJ (h.ownC x F) D,fun x k=>JJ (h.ownK x k) D,h.sepA,h.sepC,h.sepK,h.sepG,h.out⟩
theorem im{base bx:Nat}{A:Option Addr}{c:Nat}{G:Value}{gens:List Int}{m:KC}{l:List Gu}{D:List D7}{W:World}(h:IU base bx (S A l.length c) G gens m (Ll l D) W)(hg:YG l D):NL W A l:=fun j V=>by
 have Y:(Ll l D).hs.length=l.length:=by simp[Ll]
 have M:=h.ownT;rw[Y]at M;obtain⟨g,hb,e,_,_⟩:=Gi M (by omega);simp only[A9,Br]at e;obtain⟨rfl,rfl⟩:=e;have hx:(Ll l D).hs[j]'(by rw[Y];exact V)=l[j].has:=by simp[Ll]
 have E:l[j].rows=Mr D l[j].has:=hg.each _ (Bm V);have hB:(Ll l D).B l[j].has=Vi l[j]:=by unfold Vi;rw[E];rfl
 have hL:∀k,k<F3 l[j].has→(Ll l D).L l[j].has k=Oq l[j] k:=fun k U=>by
  unfold Oq;rw[E];show(if k<F3 l[j].has then _ else _)=_;rw[AF U]
 obtain⟨c0,c1,c2⟩:=KA ((Ll l D).hs.map (tt m (Ll l D))) j (by simpa[Y]using V);simp only[BO,hx]at c0 c1 c2;have F:l[j].has∈(Ll l D).hs:=by rw[←hx];exact Bm _
 generalize l[j]=t at *;have oA:=h.ownA t.has;have Z:((Ll l D).B t.has).length=t.rows.length:=by rw[hB,Md]
 refine⟨g,0,rfl,(m.A t.has).1,(m.A t.has).2,(m.C t.has).1,(m.C t.has).2,?_,?_,?_,?_,fun k U=>?_⟩
 ·rw[AT];exact F4 M c0
 ·rw[AT,←Z];exact F4 M c1
 ·rw[AT];exact F4 M c2
 ·rw[hB]at oA;obtain⟨A',H,J,ha⟩:=Rd oA;unfold aV at J;rw[A9]at J;rw[J.1];exact ha
 ·obtain⟨gc,cc,J,_,_⟩:=Gi (h.ownC t.has F) (show 0<F3 t.has by unfold F3;omega);have oC:=h.ownC t.has F;have eC:(m.C t.has).1=O ⟨gc,0,N⟩:=by
   unfold cV at J;simp only[A9,Br]at J;exact J.1
  rw[J]at oC;have oK:=h.ownK t.has k;rw[hL k U]at oK;obtain⟨A',H,e2,hI⟩:=J8 oK;refine⟨gc,0,eC,A',H,?_,hI⟩;rw[AT,←KT t k,←e2];refine F4 oC ?_;have:k<F3 t.has:=U;simp[this]
theorem TX{l:List Gu}{E:List D7}(h:YG l E):l.length≤E.length:=by
 rw[←h.perm.length_eq];have:∀l:List Gu,(∀t∈l,t.rows≠[])→l.length≤(l.flatMap (·.rows)).length:=fun l=>by
  induction l with
  |nil=>intro _;simp
  |cons t l ih =>
   intro D;rw[BM,AV,AJ];have H:=ih fun x F=>D x (by simp[F]);have J:=CD.2 (D t (by simp));omega
 exact this l h.ne
theorem Wv{l:List Gu}{E:List D7}(h:YG l E)(i j:Nat)(F:j<l.length)(D:i<j):(l[i]'(by omega)).has<l[j].has:=B9.1 h.up i j (by omega) F D
theorem j3{base L:Nat}{A:Option Addr}{c:Nat}{G:Option Addr}{M:Nat}{X:Wd}{m:KC}{l:List Gu}{W:World}(h:IU base L (S A l.length c) (S G X.gens.length M) X.gens m (Ll l X.rows) W)(D:YG l X.rows)(E:FK X):IN base W A G l X:=fun W' U=>by
 have F:=h.agree U;have H:=(GD ((F7 X).2 E)).1;have Z:=TX D;refine⟨im F D,?_,E,Sg E D,fun j V=>Wv D j (j+1) V (by omega),D.perm,by omega⟩;obtain⟨A',J,e,Y⟩:=J8 F.ownG;rw[A9]at e;rw[e.1];exact Y
theorem IU.start{base:Nat}{W W1:World}{G:Value}{gens:List Int}(H:W.ownsRow base 3 1 G gens.length (FD gens))(J:base≤W.heap.size)(F:W1=W.alloc (Al #[S N 0 0,G] 125)):IU base W.heap.size (S N 0 0) G gens ⟨fun _=>(N,0),fun _=>(N,0),fun _ _=>S N 0 0⟩ (Ll [] []) W1:=by
 have D:Below W.heap.size W W1:=by rw[F];exact GF _ _
 have U:∀h,(Ll [] []).B h=[]:=fun h=>rfl;have M:∀h k,(Ll [] []).L h k=[]:=fun h k=>by show(if k<F3 h then _ else _)=_;split <;>rfl
 refine⟨?_,J,Bn _ _ _ _,FT H D,fun h=>?_,fun h E=>?_,fun h k=>?_,fun _ _ _=>.inl R,fun h _ E=>?_,fun _ _ _ _ _=>.inl R,fun _ _=>(P9.nil _).symm,fun h _=>⟨rfl,rfl,fun _=>rfl⟩⟩
 ·rw[F];show(W.heap.push _)[W.heap.size]?=_;simp
 ·exact Bn _ _ _ _
 ·simp[Ll]at E
 ·rw[M];exact Bn _ _ _ _
 ·simp[Ll]at E
set_option maxRecDepth 8000
theorem Kq:(Au.info? 25).map (·.size)=O 2:=by kernel_rfl
def FG(X:Wd):List Gu:=Jm X.rows X.rows.length
theorem Jg(X:Wd):YG (FG X) X.rows:=by
 have:=ME X.rows X.rows.length Fu;rwa[BN]at this
structure fN(w:World)(u0 u1 y0 y1:Value)(W:World):Prop where
 bel:Below w.heap.size w W
 sz:w.heap.size+2≤W.heap.size
 r:L8 w.heap.size u0 u1 W
 s:L8 (w.heap.size+1) y0 y1 W
theorem fN.keep{w W W1:World}{u0 u1 E F:Value}(h:fN w u0 u1 E F W)(D:Below (w.heap.size+2) W W1):fN w u0 u1 E F W1 :=
 ⟨h.bel.trans (D.mono (by omega)),AU h.sz D.size,h.r.keep (D.mono (by omega)),h.s.keep D⟩
theorem fN.start(w:World)(u0 u1 D E:Value)(s t:TypeId):fN w u0 u1 D E ((w.alloc (Al #[u0,u1] s)).alloc (Al #[D,E] t)):=by
 have h:=BB.start w u0 u1 D E s t;exact⟨h.bel,h.sz,h.r,h.s⟩
theorem fN.give{w W:World}{u0 u1 F H:Value}(h:fN w u0 u1 F H W)(D E:Value):fN w u0 u1 D E (W.setCells (w.heap.size+1) 0 [D,E]):=by
 have:=BB.give (⟨h.bel,h.sz,h.r,h.s⟩:BB w u0 u1 F H W) D E;exact⟨this.bel,this.sz,this.r,this.s⟩
theorem So(A:Option Addr)(L:Nat)(G:Option Addr)(D:Nat)(X:Wd)(w:World)(hX:FX w A L G D X)(hr:FK X):
  Calls Au 36 #[Up A L G D X] w fun e w'=>∃T tc G' hx,e=Ao (JN T (FG X).length tc G' X.gens.length hx)∧IN w.heap.size w' T G' (FG X) X∧Below w.heap.size w w':=by
 obtain⟨hl,hG,_⟩:=GD ((F7 X).2 hr);have hd:=fN.start w (S A X.rows.length L) (S G X.gens.length D) (S N 0 0) (S N 0 0) 43 25;have hz:(((w.alloc (Al #[S A X.rows.length L,S G X.gens.length D] 43)).alloc (Al #[S N 0 0,S N 0 0] 25))).heap.size=w.heap.size+2:=by simp
 have hm:=fun W (hb:Below w.heap.size w W)=>RS G D X.gens W (by omega) (hX.below hb).gens;have HZ:=An hz;clear hz;unfold Up FF JN;go_enter Tryz.func36,Tryz.ntmps36
 go_wp2_with fail
 go_at_call 68;refine(hm _ hd.bel).mono ?_;rintro e w1⟨Y,Z,rfl,he,hf⟩;rw[AN HZ]at he hf;have H:=hd.keep hf;have hn:=IU.start (W:=w1) (W1:=w1.alloc (Al #[S N 0 0,S Y X.gens.length Z] 125)) he H.sz R;have ho:=H.keep ((GF w1 (Al #[S N 0 0,S Y X.gens.length Z] 125)).mono H.sz);have u0:=H.r.e0;have ls:w.heap.size<w1.heap.size:=by have:=H.sz;omega
 clear he hf H hd HZ hm;go_wp2_with fail
 go_loopw [14] (fun x wr=>∃i:Nat,i≤X.rows.length∧x=I K (i:Int)∧∃T m,IU (w.heap.size+2) w1.heap.size T (S Y X.gens.length Z) X.gens m (Ll (Jm X.rows i) (X.rows.take i)) wr∧fN w (S A X.rows.length L) (S G X.gens.length D) (S N 0 0) (S N 0 0) wr) (fun x _=>X.rows.length - (intOf x).toNat)
 case atStart=>exact⟨0,AS _,rfl,_,_,hn,ho⟩
 case round =>
  clear hn ho u0;obtain⟨i,hi,rfl,T,m,hF,hA⟩:=hrel;by_cases J:i<X.rows.length
  ·have i0:(0:Int)≤(i:Int):=(by omega);have i1:(i:Int)<(X.rows.length:Int):=(by omega);have hg:=ME X.rows i hi;have ha:=TX hg;rw[AZ]at ha;have hp:=ME X.rows (i+1) J;have E:=Pa X.rows i J;have hh:=A0 J;have M:=hr.rv i J;unfold E' at M;obtain⟨b,hH,hy,F⟩:=(hX.below hA.bel).rows i J;dsimp only at F;rw[Hr _ _ J]at F M;obtain⟨r,hq⟩:∃r,r=X.rows[i]:=⟨_,rfl⟩;rw[←hq]at F M E hh;have U:=(Hz M).1;have hj:∀h,(Mr (X.rows.take i) h).length≤60:=fun h=>by
    have h1:(Mr (X.rows.take i) h).length≤(X.rows.take i).length:=BT _ _;rw[AZ]at h1;omega
   have hk:=aA (w.heap.size+2) w1.heap.size T (S Y X.gens.length Z) X.gens m (Ll (Jm X.rows i) (X.rows.take i)) r (wr.alloc (Al (D' r).toArray 116)) (hF.below (GF _ _))
    (fun a c hc hB=>by
     have:=Wv hg a c (by simpa[Ll]using hc) hB;simpa[Ll]using this)
    (by
     show(Tm ((Jm X.rows i).map (·.has)) r.has).Nodup;rw[←Ux,←E];have:=hp.up;rw[List.nodup_iff_pairwise_ne,Dh];exact this.imp fun h=>by omega)
    (by simp only[Ll,Bj];omega) U.1 U.2 (by simp only[Ll,Bj];have:=hj r.has;omega)
    (fun k=>by
     show(if k<F3 r.has then _ else _:List Int).length≤1000;split
     ·rw[Bj];have:=hj r.has;omega
     ·simp)
   rw[YL,←E,←hh]at hk;obtain⟨c0,c1,c2,c3,c4,c5,c6,c7,c8,c9,hI⟩:=IX F;have hC:=(hF.sz);clear hF hg hp E hh M F U hj ha hq;subst hy;unfold Hi at hk;go_wp2_with((go_at_call 69;refine hk.mono ?_;rintro e w3⟨T',m',rfl,hD,ht⟩;have hE:=(hA.keep (((GF wr (Al (D' r).toArray 116)).mono hC).trans ht));clear ht))
   go_roundw
   case rel=>exact⟨i+1,by omega,by go_num,_,_,hD,hE⟩
   case measure=>simp[intOf];omega
  ·obtain rfl:i=X.rows.length:=(by omega);rw[BN]at hF;have hu:(Ll (Jm X.rows X.rows.length) X.rows).hs.length=(FG X).length:=(by simp[Ll,FG]);have hT:=hF.ownT;rw[hu]at hT;obtain⟨Ta,Tc,rfl⟩:=Hw hT;obtain⟨t0,t1⟩:=hF.cells;have hS:=j3 hF (Jg X) hr;clear hF hT hu;go_wp2_with((refine As R 25 (Am 2) (Am 22) R (w.heap.size+1) 0 [S Ta (FG X).length Tc,S Y X.gens.length Z] R R (by simp[Ar]) Kq (IZ hA.s) ?_;intro W5 hv;have V:=hA.give (S Ta (FG X).length Tc) (S Y X.gens.length Z);have hw:=hS.putc (b:=w.heap.size+1) (o:=0) (vs:=[S Ta (FG X).length Tc,S Y X.gens.length Z]) (by omega);rw[←hv]at V hw;clear hv))
   have s0:=V.s.e0;have s1:=V.s.e1;refine AG (by simp[results,Tryz.results36,go_sem,s0,s1]<;>rfl) R ⟨Ta,Tc,Y,Z,rfl,hw.le (by omega),V.bel⟩
def Mh(fid:FuncId):Prop:=∀(args:Array Value) (W:World),(callFunc fid args).run Au W=.ok (.enter fid args) W
theorem eP:Mh 139:=by intro h W;kernel_rfl
theorem eO:Mh 112:=by intro h W;kernel_rfl
theorem ZQ:Mh 110:=by intro h W;kernel_rfl
theorem ZP:Mh 114:=by intro h W;kernel_rfl
theorem V8(V:FuncId)(U:List Value)(T:Option Addr)(E:Nat)(G:Option Addr)(F:Nat)(D:List Gu)(X Y:Wd)(cb:Nat)(vs:List Value)(w:World)(h:Ir w T G D X)(hu:cb<w.heap.size)(hY:FK Y)(hf:Kh V U X Y 0 cb vs w)(hE:Mh V):
  Calls Au 109 #[JN T D.length E G X.gens.length F,.func (.func V) #[] U.toArray] w fun e w'=>∃T' hv G' hw,e=Ao (Ai #[JN T' (FG Y).length hv G' Y.gens.length hw,I K 0])∧IN w.heap.size w' T' G' (FG Y) Y∧Below w.heap.size (w.setCells cb 0 vs) w':=by
 have hB:=B2.start w (S T D.length E) (S G X.gens.length F) (S N 0 0) (S N 0 0) 25 25;have hi:=IT w (Al #[S T D.length E,S G X.gens.length F] 25) (Al #[S N 0 0,S N 0 0] 25);have Z:=fun W (hb:Below w.heap.size w W)=>Kb T E G F D X W (h.below hb);unfold JN Up FF at Z;have hj:=fun A c G gc W (hX:FX W A c G gc Y)=>So A c G gc Y W hX hY;unfold JN Up FF at hj;clear hY;unfold Kh Up FF at hf;unfold Mh at hE;have H:=An hi;clear hi h;unfold JN;go_enter Tryz.func109,Tryz.ntmps109
 go_wp2_with((go_at_call 51;refine(Z _ (AN H)).mono ?_;rintro e w1⟨A1,c1,G1,J,rfl,hk,L⟩;have hl:=((hB.below L).below (IT w1 (Al #[S A1 X.rows.length c1,S G1 X.gens.length J] 43) (Al #[I K 0,I K 0] 29)));have hm:=(hk.below (IT w1 (Al #[S A1 X.rows.length c1,S G1 X.gens.length J] 43) (Al #[I K 0,I K 0] 29)));have M:=(((AN H).trans (L.mono (AN H).size)).trans ((IT w1 (Al #[S A1 X.rows.length c1,S G1 X.gens.length J] 43) (Al #[I K 0,I K 0] 29)).mono ((AN H).trans (L.mono (AN H).size)).size));clear hk L))
 refine(hf A1 c1 G1 J _ hm.toFX M).mono ?_;rintro e w4⟨A4,c4,G4,ha,rfl,hn,hc⟩;have ho:=(hl.turn (o:=0) (vs:=vs) hu).below (by rw[Gk];exact hc);have hd:=(Mg (cb:=cb) vs 0 _ _ M).trans (hc.mono M.size);have he:=(ho.below (GF w4 (Al #[S A4 Y.rows.length c4,S G4 Y.gens.length ha] 43)));have hx:=An (hd.trans ((GF w4 (Al #[S A4 Y.rows.length c4,S G4 Y.gens.length ha] 43)).mono (by have:=hd.size;rw[Gk]at this;exact this)));have hy:=(hn.below (GF w4 (Al #[S A4 Y.rows.length c4,S G4 Y.gens.length ha] 43)));clear ho hd hn hc hE hf Z hm M hl;go_wp2_with(first
  |(go_at_call 36;refine(hj _ _ _ _ _ hy.toFX).mono ?_;rintro e w7⟨Ta,Tc,Ag,cg,rfl,hp,hg⟩;have hq:=(he.below hg);have hz:=(hp.le (base':=w.heap.size+2) he.sz);have hA:=((AN hx).trans (hg.mono (by have:=he.sz;omega)));clear hp hg)
  |(refine As R 25 (Am 4) (Am 32) R (w.heap.size+1) 0 [S Ta (FG Y).length Tc,S Ag Y.gens.length cg] R R (by simp[Ar]) Kq (IZ hq.s) ?_;intro W8 hr;have hh:=hq.give (S Ta (FG Y).length Tc) (S Ag Y.gens.length cg);have hs:=hz.putc (b:=w.heap.size+1) (o:=0) (vs:=[S Ta (FG Y).length Tc,S Ag Y.gens.length cg]) (by omega);have ht:=Bv (w.heap.size+1) (by omega) [S Ta (FG Y).length Tc,S Ag Y.gens.length cg] 0 w7 hA;rw[←hr]at hh hs ht;clear hr))
 have t0:=hh.s.e0;have t1:=hh.s.e1;refine AG (by simp[results,Tryz.results109,go_sem,t0,t1]<;>rfl) R ⟨Ta,Tc,Ag,cg,rfl,hs.le (by omega),ht⟩
theorem V9(V:FuncId)(U:List Value)(T:Option Addr)(E:Nat)(G:Option Addr)(F:Nat)(D:List Gu)(X Y:Wd)(Z:Int)(cb:Nat)(vs:List Value)(w:World)(h:Ir w T G D X)(hq:cb<w.heap.size)(hY:Z≠0)(hf:Kh V U X Y Z cb vs w)(hE:Mh V):
  Calls Au 109 #[JN T D.length E G X.gens.length F,.func (.func V) #[] U.toArray] w fun e w'=>e=Ao (Ai #[JN N 0 0 N 0 0,I K Z])∧Below w.heap.size (w.setCells cb 0 vs) w':=by
 have hB:=B2.start w (S T D.length E) (S G X.gens.length F) (S N 0 0) (S N 0 0) 25 25;have hh:=IT w (Al #[S T D.length E,S G X.gens.length F] 25) (Al #[S N 0 0,S N 0 0] 25);have ha:=fun W (hb:Below w.heap.size w W)=>Kb T E G F D X W (h.below hb);unfold JN Up FF at ha;unfold Kh Up FF at hf;unfold Mh at hE;have H:=An hh;clear hh h;unfold JN;go_enter Tryz.func109,Tryz.ntmps109
 go_wp2_with((go_at_call 51;refine(ha _ (AN H)).mono ?_;rintro e w1⟨A1,c1,G1,J,rfl,hi,L⟩;have hj:=((hB.below L).below (IT w1 (Al #[S A1 X.rows.length c1,S G1 X.gens.length J] 43) (Al #[I K 0,I K 0] 29)));have hk:=(hi.below (IT w1 (Al #[S A1 X.rows.length c1,S G1 X.gens.length J] 43) (Al #[I K 0,I K 0] 29)));have M:=(((AN H).trans (L.mono (AN H).size)).trans ((IT w1 (Al #[S A1 X.rows.length c1,S G1 X.gens.length J] 43) (Al #[I K 0,I K 0] 29)).mono ((AN H).trans (L.mono (AN H).size)).size));clear hi L))
 refine(hf A1 c1 G1 J _ hk.toFX M).mono ?_;rintro e w4⟨A4,c4,G4,hc,rfl,hl,hd⟩;have hm:=(hj.turn (o:=0) (vs:=vs) hq).below (by rw[Gk];exact hd);have he:=(Mg (cb:=cb) vs 0 _ _ M).trans (hd.mono M.size);have hn:=(hm.below (GF w4 (Al #[S A4 Y.rows.length c4,S G4 Y.gens.length hc] 43)));have hr:=(he.trans ((GF w4 (Al #[S A4 Y.rows.length c4,S G4 Y.gens.length hc] 43)).mono (by have:=he.size;rw[Gk]at this;exact this)));have hs:=An (hl.below (GF w4 (Al #[S A4 Y.rows.length c4,S G4 Y.gens.length hc] 43)));clear hm he hl hd hE hf ha hk M hj;go_wp2_with((refine As R 25 (Am 4) (Am 29) R (w.heap.size+1) 0 [S N 0 0,S N 0 0] R R (by simp[Ar]) Kq (IZ hn.s) ?_;intro W8 ho;have hg:=hn.give (S N 0 0) (S N 0 0);have hp:=Bv (w.heap.size+1) (by omega) [S N 0 0,S N 0 0] 0 _ hr;rw[←ho]at hg hp;clear ho))
 have t0:=hg.s.e0;have t1:=hg.s.e1;refine AG (by simp[results,Tryz.results109,go_sem,t0,t1]<;>rfl) R ⟨rfl,hp⟩
end Go.Proofs.YtnbleebilmghcabGreat
namespace Go.Proofs.YtnbleebilmghcabGreat
open Go Go.RowKit
set_option maxRecDepth 8000
theorem Pf:FK FL:=(F7 FL).1 (by decide +kernel)
theorem LM(h:Nat)(w:World):IN h w N N (FG FL) FL:=fun W _=>⟨fun j D=>by simp[FG,Jm,FL]at D,fun j D=>by simp[FL]at D,Pf,fun t E=>by simp[FG,Jm,FL]at E,fun j D=>by simp[FG,Jm,FL]at D,by simp[FG,Jm,FL],by simp[FG,Jm,FL]⟩
theorem LN(H:FuncId)(D:List Value)(T:Option Addr)(J:Nat)(G:Option Addr)(L:Nat)(E:List Gu)(X Y:Wd)(F:Int)(cb:Nat)(vs:List Value)(w:World)(h:Ir w T G E X)(M:cb<w.heap.size)(hY:F=0→FK Y)(hN:F≠0→Y=FL)(hf:Kh H D X Y F cb vs w)(hE:Mh H):
  Calls Au 109 #[JN T E.length J G X.gens.length L,.func (.func H) #[] D.toArray] w fun e U=>∃T' V G' Z,e=Ao (Ai #[JN T' (FG Y).length V G' Y.gens.length Z,I K F])∧IN w.heap.size U T' G' (FG Y) Y∧Below w.heap.size (w.setCells cb 0 vs) U:=by
 by_cases e:F=0
 ·subst e;exact V8 H D T J G L E X Y cb vs w h M (hY R) hf hE
 ·refine(V9 H D T J G L E X Y F cb vs w h M e hf hE).mono ?_;rintro e U⟨rfl,hb⟩;refine⟨N,0,N,0,?_,?_,hb⟩
  ·rw[hN (by assumption)];rfl
  ·rw[hN (by assumption)];exact LM _ _
attribute [local go_sem ↓] Go.wp_at_zero Go.wp_at_succ
theorem bQ(A:Option Addr)(E:Nat)(G:Option Addr)(h:Nat)(X:Wd)(w:World)(hX:FX w A E G h X)(hr:FK X):
  Calls Au 13 #[Up A E G h X] w fun e w'=>∃T tc G' hg,e=Ao (Ai #[JN T (FG X).length tc G' X.gens.length hg,Af #[I K 0,I K 0]])∧IN w.heap.size w' T G' (FG X) X∧Below w.heap.size w w':=by
 have H:=(F7 X).2 hr;obtain⟨hl,hi,_⟩:=GD H;have L:=SB.startOf w (S A X.rows.length E) (S G X.gens.length h) 43 25 29;have hP:=fun W (hb:Below w.heap.size w W)=>J2 A X.rows.length E G X.gens.length h (fun j=>X.rows.getD j dR) (fun j=>X.gens.getD j 0) W (by omega) (hX.below hb).rows (hX.below hb).gens;have eW:Hk (fun j=>X.rows.getD j dR) X.rows.length X.gens.length (fun j=>X.gens.getD j 0)=FP X:=rfl;rw[eW]at hP;unfold Gr FF at hP;rw[H]at hP;generalize (FP X).2=wa at *;have M:=fun W (hb:Below w.heap.size w W)=>So A E G h X W (hX.below hb) hr;unfold Up FF JN at M;clear hX hr eW H;unfold Up FF JN;go_enter Tryz.func13,Tryz.ntmps13
 go_wp2_with(first
  |(go_at_call 35;refine(hP _ L.bel).mono ?_;rintro e w5⟨rfl,U⟩;have V:=L.below U;have F:=V.below (GF w5 (Al #[I K 0,I K wa] 29));have r0:=F.r0;have r1:=F.r1;clear U V)
  |(go_at_call 36;refine(M _ F.bel).mono ?_;rintro e w7⟨Ta,Tc,Ag,cg,rfl,Y,Z⟩;have ha:=(F.below Z);have hh:=(Y.le (base':=w.heap.size+3) F.sz);clear Y Z r0 r1)
  |(refine As R 25 (Am 2) (Am 13) R (w.heap.size+1) 0 [S Ta (FG X).length Tc,S Ag X.gens.length cg] R R (by simp[Ar]) Kq ha.thereA ?_;intro W8 hc;have J:=ha.giveA (S Ta (FG X).length Tc) (S Ag X.gens.length cg);have hd:=hh.putc (b:=w.heap.size+1) (o:=0) (vs:=[S Ta (FG X).length Tc,S Ag X.gens.length cg]) (by omega);rw[←hc]at J hd;clear hc)
  |(refine As R 29 (Am 3) (Am 14) R (w.heap.size+2) 0 [I K 0,I K 0] R R (by simp[Ar]) MJ J.thereB ?_;intro W9 he;have D:=J.giveB (I K 0) (I K 0);have hf:=hd.putc (b:=w.heap.size+2) (o:=0) (vs:=[I K 0,I K 0]) (by omega);rw[←he]at D hf;clear he))
 have t0:=D.t0;have t1:=D.t1;have s0:=D.s0;have s1:=D.s1;refine AG (by simp[results,Tryz.results13,go_sem,t0,t1,s0,s1]<;>rfl) R ⟨Ta,Tc,Ag,cg,rfl,hf.le (by omega),D.bel⟩
end Go.Proofs.YtnbleebilmghcabGreat
