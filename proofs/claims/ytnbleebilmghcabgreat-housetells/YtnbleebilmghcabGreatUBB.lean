/- Bat1, Bat4, Bat5 -/
import Derived.Test.YtnbleebilmghcabGreatUAB
import Derived.Test.YtnbleebilmghcabGreatUBA
set_option linter.all false
set_option maxRecDepth 8000
set_option maxHeartbeats 4000000
open Go.Value renaming int→I,slice→S,pointer→Ae,tuple→Ai,bool→Aj,ownBlock→Ax
open Go.IntKind renaming i64→K
open Option renaming none→N,some→O
open Go.Obj renaming cells→Al
open Go.Operand renaming tmp→Am
open Go.Ending renaming returned→Ao
open Go.Proofs.Tryz renaming prog→Au
namespace Go.Proofs.YtnbleebilmghcabGreat
open Go Go.RowKit
attribute [local go_sem ↓] Go.wp_at_zero Go.wp_at_succ
def sw(s:GG):Int×Int:=MA s.m s.al s.no s.a s.len
def Nj(S:Nat→GG):Nat→Nat→Int×Int
 |0,_=>(0,0)
 |m+1,j=>if(sw (S j)).1=0 then Nj S m (j+1)else((sw (S j)).1,(j:Int))
def en(S:Nat→GG)(n:Nat):Int×Int:=if 12<n then(4,0)else Nj S n 0
theorem Sl(S:Nat→GG)(n j:Nat)(h:j<n):Nj S (n - j) j=if(sw (S j)).1=0 then Nj S (n - (j+1)) (j+1)else((sw (S j)).1,(j:Int)):=by
 rw[show n - j=(n - (j+1))+1 by omega,Nj]
structure WX(w wr:World):Prop where
 bel:Below w.heap.size w wr
 t0:wr.cell? ⟨w.heap.size,0,N⟩=O (I K 0)
 t1:wr.cell? ⟨w.heap.size,1,N⟩=O (I K 0)
 f:∀i,wr.frozen? ⟨w.heap.size,i,N⟩=false
theorem WX.below{w D w1:World}(h:WX w D)(E:Below D.heap.size D w1):WX w w1:=by
 have z:=AL D _ h.t0;exact⟨h.bel.trans (E.mono h.bel.size),AW E h.t0,AW E h.t1,fun i=>(E.frozen (p:=⟨w.heap.size,i,N⟩) z).trans (h.f i)⟩
theorem WX.start(w:World):WX w (w.alloc (Al #[I K 0,I K 0] 29)):=
 ⟨Fv.alloc Fu _,by simp[go_sem],by simp[go_sem],fun i=>by simp[go_sem]⟩
theorem XG(L:Option Addr)(n cap:Nat)(S:Nat→GG)(w:World)(hL:Iw w L n S):
  Calls Au 37 #[.slice L n cap] w fun e w'=>e=Ao (GC (en S n))∧Below w.heap.size w w':=by
 unfold en;by_cases hg:12<n
 ·have hg':(12:Int)<(n:Int):=by omega
  simp only[hg,BX];go_enter Tryz.func37,Tryz.ntmps37
  go_wp2;refine AG (v:=GC (4,0)) (by simp[results,Tryz.results37,go_sem,GC]) R ⟨rfl,?_⟩;go_grown
 ·have hg':¬ (12:Int)<(n:Int):=by omega
  simp only[hg,BG];have HX:=(WX.start w);go_enter Tryz.func37,Tryz.ntmps37
  go_wp2;go_loopw [12] (fun i wr=>∃j:Nat,j≤n∧i=I K j∧Nj S n 0=Nj S (n - j) j∧WX w wr) (fun i _=>n - (intOf i).toNat)
  case atStart=>exact⟨0,AS _,rfl,rfl,HX⟩
  case round =>
   clear HX;obtain⟨j,hj,rfl,hF,hN⟩:=hrel;have HF:=An hF;clear hF;by_cases hlt:j<n
   ·have j0:(0:Int)≤(j:Int):=(by omega);have j1:(j:Int)<(n:Int):=(by omega);obtain⟨b,off,rfl,hs⟩:=hL j hlt;have hs:=hs.below hN.bel;have q0:=hs.c0;have q1:=hs.c1;have q2:=hs.c2;have q3:=hs.c3;have HS:=An (Sl S n j hlt);have hC:=NM (S j).m (S j).al (S j).no (S j).A (S j).len (S j).cap (S j).a _ (hs.acts.below ((AD wr.heap.size wr).alloc Fu (Al #[I K (S j).m,I K (S j).al,I K (S j).no,.slice (S j).A (S j).len (S j).cap] 37)));have e:MA (S j).m (S j).al (S j).no (S j).a (S j).len=sw (S j):=rfl;rw[e]at hC;unfold GC Gz at hC;clear e hL hs;generalize sw (S j)=x at *;obtain⟨ej,aj⟩:=x;dsimp only at *;generalize S j=s at *;obtain⟨m,al,no,A,len,cap,a⟩:=s;dsimp only at *;by_cases he:ej=0
    ·subst he;go_wp2_with(first
      |(go_at_call 22;refine hC.mono ?_;rintro e w5⟨rfl,hb5⟩;have hN5:=hN.below (CO (Fv.alloc Fu _) (hb5.mono (by simp)));clear hb5))
     go_roundw
     case rel=>exact⟨j+1,by omega,by go_num,(AN HF).trans ((AN HS).trans (by simp)),hN5.below (Fv.alloc Fu _)⟩
     case measure=>simp[intOf];omega
    ·go_wp2_with(first
      |(go_at_call 22;refine hC.mono ?_;rintro e w5⟨rfl,hb5⟩;have hN5:=hN.below (CO (Fv.alloc Fu _) (hb5.mono (by simp)));have hN6:=hN5.below (Fv.alloc Fu (Al #[I K ej,I K aj] 29));have t0:=hN6.t0;have t1:=hN6.t1;have f0:=hN6.f 0;have f1:=hN6.f 1;clear hb5))
     have hv:=(AN HF).trans ((AN HS).trans (AA he));refine AG (v:=GC (ej,(j:Int))) (by simp[results,Tryz.results37,go_sem,GC,t0,t1]) R ⟨by rw[hv],?_⟩;exact Bv w.heap.size (by omega) [I K ej,I K (j:Int)] 0 _ hN6.bel
   ·obtain rfl:j=n:=(by omega);have hv:Nj S j 0=(0,0):=(by rw[AN HF,BR];rfl);have t0:=hN.t0;have t1:=hN.t1;have f0:=hN.f 0;have f1:=hN.f 1;have HB:=hN.bel;clear hL;go_wp2;refine AG (v:=GC (0,0)) (by simp[results,Tryz.results37,go_sem,GC,t0,t1]) R ⟨by rw[hv],?_⟩;exact Bv w.heap.size (by omega) [I K 0,I K 0] 0 wr HB
def cs(x y:GG):Bool:=gk x.al x.a x.len y.al y.a y.len
theorem ga(x y:GG):cs x y=cs y x:=eY _ _ _ _ _ _
theorem gD(L:Option Addr)(n H:Nat)(S:Nat→GG)(o:Nat)(s:GG)(Z b7:Nat)(w:World)(ho:o<n)(h8:∀ j,j<n→(S j).len≤8)(J:s.len≤8)(hL:Iw w L n S)(h1:w.cell? ⟨Z,0,N⟩=O (.slice L n H))(h:Rj w b7 0 s):
  Calls Au 38 #[I K (o:Int),Ae (O ⟨Z,0,N⟩),Ae (O ⟨b7,0,N⟩)] w fun e M=>e=Ao (Aj (cs (S o) s))∧Below w.heap.size w M:=by
 obtain⟨b,hc,rfl,D⟩:=hL o ho;have U:Nonempty (Hm w):=⟨⟨w,AD _ _⟩⟩;have p1:=B1 h1;have q0:=B1 D.c0;have q1:=B1 D.c1;have q2:=B1 D.c2;have q3:=B1 D.c3;have r0:=B1 h.c0;have r1:=B1 h.c1;have r2:=B1 h.c2;have r3:=B1 h.c3;have j0:(0:Int)≤(o:Int):=by omega
 have j1:(o:Int)<(n:Int):=by omega
 have V:∀x:Hm w,Calls Au 39 #[Gz (S o).m (S o).al (S o).no (S o).A (S o).len (S o).cap,Gz s.m s.al s.no s.A s.len s.cap] x.val fun e M=>e=Ao (Aj (cs (S o) s))∧Below x.val.heap.size x.val M:=fun x =>
  ZZ (S o).m (S o).al (S o).no (S o).A (S o).len (S o).cap (S o).a s.m s.al s.no s.A s.len s.cap s.a x.val (h8 o ho) J (D.acts.below x.bel) (h.acts.below x.bel)
 unfold Gz at V;have HC:=An V;clear V hL D h h1;generalize cs (S o) s=hd at *;generalize S o=x at *;obtain⟨m,al,no,A,len,ha,a⟩:=x;obtain⟨m',he,hf,A',hb,Y,a'⟩:=s;dsimp only at *;go_enter Tryz.func38,Tryz.ntmps38
 go_wp2_with fail
 refine FN (by kernel_rfl) (by kernel_rfl) ?_
 repeat(go_big_quiet_step((first
  |(go_at_call 39;exact Gf (AN HC _)))))
 refine Bg ?_;rintro w6⟨xs,E⟩;have F:=xs.bel;rw[←E]at F;clear E xs p1 q0 q1 q2 q3 r0 r1 r2 r3 U HC;go_wp2_with fail
 go_ret;exact⟨rfl,F⟩
theorem Sk(S:Nat→GG):∀m j,(Nj S m j).1=0→(∀i,i<m→(sw (S (j+i))).1=0)∧Nj S m j=(0,0)
 |0,_,_=>⟨fun _ h=>by omega,rfl⟩
 | m+1,j,h=>by
  unfold Nj at h⊢;by_cases D:(sw (S j)).1=0
  ·rw[AF D]at h⊢;obtain⟨E,F⟩:=Sk S m (j+1) h;refine⟨fun i H=>?_,F⟩
   cases i with
   |zero=>exact D
   |succ i=>rw[show j+(i+1)=j+1+i by omega];exact E i (by omega)
  ·rw[AA D]at h;exact absurd h D
theorem VI(S:Nat→GG)(n:Nat)(h:(en S n).1=0):n≤12∧(∀j,j<n→(sw (S j)).1=0)∧en S n=(0,0):=by
 unfold en at h⊢;by_cases D:12<n
 ·rw[AF D]at h;exact absurd h (by decide)
 ·rw[AA D]at h⊢;obtain⟨E,F⟩:=Sk S n 0 h;exact⟨by omega,fun j H=>by have:=E j H;rwa[AT]at this,F⟩
structure MK(w:World)(L:Option Addr)(n cap:Nat)(W:World):Prop where
 bel:Below w.heap.size w W
 sz:w.heap.size+2≤W.heap.size
 b1:W.cell? ⟨w.heap.size,0,N⟩=O (S L n cap)
 t0:W.cell? ⟨w.heap.size+1,0,N⟩=O (I K 0)
 t1:W.cell? ⟨w.heap.size+1,1,N⟩=O (I K 0)
 f:∀i,W.frozen? ⟨w.heap.size+1,i,N⟩=false
theorem MK.keep{w W W1:World}{L:Option Addr}{n E:Nat}(h:MK w L n E W)(D:Below (w.heap.size+2) W W1):MK w L n E W1 :=
 ⟨h.bel.trans (D.mono (by omega)),AU h.sz D.size,(D.cell (p:=⟨w.heap.size,0,N⟩) (by simp)).trans h.b1,(D.cell (p:=⟨w.heap.size+1,0,N⟩) (by simp)).trans h.t0,(D.cell (p:=⟨w.heap.size+1,1,N⟩) (by simp)).trans h.t1,fun i=>(D.frozen (p:=⟨w.heap.size+1,i,N⟩) (by simp)).trans (h.f i)⟩
theorem MK.below{w W W1:World}{L:Option Addr}{n D:Nat}(h:MK w L n D W)(E:Below W.heap.size W W1):MK w L n D W1:=h.keep (E.mono h.sz)
theorem MK.start(w:World)(L:Option Addr)(n h:Nat):MK w L n h ((w.alloc (Al #[S L n h] 26)).alloc (Al #[I K 0,I K 0] 29)):=by
 obtain⟨w1,D⟩:∃W,W=w.alloc (Al #[S L n h] 26):=⟨_,rfl⟩;have H:w1.heap.size=w.heap.size+1:=by rw[D];simp
 have E:Below w.heap.size w w1:=by rw[D];exact Fv.alloc Fu _
 have J:w1.cell? ⟨w.heap.size,0,N⟩=O (S L n h):=by rw[D];simp
 rw[←D];clear D;have F:Below w1.heap.size w1 (w1.alloc (Al #[I K 0,I K 0] 29)):=Fv.alloc Fu _;refine⟨E.trans (F.mono E.size),by simp;omega,AW F J,?_,?_,fun i=>?_⟩<;>rw[←H]<;>simp[go_sem]
theorem eD:(Au.info? 23).map (fun i=>(i.zero,i.size,i.bytes))=O (O (S N 0 0),1,24):=by kernel_rfl
def He(S:Nat→GG)(o i:Nat):Bool:=cs (S o) (S i)
theorem bV(cl:Nat→Nat→Bool)(n:Nat):IM cl (n+1)=M8 (IM cl n) (I3 cl n) n:=rfl
theorem Qt(cl:Nat→Nat→Bool)(n k:Nat)(h:k<(IM cl n).length):((IM cl n).getD k []).length≤n:=by
 rw[(ev cl n).at_ k h];exact AU (BT _ _) (by simp)
theorem KV.cellAt{W W':World}{D g F:Nat}{H:List (List Nat)}{E:List Value}(h:KV W D (S (O ⟨g,0,N⟩) H.length F) H E){k:Nat}(L:k<H.length)(U:W.grownBy W' (E.getD k Ii).ownBlock):W'.cell? ⟨g,k,N⟩=O (E.getD k Ii)∧W'.frozen? ⟨g,k,N⟩=false:=by
 have M:=h.top.kept U (F1 h.top (h.each k L) (by decide));refine⟨F4 M ?_,KP M k⟩;have J:k<E.length:=by rw[h.len];exact L
 rw[Az,AE J];rfl
theorem KV.cell{W:World}{D g E:Nat}{F:List (List Nat)}{H:List Value}(h:KV W D (S (O ⟨g,0,N⟩) F.length E) F H){k:Nat}(J:k<F.length):W.cell? ⟨g,k,N⟩=O (H.getD k Ii):=
 (h.cellAt J (Da W _)).1
theorem KV.blk{W:World}{D:Nat}{v:Value}{E:List (List Nat)}{F:List Value}(h:KV W D v E F){k:Nat}(H:k<E.length):∀y,(F.getD k Ii).ownBlock=O y→D≤y:=fun y J=>((h.each k H).lt y J).1
theorem KV.pos{W:World}{E:Nat}{v:Value}{F:List (List Nat)}{H:List Value}(h:KV W E v F H)(h0:0<F.length):∃g D,v=S (O ⟨g,0,N⟩) F.length D:=by
 obtain⟨g,D,J,_⟩:=Gi h.top h0;exact⟨g,D,J⟩
theorem bA(D:List (List Nat))(k x:Nat)(h:k<D.length):M8 D k x=D.set k (D.getD k []++[x]):=by unfold M8;rw[AA (by omega)]
theorem bB(h:List (List Nat))(x:Nat):M8 h h.length x=(h++[[]]).set h.length ((h++[[]]).getD h.length []++[x]):=by
 unfold M8;rw[AF R,OF];simp
theorem KV.setBelow{W:World}{D:Nat}{v:Value}{E:List (List Nat)}{F:List Value}(h:KV W D v E F){a:Addr}(H:a.block<D)(u:Value):KV (W.setCell a u) D v E F :=
 ⟨Cs h.top H u,fun k J=>Cs (h.each k J) H u,h.apart⟩
theorem KV.setsBelow{D b:Nat}{v:Value}{E:List (List Nat)}{F:List Value}(H:b<D):∀(vs:List Value) (o:Nat) (W:World),KV W D v E F→KV (W.setCells b o vs) D v E F
 |[],_,_,h=>h
 |u :: r,o,_,h=>KV.setsBelow H r (o+1) _ (h.setBelow (a:=⟨b,o,N⟩) H u)
theorem Kx{B:Nat}{w:World}(h:B≤w.heap.size)(o:Obj):B≤(w.alloc o).heap.size:=by simp;omega
theorem jF{W:World}{g:Nat}(h:O g=Ax (S N 0 0)∨g=W.heap.size):W.heap.size≤g:=by
 rcases h with h|h
 ·cases h
 ·omega
theorem gA(u:Value)(h:u.oneCell'=true):∀x∈[u],x.oneCell'=true:=fun x D=>by rw[BH]at D;rw[D];exact h
theorem fF(D:List Value)(u:Value)(k:Nat)(h:D.length=k):(D++[u])[k]?=O u:=by subst h;simp
theorem KV.add0{W W':World}{E g F:Nat}{D:List (List Nat)}{H:List Value}(h:KV W E (S (O ⟨g,0,N⟩) (D.length+1) F) (D++[[]]) (H++[Ii])){x g2 cap2:Nat}
  (M:W'.ownsRow E 3 1 (S (O ⟨g2,0,N⟩) 1 cap2) 1 [I K (x:Int)]) (U:W.grownBy W' N) (V:W.heap.size≤g2):
  KV (W'.setCell ⟨g,D.length,N⟩ (S (O ⟨g2,0,N⟩) 1 cap2)) E (S (O ⟨g,0,N⟩) (D.length+1) F) (M8 D D.length x) ((H++[Ii]).set D.length (S (O ⟨g2,0,N⟩) 1 cap2)):=by
 have Y:H.length=D.length:=by have:=h.len;simp at this;omega
 have J:(D++[[]]).getD D.length []=[]:=OF D [];have Z:(H++[Ii]).getD D.length Ii=Ii:=by rw[←Y];exact NZ H Ii
 have L:(D++[([]:List Nat)]).length=D.length+1:=by simp
 have h':KV W E (S (O ⟨g,0,N⟩) (D++[[]]).length F) (D++[[]]) (H++[Ii]):=by rw[L];exact h
 have R:=KV.add (W':=W') (x:=x) (g2:=g2) (cap2:=cap2) h' (k:=D.length) (by rw[L];omega) (by rw[J];simpa[IQ]using M) (by rw[Z];exact U) (.inr V);rw[J,L]at R;rw[bB,J];exact R
theorem KV.cell0{W:World}{E g F:Nat}{D:List (List Nat)}{H:List Value}(h:KV W E (S (O ⟨g,0,N⟩) (D.length+1) F) (D++[[]]) (H++[Ii])):W.cell? ⟨g,D.length,N⟩=O Ii∧W.frozen? ⟨g,D.length,N⟩=false:=by
 have L:H.length=D.length:=by have:=h.len;simp at this;omega
 have J:=h.top;rw[show(D++[([]:List Nat)]).length=D.length+1 by simp]at J;exact⟨F4 J (fF H Ii _ L),KP J _⟩
theorem KV.lo{W:World}{D g E n:Nat}{F:List (List Nat)}{H:List Value}(h:KV W D (S (O ⟨g,0,N⟩) n E) F H):D≤g:=(h.top.lt g R).1
theorem Wh(L:Option Addr)(n hb:Nat)(S:Nat→GG)(w:World)(hL:Iw w L n S)(hw:(en S n).1=0):
  Calls Au 14 #[.slice L n hb] w fun e w'=>∃B hh,e=Ao (Ai #[.slice B (IM (He S) n).length hh,GC (0,0)])∧Mi w' B (IM (He S) n)∧Below w.heap.size w w':=by
 obtain⟨hn,hD,hz⟩:=VI S n hw;have h8:∀j,j<n→(S j).len≤8:=fun j hj=>((Ie _ _ _ _ _).1 (hD j hj)).2.1;have hM:=MK.start w L n hb;have hC:=XG L n hb S _ (hL.below hM.bel);rw[hz]at hC;unfold GC at *;clear hw hD hz;obtain⟨ca,hE,hF,hG,hH⟩:=BC eD;obtain⟨i3,hI,hJ,hK,hP⟩:=BC info3;go_enter Tryz.func14,Tryz.ntmps14
 go_wp2_with(first
  |(go_at_call 37;refine hC.mono ?_;rintro e w5⟨rfl,D⟩;have hQ:=hM.below D;have hm:=hQ.below (Fv.alloc Fu (Al #[I K 0,I K 0] 29));have b1:=hm.b1;clear D hQ))
 clear hC hM;clear b1;go_loopw [5,18] (fun v i wr=>∃(j:Nat) (xs:List Value),j≤n∧i=I K j∧MK w L n hb wr∧KV wr (w.heap.size+2) v (IM (He S) j) xs) (fun _ i _=>n - (intOf i).toNat)
 case atStart=>exact⟨0,[],AS _,rfl,hm,KV.nil _ _⟩
 case round =>
  clear hm;obtain⟨j,xs,hj,rfl,hN,hO⟩:=hrel;obtain⟨B,J,hv,hB⟩:=hO.bats;subst hv;by_cases hR:j<n
  ·have j0:(0:Int)≤(j:Int):=(by omega);have j1:(j:Int)<(n:Int):=(by omega);obtain⟨b,co,cc,hs⟩:=hL j hR;have hs:=hs.below hN.bel;obtain⟨W1,M⟩:∃W,W=wr.alloc (Al #[I K (S j).m,I K (S j).al,I K (S j).no,.slice (S j).A (S j).len (S j).cap] 37):=⟨_,rfl⟩;have hc:Below wr.heap.size wr W1:=(by rw[M];exact Fv.alloc Fu _);have h7:Rj W1 wr.heap.size 0 (S j):=⟨by rw[M];simp,by rw[M];simp,by rw[M];simp,by rw[M];simp,hs.acts.below hc⟩;have hd:=hN.below hc;have hS:=hL.below hd.bel;have hi:Rn W1 w.heap.size wr.heap.size n (fun o=>He S o j):=fun W hW o ho=>gD L n hb S o (S j) w.heap.size wr.heap.size W ho h8 (h8 j hR) (hS.below hW) (AW hW hd.b1) (h7.below hW);have cp:=MT (He S) j;have hC:=XI B (IM (He S) j) J n w.heap.size wr.heap.size (fun o=>He S o j) W1 (by omega) (fun k hk=>by have:=Qt (He S) j k hk;omega) (fun k hk x hx=>by have:=((Oi (He S) j k x hk).1 hx).1;omega) (hB.below hc) hi;have e:Tn (fun o=>He S o j) (IM (He S) j) (IM (He S) j).length=I3 (He S) j:=rfl;rw[e]at hC;have cq:I3 (He S) j≤(IM (He S) j).length:=PQ _ _ _;have hp:∀k,k<(IM (He S) j).length→((IM (He S) j).getD k []).length≤12:=fun k hk=>(by have:=Qt (He S) j k hk;omega);have hq:=hO.below hc;rw[M]at hC;have hT:=An (bV (He S) j);generalize I3 (He S) j=a at *;have q0:=hs.c0;have q1:=hs.c1;have q2:=hs.c2;have q3:=hs.c3;have r1:=hN.b1;subst cc;clear hi hS h7 e hs hc;generalize IM (He S) j=Z at *;have a0:(0:Int)≤(a:Int):=(by omega);by_cases cd:a=Z.length
   ·subst cd;have cj:(Z.length:Int)<(Z.length:Int)+1:=(by omega);go_wp2_with(first
     |(go_at_call 40;refine hC.mono ?_;rintro e w5⟨rfl,D⟩;rw[←M]at D;have U:=(hd.below D);have V:=(hq.below D);clear D)
     |(at_builtin;refine FY _ R (Am 31) (Am 32) 46 R (w.heap.size+2) 23 ca (.slice N 0 0) 1 24 Tryz.underlying46 hE hF hG hH R (by decide) _ _ _ R (V.top.alloc _) ⟨w5.heap.size,0,N⟩ 1 1 [.slice N 0 0] R R (KU _ _ _) (gA _ R) (by unfold maxLen;omega) (by omega) (Kx U.sz _) (by omega) ?_;intro g hU w7 hV hr ce;have hX:=(U.keep ((Fv.alloc U.sz _).trans (F0 hr (fun k hk=>(V.top.lt k hk).1) (Kx U.sz _))));have hY:=KV.push (V.below (Fv.alloc Fu _)) hV hr;have c7:w7.cell? ⟨g,Z.length,N⟩=O (.slice N 0 0):=hY.cell0.1;clear hV hr ce)
     |(at_builtin;refine FY _ R (Am 39) (Am 41) 23 R (w.heap.size+2) 3 i3 (I K 0) 1 8 Tryz.underlying23 hI hJ hK hP R (by decide) _ _ _ R (Bn _ _ _ _) ⟨w7.heap.size,0,N⟩ 1 1 [I K (j:Int)] R R (KU _ _ _) (gA _ R) (by decide) (by omega) (Kx hX.sz _) (by omega) ?_;intro g2 cap2 w9 Y H ha;have F:=hY.below (Fv.alloc Fu (Al #[I K (j:Int)] 3));have he:=F0 (B:=(w7.alloc (Al #[I K (j:Int)] 3)).heap.size) H (fun k hk=>by cases hk) Fu;have c9:=(F.below he).cell0.1;have f9:=(F.below he).cell0.2;have ht:=An ((hX.below (Fv.alloc Fu _)).below he);clear he))
    have F:=F;have hy:=F.lo;have Y:w9.ownsRow (w.heap.size+2) 3 1 (.slice (O ⟨g2,0,N⟩) 1 cap2) 1 [I K (j:Int)]:=(by simpa using Y);have hf:=An (KV.add0 F Y H (jF ha));go_roundw
    case rel=>exact⟨j+1,_,by omega,by go_num,ht.keep (Fv.setCell (p:=⟨g,Z.length,N⟩) hy _),by rw[AN hT];exact hf⟩
    case measure=>simp[intOf];omega
   ·have ck:¬ ((a:Int)=(Z.length:Int)):=(by omega);have E:a<Z.length:=(by omega);have cm:(a:Int)<(Z.length:Int):=(by omega);obtain⟨g,hU,hv⟩:=hq.pos (by omega);simp only[A9,Br]at hv;obtain⟨rfl,rfl⟩:=hv;obtain⟨u,hu⟩:∃u,u=xs.getD a Ii:=⟨_,rfl⟩;obtain⟨l,hl⟩:∃l,l=Z.getD a []:=⟨_,rfl⟩;have cn:l.length≤12:=(by rw[hl];exact hp a E);have HU:=An hu;have hZ:=An hl;have cf:=(fun(W:World) (h:KV W (w.heap.size+2) (.slice (O ⟨g,0,N⟩) Z.length J) Z xs)=>show W.cell? ⟨g,a,N⟩=O u by rw[hu];exact h.cell E);have cg:=(fun(W:World) (h:KV W (w.heap.size+2) (.slice (O ⟨g,0,N⟩) Z.length J) Z xs)=>show W.ownsRow (w.heap.size+2) 3 1 u l.length (IQ l) by rw[hu,hl];exact h.each a E);have ch:=(fun(W W':World) (h:KV W (w.heap.size+2) (.slice (O ⟨g,0,N⟩) Z.length J) Z xs) (hg:W.grownBy W' u.ownBlock)=>show W'.cell? ⟨g,a,N⟩=O u∧W'.frozen? ⟨g,a,N⟩=false by rw[hu]at hg⊢;exact h.cellAt E hg);clear hu hl;go_wp2_with(first
     |(go_at_call 40;refine hC.mono ?_;rintro e w5⟨rfl,D⟩;rw[←M]at D;have U:=(hd.below D);have V:=(hq.below D);have c5:=cf _ V;clear D)
     |(at_builtin;refine FY _ R (Am 39) (Am 41) 23 R (w.heap.size+2) 3 i3 (I K 0) 1 8 Tryz.underlying23 hI hJ hK hP R (by decide) u l.length (IQ l) R ((cg _ V).alloc _) ⟨w5.heap.size,0,N⟩ 1 1 [I K (j:Int)] R R (KU _ _ _) (gA _ R) (by unfold maxLen;omega) (by omega) (Kx U.sz _) (by omega) ?_;intro g2 cap2 w9 Y H ha;have hA:=ch _ _ (V.below (Fv.alloc Fu _)) H;have c9:=hA.1;have f9:=hA.2;clear hA))
    have F:=V.below (Fv.alloc Fu (Al #[I K (j:Int)] 3));have hy:=F.lo;have H:=H;have Y:=Y;have ha:=ha;rw[AN HU]at H ha;rw[AN hZ]at Y;have ht:=(U.below (Fv.alloc Fu _)).keep (F0 H (fun k hk=>F.blk E k hk) (Kx U.sz _));have hf:=KV.add F E (x:=j) Y H (ha.imp id (fun h=>Nat.le_of_eq h.symm));rw[←bA _ _ _ E,←AN hZ]at hf;go_roundw
    case rel=>exact⟨j+1,_,by omega,by go_num,ht.keep (Fv.setCell (p:=⟨g,a,N⟩) hy _),by rw[AN hT];exact hf⟩
    case measure=>simp[intOf];omega
  ·obtain rfl:j=n:=(by omega);have t0:=hN.t0;have t1:=hN.t1;have f0:=hN.f 0;have f1:=hN.f 1;clear hL h8;go_wp2;refine AG (by simp[results,Tryz.results14,go_sem,t0,t1]<;>rfl) R ⟨B,J,rfl,?_,?_⟩
   ·obtain⟨B',hh,hv,ci⟩:=(hO.setsBelow (b:=w.heap.size+1) (by omega) [I K 0,I K 0] 0).bats;simp only[A9]at hv;obtain⟨rfl,_,rfl⟩:=hv;exact ci
   ·exact Bv (w.heap.size+1) (by omega) [I K 0,I K 0] 0 _ hN.bel
end Go.Proofs.YtnbleebilmghcabGreat
