/- PRPut0, PRPut -/
import Derived.Test.YtnbleebilmghcabGreatUAM
import Derived.Test.YtnbleebilmghcabGreatUAO
set_option linter.all false
set_option maxHeartbeats 4000000
open Go.Value renaming int→I,slice→S,tuple→Ai,bool→Aj,oneCell'→Ar
open Go.IntKind renaming i64→K
open Option renaming none→N,some→O
open Go.Obj renaming cells→Al
open Go.Operand renaming tmp→Am
open Go.Ending renaming returned→Ao
open Go.Proofs.Tryz renaming prog→Au
namespace Go.Proofs.YtnbleebilmghcabGreat
open Go Go.RowKit
attribute [local go_sem ↓] Go.wp_at_zero Go.wp_at_succ
theorem Wf:∀m:Fin 256,∀p:Fin 8,ND [decide (p.val=0) || tb (m.val:Int) 0,decide (p.val=1) || tb (m.val:Int) 1,decide (p.val=2) || tb (m.val:Int) 2,decide (p.val=3) || tb (m.val:Int) 3,decide (p.val=4) || tb (m.val:Int) 4,decide (p.val=5) || tb (m.val:Int) 5,decide (p.val=6) || tb (m.val:Int) 6,decide (p.val=7) || tb (m.val:Int) 7]=bits .or K (m.val:Int) (Ge (p.val:Int)):=by decide +kernel
theorem Uj:∀m:Fin 256,∀p:Fin 8,ND [!decide (p.val=0) && tb (m.val:Int) 0,!decide (p.val=1) && tb (m.val:Int) 1,!decide (p.val=2) && tb (m.val:Int) 2,!decide (p.val=3) && tb (m.val:Int) 3,!decide (p.val=4) && tb (m.val:Int) 4,!decide (p.val=5) && tb (m.val:Int) 5,!decide (p.val=6) && tb (m.val:Int) 6,!decide (p.val=7) && tb (m.val:Int) 7]=bits .andNot K (m.val:Int) (Ge (p.val:Int)):=by decide +kernel
structure YB(w:World)(u0 u1:Value)(i g:Int)(y:Nat)(x:D7)(W:World):Prop extends CW w u0 u1 i g (S N 0 0) (S N 0 0) W where
 hy:w.heap.size+3≤y
 row:Hb W y 0 x
 fr:∀j,W.frozen? ⟨y,j,N⟩=false
section
variable {w W W1:World} {u0 u1:Value} {i g:Int} {y:Nat} {x:D7}
theorem YB.ly(h:YB w u0 u1 i g y x W):y<W.heap.size:=AL W ⟨y,0,N⟩ h.row.c0
theorem YB.below(h:YB w u0 u1 i g y x W)(D:Below W.heap.size W W1):YB w u0 u1 i g y x W1 :=
 ⟨h.toCW.below D,h.hy,h.row.below D,fun j=>(D.frozen (p:=⟨y,j,N⟩) h.ly).trans (h.fr j)⟩
theorem YB.setHas(h:YB w u0 u1 i g y x W)(q:Int):YB w u0 u1 i g y ⟨x.ix,x.gen,q,x.v⟩ (W.setCell ⟨y,2,N⟩ (I K q)):=
 ⟨h.toCW.keep (Fv.setCell (p:=⟨y,2,N⟩) h.hy _),h.hy,by have:=Nn h.row q;rwa[AT]at this,fun j=>by simpa using h.fr j⟩
theorem YB.setV(h:YB w u0 u1 i g y x W)(k:Nat)(D:k<8)(n:Int):YB w u0 u1 i g y ⟨x.ix,x.gen,x.has,fun j=>if j=k then n else x.v j⟩ (W.setCell ⟨y,3+k,N⟩ (I K n)):=
 ⟨h.toCW.keep (Fv.setCell (p:=⟨y,3+k,N⟩) h.hy _),h.hy,by have:=LS h.row k D n;rwa[AT]at this,fun j=>by simpa using h.fr j⟩
theorem YB.new(h:CW w u0 u1 i g (S N 0 0) (S N 0 0) W)(x:D7):YB w u0 u1 i g W.heap.size x (W.alloc (Al #[I K x.ix,I K x.gen,I K x.has,I K (x.v 0),I K (x.v 1),I K (x.v 2),I K (x.v 3),I K (x.v 4),I K (x.v 5),I K (x.v 6),I K (x.v 7)] 116)):=by
 obtain⟨D,E⟩:=Me W x 116;exact⟨h.below (GF _ _),h.sz,D,E⟩
theorem YB.other(h:YB w u0 u1 i g y x W){b o:Nat}{v:Value}(E:w.heap.size+3≤b)(D:y≠b):YB w u0 u1 i g y x (W.setCell ⟨b,o,N⟩ v):=
 ⟨h.toCW.keep (Fv.setCell (p:=⟨b,o,N⟩) E _),h.hy,M5 D.symm h.row,fun j=>by simpa using h.fr j⟩
theorem YB.arr(h:YB w u0 u1 i g y x W)(a:Array Value)(q:Nat)(v:Value):YB w u0 u1 i g y x ((W.alloc (Al a 107)).setCell ⟨W.heap.size,q,N⟩ v):=
 (h.below (GF W (Al a 107))).other (AU h.hy (DD h.ly)) (CL h.ly)
end
theorem Nf(h:Int)(v:Bool)(q:Nat)(D:q<8)(t:Nat)(E:t<8)(F:t<([Aj (tb h 0),Aj (tb h 1),Aj (tb h 2),Aj (tb h 3),Aj (tb h 4),Aj (tb h 5),Aj (tb h 6),Aj (tb h 7)].set q (Aj v)).length):([Aj (tb h 0),Aj (tb h 1),Aj (tb h 2),Aj (tb h 3),Aj (tb h 4),Aj (tb h 5),Aj (tb h 6),Aj (tb h 7)].set q (Aj v))[t]=Aj (if q=t then v else tb h t):=by
 rw[Dr];split
 ·rfl
 ·rcases(by omega:t=0∨t=1∨t=2∨t=3∨t=4∨t=5∨t=6∨t=7)with rfl|rfl|rfl|rfl|rfl|rfl|rfl|rfl <;>rfl
set_option maxRecDepth 8000
theorem aY(A:Option Addr)(H:Nat)(G:Option Addr)(D:Nat)(X:Wd)(i g n:Int)(q:Nat)(V:q<8)(w:World)(hX:FX w A H G D X)(Z:(FP X).1=0){k:Nat}(hk:k<X.rows.length)(hf:Ga X i g=(k:Int))(ho:Hx n=true):
  Calls Au 63 #[Up A H G D X,FJ i g,I K (q:Int),I K n] w fun e w'=>∃A' c' G' hp,e=Ao (Ai #[Up A' c' G' hp ⟨X.rows.set k (M7 (E' X k) (q:Int) n),X.gens⟩,I K 0])∧Hd w.heap.size w' G A' c' G' hp ⟨X.rows.set k (M7 (E' X k) (q:Int) n),X.gens⟩∧Below w.heap.size w w':=by
 obtain⟨hl,hL,_⟩:=GD Z;have hr:=(F7 X).1 Z;have ht:=CW.start w (S A X.rows.length H) (S G X.gens.length D) i g;have hP:=fun W (hb:Below w.heap.size w W)=>Gh A X.rows.length H G X.gens.length D (fun j=>X.rows.getD j dR) (fun j=>X.gens.getD j 0) W (by omega) (hX.rows.below hb) (hX.gens.below hb);have eW:Hk (fun j=>X.rows.getD j dR) X.rows.length X.gens.length (fun j=>X.gens.getD j 0)=FP X:=rfl;rw[eW]at hP;unfold Gr FF at hP;rw[Z]at hP;have hR:=fun W (h:FX W A H G D X)=>KM hf hl A H G D W h;have ha:=Tr hr hk (M7 (E' X k) (q:Int) n) R;have hj:=fun W (h:FX W A H G D X)=>NP A H G D X (M7 (E' X k) (q:Int) n) W (by omega) h;rw[ha]at hj;obtain⟨hb,_⟩:=Hz (hr.rv k hk);have hu:=Gm n;rw[ho]at hu;unfold Up FF Hi at hj;generalize (FP X).2=wa at *;generalize E' X k=x at *;generalize X.rows.set k (M7 x (q:Int) n)=rows' at *;have hE:=fun W=>Ou x.has W hb.1 hb.2;have hc:ND [(if q=0 then true else tb x.has 0),(if q=1 then true else tb x.has 1),(if q=2 then true else tb x.has 2),(if q=3 then true else tb x.has 3),(if q=4 then true else tb x.has 4),(if q=5 then true else tb x.has 5),(if q=6 then true else tb x.has 6),(if q=7 then true else tb x.has 7)]=bits .or K x.has (Ge (q:Int)):=by
  obtain⟨m,hm⟩:=KY x.has hb.1 hb.2;have:=Wf m ⟨q,V⟩;rw[hm,←this];congr 1;simp only[B6,Bx];refine⟨?_,?_,?_,?_,?_,?_,?_,?_⟩<;>(split <;>simp_all)
 have hv:=fun W=>TE (if q=0 then true else tb x.has 0) (if q=1 then true else tb x.has 1) (if q=2 then true else tb x.has 2) (if q=3 then true else tb x.has 3) (if q=4 then true else tb x.has 4) (if q=5 then true else tb x.has 5) (if q=6 then true else tb x.has 6) (if q=7 then true else tb x.has 7) W;rw[hc]at hv;have ez:M7 x (q:Int) n=⟨x.ix,x.gen,bits .or K x.has (Ge (q:Int)),fun j=>if j=q then n else x.v j⟩:=rfl;generalize M7 x (q:Int) n=z at *;have HE:=An ez;clear ez hc;generalize bits .or K x.has (Ge (q:Int))=hs at *;have q0:(0:Int)≤(q:Int):=by omega
 have q1:(q:Int)<8:=by omega
 have q2:¬ (7:Int)<(q:Int):=by omega
 have q3:¬ (q:Int)<0:=by omega
 clear ha hr hf hk Z ho hb eW;unfold Up FF FJ;go_enter Tryz.func63,Tryz.ntmps63
 go_wp2_with(first
  |(go_at_call 55;refine(hP _ ht.bel).mono ?_;rintro e w5⟨rfl,hw⟩;have hx:=ht.below hw;have U:=hx.below (Fv.alloc Fu (Al #[I K 0,I K wa] 29));have r0:=U.r0;have r1:=U.r1;have s0:=U.s0;have s1:=U.s1;clear hw hx)
  |(go_at_call 59;refine(hR _ (hX.below U.bel)).mono ?_;rintro e w7⟨b7,o7,rfl,E,hy⟩;have hF:=U.below hy;clear r0 r1 s0 s1;have c0:=E.c0;have c1:=E.c1;have c2:=E.c2;have c3:=E.v 0 (by omega);have c4:=E.v 1 (by omega);have c5:=E.v 2 (by omega);have c6:=E.v 3 (by omega);have c7:=E.v 4 (by omega);have c8:=E.v 5 (by omega);have c9:=E.v 6 (by omega);have hz:=E.v 7 (by omega);simp only[Bt,Nat.reduceAdd]at c3 c4 c5 c6 c7 c8 c9 hz;clear hy E)
  |(go_at_call 97;refine(hu _).mono ?_;rintro e w8⟨rfl,hG⟩;obtain rfl:=hG.symm)
  |(go_at_call 100;refine(hE _).mono ?_;rintro e w9⟨rfl,hA,hH⟩;have hB:=((YB.new hF x).below hA);clear hA hH c0 c1 c2 c3 c4 c5 c6 c7 c8 c9 hz)
  |(go_at_call 102;rw[Nf x.has true q V 0 (by decide),Nf x.has true q V 1 (by decide),Nf x.has true q V 2 (by decide),Nf x.has true q V 3 (by decide),Nf x.has true q V 4 (by decide),Nf x.has true q V 5 (by decide),Nf x.has true q V 6 (by decide),Nf x.has true q V 7 (by decide)];refine(hv _).mono ?_;rintro e hI⟨rfl,hd⟩;have L:(YB w (S A X.rows.length H) (S G X.gens.length D) i g w7.heap.size x hI):=(by rw[hd];exact(hB.below (GF _ _)).below (GF _ _));clear hd hB)
  |(refine FU R 3 (Am 52) (Am 50) R w7.heap.size 2 (I K hs) R R R KZ (Gx L.row.c2 L.fr) ?_;intro hM he;have J:=L.setHas hs;rw[←he]at J;clear he L)
  |(refine FU R 3 (Am 54) (Am 51) R w7.heap.size (3+q) (I K n) R R R KZ (by have:=Gx (J.row.v q V) J.fr;rwa[AT]at this) ?_;intro hN hg;have F:=J.setV q V n;rw[←hg]at F;obtain⟨p0,p1,p2,p3,p4,p5,p6,p7,p8,p9,hJ⟩:=Lg (by have:=F.row;rw[←AN HE]at this;exact this);have r0:=F.r0;have r1:=F.r1;have M:=F.toCW;clear hg F J)
  |(go_at_call 101;refine(hj _ (hX.below M.bel)).mono ?_;rintro e hO⟨A5,c5,rfl,hC,hh⟩;have hi:=(M.below hh);have hK:=(Jt hC M.sz);clear hC hh r0 r1 p0 p1 p2 p3 p4 p5 p6 p7 p8 p9 hJ M)
  |(refine As R 43 (Am 8) (Am 57) R (w.heap.size+2) 0 [S A5 rows'.length c5,S G X.gens.length D] R R (by simp[Ar]) F8 hi.there ?_;intro W3 hD;have Y:=hi.give (S A5 rows'.length c5) (S G X.gens.length D);have hn:=Gg (b:=w.heap.size+2) (by omega) [S A5 rows'.length c5,S G X.gens.length D] 0 _ hK;rw[←hD]at Y hn;clear hD))
 have t0:=Y.t0;have t1:=Y.t1;refine AG (by simp[results,Tryz.results63,go_sem,t0,t1]<;>rfl) R ⟨A5,c5,G,D,rfl,⟨⟨Js hn,(hX.below Y.bel).gens⟩,Hf hn (by omega),.inl R⟩,Y.bel⟩
theorem Yi(A:Option Addr)(J:Nat)(G:Option Addr)(D:Nat)(X:Wd)(i g:Int)(q:Nat)(Y:q<8)(w:World)(hX:FX w A J G D X)(ha:(FP X).1=0){k:Nat}(hk:k<X.rows.length)(hf:Ga X i g=(k:Int))(ht:Kz (E' X k).has (q:Int)=true):
  Calls Au 62 #[Up A J G D X,FJ i g,I K (q:Int)] w fun e w'=>∃A' c' G' hu,e=Ao (Ai #[Up A' c' G' hu ⟨X.rows.set k (K5 (E' X k) (q:Int)),X.gens⟩,I K 0])∧Hd w.heap.size w' G A' c' G' hu ⟨X.rows.set k (K5 (E' X k) (q:Int)),X.gens⟩∧Below w.heap.size w w':=by
 obtain⟨hl,hM,_⟩:=GD ha;have hr:=(F7 X).1 ha;have hv:=CW.start w (S A X.rows.length J) (S G X.gens.length D) i g;have hP:=fun W (hb:Below w.heap.size w W)=>Gh A X.rows.length J G X.gens.length D (fun j=>X.rows.getD j dR) (fun j=>X.gens.getD j 0) W (by omega) (hX.rows.below hb) (hX.gens.below hb);have eW:Hk (fun j=>X.rows.getD j dR) X.rows.length X.gens.length (fun j=>X.gens.getD j 0)=FP X:=rfl;rw[eW]at hP;unfold Gr FF at hP;rw[ha]at hP;have hR:=fun W (h:FX W A J G D X)=>KM hf hl A J G D W h;have hd:=Tr hr hk (K5 (E' X k) (q:Int)) R;have ho:=fun W (h:FX W A J G D X)=>NP A J G D X (K5 (E' X k) (q:Int)) W (by omega) h;rw[hd]at ho;obtain⟨hb,_⟩:=Hz (hr.rv k hk);unfold Up FF Hi at ho;generalize (FP X).2=wa at *;generalize E' X k=x at *;have hw:=fun W=>M6 x.has (q:Int) W hb.1 hb.2;rw[ht]at hw;generalize X.rows.set k (K5 x (q:Int))=rows' at *;have hG:=fun W=>Ou x.has W hb.1 hb.2;have he:ND [(if q=0 then false else tb x.has 0),(if q=1 then false else tb x.has 1),(if q=2 then false else tb x.has 2),(if q=3 then false else tb x.has 3),(if q=4 then false else tb x.has 4),(if q=5 then false else tb x.has 5),(if q=6 then false else tb x.has 6),(if q=7 then false else tb x.has 7)]=bits .andNot K x.has (Ge (q:Int)):=by
  obtain⟨m,hm⟩:=KY x.has hb.1 hb.2;have:=Uj m ⟨q,Y⟩;rw[hm,←this];congr 1;simp only[B6,Bx];refine⟨?_,?_,?_,?_,?_,?_,?_,?_⟩<;>(split <;>simp_all)
 have hx:=fun W=>TE (if q=0 then false else tb x.has 0) (if q=1 then false else tb x.has 1) (if q=2 then false else tb x.has 2) (if q=3 then false else tb x.has 3) (if q=4 then false else tb x.has 4) (if q=5 then false else tb x.has 5) (if q=6 then false else tb x.has 6) (if q=7 then false else tb x.has 7) W;rw[he]at hx;have ez:K5 x (q:Int)=⟨x.ix,x.gen,bits .andNot K x.has (Ge (q:Int)),fun j=>if j=q then 0 else x.v j⟩:=rfl;generalize K5 x (q:Int)=z at *;have HE:=An ez;clear ez he;generalize bits .andNot K x.has (Ge (q:Int))=hs at *;have q0:(0:Int)≤(q:Int):=by omega
 have q1:(q:Int)<8:=by omega
 have q2:¬ (7:Int)<(q:Int):=by omega
 have q3:¬ (q:Int)<0:=by omega
 clear hd hr hf hk ha ht hb eW;unfold Up FF FJ;go_enter Tryz.func62,Tryz.ntmps62
 go_wp2_with(first
  |(go_at_call 55;refine(hP _ hv.bel).mono ?_;rintro e w5⟨rfl,hy⟩;have hz:=hv.below hy;have V:=hz.below (Fv.alloc Fu (Al #[I K 0,I K wa] 29));have r0:=V.r0;have r1:=V.r1;have s0:=V.s0;have s1:=V.s1;clear hy hz)
  |(go_at_call 59;refine(hR _ (hX.below V.bel)).mono ?_;rintro e w7⟨b7,o7,rfl,F,hA⟩;have hB:=V.below hA;clear r0 r1 s0 s1;have c0:=F.c0;have c1:=F.c1;have c2:=F.c2;have c3:=F.v 0 (by omega);have c4:=F.v 1 (by omega);have c5:=F.v 2 (by omega);have c6:=F.v 3 (by omega);have c7:=F.v 4 (by omega);have c8:=F.v 5 (by omega);have c9:=F.v 6 (by omega);have hc:=F.v 7 (by omega);simp only[Bt,Nat.reduceAdd]at c3 c4 c5 c6 c7 c8 c9 hc;clear hA F)
  |(go_at_call 61;refine(hw _).mono ?_;rintro e w8⟨rfl,E⟩;replace c0:=AW E c0;replace c1:=AW E c1;replace c2:=AW E c2;replace c3:=AW E c3;replace c4:=AW E c4;replace c5:=AW E c5;replace c6:=AW E c6;replace c7:=AW E c7;replace c8:=AW E c8;replace c9:=AW E c9;replace hc:=AW E hc;have hH:=(hB.below E);clear E hB)
  |(go_at_call 100;refine(hG _).mono ?_;rintro e w9⟨rfl,hC,hI⟩;have hD:=((YB.new hH x).below hC);clear hC hI c0 c1 c2 c3 c4 c5 c6 c7 c8 c9 hc)
  |(go_at_call 102;rw[Nf x.has false q Y 0 (by decide),Nf x.has false q Y 1 (by decide),Nf x.has false q Y 2 (by decide),Nf x.has false q Y 3 (by decide),Nf x.has false q Y 4 (by decide),Nf x.has false q Y 5 (by decide),Nf x.has false q Y 6 (by decide),Nf x.has false q Y 7 (by decide)];refine(hx _).mono ?_;rintro e hJ⟨rfl,hg⟩;have M:(YB w (S A X.rows.length J) (S G X.gens.length D) i g w8.heap.size x hJ):=(by rw[hg];exact(hD.below (GF _ _)).below (GF _ _));clear hg hD)
  |(refine FU R 3 (Am 46) (Am 45) R w8.heap.size 2 (I K hs) R R R KZ (Gx M.row.c2 M.fr) ?_;intro hN hh;have L:=M.setHas hs;rw[←hh]at L;clear hh M)
  |(refine FU R 3 (Am 48) (.const (I K 0)) R w8.heap.size (3+q) (I K 0) R R R KZ (by have:=Gx (L.row.v q Y) L.fr;rwa[AT]at this) ?_;intro hO hi;have H:=L.setV q Y 0;rw[←hi]at H;obtain⟨p0,p1,p2,p3,p4,p5,p6,p7,p8,p9,hK⟩:=Lg (by have:=H.row;rw[←AN HE]at this;exact this);have r0:=H.r0;have r1:=H.r1;have U:=H.toCW;clear hi H L)
  |(go_at_call 101;refine(ho _ (hX.below U.bel)).mono ?_;rintro e hQ⟨A5,c5,rfl,hE,hj⟩;have hn:=(U.below hj);have hL:=(Jt hE U.sz);clear hE hj r0 r1 p0 p1 p2 p3 p4 p5 p6 p7 p8 p9 hK U)
  |(refine As R 43 (Am 6) (Am 51) R (w.heap.size+2) 0 [S A5 rows'.length c5,S G X.gens.length D] R R (by simp[Ar]) F8 hn.there ?_;intro W3 hF;have Z:=hn.give (S A5 rows'.length c5) (S G X.gens.length D);have hp:=Gg (b:=w.heap.size+2) (by omega) [S A5 rows'.length c5,S G X.gens.length D] 0 _ hL;rw[←hF]at Z hp;clear hF))
 have t0:=Z.t0;have t1:=Z.t1;refine AG (by simp[results,Tryz.results62,go_sem,t0,t1]<;>rfl) R ⟨A5,c5,G,D,rfl,⟨⟨Js hp,(hX.below Z.bel).gens⟩,Hf hp (by omega),.inl R⟩,Z.bel⟩
theorem YY(A:Option Addr)(E:Nat)(G:Option Addr)(D:Nat)(X:Wd)(i g p n:Int)(w:World)(hc:X.rows.length≤9223372036854775807)(hX:FX w A E G D X)(J:(FP X).1=0)(hf:Ga X i g=-1):
  Calls Au 63 #[Up A E G D X,FJ i g,I K p,I K n] w fun e w'=>∃A' c' G' L,e=Ao (Ai #[Up A' c' G' L FL,I K 5])∧Hd w.heap.size w' G A' c' G' L FL∧Below w.heap.size w w':=by
 have M:=CW.start w (S A X.rows.length E) (S G X.gens.length D) i g;have hP:=fun W (hb:Below w.heap.size w W)=>Gh A X.rows.length E G X.gens.length D (fun j=>X.rows.getD j dR) (fun j=>X.gens.getD j 0) W (by omega) (hX.rows.below hb) (hX.gens.below hb);have eW:Hk (fun j=>X.rows.getD j dR) X.rows.length X.gens.length (fun j=>X.gens.getD j 0)=FP X:=rfl;rw[eW]at hP;unfold Gr FF at hP;obtain⟨hl,hd,_⟩:=GD J;rw[J]at hP;have hR:=fun W (h:FX W A E G D X)=>Qa hf hl A E G D W h;generalize (FP X).2=wa at *;clear hf;clear eW J;unfold Up FF FJ FL;go_enter Tryz.func63,Tryz.ntmps63
 go_wp2_with(first
  |(go_at_call 55;refine(hP _ M.bel).mono ?_;rintro e w5⟨rfl,U⟩;have V:=M.below U;have F:=V.below (Fv.alloc Fu (Al #[I K 0,I K wa] 29));have r0:=F.r0;have r1:=F.r1;have s0:=F.s0;have s1:=F.s1;clear U V)
  |(go_at_call 59;refine(hR _ (hX.below F.bel)).mono ?_;rintro e w7⟨rfl,Y⟩;have Z:=(F.below Y);clear Y r0 r1 s0 s1)
  |(refine As R 43 (Am 8) (Am 27) R (w.heap.size+2) 0 [S N 0 0,S N 0 0] R R (by simp[Ar]) F8 Z.there ?_;intro W3 ha;have H:=Z.give (S N 0 0) (S N 0 0);rw[←ha]at H;clear ha))
 have t0:=H.t0;have t1:=H.t1;refine AG (by simp[results,Tryz.results63,go_sem,t0,t1]<;>rfl) R ⟨N,0,N,0,rfl,Gp _ _ _,H.bel⟩
theorem WN(A:Option Addr)(E:Nat)(G:Option Addr)(D:Nat)(X:Wd)(i g p:Int)(w:World)(hc:X.rows.length≤9223372036854775807)(hX:FX w A E G D X)(J:(FP X).1=0)(hf:Ga X i g=-1):
  Calls Au 62 #[Up A E G D X,FJ i g,I K p] w fun e w'=>∃A' c' G' L,e=Ao (Ai #[Up A' c' G' L FL,I K 5])∧Hd w.heap.size w' G A' c' G' L FL∧Below w.heap.size w w':=by
 have M:=CW.start w (S A X.rows.length E) (S G X.gens.length D) i g;have hP:=fun W (hb:Below w.heap.size w W)=>Gh A X.rows.length E G X.gens.length D (fun j=>X.rows.getD j dR) (fun j=>X.gens.getD j 0) W (by omega) (hX.rows.below hb) (hX.gens.below hb);have eW:Hk (fun j=>X.rows.getD j dR) X.rows.length X.gens.length (fun j=>X.gens.getD j 0)=FP X:=rfl;rw[eW]at hP;unfold Gr FF at hP;obtain⟨hl,hd,_⟩:=GD J;rw[J]at hP;have hR:=fun W (h:FX W A E G D X)=>Qa hf hl A E G D W h;generalize (FP X).2=wa at *;clear hf;clear eW J;unfold Up FF FJ FL;go_enter Tryz.func62,Tryz.ntmps62
 go_wp2_with(first
  |(go_at_call 55;refine(hP _ M.bel).mono ?_;rintro e w5⟨rfl,U⟩;have V:=M.below U;have F:=V.below (Fv.alloc Fu (Al #[I K 0,I K wa] 29));have r0:=F.r0;have r1:=F.r1;have s0:=F.s0;have s1:=F.s1;clear U V)
  |(go_at_call 59;refine(hR _ (hX.below F.bel)).mono ?_;rintro e w7⟨rfl,Y⟩;have Z:=(F.below Y);clear Y r0 r1 s0 s1)
  |(refine As R 43 (Am 6) (Am 34) R (w.heap.size+2) 0 [S N 0 0,S N 0 0] R R (by simp[Ar]) F8 Z.there ?_;intro W3 ha;have H:=Z.give (S N 0 0) (S N 0 0);rw[←ha]at H;clear ha))
 have t0:=H.t0;have t1:=H.t1;refine AG (by simp[results,Tryz.results62,go_sem,t0,t1]<;>rfl) R ⟨N,0,N,0,rfl,Gp _ _ _,H.bel⟩
theorem fk(A:Option Addr)(E:Nat)(G:Option Addr)(D:Nat)(X:Wd)(i g p n:Int)(w:World)(hd:X.rows.length≤9223372036854775807)(hX:FX w A E G D X)(J:(FP X).1=0){k:Nat}(hf:Ga X i g=(k:Int))(hp:p<0):
  Calls Au 63 #[Up A E G D X,FJ i g,I K p,I K n] w fun e w'=>∃A' c' G' L,e=Ao (Ai #[Up A' c' G' L FL,I K 3])∧Hd w.heap.size w' G A' c' G' L FL∧Below w.heap.size w w':=by
 have M:=CW.start w (S A X.rows.length E) (S G X.gens.length D) i g;have hP:=fun W (hb:Below w.heap.size w W)=>Gh A X.rows.length E G X.gens.length D (fun j=>X.rows.getD j dR) (fun j=>X.gens.getD j 0) W (by omega) (hX.rows.below hb) (hX.gens.below hb);have eW:Hk (fun j=>X.rows.getD j dR) X.rows.length X.gens.length (fun j=>X.gens.getD j 0)=FP X:=rfl;rw[eW]at hP;unfold Gr FF at hP;obtain⟨hl,he,_⟩:=GD J;rw[J]at hP;have hR:=fun W (h:FX W A E G D X)=>KM hf hl A E G D W h;generalize (FP X).2=wa at *;clear hf;clear eW J;unfold Up FF FJ FL;go_enter Tryz.func63,Tryz.ntmps63
 go_wp2_with(first
  |(go_at_call 55;refine(hP _ M.bel).mono ?_;rintro e w5⟨rfl,U⟩;have V:=M.below U;have F:=V.below (Fv.alloc Fu (Al #[I K 0,I K wa] 29));have r0:=F.r0;have r1:=F.r1;have s0:=F.s0;have s1:=F.s1;clear U V)
  |(go_at_call 59;refine(hR _ (hX.below F.bel)).mono ?_;rintro e w7⟨b7,o7,rfl,Y,Z⟩;have c2:=Y.c2;have ha:=(F.below Z);clear Z Y r0 r1 s0 s1)
  |(refine As R 43 (Am 8) (Am 39) R (w.heap.size+2) 0 [S N 0 0,S N 0 0] R R (by simp[Ar]) F8 ha.there ?_;intro W3 hc;have H:=ha.give (S N 0 0) (S N 0 0);rw[←hc]at H;clear hc))
 have t0:=H.t0;have t1:=H.t1;refine AG (by simp[results,Tryz.results63,go_sem,t0,t1]<;>rfl) R ⟨N,0,N,0,rfl,Gp _ _ _,H.bel⟩
theorem fp(A:Option Addr)(E:Nat)(G:Option Addr)(D:Nat)(X:Wd)(i g p n:Int)(w:World)(hd:X.rows.length≤9223372036854775807)(hX:FX w A E G D X)(J:(FP X).1=0){k:Nat}(hf:Ga X i g=(k:Int))(he:¬ p<0)(hp:7<p):
  Calls Au 63 #[Up A E G D X,FJ i g,I K p,I K n] w fun e w'=>∃A' c' G' L,e=Ao (Ai #[Up A' c' G' L FL,I K 3])∧Hd w.heap.size w' G A' c' G' L FL∧Below w.heap.size w w':=by
 have M:=CW.start w (S A X.rows.length E) (S G X.gens.length D) i g;have hP:=fun W (hb:Below w.heap.size w W)=>Gh A X.rows.length E G X.gens.length D (fun j=>X.rows.getD j dR) (fun j=>X.gens.getD j 0) W (by omega) (hX.rows.below hb) (hX.gens.below hb);have eW:Hk (fun j=>X.rows.getD j dR) X.rows.length X.gens.length (fun j=>X.gens.getD j 0)=FP X:=rfl;rw[eW]at hP;unfold Gr FF at hP;obtain⟨hl,hg,_⟩:=GD J;rw[J]at hP;have hR:=fun W (h:FX W A E G D X)=>KM hf hl A E G D W h;generalize (FP X).2=wa at *;clear hf;clear eW J;unfold Up FF FJ FL;go_enter Tryz.func63,Tryz.ntmps63
 go_wp2_with(first
  |(go_at_call 55;refine(hP _ M.bel).mono ?_;rintro e w5⟨rfl,U⟩;have V:=M.below U;have F:=V.below (Fv.alloc Fu (Al #[I K 0,I K wa] 29));have r0:=F.r0;have r1:=F.r1;have s0:=F.s0;have s1:=F.s1;clear U V)
  |(go_at_call 59;refine(hR _ (hX.below F.bel)).mono ?_;rintro e w7⟨b7,o7,rfl,Y,Z⟩;have c2:=Y.c2;have ha:=(F.below Z);clear Z Y r0 r1 s0 s1)
  |(refine As R 43 (Am 8) (Am 39) R (w.heap.size+2) 0 [S N 0 0,S N 0 0] R R (by simp[Ar]) F8 ha.there ?_;intro W3 hc;have H:=ha.give (S N 0 0) (S N 0 0);rw[←hc]at H;clear hc))
 have t0:=H.t0;have t1:=H.t1;refine AG (by simp[results,Tryz.results63,go_sem,t0,t1]<;>rfl) R ⟨N,0,N,0,rfl,Gp _ _ _,H.bel⟩
theorem aZ(A:Option Addr)(E:Nat)(G:Option Addr)(D:Nat)(X:Wd)(i g p n:Int)(w:World)(hg:X.rows.length≤9223372036854775807)(hX:FX w A E G D X)(J:(FP X).1=0){k:Nat}(hf:Ga X i g=(k:Int))(hh:¬ p<0)(hp:¬ 7<p)(hv:Hx n=false):
  Calls Au 63 #[Up A E G D X,FJ i g,I K p,I K n] w fun e w'=>∃A' c' G' L,e=Ao (Ai #[Up A' c' G' L FL,I K 3])∧Hd w.heap.size w' G A' c' G' L FL∧Below w.heap.size w w':=by
 have M:=CW.start w (S A X.rows.length E) (S G X.gens.length D) i g;have hP:=fun W (hb:Below w.heap.size w W)=>Gh A X.rows.length E G X.gens.length D (fun j=>X.rows.getD j dR) (fun j=>X.gens.getD j 0) W (by omega) (hX.rows.below hb) (hX.gens.below hb);have eW:Hk (fun j=>X.rows.getD j dR) X.rows.length X.gens.length (fun j=>X.gens.getD j 0)=FP X:=rfl;rw[eW]at hP;unfold Gr FF at hP;obtain⟨hl,hi,_⟩:=GD J;rw[J]at hP;have hR:=fun W (h:FX W A E G D X)=>KM hf hl A E G D W h;have U:=Gm n;rw[hv]at U;generalize (FP X).2=wa at *;clear hv;clear hf;clear eW J;unfold Up FF FJ FL;go_enter Tryz.func63,Tryz.ntmps63
 go_wp2_with(first
  |(go_at_call 55;refine(hP _ M.bel).mono ?_;rintro e w5⟨rfl,V⟩;have Y:=M.below V;have F:=Y.below (Fv.alloc Fu (Al #[I K 0,I K wa] 29));have r0:=F.r0;have r1:=F.r1;have s0:=F.s0;have s1:=F.s1;clear V Y)
  |(go_at_call 59;refine(hR _ (hX.below F.bel)).mono ?_;rintro e w7⟨b7,o7,rfl,Z,ha⟩;have c2:=Z.c2;have hc:=(F.below ha);clear ha Z r0 r1 s0 s1)
  |(go_at_call 97;refine(U _).mono ?_;rintro e w8⟨rfl,he⟩;obtain rfl:=he.symm)
  |(refine As R 43 (Am 8) (Am 39) R (w.heap.size+2) 0 [S N 0 0,S N 0 0] R R (by simp[Ar]) F8 hc.there ?_;intro W3 hd;have H:=hc.give (S N 0 0) (S N 0 0);rw[←hd]at H;clear hd))
 have t0:=H.t0;have t1:=H.t1;refine AG (by simp[results,Tryz.results63,go_sem,t0,t1]<;>rfl) R ⟨N,0,N,0,rfl,Gp _ _ _,H.bel⟩
theorem au(A:Option Addr)(E:Nat)(G:Option Addr)(D:Nat)(X:Wd)(i g p:Int)(w:World)(hj:X.rows.length≤9223372036854775807)(hX:FX w A E G D X)(H:(FP X).1=0){k:Nat}(hk:k<X.rows.length)(hf:Ga X i g=(k:Int))(hh:Kz (E' X k).has p=false):
  Calls Au 62 #[Up A E G D X,FJ i g,I K p] w fun e w'=>∃A' c' G' M,e=Ao (Ai #[Up A' c' G' M FL,I K 5])∧Hd w.heap.size w' G A' c' G' M FL∧Below w.heap.size w w':=by
 have U:=CW.start w (S A X.rows.length E) (S G X.gens.length D) i g;have hP:=fun W (L:Below w.heap.size w W)=>Gh A X.rows.length E G X.gens.length D (fun j=>X.rows.getD j dR) (fun j=>X.gens.getD j 0) W (by omega) (hX.rows.below L) (hX.gens.below L);have eW:Hk (fun j=>X.rows.getD j dR) X.rows.length X.gens.length (fun j=>X.gens.getD j 0)=FP X:=rfl;rw[eW]at hP;unfold Gr FF at hP;obtain⟨hl,hm,_⟩:=GD H;rw[H]at hP;have hR:=fun W (h:FX W A E G D X)=>KM hf hl A E G D W h;obtain⟨L,_⟩:=Hz (((F7 X).1 H).rv k hk);have V:=fun W=>M6 (E' X k).has p W L.1 L.2;rw[hh]at V;generalize E' X k=x at *;generalize (FP X).2=wa at *;clear hh L hk;clear hf;clear eW H;unfold Up FF FJ FL;go_enter Tryz.func62,Tryz.ntmps62
 go_wp2_with(first
  |(go_at_call 55;refine(hP _ U.bel).mono ?_;rintro e w5⟨rfl,Y⟩;have Z:=U.below Y;have F:=Z.below (Fv.alloc Fu (Al #[I K 0,I K wa] 29));have r0:=F.r0;have r1:=F.r1;have s0:=F.s0;have s1:=F.s1;clear Y Z)
  |(go_at_call 59;refine(hR _ (hX.below F.bel)).mono ?_;rintro e w7⟨b7,o7,rfl,ha,hc⟩;have c2:=ha.c2;have hi:=(F.below hc);clear hc ha r0 r1 s0 s1)
  |(go_at_call 61;refine(V _).mono ?_;rintro e w8⟨rfl,hd⟩;have he:=(hi.below hd);clear hd)
  |(refine As R 43 (Am 6) (Am 34) R (w.heap.size+2) 0 [S N 0 0,S N 0 0] R R (by simp[Ar]) F8 he.there ?_;intro W3 hg;have J:=he.give (S N 0 0) (S N 0 0);rw[←hg]at J;clear hg))
 have t0:=J.t0;have t1:=J.t1;refine AG (by simp[results,Tryz.results62,go_sem,t0,t1]<;>rfl) R ⟨N,0,N,0,rfl,Gp _ _ _,J.bel⟩
theorem WI(A:Option Addr)(E:Nat)(G:Option Addr)(D:Nat)(X:Wd)(i g p n:Int)(w:World)(ha:X.rows.length≤9223372036854775807)(U:FX w A E G D X)(hc:(FP X).1≠0):
  Calls Au 63 #[Up A E G D X,FJ i g,I K p,I K n] w fun e V=>∃Y Z G' F,e=Ao (Ai #[Up Y Z G' F FL,I K (FP X).1])∧Hd w.heap.size V G Y Z G' F FL∧Below w.heap.size w V:=by
 have H:=CW.start w (S A X.rows.length E) (S G X.gens.length D) i g;have M:=fun W (hb:Below w.heap.size w W)=>Gh A X.rows.length E G X.gens.length D (fun j=>X.rows.getD j dR) (fun j=>X.gens.getD j 0) W (by omega) (U.rows.below hb) (U.gens.below hb);have eW:Hk (fun j=>X.rows.getD j dR) X.rows.length X.gens.length (fun j=>X.gens.getD j 0)=FP X:=rfl;rw[eW]at M;unfold Gr FF at M;generalize (FP X).2=wa at *;generalize (FP X).1=we at *;clear eW;unfold Up FF FJ FL;go_enter Tryz.func63,Tryz.ntmps63
 go_wp2_with(first
  |(go_at_call 55;refine(M _ H.bel).mono ?_;rintro e J⟨rfl,L⟩;have h:=H.below L;have hz:w.heap.size+1+1<J.heap.size:=h.sz;have t0:J.cell? ⟨w.heap.size+1+1,0,N⟩=O (S N 0 0):=h.t0;have t1:J.cell? ⟨w.heap.size+1+1,1,N⟩=O (S N 0 0):=h.t1;have f0:J.frozen? ⟨w.heap.size+1+1,0,N⟩=false:=h.f 0;have f1:J.frozen? ⟨w.heap.size+1+1,1,N⟩=false:=h.f 1;clear L))
 go_region
 all_goals(try go_wp2)
 all_goals
  refine AG (by simp[results,Tryz.results63,go_sem,t0,t1,hz]<;>rfl) R ⟨N,0,N,0,rfl,Gp _ _ _,?_⟩
  exact Gt (((h.bel.setCell (p:=⟨w.heap.size+1+1,0,N⟩) (by simp;omega) _).setCell (p:=⟨w.heap.size+1+1,1,N⟩) (by simp;omega) _).alloc (by simpa using h.bel.size) _) 1
theorem UT(A:Option Addr)(E:Nat)(G:Option Addr)(D:Nat)(X:Wd)(i g p:Int)(w:World)(ha:X.rows.length≤9223372036854775807)(U:FX w A E G D X)(hc:(FP X).1≠0):
  Calls Au 62 #[Up A E G D X,FJ i g,I K p] w fun e V=>∃Y Z G' F,e=Ao (Ai #[Up Y Z G' F FL,I K (FP X).1])∧Hd w.heap.size V G Y Z G' F FL∧Below w.heap.size w V:=by
 have H:=CW.start w (S A X.rows.length E) (S G X.gens.length D) i g;have M:=fun W (hb:Below w.heap.size w W)=>Gh A X.rows.length E G X.gens.length D (fun j=>X.rows.getD j dR) (fun j=>X.gens.getD j 0) W (by omega) (U.rows.below hb) (U.gens.below hb);have eW:Hk (fun j=>X.rows.getD j dR) X.rows.length X.gens.length (fun j=>X.gens.getD j 0)=FP X:=rfl;rw[eW]at M;unfold Gr FF at M;generalize (FP X).2=wa at *;generalize (FP X).1=we at *;clear eW;unfold Up FF FJ FL;go_enter Tryz.func62,Tryz.ntmps62
 go_wp2_with(first
  |(go_at_call 55;refine(M _ H.bel).mono ?_;rintro e J⟨rfl,L⟩;have h:=H.below L;have hz:w.heap.size+1+1<J.heap.size:=h.sz;have t0:J.cell? ⟨w.heap.size+1+1,0,N⟩=O (S N 0 0):=h.t0;have t1:J.cell? ⟨w.heap.size+1+1,1,N⟩=O (S N 0 0):=h.t1;have f0:J.frozen? ⟨w.heap.size+1+1,0,N⟩=false:=h.f 0;have f1:J.frozen? ⟨w.heap.size+1+1,1,N⟩=false:=h.f 1;clear L))
 go_region
 all_goals(try go_wp2)
 all_goals
  refine AG (by simp[results,Tryz.results62,go_sem,t0,t1,hz]<;>rfl) R ⟨N,0,N,0,rfl,Gp _ _ _,?_⟩
  exact Gt (((h.bel.setCell (p:=⟨w.heap.size+1+1,0,N⟩) (by simp;omega) _).setCell (p:=⟨w.heap.size+1+1,1,N⟩) (by simp;omega) _).alloc (by simpa using h.bel.size) _) 1
theorem UM(A:Option Addr)(F:Nat)(G:Option Addr)(D:Nat)(X:Wd)(i g p n:Int)(w:World)(H:X.rows.length≤9223372036854775807)(L:FX w A F G D X):
  Calls Au 63 #[Up A F G D X,FJ i g,I K p,I K n] w fun e Y=>∃Z c' G' M,e=Ao (Ai #[Up Z c' G' M (Hc X i g p n).2,I K (Hc X i g p n).1])∧Hd w.heap.size Y G Z c' G' M (Hc X i g p n).2∧Below w.heap.size w Y:=by
 by_cases E:(FP X).1=0
 ·rcases If X i g with J|⟨k,hk,J,h1,h2⟩
  ·have e:Hc X i g p n=(5,FL):=(by unfold Hc OH;rw[AA (by simpa using E),J,AF (by decide)]);rw[e];exact YY A F G D X i g p n w H L E J
  ·have e0:Hc X i g p n=if(LF (E' X k) p n).2.2≠0 then((LF (E' X k) p n).2.2,FL)else(0,⟨X.rows.set k (LF (E' X k) p n).1,X.gens⟩):=by
    unfold Hc OH;rw[AA (by simpa using E),J,AA (by omega),Bi];rfl
   have no:(F5 p && Hx n)=false→Hc X i g p n=(3,FL):=fun h=>(by rw[e0];simp[LF,h]);by_cases V:p<0
   ·rw[no (by simp[F5];omega)];exact fk A F G D X i g p n w H L E J V
   ·by_cases p7:7<p
    ·rw[no (by simp[F5];omega)];exact fp A F G D X i g p n w H L E J V p7
    ·cases U:Hx n
     ·rw[no (by simp[U])];exact aZ A F G D X i g p n w H L E J V p7 U
     ·obtain⟨q,rfl⟩:=BD (show 0≤p by omega);have hp:F5 (q:Int)=true:=(by simp[F5];omega);rw[e0];simp only[LF,hp,U,E2,BX,ne_eq,D0,BG];exact aY A F G D X i g n q (by omega) w L E hk J U
 ·have e:Hc X i g p n=((FP X).1,FL):=by unfold Hc OH;rw[AF E]
  rw[e];exact WI A F G D X i g p n w H L E
theorem PI(h p:Int)(h0:0≤h)(H:h≤255):IR h p=Kz h p:=by
 by_cases E:0≤p∧p<8
 ·obtain⟨m,rfl⟩:=BD h0;obtain⟨q,rfl⟩:=BD E.1;have D:∀m:Fin 256,∀q:Fin 8,IR (m.val:Int) (q.val:Int)=Kz (m.val:Int) (q.val:Int):=by decide +kernel
  exact D ⟨m,by omega⟩ ⟨q,by omega⟩
 ·have F:Kz h p=false:=by unfold Kz;simp;omega
  rw[F]
  cases e:IR h p
  ·rfl
  ·obtain⟨k,J,rfl⟩:=Lw h p e;omega
theorem SS(A:Option Addr)(E:Nat)(G:Option Addr)(h:Nat)(X:Wd)(i g p:Int)(w:World)(F:X.rows.length≤9223372036854775807)(M:FX w A E G h X):
  Calls Au 62 #[Up A E G h X,FJ i g,I K p] w fun e Y=>∃Z c' G' J,e=Ao (Ai #[Up Z c' G' J (GK X i g p).2,I K (GK X i g p).1])∧Hd w.heap.size Y G Z c' G' J (GK X i g p).2∧Below w.heap.size w Y:=by
 by_cases D:(FP X).1=0
 ·rcases If X i g with H|⟨k,V,H,h1,h2⟩
  ·have e:GK X i g p=(5,FL):=(by unfold GK OH;rw[AA (by simpa using D),H,AF (by decide)]);rw[e];exact WN A E G h X i g p w F M D H
  ·have e0:GK X i g p=if(Jz (E' X k) p).2.2≠0 then((Jz (E' X k) p).2.2,FL)else(0,⟨X.rows.set k (Jz (E' X k) p).1,X.gens⟩):=by
    unfold GK OH;rw[AA (by simpa using D),H,AA (by omega),Bi];rfl
   obtain⟨hb,_⟩:=Hz (((F7 X).1 D).rv k V);have U:=PI (E' X k).has p hb.1 hb.2
   cases L:IR (E' X k).has p
   ·rw[L]at U;have e:GK X i g p=(5,FL):=(by rw[e0];simp[Jz,L]);rw[e];exact au A E G h X i g p w F M D V H U.symm
   ·rw[L]at U;obtain⟨q,hq,rfl⟩:=Lw _ _ L;rw[e0];simp only[Jz,L,BX,ne_eq,D0,BG];exact Yi A E G h X i g q hq w M D V H U.symm
 ·have e:GK X i g p=((FP X).1,FL):=by unfold GK OH;rw[AF D]
  rw[e];exact UT A E G h X i g p w F M D
end Go.Proofs.YtnbleebilmghcabGreat
