/- SFour, SMat, RnOpen, PTells0 -/
import Derived.Test.YtnbleebilmghcabGreatUAC
import Derived.Test.YtnbleebilmghcabGreatUAQ
import Derived.Test.YtnbleebilmghcabGreatUAT
import Derived.Test.YtnbleebilmghcabGreatUAU
import Derived.Test.YtnbleebilmghcabGreatUBA
import Derived.Test.YtnbleebilmghcabGreatUAO
set_option linter.all false
set_option maxRecDepth 8000
set_option maxHeartbeats 4000000
open Go.Value renaming int→I,slice→S,pointer→Ae,agg→Af,tuple→Ai,oneCell'→Ar
open Go.IntKind renaming i64→K
open Option renaming none→N,some→O
open Go.Obj renaming cells→Al
open Go.Operand renaming tmp→Am
open Go.Ending renaming returned→Ao
open Array renaming getD_eq_getD_getElem?→Ap
open Go.Act renaming eval→Aq
open Go.Proofs.Tryz renaming prog→Au
namespace Go.Proofs.YtnbleebilmghcabGreat
open Go Go.RowKit Go.ChangeShapes Go.WideShapes Go.ChangeAt Go.Deep Go.Joins
attribute [local go_sem ↓] Go.wp_at_zero Go.wp_at_succ
theorem YR(T:Option Addr)(E:Nat)(G:Option Addr)(F:Nat)(D:List Gu)(X:Wd)(i g:Int)(w:World)(h:Ir w T G D X):
  Calls Au 74 #[JN T D.length E G X.gens.length F,FJ i g] w fun e w'=>∃T' hj G' hk,e=Ao (Ai #[JN T' (FG (GS X i g).2).length hj G' (GS X i g).2.gens.length hk,I K (GS X i g).1])∧IN w.heap.size w' T' G' (FG (GS X i g).2) (GS X i g).2∧Below w.heap.size w w':=by
 have hl:=(GD ((F7 X).2 h.right)).1;have H:=GJ.start w [([S T D.length E,S G X.gens.length F],25),([I K i,I K g],61),([S N 0 0,S N 0 0],25)];have hb:=F6 [([S T D.length E,S G X.gens.length F],25),([I K i,I K g],61),([S N 0 0,S N 0 0],25)] w;have hs:=Hh [([S T D.length E,S G X.gens.length F],25),([I K i,I K g],61),([S N 0 0,S N 0 0],25)] w;obtain⟨W,hW⟩:∃W,W=GQ w [([S T D.length E,S G X.gens.length F],25),([I K i,I K g],61),([S N 0 0,S N 0 0],25)]:=⟨_,rfl⟩;rw[←hW]at H hb hs;have U:=LN 110 [Ae (O ⟨w.heap.size+1,0,N⟩)] T E G F D X (GS X i g).2 (GS X i g).1 0 [] W (h.below hb) (by rw[hs];simp) (fun e=>(MU e).1) Xl (Te X (w.heap.size+1) g i W hl (H.cell 1 R 0 R) (H.cell 1 R 1 R)) ZQ;obtain⟨Y,hY⟩:∃Y,Y=(GS X i g).2:=⟨_,rfl⟩;obtain⟨ha,V⟩:∃ha,ha=(GS X i g).1:=⟨_,rfl⟩;rw[←hY,←V]at U⊢;have hc:((w.alloc (Al #[S T D.length E,S G X.gens.length F] 25)).alloc (Al #[I K i,I K g] 61)).alloc (Al #[S N 0 0,S N 0 0] 25)=W:=hW.symm;have HW:=An hc;have Z:=An hb;have HS:=An hs;unfold JN at U;clear hW hc hb hs h hY V hl;unfold JN FJ;go_enter Tryz.func74,Tryz.ntmps74
 go_wp2_with fail
 go_at_call 109;rw[AN HW];refine U.mono ?_;rintro e w4⟨T4,J,G4,L,rfl,hd,M⟩;have M:Below W.heap.size W w4:=M;have he:=(H.below M);have hm:=((AN Z).trans (M.mono (AN Z).size));have hn:=(hd.le (base':=w.heap.size+3) (by rw[AN HS];simp));clear hd M HW H Z U HS;go_wp2_with((refine As R 25 (Am 4) (Am 9) R (w.heap.size+2) 0 [S T4 (FG Y).length J,S G4 Y.gens.length L] R R (by simp[Ar]) Kq (he.there 2 R 2 R) ?_;intro W8 hf;have hg:=he.give 2 R [S T4 (FG Y).length J,S G4 Y.gens.length L] R;have hh:=hn.putc (b:=w.heap.size+2) (o:=0) (vs:=[S T4 (FG Y).length J,S G4 Y.gens.length L]) (by omega);have hi:=Bv (w.heap.size+2) (by omega) [S T4 (FG Y).length J,S G4 Y.gens.length L] 0 w4 hm;rw[←hf]at hg hh hi;clear hf))
 obtain⟨t0,t1⟩:=hg.f2 2 R;refine AG (by simp[results,Tryz.results74,go_sem,t0,t1]<;>rfl) R ⟨T4,J,G4,L,rfl,hh.le (by omega),hi⟩
theorem aK(T:Option Addr)(E:Nat)(G:Option Addr)(F:Nat)(D:List Gu)(X:Wd)(i g p n:Int)(w:World)(h:Ir w T G D X):
  Calls Au 75 #[JN T D.length E G X.gens.length F,FJ i g,I K p,I K n] w fun e w'=>∃T' hj G' hk,e=Ao (Ai #[JN T' (FG (Hc X i g p n).2).length hj G' (Hc X i g p n).2.gens.length hk,I K (Hc X i g p n).1])∧IN w.heap.size w' T' G' (FG (Hc X i g p n).2) (Hc X i g p n).2∧Below w.heap.size w w':=by
 have hl:=(GD ((F7 X).2 h.right)).1;have H:=GJ.start w [([S T D.length E,S G X.gens.length F],25),([I K i,I K g],61),([I K p],3),([I K n],3),([S N 0 0,S N 0 0],25)];have hb:=F6 [([S T D.length E,S G X.gens.length F],25),([I K i,I K g],61),([I K p],3),([I K n],3),([S N 0 0,S N 0 0],25)] w;have hs:=Hh [([S T D.length E,S G X.gens.length F],25),([I K i,I K g],61),([I K p],3),([I K n],3),([S N 0 0,S N 0 0],25)] w;obtain⟨W,hW⟩:∃W,W=GQ w [([S T D.length E,S G X.gens.length F],25),([I K i,I K g],61),([I K p],3),([I K n],3),([S N 0 0,S N 0 0],25)]:=⟨_,rfl⟩;rw[←hW]at H hb hs;have U:=LN 112 [Ae (O ⟨w.heap.size+1,0,N⟩),Ae (O ⟨w.heap.size+2,0,N⟩),Ae (O ⟨w.heap.size+3,0,N⟩)] T E G F D X (Hc X i g p n).2 (Hc X i g p n).1 0 [] W (h.below hb) (by rw[hs];simp) (fun e=>(NV e).1) Xx (VP X (w.heap.size+1) (w.heap.size+2) (w.heap.size+3) g i n p W hl (H.cell 1 R 0 R) (H.cell 1 R 1 R) (H.cell 2 R 0 R) (H.cell 3 R 0 R)) eO;obtain⟨Y,hY⟩:∃Y,Y=(Hc X i g p n).2:=⟨_,rfl⟩;obtain⟨ha,V⟩:∃ha,ha=(Hc X i g p n).1:=⟨_,rfl⟩;rw[←hY,←V]at U⊢;have hc:((((w.alloc (Al #[S T D.length E,S G X.gens.length F] 25)).alloc (Al #[I K i,I K g] 61)).alloc (Al #[I K p] 3)).alloc (Al #[I K n] 3)).alloc (Al #[S N 0 0,S N 0 0] 25)=W:=hW.symm;have HW:=An hc;have Z:=An hb;have HS:=An hs;unfold JN at U;clear hW hc hb hs h hY V hl;unfold JN FJ;go_enter Tryz.func75,Tryz.ntmps75
 go_wp2_with fail
 go_at_call 109;rw[AN HW];refine U.mono ?_;rintro e w4⟨T4,J,G4,L,rfl,hd,M⟩;have M:Below W.heap.size W w4:=M;have he:=(H.below M);have hm:=((AN Z).trans (M.mono (AN Z).size));have hn:=(hd.le (base':=w.heap.size+5) (by rw[AN HS];simp));clear hd M HW H Z U HS;go_wp2_with((refine As R 25 (Am 8) (Am 13) R (w.heap.size+4) 0 [S T4 (FG Y).length J,S G4 Y.gens.length L] R R (by simp[Ar]) Kq (he.there 4 R 2 R) ?_;intro W8 hf;have hg:=he.give 4 R [S T4 (FG Y).length J,S G4 Y.gens.length L] R;have hh:=hn.putc (b:=w.heap.size+4) (o:=0) (vs:=[S T4 (FG Y).length J,S G4 Y.gens.length L]) (by omega);have hi:=Bv (w.heap.size+4) (by omega) [S T4 (FG Y).length J,S G4 Y.gens.length L] 0 w4 hm;rw[←hf]at hg hh hi;clear hf))
 obtain⟨t0,t1⟩:=hg.f2 4 R;refine AG (by simp[results,Tryz.results75,go_sem,t0,t1]<;>rfl) R ⟨T4,J,G4,L,rfl,hh.le (by omega),hi⟩
theorem YU(T:Option Addr)(E:Nat)(G:Option Addr)(F:Nat)(D:List Gu)(X:Wd)(i g p:Int)(w:World)(h:Ir w T G D X):
  Calls Au 76 #[JN T D.length E G X.gens.length F,FJ i g,I K p] w fun e w'=>∃T' hj G' hk,e=Ao (Ai #[JN T' (FG (GK X i g p).2).length hj G' (GK X i g p).2.gens.length hk,I K (GK X i g p).1])∧IN w.heap.size w' T' G' (FG (GK X i g p).2) (GK X i g p).2∧Below w.heap.size w w':=by
 have hl:=(GD ((F7 X).2 h.right)).1;have H:=GJ.start w [([S T D.length E,S G X.gens.length F],25),([I K i,I K g],61),([I K p],3),([S N 0 0,S N 0 0],25)];have hb:=F6 [([S T D.length E,S G X.gens.length F],25),([I K i,I K g],61),([I K p],3),([S N 0 0,S N 0 0],25)] w;have hs:=Hh [([S T D.length E,S G X.gens.length F],25),([I K i,I K g],61),([I K p],3),([S N 0 0,S N 0 0],25)] w;obtain⟨W,hW⟩:∃W,W=GQ w [([S T D.length E,S G X.gens.length F],25),([I K i,I K g],61),([I K p],3),([S N 0 0,S N 0 0],25)]:=⟨_,rfl⟩;rw[←hW]at H hb hs;have U:=LN 114 [Ae (O ⟨w.heap.size+1,0,N⟩),Ae (O ⟨w.heap.size+2,0,N⟩)] T E G F D X (GK X i g p).2 (GK X i g p).1 0 [] W (h.below hb) (by rw[hs];simp) (fun e=>(MY e).1) Xx (Tf X (w.heap.size+1) (w.heap.size+2) g i p W hl (H.cell 1 R 0 R) (H.cell 1 R 1 R) (H.cell 2 R 0 R)) ZP;obtain⟨Y,hY⟩:∃Y,Y=(GK X i g p).2:=⟨_,rfl⟩;obtain⟨ha,V⟩:∃ha,ha=(GK X i g p).1:=⟨_,rfl⟩;rw[←hY,←V]at U⊢;have hc:(((w.alloc (Al #[S T D.length E,S G X.gens.length F] 25)).alloc (Al #[I K i,I K g] 61)).alloc (Al #[I K p] 3)).alloc (Al #[S N 0 0,S N 0 0] 25)=W:=hW.symm;have HW:=An hc;have Z:=An hb;have HS:=An hs;unfold JN at U;clear hW hc hb hs h hY V hl;unfold JN FJ;go_enter Tryz.func76,Tryz.ntmps76
 go_wp2_with fail
 go_at_call 109;rw[AN HW];refine U.mono ?_;rintro e w4⟨T4,J,G4,L,rfl,hd,M⟩;have M:Below W.heap.size W w4:=M;have he:=(H.below M);have hm:=((AN Z).trans (M.mono (AN Z).size));have hn:=(hd.le (base':=w.heap.size+4) (by rw[AN HS];simp));clear hd M HW H Z U HS;go_wp2_with((refine As R 25 (Am 6) (Am 11) R (w.heap.size+3) 0 [S T4 (FG Y).length J,S G4 Y.gens.length L] R R (by simp[Ar]) Kq (he.there 3 R 2 R) ?_;intro W8 hf;have hg:=he.give 3 R [S T4 (FG Y).length J,S G4 Y.gens.length L] R;have hh:=hn.putc (b:=w.heap.size+3) (o:=0) (vs:=[S T4 (FG Y).length J,S G4 Y.gens.length L]) (by omega);have hi:=Bv (w.heap.size+3) (by omega) [S T4 (FG Y).length J,S G4 Y.gens.length L] 0 w4 hm;rw[←hf]at hg hh hi;clear hf))
 obtain⟨t0,t1⟩:=hg.f2 3 R;refine AG (by simp[results,Tryz.results76,go_sem,t0,t1]<;>rfl) R ⟨T4,J,G4,L,rfl,hh.le (by omega),hi⟩
theorem V0(T:Option Addr)(H:Nat)(G:Option Addr)(J:Nat)(E:List Gu)(X:Wd)(D n:Int)(w:World)(h:Ir w T G E X):
  Calls Au 108 #[JN T E.length H G X.gens.length J,I K D,I K n] w fun e w'=>∃T' hv G' hw,e=Ao (Ai #[JN T' (FG (FQ X D n).2.2).length hv G' (FQ X D n).2.2.gens.length hw,FJ (FQ X D n).2.1.1 (FQ X D n).2.1.2,I K (FQ X D n).1])∧IN w.heap.size w' T' G' (FG (FQ X D n).2.2) (FQ X D n).2.2∧Below w.heap.size w w':=by
 have hl:=(GD ((F7 X).2 h.right)).1;have ha:=GJ.start w [([S T E.length H,S G X.gens.length J],25),([I K D],3),([I K n],3),([S N 0 0,S N 0 0],25),([I K 0,I K 0],61),([I K 0,I K 0],61)];have hb:=F6 [([S T E.length H,S G X.gens.length J],25),([I K D],3),([I K n],3),([S N 0 0,S N 0 0],25),([I K 0,I K 0],61),([I K 0,I K 0],61)] w;have hs:=Hh [([S T E.length H,S G X.gens.length J],25),([I K D],3),([I K n],3),([S N 0 0,S N 0 0],25),([I K 0,I K 0],61),([I K 0,I K 0],61)] w;obtain⟨W,hW⟩:∃W,W=GQ w [([S T E.length H,S G X.gens.length J],25),([I K D],3),([I K n],3),([S N 0 0,S N 0 0],25),([I K 0,I K 0],61),([I K 0,I K 0],61)]:=⟨_,rfl⟩;rw[←hW]at ha hb hs;have hp:L8 (w.heap.size+5) (I K 0) (I K 0) W:=⟨ha.cell 5 R 0 R,ha.cell 5 R 1 R,fun j=>ha.free 5 R j⟩;have hf:=LN 139 [Ae (O ⟨w.heap.size+1,0,N⟩),Ae (O ⟨w.heap.size+2,0,N⟩),Ae (O ⟨w.heap.size+5,0,N⟩)] T H G J E X (FQ X D n).2.2 (FQ X D n).1 (w.heap.size+5) _ W (h.below hb) (by rw[hs];simp) (fun e=>(KK e 0 0).1) T5 (R3 X (w.heap.size+1) (w.heap.size+2) (w.heap.size+5) D n W hl (ha.cell 1 R 0 R) (ha.cell 2 R 0 R) hp (by rw[hs];simp)) eP;obtain⟨Y,hY⟩:∃Y,Y=(FQ X D n).2.2:=⟨_,rfl⟩;obtain⟨hd,hm⟩:∃hd,hd=(FQ X D n).1:=⟨_,rfl⟩;obtain⟨ci,hq⟩:∃ci,ci=(FQ X D n).2.1.1:=⟨_,rfl⟩;obtain⟨cg,hr⟩:∃cg,cg=(FQ X D n).2.1.2:=⟨_,rfl⟩;rw[←hY,←hm,←hq,←hr]at hf⊢;have ht:(((((w.alloc (Al #[S T E.length H,S G X.gens.length J] 25)).alloc (Al #[I K D] 3)).alloc (Al #[I K n] 3)).alloc (Al #[S N 0 0,S N 0 0] 25)).alloc (Al #[I K 0,I K 0] 61)).alloc (Al #[I K 0,I K 0] 61)=W:=hW.symm;have HW:=An ht;have HS:=An hs;unfold JN at hf;clear hW ht hs h hY hm hl hq hr hp;unfold JN FJ;go_enter Tryz.func108,Tryz.ntmps108
 go_wp2_with fail
 go_at_call 109;rw[AN HW];refine hf.mono ?_;rintro e w4⟨T4,M,G4,U,rfl,hh,hi⟩;have hu:=(ha.give 5 R [I K ci,I K cg] R).below (by rw[Gk];exact hi);have hj:w.heap.size+6≤w4.heap.size:=by
  have:=hi.size;rw[Gk,AN HS]at this;simpa using this
 have hn:Below w.heap.size w w4:=(Bv (w.heap.size+5) (by omega) _ 0 _ hb).trans (hi.mono hb.size);have hh:=hh.le (base':=w.heap.size+6) (by rw[AN HS];simp);have h0:GJ w.heap.size [([S T E.length H,S G X.gens.length J],25),([I K D],3),([I K n],3),([S N 0 0,S N 0 0],25),([I K 0,I K 0],61),([I K ci,I K cg],61)] (w4.alloc (Al #[S T4 (FG Y).length M,S G4 Y.gens.length U] 25)).drew∧(w4.alloc (Al #[S T4 (FG Y).length M,S G4 Y.gens.length U] 25)).drew.cell? ⟨w4.heap.size,0,N⟩=O (S T4 (FG Y).length M)∧(w4.alloc (Al #[S T4 (FG Y).length M,S G4 Y.gens.length U] 25)).drew.cell? ⟨w4.heap.size,1,N⟩=O (S G4 Y.gens.length U)∧IN (w.heap.size+6) (w4.alloc (Al #[S T4 (FG Y).length M,S G4 Y.gens.length U] 25)).drew T4 G4 (FG Y) Y∧Below w.heap.size w (w4.alloc (Al #[S T4 (FG Y).length M,S G4 Y.gens.length U] 25)).drew :=
  ⟨hu.below (GF _ _).drew,by show(w4.alloc _).cell? _=_;simp,by show(w4.alloc _).cell? _=_;simp,hh.below (GF _ _).drew,(hn.trans ((GF _ _).mono hn.size)).drew⟩
 clear hu hn hh hi HW ha hb hf HS;go_wp2_with fail
 refine FW (fun(γ:Unit)=>[Af #[S T4 (FG Y).length M,S G4 Y.gens.length U],Af #[I K ci,I K cg],I K hd,undef,undef,I K hd]) (fun(_:Unit) L W=>GJ w.heap.size [([S T E.length H,S G X.gens.length J],25),([I K D],3),([I K n],3),(if L 3=true then [S T4 (FG Y).length M,S G4 Y.gens.length U]else [S N 0 0,S N 0 0],25),(if L 4=true then [I K ci,I K cg]else [I K 0,I K 0],61),([I K ci,I K cg],61)] W∧W.cell? ⟨w4.heap.size,0,N⟩=O (S T4 (FG Y).length M)∧W.cell? ⟨w4.heap.size,1,N⟩=O (S G4 Y.gens.length U)∧IN (w.heap.size+6) W T4 G4 (FG Y) Y∧Below w.heap.size w W) (()) (by kernel_rfl) (by kernel_rfl) (by kernel_rfl) (by kernel_rfl) h0 ?hstep ?hend
 case hstep =>
  intro F γ hc hk ix o Z L w1 V hL hz hA;simp only[Hu,G9,Br,Bx]at hk;have e6:F.tmps.getD 6 undef=Ae (O ⟨w.heap.size+3,0,N⟩):=hc 6 (by decide +kernel);have e7:F.tmps.getD 7 undef=Ae (O ⟨w.heap.size+4,0,N⟩):=hc 7 (by decide +kernel);have e9:F.tmps.getD 9 undef=Ae (O ⟨w.heap.size+5,0,N⟩):=hc 9 (by decide +kernel);have hx:F.tmps.getD 10 undef=Ae (O ⟨w4.heap.size,0,N⟩):=hc 10 (by decide +kernel);have hy:F.tmps.getD 11 undef=I K hd:=hc 11 (by decide +kernel)
  match ix,Z with
  |2,Z|5,Z =>
   simp at Z;subst Z;exact .inl ⟨rfl,FB γ _ (by simp[go_sem,Aq,-Ap,hk,hy]) R V (fun _ _ _=>rfl)⟩
  |0,Z =>
   simp at Z;subst Z;have c0:=V.2.1;have c1:=V.2.2.1;exact .inl ⟨rfl,FB γ _ (by simp[go_sem,Aq,-Ap,hx,c0,c1]) R V (fun _ _ _=>rfl)⟩
  |1,Z =>
   simp at Z;subst Z;obtain⟨c0,c1⟩:=V.1.f2 5 R;exact .inl ⟨rfl,FB γ _ (by simp[go_sem,Aq,-Ap,e9,c0,c1]) R V (fun _ _ _=>rfl)⟩
  |3,Z =>
   simp at Z;subst Z;have hg:=V.1.give 3 R [S T4 (FG Y).length M,S G4 Y.gens.length U] (by rw[hL];rfl);refine .inl ⟨rfl,Gy γ 25 (Am 6) (Am 18) R (w.heap.size+3) 0 [S T4 (FG Y).length M,S G4 Y.gens.length U] (by simp[Aq,-Ap,e6]) (by simp[Aq,-Ap,hk]) (by simp[Ar]) Kq (V.1.there 3 R 2 (by rw[hL];rfl)) R ⟨?_,(FZ (by have:=hj;simp only[ne_eq];omega)).trans V.2.1,(FZ (by have:=hj;simp only[ne_eq];omega)).trans V.2.2.1,V.2.2.2.1.putc (by omega),Bv (w.heap.size+3) (by omega) _ 0 _ V.2.2.2.2⟩ (fun _ _ _=>rfl)⟩;rw[Fx (i:=3) (j:=4) (by decide),IF,AF R];exact hg
  |4,Z =>
   simp at Z;subst Z;have hg:=V.1.give 4 R [I K ci,I K cg] (by rw[hL];rfl);refine .inl ⟨rfl,Gy γ 61 (Am 7) (Am 19) R (w.heap.size+4) 0 [I K ci,I K cg] (by simp[Aq,-Ap,e7]) (by simp[Aq,-Ap,hk]) (by simp[Ar]) Im (V.1.there 4 R 2 (by rw[hL];rfl)) R ⟨?_,(FZ (by have:=hj;simp only[ne_eq];omega)).trans V.2.1,(FZ (by have:=hj;simp only[ne_eq];omega)).trans V.2.2.1,V.2.2.2.1.putc (by omega),Bv (w.heap.size+4) (by omega) _ 0 _ V.2.2.2.2⟩ (fun _ _ _=>rfl)⟩;rw[Fx (i:=4) (j:=3) (by decide),IF,AF R];exact hg
  |ix+6,Z=>simp at Z
 case hend =>
  intro γ L w9 V he;rw[he 3 (by decide),he 4 (by decide),AF R,AF R]at V;clear he h0;simp only[GN,AI,AH,Ba,AJ,AK,Nat.reduceAdd,Bf,Be];go_frame;go_wp2;obtain⟨t0,t1⟩:=V.1.f2 3 R;obtain⟨s0,s1⟩:=V.1.f2 4 R;refine AG (by simp[results,Tryz.results108,go_sem,t0,t1,s0,s1]<;>rfl) R ⟨T4,M,G4,U,rfl,V.2.2.2.1.le (by omega),V.2.2.2.2⟩
theorem Oe{w:World}{D base' e E n:Nat}{v:Value}{L:List Value}(h:w.ownsRow D e E v n L)(M:base'≤D):w.ownsRow base' e E v n L:=by
 obtain⟨U,h⟩:=h;refine⟨U,?_⟩;rcases h with h|⟨g,H,J,rfl,V,F⟩
 ·exact .inl h
 ·exact .inr ⟨g,H,J,rfl,AU M V,F⟩
theorem V5(T:Option Addr)(E:Nat)(G:Option Addr)(H:Nat)(D:List Gu)(X:Wd)(a n:Int)(w:World)(h:Ir w T G D X):
  Calls Au 119 #[JN T D.length E G X.gens.length H,Af #[I K a,I K n]] w fun e w'=>∃A c,e=Ao (S A (GV X a n X.rows.length).length c)∧w'.ownsRow w.heap.size 61 2 (S A (GV X a n X.rows.length).length c) (GV X a n X.rows.length).length (Fz (GV X a n X.rows.length))∧Below w.heap.size w w':=by
 have hl:=(GD ((F7 X).2 h.right)).1;have hf:=GJ.start w [([S T D.length E,S G X.gens.length H],25),([I K a,I K n],34)];have hb:=F6 [([S T D.length E,S G X.gens.length H],25),([I K a,I K n],34)] w;have hg:=fun W (hb:Below w.heap.size w W)=>Nz T E G H D X W (h.below hb);have hM:=fun A c G' gc W (hX:FX W A c G' gc X)=>Sc A c G' gc X a n W (by omega) hX;unfold JN Up FF at hg;unfold Up FF at hM;have h0:GJ w.heap.size [([S T D.length E,S G X.gens.length H],25),([I K a,I K n],34)] (GQ w [([S T D.length E,S G X.gens.length H],25),([I K a,I K n],34)]).drew∧Below w.heap.size w (GQ w [([S T D.length E,S G X.gens.length H],25),([I K a,I K n],34)]).drew∧((fun(_:Nat)=>false) 1=true→∃A c G' gc,((undef,undef):Value×Value).1=Af #[S A X.rows.length c,S G' X.gens.length gc]∧FX (GQ w [([S T D.length E,S G X.gens.length H],25),([I K a,I K n],34)]).drew A c G' gc X)∧((fun(_:Nat)=>false) 3=true→∃A c,((undef,undef):Value×Value).2=S A (GV X a n X.rows.length).length c∧(GQ w [([S T D.length E,S G X.gens.length H],25),([I K a,I K n],34)]).drew.ownsRow w.heap.size 61 2 (S A (GV X a n X.rows.length).length c) (GV X a n X.rows.length).length (Fz (GV X a n X.rows.length))):=⟨hf.below Fv.drew,hb.drew,fun e=>(by cases e),fun e=>by cases e⟩;clear hf hb h hl;unfold JN;go_enter Tryz.func119,Tryz.ntmps119
 go_wp2_with fail
 have h0:=h0;clear h0;refine FW (fun(γ:Value×Value)=>[Af #[S T D.length E,S G X.gens.length H],γ.1,Af #[I K a,I K n],γ.2,γ.2]) (fun(γ:Value×Value) L W=>GJ w.heap.size [([S T D.length E,S G X.gens.length H],25),([I K a,I K n],34)] W∧Below w.heap.size w W∧(L 1=true→∃A c G' gc,γ.1=Af #[S A X.rows.length c,S G' X.gens.length gc]∧FX W A c G' gc X)∧(L 3=true→∃A c,γ.2=S A (GV X a n X.rows.length).length c∧W.ownsRow w.heap.size 61 2 (S A (GV X a n X.rows.length).length c) (GV X a n X.rows.length).length (Fz (GV X a n X.rows.length)))) ((undef,undef)) (by kernel_rfl) (by kernel_rfl) (by kernel_rfl) (by kernel_rfl) h0 ?hstep ?hend
 case hstep =>
  intro F γ ha Z ix o J L w1 M hL hj hd;simp only[Hu,G9,Br,Bx]at Z;have e2:F.tmps.getD 2 undef=Ae (O ⟨w.heap.size,0,N⟩):=ha 2 (by decide +kernel);have e3:F.tmps.getD 3 undef=Ae (O ⟨w.heap.size+1,0,N⟩):=ha 3 (by decide +kernel)
  match ix,J with
  |4,J =>
   simp at J;subst J;exact .inl ⟨rfl,FB γ _ (by simp[go_sem,Aq,-Ap,Z]) R M (fun _ _ _=>rfl)⟩
  |0,J =>
   simp at J;subst J;obtain⟨c0,c1⟩:=M.1.g2 R;exact .inl ⟨rfl,FB γ _ (by simp[go_sem,Aq,-Ap,e2,c0,c1]) R M (fun _ _ _=>rfl)⟩
  |1,J =>
   simp at J;subst J;have q3:L 3=false:=FA hd hL 5 3 (by kernel_rfl);refine .inl ⟨rfl,GU 25 #[Af #[S T D.length E,S G X.gens.length H]] (by simp[go_sem,Aq,-Ap,Z]) ?_⟩;refine(hg _ M.2.1).mono ?_;rintro e w2⟨A2,c2,G2,V,rfl,hk,U⟩;exact⟨_,(Af #[S A2 X.rows.length c2,S G2 X.gens.length V],γ.2),rfl,rfl,⟨M.1.below U,M.2.1.trans (U.mono M.2.1.size),fun _=>⟨A2,c2,G2,V,rfl,hk.toFX⟩,fun e=>by rw[Fx (by decide),q3]at e;cases e⟩,I5 hd hL 5 [3,4] (by kernel_rfl) (fun j h1 h2=>by match j with|0|2=>rfl|1=>exact absurd R h1|3|4=>simp at h2|j+5=>rfl)⟩
  |2,J =>
   simp at J;subst J;obtain⟨c0,c1⟩:=M.1.f2 1 R;exact .inl ⟨rfl,FB γ _ (by simp[go_sem,Aq,-Ap,e3,c0,c1]) R M (fun _ _ _=>rfl)⟩
  |3,J =>
   simp at J;subst J;have q1:L 1=true:=hj 1 (by kernel_rfl);obtain⟨A2,c2,G2,V,Y,hh⟩:=M.2.2.1 q1;refine .inl ⟨rfl,GU 52 #[Af #[S A2 X.rows.length c2,S G2 X.gens.length V],Af #[I K a,I K n]] (by simp[go_sem,Aq,-Ap,Z,Y]) ?_⟩;refine(hM _ _ _ _ _ hh).mono ?_;rintro e w2⟨v2,rfl,hi,U⟩;obtain⟨A3,c3,rfl⟩:=Hw hi;have he:=Oe hi (base':=w.heap.size) (by have:=M.2.1.size;omega);exact⟨_,(γ.1,S A3 (GV X a n X.rows.length).length c3),rfl,rfl,⟨M.1.below U,M.2.1.trans (U.mono M.2.1.size),fun _=>⟨A2,c2,G2,V,Y,hh.below U⟩,fun _=>⟨A3,c3,rfl,he⟩⟩,I5 hd hL 5 [4] (by kernel_rfl) (fun j h1 h2=>by match j with|0|1|2=>rfl|3=>exact absurd R h1|4=>simp at h2|j+5=>rfl)⟩
  |ix+5,J=>simp at J
 case hend =>
  intro γ L w9 M hc;obtain⟨A3,c3,Y,he⟩:=M.2.2.2 (hc 3 (by decide));have HD:=M.2.1;clear hc M;simp only[GN,AI,AH,Ba,AJ,AK,Nat.reduceAdd,Bf,Be,Y];clear Y;go_frame;go_wp2;go_ret;exact⟨A3,c3,rfl,he,HD⟩
end Go.Proofs.YtnbleebilmghcabGreat
namespace Go.Proofs.YtnbleebilmghcabGreat
open Go Go.RowKit Go.ChangeShapes Go.WideShapes Go.ChangeAt Go.Deep Go.Joins
set_option maxRecDepth 8000
set_option maxRecDepth 100000
theorem je:Au.cellsOf 35=1:=by kernel_rfl
theorem eZ:Au.cellsOf 37=4:=by kernel_rfl
theorem el:Au.cellsOf 95=4:=by kernel_rfl
section
variable {H:Type} {enc:TypeId×Value→H} {W:World} {base:Nat} {spare:Nat→Bool} {held:Bool}
theorem bL{n:Nat}{cs:List Value}{x:DataW H×List MemPlace}(h:DataW.trod enc Au W base spare held n 95 cs=O x):∃y:F',cs=[I K y.k,I K y.p,I K y.f,I K y.n]:=by
 obtain⟨Y,Z,y2,y3,n',_,D,h0,E,F,J⟩:=trod_struct4 Tryz.underlying95 h;rw[el]at D
 match cs,D with
 |[c0,c1,c2,c3],_ =>
  simp[OK]at h0 E F J;obtain⟨L,e0,_⟩:=BA Tryz.underlying3 h0;obtain⟨M,e1,_⟩:=BA Tryz.underlying3 E;obtain⟨U,e2,_⟩:=BA Tryz.underlying3 F;obtain⟨V,e3,_⟩:=BA Tryz.underlying3 J;exact⟨⟨L,M,U,V⟩,by simp_all⟩
theorem iC(b h i j:Nat):((⟨b,h,N⟩:Addr).add (i*4)).add j=⟨b,h+i*4+j,N⟩:=by
 rw[add_add,CT];simp
theorem Yw{n:Nat}{v:Value}{x:DataW H×List MemPlace}(h:DataW.trod enc Au W base spare held n 35 [v]=O x):∃A len E a,v=S A len E∧len≤E∧GZ W A len a:=by
 rcases open_slice Tryz.underlying35 h with⟨F,_⟩|⟨L,len,E,m,n',D,Pl,F,_,M,_,hm,_,U⟩
 ·exact⟨N,0,0,fun _=>⟨0,0,0,0⟩,by simpa using F,AC _,fun j hj=>by omega⟩
 ·have hd:len≤m:=by rw[hm];split <;>omega
  have iI:Inhabited F':=⟨⟨0, 0, 0, 0⟩⟩
  obtain⟨a,ha⟩:=choose_lt (α:=F') (n:=len) (p:=fun i y=>W.cells? base (L.add (i*4)) 4=O [I K y.k,I K y.p,I K y.f,I K y.n]) (fun i hi=>by
   obtain⟨he,h1,h2⟩:=U i (by omega);obtain⟨y,rfl⟩:=bL h2;rw[el]at h1;exact⟨y,h1⟩)
  refine⟨O L,len,E,a,by simpa using F,M,fun j hj=>?_⟩;obtain⟨_,_,J⟩:=CF (ha j hj);obtain⟨_,_,V⟩:=CF (ha 0 (by omega));have Y:=V 0 (by omega);obtain⟨b,Z,sp⟩:=L;have hb:sp=N:=by
   cases sp with
   |none=>rfl
   |some s=>simp[World.cell?,Addr.add]at Y;split at Y <;>simp at Y
  subst hb;refine⟨b,Z,rfl,?_,?_,?_,?_⟩
  ·have:=J 0 (by omega);rw[iC]at this;simpa using this
  ·have:=J 1 (by omega);rw[iC]at this;simpa using this
  ·have:=J 2 (by omega);rw[iC]at this;simpa using this
  ·have:=J 3 (by omega);rw[iC]at this;simpa using this
theorem Yt{n:Nat}{cs:List Value}{x:DataW H×List MemPlace}(h:DataW.trod enc Au W base spare held n 37 cs=O x):∃s:GG,cs=[I K s.m,I K s.al,I K s.no,S s.A s.len s.cap]∧GZ W s.A s.len s.a:=by
 obtain⟨y0,y1,y2,n',_,E,h0,F,J⟩:=trod_struct3 Tryz.underlying37 h;rw[eZ]at E
 match cs,E with
 |[c0,c1,c2,c3],_ =>
  simp[OK,gt,je]at h0 F J;obtain⟨Z,L,_⟩:=BA Tryz.underlying3 h0;obtain⟨z0,z1,hb,_,_,M,U⟩:=trod_struct2 Tryz.underlying34 F;simp[OK]at M U;obtain⟨i1,V,_⟩:=BA Tryz.underlying3 M;obtain⟨i2,Y,_⟩:=BA Tryz.underlying3 U;obtain⟨A,len,D,a,rfl,hc,ha⟩:=Yw J;simp only[B6,Bx]at L V Y;subst L V Y;exact⟨⟨Z,i1,i2,A,len,D,a⟩,rfl,ha⟩
end
attribute [local go_sem ↓] Go.wp_at_zero Go.wp_at_succ
theorem L8.lt{b:Nat}{u v:Value}{W:World}(h:L8 b u v W):b<W.heap.size:=AL W ⟨b,0,N⟩ h.e0
theorem L8.there{b:Nat}{u v:Value}{W:World}(h:L8 b u v W):W.there b 0 2:=fun j D=>by
 rcases(by omega:j=0∨j=1)with rfl|rfl
 ·exact⟨by rw[AT,h.e0];rfl,h.f _⟩
 ·exact⟨by rw[AT,h.e1];rfl,h.f _⟩
theorem L8.give{b:Nat}{u v:Value}{W:World}(h:L8 b u v W)(D E:Value):L8 b D E (W.setCells b 0 [D,E]):=by
 have s:=fun j F=>Cv b [D,E] 0 W (fun j F=>(h.there j F).1) j F;exact⟨s 0 (by simp),s 1 (by simp),fun i=>by rw[BP];exact h.f i⟩
theorem L8.others{b D o:Nat}{u v:Value}{vs:List Value}{W:World}(h:L8 b u v W)(E:b≠D):L8 b u v (W.setCells D o vs):=
 ⟨(FZ E).trans h.e0,(FZ E).trans h.e1,fun i=>by rw[BP];exact h.f i⟩
theorem Tp{W:World}{A:Option Addr}{c:Nat}{G:Option Addr}{J:Nat}{Y:Wd}(h:FX W A c G J Y){b o:Nat}{vs:List Value}(L:∀ c o,A=O ⟨c,o,N⟩→c≠b)(M:Y.gens≠[]→∀ c o,G=O ⟨c,o,N⟩→c≠b):FX (W.setCells b o vs) A c G J Y:=by
 refine⟨fun j E=>?_,fun j E=>?_⟩
 ·obtain⟨F,D,e,H⟩:=h.rows j E;exact⟨F,D,e,Jn (L F D e) H⟩
 ·obtain⟨F,D,e,H⟩:=h.gens j E;exact⟨F,D,e,(FZ (M (fun e=>by rw[e]at E;simp at E) F D e)).trans H⟩
theorem Gv.putc{W:World}{B:Nat}{A:Option Addr}{c:Nat}{G:Option Addr}{D:Nat}{Y:Wd}(h:Gv B W A c G D Y){b o:Nat}{vs:List Value}(E:b<B):Gv B (W.setCells b o vs) A c G D Y :=
 ⟨Tp h.toFX (fun c o e=>by have:=h.fa c o e;omega) (fun _ c o e=>by have:=h.fg c o e;omega),h.fa,h.fg⟩
theorem Hd.sets{W:World}{B H:Nat}{D A:Option Addr}{c:Nat}{G:Option Addr}{J:Nat}{Y:Wd}(h:Hd B W D A c G J Y)(h0:Y.gens≠[]→∀ c o,D=O ⟨c,o,N⟩→c<H){b o:Nat}{vs:List Value}(M:b<B)(L:H≤b):Hd B (W.setCells b o vs) D A c G J Y :=
 ⟨Tp h.toFX (fun c o e=>by have:=h.fa c o e;omega) (fun E c o e=>by
  rcases h.fg with F|F
  ·rw[F]at e;have:=h0 E c o e;omega
  ·have:=F c o e;omega),h.fa,h.fg⟩
theorem Hd.below{B:Nat}{w w1:World}{F A:Option Addr}{E:Nat}{G:Option Addr}{D:Nat}{X:Wd}(h:Hd B w F A E G D X)(H:Below w.heap.size w w1):Hd B w1 F A E G D X:=⟨h.toFX.below H,h.fa,h.fg⟩
theorem TY{w:World}{G:Option Addr}{l:List Int}(h:JE w G l)(E:l≠[]):∀c o,G=O ⟨c,o,N⟩→c<w.heap.size:=fun c o e=>by
 obtain⟨b,F,D,H⟩:=h 0 (CD.2 E);rw[e]at D;simp only[Bc,Cr,Bx]at D;rw[D.1];exact AL w _ H
theorem PF(X:Wd)(i g:Int):(GS X i g).2.gens≠[]→X.gens≠[]:=by
 unfold GS FL
 repeat' split
 all_goals simp
theorem Nc(X:Wd)(i g:Int)(C:D7→D7×Bool×Int):(OH X i g C).2.gens≠[]→X.gens≠[]:=by
 unfold OH FL
 repeat' split
 all_goals simp
end Go.Proofs.YtnbleebilmghcabGreat
