/- PRNext, PRSpawn0, PRSpawn, PRSpawn2 -/
import Derived.Test.YtnbleebilmghcabGreatUAB
import Derived.Test.YtnbleebilmghcabGreatUAM
import Derived.Test.YtnbleebilmghcabGreatUAO
set_option linter.all false
set_option maxRecDepth 8000
set_option maxHeartbeats 8000000
open Go.Value renaming int→I,slice→S,agg→Af,tuple→Ai,bool→Aj,oneCell'→Ar
open Go.IntKind renaming i64→K
open Option renaming none→N,some→O
open Go.Obj renaming cells→Al
open Go.Operand renaming tmp→Am
open Go.Ending renaming returned→Ao
open Go.Proofs.Tryz renaming prog→Au
namespace Go.Proofs.YtnbleebilmghcabGreat
open Go Go.RowKit
attribute [local go_sem ↓] Go.wp_at_zero Go.wp_at_succ
theorem O7(A:Option Addr)(J:Nat)(G:Option Addr)(F:Nat)(X:Wd)(w:World)(hn:X.rows.length≤140737488355328)(hx:X.gens.length≤140737488355328)(hb:∀ j,j<X.gens.length→-9223372036854775808≤X.gens.getD j 0)(hX:FX w A J G F X):
  Calls Au 99 #[Up A J G F X] w fun e w'=>e=Ao (Ai #[FJ (Gl X).1.1 (Gl X).1.2,I K (Gl X).2])∧Below w.heap.size w w':=by
 obtain⟨W1,V⟩:∃W,W=w.alloc (Al #[S A X.rows.length J,S G X.gens.length F] 43):=⟨_,rfl⟩;have z1:W1.heap.size=w.heap.size+1:=by rw[V];simp
 have b1:Below w.heap.size w W1:=by rw[V];go_grown
 obtain⟨y0,y1,yf,yb⟩:=H' (W:=W1) (u0:=I K 0) (u1:=I K 0) (t:=61) z1;have hd:AB w (w.heap.size+1) (I K 0) (I K 0) (W1.alloc (Al #[I K 0,I K 0] 61)):=⟨b1.trans (yb.mono b1.size),by omega,y0,y1,yf⟩;have hN:Tl w (S A X.rows.length J) (S G X.gens.length F) (W1.alloc (Al #[I K 0,I K 0] 61)):=(V▸Tl.start w _ _:Tl w (S A X.rows.length J) (S G X.gens.length F) W1).below yb;rw[V]at hd hN;have hi:=An hd;have HN:=An hN;have HG:=An hX.gens;have HR:=An hX.rows;have he:=An hb;clear hd hN V z1 b1 y0 y1 yf yb hX hb;unfold Up FF FJ Gl at *;go_enter Tryz.func99,Tryz.ntmps99
 go_wp2;go_loopw [12] (fun i wr=>∃j:Nat,j≤X.gens.length∧i=I K j∧Kv X X.gens.length 0=Kv X (X.gens.length - j) j∧AB w (w.heap.size+1) (I K 0) (I K 0) wr∧Tl w (S A X.rows.length J) (S G X.gens.length F) wr) (fun i _=>X.gens.length - (intOf i).toNat)
 case atStart=>exact⟨0,AS _,rfl,rfl,AN hi,AN HN⟩
 case round =>
  clear hi HN;obtain⟨j,hj,rfl,hF,L,M⟩:=hrel;have HF:=An hF;clear hF;by_cases hf:j<X.gens.length
  ·have j0:(0:Int)≤(j:Int):=(by omega);have j1:(j:Int)<(X.gens.length:Int):=(by omega);obtain⟨b,hl,hu,hg⟩:=(AN HG) j hf;have hg:wr.cell? ⟨b,hl+j,N⟩=O (I K (X.gens.getD j 0)):=AW M.bel hg;have hb:=AN he j hf;have r0:=M.r0;have HS:=An (Sa X X.gens.length j hf);have hm:=An M;subst hu;clear HG he M;generalize X.gens.getD j 0=Y at *;obtain⟨fr,ho⟩:∃fr,fr=decide (Y<1000):=⟨_,rfl⟩;have hw:=An ho;go_wp2;clear hg r0;go_loopw [6,22] (fun t i wr=>∃k:Nat,k≤X.rows.length∧i=I K k∧t=Aj (decide (Y<1000) && !(KI X.rows k j))∧AB w (w.heap.size+1) (I K 0) (I K 0) wr∧Tl w (S A X.rows.length J) (S (O ⟨b,hl,N⟩) X.gens.length F) wr) (fun _ i _=>X.rows.length - (intOf i).toNat)
   case atStart=>exact⟨0,AS _,rfl,by simp[KI],L,AN hm⟩
   case round =>
    clear L hm;obtain⟨k,hk,rfl,rfl,E,U⟩:=hrel;by_cases hp:k<X.rows.length
    ·have k0:(0:Int)≤(k:Int):=(by omega);have k1:(k:Int)<(X.rows.length:Int):=(by omega);obtain⟨b2,o2,hA,D⟩:=(AN HR) k hp;have D:Hb wr b2 (o2+k*11) (X.rows.getD k dR):=D.below U.bel;have c0:=D.c0;have c1:=D.c1;have c2:=D.c2;have c3:=D.v 0 (by omega);have c4:=D.v 1 (by omega);have c5:=D.v 2 (by omega);have c6:=D.v 3 (by omega);have c7:=D.v 4 (by omega);have c8:=D.v 5 (by omega);have c9:=D.v 6 (by omega);have hq:=D.v 7 (by omega);simp only[Bt,Nat.reduceAdd]at c3 c4 c5 c6 c7 c8 c9 hq;simp only[←Bt]at c3 c4 c5 c6 c7 c8 c9 hq;have hh:=An (Nv X.rows k j hp);subst hA;clear D HR HF HS hw ho;generalize X.rows.getD k dR=x at *;obtain⟨ix,hy,hz,v⟩:=x;dsimp only at *;generalize KI X.rows k j=ub at *;generalize decide (Y<1000)=de at *;have hc:(de && !ub)=false∨((de=true∧ub=false)∧(ix=(j:Int)∨ix≠(j:Int))):=by
      cases de <;>cases ub <;>simp
      exact Decidable.em _
     rcases hc with h1|⟨⟨rfl,rfl⟩,rfl|h1⟩
     ·rw[h1];go_wp2;go_roundw
      case rel=>exact⟨k+1,by omega,by go_num,by rw[AN hh];cases de <;>cases ub <;>simp_all,E.below (GF _ _),U.below (GF _ _)⟩
      case measure=>simp[intOf];omega
     ·go_wp2;go_roundw
      case rel=>exact⟨k+1,by omega,by go_num,by rw[AN hh];simp,E.below (GF _ _),U.below (GF _ _)⟩
      case measure=>simp[intOf];omega
     ·have h2:(ix == (j:Int))=false:=(by simpa using h1);go_wp2;go_roundw
      case rel=>exact⟨k+1,by omega,by go_num,by rw[AN hh];simp[bne],E.below (GF _ _),U.below (GF _ _)⟩
      case measure=>simp[intOf];omega
    ·obtain rfl:k=X.rows.length:=(by omega);clear HR;generalize KI X.rows X.rows.length j=ub at *;by_cases Z:Y<1000
     ·cases ub
      ·have e:(decide (Y<1000) && !false)=true:=(by simp[Z]);rw[e];go_wp2_with(first
        |(refine As R 61 (Am 2) (Am 39) R (w.heap.size+1) 0 [I K (j:Int),I K (Y+1)] R R (by simp[Ar]) Im E.there ?_;intro W3 H;have ha:=E.give (I K (j:Int)) (I K (Y+1));rw[←H]at ha;clear H))
       have t0:=ha.t0;have t1:=ha.t1;have hv:=(AN HF).trans ((AN HS).trans (AF (by simpa using Z)));refine AG (by simp[results,Tryz.results99,go_sem,t0,t1]<;>rfl) R ⟨by rw[hv],ha.bel⟩
      ·have e:(decide (Y<1000) && !true)=false:=(by simp);rw[e];go_wp2;go_roundw
       case rel=>exact⟨j+1,by omega,by go_num,(AN HF).trans ((AN HS).trans (by simp)),E,U⟩
       case measure=>simp[intOf];omega
     ·have e:(decide (Y<1000) && !ub)=false:=(by simp[Z]);rw[e];go_wp2;go_roundw
      case rel=>exact⟨j+1,by omega,by go_num,(AN HF).trans ((AN HS).trans (AA (fun h=>Z h.2))),E,U⟩
      case measure=>simp[intOf];omega
  ·obtain rfl:j=X.gens.length:=(by omega);have hr:Kv X X.gens.length 0=if 60≤X.gens.length then((0,0),4)else((((X.gens.length:Nat):Int),1),0):=by rw[AN HF,BR];rfl
   have HV:=An hr;have r1:=M.r1;clear HG he HR HF hr M;by_cases hs:60≤X.gens.length
   ·have ht:(60:Int)≤(X.gens.length:Int):=(by omega);go_wp2_with(first
     |(refine As R 61 (Am 2) (Am 45) R (w.heap.size+1) 0 [I K 0,I K 0] R R (by simp[Ar]) Im L.there ?_;intro W3 H;have E:=L.give (I K 0) (I K 0);rw[←H]at E;clear H))
    have t0:=E.t0;have t1:=E.t1;have hv:=(AN HV).trans (AF hs);refine AG (by simp[results,Tryz.results99,go_sem,t0,t1]<;>rfl) R ⟨by rw[hv],E.bel⟩
   ·have ht:¬ (60:Int)≤(X.gens.length:Int):=(by omega);go_wp2_with(first
     |(refine As R 61 (Am 2) (Am 49) R (w.heap.size+1) 0 [I K (X.gens.length:Int),I K 1] R R (by simp[Ar]) Im L.there ?_;intro W3 H;have E:=L.give (I K (X.gens.length:Int)) (I K 1);rw[←H]at E;clear H))
    have t0:=E.t0;have t1:=E.t1;have hv:=(AN HV).trans (AA hs);refine AG (by simp[results,Tryz.results99,go_sem,t0,t1]<;>rfl) R ⟨by rw[hv],E.bel⟩
theorem Km{P:Program}(w:World){ops:Array Oper}{J:List Oper}{o:Oper}{a:Act}{Q:Exit→Act→World→Prop}(V:o.guard=none)(s x:Operand)(t:TypeId)
  (ho:o.op=.call { callee:=.builtin .append,args:=#[s,x],argTypes:=#[t,t] })
  (F:Nat) (e:TypeId) (i:TypeInfo) (z:Value) (D E:Nat) (ht:P.underlying t=some (.slice e)) (hi:P.info? e=some i) (hz:i.zero=some z)
  (M:i.size=D) (ha:i.bytes=E) (hb:z.cells.size=D) (hd:0<D)
  (g:Nat) (hs:a.eval s=.slice (some ⟨g,0,none⟩) 0 0) (L:w.ownsRow F e D (.slice (some ⟨g,0,none⟩) 0 0) 0 [])
  (A:Option Addr) (n c:Nat) (Z:List Value) (hx:a.eval x=.slice A n c) (hc:Rl w A n D Z)
  (hf:n≤maxLen) (H:n*E≤140737488355328) (U:F≤w.heap.size)
  (h:∀v' Y,Y.ownsRow F e D v' n Z→w.grownBy Y (some g)→wpList P ops Q J (a.put o.dst v') Y):wpList P ops Q (o :: J) a w:=by
 obtain⟨h1,h2,h3⟩:=hc;rcases h3 with rfl|⟨ad,rfl,h3⟩
 ·have he:Z=[]:=List.eq_nil_of_length_eq_zero (by omega);subst he;have hr:∀ty,(Builtin.append_ #[t,t] ty #[.slice (some ⟨g,0,none⟩) 0 0,.slice A 0 c]).run P w=.ok (.slice (some ⟨g,0,none⟩) 0 0) w:=fun ty=>by
   cases A <;>simp[Builtin.append_,run_underlying ht,sizeOf,typeInfo,hi,Builtin.lenOf,Builtin.firstCells,loadCells,loadCellsFrom,storeCells]
  refine wpList_plain V fun _ hK=>?_;unfold Oper.wp execOp;simp only[ho,resolve,invoke,builtin,Sem.run_bind,Sem.run_pure,Result.andThen_ok,List.map_toArray,List.map_cons,List.map_nil,hs,hx,hr];exact hK _ _ (h _ _ L (World.grownBy.refl _ _))
 ·refine wpList_append_own_at w V s x t ho F e i z D E ht hi hz M ha hb hd (.slice (some ⟨g,0,none⟩) 0 0) 0 [] hs L ad n c Z hx h1 h3 h2 (by omega) (by rw[Nat.zero_add];exact H) U ?_;intro v' Y h4 h5 _ _;rw[Nat.zero_add,List.nil_append]at h4;exact h v' Y h4 h5
theorem SY(W:World):(W.alloc (Al #[] 3)).ownsRow W.heap.size 3 1 (S (O ⟨W.heap.size,0,N⟩) 0 0) 0 []:=
 ⟨rfl,.inr ⟨W.heap.size,0,#[],rfl,AC _,(by show(W.heap.push _)[W.heap.size]?=_;simp),AC _,by unfold maxLen;omega,rfl,rfl⟩⟩
structure XB(w:World)(u0 u1:Value)(b10 b12:Nat)(i g:Int)(x:D7)(W:World):Prop where
 sb:SB w u0 u1 (S N 0 0) (S N 0 0) (I K 0) (I K 0) W
 i0:W.cell? ⟨b10,0,N⟩=O (I K i)
 i1:W.cell? ⟨b10,1,N⟩=O (I K g)
 row:Hb W b12 0 x
 fr:∀j,W.frozen? ⟨b12,j,N⟩=false
 h10:w.heap.size+3≤b10
 h12:b10<b12
section
variable {w W W1:World} {u0 u1:Value} {b10 b12:Nat} {i g:Int} {x:D7}
theorem XB.ly(h:XB w u0 u1 b10 b12 i g x W):b12<W.heap.size:=AL W ⟨b12,0,N⟩ h.row.c0
theorem XB.keep(h:XB w u0 u1 b10 b12 i g x W)(D:Below (b12+1) W W1):XB w u0 u1 b10 b12 i g x W1 :=
 ⟨h.sb.keep (D.mono (by have:=h.h10;have:=h.h12;omega)),(D.cell (p:=⟨b10,0,N⟩) (show b10<b12+1 by have:=h.h12;omega)).trans h.i0,(D.cell (p:=⟨b10,1,N⟩) (show b10<b12+1 by have:=h.h12;omega)).trans h.i1,
  ⟨(D.cell (p:=⟨b12,0,N⟩) (by simp)).trans h.row.c0,(D.cell (p:=⟨b12,0+1,N⟩) (by simp)).trans h.row.c1,(D.cell (p:=⟨b12,0+2,N⟩) (by simp)).trans h.row.c2,fun k E=>(D.cell (p:=⟨b12,0+3+k,N⟩) (by simp)).trans (h.row.v k E)⟩,
  fun j=>(D.frozen (p:=⟨b12,j,N⟩) (by simp)).trans (h.fr j),h.h10,h.h12⟩
theorem XB.below(h:XB w u0 u1 b10 b12 i g x W)(D:Below W.heap.size W W1):XB w u0 u1 b10 b12 i g x W1:=h.keep (D.mono h.ly)
theorem XB.setV(h:XB w u0 u1 b10 b12 i g x W)(k:Nat)(E:k<8)(n:Int):XB w u0 u1 b10 b12 i g ⟨x.ix,x.gen,x.has,fun j=>if j=k then n else x.v j⟩ (W.setCell ⟨b12,3+k,N⟩ (I K n)):=by
 have D:Below b12 W (W.setCell ⟨b12,3+k,N⟩ (I K n)):=Fv.setCell (p:=⟨b12,3+k,N⟩) Fu _;exact⟨h.sb.keep (D.mono (by have:=h.h10;have:=h.h12;omega)),(D.cell (p:=⟨b10,0,N⟩) h.h12).trans h.i0,(D.cell (p:=⟨b10,1,N⟩) h.h12).trans h.i1,by have:=LS h.row k E n;rwa[AT]at this,fun j=>by simpa using h.fr j,h.h10,h.h12⟩
theorem XB.start(h:SB w u0 u1 (S N 0 0) (S N 0 0) (I K 0) (I K 0) W)(i g D:Int)(f:Nat→Int)(L:∀ k,k<8→f k=0):XB w u0 u1 W.heap.size (W.heap.size+1) i g ⟨i,g,D,f⟩ ((W.alloc (Al #[I K i,I K g] 61)).alloc (Al #[I K i,I K g,I K D,I K 0,I K 0,I K 0,I K 0,I K 0,I K 0,I K 0,I K 0] 116)):=by
 obtain⟨M,U,af,V⟩:=H' (W:=W) (u0:=I K i) (u1:=I K g) (t:=61) R;have z:(W.alloc (Al #[I K i,I K g] 61)).heap.size=W.heap.size+1:=by simp
 have Y:=h.below V;generalize W.alloc (Al #[I K i,I K g] 61)=W1 at *;have F:=GF W1 (Al #[I K i,I K g,I K D,I K 0,I K 0,I K 0,I K 0,I K 0,I K 0,I K 0,I K 0] 116);obtain⟨E,H⟩:=Me W1 ⟨i,g,D,fun _=>0⟩ 116;rw[z]at E H;exact⟨Y.below F,AW F M,AW F U,⟨E.c0,E.c1,E.c2,fun k J=>by show _=O (I K (f k));rw[L k J];exact E.v k J⟩,H,h.sz,Nat.lt_succ_self _⟩
end
structure GB(w:World)(u0 u1:Value)(b10 b12 B:Nat)(i g:Int)(x:D7)(v8:Value)(gens:List Int)(W:World):Prop where
 xb:XB w u0 u1 b10 b12 i g x W
 p8:W.ownsRow B 3 1 v8 gens.length (FD gens)
 hB:b12<B
 hs:B≤W.heap.size
section
variable {w W W1:World} {u0 u1:Value} {b10 b12 B:Nat} {i g:Int} {x:D7} {v8 v8':Value} {gens gens':List Int}
theorem GB.below(h:GB w u0 u1 b10 b12 B i g x v8 gens W)(D:Below W.heap.size W W1):GB w u0 u1 b10 b12 B i g x v8 gens W1:=⟨h.xb.below D,FT h.p8 D,h.hB,AU h.hs D.size⟩
theorem GB.row8(h:GB w u0 u1 b10 b12 B i g x v8 gens W):∀k,v8.ownBlock=O k→B≤k:=fun k e=>(h.p8.lt k e).1
theorem GB.give(h:GB w u0 u1 b10 b12 B i g x v8 gens W)(E:W.grownBy W1 v8.ownBlock)(F:W1.ownsRow B 3 1 v8' gens'.length (FD gens')):GB w u0 u1 b10 b12 B i g x v8' gens' W1:=by
 have D:=F0 E h.row8 h.hs;exact⟨h.xb.keep (D.mono h.hB),F,h.hB,AU h.hs D.size⟩
theorem GB.setG{D H E:Nat}(h:GB w u0 u1 b10 b12 B i g x (S (O ⟨D,0,N⟩) E H) gens W)(F:E=gens.length)(k:Nat)(J:k<gens.length)(n:Int):
  GB w u0 u1 b10 b12 B i g x (S (O ⟨D,0,N⟩) E H) (gens.set k n) (W.setCell ⟨D,k,N⟩ (I K n)):=by
 subst F;have q:=NX h.p8 (j:=k) (by rw[IY];omega) (I K n);rw[Mn]at q;exact h.give (MV W D k (I K n)) (by rw[By];exact q)
theorem GB.thereG{E H F:Nat}(h:GB w u0 u1 b10 b12 B i g x (S (O ⟨E,0,N⟩) F H) gens W)(D:F=gens.length)(k:Nat)(J:k<gens.length):W.there E k 1:=by
 subst D;exact Hl h.p8 k 1 (by rw[IY];omega)
theorem GB.app{D E:Nat}(h:GB w u0 u1 b10 b12 B i g x v8 gens W)(F:W1.ownsRow B 3 1 (S (O ⟨D,0,N⟩) (gens.length+1) E) (gens.length+1) (FD gens++[I K 0]))(H:W.grownBy W1 v8.ownBlock):
  GB w u0 u1 b10 b12 B i g x (S (O ⟨D,0,N⟩) (gens++[0]).length E) (gens++[0]) W1:=by
 refine h.give H ?_;rw[show(gens++[(0:Int)]).length=gens.length+1 by simp,show FD (gens++[0])=FD gens++[I K 0] by simp[FD]];exact F
theorem GB.start(h:XB w u0 u1 b10 b12 i g x W)(E:(W.alloc (Al #[] 3)).grownBy W1 (O W.heap.size))(F:W1.ownsRow W.heap.size 3 1 v8 gens.length (FD gens)):GB w u0 u1 b10 b12 W.heap.size i g x v8 gens W1:=by
 have D:Below W.heap.size W W1:=(GF W (Al #[] 3)).trans (F0 E (fun k e=>by simp only[Bc]at e;omega) (by simp));exact⟨h.below D,F,h.ly,D.size⟩
theorem GB.out{F c0 c1:Value}{D:List D7}(h:GB w u0 u1 b10 b12 B i g x v8 gens W)(H:W.ownsRow B 116 11 F D.length (At D)):ZB w u0 u1 b10 W.heap.size B i g c0 c1 F v8 D gens (W.alloc (Al #[c0,c1] 43)):=by
 have E:Below W.heap.size W (W.alloc (Al #[c0,c1] 43)):=Fv.alloc Fu _;obtain⟨J,L,af,M⟩:=H' (W:=W) (u0:=c0) (u1:=c1) (t:=43) R;exact⟨h.xb.sb.below E,AW E h.xb.i0,AW E h.xb.i1,J,L,af,FT H E,FT h.p8 E,by have:=h.xb.h10;have:=h.xb.h12;have:=h.hB;omega,Nat.lt_trans h.xb.h12 h.hB,h.hs,⟨#[c0,c1],(by show(W.heap.push _)[W.heap.size]?=_;simp)⟩⟩
end
def Lr(i g has n:Int)(j:Nat):D7:=⟨i,g,has,fun t=>if t<j∧tb has t=true then n else 0⟩
theorem SL(i g D n:Int)(j:Nat)(h:tb D j=true):Lr i g D n (j+1)=⟨i,g,D,fun t=>if t=j then n else(Lr i g D n j).v t⟩:=by
 unfold Lr;congr 1;funext t;by_cases e:t=j
 ·subst e;simp[h]
 ·have:t<j+1↔t<j:=by omega
  simp[e,this]
theorem UP(i g D n:Int)(j:Nat)(h:tb D j=false):Lr i g D n (j+1)=Lr i g D n j:=by
 unfold Lr;congr 1;funext t;by_cases e:t=j
 ·subst e;simp[h]
 ·have:t<j+1↔t<j:=by omega
  simp[this]
theorem XY(i g h n:Int):Lr i g h n 8=MR i g h n:=rfl
theorem kA(D:Int)(j:Nat)(h:j<8)(W:World):(Instr.index 107 (Af #[Aj (tb D 0),Aj (tb D 1),Aj (tb D 2),Aj (tb D 3),Aj (tb D 4),Aj (tb D 5),Aj (tb D 6),Aj (tb D 7)]) (I K (j:Int))).run Au W=.ok (Aj (tb D j)) W:=by
 rcases(by omega:j=0∨j=1∨j=2∨j=3∨j=4∨j=5∨j=6∨j=7)with rfl|rfl|rfl|rfl|rfl|rfl|rfl|rfl <;>kernel_rfl
theorem WH(A:Option Addr)(J:Nat)(G:Option Addr)(D:Nat)(X:Wd)(E n:Int)(w:World)(hX:FX w A J G D X)(hn:(FP X).1=0)(hs:FV E=true)(hv:Hx n=true)(k:Nat)(H:Int)(hN:(Gl X).1=((k:Int),H))(hO:(Gl X).2=0)(hQ:k=X.gens.length)(rows':List D7)(Y:Lo X.rows (MR (k:Int) H E n)=rows'):
  Calls Au 60 #[Up A J G D X,I K E,I K n] w fun e w'=>∃A' c' G' hR,e=Ao (Ai #[Af #[S A' rows'.length c',S G' ((X.gens++[(0:Int)]).set k H).length hR],Af #[I K (k:Int),I K H],I K 0])∧Hd w.heap.size w' N A' c' G' hR ⟨rows',(X.gens++[(0:Int)]).set k H⟩∧Below w.heap.size w w':=by
 have hS:=SB.start w (S A X.rows.length J) (S G X.gens.length D);have hP:=fun W (Z:Below w.heap.size w W)=>Gh A X.rows.length J G X.gens.length D (fun j=>X.rows.getD j dR) (fun j=>X.gens.getD j 0) W (by have:=(GD hn).1;omega) (hX.rows.below Z) (hX.gens.below Z);have eW:Hk (fun j=>X.rows.getD j dR) X.rows.length X.gens.length (fun j=>X.gens.getD j 0)=FP X:=rfl;rw[eW]at hP;unfold Gr FF at hP;obtain⟨cE,cF,ct⟩:=GD hn;rw[hn]at hP;have ha:=fun W (Z:Below w.heap.size w W)=>O7 A J G D X W (by omega) (by omega) (fun j hj=>by have:=ct j hj;omega) (hX.below Z);rw[hN,hO]at ha;unfold Up FF FJ at ha;dsimp only at ha;have hE:0≤E∧E≤255:=by unfold FV at hs;simpa using hs
 obtain⟨hE,cu⟩:=hE;have hT:=fun W=>Ou E W hE cu;have hF:=IG E;have hG:=Gm n;rw[hs]at hF;rw[hv]at hG;have hc:=fun W (h:FX W A J G D X)=>NP A J G D X (MR (k:Int) H E n) W (by omega) h;rw[Y]at hc;unfold Up FF Hi at hc;obtain⟨i3,hU,hV,hW,hY⟩:=BC info3;obtain⟨r,hr⟩:∃r,r=MR (k:Int) H E n:=⟨_,rfl⟩;rw[←hr]at hc;have cv:=An hr;have hd:=kA E;generalize (FP X).2=wa at *;have HP:=An hP;have cw:=An ha;have hZ:=An hT;have cx:=An hF;have cy:=An hG;have cz:=An hc;have ca:=An hU;have hu:=An hV;have hx:=An hW;have hy:=An hY;have cc:=An hd;clear hP ha hT hF hG hc hU hV hW hY eW Y hN hO hn hs hv hr hd;have cG:=An hQ;have k0:(0:Int)≤(k:Int):=by omega
 have k1:(X.gens.length:Int)≤(k:Int):=by omega
 have k2:(k:Int)<((X.gens.length+1:Nat):Int):=by omega
 have k3:¬ (k:Int)<(X.gens.length:Int):=by omega
 have hH:=An (show X.gens.length+1=(X.gens++[(0:Int)]).length by simp);have cd:=An (show k<(X.gens++[(0:Int)]).length by simp;omega);clear hQ;unfold Up FF;go_enter Tryz.func60,Tryz.ntmps60
 go_wp2_with(first
  |(go_at_call 55;refine(AN HP _ hS.bel).mono ?_;rintro e w5⟨rfl,ce⟩;have cf:=hS.below ce;have hp:=cf.below (Fv.alloc Fu (Al #[I K 0,I K wa] 29));have r0:=hp.r0;have r1:=hp.r1;clear ce cf)
  |(go_at_call 45;refine(AN cx _).mono ?_;rintro e w1⟨rfl,hw⟩;obtain rfl:=hw.symm)
  |(go_at_call 97;refine(AN cy _).mono ?_;rintro e w1⟨rfl,hw⟩;obtain rfl:=hw.symm)
  |(go_at_call 99;refine(AN cw _ hp.bel).mono ?_;rintro e w6⟨rfl,cg⟩;have hI:=hp.below cg;have ch:=(XB.start hI (k:Int) H E (Lr (k:Int) H E n 0).v (fun t ht=>by simp[Lr]));have cA:=An hI.sz;clear cg hI r0 r1)
  |(go_at_call 100;refine(AN hZ _).mono ?_;rintro e w7⟨rfl,ci,cB⟩;have cj:=An (ch.below ci);clear ci cB ch))
 go_loopw [51] (fun t wr=>∃j:Nat,j≤8∧t=I K j∧XB w (S A X.rows.length J) (S G X.gens.length D) w6.heap.size (w6.heap.size+1) (k:Int) H (Lr (k:Int) H E n j) wr) (fun t _=>8 - (intOf t).toNat)
 case atStart=>exact⟨0,AS _,rfl,AN cj⟩
 case round =>
  clear cj;obtain⟨j,hj,rfl,hC⟩:=hrel;by_cases hJ:j<8
  ·have j0:(0:Int)≤(j:Int):=(by omega);have j1:(j:Int)<8:=(by omega);have hd:=AN cc j hJ
   cases Z:tb E j
   ·have hK:=An (UP (k:Int) H E n j Z);rw[Z]at hd;clear Z;go_wp2;go_roundw
    case rel=>exact⟨j+1,by omega,by go_num,by rw[AN hK];exact hC⟩
    case measure=>simp[intOf];omega
   ·have hK:=An (SL (k:Int) H E n j Z);rw[Z]at hd;clear Z;go_wp2_with(first
     |(refine FU R 3 (Am 59) (Am 57) R (w6.heap.size+1) (3+j) (I K n) R R R KZ (by have:=Gx (hC.row.v j hJ) hC.fr;rwa[AT]at this) ?_;intro cH hz;have hf:=hC.setV j hJ n;rw[←hz]at hf;have ck:=An hf;clear hz hf))
    go_roundw
    case rel=>exact⟨j+1,by omega,by go_num,by rw[AN hK];exact AN ck⟩
    case measure=>simp[intOf];omega
  ·obtain rfl:j=8:=(by omega);rw[XY,←AN cv]at hC;have r1:=hC.sb.r1;have lr:=AL wr _ r1;clear cc hZ;go_wp2_with(first
    |(at_builtin;refine Km _ R (Am 61) (Am 63) 23 R wr.heap.size 3 i3 _ 1 8 Tryz.underlying23 (AN ca) (AN hu) (AN hx) (AN hy) R (by decide) wr.heap.size R (SY wr) G X.gens.length D (FD X.gens) R (hX.below (hC.sb.bel.trans ((GF wr (Al #[] 3)).mono hC.sb.bel.size))).gens.copies (by unfold maxLen;omega) (by omega) (by simp) ?_;intro v8 w8 q8 cm;obtain⟨A8,c8,rfl⟩:=Hw q8;have hg:=GB.start hC (gens:=X.gens) cm q8;have i0:=hg.xb.i0;clear q8 cm r1 lr)
    |(at_builtin;refine FY _ R (Am 70) (Am 71) 23 R wr.heap.size 3 i3 _ 1 8 Tryz.underlying23 (AN ca) (AN hu) (AN hx) (AN hy) R (by decide) (S A8 X.gens.length c8) X.gens.length (FD X.gens) R (hg.below (GF _ _)).p8 ⟨w8.heap.size,0,N⟩ 1 1 [I K 0] R R (KU w8 (I K 0) 3) (by simp[Ar]) (by unfold maxLen;omega) (by omega) (hg.below (GF _ _)).hs (by omega) ?_;intro g9 c9 w9 q9 cn cC;have V:=(hg.below (GF w8 (Al #[I K 0] 3))).app q9 cn;rw[←AN hH]at V;clear i0;have i0:=V.xb.i0;have i1:=V.xb.i1;clear q9 cn cC hg)
    |(refine FU R 3 (Am 78) (Am 77) R g9 k (I K H) R R R KZ (V.thereG (AN hH) k (AN cd)) ?_;intro W5 co;have F:=V.setG (AN hH) k (AN cd) H;rw[←co]at F;obtain⟨p0,p1,p2,p3,p4,p5,p6,p7,p8,p9,cD⟩:=Lg F.xb.row;have r0:=F.xb.sb.r0;have r1:=F.xb.sb.r1;clear co V i0 i1)
    |(go_at_call 101;refine(AN cz _ (hX.below F.xb.sb.bel)).mono ?_;rintro e cp⟨A5,c5,rfl,cq,hA⟩;have hD:=F.below hA;have hh:=(hD.out (c0:=S A5 rows'.length c5) (c1:=S G X.gens.length D) (FT (Jt cq F.hs) Fv));clear cq hA hD r0 r1 p0 p1 p2 p3 p4 p5 p6 p7 p8 p9 cD F)
    |(refine FU R 23 (Am 83) (Am 82) R cp.heap.size 1 (S (O ⟨g9,0,N⟩) (X.gens.length+1) c9) R R R QR (hh.there12 1 (by decide)) ?_;intro W8 cr;have hM:=hh.set1 (S (O ⟨g9,0,N⟩) (X.gens.length+1) c9);rw[←cr]at hM;clear cr hh))
   try go_frame
   refine Ik [0,1,4] [2,3] (fun L W=>∃y0 y1 z0 z1,SB w (S A X.rows.length J) (S G X.gens.length D) y0 y1 z0 z1 W∧(L 2=true→y0=S A5 rows'.length c5∧y1=(S (O ⟨g9,0,N⟩) (X.gens.length+1) c9))∧(L 3=true→z0=I K (k:Int)∧z1=I K H)∧FE w w6.heap.size cp.heap.size wr.heap.size (k:Int) H (S A5 rows'.length c5) (S (O ⟨g9,0,N⟩) (X.gens.length+1) c9) rows' ((X.gens++[(0:Int)]).set k H) W)
    (by kernel_rfl) (by kernel_rfl) (by kernel_rfl) (by kernel_rfl) (by kernel_rfl) (by kernel_rfl) (by kernel_rfl) ?_ ?_ ?_ ?_
   ·rintro L w1 x⟨y0,y1,z0,z1,U,h2,h3,M⟩;exact⟨y0,y1,z0,z1,U.below x.bel,h2,h3,M.below x.bel⟩
   ·rintro L L' w1 he⟨y0,y1,z0,z1,U,h2,h3,M⟩;exact⟨y0,y1,z0,z1,U,by rw[he 2 (by simp)];exact h2,by rw[he 3 (by simp)];exact h3,M⟩
   ·exact⟨_,_,_,_,hM.sb,fun h=>(by cases h),fun h=>(by cases h),hM.fin (c0:=I K 0) (c1:=I K 0) (AN cA)⟩
   ·apply Exists.intro;refine⟨?hq,?hl,?hend⟩
    case hq =>
     rintro l L w1 hl⟨y0,y1,z0,z1,U,h2,h3,M⟩;simp only[Jp,AI,AH,Cd,B0,B3]at hl;subst hl;have cI:Nonempty (Hm w1):=⟨⟨w1,AD _ _⟩⟩;have q0:=B1 M.o0;have q1:=B1 M.o1;have q2:=B1 M.i0;have q3:=B1 M.i1;clear h2 h3
     repeat(go_big_quiet_step(fail))
     exact Bg R
    case hl =>
     rintro i o hi ho L w1⟨y0,y1,z0,z1,U,h2,h3,M⟩ hL;simp only[Bu,Ch,Dk]at hi;rcases hi with rfl|rfl
     ·simp only[AI,AH,Bc]at ho;subst ho;refine As R 43 (Am 6) (Am 84) R (w.heap.size+1) 0 [S A5 rows'.length c5,(S (O ⟨g9,0,N⟩) (X.gens.length+1) c9)] R R (by simp[Ar]) F8 U.thereA ?_;intro W3 hk;unfold wpList;exact⟨rfl,rfl,_,_,z0,z1,by rw[hk];exact U.giveA _ _,fun _=>⟨rfl,rfl⟩,fun h=>h3 h,by rw[hk];exact M.sets (by omega)⟩
     ·simp only[AI,AH,Bc]at ho;subst ho;refine As R 61 (Am 7) (Am 85) R (w.heap.size+2) 0 [I K (k:Int),I K H] R R (by simp[Ar]) Im U.thereB ?_;intro W3 hk;unfold wpList;exact⟨rfl,rfl,y0,y1,_,_,by rw[hk];exact U.giveB _ _,fun h=>h2 h,fun _=>⟨rfl,rfl⟩,by rw[hk];exact M.sets (by omega)⟩
    case hend =>
     rintro L w1⟨y0,y1,z0,z1,U,h2,h3,M⟩ hm;obtain⟨rfl,rfl⟩:=h2 (hm 2 (by simp));obtain⟨rfl,rfl⟩:=h3 (hm 3 (by simp));clear h2 h3 hm;go_wp2;have t0:=U.t0;have t1:=U.t1;have s0:=U.s0;have s1:=U.s1;have h8:w1.ownsRow wr.heap.size 3 1 (S (O ⟨g9,0,N⟩) ((X.gens++[(0:Int)]).set k H).length c9) ((X.gens++[(0:Int)]).set k H).length (FD ((X.gens++[(0:Int)]).set k H)):=(by have:=M.p8;rw[show((X.gens++[(0:Int)]).set k H).length=X.gens.length+1 by simp]at this⊢;exact this);refine AG (by simp[results,Tryz.results60,go_sem,t0,t1,s0,s1]<;>rfl) R ⟨A5,c5,O ⟨g9,0,N⟩,c9,?_,⟨⟨Js M.p5,Of h8⟩,Hf M.p5 (by have:=M.hB;omega),.inr (Hf h8 (by have:=M.hB;omega))⟩,U.bel⟩
     rw[show((X.gens++[(0:Int)]).set k H).length=X.gens.length+1 by simp]
theorem WG(A:Option Addr)(J:Nat)(G:Option Addr)(D:Nat)(X:Wd)(E n:Int)(w:World)(hX:FX w A J G D X)(hm:(FP X).1=0)(hs:FV E=true)(hv:Hx n=true)(k:Nat)(H:Int)(hI:(Gl X).1=((k:Int),H))(hJ:(Gl X).2=0)(hy:k<X.gens.length)(rows':List D7)(V:Lo X.rows (MR (k:Int) H E n)=rows'):
  Calls Au 60 #[Up A J G D X,I K E,I K n] w fun e w'=>∃A' c' G' hK,e=Ao (Ai #[Af #[S A' rows'.length c',S G' (X.gens.set k H).length hK],Af #[I K (k:Int),I K H],I K 0])∧Hd w.heap.size w' N A' c' G' hK ⟨rows',X.gens.set k H⟩∧Below w.heap.size w w':=by
 have hM:=SB.start w (S A X.rows.length J) (S G X.gens.length D);have hP:=fun W (Y:Below w.heap.size w W)=>Gh A X.rows.length J G X.gens.length D (fun j=>X.rows.getD j dR) (fun j=>X.gens.getD j 0) W (by have:=(GD hm).1;omega) (hX.rows.below Y) (hX.gens.below Y);have eW:Hk (fun j=>X.rows.getD j dR) X.rows.length X.gens.length (fun j=>X.gens.getD j 0)=FP X:=rfl;rw[eW]at hP;unfold Gr FF at hP;obtain⟨cA,cB,co⟩:=GD hm;rw[hm]at hP;have Z:=fun W (Y:Below w.heap.size w W)=>O7 A J G D X W (by omega) (by omega) (fun j hj=>by have:=co j hj;omega) (hX.below Y);rw[hI,hJ]at Z;unfold Up FF FJ at Z;dsimp only at Z;have hz:0≤E∧E≤255:=by unfold FV at hs;simpa using hs
 obtain⟨hz,cp⟩:=hz;have hN:=fun W=>Ou E W hz cp;have hA:=IG E;have hD:=Gm n;rw[hs]at hA;rw[hv]at hD;have ha:=fun W (h:FX W A J G D X)=>NP A J G D X (MR (k:Int) H E n) W (by omega) h;rw[V]at ha;unfold Up FF Hi at ha;obtain⟨i3,hO,hQ,hR,hS⟩:=BC info3;obtain⟨r,hr⟩:∃r,r=MR (k:Int) H E n:=⟨_,rfl⟩;rw[←hr]at ha;have cq:=An hr;have hc:=kA E;generalize (FP X).2=wa at *;have HP:=An hP;have cr:=An Z;have hT:=An hN;have ct:=An hA;have cu:=An hD;have cv:=An ha;have cw:=An hO;have hU:=An hQ;have hV:=An hR;have hW:=An hS;have hY:=An hc;clear hP Z hN hA hD ha hO hQ hR hS eW V hI hJ hm hs hv hr hc;have cC:=An hy;have k0:(0:Int)≤(k:Int):=by omega
 have k1:(k:Int)<(X.gens.length:Int):=by omega
 have k3:decide (X.gens.length≤k)=false:=by simp;omega
 have k4:decide ((X.gens.length:Int)≤(k:Int))=false:=by simp;omega
 have hZ:=An hy;clear hy;unfold Up FF;go_enter Tryz.func60,Tryz.ntmps60
 go_wp2_with(first
  |(go_at_call 55;refine(AN HP _ hM.bel).mono ?_;rintro e w5⟨rfl,ca⟩;have cc:=hM.below ca;have hn:=cc.below (Fv.alloc Fu (Al #[I K 0,I K wa] 29));have r0:=hn.r0;have r1:=hn.r1;clear ca cc)
  |(go_at_call 45;refine(AN ct _).mono ?_;rintro e w1⟨rfl,hw⟩;obtain rfl:=hw.symm)
  |(go_at_call 97;refine(AN cu _).mono ?_;rintro e w1⟨rfl,hw⟩;obtain rfl:=hw.symm)
  |(go_at_call 99;refine(AN cr _ hn.bel).mono ?_;rintro e w6⟨rfl,cd⟩;have hE:=hn.below cd;have ce:=(XB.start hE (k:Int) H E (Lr (k:Int) H E n 0).v (fun t ht=>by simp[Lr]));have cx:=An hE.sz;clear cd hE r0 r1)
  |(go_at_call 100;refine(AN hT _).mono ?_;rintro e w7⟨rfl,cf,cy⟩;have cg:=An (ce.below cf);clear cf cy ce))
 go_loopw [51] (fun t wr=>∃j:Nat,j≤8∧t=I K j∧XB w (S A X.rows.length J) (S G X.gens.length D) w6.heap.size (w6.heap.size+1) (k:Int) H (Lr (k:Int) H E n j) wr) (fun t _=>8 - (intOf t).toNat)
 case atStart=>exact⟨0,AS _,rfl,AN cg⟩
 case round =>
  clear cg;obtain⟨j,hj,rfl,hC⟩:=hrel;by_cases hF:j<8
  ·have j0:(0:Int)≤(j:Int):=(by omega);have j1:(j:Int)<8:=(by omega);have hc:=AN hY j hF
   cases Y:tb E j
   ·have hG:=An (UP (k:Int) H E n j Y);rw[Y]at hc;clear Y;go_wp2;go_roundw
    case rel=>exact⟨j+1,by omega,by go_num,by rw[AN hG];exact hC⟩
    case measure=>simp[intOf];omega
   ·have hG:=An (SL (k:Int) H E n j Y);rw[Y]at hc;clear Y;go_wp2_with(first
     |(refine FU R 3 (Am 59) (Am 57) R (w6.heap.size+1) (3+j) (I K n) R R R KZ (by have:=Gx (hC.row.v j hF) hC.fr;rwa[AT]at this) ?_;intro cD hp;have hd:=hC.setV j hF n;rw[←hp]at hd;have ch:=An hd;clear hp hd))
    go_roundw
    case rel=>exact⟨j+1,by omega,by go_num,by rw[AN hG];exact AN ch⟩
    case measure=>simp[intOf];omega
  ·obtain rfl:j=8:=(by omega);rw[XY,←AN cq]at hC;have r1:=hC.sb.r1;have lr:=AL wr _ r1;clear hY hT;go_wp2_with(first
    |(at_builtin;refine Km _ R (Am 61) (Am 63) 23 R wr.heap.size 3 i3 _ 1 8 Tryz.underlying23 (AN cw) (AN hU) (AN hV) (AN hW) R (by decide) wr.heap.size R (SY wr) G X.gens.length D (FD X.gens) R (hX.below (hC.sb.bel.trans ((GF wr (Al #[] 3)).mono hC.sb.bel.size))).gens.copies (by unfold maxLen;omega) (by omega) (by simp) ?_;intro v8 w8 q8 ci;obtain⟨g9,c9,rfl,_,_⟩:=Gi q8 (show 0<X.gens.length by omega);have hf:=GB.start hC (gens:=X.gens) ci q8;have i0:=hf.xb.i0;have i1:=hf.xb.i1;clear q8 ci r1 lr)
    |(refine FU R 3 (Am 78) (Am 77) R g9 k (I K H) R R R KZ (hf.thereG R k (AN hZ)) ?_;intro W5 cj;have F:=hf.setG R k (AN hZ) H;rw[←cj]at F;obtain⟨p0,p1,p2,p3,p4,p5,p6,p7,p8,p9,cz⟩:=Lg F.xb.row;have r0:=F.xb.sb.r0;have r1:=F.xb.sb.r1;clear cj hf i0 i1)
    |(go_at_call 101;refine(AN cv _ (hX.below F.xb.sb.bel)).mono ?_;rintro e ck⟨A5,c5,rfl,cm,hu⟩;have hx:=F.below hu;have hg:=(hx.out (c0:=S A5 rows'.length c5) (c1:=S G X.gens.length D) (FT (Jt cm F.hs) Fv));clear cm hu hx r0 r1 p0 p1 p2 p3 p4 p5 p6 p7 p8 p9 cz F)
    |(refine FU R 23 (Am 83) (Am 82) R ck.heap.size 1 (S (O ⟨g9,0,N⟩) X.gens.length c9) R R R QR (hg.there12 1 (by decide)) ?_;intro W8 cn;have hH:=hg.set1 (S (O ⟨g9,0,N⟩) X.gens.length c9);rw[←cn]at hH;clear cn hg))
   try go_frame
   refine Ik [0,1,4] [2,3] (fun L W=>∃y0 y1 z0 z1,SB w (S A X.rows.length J) (S G X.gens.length D) y0 y1 z0 z1 W∧(L 2=true→y0=S A5 rows'.length c5∧y1=(S (O ⟨g9,0,N⟩) X.gens.length c9))∧(L 3=true→z0=I K (k:Int)∧z1=I K H)∧FE w w6.heap.size ck.heap.size wr.heap.size (k:Int) H (S A5 rows'.length c5) (S (O ⟨g9,0,N⟩) X.gens.length c9) rows' (X.gens.set k H) W)
    (by kernel_rfl) (by kernel_rfl) (by kernel_rfl) (by kernel_rfl) (by kernel_rfl) (by kernel_rfl) (by kernel_rfl) ?_ ?_ ?_ ?_
   ·rintro L w1 x⟨y0,y1,z0,z1,U,h2,h3,M⟩;exact⟨y0,y1,z0,z1,U.below x.bel,h2,h3,M.below x.bel⟩
   ·rintro L L' w1 he⟨y0,y1,z0,z1,U,h2,h3,M⟩;exact⟨y0,y1,z0,z1,U,by rw[he 2 (by simp)];exact h2,by rw[he 3 (by simp)];exact h3,M⟩
   ·exact⟨_,_,_,_,hH.sb,fun h=>(by cases h),fun h=>(by cases h),hH.fin (c0:=I K 0) (c1:=I K 0) (AN cx)⟩
   ·apply Exists.intro;refine⟨?hq,?hl,?hend⟩
    case hq =>
     rintro l L w1 hl⟨y0,y1,z0,z1,U,h2,h3,M⟩;simp only[Jp,AI,AH,Cd,B0,B3]at hl;subst hl;have cE:Nonempty (Hm w1):=⟨⟨w1,AD _ _⟩⟩;have q0:=B1 M.o0;have q1:=B1 M.o1;have q2:=B1 M.i0;have q3:=B1 M.i1;clear h2 h3
     repeat(go_big_quiet_step(fail))
     exact Bg R
    case hl =>
     rintro i o hi ho L w1⟨y0,y1,z0,z1,U,h2,h3,M⟩ hL;simp only[Bu,Ch,Dk]at hi;rcases hi with rfl|rfl
     ·simp only[AI,AH,Bc]at ho;subst ho;refine As R 43 (Am 6) (Am 84) R (w.heap.size+1) 0 [S A5 rows'.length c5,(S (O ⟨g9,0,N⟩) X.gens.length c9)] R R (by simp[Ar]) F8 U.thereA ?_;intro W3 hh;unfold wpList;exact⟨rfl,rfl,_,_,z0,z1,by rw[hh];exact U.giveA _ _,fun _=>⟨rfl,rfl⟩,fun h=>h3 h,by rw[hh];exact M.sets (by omega)⟩
     ·simp only[AI,AH,Bc]at ho;subst ho;refine As R 61 (Am 7) (Am 85) R (w.heap.size+2) 0 [I K (k:Int),I K H] R R (by simp[Ar]) Im U.thereB ?_;intro W3 hh;unfold wpList;exact⟨rfl,rfl,y0,y1,_,_,by rw[hh];exact U.giveB _ _,fun h=>h2 h,fun _=>⟨rfl,rfl⟩,by rw[hh];exact M.sets (by omega)⟩
    case hend =>
     rintro L w1⟨y0,y1,z0,z1,U,h2,h3,M⟩ hk;obtain⟨rfl,rfl⟩:=h2 (hk 2 (by simp));obtain⟨rfl,rfl⟩:=h3 (hk 3 (by simp));clear h2 h3 hk;go_wp2;have t0:=U.t0;have t1:=U.t1;have s0:=U.s0;have s1:=U.s1;have h8:w1.ownsRow wr.heap.size 3 1 (S (O ⟨g9,0,N⟩) (X.gens.set k H).length c9) (X.gens.set k H).length (FD (X.gens.set k H)):=(by have:=M.p8;rw[show(X.gens.set k H).length=X.gens.length by simp]at this⊢;exact this);refine AG (by simp[results,Tryz.results60,go_sem,t0,t1,s0,s1]<;>rfl) R ⟨A5,c5,O ⟨g9,0,N⟩,c9,?_,⟨⟨Js M.p5,Of h8⟩,Hf M.p5 (by have:=M.hB;omega),.inr (Hf h8 (by have:=M.hB;omega))⟩,U.bel⟩
     rw[show(X.gens.set k H).length=X.gens.length by simp]
theorem WE(A:Option Addr)(E:Nat)(G:Option Addr)(h:Nat)(X:Wd)(H n:Int)(w:World)(hd:X.rows.length≤9223372036854775807)(hX:FX w A E G h X)(L:(FP X).1=0)(hs:FV H=false):
  Calls Au 60 #[Up A E G h X,I K H,I K n] w fun e w'=>∃A' c' G' M,e=Ao (Ai #[Af #[S A' 0 c',S G' 0 M],Af #[I K 0,I K 0],I K 3])∧Hd w.heap.size w' N A' c' G' M FL∧Below w.heap.size w w':=by
 have U:=SB.start w (S A X.rows.length E) (S G X.gens.length h);have hP:=fun W (hb:Below w.heap.size w W)=>Gh A X.rows.length E G X.gens.length h (fun j=>X.rows.getD j dR) (fun j=>X.gens.getD j 0) W (by omega) (hX.rows.below hb) (hX.gens.below hb);have eW:Hk (fun j=>X.rows.getD j dR) X.rows.length X.gens.length (fun j=>X.gens.getD j 0)=FP X:=rfl;rw[eW]at hP;unfold Gr FF at hP;rw[L]at hP;generalize (FP X).2=wa at *;have V:=IG H;rw[hs]at V;clear eW L hs;unfold Up FF;go_enter Tryz.func60,Tryz.ntmps60
 go_wp2_with(first
  |(go_at_call 55;refine(hP _ U.bel).mono ?_;rintro e w5⟨rfl,Y⟩;have Z:=U.below Y;have F:=Z.below (Fv.alloc Fu (Al #[I K 0,I K wa] 29));have r0:=F.r0;have r1:=F.r1;clear Y Z)
  |(go_at_call 45;refine(V _).mono ?_;rintro e w1⟨rfl,hw⟩;obtain rfl:=hw.symm)
  |(refine As R 43 (Am 6) (Am 34) R (w.heap.size+1) 0 [S N 0 0,S N 0 0] R R (by simp[Ar]) F8 F.thereA ?_;intro W3 ha;have J:=F.giveA (S N 0 0) (S N 0 0);rw[←ha]at J;clear ha)
  |(refine As R 61 (Am 7) (Am 35) R (w.heap.size+2) 0 [I K 0,I K 0] R R (by simp[Ar]) Im J.thereB ?_;intro W4 hc;have D:=J.giveB (I K 0) (I K 0);rw[←hc]at D;clear hc))
 have t0:=D.t0;have t1:=D.t1;have s0:=D.s0;have s1:=D.s1;refine AG (by simp[results,Tryz.results60,go_sem,t0,t1,s0,s1]<;>rfl) R ⟨N,0,N,0,rfl,Gp _ _ _,D.bel⟩
theorem WD(A:Option Addr)(E:Nat)(G:Option Addr)(h:Nat)(X:Wd)(H n:Int)(w:World)(he:X.rows.length≤9223372036854775807)(hX:FX w A E G h X)(L:(FP X).1=0)(hs:FV H=true)(hv:Hx n=false):
  Calls Au 60 #[Up A E G h X,I K H,I K n] w fun e w'=>∃A' c' G' M,e=Ao (Ai #[Af #[S A' 0 c',S G' 0 M],Af #[I K 0,I K 0],I K 3])∧Hd w.heap.size w' N A' c' G' M FL∧Below w.heap.size w w':=by
 have U:=SB.start w (S A X.rows.length E) (S G X.gens.length h);have hP:=fun W (hb:Below w.heap.size w W)=>Gh A X.rows.length E G X.gens.length h (fun j=>X.rows.getD j dR) (fun j=>X.gens.getD j 0) W (by omega) (hX.rows.below hb) (hX.gens.below hb);have eW:Hk (fun j=>X.rows.getD j dR) X.rows.length X.gens.length (fun j=>X.gens.getD j 0)=FP X:=rfl;rw[eW]at hP;unfold Gr FF at hP;rw[L]at hP;generalize (FP X).2=wa at *;have V:=IG H;rw[hs]at V;have Y:=Gm n;rw[hv]at Y;clear eW L hs hv;unfold Up FF;go_enter Tryz.func60,Tryz.ntmps60
 go_wp2_with(first
  |(go_at_call 55;refine(hP _ U.bel).mono ?_;rintro e w5⟨rfl,Z⟩;have ha:=U.below Z;have F:=ha.below (Fv.alloc Fu (Al #[I K 0,I K wa] 29));have r0:=F.r0;have r1:=F.r1;clear Z ha)
  |(go_at_call 45;refine(V _).mono ?_;rintro e w1⟨rfl,hw⟩;obtain rfl:=hw.symm)
  |(go_at_call 97;refine(Y _).mono ?_;rintro e w1⟨rfl,hw⟩;obtain rfl:=hw.symm)
  |(refine As R 43 (Am 6) (Am 34) R (w.heap.size+1) 0 [S N 0 0,S N 0 0] R R (by simp[Ar]) F8 F.thereA ?_;intro W3 hc;have J:=F.giveA (S N 0 0) (S N 0 0);rw[←hc]at J;clear hc)
  |(refine As R 61 (Am 7) (Am 35) R (w.heap.size+2) 0 [I K 0,I K 0] R R (by simp[Ar]) Im J.thereB ?_;intro W4 hd;have D:=J.giveB (I K 0) (I K 0);rw[←hd]at D;clear hd))
 have t0:=D.t0;have t1:=D.t1;have s0:=D.s0;have s1:=D.s1;refine AG (by simp[results,Tryz.results60,go_sem,t0,t1,s0,s1]<;>rfl) R ⟨N,0,N,0,rfl,Gp _ _ _,D.bel⟩
theorem UL(A:Option Addr)(E:Nat)(G:Option Addr)(h:Nat)(X:Wd)(J n:Int)(w:World)(hi:X.rows.length≤9223372036854775807)(hX:FX w A E G h X)(L:(FP X).1=0)(hs:FV J=true)(hv:Hx n=true)(hk:(Gl X).2≠0):
  Calls Au 60 #[Up A E G h X,I K J,I K n] w fun e w'=>∃A' c' G' U,e=Ao (Ai #[Af #[S A' 0 c',S G' 0 U],Af #[I K 0,I K 0],I K (Gl X).2])∧Hd w.heap.size w' N A' c' G' U FL∧Below w.heap.size w w':=by
 have V:=SB.start w (S A X.rows.length E) (S G X.gens.length h);have hP:=fun W (hb:Below w.heap.size w W)=>Gh A X.rows.length E G X.gens.length h (fun j=>X.rows.getD j dR) (fun j=>X.gens.getD j 0) W (by omega) (hX.rows.below hb) (hX.gens.below hb);have eW:Hk (fun j=>X.rows.getD j dR) X.rows.length X.gens.length (fun j=>X.gens.getD j 0)=FP X:=rfl;rw[eW]at hP;unfold Gr FF at hP;obtain⟨hl,hm,hh⟩:=GD L;have Y:=fun W (hb:Below w.heap.size w W)=>O7 A E G h X W (by omega) (by omega) (fun j hj=>by have:=hh j hj;omega) (hX.below hb);unfold Up FF FJ at Y;rw[L]at hP;generalize (FP X).2=wa at *;generalize (Gl X).1.1=ni at *;generalize (Gl X).1.2=ng at *;generalize (Gl X).2=ne at *;have Z:=IG J;rw[hs]at Z;have ha:=Gm n;rw[hv]at ha;clear eW L hs hv;unfold Up FF;go_enter Tryz.func60,Tryz.ntmps60
 go_wp2_with(first
  |(go_at_call 55;refine(hP _ V.bel).mono ?_;rintro e w5⟨rfl,hc⟩;have hd:=V.below hc;have F:=hd.below (Fv.alloc Fu (Al #[I K 0,I K wa] 29));have r0:=F.r0;have r1:=F.r1;clear hc hd)
  |(go_at_call 45;refine(Z _).mono ?_;rintro e w1⟨rfl,hw⟩;obtain rfl:=hw.symm)
  |(go_at_call 97;refine(ha _).mono ?_;rintro e w1⟨rfl,hw⟩;obtain rfl:=hw.symm)
  |(go_at_call 99;refine(Y _ F.bel).mono ?_;rintro e w6⟨rfl,he⟩;have D:=F.below he;have H:=D.below (Fv.alloc Fu (Al #[I K ni,I K ng] 61));have hn:=H.r0;have ho:=H.r1;clear he r0 r1)
  |(refine As R 43 (Am 6) (Am 43) R (w.heap.size+1) 0 [S N 0 0,S N 0 0] R R (by simp[Ar]) F8 H.thereA ?_;intro W3 hf;have M:=H.giveA (S N 0 0) (S N 0 0);rw[←hf]at M;clear hf)
  |(refine As R 61 (Am 7) (Am 44) R (w.heap.size+2) 0 [I K 0,I K 0] R R (by simp[Ar]) Im M.thereB ?_;intro W4 hg;have D:=M.giveB (I K 0) (I K 0);rw[←hg]at D;clear hg))
 have t0:=D.t0;have t1:=D.t1;have s0:=D.s0;have s1:=D.s1;refine AG (by simp[results,Tryz.results60,go_sem,t0,t1,s0,s1]<;>rfl) R ⟨N,0,N,0,rfl,Gp _ _ _,D.bel⟩
theorem S7(A:Option Addr)(F:Nat)(G:Option Addr)(D:Nat)(X:Wd)(hc n:Int)(w:World)(hf:X.rows.length≤9223372036854775807)(hX:FX w A F G D X)(hg:(FP X).1≠0):
  Calls Au 60 #[Up A F G D X,I K hc,I K n] w fun e w'=>∃A' c' G' U,e=Ao (Ai #[Af #[S A' 0 c',S G' 0 U],Af #[I K 0,I K 0],I K (FP X).1])∧Hd w.heap.size w' N A' c' G' U FL∧Below w.heap.size w w':=by
 have V:=SB.start w (S A X.rows.length F) (S G X.gens.length D);have hP:=fun W (hb:Below w.heap.size w W)=>Gh A X.rows.length F G X.gens.length D (fun j=>X.rows.getD j dR) (fun j=>X.gens.getD j 0) W (by omega) (hX.rows.below hb) (hX.gens.below hb);have eW:Hk (fun j=>X.rows.getD j dR) X.rows.length X.gens.length (fun j=>X.gens.getD j 0)=FP X:=rfl;rw[eW]at hP;unfold Gr FF at hP;generalize (FP X).2=wa at *;generalize (FP X).1=we at *;clear eW;unfold Up FF;go_enter Tryz.func60,Tryz.ntmps60
 go_wp2_with(first
  |(go_at_call 55;refine(hP _ V.bel).mono ?_;rintro e w5⟨rfl,Y⟩;have M:=V.below Y;have hd:=M.below (Fv.alloc Fu (Al #[I K we,I K wa] 29));have Z:=M.sz;clear Y M))
 have ha:(w5.alloc (Al #[I K we,I K wa] 29)).cell? ⟨w5.heap.size,0,N⟩=O (I K we):=by simp
 have he:=An ha;clear ha;refine Ik [0,1,2,3,6] [4,5] (fun _ W=>SB w (S A X.rows.length F) (S G X.gens.length D) (S N 0 0) (S N 0 0) (I K 0) (I K 0) W∧W.cell? ⟨w5.heap.size,0,N⟩=O (I K we)) (by kernel_rfl) (by kernel_rfl) (by kernel_rfl) (by kernel_rfl) (by kernel_rfl) (by kernel_rfl) (by kernel_rfl)
  (fun L w1 x h=>⟨h.1.below x.bel,AW x.bel h.2⟩) (fun _ _ _ _ h=>h) ⟨hd,AN he⟩ ?_
 apply Exists.intro;refine⟨?hq,?hl,?hend⟩
 case hq =>
  intro l L w1 hl E;simp only[Jp,AI,AH,Cd,B0,B3]at hl;subst hl;have hh:Nonempty (Hm w1):=⟨⟨w1,AD _ _⟩⟩;have f0:=B1 E.2;clear E
  repeat(go_big_quiet_step(fail))
  exact Bg R
 case hl =>
  intro i o hi ho L w1 E hL;simp only[Bu,Ch,Dk]at hi;rcases hi with rfl|rfl
  ·simp only[AI,AH,Bc]at ho;subst ho;refine As R 43 (Am 6) (Am 22) R (w.heap.size+1) 0 [S N 0 0,S N 0 0] R R (by simp[Ar]) F8 E.1.thereA ?_;intro W3 H;unfold wpList;refine⟨rfl,rfl,by rw[H];exact E.1.giveA _ _,?_⟩;rw[H];exact(FZ (by have:=Z;simp only[ne_eq];omega)).trans E.2
  ·simp only[AI,AH,Bc]at ho;subst ho;refine As R 61 (Am 7) (Am 23) R (w.heap.size+2) 0 [I K 0,I K 0] R R (by simp[Ar]) Im E.1.thereB ?_;intro W3 H;unfold wpList;refine⟨rfl,rfl,by rw[H];exact E.1.giveB _ _,?_⟩;rw[H];exact(FZ (by have:=Z;simp only[ne_eq];omega)).trans E.2
 case hend =>
  intro L w1 E _;have J:=E.1;clear E;go_wp2;have t0:=J.t0;have t1:=J.t1;have s0:=J.s0;have s1:=J.s1;refine AG (by simp[results,Tryz.results60,go_sem,t0,t1,s0,s1]<;>rfl) R ⟨N,0,N,0,rfl,Gp _ _ _,J.bel⟩
theorem QZ(A:Option Addr)(H:Nat)(G:Option Addr)(F:Nat)(X:Wd)(D n:Int)(w:World)(L:X.rows.length≤9223372036854775807)(hX:FX w A H G F X):
  Calls Au 60 #[Up A H G F X,I K D,I K n] w fun e w'=>∃A' c' G' ha,e=Ao (Ai #[Up A' c' G' ha (FQ X D n).2.2,FJ (FQ X D n).2.1.1 (FQ X D n).2.1.2,I K (FQ X D n).1])∧Hd w.heap.size w' N A' c' G' ha (FQ X D n).2.2∧Below w.heap.size w w':=by
 by_cases E:(FP X).1=0
 ·cases M:FV D
  ·have e:FQ X D n=(3,(0,0),FL):=(by unfold FQ;rw[AA (by simpa using E)];simp[M]);rw[e];exact WE A H G F X D n w L hX E M
  ·cases U:Hx n
   ·have e:FQ X D n=(3,(0,0),FL):=(by unfold FQ;rw[AA (by simpa using E)];simp[M,U]);rw[e];exact WD A H G F X D n w L hX E M U
   ·by_cases J:(Gl X).2=0
    ·obtain⟨k,V,he⟩:=Xh X J;have Y:(Gl X).1=((k:Int),(Gl X).1.2):=EO V R;have Z:∀j,j<X.rows.length→(E' X j).ix≠(k:Int):=fun j hj=>by
      obtain⟨k',hc,h⟩:=PC X X.gens.length 0 (by omega) J;have e:(k':Int)=(k:Int):=hc.symm.trans V;rw[←e];rcases h with h|h
      ·exact h.2.1 j hj
      ·have:=((F7 X).1 E).il j hj;omega
     have hd:=Zx ((F7 X).1 E) (MR (k:Int) (Gl X).1.2 D n) (fun j hj=>Z j hj);have e:FQ X D n=(0,((k:Int),(Gl X).1.2),⟨Lo X.rows (MR (k:Int) (Gl X).1.2 D n),Iy X.gens (k:Int) (Gl X).1.2⟩):=by
      unfold FQ;rw[AA (by simpa using E),AA (by simp[M,U]),AA (by simpa using J),hd,V];exact B8 (fun x=>((0:Int),x,_)) Y
     rw[e];unfold Iy;by_cases hb:k=X.gens.length
     ·rw[AF (by omega)];have hg:(X.gens++[(0:Int)]).set k (Gl X).1.2=X.gens++[(Gl X).1.2]:=(by rw[hb];simp);have:=WH A H G F X D n w hX E M U k (Gl X).1.2 Y J hb _ R;rw[hg]at this;exact this
     ·rw[AA (by omega),Bi];exact WG A H G F X D n w hX E M U k (Gl X).1.2 Y J (by omega) _ R
    ·have e:FQ X D n=((Gl X).2,(0,0),FL):=(by unfold FQ;rw[AA (by simpa using E),AA (by simp[M,U]),AF J]);rw[e];exact UL A H G F X D n w L hX E M U J
 ·have e:FQ X D n=((FP X).1,(0,0),FL):=by unfold FQ;rw[AF E]
  rw[e];exact S7 A H G F X D n w L hX E
end Go.Proofs.YtnbleebilmghcabGreat
