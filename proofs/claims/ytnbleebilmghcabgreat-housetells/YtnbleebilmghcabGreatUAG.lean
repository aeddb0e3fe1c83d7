/- plain.Wrong, whatever the world. -/
import Derived.Test.YtnbleebilmghcabGreatUAF
set_option linter.all false
set_option maxRecDepth 8000
set_option maxHeartbeats 4000000
open Go.Value renaming int→I,slice→S,agg→Af
open Go.IntKind renaming i64→K
open Option renaming none→N,some→O
open Go.Obj renaming cells→Al
open Go.Ending renaming returned→Ao
open Go.Proofs.Tryz renaming prog→Au
namespace Go.Proofs.YtnbleebilmghcabGreat
open Go Go.RowKit
attribute [local go_sem ↓] Go.wp_at_zero Go.wp_at_succ
def Xp(f:Nat→Int)(r:Int×Int):Nat→Nat→Int×Int
 |0,_=>r
 |m+1,j=>if f j<1∨1000<f j then(3,(j:Int))else Xp f r m (j+1)
def Rv(R:Nat→D7)(gn:Nat)(f:Nat→Int):Nat→Nat→Int×Int
 |0,_=>(0,0)
 |m+1,j=>if Mk R gn f j=0 then Rv R gn f m (j+1)else(Mk R gn f j,(j:Int))
def Hk(R:Nat→D7)(n gn:Nat)(f:Nat→Int):Int×Int:=if 60<gn then(4,0)else Xp f (Rv R gn f n 0) gn 0
def Gr(x:Int×Int):Value:=Af #[I K x.1,I K x.2]
theorem Uz(f:Nat→Int)(r:Int×Int)(n j:Nat)(h:j<n):Xp f r (n - j) j=if f j<1∨1000<f j then(3,(j:Int))else Xp f r (n - (j+1)) (j+1):=by
 rw[show n - j=(n - (j+1))+1 by omega,Xp]
theorem UW(R:Nat→D7)(D:Nat)(f:Nat→Int)(n j:Nat)(h:j<n):Rv R D f (n - j) j=if Mk R D f j=0 then Rv R D f (n - (j+1)) (j+1)else(Mk R D f j,(j:Int)):=by
 rw[show n - j=(n - (j+1))+1 by omega,Rv]
structure VB(w:World)(A:Option Addr)(n cap:Nat)(G:Option Addr)(gn gcap:Nat)(W:World):Prop where
 bel:Below w.heap.size w W
 r0:W.cell? ⟨w.heap.size,0,N⟩=O (S A n cap)
 r1:W.cell? ⟨w.heap.size,1,N⟩=O (S G gn gcap)
 t0:W.cell? ⟨w.heap.size+1,0,N⟩=O (I K 0)
 t1:W.cell? ⟨w.heap.size+1,1,N⟩=O (I K 0)
 f:∀i,W.frozen? ⟨w.heap.size+1,i,N⟩=false
theorem VB.below{w:World}{A:Option Addr}{n F:Nat}{G:Option Addr}{H D:Nat}{W W1:World}(h:VB w A n F G H D W)(E:Below W.heap.size W W1):VB w A n F G H D W1:=by
 have z:=AL W _ h.t0;exact⟨h.bel.trans (E.mono h.bel.size),AW E h.r0,AW E h.r1,AW E h.t0,AW E h.t1,fun i=>(E.frozen (p:=⟨w.heap.size+1,i,N⟩) z).trans (h.f i)⟩
theorem VB.start(w:World)(A:Option Addr)(n D:Nat)(G:Option Addr)(F h:Nat):VB w A n D G F h ((w.alloc (Al #[S A n D,S G F h] 43)).alloc (Al #[I K 0,I K 0] 29)):=by
 obtain⟨w1,E⟩:∃W,W=w.alloc (Al #[S A n D,S G F h] 43):=⟨_,rfl⟩;have L:w1.heap.size=w.heap.size+1:=by rw[E];simp
 have J:Below w.heap.size w w1:=by rw[E];exact Fv.alloc Fu _
 have M:w1.cell? ⟨w.heap.size,0,N⟩=O (S A n D):=by rw[E];simp
 have U:w1.cell? ⟨w.heap.size,1,N⟩=O (S G F h):=by rw[E];simp
 rw[←E];clear E;have H:Below w1.heap.size w1 (w1.alloc (Al #[I K 0,I K 0] 29)):=Fv.alloc Fu _;refine⟨J.trans (H.mono J.size),AW H M,AW H U,?_,?_,fun i=>?_⟩<;>rw[←L]<;>simp[go_sem]
theorem J2(A:Option Addr)(n F:Nat)(G:Option Addr)(h E:Nat)(R:Nat→D7)(f:Nat→Int)(w:World)(hn:n≤9223372036854775807)(hR:JR w A n R)(hG:LA w G h f):
  Calls Au 35 #[FF A n F G h E] w fun e w'=>e=Ao (Gr (Hk R n h f))∧Below w.heap.size w w':=by
 have hV:=VB.start w A n F G h E;have D:=An hV;have U:=An (fun(W:World) (hb:Below w.heap.size w W) (j:Nat) (hj:j<n)=>Ss A n F G h E R f j W hj hn (hR.below hb) (hG.below hb));have HG:=An hG;clear hV hR hG;unfold Hk;unfold FF at *;by_cases hg:60<h
 ·have hf:(60:Int)<(h:Int):=by omega
  simp only[hg,BX];go_enter Tryz.func35,Tryz.ntmps35
  go_wp2;refine AG (v:=Gr (4,0)) (by simp[results,Tryz.results35,go_sem,Gr]) rfl ⟨rfl,?_⟩;go_grown
 ·have hf:¬ (60:Int)<(h:Int):=by omega
  simp only[hg,BG];go_enter Tryz.func35,Tryz.ntmps35
  go_wp2;obtain⟨W,hW⟩:∃W,W=(w.alloc (Al #[S A n F,S G h E] 43)).alloc (Al #[I K 0,I K 0] 29):=⟨_,rfl⟩;have hV:=AN D;rw[←hW]at hV⊢;clear hW D;have D:=An hV;clear hV;go_loop [15] (fun i=>∃j:Nat,j≤h∧i=I K j∧Xp f (Rv R h f n 0) h 0=Xp f (Rv R h f n 0) (h - j) j) (fun i=>h - (intOf i).toNat)
  case atStart=>exact⟨0,AS _,rfl,rfl⟩
  case round =>
   obtain⟨j,hj,rfl,hF⟩:=hrel;have V:=An hF;clear hF;by_cases ha:j<h
   ·have j0:(0:Int)≤(j:Int):=(by omega);have j1:(j:Int)<(h:Int):=(by omega);obtain⟨b,hi,rfl,cg⟩:=AN HG j ha;have cg:=AW (AN D).bel cg;have HS:=An (Uz f (Rv R h f n 0) h j ha);clear HG U;generalize f j=fj at *;have hc:fj<1∨(¬ fj<1∧1000<fj)∨(¬ fj<1∧¬ 1000<fj):=(by omega);rcases hc with h1|⟨h1,h2⟩|⟨h1,h2⟩
    ·have Z:=(AN D).t0;have t1:=(AN D).t1;have f0:=(AN D).f 0;have f1:=(AN D).f 1;go_wp2;have M:=(AN V).trans ((AN HS).trans (AF (.inl h1)));refine AG (v:=Gr (3,(j:Int))) (by simp[results,Tryz.results35,go_sem,Gr,Z,t1]) rfl ⟨by rw[M],?_⟩;exact Bv (w.heap.size+1) (by omega) [I K 3,I K (j:Int)] 0 W (AN D).bel
    ·have Z:=(AN D).t0;have t1:=(AN D).t1;have f0:=(AN D).f 0;have f1:=(AN D).f 1;go_wp2;have M:=(AN V).trans ((AN HS).trans (AF (.inr h2)));refine AG (v:=Gr (3,(j:Int))) (by simp[results,Tryz.results35,go_sem,Gr,Z,t1]) rfl ⟨by rw[M],?_⟩;exact Bv (w.heap.size+1) (by omega) [I K 3,I K (j:Int)] 0 W (AN D).bel
    ·go_wp2;go_round
     case rel=>exact⟨j+1,by omega,by go_num,(AN V).trans ((AN HS).trans (AA (by omega)))⟩
     case measure=>simp[intOf];omega
   ·obtain rfl:j=h:=(by omega);have M:Xp f (Rv R j f n 0) j 0=Rv R j f n 0:=(by rw[AN V,BR];rfl);have hd:=An M;have r0:=(AN D).r0;have r1:=(AN D).r1;clear HG M V;go_wp2;go_loopw [32] (fun i wr=>∃k:Nat,k≤n∧i=I K k∧Rv R j f n 0=Rv R j f (n - k) k∧VB w A n F G j E wr) (fun i _=>n - (intOf i).toNat)
    case atStart=>exact⟨0,AS _,rfl,rfl,AN D⟩
    case round =>
     clear D r0 r1;obtain⟨k,hk,rfl,hF,H⟩:=hrel;have V:=An hF;clear hF;by_cases Y:k<n
     ·have k0:(0:Int)≤(k:Int):=(by omega);have k1:(k:Int)<(n:Int):=(by omega);have HC:=An (AN U wr H.bel k Y);have HS:=An (UW R j f n k Y);have r0:=H.r0;have r1:=H.r1;have HN:=An H;clear H U;generalize Mk R j f k=ej at *;by_cases he:ej=0
      ·subst he;go_wp2_with(first
        |(go_at_call 67;refine(AN HC).mono ?_;rintro e w5⟨rfl,J⟩;have hh:=An ((AN HN).below J);clear J))
       go_roundw
       case rel=>exact⟨k+1,by omega,by go_num,(AN V).trans ((AN HS).trans (by simp)),AN hh⟩
       case measure=>simp[intOf];omega
      ·go_wp2_with(first
        |(go_at_call 67;refine(AN HC).mono ?_;rintro e w5⟨rfl,J⟩;have L:=(AN HN).below J;have Z:=L.t0;have t1:=L.t1;have f0:=L.f 0;have f1:=L.f 1;clear J))
       have M:=(AN hd).trans ((AN V).trans ((AN HS).trans (AA he)));refine AG (v:=Gr (ej,(k:Int))) (by simp[results,Tryz.results35,go_sem,Gr,Z,t1]) rfl ⟨by rw[M],?_⟩;exact Bv (w.heap.size+1) (by omega) [I K ej,I K (k:Int)] 0 w5 L.bel
     ·obtain rfl:k=n:=(by omega);have M:Xp f (Rv R j f k 0) j 0=(0,0):=(by rw[AN hd,AN V,BR];rfl);have Z:=H.t0;have t1:=H.t1;have f0:=H.f 0;have f1:=H.f 1;have HB:=An H.bel;clear H U;go_wp2;refine AG (v:=Gr (0,0)) (by simp[results,Tryz.results35,go_sem,Gr,Z,t1]) rfl ⟨by rw[M],?_⟩;exact Bv (w.heap.size+1) (by omega) [I K 0,I K 0] 0 wr (AN HB)
end Go.Proofs.YtnbleebilmghcabGreat
