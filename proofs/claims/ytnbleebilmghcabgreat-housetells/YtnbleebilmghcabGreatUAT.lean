/- SStable, STog, STog2, SAsk, SChg -/
import Derived.Test.YtnbleebilmghcabGreatUAL
import Derived.Test.YtnbleebilmghcabGreatUAP
import Derived.Test.YtnbleebilmghcabGreatUAN
import Derived.Test.YtnbleebilmghcabGreatUAQ
import Derived.Test.YtnbleebilmghcabGreatUAS
set_option linter.all false
set_option maxRecDepth 8000
set_option maxHeartbeats 8000000
open Go.Value renaming int→I,slice→S,pointer→Ae,agg→Af,tuple→Ai,oneCell'→Ar
open Go.IntKind renaming i64→K
open Option renaming none→N,some→O
open Go.Obj renaming cells→Al
open Go.Operand renaming tmp→Am
open Go.Ending renaming returned→Ao
open Array renaming getD_eq_getD_getElem?→Ap
open Go.Act renaming eval→Aq
open Go.Proofs.Tryz renaming prog→Au
namespace Go.Proofs.YtnbleebilmghcabGreat
open Go Go.RowKit
attribute [local go_sem ↓] Go.wp_at_zero Go.wp_at_succ
theorem XV(g D n:Nat)(R:Nat→D7)(E:n≤4194304):∀(d a m b:Nat) (s:Nat→Nat) (W0:World),b - a≤d→a<m→m<b→b≤n→DL g D W0 (GY R s n) W0→IV (fun p=>(R p).ix) s a m b →
  Calls Au 147 #[S (O ⟨g,0,N⟩) n D,I K (a:Int),I K (m:Int),I K (b:Int),K6] W0 fun e F=>e=Ao (Ai #[])∧∃t,DL g D W0 (GY R t n) F∧SP s t a b∧LC (fun p=>(R p).ix) t a b
 |0,a,m,b,s,W0,hd,am,mb,hbn,h,hH=>by omega
 | d+1,a,m,b,s,W0,hd,am,mb,hbn,h,hH=>by
  by_cases H:m=a+1
  ·subst H;have:=fU g D n a b R s W0 mb hbn E h hH;rw[show((a:Int)+1)=((a+1:Nat):Int) by omega]at this;exact this
  ·by_cases J:b=m+1
   ·subst J;have:=aC g D n a m R s W0 (by omega) hbn E h hH;rw[show((m:Int)+1)=((m+1:Nat):Int) by omega]at this;exact this
   ·exact fV g D n d a m b R s W0 E (fun a m b s W0=>XV g D n R E d a m b s W0) hd (by omega) (by omega) hbn h hH
def iJ(s:Nat→Nat)(a b:Nat):Prop:=∀x,a≤x→x<b→a≤s x∧s x<b
section
variable {key:Nat→Int} {s t:Nat→Nat} {a b a' b' m n c:Nat}
theorem X4(D:∀ x,c≤x→x<n→s x=x)(h:SP s t a b)(L:c≤a)(M:b≤n):iJ t a b:=fun x E F=>by
 obtain⟨j,H,J,e⟩:=h.mem E F;rw[e,D j (by omega) (by omega)];exact⟨H,J⟩
theorem XH(h:SP s t a b)(D:b'≤a∨b≤a'):∀x,a'≤x→x<b'→t x=s x:=fun x E F=>h.out (by omega)
theorem jh(h:SP s t a b)(F:b'≤a∨b≤a')(H:iJ s a' b'):iJ t a' b':=fun x D E=>by rw[XH h F x D E];exact H x D E
theorem g6(h:SP s t a b)(D:b'≤a∨b≤a')(H:LC key s a' b'):LC key t a' b':=fun x y E J F=>by rw[XH h D x E (by omega),XH h D y (by omega) F];exact H x y E J F
theorem ji(D:∀ x,c≤x→x<n→s x=x)(h:SP s t a b)(F:c≤a)(H:a≤b):∀x,b≤x→x<n→t x=x:=fun x J E=>by rw[h.out (by omega)];exact D x (by omega) E
theorem Sf(h:LC key s a m)(D:LC key s m b)(E:iJ s a m)(F:iJ s m b):IV key s a m b:=⟨h,D,fun i j H J L M=>by have:=E i H J;have:=F j L M;omega⟩
theorem eu(h:SP s t a b)(E:iJ s a m)(F:iJ s m b)(U:a≤m)(V:m≤b):iJ t a b:=fun x H J=>by
 obtain⟨j,L,M,e⟩:=h.mem H J;rw[e];rcases Bo j m with D|D
 ·have:=E j L D;omega
 ·have:=F j D M;omega
end
theorem br{g D n:Nat}{R:Nat→D7}{W0:World}(L:n≤4194304)(a b:Nat)(x y:Int)(M:x=(a:Int))(U:y=(b:Int))(s:Nat→Nat)(W:World)(E:a≤b)(F:b≤n)(H:∀ x,a≤x→x<n→s x=x)(h:DL g D W0 (GY R s n) W):
  Calls Au 146 #[S (O ⟨g,0,N⟩) n D,I K x,I K y,K6] W fun e J=>e=Ao (Ai #[])∧∃t,DL g D W0 (GY R t n) J∧SP s t a b∧LC (fun p=>(R p).ix) t a b:=by
 subst M U;exact(Ur g D n a b R s W E F L (fun x V x2=>H x V (by omega)) h.self).mono fun e J ⟨Y,t,Z,k2,k3⟩=>⟨Y,t,h.trans Z,k2,k3⟩
theorem aD{g D n:Nat}{R:Nat→D7}{W0:World}(H:n≤4194304)(a m b:Nat)(x y z:Int)(J:x=(a:Int))(L:y=(m:Int))(M:z=(b:Int))(s:Nat→Nat)(W:World)(U:a<m)(V:m<b)(E:b≤n)(Y:IV (fun p=>(R p).ix) s a m b)(h:DL g D W0 (GY R s n) W):
  Calls Au 147 #[S (O ⟨g,0,N⟩) n D,I K x,I K y,I K z,K6] W fun e F=>e=Ao (Ai #[])∧∃t,DL g D W0 (GY R t n) F∧SP s t a b∧LC (fun p=>(R p).ix) t a b:=by
 subst J L M;exact(XV g D n R H (b - a) a m b s W Fu U V E h.self Y).mono fun e F ⟨Z,t,k1,k2,k3⟩=>⟨Z,t,h.trans k1,k2,k3⟩
def Mu(B x:Nat):Prop:=∃j,x=j*B
section
variable {B x y:Nat}
theorem Mu.zero(B:Nat):Mu B 0:=⟨0,by simp⟩
theorem Mu.add(h:Mu B x):Mu B (x+B):=by
 obtain⟨j,rfl⟩:=h;exact⟨j+1,by rw[EH,EG]⟩
theorem Mu.half(h:Mu (2*B) x):Mu B x:=by
 obtain⟨j,rfl⟩:=h;exact⟨j*2,by rw[Nat.mul_assoc]⟩
theorem Mu.gap(h:Mu B x)(E:Mu B y)(F:x<y):x+B≤y:=by
 obtain⟨i,rfl⟩:=h;obtain⟨j,rfl⟩:=E;have D:i<j:=Nat.lt_of_mul_lt_mul_right F;have:=Dm B (show i+1≤j from D);rw[EH,EG]at this;exact this
end
structure Bl(key:Nat→Int)(s:Nat→Nat)(a b:Nat):Prop where
 srt:LC key s a b
 inb:iJ s a b
section
variable {key:Nat→Int} {s t:Nat→Nat} {a b a' b' m n c:Nat}
theorem Bl.keep(h:SP s t a b)(D:b'≤a∨b≤a')(E:Bl key s a' b'):Bl key t a' b':=⟨g6 h D E.srt,jh h D E.inb⟩
theorem Bl.join(D:Bl key s a m)(E:Bl key s m b)(h:SP s t a b)(F:LC key t a b)(H:a≤m)(J:m≤b):Bl key t a b:=⟨F,eu h D.inb E.inb H J⟩
end
theorem Vz(g V n:Nat)(R:Nat→D7)(W0:World)(hn:n≤4194304)(h:DL g V W0 (GY R id n) W0):
  Calls Au 130 #[S (O ⟨g,0,N⟩) n V,I K (n:Int),K6] W0 fun e w'=>e=Ao (Ai #[])∧∃t,DL g V W0 (GY R t n) w'∧SP id t 0 n∧LC (fun p=>(R p).ix) t 0 n:=by
 go_enter Tryz.func130,Tryz.ntmps130
 go_wp2_with fail
 go_loopw [7,8] (fun x y wr=>∃(a:Nat) (s:Nat→Nat),x=I K (a:Int)∧y=I K ((a+20:Nat):Int)∧a≤n∧Mu 20 a∧(∀y,Mu 20 y→y<a→Bl (fun p=>(R p).ix) s y (y+20))∧(∀x,a≤x→x<n→s x=x)∧SP id s 0 n∧DL g V W0 (GY R s n) wr) (fun x _ _=>n - (intOf x).toNat)
 case atStart=>exact⟨0,id,rfl,rfl,AS _,Mu.zero _,fun y _ h=>by omega,fun _ _ _=>rfl,SP.refl _ _ _,h⟩
 case round =>
  obtain⟨a,s,rfl,rfl,ha,J,hb,Y,F,E⟩:=hrel;by_cases D:a+20≤n
  ·have k1:((a+20:Nat):Int)≤(n:Int):=(by omega);have HC:=(br (W0:=W0) hn a (a+20) _ _ rfl rfl s wr (by omega) D Y E);have HP:=An F;clear F E;go_wp2_with((go_at_call 146;refine HC.mono ?_;rintro e1 w1⟨rfl,t,E,F,hs⟩;have HD:=E;have HQ:=F;have HS:=hs;clear E F hs))
   go_roundw
   case rel=>exact⟨a+20,t,rfl,by go_num,D,J.add,fun y H hl=>by
    rcases Bo y a with h|h
    ·exact(hb y H h).keep HQ (.inl (H.gap J h))
    ·obtain rfl:y=a:=by
      rcases Bo a y with M|M
      ·have:=J.gap H M;omega
      ·omega
     exact⟨HS,X4 Y HQ Fu D⟩,ji Y HQ Fu (by omega),(AN HP).trans (HQ.wide Fw D),HD⟩
   case measure=>simp[intOf];omega
  ·have k1:decide (((a+20:Nat):Int)≤(n:Int))=false:=AO (by omega);have k2:decide ((a:Int)+20≤(n:Int))=false:=AO (by omega);have HC:=(br (W0:=W0) hn a n _ _ rfl rfl s wr ha Fu Y E);have HP:=An F;have HL:=D;clear F E D;go_wp2_with fail
   go_at_call 146;refine HC.mono ?_;rintro e1 w1⟨rfl,t,E,hq,hs⟩;have HK:(∀y,Mu 20 y→y<n→Bl (fun p=>(R p).ix) t y (min (y+20) n)):=fun y H hl=>by
    have D:=HL;rcases Bo y a with h|h
    ·have hg:=H.gap J h;rw[show min (y+20) n=y+20 by omega];exact(hb y H h).keep hq (.inl hg)
    ·obtain rfl:y=a:=by
      rcases Bo a y with M|M
      ·have:=J.gap H M;omega
      ·omega
     rw[show min (y+20) n=n by omega];exact⟨hs,X4 Y hq Fu Fu⟩
   have HQ:=((AN HP).trans (hq.wide Fw Fu));have HD:=E;clear E hq hs hb J HP Y HL HC k1 k2;go_wp2_with fail
   go_loopw [6] (fun x wr=>∃(B:Nat) (s:Nat→Nat),x=I K (B:Int)∧20≤B∧B≤2*n+20∧(∀y,Mu B y→y<n→Bl (fun p=>(R p).ix) s y (min (y+B) n))∧SP id s 0 n∧DL g V W0 (GY R s n) wr) (fun x _=>n - (intOf x).toNat)
   case atStart=>exact⟨20,t,rfl,AC _,by omega,HK,HQ,HD⟩
   case round =>
    obtain⟨B,s2,rfl,hk,ho,hj,F,E⟩:=hrel;by_cases hr:B<n
    ·have k1:(B:Int)<(n:Int):=(by omega);have e1:IntKind.i64.wrap (2*(B:Int))=2*(B:Int):=Li (by omega) (by omega);obtain⟨wo,rfl⟩:∃wo,wo=wr:=⟨_,rfl⟩;have HP:=An F;have HD:=E;clear F E HK HQ;go_wp2_with fail
     go_loopw [7,8] (fun x y wr=>∃(a:Nat) (s:Nat→Nat),x=I K (a:Int)∧y=I K ((a:Int)+2*(B:Int))∧a≤n∧Mu (2*B) a∧(∀y,Mu (2*B) y→y<a→Bl (fun p=>(R p).ix) s y (y+2*B))∧(∀y,Mu B y→a≤y→y<n→Bl (fun p=>(R p).ix) s y (min (y+B) n))∧SP id s 0 n∧DL g V W0 (GY R s n) wr) (fun x _ _=>n - (intOf x).toNat)
     case atStart=>exact⟨0,s2,rfl,by simp,AS _,Mu.zero _,fun y _ h=>by omega,fun y H _ hl=>hj y H hl,AN HP,HD⟩
     case round =>
      obtain⟨a,s,rfl,rfl,ha,J,hf,Z,F,E⟩:=hrel;have e2:IntKind.i64.wrap ((a:Int)+(B:Int))=(a:Int)+(B:Int):=Li (by omega) (by omega);by_cases D:a+2*B≤n
      ·have k3:(a:Int)+2*(B:Int)≤(n:Int):=(by omega);have e3:IntKind.i64.wrap ((a:Int)+2*(B:Int)+2*(B:Int))=(a:Int)+2*(B:Int)+2*(B:Int):=Li (by omega) (by omega);have b1:=Z a J.half Fu (by omega);have b2:=Z (a+B) J.half.add (by omega) (by omega);rw[show min (a+B) n=a+B by omega]at b1;rw[show min (a+B+B) n=a+2*B by omega]at b2;have HC:=(aD (W0:=W0) hn a (a+B) (a+2*B) (a:Int) ((a:Int)+(B:Int)) ((a:Int)+2*(B:Int)) rfl (by omega) (by omega) s wr (by omega) (by omega) D (Sf b1.srt b2.srt b1.inb b2.inb) E);have hc:=An F;clear F E;go_wp2_with((go_at_call 147;refine HC.mono ?_;rintro e1 w1⟨rfl,t2,E,F,hs⟩;have U:=E;have L:=F;have hh:=hs;clear E F hs))
       go_roundw
       case rel=>exact⟨a+2*B,t2,by go_num,by go_num,D,J.add,fun y H hl=>by
        rcases Bo y a with h|h
        ·exact(hf y H h).keep L (.inl (H.gap J h))
        ·obtain rfl:y=a:=by
          rcases Bo a y with M|M
          ·have:=J.gap H M;omega
          ·omega
         exact b1.join b2 L hh (by omega) (by omega),fun y H h1 M=>(Z y H (by omega) M).keep L (.inr h1),(AN hc).trans (L.wide Fw D),U⟩
       case measure=>simp[intOf];omega
      ·have k3:decide ((a:Int)+2*(B:Int)≤(n:Int))=false:=AO (by omega);have e4:IntKind.i64.wrap ((B:Int)*2)=(B:Int)*2:=Li (by omega) (by omega);by_cases he:a+B<n
       ·have k4:(a:Int)+(B:Int)<(n:Int):=(by omega);have b1:=Z a J.half Fu (by omega);have b2:=Z (a+B) J.half.add (by omega) he;rw[show min (a+B) n=a+B by omega]at b1;rw[show min (a+B+B) n=n by omega]at b2;have HC:=(aD (W0:=W0) hn a (a+B) n (a:Int) ((a:Int)+(B:Int)) (n:Int) rfl (by omega) rfl s wr (by omega) he Fu (Sf b1.srt b2.srt b1.inb b2.inb) E);have hc:=An F;have hi:=D;clear F E D;go_wp2_with((go_at_call 147;refine HC.mono ?_;rintro e1 w1⟨rfl,t2,E,F,hs⟩;have U:=E;have L:=F;have hh:=hs;clear E F hs))
        go_roundw
        case rel=>exact⟨2*B,t2,by go_num,by omega,by omega,fun y H hl=>by
         have D:=hi;rcases Bo y a with h|h
         ·have hg:=H.gap J h;rw[show min (y+2*B) n=y+2*B by omega];exact(hf y H h).keep L (.inl hg)
         ·obtain rfl:y=a:=by
           rcases Bo a y with M|M
           ·have:=J.gap H M;omega
           ·omega
          rw[show min (y+2*B) n=n by omega];exact b1.join b2 L hh (by omega) (by omega),(AN hc).trans (L.wide Fw Fu),U⟩
        case measure=>simp[intOf];omega
       ·have k4:decide ((a:Int)+(B:Int)<(n:Int))=false:=AO (by omega);have hc:=An F;have U:=E;have hi:=D;clear F E D;go_wp2_with fail
        go_roundw
        case rel=>exact⟨2*B,s,by go_num,by omega,by omega,fun y H hl=>by
         have D:=hi;have he:=he;rcases Bo y a with h|h
         ·have hg:=H.gap J h;rw[show min (y+2*B) n=y+2*B by omega];exact hf y H h
         ·obtain rfl:y=a:=by
           rcases Bo a y with M|M
           ·have:=J.gap H M;omega
           ·omega
          have:=Z y H.half Fu hl;rw[show min (y+B) n=n by omega]at this;rw[show min (y+2*B) n=n by omega];exact this,AN hc,U⟩
        case measure=>simp[intOf];omega
    ·have k1:decide ((B:Int)<(n:Int))=false:=AO (by omega);have HE:(LC (fun p=>(R p).ix) s2 0 n):=(by
      rcases DX n with h0|h0
      ·subst h0;exact fun x y _ _ h=>by omega
      ·have:=(hj 0 (Mu.zero _) h0).srt;rw[show min (0+B) n=n by omega]at this;exact this)
     have HP:=An F;have U:=E;clear F E;go_wp2_with fail
     exact CZ (by simp[results,Tryz.results130,go_sem]<;>rfl) rfl ⟨rfl,s2,U,AN HP,HE⟩
theorem aM(g D n:Nat)(R:Nat→D7)(W0:World)(E:n≤4194304)(h:DL g D W0 (GY R id n) W0):
  Calls Au 92 #[S (O ⟨g,0,N⟩) n D,K6] W0 fun e F=>e=Ao (Ai #[])∧∃t,DL g D W0 (GY R t n) F∧SP id t 0 n∧LC (fun p=>(R p).ix) t 0 n:=by
 have H:=(Vz g D n R W0 E h);clear h;go_enter Tryz.func92,Tryz.ntmps92
 go_wp2_with((go_at_call 130;refine H.mono ?_;rintro e w1⟨rfl,J⟩))
 exact CZ (by simp[results,Tryz.results92,go_sem]<;>rfl) rfl ⟨rfl,J⟩
structure WT(w:World)(bx:Nat)(u0 u1 u2:Value)(W:World):Prop where
 bel:Below w.heap.size w W
 b0:W.cell? ⟨bx,0,N⟩=O u0
 b1:W.cell? ⟨bx,1,N⟩=O u1
 b2:W.cell? ⟨bx,2,N⟩=O u2
theorem WT.below{w W W1:World}{E:Nat}{u0 u1 F:Value}(h:WT w E u0 u1 F W)(D:Below W.heap.size W W1):WT w E u0 u1 F W1 :=
 ⟨h.bel.trans (D.mono h.bel.size),AW D h.b0,AW D h.b1,AW D h.b2⟩
theorem WT.start(w:World)(u0 u1 h:Value)(t:TypeId):WT w w.heap.size u0 u1 h (w.alloc (Al #[u0,u1,h] t)):=⟨GF _ _,by simp,by simp,by simp⟩
theorem MJ:(Au.info? 29).map (·.size)=O 2:=by kernel_rfl
theorem gL(w:World):Calls Au 146 #[S N 0 0,I K 0,I K 0,K6] w fun e h=>e=Ao (Ai #[])∧h=w:=by
 go_enter Tryz.func146,Tryz.ntmps146
 go_wp2;refine EM 1 ?_;rw[Fj];go_wp2;exact CZ (by simp[results,Tryz.results146,go_sem]<;>rfl) R ⟨rfl,rfl⟩
theorem Vy(w:World):Calls Au 130 #[S N 0 0,I K 0,K6] w fun e h=>e=Ao (Ai #[])∧h=w:=by
 go_enter Tryz.func130,Tryz.ntmps130
 go_wp2;refine EM 1 ?_;rw[Fj];go_wp2_with((go_at_call 146;refine(gL _).mono ?_;rintro e w1⟨rfl,D⟩;obtain rfl:=D.symm))
 refine EM 1 ?_;rw[Fj];go_wp2;exact CZ (by simp[results,Tryz.results130,go_sem]<;>rfl) R ⟨rfl,rfl⟩
theorem aL(w:World):Calls Au 92 #[S N 0 0,K6] w fun e h=>e=Ao (Ai #[])∧h=w:=by
 go_enter Tryz.func92,Tryz.ntmps92
 go_wp2_with((go_at_call 130;refine(Vy _).mono ?_;rintro e w1⟨rfl,D⟩;obtain rfl:=D.symm))
 exact CZ (by simp[results,Tryz.results92,go_sem]<;>rfl) R ⟨rfl,rfl⟩
theorem YQ{h:List D7}(Z:h.length≤4194304){D:Nat}(v:Value)(W:World)(M:W.ownsRow D 116 11 v h.length (At h))(hb:D≤W.heap.size):
  Calls Au 92 #[v,.func (.func 93) #[] #[]] W fun e H=>e=Ao (Ai #[])∧H.ownsRow D 116 11 v h.length (At (KR h h.length))∧Below D W H:=by
 rcases M.2 with⟨rfl,h0⟩|⟨g,E,J,rfl,hg,F⟩
 ·have e1:h=[]:=BK h0;subst e1;refine(aL W).mono fun e H ⟨L,U⟩=>⟨L,?_,?_⟩
  ·rw[U];exact Bn _ _ _ _
  ·rw[U];exact AD _ _
 ·have hD:DL g E W (GY (fun k=>h.getD k dR) id h.length) W:=by
   rw[fx];exact⟨⟨M.1,.inr ⟨g,E,J,rfl,AC _,F⟩⟩,Da _ _⟩
  refine(aM g E h.length (fun k=>h.getD k dR) W Z hD).mono fun e H ⟨L,t,V,h2,h3⟩=>⟨L,?_,F0 V.gr (fun k e=>by simp only[Bc]at e;omega) hb⟩;have Y:=V.own;rw[Wo h h2 h3,PH]at Y;exact Jt Y hg
theorem Gy{Γ:Type}{P:Program}{o:Oper}{F:Act}{w1:World}{V:Γ→Value→Prop}{D:Γ→World→Prop}{M:Γ→Prop}{Q:Exit→Act→World→Prop}(γ:Γ)(H:TypeId)(x y:Operand)(L:o.op=.store H x y)(b i:Nat)(h:List Value)(U:F.eval x=Ae (O ⟨b,i,N⟩))(Y:F.eval y=Af h.toArray)(Z:∀ u∈h,u.oneCell'=true)(hi:(P.info? H).map (·.size)=O h.length)(ht:w1.there b i h.length)(hV:V γ undef)(hD:D γ (w1.setCells b i h))(hM:M γ):
  o.wp P F w1 (fun J w'=>∃v E,J=F.put o.dst v∧V E v∧D E w'∧M E) Q :=
 DV H x y L b i h.toArray U Y (by simpa using ht) (by simpa using hi) (Em Z) ⟨undef,γ,rfl,hV,by simpa using hD,hM⟩
theorem SB.startOf(w:World)(u0 u1:Value)(s t y:TypeId):SB w u0 u1 (S N 0 0) (S N 0 0) (I K 0) (I K 0) (((w.alloc (Al #[u0,u1] s)).alloc (Al #[S N 0 0,S N 0 0] t)).alloc (Al #[I K 0,I K 0] y)):=by
 obtain⟨F,H,af,D⟩:=H' (W:=w) (u0:=u0) (u1:=u1) (t:=s) R;have J:(w.alloc (Al #[u0,u1] s)).heap.size=w.heap.size+1:=by simp
 generalize w.alloc (Al #[u0,u1] s)=W1 at *;obtain⟨L,M,U,h⟩:=H' (W:=W1) (u0:=S N 0 0) (u1:=S N 0 0) (t:=t) J;have V:(W1.alloc (Al #[S N 0 0,S N 0 0] t)).heap.size=w.heap.size+2:=by simp;omega
 generalize W1.alloc (Al #[S N 0 0,S N 0 0] t)=E at *;obtain⟨c0,c1,Y,cb⟩:=H' (W:=E) (u0:=I K 0) (u1:=I K 0) (t:=y) V;exact⟨(D.trans (h.mono D.size)).trans (cb.mono (by omega)),by simp;omega,AW cb (AW h F),AW cb (AW h H),AW cb L,AW cb M,c0,c1,fun i=>(cb.frozen (p:=⟨w.heap.size+1,i,N⟩) (by show w.heap.size+1<E.heap.size;omega)).trans (U i),Y⟩
structure TG(w:World)(u0 u1 v:Value)(rows:List D7)(W:World):Prop where
 sb:SB w u0 u1 (S N 0 0) (S N 0 0) (I K 0) (I K 0) W
 own:W.ownsRow (w.heap.size+3) 116 11 v rows.length (At rows)
theorem TG.below{w W W1:World}{u0 u1 v:Value}{D:List D7}(h:TG w u0 u1 v D W)(E:Below W.heap.size W W1):TG w u0 u1 v D W1:=⟨h.sb.below E,FT h.own E⟩
def KW(l:List Gu)(i:Nat):List D7:=(l.take i).flatMap (·.rows)
theorem UO(l:List Gu)(i:Nat)(h:i<l.length):KW l (i+1)=KW l i++l[i].rows:=by
 unfold KW;rw[A0 h,Dt];simp
theorem WJ(l:List Gu)(i:Nat):(KW l i).length≤(l.flatMap (·.rows)).length:=by
 unfold KW
 conv=>rhs;rw[←BS i l]
 rw[Dt,AV];omega
structure Ir(w:World)(T:Option Addr)(G:Option Addr)(tabs:List Gu)(X:Wd):Prop where
 tbs:NL w T tabs
 gens:JE w G X.gens
 right:FK X
 each:∀t∈tabs,JZ t
 up:∀j (h:j+1<tabs.length),(tabs[j]'(by omega)).has<tabs[j+1].has
 perm:(tabs.flatMap (·.rows)).Perm X.rows
 few:tabs.length≤1000
theorem Ir.below{w w1:World}{T G:Option Addr}{D:List Gu}{X:Wd}(h:Ir w T G D X)(E:Below w.heap.size w w1):Ir w1 T G D X:=⟨h.tbs.below E,h.gens.below E,h.right,h.each,h.up,h.perm,h.few⟩
def Mq(t:Gu):OQ:=⟨t.has,Vi t,(List.range (FR t.has 8).length).map (Oq t)⟩
theorem P0(t:Gu){k:Nat}(h:k<(FR t.has 8).length):(Mq t).cols.getD k []=Oq t k:=by
 unfold Mq;rw[Az,Bw,CE h];rfl
theorem Ri.x{w:World}{b o:Nat}{A:Option Addr}{c:Nat}{C:Option Addr}{E:Nat}{t:Gu}(h:Ri w b o A c C E t):OP w b o A c C E (Mq t):=by
 refine⟨h.c0,by rw[show(Mq t).bs=Vi t from rfl,Md];exact h.c1,by rw[show(Mq t).cols.length=(FR t.has 8).length by simp[Mq]];exact h.c2,h.bs,fun k D=>?_⟩;have D:k<(FR t.has 8).length:=by simpa[Mq]using D
 obtain⟨b,o,e,A,c,F,H⟩:=h.cols k D;rw[P0 t D];exact⟨b,o,e,A,c,by rw[KT];exact F,H⟩
theorem JZ.fewX{t:Gu}(h:JZ t):iK (Mq t):=by
 have E:=Kf t.has 8;refine⟨by rw[show(Mq t).bs=Vi t from rfl,Md];exact h.few,by rw[show(Mq t).cols.length=(FR t.has 8).length by simp[Mq]];omega,fun k D=>?_⟩;have D:k<(FR t.has 8).length:=by simpa[Mq]using D
 rw[P0 t D,KT];exact h.few
theorem JZ.ok{t:Gu}(h:JZ t):Zr (Mq t)=0:=by
 have V:∀k,k<(FR t.has 8).length→XR t.rows.length ((Mq t).cols.getD k [])=0:=fun k E=>by
  rw[P0 t E];unfold XR;rw[AF (KT t k),AF (fun j D=>gd h k j (by rw[KT]at D;exact D) E)]
 have F:∀m k,k+m≤(FR t.has 8).length→KG t.rows.length (Mq t).cols m k=0:=fun m=>by
  induction m with
  |zero=>intro k _;rfl
  |succ m ih=>intro k E;rw[KG,AF (V k (by omega))];exact ih (k+1) (by omega)
 have L:(Mq t).cols.length=(FR t.has 8).length:=by simp[Mq]
 have H:(Mq t).bs.length=t.rows.length:=Md t;have Y:=h.one;unfold Zr;have J:¬ ((Mq t).bs.length=0∨(Mq t).cols.length≠(FR (Mq t).has 8).length):=by
  rw[L,H];rintro(e|e)
  ·omega
  ·exact e R
 rw[AA (by rw[show(Mq t).has=t.has from rfl,h.set];simp),AA J,H,L,AF (F _ 0 (by omega)),AF];refine Bq fun j D Z=>?_;have D:j<t.rows.length:=by rw[←H];exact D
 have M:∀i,i<t.rows.length→((Mq t).bs.getD i (0,0)).1=(t.rows.getD i dR).ix:=fun i U=>by
  show((Vi t).getD i (0,0)).1=_;unfold Vi;rw[Az,Bw,AE U,Az,AE U];rfl
 obtain⟨i,rfl⟩:∃i,j=i+1:=⟨j - 1,by omega⟩;rw[show i+1 - 1=i from rfl,M i (by omega),M (i+1) D];exact h.up i D
theorem Kk(h:List Gu){i:Nat}(D:i<h.length):(h.map Mq).getD i dT=Mq h[i]:=by
 rw[Az,Bw,AE D];rfl
theorem NL.x{w:World}{T:Option Addr}{D:List Gu}(h:NL w T D):Pq w T (D.map Mq):=fun j E=>by
 have E:j<D.length:=by simpa using E
 obtain⟨b,o,e,A,c,C,F,H⟩:=h j E;rw[Kk D E];exact⟨b,o,e,A,c,C,F,H.x⟩
theorem ik{D:List Gu}(F:∀ t∈D,JZ t)(H:∀ j (h:j+1<D.length),(D[j]'(by omega)).has<D[j+1].has){i:Nat}(E:i<D.length):Pr (D.map Mq) i=0:=by
 unfold Pr;rw[Kk D E,AF (F _ (Bm E)).ok];by_cases h0:i=0
 ·rw[AF (.inl h0)]
 ·obtain⟨j,rfl⟩:∃j,i=j+1:=⟨i - 1,by omega⟩;rw[show j+1 - 1=j from rfl,Kk D (by omega),AF (.inr (H j E))]
theorem IB{W:World}{B:Nat}{A:Option Addr}{c:Nat}{G:Option Addr}{gc:Nat}{Y:Wd}(h:Gv B W A c G gc Y){b o:Nat}{vs:List Value}(hb:b<B):Gv B (W.setCells b o vs) A c G gc Y:=by
 refine⟨⟨fun j hj=>?_,fun j hj=>?_⟩,h.fa,h.fg⟩
 ·obtain⟨b',off,e,hr⟩:=h.rows j hj;exact⟨b',off,e,Jn (by have:=h.fa b' off e;omega) hr⟩
 ·obtain⟨b',off,e,hr⟩:=h.gens j hj;exact⟨b',off,e,(FZ (by have:=h.fg b' off e;simp only[ne_eq];omega)).trans hr⟩
theorem Kj{W:World}{B B':Nat}{A:Option Addr}{c:Nat}{G:Option Addr}{gc:Nat}{Y:Wd}(h:Gv B W A c G gc Y)(hb:B'≤B):Gv B' W A c G gc Y:=⟨h.toFX,fun c o e=>AU hb (h.fa c o e),fun c o e=>AU hb (h.fg c o e)⟩
def JN(T:Option Addr)(tn tcap:Nat)(G:Option Addr)(gn gcap:Nat):Value:=.agg #[.slice T tn tcap,.slice G gn gcap]
structure iX (w:World) (T:Option Addr) (l:List OQ) (tabs:List Gu):Prop where
 tbs:Pq w T l
 fewl:l.length≤4194304
 few:∀ i,i<l.length→iK (l.getD i dT)
 n:tabs.length≤l.length
 eq:∀ i (h:i<tabs.length),l.getD i dT=Mq tabs[i]
 right:∀ t∈tabs,JZ t
 ok:∀ i,i<tabs.length→Pr l i=0
 bad:tabs.length<l.length→Pr l tabs.length≠0
def Sz (l:List OQ) (tabs:List Gu) (Y:Wd):Int×Int:=if tabs.length<l.length then (Pr l tabs.length,(tabs.length:Int)) else ((FP Y).1,0)
def Tu (l:List OQ) (tabs:List Gu) (Y:Wd):Wd:=if (Sz l tabs Y).1=0 then Y else ⟨[],[]⟩
theorem OP.i{w:World}{b o:Nat}{A:Option Addr}{c:Nat}{C:Option Addr}{cc:Nat}{t:Gu}(h:OP w b o A c C cc (Mq t)):Ri w b o A c C cc t:=by
 have hl:(Mq t).cols.length=(FR t.has 8).length:=by simp[Mq]
 refine⟨h.c0,by have:=h.c1;rwa[show(Mq t).bs=Vi t from rfl,Md]at this,by rw[←hl];exact h.c2,h.bs,fun k hk=>?_⟩;obtain⟨b,o,e,A,c,h1,h2⟩:=h.cols k (by rw[hl];exact hk);rw[P0 t hk]at h1 h2;exact⟨b,o,e,A,c,by rwa[KT]at h1,h2⟩
theorem Tq(B:Nat)(W:World):Gv B W N 0 N 0 ⟨[],[]⟩:=⟨⟨fun j hj=>absurd hj (C3 _),fun j hj=>absurd hj (C3 _)⟩,(fun _ _ e=>by cases e),(fun _ _ e=>by cases e)⟩
theorem Sy(T:Option Addr)(tcap:Nat)(G:Option Addr)(gcap:Nat)(l:List OQ)(tabs:List Gu)(Y:Wd)(w:World)(h:iX w T l tabs)(hY:Y.rows=KR (tabs.flatMap (·.rows)) (tabs.flatMap (·.rows)).length)(hG:JE w G Y.gens)(hgl:Y.gens.length≤4194304)(hrl:(tabs.flatMap (·.rows)).length≤4194304):
  Calls Au 51 #[JN T l.length tcap G Y.gens.length gcap] w fun e w'=>∃A' c' G' gc',e=Ao (Ai #[Up A' c' G' gc' (Tu l tabs Y),Af #[I K (Sz l tabs Y).1,I K (Sz l tabs Y).2]])∧Gv w.heap.size w' A' c' G' gc' (Tu l tabs Y)∧Below w.heap.size w w':=by
 have hil:Y.rows.length=(tabs.flatMap (·.rows)).length:=by rw[hY];exact PH _ _
 have hSO:=fun v W (hv:W.ownsRow (w.heap.size+3) 116 11 v (tabs.flatMap (·.rows)).length (At (tabs.flatMap (·.rows)))) (hb:w.heap.size+3≤W.heap.size)=>YQ hrl v W hv hb;rw[←hY]at hSO;have hCP:=fun W (hb:Below w.heap.size w W)=>RS G gcap Y.gens W hgl (hG.below hb);have hP:=fun A' c' G' gc' W (hW:FX W A' c' G' gc' Y)=>J2 A' Y.rows.length c' G' Y.gens.length gc' (fun j=>Y.rows.getD j dR) (fun j=>Y.gens.getD j 0) W (by omega) hW.rows hW.gens;have eW:Hk (fun j=>Y.rows.getD j dR) Y.rows.length Y.gens.length (fun j=>Y.gens.getD j 0)=FP Y:=rfl;rw[eW]at hP;unfold Gr FF at hP;have hend:KW tabs tabs.length=tabs.flatMap (·.rows):=by unfold KW;rw[BN]
 have hrl':=fun i=>WJ tabs i;have hll:=h.fewl;have htn:=h.n;have hTG:TG w (S T l.length tcap) (S G Y.gens.length gcap) (S N 0 0) [] (((w.alloc (Al #[S T l.length tcap,S G Y.gens.length gcap] 25)).alloc (Al #[S N 0 0,S N 0 0] 43)).alloc (Al #[I K 0,I K 0] 29)):=⟨SB.startOf w _ _ _ _ _,Bn _ _ _ _⟩;have HEND:=An hend;have HRL:=An hrl';have HRL1:=An hrl;have HP:=An hP;have HCP:=An hCP;have HTG:=An hTG;rw[←hil]at hSO;have HSO:=An hSO;have HIL:=An hil;clear hil hSO hCP hrl' hend hTG hG hrl hP eW hY;unfold JN;go_enter Tryz.func51,Tryz.ntmps51
 go_wp2;go_loopw [4,13] (fun x y wr=>∃i:Nat,i≤tabs.length∧y=I K i∧TG w (S T l.length tcap) (S G Y.gens.length gcap) x (KW tabs i) wr) (fun _ y _=>l.length - (intOf y).toNat)
 case atStart=>exact⟨0,AS _,rfl,by simpa[KW]using AN HTG⟩
 case round =>
  clear HTG;obtain⟨i,hi,rfl,hT⟩:=hrel;by_cases hlt:i<l.length
  ·have i0:(0:Int)≤(i:Int):=(by omega);have i1:(i:Int)<(l.length:Int):=(by omega);obtain⟨tb,tf,hTe,A,c,C,cc,hta⟩:=h.tbs i hlt;have hWT:=fun W hb=>QA T tcap l i W hll hlt (h.tbs.below hb) (h.few i hlt);have r0:=hT.sb.r0;have ls:w.heap.size<wr.heap.size:=(by have:=hT.sb.sz;omega);by_cases hin:i<tabs.length
   ·have hok:=h.ok i hin;have heq:=h.eq i hin;have hrt:=h.right _ (Bm hin);have HSU:=An (UO tabs i hin);rw[hok]at hWT;rw[heq]at hta;replace hta:=hta.i
    generalize tabs[i]=t at *;have hAD:=fun v W (hv:TG w (S T l.length tcap) (S G Y.gens.length gcap) v (KW tabs i) W)=>Vb v (KW tabs i) t A c C cc w W (w.heap.size+3) hv.own hv.sb.sz hv.sb.bel (by omega) hta.bs hta.cols hrt (by have:=AN HRL i;have:=AN HRL1;omega);have d0:=AW hT.sb.bel hta.c0;have d1:=AW hT.sb.bel hta.c1;have d2:=AW hT.sb.bel hta.c2;have HWT:=An hWT;have HAD:=An hAD;subst hTe;clear hWT hAD hta hrt hok heq;go_wp2_with(first
     |(go_at_call 90;refine(AN HWT _ (hT.sb.bel.trans ((GF wr (Al #[I K t.has,S A t.rows.length c,S C (FR t.has 8).length cc] 75)).mono hT.sb.bel.size))).mono ?_;rintro e w1⟨rfl,hb1⟩;have hs:=WT.start wr (I K t.has) (S A t.rows.length c) (S C (FR t.has 8).length cc) 75;have x0:=AW hb1 hs.b0;have x1:=AW hb1 hs.b1;have x2:=AW hb1 hs.b2;have HT1:=((hT.below (GF _ _)).below hb1);clear hb1 hs d0 d1 d2 r0)
     |(go_at_call 91;refine(AN HAD _ _ HT1).mono ?_;rintro e w2⟨v2,rfl,ho2,hb2⟩;have HT2:Hid (TG w (S (O ⟨tb,tf,N⟩) l.length tcap) (S G Y.gens.length gcap) v2 (KW tabs i++t.rows) w2):=An ⟨HT1.sb.keep hb2,ho2⟩;clear ho2 hb2 x0 x1 x2))
    go_roundw
    case rel=>exact⟨i+1,by omega,by go_num,by rw[AN HSU];exact AN HT2⟩
    case measure=>simp[intOf];omega
   ·obtain rfl:i=tabs.length:=(by omega);have hbad:=h.bad hlt;have hE:Sz l tabs Y=(Pr l tabs.length,(tabs.length:Int)):=(by unfold Sz;rw[AF hlt]);have hW:Tu l tabs Y=⟨[],[]⟩:=(by unfold Tu;rw[hE,AA hbad]);have HE:=An hE;have HW:=An hW;have b1:((Pr l tabs.length) == 0)=false:=(by simpa using hbad);have b2:((Pr l tabs.length) != 0)=true:=(by simpa using hbad);generalize Pr l tabs.length=we at *;generalize l.getD tabs.length dT=t at *;obtain⟨has,bs,cols⟩:=t;have d0:=AW hT.sb.bel hta.c0;have d1:=AW hT.sb.bel hta.c1;have d2:=AW hT.sb.bel hta.c2;dsimp only at d0 d1 d2;have HWT:=An hWT;subst hTe;clear hWT hta hbad hE hW HRL HEND HSO HCP HRL1 HP HIL;go_wp2_with(first
     |(go_at_call 90;refine(AN HWT _ (hT.sb.bel.trans ((GF wr (Al #[I K has,S A bs.length c,S C cols.length cc] 75)).mono hT.sb.bel.size))).mono ?_;rintro e w1⟨rfl,hb1⟩;have HT1:=((hT.below (GF _ _)).below hb1).sb;clear hb1 d0 d1 d2 r0)
     |(refine As R 43 (Am 2) (Am 24) R (w.heap.size+1) 0 [S N 0 0,S N 0 0] R R (by simp[Ar]) F8 HT1.thereA ?_;intro W5 hW5;have hs5:=HT1.giveA (S N 0 0) (S N 0 0);rw[←hW5]at hs5;clear hW5 HT1)
     |(refine As R 29 (Am 3) (Am 27) R (w.heap.size+2) 0 [I K we,I K (tabs.length:Int)] R R (by simp[Ar]) MJ hs5.thereB ?_;intro W6 hW6;have hs6:=hs5.giveB (I K we) (I K (tabs.length:Int));rw[←hW6]at hs6;have HS9:=hs6;clear hW6 hs6 hs5))
    have t0:=HS9.t0;have t1:=HS9.t1;have s0:=HS9.s0;have s1:=HS9.s1;refine AG (by simp[results,Tryz.results51,go_sem,t0,t1,s0,s1]<;>rfl) R ?_
    rw[AN HE,AN HW];exact⟨N,0,N,0,rfl,Tq _ _,HS9.bel⟩
  ·obtain rfl:i=tabs.length:=(by omega);have hln:¬ tabs.length<l.length:=hlt;have hE:Sz l tabs Y=((FP Y).1,0):=(by unfold Sz;rw[AA hln]);have hW:Tu l tabs Y=if(FP Y).1=0 then Y else⟨[],[]⟩:=by unfold Tu;rw[hE]
   have hle:tabs.length=l.length:=(by omega);have i9:¬ (tabs.length:Int)<(l.length:Int):=(by omega);rw[AN HEND]at hT;generalize (FP Y).2=wa at *;generalize (FP Y).1=we at *;have r1:=hT.sb.r1;have HE:=An hE;have HW:=An hW;clear hE hW hlt hln HRL h HEND hle;go_upto_region 13 with(first
    |(go_at_call 92;refine(AN HSO _ _ (by rw[AN HIL];exact hT.own) hT.sb.sz).mono ?_;rintro e w1⟨rfl,ho1,hb1⟩;obtain⟨Av,cv,rfl⟩:=Hw ho1;have hs1:=hT.sb.keep hb1;clear r1;have r1:=hs1.r1;have HO1:=An ho1;clear hb1 ho1 hT)
    |(go_at_call 68;refine(AN HCP _ hs1.bel).mono ?_;rintro e w2⟨Ag,cg,rfl,ho2,hb2⟩;have hN:Gv (w.heap.size+3) w2 Av cv Ag cg Y:=⟨⟨Js (FT (AN HO1) hb2),Of ho2⟩,Hf (AN HO1) Fu,Hf ho2 hs1.sz⟩;have HN2:=(hN.below (GF w2 (Al #[S Av Y.rows.length cv,S Ag Y.gens.length cg] 43)));have HS2:=((hs1.below hb2).below (GF w2 (Al #[S Av Y.rows.length cv,S Ag Y.gens.length cg] 43)));clear hN ho2 hb2 r1)
    |(go_at_call 35;refine(AN HP _ _ _ _ _ HN2.toFX).mono ?_;rintro e w3⟨rfl,hb3⟩;obtain⟨e0,e1,_,_⟩:=H' (W:=w2) (u0:=S Av Y.rows.length cv) (u1:=S Ag Y.gens.length cg) (t:=43) R;have y0:=AW hb3 e0;have y1:=AW hb3 e1;have ly:=AL w3 _ y0;have HZ3:=An (HS2.below hb3).sz;have HN4:=An ((HN2.below hb3).below (GF w3 (Al #[I K we,I K wa] 29)));have HS4:=((HS2.below hb3).below (GF w3 (Al #[I K we,I K wa] 29)));clear hb3 e0 e1 HN2 HS2))
   by_cases h0:we=0
   ·subst h0;go_wp2_with(first
     |(refine As R 43 (Am 2) (Am 48) R (w.heap.size+1) 0 [S Av Y.rows.length cv,S Ag Y.gens.length cg] R R (by simp[Ar]) F8 HS4.thereA ?_;intro W5 hW5;have hs5:=HS4.giveA (S Av Y.rows.length cv) (S Ag Y.gens.length cg);have hn5:=IB (AN HN4) (b:=w.heap.size+1) (o:=0) (vs:=[S Av Y.rows.length cv,S Ag Y.gens.length cg]) (by omega);rw[←hW5]at hs5 hn5;have HN5:=An hn5;clear hW5 hn5 HS4 HN4)
     |(refine As R 29 (Am 3) (Am 49) R (w.heap.size+2) 0 [I K 0,I K 0] R R (by simp[Ar]) MJ hs5.thereB ?_;intro W6 hW6;have hs6:=hs5.giveB (I K 0) (I K 0);have hn6:=IB (AN HN5) (b:=w.heap.size+2) (o:=0) (vs:=[I K 0,I K 0]) (by omega);rw[←hW6]at hs6 hn6;have HS6:=hs6;have HN6:=An hn6;clear hW6 hs6 hn6 hs5 HN5))
    have t0:=HS6.t0;have t1:=HS6.t1;have s0:=HS6.s0;have s1:=HS6.s1;refine AG (by simp[results,Tryz.results51,go_sem,t0,t1,s0,s1]<;>rfl) R ?_
    rw[AN HE,AN HW,AF (by trivial)];exact⟨Av,cv,Ag,cg,rfl,Kj (AN HN6) (by omega),HS6.bel⟩
   ·have b1:(we == 0)=false:=(by simpa using h0);have b2:(we != 0)=true:=(by simpa using h0);have HN0:=An h0;clear h0 HN4 y0 y1;go_upto_region 14 with fail
    have h0:∃z0 z1,SB w (S T l.length tcap) (S G Y.gens.length gcap) (S N 0 0) (S N 0 0) z0 z1 (w3.alloc (Al #[I K we,I K wa] 29)).drew∧((fun(_:Nat)=>false) 5=true→z0=I K we∧z1=I K 0)∧(w3.alloc (Al #[I K we,I K wa] 29)).drew.cell? ⟨w3.heap.size,0,N⟩=O (I K we):=⟨_,_,HS4.below Fv.drew,(fun e=>by cases e),by show(w3.alloc (Al #[I K we,I K wa] 29)).cell? ⟨w3.heap.size,0,N⟩=_;simp⟩;refine FW (fun(γ:Unit)=>[Af #[S N 0 0,S N 0 0],Ae (O ⟨w3.heap.size,0,N⟩),I K we,Af #[I K we,I K 0],undef,undef]) (fun(_:Unit) L W=>∃z0 z1,SB w (S T l.length tcap) (S G Y.gens.length gcap) (S N 0 0) (S N 0 0) z0 z1 W∧(L 5=true→z0=I K we∧z1=I K 0)∧W.cell? ⟨w3.heap.size,0,N⟩=O (I K we)) (()) (by kernel_rfl) (by kernel_rfl) (by kernel_rfl) (by kernel_rfl) h0 ?hstep ?hend
    case hstep =>
     intro F γ hout hkn ix o ho L w1 hD hL hed hcl;simp only[Hu,G9,Br,Bx]at hkn;have e2:F.tmps.getD 2 undef=Ae (O ⟨w.heap.size+1,0,N⟩):=hout 2 (by decide +kernel);have e3:F.tmps.getD 3 undef=Ae (O ⟨w.heap.size+2,0,N⟩):=hout 3 (by decide +kernel);have e9:F.tmps.getD 9 undef=Ae (O ⟨w3.heap.size,0,N⟩):=hout 9 (by decide +kernel)
     match ix,ho with
     |0,ho|1,ho|3,ho =>
      simp at ho;subst ho;exact .inl ⟨rfl,FB γ _ (by simp[go_sem,Aq,-Ap,hkn,e9]) R hD (fun _ _ _=>rfl)⟩
     |2,ho =>
      simp at ho;subst ho;have c0:=(let ⟨_,_,_,_,c⟩:=hD;c);exact .inl ⟨rfl,FB γ _ (by simp[go_sem,Aq,-Ap,hkn,c0]) R hD (fun _ _ _=>rfl)⟩
     |4,ho =>
      simp at ho;subst ho;obtain⟨z0,z1,a,e,c⟩:=hD;exact .inl ⟨rfl,Gy γ 43 (Am 2) (Am 44) R (w.heap.size+1) 0 [S N 0 0,S N 0 0] (by simp[Aq,-Ap,e2]) (by simp[Aq,-Ap,hkn]) (by simp[Ar]) F8 a.thereA R ⟨z0,z1,a.giveA _ _,by rw[Fx (by decide)];exact e,(FZ (by have:=AN HZ3;simp only[ne_eq];omega)).trans c⟩ (fun _ _ _=>rfl)⟩
     |5,ho =>
      simp at ho;subst ho;obtain⟨z0,z1,a,e,c⟩:=hD;exact .inl ⟨rfl,Gy γ 29 (Am 3) (Am 47) R (w.heap.size+2) 0 [I K we,I K 0] (by simp[Aq,-Ap,e3]) (by simp[Aq,-Ap,hkn]) (by simp[Ar]) MJ a.thereB R ⟨_,_,a.giveB _ _,fun _=>⟨rfl,rfl⟩,(FZ (by have:=AN HZ3;simp only[ne_eq];omega)).trans c⟩ (fun _ _ _=>rfl)⟩
     |ix+6,ho=>simp at ho
    case hend =>
     intro γ L w9 hD hall;obtain⟨z0,z1,hS,hz,_⟩:=hD;obtain⟨rfl,rfl⟩:=hz (hall 5 (by decide));have HS9:=hS;clear hall hS hz h0;simp only[GN,AI,AH,Ba,AJ,AK,Nat.reduceAdd,Bf,Be];go_frame;go_wp2;have t0:=HS9.t0;have t1:=HS9.t1;have s0:=HS9.s0;have s1:=HS9.s1;refine AG (by simp[results,Tryz.results51,go_sem,t0,t1,s0,s1]<;>rfl) R ?_
     rw[AN HE,AN HW,AA (AN HN0)];exact⟨N,0,N,0,rfl,Tq _ _,HS9.bel⟩
theorem Uv{X:Wd}(hr:FK X){all:List D7}(hp:all.Perm X.rows):X.rows=KR all all.length:=by
 obtain⟨s,h1,h2,h3⟩:=OA all all.length Fu;rw[h3];exact(fX hr hp h1 h2).symm
theorem Kb(T:Option Addr)(tcap:Nat)(G:Option Addr)(gcap:Nat)(tabs:List Gu)(X:Wd)(w:World)(h:Ir w T G tabs X):
  Calls Au 51 #[JN T tabs.length tcap G X.gens.length gcap] w fun e w'=>∃A' c' G' gc',e=Ao (Ai #[Up A' c' G' gc' X,Af #[I K 0,I K 0]])∧Gv w.heap.size w' A' c' G' gc' X∧Below w.heap.size w w':=by
 have hw0:=(F7 X).2 h.right;obtain⟨hl,hgl,_⟩:=GD hw0;have hml:(tabs.map Mq).length=tabs.length:=Bj _;have htf:=h.few;have hT:iX w T (tabs.map Mq) tabs:=⟨h.tbs.x,by omega,fun i hi=>by rw[Kk tabs (by omega)];exact(h.each _ (Bm (by omega))).fewX,by omega,fun i hi=>Kk tabs hi,h.each,fun i hi=>ik h.each h.up hi,fun hi=>by omega⟩;have:=Sy T tcap G gcap _ tabs X w hT (Uv h.right h.perm) h.gens (by omega) (by rw[h.perm.length_eq];omega);have hE:Sz (tabs.map Mq) tabs X=(0,0):=by unfold Sz;rw[AA (by omega),hw0]
 have hW:Tu (tabs.map Mq) tabs X=X:=by unfold Tu;rw[hE,AF R]
 rw[hE,hW,hml]at this;exact this
structure BB(w:World)(u0 u1 y0 y1:Value)(W:World):Prop where
 bel:Below w.heap.size w W
 sz:w.heap.size+2≤W.heap.size
 r:L8 w.heap.size u0 u1 W
 s:L8 (w.heap.size+1) y0 y1 W
theorem BB.below{w W W1:World}{u0 u1 E F:Value}(h:BB w u0 u1 E F W)(D:Below W.heap.size W W1):BB w u0 u1 E F W1 :=
 ⟨h.bel.trans (D.mono h.bel.size),AU h.sz D.size,h.r.keep (D.mono (by have:=h.sz;omega)),h.s.keep (D.mono h.sz)⟩
theorem BB.start(w:World)(u0 u1 h D:Value)(s t:TypeId):BB w u0 u1 h D ((w.alloc (Al #[u0,u1] s)).alloc (Al #[h,D] t)):=by
 obtain⟨F,H,af,E⟩:=H' (W:=w) (u0:=u0) (u1:=u1) (t:=s) R;have J:(w.alloc (Al #[u0,u1] s)).heap.size=w.heap.size+1:=by simp
 generalize w.alloc (Al #[u0,u1] s)=W1 at *;obtain⟨c0,c1,L,cb⟩:=H' (W:=W1) (u0:=h) (u1:=D) (t:=t) J;exact⟨E.trans (cb.mono E.size),by simp;omega,L8.keep ⟨F,H,af⟩ (cb.mono (by omega)),⟨c0,c1,L⟩⟩
theorem IZ{b:Nat}{u v:Value}{W:World}(h:L8 b u v W):W.there b 0 2:=fun j D=>by
 rcases(by omega:j=0∨j=1)with rfl|rfl
 ·exact⟨by rw[AT,h.e0];rfl,h.f _⟩
 ·exact⟨by rw[AT,h.e1];rfl,h.f _⟩
theorem VR{b:Nat}{u v:Value}{W:World}(h:L8 b u v W)(D E:Value):L8 b D E (W.setCells b 0 [D,E]):=by
 have s:=fun j F=>Cv b [D,E] 0 W (fun j F=>(IZ h j F).1) j F;exact⟨s 0 (by simp),s 1 (by simp),fun i=>by rw[BP];exact h.f i⟩
theorem BB.give{w W:World}{u0 u1 H J:Value}(h:BB w u0 u1 H J W)(D E:Value):BB w u0 u1 D E (W.setCells (w.heap.size+1) 0 [D,E]):=by
 have F:Below (w.heap.size+1) W (W.setCells (w.heap.size+1) 0 [D,E]):=Bv (w.heap.size+1) Fu [D,E] 0 W Fv;exact⟨h.bel.trans (F.mono (by omega)),AU h.sz F.size,h.r.keep F,VR h.s D E⟩
theorem Vw(T:Option Addr)(E:Nat)(G:Option Addr)(F:Nat)(D:List Gu)(X:Wd)(w:World)(h:Ir w T G D X):
  Calls Au 24 #[JN T D.length E G X.gens.length F] w fun e Z=>e=Ao (Af #[I K 0,I K 0])∧Below w.heap.size w Z:=by
 have H:=fun W (hb:Below w.heap.size w W)=>Kb T E G F D X W (h.below hb);have J:=BB.start w (S T D.length E) (S G X.gens.length F) (I K 0) (I K 0) 25 29;unfold JN Up FF at H;clear h;unfold JN;go_enter Tryz.func24,Tryz.ntmps24
 go_wp2_with(first
  |(go_at_call 51;refine(H _ J.bel).mono ?_;rintro e w1⟨A1,c1,G1,Y,rfl,hN,L⟩;have M:=((J.below L).below (IT w1 (Al #[S A1 X.rows.length c1,S G1 X.gens.length Y] 43) (Al #[I K 0,I K 0] 29)));clear hN L)
  |(refine As R 29 (Am 2) (Am 10) R (w.heap.size+1) 0 [I K 0,I K 0] R R (by simp[Ar]) MJ (IZ M.s) ?_;intro W3 U;have V:=M.give (I K 0) (I K 0);rw[←U]at V;clear U))
 have t0:=V.s.e0;have t1:=V.s.e1;refine AG (by simp[results,Tryz.results24,go_sem,t0,t1]<;>rfl) R ⟨rfl,V.bel⟩
theorem Nz(T:Option Addr)(F:Nat)(G:Option Addr)(H:Nat)(D:List Gu)(X:Wd)(w:World)(h:Ir w T G D X):
  Calls Au 25 #[JN T D.length F G X.gens.length H] w fun e w'=>∃A' c' G' U,e=Ao (Up A' c' G' U X)∧Gv w.heap.size w' A' c' G' U X∧Below w.heap.size w w':=by
 have V:=fun W (hb:Below w.heap.size w W)=>Kb T F G H D X W (h.below hb);have J:=BB.start w (S T D.length F) (S G X.gens.length H) (S N 0 0) (S N 0 0) 25 43;unfold JN Up FF at V;clear h;unfold JN Up FF;go_enter Tryz.func25,Tryz.ntmps25
 go_wp2_with(first
  |(go_at_call 51;refine(V _ J.bel).mono ?_;rintro e w1⟨L,c1,M,E,rfl,hN,Y⟩;have Z:=((J.below Y).below (IT w1 (Al #[S L X.rows.length c1,S M X.gens.length E] 43) (Al #[I K 0,I K 0] 29)));have HN:=((hN.below (IT w1 (Al #[S L X.rows.length c1,S M X.gens.length E] 43) (Al #[I K 0,I K 0] 29))));clear hN Y)
  |(refine As R 43 (Am 2) (Am 10) R (w.heap.size+1) 0 [S L X.rows.length c1,S M X.gens.length E] R R (by simp[Ar]) F8 (IZ Z.s) ?_;intro W3 ha;have hC:=Z.give (S L X.rows.length c1) (S M X.gens.length E);have hM:=IB HN (b:=w.heap.size+1) (o:=0) (vs:=[S L X.rows.length c1,S M X.gens.length E]) (by have:=J.sz;omega);rw[←ha]at hC hM;clear ha))
 have t0:=hC.s.e0;have t1:=hC.s.e1;refine AG (by simp[results,Tryz.results25,go_sem,t0,t1]<;>rfl) R ⟨L,c1,M,E,rfl,Kj hM J.bel.size,hC.bel⟩
theorem OD{w D:World}(a:Addr)(u:Value)(k:Nat)(h:D.heap[k]?=w.heap[k]?):(D.setCell a u).heap[k]?=(w.setCell a u).heap[k]?:=by
 simp only[World.setCell,Array.getElem?_modify];split <;>simp[h]
theorem Mg{S cb:Nat}:∀(vs:List Value) (o:Nat) (w D:World),Below S w D→Below S (w.setCells cb o vs) (D.setCells cb o vs)
 |[],_,_,_,h=>h
 |u :: r,o,w,D,h=>Mg r (o+1) _ _ ⟨h.os,h.tape,h.output,by simpa[World.setCell]using h.size,fun k E=>OD ⟨cb,o,N⟩ u k (h.block k E)⟩
structure B2(B:Nat)(u0 u1 y0 y1:Value)(W:World):Prop where
 sz:B+2≤W.heap.size
 r:L8 B u0 u1 W
 s:L8 (B+1) y0 y1 W
theorem B2.below{B:Nat}{u0 u1 E F:Value}{W W1:World}(h:B2 B u0 u1 E F W)(D:Below W.heap.size W W1):B2 B u0 u1 E F W1 :=
 ⟨AU h.sz D.size,h.r.keep (D.mono (by have:=h.sz;omega)),h.s.keep (D.mono h.sz)⟩
theorem B2.start(w:World)(u0 u1 D E:Value)(s t:TypeId):B2 w.heap.size u0 u1 D E ((w.alloc (Al #[u0,u1] s)).alloc (Al #[D,E] t)):=by
 have h:=BB.start w u0 u1 D E s t;exact⟨h.sz,h.r,h.s⟩
theorem L8.sets{b cb o:Nat}{u v:Value}{vs:List Value}{W:World}(h:L8 b u v W)(D:b≠cb):L8 b u v (W.setCells cb o vs):=
 ⟨(FZ D).trans h.e0,(FZ D).trans h.e1,fun i=>by rw[BP];exact h.f i⟩
theorem B2.turn{B cb o:Nat}{u0 u1 D E:Value}{vs:List Value}{W:World}(h:B2 B u0 u1 D E W)(F:cb<B):B2 B u0 u1 D E (W.setCells cb o vs):=
 ⟨by rw[Gk];exact h.sz,h.r.sets (by omega),h.s.sets (by omega)⟩
theorem B2.give{B:Nat}{u0 u1 H J:Value}{W:World}(h:B2 B u0 u1 H J W)(D E:Value):B2 B u0 u1 D E (W.setCells (B+1) 0 [D,E]):=by
 have F:Below (B+1) W (W.setCells (B+1) 0 [D,E]):=Bv (B+1) Fu [D,E] 0 W Fv;exact⟨AU h.sz F.size,h.r.keep F,VR h.s D E⟩
def Kh(fid:FuncId)(caps:List Value)(X Y:Wd)(err:Int)(cb:Nat)(vs:List Value)(w:World):Prop:=∀A c G gc W,FX W A c G gc X→Below w.heap.size w W→Calls Au fid (Up A c G gc X :: caps).toArray W fun e w'=>∃A' c' G' gc',e=Ao (Ai #[Up A' c' G' gc' Y,I K err])∧Gv W.heap.size w' A' c' G' gc' Y∧Below W.heap.size (W.setCells cb 0 vs) w'
theorem Te(X:Wd)(b:Nat)(g i:Int)(w:World)(hl:X.rows.length≤60)(h0:w.cell? ⟨b,0,N⟩=O (I K i))(h1:w.cell? ⟨b,1,N⟩=O (I K g)):Kh 110 [Ae (O ⟨b,0,N⟩)] X (GS X i g).2 (GS X i g).1 0 [] w:=by
 intro A c G gc W hX E;have hB:=B2.start W (S A X.rows.length c) (S G X.gens.length gc) (S N 0 0) (S N 0 0) 43 43;have F:=IT W (Al #[S A X.rows.length c,S G X.gens.length gc] 43) (Al #[S N 0 0,S N 0 0] 43);have g0:=AW F (AW E h0);have g1:=AW F (AW E h1);have hC:=fun W2 (hb:Below W.heap.size W W2)=>Uo A c G gc X i g W2 (by omega) (hX.below hb);obtain⟨Y,hY⟩:∃Y,Y=(GS X i g).2:=⟨_,rfl⟩;obtain⟨M,D⟩:∃M,M=(GS X i g).1:=⟨_,rfl⟩;rw[←hY,←D]at hC⊢;unfold Up FF FJ at hC;have H:=An F;clear hX E hY D h0 h1;show Calls Au 110 #[Up A c G gc X,Ae (O ⟨b,0,N⟩)] W _;unfold Up FF;go_enter Tryz.func110,Tryz.ntmps110
 go_wp2_with(first
  |(go_at_call 111;refine(hC _ (AN H)).mono ?_;rintro e w1⟨U,c1,V,h,rfl,he,J⟩;have Z:=(hB.below J);have hf:=((AN H).trans (J.mono (AN H).size));clear J g0 g1)
  |(refine As R 43 (Am 3) (Am 8) R (W.heap.size+1) 0 [S U Y.rows.length c1,S V Y.gens.length h] R R (by simp[Ar]) F8 (IZ Z.s) ?_;intro W4 ha;have L:=Z.give (S U Y.rows.length c1) (S V Y.gens.length h);have hc:=IB he (b:=W.heap.size+1) (o:=0) (vs:=[S U Y.rows.length c1,S V Y.gens.length h]) (by have:=hB.sz;omega);have hd:=Bv (W.heap.size+1) (by omega) [S U Y.rows.length c1,S V Y.gens.length h] 0 w1 hf;rw[←ha]at L hc hd;clear ha))
 have t0:=L.s.e0;have t1:=L.s.e1;refine AG (by simp[results,Tryz.results110,go_sem,t0,t1]<;>rfl) R ⟨U,c1,V,h,rfl,Kj hc (by have:=hB.sz;omega),hd⟩
theorem VP(X:Wd)(b bp bn:Nat)(g i n p:Int)(w:World)(hl:X.rows.length≤60)(h0:w.cell? ⟨b,0,N⟩=O (I K i))(h1:w.cell? ⟨b,1,N⟩=O (I K g))(h2:w.cell? ⟨bp,0,N⟩=O (I K p))(h3:w.cell? ⟨bn,0,N⟩=O (I K n)):Kh 112 [Ae (O ⟨b,0,N⟩),Ae (O ⟨bp,0,N⟩),Ae (O ⟨bn,0,N⟩)] X (Hc X i g p n).2 (Hc X i g p n).1 0 [] w:=by
 intro A c G gc W hX h;have hB:=B2.start W (S A X.rows.length c) (S G X.gens.length gc) (S N 0 0) (S N 0 0) 43 43;have D:=IT W (Al #[S A X.rows.length c,S G X.gens.length gc] 43) (Al #[S N 0 0,S N 0 0] 43);have g0:=AW D (AW h h0);have g1:=AW D (AW h h1);have g2:=AW D (AW h h2);have g3:=AW D (AW h h3);have hC:=fun W2 (hb:Below W.heap.size W W2)=>Xb A c G gc X i g p n W2 (by omega) (hX.below hb);obtain⟨Y,hY⟩:∃Y,Y=(Hc X i g p n).2:=⟨_,rfl⟩;obtain⟨M,F⟩:∃M,M=(Hc X i g p n).1:=⟨_,rfl⟩;rw[←hY,←F]at hC⊢;unfold Up FF FJ at hC;have H:=An D;clear hX h hY F h0 h1 h2 h3;show Calls Au 112 #[Up A c G gc X,Ae (O ⟨b,0,N⟩),Ae (O ⟨bp,0,N⟩),Ae (O ⟨bn,0,N⟩)] W _;unfold Up FF;go_enter Tryz.func112,Tryz.ntmps112
 go_wp2_with(first
  |(go_at_call 113;refine(hC _ (AN H)).mono ?_;rintro e w1⟨U,c1,V,E,rfl,he,J⟩;have Z:=(hB.below J);have hf:=((AN H).trans (J.mono (AN H).size));clear J g0 g1 g2 g3)
  |(refine As R 43 (Am 5) (Am 12) R (W.heap.size+1) 0 [S U Y.rows.length c1,S V Y.gens.length E] R R (by simp[Ar]) F8 (IZ Z.s) ?_;intro W4 ha;have L:=Z.give (S U Y.rows.length c1) (S V Y.gens.length E);have hc:=IB he (b:=W.heap.size+1) (o:=0) (vs:=[S U Y.rows.length c1,S V Y.gens.length E]) (by have:=hB.sz;omega);have hd:=Bv (W.heap.size+1) (by omega) [S U Y.rows.length c1,S V Y.gens.length E] 0 w1 hf;rw[←ha]at L hc hd;clear ha))
 have t0:=L.s.e0;have t1:=L.s.e1;refine AG (by simp[results,Tryz.results112,go_sem,t0,t1]<;>rfl) R ⟨U,c1,V,E,rfl,Kj hc (by have:=hB.sz;omega),hd⟩
theorem Tf(X:Wd)(b bp:Nat)(g i p:Int)(w:World)(hl:X.rows.length≤60)(h0:w.cell? ⟨b,0,N⟩=O (I K i))(h1:w.cell? ⟨b,1,N⟩=O (I K g))(h2:w.cell? ⟨bp,0,N⟩=O (I K p)):Kh 114 [Ae (O ⟨b,0,N⟩),Ae (O ⟨bp,0,N⟩)] X (GK X i g p).2 (GK X i g p).1 0 [] w:=by
 intro A c G gc W hX D;have hB:=B2.start W (S A X.rows.length c) (S G X.gens.length gc) (S N 0 0) (S N 0 0) 43 43;have E:=IT W (Al #[S A X.rows.length c,S G X.gens.length gc] 43) (Al #[S N 0 0,S N 0 0] 43);have g0:=AW E (AW D h0);have g1:=AW E (AW D h1);have g2:=AW E (AW D h2);have hC:=fun W2 (hb:Below W.heap.size W W2)=>U8 A c G gc X i g p W2 (by omega) (hX.below hb);obtain⟨Y,hY⟩:∃Y,Y=(GK X i g p).2:=⟨_,rfl⟩;obtain⟨M,F⟩:∃M,M=(GK X i g p).1:=⟨_,rfl⟩;rw[←hY,←F]at hC⊢;unfold Up FF FJ at hC;have H:=An E;clear hX D hY F h0 h1 h2;show Calls Au 114 #[Up A c G gc X,Ae (O ⟨b,0,N⟩),Ae (O ⟨bp,0,N⟩)] W _;unfold Up FF;go_enter Tryz.func114,Tryz.ntmps114
 go_wp2_with(first
  |(go_at_call 115;refine(hC _ (AN H)).mono ?_;rintro e w1⟨U,c1,V,h,rfl,he,J⟩;have Z:=(hB.below J);have hf:=((AN H).trans (J.mono (AN H).size));clear J g0 g1 g2)
  |(refine As R 43 (Am 4) (Am 10) R (W.heap.size+1) 0 [S U Y.rows.length c1,S V Y.gens.length h] R R (by simp[Ar]) F8 (IZ Z.s) ?_;intro W4 ha;have L:=Z.give (S U Y.rows.length c1) (S V Y.gens.length h);have hc:=IB he (b:=W.heap.size+1) (o:=0) (vs:=[S U Y.rows.length c1,S V Y.gens.length h]) (by have:=hB.sz;omega);have hd:=Bv (W.heap.size+1) (by omega) [S U Y.rows.length c1,S V Y.gens.length h] 0 w1 hf;rw[←ha]at L hc hd;clear ha))
 have t0:=L.s.e0;have t1:=L.s.e1;refine AG (by simp[results,Tryz.results114,go_sem,t0,t1]<;>rfl) R ⟨U,c1,V,h,rfl,Kj hc (by have:=hB.sz;omega),hd⟩
theorem R3(X:Wd)(bh bn cb:Nat)(h n:Int)(w:World)(hl:X.rows.length≤60)(h0:w.cell? ⟨bh,0,N⟩=O (I K h))(h1:w.cell? ⟨bn,0,N⟩=O (I K n)){v0 v1:Value}(h2:L8 cb v0 v1 w)(hd:cb<w.heap.size):
  Kh 139 [Ae (O ⟨bh,0,N⟩),Ae (O ⟨bn,0,N⟩),Ae (O ⟨cb,0,N⟩)] X (FQ X h n).2.2 (FQ X h n).1 cb [I K (FQ X h n).2.1.1,I K (FQ X h n).2.1.2] w:=by
 intro A c G gc W hX E;have hB:=B2.start W (S A X.rows.length c) (S G X.gens.length gc) (S N 0 0) (S N 0 0) 43 43;have U:=IT W (Al #[S A X.rows.length c,S G X.gens.length gc] 43) (Al #[S N 0 0,S N 0 0] 43);have g0:=AW U (AW E h0);have g1:=AW U (AW E h1);have hC:=fun W2 (hb:Below W.heap.size W W2)=>SH A c G gc X h n W2 (by omega) (hX.below hb);obtain⟨Y,hY⟩:∃Y,Y=(FQ X h n).2.2:=⟨_,rfl⟩;obtain⟨he,M⟩:∃he,he=(FQ X h n).1:=⟨_,rfl⟩;obtain⟨ci,hf⟩:∃ci,ci=(FQ X h n).2.1.1:=⟨_,rfl⟩;obtain⟨cg,hg⟩:∃cg,cg=(FQ X h n).2.1.2:=⟨_,rfl⟩;rw[←hY,←M,←hf,←hg]at hC⊢;unfold Up FF FJ at hC;have hs:L8 cb v0 v1 W:=h2.keep (E.mono (by omega));have F:cb<W.heap.size:=Bs hd E.size;have V:=An U;clear hX E hY M hf hg h0 h1 h2 hd;show Calls Au 139 #[Up A c G gc X,Ae (O ⟨bh,0,N⟩),Ae (O ⟨bn,0,N⟩),Ae (O ⟨cb,0,N⟩)] W _;unfold Up FF;go_enter Tryz.func139,Tryz.ntmps139
 go_wp2_with(first
  |(go_at_call 132;refine(hC _ (AN V)).mono ?_;rintro e w1⟨J,c1,L,D,rfl,ht,Z⟩;have hh:=(hB.below Z);have hu:=((AN V).trans (Z.mono (AN V).size));clear Z g0 g1)
  |(refine As R 43 (Am 5) (Am 12) R (W.heap.size+1) 0 [S J Y.rows.length c1,S L Y.gens.length D] R R (by simp[Ar]) F8 (IZ hh.s) ?_;intro W4 hi;have hj:=hh.give (S J Y.rows.length c1) (S L Y.gens.length D);have hk:=IB ht (b:=W.heap.size+1) (o:=0) (vs:=[S J Y.rows.length c1,S L Y.gens.length D]) (by have:=hB.sz;omega);have ha:=Bv (W.heap.size+1) (by omega) [S J Y.rows.length c1,S L Y.gens.length D] 0 w1 hu;rw[←hi]at hj hk ha;clear hi)
  |(refine As R 61 (Am 3) (Am 13) R cb 0 [I K ci,I K cg] R R (by simp[Ar]) Im (IZ (hs.keep (ha.mono F))) ?_;intro W5 hm;have H:=hj.turn (o:=0) (vs:=[I K ci,I K cg]) F;have hn:=IB hk (b:=cb) (o:=0) (vs:=[I K ci,I K cg]) (by have:=hB.sz;have:=F;omega);have ho:=Mg (cb:=cb) [I K ci,I K cg] 0 _ _ ha;rw[←hm]at H hn ho;have x0:=H.s.e0;have x1:=H.s.e1;clear hm)
  |(refine As R 43 (Am 5) (Am 15) R (W.heap.size+1) 0 [S J Y.rows.length c1,S L Y.gens.length D] R R (by simp[Ar]) F8 (IZ H.s) ?_;intro W6 hp;have hc:=H.give (S J Y.rows.length c1) (S L Y.gens.length D);have hq:=IB hn (b:=W.heap.size+1) (o:=0) (vs:=[S J Y.rows.length c1,S L Y.gens.length D]) (by have:=hB.sz;omega);have hr:=Bv (W.heap.size+1) (by omega) [S J Y.rows.length c1,S L Y.gens.length D] 0 W5 ho;rw[←hp]at hc hq hr;clear hp))
 have t0:=hc.s.e0;have t1:=hc.s.e1;refine AG (by simp[results,Tryz.results139,go_sem,t0,t1]<;>rfl) R ⟨J,c1,L,D,rfl,Kj hq (by have:=hB.sz;omega),hr⟩
end Go.Proofs.YtnbleebilmghcabGreat
