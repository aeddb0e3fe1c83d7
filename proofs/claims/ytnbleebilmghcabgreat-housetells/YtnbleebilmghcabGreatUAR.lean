/- SData, SIns, SRot -/
import Derived.Test.YtnbleebilmghcabGreatUAC
import Derived.Test.YtnbleebilmghcabGreatUAB
import Derived.Test.YtnbleebilmghcabGreatUAI
import Derived.Test.YtnbleebilmghcabGreatUAM
set_option linter.all false
set_option maxRecDepth 8000
set_option maxHeartbeats 8000000
open Go.Value renaming int→I,slice→S,pointer→Ae,agg→Af,tuple→Ai,bool→Aj
open Go.IntKind renaming i64→K
open Option renaming none→N,some→O
open Go.Operand renaming tmp→Am
open Go.Ending renaming returned→Ao
open Array renaming getD_eq_getD_getElem?→Ap
open Go.Act renaming eval→Aq
open Go.Proofs.Tryz renaming prog→Au
namespace Go.Proofs.YtnbleebilmghcabGreat
open Go Go.RowKit
theorem LW{w w1 w2:World}{g:Option Nat}(h:w.grownBy w1 g)(k:w1.grownBy w2 g):w.grownBy w2 g :=
 ⟨k.os.trans h.os,k.tape.trans h.tape,k.output.trans h.output,AU h.size k.size,fun i E D=>(k.block i (Bs E h.size) D).trans (h.block i E D)⟩
theorem Q8{w w1:World}{g:Option Nat}(h:Below w.heap.size w w1):w.grownBy w1 g:=⟨h.os,h.tape,h.output,h.size,fun i D _=>h.block i D⟩
theorem NH(g:Nat):∀(vs:List Value) (o:Nat) (W:World),W.grownBy (W.setCells g o vs) (O g)
 |[],_,W=>Da _ _
 |v :: r,o,W=>LW (MV W g o v) (NH g r (o+1) _)
structure DL(g cap:Nat)(W0:World)(l:List D7)(W:World):Prop where
 own:W.ownsRow g 116 11 (S (O ⟨g,0,N⟩) l.length cap) l.length (At l)
 gr:W0.grownBy W (O g)
section
variable {g cap:Nat} {W0 W W1:World} {l:List D7}
theorem DL.lt(h:DL g cap W0 l W):g<W.heap.size:=(h.own.lt g R).2
theorem DL.below(h:DL g cap W0 l W)(D:Below W.heap.size W W1):DL g cap W0 l W1:=⟨FT h.own D,LW h.gr (Q8 D)⟩
theorem DL.row(h:DL g cap W0 l W)(k:Nat)(D:k<l.length):Hb W g (k*11) (l.getD k dR):=by
 have:=Js h.own k D;obtain⟨b,E,e,F⟩:=this;simp only[Bc,Cr,Bx]at e;obtain⟨rfl,rfl⟩:=e;rwa[AT]at F
theorem DL.there(h:DL g cap W0 l W)(k:Nat)(D:k<l.length):W.there g (k*11) 11:=Hl h.own (k*11) 11 (by rw[Fy];omega)
theorem DL.set(h:DL g cap W0 l W)(k:Nat)(D:k<l.length)(r:D7):DL g cap W0 (l.set k r) (W.setCells g (k*11) (D' r)):=by
 refine⟨?_,LW h.gr (NH g _ _ _)⟩;have:=Ib (D' r) (k*11) W (At l) h.own (by rw[Fy,F2];omega);rw[N3 l k r D]at this;rw[By];exact this
theorem DL.trans{D:List D7}(h:DL g cap W0 l W)(E:DL g cap W D W1):DL g cap W0 D W1:=⟨E.own,LW h.gr E.gr⟩
theorem DL.self(h:DL g cap W0 l W):DL g cap W l W:=⟨h.own,Da _ _⟩
end
def GY(R:Nat→D7)(s:Nat→Nat)(n:Nat):List D7:=(List.range n).map fun k=>R (s k)
theorem GT(R:Nat→D7)(s:Nat→Nat)(n:Nat):(GY R s n).length=n:=by simp[GY]
theorem JV(R:Nat→D7)(s:Nat→Nat)(n k:Nat)(h:k<n):(GY R s n).getD k dR=R (s k):=by
 unfold GY;rw[Az,AE (by simpa using h)];simp
theorem WQ(R:Nat→D7)(s t:Nat→Nat)(n:Nat)(h:∀ k,k<n→s k=t k):GY R s n=GY R t n:=by
 unfold GY;apply CC;intro k D;rw[h k (Bh.1 D)]
theorem O9(R:Nat→D7)(s:Nat→Nat)(n i j:Nat)(E:i<j)(F:j<n):((GY R s n).set i (R (s j))).set j (R (s i))=GY R (Nm s i j 1) n:=by
 refine Ca (by simp[GY]) fun k H J=>?_;rw[Dr,Dr];simp only[GY,BO,CQ,Nm];by_cases h:j=k
 ·subst h;rw[AF rfl,AA (by omega),AF (by omega),show j - (j - i)=i by omega]
 ·rw[AA h];by_cases D:i=k
  ·subst D;rw[AF rfl,AF (by omega),show i+(j - i)=j by omega]
  ·rw[AA D,AA (by omega),AA (by omega)]
theorem Qk(R:Nat→D7)(s:Nat→Nat)(n i j:Nat)(h:i<j)(D:j<n):((GY R s n).set j (R (s i))).set i (R (s j))=GY R (Nm s i j 1) n:=by
 rw[List.set_comm _ _ (by omega)];exact O9 R s n i j h D
def NJ(a b:Int):Int:=if a<b then -1 else if b<a then 1 else 0
theorem JX(a b:Int):(NJ a b<0)↔a<b:=by unfold NJ;split <;>(try split)<;>omega
theorem PG(a:Int)(w:World):Calls Au 131 #[I K a] w fun e h=>e=Ao (Aj false)∧h=w:=by
 go_enter Tryz.func131,Tryz.ntmps131
 go_wp2;go_ret;exact⟨rfl,rfl⟩
theorem Pn(a b:Int)(w:World):Calls Au 94 #[I K a,I K b] w fun e F=>e=Ao (I K (NJ a b))∧F=w:=by
 by_cases D:a<b
 ·have e:NJ a b=-1:=by unfold NJ;rw[AF D]
  rw[e];clear e;go_enter Tryz.func94,Tryz.ntmps94
  go_wp2_with((go_at_call 131;refine(PG _ _).mono ?_;rintro e w1⟨rfl,h⟩;obtain rfl:=h.symm))
  go_ret;exact⟨rfl,rfl⟩
 ·by_cases E:b<a
  ·have e:NJ a b=1:=(by unfold NJ;rw[AA D,AF E]);rw[e];clear e;go_enter Tryz.func94,Tryz.ntmps94
   go_wp2_with((go_at_call 131;refine(PG _ _).mono ?_;rintro e w1⟨rfl,h⟩;obtain rfl:=h.symm))
   go_ret;exact⟨rfl,rfl⟩
  ·have e:NJ a b=0:=(by unfold NJ;rw[AA D,AA E]);rw[e];clear e;go_enter Tryz.func94,Tryz.ntmps94
   go_wp2_with((go_at_call 131;refine(PG _ _).mono ?_;rintro e w1⟨rfl,h⟩;obtain rfl:=h.symm))
   go_ret;exact⟨rfl,rfl⟩
theorem Mb(x y:D7)(w:World):Calls Au 93 #[Hi x,Hi y] w fun e h=>e=Ao (I K (NJ x.ix y.ix))∧Below w.heap.size w h:=by
 have D:=(Pn x.ix y.ix);unfold Hi;go_enter Tryz.func93,Tryz.ntmps93
 go_wp2_with((go_at_call 94;refine(D _).mono ?_;rintro e w1⟨rfl,E⟩;obtain rfl:=E.symm))
 go_ret;exact⟨rfl,IT _ _ _⟩
attribute [local go_sem ↓] Go.wp_at_zero Go.wp_at_succ
theorem IX{W:World}{b o:Nat}{y:D7}(h:Hb W b o y):W.cell? ⟨b,o,none⟩=some (.int .i64 y.ix)∧W.cell? ⟨b,o+1,none⟩=some (.int .i64 y.gen)∧W.cell? ⟨b,o+2,none⟩=some (.int .i64 y.has)∧W.cell? ⟨b,o+3,none⟩=some (.int .i64 (y.v 0))∧W.cell? ⟨b,o+4,none⟩=some (.int .i64 (y.v 1))∧W.cell? ⟨b,o+5,none⟩=some (.int .i64 (y.v 2))∧W.cell? ⟨b,o+6,none⟩=some (.int .i64 (y.v 3))∧W.cell? ⟨b,o+7,none⟩=some (.int .i64 (y.v 4))∧W.cell? ⟨b,o+8,none⟩=some (.int .i64 (y.v 5))∧W.cell? ⟨b,o+9,none⟩=some (.int .i64 (y.v 6))∧W.cell? ⟨b,o+10,none⟩=some (.int .i64 (y.v 7)):=
 ⟨h.c0,h.c1,h.c2,h.v 0 (by omega),h.v 1 (by omega),h.v 2 (by omega),h.v 3 (by omega),h.v 4 (by omega),h.v 5 (by omega),h.v 6 (by omega),h.v 7 (by omega)⟩
theorem Li{x:Int}(h0:-9223372036854775808≤x)(h1:x≤9223372036854775807):IntKind.i64.wrap x=x:=DH x ⟨h0,h1⟩
def K6:Value:=.func (.func 93) #[] #[]
theorem fb{x:D7}:(Tryz.prog.info? 116).map (·.size)=some (D' x).toArray.size:=by
 have:(Tryz.prog.info? 116).map (·.size)=some 11:=by kernel_rfl
 rw[this];simp[F2]
theorem LY{Γ:Type}{P:Program}{o:Oper}{ac:Act}{w1:World}{V:Γ→Value→Prop}{D:Γ→World→Prop}{M:Γ→Prop}{Q:Exit→Act→World→Prop}(γ:Γ)(ty:TypeId)(x y:Operand)(ho:o.op=.store ty x y)(b i:Nat)(cells:List Value)(hx:ac.eval x=Ae (O ⟨b,i,N⟩))(hy:ac.eval y=Af cells.toArray)(h1:∀ u∈cells,u.oneCell'=true)(hi:(P.info? ty).map (·.size)=O cells.length)(ht:w1.there b i cells.length)(hV:V γ undef)(hD:D γ (w1.setCells b i cells))(hM:M γ):
  o.wp P ac w1 (fun ac' w'=>∃v γ',ac'=ac.put o.dst v∧V γ' v∧D γ' w'∧M γ') Q :=
 DV ty x y ho b i cells.toArray hx hy (by simpa using ht) (by simpa using hi) (Em h1) ⟨undef,γ,rfl,hV,by simpa using hD,hM⟩
theorem KL{x:D7}:(Tryz.prog.info? 116).map (·.size)=some (D' x).length:=fb
theorem DL.sub{g cap:Nat}{W0 W:World}{R:Nat→D7}{s:Nat→Nat}{n:Nat}(h:DL g cap W0 (GY R s n) W)(k:Nat)(hk:k<n):(∀x:Hm W,x.val.cell? ⟨g,k*11,N⟩=O (I K ((R (s k)).ix)))∧(∀x:Hm W,x.val.cell? ⟨g,k*11+1,N⟩=O (I K ((R (s k)).gen)))∧(∀x:Hm W,x.val.cell? ⟨g,k*11+2,N⟩=O (I K ((R (s k)).has)))∧(∀x:Hm W,x.val.cell? ⟨g,k*11+3,N⟩=O (I K ((R (s k)).v 0)))∧(∀x:Hm W,x.val.cell? ⟨g,k*11+4,N⟩=O (I K ((R (s k)).v 1)))∧(∀x:Hm W,x.val.cell? ⟨g,k*11+5,N⟩=O (I K ((R (s k)).v 2)))∧(∀x:Hm W,x.val.cell? ⟨g,k*11+6,N⟩=O (I K ((R (s k)).v 3)))∧(∀x:Hm W,x.val.cell? ⟨g,k*11+7,N⟩=O (I K ((R (s k)).v 4)))∧(∀x:Hm W,x.val.cell? ⟨g,k*11+8,N⟩=O (I K ((R (s k)).v 5)))∧(∀x:Hm W,x.val.cell? ⟨g,k*11+9,N⟩=O (I K ((R (s k)).v 6)))∧(∀x:Hm W,x.val.cell? ⟨g,k*11+10,N⟩=O (I K ((R (s k)).v 7))):=by
 have:=IX (h.row k (by rw[GT];exact hk));rw[JV R s n k hk]at this;obtain⟨c0,c1,c2,c3,c4,c5,c6,c7,c8,c9,c10⟩:=this;exact⟨B1 c0,B1 c1,B1 c2,B1 c3,B1 c4,B1 c5,B1 c6,B1 c7,B1 c8,B1 c9,B1 c10⟩
theorem Ur(g cap n a b:Nat)(R:Nat→D7)(s0:Nat→Nat)(W0:World)(hab:a≤b)(hbn:b≤n)(hn:n≤4194304)(hid:∀ x,a≤x→x<b→s0 x=x)(h:DL g cap W0 (GY R s0 n) W0):
  Calls Au 146 #[S (O ⟨g,0,N⟩) n cap,I K (a:Int),I K (b:Int),K6] W0 fun e w'=>e=Ao (Ai #[])∧∃t,DL g cap W0 (GY R t n) w'∧SP s0 t a b∧LC (fun p=>(R p).ix) t a b:=by
 have H:=An h;have HID:=An hid;clear h hid;unfold K6;go_enter Tryz.func146,Tryz.ntmps146
 go_wp2;go_loopw [8] (fun t wr=>∃(i:Nat) (s:Nat→Nat),t=I K (i:Int)∧a+1≤i∧(i≤b∨(i=a+1∧a=b))∧DL g cap W0 (GY R s n) wr∧SP s0 s a b∧LC (fun p=>(R p).ix) s a i∧(∀y,a≤y→y<i→y<b→s y<i)∧(∀x,i≤x→x<b→s x=x)) (fun t _=>b - (intOf t).toNat)
 case atStart=>exact⟨a+1,s0,by go_num,AC _,by omega,AN H,SP.refl _ _ _,fun i j h1 h2 h3=>by omega,fun y h1 h2 h3=>by have:=AN HID y h1 h3;omega,fun x h1 h2=>AN HID x (by omega) h2⟩
 case round =>
  clear H HID;obtain⟨i,s,rfl,hi1,hi2,hDL,hSP,hSrt,hlo,hhi⟩:=hrel;by_cases hlt:i<b
  ·have i1:(i:Int)<(b:Int):=(by omega);have HSP:=An hSP;have HIN:=An (Zu.start (by omega:a≤i) hSrt (fun y h1 h2=>by rw[hhi i Fu hlt];exact hlo y h1 h2 (by omega)));have HLO:Hid (∀y,a≤y→y≤i→s y≤i):=An (fun y h1 h2=>by
    rcases Bo y i with h3|h3
    ·exact DD (hlo y h1 h3 (by omega))
    ·rw[show y=i by omega,hhi i Fu hlt];exact AC _)
   have HHI:Hid (∀x,i<x→x<b→s x=x):=An (fun x h1 h2=>hhi x (by omega) h2);clear hSP hSrt hlo hhi;go_wp2;go_loopw [9] (fun t wr=>∃(j:Nat) (s:Nat→Nat),t=I K (j:Int)∧a≤j∧j≤i∧DL g cap W0 (GY R s n) wr∧SP s0 s a b∧Zu (fun p=>(R p).ix) s a i j∧(∀y,a≤y→y≤i→s y≤i)∧(∀x,i<x→x<b→s x=x)) (fun t _=>(intOf t).toNat)
   case atStart=>exact⟨i,s,rfl,by omega,AC _,hDL,AN HSP,AN HIN,AN HLO,AN HHI⟩
   case round =>
    clear hDL HSP HIN HLO HHI;clear s;obtain⟨j,s,rfl,hj1,hj2,hDL,hSP,hIns,hlo,hhi⟩:=hrel;have HSP:=An hSP;have HIN:=An hIns;have HLO:=An hlo;have HHI:=An hhi;by_cases hja:a<j
    ·obtain⟨k,hk⟩:∃k,j=k+1:=⟨j - 1,by omega⟩;have j0:(0:Int)≤(j:Int):=(by omega);have j1:(j:Int)<(n:Int):=(by omega);have k0:(0:Int)≤(k:Int):=(by omega);have k1:(k:Int)<(n:Int):=(by omega);have ja:(a:Int)<(j:Int):=(by omega);have hwk:IntKind.i64.wrap ((j:Int) - 1)=(k:Int):=(by rw[Li (by omega) (by omega)];omega);obtain⟨y0,y1,y2,y3,y4,y5,y6,y7,y8,y9,y10⟩:=hDL.sub j (by omega);obtain⟨z0,z1,z2,z3,z4,z5,z6,z7,z8,z9,z10⟩:=hDL.sub k (by omega);have hCM:=fun V:Hm wr=>Mb (R (s j)) (R (s k)) V.val;unfold Hi at hCM;have HCM:=An hCM;have hsub:Nonempty (Hm wr):=⟨⟨wr,AD _ _⟩⟩;have HK:=An hk;clear hSP hIns hlo hhi hCM hk;go_upto_region 4 with fail
     refine FN (by kernel_rfl) (by kernel_rfl) ?_
     repeat(go_big_quiet_step((go_at_call 93;exact Gf (AN HCM _))))
     refine Bg ?_;rintro w6⟨xs,hxs⟩;have hb6:=xs.bel;rw[←hxs]at hb6;have hE:=hDL.below hb6;clear hxs xs hb6 hsub HCM y0 y1 y2 y3 y4 y5 y6 y7 y8 y9 y10 z0 z1 z2 z3 z4 z5 z6 z7 z8 z9 z10;go_upto_if 34 with fail
     by_cases hc:(R (s j)).ix<(R (s k)).ix
     ·rw [Bq ((JX _ _).2 hc)];have HCC:=An hc;clear hc;have h0:DL g cap W0 (GY R s n) w6.drew:=hE.below (Fv.drew);clear hE;go_upto_region 6 with fail
      refine FW (fun(γ:Unit)=>[S (O ⟨g,0,N⟩) n cap,I K (j:Int),S (O ⟨g,0,N⟩) n cap,I K (j:Int),I K (k:Int),S (O ⟨g,0,N⟩) n cap,I K (j:Int),I K (k:Int),Ae (O ⟨g,k*11,N⟩),Hi (R (s k)),S (O ⟨g,0,N⟩) n cap,I K (j:Int),Ae (O ⟨g,j*11,N⟩),Hi (R (s j)),Ae (O ⟨g,j*11,N⟩),undef,Ae (O ⟨g,k*11,N⟩),undef]) (fun(γ:Unit) L V=>DL g cap W0 (if L 15=true then(if L 17=true then((GY R s n).set j (R (s k))).set k (R (s j))else(GY R s n).set j (R (s k)))else GY R s n) V) (()) (by kernel_rfl) (by kernel_rfl) (by kernel_rfl) (by kernel_rfl) h0 ?hstep ?hend
      case hstep =>
       intro F γ hout hF ix o ho L w1 hD hL hed hcl;simp only[Hu,G9,Br,Bx]at hF;have e0:F.tmps.getD 0 undef=S (O ⟨g,0,N⟩) n cap:=hout 0 (by decide +kernel);have e9:F.tmps.getD 9 undef=I K (j:Int):=hout 9 (by decide +kernel)
       match ix,ho with
       |0,ho|1,ho|2,ho|3,ho|4,ho|5,ho|6,ho|7,ho|8,ho|10,ho|11,ho|12,ho|14,ho|16,ho =>
        simp at ho;subst ho;exact .inl ⟨rfl,FB γ _ (by simp[go_sem,Aq,-Ap,hF,e0,e9,hwk,j0,j1,k0,k1]) rfl (hD) (fun _ _ _=>rfl)⟩
       |9,ho =>
        simp at ho;subst ho;have q:L 15=false:=FA hcl hL 18 15 (by kernel_rfl);have hD':=hD;rw[q,AA (by decide)]at hD';obtain⟨c0,c1,c2,c3,c4,c5,c6,c7,c8,c9,c10⟩:=IX (hD'.row k (by rw[GT];omega));rw[JV R s n k (by omega)]at c0 c1 c2 c3 c4 c5 c6 c7 c8 c9 c10;exact .inl ⟨rfl,FB γ _ (by simp[go_sem,Aq,-Ap,hF,c0,c1,c2,c3,c4,c5,c6,c7,c8,c9,c10,Hi]) rfl hD (fun _ _ _=>rfl)⟩
       |13,ho =>
        simp at ho;subst ho;have q:L 15=false:=FA hcl hL 18 15 (by kernel_rfl);have hD':=hD;rw[q,AA (by decide)]at hD';obtain⟨c0,c1,c2,c3,c4,c5,c6,c7,c8,c9,c10⟩:=IX (hD'.row j (by rw[GT];omega));rw[JV R s n j (by omega)]at c0 c1 c2 c3 c4 c5 c6 c7 c8 c9 c10;exact .inl ⟨rfl,FB γ _ (by simp[go_sem,Aq,-Ap,hF,c0,c1,c2,c3,c4,c5,c6,c7,c8,c9,c10,Hi]) rfl hD (fun _ _ _=>rfl)⟩
       |15,ho =>
        simp at ho;subst ho;have hD':=hD;rw[hL,AA (by decide)]at hD';have q:L 17=false:=FA hcl hL 18 17 (by kernel_rfl);refine .inl ⟨rfl,LY γ 116 (Am 51) (Am 46) rfl g (j*11) (D' (R (s k))) (by simp[Aq,-Ap,hF]) (by simp only[Aq,hF];rfl) (F9 _) KL (hD'.there j (by rw[GT];omega)) rfl ?_ (fun _ _ _=>rfl)⟩;show DL g cap W0 (if true=true then(if L 17=true then _ else _)else _) _;rw[q];exact hD'.set j (by rw[GT];omega) _
       |17,ho =>
        simp at ho;subst ho;have q:L 15=true:=hed 15 (by kernel_rfl);have hD':=hD;rw[q,hL,AF rfl,AA (by decide)]at hD';refine .inl ⟨rfl,LY γ 116 (Am 52) (Am 50) rfl g (k*11) (D' (R (s j))) (by simp[Aq,-Ap,hF]) (by simp only[Aq,hF];rfl) (F9 _) KL (hD'.there k (by simp only[By,GT];omega)) rfl ?_ (fun _ _ _=>rfl)⟩;show DL g cap W0 (if L 15=true then(if true=true then _ else _)else _) _;rw[q];exact hD'.set k (by simp only[By,GT];omega) _
       |ix+18,ho=>simp at ho
      case hend =>
       intro γ L w2 hD hall;have hE:=hD;rw[hall 15 (by decide),hall 17 (by decide),AF rfl,AF rfl,Qk R s n k j (by have:=AN HK;omega) (by omega)]at hE;have HE:=An hE;clear hD hall hE h0;simp only[GN,AI,AH,Ba,AJ,AK,Nat.reduceAdd,Bf,Be];go_frame;go_wp2;go_roundw
       case rel =>
        have hk:=AN HK;refine⟨k,Nm s k j 1,by go_num,by omega,by omega,AN HE,(AN HSP).trans ((iq s k j 1 (by omega)).wide (by omega) (by omega)),(by subst hk;exact Zu.step (AN HIN) hja (AN HCC)),fun y h1 h2=>?_,fun x h1 h2=>?_⟩
        ·unfold Nm;split
         ·exact AN HLO _ (by omega) (by omega)
         ·split
          ·exact AN HLO _ (by omega) (by omega)
          ·exact AN HLO y h1 h2
        ·unfold Nm;rw[AA (by omega),AA (by omega)];exact AN HHI x h1 h2
       case measure=>have:=AN HK;simp[intOf];omega
     ·rw[AO (fun h=>hc ((JX _ _).1 h))];have HE:=An hE;have HCC:=An hc;clear hc hE;go_wp2;go_roundw
      case rel =>
       have hk:=AN HK;have hs:=Zu.done (AN HIN) (.inr (by rw[show j - 1=k by omega];have:=AN HCC;omega));exact⟨i+1,s,by go_num,by omega,by omega,AN HE,AN HSP,hs,fun y h1 h2 h3=>by have:=AN HLO y h1 (by omega);omega,fun x h1 h2=>AN HHI x (by omega) h2⟩
      case measure=>simp[intOf];omega
    ·obtain rfl:a=j:=(by omega);have hja':decide ((a:Int)<(a:Int))=false:=AO (by omega);have hsub:Nonempty (Hm wr):=⟨⟨wr,AD _ _⟩⟩;clear hSP hIns hlo hhi;go_upto_region 4 with fail
     refine FN (by kernel_rfl) (by kernel_rfl) ?_
     repeat(go_big_quiet_step(fail))
     refine Bg ?_;rintro w6⟨xs,hxs⟩;have hb6:=xs.bel;rw[←hxs]at hb6;have HE:=An (hDL.below hb6);clear hxs xs hb6 hsub;go_wp2;go_roundw
     case rel =>
      have hs:=Zu.done (AN HIN) (.inl rfl);exact⟨i+1,s,by go_num,by omega,by omega,AN HE,AN HSP,hs,fun y h1 h2 h3=>by have:=AN HLO y h1 (by omega);omega,fun x h1 h2=>AN HHI x (by omega) h2⟩
     
     case measure=>simp[intOf];omega
  ·have i1:¬ (i:Int)<(b:Int):=(by omega);have HE:Hid (∃t,DL g cap W0 (GY R t n) wr∧SP s0 t a b∧LC (fun p=>(R p).ix) t a b):=An ⟨s,hDL,hSP,fun x y h1 h2 h3=>hSrt x y h1 h2 (by omega)⟩;clear hSP hSrt hlo hhi;go_wp2;exact CZ (by simp[results,Tryz.results146,go_sem]<;>rfl) rfl ⟨rfl,AN HE⟩
theorem aF(s:Nat→Nat)(a b i:Nat)(h:a+i+1≤b):Nm (Nm s a b i) (a+i) (b+i) 1=Nm s a b (i+1):=by
 funext k;unfold Nm;by_cases J:a≤k∧k<a+i
 ·have e:¬ (a+i≤k∧k<a+i+1):=by omega
  have E:¬ (b+i≤k∧k<b+i+1):=by omega
  have D:a≤k∧k<a+(i+1):=by omega
  simp only[J,e,E,D,BX,BG,and_self]
 ·by_cases U:k=a+i
  ·subst U;have e:a+i≤a+i∧a+i<a+i+1:=(by omega);have D:a≤a+i∧a+i<a+(i+1):=(by omega);have F:¬ (a≤a+i+(b+i - (a+i))∧a+i+(b+i - (a+i))<a+i):=(by omega);have L:¬ (b≤a+i+(b+i - (a+i))∧a+i+(b+i - (a+i))<b+i):=(by omega);rw[AF e,AF D,AA F,AA L];congr 1;omega
  ·by_cases M:b≤k∧k<b+i
   ·have H:¬ (a+i≤k∧k<a+i+1):=(by omega);have E:¬ (b+i≤k∧k<b+i+1):=(by omega);have D:¬ (a≤k∧k<a+(i+1)):=(by omega);have F:b≤k∧k<b+(i+1):=(by omega);rw[AA H,AA E,AA J,AF M,AA D,AF F]
   ·by_cases V:k=b+i
    ·subst V;have H:¬ (a+i≤b+i∧b+i<a+i+1):=(by omega);have E:b+i≤b+i∧b+i<b+i+1:=(by omega);have D:¬ (a≤b+i∧b+i<a+(i+1)):=(by omega);have F:b≤b+i∧b+i<b+(i+1):=(by omega);have L:¬ (a≤b+i - (b+i - (a+i))∧b+i - (b+i - (a+i))<a+i):=(by omega);have Y:¬ (b≤b+i - (b+i - (a+i))∧b+i - (b+i - (a+i))<b+i):=(by omega);rw[AA H,AF E,AA D,AF F,AA L,AA Y];congr 1;omega
    ·have H:¬ (a+i≤k∧k<a+i+1):=(by omega);have E:¬ (b+i≤k∧k<b+i+1):=(by omega);have D:¬ (a≤k∧k<a+(i+1)):=(by omega);have F:¬ (b≤k∧k<b+(i+1)):=(by omega);rw[AA H,AA E,AA J,AA M,AA D,AA F]
theorem Rs(g E n a b m:Nat)(R:Nat→D7)(s0:Nat→Nat)(W0:World)(h1:a+m≤b)(h2:b+m≤n)(hn:n≤4194304)(h:DL g E W0 (GY R s0 n) W0):
  Calls Au 167 #[S (O ⟨g,0,N⟩) n E,I K (a:Int),I K (b:Int),I K (m:Int),K6] W0 fun e w'=>e=Ao (Ai #[])∧DL g E W0 (GY R (Nm s0 a b m) n) w':=by
 go_enter Tryz.func167,Tryz.ntmps167
 go_wp2;go_loopw [10] (fun t wr=>∃i:Nat,t=I K (i:Int)∧i≤m∧DL g E W0 (GY R (Nm s0 a b i) n) wr) (fun t _=>m - (intOf t).toNat)
 case atStart=>exact⟨0,rfl,AS _,by rw[aE];exact h⟩
 case round =>
  clear h;obtain⟨i,rfl,hi,Z⟩:=hrel;by_cases hj:i<m
  ·have i1:(i:Int)<(m:Int):=(by omega);have hb:=An (aF s0 a b i (by omega));generalize Nm s0 a b i=s at *;have h0:DL g E W0 (GY R s n) wr.drew:=Z.below (Fv.drew);obtain⟨x,hx⟩:∃x,x=a+i:=⟨_,rfl⟩;obtain⟨y,hy⟩:∃y,y=b+i:=⟨_,rfl⟩;rw[←hx,←hy]at hb;have hd:IntKind.i64.wrap ((a:Int)+(i:Int))=(x:Int):=(by rw[Li (by omega) (by omega)];omega);have he:IntKind.i64.wrap ((b:Int)+(i:Int))=(y:Int):=(by rw[Li (by omega) (by omega)];omega);have x0:(0:Int)≤(x:Int):=(by omega);have x1:(x:Int)<(n:Int):=(by omega);have y0:(0:Int)≤(y:Int):=(by omega);have y1:(y:Int)<(n:Int):=(by omega);have hc:x<y:=(by omega);have hf:=An hc;clear Z hx hy hc;go_wp2;refine FW (fun(γ:Unit)=>[S (O ⟨g,0,N⟩) n E,I K (a:Int),I K (i:Int),I K (x:Int),S (O ⟨g,0,N⟩) n E,I K (b:Int),I K (i:Int),I K (y:Int),S (O ⟨g,0,N⟩) n E,I K (b:Int),I K (i:Int),I K (y:Int),Ae (O ⟨g,y*11,N⟩),Hi (R (s y)),S (O ⟨g,0,N⟩) n E,I K (a:Int),I K (i:Int),I K (x:Int),Ae (O ⟨g,x*11,N⟩),Hi (R (s x)),Ae (O ⟨g,x*11,N⟩),undef,Ae (O ⟨g,y*11,N⟩),undef]) (fun(γ:Unit) L V=>DL g E W0 (if L 21=true then(if L 23=true then((GY R s n).set x (R (s y))).set y (R (s x))else(GY R s n).set x (R (s y)))else GY R s n) V) (()) (by kernel_rfl) (by kernel_rfl) (by kernel_rfl) (by kernel_rfl) h0 ?hstep ?hend
   case hstep =>
    intro F γ J hF ix o D L w1 Y hL hg ha;simp only[Hu,G9,Br,Bx]at hF;have e0:F.tmps.getD 0 undef=S (O ⟨g,0,N⟩) n E:=J 0 (by decide +kernel);have e1:F.tmps.getD 1 undef=I K (a:Int):=J 1 (by decide +kernel);have hh:F.tmps.getD 10 undef=I K (i:Int):=J 10 (by decide +kernel);have e2:F.tmps.getD 2 undef=I K (b:Int):=J 2 (by decide +kernel)
    match ix,D with
    |0,D|1,D|2,D|3,D|4,D|5,D|6,D|7,D|8,D|9,D|10,D|11,D|12,D|14,D|15,D|16,D|17,D|18,D|20,D|22,D =>
     simp at D;subst D;exact .inl ⟨rfl,FB γ _ (by simp[go_sem,Aq,-Ap,hF,e0,e1,hh,e2,hd,he,x0,x1,y0,y1]) rfl (Y) (fun _ _ _=>rfl)⟩
    |13,D =>
     simp at D;subst D;have q:L 21=false:=FA ha hL 24 21 (by kernel_rfl);have H:=Y;rw[q,AA (by decide)]at H;obtain⟨c0,c1,c2,c3,c4,c5,c6,c7,c8,c9,M⟩:=IX (H.row y (by rw[GT];omega));rw[JV R s n y (by omega)]at c0 c1 c2 c3 c4 c5 c6 c7 c8 c9 M;exact .inl ⟨rfl,FB γ _ (by simp[go_sem,Aq,-Ap,hF,c0,c1,c2,c3,c4,c5,c6,c7,c8,c9,M,Hi]) rfl Y (fun _ _ _=>rfl)⟩
    |19,D =>
     simp at D;subst D;have q:L 21=false:=FA ha hL 24 21 (by kernel_rfl);have H:=Y;rw[q,AA (by decide)]at H;obtain⟨c0,c1,c2,c3,c4,c5,c6,c7,c8,c9,M⟩:=IX (H.row x (by rw[GT];omega));rw[JV R s n x (by omega)]at c0 c1 c2 c3 c4 c5 c6 c7 c8 c9 M;exact .inl ⟨rfl,FB γ _ (by simp[go_sem,Aq,-Ap,hF,c0,c1,c2,c3,c4,c5,c6,c7,c8,c9,M,Hi]) rfl Y (fun _ _ _=>rfl)⟩
    |21,D =>
     simp at D;subst D;have H:=Y;rw[hL,AA (by decide)]at H;have q:L 23=false:=FA ha hL 24 23 (by kernel_rfl);refine .inl ⟨rfl,LY γ 116 (Am 36) (Am 29) rfl g (x*11) (D' (R (s y))) (by simp[Aq,-Ap,hF]) (by simp only[Aq,hF];rfl) (F9 _) KL (H.there x (by rw[GT];omega)) rfl ?_ (fun _ _ _=>rfl)⟩;show DL g E W0 (if true=true then(if L 23=true then _ else _)else _) _;rw[q];exact H.set x (by rw[GT];omega) _
    |23,D =>
     simp at D;subst D;have q:L 21=true:=hg 21 (by kernel_rfl);have H:=Y;rw[q,hL,AF rfl,AA (by decide)]at H;refine .inl ⟨rfl,LY γ 116 (Am 37) (Am 35) rfl g (y*11) (D' (R (s x))) (by simp[Aq,-Ap,hF]) (by simp only[Aq,hF];rfl) (F9 _) KL (H.there y (by simp only[By,GT];omega)) rfl ?_ (fun _ _ _=>rfl)⟩;show DL g E W0 (if L 21=true then(if true=true then _ else _)else _) _;rw[q];exact H.set y (by simp only[By,GT];omega) _
    |ix+24,D=>simp at D
   case hend =>
    intro γ L w2 Y U;have hE:=Y;rw[U 21 (by decide),U 23 (by decide),AF rfl,AF rfl,O9 R s n x y (AN hf) (by omega)]at hE;have HE:=hE;clear Y U hE h0;simp only[GN,AI,AH,Ba,AJ,AK,Nat.reduceAdd,Bf,Be];go_frame;go_wp2;go_roundw
    case rel=>exact⟨i+1,by go_num,by omega,by rw[←AN hb];exact HE⟩
    case measure=>simp[intOf];omega
  ·obtain rfl:i=m:=(by omega);have HE:=Z;clear Z;go_wp2;exact CZ (by simp[results,Tryz.results167,go_sem]<;>rfl) rfl ⟨rfl,HE⟩
theorem WK(g cap n a m b:Nat)(R:Nat→D7)(s0:Nat→Nat)(W0:World)(h1:a<m)(h2:m<b)(h3:b≤n)(hn:n≤4194304)(h:DL g cap W0 (GY R s0 n) W0):
  Calls Au 161 #[S (O ⟨g,0,N⟩) n cap,I K (a:Int),I K (m:Int),I K (b:Int),K6] W0 fun e w'=>e=Ao (Ai #[])∧DL g cap W0 (GY R (KX s0 a m b) n) w':=by
 have hSR:∀(s:Nat→Nat) (W:World) (x y c:Nat),DL g cap W0 (GY R s n) W→x+c≤y→y+c≤n→Calls Au 167 #[S (O ⟨g,0,N⟩) n cap,I K (x:Int),I K (y:Int),I K (c:Int),K6] W fun e w'=>e=Ao (Ai #[])∧DL g cap W0 (GY R (Nm s x y c) n) w':=fun s W x y c hD hx hy =>
  (Rs g cap n x y c R s W hx hy hn hD.self).mono fun e w' ⟨he,hd⟩=>⟨he,hD.trans hd⟩
 go_enter Tryz.func161,Tryz.ntmps161
 go_wp2;go_loopw [10,11] (fun t u wr=>∃(i j:Nat) (s:Nat→Nat),t=I K (i:Int)∧u=I K (j:Int)∧1≤i∧1≤j∧i≤m∧m+j≤n∧DL g cap W0 (GY R s n) wr∧KX s (m - i) m (m+j)=KX s0 a m b) (fun t u _=>(intOf t).toNat+(intOf u).toNat)
 case atStart=>exact⟨m - a,b - m,s0,by go_num,by go_num,by omega,by omega,by omega,by omega,h,by rw[show m - (m - a)=a by omega,show m+(b - m)=b by omega]⟩
 case round =>
  clear h;obtain⟨i,j,s,rfl,rfl,hi,hj,him,hjn,hDL,hrot⟩:=hrel;have HR:=An hrot;clear hrot;rcases CM i j with hij|hij|hij
  ·have c1:=hSR s wr (m - i) (m+j - i) i hDL (by omega) (by omega);rw[show((m - i:Nat):Int)=(m:Int) - (i:Int) by omega,show((m+j - i:Nat):Int)=(m:Int)+(j:Int) - (i:Int) by omega]at c1;have HQ:=An (Yd s m i j him hij);have n1:¬ (i:Int)=(j:Int):=(by omega);have n2:¬ (j:Int)<(i:Int):=(by omega);go_wp2_with((go_at_call 167;refine c1.mono ?_;rintro e w2⟨rfl,hd2⟩))
   go_roundw
   case rel=>exact⟨i,j - i,Nm s (m - i) (m+j - i) i,rfl,by go_num,hi,by omega,him,by omega,hd2,by rw[show m+(j - i)=m+j - i by omega];exact(AN HQ).trans (AN HR)⟩
   case measure=>simp[intOf];omega
  ·subst hij;have c1:=hSR s wr (m - i) m i hDL (by omega) (by omega);rw[show((m - i:Nat):Int)=(m:Int) - (i:Int) by omega]at c1;have HQ:=An (ak s (m - i) m i (by omega));go_wp2_with((go_at_call 167;refine c1.mono ?_;rintro e w2⟨rfl,hd2⟩))
   refine CZ (by simp[results,Tryz.results161,go_sem]<;>rfl) rfl ⟨rfl,?_⟩
   rw[←AN HR,AN HQ];exact hd2
  ·have c1:=hSR s wr (m - i) m j hDL (by omega) (by omega);rw[show((m - i:Nat):Int)=(m:Int) - (i:Int) by omega]at c1;have HQ:=An (ai s m i j him hij);have n1:¬ (i:Int)=(j:Int):=(by omega);have n2:(j:Int)<(i:Int):=(by omega);go_wp2_with((go_at_call 167;refine c1.mono ?_;rintro e w2⟨rfl,hd2⟩))
   go_roundw
   case rel=>exact⟨i - j,j,Nm s (m - i) m j,by go_num,rfl,by omega,hj,by omega,hjn,hd2,by rw[show m - (i - j)=m - i+j by omega];exact(AN HQ).trans (AN HR)⟩
   case measure=>simp[intOf];omega
end Go.Proofs.YtnbleebilmghcabGreat
