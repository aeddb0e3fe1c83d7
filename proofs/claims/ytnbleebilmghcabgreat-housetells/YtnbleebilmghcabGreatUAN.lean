/- SSym, STog0, PEq -/
import Derived.Test.YtnbleebilmghcabGreatRows
import Derived.Test.YtnbleebilmghcabGreatVAl
import Derived.Test.YtnbleebilmghcabGreatUAR
set_option linter.all false
set_option maxRecDepth 8000
set_option maxHeartbeats 8000000
open Go.Value renaming int→I,slice→S,pointer→Ae,agg→Af,tuple→Ai,bool→Aj
open Go.IntKind renaming i64→K
open Option renaming none→N,some→O
open Go.Operand renaming tmp→Am
open Go.Ending renaming returned→Ao
open Array renaming getD_eq_getD_getElem?→Ap
open Go.Act renaming eval→Aq
open Go.Proofs.Tryz renaming prog→Au
namespace Go.Proofs.YtnbleebilmghcabGreat
open Go Go.RowKit
attribute [local go_sem ↓] Go.wp_at_zero Go.wp_at_succ
theorem ae(s:Nat→Nat)(a:Nat):KX s a (a+1) (a+1)=s:=by
 funext k;unfold KX;rw[if_neg (by omega)];split
 ·congr 1;omega
 ·rfl
theorem Yc (s:Nat→Nat) (m:Nat):KX s m m (m+1)=s:=by
 funext k;unfold KX;split
 ·congr 1;omega
 ·split
  ·exfalso;omega
  ·rfl
theorem ag(s:Nat→Nat)(a k:Nat)(h:a≤k):Nm (KX s a (a+1) (k+1)) k (k+1) 1=KX s a (a+1) (k+2):=by
 funext x;unfold Nm;by_cases h1:x=k
 ·subst h1;rw[AF (by omega),JI s a (a+1) (x+1) _ (by omega) (.inr (by omega)) (by omega),Jc s a (a+1) (x+2) x h (by omega)];congr 1;omega
 ·by_cases h2:x=k+1
  ·subst h2;rw[AA (by omega),AF (by omega),Jd s a (a+1) (k+1) _ (by omega) (by omega),Jd s a (a+1) (k+2) _ (by omega) (by omega)];congr 1;omega
  ·rw[AA (by omega),AA (by omega)];by_cases h3:a≤x∧x<k
   ·rw[Jc s a (a+1) (k+1) x h3.1 (by omega),Jc s a (a+1) (k+2) x h3.1 (by omega)]
   ·rw[JI s a (a+1) (k+1) x (by omega) (by omega) (by omega),JI s a (a+1) (k+2) x (by omega) (by omega) (by omega)]
theorem ah(s:Nat→Nat)(m k:Nat)(h:k<m):Nm (KX s (k+1) m (m+1)) k (k+1) 1=KX s k m (m+1):=by
 funext x;unfold Nm;by_cases h1:x=k
 ·subst h1;rw[AF (by omega),Jc s (x+1) m (m+1) _ (by omega) (by omega),Jc s x m (m+1) x Fu (by omega)];congr 1;omega
 ·by_cases h2:x=k+1
  ·subst h2;rw[AA (by omega),AF (by omega),JI s (k+1) m (m+1) _ (by omega) (.inl (by omega)) (by omega),Jd s k m (m+1) _ (by omega) (by omega)];congr 1;omega
  ·rw[AA (by omega),AA (by omega)];by_cases h3:k+1<x∧x<m+1
   ·rw[Jd s (k+1) m (m+1) x (by omega) h3.2,Jd s k m (m+1) x (by omega) h3.2]
   ·rw[JI s (k+1) m (m+1) x (by omega) (by omega) (by omega),JI s k m (m+1) x (by omega) (by omega) (by omega)]
theorem QM{key:Nat→Int}{p q:Nat}(h:tl key p q):key p≤key q:=by unfold tl at h;omega
theorem fU(g cap n a b:Nat)(R:Nat→D7)(s:Nat→Nat)(W0:World)(h1:a+1<b)(h3:b≤n)(hn:n≤4194304)(h:DL g cap W0 (GY R s n) W0)(hH:IV (fun p=>(R p).ix) s a (a+1) b):
  Calls Au 147 #[S (O ⟨g,0,N⟩) n cap,I K (a:Int),I K ((a:Int)+1),I K (b:Int),K6] W0 fun e w'=>e=Ao (Ai #[])∧∃t,DL g cap W0 (GY R t n) w'∧SP s t a b∧LC (fun p=>(R p).ix) t a b:=by
 have a0:(0:Int)≤(a:Int):=by omega
 have a1:(a:Int)<(n:Int):=by omega
 unfold K6;go_enter Tryz.func147,Tryz.ntmps147
 go_wp2;go_loopw [10,11] (fun t u wr=>∃(i j:Nat),t=I K (i:Int)∧u=I K (j:Int)∧a+1≤i∧i≤j∧j≤b∧DL g cap W0 (GY R s n) wr∧(∀x,a+1≤x→x<i→(R (s x)).ix<(R (s a)).ix)∧(∀x,j≤x→x<b→¬ (R (s x)).ix<(R (s a)).ix)) (fun t u _=>(intOf u).toNat - (intOf t).toNat)
 case atStart=>exact⟨a+1,b,by go_num,rfl,AC _,by omega,AC _,h,fun x h1 h2=>by omega,fun x h1 h2=>by omega⟩
 case round =>
  clear h;obtain⟨i,j,rfl,rfl,hi,hij,hjb,hDL,hlo,hhi⟩:=hrel;by_cases hlt:i<j
  ·have i1:(i:Int)<(j:Int):=(by omega);obtain⟨c,hc⟩:∃c:Nat,((i:Int)+(j:Int)) / 2=(c:Int):=⟨(i+j) / 2,by omega⟩;have c0:(0:Int)≤(c:Int):=(by omega);have c1:(c:Int)<(n:Int):=(by omega);have HCC:(i≤c∧c<j):=(by omega);obtain⟨y0,y1,y2,y3,y4,y5,y6,y7,y8,y9,y10⟩:=hDL.sub c (by omega);obtain⟨z0,z1,z2,z3,z4,z5,z6,z7,z8,z9,z10⟩:=hDL.sub a (by omega);have hCM:=fun V:Hm wr=>Mb (R (s c)) (R (s a)) V.val;unfold Hi at hCM;have HCM:=hCM;have HDL:=hDL;have hsub:Nonempty (Hm wr):=⟨⟨wr,AD _ _⟩⟩;clear hDL hCM;go_upto_region 5 with fail
   refine FN (by kernel_rfl) (by kernel_rfl) ?_
   repeat(go_big_quiet_step((go_at_call 93;exact Gf (HCM _))))
   refine Bg ?_;rintro w6⟨xs,hxs⟩;have hb6:=xs.bel;rw[←hxs]at hb6;have hE:=An (HDL.below hb6);clear hxs xs hb6 hsub HCM y0 y1 y2 y3 y4 y5 y6 y7 y8 y9 y10 z0 z1 z2 z3 z4 z5 z6 z7 z8 z9 z10;go_upto_if 50 with fail
   by_cases hcmp:(R (s c)).ix<(R (s a)).ix
   ·rw[Bq ((JX _ _).2 hcmp)];have HCM:=hcmp;clear hcmp hc;go_wp2;go_roundw
    case rel =>
     obtain⟨q1,q2⟩:=HCC;exact⟨c+1,j,by go_num,rfl,by omega,by omega,hjb,hE,fun x h1 h2=>by
      rcases Bo x c with hx|hx
      ·have q3:(R (s x)).ix≤(R (s c)).ix:=QM (hH.r x c h1 hx (by omega));have q4:=HCM;omega
      ·rw[show x=c by omega];exact HCM,hhi⟩
    case measure=>have:=HCC;simp[intOf];omega
   ·rw[AO (fun h=>hcmp ((JX _ _).1 h))];have HCM:=hcmp;clear hcmp hc;go_wp2;go_roundw
    case rel =>
     obtain⟨q1,q2⟩:=HCC;exact⟨i,c,rfl,rfl,hi,q1,by omega,hE,hlo,fun x h1 h2=>by
      rcases Bo c x with hx|hx
      ·have q3:(R (s c)).ix≤(R (s x)).ix:=QM (hH.r c x (by omega) hx h2);have q4:=HCM;omega
      ·rw[show x=c by omega];have q4:=HCM;omega⟩
    case measure=>have:=HCC;simp[intOf];omega
  ·obtain rfl:i=j:=(by omega);have i1:¬ (i:Int)<(i:Int):=(by omega);have HR:=(Y5 hH hi hjb hlo hhi);have HS:=hDL;clear hDL hH;go_wp2;go_loopw [13] (fun t wr=>∃k:Nat,t=I K (k:Int)∧a≤k∧k+1≤i∧DL g cap W0 (GY R (KX s a (a+1) (k+1)) n) wr) (fun t _=>i - (intOf t).toNat)
   case atStart=>exact⟨a,rfl,AC _,hi,by rw[ae];exact HS⟩
   case round =>
    clear HS;obtain⟨k,rfl,hk1,hk2,hDL⟩:=hrel;by_cases hlt2:k+1<i
    ·have HSW:=An (ag s a k hk1);generalize KX s a (a+1) (k+1)=u at *;have h0:DL g cap W0 (GY R u n) wr.drew:=hDL.below (Fv.drew);obtain⟨y,hy⟩:∃y,y=k+1:=⟨_,rfl⟩;rw[←hy]at HSW;have hwy:IntKind.i64.wrap ((k:Int)+1)=(y:Int):=(by rw[Li (by omega) (by omega)];omega);have k0:(0:Int)≤(k:Int):=(by omega);have k1:(k:Int)<(n:Int):=(by omega);have y0:(0:Int)≤(y:Int):=(by omega);have y1:(y:Int)<(n:Int):=(by omega);have kk:(k:Int)<(i:Int) - 1:=(by omega);have HKY:Hid (k<y):=An (by omega);clear hDL;go_wp2;refine FW (fun(γ:Unit)=>[S (O ⟨g,0,N⟩) n cap,I K (k:Int),S (O ⟨g,0,N⟩) n cap,I K (k:Int),I K (y:Int),S (O ⟨g,0,N⟩) n cap,I K (k:Int),I K (y:Int),Ae (O ⟨g,y*11,N⟩),Hi (R (u y)),S (O ⟨g,0,N⟩) n cap,I K (k:Int),Ae (O ⟨g,k*11,N⟩),Hi (R (u k)),Ae (O ⟨g,k*11,N⟩),undef,Ae (O ⟨g,y*11,N⟩),undef]) (fun(γ:Unit) L V=>DL g cap W0 (if L 15=true then(if L 17=true then((GY R u n).set k (R (u y))).set y (R (u k))else(GY R u n).set k (R (u y)))else GY R u n) V) (()) (by kernel_rfl) (by kernel_rfl) (by kernel_rfl) (by kernel_rfl) h0 ?hstep ?hend
     case hstep =>
      intro F γ hout hF ix o ho L w1 hD hL hed hcl;simp only[Hu,G9,Br,Bx]at hF;have e0:F.tmps.getD 0 undef=S (O ⟨g,0,N⟩) n cap:=hout 0 (by decide +kernel);have e13:F.tmps.getD 13 undef=I K (k:Int):=hout 13 (by decide +kernel)
      match ix,ho with
      |0,ho|1,ho|2,ho|3,ho|4,ho|5,ho|6,ho|7,ho|8,ho|10,ho|11,ho|12,ho|14,ho|16,ho =>
       simp at ho;subst ho;exact .inl ⟨rfl,FB γ _ (by simp[go_sem,Aq,-Ap,hF,e0,e13,hwy,k0,k1,y0,y1]) rfl (hD) (fun _ _ _=>rfl)⟩
      |9,ho =>
       simp at ho;subst ho;have q:L 15=false:=FA hcl hL 18 15 (by kernel_rfl);have hD':=hD;rw[q,AA (by decide)]at hD';obtain⟨c0,c1,c2,c3,c4,c5,c6,c7,c8,c9,c10⟩:=IX (hD'.row y (by rw[GT];omega));rw[JV R u n y (by omega)]at c0 c1 c2 c3 c4 c5 c6 c7 c8 c9 c10;exact .inl ⟨rfl,FB γ _ (by simp[go_sem,Aq,-Ap,hF,c0,c1,c2,c3,c4,c5,c6,c7,c8,c9,c10,Hi]) rfl hD (fun _ _ _=>rfl)⟩
      |13,ho =>
       simp at ho;subst ho;have q:L 15=false:=FA hcl hL 18 15 (by kernel_rfl);have hD':=hD;rw[q,AA (by decide)]at hD';obtain⟨c0,c1,c2,c3,c4,c5,c6,c7,c8,c9,c10⟩:=IX (hD'.row k (by rw[GT];omega));rw[JV R u n k (by omega)]at c0 c1 c2 c3 c4 c5 c6 c7 c8 c9 c10;exact .inl ⟨rfl,FB γ _ (by simp[go_sem,Aq,-Ap,hF,c0,c1,c2,c3,c4,c5,c6,c7,c8,c9,c10,Hi]) rfl hD (fun _ _ _=>rfl)⟩
      |15,ho =>
       simp at ho;subst ho;have hD':=hD;rw[hL,AA (by decide)]at hD';have q:L 17=false:=FA hcl hL 18 17 (by kernel_rfl);refine .inl ⟨rfl,LY γ 116 (Am 75) (Am 70) rfl g (k*11) (D' (R (u y))) (by simp[Aq,-Ap,hF]) (by simp only[Aq,hF];rfl) (F9 _) KL (hD'.there k (by rw[GT];omega)) rfl ?_ (fun _ _ _=>rfl)⟩;show DL g cap W0 (if true=true then(if L 17=true then _ else _)else _) _;rw[q];exact hD'.set k (by rw[GT];omega) _
      |17,ho =>
       simp at ho;subst ho;have q:L 15=true:=hed 15 (by kernel_rfl);have hD':=hD;rw[q,hL,AF rfl,AA (by decide)]at hD';refine .inl ⟨rfl,LY γ 116 (Am 76) (Am 74) rfl g (y*11) (D' (R (u k))) (by simp[Aq,-Ap,hF]) (by simp only[Aq,hF];rfl) (F9 _) KL (hD'.there y (by simp only[By,GT];omega)) rfl ?_ (fun _ _ _=>rfl)⟩;show DL g cap W0 (if L 15=true then(if true=true then _ else _)else _) _;rw[q];exact hD'.set y (by simp only[By,GT];omega) _
      |ix+18,ho=>simp at ho
     case hend =>
      intro γ L w2 hD hall;have hE:=hD;rw[hall 15 (by decide),hall 17 (by decide),AF rfl,AF rfl,O9 R u n k y (AN HKY) (by omega)]at hE;clear hD hall h0;simp only[GN,AI,AH,Ba,AJ,AK,Nat.reduceAdd,Bf,Be];go_frame;go_wp2;go_roundw
      case rel=>have hy:=hy;subst hy;exact⟨k+1,by go_num,by omega,by omega,by rw[←AN HSW];exact hE⟩
      case measure=>have hy:=hy;simp[intOf];omega
    ·have kk:¬ (k:Int)<(i:Int) - 1:=(by omega);have hE:Hid (∃t,DL g cap W0 (GY R t n) wr∧SP s t a b∧LC (fun p=>(R p).ix) t a b):=An ⟨KX s a (a+1) i,by rw[show i=k+1 by omega];exact hDL,(S8 s a (a+1) i (by omega) hi).wide Fu hjb,HR⟩;clear hDL;go_wp2;exact AG (by simp[results,Tryz.results147,go_sem]<;>rfl) rfl ⟨rfl,hE⟩
theorem aC(g cap n a m:Nat)(R:Nat→D7)(s:Nat→Nat)(W0:World)(h1:a+1<m)(h3:m+1≤n)(hn:n≤4194304)(h:DL g cap W0 (GY R s n) W0)(hH:IV (fun p=>(R p).ix) s a m (m+1)):
  Calls Au 147 #[S (O ⟨g,0,N⟩) n cap,I K (a:Int),I K (m:Int),I K ((m:Int)+1),K6] W0 fun e w'=>e=Ao (Ai #[])∧∃t,DL g cap W0 (GY R t n) w'∧SP s t a (m+1)∧LC (fun p=>(R p).ix) t a (m+1):=by
 have m0:(0:Int)≤(m:Int):=by omega
 have m1:(m:Int)<(n:Int):=by omega
 have d1:¬ (m:Int) - (a:Int)=1:=by omega
 unfold K6;go_enter Tryz.func147,Tryz.ntmps147
 go_wp2;go_loopw [14,15] (fun t u wr=>∃(i j:Nat),t=I K (i:Int)∧u=I K (j:Int)∧a≤i∧i≤j∧j≤m∧DL g cap W0 (GY R s n) wr∧(∀x,a≤x→x<i→¬ (R (s m)).ix<(R (s x)).ix)∧(∀x,j≤x→x<m→(R (s m)).ix<(R (s x)).ix)) (fun t u _=>(intOf u).toNat - (intOf t).toNat)
 case atStart=>exact⟨a,m,rfl,rfl,AC _,by omega,AC _,h,fun x h1 h2=>by omega,fun x h1 h2=>by omega⟩
 case round =>
  clear h;obtain⟨i,j,rfl,rfl,hi,hij,hjb,hDL,hlo,hhi⟩:=hrel;by_cases hlt:i<j
  ·have i1:(i:Int)<(j:Int):=(by omega);obtain⟨c,hc⟩:∃c:Nat,((i:Int)+(j:Int)) / 2=(c:Int):=⟨(i+j) / 2,by omega⟩;have c0:(0:Int)≤(c:Int):=(by omega);have c1:(c:Int)<(n:Int):=(by omega);have HCC:(i≤c∧c<j):=(by omega);obtain⟨y0,y1,y2,y3,y4,y5,y6,y7,y8,y9,y10⟩:=hDL.sub m (by omega);obtain⟨z0,z1,z2,z3,z4,z5,z6,z7,z8,z9,z10⟩:=hDL.sub c (by omega);have hCM:=fun V:Hm wr=>Mb (R (s m)) (R (s c)) V.val;unfold Hi at hCM;have HCM:=hCM;have HDL:=hDL;have hsub:Nonempty (Hm wr):=⟨⟨wr,AD _ _⟩⟩;clear hDL hCM;go_upto_region 17 with fail
   refine FN (by kernel_rfl) (by kernel_rfl) ?_
   repeat(go_big_quiet_step((go_at_call 93;exact Gf (HCM _))))
   refine Bg ?_;rintro w6⟨xs,hxs⟩;have hb6:=xs.bel;rw[←hxs]at hb6;have hE:=An (HDL.below hb6);clear hxs xs hb6 hsub HCM y0 y1 y2 y3 y4 y5 y6 y7 y8 y9 y10 z0 z1 z2 z3 z4 z5 z6 z7 z8 z9 z10;go_upto_if 103 with fail
   by_cases hcmp:(R (s m)).ix<(R (s c)).ix
   ·rw[Bq ((JX _ _).2 hcmp)];have HCM:=hcmp;clear hcmp hc;go_wp2;go_roundw
    case rel =>
     obtain⟨q1,q2⟩:=HCC;exact⟨i,c,rfl,rfl,hi,q1,by omega,hE,hlo,fun x h1 h2=>by
      rcases Bo c x with hx|hx
      ·have q3:(R (s c)).ix≤(R (s x)).ix:=QM (hH.l c x (by omega) hx h2);have q4:=HCM;omega
      ·rw[show x=c by omega];exact HCM⟩
    case measure=>have:=HCC;simp[intOf];omega
   ·rw[AO (fun h=>hcmp ((JX _ _).1 h))];have HCM:=hcmp;clear hcmp hc;go_wp2;go_roundw
    case rel =>
     obtain⟨q1,q2⟩:=HCC;exact⟨c+1,j,by go_num,rfl,by omega,by omega,hjb,hE,fun x h1 h2=>by
      rcases Bo x c with hx|hx
      ·have q3:(R (s x)).ix≤(R (s c)).ix:=QM (hH.l x c h1 hx (by omega));have q4:=HCM;omega
      ·rw[show x=c by omega];have q4:=HCM;omega,hhi⟩
    case measure=>have:=HCC;simp[intOf];omega
  ·obtain rfl:i=j:=(by omega);have i1:¬ (i:Int)<(i:Int):=(by omega);have HR:=(Qu hH hi hjb hlo hhi);have HS:=hDL;clear hDL hH;go_wp2;go_loopw [17] (fun t wr=>∃y:Nat,t=I K (y:Int)∧i≤y∧y≤m∧DL g cap W0 (GY R (KX s y m (m+1)) n) wr) (fun t _=>(intOf t).toNat)
   case atStart=>exact⟨m,rfl,hjb,AC _,by rw[Yc];exact HS⟩
   case round =>
    clear HS;obtain⟨y,rfl,hk1,hk2,hDL⟩:=hrel;by_cases hlt2:i<y
    ·obtain⟨k,hy⟩:∃k,y=k+1:=⟨y - 1,by omega⟩;have HSW:=An (ah s m k (by omega));rw[←hy]at HSW;generalize KX s y m (m+1)=u at *;have h0:DL g cap W0 (GY R u n) wr.drew:=hDL.below (Fv.drew);have hwk:IntKind.i64.wrap ((y:Int) - 1)=(k:Int):=(by rw[Li (by omega) (by omega)];omega);have k0:(0:Int)≤(k:Int):=(by omega);have k1:(k:Int)<(n:Int):=(by omega);have y0:(0:Int)≤(y:Int):=(by omega);have y1:(y:Int)<(n:Int):=(by omega);have kk:(i:Int)<(y:Int):=(by omega);have HKY:Hid (k<y):=An (by omega);clear hDL;go_wp2;refine FW (fun(γ:Unit)=>[S (O ⟨g,0,N⟩) n cap,I K (y:Int),S (O ⟨g,0,N⟩) n cap,I K (y:Int),I K (k:Int),S (O ⟨g,0,N⟩) n cap,I K (y:Int),I K (k:Int),Ae (O ⟨g,k*11,N⟩),Hi (R (u k)),S (O ⟨g,0,N⟩) n cap,I K (y:Int),Ae (O ⟨g,y*11,N⟩),Hi (R (u y)),Ae (O ⟨g,y*11,N⟩),undef,Ae (O ⟨g,k*11,N⟩),undef]) (fun(γ:Unit) L V=>DL g cap W0 (if L 15=true then(if L 17=true then((GY R u n).set y (R (u k))).set k (R (u y))else(GY R u n).set y (R (u k)))else GY R u n) V) (()) (by kernel_rfl) (by kernel_rfl) (by kernel_rfl) (by kernel_rfl) h0 ?hstep ?hend
     case hstep =>
      intro F γ hout hF ix o ho L w1 hD hL hed hcl;simp only[Hu,G9,Br,Bx]at hF;have e0:F.tmps.getD 0 undef=S (O ⟨g,0,N⟩) n cap:=hout 0 (by decide +kernel);have e17:F.tmps.getD 17 undef=I K (y:Int):=hout 17 (by decide +kernel)
      match ix,ho with
      |0,ho|1,ho|2,ho|3,ho|4,ho|5,ho|6,ho|7,ho|8,ho|10,ho|11,ho|12,ho|14,ho|16,ho =>
       simp at ho;subst ho;exact .inl ⟨rfl,FB γ _ (by simp[go_sem,Aq,-Ap,hF,e0,e17,hwk,k0,k1,y0,y1]) rfl (hD) (fun _ _ _=>rfl)⟩
      |9,ho =>
       simp at ho;subst ho;have q:L 15=false:=FA hcl hL 18 15 (by kernel_rfl);have hD':=hD;rw[q,AA (by decide)]at hD';obtain⟨c0,c1,c2,c3,c4,c5,c6,c7,c8,c9,c10⟩:=IX (hD'.row k (by rw[GT];omega));rw[JV R u n k (by omega)]at c0 c1 c2 c3 c4 c5 c6 c7 c8 c9 c10;exact .inl ⟨rfl,FB γ _ (by simp[go_sem,Aq,-Ap,hF,c0,c1,c2,c3,c4,c5,c6,c7,c8,c9,c10,Hi]) rfl hD (fun _ _ _=>rfl)⟩
      |13,ho =>
       simp at ho;subst ho;have q:L 15=false:=FA hcl hL 18 15 (by kernel_rfl);have hD':=hD;rw[q,AA (by decide)]at hD';obtain⟨c0,c1,c2,c3,c4,c5,c6,c7,c8,c9,c10⟩:=IX (hD'.row y (by rw[GT];omega));rw[JV R u n y (by omega)]at c0 c1 c2 c3 c4 c5 c6 c7 c8 c9 c10;exact .inl ⟨rfl,FB γ _ (by simp[go_sem,Aq,-Ap,hF,c0,c1,c2,c3,c4,c5,c6,c7,c8,c9,c10,Hi]) rfl hD (fun _ _ _=>rfl)⟩
      |15,ho =>
       simp at ho;subst ho;have hD':=hD;rw[hL,AA (by decide)]at hD';have q:L 17=false:=FA hcl hL 18 17 (by kernel_rfl);refine .inl ⟨rfl,LY γ 116 (Am 127) (Am 122) rfl g (y*11) (D' (R (u k))) (by simp[Aq,-Ap,hF]) (by simp only[Aq,hF];rfl) (F9 _) KL (hD'.there y (by rw[GT];omega)) rfl ?_ (fun _ _ _=>rfl)⟩;show DL g cap W0 (if true=true then(if L 17=true then _ else _)else _) _;rw[q];exact hD'.set y (by rw[GT];omega) _
      |17,ho =>
       simp at ho;subst ho;have q:L 15=true:=hed 15 (by kernel_rfl);have hD':=hD;rw[q,hL,AF rfl,AA (by decide)]at hD';refine .inl ⟨rfl,LY γ 116 (Am 128) (Am 126) rfl g (k*11) (D' (R (u y))) (by simp[Aq,-Ap,hF]) (by simp only[Aq,hF];rfl) (F9 _) KL (hD'.there k (by simp only[By,GT];omega)) rfl ?_ (fun _ _ _=>rfl)⟩;show DL g cap W0 (if L 15=true then(if true=true then _ else _)else _) _;rw[q];exact hD'.set k (by simp only[By,GT];omega) _
      |ix+18,ho=>simp at ho
     case hend =>
      intro γ L w2 hD hall;have hE:=hD;rw[hall 15 (by decide),hall 17 (by decide),AF rfl,AF rfl,Qk R u n k y (AN HKY) (by omega)]at hE;clear hD hall h0;simp only[GN,AI,AH,Ba,AJ,AK,Nat.reduceAdd,Bf,Be];go_frame;go_wp2;go_roundw
      case rel=>have hy:=hy;exact⟨k,rfl,by omega,by omega,by rw[←AN HSW];exact hE⟩
      case measure=>have hy:=hy;simp[intOf];omega
    ·have kk:¬ (i:Int)<(y:Int):=(by omega);have hE:Hid (∃t,DL g cap W0 (GY R t n) wr∧SP s t a (m+1)∧LC (fun p=>(R p).ix) t a (m+1)):=An ⟨KX s i m (m+1),by rw[show i=y by omega];exact hDL,(S8 s i m (m+1) (by omega) (by omega)).wide hi Fu,HR⟩;clear hDL;go_wp2;exact AG (by simp[results,Tryz.results147,go_sem]<;>rfl) rfl ⟨rfl,hE⟩
theorem Hr(D:List D7)(j:Nat)(h:j<D.length):D.getD j dR=D[j]:=by rw[Az,AE h];rfl
theorem Le(f:D7→Int):∀(D E:List D7),D.Pairwise (fun a b=>f a<f b)→E.Pairwise (fun a b=>f a<f b)→(∀x,x∈D↔x∈E)→D=E
 |[],[],_,_,_=>rfl
 |[],b :: E,_,_,h=>by have:=(h b).2 (by simp);simp at this
 |a :: D,[],_,_,h=>by have:=(h a).1 (by simp);simp at this
 | a :: D,b :: E,h1,h2,h=>by
  rw[Ce]at h1 h2;have J:a=b:=by
   have F:=(h a).1 (by simp);have H:=(h b).2 (by simp);rw[Bu]at F H;rcases F with F|F
   ·exact F
   ·rcases H with H|H
    ·exact H.symm
    ·have:=h2.1 a F;have:=h1.1 b H;omega
  subst J;rw[Le f D E h1.2 h2.2 fun x=>?_];have L:=h x;rw[Bu,Bu]at L;constructor
  ·intro m;rcases L.1 (.inr m)with e|e
   ·have:=h1.1 x m;rw[e]at this;omega
   ·exact e
  ·intro m;rcases L.2 (.inr m)with e|e
   ·have:=h2.1 x m;rw[e]at this;omega
   ·exact e
theorem Kd{X:Wd}(E:FK X):X.rows.Pairwise (fun a b=>a.ix<b.ix):=by
 rw[B9];intro i j F D h;have:=E.lt' h D;unfold E' at this;rw[Hr _ _ F,Hr _ _ D]at this;exact this
theorem fX{X:Wd}(hr:FK X){D:List D7}(hp:D.Perm X.rows){t:Nat→Nat}(E:SP id t 0 D.length)(hs:LC (fun p=>((fun k=>D.getD k dR) p).ix) t 0 D.length):GY (fun k=>D.getD k dR) t D.length=X.rows:=by
 have hg:∀k,k<D.length→D.getD k dR∈D:=fun k F=>by rw[Hr _ _ F];exact Bm F
 have H:D.Pairwise (fun a b=>a.ix≠b.ix):=by
  refine(hp.pairwise_iff (fun h=>h.symm)).2 ?_;exact(Kd hr).imp fun h=>by omega
 refine Le (fun r=>r.ix) _ _ ?_ (Kd hr) fun x=>?_
 ·rw[B9];intro i j hi U V;rw[GT]at hi U;have J:=hs i j Fw V U;obtain⟨p,_,L,M⟩:=E.mem (AS i) hi;obtain⟨q,_,q2,eq⟩:=E.mem (AS j) U;simp only[GY,BO,CQ];have Y:t i≠t j:=fun e=>by
   rcases J with J|J
   ·rw[e]at J;simp at J
   ·omega
  have Z:t i<D.length:=by rw[M];exact L
  have e2:t j<D.length:=by rw[eq];exact q2
  have ha:(D.getD (t i) dR).ix≠(D.getD (t j) dR).ix:=by
   rw[Hr _ _ Z,Hr _ _ e2];rw[B9]at H;rcases Dd Y with h|h
   ·exact H _ _ Z e2 h
   ·exact(H _ _ e2 Z h).symm
  have:=QM J;dsimp only at this;omega
 ·rw[←hp.mem_iff];unfold GY;rw[Cn];constructor
  ·rintro⟨k,F,rfl⟩;obtain⟨p,_,L,M⟩:=E.mem (AS k) (Bh.1 F);rw[M];exact hg _ L
  ·intro hx;obtain⟨k,F,rfl⟩:=BL hx;obtain⟨p,_,L,M⟩:=E.symm.mem (AS k) F;refine⟨p,Bh.2 L,?_⟩;rw[←M];exact Hr _ _ F
theorem fx(l:List D7):GY (fun k=>l.getD k dR) id l.length=l:=by
 refine Ca (by rw[GT]) fun k D h=>?_;simp only[GY,BO,CQ];exact Hr _ _ h
theorem RS(G:Option Addr)(h:Nat)(l:List Int)(w:World)(hl:l.length≤4194304)(L:JE w G l):
  Calls Au 68 #[S G l.length h] w fun e D=>∃A c,e=Ao (S A l.length c)∧D.ownsRow w.heap.size 3 1 (S A l.length c) l.length (FD l)∧Below w.heap.size w D:=by
 obtain⟨U,E,F,H,J⟩:=BC info3;have V:=L.copies;clear L;go_enter Tryz.func68,Tryz.ntmps68
 go_wp2_with((at_builtin;refine Do R fun _ Y=>I8 w _ _ 23 R w.heap.size 3 U _ 1 8 Tryz.underlying23 E F H J R (by decide) R G l.length h (FD l) R V (by unfold maxLen;omega) (by omega) Fu fun v' D M Z=>Y _ _ ?_))
 go_ret;obtain⟨A,c,rfl⟩:=Hw M;exact⟨A,c,rfl,M,F0 Z (fun k e=>by cases e) Fu⟩
end Go.Proofs.YtnbleebilmghcabGreat
namespace Go.Proofs.YtnbleebilmghcabGreat
open Go Go.RowKit
theorem ka(D E F h H J L M:Int)(w:World):(Op.equalIn 9999 114 (Af #[I K D,I K E,I K F,I K h,I K H,I K J,I K L,I K M]) (Af #[I K D,I K E,I K F,I K h,I K H,I K J,I K L,I K M])).run Au w=.ok true w:=by
 have U:=Tryz.underlying3;have h:=Tryz.isAgg3;have V:=Tryz.sizeOf3;rw[show(9999:Nat)=9998+1 from rfl,Op.equalIn];simp only[Db,Dj Tryz.underlying114,CJ];simp only[Std.Legacy.Range.forIn_eq_forIn_range',Std.Legacy.Range.size,Nat.sub_zero,Dw,Nat.div_one,List.range'_succ,List.range'_zero,List.forIn_cons,List.forIn_nil];go_simp
theorem kZ(U V Y h D E F H J L M:Int)(w:World):(Op.equalIn 10000 116 (Af #[I K U,I K V,I K Y,I K h,I K D,I K E,I K F,I K H,I K J,I K L,I K M]) (Af #[I K U,I K V,I K Y,I K h,I K D,I K E,I K F,I K H,I K J,I K L,I K M])).run Au w=.ok true w:=by
 have Z:Au.underlying 116=O (.struct (Au.fieldsOf 116)):=by kernel_rfl
 have ha:=ka h D E F H J L M w;rw[show(10000:Nat)=9999+1 from rfl,Dg w 9999 116 _ _ Z (by kernel_rfl)];simp only[Program.fieldsOf,Tryz.underlying116];go_simp
theorem j7(h D E F H J L M U V Y:Int)(w:World):(binOp .neq 116 (Af #[I K h,I K D,I K E,I K F,I K H,I K J,I K L,I K M,I K U,I K V,I K Y]) (Af #[I K h,I K D,I K E,I K F,I K H,I K J,I K L,I K M,I K U,I K V,I K Y])).run Au w=.ok (Aj false) w:=by
 rw[DB,kZ];rfl
end Go.Proofs.YtnbleebilmghcabGreat
