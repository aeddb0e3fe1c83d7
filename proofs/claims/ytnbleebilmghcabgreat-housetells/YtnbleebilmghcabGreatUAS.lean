/- slices.symMergeCmpFunc over rows. -/
import Derived.Test.YtnbleebilmghcabGreatUAR
set_option linter.all false
set_option maxRecDepth 8000
set_option maxHeartbeats 16000000
open Go.Value renaming int→I,slice→S,tuple→Ai,bool→Aj
open Go.IntKind renaming i64→K
open Option renaming none→N,some→O
open Go.Ending renaming returned→Ao
open Go.Proofs.Tryz renaming prog→Au
namespace Go.Proofs.YtnbleebilmghcabGreat
open Go Go.RowKit
attribute [local go_sem ↓] Go.wp_at_zero Go.wp_at_succ
theorem SN (s:Nat→Nat) (m r:Nat):KX s m m r=s:=by
 funext k;unfold KX;split
 ·congr 1;omega
 ·split
  ·exfalso;omega
  ·rfl
theorem SM (s:Nat→Nat) (l m:Nat):KX s l m m=s:=by
 funext k;unfold KX;split
 ·exfalso;omega
 ·split
  ·congr 1;omega
  ·rfl
section
variable {key:Nat→Int} {s:Nat→Nat} {a m b mid st:Nat}
theorem eT(h:IV key s a m b)(c:kO key s a m b mid st)(hc:st=a∨st=mid):LC key (KX s st m (mid+m - st)) a mid:=by
 obtain⟨am,mb,hmid,lo,hi,lo2,hi2,_,_⟩:=c;intro x y hx hxy hy;rcases hc with rfl|rfl
 ·rw[Jc s st m _ x hx (by omega),Jc s st m _ y (by omega) (by omega)];exact h.r _ _ (by omega) (by omega) (by omega)
 ·rw[show st+m - st=m by omega,SM];exact h.l x y hx hxy (by omega)
theorem ZW(h:IV key s a m b)(c:kO key s a m b mid st)(hc:mid+m - st=mid∨mid+m - st=b):LC key (KX s st m (mid+m - st)) mid b:=by
 obtain⟨am,mb,hmid,lo,hi,lo2,hi2,_,_⟩:=c;intro x y hx hxy hy;rcases hc with e|e
 ·have e2:st=m:=by omega
  rw[e2,SN];exact h.r x y (by omega) hxy hy
 ·rw[e,Jd s st m b x (by omega) (by omega),Jd s st m b y (by omega) hy];exact h.l _ _ (by omega) (by omega) (by omega)
theorem IV.congr{t:Nat→Nat}(h:IV key s a m b)(e:∀ k,a≤k→k<b→t k=s k)(h1:a≤m)(h2:m≤b):IV key t a m b :=
 ⟨fun i j x y z=>by rw[e i x (by omega),e j (by omega) (by omega)];exact h.l i j x y z,fun i j x y z=>by rw[e i (by omega) (by omega),e j (by omega) z];exact h.r i j x y z,fun i j x y z w=>by rw[e i x (by omega),e j (by omega) w];exact h.tag i j x y z w⟩
end
theorem fV(g cap n d a m b:Nat)(R:Nat→D7)(s:Nat→Nat)(W0:World)(hn:n≤4194304)(IH:∀ (a m b:Nat) (s:Nat→Nat) (W0:World),b - a≤d→a<m→m<b→b≤n→DL g cap W0 (GY R s n) W0→IV (fun p=>(R p).ix) s a m b→Calls Au 147 #[S (O ⟨g,0,N⟩) n cap,I K (a:Int),I K (m:Int),I K (b:Int),K6] W0 fun e w'=>e=Ao (Ai #[])∧∃ t,DL g cap W0 (GY R t n) w'∧SP s t a b∧LC (fun p=>(R p).ix) t a b)
  (hd:b - a≤d+1) (am1:a+1<m) (mb1:m+1<b) (hbn:b≤n) (h:DL g cap W0 (GY R s n) W0) (hH:IV (fun p=>(R p).ix) s a m b):Calls Au 147 #[S (O ⟨g,0,N⟩) n cap,I K (a:Int),I K (m:Int),I K (b:Int),K6] W0 fun e w'=>e=Ao (Ai #[])∧∃t,DL g cap W0 (GY R t n) w'∧SP s t a b∧LC (fun p=>(R p).ix) t a b:=by
 obtain⟨mid,hmid⟩:∃mid:Nat,mid=(a+b) / 2:=⟨_,rfl⟩;have am:a<m:=by omega
 have mb:m<b:=by omega
 obtain⟨q,hq⟩:∃q:Nat,(mid:Int)+(m:Int)=(q:Int):=⟨mid+m,by omega⟩;have hmi:((a:Int)+(b:Int)) / 2=(mid:Int):=by omega
 have d1:¬ (m:Int) - (a:Int)=1:=by omega
 have d2:¬ (b:Int) - (m:Int)=1:=by omega
 have HQM:Hid (q=mid+m):=An (by omega);have HMID:=An hmid;have HIH:=An IH;have H:=An h;have HH:=An hH;clear IH h hH hmid;unfold K6;go_enter Tryz.func147,Tryz.ntmps147
 go_upto_if 140 with fail
 go_cut [20,21] (fun x y wc=>∃lo hi:Nat,x=I K (lo:Int)∧y=I K (hi:Int)∧(a≤lo∧q≤b+lo∧hi≤m∧hi≤mid∧(lo=a∨q=b+lo)∧(hi=m∨hi=mid)∧lo≤hi)∧wc=W0)
 case first =>
  have hqm:=AN HQM;have hmid:=AN HMID;by_cases g1:mid<m
  ·have g2:(mid:Int)<(m:Int):=(by omega);have HF:Hid (∃lo hi:Nat,(q:Int) - (b:Int)=(lo:Int)∧(mid:Int)=(hi:Int)∧(a≤lo∧q≤b+lo∧hi≤m∧hi≤mid∧(lo=a∨q=b+lo)∧(hi=m∨hi=mid)∧lo≤hi)):=An ⟨q - b,mid,by omega,rfl,by omega⟩;clear hqm hmid g1;go_wp2_with fail
   go_meet
   obtain⟨lo,hi,e1,e2,e3⟩:=AN HF;exact⟨lo,hi,by rw[←e1],by rw[←e2],e3,rfl⟩
  ·have g2:¬ (mid:Int)<(m:Int):=(by omega);have HF:Hid (q≤b+a∧m≤mid∧a≤m):=An (by omega);clear hqm hmid g1;go_wp2_with fail
   go_meet
   exact⟨a,m,rfl,rfl,⟨AC _,(AN HF).1,AC _,(AN HF).2.1,.inl rfl,.inl rfl,(AN HF).2.2⟩,rfl⟩
 case rest =>
  obtain⟨lo,hi,rfl,rfl,hf,hw⟩:=hcut;obtain rfl:=hw.symm;clear hw;have HF:=An hf;clear hf;go_wp2_with fail
  go_loopw [20,21] (fun t u wr=>∃(st r:Nat),t=I K (st:Int)∧u=I K (r:Int)∧lo≤st∧st≤r∧r≤hi∧DL g cap W0 (GY R s n) wr∧(st=lo∨¬ (R (s (q - st))).ix<(R (s (st - 1))).ix)∧(r=hi∨(R (s (q - r - 1))).ix<(R (s r)).ix)) (fun t u _=>(intOf u).toNat - (intOf t).toNat)
  case atStart=>exact⟨lo,hi,rfl,rfl,AC _,(AN HF).2.2.2.2.2.2,AC _,AN H,.inl rfl,.inl rfl⟩
  case round =>
   clear H;obtain⟨st,r,rfl,rfl,hst,hsr,hrh,hDL,hbe,hab⟩:=hrel;have hqm:=AN HQM;have hmid:=AN HMID;obtain⟨f2,f3,f4,f5,f6,f7,f8⟩:=AN HF;by_cases hlt:st<r
   ·as_aux_lemma =>
     have i1:(st:Int)<(r:Int):=(by omega);obtain⟨c,hc⟩:∃c:Nat,((st:Int)+(r:Int)) / 2=(c:Int):=⟨(st+r) / 2,by omega⟩;obtain⟨x,hx⟩:∃x:Nat,x=q - 1 - c:=⟨_,rfl⟩;have c0:(0:Int)≤(c:Int):=(by omega);have c1:(c:Int)<(n:Int):=(by omega);have x0:(0:Int)≤(x:Int):=(by omega);have x1:(x:Int)<(n:Int):=(by omega);have hwx:IntKind.i64.wrap ((q:Int) - 1 - (c:Int))=(x:Int):=(by rw[Li (by omega) (by omega)];omega);have HCC:Hid (st≤c∧c<r):=An (by omega);have HXX:=An hx;have HBE:=An hbe;have HAB:=An hab;obtain⟨y0,y1,y2,y3,y4,y5,y6,y7,y8,y9,y10⟩:=hDL.sub x (by omega);obtain⟨z0,z1,z2,z3,z4,z5,z6,z7,z8,z9,z10⟩:=hDL.sub c (by omega);have hCM:=fun V:Hm wr=>Mb (R (s x)) (R (s c)) V.val;unfold Hi at hCM;have HCM:=An hCM;have hsub:Nonempty (Hm wr):=⟨⟨wr,AD _ _⟩⟩;clear hbe hab hx f2 f3 f4 f5 f6 f7 f8 hqm hmid hCM;go_upto_region 35 with fail
     refine FN (by kernel_rfl) (by kernel_rfl) ?_
     repeat(go_big_quiet_step((go_at_call 93;exact Gf (AN HCM _))))
     refine Bg ?_;rintro w6⟨xs,hxs⟩;have hb6:=xs.bel;rw[←hxs]at hb6;have HE:=An (hDL.below hb6);clear hxs xs hb6 hsub HCM y0 z0 y1 z1 y2 z2 y3 z3 y4 z4 y5 z5 y6 z6 y7 z7 y8 z8 y9 z9 y10 z10;go_upto_if 171 with fail
     by_cases hcmp:(R (s x)).ix<(R (s c)).ix
     ·rw[Bq ((JX _ _).2 hcmp)];have HC:=An hcmp;clear hcmp hc hwx;go_wp2;go_roundw
      case rel =>
       obtain⟨q1,q2⟩:=AN HCC;have q3:=AN HC;rw[AN HXX,show q - 1 - c=q - c - 1 by omega]at q3;exact⟨st,c,rfl,rfl,hst,q1,by omega,AN HE,AN HBE,.inr q3⟩
      case measure=>have:=AN HCC;simp[intOf];omega
     ·rw[AO (fun h=>hcmp ((JX _ _).1 h))];have HC:=An hcmp;clear hcmp hc hwx;go_wp2;go_roundw
      case rel =>
       obtain⟨q1,q2⟩:=AN HCC;have q3:=AN HC;have:=AN HQM;have:=AN HMID;have:=AN HF;rw[AN HXX,show q - 1 - c=q - (c+1) by omega]at q3;exact⟨c+1,r,by go_num,rfl,by omega,by omega,hrh,AN HE,.inr (by rw[show c+1 - 1=c by omega];omega),AN HAB⟩
      case measure=>have:=AN HCC;simp[intOf];omega
   ·obtain rfl:st=r:=(by omega);have i1:¬ (st:Int)<(st:Int):=(by omega);have hCut:kO (fun p=>(R p).ix) s a m b mid st:=⟨am,mb,AN HMID,by omega,by omega,by omega,by omega,fun p1 p2=>by
     rw[show mid+m=q by omega]at p2⊢;rcases hbe with hbe|hbe
     ·omega
     ·exact hbe,fun p1 p2=>by
     rw[show mid+m=q by omega]at p2⊢;rcases hab with hab|hab
     ·omega
     ·exact hab⟩
    obtain⟨hu,hH1,hH2⟩:=gZ (AN HH) hCut;have hL:=eT (AN HH) hCut;have hR:=ZW (AN HH) hCut;have hUs:SP s (KX s st m (mid+m - st)) a b:=(S8 s st m (mid+m - st) (by omega) (by omega)).wide (by omega) (by omega);obtain⟨e,he⟩:∃e:Nat,(q:Int) - (st:Int)=(e:Int):=⟨q - st,by omega⟩;have hee:mid+m - st=e:=(by omega);rw[hee]at hu hH1 hH2 hL hR hUs;have hROT:st<m→m<e→Calls Au 161 #[S (O ⟨g,0,N⟩) n cap,I K (st:Int),I K (m:Int),I K (e:Int),K6] wr fun e' w'=>e'=Ao (Ai #[])∧DL g cap W0 (GY R (KX s st m e) n) w':=fun p1 p2=>(WK g cap n st m e R s wr p1 p2 (by omega) hn hDL.self).mono fun e' w' ⟨he',hd⟩=>⟨he',hDL.trans hd⟩;have hU0:¬ (st<m∧m<e)→KX s st m e=s:=fun hne=>by
     rcases(by omega:st=m∨e=m)with h|h
     ·rw[h,SN]
     ·rw[h,SM]
    have hDU:¬ (st<m∧m<e)→DL g cap W0 (GY R (KX s st m e) n) wr:=fun hne=>(by rw[hU0 hne];exact hDL);generalize KX s st m e=U at *;have hI1:a<st→st<mid→∀W,DL g cap W0 (GY R U n) W→Calls Au 147 #[S (O ⟨g,0,N⟩) n cap,I K (a:Int),I K (st:Int),I K (mid:Int),K6] W fun e' w'=>e'=Ao (Ai #[])∧∃t,DL g cap W0 (GY R t n) w'∧SP U t a mid∧LC (fun p=>(R p).ix) t a mid:=fun p1 p2 W hW=>(AN HIH a st mid U W (by omega) p1 p2 (by omega) hW.self (hH1 p1 p2)).mono fun e' w' ⟨he',t,k1,k2,k3⟩=>⟨he',t,hW.trans k1,k2,k3⟩;have hI2:mid<e→e<b→∀v W,SP U v a mid→DL g cap W0 (GY R v n) W→Calls Au 147 #[S (O ⟨g,0,N⟩) n cap,I K (mid:Int),I K (e:Int),I K (b:Int),K6] W fun e' w'=>e'=Ao (Ai #[])∧∃t,DL g cap W0 (GY R t n) w'∧SP v t mid b∧LC (fun p=>(R p).ix) t mid b:=fun p1 p2 v W hv hW=>(AN HIH mid e b v W (by omega) p1 p2 (by omega) hW.self ((hH2 p1 p2).congr (fun k z1 z2=>hv.out (by omega)) (by omega) (by omega))).mono fun e' w' ⟨he',t,k1,k2,k3⟩=>⟨he',t,hW.trans k1,k2,k3⟩;have hfin:∀v t W,SP U v a mid→LC (fun p=>(R p).ix) v a mid→SP v t mid b→LC (fun p=>(R p).ix) t mid b→DL g cap W0 (GY R t n) W→∃t,DL g cap W0 (GY R t n) W∧SP s t a b∧LC (fun p=>(R p).ix) t a b:=fun v t W z1 z2 z3 z4 z5=>⟨t,z5,(hUs.trans (z1.wide Fu (by omega))).trans (z3.wide (by omega) Fu),aJ hu z1 z2 z3 z4⟩;have hRc:∀v,¬ (mid<e∧e<b)→SP U v a mid→LC (fun p=>(R p).ix) v mid b:=fun v hne hv x y z1 z2 z3=>by
     rw[hv.out (k:=x) (by omega),hv.out (k:=y) (by omega)];exact hR (by omega) x y z1 z2 z3
    have HFIN:=An hfin;have HRC:=An hRc;have HLC:=An hL;have HDU:=An hDU;have HROT:=An hROT;have HI1:=An hI1;have HI2:=An hI2;have o1:mid≤e:=(by omega);have o2:e≤b:=(by omega);have o3:a≤st:=(by omega);have o4:st≤mid:=(by omega);have o5:st≤m:=(by omega);clear hfin hRc hL hDU hROT hI1 hI2 hu hH1 hH2 hR hUs hU0 hCut hbe hab hqm hmid f2 f3 f4 f5 f6 f7 f8;as_aux_lemma =>
     go_upto_region 39 with fail
     go_cut [185] (fun x wc=>x=Aj (decide (st<m∧m<e))∧wc=wr)
     case first =>
      by_cases s0:st<m
      ·have s1:decide ((st:Int)<(m:Int))=true:=Bq (by omega);go_wp2_with fail
       go_meet
       exact⟨B8 Aj (EC.2 (by omega)),rfl⟩
      ·have s1:decide ((st:Int)<(m:Int))=false:=AO (by omega);have HN:=An (show decide (st<m∧m<e)=false from AO (by omega));go_wp2_with fail
       go_meet
       exact⟨by rw[AN HN],rfl⟩
     case rest =>
      obtain⟨rfl,hw⟩:=hcut;obtain rfl:=hw.symm;clear hw;go_upto_if 185 with fail
      go_cut [24] (fun x wc=>x=I K (e:Int)∧DL g cap W0 (GY R U n) wc)
      case first =>
       by_cases b1:st<m∧m<e
       ·rw[Bq b1];go_wp2_with((go_at_call 161;refine(AN HROT b1.1 b1.2).mono ?_;rintro e1 w2⟨rfl,hd2⟩;have HU:=An hd2;clear hd2))
        go_meet
        exact⟨rfl,AN HU⟩
       ·rw[AO b1];have HU:=An (AN HDU b1);go_wp2_with fail
        go_meet
        exact⟨rfl,AN HU⟩
      case rest =>
      as_aux_lemma =>
       obtain⟨rfl,hU⟩:=hcut;obtain⟨wu,rfl⟩:∃wu,wu=wc:=⟨_,rfl⟩;have HU:=An hU;clear hU;go_upto_region 41 with fail
       go_cut [199] (fun x wc=>x=Aj (decide (a<st∧st<mid))∧wc=wu)
       case first =>
        by_cases s0:a<st
        ·have s1:decide ((a:Int)<(st:Int))=true:=Bq (by omega);go_wp2_with fail
         go_meet
         exact⟨B8 Aj (EC.2 (by omega)),rfl⟩
        ·have s1:decide ((a:Int)<(st:Int))=false:=AO (by omega);have HN:=An (show decide (a<st∧st<mid)=false from AO (by omega));go_wp2_with fail
         go_meet
         exact⟨by rw[AN HN],rfl⟩
       case rest =>
        obtain⟨rfl,hw⟩:=hcut;obtain rfl:=hw.symm;clear hw;go_upto_if 199 with fail
        go_cut [24] (fun x wc=>x=I K (e:Int)∧∃v,DL g cap W0 (GY R v n) wc∧SP U v a mid∧LC (fun p=>(R p).ix) v a mid)
        case first =>
         by_cases b2:a<st∧st<mid
         ·rw[Bq b2];go_wp2_with((go_at_call 147;refine(AN HI1 b2.1 b2.2 _ (AN HU)).mono ?_;rintro e2 w3⟨rfl,hv3⟩;have HV:=An hv3;clear hv3))
          go_meet
          exact⟨rfl,AN HV⟩
         ·rw[AO b2];have HV:=An (AN HLC (by omega));go_wp2_with fail
          go_meet
          exact⟨rfl,U,AN HU,SP.refl U a mid,AN HV⟩
        case rest =>
        as_aux_lemma =>
         obtain⟨rfl,v,hv,hp,hs⟩:=hcut;obtain⟨wv,rfl⟩:∃wv,wv=wc:=⟨_,rfl⟩;have HV:=An hv;have HP:=An hp;have HS:=An hs;clear hv hp hs;go_upto_region 43 with fail
         go_cut [213] (fun x wc=>x=Aj (decide (mid<e∧e<b))∧wc=wv)
         case first =>
          by_cases s0:mid<e
          ·have s1:decide ((mid:Int)<(e:Int))=true:=Bq (by omega);go_wp2_with fail
           go_meet
           exact⟨B8 Aj (EC.2 (by omega)),rfl⟩
          ·have s1:decide ((mid:Int)<(e:Int))=false:=AO (by omega);have HN:=An (show decide (mid<e∧e<b)=false from AO (by omega));go_wp2_with fail
           go_meet
           exact⟨by rw[AN HN],rfl⟩
         case rest =>
          obtain⟨rfl,hw⟩:=hcut;obtain rfl:=hw.symm;clear hw;by_cases b3:mid<e∧e<b
          ·rw[Bq b3];go_wp2_with((go_at_call 147;refine(AN HI2 b3.1 b3.2 _ _ (AN HP) (AN HV)).mono ?_;rintro e3 w4⟨rfl,t4,hd4,hp4,hs4⟩;have HT:=An hd4;have HP4:=An hp4;have HS4:=An hs4;clear hd4 hp4 hs4))
           exact CZ (by simp[results,Tryz.results147,go_sem]<;>rfl) rfl ⟨rfl,AN HFIN v t4 _ (AN HP) (AN HS) (AN HP4) (AN HS4) (AN HT)⟩
          ·rw[AO b3];have HB3:=An b3;go_wp2;exact CZ (by simp[results,Tryz.results147,go_sem]<;>rfl) rfl ⟨rfl,AN HFIN v v _ (AN HP) (AN HS) (SP.refl v mid b) (AN HRC v (AN HB3) (AN HP)) (AN HV)⟩
end Go.Proofs.YtnbleebilmghcabGreat
