/- BT1, BT2 -/
import Derived.Shelf.Spec.SlicesGrow
import Derived.Test.YtnbleebilmghcabGreatUAC
import Derived.Test.YtnbleebilmghcabGreatUBB
import Derived.Test.YtnbleebilmghcabGreatUBO
set_option linter.all false
set_option maxRecDepth 8000
set_option maxHeartbeats 4000000
open Go.Value renaming int→I,slice→S,tuple→Ai,bool→Aj
open Go.IntKind renaming i64→K
open Option renaming none→N,some→O
open Go.Obj renaming cells→Al
open Go.Operand renaming tmp→Am
open Go.Ending renaming returned→Ao
open Go.Proofs.Tryz renaming prog→Au
namespace Go.Proofs.YtnbleebilmghcabGreat
open Go Go.RowKit
attribute [local go_sem ↓] Go.wp_at_zero Go.wp_at_succ
theorem UU(L:Option Addr)(n cap:Nat)(S:Nat→GG)(w:World)(hL:Iw w L n S):
  Calls Au 122 #[.slice L n cap] w fun e w'=>e=Ao (GC (en S n))∧Below w.heap.size w w':=by
 unfold en;by_cases hg:12<n
 ·have hg':(12:Int)<(n:Int):=by omega
  simp only[hg,BX];go_enter Tryz.func122,Tryz.ntmps122
  go_wp2;refine AG (v:=GC (4,0)) (by simp[results,Tryz.results122,go_sem,GC]) R ⟨rfl,?_⟩;go_grown
 ·have hg':¬ (12:Int)<(n:Int):=by omega
  simp only[hg,BG];have HX:=(WX.start w);go_enter Tryz.func122,Tryz.ntmps122
  go_wp2;go_loopw [12] (fun i wr=>∃j:Nat,j≤n∧i=I K j∧Nj S n 0=Nj S (n - j) j∧WX w wr) (fun i _=>n - (intOf i).toNat)
  case atStart=>exact⟨0,AS _,rfl,rfl,HX⟩
  case round =>
   clear HX;obtain⟨j,hj,rfl,hF,hN⟩:=hrel;have HF:=An hF;clear hF;by_cases hlt:j<n
   ·have j0:(0:Int)≤(j:Int):=(by omega);have j1:(j:Int)<(n:Int):=(by omega);obtain⟨b,off,rfl,hs⟩:=hL j hlt;have hs:=hs.below hN.bel;have q0:=hs.c0;have q1:=hs.c1;have q2:=hs.c2;have q3:=hs.c3;have HS:=An (Sl S n j hlt);have hC:=QU (S j).m (S j).al (S j).no (S j).A (S j).len (S j).cap (S j).a _ (hs.acts.below ((AD wr.heap.size wr).alloc Fu (Al #[I K (S j).m,I K (S j).al,I K (S j).no,.slice (S j).A (S j).len (S j).cap] 37)));have e:MA (S j).m (S j).al (S j).no (S j).a (S j).len=sw (S j):=rfl;rw[e]at hC;unfold GC Gz at hC;clear e hL hs;generalize sw (S j)=x at *;obtain⟨ej,aj⟩:=x;dsimp only at *;generalize S j=s at *;obtain⟨m,al,no,A,len,cap,a⟩:=s;dsimp only at *;by_cases he:ej=0
    ·subst he;go_wp2_with(first
      |(go_at_call 29;refine hC.mono ?_;rintro e w5⟨rfl,hb5⟩;have hN5:=hN.below (CO (Fv.alloc Fu _) (hb5.mono (by simp)));clear hb5))
     go_roundw
     case rel=>exact⟨j+1,by omega,by go_num,(AN HF).trans ((AN HS).trans (by simp)),hN5.below (Fv.alloc Fu _)⟩
     case measure=>simp[intOf];omega
    ·go_wp2_with(first
      |(go_at_call 29;refine hC.mono ?_;rintro e w5⟨rfl,hb5⟩;have hN5:=hN.below (CO (Fv.alloc Fu _) (hb5.mono (by simp)));have hN6:=hN5.below (Fv.alloc Fu (Al #[I K ej,I K aj] 29));have t0:=hN6.t0;have t1:=hN6.t1;have f0:=hN6.f 0;have f1:=hN6.f 1;clear hb5))
     have hv:=(AN HF).trans ((AN HS).trans (AA he));refine AG (v:=GC (ej,(j:Int))) (by simp[results,Tryz.results122,go_sem,GC,t0,t1]) R ⟨by rw[hv],?_⟩;exact Bv w.heap.size (by omega) [I K ej,I K (j:Int)] 0 _ hN6.bel
   ·obtain rfl:j=n:=(by omega);have hv:Nj S j 0=(0,0):=(by rw[AN HF,BR];rfl);have t0:=hN.t0;have t1:=hN.t1;have f0:=hN.f 0;have f1:=hN.f 1;have HB:=hN.bel;clear hL;go_wp2;refine AG (v:=GC (0,0)) (by simp[results,Tryz.results122,go_sem,GC,t0,t1]) R ⟨by rw[hv],?_⟩;exact Bv w.heap.size (by omega) [I K 0,I K 0] 0 wr HB
def To(cl:Nat→Nat→Bool)(j k t:Nat):Nat:=if t<j then I3 cl t else if t=j then LI cl j k else 0
def VT(cl:Nat→Nat→Bool)(n j k:Nat):List Value:=(List.range n).map fun t=>I K ((To cl j k t:Nat):Int)
theorem Ov(cl:Nat→Nat→Bool)(n j k:Nat):(VT cl n j k).length=n:=by simp[VT]
theorem NK(cl:Nat→Nat→Bool)(n j k t:Nat)(h:t<n):(VT cl n j k)[t]?=O (I K ((To cl j k t:Nat):Int)):=by unfold VT;rw[Bw,CE h];rfl
theorem Zj(cl:Nat→Nat→Bool)(n:Nat):(madeCells (I K 0).cells (n*1)).toList=VT cl n 0 0:=by
 apply CX;intro i;by_cases h:i<n
 ·rw[NK _ _ _ _ _ h];have:To cl 0 0 i=0:=by unfold To;simp[LI]
  rw[this];simp[madeCells,h,Value.cells,Fm]
 ·rw[Bb (by simp[madeCells];omega),Bb (by rw[Ov];omega)]
theorem fA(cl:Nat→Nat→Bool)(n j k:Nat)(h:¬ (cl k j=true∧LI cl j k<I3 cl k+1)):VT cl n j (k+1)=VT cl n j k:=by
 have e:LI cl j (k+1)=LI cl j k:=by
  show(if cl k j=true∧LI cl j k<I3 cl k+1 then I3 cl k+1 else LI cl j k)=_;rw[AA h]
 unfold VT To;rw[e]
theorem g7(cl:Nat→Nat→Bool)(n j k:Nat)(F:j<n)(h:cl k j=true∧LI cl j k<I3 cl k+1):VT cl n j (k+1)=(VT cl n j k).set j (I K (((I3 cl k+1:Nat)):Int)):=by
 have e:LI cl j (k+1)=I3 cl k+1:=by
  show(if cl k j=true∧LI cl j k<I3 cl k+1 then I3 cl k+1 else LI cl j k)=_;rw[AF h]
 apply CX;intro i;by_cases E:i<n
 ·by_cases D:j=i
  ·subst D;rw[Co (by rw[Ov];exact E),NK _ _ _ _ _ E];unfold To;rw[AA (by omega),AF R,e]
  ·rw[Cx D,NK _ _ _ _ _ E,NK _ _ _ _ _ E];unfold To;split
   ·rfl
   ·rw[AA (by omega),AA (by omega)]
 ·rw[Bb (by rw[Ov];omega),Bb (by rw[By,Ov];omega)]
theorem fB(cl:Nat→Nat→Bool)(n j:Nat):VT cl n j j=VT cl n (j+1) 0:=by
 unfold VT;refine CC fun t _=>?_;have:To cl j j t=To cl (j+1) 0 t:=by
  unfold To;by_cases h:t<j
  ·rw[AF h,AF (by omega)]
  ·by_cases D:t=j
   ·rw[AA h,AF D,AF (by omega),D,VS]
   ·rw[AA h,AA D,AA (by omega)];split <;>rfl
 rw[this]
theorem Xm{m al no:Int}(h:Is m al no=true):FV al=true:=by
 unfold Is at h;rw[AP,AP]at h;exact h.1.2
theorem WX.sz{w D:World}(h:WX w D):w.heap.size+1≤D.heap.size:=AL D _ h.t0
theorem WX.keep{w E w1:World}(h:WX w E)(D:Below (w.heap.size+1) E w1):WX w w1 :=
 ⟨h.bel.trans (D.mono (by omega)),(D.cell (p:=⟨w.heap.size,0,N⟩) (by simp)).trans h.t0,(D.cell (p:=⟨w.heap.size,1,N⟩) (by simp)).trans h.t1,fun i=>(D.frozen (p:=⟨w.heap.size,i,N⟩) (by simp)).trans (h.f i)⟩
theorem KV.made{W:World}{E g m:Nat}(h:W.ownsRow E 23 1 (S (O ⟨g,0,N⟩) m m) m (List.replicate m Ii)):KV W E (S (O ⟨g,0,N⟩) m m) (List.replicate m []) (List.replicate m Ii):=by
 have F:∀k,k<m→(List.replicate m Ii).getD k Ii=Ii:=fun k D=>by rw[Az,D8,AF D];rfl
 have J:∀k,k<m→(List.replicate m ([]:List Nat)).getD k []=[]:=fun k D=>by rw[Az,D8,AF D];rfl
 refine⟨by simpa using h,fun k D=>?_,fun k U D L M y H=>?_⟩
 ·rw[Fd]at D;rw[F k D,J k D];exact Bn _ _ _ _
 ·rw[Fd]at D;rw[F k D]at H
  cases H
theorem Y8(m:Nat):(madeCells (S N 0 0).cells (m*1)).toList=List.replicate m Ii:=by
 apply CX;intro i;by_cases h:i<m
 ·rw[D8,AF h];simp[madeCells,h,Value.cells,Fm,Ii]
 ·rw[Bb (by simp[madeCells];omega),Bb (by simp;omega)]
theorem Qe(L:Option Addr)(n hZ:Nat)(S:Nat→GG)(w:World)(hL:Iw w L n S)(hw:(en S n).1=0):
  Calls Au 82 #[.slice L n hZ] w fun e w'=>∃B hI,e=Ao (Ai #[.slice B (IM (He S) n).length hI,GC (0,0)])∧Mi w' B (IM (He S) n)∧Below w.heap.size w w':=by
 obtain⟨hn,ca,hz⟩:=VI S n hw;have hi:∀j,j<n→_:=fun j hj=>(Ie _ _ _ _ _).1 (ca j hj);have hM:=WX.start w;have hC:=UU L n hZ S _ (hL.below hM.bel);rw[hz]at hC;unfold GC at *;clear hw ca hz;obtain⟨cc,cd,ce,cf,hJ⟩:=BC eD;obtain⟨i3,cg,ch,ci,cj⟩:=BC info3;have ck:=An hJ;have cE:i3.bytes*n≤281474976710656:=by rw[cj];omega
 have hx:=An (Zj (He S) n);clear hJ;go_enter Tryz.func82,Tryz.ntmps82
 go_wp2_with(first
  |(go_at_call 122;refine hC.mono ?_;rintro e w5⟨rfl,cm⟩;have cn:=hM.below cm;have hy:=cn.below (Fv.alloc Fu (Al #[I K 0,I K 0] 29));clear cm cn)
  |(at_make;refine DI _ R (Am 19) (Am 19) 23 R (w.heap.size+1) 3 i3 (I K 0) 1 Tryz.underlying23 cg ch ci K K (n:Int) (n:Int) n R R R R cE (by unfold maxLen;omega) hy.sz ?_;intro w7 Z co;have cp:=hy.keep (F0 co (fun k hk=>by cases hk) hy.sz);rw[AN hx]at Z;have cq:=Z;clear Z co hy))
 clear hC hM;have Z:w7.ownsRow (w.heap.size+1) 3 1 (.slice (O ⟨w5.heap.size+1,0,N⟩) n n) n (VT (He S) n 0 0):=by simpa using cq
 have ha:=Z;clear Z cq hx;obtain⟨u,hu⟩:∃u,u=w5.heap.size+1:=⟨_,rfl⟩;rw[←hu]at ha⊢;clear hu;go_loopw [6,23] (fun m i wr=>∃j:Nat,j≤n∧i=I K j∧m=I K ((O0 (He S) j:Nat):Int)∧WX w wr∧wr.ownsRow (w.heap.size+1) 3 1 (.slice (O ⟨u,0,N⟩) n n) n (VT (He S) n j 0)) (fun _ i _=>n - (intOf i).toNat)
 case atStart=>exact⟨0,AS _,rfl,rfl,cp,ha⟩
 case round =>
  clear cp ha;obtain⟨j,hj,rfl,rfl,J,E⟩:=hrel;by_cases F:j<n
  ·have j0:(0:Int)≤(j:Int):=(by omega);have j1:(j:Int)<(n:Int):=(by omega);have V:=E;clear E;go_wp2;go_loopw [27] (fun i wr=>∃k:Nat,k≤j∧i=I K k∧WX w wr∧wr.ownsRow (w.heap.size+1) 3 1 (.slice (O ⟨u,0,N⟩) n n) n (VT (He S) n j k)) (fun i _=>j - (intOf i).toNat)
   case atStart=>exact⟨0,AS _,rfl,J,V⟩
   case round =>
    clear J V;obtain⟨k,hk,rfl,J,E⟩:=hrel;by_cases cF:k<j
    ·have k0:(0:Int)≤(k:Int):=(by omega);have k1:(k:Int)<(j:Int):=(by omega);have k2:(k:Int)<(n:Int):=(by omega);have V:=E;clear E;go_wp2;have J:=J;have E:=V;have hK:Nonempty (Hm wr):=⟨⟨wr,AD _ _⟩⟩;obtain⟨b,cY,cr,hs⟩:=hL k (by omega);obtain⟨b',cS,Y,M⟩:=hL j F;rw[cr]at Y;injection Y with Y;injection Y with e1 e2;subst e1 e2 cr;have hs:=hs.below J.bel;have M:=M.below J.bel;have s0:=B1 hs.c0;have s1:=B1 hs.c1;have s2:=B1 hs.c2;have s3:=B1 hs.c3;have r0:=B1 M.c0;have r1:=B1 M.c1;have r2:=B1 M.c2;have r3:=B1 M.c3;have ek:To (He S) j k k=I3 (He S) k:=(by unfold To;rw[AF cF]);have ej:To (He S) j k j=LI (He S) j k:=(by unfold To;rw[AA (by omega),AF R]);have hm:=F4 E (NK (He S) n j k k (by omega));have hP:=F4 E (NK (He S) n j k j F);rw[ek]at hm;rw[ej]at hP;have d0:=B1 hm;have d1:=B1 hP;obtain⟨p1,p2,p3⟩:=hi k (by omega);obtain⟨ct,cu,cv⟩:=hi j F;have hE:∀x:Hm wr,Calls Au 123 #[Gz (S k).m (S k).al (S k).no (S k).A (S k).len (S k).cap,Gz (S j).m (S j).al (S j).no (S j).A (S j).len (S j).cap] x.val fun e w'=>e=Ao (Aj (He S k j))∧Below x.val.heap.size x.val w':=fun x =>
      WP (S k).m (S k).al (S k).no (S k).A (S k).len (S k).cap (S k).a (S j).m (S j).al (S j).no (S j).A (S j).len (S j).cap (S j).a x.val p2 cu (Xm p1) (Xm ct) p3 cv (hs.acts.below x.bel) (M.acts.below x.bel)
     unfold Gz at hE;have cG:I3 (He S) k≤12:=(by have:=Qy (He S) k;have:=MT (He S) k;omega);have cZ:LI (He S) j k≤12:=(by have:=Tg (He S) j k (by omega);have:=Qy (He S) j;have:=MT (He S) j;omega);have cw:=(fA (He S) n j k);have cH:=(g7 (He S) n j k F);have cI:=(fun(W:World) (h:W.ownsRow (w.heap.size+1) 3 1 (.slice (O ⟨u,0,N⟩) n n) n (VT (He S) n j k))=>KP h j);have cJ:=(E.lt u R).1;clear E hs M p1 p2 p3 ct cu cv ek ej hi;generalize He S k j=cl at *;generalize I3 (He S) k=a at *;generalize LI (He S) j k=t at *;generalize S k=sk at *;generalize S j=sj at *;obtain⟨m1,lF,da,A1,cT,cU,a1⟩:=sk;obtain⟨m2,lE,db,A2,cW,cap2,a2⟩:=sj;dsimp only at *;have HE:=An hE;clear hE
     cases cl
     ·have H:=An (cw (fun h=>by cases h.1));refine FN (by kernel_rfl) (by kernel_rfl) ?_
      repeat(go_big_quiet_step((first
       |(go_at_call 123;exact Gf (AN HE _)))))
      refine Bg ?_;rintro w4⟨xs,U⟩;have D:=xs.bel;rw[←U]at D;have ho:=(J.below D);have hd:=(FT V D);clear U xs D hK s0 s1 s2 s3 r0 r1 r2 r3 d0 d1 HE hL J V;go_wp2;go_roundw
      case rel=>exact⟨k+1,by omega,by go_num,ho,by rw[AN H];exact hd⟩
      case measure=>simp[intOf];omega
     ·by_cases hc:t<a+1
      ·have hQ:(t:Int)<(a:Int)+1:=(by omega);have H:=An (cH ⟨rfl,hc⟩);refine FN (by kernel_rfl) (by kernel_rfl) ?_
       repeat(go_big_quiet_step((first
        |(go_at_call 123;exact Gf (AN HE _)))))
       refine Bg ?_;rintro w4⟨xs,U⟩;have D:=xs.bel;rw[←U]at D;have ho:=(J.below D);have hd:=(FT V D);have q0:=AW D hm;have q1:=AW D hP;have q2:=cI _ hd;clear U xs D hK s0 s1 s2 s3 r0 r1 r2 r3 d0 d1 HE hL J V;go_wp2;go_roundw
       case rel =>
        refine⟨k+1,by omega,by go_num,ho.keep (Fv.setCell (p:=⟨u,j,N⟩) cJ _),?_⟩;rw[AN H];have:=NX hd (j:=j) (by rw[Ov];exact F) (I K (((a+1:Nat)):Int));simpa using this
       case measure=>simp[intOf];omega
      ·have hQ:¬ (t:Int)<(a:Int)+1:=(by omega);have H:=An (cw (fun h=>hc h.2));refine FN (by kernel_rfl) (by kernel_rfl) ?_
       repeat(go_big_quiet_step((first
        |(go_at_call 123;exact Gf (AN HE _)))))
       refine Bg ?_;rintro w4⟨xs,U⟩;have D:=xs.bel;rw[←U]at D;have ho:=(J.below D);have hd:=(FT V D);clear U xs D hK s0 s1 s2 s3 r0 r1 r2 r3 d0 d1 HE hL J V;go_wp2;go_roundw
       case rel=>exact⟨k+1,by omega,by go_num,ho,by rw[AN H];exact hd⟩
       case measure=>simp[intOf];omega
    ·obtain rfl:k=j:=(by omega);have ek:To (He S) k k k=I3 (He S) k:=(by unfold To;rw[AA (by omega),AF R,VS]);have hm:=F4 E (NK (He S) n k k k (by omega));rw[ek]at hm;rw[fB]at E;have cG:I3 (He S) k≤12:=(by have:=Qy (He S) k;have:=MT (He S) k;omega);have dc:O0 (He S) k≤12:=(by have:=bU (He S) k;omega);have cx:Hid (O0 (He S) (k+1)=if O0 (He S) k<I3 (He S) k+1 then I3 (He S) k+1 else O0 (He S) k):=rfl;have V:=E;clear E hL hi ek;generalize O0 (He S) k=m at *;generalize I3 (He S) k=a at *;by_cases hc:m<a+1
     ·have hQ:(m:Int)<(a:Int)+1:=(by omega);have H:=An ((AN cx).trans (AF hc));go_wp2;go_roundw
      case rel=>exact⟨k+1,by omega,by go_num,by rw[AN H];go_num,J,V⟩
      case measure=>simp[intOf];omega
     ·have hQ:¬ (m:Int)<(a:Int)+1:=(by omega);have H:=An ((AN cx).trans (AA hc));go_wp2;go_roundw
      case rel=>exact⟨k+1,by omega,by go_num,by rw[AN H],J,V⟩
      case measure=>simp[intOf];omega
  ·obtain rfl:j=n:=(by omega);obtain⟨W0,cK⟩:∃W,W=wr:=⟨_,rfl⟩;subst cK;have hp:∀t,t<j→W0.cell? ⟨u,t,N⟩=O (I K ((I3 (He S) t:Nat):Int)):=fun t ht=>by
    have h1:=F4 E (NK (He S) j j 0 t ht);have h2:To (He S) j 0 t=I3 (He S) t:=(by unfold To;rw[AF ht]);rwa[h2]at h1
   have hA:∀t,t<j→I3 (He S) t<O0 (He S) j:=fun t ht=>Uk (He S) t j ht;have cy:=WU (He S) (O0 (He S) j);have hR:∀t,t<j→Jy (He S) (O0 (He S) j) (t+1)=(Jy (He S) (O0 (He S) j) t).set (I3 (He S) t) ((Jy (He S) (O0 (He S) j) t).getD (I3 (He S) t) []++[t]):=fun t ht=>WV (He S) (O0 (He S) j) t (hA t ht);have cz:=Yr (He S) j;have hB:=fun t=>O' (He S) (O0 (He S) j) t;have hS:∀t,t<j→∀k,k<O0 (He S) j→((Jy (He S) (O0 (He S) j) t).getD k []).length≤12:=fun t ht k hk=>by
    rw[PA _ _ _ _ hk];have:=BT (fun i=>I3 (He S) i == k) (List.range t);rw[List.length_range]at this;omega
   have dd:O0 (He S) j≤12:=(by have:=bU (He S) j;omega);have hq:cc.bytes*O0 (He S) j≤281474976710656:=(by rw[AN ck];omega);generalize O0 (He S) j=m at *;have hT:=An cy;have hD:=An cz;have hU:=An (Y8 m);clear E hL hi cy cz;go_wp2_with(first
    |(at_make;refine DI _ R (Am 73) (Am 73) 46 R W0.heap.size 23 cc (.slice N 0 0) 1 Tryz.underlying46 cd ce cf K K (m:Int) (m:Int) m R R R R hq (by unfold maxLen;omega) Fu ?_;intro w8 hV cA;have cB:=(F0 cA (fun k hk=>by cases hk) Fu);rw[AN hU]at hV;have ha:=(KV.made hV);clear hV cA))
   go_loopw [77] (fun i w1=>∃t:Nat,t≤j∧i=I K t∧Below W0.heap.size W0 w1∧∃xs,KV w1 W0.heap.size (.slice (O ⟨W0.heap.size,0,N⟩) m m) (Jy (He S) m t) xs) (fun i _=>j - (intOf i).toNat)
   case atStart=>exact⟨0,AS _,rfl,cB,_,by rw[AN hT];exact ha⟩
   case round =>
    clear cB ha;obtain⟨t,ht,rfl,hb,xs,E⟩:=hrel;by_cases F:t<j
    ·have t0:(0:Int)≤(t:Int):=(by omega);have t1:(t:Int)<(j:Int):=(by omega);have c0:=AW hb (hp t F);have he:=hA t F;have hx:=An (hR t F);have hr:=hS t F;have cL:=hB t;have hX:=hb.size;have hW:=An (J.below hb);clear hR hA hp hS hB hD hT hU hq;generalize I3 (He S) t=a at *;generalize Jy (He S) m t=bs at *;subst cL;have a0:(0:Int)≤(a:Int):=(by omega);have a1:(a:Int)<(bs.length:Int):=(by omega);obtain⟨v,hv⟩:∃v,v=xs.getD a Ii:=⟨_,rfl⟩;obtain⟨l,hl⟩:∃l,l=bs.getD a []:=⟨_,rfl⟩;have cX:l.length≤12:=(by rw[hl];exact hr a he);have HU:=An hv;have cC:=An hl;have cD:=E;have c5:wr.cell? ⟨W0.heap.size,a,N⟩=O v:=(by rw[hv];exact E.cell he);have cM:=(show wr.ownsRow W0.heap.size 3 1 v l.length (IQ l) by rw[hv,hl];exact E.each a he);have cN:=(fun(W W':World) (h:KV W W0.heap.size (.slice (O ⟨W0.heap.size,0,N⟩) bs.length bs.length) bs xs) (hg:W.grownBy W' v.ownBlock)=>show W'.cell? ⟨W0.heap.size,a,N⟩=O v∧W'.frozen? ⟨W0.heap.size,a,N⟩=false by rw[hv]at hg⊢;exact h.cellAt he hg);clear hv hl E hr;go_wp2_with(first
      |(at_builtin;refine FY _ R (Am 87) (Am 89) 23 R W0.heap.size 3 i3 (I K 0) 1 8 Tryz.underlying23 cg ch ci cj R (by decide) v l.length (IQ l) R (cM.alloc _) ⟨wr.heap.size,0,N⟩ 1 1 [I K (t:Int)] R R (KU _ _ _) (gA _ R) (by unfold maxLen;omega) (by omega) (Kx hX _) (by omega) ?_;intro g2 cap2 w9 hF hh hG;have hY:=cN _ _ (cD.below (Fv.alloc Fu _)) hh;have c9:=hY.1;have f9:=hY.2;clear hY))
     have hH:=cD.below (Fv.alloc Fu (Al #[I K (t:Int)] 3));have cO:=hH.lo;have hh:=hh;have hF:=hF;have hG:=hG;rw[AN HU]at hh hG;rw[AN cC]at hF;have h2:=(hb.alloc hX (Al #[I K (t:Int)] 3)).trans (F0 hh (fun k hk=>hH.blk he k hk) (Kx hX _));have hf:=KV.add hH he (x:=t) hF hh (hG.imp id (fun h=>Nat.le_of_eq h.symm));rw[←AN hx,←AN cC]at hf;have de:bs.length=bs.length:=rfl;have cP:=An h2;clear hH h2;go_roundw
     case rel=>exact⟨t+1,by omega,by go_num,(AN cP).trans (Fv.setCell (p:=⟨W0.heap.size,a,N⟩) cO _),_,hf⟩
     case measure=>simp[intOf];omega
    ·obtain rfl:t=j:=(by omega);have hW:=J.below hb;have t0:=hW.t0;have t1:=hW.t1;have f0:=hW.f 0;have f1:=hW.f 1;rw[AN hD]at E;have cQ:m=(IM (He S) t).length:=(by have:=hB t;rw[AN hD]at this;exact this.symm);subst cQ;have V:=E;clear E hp hA hT hR hD hB hS hU hq;go_wp2;have df:=J.sz;refine AG (by simp[results,Tryz.results82,go_sem,t0,t1]<;>rfl) R ⟨O ⟨W0.heap.size,0,N⟩,(IM (He S) t).length,rfl,?_,?_⟩
     ·obtain⟨B',hI,hv,cR⟩:=(V.setsBelow (b:=w.heap.size) (by omega) [I K 0,I K 0] 0).bats;simp only[A9]at hv;obtain⟨rfl,_,rfl⟩:=hv;exact cR
     ·exact Bv w.heap.size (by omega) [I K 0,I K 0] 0 _ hW.bel
end Go.Proofs.YtnbleebilmghcabGreat
