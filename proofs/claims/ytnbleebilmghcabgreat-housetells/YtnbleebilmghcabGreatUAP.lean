/- PMath, PMatch, STab, STabX, SBx0, SWtX, SSame -/
import Derived.Test.YtnbleebilmghcabGreatUAC
import Derived.Test.YtnbleebilmghcabGreatUAI
import Derived.Test.YtnbleebilmghcabGreatUAM
set_option linter.all false
set_option maxHeartbeats 8000000
open Go.Value renaming int→I,slice→S,agg→Af,bool→Aj
open Go.IntKind renaming i64→K
open Option renaming none→N,some→O
open Go.Obj renaming cells→Al
open Go.Operand renaming tmp→Am
open Go.Ending renaming returned→Ao
open Go.Proofs.Tryz renaming prog→Au
namespace Go.Proofs.YtnbleebilmghcabGreat
open Go Go.RowKit
theorem Oj(x:D7)(i g:Int):TP x i g=true↔x.ix=i∧x.gen=g:=by unfold TP;simp
theorem If(X:Wd)(i g:Int):Ga X i g=-1∨∃k:Nat,k<X.rows.length∧Ga X i g=(k:Int)∧(E' X k).ix=i∧(E' X k).gen=g:=by
 rcases Lz (fun j=>X.rows.getD j dR) i g X.rows.length 0 with h|⟨k,_,F,D,E⟩
 ·exact .inl h
 ·exact .inr ⟨k,by omega,D,(Oj _ _ _).1 E⟩
theorem eN(R:Nat→D7)(i g:Int):∀n j,Mt R i g n j=-1→∀t,j≤t→t<j+n→TP (R t) i g=false
 |0,j,_,t,h1,h2=>by omega
 | n+1,j,h,t,h1,h2=>by
  unfold Mt at h;split at h
  ·omega
  ·rename_i D;by_cases e:t=j
   ·subst e;simpa using D
   ·exact eN R i g n (j+1) h t (by omega) (by omega)
theorem Xq{X:Wd}{i g:Int}(h:Ga X i g=-1){j:Nat}(E:j<X.rows.length):¬ ((E' X j).ix=i∧(E' X j).gen=g):=by
 intro e;have:=eN _ i g X.rows.length 0 h j Fw (by omega);have D:TP (X.rows.getD j dR) i g=true:=(Oj _ _ _).2 e;rw[D]at this;cases this
theorem Ly{X:Wd}{i g:Int}(h:∀ j,j<X.rows.length→¬ ((E' X j).ix=i∧(E' X j).gen=g)):Ga X i g=-1:=by
 rcases If X i g with D|⟨k,D,_,E⟩
 ·exact D
 ·exact absurd E (h k D)
theorem Na{X:Wd}(E:FK X){j:Nat}(D:j<X.rows.length):Ga X (E' X j).ix (E' X j).gen=(j:Int):=by
 rcases If X (E' X j).ix (E' X j).gen with h|⟨k,h,F,H,J⟩
 ·exact absurd ⟨rfl,rfl⟩ (Xq h D)
 ·rw[F,E.one h D H]
theorem JH(X:Wd)(k:Nat)(r:D7)(G:List Int)(j:Nat)(h:j<X.rows.length):E' ⟨X.rows.set k r,G⟩ j=if j=k then r else E' X j:=Sh X.rows k j r h
theorem SQ{X:Wd}(h:FK X){k:Nat}(U:k<X.rows.length){r:D7}(F:r.ix=(E' X k).ix)(H:r.gen=(E' X k).gen)(J:N4 r=true):FK ⟨X.rows.set k r,X.gens⟩:=by
 have e:=fun j (D:j<X.rows.length)=>JH X k r X.gens j D;have E:∀j,j<X.rows.length→(E' ⟨X.rows.set k r,X.gens⟩ j).ix=(E' X j).ix:=fun j D=>by
  rw[e j D];split
  ·rename_i h;rw[h,F]
  ·rfl
 have L:∀j,j<X.rows.length→(E' ⟨X.rows.set k r,X.gens⟩ j).gen=(E' X j).gen:=fun j D=>by
  rw[e j D];split
  ·rename_i h;rw[h,H]
  ·rfl
 have M:(X.rows.set k r).length=X.rows.length:=By;refine⟨h.gl,h.gv,fun j D=>?_,fun j D=>?_,fun j D=>?_,fun j D=>?_,fun j D=>?_⟩<;>simp only[M]at D
 ·rw[e j D];split
  ·exact J
  ·exact h.rv j D
 ·rw[E j D];exact h.i0 j D
 ·rw[E j D];exact h.il j D
 ·rw[E j (by omega),E (j+1) D];exact h.up j D
 ·rw[E j D,L j D];exact h.ge j D
theorem LP(X:Wd)(k:Nat)(G:List Int)(j:Nat):E' ⟨X.rows.eraseIdx k,G⟩ j=if j<k then E' X j else E' X (j+1):=by
 unfold E';simp only[Az,List.getElem?_eraseIdx];split <;>rfl
theorem UR{X:Wd}(h:FK X){k:Nat}(J:k<X.rows.length):FK ⟨X.rows.eraseIdx k,X.gens⟩:=by
 have e:=LP X k X.gens;have M:(X.rows.eraseIdx k).length+1=X.rows.length:=by rw[Ej,AF J];omega
 have E:∀j,j<(X.rows.eraseIdx k).length→∃t,t<X.rows.length∧E' ⟨X.rows.eraseIdx k,X.gens⟩ j=E' X t:=fun j D=>by
  rw[e j];split
  ·exact⟨j,by omega,rfl⟩
  ·exact⟨j+1,by omega,rfl⟩
 refine⟨h.gl,h.gv,fun j D=>?_,fun j D=>?_,fun j D=>?_,fun j D=>?_,fun j D=>?_⟩
 ·obtain⟨t,F,H⟩:=E j D;rw[H];exact h.rv t F
 ·obtain⟨t,F,H⟩:=E j D;rw[H];exact h.i0 t F
 ·obtain⟨t,F,H⟩:=E j D;rw[H];exact h.il t F
 ·rw[e j,e (j+1)];have L:j+1<(X.rows.eraseIdx k).length:=D;split <;>split
  ·exact h.up j (by omega)
  ·exact h.lt' (by omega) (by omega)
  ·omega
  ·exact h.up (j+1) (by omega)
 ·obtain⟨t,F,H⟩:=E j D;rw[H];exact h.ge t F
theorem NS(X:Wd)(k:Nat)(H:k≤X.rows.length)(r:D7)(G:List Int)(j:Nat):E' ⟨Ix X.rows k r,G⟩ j=if j<k then E' X j else if j=k then r else E' X (j - 1):=by
 unfold E' Ix;simp only[Az];have E:(X.rows.take k).length=k:=by rw[AZ];omega
 split
 ·rename_i h;rw[BF (by omega),CR,AF h]
 ·rename_i h;rw[BI (by omega),E];split
  ·rename_i D;subst D;simp
  ·rename_i D;obtain⟨t,F⟩:∃t,j - k=t+1:=⟨j - k - 1,by omega⟩;rw[F,AH,List.getElem?_drop,show k+t=j - 1 by omega]
theorem OE(R:Nat→D7)(i:Int):∀n j,∀t,j≤t→t<j+n→(NG R i n j=-1∨(t:Int)<NG R i n j)→(R t).ix≤i
 |0,j,t,h1,h2,_=>by omega
 | n+1,j,t,h1,h2,h=>by
  unfold NG at h;split at h
  ·rename_i D;rcases h with h|h <;>omega
  ·rename_i D;by_cases e:t=j
   ·subst e;omega
   ·exact OE R i n (j+1) t (by omega) (by omega) h
theorem N8{X:Wd}(h:FK X)(i:Int):Hy X.rows i≤X.rows.length∧(∀t,t<Hy X.rows i→(E' X t).ix≤i)∧∀t,Hy X.rows i≤t→t<X.rows.length→i<(E' X t).ix:=by
 refine⟨KO _ _,?_⟩;unfold Hy;rcases NY (fun j=>X.rows.getD j dR) i X.rows.length 0 with e|⟨k,_,L,e,E⟩
 ·rw[AF (by omega)];exact⟨fun t J=>OE _ i X.rows.length 0 t Fw (by omega) (.inl e),fun t F H=>by omega⟩
 ·rw[AA (by omega),e,Bi];refine⟨fun t J=>OE (fun j=>X.rows.getD j dR) i X.rows.length 0 t Fw (by omega) (.inr (by rw[e];omega)),fun t F H=>?_⟩;rcases Nat.eq_or_lt_of_le F with D|D
  ·subst D;exact E
  ·exact Int.lt_trans E (h.lt' D H)
theorem RI(gens:List Int)(k:Nat)(g:Int)(H:k≤gens.length)(j:Nat):(Iy gens (k:Int) g).getD j 0=if j=k then g else gens.getD j 0:=by
 unfold Iy;simp only[Az];by_cases h:k=gens.length
 ·rw[AF (by omega)];by_cases D:j<k
  ·rw[BF (by omega),AA (by omega)]
  ·rw[BI (by omega)];split
   ·rename_i E;rw[E,h];simp
   ·rename_i E;obtain⟨t,F⟩:∃t,j - gens.length=t+1:=⟨j - gens.length - 1,by omega⟩;rw[F,Bb (l:=gens) (by omega)];simp
 ·rw[AA (by omega),Bi,List.getElem?_set];split
  ·rename_i D;subst D;simp[show k<gens.length by omega]
  ·rename_i D;rw[AA (BW D)]
theorem Sd(gens:List Int)(k:Nat)(g:Int)(D:k≤gens.length):(Iy gens (k:Int) g).length=if k=gens.length then gens.length+1 else gens.length:=by
 unfold Iy;by_cases h:k=gens.length
 ·rw[AF (by omega),AF h];simp
 ·rw[AA (by omega),AA h];simp
theorem Yf{X:Wd}(h:FK X){k:Nat}(hk:k≤X.gens.length)(ha:k<60)(hu:∀ j,j<X.rows.length→(E' X j).ix≠(k:Int)){r:D7}(M:r.ix=(k:Int))(h3:N4 r=true)(hg:1≤r.gen∧r.gen≤1000):
  FK ⟨Ix X.rows (Hy X.rows (k:Int)) r,Iy X.gens (k:Int) r.gen⟩:=by
 obtain⟨p1,p2,p3⟩:=N8 h (k:Int);generalize Hy X.rows (k:Int)=p at *;have e:=NS X p p1 r (Iy X.gens (k:Int) r.gen);have U:(Ix X.rows p r).length=X.rows.length+1:=Ky _ _ _ p1;have V:=Sd X.gens k r.gen hk;have J:=RI X.gens k r.gen hk;have H:∀j,j<X.rows.length+1→E' ⟨Ix X.rows p r,Iy X.gens (k:Int) r.gen⟩ j=r∨∃t,t<X.rows.length∧E' ⟨Ix X.rows p r,Iy X.gens (k:Int) r.gen⟩ j=E' X t:=fun j E=>by
  rw[e j];split
  ·exact .inr ⟨j,by omega,rfl⟩
  ·split
   ·exact .inl R
   ·exact .inr ⟨j - 1,by omega,rfl⟩
 have Y:X.gens.length≤(Iy X.gens (k:Int) r.gen).length∧k<(Iy X.gens (k:Int) r.gen).length∧(Iy X.gens (k:Int) r.gen).length≤60:=by
  have:=h.gl;rw[V];split <;>omega
 have Z:∀t,t<X.rows.length→(E' X t).ix.toNat≠k:=fun t F e=>hu t F (by have:=h.i0 t F;omega);refine⟨Y.2.2,fun j E=>?_,fun j E=>?_,fun j E=>?_,fun j E=>?_,fun j E=>?_,fun j E=>?_⟩
 ·show 1≤(Iy X.gens (k:Int) r.gen).getD j 0∧(Iy X.gens (k:Int) r.gen).getD j 0≤1000;rw[J j];split
  ·exact hg
  ·exact h.gv j (by
    have L:j<(Iy X.gens (k:Int) r.gen).length:=E;rw[V]at L;split at L <;>omega)
 ·rcases H j (by rw[←U];exact E)with D|⟨t,F,D⟩
  ·rw[D];exact h3
  ·rw[D];exact h.rv t F
 ·rcases H j (by rw[←U];exact E)with D|⟨t,F,D⟩
  ·rw[D,M];omega
  ·rw[D];exact h.i0 t F
 ·show(E' _ j).ix<((Iy X.gens (k:Int) r.gen).length:Int);rcases H j (by rw[←U];exact E)with D|⟨t,F,D⟩
  ·rw[D,M];omega
  ·rw[D];have:=h.il t F;omega
 ·have L:j+1<X.rows.length+1:=by rw[←U];exact E
  rw[e j,e (j+1)];by_cases a:j+1<p
  ·rw[AF (by omega),AF a];exact h.up j (by omega)
  ·by_cases b:j+1=p
   ·rw[AF (by omega),AA a,AF b,M];have:=p2 j (by omega);have:=hu j (by omega);omega
   ·by_cases c:j=p
    ·rw[AA (by omega),AF c,AA a,AA b,M];exact p3 _ (by omega) (by omega)
    ·rw[AA (by omega),AA c,AA a,AA b];exact h.lt' (by omega) (by omega)
 ·show(E' _ j).gen=(Iy X.gens (k:Int) r.gen).getD (E' _ j).ix.toNat 0;rcases H j (by rw[←U];exact E)with D|⟨t,F,D⟩
  ·rw[D,M,Bi,J k,AF R]
  ·rw[D,J,AA (Z t F)];exact h.ge t F
theorem Z0(D:List D7)(i:Nat):KI D D.length i=false↔∀j,j<D.length→(D.getD j dR).ix≠(i:Int):=by
 unfold KI;rw[BN,List.any_eq_false];constructor
 ·intro h j E;have:=h (D.getD j dR) (by rw[Az,AE E];simp);simpa using this
 ·intro h x F;obtain⟨j,E,rfl⟩:=BL F;have:=h j E;rw[Az,AE E]at this;simpa using this
theorem PC(X:Wd):∀m j,m+j=X.gens.length→(Kv X m j).2=0→∃k:Nat,(Kv X m j).1.1=(k:Int)∧((k<X.gens.length∧(∀t,t<X.rows.length→(E' X t).ix≠(k:Int))∧X.gens.getD k 0<1000∧(Kv X m j).1.2=X.gens.getD k 0+1)∨(k=X.gens.length∧X.gens.length<60∧(Kv X m j).1.2=1))
 |0,j,h,h0=>by
  unfold Kv at h0⊢;split at h0
  ·simp at h0
  ·rename_i D;rw[AA D];exact⟨X.gens.length,rfl,.inr ⟨rfl,by omega,rfl⟩⟩
 |m+1,j,h,h0=>by
  unfold Kv at h0⊢;split at h0
  ·rename_i D;rw[AF D];exact⟨j,rfl,.inl ⟨by omega,(Z0 _ _).1 D.1,D.2,rfl⟩⟩
  ·rename_i D;rw[AA D];exact PC X m (j+1) (by omega) h0
theorem i8:∀m:Fin 256,∀p:Fin 8,∀k:Fin 8,0≤bits .or K (m.val:Int) (Ge (p.val:Int))∧bits .or K (m.val:Int) (Ge (p.val:Int))≤255∧(bits .and K (bits .or K (m.val:Int) (Ge (p.val:Int))) (Ge (k.val:Int)) != 0)=(decide (k=p) || bits .and K (m.val:Int) (Ge (k.val:Int)) != 0):=by decide +kernel
theorem jm:∀m:Fin 256,∀p:Fin 8,∀k:Fin 8,0≤bits .andNot K (m.val:Int) (Ge (p.val:Int))∧bits .andNot K (m.val:Int) (Ge (p.val:Int))≤255∧(bits .and K (bits .andNot K (m.val:Int) (Ge (p.val:Int))) (Ge (k.val:Int)) != 0)=(!decide (k=p) && bits .and K (m.val:Int) (Ge (k.val:Int)) != 0):=by decide +kernel
theorem ML{h:Int}(D:FV h=true):0≤h∧h≤255:=by unfold FV at D;simpa using D
theorem Hz{x:D7}(h:N4 x=true):(0≤x.has∧x.has≤255)∧∀k,k<8→Hx (x.v k)=true∧(x.v k=0∨IR x.has (k:Int)=true):=by
 unfold N4 at h;rw[AP]at h;refine⟨ML h.1,fun k D=>?_⟩;have:=AY.1 h.2 k (Bh.2 D);unfold bO at this;rw[AP,Cg]at this;exact⟨this.1,this.2.imp (by simp) id⟩
theorem aT{x:D7}(h:0≤x.has∧x.has≤255)(D:∀ k,k<8→Hx (x.v k)=true∧(x.v k=0∨IR x.has (k:Int)=true)):N4 x=true:=by
 unfold N4 Ng;rw[AP];refine⟨by unfold FV;simpa using h,AY.2 fun k E=>?_⟩;have:=D k (Bh.1 E);unfold bO;rw[AP,Cg];exact⟨this.1,this.2.imp (by simp) id⟩
theorem jw:Hx 0=true:=by decide
theorem Uc{p:Int}(h:F5 p=true):∃k:Nat,k<8∧p=(k:Int):=by
 unfold F5 at h;have:=AM h;exact⟨p.toNat,by omega,by omega⟩
theorem bI(h:Int)(h0:0≤h∧h≤255)(p:Nat)(D:p<8):(0≤bits .or K h (Ge (p:Int))∧bits .or K h (Ge (p:Int))≤255)∧∀k:Nat,k<8→IR (bits .or K h (Ge (p:Int))) (k:Int)=(decide (k=p) || IR h (k:Int)):=by
 obtain⟨m,rfl⟩:=KY h h0.1 h0.2;have f:=fun k:Fin 8=>i8 m ⟨p,D⟩ k;refine⟨⟨(f ⟨0,by decide⟩).1,(f ⟨0,by decide⟩).2.1⟩,fun k E=>?_⟩;have:=(f ⟨k,E⟩).2.2;simpa[IR,Fin.ext_iff]using this
theorem fH(h:Int)(h0:0≤h∧h≤255)(p:Nat)(D:p<8):(0≤bits .andNot K h (Ge (p:Int))∧bits .andNot K h (Ge (p:Int))≤255)∧∀k:Nat,k<8→IR (bits .andNot K h (Ge (p:Int))) (k:Int)=(!decide (k=p) && IR h (k:Int)):=by
 obtain⟨m,rfl⟩:=KY h h0.1 h0.2;have f:=fun k:Fin 8=>jm m ⟨p,D⟩ k;refine⟨⟨(f ⟨0,by decide⟩).1,(f ⟨0,by decide⟩).2.1⟩,fun k E=>?_⟩;have:=(f ⟨k,E⟩).2.2;simpa[IR,Fin.ext_iff]using this
theorem iu{x:D7}(h:N4 x=true){p n:Int}(E:F5 p=true)(F:Hx n=true):N4 (M7 x p n)=true:=by
 obtain⟨q,H,rfl⟩:=Uc E;obtain⟨J,L⟩:=Hz h;obtain⟨M,U⟩:=bI x.has J q H;refine aT M fun k D=>?_;show Hx (if k=((q:Nat):Int).toNat then n else x.v k)=true∧((if k=((q:Nat):Int).toNat then n else x.v k)=0∨IR (bits .or K x.has (Ge (q:Int))) (k:Int)=true);rw[U k D,Bi];by_cases e:k=q
 ·simp[e,F]
 ·simpa[e]using L k D
theorem ff{x:D7}(h:N4 x=true){p:Int}(E:IR x.has p=true):N4 (K5 x p)=true:=by
 obtain⟨q,F,rfl⟩:=Lw _ _ E;obtain⟨H,J⟩:=Hz h;obtain⟨L,M⟩:=fH x.has H q F;refine aT L fun k D=>?_;show Hx (if k=((q:Nat):Int).toNat then 0 else x.v k)=true∧((if k=((q:Nat):Int).toNat then 0 else x.v k)=0∨IR (bits .andNot K x.has (Ge (q:Int))) (k:Int)=true);rw[M k D,Bi];by_cases e:k=q
 ·simp[e,jw]
 ·simpa[e]using J k D
theorem iv(i g:Int){D n:Int}(H:FV D=true)(J:Hx n=true):N4 (MR i g D n)=true:=by
 have E:=ML H;refine aT E fun k F=>?_;show Hx (if k<8∧tb D k=true then n else 0)=true∧((if k<8∧tb D k=true then n else 0)=0∨IR D (k:Int)=true);have e:IR D (k:Int)=tb D k:=TW D k E.1 E.2 F;rw[e]
 cases h:tb D k <;>simp[F,J,jw]
set_option maxRecDepth 8000
attribute [local go_sem ↓] Go.wp_at_zero Go.wp_at_succ
theorem Q4:(Au.info? 61).map (fun i=>(i.zero,i.size,i.bytes))=O (O (Af #[I K 0,I K 0]),2,16):=by kernel_rfl
def Fz(l:List (Int×Int)):List Value:=l.flatMap fun b=>[I K b.1,I K b.2]
theorem Re(l m:List (Int×Int)):Fz (l++m)=Fz l++Fz m:=by simp[Fz]
def GV(X:Wd)(a n:Int)(j:Nat):List (Int×Int):=((X.rows.take j).filter fun r=>IJ a n r.has).map fun r=>(r.ix,r.gen)
theorem L3(X:Wd)(a n:Int)(j:Nat)(h:j<X.rows.length):GV X a n (j+1)=if IJ a n (X.rows.getD j dR).has=true then GV X a n j++[((X.rows.getD j dR).ix,(X.rows.getD j dR).gen)]else GV X a n j:=by
 unfold GV;rw[A0 h,Cf,CH,Az,AE h,C9]
 cases D:IJ a n X.rows[j].has <;>simp[D]
theorem Ot(X:Wd)(a n:Int)(j:Nat):(GV X a n j).length≤j:=by
 unfold GV;rw[Bj];exact AU (BT _ _) (by rw[AZ];omega)
structure MB(w:World)(a n:Int)(W:World):Prop where
 bel:Below w.heap.size w W
 sz:w.heap.size+2≤W.heap.size
 f0:W.cell? ⟨w.heap.size+1,0,N⟩=O (I K a)
 f1:W.cell? ⟨w.heap.size+1,1,N⟩=O (I K n)
theorem MB.keep{w W W1:World}{a n:Int}(h:MB w a n W)(D:Below (w.heap.size+2) W W1):MB w a n W1 :=
 ⟨h.bel.trans (D.mono (by omega)),AU h.sz D.size,(D.cell (p:=⟨w.heap.size+1,0,N⟩) (by simp)).trans h.f0,(D.cell (p:=⟨w.heap.size+1,1,N⟩) (by simp)).trans h.f1⟩
theorem MB.below{w W W1:World}{a n:Int}(h:MB w a n W)(D:Below W.heap.size W W1):MB w a n W1:=h.keep (D.mono h.sz)
theorem MB.start(w:World)(u0 u1:Value)(a n:Int):MB w a n ((w.alloc (Al #[u0,u1] 43)).alloc (Al #[I K a,I K n] 34)):=by
 have h:=IT w (Al #[u0,u1] 43) (Al #[I K a,I K n] 34);exact⟨h,by simp,by simp[go_sem],by simp[go_sem]⟩
theorem Oh(w:World)(x y:Value)(t:TypeId):∀j u,[x,y][j]?=O u→(w.alloc (Al #[x,y] t)).cell? ((⟨w.heap.size,0,N⟩:Addr).add j)=O u:=by
 intro j u h
 match j,h with
 |0,h=>simp at h;subst h;simp[Addr.add]
 |1,h=>simp at h;subst h;simp[Addr.add]
theorem Og(x y:Int):∀u∈[I K x,I K y],u.oneCell'=true:=by
 intro u h;simp at h;rcases h with rfl|rfl <;>rfl
theorem Sc(A:Option Addr)(cap:Nat)(G:Option Addr)(gcap:Nat)(X:Wd)(a n:Int)(w:World)(hn:X.rows.length≤1000000)(hX:FX w A cap G gcap X):
  Calls Au 52 #[Up A cap G gcap X,Af #[I K a,I K n]] w fun e w'=>∃v,e=Ao v∧w'.ownsRow (w.heap.size+2) 61 2 v (GV X a n X.rows.length).length (Fz (GV X a n X.rows.length))∧Below w.heap.size w w':=by
 obtain⟨i40,hi,hz,hs,hb⟩:=BC Q4;have hME:∀j,j<X.rows.length→∀W,Calls Au 95 #[Af #[I K a,I K n],I K (X.rows.getD j dR).has] W fun e w'=>e=Ao (Aj (IJ a n (X.rows.getD j dR).has))∧Below W.heap.size W w':=fun j hj W=>(Y6 a n _ W).mono fun e w' ⟨he,hw⟩=>⟨he,by rw[hw];exact GF _ _⟩;have hM:=An (MB.start w (S A X.rows.length cap) (S G X.gens.length gcap) a n);unfold Up FF;go_enter Tryz.func52,Tryz.ntmps52
 go_wp2;go_loopw [5,11] (fun v i wr=>∃j:Nat,j≤X.rows.length∧i=I K j∧wr.ownsRow (w.heap.size+2) 61 2 v (GV X a n j).length (Fz (GV X a n j))∧MB w a n wr) (fun _ i _=>X.rows.length - (intOf i).toNat)
 case atStart=>exact⟨0,AS _,rfl,Bn _ _ _ _,hM⟩
 case round =>
  clear hM;obtain⟨j,hj,rfl,ho,hM⟩:=hrel;by_cases hlt:j<X.rows.length
  ·have j0:(0:Int)≤(j:Int):=(by omega);have j1:(j:Int)<(X.rows.length:Int):=(by omega);obtain⟨b,off,hA,hrow⟩:=hX.rows j hlt;have hrow:Hb wr b (off+j*11) (X.rows.getD j dR):=hrow.below hM.bel;have c0:=hrow.c0;have c1:=hrow.c1;have c2:=hrow.c2;have c3:=hrow.v 0 (by omega);have c4:=hrow.v 1 (by omega);have c5:=hrow.v 2 (by omega);have c6:=hrow.v 3 (by omega);have c7:=hrow.v 4 (by omega);have c8:=hrow.v 5 (by omega);have c9:=hrow.v 6 (by omega);have c10:=hrow.v 7 (by omega);simp only[Bt,Nat.reduceAdd]at c3 c4 c5 c6 c7 c8 c9 c10;simp only[←Bt]at c3 c4 c5 c6 c7 c8 c9 c10;have f0:=hM.f0;have f1:=hM.f1;have lf:=AL wr _ f0;have lf2:=CG lf;have HC:=(hME j hlt);have HST:=An (L3 X a n j hlt);have hbl:=Ot X a n j;subst hA;clear hrow hX hME;generalize GV X a n j=bs at *;generalize X.rows.getD j dR=x at *;obtain⟨ix,gen,has,v⟩:=x;dsimp only at *;generalize IJ a n has=me at *
   cases me
   ·have HEQ:=An ((AN HST).trans (AA (by simp)));go_wp2_with(first
     |(go_at_call 95;refine(HC _).mono ?_;rintro e w5⟨rfl,hb5⟩;have HB5:=(I0 _ _ hb5);clear hb5))
    go_roundw
    case rel=>exact⟨j+1,by omega,by go_num,by rw[AN HEQ];exact FT ho HB5,hM.below HB5⟩
    case measure=>simp[intOf];omega
   ·have HEQ:=An ((AN HST).trans (AF R));go_wp2_with(first
     |(go_at_call 95;refine(HC _).mono ?_;rintro e w5⟨rfl,hb5⟩;have d0:=AW hb5 (p:=⟨wr.heap.size,0,N⟩) (v:=I K ix) (by simp[go_sem]);have d1:=AW hb5 (p:=⟨wr.heap.size,1,N⟩) (v:=I K gen) (by simp[go_sem]);have HO5:=(FT ho (I0 _ _ hb5));have HM5:=(hM.below (I0 _ _ hb5));clear hb5)
     |(at_builtin;refine FY _ R (Am 19) (Am 22) 62 R (w.heap.size+2) 61 i40 (Af #[I K 0,I K 0]) 2 16 Tryz.underlying62 hi hz hs hb R (by decide) _ bs.length (Fz bs) R (HO5.alloc _) ⟨w5.heap.size,0,N⟩ 1 1 [I K ix,I K gen] R R (Oh _ _ _ _) (Og _ _) (by unfold maxLen;omega) (by omega) (by simp;have:=HM5.sz;omega) (by omega) ?_;intro g capg w7 ho7 hg7 hw7;clear hw7))
    go_roundw
    case rel =>
     refine⟨j+1,by omega,by go_num,?_,?_⟩
     ·rw[AN HEQ,Re,AV];exact ho7
     ·have h1:=HM5.below (GF w5 (Al #[I K ix,I K gen] 61));exact h1.keep (F0 hg7 (fun k hk=>(HO5.lt k hk).1) h1.sz)
    case measure=>simp[intOf];omega
  ·obtain rfl:j=X.rows.length:=(by omega);have HBW:=hM.bel;clear hX hME;go_wp2;go_ret;exact⟨_,rfl,ho,HBW⟩
theorem WL(A:Option Addr)(cap:Nat)(G:Option Addr)(gcap:Nat)(X:Wd)(a n:Int)(w:World)(hn:X.rows.length≤1000000)(hX:FX w A cap G gcap X)(ha:FV a=true)(hna:FV n=true)(hR:∀ j,j<X.rows.length→FV (X.rows.getD j dR).has=true):
  Calls Au 57 #[Up A cap G gcap X,Af #[I K a,I K n]] w fun e w'=>∃v,e=Ao v∧w'.ownsRow (w.heap.size+2) 61 2 v (GV X a n X.rows.length).length (Fz (GV X a n X.rows.length))∧Below w.heap.size w w':=by
 obtain⟨i40,hi,hz,hs,hb⟩:=BC Q4;have hME:∀j,j<X.rows.length→∀W,Calls Au 83 #[Af #[I K a,I K n],I K (X.rows.getD j dR).has] W fun e w'=>e=Ao (Aj (IJ a n (X.rows.getD j dR).has))∧Below W.heap.size W w':=fun j hj W=>by
  have q1:=ML ha;have q2:=ML hna;have q3:=ML (hR j hj);have:=Qc a n (X.rows.getD j dR).has W q1.1 q1.2 q2.1 q2.2 q3.1 q3.2;rw[←Ul a n _ q1.1 q1.2 q2.1 q2.2 q3.1]at this;exact this
 have hM:=An (MB.start w (S A X.rows.length cap) (S G X.gens.length gcap) a n);unfold Up FF;go_enter Tryz.func57,Tryz.ntmps57
 go_wp2;go_loopw [5,11] (fun v i wr=>∃j:Nat,j≤X.rows.length∧i=I K j∧wr.ownsRow (w.heap.size+2) 61 2 v (GV X a n j).length (Fz (GV X a n j))∧MB w a n wr) (fun _ i _=>X.rows.length - (intOf i).toNat)
 case atStart=>exact⟨0,AS _,rfl,Bn _ _ _ _,hM⟩
 case round =>
  clear hM;obtain⟨j,hj,rfl,ho,hM⟩:=hrel;by_cases hlt:j<X.rows.length
  ·have j0:(0:Int)≤(j:Int):=(by omega);have j1:(j:Int)<(X.rows.length:Int):=(by omega);obtain⟨b,off,hA,hrow⟩:=hX.rows j hlt;have hrow:Hb wr b (off+j*11) (X.rows.getD j dR):=hrow.below hM.bel;have c0:=hrow.c0;have c1:=hrow.c1;have c2:=hrow.c2;have c3:=hrow.v 0 (by omega);have c4:=hrow.v 1 (by omega);have c5:=hrow.v 2 (by omega);have c6:=hrow.v 3 (by omega);have c7:=hrow.v 4 (by omega);have c8:=hrow.v 5 (by omega);have c9:=hrow.v 6 (by omega);have c10:=hrow.v 7 (by omega);simp only[Bt,Nat.reduceAdd]at c3 c4 c5 c6 c7 c8 c9 c10;simp only[←Bt]at c3 c4 c5 c6 c7 c8 c9 c10;have f0:=hM.f0;have f1:=hM.f1;have lf:=AL wr _ f0;have lf2:=CG lf;have HC:=(hME j hlt);have HST:=An (L3 X a n j hlt);have hbl:=Ot X a n j;subst hA;clear hrow hX hME;generalize GV X a n j=bs at *;generalize X.rows.getD j dR=x at *;obtain⟨ix,gen,has,v⟩:=x;dsimp only at *;generalize IJ a n has=me at *
   cases me
   ·have HEQ:=An ((AN HST).trans (AA (by simp)));go_wp2_with(first
     |(go_at_call 83;refine(HC _).mono ?_;rintro e w5⟨rfl,hb5⟩;have HB5:=(I0 _ _ hb5);clear hb5))
    go_roundw
    case rel=>exact⟨j+1,by omega,by go_num,by rw[AN HEQ];exact FT ho HB5,hM.below HB5⟩
    case measure=>simp[intOf];omega
   ·have HEQ:=An ((AN HST).trans (AF R));go_wp2_with(first
     |(go_at_call 83;refine(HC _).mono ?_;rintro e w5⟨rfl,hb5⟩;have d0:=AW hb5 (p:=⟨wr.heap.size,0,N⟩) (v:=I K ix) (by simp[go_sem]);have d1:=AW hb5 (p:=⟨wr.heap.size,1,N⟩) (v:=I K gen) (by simp[go_sem]);have HO5:=(FT ho (I0 _ _ hb5));have HM5:=(hM.below (I0 _ _ hb5));clear hb5)
     |(at_builtin;refine FY _ R (Am 19) (Am 22) 62 R (w.heap.size+2) 61 i40 (Af #[I K 0,I K 0]) 2 16 Tryz.underlying62 hi hz hs hb R (by decide) _ bs.length (Fz bs) R (HO5.alloc _) ⟨w5.heap.size,0,N⟩ 1 1 [I K ix,I K gen] R R (Oh _ _ _ _) (Og _ _) (by unfold maxLen;omega) (by omega) (by simp;have:=HM5.sz;omega) (by omega) ?_;intro g capg w7 ho7 hg7 hw7;clear hw7))
    go_roundw
    case rel =>
     refine⟨j+1,by omega,by go_num,?_,?_⟩
     ·rw[AN HEQ,Re,AV];exact ho7
     ·have h1:=HM5.below (GF w5 (Al #[I K ix,I K gen] 61));exact h1.keep (F0 hg7 (fun k hk=>(HO5.lt k hk).1) h1.sz)
    case measure=>simp[intOf];omega
  ·obtain rfl:j=X.rows.length:=(by omega);have HBW:=hM.bel;clear hX hME;go_wp2;go_ret;exact⟨_,rfl,ho,HBW⟩
def LB(w:World)(A:Option Addr)(l:List (Int×Int)):Prop:=∀j,j<l.length→∃b off,A=O ⟨b,off,N⟩∧w.cell? ⟨b,off+j*2,N⟩=O (I K (l.getD j (0,0)).1)∧w.cell? ⟨b,off+j*2+1,N⟩=O (I K (l.getD j (0,0)).2)
theorem LB.below{w w1:World}{A:Option Addr}{l:List (Int×Int)}(h:LB w A l)(E:Below w.heap.size w w1):LB w1 A l:=fun j F=>by
 obtain⟨b,D,h0,H,J⟩:=h j F;exact⟨b,D,h0,AW E H,AW E J⟩
theorem Tb:∀(l:List (Int×Int)) (j:Nat),j<l.length→(Fz l)[j*2]?=O (I K (l.getD j (0,0)).1)∧(Fz l)[j*2+1]?=O (I K (l.getD j (0,0)).2)
 |[],j,h=>by simp at h
 |x :: l,0,_=>by simp[Fz]
 |x :: l,j+1,h=>by
  have:=Tb l j (by simpa using h);have e:Fz (x :: l)=I K x.1 :: I K x.2 :: Fz l:=rfl;rw[e,show(j+1)*2=j*2+1+1 by omega];simpa using this
theorem Rd{W:World}{F:Nat}{v:Value}{l:List (Int×Int)}(h:W.ownsRow F 61 2 v l.length (Fz l)):∃A D,v=S A l.length D∧LB W A l:=by
 by_cases h0:0<l.length
 ·obtain⟨g,D,rfl,_,_⟩:=Gi h h0;refine⟨O ⟨g,0,N⟩,D,rfl,fun j E=>⟨g,0,rfl,?_,?_⟩⟩
  ·rw[AT];exact F4 h (Tb l j E).1
  ·rw[AT];exact F4 h (Tb l j E).2
 ·obtain rfl:l=[]:=BK (by omega);rcases h.2 with⟨rfl,_⟩|⟨g,D,H,rfl,_⟩
  ·exact⟨N,0,rfl,fun j E=>by simp at E⟩
  ·exact⟨_,D,rfl,fun j E=>by simp at E⟩
theorem Pb(A:Option Addr)(c:Nat)(L:Option Addr)(c':Nat)(l:List (Int×Int))(w:World)(hl:l.length≤4194304)(M:LB w A l)(F:LB w L l):
  Calls Au 28 #[S A l.length c,S L l.length c'] w fun e w'=>e=Ao (Aj true)∧Below w.heap.size w w':=by
 have J:=An M;have D:=An F;clear M F;go_enter Tryz.func28,Tryz.ntmps28
 go_wp2;go_loopw [13] (fun x wr=>∃j:Nat,j≤l.length∧x=I K j∧Below w.heap.size w wr) (fun x _=>l.length - (intOf x).toNat)
 case atStart=>exact⟨0,AS _,rfl,AD _ _⟩
 case round =>
  obtain⟨j,hj,rfl,h⟩:=hrel;by_cases H:j<l.length
  ·have j0:(0:Int)≤(j:Int):=(by omega);have j1:(j:Int)<(l.length:Int):=(by omega);obtain⟨b,ha,rfl,U,V⟩:=AN J j H;obtain⟨b',Y,rfl,Z,h4⟩:=AN D j H;have c0:=AW h U;have c1:=AW h V;have d0:=AW h Z;have d1:=AW h h4;have E:=An h;clear U V Z h4 h J D;go_wp2;go_quiet(fail)
   go_wp2;go_roundw
   case rel=>exact⟨j+1,by omega,by go_num,Gt (AN E) _⟩
   case measure=>simp[intOf];omega
  ·obtain rfl:j=l.length:=(by omega);have E:=An h;clear h J D;go_wp2;go_ret;exact⟨rfl,AN E⟩
structure Gu where
 has:Int
 rows:List D7
def Oq(t:Gu)(k:Nat):List Int:=t.rows.map fun r=>r.v ((FR t.has 8).getD k 0).toNat
def Vi(t:Gu):List (Int×Int):=t.rows.map fun r=>(r.ix,r.gen)
theorem KT(t:Gu)(k:Nat):(Oq t k).length=t.rows.length:=by simp[Oq]
theorem Md(t:Gu):(Vi t).length=t.rows.length:=by simp[Vi]
def Rm(w:World)(C:Option Addr)(t:Gu):Prop:=∀k,k<(FR t.has 8).length→∃b o,C=O ⟨b,o,N⟩∧∃A c,w.cell? ⟨b,o+k,N⟩=O (S A t.rows.length c)∧JE w A (Oq t k)
theorem Rm.below{w w1:World}{C:Option Addr}{t:Gu}(h:Rm w C t)(D:Below w.heap.size w w1):Rm w1 C t:=fun k E=>by
 obtain⟨b,o,e,A,c,F,H⟩:=h k E;exact⟨b,o,e,A,c,AW D F,H.below D⟩
structure Ri(w:World)(b o:Nat)(A:Option Addr)(c:Nat)(C:Option Addr)(cc:Nat)(t:Gu):Prop where
 c0:w.cell? ⟨b,o,N⟩=O (I K t.has)
 c1:w.cell? ⟨b,o+1,N⟩=O (S A t.rows.length c)
 c2:w.cell? ⟨b,o+2,N⟩=O (S C (FR t.has 8).length cc)
 bs:LB w A (Vi t)
 cols:Rm w C t
theorem Ri.below{w w1:World}{b o:Nat}{A:Option Addr}{c:Nat}{C:Option Addr}{E:Nat}{t:Gu}(h:Ri w b o A c C E t)(D:Below w.heap.size w w1):Ri w1 b o A c C E t :=
 ⟨AW D h.c0,AW D h.c1,AW D h.c2,h.bs.below D,h.cols.below D⟩
def NL(w:World)(T:Option Addr)(l:List Gu):Prop:=∀j (hj:j<l.length),∃b o,T=O ⟨b,o,N⟩∧∃A c C cc,Ri w b (o+j*3) A c C cc l[j]
theorem NL.below{w w1:World}{T:Option Addr}{l:List Gu}(h:NL w T l)(D:Below w.heap.size w w1):NL w1 T l:=fun j E=>by
 obtain⟨b,o,e,A,c,C,F,H⟩:=h j E;exact⟨b,o,e,A,c,C,F,H.below D⟩
structure JZ(t:Gu):Prop where
 set:FV t.has=true
 one:0<t.rows.length
 few:t.rows.length≤4194304
 has:∀r∈t.rows,r.has=t.has∧N4 r=true
 up:∀j,j+1<t.rows.length→(t.rows.getD j dR).ix<(t.rows.getD (j+1) dR).ix
theorem gd{t:Gu}(h:JZ t)(k j:Nat)(D:j<t.rows.length)(F:k<(FR t.has 8).length):Hx ((Oq t k).getD j 0)=true:=by
 have e:(Oq t k).getD j 0=(t.rows[j]).v ((FR t.has 8).getD k 0).toNat:=by
  unfold Oq;rw[Az,AE (by simpa using D)];simp
 have H:((FR t.has 8).getD k 0).toNat<8:=by
  have E:(FR t.has 8).getD k 0∈FR t.has 8:=by
   rw[Az,AE F];exact Bm F
  unfold FR at E;rw[Cn]at E;obtain⟨j,D,e⟩:=E;rw[BU,Bh]at D;unfold FR;rw[←e];exact D.1
 rw[e];exact((Hz (h.has _ (Bm D)).2).2 _ H).1
structure OQ where
 has:Int
 bs:List (Int×Int)
 cols:List (List Int)
def dT:OQ:=⟨0,[],[]⟩
def Sp(w:World)(C:Option Addr)(cs:List (List Int)):Prop:=∀k,k<cs.length→∃b o,C=O ⟨b,o,N⟩∧∃A c,w.cell? ⟨b,o+k,N⟩=O (S A (cs.getD k []).length c)∧JE w A (cs.getD k [])
theorem Sp.below{w w1:World}{C:Option Addr}{cs:List (List Int)}(h:Sp w C cs)(D:Below w.heap.size w w1):Sp w1 C cs:=fun k E=>by
 obtain⟨b,o,e,A,c,F,H⟩:=h k E;exact⟨b,o,e,A,c,AW D F,H.below D⟩
structure OP(w:World)(b o:Nat)(A:Option Addr)(c:Nat)(C:Option Addr)(cc:Nat)(t:OQ):Prop where
 c0:w.cell? ⟨b,o,N⟩=O (I K t.has)
 c1:w.cell? ⟨b,o+1,N⟩=O (S A t.bs.length c)
 c2:w.cell? ⟨b,o+2,N⟩=O (S C t.cols.length cc)
 bs:LB w A t.bs
 cols:Sp w C t.cols
theorem OP.below{w w1:World}{b o:Nat}{A:Option Addr}{c:Nat}{C:Option Addr}{E:Nat}{t:OQ}(h:OP w b o A c C E t)(D:Below w.heap.size w w1):OP w1 b o A c C E t :=
 ⟨AW D h.c0,AW D h.c1,AW D h.c2,h.bs.below D,h.cols.below D⟩
def Pq(w:World)(T:Option Addr)(l:List OQ):Prop:=∀j,j<l.length→∃b o,T=O ⟨b,o,N⟩∧∃A c C cc,OP w b (o+j*3) A c C cc (l.getD j dT)
theorem Pq.below{w w1:World}{T:Option Addr}{l:List OQ}(h:Pq w T l)(D:Below w.heap.size w w1):Pq w1 T l:=fun j E=>by
 obtain⟨b,o,e,A,c,C,F,H⟩:=h j E;exact⟨b,o,e,A,c,C,F,H.below D⟩
structure iK(t:OQ):Prop where
 b:t.bs.length≤4194304
 c:t.cols.length≤4194304
 k:∀k,k<t.cols.length→(t.cols.getD k []).length≤4194304
def XR(n:Nat)(l:List Int):Int:=if l.length=n then(if ∀j,j<l.length→Hx (l.getD j 0)=true then 0 else 3)else 4
def KG(n:Nat)(cs:List (List Int)):Nat→Nat→Int
 |0,_=>0
 |m+1,k=>if XR n (cs.getD k [])=0 then KG n cs m (k+1)else XR n (cs.getD k [])
def No(l:List (Int×Int)):Bool:=decide (∀j,j<l.length→1≤j→(l.getD (j - 1) (0,0)).1<(l.getD j (0,0)).1)
def Zr(t:OQ):Int:=if FV t.has=false then 3 else if t.bs.length=0∨t.cols.length≠(FR t.has 8).length then 4 else if KG t.bs.length t.cols t.cols.length 0=0 then(if No t.bs=true then 0 else 2)else KG t.bs.length t.cols t.cols.length 0
def Pr(l:List OQ)(j:Nat):Int:=if Zr (l.getD j dT)=0 then(if j=0∨(l.getD (j - 1) dT).has<(l.getD j dT).has then 0 else 2)else Zr (l.getD j dT)
theorem Zy(n:Nat)(cs:List (List Int))(m k:Nat)(h:k<m):KG n cs (m - k) k=if XR n (cs.getD k [])=0 then KG n cs (m - (k+1)) (k+1)else XR n (cs.getD k []):=by
 rw[show m - k=(m - (k+1))+1 by omega,KG]
theorem Sr(A:Option Addr)(c:Nat)(l:List Int)(n:Nat)(w:World)(hl:l.length≤4194304)(J:JE w A l):
  Calls Au 128 #[S A l.length c,I K (n:Int)] w fun e w'=>e=Ao (I K (XR n l))∧Below w.heap.size w w':=by
 by_cases U:l.length=n
 ·subst U;go_enter Tryz.func128,Tryz.ntmps128
  go_wp2;go_loopw [13] (fun x wr=>∃j:Nat,j≤l.length∧x=I K j∧(∀i,i<j→Hx (l.getD i 0)=true)∧Below w.heap.size w wr) (fun x _=>l.length - (intOf x).toNat)
  case atStart=>exact⟨0,AS _,rfl,fun i hi=>by omega,AD _ _⟩
  case round =>
   obtain⟨j,hj,rfl,hv,L⟩:=hrel;have M:=An hv;clear hv;by_cases F:j<l.length
   ·have j0:(0:Int)≤(j:Int):=(by omega);have j1:(j:Int)<(l.length:Int):=(by omega);obtain⟨b,V,rfl,c0⟩:=J j F;have c0:wr.cell? ⟨b,V+j,N⟩=O (I K (l.getD j 0)):=AW L c0;have D:=Il (l.getD j 0);obtain⟨x,Y⟩:∃x,x=l.getD j 0:=⟨_,rfl⟩;rw[←Y]at c0 D;have HX:=An Y;clear Y
    cases E:Hx x
    ·rw[E]at D;have H:Hid (XR l.length l=3):=An (by unfold XR;rw[AF R,AA (fun h=>by have:=h j F;rw[←AN HX,E]at this;cases this)]);clear J M;go_wp2_with((go_at_call 124;refine(D _).mono ?_;rintro e w1⟨rfl,Z⟩;obtain rfl:=Z.symm))
     go_ret;rw[AN H];exact⟨rfl,L⟩
    ·rw[E]at D;clear J;go_wp2_with((go_at_call 124;refine(D _).mono ?_;rintro e w1⟨rfl,Z⟩;obtain rfl:=Z.symm))
     go_roundw
     case rel=>exact⟨j+1,by omega,by go_num,fun i hi=>by
      rcases Bo i j with h|h
      ·exact AN M i h
      ·obtain rfl:i=j:=(by omega);rw[←AN HX];exact E,L⟩
     case measure=>simp[intOf];omega
   ·obtain rfl:j=l.length:=(by omega);have H:Hid (XR l.length l=0):=An (by unfold XR;rw[AF R,AF (AN M)]);clear J M;go_wp2;go_ret;rw[AN H];exact⟨rfl,L⟩
 ·have hc:((l.length:Int) == (n:Int))=false:=by simp;omega
  have ha:((l.length:Int) != (n:Int))=true:=by simp;omega
  have H:Hid (XR n l=4):=An (by unfold XR;rw[AA U]);clear U;go_enter Tryz.func128,Tryz.ntmps128
  go_wp2;go_ret;rw[AN H];exact⟨rfl,AD _ _⟩
theorem aq(A:Option Addr)(c:Nat)(l:List (Int×Int))(w:World)(hl:l.length≤4194304)(Z:LB w A l):
  Calls Au 129 #[S A l.length c] w fun e w'=>e=Ao (Aj (No l))∧Below w.heap.size w w':=by
 go_enter Tryz.func129,Tryz.ntmps129
 go_wp2;go_loopw [3] (fun x wr=>∃j:Nat,1≤j∧(j≤l.length∨j=1)∧x=I K j∧(∀i,i<j→1≤i→(l.getD (i - 1) (0,0)).1<(l.getD i (0,0)).1)∧Below w.heap.size w wr) (fun x _=>l.length - (intOf x).toNat)
 case atStart=>exact⟨1,AC _,by omega,rfl,fun i h1 h2=>by omega,AD _ _⟩
 case round =>
  obtain⟨j,ha,he,rfl,hu,J⟩:=hrel;by_cases M:j<l.length
  ·obtain⟨k,hk⟩:∃k,j=k+1:=⟨j - 1,by omega⟩;have j0:(0:Int)≤(j:Int):=(by omega);have j1:(j:Int)<(l.length:Int):=(by omega);have k0:(0:Int)≤(k:Int):=(by omega);have k1:(k:Int)<(l.length:Int):=(by omega);have hf:IntKind.i64.wrap ((j:Int) - 1)=(k:Int):=(by rw[DH _ (by omega)];omega);obtain⟨b,hg,rfl,c0,_⟩:=Z k (by omega);obtain⟨b',hc,e',d0,_⟩:=Z j M;simp only[Bc,Cr,Bx]at e';obtain⟨rfl,rfl⟩:=e';have s0:=B1 (AW J c0);have s1:=B1 (AW J d0);have F:Nonempty (Hm wr):=⟨⟨wr,AD _ _⟩⟩;have U:l.getD (j - 1) (0,0)=l.getD k (0,0):=(by rw[hk];rfl);obtain⟨p,hp⟩:∃p,p=(l.getD k (0,0)).1:=⟨_,rfl⟩;obtain⟨q,hq⟩:∃q,q=(l.getD j (0,0)).1:=⟨_,rfl⟩;rw[←hp]at s0;rw[←hq]at s1;have L:=An J;have HK:Hid ((l.getD (j - 1) (0,0)).1=p∧(l.getD j (0,0)).1=q):=An ⟨by rw[U,hp],hq.symm⟩;clear Z c0 d0 J hp hq U hk;by_cases V:p<q
   ·have hd:decide (q≤p)=false:=AO (by omega);go_wp2_with fail
    refine FN (by kernel_rfl) (by kernel_rfl) ?_
    repeat(go_big_quiet_step(fail))
    refine Bg ?_;rintro w9⟨Y,E⟩;have D:=Y.bel;rw[←E]at D;have H:=((AN L).trans (D.mono (AN L).size));clear E D F s0 s1 Y;go_wp2;go_roundw
    case rel=>exact⟨j+1,by omega,.inl (by omega),by go_num,fun i h1 h2=>by
     rcases Bo i j with h|h
     ·exact hu i h h2
     ·obtain rfl:i=j:=(by omega);rw[(AN HK).1,(AN HK).2];exact V,H⟩
    case measure=>simp[intOf];omega
   ·have hd:decide (q≤p)=true:=Bq (by omega);have HR:Hid (No l=false):=An (AO fun h=>by
     have:=h j M ha;rw[(AN HK).1,(AN HK).2]at this;exact V this)
    go_wp2_with fail
    refine FN (by kernel_rfl) (by kernel_rfl) ?_
    repeat(go_big_quiet_step(fail))
    refine Bg ?_;rintro w9⟨Y,E⟩;have D:=Y.bel;rw[←E]at D;have H:=((AN L).trans (D.mono (AN L).size));clear E D F s0 s1 Y;go_wp2;go_ret;rw[AN HR];exact⟨rfl,H⟩
  ·have HR:Hid (No l=true):=An (Bq fun i h1 h2=>hu i (by omega) h2);have hd:decide ((j:Int)<(l.length:Int))=false:=AO (by omega);have L:=An J;clear Z J;go_wp2;go_ret;rw[AN HR];exact⟨rfl,AN L⟩
end Go.Proofs.YtnbleebilmghcabGreat
namespace Go.Proofs.YtnbleebilmghcabGreat
open Go Go.RowKit
set_option maxRecDepth 8000
theorem J9(b:Nat):∀(vs:List Value) (o:Nat) (W:World) (g:Nat),g≠b→(W.setCells b o vs).heap[g]?=W.heap[g]?
 |[],_,_,_,_=>rfl
 |u :: r,o,W,g,h=>(J9 b r (o+1) _ g h).trans (Cm W ⟨b,o,N⟩ g u h)
theorem Pm(b:Nat):∀(vs:List Value) (o:Nat) (W:World),(W.setCells b o vs).heap.size=W.heap.size
 |[],_,_=>rfl
 |u :: r,o,W=>(Pm b r (o+1) _).trans (by simp)
def GQ(w:World):List (List Value×TypeId)→World
 |[]=>w
 |x :: r=>GQ (w.alloc (Al x.1.toArray x.2)) r
def GJ(B:Nat)(l:List (List Value×TypeId))(W:World):Prop:=∀(k:Nat) (vs:List Value) (t:TypeId),l[k]?=O (vs,t)→W.heap[B+k]?=O (Al vs.toArray t (0,0))
section
variable {B:Nat} {l:List (List Value×TypeId)} {W W1:World}
theorem GJ.lt(h:GJ B l W){k:Nat}{x:List Value×TypeId}(D:l[k]?=O x):B+k<W.heap.size:=(Bk.1 (h k x.1 x.2 D)).1
theorem GJ.sz(h:GJ B l W)(D:0<l.length):B+l.length≤W.heap.size:=by
 have:=h.lt (k:=l.length - 1) (x:=l[l.length - 1]) (AE (by omega));omega
theorem GJ.keep(h:GJ B l W)(E:Below (B+l.length) W W1):GJ B l W1:=fun k vs t D=>(E.block (B+k) (by
 have:k<l.length:=(AX.1 D).1;omega)).trans (h k vs t D)
theorem GJ.below(h:GJ B l W)(E:Below W.heap.size W W1):GJ B l W1:=fun k vs t D=>(E.block (B+k) (h.lt D)).trans (h k vs t D)
theorem GJ.snoc(h:GJ B l W)(J:W.heap.size=B+l.length)(vs:List Value)(t:TypeId):GJ B (l++[(vs,t)]) (W.alloc (Al vs.toArray t)):=fun k E L D=>by
 by_cases F:k<l.length
 ·rw[BF F]at D;exact((GF W (Al vs.toArray t)).block (B+k) (h.lt D)).trans (h k E L D)
 ·have H:k<(l++[(vs,t)]).length:=(AX.1 D).1;rw[AV,Bp]at H;obtain rfl:k=l.length:=by omega
  rw[BI Fu]at D;simp at D;obtain⟨rfl,rfl⟩:=D;rw[←J];show(W.heap.push _)[W.heap.size]?=_;simp
theorem GJ.cell(h:GJ B l W)(k:Nat){vs:List Value}{t:TypeId}(D:l[k]?=O (vs,t))(j:Nat){u:Value}(E:vs[j]?=O u):W.cell? ⟨B+k,j,N⟩=O u:=by
 rw[EF W (B+k) j vs.toArray t (0,0) (h k vs t D)];simpa using E
theorem GJ.f2{a b:Value}{r:List Value}{t:TypeId}(h:GJ B l W)(k:Nat)(D:l[k]?=O (a :: b :: r,t)):W.cell? ⟨B+k,0,N⟩=O a∧W.cell? ⟨B+k,1,N⟩=O b:=⟨h.cell k D 0 R,h.cell k D 1 R⟩
theorem GJ.f3{a b c:Value}{r:List Value}{t:TypeId}(h:GJ B l W)(k:Nat)(D:l[k]?=O (a :: b :: c :: r,t)):W.cell? ⟨B+k,0,N⟩=O a∧W.cell? ⟨B+k,1,N⟩=O b∧W.cell? ⟨B+k,2,N⟩=O c:=⟨h.cell k D 0 R,h.cell k D 1 R,h.cell k D 2 R⟩
theorem GJ.f4{a b c d:Value}{r:List Value}{t:TypeId}(h:GJ B l W)(k:Nat)(D:l[k]?=O (a :: b :: c :: d :: r,t)):W.cell? ⟨B+k,0,N⟩=O a∧W.cell? ⟨B+k,1,N⟩=O b∧W.cell? ⟨B+k,2,N⟩=O c∧W.cell? ⟨B+k,3,N⟩=O d:=⟨h.cell k D 0 R,h.cell k D 1 R,h.cell k D 2 R,h.cell k D 3 R⟩
theorem GJ.f5{a b c d e:Value}{r:List Value}{t:TypeId}(h:GJ B l W)(k:Nat)(D:l[k]?=O (a :: b :: c :: d :: e :: r,t)):W.cell? ⟨B+k,0,N⟩=O a∧W.cell? ⟨B+k,1,N⟩=O b∧W.cell? ⟨B+k,2,N⟩=O c∧W.cell? ⟨B+k,3,N⟩=O d∧W.cell? ⟨B+k,4,N⟩=O e:=⟨h.cell k D 0 R,h.cell k D 1 R,h.cell k D 2 R,h.cell k D 3 R,h.cell k D 4 R⟩
theorem GJ.g2{a b:Value}{r:List Value}{t:TypeId}(h:GJ B l W)(D:l[0]?=O (a :: b :: r,t)):W.cell? ⟨B,0,N⟩=O a∧W.cell? ⟨B,1,N⟩=O b:=⟨h.cell 0 D 0 R,h.cell 0 D 1 R⟩
theorem GJ.g3{a b c:Value}{r:List Value}{t:TypeId}(h:GJ B l W)(D:l[0]?=O (a :: b :: c :: r,t)):W.cell? ⟨B,0,N⟩=O a∧W.cell? ⟨B,1,N⟩=O b∧W.cell? ⟨B,2,N⟩=O c:=⟨h.cell 0 D 0 R,h.cell 0 D 1 R,h.cell 0 D 2 R⟩
theorem GJ.g4{a b c d:Value}{r:List Value}{t:TypeId}(h:GJ B l W)(D:l[0]?=O (a :: b :: c :: d :: r,t)):W.cell? ⟨B,0,N⟩=O a∧W.cell? ⟨B,1,N⟩=O b∧W.cell? ⟨B,2,N⟩=O c∧W.cell? ⟨B,3,N⟩=O d:=⟨h.cell 0 D 0 R,h.cell 0 D 1 R,h.cell 0 D 2 R,h.cell 0 D 3 R⟩
theorem GJ.g5{a b c d e:Value}{r:List Value}{t:TypeId}(h:GJ B l W)(D:l[0]?=O (a :: b :: c :: d :: e :: r,t)):W.cell? ⟨B,0,N⟩=O a∧W.cell? ⟨B,1,N⟩=O b∧W.cell? ⟨B,2,N⟩=O c∧W.cell? ⟨B,3,N⟩=O d∧W.cell? ⟨B,4,N⟩=O e:=⟨h.cell 0 D 0 R,h.cell 0 D 1 R,h.cell 0 D 2 R,h.cell 0 D 3 R,h.cell 0 D 4 R⟩
theorem GJ.g12{a b c d e f g i j m n o:Value}{r:List Value}{t:TypeId}(h:GJ B l W)(D:l[0]?=O (a :: b :: c :: d :: e :: f :: g :: i :: j :: m :: n :: o :: r,t)):W.cell? ⟨B,0,N⟩=O a∧W.cell? ⟨B,1,N⟩=O b∧W.cell? ⟨B,2,N⟩=O c∧W.cell? ⟨B,3,N⟩=O d∧W.cell? ⟨B,4,N⟩=O e∧W.cell? ⟨B,5,N⟩=O f∧W.cell? ⟨B,6,N⟩=O g∧W.cell? ⟨B,7,N⟩=O i∧W.cell? ⟨B,8,N⟩=O j∧W.cell? ⟨B,9,N⟩=O m∧W.cell? ⟨B,10,N⟩=O n∧W.cell? ⟨B,11,N⟩=O o:=⟨h.cell 0 D 0 R,h.cell 0 D 1 R,h.cell 0 D 2 R,h.cell 0 D 3 R,h.cell 0 D 4 R,h.cell 0 D 5 R,h.cell 0 D 6 R,h.cell 0 D 7 R,h.cell 0 D 8 R,h.cell 0 D 9 R,h.cell 0 D 10 R,h.cell 0 D 11 R⟩
theorem GJ.free(h:GJ B l W)(k:Nat){vs:List Value}{t:TypeId}(D:l[k]?=O (vs,t))(j:Nat):W.frozen? ⟨B+k,j,N⟩=false:=by simp[World.frozen?,h k vs t D]
theorem GJ.there(h:GJ B l W)(k:Nat){vs:List Value}{t:TypeId}(D:l[k]?=O (vs,t))(n:Nat)(E:vs.length=n):W.there (B+k) 0 n:=fun j F=>by
 rw[AT];exact⟨by rw[h.cell k D j (u:=vs[j]) (AE (by omega))];rfl,h.free k D j⟩
theorem Jv(b:Nat)(t:TypeId):∀(vs:List Value) (o:Nat) (D:List Value) (W:World),W.heap[b]?=O (Al D.toArray t (0,0))→o+vs.length≤D.length→(W.setCells b o vs).heap[b]?=O (Al (D.take o++vs++D.drop (o+vs.length)).toArray t (0,0))
 |[],o,D,W,h,_=>by simpa[World.setCells]using h
 | u :: r,o,D,W,h,hl=>by
  have E:(W.setCell ⟨b,o,N⟩ u).heap[b]?=O (Al (D.set o u).toArray t (0,0)):=by
   have:=D1 W b o D.toArray t u h;simpa using this
  have F:=Jv b t r (o+1) (D.set o u) _ E (by simp only[By,AJ]at *;omega);show((W.setCell ⟨b,o,N⟩ u).setCells b (o+1) r).heap[b]?=_;rw[F];have H:o<D.length:=by simp only[AJ]at hl;omega
  congr 3;rw[List.take_set,List.drop_set,AF (by omega),A0 H,List.set_append_right _ _ (by rw[AZ];omega),AZ,Cp (by omega)];simp only[BR,Eu,BJ,B0,B3,AJ];rw[show o+1+r.length=o+(r.length+1) by omega]
theorem GJ.give(h:GJ B l W)(k:Nat){vs:List Value}{t:TypeId}(H:l[k]?=O (vs,t))(D:List Value)(J:D.length=vs.length):GJ B (l.set k (D,t)) (W.setCells (B+k) 0 D):=fun j L M E=>by
 by_cases e:j=k
 ·subst e;have F:j<l.length:=(AX.1 H).1;rw[Co F]at E;simp only[Bc,Dv]at E;obtain⟨rfl,rfl⟩:=E;have:=Jv (B+j) t D 0 vs W (h j vs t H) (by omega);rw[this];simp[J]
 ·rw[Cx (BW e)]at E;rw[J9 (B+k) D 0 W (B+j) (by omega)];exact h j L M E
theorem GJ.turn(h:GJ B l W){cb o:Nat}{vs:List Value}(E:cb<B∨B+l.length≤cb):GJ B l (W.setCells cb o vs):=fun k F t D=>by
 have:k<l.length:=(AX.1 D).1;rw[J9 cb vs o W (B+k) (by omega)];exact h k F t D
theorem GJ.nil(B:Nat)(W:World):GJ B [] W:=fun k vs t h=>by simp at h
end
theorem Rc:∀(r l:List (List Value×TypeId)) (B:Nat) (W:World),GJ B l W→W.heap.size=B+l.length→GJ B (l++r) (GQ W r)
 |[],l,B,W,h,_=>by rw[CN];exact h
 |x :: r,l,B,W,h,hs=>by
  have:=Rc r (l++[x]) B (W.alloc (Al x.1.toArray x.2)) (h.snoc hs x.1 x.2) (by simp[hs];omega);rwa[BJ]at this
theorem GJ.start(w:World)(l:List (List Value×TypeId)):GJ w.heap.size l (GQ w l):=Rc l [] w.heap.size w (GJ.nil _ _) R
theorem F6:∀(l:List (List Value×TypeId)) (w:World),Below w.heap.size w (GQ w l)
 |[],w=>AD _ _
 |x :: r,w=>I0 w _ (F6 r _)
theorem Hh:∀(l:List (List Value×TypeId)) (w:World),(GQ w l).heap.size=w.heap.size+l.length
 |[],w=>rfl
 |x :: r,w=>by
  show(GQ (w.alloc (Al x.1.toArray x.2)) r).heap.size=_;rw[Hh r];simp;omega
theorem Gs(w:World)(l:List (List Value×TypeId)):∃W,GQ w l=W∧Below w.heap.size w W∧GJ w.heap.size l W:=⟨_,rfl,F6 l w,GJ.start w l⟩
attribute [local go_sem ↓] Go.wp_at_zero Go.wp_at_succ
theorem kQ{has:Int}{bs:List (Int×Int)}{cols:List (List Int)}(h:FV has=false):Zr ⟨has,bs,cols⟩=3:=by unfold Zr;rw[AF h]
theorem ju{has:Int}{bs:List (Int×Int)}{cols:List (List Int)}(h:FV has=true)(h2:bs.length=0∨cols.length≠(FR has 8).length):Zr ⟨has,bs,cols⟩=4:=by unfold Zr;rw[AA (by simp[h]),AF h2]
theorem kP{has:Int}{bs:List (Int×Int)}{cols:List (List Int)}(h:FV has=true)(h2:¬ bs.length=0)(h3:cols.length=(FR has 8).length):Zr ⟨has,bs,cols⟩=if KG bs.length cols cols.length 0=0 then(if No bs=true then(0:Int)else 2)else KG bs.length cols cols.length 0:=by
 unfold Zr;rw[AA (by simp[h]),AA (fun e=>e.elim h2 fun e=>e h3)]
theorem QA(T:Option Addr)(tcap:Nat)(l:List OQ)(j:Nat)(w:World)(hn:l.length≤4194304)(hj:j<l.length)(hT:Pq w T l)(hf:iK (l.getD j dT)):
  Calls Au 90 #[S T l.length tcap,I K (j:Int)] w fun e w'=>e=Ao (I K (Pr l j))∧Below w.heap.size w w':=by
 obtain⟨tb,tf,rfl,A,c,C,cc,ht⟩:=hT j hj;have j0:(0:Int)≤(j:Int):=by omega
 have j1:(j:Int)<(l.length:Int):=by omega
 have hprev:∀i,j=i+1→w.cell? ⟨tb,tf+i*3,N⟩=O (I K (l.getD i dT).has):=fun i hi=>by
  obtain⟨b',o',e',_,_,_,_,hp⟩:=hT i (by omega);simp only[Bc,Cr,Bx]at e';rw[e'.1,e'.2];exact hp.c0
 have hwt:Pr l j=if Zr (l.getD j dT)=0 then(if j=0∨(l.getD (j - 1) dT).has<(l.getD j dT).has then 0 else 2)else Zr (l.getD j dT):=rfl;obtain⟨R,hR⟩:∃R,R=Pr l j:=⟨_,rfl⟩;rw[←hR]at hwt⊢;generalize l.getD j dT=t at *;obtain⟨has,bs,cols⟩:=t;dsimp only at hwt ht;have c0:=ht.c0;have c1:=ht.c1;have c2:=ht.c2;dsimp only at c0 c1 c2;have hcc:cols.length≤4194304:=hf.c;have HWT:=An hwt;have HP:=An hprev;clear hwt hprev hT hR;obtain⟨W1,hW1,hbx,hX1⟩:=Gs w [([I K has,S A bs.length c,S C cols.length cc],75)];have HW1:Hid (w.alloc (Al #[I K has,S A bs.length c,S C cols.length cc] 75)=W1):=An hW1;clear hW1;have HL1:=An hbx;obtain⟨z0,z1,z2⟩:=hX1.g3 rfl;have HSE:=An (Hs has);clear hbx;go_enter Tryz.func90,Tryz.ntmps90
 go_upto_region 2 with fail
 rw[AN HW1];clear c0 c1 c2;go_wp2_with fail
 go_at_call 44;refine(AN HSE W1).mono ?_;rintro e w2⟨rfl,hw⟩;obtain rfl:=hw.symm
 cases hs:FV has
 ·have HR:Hid (R=3):=An (by rw[AN HWT,kQ hs];simp);clear hs;go_wp2;go_ret;rw[AN HR];exact⟨rfl,AN HL1⟩
 ·have hs2:=hs;unfold FV at hs2;have hs2:=AM hs2;have HCO:=An (fun W=>PO has W hs2.1 hs2.2);have hsub:Nonempty (Hm W1):=⟨⟨W1,AD _ _⟩⟩;have s0:=B1 z0;have s1:=B1 z1;have s2:=B1 z2;by_cases hb0:bs.length=0
  ·have HR:Hid (R=4):=An (by rw[AN HWT,ju hs (.inl hb0)];simp);have hz:((bs.length:Int) == 0)=true:=(by rw[hb0];rfl);rw[hb0]at s1 z1;clear hb0 hs hz;go_wp2_with fail
   refine FN (by kernel_rfl) (by kernel_rfl) ?_
   repeat(go_big_quiet_step(fail))
   refine Bg ?_;rintro w9⟨xs,hxs⟩;have hb9:=xs.bel;rw[←hxs]at hb9;have HB9:=An ((AN HL1).trans (hb9.mono (AN HL1).size));have HB0:=An hb9;clear hxs hb9 xs;go_wp2;go_ret;rw[AN HR];exact⟨rfl,AN HB9⟩
  ·have hz:((bs.length:Int) == 0)=false:=DQ.2 (by omega);by_cases hcl:cols.length=(FR has 8).length
   ·have HWT2:Hid (R=if(if KG bs.length cols cols.length 0=0 then(if No bs=true then(0:Int)else 2)else KG bs.length cols cols.length 0)=0 then(if j=0∨(l.getD (j - 1) dT).has<has then 0 else 2)else(if KG bs.length cols cols.length 0=0 then(if No bs=true then(0:Int)else 2)else KG bs.length cols cols.length 0)):=An (by rw[AN HWT,kP hs hb0 hcl]);have HCL:=An hcl;have hlc:((cols.length:Int) != ((FR has 8).length:Int))=false:=(by rw[hcl];simp);clear hb0 hcl hs HWT;go_wp2_with fail
    refine FN (by kernel_rfl) (by kernel_rfl) ?_
    repeat(go_big_quiet_step((go_at_call 127;exact T0 (AN HCO _))))
    refine Bg ?_;rintro w9⟨xs,hxs⟩;have hb9:=xs.bel;rw[←hxs]at hb9;have HB9:=An ((AN HL1).trans (hb9.mono (AN HL1).size));have HB0:=An hb9;clear hxs hb9 xs;clear s0 s1 s2 hsub hz hlc HSE HCO;have HX9:=(hX1.below (AN HB0));have y2:=HX9.cell 0 rfl 2 rfl;rw[Ay]at y2;clear z0 z1 z2;go_wp2_with fail
    clear y2;go_loopw [33] (fun x wr=>∃k:Nat,k≤cols.length∧x=I K (k:Int)∧KG bs.length cols (cols.length - k) k=KG bs.length cols cols.length 0∧Below w9.heap.size w9 wr) (fun x _=>cols.length - (intOf x).toNat)
    case atStart=>exact⟨0,AS _,rfl,rfl,AD _ _⟩
    case round =>
     obtain⟨k,hk,rfl,hcs,hbr⟩:=hrel;have hL:=(AN HB9).trans (hbr.mono (AN HB9).size);have HXr:=(HX9.below hbr);by_cases hlt:k<cols.length
     ·have k0:(0:Int)≤(k:Int):=(by omega);have k1:(k:Int)<(cols.length:Int):=(by omega);rw[Zy _ _ _ _ hlt]at hcs;obtain⟨cb,co,hCe,Ak,ck,hck,hik⟩:=(ht.below hL).cols k hlt;obtain⟨lk,hlk⟩:∃lk,lk=cols.getD k []:=⟨_,rfl⟩;rw[←hlk]at hck hik hcs;have hkl:lk.length≤4194304:=(by rw[hlk];exact hf.k k hlt);have hC:=fun W (hb:Below wr.heap.size wr W)=>Sr Ak ck lk bs.length W hkl (hik.below hb);have hC:=hC wr Fv;have y1:=HXr.cell 0 rfl 1 rfl;rw[Ay]at y1;obtain⟨e1,he1⟩:∃e1,e1=XR bs.length lk:=⟨_,rfl⟩;rw[←he1]at hC hcs;have hck:wr.cell? ⟨cb,co+k,N⟩=O (S Ak lk.length ck):=hck;clear hlk;have hCe:C=O ⟨cb,co,N⟩:=hCe;subst hCe;have HLr:=An hL;have HCS:=An hcs;have HBR:=An hbr;clear hL hcs hbr hik he1;by_cases hz1:e1=0
      ·subst hz1;have hcs2:=AN HCS;rw[AF rfl]at hcs2;have HC2:=An hcs2;clear hcs2 HCS;go_wp2_with((go_at_call 128;refine hC.mono ?_;rintro e w3⟨rfl,hb3⟩;have HB3:=An ((AN HBR).trans (hb3.mono (AN HBR).size));clear hb3))
       go_roundw
       case rel=>exact⟨k+1,by omega,by go_num,AN HC2,AN HB3⟩
       case measure=>simp[intOf];omega
      ·have hcs2:=AN HCS;rw[AA hz1]at hcs2;have HR:Hid (R=e1):=An (by rw[AN HWT2,←hcs2,AA hz1,AA hz1]);have ha:(e1 == 0)=false:=(by simpa using hz1);have hb:(e1 != 0)=true:=(by simpa using hz1);clear hcs2 HCS hz1;go_wp2_with((go_at_call 128;refine hC.mono ?_;rintro e w3⟨rfl,hb3⟩;have HB3:=An ((AN HLr).trans (hb3.mono (AN HLr).size));clear hb3))
       go_ret;rw[AN HR];exact⟨rfl,AN HB3⟩
     ·obtain rfl:k=cols.length:=(by omega);rw[BR]at hcs;have hcs:KG bs.length cols cols.length 0=0:=hcs.symm;have HWT3:Hid (R=if(if No bs=true then(0:Int)else 2)=0 then(if j=0∨(l.getD (j - 1) dT).has<has then 0 else 2)else(if No bs=true then(0:Int)else 2)):=An (by rw[AN HWT2,hcs,AF rfl]);have HRI:=An (fun x:Hm wr=>aq A c bs x.val hf.b ((ht.below hL).bs.below x.bel));have HLr:=An hL;have hsub:Nonempty (Hm wr):=⟨⟨wr,AD _ _⟩⟩;have s0:=B1 (HXr.cell 0 rfl 0 rfl);have s1:=B1 (HXr.cell 0 rfl 1 rfl);simp only[Ay]at s0 s1;have dk:decide ((cols.length:Int)<(cols.length:Int))=false:=AO (by omega);have HPr:Hid (∀i,j=i+1→wr.cell? ⟨tb,tf+i*3,N⟩=O (I K (l.getD i dT).has)):=An (fun i hi=>AW hL (AN HP i hi));clear hcs hL hbr HWT2 HP ht hf HX9 HXr HB9 HB0;generalize No bs=rb at *
      cases rb
      ·have HR:Hid (R=2):=An (by rw[AN HWT3];simp);go_wp2_with fail
       refine FN (by kernel_rfl) (by kernel_rfl) ?_
       repeat(go_big_quiet_step((go_at_call 129;exact Gf (AN HRI _))))
       refine Bg ?_;rintro w9⟨xs,hxs⟩;have hb9:=xs.bel;rw[←hxs]at hb9;have HB9:=An ((AN HLr).trans (hb9.mono (AN HLr).size));have HB0:=An hb9;clear hxs hb9 xs;go_wp2;go_ret;rw[AN HR];exact⟨rfl,AN HB9⟩
      ·by_cases hj0:j=0
       ·have HR:Hid (R=0):=An (by rw[AN HWT3,AF (show(if true=true then(0:Int)else 2)=0 from rfl),AF (.inl hj0)]);subst hj0;clear HPr;go_wp2_with fail
        refine FN (by kernel_rfl) (by kernel_rfl) ?_
        repeat(go_big_quiet_step((go_at_call 129;exact Gf (AN HRI _))))
        refine Bg ?_;rintro w9⟨xs,hxs⟩;have hb9:=xs.bel;rw[←hxs]at hb9;have HB9:=An ((AN HLr).trans (hb9.mono (AN HLr).size));have HB0:=An hb9;clear hxs hb9 xs;go_wp2;go_ret;rw[AN HR];exact⟨rfl,AN HB9⟩
       ·obtain⟨i,hi⟩:∃i,j=i+1:=⟨j - 1,by omega⟩;have s3:=B1 (AN HPr i hi);have hw1:IntKind.i64.wrap ((j:Int) - 1)=(i:Int):=(by rw[DH _ (by omega)];omega);have i0:(0:Int)≤(i:Int):=(by omega);have i1:(i:Int)<(l.length:Int):=(by omega);have jp:(0:Int)<(j:Int):=(by omega);have jn:0<j:=(by omega);have jd:decide ((0:Int)<(j:Int))=true:=Bq jp;have hR3:=AN HWT3;rw[show j - 1=i by omega]at hR3;generalize (l.getD i dT).has=ph at *;by_cases hph:ph<has
        ·have HR:Hid (R=0):=An (by rw[hR3,AF (show(if true=true then(0:Int)else 2)=0 from rfl),AF (.inr hph)]);have hd:decide (has≤ph)=false:=AO (by omega);clear hR3 hph hi HWT3 HPr hj0;go_wp2_with fail
         refine FN (by kernel_rfl) (by kernel_rfl) ?_
         repeat(go_big_quiet_step((go_at_call 129;exact Gf (AN HRI _))))
         refine Bg ?_;rintro w9⟨xs,hxs⟩;have hb9:=xs.bel;rw[←hxs]at hb9;have HB9:=An ((AN HLr).trans (hb9.mono (AN HLr).size));have HB0:=An hb9;clear hxs hb9 xs;go_wp2;go_ret;rw[AN HR];exact⟨rfl,AN HB9⟩
        ·have HR:Hid (R=2):=An (by rw[hR3,AF (show(if true=true then(0:Int)else 2)=0 from rfl),AA (by omega)]);have hd:decide (has≤ph)=true:=Bq (by omega);clear hR3 hph hi HWT3 HPr hj0;go_wp2_with fail
         refine FN (by kernel_rfl) (by kernel_rfl) ?_
         repeat(go_big_quiet_step((go_at_call 129;exact Gf (AN HRI _))))
         refine Bg ?_;rintro w9⟨xs,hxs⟩;have hb9:=xs.bel;rw[←hxs]at hb9;have HB9:=An ((AN HLr).trans (hb9.mono (AN HLr).size));have HB0:=An hb9;clear hxs hb9 xs;go_wp2;go_ret;rw[AN HR];exact⟨rfl,AN HB9⟩
   ·have HR:Hid (R=4):=An (by rw[AN HWT,ju hs (.inr hcl)];simp);have hlc:((cols.length:Int) != ((FR has 8).length:Int))=true:=(by simp;omega);have hlc2:((cols.length:Int) == ((FR has 8).length:Int))=false:=(by simp;omega);clear hb0 hcl hs;go_wp2_with fail
    refine FN (by kernel_rfl) (by kernel_rfl) ?_
    repeat(go_big_quiet_step((go_at_call 127;exact T0 (AN HCO _))))
    refine Bg ?_;rintro w9⟨xs,hxs⟩;have hb9:=xs.bel;rw[←hxs]at hb9;have HB9:=An ((AN HL1).trans (hb9.mono (AN HL1).size));have HB0:=An hb9;clear hxs hb9 xs;go_wp2;go_ret;rw[AN HR];exact⟨rfl,AN HB9⟩
theorem V'(T:Option Addr)(tc:Nat)(G:Option Addr)(gc:Nat)(T':Option Addr)(tc':Nat)(G':Option Addr)(gc':Nat)(l:List OQ)(gens:List Int)(w:World)(hl:l.length≤4194304)(hgl:gens.length≤4194304)(hf:∀ i,i<l.length→iK (l.getD i dT))(hT:Pq w T l)(hG:JE w G gens)(hT':Pq w T' l)(hG':JE w G' gens):
  Calls Au 9 #[Af #[S T l.length tc,S G gens.length gc],Af #[S T' l.length tc',S G' gens.length gc']] w fun e w'=>e=Ao (Aj true)∧Below w.heap.size w w':=by
 obtain⟨W1,hW1,hbx,hX1⟩:=Gs w [([S T l.length tc,S G gens.length gc],25),([S T' l.length tc',S G' gens.length gc'],25)];have HW1:Hid ((w.alloc (Al #[S T l.length tc,S G gens.length gc] 25)).alloc (Al #[S T' l.length tc',S G' gens.length gc'] 25)=W1):=An hW1;clear hW1;obtain⟨s0,s1⟩:=hX1.g2 R;obtain⟨s2,s3⟩:=hX1.f2 1 R;have HB0:=An hX1;have HL0:=An hbx;have HG:=An (hG.below hbx);have HG':=An (hG'.below hbx);have HT:=An (hT.below hbx);have HT':=An (hT'.below hbx);have HF:=An hf;clear hX1 hbx hG hG' hT hT' hf;go_enter Tryz.func9,Tryz.ntmps9
 go_upto_region 1 with fail
 rw[AN HW1];go_wp2_with fail
 clear s0 s1 s2 s3;go_loopw [30] (fun x wr=>∃j:Nat,j≤gens.length∧x=I .i64 (j:Int)∧Below W1.heap.size W1 wr) (fun x _=>gens.length - (intOf x).toNat)
 case atStart=>exact⟨0,AS _,rfl,AD _ _⟩
 case round =>
  obtain⟨j,hj,rfl,hbr⟩:=hrel;have hB:=(AN HB0).below hbr;by_cases hlt:j<gens.length
  ·have j0:(0:Int)≤(j:Int):=(by omega);have j1:(j:Int)<(gens.length:Int):=(by omega);obtain⟨gb,go,hGe,x0⟩:=(AN HG).below hbr j hlt;obtain⟨gb',go',hGe',x1⟩:=(AN HG').below hbr j hlt;dsimp only at x0 x1;generalize gens.getD j 0=x at *;have s1:=hB.cell 0 R 1 R;have s3:=hB.cell 1 R 1 R;rw[Ay]at s1;have q0:=B1 x0;have q1:=B1 x1;have q2:=B1 s1;have q3:=B1 s3;have hsub:Nonempty (Hm wr):=⟨⟨wr,AD _ _⟩⟩;have HBR:=An hbr;clear hB hbr HG HG' HT HT' HB0 x0 x1 s1 s3;subst hGe hGe';go_wp2_with fail
   refine FN (by kernel_rfl) (by kernel_rfl) ?_
   repeat(go_big_quiet_step(fail))
   refine Bg ?_;rintro w9⟨xs,hxs⟩;have hb9:=xs.bel;rw[←hxs]at hb9;have HB9:=An ((AN HBR).trans (hb9.mono (AN HBR).size));have HB0':=An hb9;clear hxs hb9 xs;clear q0 q1 q2 q3 hsub;go_wp2;go_roundw
   case rel=>exact⟨j+1,by omega,by go_num,AN HB9⟩
   case measure=>simp[intOf];omega
  ·obtain rfl:j=gens.length:=(by omega);have s0:=hB.cell 0 R 0 R;rw[Ay]at s0;have HBR:=An hbr;clear hB hbr;go_wp2_with fail
   clear s0;obtain⟨wb,hwb⟩:∃wb,wb=wr:=⟨_,rfl⟩;rw[←hwb]at HBR⊢;clear hwb;go_loopw [48] (fun x wr=>∃i:Nat,i≤l.length∧x=I .i64 (i:Int)∧Below W1.heap.size W1 wr) (fun x _=>l.length - (intOf x).toNat)
   case atStart=>exact⟨0,AS _,rfl,AN HBR⟩
   case round =>
    clear HBR;obtain⟨i,hi,rfl,hbr⟩:=hrel;have hB:=(AN HB0).below hbr;by_cases hlt:i<l.length
    ·have i0:(0:Int)≤(i:Int):=(by omega);have i1:(i:Int)<(l.length:Int):=(by omega);obtain⟨tb,tf,hTe,Aa,ca,C,cc,hta⟩:=(AN HT).below hbr i hlt;obtain⟨tb',tf',hTe',Ab,cb,C',cc',hta'⟩:=(AN HT').below hbr i hlt;have htf:=(AN HF) i hlt;generalize l.getD i dT=t at *;obtain⟨has,bs,cols⟩:=t;have hfb:bs.length≤4194304:=htf.b;have hfc:cols.length≤4194304:=htf.c;have HFK:Hid (∀k,k<cols.length→(cols.getD k []).length≤4194304):=An htf.k;have a0:=hta.c0;have a1:=hta.c1;have a2:=hta.c2;have b0:=hta'.c0;have b1:=hta'.c1;have b2:=hta'.c2;dsimp only at a0 a1 a2 b0 b1 b2;have s2:=hB.cell 1 R 0 R;obtain⟨wt,rfl⟩:∃wt,wt=wr:=⟨_,rfl⟩;obtain⟨W4,hW4,hbx,hX4⟩:=Gs wt [([I .i64 has,S Aa bs.length ca,S C cols.length cc],75),([I .i64 has,S Ab bs.length cb,S C' cols.length cc'],75)];have HW4:Hid ((wt.alloc (Al #[I .i64 has,S Aa bs.length ca,S C cols.length cc] 75)).alloc (Al #[I .i64 has,S Ab bs.length cb,S C' cols.length cc'] 75)=W4):=An hW4;clear hW4;have HSB:=An (Pb Aa ca Ab cb bs W4 (by omega) (hta.bs.below hbx) (hta'.bs.below hbx));have HX4:=An hX4;have HCO:Hid (Sp W4 C cols):=An (hta.cols.below hbx);have HCO':Hid (Sp W4 C' cols):=An (hta'.cols.below hbx);have HL4:=An (hbr.trans (hbx.mono hbr.size));have lb:W1.heap.size≤wt.heap.size:=hbr.size;obtain⟨y0,y1,y2⟩:=hX4.g3 R;obtain⟨z0,z1,z2⟩:=hX4.f3 1 R;have l2:=AL wt _ s2;have lb0:=AL wt _ b0;clear hta hta' htf hbx hX4 hbr hB;subst hTe hTe';go_upto_region 13 with fail
     rw[AN HW4];clear a0 a1 a2 b0 b1 b2 s2 l2 lb0;go_wp2_with((go_at_call 28;refine(AN HSB).mono ?_;rintro e w5⟨rfl,hb5⟩;have h5:=(AN HX4).below hb5;have HL5:=An ((AN HL4).trans (hb5.mono (AN HL4).size));have HC5:=An ((AN HCO).below hb5);have HC5':=An ((AN HCO').below hb5);clear y0 y1 y2 z0 z1 z2;have y2:=h5.cell 0 R 2 R;have z2:=h5.cell 1 R 2 R;rw[Ay]at y2;have HX5:=An h5;clear hb5 h5 HSB HX4 HCO HCO' HL4))
     clear y2 z2;go_loopw [83] (fun x wr=>∃k:Nat,k≤cols.length∧x=I .i64 (k:Int)∧Below w5.heap.size w5 wr) (fun x _=>cols.length - (intOf x).toNat)
     case atStart=>exact⟨0,AS _,rfl,AD _ _⟩
     case round =>
      obtain⟨k,hk,rfl,hbr⟩:=hrel;by_cases hlk:k<cols.length
      ·have k0:(0:Int)≤(k:Int):=(by omega);have k1:(k:Int)<(cols.length:Int):=(by omega);have h6:=(AN HX5).below hbr;have y2:=h6.cell 0 R 2 R;have z2:=h6.cell 1 R 2 R;rw[Ay]at y2;obtain⟨kb,ko,hCe,K,kc,k2,hI⟩:=(AN HC5).below hbr k hlk;obtain⟨kb',ko',hCe',K',kc',k2',hI'⟩:=(AN HC5').below hbr k hlk;have hlk4:=AN HFK k hlk;generalize cols.getD k []=lk at *;have HI:=An hI;have HI':=An hI';have HBR:=An hbr;have q0:=B1 y2;have q1:=B1 z2;have q2:=B1 k2;have q3:=B1 k2';have hsub:Nonempty (Hm wr):=⟨⟨wr,AD _ _⟩⟩;have HY:=An (And.intro y2 (And.intro z2 (And.intro k2 k2')));clear h6 hbr hI hI' y2 z2 k2 k2';subst hCe hCe';go_wp2_with fail
       refine FN (by kernel_rfl) (by kernel_rfl) ?_
       repeat(go_big_quiet_step(fail))
       refine Bg ?_;rintro w9⟨xs,hxs⟩;have hb9:=xs.bel;rw[←hxs]at hb9;have HB9:=An ((AN HBR).trans (hb9.mono (AN HBR).size));have HB0':=An hb9;clear hxs hb9 xs;clear q0 q1 q2 q3 hsub;have hbd:=AN HB0';have y2:=AW hbd (AN HY).1;have z2:=AW hbd (AN HY).2.1;have k2:=AW hbd (AN HY).2.2.1;have k2':=AW hbd (AN HY).2.2.2;obtain⟨wk,rfl⟩:∃wk,wk=w9:=⟨_,rfl⟩;have HIK:=An ((AN HI).below hbd);have HIK':=An ((AN HI').below hbd);have HBK:=An (AN HB9);have HYK:=An (And.intro y2 (And.intro z2 (And.intro k2 k2')));clear hbd HI HI' HBR HB9 HB0' HY;go_wp2_with fail
       clear y2 z2 k2 k2';go_loopw [105] (fun x wr=>∃q:Nat,q≤lk.length∧x=I .i64 (q:Int)∧Below wk.heap.size wk wr) (fun x _=>lk.length - (intOf x).toNat)
       case atStart=>exact⟨0,AS _,rfl,AD _ _⟩
       case round =>
        obtain⟨q,hq,rfl,hbr⟩:=hrel;by_cases hlq:q<lk.length
        ·have m0:(0:Int)≤(q:Int):=(by omega);have m1:(q:Int)<(lk.length:Int):=(by omega);obtain⟨vb,vo,hKe,x0⟩:=(AN HIK).below hbr q hlq;obtain⟨vb',vo',hKe',x1⟩:=(AN HIK').below hbr q hlq;dsimp only at x0 x1;generalize lk.getD q 0=x at *;have q0:=B1 (AW hbr (AN HYK).1);have q1:=B1 (AW hbr (AN HYK).2.1);have q2:=B1 (AW hbr (AN HYK).2.2.1);have q3:=B1 (AW hbr (AN HYK).2.2.2);have q4:=B1 x0;have q5:=B1 x1;have hsub:Nonempty (Hm wr):=⟨⟨wr,AD _ _⟩⟩;have HBR:=An hbr;clear hbr HIK HIK' HYK x0 x1;subst hKe hKe';go_wp2_with fail
         refine FN (by kernel_rfl) (by kernel_rfl) ?_
         repeat(go_big_quiet_step(fail))
         refine Bg ?_;rintro w9⟨xs,hxs⟩;have hb9:=xs.bel;rw[←hxs]at hb9;have HB9:=An ((AN HBR).trans (hb9.mono (AN HBR).size));have HB0':=An hb9;clear hxs hb9 xs;clear q0 q1 q2 q3 q4 q5 hsub;go_wp2;go_roundw
         case rel=>exact⟨q+1,by omega,by go_num,AN HB9⟩
         case measure=>simp[intOf];omega
        ·obtain rfl:q=lk.length:=(by omega);have dq:decide ((lk.length:Int)<(lk.length:Int))=false:=AO (by omega);have HE:=An ((AN HBK).trans (hbr.mono (AN HBK).size));clear hbr HIK HIK' HYK;go_wp2;go_roundw
         case rel=>exact⟨k+1,by omega,by go_num,AN HE⟩
         case measure=>simp[intOf];omega
      ·obtain rfl:k=cols.length:=(by omega);have HE:=An ((AN HL5).trans (hbr.mono (AU (AN HL5).size Fu)));clear hbr;go_wp2;go_roundw
       case rel=>exact⟨i+1,by omega,by go_num,AN HE⟩
       case measure=>simp[intOf];omega
    ·obtain rfl:i=l.length:=(by omega);have HE:=An ((AN HL0).trans (hbr.mono (AN HL0).size));clear hB hbr;go_wp2;go_ret;exact⟨rfl,AN HE⟩
end Go.Proofs.YtnbleebilmghcabGreat
