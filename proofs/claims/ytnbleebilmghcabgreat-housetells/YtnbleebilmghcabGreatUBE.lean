/- A house: what is done with it, and what comes of it. -/
import Derived.Shelf.Spec.SlicesGrow
import Derived.Test.YtnbleebilmghcabGreatUAW
import Derived.Test.YtnbleebilmghcabGreatUBB
set_option linter.all false
open Go.Value renaming slice→S
open Option renaming none→N
namespace Go.Proofs.YtnbleebilmghcabGreat
open Go Go.RowKit
structure Ho where
 rd:Int
 wr:Int
 lf:Bool
structure LE where
 k:Int
 has:Int
 p:Int
 n:Int
 i:Int
 g:Int
 s:GG
 fa:Int
 fn:Int
structure Mj where
 e:Int
 i:Int
 g:Int
 bs:List (Int×Int)
 n:Int
def I1(s:GG):GG:=⟨s.m,s.al,s.no,N,s.len,0,s.a⟩
def dS:GG:=⟨0,0,0,N,0,0,fun _=>⟨0,0,0,0⟩⟩
def dM:Ho:=⟨0,0,false⟩
structure HI where
 X:Wd
 S:List GG
def fe(l:List GG):Nat→GG:=fun j=>l.getD j dS
def Ke(mods:List Ho)(n:Nat)(x:GG):Int :=
 if(sw x).1≠0 then(sw x).1 else if(mods.length:Int)≤x.m then 5 else
  if Rx (mods.getD x.m.toNat dM).rd (mods.getD x.m.toNat dM).wr (mods.getD x.m.toNat dM).lf x.al x.no x.a x.len=false then 8 else if 12≤n then 4 else 0
def Ml(h:HI):(Int×Int)×Wd:=GX (fe h.S) h.S.length 0 h.X
def Jh(X:Wd)(p:Int):List (Int×Int)→Int→Int
 |[],n=>n
 |b :: l,n=>Jh X p l (IntKind.i64.wrap (n+(Ij X b.1 b.2 p).1))
def bec(h:HI)(e:Int)(Y:Wd):HI:=if e=0 then⟨Y,h.S⟩else h
def Ka(mods:List Ho)(h:HI)(d:LE):Mj×HI :=
 if d.k=1 then(⟨(FQ h.X d.has d.n).1,(FQ h.X d.has d.n).2.1.1,(FQ h.X d.has d.n).2.1.2,[],0⟩,bec h (FQ h.X d.has d.n).1 (FQ h.X d.has d.n).2.2)
 else if d.k=2 then(⟨(GS h.X d.i d.g).1,0,0,[],0⟩,bec h (GS h.X d.i d.g).1 (GS h.X d.i d.g).2)
 else if d.k=3 then(⟨(Hc h.X d.i d.g d.p d.n).1,0,0,[],0⟩,bec h (Hc h.X d.i d.g d.p d.n).1 (Hc h.X d.i d.g d.p d.n).2)
 else if d.k=4 then(⟨(GK h.X d.i d.g d.p).1,0,0,[],0⟩,bec h (GK h.X d.i d.g d.p).1 (GK h.X d.i d.g d.p).2)
 else if d.k=5 then(if Ke mods h.S.length d.s=0 then(⟨0,0,0,[],(h.S.length+1:Nat)⟩,⟨h.X,h.S++[I1 d.s]⟩)else(⟨Ke mods h.S.length d.s,0,0,[],0⟩,h))
 else if d.k=6 then(⟨(Ml h).1.1,0,0,[],if(Ml h).1.1=0 then((IM (He (fe h.S)) h.S.length).length:Nat)else 0⟩,bec h (Ml h).1.1 (Ml h).2)
 else if d.k=7 then(if(FV d.fa && FV d.fn && F5 d.p)=true then(⟨0,0,0,GV h.X d.fa d.fn h.X.rows.length,Jh h.X d.p (GV h.X d.fa d.fn h.X.rows.length) 0⟩,h)else(⟨3,0,0,[],0⟩,h))
 else(⟨1,0,0,[],0⟩,h)
def I2(mods:List Ho):List LE→List Mj×HI→List Mj×HI
 |[],r=>r
 |d :: l,r=>I2 mods l (r.1++[(Ka mods r.2 d).1],(Ka mods r.2 d).2)
def h0:HI:=⟨FL,[]⟩
def KN(mods:List Ho)(l:List LE):List Mj×HI:=I2 mods l ([],h0)
theorem NC(mods:List Ho):∀(l:List LE) (d:LE) (r:List Mj×HI),I2 mods (l++[d]) r=((I2 mods l r).1++[(Ka mods (I2 mods l r).2 d).1],(Ka mods (I2 mods l r).2 d).2)
 |[],d,r=>rfl
 |x :: l,d,r=>NC mods l d _
def O2(m:List Ho):Nat→Nat→Int×Int
 |0,_=>(0,0)
 |n+1,j=>if(FV (m.getD j dM).rd && FV (m.getD j dM).wr)=true then O2 m n (j+1)else(3,(j:Int))
def Ns(m:List Ho):Int×Int:=if 6<m.length then(4,0)else O2 m m.length 0
theorem fP(m:List Ho)(n j:Nat)(h:j<n):O2 m (n - j) j=if(FV (m.getD j dM).rd && FV (m.getD j dM).wr)=true then O2 m (n - (j+1)) (j+1)else(3,(j:Int)):=by
 rw[show n - j=(n - (j+1))+1 by omega,O2]
structure XP(mods:List Ho)(h:HI):Prop where
 wld:FK h.X
 few:h.S.length≤12
 sys:∀s∈h.S,Ke mods 0 s=0
 pure:∀s∈h.S,I1 s=s
theorem Ls{mods:List Ho}{n:Nat}{x:GG}(h:Ke mods n x=0):(sw x).1=0∧x.m<(mods.length:Int)∧Rx (mods.getD x.m.toNat dM).rd (mods.getD x.m.toNat dM).wr (mods.getD x.m.toNat dM).lf x.al x.no x.a x.len=true∧n<12:=by
 unfold Ke at h;by_cases D:(sw x).1=0
 ·rw[AA (by simpa using D)]at h;by_cases E:(mods.length:Int)≤x.m
  ·rw[AF E]at h;omega
  ·rw[AA E]at h
   cases F:Rx (mods.getD x.m.toNat dM).rd (mods.getD x.m.toNat dM).wr (mods.getD x.m.toNat dM).lf x.al x.no x.a x.len
   ·rw[F,AF R]at h;omega
   ·rw[F,AA (by simp)]at h;by_cases H:12≤n
    ·rw[AF H]at h;omega
    ·exact⟨D,by omega,rfl,by omega⟩
 ·rw[AF D]at h;exact absurd h D
theorem ar{mods:List Ho}{n m:Nat}{x:GG}(h:Ke mods n x=0)(F:m<12):Ke mods m x=0:=by
 obtain⟨D,H,E,_⟩:=Ls h;unfold Ke;rw[AA (by simpa using D),AA (by omega),E,AA (by simp),AA (by omega)]
theorem XP.right{mods:List Ho}{h:HI}(H:XP mods h):∀j,j<h.S.length→(sw (fe h.S j)).1=0:=fun j D=>by
 have e:fe h.S j=h.S[j]:=by unfold fe;rw[Az,AE D];rfl
 rw[e];exact(Ls (H.sys _ (Bm D))).1
theorem Pp{S:Nat→GG}:∀n j X,FK X→(GX S n j X).1.1=0→FK (GX S n j X).2
 |0,j,X,hr,_=>hr
 |n+1,j,X,hr,h=>by
  rw[GX]at h⊢;by_cases e:(I' X (S j)).1=0
  ·rw[AA (by simpa using e)]at h⊢;exact Pp n (j+1) _ (NQ (m:=(S j).m) (al:=(S j).al) (no:=(S j).no) (a:=(S j).a) (len:=(S j).len) hr e) h
  ·rw[AF e]at h;exact absurd h e
theorem Rf{mods:List Ho}{h:HI}(H:XP mods h){e:Int}{Y:Wd}(D:e=0→FK Y):XP mods (bec h e Y):=by
 unfold bec;split
 ·rename_i E;exact⟨D E,H.few,H.sys,H.pure⟩
 ·exact H
theorem Xo(mods:List Ho):XP mods h0:=⟨Pf,by simp[h0],fun s h=>by simp[h0]at h,fun s h=>by simp[h0]at h⟩
theorem iU{mods:List Ho}{h:HI}(H:XP mods h)(d:LE):XP mods (Ka mods h d).2:=by
 unfold Ka;split
 ·exact Rf H fun e=>(KK e 0 0).1
 split
 ·exact Rf H fun e=>(MU e).1
 split
 ·exact Rf H fun e=>(NV e).1
 split
 ·exact Rf H fun e=>(MY e).1
 split
 ·split
  ·rename_i E;refine⟨H.wld,by have:=(Ls E).2.2.2;simp;omega,fun s D=>?_,fun s D=>?_⟩
   ·rcases BV.1 D with D|D
    ·exact H.sys s D
    ·rw[BH]at D;subst D;exact ar (n:=h.S.length) E (by omega)
   ·rcases BV.1 D with D|D
    ·exact H.pure s D
    ·rw[BH]at D;subst D;rfl
  ·exact H
 split
 ·exact Rf H fun e=>Pp _ _ _ H.wld e
 split
 ·split <;>exact H
 ·exact H
theorem P2{mods:List Ho}:∀(l:List LE) (r:List Mj×HI),XP mods r.2→XP mods (I2 mods l r).2
 |[],r,H=>H
 |d :: l,r,H=>P2 l _ (iU H d)
end Go.Proofs.YtnbleebilmghcabGreat
