/- POpen, POpenS, RnOpen, SOpenT, SFew, ROpen -/
import Derived.Deep.Slices
import Derived.Deep.Strs
import Derived.Lib.SmallJoins
import Derived.Carry
import Derived.ProofKit
import Derived.OpenShut
import Derived.SizedLaws
import Derived.Test.YtnbleebilmghcabGreatRows
import Derived.Test.YtnbleebilmghcabGreatWC
import Derived.Test.YtnbleebilmghcabGreatWK
import Derived.Test.YtnbleebilmghcabGreatWL
import Derived.Test.YtnbleebilmghcabGreatWS
set_option linter.all false
namespace Go.Proofs.YtnbleebilmghcabGreat
open Go.ChangeShapes Go.WideShapes Go.ChangeAt Go.RowKit Go.Deep Go.Joins
set_option maxRecDepth 100000
theorem laid:laidOutB Tryz.prog=true:=by kernel_rfl
theorem cells3:Tryz.prog.cellsOf 3=1:=by kernel_rfl
theorem cells26:Tryz.prog.cellsOf 23=1:=by kernel_rfl
theorem cells32:Tryz.prog.cellsOf 34=2:=by kernel_rfl
theorem cells40:Tryz.prog.cellsOf 61=2:=by kernel_rfl
section
variable {H:Type} {enc:TypeId×Value→H} {W:World} {base:Nat} {spare:Nat→Bool} {held:Bool}
theorem zHj {n:Nat} {cs:List Value} {x:DataW H×List MemPlace} (h:DataW.trod enc Tryz.prog W base spare held n 61 cs=some x):∃ i g:Int,cs=[.int .i64 i,.int .i64 g]:=by
 obtain ⟨y0,y1,n',_,hl,h0,h1⟩:=trod_struct2 Tryz.underlying61 h
 rw [cells40] at hl
 match cs,hl with
 | [c0,c1],_ =>
  simp [cells3] at h0 h1
  obtain ⟨i0,e0,_⟩:=DataW.trod_int Tryz.underlying3 h0
  obtain ⟨i1,e1,_⟩:=DataW.trod_int Tryz.underlying3 h1
  exact ⟨i0,i1,by simp_all⟩
end
end Go.Proofs.YtnbleebilmghcabGreat
namespace Go.Proofs.YtnbleebilmghcabGreat
open Go.ChangeShapes Go.WideShapes Go.ChangeAt Go.RowKit Go.Deep Go.Joins
set_option maxRecDepth 100000
section
variable {H:Type} {enc:TypeId×Value→H} {W:World} {base:Nat} {spare:Nat→Bool} {held:Bool}
end
end Go.Proofs.YtnbleebilmghcabGreat
namespace Go.Proofs.YtnbleebilmghcabGreat
open Go.ChangeShapes Go.WideShapes Go.ChangeAt Go.RowKit Go.Deep Go.Joins
set_option maxRecDepth 100000
def dZs:SysI:=⟨0,0,0,none,0,0,fun _=>⟨0,0,0,0⟩⟩
theorem cellsL:Tryz.prog.cellsOf 35=1:=by kernel_rfl
theorem cellsS:Tryz.prog.cellsOf 37=4:=by kernel_rfl
theorem cellsA:Tryz.prog.cellsOf 95=4:=by kernel_rfl
section
variable {H:Type} {enc:TypeId×Value→H} {W:World} {base:Nat} {spare:Nat→Bool} {held:Bool}
theorem zMa {n:Nat} {cs:List Value} {x:DataW H×List MemPlace} (h:DataW.trod enc Tryz.prog W base spare held n 95 cs=some x):∃ y:ActI,cs=[.int .i64 y.k,.int .i64 y.p,.int .i64 y.f,.int .i64 y.n]:=by
 obtain ⟨y0,y1,y2,y3,n',_,hl,h0,h1,h2,h3⟩:=trod_struct4 Tryz.underlying95 h
 rw [cellsA] at hl
 match cs,hl with
 | [c0,c1,c2,c3],_ =>
  simp [cells3] at h0 h1 h2 h3
  obtain ⟨i0,e0,_⟩:=DataW.trod_int Tryz.underlying3 h0
  obtain ⟨i1,e1,_⟩:=DataW.trod_int Tryz.underlying3 h1
  obtain ⟨i2,e2,_⟩:=DataW.trod_int Tryz.underlying3 h2
  obtain ⟨i3,e3,_⟩:=DataW.trod_int Tryz.underlying3 h3
  exact ⟨⟨i0,i1,i2,i3⟩,by simp_all⟩
theorem zPD (b off i j:Nat):((⟨b,off,none⟩:Addr).add (i*4)).add j=⟨b,off+i*4+j,none⟩:=by
 rw [add_add,Addr.add_mid];simp
theorem zKn {n:Nat} {v:Value} {x:DataW H×List MemPlace} (h:DataW.trod enc Tryz.prog W base spare held n 35 [v]=some x):∃ A len cap a,v=.slice A len cap∧len≤cap∧ActsAt W A len a:=by
 rcases open_slice Tryz.underlying35 h with ⟨hcs,_⟩ | ⟨ad,len,cap,m,n',D,Pl,hcs,_,hlc,_,hm,_,hel⟩
 ·exact ⟨none,0,0,fun _=>⟨0,0,0,0⟩,by simpa using hcs,Nat.le_refl _,fun j hj=>by omega⟩
 ·have hlm:len≤m:=by rw [hm];split <;> omega
  have iI:Inhabited ActI:=⟨⟨0,0,0,0⟩⟩
  obtain ⟨a,ha⟩:=choose_lt (α:=ActI) (n:=len) (p:=fun i y=>W.cells? base (ad.add (i*4)) 4=some [.int .i64 y.k,.int .i64 y.p,.int .i64 y.f,.int .i64 y.n]) (fun i hi=>by
   obtain ⟨cs',h1,h2⟩:=hel i (by omega)
   obtain ⟨y,rfl⟩:=zMa h2
   rw [cellsA] at h1
   exact ⟨y,h1⟩)
  refine ⟨some ad,len,cap,a,by simpa using hcs,hlc,fun j hj=>?_⟩
  obtain ⟨_,_,hc⟩:=World.cells?_some (ha j hj)
  obtain ⟨_,_,hc0⟩:=World.cells?_some (ha 0 (by omega))
  have hz:=hc0 0 (by omega)
  obtain ⟨b,off,sp⟩:=ad
  have hsp:sp=none:=by
   cases sp with
   | none=>rfl
   | some s=>simp [World.cell?,Addr.add] at hz;split at hz <;> simp at hz
  subst hsp
  refine ⟨b,off,rfl,?_,?_,?_,?_⟩
  ·have:=hc 0 (by omega);rw [zPD] at this;simpa using this
  ·have:=hc 1 (by omega);rw [zPD] at this;simpa using this
  ·have:=hc 2 (by omega);rw [zPD] at this;simpa using this
  ·have:=hc 3 (by omega);rw [zPD] at this;simpa using this
theorem zKm {n:Nat} {cs:List Value} {x:DataW H×List MemPlace} (h:DataW.trod enc Tryz.prog W base spare held n 37 cs=some x):∃ s:SysI,cs=[.int .i64 s.m,.int .i64 s.al,.int .i64 s.no,.slice s.A s.len s.cap]∧ActsAt W s.A s.len s.a:=by
 obtain ⟨y0,y1,y2,n',_,hl,h0,h1,h2⟩:=trod_struct3 Tryz.underlying37 h
 rw [cellsS] at hl
 match cs,hl with
 | [c0,c1,c2,c3],_ =>
  simp [cells3,cells32,cellsL] at h0 h1 h2
  obtain ⟨i0,e0,_⟩:=DataW.trod_int Tryz.underlying3 h0
  obtain ⟨z0,z1,n'',_,_,g0,g1⟩:=trod_struct2 Tryz.underlying34 h1
  simp [cells3] at g0 g1
  obtain ⟨i1,e1,_⟩:=DataW.trod_int Tryz.underlying3 g0
  obtain ⟨i2,e2,_⟩:=DataW.trod_int Tryz.underlying3 g1
  obtain ⟨A,len,cap,a,rfl,hlc,ha⟩:=zKn h2
  simp only [List.cons.injEq,and_true] at e0 e1 e2
  subst e0 e1 e2
  exact ⟨⟨i0,i1,i2,A,len,cap,a⟩,rfl,ha⟩
end
end Go.Proofs.YtnbleebilmghcabGreat
namespace Go.Proofs.YtnbleebilmghcabGreat
open Go.ChangeShapes Go.WideShapes Go.ChangeAt Go.RowKit Go.Deep Go.Joins
set_option maxRecDepth 100000
theorem cells63:Tryz.prog.cellsOf 62=1:=by kernel_rfl
theorem cells90:Tryz.prog.cellsOf 46=1:=by kernel_rfl
theorem cells69:Tryz.prog.cellsOf 22=1:=by kernel_rfl
theorem cells92:Tryz.prog.cellsOf 75=3:=by kernel_rfl
theorem cells71:Tryz.prog.cellsOf 25=2:=by kernel_rfl
theorem zEc {H:Type} (d:DataW H):0<Rows.uptoBulk d:=by
 cases d with
 | lit l=>cases l <;> simp [Rows.uptoBulk]
 | _=>simp [Rows.uptoBulk]
theorem zMr {H:Type} (f g:Nat→Nat) (D:Nat→DataW H):∀ n,(∀ j,j<n→f j≤Rows.uptoBulk (D j))→((List.range n).map f).sum≤Rows.uptoBulkAll ((List.range n).map D):=by
 have app:∀ (a b:List (DataW H)),Rows.uptoBulkAll (a++b)=Rows.uptoBulkAll a+Rows.uptoBulkAll b:=fun a b=>by
  induction a with
  | nil=>simp [Rows.uptoBulkAll]
  | cons x r ih=>simp only [List.cons_append,Rows.uptoBulkAll,ih];omega
 intro n
 induction n with
 | zero=>intro _;simp
 | succ n ih =>
  intro h
  have:=ih fun j hj=>h j (by omega)
  have:=h n (by omega)
  rw [List.range_succ,List.map_append,List.map_append,List.sum_append,app]
  simp [Rows.uptoBulkAll]
  omega
section
variable {H:Type} {enc:TypeId×Value→H} {W:World} {base:Nat} {spare:Nat→Bool} {held:Bool}
theorem zPT (b off k i j:Nat):((⟨b,off,none⟩:Addr).add (i*k)).add j=⟨b,off+i*k+j,none⟩:=by
 rw [add_add,Addr.add_mid];simp
theorem zCp {α:Type} [Inhabited α] {t e:TypeId} {sz:Nat} (ht:Tryz.prog.underlying t=some (.slice e)) (hc:Tryz.prog.cellsOf e=sz) (h0:0<sz) {n:Nat} {v:Value} {x:DataW H×List MemPlace} (h:DataW.trod enc Tryz.prog W base spare held n t [v]=some x) (p:α→List Value→Prop) (bk:α→Nat)
  (hp:∀ n' cs d pl,DataW.trod enc Tryz.prog W base spare held n' e cs=some (d,pl)→∃ a,p a cs∧bk a≤Rows.uptoBulk d) (hq:∀ a cs,p a cs→∀ b off s,W.cell? ⟨b,off,some s⟩≠cs[0]?) :
  ∃ A cap,∃ l:List α,v=.slice A l.length cap∧(l.map bk).sum+1≤Rows.uptoBulk x.1∧∀ j (hj:j<l.length),∃ b off,A=some ⟨b,off,none⟩∧∃ cs,p l[j] cs∧∀ i,i<sz→W.cell? ⟨b,off+j*sz+i,none⟩=cs[i]?:=by
 rcases open_slice ht h with ⟨hcs,hx⟩ | ⟨ad,len,cap,m,n',D,Pl,hcs,_,hlc,hmx,hm,hx,hel⟩
 ·exact ⟨none,0,[],by simpa using hcs,by have:=zEc x.1;simp;omega,fun j hj=>by simp at hj⟩
 ·have hlm:len≤m:=by rw [hm];split <;> omega
  obtain ⟨S,hS⟩:=choose_lt (α:=α) (n:=len) (p:=fun i s=>(∃ cs,W.cells? base (ad.add (i*sz)) sz=some cs∧p s cs)∧bk s≤Rows.uptoBulk (D i)) (fun i hi=>by
   obtain ⟨cs',h1,h2⟩:=hel i (by omega)
   obtain ⟨s,h3,h4⟩:=hp _ _ _ _ h2
   rw [hc] at h1
   exact ⟨s,⟨cs',h1,h3⟩,h4⟩)
  have hlen:((List.range len).map S).length=len:=by simp
  refine ⟨some ad,cap,(List.range len).map S,by rw [hlen];simpa using hcs,?_,fun j hj=>?_⟩
  ·have:=zMr (fun j=>bk (S j)) id D len fun j hj=>(hS j hj).2
   rw [hx]
   simp only [Rows.uptoBulk,List.map_map,Function.comp_def] at this ⊢
   omega
  ·rw [hlen] at hj
   have hg:((List.range len).map S)[j]'(by rw [hlen];exact hj)=S j:=by simp
   rw [hg]
   obtain ⟨⟨cs,h1,h2⟩,_⟩:=hS j hj
   obtain ⟨⟨cs0,h3,h4⟩,_⟩:=hS 0 (by omega)
   obtain ⟨_,_,hc1⟩:=World.cells?_some h1
   obtain ⟨_,_,hc0⟩:=World.cells?_some h3
   have hz:=hc0 0 h0
   obtain ⟨b,off,sp⟩:=ad
   have hsp:sp=none:=by
    cases sp with
    | none=>rfl
    | some s=>simp [Addr.add] at hz;exact absurd (by simpa using hz) (hq _ _ h4 b off s)
   subst hsp
   refine ⟨b,off,rfl,cs,h2,fun i hi=>?_⟩
   have:=hc1 i hi
   rwa [zPT] at this
theorem zEU {α:Type}:∀ l:List α,(l.map fun _=>1).sum=l.length
 | []=>rfl
 | a :: l=>by rw [List.map_cons,List.sum_cons,zEU l,List.length_cons];omega
theorem zGE (b off s:Nat) (k:IntKind) (i:Int) (hk:k=.i64):W.cell? ⟨b,off,some s⟩≠some (.int k i):=fun hz=>by
 subst hk
 simp [World.cell?] at hz
 split at hz <;> simp at hz
theorem zLA (b off s:Nat) (A:Option Addr) (m c:Nat):W.cell? ⟨b,off,some s⟩≠some (.slice A m c):=fun hz=>by
 simp [World.cell?] at hz
 split at hz <;> simp at hz
theorem zFd {n:Nat} {v:Value} {x:DataW H×List MemPlace} (h:DataW.trod enc Tryz.prog W base spare held n 23 [v]=some x):∃ A cap,∃ l:List Int,v=.slice A l.length cap∧l.length+1≤Rows.uptoBulk x.1∧IntsL W A l:=by
 obtain ⟨A,cap,l,h1,h2,h3⟩:=zCp Tryz.underlying23 cells3 (by decide) h (fun (a:Int) cs=>cs=[.int .i64 a]) (fun _=>1) (fun n' cs d pl hd=>by
  obtain ⟨k,e,_⟩:=DataW.trod_int Tryz.underlying3 hd
  exact ⟨k,e,zEc d⟩) (fun a cs ha b off s=>by rw [ha];exact zGE b off s .i64 a rfl)
 refine ⟨A,cap,l,h1,by rw [zEU] at h2;exact h2,fun j hj=>?_⟩
 obtain ⟨b,off,e,cs,hcs,hc⟩:=h3 j hj
 refine ⟨b,off,e,?_⟩
 have:=hc 0 (by decide)
 rw [hcs,Nat.mul_one,Nat.add_zero] at this
 rw [this]
 show some _=some (Value.int .i64 (l.getD j 0))
 rw [List.getD_eq_getElem?_getD,List.getElem?_eq_getElem hj]
 rfl
theorem zMZ {n:Nat} {v:Value} {x:DataW H×List MemPlace} (h:DataW.trod enc Tryz.prog W base spare held n 62 [v]=some x):∃ A cap,∃ l:List (Int×Int),v=.slice A l.length cap∧l.length+1≤Rows.uptoBulk x.1∧BsAt W A l:=by
 obtain ⟨A,cap,l,h1,h2,h3⟩:=zCp Tryz.underlying62 cells40 (by decide) h (fun (a:Int×Int) cs=>cs=[.int .i64 a.1,.int .i64 a.2]) (fun _=>1) (fun n' cs d pl hd=>by
  obtain ⟨i,g,e⟩:=zHj hd
  exact ⟨(i,g),e,zEc d⟩) (fun a cs ha b off s=>by rw [ha];exact zGE b off s .i64 a.1 rfl)
 refine ⟨A,cap,l,h1,by rw [zEU] at h2;exact h2,fun j hj=>?_⟩
 obtain ⟨b,off,e,cs,hcs,hc⟩:=h3 j hj
 have c0:=hc 0 (by decide)
 have c1:=hc 1 (by decide)
 rw [hcs] at c0 c1
 rw [List.getD_eq_getElem?_getD,List.getElem?_eq_getElem hj]
 exact ⟨b,off,e,c0,c1⟩
theorem zJX {n:Nat} {v:Value} {x:DataW H×List MemPlace} (h:DataW.trod enc Tryz.prog W base spare held n 46 [v]=some x):∃ A cap,∃ l:List (List Int),v=.slice A l.length cap∧(l.map fun c=>c.length+1).sum+1≤Rows.uptoBulk x.1∧ColsX W A l:=by
 obtain ⟨A,cap,l,h1,h2,h3⟩:=zCp Tryz.underlying46 cells26 (by decide) h (fun (a:(Option Addr×Nat)×List Int) cs=>cs=[.slice a.1.1 a.2.length a.1.2]∧IntsL W a.1.1 a.2) (fun a=>a.2.length+1) (fun n' cs d pl hd=>by
  have hl:cs.length=1:=by
   rcases open_slice Tryz.underlying23 hd with ⟨e,_⟩ | ⟨_,_,_,_,_,_,_,e,_⟩ <;> rw [e] <;> rfl
  match cs,hl with
  | [c],_ =>
   obtain ⟨G,gc,k,e,hk,hi⟩:=zFd hd
   exact ⟨((G,gc),k),⟨by rw [e],hi⟩,hk⟩) (fun a cs ha b off s=>by rw [ha.1];exact zLA b off s _ _ _)
 refine ⟨A,cap,l.map (·.2),by rw [List.length_map];exact h1,by rw [List.map_map];exact h2,fun j hj=>?_⟩
 rw [List.length_map] at hj
 obtain ⟨b,off,e,cs,hcs,hc⟩:=h3 j hj
 have hg:(l.map (·.2)).getD j []=(l[j]).2:=by rw [List.getD_eq_getElem?_getD,List.getElem?_map,List.getElem?_eq_getElem hj];rfl
 have c0:=hc 0 (by decide)
 rw [hcs.1,Nat.mul_one,Nat.add_zero] at c0
 rw [hg]
 exact ⟨b,off,e,_,_,c0,hcs.2⟩
def tbk (t:TabX):Nat:=t.bs.length+(t.cols.map fun c=>c.length+1).sum+1
theorem zJW {n:Nat} {v:Value} {x:DataW H×List MemPlace} (h:DataW.trod enc Tryz.prog W base spare held n 22 [v]=some x):∃ A cap,∃ l:List TabX,v=.slice A l.length cap∧(l.map tbk).sum+1≤Rows.uptoBulk x.1∧TabsX W A l:=by
 have iI:Inhabited TabX:=⟨dT⟩
 obtain ⟨A,cap,l,h1,h2,h3⟩:=zCp Tryz.underlying22 cells92 (by decide) h (fun (a:(Option Addr×Nat)×(Option Addr×Nat)×TabX) cs=>cs=[.int .i64 a.2.2.has,.slice a.1.1 a.2.2.bs.length a.1.2,.slice a.2.1.1 a.2.2.cols.length a.2.1.2]∧BsAt W a.1.1 a.2.2.bs∧ColsX W a.2.1.1 a.2.2.cols) (fun a=>tbk a.2.2) (fun n' cs d pl hd=>by
  obtain ⟨y0,y1,y2,m,hx,hl,g0,g1,g2⟩:=trod_struct3 Tryz.underlying75 hd
  rw [cells92] at hl
  match cs,hl with
  | [c0,c1,c2],_ =>
   simp [cells3,cells63,cells90] at g0 g1 g2
   obtain ⟨i,e0,_⟩:=DataW.trod_int Tryz.underlying3 g0
   obtain ⟨B,bc,bs,e1,k1,hb⟩:=zMZ g1
   obtain ⟨C,cc,cols,e2,k2,hcl⟩:=zJX g2
   simp only [List.cons.injEq,and_true] at e0
   refine ⟨((B,bc),(C,cc),⟨i,bs,cols⟩),⟨by rw [e0,e1,e2],hb,hcl⟩,?_⟩
   simp only [Prod.mk.injEq] at hx
   rw [hx.1]
   simp only [tbk,Rows.uptoBulk,Rows.uptoBulkAll]
   omega) (fun a cs ha b off s=>by rw [ha.1];exact zGE b off s .i64 _ rfl)
 refine ⟨A,cap,l.map (·.2.2),by rw [List.length_map];exact h1,by rw [List.map_map];exact h2,fun j hj=>?_⟩
 rw [List.length_map] at hj
 obtain ⟨b,off,e,cs,hcs,hc⟩:=h3 j hj
 have hg:(l.map (·.2.2)).getD j dT=(l[j]).2.2:=by rw [List.getD_eq_getElem?_getD,List.getElem?_map,List.getElem?_eq_getElem hj];rfl
 have c0:=hc 0 (by decide)
 have c1:=hc 1 (by decide)
 have c2:=hc 2 (by decide)
 rw [hcs.1] at c0 c1 c2
 rw [hg]
 exact ⟨b,off,e,_,_,_,_,c0,c1,c2,hcs.2.1,hcs.2.2⟩
theorem open_storeB {r:Reach} {b0:Nat} {v:Value} {d:DataW H} {p:List MemPlace} (hv:Value.okWide Tryz.prog W r b0 25 v) (h:DataW.Trod enc Tryz.prog W base spare held 25 v d p) :
  ∃ T tcap G gcap,∃ l:List TabX,∃ gens:List Int,v=.agg #[.slice T l.length tcap,.slice G gens.length gcap]∧(l.map tbk).sum+gens.length+2≤Rows.uptoBulk d∧TabsX W T l∧IntsL W G gens:=by
 obtain ⟨cs,rfl,hsz⟩:=okWide_struct Tryz.underlying25 hv
 obtain ⟨c0,c1,rfl⟩:=array2 (hsz.trans cells71)
 obtain ⟨fuel,hf⟩:=h
 obtain ⟨y0,y1,n,hx,_,h0,h1⟩:=trod_struct2 Tryz.underlying25 hf
 simp [Value.cells,cells69,cells26] at h0 h1
 obtain ⟨T,tcap,l,rfl,hl,hT⟩:=zJW h0
 obtain ⟨G,gcap,gens,rfl,hl2,hG⟩:=zFd h1
 refine ⟨T,tcap,G,gcap,l,gens,rfl,?_,hT,hG⟩
 simp only [Prod.mk.injEq] at hx
 rw [hx.1]
 simp only [Rows.uptoBulk,Rows.uptoBulkAll]
 omega
end
theorem zMs (l:List TabX) (N:Nat) (h:(l.map tbk).sum≤N):l.length≤N∧(∀ i,i<l.length→tbk (l.getD i dT)≤N)∧(l.map fun t=>t.bs.length).sum≤N:=by
 induction l generalizing N with
 | nil=>exact ⟨Nat.zero_le _,fun i hi=>by simp at hi,Nat.zero_le _⟩
 | cons t l ih =>
  rw [List.map_cons,List.sum_cons] at h
  have ht:t.bs.length+1≤tbk t:=by unfold tbk;omega
  obtain ⟨h1,h2,h3⟩:=ih (N - tbk t) (by omega)
  refine ⟨by rw [List.length_cons];omega,fun i hi=>?_,by rw [List.map_cons,List.sum_cons];omega⟩
  match i with
  | 0=>simp;omega
  | i+1 =>
   have:=h2 i (by simpa using hi)
   simp only [List.getD_cons_succ]
   omega
theorem zKF (f:List Int→Nat):∀ (cs:List (List Int)) k,k<cs.length→f (cs.getD k [])≤(cs.map f).sum
 | [],k,h=>by simp at h
 | c :: cs,0,_=>by simp
 | c :: cs,k+1,h=>by
  have:=zKF f cs k (by simpa using h)
  simp only [List.getD_cons_succ,List.map_cons,List.sum_cons]
  omega
theorem zNb (cs:List (List Int)):cs.length≤(cs.map fun c=>c.length+1).sum:=by
 induction cs with
 | nil=>simp
 | cons c cs ih=>simp only [List.length_cons,List.map_cons,List.sum_cons];omega
theorem zNX {t:TabX} {N:Nat} (h:tbk t≤N) (hN:N≤4194304):FewX t:=by
 unfold tbk at h
 have:=zNb t.cols
 refine ⟨by omega,by omega,fun k hk=>?_⟩
 have:=zKF (fun c=>c.length+1) t.cols k hk
 omega
end Go.Proofs.YtnbleebilmghcabGreat
namespace Go.Proofs.YtnbleebilmghcabGreat
theorem from_few:∀ (l:List TabX) (n:Nat),n≤l.length→(((List.range n).map fun i=>zCd (l.getD i dT)).flatMap (·.rows)).length≤(l.map fun t=>t.bs.length).sum
 | l,0,_=>by simp
 | [],n+1,h=>by simp at h
 | t :: l,n+1,h=>by
  have ih:=from_few l n (by simpa using h)
  rw [List.range_succ_eq_map,List.map_cons,List.flatMap_cons,List.length_append,List.map_map,List.map_cons,List.sum_cons]
  have e:((List.range n).map ((fun i=>zCd ((t :: l).getD i dT)) ∘ Nat.succ))=(List.range n).map fun i=>zCd (l.getD i dT):=List.map_congr_left fun i _=>rfl
  rw [e]
  have:=zBT t
  have e2:(zCd ((t :: l).getD 0 dT)).rows.length=t.bs.length:=this
  omega
theorem store_few {w:World} {T:Option Addr} {l:List TabX} {N:Nat} (hT:TabsX w T l) (hs:(l.map tbk).sum≤N) (hN:N≤4194304):l.length≤4194304∧(∀ i,i<l.length→FewX (l.getD i dT))∧∃ tabs,TogAt w T l tabs∧(tabs.flatMap (·.rows)).length≤4194304:=by
 obtain ⟨h1,h2,h3⟩:=zMs l N hs
 have hf:∀ i,i<l.length→FewX (l.getD i dT):=fun i hi=>zNX (h2 i hi) hN
 obtain ⟨n,hn,ht⟩:=zOR hT (by omega) hf
 exact ⟨by omega,hf,_,ht,Nat.le_trans (from_few l n hn) (by omega)⟩
end Go.Proofs.YtnbleebilmghcabGreat
namespace Go.Proofs.YtnbleebilmghcabGreat
open Go.ChangeShapes Go.WideShapes Go.ChangeAt Go.RowKit
variable {H:Type} {enc:TypeId×Value→H} {W:World} {base:Nat} {spare:Nat→Bool} {held:Bool}
theorem cells37:Tryz.prog.cellsOf 37=4:=by kernel_rfl
theorem open_syssB {n:Nat} {v:Value} {x:DataW H×List MemPlace} (h:DataW.trod enc Tryz.prog W base spare held n 26 [v]=some x):∃ A cap,∃ l:List SysI,v=.slice A l.length cap∧l.length+1≤Rows.uptoBulk x.1∧SyssAt W A l.length (fun j=>l.getD j dZs):=by
 have iI:Inhabited SysI:=⟨⟨0,0,0,none,0,0,fun _=>⟨0,0,0,0⟩⟩⟩
 obtain ⟨A,cap,l,h1,h2,h3⟩:=zCp Tryz.underlying26 cells37 (by decide) h (fun (s:SysI) cs=>cs=[.int .i64 s.m,.int .i64 s.al,.int .i64 s.no,.slice s.A s.len s.cap]∧ActsAt W s.A s.len s.a) (fun _=>1) (fun n' cs d pl hd=>by
  obtain ⟨s,e,ha⟩:=zKm hd
  exact ⟨s,⟨e,ha⟩,zEc d⟩) (fun a cs ha b off s=>by rw [ha.1];exact zGE b off s .i64 a.m rfl)
 refine ⟨A,cap,l,h1,by rw [zEU] at h2;exact h2,fun j hj=>?_⟩
 obtain ⟨b,off,e,cs,⟨hcs,ha⟩,hc⟩:=h3 j hj
 have hg:l.getD j dZs=l[j]:=by rw [List.getD_eq_getElem?_getD,List.getElem?_eq_getElem hj];rfl
 show ∃ b off,A=some ⟨b,off,none⟩∧SysAt W b (off+j*4) (l.getD j dZs)
 rw [hg]
 refine ⟨b,off,e,?_,?_,?_,?_,ha⟩
 ·have:=hc 0 (by decide);rw [hcs] at this;exact this
 ·have:=hc 1 (by decide);rw [hcs] at this;exact this
 ·have:=hc 2 (by decide);rw [hcs] at this;exact this
 ·have:=hc 3 (by decide);rw [hcs] at this;exact this
end Go.Proofs.YtnbleebilmghcabGreat
