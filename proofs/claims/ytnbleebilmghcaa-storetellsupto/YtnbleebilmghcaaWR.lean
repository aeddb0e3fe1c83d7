/- POpen, SOpenT, SFew -/
import Derived.Deep.Slices
import Derived.Deep.Strs
import Derived.Lib.SmallJoins
import Derived.Carry
import Derived.ProofKit
import Derived.OpenShut
import Derived.Test.YtnbleebilmghcaaRows
import Derived.Test.YtnbleebilmghcaaWC
import Derived.Test.YtnbleebilmghcaaWK
import Derived.Test.YtnbleebilmghcaaWL
set_option linter.all false
namespace Go.Proofs.Ytnbleebilmghcaa
open Go.ChangeShapes Go.WideShapes Go.ChangeAt Go.RowKit Go.Deep Go.Joins
set_option maxRecDepth 100000
theorem laid:laidOutB Try.prog=true:=by kernel_rfl
theorem cells3:Try.prog.cellsOf 3=1:=by kernel_rfl
theorem cells26:Try.prog.cellsOf 26=1:=by kernel_rfl
theorem cells36:Try.prog.cellsOf 36=1:=by kernel_rfl
theorem cells38:Try.prog.cellsOf 38=2:=by kernel_rfl
theorem cells40:Try.prog.cellsOf 40=2:=by kernel_rfl
theorem cells59:Try.prog.cellsOf 59=8:=by kernel_rfl
theorem cells61:Try.prog.cellsOf 61=11:=by kernel_rfl
theorem max_len:maxLen=9223372036854775807:=rfl
section
variable {H:Type} {enc:TypeId×Value→H} {W:World} {base:Nat} {spare:Nat→Bool} {held:Bool}
theorem open_beingc {n:Nat} {cs:List Value} {x:DataW H×List MemPlace} (h:DataW.trod enc Try.prog W base spare held n 40 cs=some x):∃ i g:Int,cs=[.int .i64 i,.int .i64 g]:=by
 obtain ⟨y0,y1,n',_,hl,h0,h1⟩:=trod_struct2 Try.underlying40 h
 rw [cells40] at hl
 match cs,hl with
 | [c0,c1],_ =>
  simp [cells3] at h0 h1
  obtain ⟨i0,e0,_⟩:=DataW.trod_int Try.underlying3 h0
  obtain ⟨i1,e1,_⟩:=DataW.trod_int Try.underlying3 h1
  exact ⟨i0,i1,by simp_all⟩
theorem open_eight {n:Nat} {cs:List Value} {x:DataW H×List MemPlace} (h:DataW.trod enc Try.prog W base spare held n 59 cs=some x):∃ v:Nat→Int,cs=[.int .i64 (v 0),.int .i64 (v 1),.int .i64 (v 2),.int .i64 (v 3),.int .i64 (v 4),.int .i64 (v 5),.int .i64 (v 6),.int .i64 (v 7)]:=by
 obtain ⟨xs,m,_,_,hl,hn,hel⟩:=DataW.trod_array Try.underlying59 h
 rw [cells59] at hl
 rw [cells3] at hel
 have key:∀ i,i<8→∃ k:Int,(cs.drop i).take 1=[.int .i64 k]:=fun i hi=>by
  have:=hel i hi
  rw [Nat.mul_one,List.getElem?_eq_getElem (by omega)] at this
  obtain ⟨k,e,_⟩:=DataW.trod_int Try.underlying3 this
  exact ⟨k,e⟩
 obtain ⟨v,hv⟩:=choose_lt (α:=Int) (n:=8) (p:=fun i k=>(cs.drop i).take 1=[Value.int .i64 k]) key
 refine ⟨v,?_⟩
 match cs,hl with
 | [c0,c1,c2,c3,c4,c5,c6,c7],_ =>
  have e0:=hv 0 (by omega);have e1:=hv 1 (by omega);have e2:=hv 2 (by omega);have e3:=hv 3 (by omega)
  have e4:=hv 4 (by omega);have e5:=hv 5 (by omega);have e6:=hv 6 (by omega);have e7:=hv 7 (by omega)
  simp at e0 e1 e2 e3 e4 e5 e6 e7
  simp [e0,e1,e2,e3,e4,e5,e6,e7]
theorem open_row {n:Nat} {cs:List Value} {x:DataW H×List MemPlace} (h:DataW.trod enc Try.prog W base spare held n 61 cs=some x):∃ r:RowI,cs=zI r:=by
 obtain ⟨y0,y1,y2,n',_,hl,h0,h1,h2⟩:=trod_struct3 Try.underlying61 h
 rw [cells61] at hl
 match cs,hl with
 | [c0,c1,c2,c3,c4,c5,c6,c7,c8,c9,c10],_ =>
  simp [cells3,cells40,cells59] at h0 h1 h2
  obtain ⟨i,g,e0⟩:=open_beingc h0
  obtain ⟨b,e1,_⟩:=DataW.trod_int Try.underlying3 h1
  obtain ⟨v,e2⟩:=open_eight h2
  refine ⟨⟨i,g,b,v⟩,?_⟩
  simp only [List.cons.injEq,and_true] at e0 e1 e2
  simp [zI,e0,e1,e2]
theorem add11 (b off i j:Nat):((⟨b,off,none⟩:Addr).add (i*11)).add j=⟨b,off+i*11+j,none⟩:=by
 rw [add_add,Addr.add_mid];simp
theorem open_rows {n:Nat} {v:Value} {x:DataW H×List MemPlace} (h:DataW.trod enc Try.prog W base spare held n 36 [v]=some x):∃ A cap rows,v=.slice A rows.length cap∧rows.length≤9223372036854775807∧RowsL W A rows:=by
 rcases open_slice Try.underlying36 h with ⟨hcs,_⟩ | ⟨ad,len,cap,m,n',D,Pl,hcs,_,hlc,hmx,hm,_,hel⟩
 ·exact ⟨none,0,[],by simpa using hcs,Nat.zero_le _,fun j hj=>by simp at hj⟩
 ·have hlm:len≤m:=by rw [hm];split <;> omega
  haveI:Inhabited RowI:=⟨dR⟩
  obtain ⟨S,hS⟩:=choose_lt (α:=RowI) (n:=len) (p:=fun i s=>W.cells? base (ad.add (i*11)) 11=some (zI s)) (fun i hi=>by
   obtain ⟨cs',h1,h2⟩:=hel i (by omega)
   obtain ⟨s,rfl⟩:=open_row h2
   rw [cells61] at h1
   exact ⟨s,h1⟩)
  have hlen:((List.range len).map S).length=len:=by simp
  refine ⟨some ad,cap,(List.range len).map S,by rw [hlen];simpa using hcs,by rw [hlen,←max_len];omega,fun j hj=>?_⟩
  rw [hlen] at hj
  have hg:((List.range len).map S).getD j dR=S j:=by
   rw [List.getD_eq_getElem?_getD,List.getElem?_eq_getElem (by simpa using hj)];simp
  simp only [hg]
  obtain ⟨_,_,hc⟩:=World.cells?_some (hS j hj)
  obtain ⟨_,_,hc0⟩:=World.cells?_some (hS 0 (by omega))
  have hz:=hc0 0 (by omega)
  obtain ⟨b,off,sp⟩:=ad
  have hsp:sp=none:=by
   cases sp with
   | none=>rfl
   | some s=>simp [World.cell?,Addr.add] at hz;split at hz <;> simp [zI] at hz
  subst hsp
  have hc':∀ t,t<11→W.cell? ⟨b,off+j*11+t,none⟩=(zI (S j))[t]?:=fun t ht=>by
   have:=hc t (by omega);rwa [add11] at this
  refine ⟨b,off,rfl,?_⟩
  refine ⟨?_,?_,?_,?_⟩
  ·have:=hc' 0 (by omega);simpa [zI] using this
  ·have:=hc' 1 (by omega);simpa [zI] using this
  ·have:=hc' 2 (by omega);simpa [zI] using this
  ·intro t ht
   have:=hc' (3+t) (by omega)
   rcases (by omega:t=0∨t=1∨t=2∨t=3∨t=4∨t=5∨t=6∨t=7) with rfl | rfl | rfl | rfl | rfl | rfl | rfl | rfl <;> simpa [zI,Nat.add_assoc] using this
theorem open_ints {n:Nat} {v:Value} {x:DataW H×List MemPlace} (h:DataW.trod enc Try.prog W base spare held n 26 [v]=some x):∃ G cap l,v=.slice G l.length cap∧l.length≤9223372036854775807∧IntsL W G l:=by
 rcases open_slice1 Try.underlying26 cells3 h with ⟨hcs,_⟩ | ⟨ad,len,cap,m,n',V,D,Pl,hcs,_,hlc,hmx,hm,_,hel⟩
 ·exact ⟨none,0,[],by simpa using hcs,Nat.zero_le _,fun j hj=>by simp at hj⟩
 ·have hlm:len≤m:=by rw [hm];split <;> omega
  obtain ⟨S,hS⟩:=choose_lt (α:=Int) (n:=len) (p:=fun i s=>W.cell? (ad.add i)=some (.int .i64 s)) (fun i hi=>by
   obtain ⟨h1,h2⟩:=hel i (by omega)
   obtain ⟨k,e,_⟩:=DataW.trod_int Try.underlying3 h2
   simp only [List.cons.injEq,and_true] at e
   exact ⟨k,by rw [h1,e]⟩)
  have hlen:((List.range len).map S).length=len:=by simp
  refine ⟨some ad,cap,(List.range len).map S,by rw [hlen];simpa using hcs,by rw [hlen,←max_len];omega,fun j hj=>?_⟩
  rw [hlen] at hj
  have hg:((List.range len).map S).getD j 0=S j:=by
   rw [List.getD_eq_getElem?_getD,List.getElem?_eq_getElem (by simpa using hj)];simp
  simp only [hg]
  have hz:=hS j hj
  have hz0:=hS 0 (by omega)
  obtain ⟨b,off,sp⟩:=ad
  have hsp:sp=none:=by
   cases sp with
   | none=>rfl
   | some s=>simp [World.cell?,Addr.add] at hz0;split at hz0 <;> simp at hz0
  subst hsp
  exact ⟨b,off,rfl,by rw [Addr.add_mid] at hz;exact hz⟩
theorem open_world {r:Reach} {b0:Nat} {v:Value} {d:DataW H} {p:List MemPlace} (hv:Value.okWide Try.prog W r b0 38 v) (h:DataW.Trod enc Try.prog W base spare held 38 v d p) :
  ∃ A cap G gcap X,v=zAA A cap G gcap X∧X.rows.length≤9223372036854775807∧X.gens.length≤9223372036854775807∧WldAt W A cap G gcap X:=by
 obtain ⟨cs,rfl,hsz⟩:=okWide_struct Try.underlying38 hv
 obtain ⟨c0,c1,rfl⟩:=array2 (hsz.trans cells38)
 obtain ⟨fuel,hf⟩:=h
 obtain ⟨y0,y1,n,_,_,h0,h1⟩:=trod_struct2 Try.underlying38 hf
 simp [Value.cells,cells36,cells26] at h0 h1
 obtain ⟨A,cap,rows,rfl,hl,hA⟩:=open_rows h0
 obtain ⟨G,gcap,gens,rfl,hl2,hG⟩:=open_ints h1
 exact ⟨A,cap,G,gcap,⟨rows,gens⟩,rfl,hl,hl2,hA,hG⟩
theorem open_being {r:Reach} {b0:Nat} {v:Value} {d:DataW H} {p:List MemPlace} (hv:Value.okWide Try.prog W r b0 40 v) (h:DataW.Trod enc Try.prog W base spare held 40 v d p):∃ i g,v=zW i g:=by
 obtain ⟨cs,rfl,hsz⟩:=okWide_struct Try.underlying40 hv
 obtain ⟨c0,c1,rfl⟩:=array2 (hsz.trans cells40)
 obtain ⟨fuel,hf⟩:=h
 obtain ⟨i,g,e⟩:=open_beingc (cs:=[c0,c1]) (by simpa [Value.cells] using hf)
 simp only [List.cons.injEq,and_true] at e
 exact ⟨i,g,by rw [e.1,e.2];rfl⟩
end
end Go.Proofs.Ytnbleebilmghcaa
namespace Go.Proofs.Ytnbleebilmghcaa
open Go.ChangeShapes Go.WideShapes Go.ChangeAt Go.RowKit Go.Deep Go.Joins
set_option maxRecDepth 100000
theorem cells63:Try.prog.cellsOf 63=1:=by kernel_rfl
theorem cells90:Try.prog.cellsOf 90=1:=by kernel_rfl
theorem cells69:Try.prog.cellsOf 69=1:=by kernel_rfl
theorem cells92:Try.prog.cellsOf 92=3:=by kernel_rfl
theorem cells71:Try.prog.cellsOf 71=2:=by kernel_rfl
theorem bulk_pos {H:Type} (d:DataW H):0<Rows.uptoBulk d:=by
 cases d with
 | lit l=>cases l <;> simp [Rows.uptoBulk]
 | _=>simp [Rows.uptoBulk]
theorem bulk_sum {H:Type} (f g:Nat→Nat) (D:Nat→DataW H):∀ n,(∀ j,j<n→f j≤Rows.uptoBulk (D j))→((List.range n).map f).sum≤Rows.uptoBulkAll ((List.range n).map D):=by
 have app:∀ (a b:List (DataW H)),Rows.uptoBulkAll (a++b)=Rows.uptoBulkAll a+Rows.uptoBulkAll b:=fun a b=>by
  induction a with
  | nil=>simp [Rows.uptoBulkAll]
  | cons x r ih=>simp only [List.cons_append,Rows.uptoBulkAll,ih];omega
 intro n
 induction n with
 | zero=>intro _;simp
 | succ n ih =>
  intro h
  have:=ih fun j hj=>h j (by omega)
  have:=h n (by omega)
  rw [List.range_succ,List.map_append,List.map_append,List.sum_append,app]
  simp [Rows.uptoBulkAll]
  omega
section
variable {H:Type} {enc:TypeId×Value→H} {W:World} {base:Nat} {spare:Nat→Bool} {held:Bool}
theorem addk (b off k i j:Nat):((⟨b,off,none⟩:Addr).add (i*k)).add j=⟨b,off+i*k+j,none⟩:=by
 rw [add_add,Addr.add_mid];simp
theorem open_list {α:Type} [Inhabited α] {t e:TypeId} {sz:Nat} (ht:Try.prog.underlying t=some (.slice e)) (hc:Try.prog.cellsOf e=sz) (h0:0<sz) {n:Nat} {v:Value} {x:DataW H×List MemPlace} (h:DataW.trod enc Try.prog W base spare held n t [v]=some x) (p:α→List Value→Prop) (bk:α→Nat)
  (hp:∀ n' cs d pl,DataW.trod enc Try.prog W base spare held n' e cs=some (d,pl)→∃ a,p a cs∧bk a≤Rows.uptoBulk d) (hq:∀ a cs,p a cs→∀ b off s,W.cell? ⟨b,off,some s⟩≠cs[0]?) :
  ∃ A cap,∃ l:List α,v=.slice A l.length cap∧(l.map bk).sum+1≤Rows.uptoBulk x.1∧∀ j (hj:j<l.length),∃ b off,A=some ⟨b,off,none⟩∧∃ cs,p l[j] cs∧∀ i,i<sz→W.cell? ⟨b,off+j*sz+i,none⟩=cs[i]?:=by
 rcases open_slice ht h with ⟨hcs,hx⟩ | ⟨ad,len,cap,m,n',D,Pl,hcs,_,hlc,hmx,hm,hx,hel⟩
 ·exact ⟨none,0,[],by simpa using hcs,by have:=bulk_pos x.1;simp;omega,fun j hj=>by simp at hj⟩
 ·have hlm:len≤m:=by rw [hm];split <;> omega
  obtain ⟨S,hS⟩:=choose_lt (α:=α) (n:=len) (p:=fun i s=>(∃ cs,W.cells? base (ad.add (i*sz)) sz=some cs∧p s cs)∧bk s≤Rows.uptoBulk (D i)) (fun i hi=>by
   obtain ⟨cs',h1,h2⟩:=hel i (by omega)
   obtain ⟨s,h3,h4⟩:=hp _ _ _ _ h2
   rw [hc] at h1
   exact ⟨s,⟨cs',h1,h3⟩,h4⟩)
  have hlen:((List.range len).map S).length=len:=by simp
  refine ⟨some ad,cap,(List.range len).map S,by rw [hlen];simpa using hcs,?_,fun j hj=>?_⟩
  ·have:=bulk_sum (fun j=>bk (S j)) id D len fun j hj=>(hS j hj).2
   rw [hx]
   simp only [Rows.uptoBulk,List.map_map,Function.comp_def] at this ⊢
   omega
  ·rw [hlen] at hj
   have hg:((List.range len).map S)[j]'(by rw [hlen];exact hj)=S j:=by simp
   rw [hg]
   obtain ⟨⟨cs,h1,h2⟩,_⟩:=hS j hj
   obtain ⟨⟨cs0,h3,h4⟩,_⟩:=hS 0 (by omega)
   obtain ⟨_,_,hc1⟩:=World.cells?_some h1
   obtain ⟨_,_,hc0⟩:=World.cells?_some h3
   have hz:=hc0 0 h0
   obtain ⟨b,off,sp⟩:=ad
   have hsp:sp=none:=by
    cases sp with
    | none=>rfl
    | some s=>simp [Addr.add] at hz;exact absurd (by simpa using hz) (hq _ _ h4 b off s)
   subst hsp
   refine ⟨b,off,rfl,cs,h2,fun i hi=>?_⟩
   have:=hc1 i hi
   rwa [addk] at this
theorem sum_ones {α:Type}:∀ l:List α,(l.map fun _=>1).sum=l.length
 | []=>rfl
 | a :: l=>by rw [List.map_cons,List.sum_cons,sum_ones l,List.length_cons];omega
theorem mid_int (b off s:Nat) (k:IntKind) (i:Int) (hk:k=.i64):W.cell? ⟨b,off,some s⟩≠some (.int k i):=fun hz=>by
 subst hk
 simp [World.cell?] at hz
 split at hz <;> simp at hz
theorem mid_slice (b off s:Nat) (A:Option Addr) (m c:Nat):W.cell? ⟨b,off,some s⟩≠some (.slice A m c):=fun hz=>by
 simp [World.cell?] at hz
 split at hz <;> simp at hz
theorem open_intsB {n:Nat} {v:Value} {x:DataW H×List MemPlace} (h:DataW.trod enc Try.prog W base spare held n 26 [v]=some x):∃ A cap,∃ l:List Int,v=.slice A l.length cap∧l.length+1≤Rows.uptoBulk x.1∧IntsL W A l:=by
 obtain ⟨A,cap,l,h1,h2,h3⟩:=open_list Try.underlying26 cells3 (by decide) h (fun (a:Int) cs=>cs=[.int .i64 a]) (fun _=>1) (fun n' cs d pl hd=>by
  obtain ⟨k,e,_⟩:=DataW.trod_int Try.underlying3 hd
  exact ⟨k,e,bulk_pos d⟩) (fun a cs ha b off s=>by rw [ha];exact mid_int b off s .i64 a rfl)
 refine ⟨A,cap,l,h1,by rw [sum_ones] at h2;exact h2,fun j hj=>?_⟩
 obtain ⟨b,off,e,cs,hcs,hc⟩:=h3 j hj
 refine ⟨b,off,e,?_⟩
 have:=hc 0 (by decide)
 rw [hcs,Nat.mul_one,Nat.add_zero] at this
 rw [this]
 show some _=some (Value.int .i64 (l.getD j 0))
 rw [List.getD_eq_getElem?_getD,List.getElem?_eq_getElem hj]
 rfl
theorem open_bsB {n:Nat} {v:Value} {x:DataW H×List MemPlace} (h:DataW.trod enc Try.prog W base spare held n 63 [v]=some x):∃ A cap,∃ l:List (Int×Int),v=.slice A l.length cap∧l.length+1≤Rows.uptoBulk x.1∧BsAt W A l:=by
 obtain ⟨A,cap,l,h1,h2,h3⟩:=open_list Try.underlying63 cells40 (by decide) h (fun (a:Int×Int) cs=>cs=[.int .i64 a.1,.int .i64 a.2]) (fun _=>1) (fun n' cs d pl hd=>by
  obtain ⟨i,g,e⟩:=open_beingc hd
  exact ⟨(i,g),e,bulk_pos d⟩) (fun a cs ha b off s=>by rw [ha];exact mid_int b off s .i64 a.1 rfl)
 refine ⟨A,cap,l,h1,by rw [sum_ones] at h2;exact h2,fun j hj=>?_⟩
 obtain ⟨b,off,e,cs,hcs,hc⟩:=h3 j hj
 have c0:=hc 0 (by decide)
 have c1:=hc 1 (by decide)
 rw [hcs] at c0 c1
 rw [List.getD_eq_getElem?_getD,List.getElem?_eq_getElem hj]
 exact ⟨b,off,e,c0,c1⟩
theorem open_colsB {n:Nat} {v:Value} {x:DataW H×List MemPlace} (h:DataW.trod enc Try.prog W base spare held n 90 [v]=some x):∃ A cap,∃ l:List (List Int),v=.slice A l.length cap∧(l.map fun c=>c.length+1).sum+1≤Rows.uptoBulk x.1∧ColsX W A l:=by
 obtain ⟨A,cap,l,h1,h2,h3⟩:=open_list Try.underlying90 cells26 (by decide) h (fun (a:(Option Addr×Nat)×List Int) cs=>cs=[.slice a.1.1 a.2.length a.1.2]∧IntsL W a.1.1 a.2) (fun a=>a.2.length+1) (fun n' cs d pl hd=>by
  have hl:cs.length=1:=by
   rcases open_slice Try.underlying26 hd with ⟨e,_⟩ | ⟨_,_,_,_,_,_,_,e,_⟩ <;> rw [e] <;> rfl
  match cs,hl with
  | [c],_ =>
   obtain ⟨G,gc,k,e,hk,hi⟩:=open_intsB hd
   exact ⟨((G,gc),k),⟨by rw [e],hi⟩,hk⟩) (fun a cs ha b off s=>by rw [ha.1];exact mid_slice b off s _ _ _)
 refine ⟨A,cap,l.map (·.2),by rw [List.length_map];exact h1,by rw [List.map_map];exact h2,fun j hj=>?_⟩
 rw [List.length_map] at hj
 obtain ⟨b,off,e,cs,hcs,hc⟩:=h3 j hj
 have hg:(l.map (·.2)).getD j []=(l[j]).2:=by rw [List.getD_eq_getElem?_getD,List.getElem?_map,List.getElem?_eq_getElem hj];rfl
 have c0:=hc 0 (by decide)
 rw [hcs.1,Nat.mul_one,Nat.add_zero] at c0
 rw [hg]
 exact ⟨b,off,e,_,_,c0,hcs.2⟩
def tbk (t:TabX):Nat:=t.bs.length+(t.cols.map fun c=>c.length+1).sum+1
theorem open_tabsB {n:Nat} {v:Value} {x:DataW H×List MemPlace} (h:DataW.trod enc Try.prog W base spare held n 69 [v]=some x):∃ A cap,∃ l:List TabX,v=.slice A l.length cap∧(l.map tbk).sum+1≤Rows.uptoBulk x.1∧TabsX W A l:=by
 have iI:Inhabited TabX:=⟨dT⟩
 obtain ⟨A,cap,l,h1,h2,h3⟩:=open_list Try.underlying69 cells92 (by decide) h (fun (a:(Option Addr×Nat)×(Option Addr×Nat)×TabX) cs=>cs=[.int .i64 a.2.2.has,.slice a.1.1 a.2.2.bs.length a.1.2,.slice a.2.1.1 a.2.2.cols.length a.2.1.2]∧BsAt W a.1.1 a.2.2.bs∧ColsX W a.2.1.1 a.2.2.cols) (fun a=>tbk a.2.2) (fun n' cs d pl hd=>by
  obtain ⟨y0,y1,y2,m,hx,hl,g0,g1,g2⟩:=trod_struct3 Try.underlying92 hd
  rw [cells92] at hl
  match cs,hl with
  | [c0,c1,c2],_ =>
   simp [cells3,cells63,cells90] at g0 g1 g2
   obtain ⟨i,e0,_⟩:=DataW.trod_int Try.underlying3 g0
   obtain ⟨B,bc,bs,e1,k1,hb⟩:=open_bsB g1
   obtain ⟨C,cc,cols,e2,k2,hcl⟩:=open_colsB g2
   simp only [List.cons.injEq,and_true] at e0
   refine ⟨((B,bc),(C,cc),⟨i,bs,cols⟩),⟨by rw [e0,e1,e2],hb,hcl⟩,?_⟩
   simp only [Prod.mk.injEq] at hx
   rw [hx.1]
   simp only [tbk,Rows.uptoBulk,Rows.uptoBulkAll]
   omega) (fun a cs ha b off s=>by rw [ha.1];exact mid_int b off s .i64 _ rfl)
 refine ⟨A,cap,l.map (·.2.2),by rw [List.length_map];exact h1,by rw [List.map_map];exact h2,fun j hj=>?_⟩
 rw [List.length_map] at hj
 obtain ⟨b,off,e,cs,hcs,hc⟩:=h3 j hj
 have hg:(l.map (·.2.2)).getD j dT=(l[j]).2.2:=by rw [List.getD_eq_getElem?_getD,List.getElem?_map,List.getElem?_eq_getElem hj];rfl
 have c0:=hc 0 (by decide)
 have c1:=hc 1 (by decide)
 have c2:=hc 2 (by decide)
 rw [hcs.1] at c0 c1 c2
 rw [hg]
 exact ⟨b,off,e,_,_,_,_,c0,c1,c2,hcs.2.1,hcs.2.2⟩
theorem open_storeB {r:Reach} {b0:Nat} {v:Value} {d:DataW H} {p:List MemPlace} (hv:Value.okWide Try.prog W r b0 71 v) (h:DataW.Trod enc Try.prog W base spare held 71 v d p) :
  ∃ T tcap G gcap,∃ l:List TabX,∃ gens:List Int,v=.agg #[.slice T l.length tcap,.slice G gens.length gcap]∧(l.map tbk).sum+gens.length+2≤Rows.uptoBulk d∧TabsX W T l∧IntsL W G gens:=by
 obtain ⟨cs,rfl,hsz⟩:=okWide_struct Try.underlying71 hv
 obtain ⟨c0,c1,rfl⟩:=array2 (hsz.trans cells71)
 obtain ⟨fuel,hf⟩:=h
 obtain ⟨y0,y1,n,hx,_,h0,h1⟩:=trod_struct2 Try.underlying71 hf
 simp [Value.cells,cells69,cells26] at h0 h1
 obtain ⟨T,tcap,l,rfl,hl,hT⟩:=open_tabsB h0
 obtain ⟨G,gcap,gens,rfl,hl2,hG⟩:=open_intsB h1
 refine ⟨T,tcap,G,gcap,l,gens,rfl,?_,hT,hG⟩
 simp only [Prod.mk.injEq] at hx
 rw [hx.1]
 simp only [Rows.uptoBulk,Rows.uptoBulkAll]
 omega
end
theorem bulk_few (l:List TabX) (N:Nat) (h:(l.map tbk).sum≤N):l.length≤N∧(∀ i,i<l.length→tbk (l.getD i dT)≤N)∧(l.map fun t=>t.bs.length).sum≤N:=by
 induction l generalizing N with
 | nil=>exact ⟨Nat.zero_le _,fun i hi=>by simp at hi,Nat.zero_le _⟩
 | cons t l ih =>
  rw [List.map_cons,List.sum_cons] at h
  have ht:t.bs.length+1≤tbk t:=by unfold tbk;omega
  obtain ⟨h1,h2,h3⟩:=ih (N - tbk t) (by omega)
  refine ⟨by rw [List.length_cons];omega,fun i hi=>?_,by rw [List.map_cons,List.sum_cons];omega⟩
  match i with
  | 0=>simp;omega
  | i+1 =>
   have:=h2 i (by simpa using hi)
   simp only [List.getD_cons_succ]
   omega
theorem sum_mem (f:List Int→Nat):∀ (cs:List (List Int)) k,k<cs.length→f (cs.getD k [])≤(cs.map f).sum
 | [],k,h=>by simp at h
 | c :: cs,0,_=>by simp
 | c :: cs,k+1,h=>by
  have:=sum_mem f cs k (by simpa using h)
  simp only [List.getD_cons_succ,List.map_cons,List.sum_cons]
  omega
theorem sum_len (cs:List (List Int)):cs.length≤(cs.map fun c=>c.length+1).sum:=by
 induction cs with
 | nil=>simp
 | cons c cs ih=>simp only [List.length_cons,List.map_cons,List.sum_cons];omega
theorem tbk_few {t:TabX} {N:Nat} (h:tbk t≤N) (hN:N≤4194304):FewX t:=by
 unfold tbk at h
 have:=sum_len t.cols
 refine ⟨by omega,by omega,fun k hk=>?_⟩
 have:=sum_mem (fun c=>c.length+1) t.cols k hk
 omega
end Go.Proofs.Ytnbleebilmghcaa
namespace Go.Proofs.Ytnbleebilmghcaa
theorem from_few:∀ (l:List TabX) (n:Nat),n≤l.length→(((List.range n).map fun i=>zCO (l.getD i dT)).flatMap (·.rows)).length≤(l.map fun t=>t.bs.length).sum
 | l,0,_=>by simp
 | [],n+1,h=>by simp at h
 | t :: l,n+1,h=>by
  have ih:=from_few l n (by simpa using h)
  rw [List.range_succ_eq_map,List.map_cons,List.flatMap_cons,List.length_append,List.map_map,List.map_cons,List.sum_cons]
  have e:((List.range n).map ((fun i=>zCO ((t :: l).getD i dT)) ∘ Nat.succ))=(List.range n).map fun i=>zCO (l.getD i dT):=List.map_congr_left fun i _=>rfl
  rw [e]
  have:=zBM t
  have e2:(zCO ((t :: l).getD 0 dT)).rows.length=t.bs.length:=this
  omega
theorem store_few {w:World} {T:Option Addr} {l:List TabX} {N:Nat} (hT:TabsX w T l) (hs:(l.map tbk).sum≤N) (hN:N≤4194304):l.length≤4194304∧(∀ i,i<l.length→FewX (l.getD i dT))∧∃ tabs,TogAt w T l tabs∧(tabs.flatMap (·.rows)).length≤4194304:=by
 obtain ⟨h1,h2,h3⟩:=bulk_few l N hs
 have hf:∀ i,i<l.length→FewX (l.getD i dT):=fun i hi=>tbk_few (h2 i hi) hN
 obtain ⟨n,hn,ht⟩:=tog_of hT (by omega) hf
 exact ⟨by omega,hf,_,ht,Nat.le_trans (from_few l n hn) (by omega)⟩
end Go.Proofs.Ytnbleebilmghcaa
