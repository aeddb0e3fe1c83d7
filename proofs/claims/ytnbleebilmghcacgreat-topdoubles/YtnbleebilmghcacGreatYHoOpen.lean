/- Mods and things to do that come in. -/
import Derived.Test.YtnbleebilmghcacGreatYHo11
import Derived.Test.YtnbleebilmghcacGreatKR
set_option linter.all false
namespace Go.Proofs.YtnbleebilmghcacGreat
open Go.ChangeShapes Go.WideShapes Go.ChangeAt Go.RowKit Go.Deep Go.Joins
set_option maxRecDepth 100000
theorem cellsMod:Tryz.prog.cellsOf 48=3:=by kernel_rfl
theorem cellsDo:Tryz.prog.cellsOf 46=12:=by kernel_rfl
theorem cellsBool:Tryz.prog.cellsOf 4=1:=by kernel_rfl
theorem cellsFil:Tryz.prog.cellsOf 41=2:=by kernel_rfl
theorem cellsBe:Tryz.prog.cellsOf 39=2:=by kernel_rfl
theorem trod_struct7 {H:Type} {enc:TypeId×Value→H} {w:World} {base:Nat} {spare:Nat→Bool} {held:Bool} {P:Program} {t:TypeId} {f0 f1 f2 f3 f4 f5 f6:Field} {fuel:Nat} {cs:List Value} {x:DataW H×List MemPlace} (ht:P.underlying t=some (.struct #[f0,f1,f2,f3,f4,f5,f6])) (h:DataW.trod enc P w base spare held fuel t cs=some x) :
  ∃ y0 y1 y2 y3 y4 y5 y6 n,cs.length=P.cellsOf t∧DataW.trod enc P w base spare held n f0.type ((cs.drop f0.offset).take (P.cellsOf f0.type))=some y0 ∧
   DataW.trod enc P w base spare held n f1.type ((cs.drop f1.offset).take (P.cellsOf f1.type))=some y1∧DataW.trod enc P w base spare held n f2.type ((cs.drop f2.offset).take (P.cellsOf f2.type))=some y2 ∧
   DataW.trod enc P w base spare held n f3.type ((cs.drop f3.offset).take (P.cellsOf f3.type))=some y3∧DataW.trod enc P w base spare held n f4.type ((cs.drop f4.offset).take (P.cellsOf f4.type))=some y4 ∧
   DataW.trod enc P w base spare held n f5.type ((cs.drop f5.offset).take (P.cellsOf f5.type))=some y5∧DataW.trod enc P w base spare held n f6.type ((cs.drop f6.offset).take (P.cellsOf f6.type))=some y6:=by
 obtain ⟨xs,n,_,rfl,hl,hlen,hf⟩:=DataW.trod_struct ht h
 match xs,hlen with
 | [y0,y1,y2,y3,y4,y5,y6],_=>exact ⟨y0,y1,y2,y3,y4,y5,y6,n,hl,by simpa using hf 0 f0 rfl,by simpa using hf 1 f1 rfl,by simpa using hf 2 f2 rfl,by simpa using hf 3 f3 rfl,by simpa using hf 4 f4 rfl,by simpa using hf 5 f5 rfl,by simpa using hf 6 f6 rfl⟩
section
variable {H:Type} {enc:TypeId×Value→H} {W:World} {base:Nat} {spare:Nat→Bool} {held:Bool}
theorem open_list {α:Type} [Inhabited α] {f:α→List Value} {k:Nat} {e t:TypeId} {R:α→Prop} (ht:Tryz.prog.underlying t=some (.slice e)) (hk:Tryz.prog.cellsOf e=k) (h0k:0<k) (hf:∀ x,(f x).length=k) (h0:∀ x,∃ n,(f x)[0]?=some (.int .i64 n))
  (ho:∀ n cs x,DataW.trod enc Tryz.prog W base spare held n e cs=some x→∃ y,cs=f y∧R y) {n:Nat} {v:Value} {x:DataW H×List MemPlace} (h:DataW.trod enc Tryz.prog W base spare held n t [v]=some x) :
  ∃ A cap l,v=.slice A l.length cap∧l.length≤9223372036854775807∧GAt f k W A l∧∀ y∈l,R y:=by
 rcases open_slice ht h with ⟨hcs,_⟩ | ⟨ad,len,cap,m,n',D,Pl,hcs,_,hlc,hmx,hm,_,hel⟩
 ·exact ⟨none,0,[],by simpa using hcs,Nat.zero_le _,fun j x hx=>by simp at hx,fun y hy=>by cases hy⟩
 ·have hlm:len≤m:=by rw [hm];split <;> omega
  obtain ⟨S,hS⟩:=choose_lt (α:=α) (n:=len) (p:=fun i s=>W.cells? base (ad.add (i*k)) k=some (f s)∧R s) (fun i hi=>by
   obtain ⟨cs',h1,h2⟩:=hel i (by omega)
   obtain ⟨s,rfl,hs⟩:=ho _ _ _ h2
   rw [hk] at h1
   exact ⟨s,h1,hs⟩)
  have hlen:((List.range len).map S).length=len:=by simp
  refine ⟨some ad,cap,(List.range len).map S,by rw [hlen];simpa using hcs,by rw [hlen,←max_len];omega,fun j x hx=>?_,fun y hy=>?_⟩
  ·have hj:j<len:=by have:=(List.getElem?_eq_some_iff.1 hx).1;rwa [hlen] at this
   have hxe:x=S j:=by
    rw [List.getElem?_map,List.getElem?_range hj] at hx
    simpa using hx.symm
   subst hxe
   obtain ⟨_,_,hc⟩:=World.cells?_some (hS j hj).1
   obtain ⟨_,_,hc0⟩:=World.cells?_some (hS 0 (by omega)).1
   have hz:=hc0 0 (by omega)
   obtain ⟨q,hq⟩:=h0 (S 0)
   rw [hq] at hz
   obtain ⟨b,off,sp⟩:=ad
   have hsp:sp=none:=by
    cases sp with
    | none=>rfl
    | some s=>simp [World.cell?,Addr.add] at hz;split at hz <;> simp at hz
   subst hsp
   refine ⟨b,off,rfl,fun i u hu=>?_⟩
   have hi:i<k:=by rw [←hf (S j)];exact (List.getElem?_eq_some_iff.1 hu).1
   have:=hc i hi
   rw [add_add,Addr.add_mid,←Nat.add_assoc] at this
   rw [this,hu]
  ·obtain ⟨i,hi,rfl⟩:=List.mem_map.1 hy
   exact (hS i (by simpa using hi)).2
theorem open_mod1 (n:Nat) (cs:List Value) (x:DataW H×List MemPlace) (h:DataW.trod enc Tryz.prog W base spare held n 48 cs=some x):∃ y:ModI,cs=zi y∧True:=by
 obtain ⟨y0,y1,y2,n',_,hl,h0,h1,h2⟩:=trod_struct3 Tryz.underlying48 h
 rw [cellsMod] at hl
 match cs,hl with
 | [c0,c1,c2],_ =>
  simp [cells3,cellsBool] at h0 h1 h2
  obtain ⟨i0,e0,_⟩:=DataW.trod_int Tryz.underlying3 h0
  obtain ⟨i1,e1,_⟩:=DataW.trod_int Tryz.underlying3 h1
  obtain ⟨b2,e2,_⟩:=DataW.trod_bool Tryz.underlying4 h2
  exact ⟨⟨i0,i1,b2⟩,by simp_all [zi]⟩
theorem open_mods {n:Nat} {v:Value} {x:DataW H×List MemPlace} (h:DataW.trod enc Tryz.prog W base spare held n 22 [v]=some x):∃ A cap l,v=.slice A l.length cap∧l.length≤9223372036854775807∧GAt zi 3 W A l:=by
 have iI:Inhabited ModI:=⟨dM⟩
 obtain ⟨A,cap,l,h1,h2,h3,_⟩:=open_list (R:=fun _=>True) Tryz.underlying22 cellsMod (by decide) modCells_len (fun x=>⟨x.rd,rfl⟩) open_mod1 h
 exact ⟨A,cap,l,h1,h2,h3⟩
theorem open_do1 (n:Nat) (cs:List Value) (x:DataW H×List MemPlace) (h:DataW.trod enc Tryz.prog W base spare held n 46 cs=some x):∃ d:DoI,cs=zx d∧ActsAt W d.s.A d.s.len d.s.a:=by
 obtain ⟨y0,y1,y2,y3,y4,y5,y6,n',hl,h0,h1,h2,h3,h4,h5,h6⟩:=trod_struct7 Tryz.underlying46 h
 rw [cellsDo] at hl
 match cs,hl with
 | [c0,c1,c2,c3,c4,c5,c6,c7,c8,c9,c10,c11],_ =>
  simp [cells3,cellsBe,cellsS,cellsFil] at h0 h1 h2 h3 h4 h5 h6
  obtain ⟨i0,e0,_⟩:=DataW.trod_int Tryz.underlying3 h0
  obtain ⟨i1,e1,_⟩:=DataW.trod_int Tryz.underlying3 h1
  obtain ⟨i2,e2,_⟩:=DataW.trod_int Tryz.underlying3 h2
  obtain ⟨i3,e3,_⟩:=DataW.trod_int Tryz.underlying3 h3
  obtain ⟨i,g,e4⟩:=open_beingc h4
  obtain ⟨s,e5,ha⟩:=open_sysc h5
  obtain ⟨z0,z1,n'',_,_,g0,g1⟩:=trod_struct2 Tryz.underlying41 h6
  simp [cells3] at g0 g1
  obtain ⟨i6,e6,_⟩:=DataW.trod_int Tryz.underlying3 g0
  obtain ⟨i7,e7,_⟩:=DataW.trod_int Tryz.underlying3 g1
  refine ⟨⟨i0,i1,i2,i3,i,g,s,i6,i7⟩,?_,ha⟩
  simp only [List.cons.injEq,and_true] at e0 e1 e2 e3 e4 e5 e6 e7
  simp [zx,e0,e1,e2,e3,e4,e5,e6,e7]
theorem zCn (d:DoI):(zx d).length=12:=rfl
theorem open_dos {n:Nat} {v:Value} {x:DataW H×List MemPlace} (h:DataW.trod enc Tryz.prog W base spare held n 23 [v]=some x):∃ A cap l,v=.slice A l.length cap∧l.length≤9223372036854775807∧DosAt W A l:=by
 have iI:Inhabited DoI:=⟨⟨0,0,0,0,0,0,dS,0,0⟩⟩
 obtain ⟨A,cap,l,h1,h2,h3,h4⟩:=open_list (R:=fun d:DoI=>ActsAt W d.s.A d.s.len d.s.a) Tryz.underlying23 cellsDo (by decide) zCn (fun x=>⟨x.k,rfl⟩) open_do1 h
 exact ⟨A,cap,l,h1,h2,h3,h4⟩
end
end Go.Proofs.YtnbleebilmghcacGreat
