/- store.Get, store.Match of a store with which nothing is wrong. -/
import Derived.Test.YtnbleebilmghcacGreatJP
set_option linter.all false
set_option maxHeartbeats 4000000
set_option maxRecDepth 8000
namespace Go.Proofs.YtnbleebilmghcacGreat
open Go Go.RowKit
attribute [local go_sem ↓] Go.wp_at_zero Go.wp_at_succ
theorem sget_any (T:Option Addr) (tcap:Nat) (G:Option Addr) (gcap:Nat) (tabs:List TabI) (X:Wd) (i g p:Int) (w:World) (h:StAt w T G tabs X) :
  Calls Tryz.prog 24 #[stV T tabs.length tcap G X.gens.length gcap,zS i g,.int .i64 p] w fun e w'=>e=.returned (.tuple #[.int .i64 (zBW X i g p).1,.bool (zBW X i g p).2])∧Below w.heap.size w w':=by
 have hl:=(zAT ((zr X).2 h.right)).1
 have hBX:=Bxs.start w [([.slice T tabs.length tcap,.slice G X.gens.length gcap],28),([.int .i64 i,.int .i64 g],39)]
 have hb:=allocs_below [([.slice T tabs.length tcap,.slice G X.gens.length gcap],28),([.int .i64 i,.int .i64 g],39)] w
 have hWo:=fun W (hb:Below w.heap.size w W)=>sworld_any T tcap G gcap tabs X W (h.below hb)
 have hG:=fun A c G' gc W (hX:WldAt W A c G' gc X)=>get_any A X.rows.length c G' X.gens.length gc (fun j=>X.rows.getD j dR) i g p W (by omega) hX.rows
 have eG:getI (fun j=>X.rows.getD j dR) X.rows.length i g p=zBW X i g p:=rfl
 rw [eG] at hG
 unfold stV zz zR at hWo
 unfold zR zS at hG
 generalize (zBW X i g p).1=gv at *
 generalize (zBW X i g p).2=gb at *
 have h0:Bxs w.heap.size [([.slice T tabs.length tcap,.slice G X.gens.length gcap],28),([.int .i64 i,.int .i64 g],39)] (zAQ w [([.slice T tabs.length tcap,.slice G X.gens.length gcap],28),([.int .i64 i,.int .i64 g],39)]).drew∧Below w.heap.size w (zAQ w [([.slice T tabs.length tcap,.slice G X.gens.length gcap],28),([.int .i64 i,.int .i64 g],39)]).drew∧((fun (_:Nat)=>false) 1=true→∃ A c G' gc,undef=.agg #[.slice A X.rows.length c,.slice G' X.gens.length gc]∧WldAt (zAQ w [([.slice T tabs.length tcap,.slice G X.gens.length gcap],28),([.int .i64 i,.int .i64 g],39)]).drew A c G' gc X):=⟨hBX.below (Below.refl _ _).drew,hb.drew,fun e=>by cases e⟩
 have HW:=zB hWo
 have HG:=zB hG
 have H0:=zB h0
 clear hBX hb hWo hG eG h h0 hl
 unfold stV zS
 go_enter Tryz.func24,Tryz.ntmps24
 go_wp2_with fail
 have h0:=zA H0
 clear H0
 refine zi (fun (γ:Value) ix v=>if ix=1 then v=γ else (([fun v=>v=.agg #[.slice T tabs.length tcap,.slice G X.gens.length gcap],fun _=>True,fun v=>v=.agg #[.int .i64 i,.int .i64 g],fun v=>v=.int .i64 p,fun v=>v=.tuple #[.int .i64 gv,.bool gb],fun v=>v=.int .i64 gv,fun v=>v=.bool gb,fun v=>v=.int .i64 gv,fun v=>v=.bool gb]:List (Value→Prop)).getD ix (fun _=>True)) v) (fun (γ:Value) L W=>Bxs w.heap.size [([.slice T tabs.length tcap,.slice G X.gens.length gcap],28),([.int .i64 i,.int .i64 g],39)] W∧Below w.heap.size w W∧(L 1=true→∃ A c G' gc,γ=.agg #[.slice A X.rows.length c,.slice G' X.gens.length gc]∧WldAt W A c G' gc X)) (undef) (by kernel_rfl) (by kernel_rfl) (by kernel_rfl) h0 ?hstep ?hend
 case hstep =>
  intro γ ix o ho L ac w1 hD hL hed hcl hout hv
  match ix,ho with
  | 0,ho =>
   simp at ho
   subst ho
   have e3:ac.tmps.getD 3 undef=.pointer (some ⟨w.heap.size,0,none⟩):=hout 3 (by decide +kernel)
   have c0:=hD.1.cell 0 rfl 0 rfl
   have c1:=hD.1.cell 0 rfl 1 rfl
   rw [Nat.add_zero] at c0 c1
   exact .inl ⟨rfl,zG γ (.agg #[.slice T tabs.length tcap,.slice G X.gens.length gcap]) (by simp [go_sem,Act.eval,-Array.getD_eq_getD_getElem?,e3,c0,c1]) rfl (by rw [zQ (by decide)];exact hD) (fun _ _ _ _ h=>h)⟩
  | 1,ho =>
   simp at ho
   subst ho
   have e8:ac.tmps.getD 8 undef=.agg #[.slice T tabs.length tcap,.slice G X.gens.length gcap]:=hv 0 8 rfl (by kernel_rfl)
   refine .inl ⟨rfl,zy 14 #[.agg #[.slice T tabs.length tcap,.slice G X.gens.length gcap]] (by simp [go_sem,Act.eval,-Array.getD_eq_getD_getElem?,e8]) ?_⟩
   refine (zA HW _ hD.2.1).mono ?_
   rintro e w2 ⟨A2,c2,G2,gc2,rfl,hN2,hb2⟩
   exact ⟨_,.agg #[.slice A2 X.rows.length c2,.slice G2 X.gens.length gc2],rfl,rfl,⟨hD.1.below hb2,hD.2.1.trans (hb2.mono hD.2.1.size),fun _=>⟨A2,c2,G2,gc2,rfl,hN2.toWldAt⟩⟩,fun j u hj hLj h=>by simpa [hj] using h⟩
  | 2,ho =>
   simp at ho
   subst ho
   have e4:ac.tmps.getD 4 undef=.pointer (some ⟨w.heap.size+1,0,none⟩):=hout 4 (by decide +kernel)
   have c0:=hD.1.cell 1 rfl 0 rfl
   have c1:=hD.1.cell 1 rfl 1 rfl
   exact .inl ⟨rfl,zG γ (.agg #[.int .i64 i,.int .i64 g]) (by simp [go_sem,Act.eval,-Array.getD_eq_getD_getElem?,e4,c0,c1]) rfl (by rw [zQ (by decide)];exact hD) (fun _ _ _ _ h=>h)⟩
  | 3,ho =>
   simp at ho
   subst ho
   have e2:ac.tmps.getD 2 undef=.int .i64 p:=hout 2 (by decide +kernel)
   exact .inl ⟨rfl,zG γ (.int .i64 p) (by simp [go_sem,Act.eval,-Array.getD_eq_getD_getElem?,e2]) rfl (by rw [zQ (by decide)];exact hD) (fun _ _ _ _ h=>h)⟩
  | 4,ho =>
   simp at ho
   subst ho
   have e9:ac.tmps.getD 9 undef=γ:=hv 1 9 rfl (by kernel_rfl)
   have e10:ac.tmps.getD 10 undef=.agg #[.int .i64 i,.int .i64 g]:=hv 2 10 rfl (by kernel_rfl)
   have e11:ac.tmps.getD 11 undef=.int .i64 p:=hv 3 11 rfl (by kernel_rfl)
   have q1:L 1=true:=hed 1 (by kernel_rfl)
   obtain ⟨A2,c2,G2,gc2,hγ,hX2⟩:=hD.2.2 q1
   rw [hγ] at e9
   refine .inl ⟨rfl,zy 36 #[.agg #[.slice A2 X.rows.length c2,.slice G2 X.gens.length gc2],.agg #[.int .i64 i,.int .i64 g],.int .i64 p] (by simp [go_sem,Act.eval,-Array.getD_eq_getD_getElem?,e9,e10,e11]) ?_⟩
   refine (zA HG _ _ _ _ _ hX2).mono ?_
   rintro e w2 ⟨rfl,hb2⟩
   exact ⟨_,γ,rfl,rfl,⟨hD.1.below hb2,hD.2.1.trans (hb2.mono hD.2.1.size),fun _=>⟨A2,c2,G2,gc2,hγ,hX2.below hb2⟩⟩,fun _ _ _ _ h=>h⟩
  | 5,ho =>
   simp at ho
   subst ho
   have e12:ac.tmps.getD 12 undef=.tuple #[.int .i64 gv,.bool gb]:=hv 4 12 rfl (by kernel_rfl)
   exact .inl ⟨rfl,zG γ (.int .i64 gv) (by simp [go_sem,Act.eval,-Array.getD_eq_getD_getElem?,e12]) rfl (by rw [zQ (by decide)];exact hD) (fun _ _ _ _ h=>h)⟩
  | 6,ho =>
   simp at ho
   subst ho
   have e12:ac.tmps.getD 12 undef=.tuple #[.int .i64 gv,.bool gb]:=hv 4 12 rfl (by kernel_rfl)
   exact .inl ⟨rfl,zG γ (.bool gb) (by simp [go_sem,Act.eval,-Array.getD_eq_getD_getElem?,e12]) rfl (by rw [zQ (by decide)];exact hD) (fun _ _ _ _ h=>h)⟩
  | 7,ho =>
   simp at ho
   subst ho
   have e13:ac.tmps.getD 13 undef=.int .i64 gv:=hv 5 13 rfl (by kernel_rfl)
   exact .inl ⟨rfl,zG γ (.int .i64 gv) (by simp [go_sem,Act.eval,-Array.getD_eq_getD_getElem?,e13]) rfl (by rw [zQ (by decide)];exact hD) (fun _ _ _ _ h=>h)⟩
  | 8,ho =>
   simp at ho
   subst ho
   have e14:ac.tmps.getD 14 undef=.bool gb:=hv 6 14 rfl (by kernel_rfl)
   exact .inl ⟨rfl,zG γ (.bool gb) (by simp [go_sem,Act.eval,-Array.getD_eq_getD_getElem?,e14]) rfl (by rw [zQ (by decide)];exact hD) (fun _ _ _ _ h=>h)⟩
  | ix+9,ho=>simp at ho
 case hend =>
  intro γ v L w9 hD hall hv
  have v7:v 7=.int .i64 gv:=hv 7 6 rfl
  have v8:v 8=.bool gb:=hv 8 7 rfl
  have HD:=zB hD.2.1
  clear hv hall hD h0
  simp only [zn,List.getElem?_cons_zero,List.getElem?_cons_succ,Option.bind_some,List.length_cons,List.length_nil,Nat.reduceAdd,v7,v8]
  clear v7 v8
  go_frame
  go_wp2
  go_ret2
  exact ⟨rfl,zA HD⟩
end Go.Proofs.YtnbleebilmghcacGreat
