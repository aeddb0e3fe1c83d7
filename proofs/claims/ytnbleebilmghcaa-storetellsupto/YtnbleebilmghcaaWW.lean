/- PRPut0, PRPut, PTells0 -/
import Derived.Test.YtnbleebilmghcaaWA
import Derived.Test.YtnbleebilmghcaaWG
import Derived.Test.YtnbleebilmghcaaWU
import Derived.Test.YtnbleebilmghcaaWV
set_option linter.all false
namespace Go.Proofs.Ytnbleebilmghcaa
open Go Go.RowKit
attribute [local go_sem ↓] Go.wp_at_zero Go.wp_at_succ
theorem num_or_fin:∀ m:Fin 256,∀ p:Fin 8,numL [decide (p.val=0) || tb (m.val:Int) 0,decide (p.val=1) || tb (m.val:Int) 1,decide (p.val=2) || tb (m.val:Int) 2,decide (p.val=3) || tb (m.val:Int) 3,decide (p.val=4) || tb (m.val:Int) 4,decide (p.val=5) || tb (m.val:Int) 5,decide (p.val=6) || tb (m.val:Int) 6,decide (p.val=7) || tb (m.val:Int) 7]=bits .or .i64 (m.val:Int) (zBX (p.val:Int)):=by decide +kernel
theorem num_not_fin:∀ m:Fin 256,∀ p:Fin 8,numL [!decide (p.val=0) && tb (m.val:Int) 0,!decide (p.val=1) && tb (m.val:Int) 1,!decide (p.val=2) && tb (m.val:Int) 2,!decide (p.val=3) && tb (m.val:Int) 3,!decide (p.val=4) && tb (m.val:Int) 4,!decide (p.val=5) && tb (m.val:Int) 5,!decide (p.val=6) && tb (m.val:Int) 6,!decide (p.val=7) && tb (m.val:Int) 7]=bits .andNot .i64 (m.val:Int) (zBX (p.val:Int)):=by decide +kernel
structure YB (w:World) (u0 u1:Value) (i g:Int) (y:Nat) (x:RowI) (W:World):Prop extends CW w u0 u1 i g (.slice none 0 0) (.slice none 0 0) W where
 hy:w.heap.size+3≤y
 row:RowAt W y 0 x
 fr:∀ j,W.frozen? ⟨y,j,none⟩=false
section
variable {w W W1:World} {u0 u1:Value} {i g:Int} {y:Nat} {x:RowI}
theorem YB.ly (h:YB w u0 u1 i g y x W):y<W.heap.size:=World.block_lt_of_cell? W ⟨y,0,none⟩ h.row.c0
theorem YB.below (h:YB w u0 u1 i g y x W) (hb:Below W.heap.size W W1):YB w u0 u1 i g y x W1 :=
 ⟨h.toCW.below hb,h.hy,h.row.below hb,fun j=>(hb.frozen (p:=⟨y,j,none⟩) h.ly).trans (h.fr j)⟩
theorem YB.setHas (h:YB w u0 u1 i g y x W) (q:Int):YB w u0 u1 i g y ⟨x.ix,x.gen,q,x.v⟩ (W.setCell ⟨y,2,none⟩ (.int .i64 q)) :=
 ⟨h.toCW.keep ((Below.refl _ _).setCell (p:=⟨y,2,none⟩) h.hy _),h.hy,by have:=rowAt_set_has h.row q;rwa [Nat.zero_add] at this,fun j=>by simpa using h.fr j⟩
theorem YB.setV (h:YB w u0 u1 i g y x W) (k:Nat) (hk:k<8) (n:Int):YB w u0 u1 i g y ⟨x.ix,x.gen,x.has,fun j=>if j=k then n else x.v j⟩ (W.setCell ⟨y,3+k,none⟩ (.int .i64 n)) :=
 ⟨h.toCW.keep ((Below.refl _ _).setCell (p:=⟨y,3+k,none⟩) h.hy _),h.hy,by have:=zCJ h.row k hk n;rwa [Nat.zero_add] at this,fun j=>by simpa using h.fr j⟩
theorem YB.new (h:CW w u0 u1 i g (.slice none 0 0) (.slice none 0 0) W) (x:RowI):YB w u0 u1 i g W.heap.size x (W.alloc (.cells #[.int .i64 x.ix,.int .i64 x.gen,.int .i64 x.has,.int .i64 (x.v 0),.int .i64 (x.v 1),.int .i64 (x.v 2),.int .i64 (x.v 3),.int .i64 (x.v 4),.int .i64 (x.v 5),.int .i64 (x.v 6),.int .i64 (x.v 7)] 61)):=by
 obtain ⟨h1,h2⟩:=box_row W x 61
 exact ⟨h.below (zAS _ _),h.sz,h1,h2⟩
theorem YB.other (h:YB w u0 u1 i g y x W) {b o:Nat} {v:Value} (hb:w.heap.size+3≤b) (hne:y≠b):YB w u0 u1 i g y x (W.setCell ⟨b,o,none⟩ v) :=
 ⟨h.toCW.keep ((Below.refl _ _).setCell (p:=⟨b,o,none⟩) hb _),h.hy,rowAt_other hne.symm h.row,fun j=>by simpa using h.fr j⟩
theorem YB.arr (h:YB w u0 u1 i g y x W) (a:Array Value) (q:Nat) (v:Value):YB w u0 u1 i g y x ((W.alloc (.cells a 24)).setCell ⟨W.heap.size,q,none⟩ v) :=
 (h.below (zAS W (.cells a 24))).other (Nat.le_trans h.hy (Nat.le_of_lt h.ly)) (Nat.ne_of_lt h.ly)
end
theorem set8 (h:Int) (v:Bool) (q:Nat) (hq:q<8) (t:Nat) (ht:t<8) (hl:t<([Value.bool (tb h 0),Value.bool (tb h 1),Value.bool (tb h 2),Value.bool (tb h 3),Value.bool (tb h 4),Value.bool (tb h 5),Value.bool (tb h 6),Value.bool (tb h 7)].set q (Value.bool v)).length):([Value.bool (tb h 0),Value.bool (tb h 1),Value.bool (tb h 2),Value.bool (tb h 3),Value.bool (tb h 4),Value.bool (tb h 5),Value.bool (tb h 6),Value.bool (tb h 7)].set q (Value.bool v))[t]=.bool (if q=t then v else tb h t):=by
 rw [List.getElem_set]
 split
 ·rfl
 ·rcases (by omega:t=0∨t=1∨t=2∨t=3∨t=4∨t=5∨t=6∨t=7) with rfl | rfl | rfl | rfl | rfl | rfl | rfl | rfl <;> rfl
end Go.Proofs.Ytnbleebilmghcaa
set_option maxHeartbeats 4000000
set_option maxRecDepth 8000
namespace Go.Proofs.Ytnbleebilmghcaa
open Go Go.RowKit
attribute [local go_sem ↓] Go.wp_at_zero Go.wp_at_succ
theorem rput_yes (A:Option Addr) (cap:Nat) (G:Option Addr) (gcap:Nat) (X:Wd) (i g n:Int) (q:Nat) (hq:q<8) (w:World) (hX:WldAt w A cap G gcap X) (hw0:(zN X).1=0) {k:Nat} (hk:k<X.rows.length) (hf:zAe X i g=(k:Int)) (hvn:zBo n=true) :
  Calls Try.prog 45 #[zAA A cap G gcap X,zW i g,.int .i64 (q:Int),.int .i64 n] w fun e w'=>∃ A' c' G' gc',e=.returned (.tuple #[zAA A' c' G' gc' ⟨X.rows.set k (putR (zX X k) (q:Int) n),X.gens⟩,.int .i64 0])∧WldDoc w.heap.size w' G A' c' G' gc' ⟨X.rows.set k (putR (zX X k) (q:Int) n),X.gens⟩∧Below w.heap.size w w':=by
 obtain ⟨hl,hgl,_⟩:=zq hw0
 have hr:=(zk X).1 hw0
 have hCW:=CW.start w (.slice A X.rows.length cap) (.slice G X.gens.length gcap) i g
 have hP:=fun W (hb:Below w.heap.size w W)=>zp A X.rows.length cap G X.gens.length gcap (fun j=>X.rows.getD j dR) (fun j=>X.gens.getD j 0) W (by omega) (hX.rows.below hb) (hX.gens.below hb)
 have eW:zAL (fun j=>X.rows.getD j dR) X.rows.length X.gens.length (fun j=>X.gens.getD j 0)=zN X:=rfl
 rw [eW] at hP
 unfold zAE zQ at hP
 rw [hw0] at hP
 have hR:=fun W (h:WldAt W A cap G gcap X)=>zCG hf hl A cap G gcap W h
 have hset:=with_set hr hk (putR (zX X k) (q:Int) n) rfl
 have hWI:=fun W (h:WldAt W A cap G gcap X)=>rwith_any A cap G gcap X (putR (zX X k) (q:Int) n) W (by omega) h
 rw [hset] at hWI
 obtain ⟨hb,_⟩:=zAt (hr.rv k hk)
 have hVL:=zAp n
 rw [hvn] at hVL
 unfold zAA zQ zm at hWI
 generalize (zN X).2=wa at *
 generalize zX X k=x at *
 generalize X.rows.set k (putR x (q:Int) n)=rows' at *
 have hBI:=fun W=>bits_bel x.has W hb.1 hb.2
 have hnum:numL [(if q=0 then true else tb x.has 0),(if q=1 then true else tb x.has 1),(if q=2 then true else tb x.has 2),(if q=3 then true else tb x.has 3),(if q=4 then true else tb x.has 4),(if q=5 then true else tb x.has 5),(if q=6 then true else tb x.has 6),(if q=7 then true else tb x.has 7)]=bits .or .i64 x.has (zBX (q:Int)):=by
  obtain ⟨m,hm⟩:=fin_of x.has hb.1 hb.2
  have:=num_or_fin m ⟨q,hq⟩
  rw [hm,←this]
  congr 1
  simp only [List.cons.injEq,and_true]
  refine ⟨?_,?_,?_,?_,?_,?_,?_,?_⟩ <;> (split <;> simp_all)
 have hNU:=fun W=>num_any (if q=0 then true else tb x.has 0) (if q=1 then true else tb x.has 1) (if q=2 then true else tb x.has 2) (if q=3 then true else tb x.has 3) (if q=4 then true else tb x.has 4) (if q=5 then true else tb x.has 5) (if q=6 then true else tb x.has 6) (if q=7 then true else tb x.has 7) W
 rw [hnum] at hNU
 have ez:putR x (q:Int) n=⟨x.ix,x.gen,bits .or .i64 x.has (zBX (q:Int)),fun j=>if j=q then n else x.v j⟩:=rfl
 generalize putR x (q:Int) n=z at *
 have HE:=zB ez
 clear ez hnum
 generalize bits .or .i64 x.has (zBX (q:Int))=hs at *
 have q0:(0:Int)≤(q:Int):=by omega
 have q1:(q:Int)<8:=by omega
 have q2:¬ (7:Int)<(q:Int):=by omega
 have q3:¬ (q:Int)<0:=by omega
 have HP:=zB hP
 have HX:=zB hX
 have HCW:=zB hCW
 have HR:=zB hR
 have HWI:=zB hWI
 have HVL:=zB hVL
 have HBI:=zB hBI
 have HNU:=zB hNU
 clear hP hX hCW hR hWI hVL hBI hNU hset hr hf hk hw0 hvn hb eW
 unfold zAA zQ zW
 go_enter Try.func45,Try.ntmps45
 go_wp2_with (first
  | (go_at_call 35;refine (zA HP _ (zA HCW).bel).mono ?_;rintro e w5 ⟨rfl,hb5⟩;have hC5:=(zA HCW).below hb5;have hC6:=hC5.below ((Below.refl _ _).alloc (Nat.le_refl _) (.cells #[.int .i64 0,.int .i64 wa] 43));have r0:=hC6.r0;have r1:=hC6.r1;have s0:=hC6.s0;have s1:=hC6.s1;have HC6:=zB hC6;clear hb5 hC5 hC6)
  | (go_at_call 49;refine (zA HR _ ((zA HX).below (zA HC6).bel)).mono ?_;rintro e w7 ⟨b7,o7,rfl,hrw,hb7⟩;have hC7:=(zA HC6).below hb7;clear r0 r1 s0 s1;have c0:=hrw.c0;have c1:=hrw.c1;have c2:=hrw.c2;have c3:=hrw.v 0 (by omega);have c4:=hrw.v 1 (by omega);have c5:=hrw.v 2 (by omega);have c6:=hrw.v 3 (by omega);have c7:=hrw.v 4 (by omega);have c8:=hrw.v 5 (by omega);have c9:=hrw.v 6 (by omega);have c10:=hrw.v 7 (by omega);simp only [Nat.add_assoc,Nat.reduceAdd] at c3 c4 c5 c6 c7 c8 c9 c10;have HC7:=zB hC7;clear hb7 hC7 hrw)
  | (go_at_call 19;refine (zA HVL _).mono ?_;rintro e w8 ⟨rfl,hw8⟩;obtain rfl:=hw8.symm)
  | (go_at_call 22;refine (zA HBI _).mono ?_;rintro e w9 ⟨rfl,hb9,hz9⟩;have HY9:=zB ((YB.new (zA HC7) x).below hb9);clear hb9 hz9 c0 c1 c2 c3 c4 c5 c6 c7 c8 c9 c10)
  | (go_at_call 28;rw [set8 x.has true q hq 0 (by decide),set8 x.has true q hq 1 (by decide),set8 x.has true q hq 2 (by decide),set8 x.has true q hq 3 (by decide),set8 x.has true q hq 4 (by decide),set8 x.has true q hq 5 (by decide),set8 x.has true q hq 6 (by decide),set8 x.has true q hq 7 (by decide)];refine (zA HNU _).mono ?_;rintro e w12 ⟨rfl,hw12⟩;have HY12:Hid (YB w (.slice A X.rows.length cap) (.slice G X.gens.length gcap) i g w7.heap.size x w12):=zB (by rw [hw12];exact ((zA HY9).below (zAS _ _)).below (zAS _ _));clear hw12 HY9)
  | (refine zV rfl 3 (.tmp 52) (.tmp 50) rfl w7.heap.size 2 (.int .i64 hs) rfl rfl rfl size3 (zAC (zA HY12).row.c2 (zA HY12).fr) ?_;intro W13 hW13;have hY13:=(zA HY12).setHas hs;rw [←hW13] at hY13;have HY13:=zB hY13;clear hW13 hY13 HY12)
  | (refine zV rfl 3 (.tmp 54) (.tmp 51) rfl w7.heap.size (3+q) (.int .i64 n) rfl rfl rfl size3 (by have:=zAC ((zA HY13).row.v q hq) (zA HY13).fr;rwa [Nat.zero_add] at this) ?_;intro W14 hW14;have hY14:=(zA HY13).setV q hq n;rw [←hW14] at hY14;obtain ⟨p0,p1,p2,p3,p4,p5,p6,p7,p8,p9,p10⟩:=rowAt0 (by have:=hY14.row;rw [←zA HE] at this;exact this);have r0:=hY14.r0;have r1:=hY14.r1;have HC14:=zB hY14.toCW;clear hW14 hY14 HY13)
  | (go_at_call 86;refine (zA HWI _ ((zA HX).below (zA HC14).bel)).mono ?_;rintro e w15 ⟨A5,c5,rfl,ho5,hb15⟩;have HC15:=zB ((zA HC14).below hb15);have HO5:=zB (zAi ho5 (zA HC14).sz);clear ho5 hb15 r0 r1 p0 p1 p2 p3 p4 p5 p6 p7 p8 p9 p10 HC14)
  | (refine zG rfl 38 (.tmp 8) (.tmp 57) rfl (w.heap.size+2) 0 [.slice A5 rows'.length c5,.slice G X.gens.length gcap] rfl rfl (by simp [Value.oneCell']) size38 (zA HC15).there ?_;intro W3 hW3;have hC8:=(zA HC15).give (.slice A5 rows'.length c5) (.slice G X.gens.length gcap);have ho8:=zw (b:=w.heap.size+2) (by omega) [.slice A5 rows'.length c5,.slice G X.gens.length gcap] 0 _ (zA HO5);rw [←hW3] at hC8 ho8;have HC8:=zB hC8;have HO8:=zB ho8;clear hW3 hC8 ho8))
 have t0:=(zA HC8).t0
 have t1:=(zA HC8).t1
 refine bodyPost_ret (v:=.tuple #[.agg #[.slice A5 rows'.length c5,.slice G X.gens.length gcap],.int .i64 0]) (by simp [results,Try.results45,go_sem,t0,t1]) rfl ⟨A5,c5,G,gcap,rfl,⟨⟨zAk (zA HO8),((zA HX).below (zA HC8).bel).gens⟩,zAH (zA HO8) (by omega),.inl rfl⟩,(zA HC8).bel⟩
theorem rdrop_yes (A:Option Addr) (cap:Nat) (G:Option Addr) (gcap:Nat) (X:Wd) (i g:Int) (q:Nat) (hq:q<8) (w:World) (hX:WldAt w A cap G gcap X) (hw0:(zN X).1=0) {k:Nat} (hk:k<X.rows.length) (hf:zAe X i g=(k:Int)) (hhs:hasB (zX X k).has (q:Int)=true) :
  Calls Try.prog 47 #[zAA A cap G gcap X,zW i g,.int .i64 (q:Int)] w fun e w'=>∃ A' c' G' gc',e=.returned (.tuple #[zAA A' c' G' gc' ⟨X.rows.set k (dropR (zX X k) (q:Int)),X.gens⟩,.int .i64 0])∧WldDoc w.heap.size w' G A' c' G' gc' ⟨X.rows.set k (dropR (zX X k) (q:Int)),X.gens⟩∧Below w.heap.size w w':=by
 obtain ⟨hl,hgl,_⟩:=zq hw0
 have hr:=(zk X).1 hw0
 have hCW:=CW.start w (.slice A X.rows.length cap) (.slice G X.gens.length gcap) i g
 have hP:=fun W (hb:Below w.heap.size w W)=>zp A X.rows.length cap G X.gens.length gcap (fun j=>X.rows.getD j dR) (fun j=>X.gens.getD j 0) W (by omega) (hX.rows.below hb) (hX.gens.below hb)
 have eW:zAL (fun j=>X.rows.getD j dR) X.rows.length X.gens.length (fun j=>X.gens.getD j 0)=zN X:=rfl
 rw [eW] at hP
 unfold zAE zQ at hP
 rw [hw0] at hP
 have hR:=fun W (h:WldAt W A cap G gcap X)=>zCG hf hl A cap G gcap W h
 have hset:=with_set hr hk (dropR (zX X k) (q:Int)) rfl
 have hWI:=fun W (h:WldAt W A cap G gcap X)=>rwith_any A cap G gcap X (dropR (zX X k) (q:Int)) W (by omega) h
 rw [hset] at hWI
 obtain ⟨hb,_⟩:=zAt (hr.rv k hk)
 unfold zAA zQ zm at hWI
 generalize (zN X).2=wa at *
 generalize zX X k=x at *
 have hVL:=fun W=>rhas_any x.has (q:Int) W hb.1 hb.2
 rw [hhs] at hVL
 generalize X.rows.set k (dropR x (q:Int))=rows' at *
 have hBI:=fun W=>bits_bel x.has W hb.1 hb.2
 have hnum:numL [(if q=0 then false else tb x.has 0),(if q=1 then false else tb x.has 1),(if q=2 then false else tb x.has 2),(if q=3 then false else tb x.has 3),(if q=4 then false else tb x.has 4),(if q=5 then false else tb x.has 5),(if q=6 then false else tb x.has 6),(if q=7 then false else tb x.has 7)]=bits .andNot .i64 x.has (zBX (q:Int)):=by
  obtain ⟨m,hm⟩:=fin_of x.has hb.1 hb.2
  have:=num_not_fin m ⟨q,hq⟩
  rw [hm,←this]
  congr 1
  simp only [List.cons.injEq,and_true]
  refine ⟨?_,?_,?_,?_,?_,?_,?_,?_⟩ <;> (split <;> simp_all)
 have hNU:=fun W=>num_any (if q=0 then false else tb x.has 0) (if q=1 then false else tb x.has 1) (if q=2 then false else tb x.has 2) (if q=3 then false else tb x.has 3) (if q=4 then false else tb x.has 4) (if q=5 then false else tb x.has 5) (if q=6 then false else tb x.has 6) (if q=7 then false else tb x.has 7) W
 rw [hnum] at hNU
 have ez:dropR x (q:Int)=⟨x.ix,x.gen,bits .andNot .i64 x.has (zBX (q:Int)),fun j=>if j=q then 0 else x.v j⟩:=rfl
 generalize dropR x (q:Int)=z at *
 have HE:=zB ez
 clear ez hnum
 generalize bits .andNot .i64 x.has (zBX (q:Int))=hs at *
 have q0:(0:Int)≤(q:Int):=by omega
 have q1:(q:Int)<8:=by omega
 have q2:¬ (7:Int)<(q:Int):=by omega
 have q3:¬ (q:Int)<0:=by omega
 have HP:=zB hP
 have HX:=zB hX
 have HCW:=zB hCW
 have HR:=zB hR
 have HWI:=zB hWI
 have HVL:=zB hVL
 have HBI:=zB hBI
 have HNU:=zB hNU
 clear hP hX hCW hR hWI hVL hBI hNU hset hr hf hk hw0 hhs hb eW
 unfold zAA zQ zW
 go_enter Try.func47,Try.ntmps47
 go_wp2_with (first
  | (go_at_call 35;refine (zA HP _ (zA HCW).bel).mono ?_;rintro e w5 ⟨rfl,hb5⟩;have hC5:=(zA HCW).below hb5;have hC6:=hC5.below ((Below.refl _ _).alloc (Nat.le_refl _) (.cells #[.int .i64 0,.int .i64 wa] 43));have r0:=hC6.r0;have r1:=hC6.r1;have s0:=hC6.s0;have s1:=hC6.s1;have HC6:=zB hC6;clear hb5 hC5 hC6)
  | (go_at_call 49;refine (zA HR _ ((zA HX).below (zA HC6).bel)).mono ?_;rintro e w7 ⟨b7,o7,rfl,hrw,hb7⟩;have hC7:=(zA HC6).below hb7;clear r0 r1 s0 s1;have c0:=hrw.c0;have c1:=hrw.c1;have c2:=hrw.c2;have c3:=hrw.v 0 (by omega);have c4:=hrw.v 1 (by omega);have c5:=hrw.v 2 (by omega);have c6:=hrw.v 3 (by omega);have c7:=hrw.v 4 (by omega);have c8:=hrw.v 5 (by omega);have c9:=hrw.v 6 (by omega);have c10:=hrw.v 7 (by omega);simp only [Nat.add_assoc,Nat.reduceAdd] at c3 c4 c5 c6 c7 c8 c9 c10;have HC7:=zB hC7;clear hb7 hC7 hrw)
  | (go_at_call 26;refine (zA HVL _).mono ?_;rintro e w8 ⟨rfl,hb8⟩;replace c0:=zD hb8 c0;replace c1:=zD hb8 c1;replace c2:=zD hb8 c2;replace c3:=zD hb8 c3;replace c4:=zD hb8 c4;replace c5:=zD hb8 c5;replace c6:=zD hb8 c6;replace c7:=zD hb8 c7;replace c8:=zD hb8 c8;replace c9:=zD hb8 c9;replace c10:=zD hb8 c10;have HC8:=zB ((zA HC7).below hb8);clear hb8 HC7)
  | (go_at_call 22;refine (zA HBI _).mono ?_;rintro e w9 ⟨rfl,hb9,hz9⟩;have HY9:=zB ((YB.new (zA HC8) x).below hb9);clear hb9 hz9 c0 c1 c2 c3 c4 c5 c6 c7 c8 c9 c10)
  | (go_at_call 28;rw [set8 x.has false q hq 0 (by decide),set8 x.has false q hq 1 (by decide),set8 x.has false q hq 2 (by decide),set8 x.has false q hq 3 (by decide),set8 x.has false q hq 4 (by decide),set8 x.has false q hq 5 (by decide),set8 x.has false q hq 6 (by decide),set8 x.has false q hq 7 (by decide)];refine (zA HNU _).mono ?_;rintro e w12 ⟨rfl,hw12⟩;have HY12:Hid (YB w (.slice A X.rows.length cap) (.slice G X.gens.length gcap) i g w8.heap.size x w12):=zB (by rw [hw12];exact ((zA HY9).below (zAS _ _)).below (zAS _ _));clear hw12 HY9)
  | (refine zV rfl 3 (.tmp 46) (.tmp 45) rfl w8.heap.size 2 (.int .i64 hs) rfl rfl rfl size3 (zAC (zA HY12).row.c2 (zA HY12).fr) ?_;intro W13 hW13;have hY13:=(zA HY12).setHas hs;rw [←hW13] at hY13;have HY13:=zB hY13;clear hW13 hY13 HY12)
  | (refine zV rfl 3 (.tmp 48) (.const (.int .i64 0)) rfl w8.heap.size (3+q) (.int .i64 0) rfl rfl rfl size3 (by have:=zAC ((zA HY13).row.v q hq) (zA HY13).fr;rwa [Nat.zero_add] at this) ?_;intro W14 hW14;have hY14:=(zA HY13).setV q hq 0;rw [←hW14] at hY14;obtain ⟨p0,p1,p2,p3,p4,p5,p6,p7,p8,p9,p10⟩:=rowAt0 (by have:=hY14.row;rw [←zA HE] at this;exact this);have r0:=hY14.r0;have r1:=hY14.r1;have HC14:=zB hY14.toCW;clear hW14 hY14 HY13)
  | (go_at_call 86;refine (zA HWI _ ((zA HX).below (zA HC14).bel)).mono ?_;rintro e w15 ⟨A5,c5,rfl,ho5,hb15⟩;have HC15:=zB ((zA HC14).below hb15);have HO5:=zB (zAi ho5 (zA HC14).sz);clear ho5 hb15 r0 r1 p0 p1 p2 p3 p4 p5 p6 p7 p8 p9 p10 HC14)
  | (refine zG rfl 38 (.tmp 6) (.tmp 51) rfl (w.heap.size+2) 0 [.slice A5 rows'.length c5,.slice G X.gens.length gcap] rfl rfl (by simp [Value.oneCell']) size38 (zA HC15).there ?_;intro W3 hW3;have hC9:=(zA HC15).give (.slice A5 rows'.length c5) (.slice G X.gens.length gcap);have ho8:=zw (b:=w.heap.size+2) (by omega) [.slice A5 rows'.length c5,.slice G X.gens.length gcap] 0 _ (zA HO5);rw [←hW3] at hC9 ho8;have HC9:=zB hC9;have HO8:=zB ho8;clear hW3 hC9 ho8))
 have t0:=(zA HC9).t0
 have t1:=(zA HC9).t1
 refine bodyPost_ret (v:=.tuple #[.agg #[.slice A5 rows'.length c5,.slice G X.gens.length gcap],.int .i64 0]) (by simp [results,Try.results47,go_sem,t0,t1]) rfl ⟨A5,c5,G,gcap,rfl,⟨⟨zAk (zA HO8),((zA HX).below (zA HC9).bel).gens⟩,zAH (zA HO8) (by omega),.inl rfl⟩,(zA HC9).bel⟩
theorem rput_none (A:Option Addr) (cap:Nat) (G:Option Addr) (gcap:Nat) (X:Wd) (i g p n:Int) (w:World) (hn0:X.rows.length≤9223372036854775807) (hX:WldAt w A cap G gcap X) (hw0:(zN X).1=0) (hf:zAe X i g=-1) :
  Calls Try.prog 45 #[zAA A cap G gcap X,zW i g,.int .i64 p,.int .i64 n] w fun e w'=>∃ A' c' G' gc',e=.returned (.tuple #[zAA A' c' G' gc' emptyW,.int .i64 5])∧WldDoc w.heap.size w' G A' c' G' gc' emptyW∧Below w.heap.size w w':=by
 have hCW:=CW.start w (.slice A X.rows.length cap) (.slice G X.gens.length gcap) i g
 have hP:=fun W (hb:Below w.heap.size w W)=>zp A X.rows.length cap G X.gens.length gcap (fun j=>X.rows.getD j dR) (fun j=>X.gens.getD j 0) W (by omega) (hX.rows.below hb) (hX.gens.below hb)
 have eW:zAL (fun j=>X.rows.getD j dR) X.rows.length X.gens.length (fun j=>X.gens.getD j 0)=zN X:=rfl
 rw [eW] at hP
 unfold zAE zQ at hP
 obtain ⟨hl,hgl,_⟩:=zq hw0
 rw [hw0] at hP
 have hR:=fun W (h:WldAt W A cap G gcap X)=>row_none hf hl A cap G gcap W h
 generalize (zN X).2=wa at *
 have HP:=zB hP
 have HX:=zB hX
 have HCW:=zB hCW
 have HR:=zB hR
 clear hR hf
 clear hP hX hCW eW hw0
 unfold zAA zQ zW emptyW
 go_enter Try.func45,Try.ntmps45
 go_wp2_with (first
  | (go_at_call 35;refine (zA HP _ (zA HCW).bel).mono ?_;rintro e w5 ⟨rfl,hb5⟩;have hC5:=(zA HCW).below hb5;have hC6:=hC5.below ((Below.refl _ _).alloc (Nat.le_refl _) (.cells #[.int .i64 0,.int .i64 wa] 43));have r0:=hC6.r0;have r1:=hC6.r1;have s0:=hC6.s0;have s1:=hC6.s1;have HC6:=zB hC6;clear hb5 hC5 hC6)
  | (go_at_call 49;refine (zA HR _ ((zA HX).below (zA HC6).bel)).mono ?_;rintro e w7 ⟨rfl,hb7⟩;have HC7:=zB ((zA HC6).below hb7);clear hb7 r0 r1 s0 s1)
  | (refine zG rfl 38 (.tmp 8) (.tmp 27) rfl (w.heap.size+2) 0 [.slice none 0 0,.slice none 0 0] rfl rfl (by simp [Value.oneCell']) size38 (zA HC7).there ?_;intro W3 hW3;have hC8:=(zA HC7).give (.slice none 0 0) (.slice none 0 0);rw [←hW3] at hC8;have HC8:=zB hC8;clear hW3 hC8))
 have t0:=(zA HC8).t0
 have t1:=(zA HC8).t1
 refine bodyPost_ret (v:=.tuple #[.agg #[.slice none 0 0,.slice none 0 0],.int .i64 5]) (by simp [results,Try.results45,go_sem,t0,t1]) rfl ⟨none,0,none,0,rfl,zz _ _ _,(zA HC8).bel⟩
theorem rdrop_none (A:Option Addr) (cap:Nat) (G:Option Addr) (gcap:Nat) (X:Wd) (i g p:Int) (w:World) (hn0:X.rows.length≤9223372036854775807) (hX:WldAt w A cap G gcap X) (hw0:(zN X).1=0) (hf:zAe X i g=-1) :
  Calls Try.prog 47 #[zAA A cap G gcap X,zW i g,.int .i64 p] w fun e w'=>∃ A' c' G' gc',e=.returned (.tuple #[zAA A' c' G' gc' emptyW,.int .i64 5])∧WldDoc w.heap.size w' G A' c' G' gc' emptyW∧Below w.heap.size w w':=by
 have hCW:=CW.start w (.slice A X.rows.length cap) (.slice G X.gens.length gcap) i g
 have hP:=fun W (hb:Below w.heap.size w W)=>zp A X.rows.length cap G X.gens.length gcap (fun j=>X.rows.getD j dR) (fun j=>X.gens.getD j 0) W (by omega) (hX.rows.below hb) (hX.gens.below hb)
 have eW:zAL (fun j=>X.rows.getD j dR) X.rows.length X.gens.length (fun j=>X.gens.getD j 0)=zN X:=rfl
 rw [eW] at hP
 unfold zAE zQ at hP
 obtain ⟨hl,hgl,_⟩:=zq hw0
 rw [hw0] at hP
 have hR:=fun W (h:WldAt W A cap G gcap X)=>row_none hf hl A cap G gcap W h
 generalize (zN X).2=wa at *
 have HP:=zB hP
 have HX:=zB hX
 have HCW:=zB hCW
 have HR:=zB hR
 clear hR hf
 clear hP hX hCW eW hw0
 unfold zAA zQ zW emptyW
 go_enter Try.func47,Try.ntmps47
 go_wp2_with (first
  | (go_at_call 35;refine (zA HP _ (zA HCW).bel).mono ?_;rintro e w5 ⟨rfl,hb5⟩;have hC5:=(zA HCW).below hb5;have hC6:=hC5.below ((Below.refl _ _).alloc (Nat.le_refl _) (.cells #[.int .i64 0,.int .i64 wa] 43));have r0:=hC6.r0;have r1:=hC6.r1;have s0:=hC6.s0;have s1:=hC6.s1;have HC6:=zB hC6;clear hb5 hC5 hC6)
  | (go_at_call 49;refine (zA HR _ ((zA HX).below (zA HC6).bel)).mono ?_;rintro e w7 ⟨rfl,hb7⟩;have HC7:=zB ((zA HC6).below hb7);clear hb7 r0 r1 s0 s1)
  | (refine zG rfl 38 (.tmp 6) (.tmp 34) rfl (w.heap.size+2) 0 [.slice none 0 0,.slice none 0 0] rfl rfl (by simp [Value.oneCell']) size38 (zA HC7).there ?_;intro W3 hW3;have hC8:=(zA HC7).give (.slice none 0 0) (.slice none 0 0);rw [←hW3] at hC8;have HC8:=zB hC8;clear hW3 hC8))
 have t0:=(zA HC8).t0
 have t1:=(zA HC8).t1
 refine bodyPost_ret (v:=.tuple #[.agg #[.slice none 0 0,.slice none 0 0],.int .i64 5]) (by simp [results,Try.results47,go_sem,t0,t1]) rfl ⟨none,0,none,0,rfl,zz _ _ _,(zA HC8).bel⟩
theorem rput_lo (A:Option Addr) (cap:Nat) (G:Option Addr) (gcap:Nat) (X:Wd) (i g p n:Int) (w:World) (hn0:X.rows.length≤9223372036854775807) (hX:WldAt w A cap G gcap X) (hw0:(zN X).1=0) {k:Nat} (hf:zAe X i g=(k:Int)) (hp:p<0) :
  Calls Try.prog 45 #[zAA A cap G gcap X,zW i g,.int .i64 p,.int .i64 n] w fun e w'=>∃ A' c' G' gc',e=.returned (.tuple #[zAA A' c' G' gc' emptyW,.int .i64 3])∧WldDoc w.heap.size w' G A' c' G' gc' emptyW∧Below w.heap.size w w':=by
 have hCW:=CW.start w (.slice A X.rows.length cap) (.slice G X.gens.length gcap) i g
 have hP:=fun W (hb:Below w.heap.size w W)=>zp A X.rows.length cap G X.gens.length gcap (fun j=>X.rows.getD j dR) (fun j=>X.gens.getD j 0) W (by omega) (hX.rows.below hb) (hX.gens.below hb)
 have eW:zAL (fun j=>X.rows.getD j dR) X.rows.length X.gens.length (fun j=>X.gens.getD j 0)=zN X:=rfl
 rw [eW] at hP
 unfold zAE zQ at hP
 obtain ⟨hl,hgl,_⟩:=zq hw0
 rw [hw0] at hP
 have hR:=fun W (h:WldAt W A cap G gcap X)=>zCG hf hl A cap G gcap W h
 generalize (zN X).2=wa at *
 have HP:=zB hP
 have HX:=zB hX
 have HCW:=zB hCW
 have HR:=zB hR
 clear hR hf
 clear hP hX hCW eW hw0
 unfold zAA zQ zW emptyW
 go_enter Try.func45,Try.ntmps45
 go_wp2_with (first
  | (go_at_call 35;refine (zA HP _ (zA HCW).bel).mono ?_;rintro e w5 ⟨rfl,hb5⟩;have hC5:=(zA HCW).below hb5;have hC6:=hC5.below ((Below.refl _ _).alloc (Nat.le_refl _) (.cells #[.int .i64 0,.int .i64 wa] 43));have r0:=hC6.r0;have r1:=hC6.r1;have s0:=hC6.s0;have s1:=hC6.s1;have HC6:=zB hC6;clear hb5 hC5 hC6)
  | (go_at_call 49;refine (zA HR _ ((zA HX).below (zA HC6).bel)).mono ?_;rintro e w7 ⟨b7,o7,rfl,hrw,hb7⟩;have c2:=hrw.c2;have HC7:=zB ((zA HC6).below hb7);clear hb7 hrw r0 r1 s0 s1)
  | (refine zG rfl 38 (.tmp 8) (.tmp 39) rfl (w.heap.size+2) 0 [.slice none 0 0,.slice none 0 0] rfl rfl (by simp [Value.oneCell']) size38 (zA HC7).there ?_;intro W3 hW3;have hC8:=(zA HC7).give (.slice none 0 0) (.slice none 0 0);rw [←hW3] at hC8;have HC8:=zB hC8;clear hW3 hC8))
 have t0:=(zA HC8).t0
 have t1:=(zA HC8).t1
 refine bodyPost_ret (v:=.tuple #[.agg #[.slice none 0 0,.slice none 0 0],.int .i64 3]) (by simp [results,Try.results45,go_sem,t0,t1]) rfl ⟨none,0,none,0,rfl,zz _ _ _,(zA HC8).bel⟩
theorem rput_hi (A:Option Addr) (cap:Nat) (G:Option Addr) (gcap:Nat) (X:Wd) (i g p n:Int) (w:World) (hn0:X.rows.length≤9223372036854775807) (hX:WldAt w A cap G gcap X) (hw0:(zN X).1=0) {k:Nat} (hf:zAe X i g=(k:Int)) (hp0:¬ p<0) (hp:7<p) :
  Calls Try.prog 45 #[zAA A cap G gcap X,zW i g,.int .i64 p,.int .i64 n] w fun e w'=>∃ A' c' G' gc',e=.returned (.tuple #[zAA A' c' G' gc' emptyW,.int .i64 3])∧WldDoc w.heap.size w' G A' c' G' gc' emptyW∧Below w.heap.size w w':=by
 have hCW:=CW.start w (.slice A X.rows.length cap) (.slice G X.gens.length gcap) i g
 have hP:=fun W (hb:Below w.heap.size w W)=>zp A X.rows.length cap G X.gens.length gcap (fun j=>X.rows.getD j dR) (fun j=>X.gens.getD j 0) W (by omega) (hX.rows.below hb) (hX.gens.below hb)
 have eW:zAL (fun j=>X.rows.getD j dR) X.rows.length X.gens.length (fun j=>X.gens.getD j 0)=zN X:=rfl
 rw [eW] at hP
 unfold zAE zQ at hP
 obtain ⟨hl,hgl,_⟩:=zq hw0
 rw [hw0] at hP
 have hR:=fun W (h:WldAt W A cap G gcap X)=>zCG hf hl A cap G gcap W h
 generalize (zN X).2=wa at *
 have HP:=zB hP
 have HX:=zB hX
 have HCW:=zB hCW
 have HR:=zB hR
 clear hR hf
 clear hP hX hCW eW hw0
 unfold zAA zQ zW emptyW
 go_enter Try.func45,Try.ntmps45
 go_wp2_with (first
  | (go_at_call 35;refine (zA HP _ (zA HCW).bel).mono ?_;rintro e w5 ⟨rfl,hb5⟩;have hC5:=(zA HCW).below hb5;have hC6:=hC5.below ((Below.refl _ _).alloc (Nat.le_refl _) (.cells #[.int .i64 0,.int .i64 wa] 43));have r0:=hC6.r0;have r1:=hC6.r1;have s0:=hC6.s0;have s1:=hC6.s1;have HC6:=zB hC6;clear hb5 hC5 hC6)
  | (go_at_call 49;refine (zA HR _ ((zA HX).below (zA HC6).bel)).mono ?_;rintro e w7 ⟨b7,o7,rfl,hrw,hb7⟩;have c2:=hrw.c2;have HC7:=zB ((zA HC6).below hb7);clear hb7 hrw r0 r1 s0 s1)
  | (refine zG rfl 38 (.tmp 8) (.tmp 39) rfl (w.heap.size+2) 0 [.slice none 0 0,.slice none 0 0] rfl rfl (by simp [Value.oneCell']) size38 (zA HC7).there ?_;intro W3 hW3;have hC8:=(zA HC7).give (.slice none 0 0) (.slice none 0 0);rw [←hW3] at hC8;have HC8:=zB hC8;clear hW3 hC8))
 have t0:=(zA HC8).t0
 have t1:=(zA HC8).t1
 refine bodyPost_ret (v:=.tuple #[.agg #[.slice none 0 0,.slice none 0 0],.int .i64 3]) (by simp [results,Try.results45,go_sem,t0,t1]) rfl ⟨none,0,none,0,rfl,zz _ _ _,(zA HC8).bel⟩
theorem rput_val (A:Option Addr) (cap:Nat) (G:Option Addr) (gcap:Nat) (X:Wd) (i g p n:Int) (w:World) (hn0:X.rows.length≤9223372036854775807) (hX:WldAt w A cap G gcap X) (hw0:(zN X).1=0) {k:Nat} (hf:zAe X i g=(k:Int)) (hp0:¬ p<0) (hp:¬ 7<p) (hv:zBo n=false) :
  Calls Try.prog 45 #[zAA A cap G gcap X,zW i g,.int .i64 p,.int .i64 n] w fun e w'=>∃ A' c' G' gc',e=.returned (.tuple #[zAA A' c' G' gc' emptyW,.int .i64 3])∧WldDoc w.heap.size w' G A' c' G' gc' emptyW∧Below w.heap.size w w':=by
 have hCW:=CW.start w (.slice A X.rows.length cap) (.slice G X.gens.length gcap) i g
 have hP:=fun W (hb:Below w.heap.size w W)=>zp A X.rows.length cap G X.gens.length gcap (fun j=>X.rows.getD j dR) (fun j=>X.gens.getD j 0) W (by omega) (hX.rows.below hb) (hX.gens.below hb)
 have eW:zAL (fun j=>X.rows.getD j dR) X.rows.length X.gens.length (fun j=>X.gens.getD j 0)=zN X:=rfl
 rw [eW] at hP
 unfold zAE zQ at hP
 obtain ⟨hl,hgl,_⟩:=zq hw0
 rw [hw0] at hP
 have hR:=fun W (h:WldAt W A cap G gcap X)=>zCG hf hl A cap G gcap W h
 have hVL:=zAp n
 rw [hv] at hVL
 generalize (zN X).2=wa at *
 have HP:=zB hP
 have HX:=zB hX
 have HCW:=zB hCW
 have HR:=zB hR
 have HVL:=zB hVL
 clear hVL hv
 clear hR hf
 clear hP hX hCW eW hw0
 unfold zAA zQ zW emptyW
 go_enter Try.func45,Try.ntmps45
 go_wp2_with (first
  | (go_at_call 35;refine (zA HP _ (zA HCW).bel).mono ?_;rintro e w5 ⟨rfl,hb5⟩;have hC5:=(zA HCW).below hb5;have hC6:=hC5.below ((Below.refl _ _).alloc (Nat.le_refl _) (.cells #[.int .i64 0,.int .i64 wa] 43));have r0:=hC6.r0;have r1:=hC6.r1;have s0:=hC6.s0;have s1:=hC6.s1;have HC6:=zB hC6;clear hb5 hC5 hC6)
  | (go_at_call 49;refine (zA HR _ ((zA HX).below (zA HC6).bel)).mono ?_;rintro e w7 ⟨b7,o7,rfl,hrw,hb7⟩;have c2:=hrw.c2;have HC7:=zB ((zA HC6).below hb7);clear hb7 hrw r0 r1 s0 s1)
  | (go_at_call 19;refine (zA HVL _).mono ?_;rintro e w8 ⟨rfl,hw8⟩;obtain rfl:=hw8.symm)
  | (refine zG rfl 38 (.tmp 8) (.tmp 39) rfl (w.heap.size+2) 0 [.slice none 0 0,.slice none 0 0] rfl rfl (by simp [Value.oneCell']) size38 (zA HC7).there ?_;intro W3 hW3;have hC8:=(zA HC7).give (.slice none 0 0) (.slice none 0 0);rw [←hW3] at hC8;have HC8:=zB hC8;clear hW3 hC8))
 have t0:=(zA HC8).t0
 have t1:=(zA HC8).t1
 refine bodyPost_ret (v:=.tuple #[.agg #[.slice none 0 0,.slice none 0 0],.int .i64 3]) (by simp [results,Try.results45,go_sem,t0,t1]) rfl ⟨none,0,none,0,rfl,zz _ _ _,(zA HC8).bel⟩
theorem rdrop_no (A:Option Addr) (cap:Nat) (G:Option Addr) (gcap:Nat) (X:Wd) (i g p:Int) (w:World) (hn0:X.rows.length≤9223372036854775807) (hX:WldAt w A cap G gcap X) (hw0:(zN X).1=0) {k:Nat} (hk:k<X.rows.length) (hf:zAe X i g=(k:Int)) (hh:hasB (zX X k).has p=false) :
  Calls Try.prog 47 #[zAA A cap G gcap X,zW i g,.int .i64 p] w fun e w'=>∃ A' c' G' gc',e=.returned (.tuple #[zAA A' c' G' gc' emptyW,.int .i64 5])∧WldDoc w.heap.size w' G A' c' G' gc' emptyW∧Below w.heap.size w w':=by
 have hCW:=CW.start w (.slice A X.rows.length cap) (.slice G X.gens.length gcap) i g
 have hP:=fun W (hb:Below w.heap.size w W)=>zp A X.rows.length cap G X.gens.length gcap (fun j=>X.rows.getD j dR) (fun j=>X.gens.getD j 0) W (by omega) (hX.rows.below hb) (hX.gens.below hb)
 have eW:zAL (fun j=>X.rows.getD j dR) X.rows.length X.gens.length (fun j=>X.gens.getD j 0)=zN X:=rfl
 rw [eW] at hP
 unfold zAE zQ at hP
 obtain ⟨hl,hgl,_⟩:=zq hw0
 rw [hw0] at hP
 have hR:=fun W (h:WldAt W A cap G gcap X)=>zCG hf hl A cap G gcap W h
 obtain ⟨hb,_⟩:=zAt (((zk X).1 hw0).rv k hk)
 have hHS:=fun W=>rhas_any (zX X k).has p W hb.1 hb.2
 rw [hh] at hHS
 generalize zX X k=x at *
 generalize (zN X).2=wa at *
 have HP:=zB hP
 have HX:=zB hX
 have HCW:=zB hCW
 have HR:=zB hR
 have HHS:=zB hHS
 clear hHS hh hb hk
 clear hR hf
 clear hP hX hCW eW hw0
 unfold zAA zQ zW emptyW
 go_enter Try.func47,Try.ntmps47
 go_wp2_with (first
  | (go_at_call 35;refine (zA HP _ (zA HCW).bel).mono ?_;rintro e w5 ⟨rfl,hb5⟩;have hC5:=(zA HCW).below hb5;have hC6:=hC5.below ((Below.refl _ _).alloc (Nat.le_refl _) (.cells #[.int .i64 0,.int .i64 wa] 43));have r0:=hC6.r0;have r1:=hC6.r1;have s0:=hC6.s0;have s1:=hC6.s1;have HC6:=zB hC6;clear hb5 hC5 hC6)
  | (go_at_call 49;refine (zA HR _ ((zA HX).below (zA HC6).bel)).mono ?_;rintro e w7 ⟨b7,o7,rfl,hrw,hb7⟩;have c2:=hrw.c2;have HC7:=zB ((zA HC6).below hb7);clear hb7 hrw r0 r1 s0 s1)
  | (go_at_call 26;refine (zA HHS _).mono ?_;rintro e w8 ⟨rfl,hb8⟩;have HC8:=zB ((zA HC7).below hb8);clear hb8)
  | (refine zG rfl 38 (.tmp 6) (.tmp 34) rfl (w.heap.size+2) 0 [.slice none 0 0,.slice none 0 0] rfl rfl (by simp [Value.oneCell']) size38 (zA HC8).there ?_;intro W3 hW3;have hC8:=(zA HC8).give (.slice none 0 0) (.slice none 0 0);rw [←hW3] at hC8;have HC9:=zB hC8;clear hW3 hC8))
 have t0:=(zA HC9).t0
 have t1:=(zA HC9).t1
 refine bodyPost_ret (v:=.tuple #[.agg #[.slice none 0 0,.slice none 0 0],.int .i64 5]) (by simp [results,Try.results47,go_sem,t0,t1]) rfl ⟨none,0,none,0,rfl,zz _ _ _,(zA HC9).bel⟩
theorem rput_wrong (A:Option Addr) (cap:Nat) (G:Option Addr) (gcap:Nat) (X:Wd) (i g p n:Int) (w:World) (hn0:X.rows.length≤9223372036854775807) (hX:WldAt w A cap G gcap X) (hw0:(zN X).1≠0) :
  Calls Try.prog 45 #[zAA A cap G gcap X,zW i g,.int .i64 p,.int .i64 n] w fun e w'=>∃ A' c' G' gc',e=.returned (.tuple #[zAA A' c' G' gc' emptyW,.int .i64 (zN X).1])∧WldDoc w.heap.size w' G A' c' G' gc' emptyW∧Below w.heap.size w w':=by
 have hCW:=CW.start w (.slice A X.rows.length cap) (.slice G X.gens.length gcap) i g
 have hP:=fun W (hb:Below w.heap.size w W)=>zp A X.rows.length cap G X.gens.length gcap (fun j=>X.rows.getD j dR) (fun j=>X.gens.getD j 0) W (by omega) (hX.rows.below hb) (hX.gens.below hb)
 have eW:zAL (fun j=>X.rows.getD j dR) X.rows.length X.gens.length (fun j=>X.gens.getD j 0)=zN X:=rfl
 rw [eW] at hP
 unfold zAE zQ at hP
 generalize (zN X).2=wa at *
 generalize (zN X).1=we at *
 have HP:=zB hP
 have HX:=zB hX
 have HCW:=zB hCW
 clear hP hX hCW eW
 unfold zAA zQ zW emptyW
 go_enter Try.func45,Try.ntmps45
 go_wp2_with (first
  | (go_at_call 35;refine (zA HP _ (zA HCW).bel).mono ?_;rintro e w5 ⟨rfl,hb5⟩;have hC5:=(zA HCW).below hb5;have hz:w.heap.size+1+1<w5.heap.size:=hC5.sz;have t0:w5.cell? ⟨w.heap.size+1+1,0,none⟩=some (.slice none 0 0):=hC5.t0;have t1:w5.cell? ⟨w.heap.size+1+1,1,none⟩=some (.slice none 0 0):=hC5.t1;have f0:w5.frozen? ⟨w.heap.size+1+1,0,none⟩=false:=hC5.f 0;have f1:w5.frozen? ⟨w.heap.size+1+1,1,none⟩=false:=hC5.f 1;have HC5:=zB hC5;clear hb5 hC5))
 go_region
 all_goals (try go_wp2)
 all_goals
  refine bodyPost_ret (v:=.tuple #[.agg #[.slice none 0 0,.slice none 0 0],.int .i64 we]) (by simp [results,Try.results45,go_sem,t0,t1,hz]) rfl ⟨none,0,none,0,rfl,zz _ _ _,?_⟩
  exact zy ((((zA HC5).bel.setCell (p:=⟨w.heap.size+1+1,0,none⟩) (by simp;omega) _).setCell (p:=⟨w.heap.size+1+1,1,none⟩) (by simp;omega) _).alloc (by simpa using (zA HC5).bel.size) _) 1
theorem rdrop_wrong (A:Option Addr) (cap:Nat) (G:Option Addr) (gcap:Nat) (X:Wd) (i g p:Int) (w:World) (hn0:X.rows.length≤9223372036854775807) (hX:WldAt w A cap G gcap X) (hw0:(zN X).1≠0) :
  Calls Try.prog 47 #[zAA A cap G gcap X,zW i g,.int .i64 p] w fun e w'=>∃ A' c' G' gc',e=.returned (.tuple #[zAA A' c' G' gc' emptyW,.int .i64 (zN X).1])∧WldDoc w.heap.size w' G A' c' G' gc' emptyW∧Below w.heap.size w w':=by
 have hCW:=CW.start w (.slice A X.rows.length cap) (.slice G X.gens.length gcap) i g
 have hP:=fun W (hb:Below w.heap.size w W)=>zp A X.rows.length cap G X.gens.length gcap (fun j=>X.rows.getD j dR) (fun j=>X.gens.getD j 0) W (by omega) (hX.rows.below hb) (hX.gens.below hb)
 have eW:zAL (fun j=>X.rows.getD j dR) X.rows.length X.gens.length (fun j=>X.gens.getD j 0)=zN X:=rfl
 rw [eW] at hP
 unfold zAE zQ at hP
 generalize (zN X).2=wa at *
 generalize (zN X).1=we at *
 have HP:=zB hP
 have HX:=zB hX
 have HCW:=zB hCW
 clear hP hX hCW eW
 unfold zAA zQ zW emptyW
 go_enter Try.func47,Try.ntmps47
 go_wp2_with (first
  | (go_at_call 35;refine (zA HP _ (zA HCW).bel).mono ?_;rintro e w5 ⟨rfl,hb5⟩;have hC5:=(zA HCW).below hb5;have hz:w.heap.size+1+1<w5.heap.size:=hC5.sz;have t0:w5.cell? ⟨w.heap.size+1+1,0,none⟩=some (.slice none 0 0):=hC5.t0;have t1:w5.cell? ⟨w.heap.size+1+1,1,none⟩=some (.slice none 0 0):=hC5.t1;have f0:w5.frozen? ⟨w.heap.size+1+1,0,none⟩=false:=hC5.f 0;have f1:w5.frozen? ⟨w.heap.size+1+1,1,none⟩=false:=hC5.f 1;have HC5:=zB hC5;clear hb5 hC5))
 go_region
 all_goals (try go_wp2)
 all_goals
  refine bodyPost_ret (v:=.tuple #[.agg #[.slice none 0 0,.slice none 0 0],.int .i64 we]) (by simp [results,Try.results47,go_sem,t0,t1,hz]) rfl ⟨none,0,none,0,rfl,zz _ _ _,?_⟩
  exact zy ((((zA HC5).bel.setCell (p:=⟨w.heap.size+1+1,0,none⟩) (by simp;omega) _).setCell (p:=⟨w.heap.size+1+1,1,none⟩) (by simp;omega) _).alloc (by simpa using (zA HC5).bel.size) _) 1
theorem rput_any (A:Option Addr) (cap:Nat) (G:Option Addr) (gcap:Nat) (X:Wd) (i g p n:Int) (w:World) (hn0:X.rows.length≤9223372036854775807) (hX:WldAt w A cap G gcap X) :
  Calls Try.prog 45 #[zAA A cap G gcap X,zW i g,.int .i64 p,.int .i64 n] w fun e w'=>∃ A' c' G' gc',e=.returned (.tuple #[zAA A' c' G' gc' (zBy X i g p n).2,.int .i64 (zBy X i g p n).1])∧WldDoc w.heap.size w' G A' c' G' gc' (zBy X i g p n).2∧Below w.heap.size w w':=by
 by_cases hw0:(zN X).1=0
 ·rcases zBG X i g with hf | ⟨k,hk,hf,h1,h2⟩
  ·have e:zBy X i g p n=(5,emptyW):=by unfold zBy chF;rw [if_neg (by simpa using hw0),hf,if_pos (by decide)]
   rw [e]
   exact rput_none A cap G gcap X i g p n w hn0 hX hw0 hf
  ·have e0:zBy X i g p n=if (putC (zX X k) p n).2.2≠0 then ((putC (zX X k) p n).2.2,emptyW) else (0,⟨X.rows.set k (putC (zX X k) p n).1,X.gens⟩):=by
    unfold zBy chF
    rw [if_neg (by simpa using hw0),hf,if_neg (by omega),Int.toNat_natCast]
    rfl
   have no:(zBz p && zBo n)=false→zBy X i g p n=(3,emptyW):=fun h=>by rw [e0];simp [putC,h]
   by_cases p0:p<0
   ·rw [no (by simp [zBz];omega)]
    exact rput_lo A cap G gcap X i g p n w hn0 hX hw0 hf p0
   ·by_cases p7:7<p
    ·rw [no (by simp [zBz];omega)]
     exact rput_hi A cap G gcap X i g p n w hn0 hX hw0 hf p0 p7
    ·cases hv:zBo n
     ·rw [no (by simp [hv])]
      exact rput_val A cap G gcap X i g p n w hn0 hX hw0 hf p0 p7 hv
     ·obtain ⟨q,rfl⟩:=Int.eq_ofNat_of_zero_le (show 0≤p by omega)
      have hp:zBz (q:Int)=true:=by simp [zBz];omega
      rw [e0]
      simp only [putC,hp,hv,Bool.and_self,if_true,ne_eq,not_true_eq_false,if_false]
      exact rput_yes A cap G gcap X i g n q (by omega) w hX hw0 hk hf hv
 ·have e:zBy X i g p n=((zN X).1,emptyW):=by unfold zBy chF;rw [if_pos hw0]
  rw [e]
  exact rput_wrong A cap G gcap X i g p n w hn0 hX hw0
theorem hasI_hasB (h p:Int) (h0:0≤h) (h1:h≤255):zCW h p=hasB h p:=by
 by_cases hp:0≤p∧p<8
 ·obtain ⟨m,rfl⟩:=Int.eq_ofNat_of_zero_le h0
  obtain ⟨q,rfl⟩:=Int.eq_ofNat_of_zero_le hp.1
  have key:∀ m:Fin 256,∀ q:Fin 8,zCW (m.val:Int) (q.val:Int)=hasB (m.val:Int) (q.val:Int):=by decide +kernel
  exact key ⟨m,by omega⟩ ⟨q,by omega⟩
 ·have e1:hasB h p=false:=by unfold hasB;simp;omega
  rw [e1]
  cases e:zCW h p
  ·rfl
  ·obtain ⟨k,hk,rfl⟩:=has_part h p e
   omega
theorem rdrop_any (A:Option Addr) (cap:Nat) (G:Option Addr) (gcap:Nat) (X:Wd) (i g p:Int) (w:World) (hn0:X.rows.length≤9223372036854775807) (hX:WldAt w A cap G gcap X) :
  Calls Try.prog 47 #[zAA A cap G gcap X,zW i g,.int .i64 p] w fun e w'=>∃ A' c' G' gc',e=.returned (.tuple #[zAA A' c' G' gc' (zAU X i g p).2,.int .i64 (zAU X i g p).1])∧WldDoc w.heap.size w' G A' c' G' gc' (zAU X i g p).2∧Below w.heap.size w w':=by
 by_cases hw0:(zN X).1=0
 ·rcases zBG X i g with hf | ⟨k,hk,hf,h1,h2⟩
  ·have e:zAU X i g p=(5,emptyW):=by unfold zAU chF;rw [if_neg (by simpa using hw0),hf,if_pos (by decide)]
   rw [e]
   exact rdrop_none A cap G gcap X i g p w hn0 hX hw0 hf
  ·have e0:zAU X i g p=if (dropC (zX X k) p).2.2≠0 then ((dropC (zX X k) p).2.2,emptyW) else (0,⟨X.rows.set k (dropC (zX X k) p).1,X.gens⟩):=by
    unfold zAU chF
    rw [if_neg (by simpa using hw0),hf,if_neg (by omega),Int.toNat_natCast]
    rfl
   obtain ⟨hb,_⟩:=zAt (((zk X).1 hw0).rv k hk)
   have hs:=hasI_hasB (zX X k).has p hb.1 hb.2
   cases hh:zCW (zX X k).has p
   ·rw [hh] at hs
    have e:zAU X i g p=(5,emptyW):=by rw [e0];simp [dropC,hh]
    rw [e]
    exact rdrop_no A cap G gcap X i g p w hn0 hX hw0 hk hf hs.symm
   ·rw [hh] at hs
    obtain ⟨q,hq,rfl⟩:=has_part _ _ hh
    rw [e0]
    simp only [dropC,hh,if_true,ne_eq,not_true_eq_false,if_false]
    exact rdrop_yes A cap G gcap X i g q hq w hX hw0 hk hf hs.symm
 ·have e:zAU X i g p=((zN X).1,emptyW):=by unfold zAU chF;rw [if_pos hw0]
  rw [e]
  exact rdrop_wrong A cap G gcap X i g p w hn0 hX hw0
end Go.Proofs.Ytnbleebilmghcaa
namespace Go.Proofs.Ytnbleebilmghcaa
open Go Go.RowKit
attribute [local go_sem ↓] Go.wp_at_zero Go.wp_at_succ
theorem B13.lt {b:Nat} {u v:Value} {W:World} (h:B13 b u v W):b<W.heap.size:=World.block_lt_of_cell? W ⟨b,0,none⟩ h.e0
theorem B13.there {b:Nat} {u v:Value} {W:World} (h:B13 b u v W):W.there b 0 2:=fun j hj=>by
 rcases (by omega:j=0∨j=1) with rfl | rfl
 ·exact ⟨by rw [Nat.zero_add,h.e0];rfl,h.f _⟩
 ·exact ⟨by rw [Nat.zero_add,h.e1];rfl,h.f _⟩
theorem B13.give {b:Nat} {u v:Value} {W:World} (h:B13 b u v W) (u' v':Value):B13 b u' v' (W.setCells b 0 [u',v']):=by
 have s:=fun j hj=>World.cell?_setCells_in b [u',v'] 0 W (fun j hj=>(h.there j hj).1) j hj
 exact ⟨s 0 (by simp),s 1 (by simp),fun i=>by rw [World.frozen?_setCells];exact h.f i⟩
theorem B13.others {b b' o:Nat} {u v:Value} {vs:List Value} {W:World} (h:B13 b u v W) (hb:b≠b'):B13 b u v (W.setCells b' o vs) :=
 ⟨(zS hb).trans h.e0,(zS hb).trans h.e1,fun i=>by rw [World.frozen?_setCells];exact h.f i⟩
section
variable {w W W1:World} {u0 u1:Value} {i g fa fn:Int} {l l1 l2:List (Nat×Value×Value)}
end
theorem wld_sets {W:World} {A:Option Addr} {c:Nat} {G:Option Addr} {gc:Nat} {Y:Wd} (h:WldAt W A c G gc Y) {b o:Nat} {vs:List Value} (ha:∀ c o,A=some ⟨c,o,none⟩→c≠b) (hg:Y.gens≠[]→∀ c o,G=some ⟨c,o,none⟩→c≠b):WldAt (W.setCells b o vs) A c G gc Y:=by
 refine ⟨fun j hj=>?_,fun j hj=>?_⟩
 ·obtain ⟨b',off,e,hr⟩:=h.rows j hj
  exact ⟨b',off,e,zBi (ha b' off e) hr⟩
 ·obtain ⟨b',off,e,hr⟩:=h.gens j hj
  exact ⟨b',off,e,(zS (hg (fun e=>by rw [e] at hj;simp at hj) b' off e)).trans hr⟩
theorem WldNew.putc {W:World} {B:Nat} {A:Option Addr} {c:Nat} {G:Option Addr} {gc:Nat} {Y:Wd} (h:WldNew B W A c G gc Y) {b o:Nat} {vs:List Value} (hb:b<B):WldNew B (W.setCells b o vs) A c G gc Y :=
 ⟨wld_sets h.toWldAt (fun c o e=>by have:=h.fa c o e;omega) (fun _ c o e=>by have:=h.fg c o e;omega),h.fa,h.fg⟩
theorem WldDoc.sets {W:World} {B lo:Nat} {G0 A:Option Addr} {c:Nat} {G:Option Addr} {gc:Nat} {Y:Wd} (h:WldDoc B W G0 A c G gc Y) (h0:Y.gens≠[]→∀ c o,G0=some ⟨c,o,none⟩→c<lo) {b o:Nat} {vs:List Value} (hb:b<B) (hlo:lo≤b):WldDoc B (W.setCells b o vs) G0 A c G gc Y :=
 ⟨wld_sets h.toWldAt (fun c o e=>by have:=h.fa c o e;omega) (fun hne c o e=>by
  rcases h.fg with hg | hg
  ·rw [hg] at e;have:=h0 hne c o e;omega
  ·have:=hg c o e;omega),h.fa,h.fg⟩
theorem WldDoc.below {B:Nat} {w w1:World} {G0 A:Option Addr} {cap:Nat} {G:Option Addr} {gcap:Nat} {X:Wd} (h:WldDoc B w G0 A cap G gcap X) (hb:Below w.heap.size w w1):WldDoc B w1 G0 A cap G gcap X:=⟨h.toWldAt.below hb,h.fa,h.fg⟩
theorem gens_at {w:World} {G:Option Addr} {l:List Int} (h:IntsL w G l) (hl:l≠[]):∀ c o,G=some ⟨c,o,none⟩→c<w.heap.size:=fun c o e=>by
 obtain ⟨b,off,e',hc⟩:=h 0 (List.length_pos_iff.2 hl)
 rw [e] at e'
 simp only [Option.some.injEq,Addr.mk.injEq,and_true] at e'
 rw [e'.1]
 exact World.block_lt_of_cell? w _ hc
theorem kill_gens (X:Wd) (i g:Int):(zAR X i g).2.gens≠[]→X.gens≠[]:=by
 unfold zAR emptyW
 repeat' split
 all_goals simp
theorem ch_gens (X:Wd) (i g:Int) (C:RowI→RowI×Bool×Int):(chF X i g C).2.gens≠[]→X.gens≠[]:=by
 unfold chF emptyW
 repeat' split
 all_goals simp
end Go.Proofs.Ytnbleebilmghcaa
