/- PRPut0, PRPut, PTells0 -/
import Derived.Test.YtnbleebilmghcabGreatWA
import Derived.Test.YtnbleebilmghcabGreatWG
import Derived.Test.YtnbleebilmghcabGreatWU
import Derived.Test.YtnbleebilmghcabGreatWV
set_option linter.all false
namespace Go.Proofs.YtnbleebilmghcabGreat
open Go Go.RowKit
attribute [local go_sem ↓] Go.wp_at_zero Go.wp_at_succ
theorem num_or_fin:∀ m:Fin 256,∀ p:Fin 8,numL [decide (p.val=0) || tb (m.val:Int) 0,decide (p.val=1) || tb (m.val:Int) 1,decide (p.val=2) || tb (m.val:Int) 2,decide (p.val=3) || tb (m.val:Int) 3,decide (p.val=4) || tb (m.val:Int) 4,decide (p.val=5) || tb (m.val:Int) 5,decide (p.val=6) || tb (m.val:Int) 6,decide (p.val=7) || tb (m.val:Int) 7]=bits .or .i64 (m.val:Int) (zAr (p.val:Int)):=by decide +kernel
theorem num_not_fin:∀ m:Fin 256,∀ p:Fin 8,numL [!decide (p.val=0) && tb (m.val:Int) 0,!decide (p.val=1) && tb (m.val:Int) 1,!decide (p.val=2) && tb (m.val:Int) 2,!decide (p.val=3) && tb (m.val:Int) 3,!decide (p.val=4) && tb (m.val:Int) 4,!decide (p.val=5) && tb (m.val:Int) 5,!decide (p.val=6) && tb (m.val:Int) 6,!decide (p.val=7) && tb (m.val:Int) 7]=bits .andNot .i64 (m.val:Int) (zAr (p.val:Int)):=by decide +kernel
structure YB (w:World) (u0 u1:Value) (i g:Int) (y:Nat) (x:RowI) (W:World):Prop extends CW w u0 u1 i g (.slice none 0 0) (.slice none 0 0) W where
 hy:w.heap.size+3≤y
 row:RowAt W y 0 x
 fr:∀ j,W.frozen? ⟨y,j,none⟩=false
section
variable {w W W1:World} {u0 u1:Value} {i g:Int} {y:Nat} {x:RowI}
theorem YB.ly (h:YB w u0 u1 i g y x W):y<W.heap.size:=World.block_lt_of_cell? W ⟨y,0,none⟩ h.row.c0
theorem YB.below (h:YB w u0 u1 i g y x W) (hb:Below W.heap.size W W1):YB w u0 u1 i g y x W1 :=
 ⟨h.toCW.below hb,h.hy,h.row.below hb,fun j=>(hb.frozen (p:=⟨y,j,none⟩) h.ly).trans (h.fr j)⟩
theorem YB.setHas (h:YB w u0 u1 i g y x W) (q:Int):YB w u0 u1 i g y ⟨x.ix,x.gen,q,x.v⟩ (W.setCell ⟨y,2,none⟩ (.int .i64 q)) :=
 ⟨h.toCW.keep ((Below.refl _ _).setCell (p:=⟨y,2,none⟩) h.hy _),h.hy,by have:=zDl h.row q;rwa [Nat.zero_add] at this,fun j=>by simpa using h.fr j⟩
theorem YB.setV (h:YB w u0 u1 i g y x W) (k:Nat) (hk:k<8) (n:Int):YB w u0 u1 i g y ⟨x.ix,x.gen,x.has,fun j=>if j=k then n else x.v j⟩ (W.setCell ⟨y,3+k,none⟩ (.int .i64 n)) :=
 ⟨h.toCW.keep ((Below.refl _ _).setCell (p:=⟨y,3+k,none⟩) h.hy _),h.hy,by have:=zCX h.row k hk n;rwa [Nat.zero_add] at this,fun j=>by simpa using h.fr j⟩
theorem YB.new (h:CW w u0 u1 i g (.slice none 0 0) (.slice none 0 0) W) (x:RowI):YB w u0 u1 i g W.heap.size x (W.alloc (.cells #[.int .i64 x.ix,.int .i64 x.gen,.int .i64 x.has,.int .i64 (x.v 0),.int .i64 (x.v 1),.int .i64 (x.v 2),.int .i64 (x.v 3),.int .i64 (x.v 4),.int .i64 (x.v 5),.int .i64 (x.v 6),.int .i64 (x.v 7)] 116)):=by
 obtain ⟨h1,h2⟩:=zDe W x 116
 exact ⟨h.below (zAS _ _),h.sz,h1,h2⟩
end
theorem zHM (h:Int) (v:Bool) (q:Nat) (hq:q<8) (t:Nat) (ht:t<8) (hl:t<([Value.bool (tb h 0),Value.bool (tb h 1),Value.bool (tb h 2),Value.bool (tb h 3),Value.bool (tb h 4),Value.bool (tb h 5),Value.bool (tb h 6),Value.bool (tb h 7)].set q (Value.bool v)).length):([Value.bool (tb h 0),Value.bool (tb h 1),Value.bool (tb h 2),Value.bool (tb h 3),Value.bool (tb h 4),Value.bool (tb h 5),Value.bool (tb h 6),Value.bool (tb h 7)].set q (Value.bool v))[t]=.bool (if q=t then v else tb h t):=by
 rw [List.getElem_set]
 split
 ·rfl
 ·rcases (by omega:t=0∨t=1∨t=2∨t=3∨t=4∨t=5∨t=6∨t=7) with rfl | rfl | rfl | rfl | rfl | rfl | rfl | rfl <;> rfl
end Go.Proofs.YtnbleebilmghcabGreat
set_option maxHeartbeats 4000000
set_option maxRecDepth 8000
namespace Go.Proofs.YtnbleebilmghcabGreat
open Go Go.RowKit
attribute [local go_sem ↓] Go.wp_at_zero Go.wp_at_succ
theorem zMJ (A:Option Addr) (cap:Nat) (G:Option Addr) (gcap:Nat) (X:Wd) (i g n:Int) (q:Nat) (hq:q<8) (w:World) (hX:WldAt w A cap G gcap X) (hw0:(zP X).1=0) {k:Nat} (hk:k<X.rows.length) (hf:zAN X i g=(k:Int)) (hvn:zBY n=true) :
  Calls Tryz.prog 63 #[zi A cap G gcap X,zS i g,.int .i64 (q:Int),.int .i64 n] w fun e w'=>∃ A' c' G' gc',e=.returned (.tuple #[zi A' c' G' gc' ⟨X.rows.set k (zHh (zR X k) (q:Int) n),X.gens⟩,.int .i64 0])∧WldDoc w.heap.size w' G A' c' G' gc' ⟨X.rows.set k (zHh (zR X k) (q:Int) n),X.gens⟩∧Below w.heap.size w w':=by
 obtain ⟨hl,hgl,_⟩:=zk hw0
 have hr:=(zf X).1 hw0
 have hCW:=CW.start w (.slice A X.rows.length cap) (.slice G X.gens.length gcap) i g
 have hP:=fun W (hb:Below w.heap.size w W)=>zp A X.rows.length cap G X.gens.length gcap (fun j=>X.rows.getD j dR) (fun j=>X.gens.getD j 0) W (by omega) (hX.rows.below hb) (hX.gens.below hb)
 have eW:zAT (fun j=>X.rows.getD j dR) X.rows.length X.gens.length (fun j=>X.gens.getD j 0)=zP X:=rfl
 rw [eW] at hP
 unfold zAG zM at hP
 rw [hw0] at hP
 have hR:=fun W (h:WldAt W A cap G gcap X)=>zCC hf hl A cap G gcap W h
 have hset:=zIG hr hk (zHh (zR X k) (q:Int) n) rfl
 have hWI:=fun W (h:WldAt W A cap G gcap X)=>zDk A cap G gcap X (zHh (zR X k) (q:Int) n) W (by omega) h
 rw [hset] at hWI
 obtain ⟨hb,_⟩:=zAd (hr.rv k hk)
 have hVL:=zx n
 rw [hvn] at hVL
 unfold zi zM zAD at hWI
 generalize (zP X).2=wa at *
 generalize zR X k=x at *
 generalize X.rows.set k (zHh x (q:Int) n)=rows' at *
 have hBI:=fun W=>zEd x.has W hb.1 hb.2
 have hnum:numL [(if q=0 then true else tb x.has 0),(if q=1 then true else tb x.has 1),(if q=2 then true else tb x.has 2),(if q=3 then true else tb x.has 3),(if q=4 then true else tb x.has 4),(if q=5 then true else tb x.has 5),(if q=6 then true else tb x.has 6),(if q=7 then true else tb x.has 7)]=bits .or .i64 x.has (zAr (q:Int)):=by
  obtain ⟨m,hm⟩:=zDv x.has hb.1 hb.2
  have:=num_or_fin m ⟨q,hq⟩
  rw [hm,←this]
  congr 1
  simp only [List.cons.injEq,and_true]
  refine ⟨?_,?_,?_,?_,?_,?_,?_,?_⟩ <;> (split <;> simp_all)
 have hNU:=fun W=>zKv (if q=0 then true else tb x.has 0) (if q=1 then true else tb x.has 1) (if q=2 then true else tb x.has 2) (if q=3 then true else tb x.has 3) (if q=4 then true else tb x.has 4) (if q=5 then true else tb x.has 5) (if q=6 then true else tb x.has 6) (if q=7 then true else tb x.has 7) W
 rw [hnum] at hNU
 have ez:zHh x (q:Int) n=⟨x.ix,x.gen,bits .or .i64 x.has (zAr (q:Int)),fun j=>if j=q then n else x.v j⟩:=rfl
 generalize zHh x (q:Int) n=z at *
 have HE:=zB ez
 clear ez hnum
 generalize bits .or .i64 x.has (zAr (q:Int))=hs at *
 have q0:(0:Int)≤(q:Int):=by omega
 have q1:(q:Int)<8:=by omega
 have q2:¬ (7:Int)<(q:Int):=by omega
 have q3:¬ (q:Int)<0:=by omega
 have HP:=zB hP
 have HX:=zB hX
 have HCW:=zB hCW
 have HR:=zB hR
 have HWI:=zB hWI
 have HVL:=zB hVL
 have HBI:=zB hBI
 have HNU:=zB hNU
 clear hP hX hCW hR hWI hVL hBI hNU hset hr hf hk hw0 hvn hb eW
 unfold zi zM zS
 go_enter Tryz.func63,Tryz.ntmps63
 go_wp2_with (first
  | (go_at_call 55;refine (zA HP _ (zA HCW).bel).mono ?_;rintro e w5 ⟨rfl,hb5⟩;have hC5:=(zA HCW).below hb5;have hC6:=hC5.below ((Below.refl _ _).alloc (Nat.le_refl _) (.cells #[.int .i64 0,.int .i64 wa] 29));have r0:=hC6.r0;have r1:=hC6.r1;have s0:=hC6.s0;have s1:=hC6.s1;have HC6:=zB hC6;clear hb5 hC5 hC6)
  | (go_at_call 59;refine (zA HR _ ((zA HX).below (zA HC6).bel)).mono ?_;rintro e w7 ⟨b7,o7,rfl,hrw,hb7⟩;have hC7:=(zA HC6).below hb7;clear r0 r1 s0 s1;have c0:=hrw.c0;have c1:=hrw.c1;have c2:=hrw.c2;have c3:=hrw.v 0 (by omega);have c4:=hrw.v 1 (by omega);have c5:=hrw.v 2 (by omega);have c6:=hrw.v 3 (by omega);have c7:=hrw.v 4 (by omega);have c8:=hrw.v 5 (by omega);have c9:=hrw.v 6 (by omega);have c10:=hrw.v 7 (by omega);simp only [Nat.add_assoc,Nat.reduceAdd] at c3 c4 c5 c6 c7 c8 c9 c10;have HC7:=zB hC7;clear hb7 hC7 hrw)
  | (go_at_call 97;refine (zA HVL _).mono ?_;rintro e w8 ⟨rfl,hw8⟩;obtain rfl:=hw8.symm)
  | (go_at_call 100;refine (zA HBI _).mono ?_;rintro e w9 ⟨rfl,hb9,hz9⟩;have HY9:=zB ((YB.new (zA HC7) x).below hb9);clear hb9 hz9 c0 c1 c2 c3 c4 c5 c6 c7 c8 c9 c10)
  | (go_at_call 102;rw [zHM x.has true q hq 0 (by decide),zHM x.has true q hq 1 (by decide),zHM x.has true q hq 2 (by decide),zHM x.has true q hq 3 (by decide),zHM x.has true q hq 4 (by decide),zHM x.has true q hq 5 (by decide),zHM x.has true q hq 6 (by decide),zHM x.has true q hq 7 (by decide)];refine (zA HNU _).mono ?_;rintro e w12 ⟨rfl,hw12⟩;have HY12:Hid (YB w (.slice A X.rows.length cap) (.slice G X.gens.length gcap) i g w7.heap.size x w12):=zB (by rw [hw12];exact ((zA HY9).below (zAS _ _)).below (zAS _ _));clear hw12 HY9)
  | (refine zT rfl 3 (.tmp 52) (.tmp 50) rfl w7.heap.size 2 (.int .i64 hs) rfl rfl rfl size3 (zAB (zA HY12).row.c2 (zA HY12).fr) ?_;intro W13 hW13;have hY13:=(zA HY12).setHas hs;rw [←hW13] at hY13;have HY13:=zB hY13;clear hW13 hY13 HY12)
  | (refine zT rfl 3 (.tmp 54) (.tmp 51) rfl w7.heap.size (3+q) (.int .i64 n) rfl rfl rfl size3 (by have:=zAB ((zA HY13).row.v q hq) (zA HY13).fr;rwa [Nat.zero_add] at this) ?_;intro W14 hW14;have hY14:=(zA HY13).setV q hq n;rw [←hW14] at hY14;obtain ⟨p0,p1,p2,p3,p4,p5,p6,p7,p8,p9,p10⟩:=zDQ (by have:=hY14.row;rw [←zA HE] at this;exact this);have r0:=hY14.r0;have r1:=hY14.r1;have HC14:=zB hY14.toCW;clear hW14 hY14 HY13)
  | (go_at_call 101;refine (zA HWI _ ((zA HX).below (zA HC14).bel)).mono ?_;rintro e w15 ⟨A5,c5,rfl,ho5,hb15⟩;have HC15:=zB ((zA HC14).below hb15);have HO5:=zB (zBX ho5 (zA HC14).sz);clear ho5 hb15 r0 r1 p0 p1 p2 p3 p4 p5 p6 p7 p8 p9 p10 HC14)
  | (refine zG rfl 43 (.tmp 8) (.tmp 57) rfl (w.heap.size+2) 0 [.slice A5 rows'.length c5,.slice G X.gens.length gcap] rfl rfl (by simp [Value.oneCell']) size38 (zA HC15).there ?_;intro W3 hW3;have hC8:=(zA HC15).give (.slice A5 rows'.length c5) (.slice G X.gens.length gcap);have ho8:=zs (b:=w.heap.size+2) (by omega) [.slice A5 rows'.length c5,.slice G X.gens.length gcap] 0 _ (zA HO5);rw [←hW3] at hC8 ho8;have HC8:=zB hC8;have HO8:=zB ho8;clear hW3 hC8 ho8))
 have t0:=(zA HC8).t0
 have t1:=(zA HC8).t1
 refine bodyPost_ret (v:=.tuple #[.agg #[.slice A5 rows'.length c5,.slice G X.gens.length gcap],.int .i64 0]) (by simp [results,Tryz.results63,go_sem,t0,t1]) rfl ⟨A5,c5,G,gcap,rfl,⟨⟨zAt (zA HO8),((zA HX).below (zA HC8).bel).gens⟩,zAH (zA HO8) (by omega),.inl rfl⟩,(zA HC8).bel⟩
theorem zKc (A:Option Addr) (cap:Nat) (G:Option Addr) (gcap:Nat) (X:Wd) (i g:Int) (q:Nat) (hq:q<8) (w:World) (hX:WldAt w A cap G gcap X) (hw0:(zP X).1=0) {k:Nat} (hk:k<X.rows.length) (hf:zAN X i g=(k:Int)) (hhs:zFH (zR X k).has (q:Int)=true) :
  Calls Tryz.prog 62 #[zi A cap G gcap X,zS i g,.int .i64 (q:Int)] w fun e w'=>∃ A' c' G' gc',e=.returned (.tuple #[zi A' c' G' gc' ⟨X.rows.set k (zDd (zR X k) (q:Int)),X.gens⟩,.int .i64 0])∧WldDoc w.heap.size w' G A' c' G' gc' ⟨X.rows.set k (zDd (zR X k) (q:Int)),X.gens⟩∧Below w.heap.size w w':=by
 obtain ⟨hl,hgl,_⟩:=zk hw0
 have hr:=(zf X).1 hw0
 have hCW:=CW.start w (.slice A X.rows.length cap) (.slice G X.gens.length gcap) i g
 have hP:=fun W (hb:Below w.heap.size w W)=>zp A X.rows.length cap G X.gens.length gcap (fun j=>X.rows.getD j dR) (fun j=>X.gens.getD j 0) W (by omega) (hX.rows.below hb) (hX.gens.below hb)
 have eW:zAT (fun j=>X.rows.getD j dR) X.rows.length X.gens.length (fun j=>X.gens.getD j 0)=zP X:=rfl
 rw [eW] at hP
 unfold zAG zM at hP
 rw [hw0] at hP
 have hR:=fun W (h:WldAt W A cap G gcap X)=>zCC hf hl A cap G gcap W h
 have hset:=zIG hr hk (zDd (zR X k) (q:Int)) rfl
 have hWI:=fun W (h:WldAt W A cap G gcap X)=>zDk A cap G gcap X (zDd (zR X k) (q:Int)) W (by omega) h
 rw [hset] at hWI
 obtain ⟨hb,_⟩:=zAd (hr.rv k hk)
 unfold zi zM zAD at hWI
 generalize (zP X).2=wa at *
 generalize zR X k=x at *
 have hVL:=fun W=>zDo x.has (q:Int) W hb.1 hb.2
 rw [hhs] at hVL
 generalize X.rows.set k (zDd x (q:Int))=rows' at *
 have hBI:=fun W=>zEd x.has W hb.1 hb.2
 have hnum:numL [(if q=0 then false else tb x.has 0),(if q=1 then false else tb x.has 1),(if q=2 then false else tb x.has 2),(if q=3 then false else tb x.has 3),(if q=4 then false else tb x.has 4),(if q=5 then false else tb x.has 5),(if q=6 then false else tb x.has 6),(if q=7 then false else tb x.has 7)]=bits .andNot .i64 x.has (zAr (q:Int)):=by
  obtain ⟨m,hm⟩:=zDv x.has hb.1 hb.2
  have:=num_not_fin m ⟨q,hq⟩
  rw [hm,←this]
  congr 1
  simp only [List.cons.injEq,and_true]
  refine ⟨?_,?_,?_,?_,?_,?_,?_,?_⟩ <;> (split <;> simp_all)
 have hNU:=fun W=>zKv (if q=0 then false else tb x.has 0) (if q=1 then false else tb x.has 1) (if q=2 then false else tb x.has 2) (if q=3 then false else tb x.has 3) (if q=4 then false else tb x.has 4) (if q=5 then false else tb x.has 5) (if q=6 then false else tb x.has 6) (if q=7 then false else tb x.has 7) W
 rw [hnum] at hNU
 have ez:zDd x (q:Int)=⟨x.ix,x.gen,bits .andNot .i64 x.has (zAr (q:Int)),fun j=>if j=q then 0 else x.v j⟩:=rfl
 generalize zDd x (q:Int)=z at *
 have HE:=zB ez
 clear ez hnum
 generalize bits .andNot .i64 x.has (zAr (q:Int))=hs at *
 have q0:(0:Int)≤(q:Int):=by omega
 have q1:(q:Int)<8:=by omega
 have q2:¬ (7:Int)<(q:Int):=by omega
 have q3:¬ (q:Int)<0:=by omega
 have HP:=zB hP
 have HX:=zB hX
 have HCW:=zB hCW
 have HR:=zB hR
 have HWI:=zB hWI
 have HVL:=zB hVL
 have HBI:=zB hBI
 have HNU:=zB hNU
 clear hP hX hCW hR hWI hVL hBI hNU hset hr hf hk hw0 hhs hb eW
 unfold zi zM zS
 go_enter Tryz.func62,Tryz.ntmps62
 go_wp2_with (first
  | (go_at_call 55;refine (zA HP _ (zA HCW).bel).mono ?_;rintro e w5 ⟨rfl,hb5⟩;have hC5:=(zA HCW).below hb5;have hC6:=hC5.below ((Below.refl _ _).alloc (Nat.le_refl _) (.cells #[.int .i64 0,.int .i64 wa] 29));have r0:=hC6.r0;have r1:=hC6.r1;have s0:=hC6.s0;have s1:=hC6.s1;have HC6:=zB hC6;clear hb5 hC5 hC6)
  | (go_at_call 59;refine (zA HR _ ((zA HX).below (zA HC6).bel)).mono ?_;rintro e w7 ⟨b7,o7,rfl,hrw,hb7⟩;have hC7:=(zA HC6).below hb7;clear r0 r1 s0 s1;have c0:=hrw.c0;have c1:=hrw.c1;have c2:=hrw.c2;have c3:=hrw.v 0 (by omega);have c4:=hrw.v 1 (by omega);have c5:=hrw.v 2 (by omega);have c6:=hrw.v 3 (by omega);have c7:=hrw.v 4 (by omega);have c8:=hrw.v 5 (by omega);have c9:=hrw.v 6 (by omega);have c10:=hrw.v 7 (by omega);simp only [Nat.add_assoc,Nat.reduceAdd] at c3 c4 c5 c6 c7 c8 c9 c10;have HC7:=zB hC7;clear hb7 hC7 hrw)
  | (go_at_call 61;refine (zA HVL _).mono ?_;rintro e w8 ⟨rfl,hb8⟩;replace c0:=zC hb8 c0;replace c1:=zC hb8 c1;replace c2:=zC hb8 c2;replace c3:=zC hb8 c3;replace c4:=zC hb8 c4;replace c5:=zC hb8 c5;replace c6:=zC hb8 c6;replace c7:=zC hb8 c7;replace c8:=zC hb8 c8;replace c9:=zC hb8 c9;replace c10:=zC hb8 c10;have HC8:=zB ((zA HC7).below hb8);clear hb8 HC7)
  | (go_at_call 100;refine (zA HBI _).mono ?_;rintro e w9 ⟨rfl,hb9,hz9⟩;have HY9:=zB ((YB.new (zA HC8) x).below hb9);clear hb9 hz9 c0 c1 c2 c3 c4 c5 c6 c7 c8 c9 c10)
  | (go_at_call 102;rw [zHM x.has false q hq 0 (by decide),zHM x.has false q hq 1 (by decide),zHM x.has false q hq 2 (by decide),zHM x.has false q hq 3 (by decide),zHM x.has false q hq 4 (by decide),zHM x.has false q hq 5 (by decide),zHM x.has false q hq 6 (by decide),zHM x.has false q hq 7 (by decide)];refine (zA HNU _).mono ?_;rintro e w12 ⟨rfl,hw12⟩;have HY12:Hid (YB w (.slice A X.rows.length cap) (.slice G X.gens.length gcap) i g w8.heap.size x w12):=zB (by rw [hw12];exact ((zA HY9).below (zAS _ _)).below (zAS _ _));clear hw12 HY9)
  | (refine zT rfl 3 (.tmp 46) (.tmp 45) rfl w8.heap.size 2 (.int .i64 hs) rfl rfl rfl size3 (zAB (zA HY12).row.c2 (zA HY12).fr) ?_;intro W13 hW13;have hY13:=(zA HY12).setHas hs;rw [←hW13] at hY13;have HY13:=zB hY13;clear hW13 hY13 HY12)
  | (refine zT rfl 3 (.tmp 48) (.const (.int .i64 0)) rfl w8.heap.size (3+q) (.int .i64 0) rfl rfl rfl size3 (by have:=zAB ((zA HY13).row.v q hq) (zA HY13).fr;rwa [Nat.zero_add] at this) ?_;intro W14 hW14;have hY14:=(zA HY13).setV q hq 0;rw [←hW14] at hY14;obtain ⟨p0,p1,p2,p3,p4,p5,p6,p7,p8,p9,p10⟩:=zDQ (by have:=hY14.row;rw [←zA HE] at this;exact this);have r0:=hY14.r0;have r1:=hY14.r1;have HC14:=zB hY14.toCW;clear hW14 hY14 HY13)
  | (go_at_call 101;refine (zA HWI _ ((zA HX).below (zA HC14).bel)).mono ?_;rintro e w15 ⟨A5,c5,rfl,ho5,hb15⟩;have HC15:=zB ((zA HC14).below hb15);have HO5:=zB (zBX ho5 (zA HC14).sz);clear ho5 hb15 r0 r1 p0 p1 p2 p3 p4 p5 p6 p7 p8 p9 p10 HC14)
  | (refine zG rfl 43 (.tmp 6) (.tmp 51) rfl (w.heap.size+2) 0 [.slice A5 rows'.length c5,.slice G X.gens.length gcap] rfl rfl (by simp [Value.oneCell']) size38 (zA HC15).there ?_;intro W3 hW3;have hC9:=(zA HC15).give (.slice A5 rows'.length c5) (.slice G X.gens.length gcap);have ho8:=zs (b:=w.heap.size+2) (by omega) [.slice A5 rows'.length c5,.slice G X.gens.length gcap] 0 _ (zA HO5);rw [←hW3] at hC9 ho8;have HC9:=zB hC9;have HO8:=zB ho8;clear hW3 hC9 ho8))
 have t0:=(zA HC9).t0
 have t1:=(zA HC9).t1
 refine bodyPost_ret (v:=.tuple #[.agg #[.slice A5 rows'.length c5,.slice G X.gens.length gcap],.int .i64 0]) (by simp [results,Tryz.results62,go_sem,t0,t1]) rfl ⟨A5,c5,G,gcap,rfl,⟨⟨zAt (zA HO8),((zA HX).below (zA HC9).bel).gens⟩,zAH (zA HO8) (by omega),.inl rfl⟩,(zA HC9).bel⟩
theorem zKP (A:Option Addr) (cap:Nat) (G:Option Addr) (gcap:Nat) (X:Wd) (i g p n:Int) (w:World) (hn0:X.rows.length≤9223372036854775807) (hX:WldAt w A cap G gcap X) (hw0:(zP X).1=0) (hf:zAN X i g=-1) :
  Calls Tryz.prog 63 #[zi A cap G gcap X,zS i g,.int .i64 p,.int .i64 n] w fun e w'=>∃ A' c' G' gc',e=.returned (.tuple #[zi A' c' G' gc' emptyW,.int .i64 5])∧WldDoc w.heap.size w' G A' c' G' gc' emptyW∧Below w.heap.size w w':=by
 have hCW:=CW.start w (.slice A X.rows.length cap) (.slice G X.gens.length gcap) i g
 have hP:=fun W (hb:Below w.heap.size w W)=>zp A X.rows.length cap G X.gens.length gcap (fun j=>X.rows.getD j dR) (fun j=>X.gens.getD j 0) W (by omega) (hX.rows.below hb) (hX.gens.below hb)
 have eW:zAT (fun j=>X.rows.getD j dR) X.rows.length X.gens.length (fun j=>X.gens.getD j 0)=zP X:=rfl
 rw [eW] at hP
 unfold zAG zM at hP
 obtain ⟨hl,hgl,_⟩:=zk hw0
 rw [hw0] at hP
 have hR:=fun W (h:WldAt W A cap G gcap X)=>zFw hf hl A cap G gcap W h
 generalize (zP X).2=wa at *
 have HP:=zB hP
 have HX:=zB hX
 have HCW:=zB hCW
 have HR:=zB hR
 clear hR hf
 clear hP hX hCW eW hw0
 unfold zi zM zS emptyW
 go_enter Tryz.func63,Tryz.ntmps63
 go_wp2_with (first
  | (go_at_call 55;refine (zA HP _ (zA HCW).bel).mono ?_;rintro e w5 ⟨rfl,hb5⟩;have hC5:=(zA HCW).below hb5;have hC6:=hC5.below ((Below.refl _ _).alloc (Nat.le_refl _) (.cells #[.int .i64 0,.int .i64 wa] 29));have r0:=hC6.r0;have r1:=hC6.r1;have s0:=hC6.s0;have s1:=hC6.s1;have HC6:=zB hC6;clear hb5 hC5 hC6)
  | (go_at_call 59;refine (zA HR _ ((zA HX).below (zA HC6).bel)).mono ?_;rintro e w7 ⟨rfl,hb7⟩;have HC7:=zB ((zA HC6).below hb7);clear hb7 r0 r1 s0 s1)
  | (refine zG rfl 43 (.tmp 8) (.tmp 27) rfl (w.heap.size+2) 0 [.slice none 0 0,.slice none 0 0] rfl rfl (by simp [Value.oneCell']) size38 (zA HC7).there ?_;intro W3 hW3;have hC8:=(zA HC7).give (.slice none 0 0) (.slice none 0 0);rw [←hW3] at hC8;have HC8:=zB hC8;clear hW3 hC8))
 have t0:=(zA HC8).t0
 have t1:=(zA HC8).t1
 refine bodyPost_ret (v:=.tuple #[.agg #[.slice none 0 0,.slice none 0 0],.int .i64 5]) (by simp [results,Tryz.results63,go_sem,t0,t1]) rfl ⟨none,0,none,0,rfl,zy _ _ _,(zA HC8).bel⟩
theorem zJS (A:Option Addr) (cap:Nat) (G:Option Addr) (gcap:Nat) (X:Wd) (i g p:Int) (w:World) (hn0:X.rows.length≤9223372036854775807) (hX:WldAt w A cap G gcap X) (hw0:(zP X).1=0) (hf:zAN X i g=-1) :
  Calls Tryz.prog 62 #[zi A cap G gcap X,zS i g,.int .i64 p] w fun e w'=>∃ A' c' G' gc',e=.returned (.tuple #[zi A' c' G' gc' emptyW,.int .i64 5])∧WldDoc w.heap.size w' G A' c' G' gc' emptyW∧Below w.heap.size w w':=by
 have hCW:=CW.start w (.slice A X.rows.length cap) (.slice G X.gens.length gcap) i g
 have hP:=fun W (hb:Below w.heap.size w W)=>zp A X.rows.length cap G X.gens.length gcap (fun j=>X.rows.getD j dR) (fun j=>X.gens.getD j 0) W (by omega) (hX.rows.below hb) (hX.gens.below hb)
 have eW:zAT (fun j=>X.rows.getD j dR) X.rows.length X.gens.length (fun j=>X.gens.getD j 0)=zP X:=rfl
 rw [eW] at hP
 unfold zAG zM at hP
 obtain ⟨hl,hgl,_⟩:=zk hw0
 rw [hw0] at hP
 have hR:=fun W (h:WldAt W A cap G gcap X)=>zFw hf hl A cap G gcap W h
 generalize (zP X).2=wa at *
 have HP:=zB hP
 have HX:=zB hX
 have HCW:=zB hCW
 have HR:=zB hR
 clear hR hf
 clear hP hX hCW eW hw0
 unfold zi zM zS emptyW
 go_enter Tryz.func62,Tryz.ntmps62
 go_wp2_with (first
  | (go_at_call 55;refine (zA HP _ (zA HCW).bel).mono ?_;rintro e w5 ⟨rfl,hb5⟩;have hC5:=(zA HCW).below hb5;have hC6:=hC5.below ((Below.refl _ _).alloc (Nat.le_refl _) (.cells #[.int .i64 0,.int .i64 wa] 29));have r0:=hC6.r0;have r1:=hC6.r1;have s0:=hC6.s0;have s1:=hC6.s1;have HC6:=zB hC6;clear hb5 hC5 hC6)
  | (go_at_call 59;refine (zA HR _ ((zA HX).below (zA HC6).bel)).mono ?_;rintro e w7 ⟨rfl,hb7⟩;have HC7:=zB ((zA HC6).below hb7);clear hb7 r0 r1 s0 s1)
  | (refine zG rfl 43 (.tmp 6) (.tmp 34) rfl (w.heap.size+2) 0 [.slice none 0 0,.slice none 0 0] rfl rfl (by simp [Value.oneCell']) size38 (zA HC7).there ?_;intro W3 hW3;have hC8:=(zA HC7).give (.slice none 0 0) (.slice none 0 0);rw [←hW3] at hC8;have HC8:=zB hC8;clear hW3 hC8))
 have t0:=(zA HC8).t0
 have t1:=(zA HC8).t1
 refine bodyPost_ret (v:=.tuple #[.agg #[.slice none 0 0,.slice none 0 0],.int .i64 5]) (by simp [results,Tryz.results62,go_sem,t0,t1]) rfl ⟨none,0,none,0,rfl,zy _ _ _,(zA HC8).bel⟩
theorem zNl (A:Option Addr) (cap:Nat) (G:Option Addr) (gcap:Nat) (X:Wd) (i g p n:Int) (w:World) (hn0:X.rows.length≤9223372036854775807) (hX:WldAt w A cap G gcap X) (hw0:(zP X).1=0) {k:Nat} (hf:zAN X i g=(k:Int)) (hp:p<0) :
  Calls Tryz.prog 63 #[zi A cap G gcap X,zS i g,.int .i64 p,.int .i64 n] w fun e w'=>∃ A' c' G' gc',e=.returned (.tuple #[zi A' c' G' gc' emptyW,.int .i64 3])∧WldDoc w.heap.size w' G A' c' G' gc' emptyW∧Below w.heap.size w w':=by
 have hCW:=CW.start w (.slice A X.rows.length cap) (.slice G X.gens.length gcap) i g
 have hP:=fun W (hb:Below w.heap.size w W)=>zp A X.rows.length cap G X.gens.length gcap (fun j=>X.rows.getD j dR) (fun j=>X.gens.getD j 0) W (by omega) (hX.rows.below hb) (hX.gens.below hb)
 have eW:zAT (fun j=>X.rows.getD j dR) X.rows.length X.gens.length (fun j=>X.gens.getD j 0)=zP X:=rfl
 rw [eW] at hP
 unfold zAG zM at hP
 obtain ⟨hl,hgl,_⟩:=zk hw0
 rw [hw0] at hP
 have hR:=fun W (h:WldAt W A cap G gcap X)=>zCC hf hl A cap G gcap W h
 generalize (zP X).2=wa at *
 have HP:=zB hP
 have HX:=zB hX
 have HCW:=zB hCW
 have HR:=zB hR
 clear hR hf
 clear hP hX hCW eW hw0
 unfold zi zM zS emptyW
 go_enter Tryz.func63,Tryz.ntmps63
 go_wp2_with (first
  | (go_at_call 55;refine (zA HP _ (zA HCW).bel).mono ?_;rintro e w5 ⟨rfl,hb5⟩;have hC5:=(zA HCW).below hb5;have hC6:=hC5.below ((Below.refl _ _).alloc (Nat.le_refl _) (.cells #[.int .i64 0,.int .i64 wa] 29));have r0:=hC6.r0;have r1:=hC6.r1;have s0:=hC6.s0;have s1:=hC6.s1;have HC6:=zB hC6;clear hb5 hC5 hC6)
  | (go_at_call 59;refine (zA HR _ ((zA HX).below (zA HC6).bel)).mono ?_;rintro e w7 ⟨b7,o7,rfl,hrw,hb7⟩;have c2:=hrw.c2;have HC7:=zB ((zA HC6).below hb7);clear hb7 hrw r0 r1 s0 s1)
  | (refine zG rfl 43 (.tmp 8) (.tmp 39) rfl (w.heap.size+2) 0 [.slice none 0 0,.slice none 0 0] rfl rfl (by simp [Value.oneCell']) size38 (zA HC7).there ?_;intro W3 hW3;have hC8:=(zA HC7).give (.slice none 0 0) (.slice none 0 0);rw [←hW3] at hC8;have HC8:=zB hC8;clear hW3 hC8))
 have t0:=(zA HC8).t0
 have t1:=(zA HC8).t1
 refine bodyPost_ret (v:=.tuple #[.agg #[.slice none 0 0,.slice none 0 0],.int .i64 3]) (by simp [results,Tryz.results63,go_sem,t0,t1]) rfl ⟨none,0,none,0,rfl,zy _ _ _,(zA HC8).bel⟩
theorem zNm (A:Option Addr) (cap:Nat) (G:Option Addr) (gcap:Nat) (X:Wd) (i g p n:Int) (w:World) (hn0:X.rows.length≤9223372036854775807) (hX:WldAt w A cap G gcap X) (hw0:(zP X).1=0) {k:Nat} (hf:zAN X i g=(k:Int)) (hp0:¬ p<0) (hp:7<p) :
  Calls Tryz.prog 63 #[zi A cap G gcap X,zS i g,.int .i64 p,.int .i64 n] w fun e w'=>∃ A' c' G' gc',e=.returned (.tuple #[zi A' c' G' gc' emptyW,.int .i64 3])∧WldDoc w.heap.size w' G A' c' G' gc' emptyW∧Below w.heap.size w w':=by
 have hCW:=CW.start w (.slice A X.rows.length cap) (.slice G X.gens.length gcap) i g
 have hP:=fun W (hb:Below w.heap.size w W)=>zp A X.rows.length cap G X.gens.length gcap (fun j=>X.rows.getD j dR) (fun j=>X.gens.getD j 0) W (by omega) (hX.rows.below hb) (hX.gens.below hb)
 have eW:zAT (fun j=>X.rows.getD j dR) X.rows.length X.gens.length (fun j=>X.gens.getD j 0)=zP X:=rfl
 rw [eW] at hP
 unfold zAG zM at hP
 obtain ⟨hl,hgl,_⟩:=zk hw0
 rw [hw0] at hP
 have hR:=fun W (h:WldAt W A cap G gcap X)=>zCC hf hl A cap G gcap W h
 generalize (zP X).2=wa at *
 have HP:=zB hP
 have HX:=zB hX
 have HCW:=zB hCW
 have HR:=zB hR
 clear hR hf
 clear hP hX hCW eW hw0
 unfold zi zM zS emptyW
 go_enter Tryz.func63,Tryz.ntmps63
 go_wp2_with (first
  | (go_at_call 55;refine (zA HP _ (zA HCW).bel).mono ?_;rintro e w5 ⟨rfl,hb5⟩;have hC5:=(zA HCW).below hb5;have hC6:=hC5.below ((Below.refl _ _).alloc (Nat.le_refl _) (.cells #[.int .i64 0,.int .i64 wa] 29));have r0:=hC6.r0;have r1:=hC6.r1;have s0:=hC6.s0;have s1:=hC6.s1;have HC6:=zB hC6;clear hb5 hC5 hC6)
  | (go_at_call 59;refine (zA HR _ ((zA HX).below (zA HC6).bel)).mono ?_;rintro e w7 ⟨b7,o7,rfl,hrw,hb7⟩;have c2:=hrw.c2;have HC7:=zB ((zA HC6).below hb7);clear hb7 hrw r0 r1 s0 s1)
  | (refine zG rfl 43 (.tmp 8) (.tmp 39) rfl (w.heap.size+2) 0 [.slice none 0 0,.slice none 0 0] rfl rfl (by simp [Value.oneCell']) size38 (zA HC7).there ?_;intro W3 hW3;have hC8:=(zA HC7).give (.slice none 0 0) (.slice none 0 0);rw [←hW3] at hC8;have HC8:=zB hC8;clear hW3 hC8))
 have t0:=(zA HC8).t0
 have t1:=(zA HC8).t1
 refine bodyPost_ret (v:=.tuple #[.agg #[.slice none 0 0,.slice none 0 0],.int .i64 3]) (by simp [results,Tryz.results63,go_sem,t0,t1]) rfl ⟨none,0,none,0,rfl,zy _ _ _,(zA HC8).bel⟩
theorem zMK (A:Option Addr) (cap:Nat) (G:Option Addr) (gcap:Nat) (X:Wd) (i g p n:Int) (w:World) (hn0:X.rows.length≤9223372036854775807) (hX:WldAt w A cap G gcap X) (hw0:(zP X).1=0) {k:Nat} (hf:zAN X i g=(k:Int)) (hp0:¬ p<0) (hp:¬ 7<p) (hv:zBY n=false) :
  Calls Tryz.prog 63 #[zi A cap G gcap X,zS i g,.int .i64 p,.int .i64 n] w fun e w'=>∃ A' c' G' gc',e=.returned (.tuple #[zi A' c' G' gc' emptyW,.int .i64 3])∧WldDoc w.heap.size w' G A' c' G' gc' emptyW∧Below w.heap.size w w':=by
 have hCW:=CW.start w (.slice A X.rows.length cap) (.slice G X.gens.length gcap) i g
 have hP:=fun W (hb:Below w.heap.size w W)=>zp A X.rows.length cap G X.gens.length gcap (fun j=>X.rows.getD j dR) (fun j=>X.gens.getD j 0) W (by omega) (hX.rows.below hb) (hX.gens.below hb)
 have eW:zAT (fun j=>X.rows.getD j dR) X.rows.length X.gens.length (fun j=>X.gens.getD j 0)=zP X:=rfl
 rw [eW] at hP
 unfold zAG zM at hP
 obtain ⟨hl,hgl,_⟩:=zk hw0
 rw [hw0] at hP
 have hR:=fun W (h:WldAt W A cap G gcap X)=>zCC hf hl A cap G gcap W h
 have hVL:=zx n
 rw [hv] at hVL
 generalize (zP X).2=wa at *
 have HP:=zB hP
 have HX:=zB hX
 have HCW:=zB hCW
 have HR:=zB hR
 have HVL:=zB hVL
 clear hVL hv
 clear hR hf
 clear hP hX hCW eW hw0
 unfold zi zM zS emptyW
 go_enter Tryz.func63,Tryz.ntmps63
 go_wp2_with (first
  | (go_at_call 55;refine (zA HP _ (zA HCW).bel).mono ?_;rintro e w5 ⟨rfl,hb5⟩;have hC5:=(zA HCW).below hb5;have hC6:=hC5.below ((Below.refl _ _).alloc (Nat.le_refl _) (.cells #[.int .i64 0,.int .i64 wa] 29));have r0:=hC6.r0;have r1:=hC6.r1;have s0:=hC6.s0;have s1:=hC6.s1;have HC6:=zB hC6;clear hb5 hC5 hC6)
  | (go_at_call 59;refine (zA HR _ ((zA HX).below (zA HC6).bel)).mono ?_;rintro e w7 ⟨b7,o7,rfl,hrw,hb7⟩;have c2:=hrw.c2;have HC7:=zB ((zA HC6).below hb7);clear hb7 hrw r0 r1 s0 s1)
  | (go_at_call 97;refine (zA HVL _).mono ?_;rintro e w8 ⟨rfl,hw8⟩;obtain rfl:=hw8.symm)
  | (refine zG rfl 43 (.tmp 8) (.tmp 39) rfl (w.heap.size+2) 0 [.slice none 0 0,.slice none 0 0] rfl rfl (by simp [Value.oneCell']) size38 (zA HC7).there ?_;intro W3 hW3;have hC8:=(zA HC7).give (.slice none 0 0) (.slice none 0 0);rw [←hW3] at hC8;have HC8:=zB hC8;clear hW3 hC8))
 have t0:=(zA HC8).t0
 have t1:=(zA HC8).t1
 refine bodyPost_ret (v:=.tuple #[.agg #[.slice none 0 0,.slice none 0 0],.int .i64 3]) (by simp [results,Tryz.results63,go_sem,t0,t1]) rfl ⟨none,0,none,0,rfl,zy _ _ _,(zA HC8).bel⟩
theorem zMS (A:Option Addr) (cap:Nat) (G:Option Addr) (gcap:Nat) (X:Wd) (i g p:Int) (w:World) (hn0:X.rows.length≤9223372036854775807) (hX:WldAt w A cap G gcap X) (hw0:(zP X).1=0) {k:Nat} (hk:k<X.rows.length) (hf:zAN X i g=(k:Int)) (hh:zFH (zR X k).has p=false) :
  Calls Tryz.prog 62 #[zi A cap G gcap X,zS i g,.int .i64 p] w fun e w'=>∃ A' c' G' gc',e=.returned (.tuple #[zi A' c' G' gc' emptyW,.int .i64 5])∧WldDoc w.heap.size w' G A' c' G' gc' emptyW∧Below w.heap.size w w':=by
 have hCW:=CW.start w (.slice A X.rows.length cap) (.slice G X.gens.length gcap) i g
 have hP:=fun W (hb:Below w.heap.size w W)=>zp A X.rows.length cap G X.gens.length gcap (fun j=>X.rows.getD j dR) (fun j=>X.gens.getD j 0) W (by omega) (hX.rows.below hb) (hX.gens.below hb)
 have eW:zAT (fun j=>X.rows.getD j dR) X.rows.length X.gens.length (fun j=>X.gens.getD j 0)=zP X:=rfl
 rw [eW] at hP
 unfold zAG zM at hP
 obtain ⟨hl,hgl,_⟩:=zk hw0
 rw [hw0] at hP
 have hR:=fun W (h:WldAt W A cap G gcap X)=>zCC hf hl A cap G gcap W h
 obtain ⟨hb,_⟩:=zAd (((zf X).1 hw0).rv k hk)
 have hHS:=fun W=>zDo (zR X k).has p W hb.1 hb.2
 rw [hh] at hHS
 generalize zR X k=x at *
 generalize (zP X).2=wa at *
 have HP:=zB hP
 have HX:=zB hX
 have HCW:=zB hCW
 have HR:=zB hR
 have HHS:=zB hHS
 clear hHS hh hb hk
 clear hR hf
 clear hP hX hCW eW hw0
 unfold zi zM zS emptyW
 go_enter Tryz.func62,Tryz.ntmps62
 go_wp2_with (first
  | (go_at_call 55;refine (zA HP _ (zA HCW).bel).mono ?_;rintro e w5 ⟨rfl,hb5⟩;have hC5:=(zA HCW).below hb5;have hC6:=hC5.below ((Below.refl _ _).alloc (Nat.le_refl _) (.cells #[.int .i64 0,.int .i64 wa] 29));have r0:=hC6.r0;have r1:=hC6.r1;have s0:=hC6.s0;have s1:=hC6.s1;have HC6:=zB hC6;clear hb5 hC5 hC6)
  | (go_at_call 59;refine (zA HR _ ((zA HX).below (zA HC6).bel)).mono ?_;rintro e w7 ⟨b7,o7,rfl,hrw,hb7⟩;have c2:=hrw.c2;have HC7:=zB ((zA HC6).below hb7);clear hb7 hrw r0 r1 s0 s1)
  | (go_at_call 61;refine (zA HHS _).mono ?_;rintro e w8 ⟨rfl,hb8⟩;have HC8:=zB ((zA HC7).below hb8);clear hb8)
  | (refine zG rfl 43 (.tmp 6) (.tmp 34) rfl (w.heap.size+2) 0 [.slice none 0 0,.slice none 0 0] rfl rfl (by simp [Value.oneCell']) size38 (zA HC8).there ?_;intro W3 hW3;have hC8:=(zA HC8).give (.slice none 0 0) (.slice none 0 0);rw [←hW3] at hC8;have HC9:=zB hC8;clear hW3 hC8))
 have t0:=(zA HC9).t0
 have t1:=(zA HC9).t1
 refine bodyPost_ret (v:=.tuple #[.agg #[.slice none 0 0,.slice none 0 0],.int .i64 5]) (by simp [results,Tryz.results62,go_sem,t0,t1]) rfl ⟨none,0,none,0,rfl,zy _ _ _,(zA HC9).bel⟩
theorem zJN (A:Option Addr) (cap:Nat) (G:Option Addr) (gcap:Nat) (X:Wd) (i g p n:Int) (w:World) (hn0:X.rows.length≤9223372036854775807) (hX:WldAt w A cap G gcap X) (hw0:(zP X).1≠0) :
  Calls Tryz.prog 63 #[zi A cap G gcap X,zS i g,.int .i64 p,.int .i64 n] w fun e w'=>∃ A' c' G' gc',e=.returned (.tuple #[zi A' c' G' gc' emptyW,.int .i64 (zP X).1])∧WldDoc w.heap.size w' G A' c' G' gc' emptyW∧Below w.heap.size w w':=by
 have hCW:=CW.start w (.slice A X.rows.length cap) (.slice G X.gens.length gcap) i g
 have hP:=fun W (hb:Below w.heap.size w W)=>zp A X.rows.length cap G X.gens.length gcap (fun j=>X.rows.getD j dR) (fun j=>X.gens.getD j 0) W (by omega) (hX.rows.below hb) (hX.gens.below hb)
 have eW:zAT (fun j=>X.rows.getD j dR) X.rows.length X.gens.length (fun j=>X.gens.getD j 0)=zP X:=rfl
 rw [eW] at hP
 unfold zAG zM at hP
 generalize (zP X).2=wa at *
 generalize (zP X).1=we at *
 have HP:=zB hP
 have HX:=zB hX
 have HCW:=zB hCW
 clear hP hX hCW eW
 unfold zi zM zS emptyW
 go_enter Tryz.func63,Tryz.ntmps63
 go_wp2_with (first
  | (go_at_call 55;refine (zA HP _ (zA HCW).bel).mono ?_;rintro e w5 ⟨rfl,hb5⟩;have hC5:=(zA HCW).below hb5;have hz:w.heap.size+1+1<w5.heap.size:=hC5.sz;have t0:w5.cell? ⟨w.heap.size+1+1,0,none⟩=some (.slice none 0 0):=hC5.t0;have t1:w5.cell? ⟨w.heap.size+1+1,1,none⟩=some (.slice none 0 0):=hC5.t1;have f0:w5.frozen? ⟨w.heap.size+1+1,0,none⟩=false:=hC5.f 0;have f1:w5.frozen? ⟨w.heap.size+1+1,1,none⟩=false:=hC5.f 1;have HC5:=zB hC5;clear hb5 hC5))
 go_region
 all_goals (try go_wp2)
 all_goals
  refine bodyPost_ret (v:=.tuple #[.agg #[.slice none 0 0,.slice none 0 0],.int .i64 we]) (by simp [results,Tryz.results63,go_sem,t0,t1,hz]) rfl ⟨none,0,none,0,rfl,zy _ _ _,?_⟩
  exact zz ((((zA HC5).bel.setCell (p:=⟨w.heap.size+1+1,0,none⟩) (by simp;omega) _).setCell (p:=⟨w.heap.size+1+1,1,none⟩) (by simp;omega) _).alloc (by simpa using (zA HC5).bel.size) _) 1
theorem zHg (A:Option Addr) (cap:Nat) (G:Option Addr) (gcap:Nat) (X:Wd) (i g p:Int) (w:World) (hn0:X.rows.length≤9223372036854775807) (hX:WldAt w A cap G gcap X) (hw0:(zP X).1≠0) :
  Calls Tryz.prog 62 #[zi A cap G gcap X,zS i g,.int .i64 p] w fun e w'=>∃ A' c' G' gc',e=.returned (.tuple #[zi A' c' G' gc' emptyW,.int .i64 (zP X).1])∧WldDoc w.heap.size w' G A' c' G' gc' emptyW∧Below w.heap.size w w':=by
 have hCW:=CW.start w (.slice A X.rows.length cap) (.slice G X.gens.length gcap) i g
 have hP:=fun W (hb:Below w.heap.size w W)=>zp A X.rows.length cap G X.gens.length gcap (fun j=>X.rows.getD j dR) (fun j=>X.gens.getD j 0) W (by omega) (hX.rows.below hb) (hX.gens.below hb)
 have eW:zAT (fun j=>X.rows.getD j dR) X.rows.length X.gens.length (fun j=>X.gens.getD j 0)=zP X:=rfl
 rw [eW] at hP
 unfold zAG zM at hP
 generalize (zP X).2=wa at *
 generalize (zP X).1=we at *
 have HP:=zB hP
 have HX:=zB hX
 have HCW:=zB hCW
 clear hP hX hCW eW
 unfold zi zM zS emptyW
 go_enter Tryz.func62,Tryz.ntmps62
 go_wp2_with (first
  | (go_at_call 55;refine (zA HP _ (zA HCW).bel).mono ?_;rintro e w5 ⟨rfl,hb5⟩;have hC5:=(zA HCW).below hb5;have hz:w.heap.size+1+1<w5.heap.size:=hC5.sz;have t0:w5.cell? ⟨w.heap.size+1+1,0,none⟩=some (.slice none 0 0):=hC5.t0;have t1:w5.cell? ⟨w.heap.size+1+1,1,none⟩=some (.slice none 0 0):=hC5.t1;have f0:w5.frozen? ⟨w.heap.size+1+1,0,none⟩=false:=hC5.f 0;have f1:w5.frozen? ⟨w.heap.size+1+1,1,none⟩=false:=hC5.f 1;have HC5:=zB hC5;clear hb5 hC5))
 go_region
 all_goals (try go_wp2)
 all_goals
  refine bodyPost_ret (v:=.tuple #[.agg #[.slice none 0 0,.slice none 0 0],.int .i64 we]) (by simp [results,Tryz.results62,go_sem,t0,t1,hz]) rfl ⟨none,0,none,0,rfl,zy _ _ _,?_⟩
  exact zz ((((zA HC5).bel.setCell (p:=⟨w.heap.size+1+1,0,none⟩) (by simp;omega) _).setCell (p:=⟨w.heap.size+1+1,1,none⟩) (by simp;omega) _).alloc (by simpa using (zA HC5).bel.size) _) 1
theorem zML (A:Option Addr) (cap:Nat) (G:Option Addr) (gcap:Nat) (X:Wd) (i g p n:Int) (w:World) (hn0:X.rows.length≤9223372036854775807) (hX:WldAt w A cap G gcap X) :
  Calls Tryz.prog 63 #[zi A cap G gcap X,zS i g,.int .i64 p,.int .i64 n] w fun e w'=>∃ A' c' G' gc',e=.returned (.tuple #[zi A' c' G' gc' (zDF X i g p n).2,.int .i64 (zDF X i g p n).1])∧WldDoc w.heap.size w' G A' c' G' gc' (zDF X i g p n).2∧Below w.heap.size w w':=by
 by_cases hw0:(zP X).1=0
 ·rcases zAi X i g with hf | ⟨k,hk,hf,h1,h2⟩
  ·have e:zDF X i g p n=(5,emptyW):=by unfold zDF chF;rw [if_neg (by simpa using hw0),hf,if_pos (by decide)]
   rw [e]
   exact zKP A cap G gcap X i g p n w hn0 hX hw0 hf
  ·have e0:zDF X i g p n=if (zGR (zR X k) p n).2.2≠0 then ((zGR (zR X k) p n).2.2,emptyW) else (0,⟨X.rows.set k (zGR (zR X k) p n).1,X.gens⟩):=by
    unfold zDF chF
    rw [if_neg (by simpa using hw0),hf,if_neg (by omega),Int.toNat_natCast]
    rfl
   have no:(zAE p && zBY n)=false→zDF X i g p n=(3,emptyW):=fun h=>by rw [e0];simp [zGR,h]
   by_cases p0:p<0
   ·rw [no (by simp [zAE];omega)]
    exact zNl A cap G gcap X i g p n w hn0 hX hw0 hf p0
   ·by_cases p7:7<p
    ·rw [no (by simp [zAE];omega)]
     exact zNm A cap G gcap X i g p n w hn0 hX hw0 hf p0 p7
    ·cases hv:zBY n
     ·rw [no (by simp [hv])]
      exact zMK A cap G gcap X i g p n w hn0 hX hw0 hf p0 p7 hv
     ·obtain ⟨q,rfl⟩:=Int.eq_ofNat_of_zero_le (show 0≤p by omega)
      have hp:zAE (q:Int)=true:=by simp [zAE];omega
      rw [e0]
      simp only [zGR,hp,hv,Bool.and_self,if_true,ne_eq,not_true_eq_false,if_false]
      exact zMJ A cap G gcap X i g n q (by omega) w hX hw0 hk hf hv
 ·have e:zDF X i g p n=((zP X).1,emptyW):=by unfold zDF chF;rw [if_pos hw0]
  rw [e]
  exact zJN A cap G gcap X i g p n w hn0 hX hw0
theorem zFG (h p:Int) (h0:0≤h) (h1:h≤255):zBy h p=zFH h p:=by
 by_cases hp:0≤p∧p<8
 ·obtain ⟨m,rfl⟩:=Int.eq_ofNat_of_zero_le h0
  obtain ⟨q,rfl⟩:=Int.eq_ofNat_of_zero_le hp.1
  have key:∀ m:Fin 256,∀ q:Fin 8,zBy (m.val:Int) (q.val:Int)=zFH (m.val:Int) (q.val:Int):=by decide +kernel
  exact key ⟨m,by omega⟩ ⟨q,by omega⟩
 ·have e1:zFH h p=false:=by unfold zFH;simp;omega
  rw [e1]
  cases e:zBy h p
  ·rfl
  ·obtain ⟨k,hk,rfl⟩:=zDI h p e
   omega
theorem zKd (A:Option Addr) (cap:Nat) (G:Option Addr) (gcap:Nat) (X:Wd) (i g p:Int) (w:World) (hn0:X.rows.length≤9223372036854775807) (hX:WldAt w A cap G gcap X) :
  Calls Tryz.prog 62 #[zi A cap G gcap X,zS i g,.int .i64 p] w fun e w'=>∃ A' c' G' gc',e=.returned (.tuple #[zi A' c' G' gc' (zAf X i g p).2,.int .i64 (zAf X i g p).1])∧WldDoc w.heap.size w' G A' c' G' gc' (zAf X i g p).2∧Below w.heap.size w w':=by
 by_cases hw0:(zP X).1=0
 ·rcases zAi X i g with hf | ⟨k,hk,hf,h1,h2⟩
  ·have e:zAf X i g p=(5,emptyW):=by unfold zAf chF;rw [if_neg (by simpa using hw0),hf,if_pos (by decide)]
   rw [e]
   exact zJS A cap G gcap X i g p w hn0 hX hw0 hf
  ·have e0:zAf X i g p=if (zCk (zR X k) p).2.2≠0 then ((zCk (zR X k) p).2.2,emptyW) else (0,⟨X.rows.set k (zCk (zR X k) p).1,X.gens⟩):=by
    unfold zAf chF
    rw [if_neg (by simpa using hw0),hf,if_neg (by omega),Int.toNat_natCast]
    rfl
   obtain ⟨hb,_⟩:=zAd (((zf X).1 hw0).rv k hk)
   have hs:=zFG (zR X k).has p hb.1 hb.2
   cases hh:zBy (zR X k).has p
   ·rw [hh] at hs
    have e:zAf X i g p=(5,emptyW):=by rw [e0];simp [zCk,hh]
    rw [e]
    exact zMS A cap G gcap X i g p w hn0 hX hw0 hk hf hs.symm
   ·rw [hh] at hs
    obtain ⟨q,hq,rfl⟩:=zDI _ _ hh
    rw [e0]
    simp only [zCk,hh,if_true,ne_eq,not_true_eq_false,if_false]
    exact zKc A cap G gcap X i g q hq w hX hw0 hk hf hs.symm
 ·have e:zAf X i g p=((zP X).1,emptyW):=by unfold zAf chF;rw [if_pos hw0]
  rw [e]
  exact zHg A cap G gcap X i g p w hn0 hX hw0
end Go.Proofs.YtnbleebilmghcabGreat
namespace Go.Proofs.YtnbleebilmghcabGreat
open Go Go.RowKit
attribute [local go_sem ↓] Go.wp_at_zero Go.wp_at_succ
section
variable {w W W1:World} {u0 u1:Value} {i g fa fn:Int} {l l1 l2:List (Nat×Value×Value)}
end
theorem WldDoc.below {B:Nat} {w w1:World} {G0 A:Option Addr} {cap:Nat} {G:Option Addr} {gcap:Nat} {X:Wd} (h:WldDoc B w G0 A cap G gcap X) (hb:Below w.heap.size w w1):WldDoc B w1 G0 A cap G gcap X:=⟨h.toWldAt.below hb,h.fa,h.fg⟩
theorem zLH (X:Wd) (i g:Int):(zAn X i g).2.gens≠[]→X.gens≠[]:=by
 unfold zAn emptyW
 repeat' split
 all_goals simp
theorem zLd (X:Wd) (i g:Int) (C:RowI→RowI×Bool×Int):(chF X i g C).2.gens≠[]→X.gens≠[]:=by
 unfold chF emptyW
 repeat' split
 all_goals simp
end Go.Proofs.YtnbleebilmghcabGreat
