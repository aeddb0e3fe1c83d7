/- Refs, RAct, RAct3, RWrong -/
import Derived.Test.YtnbleebilmghcabGreatWG
import Derived.Test.YtnbleebilmghcabGreatWH
set_option linter.all false
namespace Go.Proofs.YtnbleebilmghcabGreat
open Go.RowKit
theorem zFy (a:Int) (k:Nat) (w:World) (h:zAR a=true) (hk:k<8) :
  Calls Tryz.prog 61 #[.int .i64 a,.int .i64 (k:Int)] w fun e w'=>e=.returned (.bool (tb a k))∧Below w.heap.size w w':=by
 have h1:=of_decide_eq_true h
 have:=zDo a (k:Int) w h1.1 h1.2
 have e:zFH a (k:Int)=tb a k:=by simp [zFH];omega
 rwa [e] at this
theorem zNY (n:Int) (k:Nat) (h:zAR n=true) (hk:8≤k):tb n k=false:=by
 have h1:=of_decide_eq_true h
 obtain ⟨m,rfl⟩:=Int.eq_ofNat_of_zero_le h1.1
 unfold tb
 have h2:256≤2 ^ k:=by
  have:=Nat.pow_le_pow_right (n:=2) (by omega) hk
  omega
 have e:m / 2 ^ k=0:=Nat.div_eq_of_lt (by omega)
 rw [show ((m:Int) / ((2 ^ k:Nat):Int) % 2)=((m / 2 ^ k % 2:Nat):Int) by push_cast;rfl,e]
 decide
theorem zAY {x:Int} (h:zAR x=true):0≤x:=(of_decide_eq_true h).1
theorem zLy (x y:Int) (hx:zAR x=true) (hy:zAR y=true) (k:Nat) (hk:k<8):tb (bits .or .i64 x y) k=(tb x k || tb y k):=by
 rw [←zBK _ k (zAY (zIY x y hx hy).2) (by omega),zPI,BitVec.getLsbD_or,zBK _ k (zAY hx) (by omega),zBK _ k (zAY hy) (by omega)]
theorem zOf (x y:Int):BitVec.ofInt 64 (bits .and .i64 x y)=BitVec.ofInt 64 x &&& BitVec.ofInt 64 y:=zKs _
theorem zKt (x y:Int):BitVec.ofInt 64 (bits .andNot .i64 x y)=BitVec.ofInt 64 x &&& ~~~BitVec.ofInt 64 y:=zKs _
theorem zGP (x y:Int) (hx:zAR x=true):zAR (bits .and .i64 x y)=true:=by
 have h1:=of_decide_eq_true hx
 obtain ⟨a,rfl⟩:=Int.eq_ofNat_of_zero_le h1.1
 have e1:bits .and .i64 (a:Int) y=IntKind.i64.wrap (((BitVec.ofInt 64 (a:Int) &&& BitVec.ofInt 64 y).toNat:Nat):Int):=rfl
 have hle:(BitVec.ofInt 64 (a:Int) &&& BitVec.ofInt 64 y).toNat≤a:=by
  rw [BitVec.toNat_and,BitVec.ofInt_natCast,BitVec.toNat_ofNat,Nat.mod_eq_of_lt (by omega)]
  exact Nat.and_le_left
 rw [e1,zNe _ (by omega)]
 exact decide_eq_true ⟨by omega,by omega⟩
theorem zEN (x y:Int) (hx:zAR x=true):zAR (bits .andNot .i64 x y)=true:=by
 have h1:=of_decide_eq_true hx
 obtain ⟨a,rfl⟩:=Int.eq_ofNat_of_zero_le h1.1
 have e1:bits .andNot .i64 (a:Int) y=IntKind.i64.wrap (((BitVec.ofInt 64 (a:Int) &&& ~~~BitVec.ofInt 64 y).toNat:Nat):Int):=rfl
 have hle:(BitVec.ofInt 64 (a:Int) &&& ~~~BitVec.ofInt 64 y).toNat≤a:=by
  rw [BitVec.toNat_and,BitVec.ofInt_natCast,BitVec.toNat_ofNat,Nat.mod_eq_of_lt (by omega)]
  exact Nat.and_le_left
 rw [e1,zNe _ (by omega)]
 exact decide_eq_true ⟨by omega,by omega⟩
theorem zKC (x y:Int) (hx:zAR x=true) (hy:zAR y=true) (k:Nat) (hk:k<8):tb (bits .and .i64 x y) k=(tb x k && tb y k):=by
 rw [←zBK _ k (zAY (zGP x y hx)) (by omega),zOf,BitVec.getLsbD_and,zBK _ k (zAY hx) (by omega),zBK _ k (zAY hy) (by omega)]
theorem zGi (x y:Int) (hx:zAR x=true) (hy:zAR y=true) (k:Nat) (hk:k<8):tb (bits .andNot .i64 x y) k=(tb x k && !tb y k):=by
 rw [←zBK _ k (zAY (zEN x y hx)) (by omega),zKt,BitVec.getLsbD_and,BitVec.getLsbD_not,zBK _ k (zAY hx) (by omega),zBK _ k (zAY hy) (by omega)]
 simp [show k<64 by omega]
theorem tb_bit_fin:∀ p:Fin 8,∀ k:Fin 8,tb (zAr (p.val:Int)) k.val=decide (p.val=k.val):=by decide +kernel
theorem zNE (p k:Nat) (hp:p<8) (hk:k<8):tb (zAr (p:Int)) k=decide (p=k):=tb_bit_fin ⟨p,hp⟩ ⟨k,hk⟩
theorem zOC (x y:Int) (hx:zAR x=true) (hy:zAR y=true):inB x y=true↔∀ k,k<8→tb x k=true→tb y k=true:=by
 unfold inB
 rw [beq_iff_eq]
 constructor
 ·intro h k hk h1
  have:=zGi x y hx hy k hk
  rw [h,h1] at this
  have h0:tb 0 k=false:=by
   rcases (by omega:k=0∨k=1∨k=2∨k=3∨k=4∨k=5∨k=6∨k=7) with rfl | rfl | rfl | rfl | rfl | rfl | rfl | rfl <;> decide
  rw [h0] at this
  cases h2:tb y k
  ·rw [h2] at this;cases this
  ·rfl
 ·intro h
  have hs:=zEN x y hx
  rw [zIA]
  apply BitVec.eq_of_getLsbD_eq
  intro i hi
  rw [BitVec.getLsbD_and,BitVec.getLsbD_not,zBK _ i (zAY hx) hi,zBK _ i (zAY hy) hi,BitVec.getLsbD_zero]
  by_cases h8:i<8
  ·cases h1:tb x i
   ·rfl
   ·rw [h i h8 h1];simp
  ·rw [zNY x i hx (by omega)];simp
end Go.Proofs.YtnbleebilmghcabGreat
set_option maxHeartbeats 2000000
set_option maxRecDepth 8000
namespace Go.Proofs.YtnbleebilmghcabGreat
open Go.RowKit
def gV (g:Nat→Bool):Value:=.agg #[.bool (g 0),.bool (g 1),.bool (g 2),.bool (g 3),.bool (g 4),.bool (g 5),.bool (g 6),.bool (g 7)]
structure GR (al:Int) (g:Nat→Bool) (r:Int):Prop where
 sal:zAR al=true
 sr:zAR r=true
 eq:∀ q,q<8→tb r q=(tb al q && !g q)
theorem in_bit_fin:∀ m:Fin 256,∀ k:Fin 8,inB (zAr (k.val:Int)) (m.val:Int)=tb (m.val:Int) k.val:=by decide +kernel
theorem zIc (r:Int) (k:Nat) (h:zAR r=true) (hk:k<8):inB (zAr (k:Int)) r=tb r k:=by
 have h1:=of_decide_eq_true h
 obtain ⟨m,rfl⟩:=zDv r h1.1 h1.2
 exact in_bit_fin m ⟨k,hk⟩
theorem zOq (x y r:Int) (hx:zAR x=true) (hy:zAR y=true) (hr:zAR r=true):inB (bits .or .i64 x y) r=(inB x r && inB y r):=by
 rw [Bool.eq_iff_iff,Bool.and_eq_true,zOC _ _ (zIY x y hx hy).2 hr,zOC _ _ hx hr,zOC _ _ hy hr]
 constructor
 ·intro h
  exact ⟨fun k hk h1=>h k hk (by rw [zLy x y hx hy k hk,h1];rfl),fun k hk h1=>h k hk (by rw [zLy x y hx hy k hk,h1];simp)⟩
 ·rintro ⟨h1,h2⟩ k hk h
  rw [zLy x y hx hy k hk,Bool.or_eq_true] at h
  rcases h with h | h
  ·exact h1 k hk h
  ·exact h2 k hk h
theorem rd2 (p r:Int) (i:Nat) (hr:zAR r=true) (hi:i<8):inB (rdI 2 p (i:Int)) r=tb r i:=by
 simp only [rdI,if_true,zHi _ (zCw _)]
 exact zIc r i hr hi
theorem rd3 (r:Int) (i j:Nat) (hr:zAR r=true) (hi:i<8) (hj:j<8):inB (rdI 3 (j:Int) (i:Int)) r=(tb r i && tb r j):=by
 have e:rdI 3 (j:Int) (i:Int)=bits .or .i64 (zAr (i:Int)) (zAr (j:Int)):=by simp [rdI,zHi _ (zCw _)]
 rw [e,zOq _ _ _ (zCw _) (zCw _) hr,zIc r i hr hi,zIc r j hr hj]
theorem rd4 (f r:Int) (j:Nat) (hr:zAR r=true) (hj:j<8):inB (rdI 4 (j:Int) f) r=tb r j:=by
 have e:rdI 4 (j:Int) f=zAr (j:Int):=by simp [rdI,zHi _ (zCw _)]
 rw [e];exact zIc r j hr hj
theorem zOB (r:Int):inB 0 r=true:=by
 unfold inB
 rw [beq_iff_eq,zIA];simp
structure QW (w:World) (al k p f n:Int) (g:Nat→Bool) (W:World):Prop where
 bel:Below w.heap.size w W
 a0:W.cell? ⟨w.heap.size,0,none⟩=some (.int .i64 al)
 k0:W.cell? ⟨w.heap.size+1,0,none⟩=some (.int .i64 k)
 k1:W.cell? ⟨w.heap.size+1,1,none⟩=some (.int .i64 p)
 k2:W.cell? ⟨w.heap.size+1,2,none⟩=some (.int .i64 f)
 k3:W.cell? ⟨w.heap.size+1,3,none⟩=some (.int .i64 n)
 g:∀ i,i<8→W.cell? ⟨w.heap.size+1+1,i,none⟩=some (.bool (g i))
section
variable {w:World} {al no k p f n:Int} {g:Nat→Bool} {W W1:World}
theorem QW.below (h:QW w al k p f n g W) (hb:Below W.heap.size W W1):QW w al k p f n g W1 :=
 ⟨h.bel.trans (hb.mono h.bel.size),zC hb h.a0,zC hb h.k0,zC hb h.k1,zC hb h.k2,zC hb h.k3,fun i hi=>zC hb (h.g i hi)⟩
theorem QW.start:QW w al k p f n g (((w.alloc (.cells #[.int .i64 al,.int .i64 no] 34)).alloc (.cells #[.int .i64 k,.int .i64 p,.int .i64 f,.int .i64 n] 95)).alloc (.cells #[.bool (g 0),.bool (g 1),.bool (g 2),.bool (g 3),.bool (g 4),.bool (g 5),.bool (g 6),.bool (g 7)] 107)):=by
 refine ⟨by go_grown,by simp [go_sem],by simp [go_sem],by simp [go_sem],by simp [go_sem],by simp [go_sem],fun i hi=>?_⟩
 rcases (by omega:i=0∨i=1∨i=2∨i=3∨i=4∨i=5∨i=6∨i=7) with rfl | rfl | rfl | rfl | rfl | rfl | rfl | rfl <;> simp [go_sem]
end
theorem zDa (p:Int):p<0∨7<p∨∃ j:Nat,j<8∧p=(j:Int):=by
 by_cases h:p<0
 ·exact .inl h
 ·by_cases h2:7<p
  ·exact .inr (.inl h2)
  ·exact .inr (.inr ⟨p.toNat,by omega,by omega⟩)
theorem zBr (j:Nat) (h:j<8):zAE (j:Int)=true:=decide_eq_true ⟨by omega,by omega⟩
theorem zEl (k p f n al no r:Int) (g:Nat→Bool) (w:World) (hk:¬ (k=2∨k=3∨k=4)) :
  Calls Tryz.prog 56 #[.agg #[.int .i64 al,.int .i64 no],zBl k p f n,gV g] w fun e w'=>e=.returned (.int .i64 (waI k p f n r))∧Below w.heap.size w w':=by
 unfold gV
 by_cases h:k=1∨k=5∨k=6∨k=7
 ·clear hk
  have hr:rdI k p f=0:=by rcases h with rfl | rfl | rfl | rfl <;> simp [rdI]
  have e:waI k p f n r=if rgB k p f n=false then 3 else 0:=by
   unfold waI
   rw [if_neg (by omega),hr,zOB];simp
  rw [e]
  clear e hr
  unfold zBl
  rcases h with rfl | rfl | rfl | rfl
  ·cases hv:zBY n
   ·have e:(if rgB 1 p f n=false then (3:Int) else 0)=3:=by simp [rgB,hv]
    rw [e]
    clear e
    go_enter Tryz.func56,Tryz.ntmps56
    go_wp2_with (first | (go_at_call 97;refine (zx _ _).mono ?_;rintro e w1 ⟨rfl,hw⟩;obtain rfl:=hw.symm))
    go_ret
    exact ⟨rfl,by go_grown⟩
   ·rcases zDa p with hp | hp | ⟨j,hj,rfl⟩
    ·have e:(if rgB 1 p f n=false then (3:Int) else 0)=3:=by
      have:zAE p=false:=decide_eq_false (by omega)
      simp [rgB,this]
     rw [e]
     clear e
     go_enter Tryz.func56,Tryz.ntmps56
     go_wp2_with (first | (go_at_call 97;refine (zx _ _).mono ?_;rintro e w1 ⟨rfl,hw⟩;obtain rfl:=hw.symm))
     go_ret
     exact ⟨rfl,by go_grown⟩
    ·have e:(if rgB 1 p f n=false then (3:Int) else 0)=3:=by
      have:zAE p=false:=decide_eq_false (by omega)
      simp [rgB,this]
     rw [e]
     clear e
     have hp0:¬ p<0:=by omega
     go_enter Tryz.func56,Tryz.ntmps56
     go_wp2_with (first | (go_at_call 97;refine (zx _ _).mono ?_;rintro e w1 ⟨rfl,hw⟩;obtain rfl:=hw.symm))
     go_ret
     exact ⟨rfl,by go_grown⟩
    ·have e:(if rgB 1 (j:Int) f n=false then (3:Int) else 0)=0:=by simp [rgB,hv,zBr j hj]
     rw [e]
     clear e
     have hp0:¬ (j:Int)<0:=by omega
     have hp1:¬ 7<(j:Int):=by omega
     go_enter Tryz.func56,Tryz.ntmps56
     go_wp2_with (first | (go_at_call 97;refine (zx _ _).mono ?_;rintro e w1 ⟨rfl,hw⟩;obtain rfl:=hw.symm))
     go_ret
     exact ⟨rfl,by go_grown⟩
  ·rcases zDa p with hp | hp | ⟨j,hj,rfl⟩
   ·have e:(if rgB 5 p f n=false then (3:Int) else 0)=3:=by
     have:zAE p=false:=decide_eq_false (by omega)
     simp [rgB,this]
    rw [e]
    clear e
    go_enter Tryz.func56,Tryz.ntmps56
    go_wp2
    go_ret
    exact ⟨rfl,by go_grown⟩
   ·have e:(if rgB 5 p f n=false then (3:Int) else 0)=3:=by
     have:zAE p=false:=decide_eq_false (by omega)
     simp [rgB,this]
    rw [e]
    clear e
    have hp0:¬ p<0:=by omega
    go_enter Tryz.func56,Tryz.ntmps56
    go_wp2
    go_ret
    exact ⟨rfl,by go_grown⟩
   ·have e:(if rgB 5 (j:Int) f n=false then (3:Int) else 0)=0:=by simp [rgB,zBr j hj]
    rw [e]
    clear e
    have hp0:¬ (j:Int)<0:=by omega
    have hp1:¬ 7<(j:Int):=by omega
    go_enter Tryz.func56,Tryz.ntmps56
    go_wp2
    go_ret
    exact ⟨rfl,by go_grown⟩
  ·have e:(if rgB 6 p f n=false then (3:Int) else 0)=0:=by simp [rgB]
   rw [e]
   clear e
   go_enter Tryz.func56,Tryz.ntmps56
   go_wp2
   go_ret
   exact ⟨rfl,by go_grown⟩
  ·cases hs:zAR p
   ·have e:(if rgB 7 p f n=false then (3:Int) else 0)=3:=by simp [rgB,hs]
    rw [e]
    clear e
    go_enter Tryz.func56,Tryz.ntmps56
    go_wp2_with (first | (go_at_call 45;refine (zAs _ _).mono ?_;rintro e w1 ⟨rfl,hw⟩;obtain rfl:=hw.symm))
    go_ret
    exact ⟨rfl,by go_grown⟩
   ·cases hv:zBY n
    ·have e:(if rgB 7 p f n=false then (3:Int) else 0)=3:=by simp [rgB,hv]
     rw [e]
     clear e
     go_enter Tryz.func56,Tryz.ntmps56
     go_wp2_with (first | (go_at_call 45;refine (zAs _ _).mono ?_;rintro e w1 ⟨rfl,hw⟩;obtain rfl:=hw.symm) | (go_at_call 97;refine (zx _ _).mono ?_;rintro e w1 ⟨rfl,hw⟩;obtain rfl:=hw.symm))
     go_ret
     exact ⟨rfl,by go_grown⟩
    ·have e:(if rgB 7 p f n=false then (3:Int) else 0)=0:=by simp [rgB,hv,hs]
     rw [e]
     clear e
     go_enter Tryz.func56,Tryz.ntmps56
     go_wp2_with (first | (go_at_call 45;refine (zAs _ _).mono ?_;rintro e w1 ⟨rfl,hw⟩;obtain rfl:=hw.symm) | (go_at_call 97;refine (zx _ _).mono ?_;rintro e w1 ⟨rfl,hw⟩;obtain rfl:=hw.symm))
     go_ret
     exact ⟨rfl,by go_grown⟩
 ·have h1:¬ k=1:=by omega
  have h2:¬ k=2:=by omega
  have h3:¬ k=3:=by omega
  have h4:¬ k=4:=by omega
  have h5:¬ k=5:=by omega
  have h6:¬ k=6:=by omega
  have h7:¬ k=7:=by omega
  have e:waI k p f n r=1:=by unfold waI;rw [if_pos (by omega)]
  rw [e]
  clear e h hk
  unfold zBl
  go_enter Tryz.func56,Tryz.ntmps56
  go_wp2
  go_ret
  exact ⟨rfl,by go_grown⟩
theorem zHY (p f n al no r:Int) (g:Nat→Bool) (w:World) (hg:GR al g r) :
  Calls Tryz.prog 56 #[.agg #[.int .i64 al,.int .i64 no],zBl 4 p f n,gV g] w fun e w'=>e=.returned (.int .i64 (waI 4 p f n r))∧Below w.heap.size w w':=by
 have e:waI 4 p f n r=if rgB 4 p f n=false then 3 else if inB (rdI 4 p f) r=false then 7 else 0:=by
  unfold waI;rw [if_neg (by omega)]
 rw [e]
 clear e
 have hS:QW w al 4 p f n g _:=QW.start (no:=no)
 have HS:=zB hS
 clear hS
 unfold gV zBl
 cases hv:zBY n
 ·have e:(if rgB 4 p f n=false then (3:Int) else if inB (rdI 4 p f) r=false then 7 else 0)=3:=by simp [rgB,hv]
  rw [e]
  clear e HS
  go_enter Tryz.func56,Tryz.ntmps56
  go_wp2_with (first | (go_at_call 97;refine (zx _ _).mono ?_;rintro e w1 ⟨rfl,hw⟩;obtain rfl:=hw.symm))
  go_ret
  exact ⟨rfl,by go_grown⟩
 ·rcases zDa p with hp | hp | ⟨j,hj,rfl⟩
  ·have e:(if rgB 4 p f n=false then (3:Int) else if inB (rdI 4 p f) r=false then 7 else 0)=3:=by
    have:zAE p=false:=decide_eq_false (by omega)
    simp [rgB,this]
   rw [e]
   clear e HS
   go_enter Tryz.func56,Tryz.ntmps56
   go_wp2_with (first | (go_at_call 97;refine (zx _ _).mono ?_;rintro e w1 ⟨rfl,hw⟩;obtain rfl:=hw.symm))
   go_ret
   exact ⟨rfl,by go_grown⟩
  ·have e:(if rgB 4 p f n=false then (3:Int) else if inB (rdI 4 p f) r=false then 7 else 0)=3:=by
    have:zAE p=false:=decide_eq_false (by omega)
    simp [rgB,this]
   rw [e]
   clear e HS
   have hp0:¬ p<0:=by omega
   go_enter Tryz.func56,Tryz.ntmps56
   go_wp2_with (first | (go_at_call 97;refine (zx _ _).mono ?_;rintro e w1 ⟨rfl,hw⟩;obtain rfl:=hw.symm))
   go_ret
   exact ⟨rfl,by go_grown⟩
  ·have e:(if rgB 4 (j:Int) f n=false then (3:Int) else if inB (rdI 4 (j:Int) f) r=false then 7 else 0)=if (tb al j && !g j)=false then 7 else 0:=by
    rw [rd4 f r j hg.sr hj,hg.eq j hj];simp [rgB,hv,zBr j hj]
   rw [e]
   clear e
   have HJ:=zB (fun W=>zFy al j W hg.sal hj)
   have HG:=zB (fun W (h:QW w al 4 (j:Int) f n g W)=>h.g j hj)
   have hp0:¬ (j:Int)<0:=by omega
   have hp1:¬ 7<(j:Int):=by omega
   have hj0:(0:Int)≤(j:Int):=by omega
   have hj1:(j:Int)<8:=by omega
   clear hg
   generalize tb al j=tj at *
   generalize g j=gj at *
   cases tj
   ·go_enter Tryz.func56,Tryz.ntmps56
    go_wp2_with (first
     | (go_at_call 97;refine (zx _ _).mono ?_;rintro e w1 ⟨rfl,hw⟩;obtain rfl:=hw.symm)
     | (go_at_call 61;refine (zA HJ _).mono ?_;rintro e w1 ⟨rfl,hb1⟩;have HB:=zB ((zA HS).below hb1).bel;clear hb1))
    go_ret
    exact ⟨by simp,zA HB⟩
   ·cases gj
    all_goals
     go_enter Tryz.func56,Tryz.ntmps56
     go_wp2_with (first
      | (go_at_call 97;refine (zx _ _).mono ?_;rintro e w1 ⟨rfl,hw⟩;obtain rfl:=hw.symm)
      | (go_at_call 61;refine (zA HJ _).mono ?_;rintro e w1 ⟨rfl,hb1⟩;have hS1:=(zA HS).below hb1;have k1:=hS1.k1;have c1:=zA HG _ hS1;have HB:=zB hS1.bel;clear hb1 hS1))
     go_ret
     exact ⟨by simp,zA HB⟩
theorem zHa (p f n al no r:Int) (g:Nat→Bool) (w:World) (hg:GR al g r) :
  Calls Tryz.prog 56 #[.agg #[.int .i64 al,.int .i64 no],zBl 2 p f n,gV g] w fun e w'=>e=.returned (.int .i64 (waI 2 p f n r))∧Below w.heap.size w w':=by
 have e:waI 2 p f n r=if rgB 2 p f n=false then 3 else if inB (rdI 2 p f) r=false then 7 else 0:=by
  unfold waI;rw [if_neg (by omega)]
 rw [e]
 clear e
 have hS:QW w al 2 p f n g _:=QW.start (no:=no)
 have HS:=zB hS
 clear hS
 unfold gV zBl
 rcases zDa f with hf | hf | ⟨i,hi,rfl⟩
 ·have e:(if rgB 2 p f n=false then (3:Int) else if inB (rdI 2 p f) r=false then 7 else 0)=3:=by
   have:zAE f=false:=decide_eq_false (by omega)
   simp [rgB,this]
  rw [e]
  clear e HS
  go_enter Tryz.func56,Tryz.ntmps56
  go_wp2
  go_ret
  exact ⟨rfl,by go_grown⟩
 ·have e:(if rgB 2 p f n=false then (3:Int) else if inB (rdI 2 p f) r=false then 7 else 0)=3:=by
   have:zAE f=false:=decide_eq_false (by omega)
   simp [rgB,this]
  rw [e]
  clear e HS
  have hf0:¬ f<0:=by omega
  go_enter Tryz.func56,Tryz.ntmps56
  go_wp2
  go_ret
  exact ⟨rfl,by go_grown⟩
 ·have hf0:¬ (i:Int)<0:=by omega
  have hf1:¬ 7<(i:Int):=by omega
  have hi0:(0:Int)≤(i:Int):=by omega
  have hi1:(i:Int)<8:=by omega
  rcases zDa p with hp | hp | ⟨j,hj,rfl⟩
  ·have e:(if rgB 2 p (i:Int) n=false then (3:Int) else if inB (rdI 2 p (i:Int)) r=false then 7 else 0)=3:=by
    have:zAE p=false:=decide_eq_false (by omega)
    simp [rgB,this]
   rw [e]
   clear e HS
   go_enter Tryz.func56,Tryz.ntmps56
   go_wp2
   go_ret
   exact ⟨rfl,by go_grown⟩
  ·have e:(if rgB 2 p (i:Int) n=false then (3:Int) else if inB (rdI 2 p (i:Int)) r=false then 7 else 0)=3:=by
    have:zAE p=false:=decide_eq_false (by omega)
    simp [rgB,this]
   rw [e]
   clear e HS
   have hp0:¬ p<0:=by omega
   go_enter Tryz.func56,Tryz.ntmps56
   go_wp2
   go_ret
   exact ⟨rfl,by go_grown⟩
  ·have e:(if rgB 2 (j:Int) (i:Int) n=false then (3:Int) else if inB (rdI 2 (j:Int) (i:Int)) r=false then 7 else 0)=if (tb al i && !g i)=false then 7 else 0:=by
    rw [rd2 (j:Int) r i hg.sr hi,hg.eq i hi];simp [rgB,zBr j hj,zBr i hi]
   rw [e]
   clear e
   have HJ:=zB (fun W=>zFy al i W hg.sal hi)
   have HG:=zB (fun W (h:QW w al 2 (j:Int) (i:Int) n g W)=>h.g i hi)
   have hp0:¬ (j:Int)<0:=by omega
   have hp1:¬ 7<(j:Int):=by omega
   clear hg
   generalize tb al i=tj at *
   generalize g i=gj at *
   cases tj
   ·go_enter Tryz.func56,Tryz.ntmps56
    go_wp2_with (first
     | (go_at_call 61;refine (zA HJ _).mono ?_;rintro e w1 ⟨rfl,hb1⟩;have HB:=zB ((zA HS).below hb1).bel;clear hb1))
    go_ret
    exact ⟨by simp,zA HB⟩
   ·cases gj
    all_goals
     go_enter Tryz.func56,Tryz.ntmps56
     go_wp2_with (first
      | (go_at_call 61;refine (zA HJ _).mono ?_;rintro e w1 ⟨rfl,hb1⟩;have hS1:=(zA HS).below hb1;have k2:=hS1.k2;have c1:=zA HG _ hS1;have HB:=zB hS1.bel;clear hb1 hS1))
     go_ret
     exact ⟨by simp,zA HB⟩
end Go.Proofs.YtnbleebilmghcabGreat
set_option maxHeartbeats 2000000
set_option maxRecDepth 8000
namespace Go.Proofs.YtnbleebilmghcabGreat
open Go.RowKit
theorem zHZ (p f n al no r:Int) (g:Nat→Bool) (w:World) (hg:GR al g r) :
  Calls Tryz.prog 56 #[.agg #[.int .i64 al,.int .i64 no],zBl 3 p f n,gV g] w fun e w'=>e=.returned (.int .i64 (waI 3 p f n r))∧Below w.heap.size w w':=by
 have e:waI 3 p f n r=if rgB 3 p f n=false then 3 else if inB (rdI 3 p f) r=false then 7 else 0:=by
  unfold waI;rw [if_neg (by omega)]
 rw [e]
 clear e
 have hS:QW w al 3 p f n g _:=QW.start (no:=no)
 have HS:=zB hS
 clear hS
 unfold gV zBl
 rcases zDa f with hf | hf | ⟨i,hi,rfl⟩
 ·have e:(if rgB 3 p f n=false then (3:Int) else if inB (rdI 3 p f) r=false then 7 else 0)=3:=by
   have:zAE f=false:=decide_eq_false (by omega)
   simp [rgB,this]
  rw [e]
  clear e HS
  go_enter Tryz.func56,Tryz.ntmps56
  go_wp2
  go_ret
  exact ⟨rfl,by go_grown⟩
 ·have e:(if rgB 3 p f n=false then (3:Int) else if inB (rdI 3 p f) r=false then 7 else 0)=3:=by
   have:zAE f=false:=decide_eq_false (by omega)
   simp [rgB,this]
  rw [e]
  clear e HS
  have hf0:¬ f<0:=by omega
  go_enter Tryz.func56,Tryz.ntmps56
  go_wp2
  go_ret
  exact ⟨rfl,by go_grown⟩
 ·have hf0:¬ (i:Int)<0:=by omega
  have hf1:¬ 7<(i:Int):=by omega
  have hi0:(0:Int)≤(i:Int):=by omega
  have hi1:(i:Int)<8:=by omega
  rcases zDa p with hp | hp | ⟨j,hj,rfl⟩
  ·have e:(if rgB 3 p (i:Int) n=false then (3:Int) else if inB (rdI 3 p (i:Int)) r=false then 7 else 0)=3:=by
    have:zAE p=false:=decide_eq_false (by omega)
    simp [rgB,this]
   rw [e]
   clear e HS
   go_enter Tryz.func56,Tryz.ntmps56
   go_wp2
   go_ret
   exact ⟨rfl,by go_grown⟩
  ·have e:(if rgB 3 p (i:Int) n=false then (3:Int) else if inB (rdI 3 p (i:Int)) r=false then 7 else 0)=3:=by
    have:zAE p=false:=decide_eq_false (by omega)
    simp [rgB,this]
   rw [e]
   clear e HS
   have hp0:¬ p<0:=by omega
   go_enter Tryz.func56,Tryz.ntmps56
   go_wp2
   go_ret
   exact ⟨rfl,by go_grown⟩
  ·have e:(if rgB 3 (j:Int) (i:Int) n=false then (3:Int) else if inB (rdI 3 (j:Int) (i:Int)) r=false then 7 else 0)=if ((tb al i && !g i) && (tb al j && !g j))=false then 7 else 0:=by
    rw [rd3 r i j hg.sr hi hj,hg.eq i hi,hg.eq j hj];simp [rgB,zBr j hj,zBr i hi]
   rw [e]
   clear e
   have HI:=zB (fun W=>zFy al i W hg.sal hi)
   have HJ:=zB (fun W=>zFy al j W hg.sal hj)
   have HG:=zB (fun W (h:QW w al 3 (j:Int) (i:Int) n g W)=>h.g i hi)
   have HH:=zB (fun W (h:QW w al 3 (j:Int) (i:Int) n g W)=>h.g j hj)
   have hp0:¬ (j:Int)<0:=by omega
   have hp1:¬ 7<(j:Int):=by omega
   have hj0:(0:Int)≤(j:Int):=by omega
   have hj1:(j:Int)<8:=by omega
   clear hg
   generalize tb al i=ti at *
   generalize g i=gi at *
   generalize tb al j=tj at *
   generalize g j=gj at *
   have hc:ti=false∨(ti=true∧gi=true)∨(ti=true∧gi=false∧tj=false)∨(ti=true∧gi=false∧tj=true∧gj=true)∨(ti=true∧gi=false∧tj=true∧gj=false):=by
    cases ti <;> cases gi <;> cases tj <;> cases gj <;> simp
   rcases hc with rfl | ⟨rfl,rfl⟩ | ⟨rfl,rfl,rfl⟩ | ⟨rfl,rfl,rfl,rfl⟩ | ⟨rfl,rfl,rfl,rfl⟩
   all_goals
    go_enter Tryz.func56,Tryz.ntmps56
    go_wp2_with (first
     | (go_at_call 61;refine (zA HI _).mono ?_;rintro e w1 ⟨rfl,hb1⟩;clear HI;have hS1:=(zA HS).below hb1;have a0:=hS1.a0;have k1:=hS1.k1;have k2:=hS1.k2;have c1:=zA HG _ hS1;have HS1:=zB hS1;clear hb1 hS1 HS)
     | (go_at_call 61;refine (zA HJ _).mono ?_;rintro e w2 ⟨rfl,hb2⟩;clear HJ a0 k1 k2 c1;have hS2:=(zA HS1).below hb2;have k1:=hS2.k1;have c1:=zA HH _ hS2;have HS2:=zB hS2;clear hb2 hS2 HS1))
    go_ret
    first
    | exact ⟨by simp,(zA HS2).bel⟩
    | exact ⟨by simp,(zA HS1).bel⟩
theorem zFv (k p f n al no r:Int) (g:Nat→Bool) (w:World) (hg:GR al g r) :
  Calls Tryz.prog 56 #[.agg #[.int .i64 al,.int .i64 no],zBl k p f n,gV g] w fun e w'=>e=.returned (.int .i64 (waI k p f n r))∧Below w.heap.size w w':=by
 by_cases h:k=2∨k=3∨k=4
 ·rcases h with rfl | rfl | rfl
  ·exact zHa p f n al no r g w hg
  ·exact zHZ p f n al no r g w hg
  ·exact zHY p f n al no r g w hg
 ·exact zEl k p f n al no r g w h
end Go.Proofs.YtnbleebilmghcabGreat
set_option maxHeartbeats 2000000
set_option maxRecDepth 8000
namespace Go.Proofs.YtnbleebilmghcabGreat
open Go.RowKit
attribute [local go_sem ↓] Go.wp_at_zero Go.wp_at_succ
structure RW (w:World) (al no:Int) (g:Nat→Bool) (wr:World):Prop where
 bel:Below w.heap.size w wr
 e1:wr.cell? ⟨w.heap.size,1,none⟩=some (.int .i64 al)
 e2:wr.cell? ⟨w.heap.size,2,none⟩=some (.int .i64 no)
 t0:wr.cell? ⟨w.heap.size+1,0,none⟩=some (.int .i64 0)
 t1:wr.cell? ⟨w.heap.size+1,1,none⟩=some (.int .i64 0)
 f:∀ i,wr.frozen? ⟨w.heap.size+1,i,none⟩=false
 g:∀ q,q<8→wr.cell? ⟨w.heap.size+1+1,q,none⟩=some (.bool (g q))
 fg:∀ i,wr.frozen? ⟨w.heap.size+1+1,i,none⟩=false
section
variable {w wr w1:World} {al no:Int} {g:Nat→Bool}
theorem RW.below (h:RW w al no g wr) (hb:Below wr.heap.size wr w1):RW w al no g w1:=by
 have z0:=World.block_lt_of_cell? wr _ h.t0
 have z1:=World.block_lt_of_cell? wr _ (h.g 0 (by omega))
 exact ⟨h.bel.trans (hb.mono h.bel.size),zC hb h.e1,zC hb h.e2,zC hb h.t0,zC hb h.t1,fun i=>(hb.frozen (p:=⟨w.heap.size+1,i,none⟩) z0).trans (h.f i),
  fun q hq=>zC hb (h.g q hq),fun i=>(hb.frozen (p:=⟨w.heap.size+1+1,i,none⟩) z1).trans (h.fg i)⟩
theorem RW.set (h:RW w al no g wr) (q:Nat) (hq:q<8) (b:Bool):RW w al no (fun i=>if i=q then b else g i) (wr.setCell ⟨w.heap.size+1+1,q,none⟩ (.bool b)):=by
 refine ⟨h.bel.setCell (p:=⟨w.heap.size+1+1,q,none⟩) (by simp <;> omega) _,zCQ (by simp <;> omega) h.e1,zCQ (by simp <;> omega) h.e2,zCQ (by simp <;> omega) h.t0,zCQ (by simp <;> omega) h.t1,
  fun i=>by rw [World.frozen?_setCell];exact h.f i,fun i hi=>?_,fun i=>by rw [World.frozen?_setCell];exact h.fg i⟩
 by_cases e:i=q
 ·subst e;simp only [if_true];exact zLe (h.g i hi)
 ·simp only [e,if_false];exact zCQ (by simp <;> omega) (h.g i hi)
theorem RW.start (m:Int) (A:Option Addr) (len cap:Nat):RW w al no (fun _=>false)
  (((w.alloc (.cells #[.int .i64 m,.int .i64 al,.int .i64 no,.slice A len cap] 37)).alloc (.cells #[.int .i64 0,.int .i64 0] 29)).alloc (.cells #[.bool false,.bool false,.bool false,.bool false,.bool false,.bool false,.bool false,.bool false] 107)):=by
 obtain ⟨w1,h1⟩:∃ W,W=w.alloc (.cells #[.int .i64 m,.int .i64 al,.int .i64 no,.slice A len cap] 37):=⟨_,rfl⟩
 have z1:w1.heap.size=w.heap.size+1:=by rw [h1];simp
 have b1:Below w.heap.size w w1:=by rw [h1];exact (Below.refl _ _).alloc (Nat.le_refl _) _
 have e1:w1.cell? ⟨w.heap.size,1,none⟩=some (.int .i64 al):=by rw [h1];simp
 have e2:w1.cell? ⟨w.heap.size,2,none⟩=some (.int .i64 no):=by rw [h1];simp
 rw [←h1]
 clear h1
 obtain ⟨w2,h2⟩:∃ W,W=w1.alloc (.cells #[.int .i64 0,.int .i64 0] 29):=⟨_,rfl⟩
 have z2:w2.heap.size=w.heap.size+1+1:=by rw [h2];simp [z1]
 have b2:Below w1.heap.size w1 w2:=by rw [h2];exact (Below.refl _ _).alloc (Nat.le_refl _) _
 have t0:w2.cell? ⟨w.heap.size+1,0,none⟩=some (.int .i64 0):=by rw [h2,←z1];simp
 have t1:w2.cell? ⟨w.heap.size+1,1,none⟩=some (.int .i64 0):=by rw [h2,←z1];simp
 have f2:∀ i,w2.frozen? ⟨w.heap.size+1,i,none⟩=false:=fun i=>by rw [h2,←z1];simp [go_sem]
 rw [←h2]
 clear h2
 have b3:Below w2.heap.size w2 (w2.alloc (.cells #[.bool false,.bool false,.bool false,.bool false,.bool false,.bool false,.bool false,.bool false] 107)):=(Below.refl _ _).alloc (Nat.le_refl _) _
 refine ⟨b1.trans ((b2.trans (b3.mono b2.size)).mono b1.size),zC b3 (zC b2 e1),zC b3 (zC b2 e2),zC b3 t0,zC b3 t1,fun i=>(b3.frozen (p:=⟨w.heap.size+1,i,none⟩) (by show w.heap.size+1<w2.heap.size;omega)).trans (f2 i),fun q hq=>?_,fun i=>?_⟩
 ·rw [←z2]
  rcases (by omega:q=0∨q=1∨q=2∨q=3∨q=4∨q=5∨q=6∨q=7) with rfl | rfl | rfl | rfl | rfl | rfl | rfl | rfl <;> simp
 ·rw [←z2];simp [go_sem]
end
theorem GR.drop {al:Int} {g:Nat→Bool} {r:Int} (h:GR al g r) (q:Nat) (hq:q<8):GR al (fun i=>if i=q then true else g i) (bits .and .i64 (bits .andNot .i64 r (zAr (q:Int))) al):=by
 have hs:=zEN r (zAr (q:Int)) h.sr
 refine ⟨h.sal,zGP _ _ hs,fun i hi=>?_⟩
 rw [zKC _ _ hs h.sal i hi,zGi _ _ h.sr (zCw _) i hi,zNE q i hq hi,h.eq i hi]
 by_cases e:i=q
 ·subst e;simp
 ·have e':¬ q=i:=fun x=>e x.symm
  simp only [e,e',decide_false,Bool.not_false,Bool.and_true,if_false]
  cases tb al i <;> cases g i <;> rfl
theorem GR.put {al:Int} {g:Nat→Bool} {r:Int} (h:GR al g r) (q:Nat) (hq:q<8):GR al (fun i=>if i=q then false else g i) (bits .and .i64 (bits .or .i64 r (zAr (q:Int))) al):=by
 have hs:=(zIY r (zAr (q:Int)) h.sr (zCw _)).2
 refine ⟨h.sal,zGP _ _ hs,fun i hi=>?_⟩
 rw [zKC _ _ hs h.sal i hi,zLy _ _ h.sr (zCw _) i hi,zNE q i hq hi,h.eq i hi]
 by_cases e:i=q
 ·subst e;simp
 ·have e':¬ q=i:=fun x=>e x.symm
  simp only [e,e',decide_false,Bool.or_false,if_false]
  cases tb al i <;> cases g i <;> rfl
theorem GR.same {al:Int} {g:Nat→Bool} {r:Int} (h:GR al g r):GR al g (bits .and .i64 r al):=by
 refine ⟨h.sal,zGP _ _ h.sr,fun i hi=>?_⟩
 rw [zKC _ _ h.sr h.sal i hi,h.eq i hi]
 cases tb al i <;> cases g i <;> rfl
theorem GR.start {al:Int} (h:zAR al=true):GR al (fun _=>false) al:=⟨h,h,fun i _=>by simp⟩
theorem zHW (m al no:Int) (A:Option Addr) (len cap:Nat) (w:World) (h:zCa m al no=false) :
  Calls Tryz.prog 29 #[zDV m al no A len cap] w fun e w'=>e=.returned (zAX (3,0))∧Below w.heap.size w w':=by
 unfold zCa at h
 unfold zDV
 have hc:m<0∨(¬ m<0∧5<m)∨((¬ m<0∧¬ 5<m)∧zAR al=false)∨((¬ m<0∧¬ 5<m)∧zAR al=true∧zAR no=false):=by
  cases h1:zAR al <;> cases h2:zAR no <;> simp [h1,h2] at h ⊢ <;> omega
 clear h
 rcases hc with h0 | ⟨h0,h1⟩ | ⟨⟨h0,h1⟩,h2⟩ | ⟨⟨h0,h1⟩,h2,h3⟩
 all_goals
  go_enter Tryz.func29,Tryz.ntmps29
  go_wp2_with (first
   | (go_at_call 45;refine (zAs _ _).mono ?_;rintro e w1 ⟨rfl,hw⟩;obtain rfl:=hw.symm))
  refine bodyPost_ret (v:=zAX (3,0)) (by simp [results,Tryz.results29,go_sem,zAX]) rfl ⟨rfl,?_⟩
  go_grown
theorem zHV (m al no:Int) (A:Option Addr) (len cap:Nat) (w:World) (h:zCa m al no=true) (hl:8<len) :
  Calls Tryz.prog 29 #[zDV m al no A len cap] w fun e w'=>e=.returned (zAX (4,0))∧Below w.heap.size w w':=by
 unfold zCa at h
 unfold zDV
 simp only [Bool.and_eq_true,decide_eq_true_eq] at h
 obtain ⟨⟨⟨h0,h1⟩,h2⟩,h3⟩:=h
 have h0':¬ m<0:=by omega
 have h1':¬ 5<m:=by omega
 clear h0 h1
 have hl':(8:Int)<(len:Int):=by omega
 go_enter Tryz.func29,Tryz.ntmps29
 go_wp2_with (first
  | (go_at_call 45;refine (zAs _ _).mono ?_;rintro e w1 ⟨rfl,hw⟩;obtain rfl:=hw.symm))
 refine bodyPost_ret (v:=zAX (4,0)) (by simp [results,Tryz.results29,go_sem,zAX]) rfl ⟨rfl,?_⟩
 go_grown
theorem zHX (m al no:Int) (A:Option Addr) (len cap:Nat) (a:Nat→ActI) (w:World) (h:zCa m al no=true) (hl:len≤8) (hA:ActsAt w A len a) :
  Calls Tryz.prog 29 #[zDV m al no A len cap] w fun e w'=>e=.returned (zAX (zGU al a len 0))∧Below w.heap.size w w':=by
 have hW:RW w al no (fun _=>false) _:=RW.start m A len cap
 unfold zCa at h
 unfold zDV
 simp only [Bool.and_eq_true,decide_eq_true_eq] at h
 obtain ⟨⟨⟨h0,h1⟩,h2⟩,h3⟩:=h
 have hG0:=GR.start h2
 have h0':¬ m<0:=by omega
 have h1':¬ 5<m:=by omega
 clear h0 h1
 have hl':¬ (8:Int)<(len:Int):=by omega
 have HW:=zB hW
 have HA:=zB hA
 have HG0:=zB hG0
 clear hW hA hG0
 go_enter Tryz.func29,Tryz.ntmps29
 go_wp2_with (first
  | (go_at_call 45;refine (zAs _ _).mono ?_;rintro e w1 ⟨rfl,hw⟩;obtain rfl:=hw.symm))
 go_loopw [38] (fun i wr=>∃ j:Nat,j≤len∧i=.int .i64 j∧zGU al a len 0=zGU al a (len - j) j∧∃ g,GR al g (zJw al a j)∧RW w al no g wr) (fun i _=>len - (intOf i).toNat)
 case atStart=>exact ⟨0,Nat.zero_le _,rfl,rfl,_,zA HG0,zA HW⟩
 case round =>
  clear HW HG0
  obtain ⟨j,hj,rfl,hF,g,hG,hN⟩:=hrel
  have HF:=zB hF
  clear hF
  by_cases hlt:j<len
  ·have j0:(0:Int)≤(j:Int):=by omega
   have j1:(j:Int)<(len:Int):=by omega
   obtain ⟨b,off,rfl,q0,q1,q2,q3⟩:=zA HA j hlt
   have q0:=zC hN.bel q0
   have q1:=zC hN.bel q1
   have q2:=zC hN.bel q2
   have q3:=zC hN.bel q3
   have e1:=hN.e1
   have e2:=hN.e2
   have c0:=hN.g 0 (by omega)
   have c1:=hN.g 1 (by omega)
   have c2:=hN.g 2 (by omega)
   have c3:=hN.g 3 (by omega)
   have c4:=hN.g 4 (by omega)
   have c5:=hN.g 5 (by omega)
   have c6:=hN.g 6 (by omega)
   have c7:=hN.g 7 (by omega)
   have z2:w.heap.size+1+1<wr.heap.size:=World.block_lt_of_cell? wr _ c0
   have z1:w.heap.size+1<wr.heap.size:=Nat.lt_of_succ_lt z2
   have z0:w.heap.size<wr.heap.size:=Nat.lt_of_succ_lt z1
   have HN:=zB hN
   have HS:=zB (zLW al a len j hlt)
   have HR:Hid (zJw al a (j+1)=bits .and .i64 (afI (a j).k (a j).p (zJw al a j)) al):=rfl
   have HE:Hid (zJx al a j=waI (a j).k (a j).p (a j).f (a j).n (zJw al a j)):=rfl
   clear hN HA
   generalize zJx al a j=ej at *
   generalize zJw al a j=rj at *
   generalize a j=y at *
   obtain ⟨k,p,f,n⟩:=y
   dsimp only at *
   have HC:=fun W=>zFv k p f n al no rj g W hG
   rw [←zA HE] at HC
   have HC:=zB HC
   have HG:=zB hG
   clear hG
   unfold zBl gV at HC
   by_cases he:ej=0
   ·subst he
    have hrg:=(zIJ _ _ _ _ _ (zA HE).symm).1
    clear HE
    have hk:(k=5∧∃ q:Nat,q<8∧p=(q:Int))∨(k=1∧∃ q:Nat,q<8∧p=(q:Int))∨(k=2∧∃ q:Nat,q<8∧p=(q:Int))∨(¬ k=5∧¬ k=1∧¬ k=2):=by
     have hp:∀ p:Int,zAE p=true→∃ q:Nat,q<8∧p=(q:Int):=fun p hp=>⟨p.toNat,by have:=of_decide_eq_true hp;omega,by have:=of_decide_eq_true hp;omega⟩
     by_cases k5:k=5
     ·exact .inl ⟨k5,hp p (by subst k5;simpa [rgB] using hrg)⟩
     ·by_cases k1:k=1
      ·exact .inr (.inl ⟨k1,hp p (by subst k1;simp [rgB] at hrg;exact hrg.1)⟩)
      ·by_cases k2:k=2
       ·exact .inr (.inr (.inl ⟨k2,hp p (by subst k2;simp [rgB] at hrg;exact hrg.1)⟩))
       ·exact .inr (.inr (.inr ⟨k5,k1,k2⟩))
    clear hrg
    rcases hk with ⟨rfl,q,hq,rfl⟩ | ⟨rfl,q,hq,rfl⟩ | ⟨rfl,q,hq,rfl⟩ | ⟨k5,k1,k2⟩
    ·have qq0:(0:Int)≤(q:Int):=by omega
     have qq1:(q:Int)<8:=by omega
     go_wp2_with (first
      | (go_at_call 56;refine (zA HC _).mono ?_;rintro e w5 ⟨rfl,hb5⟩;have hN5:=(zA HN).below (Below.trans ((Below.refl _ _).alloc (Nat.le_refl _) _) (hb5.mono (by simp)));have d0:=zC hb5 (p:=⟨wr.heap.size,0,none⟩) (v:=.int .i64 5) (by simp);have d1:=zC hb5 (p:=⟨wr.heap.size,1,none⟩) (v:=.int .i64 (q:Int)) (by simp);have cq:=hN5.g q hq;have fq:=hN5.fg q;have hne9:¬ w.heap.size+1+1=wr.heap.size:=Nat.ne_of_lt z2;have hz5:wr.heap.size<w5.heap.size:=World.block_lt_of_cell? w5 _ d0;clear hb5 e1 e2 c0 c1 c2 c3 c4 c5 c6 c7 q0 q1 q2 q3))
     go_roundw
     case rel=>exact ⟨j+1,by omega,by go_num,(zA HF).trans ((zA HS).trans (by simp)),_,by rw [zA HR];exact (zA HG).drop q hq,hN5.set q hq _⟩
     case measure=>simp [intOf];omega
    ·have qq0:(0:Int)≤(q:Int):=by omega
     have qq1:(q:Int)<8:=by omega
     go_wp2_with (first
      | (go_at_call 56;refine (zA HC _).mono ?_;rintro e w5 ⟨rfl,hb5⟩;have hN5:=(zA HN).below (Below.trans ((Below.refl _ _).alloc (Nat.le_refl _) _) (hb5.mono (by simp)));have d0:=zC hb5 (p:=⟨wr.heap.size,0,none⟩) (v:=.int .i64 1) (by simp);have d1:=zC hb5 (p:=⟨wr.heap.size,1,none⟩) (v:=.int .i64 (q:Int)) (by simp);have cq:=hN5.g q hq;have fq:=hN5.fg q;have hne9:¬ w.heap.size+1+1=wr.heap.size:=Nat.ne_of_lt z2;have hz5:wr.heap.size<w5.heap.size:=World.block_lt_of_cell? w5 _ d0;clear hb5 e1 e2 c0 c1 c2 c3 c4 c5 c6 c7 q0 q1 q2 q3))
     go_roundw
     case rel=>exact ⟨j+1,by omega,by go_num,(zA HF).trans ((zA HS).trans (by simp)),_,by rw [zA HR];exact (zA HG).put q hq,hN5.set q hq _⟩
     case measure=>simp [intOf];omega
    ·have qq0:(0:Int)≤(q:Int):=by omega
     have qq1:(q:Int)<8:=by omega
     go_wp2_with (first
      | (go_at_call 56;refine (zA HC _).mono ?_;rintro e w5 ⟨rfl,hb5⟩;have hN5:=(zA HN).below (Below.trans ((Below.refl _ _).alloc (Nat.le_refl _) _) (hb5.mono (by simp)));have d0:=zC hb5 (p:=⟨wr.heap.size,0,none⟩) (v:=.int .i64 2) (by simp);have d1:=zC hb5 (p:=⟨wr.heap.size,1,none⟩) (v:=.int .i64 (q:Int)) (by simp);have cq:=hN5.g q hq;have fq:=hN5.fg q;have hne9:¬ w.heap.size+1+1=wr.heap.size:=Nat.ne_of_lt z2;have hz5:wr.heap.size<w5.heap.size:=World.block_lt_of_cell? w5 _ d0;clear hb5 e1 e2 c0 c1 c2 c3 c4 c5 c6 c7 q0 q1 q2 q3))
     go_roundw
     case rel=>exact ⟨j+1,by omega,by go_num,(zA HF).trans ((zA HS).trans (by simp)),_,by rw [zA HR];exact (zA HG).put q hq,hN5.set q hq _⟩
     case measure=>simp [intOf];omega
    ·have kb5:(k == 5)=false:=by simpa using k5
     have kb1:(k == 1)=false:=by simpa using k1
     have kb2:(k == 2)=false:=by simpa using k2
     go_wp2_with (first
      | (go_at_call 56;refine (zA HC _).mono ?_;rintro e w5 ⟨rfl,hb5⟩;have hN5:=(zA HN).below (Below.trans ((Below.refl _ _).alloc (Nat.le_refl _) _) (hb5.mono (by simp)));have d0:=zC hb5 (p:=⟨wr.heap.size,0,none⟩) (v:=.int .i64 k) (by simp);clear hb5 e1 e2 c0 c1 c2 c3 c4 c5 c6 c7 q0 q1 q2 q3))
     go_roundw
     case rel=>exact ⟨j+1,by omega,by go_num,(zA HF).trans ((zA HS).trans (by simp)),_,by
      rw [zA HR]
      have e:afI k p rj=rj:=by simp [afI,k5,k1,k2]
      rw [e]
      exact (zA HG).same,hN5⟩
     case measure=>simp [intOf];omega
   ·go_wp2_with (first
     | (go_at_call 56;refine (zA HC _).mono ?_;rintro e w5 ⟨rfl,hb5⟩;have hN5:=(zA HN).below (Below.trans ((Below.refl _ _).alloc (Nat.le_refl _) _) (hb5.mono (by simp)));clear hb5;have t0:=hN5.t0;have t1:=hN5.t1;have f0:=hN5.f 0;have f1:=hN5.f 1))
    have hv:zGU al a len 0=(ej,(j:Int)):=by rw [zA HF,zA HS,if_neg he]
    refine bodyPost_ret (v:=zAX (ej,(j:Int))) (by simp [results,Tryz.results29,go_sem,zAX,t0,t1]) rfl ⟨by rw [hv],?_⟩
    exact zI (w.heap.size+1) (by omega) [.int .i64 ej,.int .i64 (j:Int)] 0 w5 hN5.bel
  ·obtain rfl:j=len:=by omega
   have hv:zGU al a j 0=(0,0):=by rw [zA HF,Nat.sub_self];rfl
   have t0:=hN.t0
   have t1:=hN.t1
   have f0:=hN.f 0
   have f1:=hN.f 1
   have HB:=zB hN.bel
   clear hN HA
   go_wp2
   refine bodyPost_ret (v:=zAX (0,0)) (by simp [results,Tryz.results29,go_sem,zAX,t0,t1]) rfl ⟨by rw [hv],?_⟩
   exact zI (w.heap.size+1) (by omega) [.int .i64 0,.int .i64 0] 0 wr (zA HB)
theorem zFU (m al no:Int) (A:Option Addr) (len cap:Nat) (a:Nat→ActI) (w:World) (hA:ActsAt w A len a) :
  Calls Tryz.prog 29 #[zDV m al no A len cap] w fun e w'=>e=.returned (zAX (wrF m al no a len))∧Below w.heap.size w w':=by
 unfold wrF
 cases h:zCa m al no
 ·exact zHW m al no A len cap w h
 ·by_cases hl:8<len
  ·simp only [Bool.true_eq_false,if_false,hl,if_true]
   exact zHV m al no A len cap w h hl
  ·simp only [Bool.true_eq_false,if_false,hl]
   exact zHX m al no A len cap a w h (by omega) hA
end Go.Proofs.YtnbleebilmghcabGreat
