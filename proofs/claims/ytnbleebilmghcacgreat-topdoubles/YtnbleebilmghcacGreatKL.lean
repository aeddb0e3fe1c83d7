/- SStable, STog0, STog, STog2, SAsk, SBin -/
import Derived.Test.YtnbleebilmghcacGreatKK
import Derived.Test.YtnbleebilmghcacGreatYSSym3
set_option linter.all false
set_option maxHeartbeats 8000000
set_option maxRecDepth 8000
namespace Go.Proofs.YtnbleebilmghcacGreat
open Go Go.RowKit
attribute [local go_sem ↓] Go.wp_at_zero Go.wp_at_succ
theorem sym_any (g cap n:Nat) (R:Nat→RowI) (hn:n≤1000):∀ (d a m b:Nat) (s:Nat→Nat) (W0:World),b - a≤d→a<m→m<b→b≤n→DL g cap W0 (zy R s n) W0→Halves (fun p=>(R p).ix) s a m b →
  Calls Tryz.prog 105 #[.slice (some ⟨g,0,none⟩) n cap,.int .i64 (a:Int),.int .i64 (m:Int),.int .i64 (b:Int),cmpV] W0 fun e w'=>e=.returned (.tuple #[])∧∃ t,DL g cap W0 (zy R t n) w'∧SP s t a b∧Srt (fun p=>(R p).ix) t a b
 | 0,a,m,b,s,W0,hd,am,mb,hbn,h,hH=>by omega
 | d+1,a,m,b,s,W0,hd,am,mb,hbn,h,hH=>by
  by_cases e1:m=a+1
  ·subst e1
   have:=sym_one g cap n a b R s W0 mb hbn hn h hH
   rw [show ((a:Int)+1)=((a+1:Nat):Int) by omega] at this
   exact this
  ·by_cases e2:b=m+1
   ·subst e2
    have:=sym_last g cap n a m R s W0 (by omega) hbn hn h hH
    rw [show ((m:Int)+1)=((m+1:Nat):Int) by omega] at this
    exact this
   ·by_cases e3:(a+b) / 2<m
    ·exact sym_hi g cap n d a m b R s W0 hn (fun a m b s W0=>sym_any g cap n R hn d a m b s W0) hd (by omega) (by omega) hbn h hH _ rfl e3
    ·exact sym_lo g cap n d a m b R s W0 hn (fun a m b s W0=>sym_any g cap n R hn d a m b s W0) hd (by omega) (by omega) hbn h hH _ rfl e3
def Inb (s:Nat→Nat) (a b:Nat):Prop:=∀ x,a≤x→x<b→a≤s x∧s x<b
section
variable {key:Nat→Int} {s t:Nat→Nat} {a b a' b' m n c:Nat}
theorem zz (hid:∀ x,c≤x→x<n→s x=x) (h:SP s t a b) (h1:c≤a) (h2:b≤n):Inb t a b:=fun x x1 x2=>by
 obtain ⟨j,j1,j2,e⟩:=h.mem x1 x2
 rw [e,hid j (by omega) (by omega)]
 exact ⟨j1,j2⟩
theorem blk_eq (h:SP s t a b) (hd:b'≤a∨b≤a'):∀ x,a'≤x→x<b'→t x=s x:=fun x x1 x2=>h.out (by omega)
theorem zAG (h:SP s t a b) (hd:b'≤a∨b≤a') (hi:Inb s a' b'):Inb t a' b':=fun x x1 x2=>by rw [blk_eq h hd x x1 x2];exact hi x x1 x2
theorem zn (h:SP s t a b) (hd:b'≤a∨b≤a') (hs:Srt key s a' b'):Srt key t a' b':=fun x y x1 x2 x3=>by rw [blk_eq h hd x x1 (by omega),blk_eq h hd y (by omega) x3];exact hs x y x1 x2 x3
theorem zAW (hid:∀ x,c≤x→x<n→s x=x) (h:SP s t a b) (h1:c≤a) (h2:a≤b):∀ x,b≤x→x<n→t x=x:=fun x x1 x2=>by rw [h.out (by omega)];exact hid x (by omega) x2
theorem zAg (h1:Srt key s a m) (h2:Srt key s m b) (h3:Inb s a m) (h4:Inb s m b):Halves key s a m b:=⟨h1,h2,fun i j i1 i2 j1 j2=>by have:=h3 i i1 i2;have:=h4 j j1 j2;omega⟩
theorem zBC (h:SP s t a b) (h3:Inb s a m) (h4:Inb s m b) (h1:a≤m) (h2:m≤b):Inb t a b:=fun x x1 x2=>by
 obtain ⟨j,j1,j2,e⟩:=h.mem x1 x2
 rw [e]
 rcases Nat.lt_or_ge j m with hj | hj
 ·have:=h3 j j1 hj;omega
 ·have:=h4 j hj j2;omega
end
theorem zAV {g cap n:Nat} {R:Nat→RowI} {W0:World} (hn:n≤1000) (a b:Nat) (x y:Int) (hx:x=(a:Int)) (hy:y=(b:Int)) (s:Nat→Nat) (W:World) (hab:a≤b) (hbn:b≤n) (hid:∀ x,a≤x→x<n→s x=x) (h:DL g cap W0 (zy R s n) W) :
  Calls Tryz.prog 104 #[.slice (some ⟨g,0,none⟩) n cap,.int .i64 x,.int .i64 y,cmpV] W fun e w'=>e=.returned (.tuple #[])∧∃ t,DL g cap W0 (zy R t n) w'∧SP s t a b∧Srt (fun p=>(R p).ix) t a b:=by
 subst hx hy
 exact (inssort_any g cap n a b R s W hab hbn hn (fun x x1 x2=>hid x x1 (by omega)) h.self).mono fun e w' ⟨he,t,k1,k2,k3⟩=>⟨he,t,h.trans k1,k2,k3⟩
theorem sym_at {g cap n:Nat} {R:Nat→RowI} {W0:World} (hn:n≤1000) (a m b:Nat) (x y z:Int) (hx:x=(a:Int)) (hy:y=(m:Int)) (hz:z=(b:Int)) (s:Nat→Nat) (W:World) (am:a<m) (mb:m<b) (hbn:b≤n) (hH:Halves (fun p=>(R p).ix) s a m b) (h:DL g cap W0 (zy R s n) W) :
  Calls Tryz.prog 105 #[.slice (some ⟨g,0,none⟩) n cap,.int .i64 x,.int .i64 y,.int .i64 z,cmpV] W fun e w'=>e=.returned (.tuple #[])∧∃ t,DL g cap W0 (zy R t n) w'∧SP s t a b∧Srt (fun p=>(R p).ix) t a b:=by
 subst hx hy hz
 exact (sym_any g cap n R hn (b - a) a m b s W (Nat.le_refl _) am mb hbn h.self hH).mono fun e w' ⟨he,t,k1,k2,k3⟩=>⟨he,t,h.trans k1,k2,k3⟩
theorem st_a (g cap n:Nat) (R:Nat→RowI) (W0:World) (h1:n<20) (h:DL g cap W0 (zy R id n) W0) :
  Calls Tryz.prog 77 #[.slice (some ⟨g,0,none⟩) n cap,.int .i64 (n:Int),cmpV] W0 fun e w'=>e=.returned (.tuple #[])∧∃ t,DL g cap W0 (zy R t n) w'∧SP id t 0 n∧Srt (fun p=>(R p).ix) t 0 n:=by
 have hn:n≤1000:=by omega
 have HD0:=zB h
 have HP0:Hid (SP id id 0 n):=zB (SP.refl _ _ _)
 have HI0:Hid (∀ x,0≤x→x<n→id x=x):=zB (fun x _ _=>rfl)
 have x20a:decide ((20:Int)≤(n:Int))=false:=by simp;omega
 have x20b:decide (20≤n)=false:=by simp;omega
 have v20a:decide ((20:Int)<(n:Int))=false:=by simp;omega
 have v20b:decide (20<n)=false:=by simp;omega
 clear h
 go_enter Tryz.func77,Tryz.ntmps77
 go_wp2_with (first
  | (go_at_call 104;refine (zAV hn 0 n _ _ (by first | rfl | omega) (by first | rfl | omega) _ _ (by omega) (by omega) (zA HI0) (zA HD0)).mono ?_;rintro e1 w1 ⟨rfl,t1,hd,hp,hs⟩;have HP1:=zB ((zA HP0).trans (hp.wide (by omega) (by omega)));have HI1:=zB (zAW (zA HI0) hp (by omega) (by omega));have HB1_0:=zB (zz (zA HI0) hp (by omega) (by omega));have HS1_0:=zB hs;have HD1:=zB hd;clear hd hp hs HD0))
 repeat (first | (rw [rounds_succ];go_wp2_with (first
   | (go_at_call 104;refine (zAV hn 0 n _ _ (by first | rfl | omega) (by first | rfl | omega) _ _ (by omega) (by omega) (zA HI0) (zA HD0)).mono ?_;rintro e1 w1 ⟨rfl,t1,hd,hp,hs⟩;have HP1:=zB ((zA HP0).trans (hp.wide (by omega) (by omega)));have HI1:=zB (zAW (zA HI0) hp (by omega) (by omega));have HB1_0:=zB (zz (zA HI0) hp (by omega) (by omega));have HS1_0:=zB hs;have HD1:=zB hd;clear hd hp hs HD0))) | (refine wp_loop_rounds 6 ?_))
 exact bodyPost_end (v:=.tuple #[]) (by simp [results,Tryz.results77,go_sem]) rfl ⟨rfl,t1,zA HD1,zA HP1,fun x y q1 q2 q3=>zA HS1_0 x y q1 q2 (by omega)⟩
theorem st_b (g cap n:Nat) (R:Nat→RowI) (W0:World) (h1:20≤n) (h2:n≤20) (h:DL g cap W0 (zy R id n) W0) :
  Calls Tryz.prog 77 #[.slice (some ⟨g,0,none⟩) n cap,.int .i64 (n:Int),cmpV] W0 fun e w'=>e=.returned (.tuple #[])∧∃ t,DL g cap W0 (zy R t n) w'∧SP id t 0 n∧Srt (fun p=>(R p).ix) t 0 n:=by
 have hn:n≤1000:=by omega
 have HD0:=zB h
 have HP0:Hid (SP id id 0 n):=zB (SP.refl _ _ _)
 have HI0:Hid (∀ x,0≤x→x<n→id x=x):=zB (fun x _ _=>rfl)
 have y20:(20:Int)≤(n:Int):=by omega
 have x40a:decide ((40:Int)≤(n:Int))=false:=by simp;omega
 have x40b:decide (40≤n)=false:=by simp;omega
 have v20a:decide ((20:Int)<(n:Int))=false:=by simp;omega
 have v20b:decide (20<n)=false:=by simp;omega
 clear h
 go_enter Tryz.func77,Tryz.ntmps77
 go_wp2_with (first
  | (go_at_call 104;refine (zAV hn 0 20 _ _ (by first | rfl | omega) (by first | rfl | omega) _ _ (by omega) (by omega) (zA HI0) (zA HD0)).mono ?_;rintro e1 w1 ⟨rfl,t1,hd,hp,hs⟩;have HP1:=zB ((zA HP0).trans (hp.wide (by omega) (by omega)));have HI1:=zB (zAW (zA HI0) hp (by omega) (by omega));have HB1_0:=zB (zz (zA HI0) hp (by omega) (by omega));have HS1_0:=zB hs;have HD1:=zB hd;clear hd hp hs HD0)
  | (go_at_call 104;refine (zAV hn 20 n _ _ (by first | rfl | omega) (by first | rfl | omega) _ _ (by omega) (by omega) (zA HI1) (zA HD1)).mono ?_;rintro e2 w2 ⟨rfl,t2,hd,hp,hs⟩;have HP2:=zB ((zA HP1).trans (hp.wide (by omega) (by omega)));have HI2:=zB (zAW (zA HI1) hp (by omega) (by omega));have HB2_0:=zB (zAG hp (by omega) (zA HB1_0));have HS2_0:=zB (zn hp (by omega) (zA HS1_0));have HB2_20:=zB (zz (zA HI1) hp (by omega) (by omega));have HS2_20:=zB hs;have HD2:=zB hd;clear hd hp hs HD1))
 repeat (first | (rw [rounds_succ];go_wp2_with (first
   | (go_at_call 104;refine (zAV hn 0 20 _ _ (by first | rfl | omega) (by first | rfl | omega) _ _ (by omega) (by omega) (zA HI0) (zA HD0)).mono ?_;rintro e1 w1 ⟨rfl,t1,hd,hp,hs⟩;have HP1:=zB ((zA HP0).trans (hp.wide (by omega) (by omega)));have HI1:=zB (zAW (zA HI0) hp (by omega) (by omega));have HB1_0:=zB (zz (zA HI0) hp (by omega) (by omega));have HS1_0:=zB hs;have HD1:=zB hd;clear hd hp hs HD0)
   | (go_at_call 104;refine (zAV hn 20 n _ _ (by first | rfl | omega) (by first | rfl | omega) _ _ (by omega) (by omega) (zA HI1) (zA HD1)).mono ?_;rintro e2 w2 ⟨rfl,t2,hd,hp,hs⟩;have HP2:=zB ((zA HP1).trans (hp.wide (by omega) (by omega)));have HI2:=zB (zAW (zA HI1) hp (by omega) (by omega));have HB2_0:=zB (zAG hp (by omega) (zA HB1_0));have HS2_0:=zB (zn hp (by omega) (zA HS1_0));have HB2_20:=zB (zz (zA HI1) hp (by omega) (by omega));have HS2_20:=zB hs;have HD2:=zB hd;clear hd hp hs HD1))) | (refine wp_loop_rounds 6 ?_))
 exact bodyPost_end (v:=.tuple #[]) (by simp [results,Tryz.results77,go_sem]) rfl ⟨rfl,t2,zA HD2,zA HP2,fun x y q1 q2 q3=>zA HS2_0 x y q1 q2 (by omega)⟩
theorem st_c (g cap n:Nat) (R:Nat→RowI) (W0:World) (h1:20<n) (h2:n<40) (h:DL g cap W0 (zy R id n) W0) :
  Calls Tryz.prog 77 #[.slice (some ⟨g,0,none⟩) n cap,.int .i64 (n:Int),cmpV] W0 fun e w'=>e=.returned (.tuple #[])∧∃ t,DL g cap W0 (zy R t n) w'∧SP id t 0 n∧Srt (fun p=>(R p).ix) t 0 n:=by
 have hn:n≤1000:=by omega
 have HD0:=zB h
 have HP0:Hid (SP id id 0 n):=zB (SP.refl _ _ _)
 have HI0:Hid (∀ x,0≤x→x<n→id x=x):=zB (fun x _ _=>rfl)
 have y20:(20:Int)≤(n:Int):=by omega
 have z20:(20:Int)<(n:Int):=by omega
 have x40a:decide ((40:Int)≤(n:Int))=false:=by simp;omega
 have x40b:decide (40≤n)=false:=by simp;omega
 have v40a:decide ((40:Int)<(n:Int))=false:=by simp;omega
 have v40b:decide (40<n)=false:=by simp;omega
 clear h
 go_enter Tryz.func77,Tryz.ntmps77
 go_wp2_with (first
  | (go_at_call 104;refine (zAV hn 0 20 _ _ (by first | rfl | omega) (by first | rfl | omega) _ _ (by omega) (by omega) (zA HI0) (zA HD0)).mono ?_;rintro e1 w1 ⟨rfl,t1,hd,hp,hs⟩;have HP1:=zB ((zA HP0).trans (hp.wide (by omega) (by omega)));have HI1:=zB (zAW (zA HI0) hp (by omega) (by omega));have HB1_0:=zB (zz (zA HI0) hp (by omega) (by omega));have HS1_0:=zB hs;have HD1:=zB hd;clear hd hp hs HD0)
  | (go_at_call 104;refine (zAV hn 20 n _ _ (by first | rfl | omega) (by first | rfl | omega) _ _ (by omega) (by omega) (zA HI1) (zA HD1)).mono ?_;rintro e2 w2 ⟨rfl,t2,hd,hp,hs⟩;have HP2:=zB ((zA HP1).trans (hp.wide (by omega) (by omega)));have HI2:=zB (zAW (zA HI1) hp (by omega) (by omega));have HB2_0:=zB (zAG hp (by omega) (zA HB1_0));have HS2_0:=zB (zn hp (by omega) (zA HS1_0));have HB2_20:=zB (zz (zA HI1) hp (by omega) (by omega));have HS2_20:=zB hs;have HD2:=zB hd;clear hd hp hs HD1)
  | (go_at_call 105;refine (sym_at hn 0 20 n _ _ _ (by first | rfl | omega) (by first | rfl | omega) (by first | rfl | omega) _ _ (by omega) (by omega) (by omega) (zAg (zA HS2_0) (zA HS2_20) (zA HB2_0) (zA HB2_20)) (zA HD2)).mono ?_;rintro e3 w3 ⟨rfl,t3,hd,hp,hs⟩;have HP3:=zB ((zA HP2).trans (hp.wide (by omega) (by omega)));have HB3_0:=zB (zBC hp (zA HB2_0) (zA HB2_20) (by omega) (by omega));have HS3_0:=zB hs;have HD3:=zB hd;clear hd hp hs HD2))
 repeat (first | (rw [rounds_succ];go_wp2_with (first
   | (go_at_call 104;refine (zAV hn 0 20 _ _ (by first | rfl | omega) (by first | rfl | omega) _ _ (by omega) (by omega) (zA HI0) (zA HD0)).mono ?_;rintro e1 w1 ⟨rfl,t1,hd,hp,hs⟩;have HP1:=zB ((zA HP0).trans (hp.wide (by omega) (by omega)));have HI1:=zB (zAW (zA HI0) hp (by omega) (by omega));have HB1_0:=zB (zz (zA HI0) hp (by omega) (by omega));have HS1_0:=zB hs;have HD1:=zB hd;clear hd hp hs HD0)
   | (go_at_call 104;refine (zAV hn 20 n _ _ (by first | rfl | omega) (by first | rfl | omega) _ _ (by omega) (by omega) (zA HI1) (zA HD1)).mono ?_;rintro e2 w2 ⟨rfl,t2,hd,hp,hs⟩;have HP2:=zB ((zA HP1).trans (hp.wide (by omega) (by omega)));have HI2:=zB (zAW (zA HI1) hp (by omega) (by omega));have HB2_0:=zB (zAG hp (by omega) (zA HB1_0));have HS2_0:=zB (zn hp (by omega) (zA HS1_0));have HB2_20:=zB (zz (zA HI1) hp (by omega) (by omega));have HS2_20:=zB hs;have HD2:=zB hd;clear hd hp hs HD1)
   | (go_at_call 105;refine (sym_at hn 0 20 n _ _ _ (by first | rfl | omega) (by first | rfl | omega) (by first | rfl | omega) _ _ (by omega) (by omega) (by omega) (zAg (zA HS2_0) (zA HS2_20) (zA HB2_0) (zA HB2_20)) (zA HD2)).mono ?_;rintro e3 w3 ⟨rfl,t3,hd,hp,hs⟩;have HP3:=zB ((zA HP2).trans (hp.wide (by omega) (by omega)));have HB3_0:=zB (zBC hp (zA HB2_0) (zA HB2_20) (by omega) (by omega));have HS3_0:=zB hs;have HD3:=zB hd;clear hd hp hs HD2))) | (refine wp_loop_rounds 6 ?_))
 exact bodyPost_end (v:=.tuple #[]) (by simp [results,Tryz.results77,go_sem]) rfl ⟨rfl,t3,zA HD3,zA HP3,fun x y q1 q2 q3=>zA HS3_0 x y q1 q2 (by omega)⟩
theorem st_d (g cap n:Nat) (R:Nat→RowI) (W0:World) (h1:40≤n) (h2:n≤40) (h:DL g cap W0 (zy R id n) W0) :
  Calls Tryz.prog 77 #[.slice (some ⟨g,0,none⟩) n cap,.int .i64 (n:Int),cmpV] W0 fun e w'=>e=.returned (.tuple #[])∧∃ t,DL g cap W0 (zy R t n) w'∧SP id t 0 n∧Srt (fun p=>(R p).ix) t 0 n:=by
 have hn:n≤1000:=by omega
 have HD0:=zB h
 have HP0:Hid (SP id id 0 n):=zB (SP.refl _ _ _)
 have HI0:Hid (∀ x,0≤x→x<n→id x=x):=zB (fun x _ _=>rfl)
 have y20:(20:Int)≤(n:Int):=by omega
 have y40:(40:Int)≤(n:Int):=by omega
 have z20:(20:Int)<(n:Int):=by omega
 have x60a:decide ((60:Int)≤(n:Int))=false:=by simp;omega
 have x60b:decide (60≤n)=false:=by simp;omega
 have x80a:decide ((80:Int)≤(n:Int))=false:=by simp;omega
 have x80b:decide (80≤n)=false:=by simp;omega
 have v60a:decide ((60:Int)<(n:Int))=false:=by simp;omega
 have v60b:decide (60<n)=false:=by simp;omega
 have v40a:decide ((40:Int)<(n:Int))=false:=by simp;omega
 have v40b:decide (40<n)=false:=by simp;omega
 clear h
 go_enter Tryz.func77,Tryz.ntmps77
 go_wp2_with (first
  | (go_at_call 104;refine (zAV hn 0 20 _ _ (by first | rfl | omega) (by first | rfl | omega) _ _ (by omega) (by omega) (zA HI0) (zA HD0)).mono ?_;rintro e1 w1 ⟨rfl,t1,hd,hp,hs⟩;have HP1:=zB ((zA HP0).trans (hp.wide (by omega) (by omega)));have HI1:=zB (zAW (zA HI0) hp (by omega) (by omega));have HB1_0:=zB (zz (zA HI0) hp (by omega) (by omega));have HS1_0:=zB hs;have HD1:=zB hd;clear hd hp hs HD0)
  | (go_at_call 104;refine (zAV hn 20 40 _ _ (by first | rfl | omega) (by first | rfl | omega) _ _ (by omega) (by omega) (zA HI1) (zA HD1)).mono ?_;rintro e2 w2 ⟨rfl,t2,hd,hp,hs⟩;have HP2:=zB ((zA HP1).trans (hp.wide (by omega) (by omega)));have HI2:=zB (zAW (zA HI1) hp (by omega) (by omega));have HB2_0:=zB (zAG hp (by omega) (zA HB1_0));have HS2_0:=zB (zn hp (by omega) (zA HS1_0));have HB2_20:=zB (zz (zA HI1) hp (by omega) (by omega));have HS2_20:=zB hs;have HD2:=zB hd;clear hd hp hs HD1)
  | (go_at_call 104;refine (zAV hn 40 n _ _ (by first | rfl | omega) (by first | rfl | omega) _ _ (by omega) (by omega) (zA HI2) (zA HD2)).mono ?_;rintro e3 w3 ⟨rfl,t3,hd,hp,hs⟩;have HP3:=zB ((zA HP2).trans (hp.wide (by omega) (by omega)));have HI3:=zB (zAW (zA HI2) hp (by omega) (by omega));have HB3_0:=zB (zAG hp (by omega) (zA HB2_0));have HS3_0:=zB (zn hp (by omega) (zA HS2_0));have HB3_20:=zB (zAG hp (by omega) (zA HB2_20));have HS3_20:=zB (zn hp (by omega) (zA HS2_20));have HB3_40:=zB (zz (zA HI2) hp (by omega) (by omega));have HS3_40:=zB hs;have HD3:=zB hd;clear hd hp hs HD2)
  | (go_at_call 105;refine (sym_at hn 0 20 40 _ _ _ (by first | rfl | omega) (by first | rfl | omega) (by first | rfl | omega) _ _ (by omega) (by omega) (by omega) (zAg (zA HS3_0) (zA HS3_20) (zA HB3_0) (zA HB3_20)) (zA HD3)).mono ?_;rintro e4 w4 ⟨rfl,t4,hd,hp,hs⟩;have HP4:=zB ((zA HP3).trans (hp.wide (by omega) (by omega)));have HB4_40:=zB (zAG hp (by omega) (zA HB3_40));have HS4_40:=zB (zn hp (by omega) (zA HS3_40));have HB4_0:=zB (zBC hp (zA HB3_0) (zA HB3_20) (by omega) (by omega));have HS4_0:=zB hs;have HD4:=zB hd;clear hd hp hs HD3))
 repeat (first | (rw [rounds_succ];go_wp2_with (first
   | (go_at_call 104;refine (zAV hn 0 20 _ _ (by first | rfl | omega) (by first | rfl | omega) _ _ (by omega) (by omega) (zA HI0) (zA HD0)).mono ?_;rintro e1 w1 ⟨rfl,t1,hd,hp,hs⟩;have HP1:=zB ((zA HP0).trans (hp.wide (by omega) (by omega)));have HI1:=zB (zAW (zA HI0) hp (by omega) (by omega));have HB1_0:=zB (zz (zA HI0) hp (by omega) (by omega));have HS1_0:=zB hs;have HD1:=zB hd;clear hd hp hs HD0)
   | (go_at_call 104;refine (zAV hn 20 40 _ _ (by first | rfl | omega) (by first | rfl | omega) _ _ (by omega) (by omega) (zA HI1) (zA HD1)).mono ?_;rintro e2 w2 ⟨rfl,t2,hd,hp,hs⟩;have HP2:=zB ((zA HP1).trans (hp.wide (by omega) (by omega)));have HI2:=zB (zAW (zA HI1) hp (by omega) (by omega));have HB2_0:=zB (zAG hp (by omega) (zA HB1_0));have HS2_0:=zB (zn hp (by omega) (zA HS1_0));have HB2_20:=zB (zz (zA HI1) hp (by omega) (by omega));have HS2_20:=zB hs;have HD2:=zB hd;clear hd hp hs HD1)
   | (go_at_call 104;refine (zAV hn 40 n _ _ (by first | rfl | omega) (by first | rfl | omega) _ _ (by omega) (by omega) (zA HI2) (zA HD2)).mono ?_;rintro e3 w3 ⟨rfl,t3,hd,hp,hs⟩;have HP3:=zB ((zA HP2).trans (hp.wide (by omega) (by omega)));have HI3:=zB (zAW (zA HI2) hp (by omega) (by omega));have HB3_0:=zB (zAG hp (by omega) (zA HB2_0));have HS3_0:=zB (zn hp (by omega) (zA HS2_0));have HB3_20:=zB (zAG hp (by omega) (zA HB2_20));have HS3_20:=zB (zn hp (by omega) (zA HS2_20));have HB3_40:=zB (zz (zA HI2) hp (by omega) (by omega));have HS3_40:=zB hs;have HD3:=zB hd;clear hd hp hs HD2)
   | (go_at_call 105;refine (sym_at hn 0 20 40 _ _ _ (by first | rfl | omega) (by first | rfl | omega) (by first | rfl | omega) _ _ (by omega) (by omega) (by omega) (zAg (zA HS3_0) (zA HS3_20) (zA HB3_0) (zA HB3_20)) (zA HD3)).mono ?_;rintro e4 w4 ⟨rfl,t4,hd,hp,hs⟩;have HP4:=zB ((zA HP3).trans (hp.wide (by omega) (by omega)));have HB4_40:=zB (zAG hp (by omega) (zA HB3_40));have HS4_40:=zB (zn hp (by omega) (zA HS3_40));have HB4_0:=zB (zBC hp (zA HB3_0) (zA HB3_20) (by omega) (by omega));have HS4_0:=zB hs;have HD4:=zB hd;clear hd hp hs HD3))) | (refine wp_loop_rounds 6 ?_))
 exact bodyPost_end (v:=.tuple #[]) (by simp [results,Tryz.results77,go_sem]) rfl ⟨rfl,t4,zA HD4,zA HP4,fun x y q1 q2 q3=>zA HS4_0 x y q1 q2 (by omega)⟩
theorem st_e (g cap n:Nat) (R:Nat→RowI) (W0:World) (h1:40<n) (h2:n<60) (h:DL g cap W0 (zy R id n) W0) :
  Calls Tryz.prog 77 #[.slice (some ⟨g,0,none⟩) n cap,.int .i64 (n:Int),cmpV] W0 fun e w'=>e=.returned (.tuple #[])∧∃ t,DL g cap W0 (zy R t n) w'∧SP id t 0 n∧Srt (fun p=>(R p).ix) t 0 n:=by
 have hn:n≤1000:=by omega
 have HD0:=zB h
 have HP0:Hid (SP id id 0 n):=zB (SP.refl _ _ _)
 have HI0:Hid (∀ x,0≤x→x<n→id x=x):=zB (fun x _ _=>rfl)
 have y20:(20:Int)≤(n:Int):=by omega
 have y40:(40:Int)≤(n:Int):=by omega
 have z20:(20:Int)<(n:Int):=by omega
 have z40:(40:Int)<(n:Int):=by omega
 have x60a:decide ((60:Int)≤(n:Int))=false:=by simp;omega
 have x60b:decide (60≤n)=false:=by simp;omega
 have x80a:decide ((80:Int)≤(n:Int))=false:=by simp;omega
 have x80b:decide (80≤n)=false:=by simp;omega
 have v60a:decide ((60:Int)<(n:Int))=false:=by simp;omega
 have v60b:decide (60<n)=false:=by simp;omega
 have v80a:decide ((80:Int)<(n:Int))=false:=by simp;omega
 have v80b:decide (80<n)=false:=by simp;omega
 clear h
 go_enter Tryz.func77,Tryz.ntmps77
 go_wp2_with (first
  | (go_at_call 104;refine (zAV hn 0 20 _ _ (by first | rfl | omega) (by first | rfl | omega) _ _ (by omega) (by omega) (zA HI0) (zA HD0)).mono ?_;rintro e1 w1 ⟨rfl,t1,hd,hp,hs⟩;have HP1:=zB ((zA HP0).trans (hp.wide (by omega) (by omega)));have HI1:=zB (zAW (zA HI0) hp (by omega) (by omega));have HB1_0:=zB (zz (zA HI0) hp (by omega) (by omega));have HS1_0:=zB hs;have HD1:=zB hd;clear hd hp hs HD0)
  | (go_at_call 104;refine (zAV hn 20 40 _ _ (by first | rfl | omega) (by first | rfl | omega) _ _ (by omega) (by omega) (zA HI1) (zA HD1)).mono ?_;rintro e2 w2 ⟨rfl,t2,hd,hp,hs⟩;have HP2:=zB ((zA HP1).trans (hp.wide (by omega) (by omega)));have HI2:=zB (zAW (zA HI1) hp (by omega) (by omega));have HB2_0:=zB (zAG hp (by omega) (zA HB1_0));have HS2_0:=zB (zn hp (by omega) (zA HS1_0));have HB2_20:=zB (zz (zA HI1) hp (by omega) (by omega));have HS2_20:=zB hs;have HD2:=zB hd;clear hd hp hs HD1)
  | (go_at_call 104;refine (zAV hn 40 n _ _ (by first | rfl | omega) (by first | rfl | omega) _ _ (by omega) (by omega) (zA HI2) (zA HD2)).mono ?_;rintro e3 w3 ⟨rfl,t3,hd,hp,hs⟩;have HP3:=zB ((zA HP2).trans (hp.wide (by omega) (by omega)));have HI3:=zB (zAW (zA HI2) hp (by omega) (by omega));have HB3_0:=zB (zAG hp (by omega) (zA HB2_0));have HS3_0:=zB (zn hp (by omega) (zA HS2_0));have HB3_20:=zB (zAG hp (by omega) (zA HB2_20));have HS3_20:=zB (zn hp (by omega) (zA HS2_20));have HB3_40:=zB (zz (zA HI2) hp (by omega) (by omega));have HS3_40:=zB hs;have HD3:=zB hd;clear hd hp hs HD2)
  | (go_at_call 105;refine (sym_at hn 0 20 40 _ _ _ (by first | rfl | omega) (by first | rfl | omega) (by first | rfl | omega) _ _ (by omega) (by omega) (by omega) (zAg (zA HS3_0) (zA HS3_20) (zA HB3_0) (zA HB3_20)) (zA HD3)).mono ?_;rintro e4 w4 ⟨rfl,t4,hd,hp,hs⟩;have HP4:=zB ((zA HP3).trans (hp.wide (by omega) (by omega)));have HB4_40:=zB (zAG hp (by omega) (zA HB3_40));have HS4_40:=zB (zn hp (by omega) (zA HS3_40));have HB4_0:=zB (zBC hp (zA HB3_0) (zA HB3_20) (by omega) (by omega));have HS4_0:=zB hs;have HD4:=zB hd;clear hd hp hs HD3)
  | (go_at_call 105;refine (sym_at hn 0 40 n _ _ _ (by first | rfl | omega) (by first | rfl | omega) (by first | rfl | omega) _ _ (by omega) (by omega) (by omega) (zAg (zA HS4_0) (zA HS4_40) (zA HB4_0) (zA HB4_40)) (zA HD4)).mono ?_;rintro e5 w5 ⟨rfl,t5,hd,hp,hs⟩;have HP5:=zB ((zA HP4).trans (hp.wide (by omega) (by omega)));have HB5_0:=zB (zBC hp (zA HB4_0) (zA HB4_40) (by omega) (by omega));have HS5_0:=zB hs;have HD5:=zB hd;clear hd hp hs HD4))
 repeat (first | (rw [rounds_succ];go_wp2_with (first
   | (go_at_call 104;refine (zAV hn 0 20 _ _ (by first | rfl | omega) (by first | rfl | omega) _ _ (by omega) (by omega) (zA HI0) (zA HD0)).mono ?_;rintro e1 w1 ⟨rfl,t1,hd,hp,hs⟩;have HP1:=zB ((zA HP0).trans (hp.wide (by omega) (by omega)));have HI1:=zB (zAW (zA HI0) hp (by omega) (by omega));have HB1_0:=zB (zz (zA HI0) hp (by omega) (by omega));have HS1_0:=zB hs;have HD1:=zB hd;clear hd hp hs HD0)
   | (go_at_call 104;refine (zAV hn 20 40 _ _ (by first | rfl | omega) (by first | rfl | omega) _ _ (by omega) (by omega) (zA HI1) (zA HD1)).mono ?_;rintro e2 w2 ⟨rfl,t2,hd,hp,hs⟩;have HP2:=zB ((zA HP1).trans (hp.wide (by omega) (by omega)));have HI2:=zB (zAW (zA HI1) hp (by omega) (by omega));have HB2_0:=zB (zAG hp (by omega) (zA HB1_0));have HS2_0:=zB (zn hp (by omega) (zA HS1_0));have HB2_20:=zB (zz (zA HI1) hp (by omega) (by omega));have HS2_20:=zB hs;have HD2:=zB hd;clear hd hp hs HD1)
   | (go_at_call 104;refine (zAV hn 40 n _ _ (by first | rfl | omega) (by first | rfl | omega) _ _ (by omega) (by omega) (zA HI2) (zA HD2)).mono ?_;rintro e3 w3 ⟨rfl,t3,hd,hp,hs⟩;have HP3:=zB ((zA HP2).trans (hp.wide (by omega) (by omega)));have HI3:=zB (zAW (zA HI2) hp (by omega) (by omega));have HB3_0:=zB (zAG hp (by omega) (zA HB2_0));have HS3_0:=zB (zn hp (by omega) (zA HS2_0));have HB3_20:=zB (zAG hp (by omega) (zA HB2_20));have HS3_20:=zB (zn hp (by omega) (zA HS2_20));have HB3_40:=zB (zz (zA HI2) hp (by omega) (by omega));have HS3_40:=zB hs;have HD3:=zB hd;clear hd hp hs HD2)
   | (go_at_call 105;refine (sym_at hn 0 20 40 _ _ _ (by first | rfl | omega) (by first | rfl | omega) (by first | rfl | omega) _ _ (by omega) (by omega) (by omega) (zAg (zA HS3_0) (zA HS3_20) (zA HB3_0) (zA HB3_20)) (zA HD3)).mono ?_;rintro e4 w4 ⟨rfl,t4,hd,hp,hs⟩;have HP4:=zB ((zA HP3).trans (hp.wide (by omega) (by omega)));have HB4_40:=zB (zAG hp (by omega) (zA HB3_40));have HS4_40:=zB (zn hp (by omega) (zA HS3_40));have HB4_0:=zB (zBC hp (zA HB3_0) (zA HB3_20) (by omega) (by omega));have HS4_0:=zB hs;have HD4:=zB hd;clear hd hp hs HD3)
   | (go_at_call 105;refine (sym_at hn 0 40 n _ _ _ (by first | rfl | omega) (by first | rfl | omega) (by first | rfl | omega) _ _ (by omega) (by omega) (by omega) (zAg (zA HS4_0) (zA HS4_40) (zA HB4_0) (zA HB4_40)) (zA HD4)).mono ?_;rintro e5 w5 ⟨rfl,t5,hd,hp,hs⟩;have HP5:=zB ((zA HP4).trans (hp.wide (by omega) (by omega)));have HB5_0:=zB (zBC hp (zA HB4_0) (zA HB4_40) (by omega) (by omega));have HS5_0:=zB hs;have HD5:=zB hd;clear hd hp hs HD4))) | (refine wp_loop_rounds 6 ?_))
 exact bodyPost_end (v:=.tuple #[]) (by simp [results,Tryz.results77,go_sem]) rfl ⟨rfl,t5,zA HD5,zA HP5,fun x y q1 q2 q3=>zA HS5_0 x y q1 q2 (by omega)⟩
theorem st_f (g cap n:Nat) (R:Nat→RowI) (W0:World) (h1:60≤n) (h2:n≤60) (h:DL g cap W0 (zy R id n) W0) :
  Calls Tryz.prog 77 #[.slice (some ⟨g,0,none⟩) n cap,.int .i64 (n:Int),cmpV] W0 fun e w'=>e=.returned (.tuple #[])∧∃ t,DL g cap W0 (zy R t n) w'∧SP id t 0 n∧Srt (fun p=>(R p).ix) t 0 n:=by
 have hn:n≤1000:=by omega
 have HD0:=zB h
 have HP0:Hid (SP id id 0 n):=zB (SP.refl _ _ _)
 have HI0:Hid (∀ x,0≤x→x<n→id x=x):=zB (fun x _ _=>rfl)
 have y20:(20:Int)≤(n:Int):=by omega
 have y40:(40:Int)≤(n:Int):=by omega
 have y60:(60:Int)≤(n:Int):=by omega
 have z20:(20:Int)<(n:Int):=by omega
 have z40:(40:Int)<(n:Int):=by omega
 have x80a:decide ((80:Int)≤(n:Int))=false:=by simp;omega
 have x80b:decide (80≤n)=false:=by simp;omega
 have v60a:decide ((60:Int)<(n:Int))=false:=by simp;omega
 have v60b:decide (60<n)=false:=by simp;omega
 have v80a:decide ((80:Int)<(n:Int))=false:=by simp;omega
 have v80b:decide (80<n)=false:=by simp;omega
 clear h
 go_enter Tryz.func77,Tryz.ntmps77
 go_wp2_with (first
  | (go_at_call 104;refine (zAV hn 0 20 _ _ (by first | rfl | omega) (by first | rfl | omega) _ _ (by omega) (by omega) (zA HI0) (zA HD0)).mono ?_;rintro e1 w1 ⟨rfl,t1,hd,hp,hs⟩;have HP1:=zB ((zA HP0).trans (hp.wide (by omega) (by omega)));have HI1:=zB (zAW (zA HI0) hp (by omega) (by omega));have HB1_0:=zB (zz (zA HI0) hp (by omega) (by omega));have HS1_0:=zB hs;have HD1:=zB hd;clear hd hp hs HD0)
  | (go_at_call 104;refine (zAV hn 20 40 _ _ (by first | rfl | omega) (by first | rfl | omega) _ _ (by omega) (by omega) (zA HI1) (zA HD1)).mono ?_;rintro e2 w2 ⟨rfl,t2,hd,hp,hs⟩;have HP2:=zB ((zA HP1).trans (hp.wide (by omega) (by omega)));have HI2:=zB (zAW (zA HI1) hp (by omega) (by omega));have HB2_0:=zB (zAG hp (by omega) (zA HB1_0));have HS2_0:=zB (zn hp (by omega) (zA HS1_0));have HB2_20:=zB (zz (zA HI1) hp (by omega) (by omega));have HS2_20:=zB hs;have HD2:=zB hd;clear hd hp hs HD1)
  | (go_at_call 104;refine (zAV hn 40 60 _ _ (by first | rfl | omega) (by first | rfl | omega) _ _ (by omega) (by omega) (zA HI2) (zA HD2)).mono ?_;rintro e3 w3 ⟨rfl,t3,hd,hp,hs⟩;have HP3:=zB ((zA HP2).trans (hp.wide (by omega) (by omega)));have HI3:=zB (zAW (zA HI2) hp (by omega) (by omega));have HB3_0:=zB (zAG hp (by omega) (zA HB2_0));have HS3_0:=zB (zn hp (by omega) (zA HS2_0));have HB3_20:=zB (zAG hp (by omega) (zA HB2_20));have HS3_20:=zB (zn hp (by omega) (zA HS2_20));have HB3_40:=zB (zz (zA HI2) hp (by omega) (by omega));have HS3_40:=zB hs;have HD3:=zB hd;clear hd hp hs HD2)
  | (go_at_call 104;refine (zAV hn 60 n _ _ (by first | rfl | omega) (by first | rfl | omega) _ _ (by omega) (by omega) (zA HI3) (zA HD3)).mono ?_;rintro e4 w4 ⟨rfl,t4,hd,hp,hs⟩;have HP4:=zB ((zA HP3).trans (hp.wide (by omega) (by omega)));have HI4:=zB (zAW (zA HI3) hp (by omega) (by omega));have HB4_0:=zB (zAG hp (by omega) (zA HB3_0));have HS4_0:=zB (zn hp (by omega) (zA HS3_0));have HB4_20:=zB (zAG hp (by omega) (zA HB3_20));have HS4_20:=zB (zn hp (by omega) (zA HS3_20));have HB4_40:=zB (zAG hp (by omega) (zA HB3_40));have HS4_40:=zB (zn hp (by omega) (zA HS3_40));have HB4_60:=zB (zz (zA HI3) hp (by omega) (by omega));have HS4_60:=zB hs;have HD4:=zB hd;clear hd hp hs HD3)
  | (go_at_call 105;refine (sym_at hn 0 20 40 _ _ _ (by first | rfl | omega) (by first | rfl | omega) (by first | rfl | omega) _ _ (by omega) (by omega) (by omega) (zAg (zA HS4_0) (zA HS4_20) (zA HB4_0) (zA HB4_20)) (zA HD4)).mono ?_;rintro e5 w5 ⟨rfl,t5,hd,hp,hs⟩;have HP5:=zB ((zA HP4).trans (hp.wide (by omega) (by omega)));have HB5_40:=zB (zAG hp (by omega) (zA HB4_40));have HS5_40:=zB (zn hp (by omega) (zA HS4_40));have HB5_60:=zB (zAG hp (by omega) (zA HB4_60));have HS5_60:=zB (zn hp (by omega) (zA HS4_60));have HB5_0:=zB (zBC hp (zA HB4_0) (zA HB4_20) (by omega) (by omega));have HS5_0:=zB hs;have HD5:=zB hd;clear hd hp hs HD4)
  | (go_at_call 105;refine (sym_at hn 0 40 60 _ _ _ (by first | rfl | omega) (by first | rfl | omega) (by first | rfl | omega) _ _ (by omega) (by omega) (by omega) (zAg (zA HS5_0) (zA HS5_40) (zA HB5_0) (zA HB5_40)) (zA HD5)).mono ?_;rintro e6 w6 ⟨rfl,t6,hd,hp,hs⟩;have HP6:=zB ((zA HP5).trans (hp.wide (by omega) (by omega)));have HB6_60:=zB (zAG hp (by omega) (zA HB5_60));have HS6_60:=zB (zn hp (by omega) (zA HS5_60));have HB6_0:=zB (zBC hp (zA HB5_0) (zA HB5_40) (by omega) (by omega));have HS6_0:=zB hs;have HD6:=zB hd;clear hd hp hs HD5))
 repeat (first | (rw [rounds_succ];go_wp2_with (first
   | (go_at_call 104;refine (zAV hn 0 20 _ _ (by first | rfl | omega) (by first | rfl | omega) _ _ (by omega) (by omega) (zA HI0) (zA HD0)).mono ?_;rintro e1 w1 ⟨rfl,t1,hd,hp,hs⟩;have HP1:=zB ((zA HP0).trans (hp.wide (by omega) (by omega)));have HI1:=zB (zAW (zA HI0) hp (by omega) (by omega));have HB1_0:=zB (zz (zA HI0) hp (by omega) (by omega));have HS1_0:=zB hs;have HD1:=zB hd;clear hd hp hs HD0)
   | (go_at_call 104;refine (zAV hn 20 40 _ _ (by first | rfl | omega) (by first | rfl | omega) _ _ (by omega) (by omega) (zA HI1) (zA HD1)).mono ?_;rintro e2 w2 ⟨rfl,t2,hd,hp,hs⟩;have HP2:=zB ((zA HP1).trans (hp.wide (by omega) (by omega)));have HI2:=zB (zAW (zA HI1) hp (by omega) (by omega));have HB2_0:=zB (zAG hp (by omega) (zA HB1_0));have HS2_0:=zB (zn hp (by omega) (zA HS1_0));have HB2_20:=zB (zz (zA HI1) hp (by omega) (by omega));have HS2_20:=zB hs;have HD2:=zB hd;clear hd hp hs HD1)
   | (go_at_call 104;refine (zAV hn 40 60 _ _ (by first | rfl | omega) (by first | rfl | omega) _ _ (by omega) (by omega) (zA HI2) (zA HD2)).mono ?_;rintro e3 w3 ⟨rfl,t3,hd,hp,hs⟩;have HP3:=zB ((zA HP2).trans (hp.wide (by omega) (by omega)));have HI3:=zB (zAW (zA HI2) hp (by omega) (by omega));have HB3_0:=zB (zAG hp (by omega) (zA HB2_0));have HS3_0:=zB (zn hp (by omega) (zA HS2_0));have HB3_20:=zB (zAG hp (by omega) (zA HB2_20));have HS3_20:=zB (zn hp (by omega) (zA HS2_20));have HB3_40:=zB (zz (zA HI2) hp (by omega) (by omega));have HS3_40:=zB hs;have HD3:=zB hd;clear hd hp hs HD2)
   | (go_at_call 104;refine (zAV hn 60 n _ _ (by first | rfl | omega) (by first | rfl | omega) _ _ (by omega) (by omega) (zA HI3) (zA HD3)).mono ?_;rintro e4 w4 ⟨rfl,t4,hd,hp,hs⟩;have HP4:=zB ((zA HP3).trans (hp.wide (by omega) (by omega)));have HI4:=zB (zAW (zA HI3) hp (by omega) (by omega));have HB4_0:=zB (zAG hp (by omega) (zA HB3_0));have HS4_0:=zB (zn hp (by omega) (zA HS3_0));have HB4_20:=zB (zAG hp (by omega) (zA HB3_20));have HS4_20:=zB (zn hp (by omega) (zA HS3_20));have HB4_40:=zB (zAG hp (by omega) (zA HB3_40));have HS4_40:=zB (zn hp (by omega) (zA HS3_40));have HB4_60:=zB (zz (zA HI3) hp (by omega) (by omega));have HS4_60:=zB hs;have HD4:=zB hd;clear hd hp hs HD3)
   | (go_at_call 105;refine (sym_at hn 0 20 40 _ _ _ (by first | rfl | omega) (by first | rfl | omega) (by first | rfl | omega) _ _ (by omega) (by omega) (by omega) (zAg (zA HS4_0) (zA HS4_20) (zA HB4_0) (zA HB4_20)) (zA HD4)).mono ?_;rintro e5 w5 ⟨rfl,t5,hd,hp,hs⟩;have HP5:=zB ((zA HP4).trans (hp.wide (by omega) (by omega)));have HB5_40:=zB (zAG hp (by omega) (zA HB4_40));have HS5_40:=zB (zn hp (by omega) (zA HS4_40));have HB5_60:=zB (zAG hp (by omega) (zA HB4_60));have HS5_60:=zB (zn hp (by omega) (zA HS4_60));have HB5_0:=zB (zBC hp (zA HB4_0) (zA HB4_20) (by omega) (by omega));have HS5_0:=zB hs;have HD5:=zB hd;clear hd hp hs HD4)
   | (go_at_call 105;refine (sym_at hn 0 40 60 _ _ _ (by first | rfl | omega) (by first | rfl | omega) (by first | rfl | omega) _ _ (by omega) (by omega) (by omega) (zAg (zA HS5_0) (zA HS5_40) (zA HB5_0) (zA HB5_40)) (zA HD5)).mono ?_;rintro e6 w6 ⟨rfl,t6,hd,hp,hs⟩;have HP6:=zB ((zA HP5).trans (hp.wide (by omega) (by omega)));have HB6_60:=zB (zAG hp (by omega) (zA HB5_60));have HS6_60:=zB (zn hp (by omega) (zA HS5_60));have HB6_0:=zB (zBC hp (zA HB5_0) (zA HB5_40) (by omega) (by omega));have HS6_0:=zB hs;have HD6:=zB hd;clear hd hp hs HD5))) | (refine wp_loop_rounds 6 ?_))
 exact bodyPost_end (v:=.tuple #[]) (by simp [results,Tryz.results77,go_sem]) rfl ⟨rfl,t6,zA HD6,zA HP6,fun x y q1 q2 q3=>zA HS6_0 x y q1 q2 (by omega)⟩
theorem stable_any (g cap n:Nat) (R:Nat→RowI) (W0:World) (hn:n≤60) (h:DL g cap W0 (zy R id n) W0) :
  Calls Tryz.prog 77 #[.slice (some ⟨g,0,none⟩) n cap,.int .i64 (n:Int),cmpV] W0 fun e w'=>e=.returned (.tuple #[])∧∃ t,DL g cap W0 (zy R t n) w'∧SP id t 0 n∧Srt (fun p=>(R p).ix) t 0 n:=by
 rcases (by omega:n<20∨(20≤n∧n≤20)∨(20<n∧n<40)∨(40≤n∧n≤40)∨(40<n∧n<60)∨(60≤n∧n≤60)) with q | ⟨q,r⟩ | ⟨q,r⟩ | ⟨q,r⟩ | ⟨q,r⟩ | ⟨q,r⟩
 ·exact st_a g cap n R W0 q h
 ·exact st_b g cap n R W0 q r h
 ·exact st_c g cap n R W0 q r h
 ·exact st_d g cap n R W0 q r h
 ·exact st_e g cap n R W0 q r h
 ·exact st_f g cap n R W0 q r h
theorem sort_any (g cap n:Nat) (R:Nat→RowI) (W0:World) (hn:n≤60) (h:DL g cap W0 (zy R id n) W0) :
  Calls Tryz.prog 48 #[.slice (some ⟨g,0,none⟩) n cap,cmpV] W0 fun e w'=>e=.returned (.tuple #[])∧∃ t,DL g cap W0 (zy R t n) w'∧SP id t 0 n∧Srt (fun p=>(R p).ix) t 0 n:=by
 have HC:=zB (stable_any g cap n R W0 hn h)
 clear h
 go_enter Tryz.func48,Tryz.ntmps48
 go_wp2_with ((go_at_call 77;refine (zA HC).mono ?_;rintro e w1 ⟨rfl,hd⟩;have HD:=zB hd;clear hd))
 exact bodyPost_end (v:=.tuple #[]) (by simp [results,Tryz.results48,go_sem]) rfl ⟨rfl,zA HD⟩
end Go.Proofs.YtnbleebilmghcacGreat
set_option maxHeartbeats 1000000
set_option maxRecDepth 8000
namespace Go.Proofs.YtnbleebilmghcacGreat
open Go Go.RowKit
attribute [local go_sem ↓] Go.wp_at_zero Go.wp_at_succ
theorem zAq (rows:List RowI) (j:Nat) (h:j<rows.length):rows.getD j dR=rows[j]:=by rw [List.getD_eq_getElem?_getD,List.getElem?_eq_getElem h];rfl
theorem sorted_unique (f:RowI→Int):∀ (l1 l2:List RowI),l1.Pairwise (fun a b=>f a<f b)→l2.Pairwise (fun a b=>f a<f b)→(∀ x,x∈l1↔x∈l2)→l1=l2
 | [],[],_,_,_=>rfl
 | [],b :: l2,_,_,h=>by have:=(h b).2 (by simp);simp at this
 | a :: l1,[],_,_,h=>by have:=(h a).1 (by simp);simp at this
 | a :: l1,b :: l2,h1,h2,h=>by
  rw [List.pairwise_cons] at h1 h2
  have hab:a=b:=by
   have ha:=(h a).1 (by simp)
   have hb:=(h b).2 (by simp)
   rw [List.mem_cons] at ha hb
   rcases ha with ha | ha
   ·exact ha
   ·rcases hb with hb | hb
    ·exact hb.symm
    ·have:=h2.1 a ha
     have:=h1.1 b hb
     omega
  subst hab
  rw [sorted_unique f l1 l2 h1.2 h2.2 fun x=>?_]
  have hx:=h x
  rw [List.mem_cons,List.mem_cons] at hx
  constructor
  ·intro m
   rcases hx.1 (.inr m) with e | e
   ·have:=h1.1 x m;rw [e] at this;omega
   ·exact e
  ·intro m
   rcases hx.2 (.inr m) with e | e
   ·have:=h2.1 x m;rw [e] at this;omega
   ·exact e
theorem right_sorted {X:Wd} (hr:RightW X):X.rows.Pairwise (fun a b=>a.ix<b.ix):=by
 rw [List.pairwise_iff_getElem]
 intro i j hi hj hij
 have:=hr.lt' hij hj
 unfold zN at this
 rw [zAq _ _ hi,zAq _ _ hj] at this
 exact this
theorem sort_eq {X:Wd} (hr:RightW X) {all:List RowI} (hp:all.Perm X.rows) {t:Nat→Nat} (hsp:SP id t 0 all.length) (hs:Srt (fun p=>((fun k=>all.getD k dR) p).ix) t 0 all.length):zy (fun k=>all.getD k dR) t all.length=X.rows:=by
 have hg:∀ k,k<all.length→all.getD k dR∈all:=fun k hk=>by rw [zAq _ _ hk];exact List.getElem_mem hk
 have hnd:all.Pairwise (fun a b=>a.ix≠b.ix):=by
  refine (hp.pairwise_iff (fun h=>h.symm)).2 ?_
  exact (right_sorted hr).imp fun h=>by omega
 refine sorted_unique (fun r=>r.ix) _ _ ?_ (right_sorted hr) fun x=>?_
 ·rw [List.pairwise_iff_getElem]
  intro i j hi hj hij
  rw [zV] at hi hj
  have h1:=hs i j (Nat.zero_le _) hij hj
  obtain ⟨p,_,p2,ep⟩:=hsp.mem (Nat.zero_le i) hi
  obtain ⟨q,_,q2,eq⟩:=hsp.mem (Nat.zero_le j) hj
  simp only [zy,List.getElem_map,List.getElem_range]
  have hne:t i≠t j:=fun e=>by
   rcases h1 with h1 | h1
   ·rw [e] at h1;simp at h1
   ·omega
  have e1:t i<all.length:=by rw [ep];exact p2
  have e2:t j<all.length:=by rw [eq];exact q2
  have hix:(all.getD (t i) dR).ix≠(all.getD (t j) dR).ix:=by
   rw [zAq _ _ e1,zAq _ _ e2]
   rw [List.pairwise_iff_getElem] at hnd
   rcases Nat.lt_or_gt_of_ne hne with h | h
   ·exact hnd _ _ e1 e2 h
   ·exact (hnd _ _ e2 e1 h).symm
  have:=tl_key h1
  dsimp only at this
  omega
 ·rw [←hp.mem_iff]
  unfold zy
  rw [List.mem_map]
  constructor
  ·rintro ⟨k,hk,rfl⟩
   obtain ⟨p,_,p2,ep⟩:=hsp.mem (Nat.zero_le k) (List.mem_range.1 hk)
   rw [ep]
   exact hg _ p2
  ·intro hx
   obtain ⟨k,hk,rfl⟩:=List.getElem_of_mem hx
   obtain ⟨p,_,p2,ep⟩:=hsp.symm.mem (Nat.zero_le k) hk
   refine ⟨p,List.mem_range.2 p2,?_⟩
   rw [←ep]
   exact zAq _ _ hk
theorem plst_id (l:List RowI):zy (fun k=>l.getD k dR) id l.length=l:=by
 refine List.ext_getElem (by rw [zV]) fun k h1 h2=>?_
 simp only [zy,List.getElem_map,List.getElem_range]
 exact zAq _ _ h2
theorem copied_any (G:Option Addr) (gcap:Nat) (l:List Int) (w:World) (hl:l.length≤1000) (hG:IntsL w G l) :
  Calls Tryz.prog 51 #[.slice G l.length gcap] w fun e w'=>∃ A c,e=.returned (.slice A l.length c)∧w'.ownsRow w.heap.size 3 1 (.slice A l.length c) l.length (zM l)∧Below w.heap.size w w':=by
 obtain ⟨i3,hi3,hz3,hs3,hb3⟩:=info_parts info3
 have HI:=zB hi3
 have HZ:=zB hz3
 have HS:=zB hs3
 have HB:=zB hb3
 have HG:=zB hG.copies
 clear hi3 hz3 hs3 hb3 hG
 go_enter Tryz.func51,Tryz.ntmps51
 go_wp2_with ((at_builtin;refine wpList_plain rfl fun _ hK=>zAw w _ _ 26 rfl w.heap.size 3 i3 _ 1 8 Tryz.underlying26 (zA HI) (zA HZ) (zA HS) (zA HB) rfl (by decide) rfl G l.length gcap (zM l) rfl (zA HG) (by unfold maxLen;omega) (by omega) (Nat.le_refl _) fun v' w' h1 h2=>hK _ _ ?_;have HO:=zB h1;have HGR:=zB h2;clear h1 h2))
 go_ret
 obtain ⟨A,c,rfl⟩:=zAb (zA HO)
 exact ⟨A,c,rfl,zA HO,zu (zA HGR) (fun k e=>by cases e) (Nat.le_refl _)⟩
end Go.Proofs.YtnbleebilmghcacGreat
set_option maxHeartbeats 1000000
set_option maxRecDepth 8000
namespace Go.Proofs.YtnbleebilmghcacGreat
open Go Go.RowKit
attribute [local go_sem ↓] Go.wp_at_zero Go.wp_at_succ
theorem size43t:(Tryz.prog.info? 35).map (·.size)=some 2:=by kernel_rfl
theorem ins_nil (w:World):Calls Tryz.prog 104 #[.slice none 0 0,.int .i64 0,.int .i64 0,cmpV] w fun e w'=>e=.returned (.tuple #[])∧w'=w:=by
 go_enter Tryz.func104,Tryz.ntmps104
 go_wp2
 refine wp_loop_rounds 1 ?_
 rw [rounds_succ]
 go_wp2
 exact bodyPost_end (v:=.tuple #[]) (by simp [results,Tryz.results104,go_sem]) rfl ⟨rfl,rfl⟩
theorem stable_nil (w:World):Calls Tryz.prog 77 #[.slice none 0 0,.int .i64 0,cmpV] w fun e w'=>e=.returned (.tuple #[])∧w'=w:=by
 have HC:=zB ins_nil
 go_enter Tryz.func77,Tryz.ntmps77
 go_wp2
 refine wp_loop_rounds 1 ?_
 rw [rounds_succ]
 go_wp2_with ((go_at_call 104;refine (zA HC _).mono ?_;rintro e w1 ⟨rfl,hw⟩;obtain rfl:=hw.symm))
 refine wp_loop_rounds 1 ?_
 rw [rounds_succ]
 go_wp2
 exact bodyPost_end (v:=.tuple #[]) (by simp [results,Tryz.results77,go_sem]) rfl ⟨rfl,rfl⟩
theorem sort_nil (w:World):Calls Tryz.prog 48 #[.slice none 0 0,cmpV] w fun e w'=>e=.returned (.tuple #[])∧w'=w:=by
 have HC:=zB stable_nil
 go_enter Tryz.func48,Tryz.ntmps48
 go_wp2_with ((go_at_call 77;refine (zA HC _).mono ?_;rintro e w1 ⟨rfl,hw⟩;obtain rfl:=hw.symm))
 exact bodyPost_end (v:=.tuple #[]) (by simp [results,Tryz.results48,go_sem]) rfl ⟨rfl,rfl⟩
theorem sort_rows {X:Wd} (hr:RightW X) {all:List RowI} (hp:all.Perm X.rows) (hl:all.length≤60) {base:Nat} (v:Value) (W:World) (hv:W.ownsRow base 55 11 v all.length (zF all)) (hb:base≤W.heap.size) :
  Calls Tryz.prog 48 #[v,.func (.func 49) #[] #[]] W fun e w'=>e=.returned (.tuple #[])∧w'.ownsRow base 55 11 v X.rows.length (zF X.rows)∧Below base W w':=by
 have hlen:=hp.length_eq
 rcases hv.2 with ⟨rfl,h0⟩ | ⟨g,cap,cur,rfl,hg,hrest⟩
 ·have e1:all=[]:=List.eq_nil_of_length_eq_zero h0
  have e2:X.rows=[]:=List.eq_nil_of_length_eq_zero (by omega)
  refine (sort_nil W).mono fun e w' ⟨he,hw⟩=>⟨he,?_,?_⟩
  ·rw [e2,hw];exact World.ownsRow_nil _ _ _ _
  ·rw [hw];exact Below.refl _ _
 ·have hD:DL g cap W (zy (fun k=>all.getD k dR) id all.length) W:=by
   rw [plst_id]
   exact ⟨⟨hv.1,.inr ⟨g,cap,cur,rfl,Nat.le_refl _,hrest⟩⟩,World.grownBy.refl _ _⟩
  refine (sort_any g cap all.length (fun k=>all.getD k dR) W hl hD).mono fun e w' ⟨he,t,h1,h2,h3⟩=>⟨he,?_,zu h1.gr (fun k e=>by simp only [Option.some.injEq] at e;omega) hb⟩
  have ho:=h1.own
  rw [sort_eq hr hp h2 h3,←hlen] at ho
  rw [←hlen]
  exact own_le ho hg
theorem SB.start71 (w:World) (u0 u1:Value):SB w u0 u1 (.slice none 0 0) (.slice none 0 0) (.int .i64 0) (.int .i64 0) (((w.alloc (.cells #[u0,u1] 28)).alloc (.cells #[.slice none 0 0,.slice none 0 0] 51)).alloc (.cells #[.int .i64 0,.int .i64 0] 35)):=by
 obtain ⟨a0,a1,af,ab⟩:=zAv (W:=w) (u0:=u0) (u1:=u1) (t:=28) rfl
 have z1:(w.alloc (.cells #[u0,u1] 28)).heap.size=w.heap.size+1:=by simp
 generalize w.alloc (.cells #[u0,u1] 28)=W1 at *
 obtain ⟨b0,b1,bf,bb⟩:=zAv (W:=W1) (u0:=.slice none 0 0) (u1:=.slice none 0 0) (t:=51) z1
 have z2:(W1.alloc (.cells #[.slice none 0 0,.slice none 0 0] 51)).heap.size=w.heap.size+2:=by simp;omega
 generalize W1.alloc (.cells #[.slice none 0 0,.slice none 0 0] 51)=W2 at *
 obtain ⟨c0,c1,cf,cb⟩:=zAv (W:=W2) (u0:=.int .i64 0) (u1:=.int .i64 0) (t:=35) z2
 exact ⟨(ab.trans (bb.mono ab.size)).trans (cb.mono (by omega)),by simp;omega,zC cb (zC bb a0),zC cb (zC bb a1),zC cb b0,zC cb b1,c0,c1,fun i=>(cb.frozen (p:=⟨w.heap.size+1,i,none⟩) (by show w.heap.size+1<W2.heap.size;omega)).trans (bf i),cf⟩
structure TG (w:World) (u0 u1 v:Value) (rows:List RowI) (W:World):Prop where
 sb:SB w u0 u1 (.slice none 0 0) (.slice none 0 0) (.int .i64 0) (.int .i64 0) W
 own:W.ownsRow (w.heap.size+3) 55 11 v rows.length (zF rows)
theorem TG.below {w W W1:World} {u0 u1 v:Value} {rows:List RowI} (h:TG w u0 u1 v rows W) (hb:Below W.heap.size W W1):TG w u0 u1 v rows W1:=⟨h.sb.below hb,zb h.own hb⟩
def rowsTo (l:List TabI) (i:Nat):List RowI:=(l.take i).flatMap (·.rows)
theorem rowsTo_succ (l:List TabI) (i:Nat) (h:i<l.length):rowsTo l (i+1)=rowsTo l i++l[i].rows:=by
 unfold rowsTo
 rw [List.take_succ_eq_append_getElem h,List.flatMap_append]
 simp
theorem rowsTo_len (l:List TabI) (i:Nat):(rowsTo l i).length≤(l.flatMap (·.rows)).length:=by
 unfold rowsTo
 conv=>rhs;rw [←List.take_append_drop i l]
 rw [List.flatMap_append,List.length_append]
 omega
structure StAt (w:World) (T:Option Addr) (G:Option Addr) (tabs:List TabI) (X:Wd):Prop where
 tbs:TabsAt w T tabs
 gens:IntsL w G X.gens
 right:RightW X
 each:∀ t∈tabs,TabRight t
 up:∀ j (h:j+1<tabs.length),(tabs[j]'(by omega)).has<tabs[j+1].has
 perm:(tabs.flatMap (·.rows)).Perm X.rows
 few:tabs.length≤1000
theorem StAt.below {w w1:World} {T G:Option Addr} {tabs:List TabI} {X:Wd} (h:StAt w T G tabs X) (hb:Below w.heap.size w w1):StAt w1 T G tabs X:=⟨h.tbs.below hb,h.gens.below hb,h.right,h.each,h.up,h.perm,h.few⟩
theorem StAt.wrong {w:World} {T G:Option Addr} {tabs:List TabI} {X:Wd} (h:StAt w T G tabs X) {i:Nat} (hi:i<tabs.length) (tb tf tcap:Nat) (hT:T=some ⟨tb,tf,none⟩) (W:World) (hb:Below w.heap.size w W) :
  Calls Tryz.prog 46 #[.slice (some ⟨tb,tf,none⟩) tabs.length tcap,.int .i64 (i:Int)] W fun e w'=>e=.returned (.int .i64 0)∧Below W.heap.size W w':=by
 subst hT
 obtain ⟨b,o,e,A,c,C,cc,ht⟩:=h.tbs.below hb i hi
 simp only [Option.some.injEq,Addr.mk.injEq,and_true] at e
 obtain ⟨rfl,rfl⟩:=e
 have hr:=h.each _ (List.getElem_mem hi)
 by_cases h0:i=0
 ·exact wrongtable_first tb tf tabs.length tcap i _ A c C cc W h.few hi ht hr h0
 ·obtain ⟨j,rfl⟩:∃ j,i=j+1:=⟨i - 1,by omega⟩
  obtain ⟨b',o',e',A',c',C',cc',ht'⟩:=h.tbs.below hb j (by omega)
  simp only [Option.some.injEq,Addr.mk.injEq,and_true] at e'
  obtain ⟨rfl,rfl⟩:=e'
  exact wrongtable_next tb tf tabs.length tcap (j+1) _ A c C cc W h.few hi ht hr j rfl _ ht'.c0 (h.up j hi)
end Go.Proofs.YtnbleebilmghcacGreat
set_option maxHeartbeats 8000000
set_option maxRecDepth 8000
namespace Go.Proofs.YtnbleebilmghcacGreat
open Go Go.RowKit
attribute [local go_sem ↓] Go.wp_at_zero Go.wp_at_succ
theorem zAa {W:World} {B:Nat} {A:Option Addr} {c:Nat} {G:Option Addr} {gc:Nat} {Y:Wd} (h:WldNew B W A c G gc Y) {b o:Nat} {vs:List Value} (hb:b<B):WldNew B (W.setCells b o vs) A c G gc Y:=by
 refine ⟨⟨fun j hj=>?_,fun j hj=>?_⟩,h.fa,h.fg⟩
 ·obtain ⟨b',off,e,hr⟩:=h.rows j hj
  exact ⟨b',off,e,zCF (by have:=h.fa b' off e;omega) hr⟩
 ·obtain ⟨b',off,e,hr⟩:=h.gens j hj
  exact ⟨b',off,e,(zU (by have:=h.fg b' off e;simp only [ne_eq];omega)).trans hr⟩
theorem zCQ {W:World} {B B':Nat} {A:Option Addr} {c:Nat} {G:Option Addr} {gc:Nat} {Y:Wd} (h:WldNew B W A c G gc Y) (hb:B'≤B):WldNew B' W A c G gc Y:=⟨h.toWldAt,fun c o e=>Nat.le_trans hb (h.fa c o e),fun c o e=>Nat.le_trans hb (h.fg c o e)⟩
def stV (T:Option Addr) (tn tcap:Nat) (G:Option Addr) (gn gcap:Nat):Value:=.agg #[.slice T tn tcap,.slice G gn gcap]
theorem zCC (T:Option Addr) (tcap:Nat) (G:Option Addr) (gcap:Nat) (tabs:List TabI) (X:Wd) (w:World) (h:StAt w T G tabs X) :
  Calls Tryz.prog 29 #[stV T tabs.length tcap G X.gens.length gcap] w fun e w'=>∃ A' c' G' gc',e=.returned (.tuple #[zAD A' c' G' gc' X,.agg #[.int .i64 0,.int .i64 0]])∧WldNew w.heap.size w' A' c' G' gc' X∧Below w.heap.size w w':=by
 have hw0:=(zm X).2 h.right
 obtain ⟨hl,hgl,_⟩:=zAJ hw0
 have hpl:=h.perm.length_eq
 have hSO:=fun v W (hv:W.ownsRow (w.heap.size+3) 55 11 v (tabs.flatMap (·.rows)).length (zF (tabs.flatMap (·.rows)))) (hb:w.heap.size+3≤W.heap.size)=>sort_rows h.right h.perm (by omega) v W hv hb
 have hCP:=fun W (hb:Below w.heap.size w W)=>copied_any G gcap X.gens W (by omega) (h.gens.below hb)
 have hP:=fun A' c' G' gc' W (hW:WldAt W A' c' G' gc' X)=>zBr A' X.rows.length c' G' X.gens.length gc' (fun j=>X.rows.getD j dR) (fun j=>X.gens.getD j 0) W (by omega) hW.rows hW.gens
 have eW:plainF (fun j=>X.rows.getD j dR) X.rows.length X.gens.length (fun j=>X.gens.getD j 0)=zAA X:=rfl
 rw [eW] at hP
 unfold zBg zR at hP
 rw [hw0] at hP
 generalize (zAA X).2=wa at *
 have htf:=h.few
 have hrl:=fun i=>rowsTo_len tabs i
 have hend:rowsTo tabs tabs.length=tabs.flatMap (·.rows):=by unfold rowsTo;rw [List.take_length]
 have HEND:=zB hend
 have HRL:=zB hrl
 have HSO:=zB hSO
 have HCP:=zB hCP
 have HP:=zB hP
 have HST:=zB h
 have hTG:TG w (.slice T tabs.length tcap) (.slice G X.gens.length gcap) (.slice none 0 0) [] (((w.alloc (.cells #[.slice T tabs.length tcap,.slice G X.gens.length gcap] 28)).alloc (.cells #[.slice none 0 0,.slice none 0 0] 51)).alloc (.cells #[.int .i64 0,.int .i64 0] 35)):=⟨SB.start71 w _ _,World.ownsRow_nil _ _ _ _⟩
 have HTG:=zB hTG
 clear hSO hCP hP h eW hrl hend hTG
 unfold stV zAD zR
 go_enter Tryz.func29,Tryz.ntmps29
 go_wp2
 go_loopw [4,13] (fun x y wr=>∃ i:Nat,i≤tabs.length∧y=.int .i64 i∧TG w (.slice T tabs.length tcap) (.slice G X.gens.length gcap) x (rowsTo tabs i) wr) (fun _ y _=>tabs.length - (intOf y).toNat)
 case atStart=>exact ⟨0,Nat.zero_le _,rfl,by simpa [rowsTo] using zA HTG⟩
 case round =>
  clear HTG
  obtain ⟨i,hi,rfl,hT⟩:=hrel
  by_cases hlt:i<tabs.length
  ·have i0:(0:Int)≤(i:Int):=by omega
   have i1:(i:Int)<(tabs.length:Int):=by omega
   obtain ⟨tb,tf,hTe,A,c,C,cc,hta⟩:=(zA HST).tbs i hlt
   have hWT:=fun W hb=>(zA HST).wrong hlt tb tf tcap hTe W hb
   have hrt:=(zA HST).each _ (List.getElem_mem hlt)
   have HSU:=zB (rowsTo_succ tabs i hlt)
   generalize tabs[i]=t at *
   have hAD:=fun v W (hv:TG w (.slice T tabs.length tcap) (.slice G X.gens.length gcap) v (rowsTo tabs i) W)=>addrows_any v (rowsTo tabs i) t A c C cc w W (w.heap.size+3) hv.own hv.sb.sz hv.sb.bel (by omega) hta.bs hta.cols hrt (by have:=zA HRL i;omega)
   have d0:=zC hT.sb.bel hta.c0
   have d1:=zC hT.sb.bel hta.c1
   have d2:=zC hT.sb.bel hta.c2
   have r0:=hT.sb.r0
   have ls:w.heap.size<wr.heap.size:=by have:=hT.sb.sz;omega
   have HT:=zB hT
   have HWT:=zB hWT
   have HAD:=zB hAD
   have HHT:=zB hta
   subst hTe
   clear hT hWT hAD hta hrt
   go_wp2_with (first
    | (go_at_call 46;refine (zA HWT _ ((zA HT).sb.bel.trans ((zAs wr (.cells #[.int .i64 t.has,.slice A t.rows.length c,.slice C (zS t.has 8).length cc] 94)).mono (zA HT).sb.bel.size))).mono ?_;rintro e w1 ⟨rfl,hb1⟩;have hs:=WT.start wr (.int .i64 t.has) (.slice A t.rows.length c) (.slice C (zS t.has 8).length cc) 94;have x0:=zC hb1 hs.b0;have x1:=zC hb1 hs.b1;have x2:=zC hb1 hs.b2;have HT1:=zB (((zA HT).below (zAs _ _)).below hb1);clear hb1 hs d0 d1 d2 r0)
    | (go_at_call 47;refine (zA HAD _ _ (zA HT1)).mono ?_;rintro e w2 ⟨v2,rfl,ho2,hb2⟩;have HT2:Hid (TG w (.slice (some ⟨tb,tf,none⟩) tabs.length tcap) (.slice G X.gens.length gcap) v2 (rowsTo tabs i++t.rows) w2):=zB ⟨(zA HT1).sb.keep hb2,ho2⟩;clear ho2 hb2 x0 x1 x2))
   go_roundw
   case rel=>exact ⟨i+1,by omega,by go_num,by rw [zA HSU];exact zA HT2⟩
   case measure=>simp [intOf];omega
  ·obtain rfl:i=tabs.length:=by omega
   rw [zA HEND] at hT
   have r1:=hT.sb.r1
   have HT:=zB hT
   clear hT
   go_wp2_with (first
    | (go_at_call 48;refine (zA HSO _ _ (zA HT).own (zA HT).sb.sz).mono ?_;rintro e w1 ⟨rfl,ho1,hb1⟩;obtain ⟨Av,cv,rfl⟩:=zAb ho1;have hs1:=(zA HT).sb.keep hb1;clear r1;have r1:=hs1.r1;have HO1:=zB ho1;have HS1:=zB hs1;clear hb1 ho1 hs1 HT)
    | (go_at_call 51;refine (zA HCP _ (zA HS1).bel).mono ?_;rintro e w2 ⟨Ag,cg,rfl,ho2,hb2⟩;have hN:WldNew (w.heap.size+3) w2 Av cv Ag cg X:=⟨⟨own_rows (zb (zA HO1) hb2),own_ints ho2⟩,zAy (zA HO1) (Nat.le_refl _),zAy ho2 (zA HS1).sz⟩;have HN2:=zB (hN.below (zAs w2 (.cells #[.slice Av X.rows.length cv,.slice Ag X.gens.length cg] 51)));have HS2:=zB (((zA HS1).below hb2).below (zAs w2 (.cells #[.slice Av X.rows.length cv,.slice Ag X.gens.length cg] 51)));clear hN ho2 hb2 r1)
    | (go_at_call 52;refine (zA HP _ _ _ _ _ (zA HN2).toWldAt).mono ?_;rintro e w3 ⟨rfl,hb3⟩;obtain ⟨e0,e1,_,_⟩:=zAv (W:=w2) (u0:=.slice Av X.rows.length cv) (u1:=.slice Ag X.gens.length cg) (t:=51) rfl;have y0:=zC hb3 e0;have y1:=zC hb3 e1;have ly:=World.block_lt_of_cell? w3 _ y0;have HN4:=zB (((zA HN2).below hb3).below (zAs w3 (.cells #[.int .i64 0,.int .i64 wa] 35)));have HS4:=zB (((zA HS2).below hb3).below (zAs w3 (.cells #[.int .i64 0,.int .i64 wa] 35)));clear hb3 e0 e1 HN2 HS2)
    | (refine zH rfl 51 (.tmp 2) (.tmp 48) rfl (w.heap.size+1) 0 [.slice Av X.rows.length cv,.slice Ag X.gens.length cg] rfl rfl (by simp [Value.oneCell']) size38 (zA HS4).thereA ?_;intro W5 hW5;have hs5:=(zA HS4).giveA (.slice Av X.rows.length cv) (.slice Ag X.gens.length cg);have hn5:=zAa (zA HN4) (b:=w.heap.size+1) (o:=0) (vs:=[.slice Av X.rows.length cv,.slice Ag X.gens.length cg]) (by omega);rw [←hW5] at hs5 hn5;have HS5:=zB hs5;have HN5:=zB hn5;clear hW5 hs5 hn5 HS4 HN4)
    | (refine zH rfl 35 (.tmp 3) (.tmp 49) rfl (w.heap.size+2) 0 [.int .i64 0,.int .i64 0] rfl rfl (by simp [Value.oneCell']) size43t (zA HS5).thereB ?_;intro W6 hW6;have hs6:=(zA HS5).giveB (.int .i64 0) (.int .i64 0);have hn6:=zAa (zA HN5) (b:=w.heap.size+2) (o:=0) (vs:=[.int .i64 0,.int .i64 0]) (by omega);rw [←hW6] at hs6 hn6;have HS6:=zB hs6;have HN6:=zB hn6;clear hW6 hs6 hn6 HS5 HN5))
   have t0:=(zA HS6).t0
   have t1:=(zA HS6).t1
   have s0:=(zA HS6).s0
   have s1:=(zA HS6).s1
   refine bodyPost_ret (v:=.tuple #[.agg #[.slice Av X.rows.length cv,.slice Ag X.gens.length cg],.agg #[.int .i64 0,.int .i64 0]]) (by simp [results,Tryz.results29,go_sem,t0,t1,s0,s1]) rfl ⟨Av,cv,Ag,cg,rfl,zCQ (zA HN6) (by omega),(zA HS6).bel⟩
end Go.Proofs.YtnbleebilmghcacGreat
set_option maxHeartbeats 4000000
set_option maxRecDepth 8000
namespace Go.Proofs.YtnbleebilmghcacGreat
open Go Go.RowKit
attribute [local go_sem ↓] Go.wp_at_zero Go.wp_at_succ
structure BB (w:World) (u0 u1 y0 y1:Value) (W:World):Prop where
 bel:Below w.heap.size w W
 sz:w.heap.size+2≤W.heap.size
 r:B13 w.heap.size u0 u1 W
 s:B13 (w.heap.size+1) y0 y1 W
theorem BB.below {w W W1:World} {u0 u1 y0 y1:Value} (h:BB w u0 u1 y0 y1 W) (hb:Below W.heap.size W W1):BB w u0 u1 y0 y1 W1 :=
 ⟨h.bel.trans (hb.mono h.bel.size),Nat.le_trans h.sz hb.size,h.r.keep (hb.mono (by have:=h.sz;omega)),h.s.keep (hb.mono h.sz)⟩
theorem BB.start (w:World) (u0 u1 y0 y1:Value) (s t:TypeId):BB w u0 u1 y0 y1 ((w.alloc (.cells #[u0,u1] s)).alloc (.cells #[y0,y1] t)):=by
 obtain ⟨a0,a1,af,ab⟩:=zAv (W:=w) (u0:=u0) (u1:=u1) (t:=s) rfl
 have z1:(w.alloc (.cells #[u0,u1] s)).heap.size=w.heap.size+1:=by simp
 generalize w.alloc (.cells #[u0,u1] s)=W1 at *
 obtain ⟨c0,c1,cf,cb⟩:=zAv (W:=W1) (u0:=y0) (u1:=y1) (t:=t) z1
 exact ⟨ab.trans (cb.mono ab.size),by simp;omega,B13.keep ⟨a0,a1,af⟩ (cb.mono (by omega)),⟨c0,c1,cf⟩⟩
theorem zAh {b:Nat} {u v:Value} {W:World} (h:B13 b u v W):W.there b 0 2:=fun j hj=>by
 rcases (by omega:j=0∨j=1) with rfl | rfl
 ·exact ⟨by rw [Nat.zero_add,h.e0];rfl,h.f _⟩
 ·exact ⟨by rw [Nat.zero_add,h.e1];rfl,h.f _⟩
theorem b13_give {b:Nat} {u v:Value} {W:World} (h:B13 b u v W) (u' v':Value):B13 b u' v' (W.setCells b 0 [u',v']):=by
 have s:=fun j hj=>World.cell?_setCells_in b [u',v'] 0 W (fun j hj=>(zAh h j hj).1) j hj
 exact ⟨s 0 (by simp),s 1 (by simp),fun i=>by rw [World.frozen?_setCells];exact h.f i⟩
theorem BB.give {w W:World} {u0 u1 y0 y1:Value} (h:BB w u0 u1 y0 y1 W) (z0 z1:Value):BB w u0 u1 z0 z1 (W.setCells (w.heap.size+1) 0 [z0,z1]):=by
 have hb:Below (w.heap.size+1) W (W.setCells (w.heap.size+1) 0 [z0,z1]):=zG (w.heap.size+1) (Nat.le_refl _) [z0,z1] 0 W (Below.refl _ _)
 exact ⟨h.bel.trans (hb.mono (by omega)),Nat.le_trans h.sz hb.size,h.r.keep hb,b13_give h.s z0 z1⟩
theorem swrong_any (T:Option Addr) (tcap:Nat) (G:Option Addr) (gcap:Nat) (tabs:List TabI) (X:Wd) (w:World) (h:StAt w T G tabs X) :
  Calls Tryz.prog 31 #[stV T tabs.length tcap G X.gens.length gcap] w fun e w'=>e=.returned (.agg #[.int .i64 0,.int .i64 0])∧Below w.heap.size w w':=by
 have hTO:=fun W (hb:Below w.heap.size w W)=>zCC T tcap G gcap tabs X W (h.below hb)
 have hBB:=BB.start w (.slice T tabs.length tcap) (.slice G X.gens.length gcap) (.int .i64 0) (.int .i64 0) 28 35
 unfold stV zAD zR at hTO
 have HTO:=zB hTO
 have HBB:=zB hBB
 clear hTO hBB h
 unfold stV
 go_enter Tryz.func31,Tryz.ntmps31
 go_wp2_with (first
  | (go_at_call 29;refine (zA HTO _ (zA HBB).bel).mono ?_;rintro e w1 ⟨A1,c1,G1,gc1,rfl,hN,hb1⟩;have HB1:=zB (((zA HBB).below hb1).below (bel2 w1 (.cells #[.slice A1 X.rows.length c1,.slice G1 X.gens.length gc1] 51) (.cells #[.int .i64 0,.int .i64 0] 35)));clear hN hb1)
  | (refine zH rfl 35 (.tmp 2) (.tmp 10) rfl (w.heap.size+1) 0 [.int .i64 0,.int .i64 0] rfl rfl (by simp [Value.oneCell']) size43t (zAh (zA HB1).s) ?_;intro W3 hW3;have hC:=(zA HB1).give (.int .i64 0) (.int .i64 0);rw [←hW3] at hC;have HC:=zB hC;clear hW3 hC))
 have t0:=(zA HC).s.e0
 have t1:=(zA HC).s.e1
 refine bodyPost_ret (v:=.agg #[.int .i64 0,.int .i64 0]) (by simp [results,Tryz.results31,go_sem,t0,t1]) rfl ⟨rfl,(zA HC).bel⟩
theorem sworld_any (T:Option Addr) (tcap:Nat) (G:Option Addr) (gcap:Nat) (tabs:List TabI) (X:Wd) (w:World) (h:StAt w T G tabs X) :
  Calls Tryz.prog 14 #[stV T tabs.length tcap G X.gens.length gcap] w fun e w'=>∃ A' c' G' gc',e=.returned (zAD A' c' G' gc' X)∧WldNew w.heap.size w' A' c' G' gc' X∧Below w.heap.size w w':=by
 have hTO:=fun W (hb:Below w.heap.size w W)=>zCC T tcap G gcap tabs X W (h.below hb)
 have hBB:=BB.start w (.slice T tabs.length tcap) (.slice G X.gens.length gcap) (.slice none 0 0) (.slice none 0 0) 28 51
 unfold stV zAD zR at hTO
 have HTO:=zB hTO
 have HBB:=zB hBB
 clear hTO hBB h
 unfold stV zAD zR
 go_enter Tryz.func14,Tryz.ntmps14
 go_wp2_with (first
  | (go_at_call 29;refine (zA HTO _ (zA HBB).bel).mono ?_;rintro e w1 ⟨A1,c1,G1,gc1,rfl,hN,hb1⟩;have HB1:=zB (((zA HBB).below hb1).below (bel2 w1 (.cells #[.slice A1 X.rows.length c1,.slice G1 X.gens.length gc1] 51) (.cells #[.int .i64 0,.int .i64 0] 35)));have HN:=zB ((hN.below (bel2 w1 (.cells #[.slice A1 X.rows.length c1,.slice G1 X.gens.length gc1] 51) (.cells #[.int .i64 0,.int .i64 0] 35))));clear hN hb1)
  | (refine zH rfl 51 (.tmp 2) (.tmp 10) rfl (w.heap.size+1) 0 [.slice A1 X.rows.length c1,.slice G1 X.gens.length gc1] rfl rfl (by simp [Value.oneCell']) size38 (zAh (zA HB1).s) ?_;intro W3 hW3;have hC:=(zA HB1).give (.slice A1 X.rows.length c1) (.slice G1 X.gens.length gc1);have hM:=zAa (zA HN) (b:=w.heap.size+1) (o:=0) (vs:=[.slice A1 X.rows.length c1,.slice G1 X.gens.length gc1]) (by have:=(zA HBB).sz;omega);rw [←hW3] at hC hM;have HC:=zB hC;have HM:=zB hM;clear hW3 hC hM))
 have t0:=(zA HC).s.e0
 have t1:=(zA HC).s.e1
 refine bodyPost_ret (v:=.agg #[.slice A1 X.rows.length c1,.slice G1 X.gens.length gc1]) (by simp [results,Tryz.results14,go_sem,t0,t1]) rfl ⟨A1,c1,G1,gc1,rfl,zCQ (zA HM) (zA HBB).bel.size,(zA HC).bel⟩
end Go.Proofs.YtnbleebilmghcacGreat
set_option maxHeartbeats 4000000
set_option maxRecDepth 8000
namespace Go.Proofs.YtnbleebilmghcacGreat
open Go Go.RowKit
attribute [local go_sem ↓] Go.wp_at_zero Go.wp_at_succ
def TC (w:World) (T:Option Addr) (n:Nat) (H:Nat→Int) (u1 u2:Nat→Value):Prop:=∀ j,j<n→∃ b o,T=some ⟨b,o,none⟩∧w.cell? ⟨b,o+j*3,none⟩=some (.int .i64 (H j))∧w.cell? ⟨b,o+j*3+1,none⟩=some (u1 j)∧w.cell? ⟨b,o+j*3+2,none⟩=some (u2 j)
theorem TC.below {w w1:World} {T:Option Addr} {n:Nat} {H:Nat→Int} {u1 u2:Nat→Value} (h:TC w T n H u1 u2) (hb:Below w.heap.size w w1):TC w1 T n H u1 u2:=fun j hj=>by
 obtain ⟨b,o,e,h1,h2,h3⟩:=h j hj
 exact ⟨b,o,e,zC hb h1,zC hb h2,zC hb h3⟩
theorem cmptab_any (h a:Int) (x y:Value) (w:World):Calls Tryz.prog 129 #[.agg #[.int .i64 h,x,y],.int .i64 a] w fun e w'=>e=.returned (.int .i64 (cmpI h a))∧Below w.heap.size w w':=by
 have HC:=zB (compare_any h a)
 go_enter Tryz.func129,Tryz.ntmps129
 go_wp2_with ((go_at_call 50;refine (zA HC _).mono ?_;rintro e w1 ⟨rfl,hw⟩;obtain rfl:=hw.symm))
 go_ret
 exact ⟨rfl,zAs _ _⟩
theorem bsearch_any (T:Option Addr) (tcap n:Nat) (H:Nat→Int) (u1 u2:Nat→Value) (a:Int) (w:World) (hn:n≤1000) (hT:TC w T n H u1 u2) (hup:∀ i j,i<j→j<n→H i<H j) :
  Calls Tryz.prog 128 #[.slice T n tcap,.int .i64 a,.func (.func 129) #[] #[]] w fun e w'=>∃ i:Nat,i≤n∧e=.returned (.tuple #[.int .i64 (i:Int),.bool (decide (i<n∧H i=a))])∧(∀ x,x<i→H x<a)∧(∀ x,i≤x→x<n→a≤H x)∧Below w.heap.size w w':=by
 have HT:=zB hT
 have HUP:=zB hup
 have HCM:=zB cmptab_any
 clear hT hup
 go_enter Tryz.func128,Tryz.ntmps128
 go_wp2
 go_loopw [9,10] (fun t u wr=>∃ (i j:Nat),t=.int .i64 (i:Int)∧u=.int .i64 (j:Int)∧i≤j∧j≤n∧Below w.heap.size w wr∧(∀ x,x<i→H x<a)∧(∀ x,j≤x→x<n→a≤H x)) (fun t u _=>(intOf u).toNat - (intOf t).toNat)
 case atStart=>exact ⟨0,n,rfl,rfl,Nat.zero_le _,Nat.le_refl _,Below.refl _ _,fun x h=>by omega,fun x h1 h2=>by omega⟩
 case round =>
  obtain ⟨i,j,rfl,rfl,hij,hjn,hb,hlo,hhi⟩:=hrel
  by_cases hlt:i<j
  ·have i1:(i:Int)<(j:Int):=by omega
   obtain ⟨c,hc⟩:∃ c:Nat,((i:Int)+(j:Int)) / 2=(c:Int):=⟨(i+j) / 2,by omega⟩
   have c0:(0:Int)≤(c:Int):=by omega
   have c1:(c:Int)<(n:Int):=by omega
   have HCC:Hid (i≤c∧c<j):=zB (by omega)
   obtain ⟨b,o,rfl,d0,d1,d2⟩:=(zA HT).below hb c (by omega)
   have HB:=zB hb
   have HLO:=zB hlo
   have HHI:=zB hhi
   clear hb hlo hhi
   by_cases hcmp:H c<a
   ·have HCP:=zB hcmp
    have hlt0:cmpI (H c) a<0:=(zBB _ _).2 hcmp
    go_wp2_with ((go_at_call 129;refine (zA HCM _ _ _ _ _).mono ?_;rintro e w1 ⟨rfl,hb1⟩;have HB1:=zB ((zA HB).trans (hb1.mono (zA HB).size));clear hb1))
    go_roundw
    case rel =>
     obtain ⟨q1,q2⟩:=zA HCC
     exact ⟨c+1,j,by go_num,rfl,by omega,hjn,zA HB1,fun x hx=>by
      rcases Nat.lt_or_ge x c with h | h
      ·have:=zA HUP x c h (by omega)
       have:=zA HCP
       omega
      ·rw [show x=c by omega];exact zA HCP,zA HHI⟩
    case measure=>have:=zA HCC;simp [intOf];omega
   ·have HCP:=zB hcmp
    have hlt0:¬ cmpI (H c) a<0:=fun h=>hcmp ((zBB _ _).1 h)
    go_wp2_with ((go_at_call 129;refine (zA HCM _ _ _ _ _).mono ?_;rintro e w1 ⟨rfl,hb1⟩;have HB1:=zB ((zA HB).trans (hb1.mono (zA HB).size));clear hb1))
    go_roundw
    case rel =>
     obtain ⟨q1,q2⟩:=zA HCC
     exact ⟨i,c,rfl,rfl,q1,by omega,zA HB1,zA HLO,fun x h1 h2=>by
      have q3:=zA HCP
      rcases Nat.lt_or_ge c x with h | h
      ·have:=zA HUP c x h h2
       omega
      ·rw [show x=c by omega];omega⟩
    case measure=>have:=zA HCC;simp [intOf];omega
  ·obtain rfl:i=j:=by omega
   have i1:¬ (i:Int)<(i:Int):=by omega
   have HLO:=zB hlo
   have HHI:=zB hhi
   by_cases hin:i<n
   ·have n1:(i:Int)<(n:Int):=by omega
    have n0:(0:Int)≤(i:Int):=by omega
    obtain ⟨b,o,rfl,d0,d1,d2⟩:=(zA HT).below hb i hin
    have HB:=zB hb
    clear hb hlo hhi
    have hge:=zA HHI i (Nat.le_refl _) hin
    by_cases heq:H i=a
    ·have HEQ:=zB heq
     have h0:cmpI (H i) a=0:=by unfold cmpI;rw [if_neg (by omega),if_neg (by omega)]
     clear heq hge
     go_wp2_with ((go_at_call 129;refine (zA HCM _ _ _ _ _).mono ?_;rintro e w1 ⟨rfl,hb1⟩;have HB1:=zB ((zA HB).trans (hb1.mono (zA HB).size));clear hb1))
     go_ret2
     exact ⟨i,by omega,by simp [hin,zA HEQ],zA HLO,zA HHI,zA HB1⟩
    ·have HEQ:=zB heq
     have h0:cmpI (H i) a=1:=by unfold cmpI;rw [if_neg (by omega),if_pos (by omega)]
     clear heq hge
     go_wp2_with ((go_at_call 129;refine (zA HCM _ _ _ _ _).mono ?_;rintro e w1 ⟨rfl,hb1⟩;have HB1:=zB ((zA HB).trans (hb1.mono (zA HB).size));clear hb1))
     go_ret2
     exact ⟨i,by omega,by simp [zA HEQ],zA HLO,zA HHI,zA HB1⟩
   ·have n1:¬ (i:Int)<(n:Int):=by omega
    have HB:=zB hb
    clear hb hlo hhi
    go_wp2
    go_ret2
    exact ⟨i,by omega,by simp [hin],zA HLO,zA HHI,zA HB⟩
end Go.Proofs.YtnbleebilmghcacGreat
