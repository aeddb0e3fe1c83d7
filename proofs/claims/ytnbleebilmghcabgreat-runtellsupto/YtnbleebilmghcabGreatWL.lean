/- SStable, STog0, SPos, STog, STog2, SAsk, SBin, SSame, SStat, SFrom -/
import Derived.Test.YtnbleebilmghcabGreatWK
import Derived.Test.YtnbleebilmghcabGreatXSSym3
set_option linter.all false
set_option maxHeartbeats 8000000
set_option maxRecDepth 8000
namespace Go.Proofs.YtnbleebilmghcabGreat
open Go Go.RowKit
attribute [local go_sem ↓] Go.wp_at_zero Go.wp_at_succ
theorem zHT (g cap n:Nat) (R:Nat→RowI) (hn:n≤4194304):∀ (d a m b:Nat) (s:Nat→Nat) (W0:World),b - a≤d→a<m→m<b→b≤n→DL g cap W0 (zAA R s n) W0→Halves (fun p=>(R p).ix) s a m b →
  Calls Tryz.prog 147 #[.slice (some ⟨g,0,none⟩) n cap,.int .i64 (a:Int),.int .i64 (m:Int),.int .i64 (b:Int),cmpV] W0 fun e w'=>e=.returned (.tuple #[])∧∃ t,DL g cap W0 (zAA R t n) w'∧SP s t a b∧Srt (fun p=>(R p).ix) t a b
 | 0,a,m,b,s,W0,hd,am,mb,hbn,h,hH=>by omega
 | d+1,a,m,b,s,W0,hd,am,mb,hbn,h,hH=>by
  by_cases e1:m=a+1
  ·subst e1
   have:=zNa g cap n a b R s W0 mb hbn hn h hH
   rw [show ((a:Int)+1)=((a+1:Nat):Int) by omega] at this
   exact this
  ·by_cases e2:b=m+1
   ·subst e2
    have:=zMB g cap n a m R s W0 (by omega) hbn hn h hH
    rw [show ((m:Int)+1)=((m+1:Nat):Int) by omega] at this
    exact this
   ·by_cases e3:(a+b) / 2<m
    ·exact zOV g cap n d a m b R s W0 hn (fun a m b s W0=>zHT g cap n R hn d a m b s W0) hd (by omega) (by omega) hbn h hH _ rfl e3
    ·exact zOU g cap n d a m b R s W0 hn (fun a m b s W0=>zHT g cap n R hn d a m b s W0) hd (by omega) (by omega) hbn h hH _ rfl e3
def Inb (s:Nat→Nat) (a b:Nat):Prop:=∀ x,a≤x→x<b→a≤s x∧s x<b
section
variable {key:Nat→Int} {s t:Nat→Nat} {a b a' b' m n c:Nat}
theorem zLh (hid:∀ x,c≤x→x<n→s x=x) (h:SP s t a b) (h1:c≤a) (h2:b≤n):Inb t a b:=fun x x1 x2=>by
 obtain ⟨j,j1,j2,e⟩:=h.mem x1 x2
 rw [e,hid j (by omega) (by omega)]
 exact ⟨j1,j2⟩
theorem zLi (h:SP s t a b) (hd:b'≤a∨b≤a'):∀ x,a'≤x→x<b'→t x=s x:=fun x x1 x2=>h.out (by omega)
theorem zOv (h:SP s t a b) (hd:b'≤a∨b≤a') (hi:Inb s a' b'):Inb t a' b':=fun x x1 x2=>by rw [zLi h hd x x1 x2];exact hi x x1 x2
theorem zOI (h:SP s t a b) (hd:b'≤a∨b≤a') (hs:Srt key s a' b'):Srt key t a' b':=fun x y x1 x2 x3=>by rw [zLi h hd x x1 (by omega),zLi h hd y (by omega) x3];exact hs x y x1 x2 x3
theorem zOw (hid:∀ x,c≤x→x<n→s x=x) (h:SP s t a b) (h1:c≤a) (h2:a≤b):∀ x,b≤x→x<n→t x=x:=fun x x1 x2=>by rw [h.out (by omega)];exact hid x (by omega) x2
theorem zHA (h1:Srt key s a m) (h2:Srt key s m b) (h3:Inb s a m) (h4:Inb s m b):Halves key s a m b:=⟨h1,h2,fun i j i1 i2 j1 j2=>by have:=h3 i i1 i2;have:=h4 j j1 j2;omega⟩
theorem zMu (h:SP s t a b) (h3:Inb s a m) (h4:Inb s m b) (h1:a≤m) (h2:m≤b):Inb t a b:=fun x x1 x2=>by
 obtain ⟨j,j1,j2,e⟩:=h.mem x1 x2
 rw [e]
 rcases Nat.lt_or_ge j m with hj | hj
 ·have:=h3 j j1 hj;omega
 ·have:=h4 j hj j2;omega
end
theorem zNN {g cap n:Nat} {R:Nat→RowI} {W0:World} (hn:n≤4194304) (a b:Nat) (x y:Int) (hx:x=(a:Int)) (hy:y=(b:Int)) (s:Nat→Nat) (W:World) (hab:a≤b) (hbn:b≤n) (hid:∀ x,a≤x→x<n→s x=x) (h:DL g cap W0 (zAA R s n) W) :
  Calls Tryz.prog 146 #[.slice (some ⟨g,0,none⟩) n cap,.int .i64 x,.int .i64 y,cmpV] W fun e w'=>e=.returned (.tuple #[])∧∃ t,DL g cap W0 (zAA R t n) w'∧SP s t a b∧Srt (fun p=>(R p).ix) t a b:=by
 subst hx hy
 exact (zHm g cap n a b R s W hab hbn hn (fun x x1 x2=>hid x x1 (by omega)) h.self).mono fun e w' ⟨he,t,k1,k2,k3⟩=>⟨he,t,h.trans k1,k2,k3⟩
theorem zNH {g cap n:Nat} {R:Nat→RowI} {W0:World} (hn:n≤4194304) (a m b:Nat) (x y z:Int) (hx:x=(a:Int)) (hy:y=(m:Int)) (hz:z=(b:Int)) (s:Nat→Nat) (W:World) (am:a<m) (mb:m<b) (hbn:b≤n) (hH:Halves (fun p=>(R p).ix) s a m b) (h:DL g cap W0 (zAA R s n) W) :
  Calls Tryz.prog 147 #[.slice (some ⟨g,0,none⟩) n cap,.int .i64 x,.int .i64 y,.int .i64 z,cmpV] W fun e w'=>e=.returned (.tuple #[])∧∃ t,DL g cap W0 (zAA R t n) w'∧SP s t a b∧Srt (fun p=>(R p).ix) t a b:=by
 subst hx hy hz
 exact (zHT g cap n R hn (b - a) a m b s W (Nat.le_refl _) am mb hbn h.self hH).mono fun e w' ⟨he,t,k1,k2,k3⟩=>⟨he,t,h.trans k1,k2,k3⟩
def Mu (B x:Nat):Prop:=∃ j,x=j*B
section
variable {B x y:Nat}
theorem Mu.zero (B:Nat):Mu B 0:=⟨0,by simp⟩
theorem Mu.add (h:Mu B x):Mu B (x+B):=by
 obtain ⟨j,rfl⟩:=h
 exact ⟨j+1,by rw [Nat.add_mul,Nat.one_mul]⟩
theorem Mu.half (h:Mu (2*B) x):Mu B x:=by
 obtain ⟨j,rfl⟩:=h
 exact ⟨j*2,by rw [Nat.mul_assoc]⟩
theorem Mu.gap (h:Mu B x) (h2:Mu B y) (hl:x<y):x+B≤y:=by
 obtain ⟨i,rfl⟩:=h
 obtain ⟨j,rfl⟩:=h2
 have hij:i<j:=Nat.lt_of_mul_lt_mul_right hl
 have:=Nat.mul_le_mul_right B (show i+1≤j from hij)
 rw [Nat.add_mul,Nat.one_mul] at this
 exact this
end
structure Bl (key:Nat→Int) (s:Nat→Nat) (a b:Nat):Prop where
 srt:Srt key s a b
 inb:Inb s a b
section
variable {key:Nat→Int} {s t:Nat→Nat} {a b a' b' m n c:Nat}
theorem Bl.keep (h:SP s t a b) (hd:b'≤a∨b≤a') (hb:Bl key s a' b'):Bl key t a' b':=⟨zOI h hd hb.srt,zOv h hd hb.inb⟩
theorem Bl.join (h1:Bl key s a m) (h2:Bl key s m b) (h:SP s t a b) (hs:Srt key t a b) (am:a≤m) (mb:m≤b):Bl key t a b:=⟨hs,zMu h h1.inb h2.inb am mb⟩
end
theorem zJC (g cap n:Nat) (R:Nat→RowI) (W0:World) (hn:n≤4194304) (h:DL g cap W0 (zAA R id n) W0) :
  Calls Tryz.prog 130 #[.slice (some ⟨g,0,none⟩) n cap,.int .i64 (n:Int),cmpV] W0 fun e w'=>e=.returned (.tuple #[])∧∃ t,DL g cap W0 (zAA R t n) w'∧SP id t 0 n∧Srt (fun p=>(R p).ix) t 0 n:=by
 have HD0:=zB h
 clear h
 go_enter Tryz.func130,Tryz.ntmps130
 go_wp2_with fail
 go_loopw [7,8] (fun x y wr=>∃ (a:Nat) (s:Nat→Nat),x=.int .i64 (a:Int)∧y=.int .i64 ((a+20:Nat):Int)∧a≤n∧Mu 20 a∧(∀ y,Mu 20 y→y<a→Bl (fun p=>(R p).ix) s y (y+20))∧(∀ x,a≤x→x<n→s x=x)∧SP id s 0 n∧DL g cap W0 (zAA R s n) wr) (fun x _ _=>n - (intOf x).toNat)
 case atStart=>exact ⟨0,id,rfl,rfl,Nat.zero_le _,Mu.zero _,fun y _ h=>by omega,fun _ _ _=>rfl,SP.refl _ _ _,zA HD0⟩
 case round =>
  obtain ⟨a,s,rfl,rfl,ha,hm,hb,hid,hp,hd⟩:=hrel
  by_cases hlt:a+20≤n
  ·have k1:((a+20:Nat):Int)≤(n:Int):=by omega
   have HC:=zB (zNN (W0:=W0) hn a (a+20) _ _ rfl rfl s wr (by omega) hlt hid hd)
   have HB:=zB hb
   have HM:=zB hm
   have HP:=zB hp
   have HI:=zB hid
   clear hb hm hp hd hid
   go_wp2_with ((go_at_call 146;refine (zA HC).mono ?_;rintro e1 w1 ⟨rfl,t,hd,hp,hs⟩;have HD:=zB hd;have HQ:=zB hp;have HS:=zB hs;clear hd hp hs))
   go_roundw
   case rel=>exact ⟨a+20,t,rfl,by go_num,hlt,(zA HM).add,fun y hy hl=>by
    rcases Nat.lt_or_ge y a with h | h
    ·exact (zA HB y hy h).keep (zA HQ) (.inl (hy.gap (zA HM) h))
    ·obtain rfl:y=a:=by
      rcases Nat.lt_or_ge a y with h2 | h2
      ·have:=(zA HM).gap hy h2;omega
      ·omega
     exact ⟨zA HS,zLh (zA HI) (zA HQ) (Nat.le_refl _) hlt⟩,zOw (zA HI) (zA HQ) (Nat.le_refl _) (by omega),(zA HP).trans ((zA HQ).wide (Nat.zero_le _) hlt),zA HD⟩
   case measure=>simp [intOf];omega
  ·have k1:decide (((a+20:Nat):Int)≤(n:Int))=false:=decide_eq_false (by omega)
   have k2:decide ((a:Int)+20≤(n:Int))=false:=decide_eq_false (by omega)
   have HC:=zB (zNN (W0:=W0) hn a n _ _ rfl rfl s wr ha (Nat.le_refl _) hid hd)
   have HB:=zB hb
   have HM:=zB hm
   have HP:=zB hp
   have HI:=zB hid
   have HL:=zB hlt
   clear hb hm hp hd hid hlt
   go_wp2_with fail
   go_at_call 146
   refine (zA HC).mono ?_
   rintro e1 w1 ⟨rfl,t,hd,hq,hs⟩
   have HK:Hid (∀ y,Mu 20 y→y<n→Bl (fun p=>(R p).ix) t y (min (y+20) n)):=zB fun y hy hl=>by
    have hlt:=zA HL
    rcases Nat.lt_or_ge y a with h | h
    ·have hg:=hy.gap (zA HM) h
     rw [show min (y+20) n=y+20 by omega]
     exact (zA HB y hy h).keep hq (.inl hg)
    ·obtain rfl:y=a:=by
      rcases Nat.lt_or_ge a y with h2 | h2
      ·have:=(zA HM).gap hy h2;omega
      ·omega
     rw [show min (y+20) n=n by omega]
     exact ⟨hs,zLh (zA HI) hq (Nat.le_refl _) (Nat.le_refl _)⟩
   have HQ:=zB ((zA HP).trans (hq.wide (Nat.zero_le _) (Nat.le_refl _)))
   have HD:=zB hd
   clear hd hq hs HB HM HP HI HL HC k1 k2
   go_wp2_with fail
   go_loopw [6] (fun x wr=>∃ (B:Nat) (s:Nat→Nat),x=.int .i64 (B:Int)∧20≤B∧B≤2*n+20∧(∀ y,Mu B y→y<n→Bl (fun p=>(R p).ix) s y (min (y+B) n))∧SP id s 0 n∧DL g cap W0 (zAA R s n) wr) (fun x _=>n - (intOf x).toNat)
   case atStart=>exact ⟨20,t,rfl,Nat.le_refl _,by omega,zA HK,zA HQ,zA HD⟩
   case round =>
    obtain ⟨B,s2,rfl,hB0,hB1,hbk,hp,hd⟩:=hrel
    by_cases hbn:B<n
    ·have k1:(B:Int)<(n:Int):=by omega
     have e1:IntKind.i64.wrap (2*(B:Int))=2*(B:Int):=zCs (by omega) (by omega)
     obtain ⟨wo,rfl⟩:∃ wo,wo=wr:=⟨_,rfl⟩
     have HBK:=zB hbk
     have HP:=zB hp
     have HD:=zB hd
     clear hbk hp hd HK HQ
     go_wp2_with fail
     go_loopw [7,8] (fun x y wr=>∃ (a:Nat) (s:Nat→Nat),x=.int .i64 (a:Int)∧y=.int .i64 ((a:Int)+2*(B:Int))∧a≤n∧Mu (2*B) a∧(∀ y,Mu (2*B) y→y<a→Bl (fun p=>(R p).ix) s y (y+2*B))∧(∀ y,Mu B y→a≤y→y<n→Bl (fun p=>(R p).ix) s y (min (y+B) n))∧SP id s 0 n∧DL g cap W0 (zAA R s n) wr) (fun x _ _=>n - (intOf x).toNat)
     case atStart=>exact ⟨0,s2,rfl,by simp,Nat.zero_le _,Mu.zero _,fun y _ h=>by omega,fun y hy _ hl=>zA HBK y hy hl,zA HP,zA HD⟩
     case round =>
      obtain ⟨a,s,rfl,rfl,ha,hm,hlo,hhi,hp,hd⟩:=hrel
      have e2:IntKind.i64.wrap ((a:Int)+(B:Int))=(a:Int)+(B:Int):=zCs (by omega) (by omega)
      by_cases hlt:a+2*B≤n
      ·have k3:(a:Int)+2*(B:Int)≤(n:Int):=by omega
       have e3:IntKind.i64.wrap ((a:Int)+2*(B:Int)+2*(B:Int))=(a:Int)+2*(B:Int)+2*(B:Int):=zCs (by omega) (by omega)
       have b1:=hhi a hm.half (Nat.le_refl _) (by omega)
       have b2:=hhi (a+B) hm.half.add (by omega) (by omega)
       rw [show min (a+B) n=a+B by omega] at b1
       rw [show min (a+B+B) n=a+2*B by omega] at b2
       have HC:=zB (zNH (W0:=W0) hn a (a+B) (a+2*B) (a:Int) ((a:Int)+(B:Int)) ((a:Int)+2*(B:Int)) rfl (by omega) (by omega) s wr (by omega) (by omega) hlt (zHA b1.srt b2.srt b1.inb b2.inb) hd)
       have HB1:=zB b1
       have HB2:=zB b2
       have HLO:=zB hlo
       have HHI:=zB hhi
       have HM:=zB hm
       have HP2:=zB hp
       clear b1 b2 hlo hhi hm hp hd
       go_wp2_with ((go_at_call 147;refine (zA HC).mono ?_;rintro e1 w1 ⟨rfl,t2,hd,hp,hs⟩;have HD2:=zB hd;have HQ2:=zB hp;have HS2:=zB hs;clear hd hp hs))
       go_roundw
       case rel=>exact ⟨a+2*B,t2,by go_num,by go_num,hlt,(zA HM).add,fun y hy hl=>by
        rcases Nat.lt_or_ge y a with h | h
        ·exact (zA HLO y hy h).keep (zA HQ2) (.inl (hy.gap (zA HM) h))
        ·obtain rfl:y=a:=by
          rcases Nat.lt_or_ge a y with h2 | h2
          ·have:=(zA HM).gap hy h2;omega
          ·omega
         exact (zA HB1).join (zA HB2) (zA HQ2) (zA HS2) (by omega) (by omega),fun y hy h1 h2=>(zA HHI y hy (by omega) h2).keep (zA HQ2) (.inr h1),(zA HP2).trans ((zA HQ2).wide (Nat.zero_le _) hlt),zA HD2⟩
       case measure=>simp [intOf];omega
      ·have k3:decide ((a:Int)+2*(B:Int)≤(n:Int))=false:=decide_eq_false (by omega)
       have e4:IntKind.i64.wrap ((B:Int)*2)=(B:Int)*2:=zCs (by omega) (by omega)
       by_cases hmn:a+B<n
       ·have k4:(a:Int)+(B:Int)<(n:Int):=by omega
        have b1:=hhi a hm.half (Nat.le_refl _) (by omega)
        have b2:=hhi (a+B) hm.half.add (by omega) hmn
        rw [show min (a+B) n=a+B by omega] at b1
        rw [show min (a+B+B) n=n by omega] at b2
        have HC:=zB (zNH (W0:=W0) hn a (a+B) n (a:Int) ((a:Int)+(B:Int)) (n:Int) rfl (by omega) rfl s wr (by omega) hmn (Nat.le_refl _) (zHA b1.srt b2.srt b1.inb b2.inb) hd)
        have HB1:=zB b1
        have HB2:=zB b2
        have HLO:=zB hlo
        have HM:=zB hm
        have HP2:=zB hp
        have HLT:=zB hlt
        clear b1 b2 hlo hhi hm hp hd hlt
        go_wp2_with ((go_at_call 147;refine (zA HC).mono ?_;rintro e1 w1 ⟨rfl,t2,hd,hp,hs⟩;have HD2:=zB hd;have HQ2:=zB hp;have HS2:=zB hs;clear hd hp hs))
        go_roundw
        case rel=>exact ⟨2*B,t2,by go_num,by omega,by omega,fun y hy hl=>by
         have hlt:=zA HLT
         rcases Nat.lt_or_ge y a with h | h
         ·have hg:=hy.gap (zA HM) h
          rw [show min (y+2*B) n=y+2*B by omega]
          exact (zA HLO y hy h).keep (zA HQ2) (.inl hg)
         ·obtain rfl:y=a:=by
           rcases Nat.lt_or_ge a y with h2 | h2
           ·have:=(zA HM).gap hy h2;omega
           ·omega
          rw [show min (y+2*B) n=n by omega]
          exact (zA HB1).join (zA HB2) (zA HQ2) (zA HS2) (by omega) (by omega),(zA HP2).trans ((zA HQ2).wide (Nat.zero_le _) (Nat.le_refl _)),zA HD2⟩
        case measure=>simp [intOf];omega
       ·have k4:decide ((a:Int)+(B:Int)<(n:Int))=false:=decide_eq_false (by omega)
        have HLO:=zB hlo
        have HHI:=zB hhi
        have HM:=zB hm
        have HP2:=zB hp
        have HD2:=zB hd
        have HLT:=zB hlt
        have HMN:=zB hmn
        clear hlo hhi hm hp hd hlt hmn
        go_wp2_with fail
        go_roundw
        case rel=>exact ⟨2*B,s,by go_num,by omega,by omega,fun y hy hl=>by
         have hlt:=zA HLT
         have hmn:=zA HMN
         rcases Nat.lt_or_ge y a with h | h
         ·have hg:=hy.gap (zA HM) h
          rw [show min (y+2*B) n=y+2*B by omega]
          exact zA HLO y hy h
         ·obtain rfl:y=a:=by
           rcases Nat.lt_or_ge a y with h2 | h2
           ·have:=(zA HM).gap hy h2;omega
           ·omega
          have:=zA HHI y hy.half (Nat.le_refl _) hl
          rw [show min (y+B) n=n by omega] at this
          rw [show min (y+2*B) n=n by omega]
          exact this,zA HP2,zA HD2⟩
        case measure=>simp [intOf];omega
    ·have k1:decide ((B:Int)<(n:Int))=false:=decide_eq_false (by omega)
     have HE:Hid (Srt (fun p=>(R p).ix) s2 0 n):=zB (by
      rcases Nat.eq_zero_or_pos n with h0 | h0
      ·subst h0;exact fun x y _ _ h=>by omega
      ·have:=(hbk 0 (Mu.zero _) h0).srt
       rw [show min (0+B) n=n by omega] at this
       exact this)
     have HP:=zB hp
     have HD2:=zB hd
     clear hbk hp hd
     go_wp2_with fail
     exact bodyPost_end (v:=.tuple #[]) (by simp [results,Tryz.results130,go_sem]) rfl ⟨rfl,s2,zA HD2,zA HP,zA HE⟩
theorem zMG (g cap n:Nat) (R:Nat→RowI) (W0:World) (hn:n≤4194304) (h:DL g cap W0 (zAA R id n) W0) :
  Calls Tryz.prog 92 #[.slice (some ⟨g,0,none⟩) n cap,cmpV] W0 fun e w'=>e=.returned (.tuple #[])∧∃ t,DL g cap W0 (zAA R t n) w'∧SP id t 0 n∧Srt (fun p=>(R p).ix) t 0 n:=by
 have HC:=zB (zJC g cap n R W0 hn h)
 clear h
 go_enter Tryz.func92,Tryz.ntmps92
 go_wp2_with ((go_at_call 130;refine (zA HC).mono ?_;rintro e w1 ⟨rfl,hd⟩;have HD:=zB hd;clear hd))
 exact bodyPost_end (v:=.tuple #[]) (by simp [results,Tryz.results92,go_sem]) rfl ⟨rfl,zA HD⟩
end Go.Proofs.YtnbleebilmghcabGreat
set_option maxHeartbeats 1000000
set_option maxRecDepth 8000
namespace Go.Proofs.YtnbleebilmghcabGreat
open Go Go.RowKit
attribute [local go_sem ↓] Go.wp_at_zero Go.wp_at_succ
theorem zAF (rows:List RowI) (j:Nat) (h:j<rows.length):rows.getD j dR=rows[j]:=by rw [List.getD_eq_getElem?_getD,List.getElem?_eq_getElem h];rfl
theorem zCT (f:RowI→Int):∀ (l1 l2:List RowI),l1.Pairwise (fun a b=>f a<f b)→l2.Pairwise (fun a b=>f a<f b)→(∀ x,x∈l1↔x∈l2)→l1=l2
 | [],[],_,_,_=>rfl
 | [],b :: l2,_,_,h=>by have:=(h b).2 (by simp);simp at this
 | a :: l1,[],_,_,h=>by have:=(h a).1 (by simp);simp at this
 | a :: l1,b :: l2,h1,h2,h=>by
  rw [List.pairwise_cons] at h1 h2
  have hab:a=b:=by
   have ha:=(h a).1 (by simp)
   have hb:=(h b).2 (by simp)
   rw [List.mem_cons] at ha hb
   rcases ha with ha | ha
   ·exact ha
   ·rcases hb with hb | hb
    ·exact hb.symm
    ·have:=h2.1 a ha
     have:=h1.1 b hb
     omega
  subst hab
  rw [zCT f l1 l2 h1.2 h2.2 fun x=>?_]
  have hx:=h x
  rw [List.mem_cons,List.mem_cons] at hx
  constructor
  ·intro m
   rcases hx.1 (.inr m) with e | e
   ·have:=h1.1 x m;rw [e] at this;omega
   ·exact e
  ·intro m
   rcases hx.2 (.inr m) with e | e
   ·have:=h2.1 x m;rw [e] at this;omega
   ·exact e
theorem zBW {X:Wd} (hr:RightW X):X.rows.Pairwise (fun a b=>a.ix<b.ix):=by
 rw [List.pairwise_iff_getElem]
 intro i j hi hj hij
 have:=hr.lt' hij hj
 unfold zR at this
 rw [zAF _ _ hi,zAF _ _ hj] at this
 exact this
theorem zNd {X:Wd} (hr:RightW X) {all:List RowI} (hp:all.Perm X.rows) {t:Nat→Nat} (hsp:SP id t 0 all.length) (hs:Srt (fun p=>((fun k=>all.getD k dR) p).ix) t 0 all.length):zAA (fun k=>all.getD k dR) t all.length=X.rows:=by
 have hg:∀ k,k<all.length→all.getD k dR∈all:=fun k hk=>by rw [zAF _ _ hk];exact List.getElem_mem hk
 have hnd:all.Pairwise (fun a b=>a.ix≠b.ix):=by
  refine (hp.pairwise_iff (fun h=>h.symm)).2 ?_
  exact (zBW hr).imp fun h=>by omega
 refine zCT (fun r=>r.ix) _ _ ?_ (zBW hr) fun x=>?_
 ·rw [List.pairwise_iff_getElem]
  intro i j hi hj hij
  rw [zV] at hi hj
  have h1:=hs i j (Nat.zero_le _) hij hj
  obtain ⟨p,_,p2,ep⟩:=hsp.mem (Nat.zero_le i) hi
  obtain ⟨q,_,q2,eq⟩:=hsp.mem (Nat.zero_le j) hj
  simp only [zAA,List.getElem_map,List.getElem_range]
  have hne:t i≠t j:=fun e=>by
   rcases h1 with h1 | h1
   ·rw [e] at h1;simp at h1
   ·omega
  have e1:t i<all.length:=by rw [ep];exact p2
  have e2:t j<all.length:=by rw [eq];exact q2
  have hix:(all.getD (t i) dR).ix≠(all.getD (t j) dR).ix:=by
   rw [zAF _ _ e1,zAF _ _ e2]
   rw [List.pairwise_iff_getElem] at hnd
   rcases Nat.lt_or_gt_of_ne hne with h | h
   ·exact hnd _ _ e1 e2 h
   ·exact (hnd _ _ e2 e1 h).symm
  have:=zGg h1
  dsimp only at this
  omega
 ·rw [←hp.mem_iff]
  unfold zAA
  rw [List.mem_map]
  constructor
  ·rintro ⟨k,hk,rfl⟩
   obtain ⟨p,_,p2,ep⟩:=hsp.mem (Nat.zero_le k) (List.mem_range.1 hk)
   rw [ep]
   exact hg _ p2
  ·intro hx
   obtain ⟨k,hk,rfl⟩:=List.getElem_of_mem hx
   obtain ⟨p,_,p2,ep⟩:=hsp.symm.mem (Nat.zero_le k) hk
   refine ⟨p,List.mem_range.2 p2,?_⟩
   rw [←ep]
   exact zAF _ _ hk
theorem zNs (l:List RowI):zAA (fun k=>l.getD k dR) id l.length=l:=by
 refine List.ext_getElem (by rw [zV]) fun k h1 h2=>?_
 simp only [zAA,List.getElem_map,List.getElem_range]
 exact zAF _ _ h2
theorem zFo (G:Option Addr) (gcap:Nat) (l:List Int) (w:World) (hl:l.length≤4194304) (hG:IntsL w G l) :
  Calls Tryz.prog 68 #[.slice G l.length gcap] w fun e w'=>∃ A c,e=.returned (.slice A l.length c)∧w'.ownsRow w.heap.size 3 1 (.slice A l.length c) l.length (zJ l)∧Below w.heap.size w w':=by
 obtain ⟨i3,hi3,hz3,hs3,hb3⟩:=info_parts info3
 have HI:=zB hi3
 have HZ:=zB hz3
 have HS:=zB hs3
 have HB:=zB hb3
 have HG:=zB hG.copies
 clear hi3 hz3 hs3 hb3 hG
 go_enter Tryz.func68,Tryz.ntmps68
 go_wp2_with ((at_builtin;refine wpList_plain rfl fun _ hK=>zCH w _ _ 23 rfl w.heap.size 3 i3 _ 1 8 Tryz.underlying23 (zA HI) (zA HZ) (zA HS) (zA HB) rfl (by decide) rfl G l.length gcap (zJ l) rfl (zA HG) (by unfold maxLen;omega) (by omega) (Nat.le_refl _) fun v' w' h1 h2=>hK _ _ ?_;have HO:=zB h1;have HGR:=zB h2;clear h1 h2))
 go_ret
 obtain ⟨A,c,rfl⟩:=zAV (zA HO)
 exact ⟨A,c,rfl,zA HO,zZ (zA HGR) (fun k e=>by cases e) (Nat.le_refl _)⟩
end Go.Proofs.YtnbleebilmghcabGreat
namespace Go.Proofs.YtnbleebilmghcabGreat
open Go Go.RowKit
def zBb (rows:List RowI) (x:Int):Nat→Nat
 | 0=>0
 | n+1=>if x<(rows.getD n dR).ix then zBb rows x n else n+1
def zJi (rows:List RowI) (r:RowI):List RowI:=rows.take (zBb rows r.ix rows.length)++r :: rows.drop (zBb rows r.ix rows.length)
theorem zEW (rows:List RowI) (x:Int):∀ n,zBb rows x n≤n
 | 0=>Nat.le_refl _
 | n+1=>by
  unfold zBb
  split
  ·exact Nat.le_succ_of_le (zEW rows x n)
  ·exact Nat.le_refl _
theorem zIV (rows:List RowI) (x:Int):∀ n j,zBb rows x n≤j→j<n→x<(rows.getD j dR).ix
 | 0,j,_,h=>by omega
 | n+1,j,h1,h2=>by
  unfold zBb at h1
  split at h1
  ·rename_i e
   rcases Nat.lt_or_ge j n with h | h
   ·exact zIV rows x n j h1 h
   ·obtain rfl:j=n:=by omega
    exact e
  ·omega
theorem zIU (rows:List RowI) (x:Int):∀ n,0<zBb rows x n→¬ x<(rows.getD (zBb rows x n - 1) dR).ix
 | 0,h=>by unfold zBb at h;omega
 | n+1,h=>by
  unfold zBb at h ⊢
  split
  ·rename_i e;rw [if_pos e] at h;exact zIU rows x n h
  ·rename_i e;exact e
def insTo (all:List RowI):Nat→List RowI
 | 0=>[]
 | n+1=>zJi (insTo all n) (all.getD n dR)
theorem zEI (all:List RowI):∀ m,m≤all.length→∃ s,SP id s 0 m∧Srt (fun p=>(all.getD p dR).ix) s 0 m∧insTo all m=zAA (fun k=>all.getD k dR) s m
 | 0,_=>⟨id,SP.refl _ _ _,fun i j h1 h2 h3=>by omega,rfl⟩
 | m+1,hm=>by
  obtain ⟨s,h1,h2,h3⟩:=zEI all m (by omega)
  have hsm:s m=m:=h1.out (by omega)
  have hin:∀ k,k<m→s k<m:=fun k hk=>by
   obtain ⟨j,_,j2,e⟩:=h1.mem (Nat.zero_le _) hk
   rw [e];exact j2
  have hlen:(insTo all m).length=m:=by rw [h3,zV]
  have hget:∀ k,k<m→((insTo all m).getD k dR)=all.getD (s k) dR:=fun k hk=>by rw [h3,zr _ _ _ _ hk]
  obtain ⟨q,hq⟩:∃ q,q=zBb (insTo all m) (all.getD m dR).ix m:=⟨_,rfl⟩
  have hq1:q≤m:=by rw [hq];exact zEW _ _ _
  have hhi:∀ j,q≤j→j<m→(all.getD m dR).ix<(all.getD (s j) dR).ix:=fun j j1 j2=>by
   rw [←hget j j2]
   exact zIV _ _ m j (by rw [←hq];exact j1) j2
  have hlo:∀ j,0≤j→j<q→¬ (all.getD m dR).ix<(all.getD (s j) dR).ix:=fun j _ j2=>by
   have hl:=zIU (insTo all m) (all.getD m dR).ix m (by omega)
   rw [←hq,hget (q - 1) (by omega)] at hl
   rcases Nat.lt_or_ge j (q - 1) with h | h
   ·have:=h2 j (q - 1) (Nat.zero_le _) h (by omega)
    unfold tl at this
    dsimp only at this
    omega
   ·obtain rfl:j=q - 1:=by omega
    exact hl
  have hH:Halves (fun p=>(all.getD p dR).ix) s 0 m (m+1):=⟨h2,fun i j i1 i2 i3=>by omega,fun i j _ i2 j1 j2=>by
   obtain rfl:j=m:=by omega
   rw [hsm];exact hin i i2⟩
  have hS:=zFf hH (Nat.zero_le q) hq1 (fun j j1 j2=>by rw [hsm];exact hlo j j1 j2) (fun j j1 j2=>by rw [hsm];exact hhi j j1 j2)
  refine ⟨rot s q m (m+1),(h1.wide (Nat.le_refl _) (Nat.le_succ _)).trans ((zGp s q m (m+1) hq1 (Nat.le_succ _)).wide (Nat.zero_le _) (Nat.le_refl _)),hS,?_⟩
  show zJi (insTo all m) (all.getD m dR)=_
  unfold zJi
  rw [hlen,←hq]
  refine List.ext_getElem (by simp only [List.length_append,List.length_take,List.length_cons,List.length_drop,hlen,zV];omega) fun k k1 k2=>?_
  rw [zV] at k2
  have e2:(zAA (fun k=>all.getD k dR) (rot s q m (m+1)) (m+1))[k]'(by rw [zV];exact k2)=all.getD (rot s q m (m+1) k) dR:=by simp [zAA]
  rw [e2]
  have e3:∀ j (hj:j<(insTo all m).length),(insTo all m)[j]=all.getD (s j) dR:=fun j hj=>by
   rw [←hget j (by omega),zAF _ _ hj]
  by_cases c1:k<q
  ·rw [List.getElem_append_left (by simp only [List.length_take,hlen];omega),List.getElem_take,e3,zBN s q m (m+1) k hq1 (.inl c1) (Nat.le_succ _)]
  ·rw [List.getElem_append_right (by simp only [List.length_take,hlen];omega)]
   simp only [List.length_take,hlen,Nat.min_eq_left hq1]
   by_cases c2:k=q
   ·subst c2
    simp only [Nat.sub_self,List.getElem_cons_zero]
    rw [zBp s k m (m+1) k (Nat.le_refl _) (by omega),show k+(m - k)=m by omega,hsm]
   ·obtain ⟨d,hd⟩:∃ d,k - q=d+1:=⟨k - q - 1,by omega⟩
    simp only [hd,List.getElem_cons_succ,List.getElem_drop]
    rw [e3,zBq s q m (m+1) k (by omega) (by omega)]
    congr 2
    omega
theorem zJg (all:List RowI) {t:Nat→Nat} (hp:SP id t 0 all.length) (hs:Srt (fun p=>(all.getD p dR).ix) t 0 all.length):zAA (fun k=>all.getD k dR) t all.length=insTo all all.length:=by
 obtain ⟨s,h1,h2,h3⟩:=zEI all all.length (Nat.le_refl _)
 rw [h3]
 exact zJU _ _ _ _ fun k hk=>zJD h1 hp h2 hs k hk
theorem zCN (all:List RowI):∀ m,(insTo all m).length=m
 | 0=>rfl
 | m+1=>by
  have:=zCN all m
  have:=zEW (insTo all m) (all.getD m dR).ix (insTo all m).length
  unfold insTo zJi
  simp only [List.length_append,List.length_take,List.length_cons,List.length_drop]
  omega
end Go.Proofs.YtnbleebilmghcabGreat
set_option maxHeartbeats 1000000
set_option maxRecDepth 8000
namespace Go.Proofs.YtnbleebilmghcabGreat
open Go Go.RowKit
attribute [local go_sem ↓] Go.wp_at_zero Go.wp_at_succ
structure WT (w:World) (bx:Nat) (u0 u1 u2:Value) (W:World):Prop where
 bel:Below w.heap.size w W
 b0:W.cell? ⟨bx,0,none⟩=some u0
 b1:W.cell? ⟨bx,1,none⟩=some u1
 b2:W.cell? ⟨bx,2,none⟩=some u2
theorem WT.start (w:World) (u0 u1 u2:Value) (t:TypeId):WT w w.heap.size u0 u1 u2 (w.alloc (.cells #[u0,u1,u2] t)):=⟨zAS _ _,by simp,by simp,by simp⟩
theorem size43t:(Tryz.prog.info? 29).map (·.size)=some 2:=by kernel_rfl
theorem zNz (w:World):Calls Tryz.prog 146 #[.slice none 0 0,.int .i64 0,.int .i64 0,cmpV] w fun e w'=>e=.returned (.tuple #[])∧w'=w:=by
 go_enter Tryz.func146,Tryz.ntmps146
 go_wp2
 refine wp_loop_rounds 1 ?_
 rw [rounds_succ]
 go_wp2
 exact bodyPost_end (v:=.tuple #[]) (by simp [results,Tryz.results146,go_sem]) rfl ⟨rfl,rfl⟩
theorem zJB (w:World):Calls Tryz.prog 130 #[.slice none 0 0,.int .i64 0,cmpV] w fun e w'=>e=.returned (.tuple #[])∧w'=w:=by
 have HC:=zB zNz
 go_enter Tryz.func130,Tryz.ntmps130
 go_wp2
 refine wp_loop_rounds 1 ?_
 rw [rounds_succ]
 go_wp2_with ((go_at_call 146;refine (zA HC _).mono ?_;rintro e w1 ⟨rfl,hw⟩;obtain rfl:=hw.symm))
 refine wp_loop_rounds 1 ?_
 rw [rounds_succ]
 go_wp2
 exact bodyPost_end (v:=.tuple #[]) (by simp [results,Tryz.results130,go_sem]) rfl ⟨rfl,rfl⟩
theorem zMF (w:World):Calls Tryz.prog 92 #[.slice none 0 0,cmpV] w fun e w'=>e=.returned (.tuple #[])∧w'=w:=by
 have HC:=zB zJB
 go_enter Tryz.func92,Tryz.ntmps92
 go_wp2_with ((go_at_call 130;refine (zA HC _).mono ?_;rintro e w1 ⟨rfl,hw⟩;obtain rfl:=hw.symm))
 exact bodyPost_end (v:=.tuple #[]) (by simp [results,Tryz.results92,go_sem]) rfl ⟨rfl,rfl⟩
theorem zKH {all:List RowI} (hl:all.length≤4194304) {base:Nat} (v:Value) (W:World) (hv:W.ownsRow base 116 11 v all.length (zD all)) (hb:base≤W.heap.size) :
  Calls Tryz.prog 92 #[v,.func (.func 93) #[] #[]] W fun e w'=>e=.returned (.tuple #[])∧w'.ownsRow base 116 11 v all.length (zD (insTo all all.length))∧Below base W w':=by
 rcases hv.2 with ⟨rfl,h0⟩ | ⟨g,cap,cur,rfl,hg,hrest⟩
 ·have e1:all=[]:=List.eq_nil_of_length_eq_zero h0
  subst e1
  refine (zMF W).mono fun e w' ⟨he,hw⟩=>⟨he,?_,?_⟩
  ·rw [hw];exact World.ownsRow_nil _ _ _ _
  ·rw [hw];exact Below.refl _ _
 ·have hD:DL g cap W (zAA (fun k=>all.getD k dR) id all.length) W:=by
   rw [zNs]
   exact ⟨⟨hv.1,.inr ⟨g,cap,cur,rfl,Nat.le_refl _,hrest⟩⟩,World.grownBy.refl _ _⟩
  refine (zMG g cap all.length (fun k=>all.getD k dR) W hl hD).mono fun e w' ⟨he,t,h1,h2,h3⟩=>⟨he,?_,zZ h1.gr (fun k e=>by simp only [Option.some.injEq] at e;omega) hb⟩
  have ho:=h1.own
  rw [zJg all h2 h3,zCN] at ho
  exact zBX ho hg
theorem SB.startOf (w:World) (u0 u1:Value) (s t y:TypeId):SB w u0 u1 (.slice none 0 0) (.slice none 0 0) (.int .i64 0) (.int .i64 0) (((w.alloc (.cells #[u0,u1] s)).alloc (.cells #[.slice none 0 0,.slice none 0 0] t)).alloc (.cells #[.int .i64 0,.int .i64 0] y)):=by
 obtain ⟨a0,a1,af,ab⟩:=zAe (W:=w) (u0:=u0) (u1:=u1) (t:=s) rfl
 have z1:(w.alloc (.cells #[u0,u1] s)).heap.size=w.heap.size+1:=by simp
 generalize w.alloc (.cells #[u0,u1] s)=W1 at *
 obtain ⟨b0,b1,bf,bb⟩:=zAe (W:=W1) (u0:=.slice none 0 0) (u1:=.slice none 0 0) (t:=t) z1
 have z2:(W1.alloc (.cells #[.slice none 0 0,.slice none 0 0] t)).heap.size=w.heap.size+2:=by simp;omega
 generalize W1.alloc (.cells #[.slice none 0 0,.slice none 0 0] t)=W2 at *
 obtain ⟨c0,c1,cf,cb⟩:=zAe (W:=W2) (u0:=.int .i64 0) (u1:=.int .i64 0) (t:=y) z2
 exact ⟨(ab.trans (bb.mono ab.size)).trans (cb.mono (by omega)),by simp;omega,zC cb (zC bb a0),zC cb (zC bb a1),zC cb b0,zC cb b1,c0,c1,fun i=>(cb.frozen (p:=⟨w.heap.size+1,i,none⟩) (by show w.heap.size+1<W2.heap.size;omega)).trans (bf i),cf⟩
structure TG (w:World) (u0 u1 v:Value) (rows:List RowI) (W:World):Prop where
 sb:SB w u0 u1 (.slice none 0 0) (.slice none 0 0) (.int .i64 0) (.int .i64 0) W
 own:W.ownsRow (w.heap.size+3) 116 11 v rows.length (zD rows)
theorem TG.below {w W W1:World} {u0 u1 v:Value} {rows:List RowI} (h:TG w u0 u1 v rows W) (hb:Below W.heap.size W W1):TG w u0 u1 v rows W1:=⟨h.sb.below hb,zc h.own hb⟩
def zBD (l:List TabI) (i:Nat):List RowI:=(l.take i).flatMap (·.rows)
theorem zEn (l:List TabI) (i:Nat) (h:i<l.length):zBD l (i+1)=zBD l i++l[i].rows:=by
 unfold zBD
 rw [List.take_succ_eq_append_getElem h,List.flatMap_append]
 simp
theorem zFY (l:List TabI) (i:Nat):(zBD l i).length≤(l.flatMap (·.rows)).length:=by
 unfold zBD
 conv=>rhs;rw [←List.take_append_drop i l]
 rw [List.flatMap_append,List.length_append]
 omega
structure StAt (w:World) (T:Option Addr) (G:Option Addr) (tabs:List TabI) (X:Wd):Prop where
 tbs:TabsAt w T tabs
 gens:IntsL w G X.gens
 right:RightW X
 each:∀ t∈tabs,TabRight t
 up:∀ j (h:j+1<tabs.length),(tabs[j]'(by omega)).has<tabs[j+1].has
 perm:(tabs.flatMap (·.rows)).Perm X.rows
 few:tabs.length≤1000
theorem StAt.below {w w1:World} {T G:Option Addr} {tabs:List TabI} {X:Wd} (h:StAt w T G tabs X) (hb:Below w.heap.size w w1):StAt w1 T G tabs X:=⟨h.tbs.below hb,h.gens.below hb,h.right,h.each,h.up,h.perm,h.few⟩
def toX (t:TabI):TabX:=⟨t.has,bsV t,(List.range (zO t.has 8).length).map (zGV t)⟩
theorem zFt (t:TabI) {k:Nat} (hk:k<(zO t.has 8).length):(toX t).cols.getD k []=zGV t k:=by
 unfold toX
 rw [List.getD_eq_getElem?_getD,List.getElem?_map,List.getElem?_range hk]
 rfl
theorem TabAt.x {w:World} {b o:Nat} {A:Option Addr} {c:Nat} {C:Option Addr} {cc:Nat} {t:TabI} (h:TabAt w b o A c C cc t):TabXAt w b o A c C cc (toX t):=by
 refine ⟨h.c0,by rw [show (toX t).bs=bsV t from rfl,zCf];exact h.c1,by rw [show (toX t).cols.length=(zO t.has 8).length by simp [toX]];exact h.c2,h.bs,fun k hk=>?_⟩
 have hk:k<(zO t.has 8).length:=by simpa [toX] using hk
 obtain ⟨b,o,e,A,c,h1,h2⟩:=h.cols k hk
 rw [zFt t hk]
 exact ⟨b,o,e,A,c,by rw [zBU];exact h1,h2⟩
theorem TabRight.fewX {t:TabI} (h:TabRight t):FewX (toX t):=by
 have ml:=zBs t.has 8
 refine ⟨by rw [show (toX t).bs=bsV t from rfl,zCf];exact h.few,by rw [show (toX t).cols.length=(zO t.has 8).length by simp [toX]];omega,fun k hk=>?_⟩
 have hk:k<(zO t.has 8).length:=by simpa [toX] using hk
 rw [zFt t hk,zBU]
 exact h.few
theorem TabRight.ok {t:TabI} (h:TabRight t):wtF (toX t)=0:=by
 have hc:∀ k,k<(zO t.has 8).length→wcF t.rows.length ((toX t).cols.getD k [])=0:=fun k hk=>by
  rw [zFt t hk]
  unfold wcF
  rw [if_pos (zBU t k),if_pos (fun j hj=>zOE h k j (by rw [zBU] at hj;exact hj) hk)]
 have hcs:∀ m k,k+m≤(zO t.has 8).length→zBM t.rows.length (toX t).cols m k=0:=fun m=>by
  induction m with
  | zero=>intro k _;rfl
  | succ m ih=>intro k hk;rw [zBM,if_pos (hc k (by omega))];exact ih (k+1) (by omega)
 have hl:(toX t).cols.length=(zO t.has 8).length:=by simp [toX]
 have hb:(toX t).bs.length=t.rows.length:=zCf t
 have one:=h.one
 unfold wtF
 have hne:¬ ((toX t).bs.length=0∨(toX t).cols.length≠(zO (toX t).has 8).length):=by
  rw [hl,hb]
  rintro (e | e)
  ·omega
  ·exact e rfl
 rw [if_neg (by rw [show (toX t).has=t.has from rfl,h.set];simp),if_neg hne,hb,hl,if_pos (hcs _ 0 (by omega)),if_pos]
 refine decide_eq_true fun j hj h1=>?_
 have hj:j<t.rows.length:=by rw [←hb];exact hj
 have hg:∀ i,i<t.rows.length→((toX t).bs.getD i (0,0)).1=(t.rows.getD i dR).ix:=fun i hi=>by
  show ((bsV t).getD i (0,0)).1=_
  unfold bsV
  rw [List.getD_eq_getElem?_getD,List.getElem?_map,List.getElem?_eq_getElem hi,List.getD_eq_getElem?_getD,List.getElem?_eq_getElem hi]
  rfl
 obtain ⟨i,rfl⟩:∃ i,j=i+1:=⟨j - 1,by omega⟩
 rw [show i+1 - 1=i from rfl,hg i (by omega),hg (i+1) hj]
 exact h.up i hj
theorem zBV (tabs:List TabI) {i:Nat} (hi:i<tabs.length):(tabs.map toX).getD i dT=toX tabs[i]:=by
 rw [List.getD_eq_getElem?_getD,List.getElem?_map,List.getElem?_eq_getElem hi]
 rfl
theorem TabsAt.x {w:World} {T:Option Addr} {tabs:List TabI} (h:TabsAt w T tabs):TabsX w T (tabs.map toX):=fun j hj=>by
 have hj:j<tabs.length:=by simpa using hj
 obtain ⟨b,o,e,A,c,C,cc,ht⟩:=h j hj
 rw [zBV tabs hj]
 exact ⟨b,o,e,A,c,C,cc,ht.x⟩
theorem zNF {tabs:List TabI} (he:∀ t∈tabs,TabRight t) (hu:∀ j (h:j+1<tabs.length),(tabs[j]'(by omega)).has<tabs[j+1].has) {i:Nat} (hi:i<tabs.length):zDz (tabs.map toX) i=0:=by
 unfold zDz
 rw [zBV tabs hi,if_pos (he _ (List.getElem_mem hi)).ok]
 by_cases h0:i=0
 ·rw [if_pos (.inl h0)]
 ·obtain ⟨j,rfl⟩:∃ j,i=j+1:=⟨i - 1,by omega⟩
  rw [show j+1 - 1=j from rfl,zBV tabs (by omega),if_pos (.inr (hu j hi))]
end Go.Proofs.YtnbleebilmghcabGreat
set_option maxHeartbeats 8000000
set_option maxRecDepth 8000
namespace Go.Proofs.YtnbleebilmghcabGreat
open Go Go.RowKit
attribute [local go_sem ↓] Go.wp_at_zero Go.wp_at_succ
theorem zDS {W:World} {B:Nat} {A:Option Addr} {c:Nat} {G:Option Addr} {gc:Nat} {Y:Wd} (h:WldNew B W A c G gc Y) {b o:Nat} {vs:List Value} (hb:b<B):WldNew B (W.setCells b o vs) A c G gc Y:=by
 refine ⟨⟨fun j hj=>?_,fun j hj=>?_⟩,h.fa,h.fg⟩
 ·obtain ⟨b',off,e,hr⟩:=h.rows j hj
  exact ⟨b',off,e,zCD (by have:=h.fa b' off e;omega) hr⟩
 ·obtain ⟨b',off,e,hr⟩:=h.gens j hj
  exact ⟨b',off,e,(zW (by have:=h.fg b' off e;simp only [ne_eq];omega)).trans hr⟩
theorem zGd {W:World} {B B':Nat} {A:Option Addr} {c:Nat} {G:Option Addr} {gc:Nat} {Y:Wd} (h:WldNew B W A c G gc Y) (hb:B'≤B):WldNew B' W A c G gc Y:=⟨h.toWldAt,fun c o e=>Nat.le_trans hb (h.fa c o e),fun c o e=>Nat.le_trans hb (h.fg c o e)⟩
def stV (T:Option Addr) (tn tcap:Nat) (G:Option Addr) (gn gcap:Nat):Value:=.agg #[.slice T tn tcap,.slice G gn gcap]
structure TogAt (w:World) (T:Option Addr) (l:List TabX) (tabs:List TabI):Prop where
 tbs:TabsX w T l
 fewl:l.length≤4194304
 few:∀ i,i<l.length→FewX (l.getD i dT)
 n:tabs.length≤l.length
 eq:∀ i (h:i<tabs.length),l.getD i dT=toX tabs[i]
 right:∀ t∈tabs,TabRight t
 ok:∀ i,i<tabs.length→zDz l i=0
 bad:tabs.length<l.length→zDz l tabs.length≠0
def zBB (l:List TabX) (tabs:List TabI) (Y:Wd):Int×Int:=if tabs.length<l.length then (zDz l tabs.length,(tabs.length:Int)) else ((zP Y).1,0)
def zKA (l:List TabX) (tabs:List TabI) (Y:Wd):Wd:=if (zBB l tabs Y).1=0 then Y else ⟨[],[]⟩
theorem TabXAt.i {w:World} {b o:Nat} {A:Option Addr} {c:Nat} {C:Option Addr} {cc:Nat} {t:TabI} (h:TabXAt w b o A c C cc (toX t)):TabAt w b o A c C cc t:=by
 have hl:(toX t).cols.length=(zO t.has 8).length:=by simp [toX]
 refine ⟨h.c0,by have:=h.c1;rwa [show (toX t).bs=bsV t from rfl,zCf] at this,by rw [←hl];exact h.c2,h.bs,fun k hk=>?_⟩
 obtain ⟨b,o,e,A,c,h1,h2⟩:=h.cols k (by rw [hl];exact hk)
 rw [zFt t hk] at h1 h2
 exact ⟨b,o,e,A,c,by rwa [zBU] at h1,h2⟩
theorem zIF (B:Nat) (W:World):WldNew B W none 0 none 0 ⟨[],[]⟩:=⟨⟨fun j hj=>absurd hj (Nat.not_lt_zero _),fun j hj=>absurd hj (Nat.not_lt_zero _)⟩,(fun _ _ e=>by cases e),(fun _ _ e=>by cases e)⟩
theorem zEP (T:Option Addr) (tcap:Nat) (G:Option Addr) (gcap:Nat) (l:List TabX) (tabs:List TabI) (Y:Wd) (w:World) (h:TogAt w T l tabs) (hY:Y.rows=insTo (tabs.flatMap (·.rows)) (tabs.flatMap (·.rows)).length) (hG:IntsL w G Y.gens) (hgl:Y.gens.length≤4194304) (hrl:(tabs.flatMap (·.rows)).length≤4194304) :
  Calls Tryz.prog 51 #[stV T l.length tcap G Y.gens.length gcap] w fun e w'=>∃ A' c' G' gc',e=.returned (.tuple #[zi A' c' G' gc' (zKA l tabs Y),.agg #[.int .i64 (zBB l tabs Y).1,.int .i64 (zBB l tabs Y).2]])∧WldNew w.heap.size w' A' c' G' gc' (zKA l tabs Y)∧Below w.heap.size w w':=by
 have hil:Y.rows.length=(tabs.flatMap (·.rows)).length:=by rw [hY];exact zCN _ _
 have hSO:=fun v W (hv:W.ownsRow (w.heap.size+3) 116 11 v (tabs.flatMap (·.rows)).length (zD (tabs.flatMap (·.rows)))) (hb:w.heap.size+3≤W.heap.size)=>zKH hrl v W hv hb
 rw [←hY] at hSO
 have hCP:=fun W (hb:Below w.heap.size w W)=>zFo G gcap Y.gens W hgl (hG.below hb)
 have hP:=fun A' c' G' gc' W (hW:WldAt W A' c' G' gc' Y)=>zBi A' Y.rows.length c' G' Y.gens.length gc' (fun j=>Y.rows.getD j dR) (fun j=>Y.gens.getD j 0) W (by omega) hW.rows hW.gens
 have eW:zAT (fun j=>Y.rows.getD j dR) Y.rows.length Y.gens.length (fun j=>Y.gens.getD j 0)=zP Y:=rfl
 rw [eW] at hP
 unfold zAG zM at hP
 have hend:zBD tabs tabs.length=tabs.flatMap (·.rows):=by unfold zBD;rw [List.take_length]
 have hrl':=fun i=>zFY tabs i
 have hll:=h.fewl
 have htn:=h.n
 have hTG:TG w (.slice T l.length tcap) (.slice G Y.gens.length gcap) (.slice none 0 0) [] (((w.alloc (.cells #[.slice T l.length tcap,.slice G Y.gens.length gcap] 25)).alloc (.cells #[.slice none 0 0,.slice none 0 0] 43)).alloc (.cells #[.int .i64 0,.int .i64 0] 29)):=⟨SB.startOf w _ _ _ _ _,World.ownsRow_nil _ _ _ _⟩
 have HEND:=zB hend
 have HRL:=zB hrl'
 have HRL1:=zB hrl
 have HP:=zB hP
 have HCP:=zB hCP
 have HST:=zB h
 have HTG:=zB hTG
 rw [←hil] at hSO
 have HSO:=zB hSO
 have HIL:=zB hil
 clear hil hSO hCP hrl' hend hTG h hG hrl hP eW hY
 unfold stV
 go_enter Tryz.func51,Tryz.ntmps51
 go_wp2
 go_loopw [4,13] (fun x y wr=>∃ i:Nat,i≤tabs.length∧y=.int .i64 i∧TG w (.slice T l.length tcap) (.slice G Y.gens.length gcap) x (zBD tabs i) wr) (fun _ y _=>l.length - (intOf y).toNat)
 case atStart=>exact ⟨0,Nat.zero_le _,rfl,by simpa [zBD] using zA HTG⟩
 case round =>
  clear HTG
  obtain ⟨i,hi,rfl,hT⟩:=hrel
  by_cases hlt:i<l.length
  ·have i0:(0:Int)≤(i:Int):=by omega
   have i1:(i:Int)<(l.length:Int):=by omega
   obtain ⟨tb,tf,hTe,A,c,C,cc,hta⟩:=(zA HST).tbs i hlt
   have hWT:=fun W hb=>zFP T tcap l i W hll hlt ((zA HST).tbs.below hb) ((zA HST).few i hlt)
   have r0:=hT.sb.r0
   have ls:w.heap.size<wr.heap.size:=by have:=hT.sb.sz;omega
   have HT:=zB hT
   by_cases hin:i<tabs.length
   ·have hok:=(zA HST).ok i hin
    have heq:=(zA HST).eq i hin
    have hrt:=(zA HST).right _ (List.getElem_mem hin)
    have HSU:=zB (zEn tabs i hin)
    rw [hok] at hWT
    rw [heq] at hta
    replace hta:=hta.i
    generalize tabs[i]=t at *
    have hAD:=fun v W (hv:TG w (.slice T l.length tcap) (.slice G Y.gens.length gcap) v (zBD tabs i) W)=>zIE v (zBD tabs i) t A c C cc w W (w.heap.size+3) hv.own hv.sb.sz hv.sb.bel (by omega) hta.bs hta.cols hrt (by have:=zA HRL i;have:=zA HRL1;omega)
    have d0:=zC hT.sb.bel hta.c0
    have d1:=zC hT.sb.bel hta.c1
    have d2:=zC hT.sb.bel hta.c2
    have HWT:=zB hWT
    have HAD:=zB hAD
    subst hTe
    clear hT hWT hAD hta hrt hok heq
    go_wp2_with (first
     | (go_at_call 90;refine (zA HWT _ ((zA HT).sb.bel.trans ((zAS wr (.cells #[.int .i64 t.has,.slice A t.rows.length c,.slice C (zO t.has 8).length cc] 75)).mono (zA HT).sb.bel.size))).mono ?_;rintro e w1 ⟨rfl,hb1⟩;have hs:=WT.start wr (.int .i64 t.has) (.slice A t.rows.length c) (.slice C (zO t.has 8).length cc) 75;have x0:=zC hb1 hs.b0;have x1:=zC hb1 hs.b1;have x2:=zC hb1 hs.b2;have HT1:=zB (((zA HT).below (zAS _ _)).below hb1);clear hb1 hs d0 d1 d2 r0)
     | (go_at_call 91;refine (zA HAD _ _ (zA HT1)).mono ?_;rintro e w2 ⟨v2,rfl,ho2,hb2⟩;have HT2:Hid (TG w (.slice (some ⟨tb,tf,none⟩) l.length tcap) (.slice G Y.gens.length gcap) v2 (zBD tabs i++t.rows) w2):=zB ⟨(zA HT1).sb.keep hb2,ho2⟩;clear ho2 hb2 x0 x1 x2))
    go_roundw
    case rel=>exact ⟨i+1,by omega,by go_num,by rw [zA HSU];exact zA HT2⟩
    case measure=>simp [intOf];omega
   ·obtain rfl:i=tabs.length:=by omega
    have hbad:=(zA HST).bad hlt
    have hE:zBB l tabs Y=(zDz l tabs.length,(tabs.length:Int)):=by unfold zBB;rw [if_pos hlt]
    have hW:zKA l tabs Y=⟨[],[]⟩:=by unfold zKA;rw [hE,if_neg hbad]
    have HE:=zB hE
    have HW:=zB hW
    have b1:((zDz l tabs.length) == 0)=false:=by simpa using hbad
    have b2:((zDz l tabs.length) != 0)=true:=by simpa using hbad
    generalize zDz l tabs.length=we at *
    generalize l.getD tabs.length dT=t at *
    obtain ⟨has,bs,cols⟩:=t
    have d0:=zC hT.sb.bel hta.c0
    have d1:=zC hT.sb.bel hta.c1
    have d2:=zC hT.sb.bel hta.c2
    dsimp only at d0 d1 d2
    have HWT:=zB hWT
    subst hTe
    clear hT hWT hta hbad hE hW HRL HEND HSO HCP HRL1 HP HIL
    go_wp2_with (first
     | (go_at_call 90;refine (zA HWT _ ((zA HT).sb.bel.trans ((zAS wr (.cells #[.int .i64 has,.slice A bs.length c,.slice C cols.length cc] 75)).mono (zA HT).sb.bel.size))).mono ?_;rintro e w1 ⟨rfl,hb1⟩;have HT1:=zB (((zA HT).below (zAS _ _)).below hb1).sb;clear hb1 d0 d1 d2 r0)
     | (refine zG rfl 43 (.tmp 2) (.tmp 24) rfl (w.heap.size+1) 0 [.slice none 0 0,.slice none 0 0] rfl rfl (by simp [Value.oneCell']) size38 (zA HT1).thereA ?_;intro W5 hW5;have hs5:=(zA HT1).giveA (.slice none 0 0) (.slice none 0 0);rw [←hW5] at hs5;have HS5:=zB hs5;clear hW5 hs5 HT1)
     | (refine zG rfl 29 (.tmp 3) (.tmp 27) rfl (w.heap.size+2) 0 [.int .i64 we,.int .i64 (tabs.length:Int)] rfl rfl (by simp [Value.oneCell']) size43t (zA HS5).thereB ?_;intro W6 hW6;have hs6:=(zA HS5).giveB (.int .i64 we) (.int .i64 (tabs.length:Int));rw [←hW6] at hs6;have HS9:=zB hs6;clear hW6 hs6 HS5))
    have t0:=(zA HS9).t0
    have t1:=(zA HS9).t1
    have s0:=(zA HS9).s0
    have s1:=(zA HS9).s1
    refine bodyPost_ret (v:=.tuple #[.agg #[.slice none 0 0,.slice none 0 0],.agg #[.int .i64 we,.int .i64 (tabs.length:Int)]]) (by simp [results,Tryz.results51,go_sem,t0,t1,s0,s1]) rfl ?_
    rw [zA HE,zA HW]
    exact ⟨none,0,none,0,rfl,zIF _ _,(zA HS9).bel⟩
  ·obtain rfl:i=tabs.length:=by omega
   have hln:¬ tabs.length<l.length:=hlt
   have hE:zBB l tabs Y=((zP Y).1,0):=by unfold zBB;rw [if_neg hln]
   have hW:zKA l tabs Y=if (zP Y).1=0 then Y else ⟨[],[]⟩:=by unfold zKA;rw [hE]
   have hle:tabs.length=l.length:=by omega
   have i9:¬ (tabs.length:Int)<(l.length:Int):=by omega
   rw [zA HEND] at hT
   generalize (zP Y).2=wa at *
   generalize (zP Y).1=we at *
   have r1:=hT.sb.r1
   have HT:=zB hT
   have HE:=zB hE
   have HW:=zB hW
   clear hT hE hW hlt hln HRL HST HEND hle
   go_upto_region 13 with (first
    | (go_at_call 92;refine (zA HSO _ _ (by rw [zA HIL];exact (zA HT).own) (zA HT).sb.sz).mono ?_;rintro e w1 ⟨rfl,ho1,hb1⟩;obtain ⟨Av,cv,rfl⟩:=zAV ho1;have hs1:=(zA HT).sb.keep hb1;clear r1;have r1:=hs1.r1;have HO1:=zB ho1;have HS1:=zB hs1;clear hb1 ho1 hs1 HT)
    | (go_at_call 68;refine (zA HCP _ (zA HS1).bel).mono ?_;rintro e w2 ⟨Ag,cg,rfl,ho2,hb2⟩;have hN:WldNew (w.heap.size+3) w2 Av cv Ag cg Y:=⟨⟨zAt (zc (zA HO1) hb2),zEX ho2⟩,zAH (zA HO1) (Nat.le_refl _),zAH ho2 (zA HS1).sz⟩;have HN2:=zB (hN.below (zAS w2 (.cells #[.slice Av Y.rows.length cv,.slice Ag Y.gens.length cg] 43)));have HS2:=zB (((zA HS1).below hb2).below (zAS w2 (.cells #[.slice Av Y.rows.length cv,.slice Ag Y.gens.length cg] 43)));clear hN ho2 hb2 r1)
    | (go_at_call 35;refine (zA HP _ _ _ _ _ (zA HN2).toWldAt).mono ?_;rintro e w3 ⟨rfl,hb3⟩;obtain ⟨e0,e1,_,_⟩:=zAe (W:=w2) (u0:=.slice Av Y.rows.length cv) (u1:=.slice Ag Y.gens.length cg) (t:=43) rfl;have y0:=zC hb3 e0;have y1:=zC hb3 e1;have ly:=World.block_lt_of_cell? w3 _ y0;have HZ3:=zB ((zA HS2).below hb3).sz;have HN4:=zB (((zA HN2).below hb3).below (zAS w3 (.cells #[.int .i64 we,.int .i64 wa] 29)));have HS4:=zB (((zA HS2).below hb3).below (zAS w3 (.cells #[.int .i64 we,.int .i64 wa] 29)));clear hb3 e0 e1 HN2 HS2))
   by_cases h0:we=0
   ·subst h0
    go_wp2_with (first
     | (refine zG rfl 43 (.tmp 2) (.tmp 48) rfl (w.heap.size+1) 0 [.slice Av Y.rows.length cv,.slice Ag Y.gens.length cg] rfl rfl (by simp [Value.oneCell']) size38 (zA HS4).thereA ?_;intro W5 hW5;have hs5:=(zA HS4).giveA (.slice Av Y.rows.length cv) (.slice Ag Y.gens.length cg);have hn5:=zDS (zA HN4) (b:=w.heap.size+1) (o:=0) (vs:=[.slice Av Y.rows.length cv,.slice Ag Y.gens.length cg]) (by omega);rw [←hW5] at hs5 hn5;have HS5:=zB hs5;have HN5:=zB hn5;clear hW5 hs5 hn5 HS4 HN4)
     | (refine zG rfl 29 (.tmp 3) (.tmp 49) rfl (w.heap.size+2) 0 [.int .i64 0,.int .i64 0] rfl rfl (by simp [Value.oneCell']) size43t (zA HS5).thereB ?_;intro W6 hW6;have hs6:=(zA HS5).giveB (.int .i64 0) (.int .i64 0);have hn6:=zDS (zA HN5) (b:=w.heap.size+2) (o:=0) (vs:=[.int .i64 0,.int .i64 0]) (by omega);rw [←hW6] at hs6 hn6;have HS6:=zB hs6;have HN6:=zB hn6;clear hW6 hs6 hn6 HS5 HN5))
    have t0:=(zA HS6).t0
    have t1:=(zA HS6).t1
    have s0:=(zA HS6).s0
    have s1:=(zA HS6).s1
    refine bodyPost_ret (v:=.tuple #[.agg #[.slice Av Y.rows.length cv,.slice Ag Y.gens.length cg],.agg #[.int .i64 0,.int .i64 0]]) (by simp [results,Tryz.results51,go_sem,t0,t1,s0,s1]) rfl ?_
    rw [zA HE,zA HW,if_pos (by trivial)]
    exact ⟨Av,cv,Ag,cg,rfl,zGd (zA HN6) (by omega),(zA HS6).bel⟩
   ·have b1:(we == 0)=false:=by simpa using h0
    have b2:(we != 0)=true:=by simpa using h0
    have HN0:=zB h0
    clear h0 HN4 y0 y1
    go_upto_region 14 with fail
    have h0:∃ z0 z1,SB w (.slice T l.length tcap) (.slice G Y.gens.length gcap) (.slice none 0 0) (.slice none 0 0) z0 z1 (w3.alloc (.cells #[.int .i64 we,.int .i64 wa] 29)).drew∧((fun (_:Nat)=>false) 5=true→z0=.int .i64 we∧z1=.int .i64 0)∧(w3.alloc (.cells #[.int .i64 we,.int .i64 wa] 29)).drew.cell? ⟨w3.heap.size,0,none⟩=some (.int .i64 we):=⟨_,_,(zA HS4).below (Below.refl _ _).drew,(fun e=>by cases e),by show (w3.alloc (.cells #[.int .i64 we,.int .i64 wa] 29)).cell? ⟨w3.heap.size,0,none⟩=_;simp⟩
    refine zd (fun (γ:Unit) ix v=>(([fun v=>v=.agg #[.slice none 0 0,.slice none 0 0],fun v=>v=.pointer (some ⟨w3.heap.size,0,none⟩),fun v=>v=.int .i64 we,fun v=>v=.agg #[.int .i64 we,.int .i64 0],fun _=>True,fun _=>True]:List (Value→Prop)).getD ix (fun _=>True)) v) (fun (_:Unit) L W=>∃ z0 z1,SB w (.slice T l.length tcap) (.slice G Y.gens.length gcap) (.slice none 0 0) (.slice none 0 0) z0 z1 W∧(L 5=true→z0=.int .i64 we∧z1=.int .i64 0)∧W.cell? ⟨w3.heap.size,0,none⟩=some (.int .i64 we)) (()) (by kernel_rfl) (by kernel_rfl) (by kernel_rfl) h0 ?hstep ?hend
    case hstep =>
     intro γ ix o ho L ac w1 hD hL hed hcl hout hv
     match ix,ho with
     | 0,ho =>
      simp at ho
      subst ho
      exact .inl ⟨rfl,zF γ _ (by simp [go_sem,Act.eval,-Array.getD_eq_getD_getElem?,]) rfl (by obtain ⟨z0,z1,a,e,c⟩:=hD;exact ⟨z0,z1,a,by rw [zL (by decide)];exact e,c⟩) (fun _ _ _ _ h=>h)⟩
     | 1,ho =>
      simp at ho
      subst ho
      have e9:ac.tmps.getD 9 undef=.pointer (some ⟨w3.heap.size,0,none⟩):=hout 9 (by decide +kernel)
      exact .inl ⟨rfl,zF γ _ (by simp [go_sem,Act.eval,-Array.getD_eq_getD_getElem?,e9]) rfl (by obtain ⟨z0,z1,a,e,c⟩:=hD;exact ⟨z0,z1,a,by rw [zL (by decide)];exact e,c⟩) (fun _ _ _ _ h=>h)⟩
     | 2,ho =>
      simp at ho
      subst ho
      have e45:ac.tmps.getD 45 undef=_:=hv 1 45 rfl (by kernel_rfl)
      have c0:=(let ⟨_,_,_,_,c⟩:=hD;c)
      exact .inl ⟨rfl,zF γ _ (by simp [go_sem,Act.eval,-Array.getD_eq_getD_getElem?,e45,c0]) rfl (by obtain ⟨z0,z1,a,e,c⟩:=hD;exact ⟨z0,z1,a,by rw [zL (by decide)];exact e,c⟩) (fun _ _ _ _ h=>h)⟩
     | 3,ho =>
      simp at ho
      subst ho
      have e46:ac.tmps.getD 46 undef=.int .i64 we:=hv 2 46 rfl (by kernel_rfl)
      exact .inl ⟨rfl,zF γ _ (by simp [go_sem,Act.eval,-Array.getD_eq_getD_getElem?,e46]) rfl (by obtain ⟨z0,z1,a,e,c⟩:=hD;exact ⟨z0,z1,a,by rw [zL (by decide)];exact e,c⟩) (fun _ _ _ _ h=>h)⟩
     | 4,ho =>
      simp at ho
      subst ho
      have e2:ac.tmps.getD 2 undef=.pointer (some ⟨w.heap.size+1,0,none⟩):=hout 2 (by decide +kernel)
      have e44:ac.tmps.getD 44 undef=_:=hv 0 44 rfl (by kernel_rfl)
      obtain ⟨z0,z1,a,e,c⟩:=hD
      exact .inl ⟨rfl,zAu γ 43 (.tmp 2) (.tmp 44) rfl (w.heap.size+1) 0 [.slice none 0 0,.slice none 0 0] (by simp [Act.eval,-Array.getD_eq_getD_getElem?,e2]) (by simp [Act.eval,-Array.getD_eq_getD_getElem?,e44]) (by simp [Value.oneCell']) size38 a.thereA trivial ⟨z0,z1,a.giveA _ _,by rw [zL (by decide)];exact e,(zW (by have:=zA HZ3;simp only [ne_eq];omega)).trans c⟩ (fun _ _ _ _ h=>h)⟩
     | 5,ho =>
      simp at ho
      subst ho
      have e3:ac.tmps.getD 3 undef=.pointer (some ⟨w.heap.size+2,0,none⟩):=hout 3 (by decide +kernel)
      have e47:ac.tmps.getD 47 undef=_:=hv 3 47 rfl (by kernel_rfl)
      obtain ⟨z0,z1,a,e,c⟩:=hD
      exact .inl ⟨rfl,zAu γ 29 (.tmp 3) (.tmp 47) rfl (w.heap.size+2) 0 [.int .i64 we,.int .i64 0] (by simp [Act.eval,-Array.getD_eq_getD_getElem?,e3]) (by simp [Act.eval,-Array.getD_eq_getD_getElem?,e47]) (by simp [Value.oneCell']) size43t a.thereB trivial ⟨_,_,a.giveB _ _,fun _=>⟨rfl,rfl⟩,(zW (by have:=zA HZ3;simp only [ne_eq];omega)).trans c⟩ (fun _ _ _ _ h=>h)⟩
     | ix+6,ho=>simp at ho
    case hend =>
     intro γ v L w9 hD hall hv
     obtain ⟨z0,z1,hS,hz,_⟩:=hD
     obtain ⟨rfl,rfl⟩:=hz (hall 5 (by decide))
     have HS9:=zB hS
     clear hv hall hS hz h0
     simp only [zu,List.getElem?_cons_zero,List.getElem?_cons_succ,Option.bind_some,List.length_cons,List.length_nil,Nat.reduceAdd]
     go_frame
     go_wp2
     have t0:=(zA HS9).t0
     have t1:=(zA HS9).t1
     have s0:=(zA HS9).s0
     have s1:=(zA HS9).s1
     refine bodyPost_ret (v:=.tuple #[.agg #[.slice none 0 0,.slice none 0 0],.agg #[.int .i64 we,.int .i64 0]]) (by simp [results,Tryz.results51,go_sem,t0,t1,s0,s1]) rfl ?_
     rw [zA HE,zA HW,if_neg (zA HN0)]
     exact ⟨none,0,none,0,rfl,zIF _ _,(zA HS9).bel⟩
theorem zDb {X:Wd} (hr:RightW X) {all:List RowI} (hp:all.Perm X.rows):X.rows=insTo all all.length:=by
 obtain ⟨s,h1,h2,h3⟩:=zEI all all.length (Nat.le_refl _)
 rw [h3]
 exact (zNd hr hp h1 h2).symm
theorem zEO (T:Option Addr) (tcap:Nat) (G:Option Addr) (gcap:Nat) (tabs:List TabI) (X:Wd) (w:World) (h:StAt w T G tabs X) :
  Calls Tryz.prog 51 #[stV T tabs.length tcap G X.gens.length gcap] w fun e w'=>∃ A' c' G' gc',e=.returned (.tuple #[zi A' c' G' gc' X,.agg #[.int .i64 0,.int .i64 0]])∧WldNew w.heap.size w' A' c' G' gc' X∧Below w.heap.size w w':=by
 have hw0:=(zf X).2 h.right
 obtain ⟨hl,hgl,_⟩:=zk hw0
 have hml:(tabs.map toX).length=tabs.length:=List.length_map _
 have htf:=h.few
 have hT:TogAt w T (tabs.map toX) tabs:=⟨h.tbs.x,by omega,fun i hi=>by rw [zBV tabs (by omega)];exact (h.each _ (List.getElem_mem (by omega))).fewX,by omega,fun i hi=>zBV tabs hi,h.each,fun i hi=>zNF h.each h.up hi,fun hi=>by omega⟩
 have:=zEP T tcap G gcap _ tabs X w hT (zDb h.right h.perm) h.gens (by omega) (by rw [h.perm.length_eq];omega)
 have hE:zBB (tabs.map toX) tabs X=(0,0):=by unfold zBB;rw [if_neg (by omega),hw0]
 have hW:zKA (tabs.map toX) tabs X=X:=by unfold zKA;rw [hE,if_pos rfl]
 rw [hE,hW,hml] at this
 exact this
end Go.Proofs.YtnbleebilmghcabGreat
set_option maxHeartbeats 4000000
set_option maxRecDepth 8000
namespace Go.Proofs.YtnbleebilmghcabGreat
open Go Go.RowKit
attribute [local go_sem ↓] Go.wp_at_zero Go.wp_at_succ
structure BB (w:World) (u0 u1 y0 y1:Value) (W:World):Prop where
 bel:Below w.heap.size w W
 sz:w.heap.size+2≤W.heap.size
 r:B13 w.heap.size u0 u1 W
 s:B13 (w.heap.size+1) y0 y1 W
theorem BB.below {w W W1:World} {u0 u1 y0 y1:Value} (h:BB w u0 u1 y0 y1 W) (hb:Below W.heap.size W W1):BB w u0 u1 y0 y1 W1 :=
 ⟨h.bel.trans (hb.mono h.bel.size),Nat.le_trans h.sz hb.size,h.r.keep (hb.mono (by have:=h.sz;omega)),h.s.keep (hb.mono h.sz)⟩
theorem BB.start (w:World) (u0 u1 y0 y1:Value) (s t:TypeId):BB w u0 u1 y0 y1 ((w.alloc (.cells #[u0,u1] s)).alloc (.cells #[y0,y1] t)):=by
 obtain ⟨a0,a1,af,ab⟩:=zAe (W:=w) (u0:=u0) (u1:=u1) (t:=s) rfl
 have z1:(w.alloc (.cells #[u0,u1] s)).heap.size=w.heap.size+1:=by simp
 generalize w.alloc (.cells #[u0,u1] s)=W1 at *
 obtain ⟨c0,c1,cf,cb⟩:=zAe (W:=W1) (u0:=y0) (u1:=y1) (t:=t) z1
 exact ⟨ab.trans (cb.mono ab.size),by simp;omega,B13.keep ⟨a0,a1,af⟩ (cb.mono (by omega)),⟨c0,c1,cf⟩⟩
theorem zCz {b:Nat} {u v:Value} {W:World} (h:B13 b u v W):W.there b 0 2:=fun j hj=>by
 rcases (by omega:j=0∨j=1) with rfl | rfl
 ·exact ⟨by rw [Nat.zero_add,h.e0];rfl,h.f _⟩
 ·exact ⟨by rw [Nat.zero_add,h.e1];rfl,h.f _⟩
theorem zMv {b:Nat} {u v:Value} {W:World} (h:B13 b u v W) (u' v':Value):B13 b u' v' (W.setCells b 0 [u',v']):=by
 have s:=fun j hj=>World.cell?_setCells_in b [u',v'] 0 W (fun j hj=>(zCz h j hj).1) j hj
 exact ⟨s 0 (by simp),s 1 (by simp),fun i=>by rw [World.frozen?_setCells];exact h.f i⟩
theorem BB.give {w W:World} {u0 u1 y0 y1:Value} (h:BB w u0 u1 y0 y1 W) (z0 z1:Value):BB w u0 u1 z0 z1 (W.setCells (w.heap.size+1) 0 [z0,z1]):=by
 have hb:Below (w.heap.size+1) W (W.setCells (w.heap.size+1) 0 [z0,z1]):=zI (w.heap.size+1) (Nat.le_refl _) [z0,z1] 0 W (Below.refl _ _)
 exact ⟨h.bel.trans (hb.mono (by omega)),Nat.le_trans h.sz hb.size,h.r.keep hb,zMv h.s z0 z1⟩
theorem zIy (T:Option Addr) (tcap:Nat) (G:Option Addr) (gcap:Nat) (tabs:List TabI) (X:Wd) (w:World) (h:StAt w T G tabs X) :
  Calls Tryz.prog 24 #[stV T tabs.length tcap G X.gens.length gcap] w fun e w'=>e=.returned (.agg #[.int .i64 0,.int .i64 0])∧Below w.heap.size w w':=by
 have hTO:=fun W (hb:Below w.heap.size w W)=>zEO T tcap G gcap tabs X W (h.below hb)
 have hBB:=BB.start w (.slice T tabs.length tcap) (.slice G X.gens.length gcap) (.int .i64 0) (.int .i64 0) 25 29
 unfold stV zi zM at hTO
 have HTO:=zB hTO
 have HBB:=zB hBB
 clear hTO hBB h
 unfold stV
 go_enter Tryz.func24,Tryz.ntmps24
 go_wp2_with (first
  | (go_at_call 51;refine (zA HTO _ (zA HBB).bel).mono ?_;rintro e w1 ⟨A1,c1,G1,gc1,rfl,hN,hb1⟩;have HB1:=zB (((zA HBB).below hb1).below (zCx w1 (.cells #[.slice A1 X.rows.length c1,.slice G1 X.gens.length gc1] 43) (.cells #[.int .i64 0,.int .i64 0] 29)));clear hN hb1)
  | (refine zG rfl 29 (.tmp 2) (.tmp 10) rfl (w.heap.size+1) 0 [.int .i64 0,.int .i64 0] rfl rfl (by simp [Value.oneCell']) size43t (zCz (zA HB1).s) ?_;intro W3 hW3;have hC:=(zA HB1).give (.int .i64 0) (.int .i64 0);rw [←hW3] at hC;have HC:=zB hC;clear hW3 hC))
 have t0:=(zA HC).s.e0
 have t1:=(zA HC).s.e1
 refine bodyPost_ret (v:=.agg #[.int .i64 0,.int .i64 0]) (by simp [results,Tryz.results24,go_sem,t0,t1]) rfl ⟨rfl,(zA HC).bel⟩
theorem zJA (T:Option Addr) (tcap:Nat) (G:Option Addr) (gcap:Nat) (tabs:List TabI) (X:Wd) (w:World) (h:StAt w T G tabs X) :
  Calls Tryz.prog 25 #[stV T tabs.length tcap G X.gens.length gcap] w fun e w'=>∃ A' c' G' gc',e=.returned (zi A' c' G' gc' X)∧WldNew w.heap.size w' A' c' G' gc' X∧Below w.heap.size w w':=by
 have hTO:=fun W (hb:Below w.heap.size w W)=>zEO T tcap G gcap tabs X W (h.below hb)
 have hBB:=BB.start w (.slice T tabs.length tcap) (.slice G X.gens.length gcap) (.slice none 0 0) (.slice none 0 0) 25 43
 unfold stV zi zM at hTO
 have HTO:=zB hTO
 have HBB:=zB hBB
 clear hTO hBB h
 unfold stV zi zM
 go_enter Tryz.func25,Tryz.ntmps25
 go_wp2_with (first
  | (go_at_call 51;refine (zA HTO _ (zA HBB).bel).mono ?_;rintro e w1 ⟨A1,c1,G1,gc1,rfl,hN,hb1⟩;have HB1:=zB (((zA HBB).below hb1).below (zCx w1 (.cells #[.slice A1 X.rows.length c1,.slice G1 X.gens.length gc1] 43) (.cells #[.int .i64 0,.int .i64 0] 29)));have HN:=zB ((hN.below (zCx w1 (.cells #[.slice A1 X.rows.length c1,.slice G1 X.gens.length gc1] 43) (.cells #[.int .i64 0,.int .i64 0] 29))));clear hN hb1)
  | (refine zG rfl 43 (.tmp 2) (.tmp 10) rfl (w.heap.size+1) 0 [.slice A1 X.rows.length c1,.slice G1 X.gens.length gc1] rfl rfl (by simp [Value.oneCell']) size38 (zCz (zA HB1).s) ?_;intro W3 hW3;have hC:=(zA HB1).give (.slice A1 X.rows.length c1) (.slice G1 X.gens.length gc1);have hM:=zDS (zA HN) (b:=w.heap.size+1) (o:=0) (vs:=[.slice A1 X.rows.length c1,.slice G1 X.gens.length gc1]) (by have:=(zA HBB).sz;omega);rw [←hW3] at hC hM;have HC:=zB hC;have HM:=zB hM;clear hW3 hC hM))
 have t0:=(zA HC).s.e0
 have t1:=(zA HC).s.e1
 refine bodyPost_ret (v:=.agg #[.slice A1 X.rows.length c1,.slice G1 X.gens.length gc1]) (by simp [results,Tryz.results25,go_sem,t0,t1]) rfl ⟨A1,c1,G1,gc1,rfl,zGd (zA HM) (zA HBB).bel.size,(zA HC).bel⟩
end Go.Proofs.YtnbleebilmghcabGreat
set_option maxHeartbeats 4000000
set_option maxRecDepth 8000
namespace Go.Proofs.YtnbleebilmghcabGreat
open Go Go.RowKit
attribute [local go_sem ↓] Go.wp_at_zero Go.wp_at_succ
def TC (w:World) (T:Option Addr) (n:Nat) (H:Nat→Int) (u1 u2:Nat→Value):Prop:=∀ j,j<n→∃ b o,T=some ⟨b,o,none⟩∧w.cell? ⟨b,o+j*3,none⟩=some (.int .i64 (H j))∧w.cell? ⟨b,o+j*3+1,none⟩=some (u1 j)∧w.cell? ⟨b,o+j*3+2,none⟩=some (u2 j)
theorem TC.below {w w1:World} {T:Option Addr} {n:Nat} {H:Nat→Int} {u1 u2:Nat→Value} (h:TC w T n H u1 u2) (hb:Below w.heap.size w w1):TC w1 T n H u1 u2:=fun j hj=>by
 obtain ⟨b,o,e,h1,h2,h3⟩:=h j hj
 exact ⟨b,o,e,zC hb h1,zC hb h2,zC hb h3⟩
theorem zJq (h a:Int) (x y:Value) (w:World):Calls Tryz.prog 137 #[.agg #[.int .i64 h,x,y],.int .i64 a] w fun e w'=>e=.returned (.int .i64 (zEK h a))∧Below w.heap.size w w':=by
 have HC:=zB (zFJ h a)
 go_enter Tryz.func137,Tryz.ntmps137
 go_wp2_with ((go_at_call 94;refine (zA HC _).mono ?_;rintro e w1 ⟨rfl,hw⟩;obtain rfl:=hw.symm))
 go_ret
 exact ⟨rfl,zAS _ _⟩
theorem zHw (T:Option Addr) (tcap n:Nat) (H:Nat→Int) (u1 u2:Nat→Value) (a:Int) (w:World) (hn:n≤1000) (hT:TC w T n H u1 u2) (hup:∀ i j,i<j→j<n→H i<H j) :
  Calls Tryz.prog 136 #[.slice T n tcap,.int .i64 a,.func (.func 137) #[] #[]] w fun e w'=>∃ i:Nat,i≤n∧e=.returned (.tuple #[.int .i64 (i:Int),.bool (decide (i<n∧H i=a))])∧(∀ x,x<i→H x<a)∧(∀ x,i≤x→x<n→a≤H x)∧Below w.heap.size w w':=by
 have HT:=zB hT
 have HUP:=zB hup
 have HCM:=zB zJq
 clear hT hup
 go_enter Tryz.func136,Tryz.ntmps136
 go_wp2
 go_loopw [9,10] (fun t u wr=>∃ (i j:Nat),t=.int .i64 (i:Int)∧u=.int .i64 (j:Int)∧i≤j∧j≤n∧Below w.heap.size w wr∧(∀ x,x<i→H x<a)∧(∀ x,j≤x→x<n→a≤H x)) (fun t u _=>(intOf u).toNat - (intOf t).toNat)
 case atStart=>exact ⟨0,n,rfl,rfl,Nat.zero_le _,Nat.le_refl _,Below.refl _ _,fun x h=>by omega,fun x h1 h2=>by omega⟩
 case round =>
  obtain ⟨i,j,rfl,rfl,hij,hjn,hb,hlo,hhi⟩:=hrel
  by_cases hlt:i<j
  ·have i1:(i:Int)<(j:Int):=by omega
   obtain ⟨c,hc⟩:∃ c:Nat,((i:Int)+(j:Int)) / 2=(c:Int):=⟨(i+j) / 2,by omega⟩
   have c0:(0:Int)≤(c:Int):=by omega
   have c1:(c:Int)<(n:Int):=by omega
   have HCC:Hid (i≤c∧c<j):=zB (by omega)
   obtain ⟨b,o,rfl,d0,d1,d2⟩:=(zA HT).below hb c (by omega)
   have HB:=zB hb
   have HLO:=zB hlo
   have HHI:=zB hhi
   clear hb hlo hhi
   by_cases hcmp:H c<a
   ·have HCP:=zB hcmp
    have hlt0:zEK (H c) a<0:=(zBA _ _).2 hcmp
    go_wp2_with ((go_at_call 137;refine (zA HCM _ _ _ _ _).mono ?_;rintro e w1 ⟨rfl,hb1⟩;have HB1:=zB ((zA HB).trans (hb1.mono (zA HB).size));clear hb1))
    go_roundw
    case rel =>
     obtain ⟨q1,q2⟩:=zA HCC
     exact ⟨c+1,j,by go_num,rfl,by omega,hjn,zA HB1,fun x hx=>by
      rcases Nat.lt_or_ge x c with h | h
      ·have:=zA HUP x c h (by omega)
       have:=zA HCP
       omega
      ·rw [show x=c by omega];exact zA HCP,zA HHI⟩
    case measure=>have:=zA HCC;simp [intOf];omega
   ·have HCP:=zB hcmp
    have hlt0:¬ zEK (H c) a<0:=fun h=>hcmp ((zBA _ _).1 h)
    go_wp2_with ((go_at_call 137;refine (zA HCM _ _ _ _ _).mono ?_;rintro e w1 ⟨rfl,hb1⟩;have HB1:=zB ((zA HB).trans (hb1.mono (zA HB).size));clear hb1))
    go_roundw
    case rel =>
     obtain ⟨q1,q2⟩:=zA HCC
     exact ⟨i,c,rfl,rfl,q1,by omega,zA HB1,zA HLO,fun x h1 h2=>by
      have q3:=zA HCP
      rcases Nat.lt_or_ge c x with h | h
      ·have:=zA HUP c x h h2
       omega
      ·rw [show x=c by omega];omega⟩
    case measure=>have:=zA HCC;simp [intOf];omega
  ·obtain rfl:i=j:=by omega
   have i1:¬ (i:Int)<(i:Int):=by omega
   have HLO:=zB hlo
   have HHI:=zB hhi
   by_cases hin:i<n
   ·have n1:(i:Int)<(n:Int):=by omega
    have n0:(0:Int)≤(i:Int):=by omega
    obtain ⟨b,o,rfl,d0,d1,d2⟩:=(zA HT).below hb i hin
    have HB:=zB hb
    clear hb hlo hhi
    have hge:=zA HHI i (Nat.le_refl _) hin
    by_cases heq:H i=a
    ·have HEQ:=zB heq
     have h0:zEK (H i) a=0:=by unfold zEK;rw [if_neg (by omega),if_neg (by omega)]
     clear heq hge
     go_wp2_with ((go_at_call 137;refine (zA HCM _ _ _ _ _).mono ?_;rintro e w1 ⟨rfl,hb1⟩;have HB1:=zB ((zA HB).trans (hb1.mono (zA HB).size));clear hb1))
     go_ret2
     exact ⟨i,by omega,by simp [hin,zA HEQ],zA HLO,zA HHI,zA HB1⟩
    ·have HEQ:=zB heq
     have h0:zEK (H i) a=1:=by unfold zEK;rw [if_neg (by omega),if_pos (by omega)]
     clear heq hge
     go_wp2_with ((go_at_call 137;refine (zA HCM _ _ _ _ _).mono ?_;rintro e w1 ⟨rfl,hb1⟩;have HB1:=zB ((zA HB).trans (hb1.mono (zA HB).size));clear hb1))
     go_ret2
     exact ⟨i,by omega,by simp [zA HEQ],zA HLO,zA HHI,zA HB1⟩
   ·have n1:¬ (i:Int)<(n:Int):=by omega
    have HB:=zB hb
    clear hb hlo hhi
    go_wp2
    go_ret2
    exact ⟨i,by omega,by simp [hin],zA HLO,zA HHI,zA HB⟩
end Go.Proofs.YtnbleebilmghcabGreat
set_option maxHeartbeats 8000000
set_option maxRecDepth 8000
namespace Go.Proofs.YtnbleebilmghcabGreat
open Go Go.RowKit
attribute [local go_sem ↓] Go.wp_at_zero Go.wp_at_succ
theorem zJG (T:Option Addr) (tc:Nat) (G:Option Addr) (gc:Nat) (T':Option Addr) (tc':Nat) (G':Option Addr) (gc':Nat) (l:List TabX) (gens:List Int) (w:World) (hl:l.length≤4194304) (hgl:gens.length≤4194304) (hf:∀ i,i<l.length→FewX (l.getD i dT)) (hT:TabsX w T l) (hG:IntsL w G gens) (hT':TabsX w T' l) (hG':IntsL w G' gens) :
  Calls Tryz.prog 9 #[.agg #[.slice T l.length tc,.slice G gens.length gc],.agg #[.slice T' l.length tc',.slice G' gens.length gc']] w fun e w'=>e=.returned (.bool true)∧Below w.heap.size w w':=by
 obtain ⟨W1,hW1,hbx,hX1⟩:=zET w [([.slice T l.length tc,.slice G gens.length gc],25),([.slice T' l.length tc',.slice G' gens.length gc'],25)]
 have HW1:Hid ((w.alloc (.cells #[.slice T l.length tc,.slice G gens.length gc] 25)).alloc (.cells #[.slice T' l.length tc',.slice G' gens.length gc'] 25)=W1):=zB hW1
 clear hW1
 have s0:=hX1.cell 0 rfl 0 rfl
 have s1:=hX1.cell 0 rfl 1 rfl
 have s2:=hX1.cell 1 rfl 0 rfl
 have s3:=hX1.cell 1 rfl 1 rfl
 rw [Nat.add_zero] at s0 s1
 have HB0:=zB hX1
 have HL0:=zB hbx
 have HG:=zB (hG.below hbx)
 have HG':=zB (hG'.below hbx)
 have HT:=zB (hT.below hbx)
 have HT':=zB (hT'.below hbx)
 have HF:=zB hf
 clear hX1 hbx hG hG' hT hT' hf
 go_enter Tryz.func9,Tryz.ntmps9
 go_upto_region 1 with fail
 rw [zA HW1]
 go_wp2_with fail
 clear s0 s1 s2 s3
 go_loopw [30] (fun x wr=>∃ j:Nat,j≤gens.length∧x=.int .i64 (j:Int)∧Below W1.heap.size W1 wr) (fun x _=>gens.length - (intOf x).toNat)
 case atStart=>exact ⟨0,Nat.zero_le _,rfl,Below.refl _ _⟩
 case round =>
  obtain ⟨j,hj,rfl,hbr⟩:=hrel
  have hB:=(zA HB0).below hbr
  by_cases hlt:j<gens.length
  ·have j0:(0:Int)≤(j:Int):=by omega
   have j1:(j:Int)<(gens.length:Int):=by omega
   obtain ⟨gb,go,hGe,x0⟩:=(zA HG).below hbr j hlt
   obtain ⟨gb',go',hGe',x1⟩:=(zA HG').below hbr j hlt
   dsimp only at x0 x1
   generalize gens.getD j 0=x at *
   have s1:=hB.cell 0 rfl 1 rfl
   have s3:=hB.cell 1 rfl 1 rfl
   rw [Nat.add_zero] at s1
   have q0:=zN x0
   have q1:=zN x1
   have q2:=zN s1
   have q3:=zN s3
   have hsub:Nonempty (Sub wr):=⟨⟨wr,Below.refl _ _⟩⟩
   have HBR:=zB hbr
   clear hB hbr HG HG' HT HT' HB0 x0 x1 s1 s3
   subst hGe hGe'
   go_wp2_with fail
   refine zU (by kernel_rfl) (by kernel_rfl) ?_
   repeat (go_big_quiet_step (fail))
   refine wpQuiet_nil ?_
   rintro w9 ⟨xs,hxs⟩
   have hb9:=xs.bel
   rw [←hxs] at hb9
   have HB9:=zB ((zA HBR).trans (hb9.mono (zA HBR).size))
   have HB0':=zB hb9
   clear hxs hb9 xs
   clear q0 q1 q2 q3 hsub
   go_wp2
   go_roundw
   case rel=>exact ⟨j+1,by omega,by go_num,zA HB9⟩
   case measure=>simp [intOf];omega
  ·obtain rfl:j=gens.length:=by omega
   have s0:=hB.cell 0 rfl 0 rfl
   rw [Nat.add_zero] at s0
   have HBR:=zB hbr
   clear hB hbr
   go_wp2_with fail
   clear s0
   obtain ⟨wb,hwb⟩:∃ wb,wb=wr:=⟨_,rfl⟩
   rw [←hwb] at HBR ⊢
   clear hwb
   go_loopw [48] (fun x wr=>∃ i:Nat,i≤l.length∧x=.int .i64 (i:Int)∧Below W1.heap.size W1 wr) (fun x _=>l.length - (intOf x).toNat)
   case atStart=>exact ⟨0,Nat.zero_le _,rfl,zA HBR⟩
   case round =>
    clear HBR
    obtain ⟨i,hi,rfl,hbr⟩:=hrel
    have hB:=(zA HB0).below hbr
    by_cases hlt:i<l.length
    ·have i0:(0:Int)≤(i:Int):=by omega
     have i1:(i:Int)<(l.length:Int):=by omega
     obtain ⟨tb,tf,hTe,Aa,ca,C,cc,hta⟩:=(zA HT).below hbr i hlt
     obtain ⟨tb',tf',hTe',Ab,cb,C',cc',hta'⟩:=(zA HT').below hbr i hlt
     have htf:=(zA HF) i hlt
     generalize l.getD i dT=t at *
     obtain ⟨has,bs,cols⟩:=t
     have hfb:bs.length≤4194304:=htf.b
     have hfc:cols.length≤4194304:=htf.c
     have HFK:Hid (∀ k,k<cols.length→(cols.getD k []).length≤4194304):=zB htf.k
     have a0:=hta.c0
     have a1:=hta.c1
     have a2:=hta.c2
     have b0:=hta'.c0
     have b1:=hta'.c1
     have b2:=hta'.c2
     dsimp only at a0 a1 a2 b0 b1 b2
     have s2:=hB.cell 1 rfl 0 rfl
     obtain ⟨wt,rfl⟩:∃ wt,wt=wr:=⟨_,rfl⟩
     obtain ⟨W4,hW4,hbx,hX4⟩:=zET wt [([.int .i64 has,.slice Aa bs.length ca,.slice C cols.length cc],75),([.int .i64 has,.slice Ab bs.length cb,.slice C' cols.length cc'],75)]
     have HW4:Hid ((wt.alloc (.cells #[.int .i64 has,.slice Aa bs.length ca,.slice C cols.length cc] 75)).alloc (.cells #[.int .i64 has,.slice Ab bs.length cb,.slice C' cols.length cc'] 75)=W4):=zB hW4
     clear hW4
     have HSB:=zB (zHU Aa ca Ab cb bs W4 (by omega) (hta.bs.below hbx) (hta'.bs.below hbx))
     have HX4:=zB hX4
     have HCO:Hid (ColsX W4 C cols):=zB (hta.cols.below hbx)
     have HCO':Hid (ColsX W4 C' cols):=zB (hta'.cols.below hbx)
     have HL4:=zB (hbr.trans (hbx.mono hbr.size))
     have lb:W1.heap.size≤wt.heap.size:=hbr.size
     have y0:=hX4.cell 0 rfl 0 rfl
     have y1:=hX4.cell 0 rfl 1 rfl
     have y2:=hX4.cell 0 rfl 2 rfl
     have z0:=hX4.cell 1 rfl 0 rfl
     have z1:=hX4.cell 1 rfl 1 rfl
     have z2:=hX4.cell 1 rfl 2 rfl
     rw [Nat.add_zero] at y0 y1 y2
     have l2:=World.block_lt_of_cell? wt _ s2
     have lb0:=World.block_lt_of_cell? wt _ b0
     clear hta hta' htf hbx hX4 hbr hB
     subst hTe hTe'
     go_upto_region 13 with fail
     rw [zA HW4]
     clear a0 a1 a2 b0 b1 b2 s2 l2 lb0
     go_wp2_with ((go_at_call 28;refine (zA HSB).mono ?_;rintro e w5 ⟨rfl,hb5⟩;have h5:=(zA HX4).below hb5;have HL5:=zB ((zA HL4).trans (hb5.mono (zA HL4).size));have HC5:=zB ((zA HCO).below hb5);have HC5':=zB ((zA HCO').below hb5);clear y0 y1 y2 z0 z1 z2;have y2:=h5.cell 0 rfl 2 rfl;have z2:=h5.cell 1 rfl 2 rfl;rw [Nat.add_zero] at y2;have HX5:=zB h5;clear hb5 h5 HSB HX4 HCO HCO' HL4))
     clear y2 z2
     go_loopw [83] (fun x wr=>∃ k:Nat,k≤cols.length∧x=.int .i64 (k:Int)∧Below w5.heap.size w5 wr) (fun x _=>cols.length - (intOf x).toNat)
     case atStart=>exact ⟨0,Nat.zero_le _,rfl,Below.refl _ _⟩
     case round =>
      obtain ⟨k,hk,rfl,hbr⟩:=hrel
      by_cases hlk:k<cols.length
      ·have k0:(0:Int)≤(k:Int):=by omega
       have k1:(k:Int)<(cols.length:Int):=by omega
       have h6:=(zA HX5).below hbr
       have y2:=h6.cell 0 rfl 2 rfl
       have z2:=h6.cell 1 rfl 2 rfl
       rw [Nat.add_zero] at y2
       obtain ⟨kb,ko,hCe,K,kc,k2,hI⟩:=(zA HC5).below hbr k hlk
       obtain ⟨kb',ko',hCe',K',kc',k2',hI'⟩:=(zA HC5').below hbr k hlk
       have hlk4:=zA HFK k hlk
       generalize cols.getD k []=lk at *
       have HI:=zB hI
       have HI':=zB hI'
       have HBR:=zB hbr
       have q0:=zN y2
       have q1:=zN z2
       have q2:=zN k2
       have q3:=zN k2'
       have hsub:Nonempty (Sub wr):=⟨⟨wr,Below.refl _ _⟩⟩
       have HY:=zB (And.intro y2 (And.intro z2 (And.intro k2 k2')))
       clear h6 hbr hI hI' y2 z2 k2 k2'
       subst hCe hCe'
       go_wp2_with fail
       refine zU (by kernel_rfl) (by kernel_rfl) ?_
       repeat (go_big_quiet_step (fail))
       refine wpQuiet_nil ?_
       rintro w9 ⟨xs,hxs⟩
       have hb9:=xs.bel
       rw [←hxs] at hb9
       have HB9:=zB ((zA HBR).trans (hb9.mono (zA HBR).size))
       have HB0':=zB hb9
       clear hxs hb9 xs
       clear q0 q1 q2 q3 hsub
       have hbd:=zA HB0'
       have y2:=zC hbd (zA HY).1
       have z2:=zC hbd (zA HY).2.1
       have k2:=zC hbd (zA HY).2.2.1
       have k2':=zC hbd (zA HY).2.2.2
       obtain ⟨wk,rfl⟩:∃ wk,wk=w9:=⟨_,rfl⟩
       have HIK:=zB ((zA HI).below hbd)
       have HIK':=zB ((zA HI').below hbd)
       have HBK:=zB (zA HB9)
       have HYK:=zB (And.intro y2 (And.intro z2 (And.intro k2 k2')))
       clear hbd HI HI' HBR HB9 HB0' HY
       go_wp2_with fail
       clear y2 z2 k2 k2'
       go_loopw [105] (fun x wr=>∃ q:Nat,q≤lk.length∧x=.int .i64 (q:Int)∧Below wk.heap.size wk wr) (fun x _=>lk.length - (intOf x).toNat)
       case atStart=>exact ⟨0,Nat.zero_le _,rfl,Below.refl _ _⟩
       case round =>
        obtain ⟨q,hq,rfl,hbr⟩:=hrel
        by_cases hlq:q<lk.length
        ·have m0:(0:Int)≤(q:Int):=by omega
         have m1:(q:Int)<(lk.length:Int):=by omega
         obtain ⟨vb,vo,hKe,x0⟩:=(zA HIK).below hbr q hlq
         obtain ⟨vb',vo',hKe',x1⟩:=(zA HIK').below hbr q hlq
         dsimp only at x0 x1
         generalize lk.getD q 0=x at *
         have q0:=zN (zC hbr (zA HYK).1)
         have q1:=zN (zC hbr (zA HYK).2.1)
         have q2:=zN (zC hbr (zA HYK).2.2.1)
         have q3:=zN (zC hbr (zA HYK).2.2.2)
         have q4:=zN x0
         have q5:=zN x1
         have hsub:Nonempty (Sub wr):=⟨⟨wr,Below.refl _ _⟩⟩
         have HBR:=zB hbr
         clear hbr HIK HIK' HYK x0 x1
         subst hKe hKe'
         go_wp2_with fail
         refine zU (by kernel_rfl) (by kernel_rfl) ?_
         repeat (go_big_quiet_step (fail))
         refine wpQuiet_nil ?_
         rintro w9 ⟨xs,hxs⟩
         have hb9:=xs.bel
         rw [←hxs] at hb9
         have HB9:=zB ((zA HBR).trans (hb9.mono (zA HBR).size))
         have HB0':=zB hb9
         clear hxs hb9 xs
         clear q0 q1 q2 q3 q4 q5 hsub
         go_wp2
         go_roundw
         case rel=>exact ⟨q+1,by omega,by go_num,zA HB9⟩
         case measure=>simp [intOf];omega
        ·obtain rfl:q=lk.length:=by omega
         have dq:decide ((lk.length:Int)<(lk.length:Int))=false:=decide_eq_false (by omega)
         have HE:=zB ((zA HBK).trans (hbr.mono (zA HBK).size))
         clear hbr HIK HIK' HYK
         go_wp2
         go_roundw
         case rel=>exact ⟨k+1,by omega,by go_num,zA HE⟩
         case measure=>simp [intOf];omega
      ·obtain rfl:k=cols.length:=by omega
       have HE:=zB ((zA HL5).trans (hbr.mono (Nat.le_trans (zA HL5).size (Nat.le_refl _))))
       clear hbr
       go_wp2
       go_roundw
       case rel=>exact ⟨i+1,by omega,by go_num,zA HE⟩
       case measure=>simp [intOf];omega
    ·obtain rfl:i=l.length:=by omega
     have HE:=zB ((zA HL0).trans (hbr.mono (zA HL0).size))
     clear hB hbr
     go_wp2
     go_ret
     exact ⟨rfl,zA HE⟩
end Go.Proofs.YtnbleebilmghcabGreat
namespace Go.Proofs.YtnbleebilmghcabGreat
open Go Go.RowKit
theorem zLM (rows:List RowI) (r:RowI):(zJi rows r).Perm (r :: rows):=by
 unfold zJi
 refine List.perm_middle.trans ?_
 rw [List.take_append_drop]
theorem zFj (all:List RowI):∀ m,m≤all.length→(insTo all m).Perm (all.take m)
 | 0,_=>List.Perm.refl _
 | m+1,h=>by
  have ih:=zFj all m (by omega)
  rw [List.take_succ_eq_append_getElem (by omega)]
  show (zJi (insTo all m) (all.getD m dR)).Perm _
  refine (zLM _ _).trans ((ih.cons _).trans ?_)
  rw [zAF all m (by omega)]
  exact (List.perm_append_singleton _ _).symm
theorem flat_len:∀ (tabs:List TabI),(∀ t∈tabs,TabRight t)→tabs.length≤(tabs.flatMap (·.rows)).length
 | [],_=>Nat.zero_le _
 | t :: tabs,h=>by
  have:=flat_len tabs fun x hx=>h x (List.mem_cons_of_mem _ hx)
  have:=(h t (by simp)).one
  rw [List.flatMap_cons,List.length_append,List.length_cons]
  omega
theorem TogAt.stat {w:World} {T G:Option Addr} {l:List TabX} {tabs:List TabI} {Y:Wd} (h:TogAt w T l tabs) (hY:Y.rows=insTo (tabs.flatMap (·.rows)) (tabs.flatMap (·.rows)).length) (hG:IntsL w G Y.gens) (h0:(zBB l tabs Y).1=0):StAt w T G tabs Y∧l.length=tabs.length∧zBB l tabs Y=(0,0)∧zKA l tabs Y=Y:=by
 have hn:=h.n
 have hlen:l.length=tabs.length:=by
  rcases Nat.lt_or_ge tabs.length l.length with hlt | hge
  ·unfold zBB at h0
   rw [if_pos hlt] at h0
   exact absurd h0 (h.bad hlt)
  ·omega
 have hE:zBB l tabs Y=((zP Y).1,0):=by unfold zBB;rw [if_neg (by omega)]
 have hw:(zP Y).1=0:=by rw [hE] at h0;exact h0
 have hr:=(zf Y).1 hw
 have hp:(tabs.flatMap (·.rows)).Perm Y.rows:=by
  rw [hY]
  have:=zFj (tabs.flatMap (·.rows)) _ (Nat.le_refl _)
  rw [List.take_length] at this
  exact this.symm
 have hfl:=flat_len tabs h.right
 have hrows:=(zk hw).1
 have hpl:=hp.length_eq
 refine ⟨⟨fun j hj=>?_,hG,hr,h.right,fun j hj=>?_,hp,by omega⟩,hlen,by rw [hE,hw],by unfold zKA;rw [if_pos h0]⟩
 ·obtain ⟨b,o,e,A,c,C,cc,ht⟩:=h.tbs j (by omega)
  rw [h.eq j hj] at ht
  exact ⟨b,o,e,A,c,C,cc,ht.i⟩
 ·have hz:=h.ok (j+1) hj
  unfold zDz at hz
  rw [show j+1 - 1=j from rfl,h.eq (j+1) hj,h.eq j (by omega),if_pos (h.right _ (List.getElem_mem hj)).ok] at hz
  by_cases hc:(toX (tabs[j]'(by omega))).has<(toX tabs[j+1]).has
  ·exact hc
  ·rw [if_neg (fun e=>e.elim (fun e=>by omega) hc)] at hz
   omega
end Go.Proofs.YtnbleebilmghcabGreat
namespace Go.Proofs.YtnbleebilmghcabGreat
open Go Go.RowKit
def zCd (x:TabX):TabI:=⟨x.has,(List.range x.bs.length).map fun j=>⟨(x.bs.getD j (0,0)).1,(x.bs.getD j (0,0)).2,x.has,fun p=>if tb x.has p=true then (x.cols.getD (zO x.has p).length []).getD j 0 else 0⟩⟩
theorem zOn (has:Int) (h:zAR has=true) (k:Nat) (hk:k<(zO has 8).length):∃ p:Nat,p<8∧(zO has 8).getD k 0=(p:Int)∧tb has p=true∧(zO has p).length=k:=by
 obtain ⟨m,rfl⟩:=Int.eq_ofNat_of_zero_le (zCg h).1
 have h1:=(zCg h).2
 have key:∀ m:Fin 256,∀ k:Fin 8,k.val<(zO (m.val:Int) 8).length→∃ p:Fin 8,(zO (m.val:Int) 8).getD k.val 0=(p.val:Int)∧tb (m.val:Int) p.val=true∧(zO (m.val:Int) p.val).length=k.val:=by decide +kernel
 have ml:=zBs (m:Int) 8
 obtain ⟨p,h1,h2,h3⟩:=key ⟨m,by omega⟩ ⟨k,by omega⟩ hk
 exact ⟨p.val,p.isLt,h1,h2,h3⟩
theorem zOm (has:Int) (h:zAR has=true) (p:Nat) (hp:p<8) (ht:tb has p=true):(zO has p).length<(zO has 8).length∧zBy has (p:Int)=true:=by
 obtain ⟨m,rfl⟩:=Int.eq_ofNat_of_zero_le (zCg h).1
 have h1:=(zCg h).2
 have key:∀ m:Fin 256,∀ p:Fin 8,tb (m.val:Int) p.val=true→(zO (m.val:Int) p.val).length<(zO (m.val:Int) 8).length∧zBy (m.val:Int) (p.val:Int)=true:=by decide +kernel
 exact key ⟨m,by omega⟩ ⟨p,hp⟩ ht
theorem zIH (n:Nat) (cs:List (List Int)):∀ m k,zBM n cs m k=0→∀ i,k≤i→i<k+m→wcF n (cs.getD i [])=0
 | 0,k,_,i,h1,h2=>by omega
 | m+1,k,h,i,h1,h2=>by
  rw [zBM] at h
  by_cases hc:wcF n (cs.getD k [])=0
  ·rw [if_pos hc] at h
   rcases Nat.lt_or_ge k i with hk | hk
   ·exact zIH n cs m (k+1) h i hk (by omega)
   ·obtain rfl:i=k:=by omega
    exact hc
  ·rw [if_neg hc] at h
   exact absurd h hc
theorem zOO {x:TabX} (h:wtF x=0):zAR x.has=true∧0<x.bs.length∧x.cols.length=(zO x.has 8).length∧(∀ k,k<x.cols.length→(x.cols.getD k []).length=x.bs.length∧∀ j,j<x.bs.length→zBY ((x.cols.getD k []).getD j 0)=true)∧(∀ j,j<x.bs.length→1≤j→(x.bs.getD (j - 1) (0,0)).1<(x.bs.getD j (0,0)).1):=by
 unfold wtF at h
 by_cases h1:zAR x.has=false
 ·rw [if_pos h1] at h;omega
 rw [if_neg h1] at h
 by_cases h2:x.bs.length=0∨x.cols.length≠(zO x.has 8).length
 ·rw [if_pos h2] at h;omega
 rw [if_neg h2] at h
 have h2:=not_or.1 h2
 by_cases h3:zBM x.bs.length x.cols x.cols.length 0=0
 ·rw [if_pos h3] at h
  have h4:zDm x.bs=true:=by
   cases e:zDm x.bs
   ·rw [e] at h;simp at h
   ·rfl
  refine ⟨by simpa using h1,by omega,by simpa using h2.2,fun k hk=>?_,of_decide_eq_true h4⟩
  have hw:=zIH _ _ _ _ h3 k (Nat.zero_le _) (by omega)
  unfold wcF at hw
  by_cases h5:(x.cols.getD k []).length=x.bs.length
  ·rw [if_pos h5] at hw
   refine ⟨h5,?_⟩
   by_cases h6:∀ j,j<(x.cols.getD k []).length→zBY ((x.cols.getD k []).getD j 0)=true
   ·exact fun j hj=>h6 j (by omega)
   ·rw [if_neg h6] at hw;omega
  ·rw [if_neg h5] at hw;omega
 ·rw [if_neg h3] at h;exact absurd h h3
theorem zBT (x:TabX):(zCd x).rows.length=x.bs.length:=by simp [zCd]
theorem zDu (x:TabX) {j:Nat} (hj:j<x.bs.length):(zCd x).rows[j]'(by rw [zBT];exact hj)=⟨(x.bs.getD j (0,0)).1,(x.bs.getD j (0,0)).2,x.has,fun p=>if tb x.has p=true then (x.cols.getD (zO x.has p).length []).getD j 0 else 0⟩:=by simp [zCd]
theorem zJm {x:TabX} (h:wtF x=0) (hf:FewX x):TabRight (zCd x):=by
 obtain ⟨h1,h2,h3,h4,h5⟩:=zOO h
 refine ⟨h1,by rw [zBT];exact h2,by rw [zBT];exact hf.b,fun r hr=>?_,fun j hj=>?_⟩
 ·obtain ⟨j,hj,rfl⟩:=List.getElem_of_mem hr
  rw [zBT] at hj
  rw [zDu x hj]
  refine ⟨rfl,?_⟩
  unfold rvB zGv
  rw [Bool.and_eq_true,List.all_eq_true]
  refine ⟨h1,fun p hp=>?_⟩
  have hp:=List.mem_range.1 hp
  unfold okV
  dsimp only
  by_cases ht:tb x.has p=true
  ·rw [if_pos ht,Bool.and_eq_true,Bool.or_eq_true]
   obtain ⟨g1,g2⟩:=zOm x.has h1 p hp ht
   exact ⟨(h4 _ (by omega)).2 j hj,.inr g2⟩
  ·rw [if_neg ht];rfl
 ·rw [zBT] at hj
  rw [List.getD_eq_getElem?_getD,List.getD_eq_getElem?_getD,List.getElem?_eq_getElem (by rw [zBT];omega),List.getElem?_eq_getElem (by rw [zBT];omega)]
  show ((zCd x).rows[j]'_).ix<((zCd x).rows[j+1]'_).ix
  rw [zDu x (by omega),zDu x hj]
  exact h5 (j+1) hj (by omega)
theorem zNW {x:TabX} (h:wtF x=0):toX (zCd x)=x:=by
 obtain ⟨h1,h2,h3,h4,_⟩:=zOO h
 have hb:bsV (zCd x)=x.bs:=by
  refine List.ext_getElem (by rw [zCf,zBT]) fun j j1 j2=>?_
  simp only [bsV,List.getElem_map]
  rw [zDu x j2,List.getD_eq_getElem?_getD,List.getElem?_eq_getElem j2]
  rfl
 have hc:(List.range (zO (zCd x).has 8).length).map (zGV (zCd x))=x.cols:=by
  refine List.ext_getElem (by simp [zCd,h3]) fun k k1 k2=>?_
  rw [List.getElem_map,List.getElem_range]
  obtain ⟨p,p8,hp,ht,hk⟩:=zOn x.has h1 k (by omega)
  have hck:=(h4 k k2).1
  have hg:x.cols.getD k []=x.cols[k]:=by rw [List.getD_eq_getElem?_getD,List.getElem?_eq_getElem k2];rfl
  rw [hg] at hck
  refine List.ext_getElem (by rw [zBU,zBT,hck]) fun j j1 j2=>?_
  have hj:j<x.bs.length:=by omega
  simp only [zGV,List.getElem_map]
  rw [zDu x hj,show (zCd x).has=x.has from rfl,hp,Int.toNat_natCast]
  dsimp only
  rw [if_pos ht,hk,hg,List.getD_eq_getElem?_getD,List.getElem?_eq_getElem j2]
  rfl
 unfold toX
 rw [hb,hc]
 rfl
theorem zHE (l:List TabX):∀ m,m≤l.length→(∀ i,i<m→zDz l i=0)∨∃ n,n<m∧(∀ i,i<n→zDz l i=0)∧zDz l n≠0
 | 0,_=>.inl fun i hi=>by omega
 | m+1,hm=>by
  rcases zHE l m (by omega) with h | ⟨n,h1,h2⟩
  ·by_cases hz:zDz l m=0
   ·exact .inl fun i hi=>by
     rcases Nat.lt_or_ge i m with h' | h'
     ·exact h i h'
     ·obtain rfl:i=m:=by omega
      exact hz
   ·exact .inr ⟨m,by omega,h,hz⟩
  ·exact .inr ⟨n,by omega,h2⟩
theorem zGX {l:List TabX} {i:Nat} (h:zDz l i=0):wtF (l.getD i dT)=0:=by
 unfold zDz at h
 by_cases hz:wtF (l.getD i dT)=0
 ·exact hz
 ·rw [if_neg hz] at h;exact h
theorem zOR {w:World} {T:Option Addr} {l:List TabX} (hT:TabsX w T l) (hl:l.length≤4194304) (hf:∀ i,i<l.length→FewX (l.getD i dT)):∃ n,n≤l.length∧TogAt w T l ((List.range n).map fun i=>zCd (l.getD i dT)):=by
 obtain ⟨n,hn,h1,h2⟩:∃ n,n≤l.length∧(∀ i,i<n→zDz l i=0)∧(n<l.length→zDz l n≠0):=by
  rcases zHE l l.length (Nat.le_refl _) with h | ⟨n,h1,h2,h3⟩
  ·exact ⟨l.length,Nat.le_refl _,h,fun h=>by omega⟩
  ·exact ⟨n,by omega,h2,fun _=>h3⟩
 have hln:((List.range n).map fun i=>zCd (l.getD i dT)).length=n:=by simp
 refine ⟨n,hn,hT,hl,hf,by rw [hln];exact hn,fun i hi=>?_,fun t ht=>?_,fun i hi=>h1 i (by rw [hln] at hi;exact hi),by rw [hln];exact h2⟩
 ·rw [List.getElem_map,List.getElem_range]
  rw [hln] at hi
  exact (zNW (zGX (h1 i hi))).symm
 ·obtain ⟨i,hi,rfl⟩:=List.mem_map.1 ht
  have hi:=List.mem_range.1 hi
  exact zJm (zGX (h1 i hi)) (hf i (by omega))
end Go.Proofs.YtnbleebilmghcabGreat
