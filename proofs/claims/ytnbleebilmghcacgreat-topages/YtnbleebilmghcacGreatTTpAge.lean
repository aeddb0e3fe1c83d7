/- The law TopAges. -/
import Derived.Test.YtnbleebilmghcacGreatTTpTwo
import Derived.Test.YtnbleebilmghcacGreatTTaMath
set_option linter.all false
set_option maxHeartbeats 2000000
set_option maxRecDepth 8000
namespace Go.Proofs.YtnbleebilmghcacGreat
open Go Go.RowKit
attribute [local go_sem ↓] Go.wp_at_zero Go.wp_at_succ
theorem R2.pushN {B:Nat} {v u:Value} {la lb:List DoI} {W W1:World} (h:R2 B v u la lb W) (ds:List DoI) {g c:Nat} (ho:W1.ownsRow B 46 12 (.slice (some ⟨g,0,none⟩) (la.length+ds.length) c) (la.length+ds.length) (zBO zAb la++zBO zAb ds)) (hg:W.grownBy W1 v.ownBlock) (hw:some g=v.ownBlock∨g=W.heap.size) (ha:∀ d∈ds,Act1 B W d):R2 B (.slice (some ⟨g,0,none⟩) (la.length+ds.length) c) u (la++ds) lb W1:=by
 refine ⟨?_,zCi h.m (Tw.of_grown (av:=fun b=>v.ownBlock=some b) hg (fun _ h=>h)) (fun b h1 h2=>h.ne b h2 h1),fun b h1 h2=>?_,fun x hx=>?_,fun x hx=>(h.b x hx).grown h.l hg⟩
 ·rw [show zBO zAb (la++ds)=zBO zAb la++zBO zAb ds by simp [zBO],List.length_append]
  exact ho
 ·have e:g=b:=Option.some.inj h1
  subst e
  rcases hw with hw | hw
  ·exact h.ne g hw.symm h2
  ·have:=(h.m.lt g h2).2
   omega
 ·rcases List.mem_append.1 hx with hx | hx
  ·exact (h.a x hx).grown h.l hg
  ·exact (ha x hx).grown h.l hg
theorem dos_new (W:World) (ds:List DoI):∀ j u,(zBO zAb ds)[j]?=some u→(W.alloc (.cells (zBO zAb ds).toArray 46)).cell? ((⟨W.heap.size,0,none⟩:Addr).add j)=some u:=fun j u hj=>by
 have h:=Bxs.start W [(zBO zAb ds,46)]
 have:=h.cell 0 rfl j hj
 rw [Nat.add_zero] at this
 rw [Addr.add_mid,Nat.zero_add]
 exact this
theorem dos_one (ds:List DoI):∀ u∈zBO zAb ds,u.oneCell'=true:=fun u hu=>by
 obtain ⟨d,_,hd⟩:=List.mem_flatMap.1 hu
 exact zCc d u hd
theorem all_play {B M g c:Nat} {u:Value} {l lb:List DoI} {W:World} (hR:R2 B (.slice (some ⟨g,0,none⟩) l.length c) u l lb W) (hM:Bxs M [([.int .i64 255,.int .i64 255,.bool true],48)] W) (hl:l.length≤80) (h1:0<l.length) :
  Calls Tryz.prog 13 #[.slice (some ⟨M,0,none⟩) 1 1,.slice (some ⟨g,0,none⟩) l.length c] W fun e w'=>∃ (T:Option Addr) (t tc:Nat) (G:Option Addr) (q gc:Nat) (M':Option Addr) (m mc:Nat) (S:Option Addr) (s sc:Nat) (b off cc:Nat),e=.returned (.tuple #[.agg #[.slice T t tc,.slice G q gc,.slice M' m mc,.slice S s sc],.slice (some ⟨b,off,none⟩) l.length cc,.agg #[.int .i64 0,.int .i64 0]])∧(∀ i x,(zBJ mAll l).1[i]?=some x→w'.cell? ⟨b,off+i*5+4,none⟩=some (.int .i64 x.n)∧∃ A ca,w'.cell? ⟨b,off+i*5+3,none⟩=some (.slice A x.bs.length ca))∧Below W.heap.size W w':=by
 refine (play_own (some ⟨M,0,none⟩) 1 mAll (some ⟨g,0,none⟩) c l W (all_mods hM) hR.dos (by decide +kernel) hl).mono ?_
 rintro e w' ⟨T,tc,G,gc,M',mc',SA,sc,CA,cc,ss,la,rfl,_,_,_,_,hAN,hla,hb,hC⟩
 have hll:la.length=l.length:=by
  have h1:=congrArg List.length hla
  have h2:=playTo_len mAll l ([],h0)
  rw [List.length_map] at h1
  unfold zBJ at h1
  rw [h1,h2]
  simp
 obtain ⟨b,off,rfl,_⟩:=hAN.at_ 0 _ (List.getElem?_eq_getElem (by rw [hll];exact h1))
 rw [hll]
 refine ⟨T,_,tc,G,_,gc,M',_,mc',SA,_,sc,b,off,cc,rfl,fun i x hx=>?_,hb⟩
 obtain ⟨y,hy,rfl⟩:∃ y,la[i]?=some y∧y.1=x:=by
  rw [←hla,List.getElem?_map] at hx
  cases h:la[i]? with
  | none=>rw [h] at hx;cases hx
  | some y=>rw [h] at hx;exact ⟨y,rfl,Option.some.inj hx⟩
 obtain ⟨b',off',he,hc⟩:=hAN.at_ _ _ hy
 injection he with he
 injection he with e1 e2 e3
 subst e1
 subst e2
 exact ⟨hc 4 _ rfl,_,_,hc 3 _ rfl⟩
theorem w64_id {x:Int} (h0:-1000000≤x) (h1:x≤1000000):wrap64 x=x:=by
 unfold RowKit.wrap64
 omega
theorem agP_succ (n g t:Nat):agP n g (t+1)=agP n g t++[tickD]:=by
 unfold agP
 simp [List.replicate_succ',List.append_assoc]
theorem tage_o0 (n tk:Int)  (h:n<0) (w:World) :
  Calls Tryz.prog 9 #[.int .i64 n,.int .i64 tk] w fun e w'=>e=.returned (.bool true)∧Below w.heap.size w w':=by
 have d0:decide (n<0)=true:=decide_eq_true h
 clear h
 go_enter Tryz.func9,Tryz.ntmps9
 go_wp2_with fail
 go_at_call 20
 refine (alive8_any w).mono ?_
 rintro e w0 ⟨rfl,hb0⟩
 have HL0:=zB hb0
 clear hb0
 go_wp2
 go_ret
 exact ⟨rfl,zA HL0⟩
theorem tage_o1 (n tk:Int) (n0:¬ n<0) (h:20<n) (w:World) :
  Calls Tryz.prog 9 #[.int .i64 n,.int .i64 tk] w fun e w'=>e=.returned (.bool true)∧Below w.heap.size w w':=by
 have d0:decide (n<0)=false:=decide_eq_false n0
 have d1:decide (20<n)=true:=decide_eq_true h
 clear h n0
 go_enter Tryz.func9,Tryz.ntmps9
 go_wp2_with fail
 go_at_call 20
 refine (alive8_any w).mono ?_
 rintro e w0 ⟨rfl,hb0⟩
 have HL0:=zB hb0
 clear hb0
 go_wp2
 go_ret
 exact ⟨rfl,zA HL0⟩
theorem tage_o2 (n tk:Int) (n0:¬ n<0) (n1:¬ 20<n) (h:tk<0) (w:World) :
  Calls Tryz.prog 9 #[.int .i64 n,.int .i64 tk] w fun e w'=>e=.returned (.bool true)∧Below w.heap.size w w':=by
 have d0:decide (n<0)=false:=decide_eq_false n0
 have d1:decide (20<n)=false:=decide_eq_false n1
 have d2:decide (tk<0)=true:=decide_eq_true h
 clear h n0 n1
 go_enter Tryz.func9,Tryz.ntmps9
 go_wp2_with fail
 go_at_call 20
 refine (alive8_any w).mono ?_
 rintro e w0 ⟨rfl,hb0⟩
 have HL0:=zB hb0
 clear hb0
 go_wp2
 go_ret
 exact ⟨rfl,zA HL0⟩
theorem tage_o3 (n tk:Int) (n0:¬ n<0) (n1:¬ 20<n) (n2:¬ tk<0) (h:20<tk) (w:World) :
  Calls Tryz.prog 9 #[.int .i64 n,.int .i64 tk] w fun e w'=>e=.returned (.bool true)∧Below w.heap.size w w':=by
 have d0:decide (n<0)=false:=decide_eq_false n0
 have d1:decide (20<n)=false:=decide_eq_false n1
 have d2:decide (tk<0)=false:=decide_eq_false n2
 have d3:decide (20<tk)=true:=decide_eq_true h
 clear h n0 n1 n2
 go_enter Tryz.func9,Tryz.ntmps9
 go_wp2_with fail
 go_at_call 20
 refine (alive8_any w).mono ?_
 rintro e w0 ⟨rfl,hb0⟩
 have HL0:=zB hb0
 clear hb0
 go_wp2
 go_ret
 exact ⟨rfl,zA HL0⟩
theorem tage_ok (n t:Nat) (hn:n≤20) (ht:t≤20) (w:World) :
  Calls Tryz.prog 9 #[.int .i64 (n:Int),.int .i64 (t:Int)] w fun e w'=>e=.returned (.bool true)∧Below w.heap.size w w':=by
 have d0:decide ((n:Int)<0)=false:=decide_eq_false (by omega)
 have d1:decide ((20:Int)<(n:Int))=false:=decide_eq_false (by omega)
 have d2:decide ((t:Int)<0)=false:=decide_eq_false (by omega)
 have d3:decide ((20:Int)<(t:Int))=false:=decide_eq_false (by omega)
 obtain ⟨i46,hi46,hz46,hs46,hb46⟩:=info_parts info46
 have HI:=zB hi46
 have HZ:=zB hz46
 have HS:=zB hs46
 have HBB:=zB hb46
 have HAL:=zB tall_any
 have HSP:=zB (tspawn_any 4 0)
 have HAK:=zB (task_any 4 2)
 have HAK0:=zB (task_any 0 2)
 clear hi46 hz46 hs46 hb46
 go_enter Tryz.func9,Tryz.ntmps9
 go_wp2_with fail
 go_at_call 20
 refine (alive8_any w).mono ?_
 rintro e w0 ⟨rfl,hb0⟩
 have HL0:=zB hb0
 clear hb0
 go_wp2_with fail
 go_loopw [5,27] (fun v x wr=>∃ k:Nat,k≤n∧x=.int .i64 (k:Int)∧R2 w0.heap.size v (.slice none 0 0) (List.replicate k (spD 4 0)) [] wr∧Below w0.heap.size w0 wr) (fun _ x _=>n - (intOf x).toNat)
 case atStart=>exact ⟨0,Nat.zero_le _,rfl,R2.nil _ _,Below.refl _ _⟩
 case round =>
  obtain ⟨k,hk,rfl,hr,hbw⟩:=hrel
  have HLN:=zB (show (List.replicate k (spD 4 0)).length=k by simp)
  by_cases hlt:k<n
  ·have k1:(k:Int)<(n:Int):=by omega
   have HR:=zB hr
   have HBW:=zB hbw
   clear hr hbw
   go_wp2_with fail
   go_at_call 21
   refine (zA HSP wr).mono ?_
   rintro e w1 ⟨rfl,hb1⟩
   have HNS:=zB (do_new w1 (spD 4 0))
   have HA1:=zB (act1_sp w0.heap.size (w1.alloc (.cells (zAb (spD 4 0)).toArray 46)) 4 0)
   have HRB:=zB ((zA HR).below hb1)
   have HBB2:=zB ((zA HBW).trans (hb1.mono (zA HBW).size))
   have HSZ2:=zB (zA HBB2).size
   clear hb1 HR HBW
   go_wp2_with (first
    | (at_builtin;refine zZ _ rfl (.tmp 29) (.tmp 31) 23 rfl w0.heap.size 46 i46 _ 12 112 Tryz.underlying23 (zA HI) (zA HZ) (zA HS) (zA HBB) rfl (by decide) _ _ _ rfl ((zA HRB).below (zAS _ _)).l ⟨_,0,none⟩ 1 1 (zAb (spD 4 0)) rfl rfl (zA HNS) (zCc _) (by unfold maxLen;rw [zA HLN];omega) (by rw [zA HLN];omega) (Nat.le_trans (zA HSZ2) (zAS _ _).size) (by omega) ?_;intro gw2 cw2 w2 ho hg hw;have HRC:=zB (((zA HRB).below (zAS _ _)).push ho hg hw (zA HA1));have HF:=zB (((zAS w1 _).mono (zA HSZ2)).trans (((zA HRB).below (zAS _ _)).from (Nat.le_trans (zA HSZ2) (zAS _ _).size) hg));clear ho hg hw))
   go_roundw
   case rel=>exact ⟨k+1,by omega,by go_num,by have:=zA HRC;rw [zA HLN] at this;rw [List.replicate_succ'];exact this,(zA HBB2).trans (zA HF)⟩
   case measure=>simp [intOf];omega
  ·obtain rfl:k=n:=by omega
   obtain ⟨w1,rfl⟩:∃ w1,w1=wr:=⟨_,rfl⟩
   have dk:decide ((k:Int)<(k:Int))=false:=decide_eq_false (by omega)
   have HR:=zB hr
   have HBW:=zB hbw
   clear hr hbw
   obtain ⟨W2,hW2,hbx,hX2⟩:=zAL w1 [([.int .i64 4,.int .i64 2,.int .i64 0,.int .i64 1],71)]
   have HW2:Hid (w1.alloc (.cells #[.int .i64 4,.int .i64 2,.int .i64 0,.int .i64 1] 71)=W2):=zB hW2
   clear hW2
   have HSY:=zB (tsys_any 4 (some ⟨w1.heap.size,0,none⟩) 1 1)
   go_wp2_with fail
   go_at_call 22
   rw [zA HW2]
   refine (zA HSY W2).mono ?_
   rintro e w3 ⟨rfl,hb3⟩
   have hbb:=hbx.trans (hb3.mono hbx.size)
   have HNS:=zB (do_new w3 (sysD 4 ⟨4,2,0,1⟩ w1.heap.size))
   have HA1:=zB (act1_sys (B:=w0.heap.size) (need:=4) (y:=⟨4,2,0,1⟩) (zA HBW).size ((hX2.below hb3).below (zAS _ (.cells (zAb (sysD 4 ⟨4,2,0,1⟩ w1.heap.size)).toArray 46))))
   have HRB:=zB ((zA HR).below hbb)
   have HBB2:=zB ((zA HBW).trans (hbb.mono (zA HBW).size))
   have HSZ2:=zB (zA HBB2).size
   clear hbx hX2 hbb hb3 HSY HR HBW
   generalize w1.heap.size=ga at *
   go_wp2_with (first
    | (at_builtin;refine zZ _ rfl (.tmp 34) (.tmp 38) 23 rfl w0.heap.size 46 i46 _ 12 112 Tryz.underlying23 (zA HI) (zA HZ) (zA HS) (zA HBB) rfl (by decide) _ _ _ rfl ((zA HRB).below (zAS _ _)).l ⟨_,0,none⟩ 1 1 (zAb (sysD 4 ⟨4,2,0,1⟩ ga)) rfl rfl (zA HNS) (zCc _) (by unfold maxLen;rw [zA HLN];omega) (by rw [zA HLN];omega) (Nat.le_trans (zA HSZ2) (zAS _ _).size) (by omega) ?_;intro gw4 cw4 w4 ho hg hw;have HRC:=zB (((zA HRB).below (zAS _ _)).push ho hg hw (zA HA1));have HF:=zB (((zAS w3 _).mono (zA HSZ2)).trans (((zA HRB).below (zAS _ _)).from (Nat.le_trans (zA HSZ2) (zAS _ _).size) hg));clear ho hg hw))
   have HR4:Hid (R2 w0.heap.size (.slice (some ⟨gw4,0,none⟩) (k+1) cw4) (.slice none 0 0) (agP k ga 0) [] w4):=zB (by have:=zA HRC;rw [zA HLN] at this;unfold agP;rw [List.replicate_zero,List.append_nil];exact this)
   have HB4:=zB ((zA HBB2).trans (zA HF))
   clear HNS HA1 HRB HBB2 HSZ2 HF HRC
   go_wp2_with fail
   go_loopw [5,41] (fun v x wr=>∃ j:Nat,j≤t∧x=.int .i64 (j:Int)∧R2 w0.heap.size v (.slice none 0 0) (agP k ga j) [] wr∧Below w0.heap.size w0 wr) (fun _ x _=>t - (intOf x).toNat)
   case atStart=>exact ⟨0,Nat.zero_le _,rfl,zA HR4,zA HB4⟩
   case round =>
    obtain ⟨j,hj,rfl,hr,hbw⟩:=hrel
    clear HR4 HB4
    have HLP:=zB (agP_len k ga j)
    by_cases hlt2:j<t
    ·have k1:(j:Int)<(t:Int):=by omega
     obtain ⟨w5,rfl⟩:∃ w5,w5=wr:=⟨_,rfl⟩
     have HNS:=zB (do_new w5 tickD)
     have HA1:=zB (act1_tick w0.heap.size (w5.alloc (.cells (zAb tickD).toArray 46)))
     have HRB:=zB hr
     have HBB2:=zB hbw
     have HSZ2:=zB hbw.size
     clear hr hbw
     go_wp2_with (first
      | (at_builtin;refine zZ _ rfl (.tmp 43) (.tmp 45) 23 rfl w0.heap.size 46 i46 _ 12 112 Tryz.underlying23 (zA HI) (zA HZ) (zA HS) (zA HBB) rfl (by decide) _ _ _ rfl ((zA HRB).below (zAS _ _)).l ⟨_,0,none⟩ 1 1 (zAb tickD) rfl rfl (zA HNS) (zCc _) (by unfold maxLen;rw [zA HLP];omega) (by rw [zA HLP];omega) (Nat.le_trans (zA HSZ2) (zAS _ _).size) (by omega) ?_;intro gw6 cw6 w6 ho hg hw;have HRC:=zB (((zA HRB).below (zAS _ _)).push ho hg hw (zA HA1));have HF:=zB (((zAS w5 _).mono (zA HSZ2)).trans (((zA HRB).below (zAS _ _)).from (Nat.le_trans (zA HSZ2) (zAS _ _).size) hg));clear ho hg hw))
     go_roundw
     case rel=>exact ⟨j+1,by omega,by go_num,by rw [agP_succ];exact zA HRC,(zA HBB2).trans (zA HF)⟩
     case measure=>simp [intOf];omega
    ·obtain rfl:j=t:=by omega
     obtain ⟨w5,rfl⟩:∃ w5,w5=wr:=⟨_,rfl⟩
     have dj:decide ((j:Int)<(j:Int))=false:=decide_eq_false (by omega)
     have HR:=zB hr
     have HBW:=zB hbw
     clear hr hbw
     go_wp2_with fail
     go_at_call 25
     refine (zA HAK w5).mono ?_
     rintro e w6 ⟨rfl,hb6⟩
     obtain ⟨W7,hW7,hbx,hX7⟩:=zAL w6 [([.int .i64 6,.int .i64 0,.int .i64 0,.int .i64 0],71)]
     have HW7:Hid (w6.alloc (.cells #[.int .i64 6,.int .i64 0,.int .i64 0,.int .i64 0] 71)=W7):=zB hW7
     clear hW7
     have HSY:=zB (tsys_any 4 (some ⟨w6.heap.size,0,none⟩) 1 1)
     go_wp2_with fail
     go_at_call 22
     rw [zA HW7]
     refine (zA HSY W7).mono ?_
     rintro e w8 ⟨rfl,hb8⟩
     go_wp2_with fail
     go_at_call 25
     refine (zA HAK0 w8).mono ?_
     rintro e w9 ⟨rfl,hb9⟩
     have hb69:=hb8.trans (hb9.mono hb8.size)
     have hb79:=hbx.trans (hb69.mono hbx.size)
     have hbb:=hb6.trans (hb79.mono hb6.size)
     have hgb:w0.heap.size≤w6.heap.size:=Nat.le_trans (zA HBW).size hb6.size
     have HNS:=zB (dos_new w9 [akD 4 2,sysD 4 ⟨6,0,0,0⟩ w6.heap.size,tickD,akD 0 2])
     have HA1:Hid (∀ d∈[akD 4 2,sysD 4 ⟨6,0,0,0⟩ w6.heap.size,tickD,akD 0 2],Act1 w0.heap.size (w9.alloc (.cells (zBO zAb [akD 4 2,sysD 4 ⟨6,0,0,0⟩ w6.heap.size,tickD,akD 0 2]).toArray 46)) d):=zB (fun d hd=>by
      simp only [List.mem_cons,List.not_mem_nil,or_false] at hd
      rcases hd with rfl | rfl | rfl | rfl
      ·exact act1_ask _ _ _ _
      ·exact act1_sys hgb ((hX7.below hb69).below (zAS _ _))
      ·exact act1_tick _ _
      ·exact act1_ask _ _ _ _)
     have HRB:=zB ((zA HR).below hbb)
     have HBB2:=zB ((zA HBW).trans (hbb.mono (zA HBW).size))
     have HSZ2:=zB (zA HBB2).size
     clear hbx hX7 hbb hb6 hb8 hb9 hb69 hb79 hgb HSY HR HBW
     generalize w6.heap.size=gb at *
     go_wp2_with (first
      | (at_builtin;refine zZ _ rfl (.tmp 48) (.tmp 55) 23 rfl w0.heap.size 46 i46 _ 12 112 Tryz.underlying23 (zA HI) (zA HZ) (zA HS) (zA HBB) rfl (by decide) _ _ _ rfl ((zA HRB).below (zAS _ _)).l ⟨_,0,none⟩ 4 4 (zBO zAb [akD 4 2,sysD 4 ⟨6,0,0,0⟩ gb,tickD,akD 0 2]) rfl rfl (zA HNS) (dos_one _) (by unfold maxLen;rw [zA HLP];omega) (by rw [zA HLP];omega) (Nat.le_trans (zA HSZ2) (zAS _ _).size) (by omega) ?_;intro g10 c10 w10 ho hg hw;have HRC:=zB (((zA HRB).below (zAS _ _)).pushN [akD 4 2,sysD 4 ⟨6,0,0,0⟩ gb,tickD,akD 0 2] ho hg hw (zA HA1));have HF:=zB (((zAS w9 _).mono (zA HSZ2)).trans (((zA HRB).below (zAS _ _)).from (Nat.le_trans (zA HSZ2) (zAS _ _).size) hg));clear ho hg hw))
     have HB10:=zB ((zA HBB2).trans (zA HF))
     clear HNS HA1 HRB HBB2 HSZ2 HF
     go_wp2_with fail
     go_at_call 23
     refine (zA HAL w10).mono ?_
     rintro e w11 ⟨rfl,hM11,hb11⟩
     have hLL:(agL k ga j gb).length=k+1+j+4:=by unfold agL;rw [List.length_append,zA HLP];rfl
     have hPL:=all_play (l:=agL k ga j gb) (by unfold agL;rw [List.length_append];exact (zA HRC).below hb11) hM11 (by omega) (by omega)
     rw [hLL] at hPL
     have HPL:=zB hPL
     have HB11:=zB ((zA HB10).trans (hb11.mono (zA HB10).size))
     have HEND:=zB (ag_end k ga j gb hn ht)
     generalize zBJ mAll (agL k ga j gb)=pf at *
     clear hPL hLL hM11 hb11 HRC HB10 HAL HAK HAK0 HSP
     go_wp2_with fail
     rw [zA HLP]
     go_at_call 13
     refine (zA HPL).mono ?_
     rintro e w12 ⟨T,t1,tc,G,q1,gc,M',m1,mc,S,s1,sc,b,off,cc,rfl,hAN,hb12⟩
     obtain ⟨⟨x,hx,hx1,hx2⟩,y,hy,hy1⟩:=zA HEND
     obtain ⟨xn,XA,xc,xb⟩:=hAN _ _ hx
     obtain ⟨_,YA,yc,yb⟩:=hAN _ _ hy
     rw [hx1] at xb
     rw [hx2] at xn
     rw [hy1] at yb
     clear hx hx1 hx2 hy hy1 hAN HEND HPL
     obtain ⟨W13,hW13,hbx,hX13⟩:=zAL w12 [([.slice T t1 tc,.slice G q1 gc,.slice M' m1 mc,.slice S s1 sc],31),([.int .i64 0,.int .i64 0],35)]
     have HW13:Hid ((w12.alloc (.cells #[.slice T t1 tc,.slice G q1 gc,.slice M' m1 mc,.slice S s1 sc] 31)).alloc (.cells #[.int .i64 0,.int .i64 0] 35)=W13):=zB hW13
     clear hW13
     have HE:=zB ((zA HL0).trans (((zA HB11).trans ((hb12.trans (hbx.mono hb12.size)).mono (zA HB11).size)).mono (zA HL0).size))
     have xb:=zD hbx xb
     have xn:=zD hbx xn
     have yb:=zD hbx yb
     have q0:=hX13.cell 1 rfl 0 rfl
     have hmul:(k:Int)*(j:Int)≤400:=by
      have:=Int.mul_le_mul (show (k:Int)≤20 by omega) (show (j:Int)≤20 by omega) (by omega) (by omega)
      omega
     have hmul0:0≤(k:Int)*(j:Int):=Int.mul_nonneg (by omega) (by omega)
     have g4:wrap64 ((k:Int)*(j:Int))=(k:Int)*(j:Int):=w64_id (by omega) (by omega)
     have e1:IntKind.i64.wrap ((k:Int)*(j:Int))=(k:Int)*(j:Int):=i64_id (by omega) (by omega)
     have e2:IntKind.i64.wrap (((k+1+j+4:Nat):Int) - 4)=((k+1+j:Nat):Int):=by rw [i64_id (by omega) (by omega)];omega
     have e3:IntKind.i64.wrap (((k+1+j+4:Nat):Int) - 1)=((k+1+j+3:Nat):Int):=by rw [i64_id (by omega) (by omega)];omega
     have j0:(0:Int)≤((k+1+j:Nat):Int):=by omega
     have j1:((k+1+j:Nat):Int)<((k+1+j+4:Nat):Int):=by omega
     have j2:(0:Int)≤((k+1+j+3:Nat):Int):=by omega
     have j3:((k+1+j+3:Nat):Int)<((k+1+j+4:Nat):Int):=by omega
     clear hb12 hbx hX13 hmul hmul0 HB11 HL0 e2 e3 j0 j1 j2 j3
     go_upto_region 17 with fail
     rw [zA HW13]
     have hkk:k+1+j≤41:=by omega
     generalize k+1+j=kk at *
     have g1:wrap64 (kk:Int)=(kk:Int):=w64_id (by omega) (by omega)
     have g2:wrap64 ((kk:Int)+3)=(kk:Int)+3:=w64_id (by omega) (by omega)
     have g3:wrap64 ((kk:Int)+4 - 1)=(kk:Int)+3:=(w64_id (by omega) (by omega)).trans (by omega)
     have g5:((kk:Int)+3).toNat=kk+3:=by omega
     have g6:(kk:Int).toNat=kk:=by omega
     have f1:IntKind.i64.wrap ((kk:Int)+4 - 4)=(kk:Int):=by rw [i64_id (by omega) (by omega)];omega
     have f2:IntKind.i64.wrap ((kk:Int)+4 - 1)=((kk+3:Nat):Int):=by rw [i64_id (by omega) (by omega)];omega
     have f3:(kk:Int)<(kk:Int)+4:=by omega
     have f4:(kk:Int)+3<(kk:Int)+4:=by omega
     have f5:(0:Int)≤(kk:Int)+3:=by omega
     have f6:(0:Int)≤(kk:Int):=by omega
     go_wp2
     go_ret
     exact ⟨rfl,zA HE⟩
theorem tage_law (n tk:Int) (w:World) :
  Calls Tryz.prog 9 #[.int .i64 n,.int .i64 tk] w fun e w'=>e=.returned (.bool true)∧Below w.heap.size w w':=by
 by_cases h0:n<0
 ·exact tage_o0 n tk h0 w
 by_cases h1:20<n
 ·exact tage_o1 n tk h0 h1 w
 by_cases h2:tk<0
 ·exact tage_o2 n tk h0 h1 h2 w
 by_cases h3:20<tk
 ·exact tage_o3 n tk h0 h1 h2 h3 w
 obtain ⟨m,rfl⟩:∃ m:Nat,n=(m:Int):=⟨n.toNat,by omega⟩
 obtain ⟨t,rfl⟩:∃ t:Nat,tk=(t:Int):=⟨tk.toNat,by omega⟩
 exact tage_ok m t (by omega) (by omega) w
end Go.Proofs.YtnbleebilmghcacGreat
