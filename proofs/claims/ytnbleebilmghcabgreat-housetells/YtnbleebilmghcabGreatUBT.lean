/- The document's May answers what rule.May answers, of mods of right sets and right systems. -/
import Derived.Test.YtnbleebilmghcabGreatUAW
import Derived.Test.YtnbleebilmghcabGreatUBO
set_option linter.all false
set_option maxRecDepth 8000
set_option maxHeartbeats 4000000
open Go.Value renaming int→I,bool→Aj
open Go.IntKind renaming i64→K
open Option renaming none→N,some→O
open Go.Obj renaming cells→Al
open Go.Ending renaming returned→Ao
open Go.Proofs.Tryz renaming prog→Au
namespace Go.Proofs.YtnbleebilmghcabGreat
open Go Go.RowKit
attribute [local go_sem ↓] Go.wp_at_zero Go.wp_at_succ
structure YW(w:World)(b:Nat)(mr mu:Int)(ml:Bool)(al no r u:Int)(l:Bool)(W:World):Prop where
  bel:Below w.heap.size w W
  m0:W.cell? ⟨w.heap.size,0,N⟩=O (I K mr)
  m1:W.cell? ⟨w.heap.size,1,N⟩=O (I K mu)
  m2:W.cell? ⟨w.heap.size,2,N⟩=O (Aj ml)
  s1:W.cell? ⟨w.heap.size+1,1,N⟩=O (I K al)
  s2:W.cell? ⟨w.heap.size+1,2,N⟩=O (I K no)
  n0:W.cell? ⟨b,0,N⟩=O (I K r)
  n1:W.cell? ⟨b,1,N⟩=O (I K u)
  n3:W.cell? ⟨b,3,N⟩=O (Aj l)
theorem YW.below{w:World}{b:Nat}{mr mu al no r u:Int}{E l:Bool}{W W1:World}(h:YW w b mr mu E al no r u l W)(D:Below W.heap.size W W1):YW w b mr mu E al no r u l W1 :=
  ⟨h.bel.trans (D.mono h.bel.size),AW D h.m0,AW D h.m1,AW D h.m2,AW D h.s1,AW D h.s2,AW D h.n0,AW D h.n1,AW D h.n3⟩
def iO(mr mu al no r u:Int)(k:Nat):Bool:=!(((tb r k || tb al k || tb no k) && !tb mr k) || (tb u k && !tb mu k))
section
variable {mr mu al no r u:Int}
theorem Y7 (hmr:FV mr=true)(hmu:FV mu=true)(hal:FV al=true)(hno:FV no=true)(hr:FV r=true)(hu:FV u=true)(F l:Bool)(k:Nat)(D:k<8)(h:iO mr mu al no r u k=false):TJ mr mu F al no r u l=false:=by
  have H:=(JO r al hr hal).2
  cases E:TJ mr mu F al no r u l
  ·rfl
  · exfalso
    unfold TJ at E;rw[AP,AP]at E;have J:=(Q6 _ _ (JO _ no H hno).2 hmr).1 E.1 k D;have L:=(Q6 _ _ hu hmu).1 E.2.1 k D;rw[Lq _ _ H hno k D,Lq _ _ hr hal k D]at J;unfold iO at h;revert h J L
    cases tb r k <;>cases tb al k <;>cases tb no k <;>cases tb mr k <;>cases tb u k <;>cases tb mu k <;>simp
theorem bY (hmr:FV mr=true)(hmu:FV mu=true)(hal:FV al=true)(hno:FV no=true)(hr:FV r=true)(hu:FV u=true)(F l:Bool)(h:∀ k,k<8→iO mr mu al no r u k=true):TJ mr mu F al no r u l=(F || !l):=by
  have H:=(JO r al hr hal).2;have J:LG (bits .or K (bits .or K r al) no) mr=true:=(Q6 _ _ (JO _ no H hno).2 hmr).2 (fun k D E=>by
    rw[Lq _ _ H hno k D,Lq _ _ hr hal k D]at E;have:=h k D;unfold iO at this;revert this E
    cases tb r k <;>cases tb al k <;>cases tb no k <;>cases tb mr k <;>cases tb u k <;>cases tb mu k <;>simp)
  have L:LG u mu=true:=(Q6 _ _ hu hmu).2 (fun k D E=>by
    have:=h k D;unfold iO at this;revert this E
    cases tb r k <;>cases tb al k <;>cases tb no k <;>cases tb mr k <;>cases tb u k <;>cases tb mu k <;>simp)
  unfold TJ;rw[J,L];rfl
end
theorem ao(mr mu:Int)(M:Bool)(m al no:Int)(A:Option Addr)(len Y:Nat)(a:Nat→F')(w:World)(hmr:FV mr=true)(hmu:FV mu=true)(hal:FV al=true)(hno:FV no=true)(hl:len≤8)(Z:jA al a len)(hA:GZ w A len a):
    Calls Au 81 #[Y4 mr mu M,Gz m al no A len Y] w fun e w'=>e=Ao (Aj (Rx mr mu M al no a len))∧Below w.heap.size w w':=by
  have he:∀W1,Below w.heap.size w W1→Calls Au 121 #[Gz m al no A len Y] W1 fun e w'=>e=Ao (Ju al a len)∧Below W1.heap.size W1 w':=fun W1 h=>N6 m al no A len Y a W1 hal hl Z (hA.below h);unfold Rx Y4;unfold Ju Gz at *;have hr:=Lt a len;have hu:=Lm al a len Z;generalize Jo a len=r at *;generalize I7 a len=u at *;generalize J5 al a len=mv at *;generalize J6 a len=lf at *;have HF:=(fun k hk h=>Y7 (k:=k) hmr hmu hal hno hr hu M lf hk h);have HT:=(fun h=>bY hmr hmu hal hno hr hu M lf h);have HH:=(fun(t:Nat) (ht:t<8)=>And.intro (fun W=>IK r t W hr ht) (And.intro (fun W=>IK al t W hal ht) (And.intro (fun W=>IK no t W hno ht) (And.intro (fun W=>IK mr t W hmr ht) (And.intro (fun W=>IK u t W hu ht) (fun W=>IK mu t W hmu ht))))));clear hA Z hr hu hmr hmu hal hno;generalize E:TJ mr mu M al no r u lf=hw at *;clear E;go_enter Tryz.func81,Tryz.ntmps81
  go_wp2_with(first
    |(go_at_call 121;refine(he _ (by go_grown)).mono ?_;rintro e w1⟨rfl,hf⟩;obtain⟨p0,p1,p2,q1,q2,hx,hy,hg⟩:=Sb hf;have ha:=An hg;clear hf hg))
  have J:YW w w1.heap.size mr mu M al no r u lf (w1.alloc (Al #[I K r,I K u,Aj mv,Aj lf] 99)):=by
    have hb:Below w1.heap.size w1 (w1.alloc (Al #[I K r,I K u,Aj mv,Aj lf] 99)):=Fv.alloc Fu _;exact⟨(AN ha).trans (hb.mono (AN ha).size),AW hb p0,AW hb p1,AW hb p2,AW hb q1,AW hb q2,by simp,by simp,by simp⟩
  have D:=J;clear J p0 p1 p2 q1 q2 hx hy ha he;generalize w1.heap.size=b9 at *;go_loopw [9] (fun i wr=>∃t:Nat,t≤8∧i=I K t∧(∀k,k<t→iO mr mu al no r u k=true)∧YW w b9 mr mu M al no r u lf wr) (fun i _=>8 - (intOf i).toNat)
  case atStart=>exact⟨0,by omega,rfl,fun k hk=>by omega,D⟩
  case round =>
    clear D;obtain⟨t,ht,rfl,U,J⟩:=hrel;by_cases hh:t<8
    · have t0:(0:Int)≤(t:Int):=by omega
      have t1:(t:Int)<8:=(by omega);obtain⟨H1,H2,H3,H4,H5,H6⟩:=HH t hh;have hz:=(HF t hh);have hi:(iO mr mu al no r u t=!(((tb r t || tb al t || tb no t) && !tb mr t) || (tb u t && !tb mu t))):=rfl;have n0:=J.n0;have D:=J;clear HH HF HT J;generalize V:iO mr mu al no r u t=ok at *;have hB:=An V;clear V;generalize tb r t=b1 at *;generalize tb al t=b2 at *;generalize tb no t=b3 at *;generalize tb mr t=b4 at *;generalize tb u t=b5 at *;generalize tb mu t=b6 at *;have H1:=H1;have H2:=H2;have H3:=H3;have H4:=H4;have H5:=H5;have H6:=H6
      cases b1 <;>cases b2 <;>cases b3 <;>cases b4 <;>cases b5 <;>cases b6
      all_goals
        go_wp2_with(first
          |(go_at_call_of 61 r;refine(H1 _).mono ?_;rintro e w5⟨rfl,hj⟩;have F:=D.below hj;clear hj D n0;have s1:=F.s1;have m0:=F.m0;have n1:=F.n1;have D:=F;clear F)
          |(go_at_call_of 61 al;refine(H2 _).mono ?_;rintro e w6⟨rfl,hm⟩;have H:=D.below hm;clear hm D s1 m0 n1;have s2:=H.s2;have m0:=H.m0;have n1:=H.n1;have D:=H;clear H)
          |(go_at_call_of 61 no;refine(H3 _).mono ?_;rintro e w7⟨rfl,hn⟩;have L:=D.below hn;clear hn D s2 m0 n1;have m0:=L.m0;have n1:=L.n1;have D:=L;clear L)
          |(go_at_call_of 61 mr;refine(H4 _).mono ?_;rintro e w8⟨rfl,ho⟩;have hc:=D.below ho;clear ho D m0 n1;have n1:=hc.n1;have D:=hc;clear hc)
          |(go_at_call_of 61 u;refine(H5 _).mono ?_;rintro e w9⟨rfl,hp⟩;have hd:=D.below hp;clear hp D n1;have m1:=hd.m1;have D:=hd;clear hd)
          |(go_at_call_of 61 mu;refine(H6 _).mono ?_;rintro e wa⟨rfl,hq⟩;have hs:=D.below hq;clear hq D m1;have D:=hs;clear hs))
        first
        | (go_ret
           have E:hw=false:=hz hi;subst E;exact⟨rfl,D.bel⟩)
        | (go_roundw
           case rel=>exact⟨t+1,by omega,by go_num,fun k hk=>by
             rcases(by omega:k<t∨k=t)with h|rfl
             ·exact U k h
             ·exact(AN hB).trans hi,D⟩
           case measure=>simp[intOf];omega)
    · obtain rfl:t=8:=by omega
      have m2:=J.m2;have n3:=J.n3;have HB:=J.bel;have E:=HT U;have hv:=An E;clear J HH HF HT E
      cases M
      all_goals
        go_wp2;go_ret;exact⟨by rw[AN hv];simp,HB⟩
end Go.Proofs.YtnbleebilmghcabGreat
