/- The document's Step: what it makes of a world, in its boxes. -/
import Derived.Test.YtnbleebilmghcabGreatUAV
import Derived.Test.YtnbleebilmghcabGreatUBK
set_option linter.all false
open Go.Value renaming int→I,slice→S,agg→Af,oneCell'→Ar
open Go.IntKind renaming i64→K
open Option renaming none→N,some→O
open Go.Obj renaming cells→Al
open Go.Operand renaming tmp→Am
open Go.Ending renaming returned→Ao
open Go.Proofs.Tryz renaming prog→Au
namespace Go.Proofs.YtnbleebilmghcabGreat
open Go Go.RowKit
attribute [local go_sem ↓] Go.wp_at_zero Go.wp_at_succ
theorem LZ(w:World)(l:List (List Value×TypeId)):∃W,GQ w l=W∧Below w.heap.size w W∧GJ w.heap.size l W:=⟨_,rfl,F6 l w,GJ.start w l⟩
theorem YM:(Au.info? 43).map (·.size)=O 2:=by kernel_rfl
theorem LT(e:Int)(w:World):Calls Au 80 #[I K e] w fun r w'=>r=Ao (Af #[I K e,I K 0,I K 0,S N 0 0,I K 0])∧Below w.heap.size w w':=by
 obtain⟨W1,hW1,hL1,hX1⟩:=LZ w [([I K 0,I K 0,I K 0,S N 0 0,I K 0],64)];simp only[GQ]at hW1;have HW1:=An hW1;clear hW1;go_enter Tryz.func80,Tryz.ntmps80
 go_upto_region 1 with fail
 rw[AN HW1];go_wp2_with((refine As R 64 (Am 2) (Am 4) R w.heap.size 0 [I K e,I K 0,I K 0,S N 0 0,I K 0] R R (by simp[Ar]) JT (hX1.there 0 R 5 R) ?_;intro W9 hW9;have HR:=(hX1.give 0 R [I K e,I K 0,I K 0,S N 0 0,I K 0] R);have HE:=(Bv (w0:=w) w.heap.size Fu [I K e,I K 0,I K 0,S N 0 0,I K 0] 0 W1 hL1);rw[Ay,←hW9]at HR;rw[←hW9]at HE;clear hW9))
 obtain⟨r0,r1,r2,r3,r4⟩:=HR.g5 R;refine AG (by simp[results,Tryz.results80,go_sem,r0,r1,r2,r3,r4]<;>rfl) R ⟨rfl,HE⟩
abbrev GA:=Option Addr×Nat×Option Addr×Nat
abbrev z5:List Value:=[I K 0,I K 0,I K 0,S N 0 0,I K 0]
def wC(γ:GA)(Y:Wd):List Value:=[S γ.1 Y.rows.length γ.2.1,S γ.2.2.1 Y.gens.length γ.2.2.2]
structure R4(d:LE)(γ0:GA)(X Y:Wd)(i g:Int)(G0:Option Addr)(W:World)(s1 s2 cl:Bool)(γ:GA)(V:World):Prop where
 bx:GJ W.heap.size [(Iv d,89),(z5,64),(if s1=true then wC γ Y else wC γ0 X,43),(if s2=true then [I K 0,I K i,I K g,S N 0 0,I K 0]else z5,64)] V
 bel:Below W.heap.size W V
 doc:cl=true→Hd (W.heap.size+4) V G0 γ.1 γ.2.1 γ.2.2.1 γ.2.2.2 Y
section
variable {d:LE} {γ0:GA} {X Y:Wd} {i g:Int} {G0:Option Addr} {W:World} {s1 s2 cl:Bool} {γ γ':GA} {V V1:World}
theorem R4.sz(h:R4 d γ0 X Y i g G0 W s1 s2 cl γ V):W.heap.size+4≤V.heap.size:=h.bx.sz (by simp)
theorem R4.call(h:R4 d γ0 X Y i g G0 W s1 s2 cl γ V)(F:s1=false)(H:s2=false)(E:Below V.heap.size V V1)(D:Hd V.heap.size V1 G0 γ'.1 γ'.2.1 γ'.2.2.1 γ'.2.2.2 Y):R4 d γ0 X Y i g G0 W s1 s2 true γ' V1:=by
 subst F H;exact⟨h.bx.below E,h.bel.trans (E.mono h.bel.size),fun _=>⟨D.toFX,fun c o e=>AU h.sz (D.fa c o e),D.fg.imp (fun e=>e) fun J c o e=>AU h.sz (J c o e)⟩⟩
theorem R4.put1(h:R4 d γ0 X Y i g G0 W s1 s2 cl γ V)(D:cl=true)(h0:Y.gens≠[]→∀ c o,G0=O ⟨c,o,N⟩→c<W.heap.size):R4 d γ0 X Y i g G0 W true s2 cl γ (V.setCells (W.heap.size+2) 0 (wC γ Y)):=
 ⟨h.bx.give 2 R (wC γ Y) (by split <;>rfl),Bv (w0:=W) (W.heap.size+2) (by omega) _ 0 V h.bel,fun _=>(h.doc D).sets h0 (by omega) (by omega)⟩
theorem R4.put2(h:R4 d γ0 X Y i g G0 W s1 s2 cl γ V)(D:s2=false)(E:cl=true)(h0:Y.gens≠[]→∀ c o,G0=O ⟨c,o,N⟩→c<W.heap.size):R4 d γ0 X Y i g G0 W s1 true cl γ (V.setCells (W.heap.size+3) 1 [I K i,I K g]):=by
 subst D;exact⟨h.bx.part 3 R 1 [I K i,I K g] (by simp),Bv (w0:=W) (W.heap.size+3) (by omega) _ 1 V h.bel,fun _=>(h.doc E).sets h0 (by omega) (by omega)⟩
end
structure RA(W5:World)(p:Nat)(u0 u1 u2:Value)(tl:List Value)(ty:TypeId)(SA:Option Addr)(n sc:Nat)(cs:List Value)(s:GG)(mk ap st:Bool)(γ:Nat×Nat×Nat)(W:World):Prop where
 bel:ap=false→st=false→Below W5.heap.size W5 W
 bs:mk=true→ap=false→W5.heap.size≤γ.1∧GJ γ.1 [(GI s,37)] W
 own:ap=true→W.ownsRow (p+1) 37 4 (S (O ⟨γ.2.1,0,N⟩) (n+1) γ.2.2) (n+1) (cs++GI s)∧((S SA n sc).ownBlock=O γ.2.1∨W5.heap.size≤γ.2.1)
 tw:Tw (fun b=>b=p∨(S SA n sc).ownBlock=O b) W5 W
 bx:GJ p [(if st=true then u0 :: u1 :: u2 :: S (O ⟨γ.2.1,0,N⟩) (n+1) γ.2.2 :: tl else u0 :: u1 :: u2 :: S SA n sc :: tl,ty)] W
section
variable {W5:World} {p:Nat} {u0 u1 u2:Value} {tl:List Value} {ty:TypeId} {SA:Option Addr} {n sc:Nat} {cs:List Value} {s:GG} {mk ap st:Bool} {γ:Nat×Nat×Nat} {W W1:World}
theorem RA.start(h:GJ p [(u0 :: u1 :: u2 :: S SA n sc :: tl,ty)] W5):RA W5 p u0 u1 u2 tl ty SA n sc cs s false false false (0,0,0) W5.drew :=
 ⟨fun _ _=>Fv.drew,fun h=>(by cases h),fun h=>(by cases h),Tw.of_below Fv.drew,h⟩
theorem RA.make(h:RA W5 p u0 u1 u2 tl ty SA n sc cs s mk ap st γ W)(J:ap=false)(E:st=false):RA W5 p u0 u1 u2 tl ty SA n sc cs s true ap st (W.heap.size,γ.2) (W.alloc (Al (GI s).toArray 37)):=by
 have F:=GF W (Al (GI s).toArray 37);have D:=h.bel J E;have H:=h.bx;subst J E;exact⟨fun _ _=>D.trans (F.mono D.size),fun _ _=>⟨D.size,GJ.start W [(GI s,37)]⟩,fun L=>(by cases L),h.tw.trans (Tw.of_below (av:=fun b=>b=p∨(S SA n sc).ownBlock=O b) F) (fun _ _ h=>h),H.below F⟩
theorem RA.app(h:RA W5 p u0 u1 u2 tl ty SA n sc cs s mk ap st γ W)(E:st=false)(L:(S SA n sc).ownBlock≠O p){g c:Nat}(M:W1.ownsRow (p+1) 37 4 (S (O ⟨g,0,N⟩) (n+1) c) (n+1) (cs++GI s))(U:W.grownBy W1 (S SA n sc).ownBlock)(Z:(S SA n sc).ownBlock=O g∨W5.heap.size≤g):RA W5 p u0 u1 u2 tl ty SA n sc cs s mk true st (γ.1,g,c) W1:=by
 have F:=h.bx;subst E;have J:Tw (fun b=>(S SA n sc).ownBlock=O b) W W1:=Tw.of_grown U (fun k D=>D);exact⟨fun H=>(by cases H),fun _ H=>(by cases H),fun _=>⟨M,Z⟩,h.tw.trans J (fun _ _ h=>.inr h),F.tw J (fun k D=>by simp at D;subst D;exact L)⟩
theorem RA.put(h:RA W5 p u0 u1 u2 tl ty SA n sc cs s mk ap st γ W)(J:ap=true)(D:st=false):RA W5 p u0 u1 u2 tl ty SA n sc cs s mk ap true γ (W.setCell ⟨p,3,N⟩ (S (O ⟨γ.2.1,0,N⟩) (n+1) γ.2.2)):=by
 have E:=h.bx;subst J D;obtain⟨H,L⟩:=h.own R;have M:=(H.lt γ.2.1 R).1;refine⟨fun F=>(by cases F),fun _ F=>(by cases F),fun _=>⟨B7 H (a:=⟨p,3,N⟩) (fun e=>by have e:=Bd e;simp only at e;omega) _,L⟩,h.tw.sets (b:=p) (o:=3) (vs:=[S (O ⟨γ.2.1,0,N⟩) (n+1) γ.2.2]) (.inl (.inl R)),?_⟩;have:=E.part 0 R 3 [S (O ⟨γ.2.1,0,N⟩) (n+1) γ.2.2] (by simp);rw[Ay]at this;exact this
end
end Go.Proofs.YtnbleebilmghcabGreat
