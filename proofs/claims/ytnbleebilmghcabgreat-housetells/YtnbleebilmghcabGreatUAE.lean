/- Contracts of the document's answer (sets as lists of yes and no) and of parts.Count, for right sets. -/
import Derived.Test.YtnbleebilmghcabGreatRows
import Derived.Test.YtnbleebilmghcabGreatUAD
set_option linter.all false
set_option maxHeartbeats 400000
open Go.Value renaming int→I,agg→Af,bool→Aj
open Go.IntKind renaming i64→K
open Go.Obj renaming cells→Al
open Go.Ending renaming returned→Ao
open Go.Proofs.Tryz renaming prog→Au
namespace Go.Proofs.YtnbleebilmghcabGreat
open Go Go.RowKit
theorem S9{k:IntKind}{a b:Int}(h:a=b):Ending.returned (I k a)=Ao (I k b):=by rw[h]
theorem An{p:Prop}(h:p):Hid p:=h
theorem AN{p:Prop}(h:Hid p):p:=h
theorem jD(x:Int)(w:World)(_:0≤x)(_:x≤255):
  Calls Au 160 #[I .u64 x] w fun e h=>e=Ao (I K (oc x))∧h=w:=by
 go_enter Tryz.func160,Tryz.ntmps160
 go_wp2;go_ret;exact⟨S9 R,rfl⟩
theorem PO(a:Int)(w:World)(h0:0≤a)(h:a≤255):
  Calls Au 127 #[I K a] w fun e D=>e=Ao (I K ((FR a 8).length:Int))∧D=w:=by
 have F:=jl a h0 h;have E:Hid (oc a=((FR a 8).length:Int)):=jB a h0 h;have H:IntKind.u64.wrap a=a:=by rw[IntKind.wrap_u64];omega
 go_enter Tryz.func127,Tryz.ntmps127
 go_wp2_with(first|(go_at_call 160;refine(jD _ _ (by omega) (by omega)).mono ?_;rintro e D⟨rfl,rfl⟩)|go_in)
 go_ret;exact⟨S9 E.out,rfl⟩
theorem Y1(b:Bool)(r:List Bool):ND (b :: r)=2*ND r+if b then 1 else 0:=rfl
def arr(n:Int):Array Value:=#[Aj (tb n 0),Aj (tb n 1),Aj (tb n 2),Aj (tb n 3),Aj (tb n 4),Aj (tb n 5),Aj (tb n 6),Aj (tb n 7)]
theorem ii(n:Int):(n % 2 == 1)=tb n 0∧(n / 2 % 2 == 1)=tb n 1∧(n / 2 / 2 % 2 == 1)=tb n 2∧(n / 2 / 2 / 2 % 2 == 1)=tb n 3 ∧
  (n / 2 / 2 / 2 / 2 % 2 == 1)=tb n 4∧(n / 2 / 2 / 2 / 2 / 2 % 2 == 1)=tb n 5∧(n / 2 / 2 / 2 / 2 / 2 / 2 % 2 == 1)=tb n 6∧(n / 2 / 2 / 2 / 2 / 2 / 2 / 2 % 2 == 1)=tb n 7:=by
 have D:∀x y:Int,x=y→(x % 2 == 1)=(y % 2 == 1):=fun x y h=>by rw[h]
 refine⟨?_,?_,?_,?_,?_,?_,?_,?_⟩<;>exact D _ _ (by simp;try omega)
theorem K8(n:Int)(w:World)(h0:0≤n)(V:n≤255):
  Calls Au 100 #[I K n] w fun e h=>e=Ao (Af (arr n))∧h=(w.alloc (Al (arr n) 107)).alloc (Al (arr n) 107):=by
 go_enter Tryz.func100,Tryz.ntmps100
 go_wp2;go_rounds 9
 obtain⟨D,E,F,H,J,L,M,U⟩:=ii n;simp only[D,E,F,H,J,L,M,U];exact AG (by simp[results,Tryz.results100,go_sem,arr]<;>rfl) R ⟨rfl,rfl⟩
theorem TE(h D E F H J L M:Bool)(w:World):
  Calls Au 102 #[Af #[Aj h,Aj D,Aj E,Aj F,Aj H,Aj J,Aj L,Aj M]] w fun e w'=>e=Ao (I K (ND [h,D,E,F,H,J,L,M])) ∧
   w'=w.alloc (Al #[Aj h,Aj D,Aj E,Aj F,Aj H,Aj J,Aj L,Aj M] 107):=by
 go_enter Tryz.func102,Tryz.ntmps102
 go_wp2;go_loop [3,4] (fun n k=>∃j:Nat,j≤8∧k=I K (7 - (j:Int))∧n=I K (ND ([h,D,E,F,H,J,L,M].drop (8 - j)))) (fun _ k=>(intOf k+1).toNat)
 case atStart=>exact⟨0,by omega,rfl,rfl⟩
 case round =>
  obtain⟨j,hj,rfl,rfl⟩:=hrel;have V:=gB ([h,D,E,F,H,J,L,M].drop (8 - j));obtain⟨m,U⟩:∃m,m=ND ([h,D,E,F,H,J,L,M].drop (8 - j)):=⟨_,rfl⟩;rw[←U]at V⊢;obtain⟨t,Y⟩:∃t,t=j+1:=⟨_,rfl⟩;rcases(by omega:j=0∨j=1∨j=2∨j=3∨j=4∨j=5∨j=6∨j=7∨j=8)with rfl|rfl|rfl|rfl|rfl|rfl|rfl|rfl|rfl
  case inr.inr.inr.inr.inr.inr.inr.inr =>
   have Z:Hid (m=ND [h,D,E,F,H,J,L,M]):=U;clear U V Y;go_wp2;go_ret;exact⟨S9 Z.out,rfl⟩
  all_goals
   have ha:0≤m∧m<256:=(by simp at V;omega);simp only[Eo,ER,Nat.reduceSub,List.drop_nil]at U;have Z:=An U;have HT:=An Y;clear U V Y;go_wp2
   all_goals
    go_round
    case rel=>exact⟨t,by rw[AN HT];omega,by rw[AN HT];rfl,by rw[AN HT];simp only[Eo,ER,Nat.reduceSub,Nat.reduceAdd];rw[Y1,←AN Z];simp[*]⟩
    case measure=>first|(simp[intOf];done)|(simp[intOf];omega)
end Go.Proofs.YtnbleebilmghcabGreat
