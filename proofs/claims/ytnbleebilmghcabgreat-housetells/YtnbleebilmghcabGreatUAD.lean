/- Plain facts on sets of eight parts as numbers from 0 to 255: nothing of the program is in them. -/
import Derived.Test.YtnbleebilmghcabGreatVAl
set_option linter.all false
open Go.IntKind renaming i64→K
namespace Go.Proofs.YtnbleebilmghcabGreat
open Go Go.RowKit
def tb(n:Int)(k:Nat):Bool:=n / ((2 ^ k:Nat):Int) % 2 == 1
def ND:List Bool→Int
 |[]=>0
 |b :: r=>2*ND r+(if b then 1 else 0)
def FR(n:Int)(k:Nat):List Int:=((List.range k).filter (fun j=>tb n j)).map Int.ofNat
def ky(x:Int):Int:=IntKind.u64.wrap (bits BinOp.and IntKind.u64 (x / 2) 6148914691236517205+bits BinOp.and IntKind.u64 x 6148914691236517205)
def kx(x:Int):Int:=IntKind.u64.wrap (bits BinOp.and IntKind.u64 (x / 4) 3689348814741910323+bits BinOp.and IntKind.u64 x 3689348814741910323)
def kw(x:Int):Int:=bits BinOp.and IntKind.u64 (IntKind.u64.wrap (x / 16+x)) 1085102592571150095
def kv(x:Int):Int:=IntKind.u64.wrap (x+x / 256)
def ku(x:Int):Int:=IntKind.u64.wrap (x+x / 65536)
def kt(x:Int):Int:=IntKind.u64.wrap (x+x / 4294967296)
def oc(x:Int):Int:=bits BinOp.and IntKind.i64 (wrap64 (kt (ku (kv (kw (kx (ky x))))))) 127
def Ge(k:Int):Int:=if 0≤k∧k<8 then((2 ^ k.toNat:Nat):Int)else 0
theorem KY(n:Int)(h0:0≤n)(h:n≤255):∃m:Fin 256,n=(m.val:Int):=⟨⟨n.toNat,by omega⟩,by simp;omega⟩
theorem jC:∀m:Fin 256,oc (m.val:Int)=((FR (m.val:Int) 8).length:Int):=by decide +kernel
theorem jB(n:Int)(h0:0≤n)(h:n≤255):oc n=((FR n 8).length:Int):=by
 obtain⟨m,rfl⟩:=KY n h0 h;exact jC m
theorem XK:∀m:Fin 256,bits .and K (m.val:Int) 255=(m.val:Int):=by decide +kernel
theorem jl(n:Int)(h0:0≤n)(h:n≤255):bits .and K n 255=n:=by
 obtain⟨m,rfl⟩:=KY n h0 h;exact XK m
theorem gP:∀m:Fin 256,∀k:Fin 8,(bits .and K (m.val:Int) (Ge (k.val:Int)) != 0)=tb (m.val:Int) k.val:=by decide +kernel
theorem TW(n:Int)(k:Nat)(h0:0≤n)(h:n≤255)(D:k<8):(bits .and K n (Ge (k:Int)) != 0)=tb n k:=by
 obtain⟨m,rfl⟩:=KY n h0 h;exact gP m ⟨k,D⟩
theorem Kf(n:Int)(k:Nat):(FR n k).length≤k:=by
 unfold FR;rw[Bj];exact AU (BT _ _) (by simp)
theorem Qw(n:Int)(k:Nat):FR n (k+1)=if tb n k then FR n k++[(k:Int)]else FR n k:=by
 unfold FR;rw[CY,Cf,CH];by_cases h:tb n k=true <;>simp[h]
theorem gB(l:List Bool):0≤ND l∧ND l<((2 ^ l.length:Nat):Int):=by
 induction l with
 |nil=>simp[ND]
 |cons b r ih =>
  have e:2 ^ (r.length+1)=2*2 ^ r.length:=by rw[Nat.pow_succ];omega
  simp only[ND,AJ,e];generalize 2 ^ r.length=p at *
  cases b <;>simp <;>omega
def tbs(n:Int):List Bool:=[tb n 0,tb n 1,tb n 2,tb n 3,tb n 4,tb n 5,tb n 6,tb n 7]
theorem Xg:∀m:Fin 256,ND (tbs (m.val:Int))=(m.val:Int)∧bits .or K (m.val:Int) 0=(m.val:Int)∧bits .andNot K (m.val:Int) 0=(m.val:Int)∧bits .and K (m.val:Int) 0=0:=by decide +kernel
end Go.Proofs.YtnbleebilmghcabGreat
