/- The law RunBlind, whole. -/
import Derived.Test.YtnbleebilmghcabZRnBlind
set_option linter.all false
namespace Go.Proofs.Ytnbleebilmghcab
open Go Go.RowKit
theorem blind_law (A : Option Addr) (cap : Nat) (G : Option Addr) (gcap : Nat) (X : Wd) (s : SysI) (pi : Int) (Lv : Option Addr) (vals : List Int) (vcap : Nat) (w : World) (hn0 : X.rows.length ≤ 9223372036854775807) (hX : WldAt w A cap G gcap X) (hA : ActsAt w s.A s.len s.a) (hV : IntsL w Lv vals) :
    Calls Try.prog 6 #[wldV A cap G gcap X, sysI s, .int .i64 pi, .slice Lv vals.length vcap] w fun e w' => e = .returned (.bool true) ∧ Below w.heap.size w w' := by
  by_cases h : (wrongW X).1 = 0
  · have hr := (right_iff X).1 h
    by_cases h1 : (wrF s.m s.al s.no s.a s.len).1 = 0
    · by_cases hp : pi < 0
      · exact blind_lo A cap G gcap X s pi Lv vals vcap w hX hr hA h1 hp
      · by_cases hq : 8 ≤ pi
        · exact blind_hi A cap G gcap X s pi Lv vals vcap w hX hr hA h1 hq
        · obtain ⟨pt, hpi⟩ : ∃ pt : Nat, pi = (pt : Int) := ⟨pi.toNat, by omega⟩
          cases h2 : bt (rdTo s.a s.len) pt
          · exact blind_main A cap G gcap X s pi Lv vals vcap w hX hr hA pt hpi (by omega) h1 h2 hV
          · exact blind_rd A cap G gcap X s pi Lv vals vcap w hX hr hA pt hpi (by omega) h1 h2
    · exact blind_s A cap G gcap X s pi Lv vals vcap w hX hr hA h1
  · exact blind_wrong A cap G gcap X s pi Lv vals vcap w hn0 hX h
end Go.Proofs.Ytnbleebilmghcab
