/- Same of the reference of layer 16; few and awake of the laws. -/
import Derived.Test.YtegaeaonoggmkaaRows
import Derived.Test.YtegaeaonoggmkaaZOEqq111
import Derived.Test.YtegaeaonoggmkaaZOSameq112
namespace Go.Proofs.Ytegaeaonoggmkaa
open Go.RowKit
set_option linter.unusedVariables false

set_option maxHeartbeats 4000000 in
set_option maxRecDepth 100000 in
theorem same16_t (now : Int) (n k q : Nat) (A B : Option Addr) (L : List Int) (hn : n ≤ 1000000) (w : World) (hA : Sn w A n L) (hB : Sn w B n L) :
    Calls Try.prog 11 #[.agg #[.int .i64 now, .slice A n k], .agg #[.int .i64 now, .slice B n q]] w fun e w' => e = .returned (.bool true) ∧ Up w w' := by
  have KS := Lib.hid (fun W (hu : Up w W) => sameNum_t n k q A B L hn W (hA.up hu) (hB.up hu))
  have t1 : (now == now) = true := by simp
  clear hA hB
  go_enter Try.func11, Try.ntmps11
  go_wp2_with (go_at_call 32; (with_reducible refine (KS.out _ (((Up.refl w).alloc _ _).alloc _ _)).mono ?_); rintro e w1 ⟨rfl, hu⟩; have HU := Lib.hid ((((Up.refl w).alloc _ _).alloc _ _).trans hu); clear hu)
  go_ret
  exact ⟨rfl, HU.out⟩
end Go.Proofs.Ytegaeaonoggmkaa
