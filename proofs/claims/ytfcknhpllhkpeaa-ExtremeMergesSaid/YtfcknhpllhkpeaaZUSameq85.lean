/- Same of the reference of layer 17; few and awake of the laws. -/
import Derived.Test.YtfcknhpllhkpeaaRows
import Derived.Test.YtfcknhpllhkpeaaZUMemq59
import Derived.Test.YtfcknhpllhkpeaaZUSameq84
namespace Go.Proofs.Ytfcknhpllhkpeaa
open Go.RowKit
set_option linter.unusedVariables false

set_option maxHeartbeats 4000000 in
set_option maxRecDepth 100000 in
theorem same17_t (mx : Bool) (v c now : Int) (n k q : Nat) (A B : Option Addr) (L : List It) (hn : n ≤ 1000000) (w : World) (hA : Sl w A n L) (hB : Sl w B n L) :
    Calls Try.prog 11 #[.agg #[.bool mx, .int .i64 v, .int .i64 c, .int .i64 now, .slice A n k], .agg #[.bool mx, .int .i64 v, .int .i64 c, .int .i64 now, .slice B n q]] w fun e w' => e = .returned (.bool true) ∧ Up w w' := by
  have KS := Lib.hid (fun W (hu : Up w W) => sameItems_t n k q A B L hn W (hA.up hu) (hB.up hu))
  have t0 : (mx == mx) = true := by simp
  have t1 : (v == v) = true := by simp
  have t2 : (c == c) = true := by simp
  have t3 : (now == now) = true := by simp
  clear hA hB
  go_enter Try.func11, Try.ntmps11
  go_wp2_with (go_at_call 27; (with_reducible refine (KS.out _ (((Up.refl w).alloc _ _).alloc _ _)).mono ?_); rintro e w1 ⟨rfl, hu⟩; have HU := Lib.hid ((((Up.refl w).alloc _ _).alloc _ _).trans hu); clear hu)
  go_ret
  exact ⟨rfl, HU.out⟩
end Go.Proofs.Ytfcknhpllhkpeaa
