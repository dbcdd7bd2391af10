/- Equal lists of marks, equal states of smooth histograms. -/
import Derived.Test.YtafkoddgefcpnaaRows
import Derived.Test.YtafkoddgefcpnaaZIAppq119
import Derived.Test.YtafkoddgefcpnaaZKSameq247
namespace Go.Proofs.Ytafkoddgefcpnaa
open Go.RowKit
set_option linter.unusedVariables false

set_option maxHeartbeats 4000000 in
set_option maxRecDepth 100000 in
theorem same13_t (g v q c now seq : Int) (n k k2 : Nat) (A B : Option Addr) (L : List Mrk) (hn : n ≤ 1000000) (w : World) (hA : SG cM w A n L) (hB : SG cM w B n L) :
    Calls Try.prog 15 #[.agg #[.int .i64 g, .int .i64 v, .int .i64 q, .int .i64 c, .int .i64 now, .int .i64 seq, .slice A n k], .agg #[.int .i64 g, .int .i64 v, .int .i64 q, .int .i64 c, .int .i64 now, .int .i64 seq, .slice B n k2]] w fun e w' => e = .returned (.bool true) ∧ Up w w' := by
  have KS := Lib.hid (fun W (hu : Up w W) => sameM_t n k k2 A B L hn W (hA.up hu) (hB.up hu))
  clear hA hB
  go_enter Try.func15, Try.ntmps15
  go_wp2_with (go_at_call 58; (with_reducible refine (KS.out _ (((Up.refl w).alloc _ _).alloc _ _)).mono ?_); rintro e w1 ⟨rfl, hu⟩; have HU := Lib.hid hu; clear hu)
  go_ret
  exact ⟨rfl, (((Up.refl w).alloc _ _).alloc _ _).trans HU.out⟩
end Go.Proofs.Ytafkoddgefcpnaa
