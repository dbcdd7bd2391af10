/- What Mod and Int of the verifier's package made return. -/
import Derived.Test.YtfcknhpllhkpeaaRows
import Derived.Test.YtfcknhpllhkpeaaZHMathq11
namespace Go.Proofs.Ytfcknhpllhkpeaa
open Go.RowKit

theorem int_any (a n : Int) (hn : 1 ≤ n) (hn' : n ≤ 1000000) (w : World) :
    Calls Try.prog 30 #[.int .i64 a, .int .i64 n] w fun e w' => e = .returned (.int .i64 (a % n)) ∧ w = w' := by
  have K := Lib.hid (fun W => modm_any a n hn hn' W)
  generalize a % n = r at *
  go_enter Try.func30, Try.ntmps30
  go_wp2_with (go_at_call 24; (with_reducible refine (K.out _).mono ?_); rintro e w' ⟨rfl, rfl⟩)
  go_ret
  exact ⟨rfl, rfl⟩
end Go.Proofs.Ytfcknhpllhkpeaa
