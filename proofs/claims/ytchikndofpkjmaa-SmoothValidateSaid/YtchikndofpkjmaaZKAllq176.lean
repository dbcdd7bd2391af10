/- Advance and Add of package smooth and of its reference: one contract for all cases. New: both. -/
import Derived.Test.YtchikndofpkjmaaRows
import Derived.Test.YtchikndofpkjmaaZKAddq171
import Derived.Test.YtchikndofpkjmaaZKRVdq129
import Derived.Test.YtchikndofpkjmaaZWGcdq137
namespace Go.Proofs.Ytchikndofpkjmaa
open Go.RowKit
set_option linter.unusedVariables false

set_option maxHeartbeats 4000000 in
set_option maxRecDepth 100000 in
theorem few13_any (g v q c now seq : Int) (n k : Nat) (A : Option Addr) (w : World) :
    Calls Try.prog 18 #[.agg #[.int .i64 g, .int .i64 v, .int .i64 q, .int .i64 c, .int .i64 now, .int .i64 seq, .slice A n k]] w fun e w' => e = .returned (.bool (decide ((n : Int) ≤ 300))) ∧ Up w w' := by
  go_enter Try.func18, Try.ntmps18
  go_wp2
  go_ret
  refine ⟨rfl, ?_⟩
  repeat (first | exact Up.refl _ | refine Up.alloc ?_ _ _ | refine Up.setCell ?_ (by first | (simp; done) | (simp; omega) | omega) _ | refine Up.drewN ?_ _ | refine Up.drew ?_)
end Go.Proofs.Ytchikndofpkjmaa
