/- Package spread: states, Validate, New, Most; New, Most, Same of the reference. -/
import Derived.Test.YtafkoddgefcpnabRows
import Derived.Test.YtafkoddgefcpnabZLOneq89
namespace Go.Proofs.Ytafkoddgefcpnab
open Go.RowKit
set_option linter.unusedVariables false

set_option maxHeartbeats 4000000 in
set_option maxRecDepth 100000 in
theorem eqR14 (a0 a1 : Int) (w : World) : (Op.equalIn 10000 31 (.agg #[.int .i64 a0, .int .i64 a1]) (.agg #[.int .i64 a0, .int .i64 a1])).run Try.prog w = .ok true w := by
  have qu := Try.underlying2
  have qa := Try.isAgg2
  have qz := Try.sizeOf2
  rw [show (10000 : Nat) = 9999 + 1 from rfl, Op.equalIn]
  simp only [Sem.run_bind, run_underlying Try.underlying31, Result.andThen_ok]
  go_simp
theorem ofS_awake : ofS ⟨0, 0, 3, 9, 41, 1, 6⟩ = gotR 14 1 true := by
  unfold ofS
  rw [if_pos (by decide), show quoN (spM ⟨0, 0, 3, 9, 41, 1, 6⟩) (Mrk.n ⟨0, 0, 3, 9, 41, 1, 6⟩) = 14 by decide +kernel, show quoD (spM ⟨0, 0, 3, 9, 41, 1, 6⟩) (Mrk.n ⟨0, 0, 3, 9, 41, 1, 6⟩) = 1 by decide +kernel]
set_option maxHeartbeats 4000000 in
set_option maxRecDepth 100000 in
theorem awake14_up (w : World) : Calls Try.prog 8 #[] w fun e w' => e = .returned (.bool true) ∧ Up w w' := by
  have K1 := Lib.hid (of14_up ⟨0, 0, 3, 9, 41, 1, 6⟩)
  rw [ofS_awake] at K1
  simp only [gotR] at K1
  have qe := eqR14 14 1
  go_enter Try.func8, Try.ntmps8
  go_wp2_with (go_at_call 19; (with_reducible refine (K1.out _).mono ?_); rintro e w1 ⟨rfl, hu⟩; have HU1 := Lib.hid hu; clear hu)
  go_ret
  exact ⟨rfl, HU1.out.alloc _ _⟩
end Go.Proofs.Ytafkoddgefcpnab
