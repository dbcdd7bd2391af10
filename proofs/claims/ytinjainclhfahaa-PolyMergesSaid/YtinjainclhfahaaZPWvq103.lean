/- Wide numbers by their values; a store into a row of wide numbers. -/
import Derived.Test.YtinjainclhfahaaRows
import Derived.Test.YtinjainclhfahaaZPAppq77
import Derived.Test.YtinjainclhfahaaZPBaseq96
import Derived.Test.YtinjainclhfahaaZPFrameq74
namespace Go.Proofs.Ytinjainclhfahaa
open Go.RowKit
set_option linter.unusedVariables false

theorem rwmul_v (x y : Int) (hx : In2 x) (hy : In2 y) (w : World) :
    Calls Try.prog 44 #[.agg #[.int .u64 (hiZ x), .int .u64 (loZ x)], .agg #[.int .u64 (hiZ y), .int .u64 (loZ y)]] w fun e w' => e = .returned (.tuple #[.agg #[.int .u64 (hiZ (fit2 (x * y))), .int .u64 (loZ (fit2 (x * y)))], .bool (fits2 (x * y))]) ∧ Up w w' := by
  have h := rmul_up (hiZ x) (loZ x) (hiZ y) (loZ y) (hiZ_word hx) (loZ_word x) (hiZ_word hy) (loZ_word y) w
  rw [val_hilo, val_hilo] at h
  exact h
theorem rwadd_v (x y : Int) (hx : In2 x) (hy : In2 y) (w : World) :
    Calls Try.prog 52 #[.agg #[.int .u64 (hiZ x), .int .u64 (loZ x)], .agg #[.int .u64 (hiZ y), .int .u64 (loZ y)]] w fun e w' => e = .returned (.tuple #[.agg #[.int .u64 (hiZ (fit2 (x + y))), .int .u64 (loZ (fit2 (x + y)))], .bool (fits2 (x + y))]) ∧ Up w w' := by
  have h := radd_up (hiZ x) (loZ x) (hiZ y) (loZ y) (hiZ_word hx) (loZ_word x) (hiZ_word hy) (loZ_word y) w
  rw [val_hilo, val_hilo] at h
  exact h
theorem rwof_v (x : Int) (hx : Word x) (w : World) :
    Calls Try.prog 45 #[.int .u64 x] w fun e w' => e = .returned (.agg #[.int .u64 (hiZ x), .int .u64 (loZ x)]) ∧ Up w w' := by
  have h := rof_up x w
  obtain ⟨h0, h1⟩ := hx
  rw [show hiZ x = 0 by unfold hiZ; omega, show loZ x = x by unfold loZ; omega]
  exact h
theorem rwpow_v (a : Int) (j : Nat) (h0 : 0 ≤ a) (h1 : a ≤ 16777217) (hj : j ≤ 4) (w : World) :
    Calls Try.prog 43 #[.int .u64 a, .int .i64 j] w fun e w' => e = .returned (.tuple #[.agg #[.int .u64 (hiZ (a ^ j)), .int .u64 (loZ (a ^ j))], .bool true]) ∧ Up w w' := by
  have h := rpow_up a j ⟨h0, by omega⟩ ⟨by omega, by omega⟩ w
  rw [(age_powV h0 h1 hj).1, (age_powV h0 h1 hj).2] at h
  exact h
end Go.Proofs.Ytinjainclhfahaa
