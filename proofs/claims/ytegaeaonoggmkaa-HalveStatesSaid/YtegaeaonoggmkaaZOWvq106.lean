/- Wide numbers by their values: sums, and products with powers of two. -/
import Derived.Test.YtegaeaonoggmkaaRows
import Derived.Test.YtegaeaonoggmkaaZGCallq89
import Derived.Test.YtegaeaonoggmkaaZOBaseq91
import Derived.Test.YtegaeaonoggmkaaZOMemq79
import Derived.Test.YtegaeaonoggmkaaZSRefq104
namespace Go.Proofs.Ytegaeaonoggmkaa
open Go.RowKit
set_option linter.unusedVariables false

theorem rwadd_o (x y : Int) (hx : In2 x) (hy : In2 y) (hs : In2 (x + y)) (w : World) :
    Calls Try.prog 44 #[.agg #[.int .u64 (hiZ x), .int .u64 (loZ x)], .agg #[.int .u64 (hiZ y), .int .u64 (loZ y)]] w fun e w' => e = .returned (.tuple #[.agg #[.int .u64 (hiZ (x + y)), .int .u64 (loZ (x + y))], .bool true]) ∧ Up w w' := by
  have h := radd_up (hiZ x) (loZ x) (hiZ y) (loZ y) (hiZ_word hx) (loZ_word x) (hiZ_word hy) (loZ_word y) w
  rw [val_hilo, val_hilo] at h
  rw [show fit2 (x + y) = x + y from fit2_yes hs, show fits2 (x + y) = true from fits2_yes hs] at h
  exact h
theorem rwof_o (x : Int) (hx : Word x) (w : World) :
    Calls Try.prog 43 #[.int .u64 x] w fun e w' => e = .returned (.agg #[.int .u64 (hiZ x), .int .u64 (loZ x)]) ∧ Up w w' := by
  have h := rof_up x w
  obtain ⟨h0, h1⟩ := hx
  rw [show hiZ x = 0 by unfold hiZ; omega, show loZ x = x by unfold loZ; omega]
  exact h
theorem rwleft_o (x : Int) (m : Nat) (hx : In2 x) (hm : m ≤ 1000) (hi : In2 (x * 2 ^ m)) (w : World) :
    Calls Try.prog 42 #[.agg #[.int .u64 (hiZ x), .int .u64 (loZ x)], .int .i64 m] w fun e w' => e = .returned (.tuple #[.agg #[.int .u64 (hiZ (x * 2 ^ m)), .int .u64 (loZ (x * 2 ^ m))], .bool true]) ∧ Up w w' := by
  have h := rleft_up (hiZ x) (loZ x) m (hiZ_word hx) (loZ_word x) ⟨by omega, by omega⟩ w
  have q := leftB_yes (v := x) (n := m) (by omega) (by rw [Int.toNat_natCast]; exact hi)
  rw [Int.toNat_natCast] at q
  rw [val_hilo, q.1, q.2] at h
  exact h
end Go.Proofs.Ytegaeaonoggmkaa
