/- What the reference's bit and double return. -/
import Derived.Test.YtegaeaonoggmkaaRows
import Derived.Test.YtegaeaonoggmkaaZWCmpq8
import Derived.Test.YtegaeaonoggmkaaZWShiftq100
namespace Go.Proofs.Ytegaeaonoggmkaa
open Go.RowKit

/-- The doubled number with a new last digit, without its 129th binary digit. -/
def dblZ (v b : Int) : Int := (2 * v + b) % 340282366920938463463374607431768211456
theorem dbl_words (h l b : Int) (hh : Word h) (hl : Word l) (b0 : 0 ≤ b) (b1 : b ≤ 1) :
    bits BinOp.or IntKind.u64 (IntKind.u64.wrap (h * 2)) (l / 9223372036854775808) = hiZ (dblZ (val h l) b) ∧ bits BinOp.or IntKind.u64 (IntKind.u64.wrap (l * 2)) b = loZ (dblZ (val h l) b) := by
  obtain ⟨a1, a2⟩ := hh; obtain ⟨c1, c2⟩ := hl
  have p1 : (2 : Int) ^ 1 = 2 := by decide
  simp only [IntKind.wrap_u64]
  rw [or_join 1 _ _ (by omega) (by rw [p1]; omega) (by omega) (by omega) (by rw [p1]; omega) (by omega), or_join 1 _ _ (by omega) (by rw [p1]; omega) (by omega) (by omega) (by rw [p1]; omega) (by omega)]
  unfold hiZ loZ dblZ val
  exact ⟨by omega, by omega⟩
set_option maxHeartbeats 2000000 in
set_option maxRecDepth 100000 in
theorem double_up (h l b : Int) (hh : Word h) (hl : Word l) (b0 : 0 ≤ b) (b1 : b ≤ 1) (w : World) :
    Calls Try.prog 52 #[.agg #[.int .u64 h, .int .u64 l], .int .u64 b] w fun e w' =>
      e = .returned (.tuple #[.agg #[.int .u64 (hiZ (dblZ (val h l) b)), .int .u64 (loZ (dblZ (val h l) b))], .int .u64 (h / 9223372036854775808)]) ∧ Up w w' := by
  obtain ⟨e1, e2⟩ := dbl_words h l b hh hl b0 b1
  generalize hiZ (dblZ (val h l) b) = X at *
  generalize loZ (dblZ (val h l) b) = Y at *
  obtain ⟨a1, a2⟩ := hh; obtain ⟨c1, c2⟩ := hl
  go_enter Try.func52, Try.ntmps52
  go_wp2_with fail
  go_region
  go_wp2_with fail
  refine bodyPost_ret (v := .tuple #[.agg #[.int .u64 X, .int .u64 Y], .int .u64 (h / 9223372036854775808)]) (by simp [results, Try.results52, go_sem]) rfl ⟨?_, ?_⟩
  · rfl
  · repeat (first | exact Up.refl _ | refine Up.alloc ?_ _ _ | refine Up.setCell ?_ (by first | (simp; done) | (simp; omega) | omega) _ | refine Up.drewN ?_ _ | refine Up.drew ?_)

/-! ### One round of the binary long division -/
end Go.Proofs.Ytegaeaonoggmkaa
