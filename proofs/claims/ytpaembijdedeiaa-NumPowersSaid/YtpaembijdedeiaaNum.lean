/- What each function of package num, and each of its reference, returns: the contracts that the laws of layer 1 are proved from. -/
import Derived.Test.YtpaembijdedeiaaRows
import Derived.Test.YtpaembijdedeiaaMath
import Derived.WalkKit
import Derived.WalkSpells
import Derived.Lib.Hide
import Derived.Lib.Mul64
import Derived.RowKit3
namespace Go.Proofs.Ytpaembijdedeiaa
open Go.RowKit

/-- A checked result: the number and true, or 0 and false. -/
abbrev got (x : Int) (ok : Bool) : Ending := .returned (.tuple #[.int .i64 x, .bool ok])

/-- What the form says of an int64 argument. -/
theorem in_of_wf {x : Int} (h : (Lit.int .i64 x).wf = true) : In x := by
  simp [Lit.wf, IntKind.min, IntKind.max, IntKind.signed, IntKind.bits] at h
  exact ⟨by omega, by omega⟩

theorem add_any (a b : Int) (ha : In a) (hb : In b) (w : World) :
    Calls Try.prog 13 #[.int .i64 a, .int .i64 b] w fun e w' => e = got (fit (a + b)) (fits (a + b)) ∧ w = w' := by
  obtain ⟨a1, a2⟩ := ha; obtain ⟨b1, b2⟩ := hb
  by_cases h : In (a + b)
  · have H1 := Lib.hid (fit_yes h)
    have H2 := Lib.hid (fits_yes h)
    obtain ⟨h1, h2⟩ := h
    by_cases hp : 0 < b
    · have t1 : decide (a < a + b) = true := decide_eq_true (by omega)
      go_enter Try.func13, Try.ntmps13
      go_wp2
      go_ret2
      exact ⟨by rw [H1.out, H2.out]; rfl, rfl⟩
    · have t1 : decide (a < a + b) = false := decide_eq_false (by omega)
      go_enter Try.func13, Try.ntmps13
      go_wp2
      go_ret2
      exact ⟨by rw [H1.out, H2.out]; rfl, rfl⟩
  · have H1 := Lib.hid (fit_no h)
    have H2 := Lib.hid (fits_no h)
    by_cases hp : 0 < b
    · have hs : 9223372036854775807 < a + b := by unfold In at h; omega
      have t1 : decide (a < wrap64 (a + b)) = false := decide_eq_false (by unfold wrap64; omega)
      clear h
      go_enter Try.func13, Try.ntmps13
      go_wp2
      go_ret2
      exact ⟨by rw [H1.out, H2.out]; rfl, rfl⟩
    · have hs : a + b < -9223372036854775808 := by unfold In at h; omega
      have t1 : decide (a < wrap64 (a + b)) = true := decide_eq_true (by unfold wrap64; omega)
      clear h
      go_enter Try.func13, Try.ntmps13
      go_wp2
      go_ret2
      exact ⟨by rw [H1.out, H2.out]; rfl, rfl⟩

theorem sub_any (a b : Int) (ha : In a) (hb : In b) (w : World) :
    Calls Try.prog 16 #[.int .i64 a, .int .i64 b] w fun e w' => e = got (fit (a - b)) (fits (a - b)) ∧ w = w' := by
  obtain ⟨a1, a2⟩ := ha; obtain ⟨b1, b2⟩ := hb
  by_cases h : In (a - b)
  · have H1 := Lib.hid (fit_yes h)
    have H2 := Lib.hid (fits_yes h)
    obtain ⟨h1, h2⟩ := h
    by_cases hp : 0 < b
    · have t1 : decide (a - b < a) = true := decide_eq_true (by omega)
      go_enter Try.func16, Try.ntmps16
      go_wp2
      go_ret2
      exact ⟨by rw [H1.out, H2.out]; rfl, rfl⟩
    · have t1 : decide (a - b < a) = false := decide_eq_false (by omega)
      go_enter Try.func16, Try.ntmps16
      go_wp2
      go_ret2
      exact ⟨by rw [H1.out, H2.out]; rfl, rfl⟩
  · have H1 := Lib.hid (fit_no h)
    have H2 := Lib.hid (fits_no h)
    by_cases hp : 0 < b
    · have hs : a - b < -9223372036854775808 := by unfold In at h; omega
      have t1 : decide (wrap64 (a - b) < a) = false := decide_eq_false (by unfold wrap64; omega)
      clear h
      go_enter Try.func16, Try.ntmps16
      go_wp2
      go_ret2
      exact ⟨by rw [H1.out, H2.out]; rfl, rfl⟩
    · have hs : 9223372036854775807 < a - b := by unfold In at h; omega
      have t1 : decide (wrap64 (a - b) < a) = true := decide_eq_true (by unfold wrap64; omega)
      clear h
      go_enter Try.func16, Try.ntmps16
      go_wp2
      go_ret2
      exact ⟨by rw [H1.out, H2.out]; rfl, rfl⟩

/-! ### The reference's sums -/
theorem radd_any (a b : Int) (ha : In a) (hb : In b) (w : World) :
    Calls Try.prog 14 #[.int .i64 a, .int .i64 b] w fun e w' => e = got (fit (a + b)) (fits (a + b)) ∧ w = w' := by
  obtain ⟨a1, a2⟩ := ha; obtain ⟨b1, b2⟩ := hb
  by_cases h : In (a + b)
  · have H1 := Lib.hid (fit_yes h)
    have H2 := Lib.hid (fits_yes h)
    obtain ⟨h1, h2⟩ := h
    by_cases hp : 0 < b
    · go_enter Try.func14, Try.ntmps14
      go_wp2
      go_ret2
      exact ⟨by rw [H1.out, H2.out]; rfl, rfl⟩
    · by_cases hn : b < 0
      · go_enter Try.func14, Try.ntmps14
        go_wp2
        go_ret2
        exact ⟨by rw [H1.out, H2.out]; rfl, rfl⟩
      · go_enter Try.func14, Try.ntmps14
        go_wp2
        go_ret2
        exact ⟨by rw [H1.out, H2.out]; rfl, rfl⟩
  · have H1 := Lib.hid (fit_no h)
    have H2 := Lib.hid (fits_no h)
    by_cases hp : 0 < b
    · have hs : 9223372036854775807 < a + b := by unfold In at h; omega
      clear h
      go_enter Try.func14, Try.ntmps14
      go_wp2
      go_ret2
      exact ⟨by rw [H1.out, H2.out]; rfl, rfl⟩
    · have hs : a + b < -9223372036854775808 := by unfold In at h; omega
      have hn : b < 0 := by omega
      clear h
      go_enter Try.func14, Try.ntmps14
      go_wp2
      go_ret2
      exact ⟨by rw [H1.out, H2.out]; rfl, rfl⟩

theorem rsub_any (a b : Int) (ha : In a) (hb : In b) (w : World) :
    Calls Try.prog 17 #[.int .i64 a, .int .i64 b] w fun e w' => e = got (fit (a - b)) (fits (a - b)) ∧ w = w' := by
  obtain ⟨a1, a2⟩ := ha; obtain ⟨b1, b2⟩ := hb
  by_cases h : In (a - b)
  · have H1 := Lib.hid (fit_yes h)
    have H2 := Lib.hid (fits_yes h)
    obtain ⟨h1, h2⟩ := h
    by_cases hp : 0 < b
    · go_enter Try.func17, Try.ntmps17
      go_wp2
      go_ret2
      exact ⟨by rw [H1.out, H2.out]; rfl, rfl⟩
    · by_cases hn : b < 0
      · go_enter Try.func17, Try.ntmps17
        go_wp2
        go_ret2
        exact ⟨by rw [H1.out, H2.out]; rfl, rfl⟩
      · go_enter Try.func17, Try.ntmps17
        go_wp2
        go_ret2
        exact ⟨by rw [H1.out, H2.out]; rfl, rfl⟩
  · have H1 := Lib.hid (fit_no h)
    have H2 := Lib.hid (fits_no h)
    by_cases hp : 0 < b
    · have hs : a - b < -9223372036854775808 := by unfold In at h; omega
      clear h
      go_enter Try.func17, Try.ntmps17
      go_wp2
      go_ret2
      exact ⟨by rw [H1.out, H2.out]; rfl, rfl⟩
    · have hs : 9223372036854775807 < a - b := by unfold In at h; omega
      have hn : b < 0 := by omega
      clear h
      go_enter Try.func17, Try.ntmps17
      go_wp2
      go_ret2
      exact ⟨by rw [H1.out, H2.out]; rfl, rfl⟩

end Go.Proofs.Ytpaembijdedeiaa
