/- Texts of these claims, one after the other. -/
import Derived.Test.YtchikndofpkjmaaRows
import Derived.Test.YtchikndofpkjmaaZWMathq0
namespace Go.Proofs.Ytchikndofpkjmaa
open Go.RowKit

theorem cmpZ_hi {ah al bh bl : Int} (h2 : Word al) (h4 : Word bl) (h : ah ≠ bh) : cmpZ (val ah al) (val bh bl) = cmpZ ah bh := by
  obtain ⟨b1, b2⟩ := h2; obtain ⟨d1, d2⟩ := h4
  by_cases hl : ah < bh
  · rw [cmpZ_lt hl, cmpZ_lt (by unfold val; omega)]
  · rw [cmpZ_gt (show bh < ah by omega), cmpZ_gt (by unfold val; omega)]
theorem cmpZ_lo {ah al bl : Int} : cmpZ (val ah al) (val ah bl) = cmpZ al bl := by
  by_cases hl : al < bl
  · rw [cmpZ_lt hl, cmpZ_lt (by unfold val; omega)]
  · by_cases he : al = bl
    · rw [cmpZ_eq he, cmpZ_eq (by unfold val; omega)]
    · rw [cmpZ_gt (show bl < al by omega), cmpZ_gt (by unfold val; omega)]

end Go.Proofs.Ytchikndofpkjmaa

namespace Go.Proofs.Ytchikndofpkjmaa
open Go.RowKit

/-- A checked result: the number and true, or 0 and false. -/
abbrev got (x : Int) (ok : Bool) : Ending := .returned (.tuple #[.int .i64 x, .bool ok])

theorem sub_any (a b : Int) (ha : In a) (hb : In b) (w : World) :
    Calls Try.prog 42 #[.int .i64 a, .int .i64 b] w fun e w' => e = got (fit (a - b)) (fits (a - b)) ∧ w = w' := by
  obtain ⟨a1, a2⟩ := ha; obtain ⟨b1, b2⟩ := hb
  by_cases h : In (a - b)
  · have H1 := Lib.hid (fit_yes h)
    have H2 := Lib.hid (fits_yes h)
    obtain ⟨h1, h2⟩ := h
    by_cases hp : 0 < b
    · have t1 : decide (a - b < a) = true := decide_eq_true (by omega)
      go_enter Try.func42, Try.ntmps42
      go_wp2
      go_ret2
      exact ⟨by rw [H1.out, H2.out]; rfl, rfl⟩
    · have t1 : decide (a - b < a) = false := decide_eq_false (by omega)
      go_enter Try.func42, Try.ntmps42
      go_wp2
      go_ret2
      exact ⟨by rw [H1.out, H2.out]; rfl, rfl⟩
  · have H1 := Lib.hid (fit_no h)
    have H2 := Lib.hid (fits_no h)
    by_cases hp : 0 < b
    · have hs : a - b < -9223372036854775808 := by unfold In at h; omega
      have t1 : decide (wrap64 (a - b) < a) = false := decide_eq_false (by unfold wrap64; omega)
      clear h
      go_enter Try.func42, Try.ntmps42
      go_wp2
      go_ret2
      exact ⟨by rw [H1.out, H2.out]; rfl, rfl⟩
    · have hs : 9223372036854775807 < a - b := by unfold In at h; omega
      have t1 : decide (wrap64 (a - b) < a) = true := decide_eq_true (by unfold wrap64; omega)
      clear h
      go_enter Try.func42, Try.ntmps42
      go_wp2
      go_ret2
      exact ⟨by rw [H1.out, H2.out]; rfl, rfl⟩

/-! ### The reference's sums -/
end Go.Proofs.Ytchikndofpkjmaa

namespace Go.Proofs.Ytchikndofpkjmaa
open Go.RowKit

/-! ### The reference's sums -/
theorem rsub_any (a b : Int) (ha : In a) (hb : In b) (w : World) :
    Calls Try.prog 43 #[.int .i64 a, .int .i64 b] w fun e w' => e = got (fit (a - b)) (fits (a - b)) ∧ w = w' := by
  obtain ⟨a1, a2⟩ := ha; obtain ⟨b1, b2⟩ := hb
  by_cases h : In (a - b)
  · have H1 := Lib.hid (fit_yes h)
    have H2 := Lib.hid (fits_yes h)
    obtain ⟨h1, h2⟩ := h
    by_cases hp : 0 < b
    · go_enter Try.func43, Try.ntmps43
      go_wp2
      go_ret2
      exact ⟨by rw [H1.out, H2.out]; rfl, rfl⟩
    · by_cases hn : b < 0
      · go_enter Try.func43, Try.ntmps43
        go_wp2
        go_ret2
        exact ⟨by rw [H1.out, H2.out]; rfl, rfl⟩
      · go_enter Try.func43, Try.ntmps43
        go_wp2
        go_ret2
        exact ⟨by rw [H1.out, H2.out]; rfl, rfl⟩
  · have H1 := Lib.hid (fit_no h)
    have H2 := Lib.hid (fits_no h)
    by_cases hp : 0 < b
    · have hs : a - b < -9223372036854775808 := by unfold In at h; omega
      clear h
      go_enter Try.func43, Try.ntmps43
      go_wp2
      go_ret2
      exact ⟨by rw [H1.out, H2.out]; rfl, rfl⟩
    · have hs : 9223372036854775807 < a - b := by unfold In at h; omega
      have hn : b < 0 := by omega
      clear h
      go_enter Try.func43, Try.ntmps43
      go_wp2
      go_ret2
      exact ⟨by rw [H1.out, H2.out]; rfl, rfl⟩

end Go.Proofs.Ytchikndofpkjmaa

namespace Go.Proofs.Ytchikndofpkjmaa
open Go.RowKit

/-! ### The comparison of two products -/
theorem abs_word {a : Int} (ha : In a) : Word (a.natAbs : Int) := by obtain ⟨a1, a2⟩ := ha; exact ⟨by omega, by omega⟩

end Go.Proofs.Ytchikndofpkjmaa

namespace Go.Proofs.Ytchikndofpkjmaa
open Go.RowKit

theorem mod_any (a b : Int) (hb : In b) (w : World) :
    Calls Try.prog 91 #[.int .i64 a, .int .i64 b] w fun e w' => e = got (rests a b) (hasr b) ∧ w = w' := by
  by_cases h0 : b = 0
  case pos =>
    have H1 := Lib.hid (rests_no (a := a) h0)
    have H2 := Lib.hid (hasr_no h0)
    have t0 : (b == 0) = true := beq_iff_eq.2 h0
    clear h0
    go_enter Try.func91, Try.ntmps91
    go_wp2
    go_ret2
    exact ⟨by rw [H1.out, H2.out]; rfl, rfl⟩
  have H1 := Lib.hid (rests_yes (a := a) h0)
  have H2 := Lib.hid (hasr_yes h0)
  have t0 : (b == 0) = false := beq_eq_false_iff_ne.2 h0
  obtain ⟨q1, q2⟩ := tmod_in (a := a) hb h0
  by_cases hr : a.tmod b = 0
  · have t1 : (a.tmod b != 0) = false := bne_eq_false_iff_eq.2 hr
    have K := Lib.hid hr
    clear hr
    go_enter Try.func91, Try.ntmps91
    go_wp2
    go_ret2
    exact ⟨by rw [H1.out, H2.out]; unfold rest; rw [if_neg (by have := K.out; omega)]; rfl, rfl⟩
  · have t1 : (a.tmod b != 0) = true := bne_iff_ne.2 hr
    have K := Lib.hid hr
    have hs := tmod_neg_iff hr
    have hl := tmod_lt a b h0
    have KS := Lib.hid hs
    clear hr
    obtain ⟨b1, b2⟩ := hb
    by_cases sa : a < 0
    · have ta : decide (a.tmod b < 0) = true := decide_eq_true (hs.2 sa)
      have KA := Lib.hid sa
      by_cases sb : b < 0
      · have tb : decide (b < 0) = true := decide_eq_true sb
        have KB := Lib.hid sb
        clear sa sb hs hl
        go_enter Try.func91, Try.ntmps91
        go_wp2
        go_ret2
        exact ⟨by rw [H1.out, H2.out]; unfold rest; rw [if_neg (by have := K.out; have := KA.out; have := KB.out; omega)]; rfl, rfl⟩
      · have tb : decide (b < 0) = false := decide_eq_false sb
        have KB := Lib.hid sb
        have m1 : -9223372036854775808 ≤ a.tmod b + b := by omega
        have m2 : a.tmod b + b ≤ 9223372036854775807 := by omega
        clear sa sb hs hl
        go_enter Try.func91, Try.ntmps91
        go_wp2
        go_ret2
        exact ⟨by rw [H1.out, H2.out]; unfold rest; rw [if_pos (by have := K.out; have := KA.out; have := KB.out; omega)]; rfl, rfl⟩
    · have ta : decide (a.tmod b < 0) = false := decide_eq_false (fun h => sa (hs.1 h))
      have KA := Lib.hid sa
      by_cases sb : b < 0
      · have tb : decide (b < 0) = true := decide_eq_true sb
        have KB := Lib.hid sb
        have m1 : -9223372036854775808 ≤ a.tmod b + b := by omega
        have m2 : a.tmod b + b ≤ 9223372036854775807 := by omega
        clear sa sb hs hl
        go_enter Try.func91, Try.ntmps91
        go_wp2
        go_ret2
        exact ⟨by rw [H1.out, H2.out]; unfold rest; rw [if_pos (by have := K.out; have := KA.out; have := KB.out; omega)]; rfl, rfl⟩
      · have tb : decide (b < 0) = false := decide_eq_false sb
        have KB := Lib.hid sb
        clear sa sb hs hl
        go_enter Try.func91, Try.ntmps91
        go_wp2
        go_ret2
        exact ⟨by rw [H1.out, H2.out]; unfold rest; rw [if_neg (by have := K.out; have := KA.out; have := KB.out; omega)]; rfl, rfl⟩

end Go.Proofs.Ytchikndofpkjmaa
