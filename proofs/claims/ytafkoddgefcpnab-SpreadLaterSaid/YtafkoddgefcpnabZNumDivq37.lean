/- What the quotients and the remainder of package num, and of its reference, return. -/
import Derived.Test.YtafkoddgefcpnabRows
import Derived.Test.YtafkoddgefcpnabZWMathq0
namespace Go.Proofs.Ytafkoddgefcpnab
open Go.RowKit

theorem mod_any (a b : Int) (hb : In b) (w : World) :
    Calls Try.prog 40 #[.int .i64 a, .int .i64 b] w fun e w' => e = got (rests a b) (hasr b) ∧ w = w' := by
  by_cases h0 : b = 0
  case pos =>
    have H1 := Lib.hid (rests_no (a := a) h0)
    have H2 := Lib.hid (hasr_no h0)
    have t0 : (b == 0) = true := beq_iff_eq.2 h0
    clear h0
    go_enter Try.func40, Try.ntmps40
    go_wp2
    go_ret2
    exact ⟨by rw [H1.out, H2.out]; rfl, rfl⟩
  have H1 := Lib.hid (rests_yes (a := a) h0)
  have H2 := Lib.hid (hasr_yes h0)
  have t0 : (b == 0) = false := beq_eq_false_iff_ne.2 h0
  obtain ⟨q1, q2⟩ := tmod_in (a := a) hb h0
  by_cases hr : a.tmod b = 0
  · have t1 : (a.tmod b != 0) = false := bne_eq_false_iff_eq.2 hr
    have K := Lib.hid hr
    clear hr
    go_enter Try.func40, Try.ntmps40
    go_wp2
    go_ret2
    exact ⟨by rw [H1.out, H2.out]; unfold rest; rw [if_neg (by have := K.out; omega)]; rfl, rfl⟩
  · have t1 : (a.tmod b != 0) = true := bne_iff_ne.2 hr
    have K := Lib.hid hr
    have hs := tmod_neg_iff hr
    have hl := tmod_lt a b h0
    have KS := Lib.hid hs
    clear hr
    obtain ⟨b1, b2⟩ := hb
    by_cases sa : a < 0
    · have ta : decide (a.tmod b < 0) = true := decide_eq_true (hs.2 sa)
      have KA := Lib.hid sa
      by_cases sb : b < 0
      · have tb : decide (b < 0) = true := decide_eq_true sb
        have KB := Lib.hid sb
        clear sa sb hs hl
        go_enter Try.func40, Try.ntmps40
        go_wp2
        go_ret2
        exact ⟨by rw [H1.out, H2.out]; unfold rest; rw [if_neg (by have := K.out; have := KA.out; have := KB.out; omega)]; rfl, rfl⟩
      · have tb : decide (b < 0) = false := decide_eq_false sb
        have KB := Lib.hid sb
        have m1 : -9223372036854775808 ≤ a.tmod b + b := by omega
        have m2 : a.tmod b + b ≤ 9223372036854775807 := by omega
        clear sa sb hs hl
        go_enter Try.func40, Try.ntmps40
        go_wp2
        go_ret2
        exact ⟨by rw [H1.out, H2.out]; unfold rest; rw [if_pos (by have := K.out; have := KA.out; have := KB.out; omega)]; rfl, rfl⟩
    · have ta : decide (a.tmod b < 0) = false := decide_eq_false (fun h => sa (hs.1 h))
      have KA := Lib.hid sa
      by_cases sb : b < 0
      · have tb : decide (b < 0) = true := decide_eq_true sb
        have KB := Lib.hid sb
        have m1 : -9223372036854775808 ≤ a.tmod b + b := by omega
        have m2 : a.tmod b + b ≤ 9223372036854775807 := by omega
        clear sa sb hs hl
        go_enter Try.func40, Try.ntmps40
        go_wp2
        go_ret2
        exact ⟨by rw [H1.out, H2.out]; unfold rest; rw [if_pos (by have := K.out; have := KA.out; have := KB.out; omega)]; rfl, rfl⟩
      · have tb : decide (b < 0) = false := decide_eq_false sb
        have KB := Lib.hid sb
        clear sa sb hs hl
        go_enter Try.func40, Try.ntmps40
        go_wp2
        go_ret2
        exact ⟨by rw [H1.out, H2.out]; unfold rest; rw [if_neg (by have := K.out; have := KA.out; have := KB.out; omega)]; rfl, rfl⟩

end Go.Proofs.Ytafkoddgefcpnab
