/- What the quotients and the remainder of package num, and of its reference, return. -/
import Derived.Test.YtchikndofpkjmaaRows
import Derived.Test.YtchikndofpkjmaaZMathq27
import Derived.Test.YtchikndofpkjmaaZWCmpq11
namespace Go.Proofs.Ytchikndofpkjmaa
open Go.RowKit

theorem rflo_any (a b : Int) (ha : In a) (hb : In b) (w : World) :
    Calls Try.prog 101 #[.int .i64 a, .int .i64 b] w fun e w' => e = got (flos a b) (hasq a b) ∧ w = w' := by
  by_cases hq : hasq a b = true
  case neg =>
    have hq' : hasq a b = false := by simpa using hq
    have H1 := Lib.hid (flos_no hq')
    have H2 := Lib.hid hq'
    have hc : b = 0 ∨ (a = -9223372036854775808 ∧ b = -1) := by
      have := mt hasq_yes hq; omega
    clear hq hq'
    rcases hc with hc | ⟨hc, hd⟩
    · subst hc
      go_enter Try.func101, Try.ntmps101
      go_wp2
      go_ret2
      exact ⟨by rw [H1.out, H2.out]; rfl, rfl⟩
    · subst hc; subst hd
      go_enter Try.func101, Try.ntmps101
      go_wp2
      go_ret2
      exact ⟨by rw [H1.out, H2.out]; rfl, rfl⟩
  have H1 := Lib.hid (flos_yes hq)
  have H2 := Lib.hid hq
  obtain ⟨h0, hm⟩ := hasq_of hq
  obtain ⟨q1, q2⟩ := tdiv_in a b ha h0 hm
  have t0 : (b == 0) = false := beq_eq_false_iff_ne.2 h0
  by_cases hm1 : a = -9223372036854775808
  · have t5 : (a == -9223372036854775808) = true := beq_iff_eq.2 hm1
    have t6 : (b == -1) = false := beq_eq_false_iff_ne.2 (by omega)
    clear hq hm hm1
    by_cases hr : a.tmod b = 0
    · have t1 : (a.tmod b != 0) = false := bne_eq_false_iff_eq.2 hr
      have K := Lib.hid hr
      clear hr
      go_enter Try.func101, Try.ntmps101
      go_wp2
      go_ret2
      exact ⟨by rw [H1.out, H2.out]; unfold flo; rw [if_neg (by have := K.out; omega)]; rfl, rfl⟩
    · have t1 : (a.tmod b != 0) = true := bne_iff_ne.2 hr
      have K := Lib.hid hr
      obtain ⟨m1, m2⟩ := tdiv_room a b ha hb h0 hr
      clear hr
      by_cases sa : a < 0
      · have ta : decide (a < 0) = true := decide_eq_true sa
        have KA := Lib.hid sa
        clear sa
        by_cases sb : b < 0
        · have tb : decide (b < 0) = true := decide_eq_true sb
          have KB := Lib.hid sb
          clear sb
          go_enter Try.func101, Try.ntmps101
          go_wp2
          go_ret2
          exact ⟨by rw [H1.out, H2.out]; unfold flo; rw [if_neg (by have := K.out; have := KA.out; have := KB.out; omega)]; rfl, rfl⟩
        · have tb : decide (b < 0) = false := decide_eq_false sb
          have KB := Lib.hid sb
          clear sb
          go_enter Try.func101, Try.ntmps101
          go_wp2
          go_ret2
          exact ⟨by rw [H1.out, H2.out]; unfold flo; rw [if_pos (by have := K.out; have := KA.out; have := KB.out; omega)]; rfl, rfl⟩
      · have ta : decide (a < 0) = false := decide_eq_false sa
        have KA := Lib.hid sa
        clear sa
        by_cases sb : b < 0
        · have tb : decide (b < 0) = true := decide_eq_true sb
          have KB := Lib.hid sb
          clear sb
          go_enter Try.func101, Try.ntmps101
          go_wp2
          go_ret2
          exact ⟨by rw [H1.out, H2.out]; unfold flo; rw [if_pos (by have := K.out; have := KA.out; have := KB.out; omega)]; rfl, rfl⟩
        · have tb : decide (b < 0) = false := decide_eq_false sb
          have KB := Lib.hid sb
          clear sb
          go_enter Try.func101, Try.ntmps101
          go_wp2
          go_ret2
          exact ⟨by rw [H1.out, H2.out]; unfold flo; rw [if_neg (by have := K.out; have := KA.out; have := KB.out; omega)]; rfl, rfl⟩
  · have t5 : (a == -9223372036854775808) = false := beq_eq_false_iff_ne.2 hm1
    clear hq hm hm1
    by_cases hr : a.tmod b = 0
    · have t1 : (a.tmod b != 0) = false := bne_eq_false_iff_eq.2 hr
      have K := Lib.hid hr
      clear hr
      go_enter Try.func101, Try.ntmps101
      go_wp2
      go_ret2
      exact ⟨by rw [H1.out, H2.out]; unfold flo; rw [if_neg (by have := K.out; omega)]; rfl, rfl⟩
    · have t1 : (a.tmod b != 0) = true := bne_iff_ne.2 hr
      have K := Lib.hid hr
      obtain ⟨m1, m2⟩ := tdiv_room a b ha hb h0 hr
      clear hr
      by_cases sa : a < 0
      · have ta : decide (a < 0) = true := decide_eq_true sa
        have KA := Lib.hid sa
        clear sa
        by_cases sb : b < 0
        · have tb : decide (b < 0) = true := decide_eq_true sb
          have KB := Lib.hid sb
          clear sb
          go_enter Try.func101, Try.ntmps101
          go_wp2
          go_ret2
          exact ⟨by rw [H1.out, H2.out]; unfold flo; rw [if_neg (by have := K.out; have := KA.out; have := KB.out; omega)]; rfl, rfl⟩
        · have tb : decide (b < 0) = false := decide_eq_false sb
          have KB := Lib.hid sb
          clear sb
          go_enter Try.func101, Try.ntmps101
          go_wp2
          go_ret2
          exact ⟨by rw [H1.out, H2.out]; unfold flo; rw [if_pos (by have := K.out; have := KA.out; have := KB.out; omega)]; rfl, rfl⟩
      · have ta : decide (a < 0) = false := decide_eq_false sa
        have KA := Lib.hid sa
        clear sa
        by_cases sb : b < 0
        · have tb : decide (b < 0) = true := decide_eq_true sb
          have KB := Lib.hid sb
          clear sb
          go_enter Try.func101, Try.ntmps101
          go_wp2
          go_ret2
          exact ⟨by rw [H1.out, H2.out]; unfold flo; rw [if_pos (by have := K.out; have := KA.out; have := KB.out; omega)]; rfl, rfl⟩
        · have tb : decide (b < 0) = false := decide_eq_false sb
          have KB := Lib.hid sb
          clear sb
          go_enter Try.func101, Try.ntmps101
          go_wp2
          go_ret2
          exact ⟨by rw [H1.out, H2.out]; unfold flo; rw [if_neg (by have := K.out; have := KA.out; have := KB.out; omega)]; rfl, rfl⟩

end Go.Proofs.Ytchikndofpkjmaa
