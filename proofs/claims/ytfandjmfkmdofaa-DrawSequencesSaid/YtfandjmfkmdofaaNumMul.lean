/- What the products of package num, and of its reference, return. -/
import Derived.Test.YtfandjmfkmdofaaNum
namespace Go.Proofs.Ytfandjmfkmdofaa
open Go.RowKit

theorem wr_wrap (x : Int) : wrap64 x = wr x := by unfold wrap64 wr; rfl

theorem mul_any (a b : Int) (ha : In a) (hb : In b) (w : World) :
    Calls Try.prog 22 #[.int .i64 a, .int .i64 b] w fun e w' => e = got (fit (a * b)) (fits (a * b)) ∧ w = w' := by
  by_cases h0 : b = 0
  case pos =>
    have hi : In (a * b) := by rw [h0, Int.mul_zero]; exact ⟨by decide, by decide⟩
    have H1 := Lib.hid (fit_yes hi)
    have H2 := Lib.hid (fits_yes hi)
    have H3 := Lib.hid (show a * b = 0 by rw [h0, Int.mul_zero])
    have t0 : (b == 0) = true := beq_iff_eq.2 h0
    clear h0 hi
    go_enter Try.func22, Try.ntmps22
    go_wp2
    go_ret2
    exact ⟨by rw [H1.out, H2.out, H3.out]; rfl, rfl⟩
  have t0 : (b == 0) = false := beq_eq_false_iff_ne.2 h0
  by_cases hm : a = -9223372036854775808 ∧ b = -1
  case pos =>
    obtain ⟨hm, hn⟩ := hm
    have hi : ¬ In (a * b) := by rw [hm, hn]; unfold In; omega
    have H1 := Lib.hid (fit_no hi)
    have H2 := Lib.hid (fits_no hi)
    have t1 : (a == -9223372036854775808) = true := beq_iff_eq.2 hm
    have t2 : (b == -1) = true := beq_iff_eq.2 hn
    clear h0 hi hm hn
    go_enter Try.func22, Try.ntmps22
    go_wp2
    go_ret2
    exact ⟨by rw [H1.out, H2.out]; rfl, rfl⟩
  by_cases hi : In (a * b)
  case pos =>
    have H1 := Lib.hid (fit_yes hi)
    have H2 := Lib.hid (fits_yes hi)
    obtain ⟨a1, a2⟩ := ha
    obtain ⟨i1, i2⟩ := hi
    by_cases hm1 : a = -9223372036854775808
    · have t1 : (a == -9223372036854775808) = true := beq_iff_eq.2 hm1
      have t2 : (b == -1) = false := beq_eq_false_iff_ne.2 (by omega)
      clear hm hm1
      go_enter Try.func22, Try.ntmps22
      go_wp2
      go_ret2
      exact ⟨by rw [H1.out, H2.out]; rfl, rfl⟩
    · have t1 : (a == -9223372036854775808) = false := beq_eq_false_iff_ne.2 hm1
      clear hm hm1
      go_enter Try.func22, Try.ntmps22
      go_wp2
      go_ret2
      exact ⟨by rw [H1.out, H2.out]; rfl, rfl⟩
  case neg =>
    have H1 := Lib.hid (fit_no hi)
    have H2 := Lib.hid (fits_no hi)
    have hd : (wrap64 (a * b)).tdiv b ≠ a := fun h => hi (mul_back hb h0 (by rw [← wr_wrap]; exact h))
    have t3 : ((wrap64 (a * b)).tdiv b != a) = true := bne_iff_ne.2 hd
    obtain ⟨d1, d2⟩ : In ((wrap64 (a * b)).tdiv b) := by
      rw [wr_wrap]
      refine tdiv_in _ _ (wr_in _) h0 ?_
      rintro ⟨hx, rfl⟩
      exact hm ⟨wr_neg ha hx, rfl⟩
    by_cases hm1 : a = -9223372036854775808
    · have t1 : (a == -9223372036854775808) = true := beq_iff_eq.2 hm1
      have t2 : (b == -1) = false := beq_eq_false_iff_ne.2 (by omega)
      clear hm hm1 hd hi
      go_enter Try.func22, Try.ntmps22
      go_wp2
      go_ret2
      exact ⟨by rw [H1.out, H2.out]; rfl, rfl⟩
    · have t1 : (a == -9223372036854775808) = false := beq_eq_false_iff_ne.2 hm1
      clear hm hm1 hd hi
      go_enter Try.func22, Try.ntmps22
      go_wp2
      go_ret2
      exact ⟨by rw [H1.out, H2.out]; rfl, rfl⟩

end Go.Proofs.Ytfandjmfkmdofaa
