/- What the reference's products return: the magnitudes' product in 128 bits, with its sign. -/
import Derived.Test.YtpaembijdedeiaaNum
namespace Go.Proofs.Ytpaembijdedeiaa
open Go.RowKit

theorem rabs_any (a : Int) (ha : In a) (w : World) :
    Calls Try.prog 35 #[.int .i64 a] w fun e w' => e = .returned (.int .u64 (a.natAbs : Int)) ∧ w = w' := by
  obtain ⟨a1, a2⟩ := ha
  by_cases hn : a < 0
  · have H := Lib.hid (show -(a + 1) + 1 = (a.natAbs : Int) by omega)
    go_enter Try.func35, Try.ntmps35
    go_wp2
    go_ret
    exact ⟨by rw [← H.out]; rfl, rfl⟩
  · have H := Lib.hid (show a = (a.natAbs : Int) by omega)
    go_enter Try.func35, Try.ntmps35
    go_wp2
    go_ret
    exact ⟨by rw [← H.out]; rfl, rfl⟩

/-! ### math/bits.Mul64: the library's own text, walked: halves of 32 bits -/
theorem low32 (a : Nat) (ha : a < 18446744073709551616) : bits .and .u64 (a : Int) 4294967295 = ((a % 4294967296 : Nat) : Int) := by
  have h := bits_and_u64_nat a 4294967295 ha (by omega)
  rw [show a &&& 4294967295 = a % 4294967296 from Nat.and_two_pow_sub_one_eq_mod a 32] at h
  exact h
theorem high32 (a : Nat) : (a : Int) / 4294967296 = ((a / 4294967296 : Nat) : Int) := by omega
theorem upMul (a b : Nat) : (a : Int) * (b : Int) = ((a * b : Nat) : Int) := (Int.natCast_mul a b).symm
theorem upAdd (a b : Nat) : (a : Int) + (b : Int) = ((a + b : Nat) : Int) := (Int.natCast_add a b).symm
theorem keep64 (a : Nat) (ha : a < 18446744073709551616) : IntKind.u64.wrap (a : Int) = (a : Int) := by rw [IntKind.wrap_u64]; omega
theorem cut64 (a : Nat) : IntKind.u64.wrap (a : Int) = ((a % 18446744073709551616 : Nat) : Int) := by rw [IntKind.wrap_u64]; omega

set_option maxHeartbeats 1000000 in
theorem mul64_any (x y : Nat) (hx : x < 18446744073709551616) (hy : y < 18446744073709551616) (w : World) :
    Calls Try.prog 34 #[.int .u64 (x : Int), .int .u64 (y : Int)] w fun e w' =>
      e = .returned (.tuple #[.int .u64 ((x * y / 18446744073709551616 : Nat) : Int), .int .u64 ((x * y % 18446744073709551616 : Nat) : Int)]) ∧ w = w' := by
  obtain ⟨bd, bt, bw, hhi⟩ := Go.Lib.mul64_hi x y hx hy
  have ba := Go.Lib.half_mul_le (a := x / 4294967296) (b := y / 4294967296) (by omega) (by omega)
  have bb := Go.Lib.half_mul_le (a := x / 4294967296) (b := y % 4294967296) (by omega) (by omega)
  have bc := Go.Lib.half_mul_le (a := x % 4294967296) (b := y / 4294967296) (by omega) (by omega)
  have ba' : x / 4294967296 * (y / 4294967296) < 18446744073709551616 := by omega
  have bb' : x / 4294967296 * (y % 4294967296) < 18446744073709551616 := by omega
  have bc' : x % 4294967296 * (y / 4294967296) < 18446744073709551616 := by omega
  have bh1 : x / 4294967296 * (y / 4294967296) + (x / 4294967296 * (y % 4294967296) + x % 4294967296 * (y % 4294967296) / 4294967296) / 4294967296 < 18446744073709551616 := by omega
  have bh : x / 4294967296 * (y / 4294967296) + (x / 4294967296 * (y % 4294967296) + x % 4294967296 * (y % 4294967296) / 4294967296) / 4294967296 + ((x / 4294967296 * (y % 4294967296) + x % 4294967296 * (y % 4294967296) / 4294967296) % 4294967296 + x % 4294967296 * (y / 4294967296)) / 4294967296 < 18446744073709551616 := by omega
  have HH := Lib.hid hhi
  clear hhi
  go_enter Try.func34, Try.ntmps34
  go_wp2
  simp only [low32 x hx, low32 y hy, high32, upMul, upAdd, keep64 _ bd, keep64 _ bb', keep64 _ bt, low32 _ bt, keep64 _ bc', keep64 _ bw, keep64 _ ba', keep64 _ bh1, keep64 _ bh, cut64 (x * y)]
  rw [HH.out]
  go_ret2
  exact ⟨rfl, rfl⟩

/-! ### The sign -/
def NoFit (w : World) (e : Ending) (w' : World) : Prop := ∃ n : Int, e = got n false ∧ w = w'

theorem rsigned_up (m : Int) (h0 : 0 ≤ m) (h : m < 9223372036854775808) (w : World) :
    Calls Try.prog 37 #[.bool false, .int .u64 m] w fun e w' => e = got m true ∧ w = w' := by
  go_enter Try.func37, Try.ntmps37
  go_wp2
  go_ret2
  exact ⟨rfl, rfl⟩
theorem rsigned_big (m : Int) (h : 9223372036854775808 ≤ m) (w : World) :
    Calls Try.prog 37 #[.bool false, .int .u64 m] w (NoFit w) := by
  have t : decide (m < 9223372036854775808) = false := decide_eq_false (by omega)
  go_enter Try.func37, Try.ntmps37
  go_wp2
  go_ret2
  exact ⟨_, rfl, rfl⟩
theorem rsigned_least (m : Int) (h : m = 9223372036854775808) (w : World) :
    Calls Try.prog 37 #[.bool true, .int .u64 m] w fun e w' => e = got (-9223372036854775808) true ∧ w = w' := by
  subst h
  go_enter Try.func37, Try.ntmps37
  go_wp2
  go_ret2
  exact ⟨rfl, rfl⟩
theorem low63 (m : Int) (h0 : 0 ≤ m) (hm : m < 9223372036854775808) : bits .and .u64 m 9223372036854775807 = m := by
  obtain ⟨a, rfl⟩ := Int.eq_ofNat_of_zero_le h0
  have ha : a < 9223372036854775808 := by omega
  have h := bits_and_u64_nat a 9223372036854775807 (by omega) (by omega)
  rw [show a &&& 9223372036854775807 = a % 9223372036854775808 from Nat.and_two_pow_sub_one_eq_mod a 63, Nat.mod_eq_of_lt ha] at h
  exact h
theorem rsigned_down (m : Int) (h0 : 0 ≤ m) (h : m < 9223372036854775808) (w : World) :
    Calls Try.prog 37 #[.bool true, .int .u64 m] w fun e w' => e = got (-m) true ∧ w = w' := by
  have hl := low63 m h0 h
  have t : decide (m < 9223372036854775808) = true := decide_eq_true h
  go_enter Try.func37, Try.ntmps37
  go_wp2
  go_ret2
  exact ⟨rfl, rfl⟩
theorem rsigned_far (m : Int) (h : 9223372036854775808 < m) (w : World) :
    Calls Try.prog 37 #[.bool true, .int .u64 m] w (NoFit w) := by
  have t : decide (m < 9223372036854775808) = false := decide_eq_false (by omega)
  go_enter Try.func37, Try.ntmps37
  go_wp2
  go_ret2
  exact ⟨_, rfl, rfl⟩
theorem rfit_yes (n : Int) (w : World) :
    Calls Try.prog 36 #[.int .i64 n, .bool true] w fun e w' => e = got n true ∧ w = w' := by
  go_enter Try.func36, Try.ntmps36
  go_wp2
  go_ret2
  exact ⟨rfl, rfl⟩
theorem rfit_no (n : Int) (w : World) :
    Calls Try.prog 36 #[.int .i64 n, .bool false] w fun e w' => e = got 0 false ∧ w = w' := by
  go_enter Try.func36, Try.ntmps36
  go_wp2
  go_ret2
  exact ⟨rfl, rfl⟩

/-! ### The product -/
theorem abs_mul (a b : Int) : ((a < 0 ↔ b < 0) → a * b = ((a.natAbs * b.natAbs : Nat) : Int)) ∧ (¬ (a < 0 ↔ b < 0) → a * b = -((a.natAbs * b.natAbs : Nat) : Int)) := by
  have h := Int.natAbs_mul a b
  rw [← h]
  refine ⟨fun hs => ?_, fun hs => ?_⟩
  · have h0 : 0 ≤ a * b := by
      by_cases ha : a < 0
      · exact Int.mul_nonneg_of_nonpos_of_nonpos (by omega) (by omega)
      · exact Int.mul_nonneg (by omega) (by omega)
    omega
  · have h0 : a * b ≤ 0 := by
      by_cases ha : a < 0
      · exact Int.mul_nonpos_of_nonpos_of_nonneg (by omega) (by omega)
      · exact Int.mul_nonpos_of_nonneg_of_nonpos (by omega) (by omega)
    omega

set_option maxHeartbeats 1000000 in
theorem rmul_any (a b : Int) (ha : In a) (hb : In b) (w : World) :
    Calls Try.prog 19 #[.int .i64 a, .int .i64 b] w fun e w' => e = got (fit (a * b)) (fits (a * b)) ∧ w = w' := by
  have hA : a.natAbs < 18446744073709551616 := by unfold In at ha; omega
  have hB : b.natAbs < 18446744073709551616 := by unfold In at hb; omega
  obtain ⟨he1, he2⟩ := abs_mul a b
  obtain ⟨P, hP⟩ : ∃ P, P = a.natAbs * b.natAbs := ⟨_, rfl⟩
  rw [← hP] at he1 he2
  have HP := Lib.hid hP
  clear hP
  by_cases hp : P < 18446744073709551616
  case neg =>
    have hi : ¬ In (a * b) := by
      by_cases hs : (a < 0 ↔ b < 0)
      · have := he1 hs; unfold In; omega
      · have := he2 hs; unfold In; omega
    have H1 := Lib.hid (fit_no hi)
    have H2 := Lib.hid (fits_no hi)
    have t1 : (((P / 18446744073709551616 : Nat) : Int) != 0) = true := by rw [bne_iff_ne]; omega
    clear hi he1 he2
    go_enter Try.func19, Try.ntmps19
    go_wp2_with fail
    refine (rabs_any a ha _).mono ?_
    rintro e w' ⟨rfl, rfl⟩
    go_wp2_with fail
    refine (rabs_any b hb _).mono ?_
    rintro e w' ⟨rfl, rfl⟩
    go_wp2_with fail
    refine (mul64_any a.natAbs b.natAbs hA hB _).mono ?_
    rintro e w' ⟨rfl, rfl⟩
    rw [← HP.out]
    go_wp2
    go_ret2
    exact ⟨by rw [H1.out, H2.out]; rfl, rfl⟩
  by_cases sa : a < 0
  · have ta : decide (a < 0) = true := decide_eq_true sa
    by_cases sb : b < 0
    · have tb : decide (b < 0) = true := decide_eq_true sb
      have he := he1 (by omega)
      clear he1 he2 sa sb
      by_cases hs : P < 9223372036854775808
      · have hi : In (a * b) := ⟨by omega, by omega⟩
        have H1 := Lib.hid (fit_yes hi)
        have H2 := Lib.hid (fits_yes hi)
        have H3 := Lib.hid he
        clear hi he
        go_enter Try.func19, Try.ntmps19
        go_wp2_with fail
        refine (rabs_any a ha _).mono ?_
        rintro e w' ⟨rfl, rfl⟩
        go_wp2_with fail
        refine (rabs_any b hb _).mono ?_
        rintro e w' ⟨rfl, rfl⟩
        go_wp2_with fail
        refine (mul64_any a.natAbs b.natAbs hA hB _).mono ?_
        rintro e w' ⟨rfl, rfl⟩
        rw [← HP.out]
        rw [Nat.div_eq_of_lt hp, Nat.mod_eq_of_lt hp]
        go_wp2_with fail
        refine (rsigned_up (P : Int) (by omega) (by omega) _).mono ?_
        rintro e w' ⟨rfl, rfl⟩
        go_wp2_with fail
        refine (rfit_yes _ _).mono ?_
        rintro e w' ⟨rfl, rfl⟩
        go_wp2
        go_ret2
        exact ⟨by rw [H1.out, H2.out]; exact congrArg (fun x => got x true) (H3.out.symm), rfl⟩
      · have hi : ¬ In (a * b) := by unfold In; omega
        have H1 := Lib.hid (fit_no hi)
        have H2 := Lib.hid (fits_no hi)
        clear hi he
        go_enter Try.func19, Try.ntmps19
        go_wp2_with fail
        refine (rabs_any a ha _).mono ?_
        rintro e w' ⟨rfl, rfl⟩
        go_wp2_with fail
        refine (rabs_any b hb _).mono ?_
        rintro e w' ⟨rfl, rfl⟩
        go_wp2_with fail
        refine (mul64_any a.natAbs b.natAbs hA hB _).mono ?_
        rintro e w' ⟨rfl, rfl⟩
        rw [← HP.out]
        rw [Nat.div_eq_of_lt hp, Nat.mod_eq_of_lt hp]
        go_wp2_with fail
        refine (rsigned_big (P : Int) (by omega) _).mono ?_
        rintro e w' ⟨k, rfl, rfl⟩
        go_wp2_with fail
        refine (rfit_no _ _).mono ?_
        rintro e w' ⟨rfl, rfl⟩
        go_wp2
        go_ret2
        exact ⟨by rw [H1.out, H2.out]; rfl, rfl⟩
    · have tb : decide (b < 0) = false := decide_eq_false sb
      have he := he2 (by omega)
      clear he1 he2 sa sb
      by_cases hz : P = 0
      · have tz : ((P : Int) != 0) = false := bne_eq_false_iff_eq.2 (by omega)
        have hi : In (a * b) := ⟨by omega, by omega⟩
        have H1 := Lib.hid (fit_yes hi)
        have H2 := Lib.hid (fits_yes hi)
        have H3 := Lib.hid (show a * b = (P : Int) by omega)
        have hz' : P < 1 := by omega
        clear hi he hz
        go_enter Try.func19, Try.ntmps19
        go_wp2_with fail
        refine (rabs_any a ha _).mono ?_
        rintro e w' ⟨rfl, rfl⟩
        go_wp2_with fail
        refine (rabs_any b hb _).mono ?_
        rintro e w' ⟨rfl, rfl⟩
        go_wp2_with fail
        refine (mul64_any a.natAbs b.natAbs hA hB _).mono ?_
        rintro e w' ⟨rfl, rfl⟩
        rw [← HP.out]
        rw [Nat.div_eq_of_lt hp, Nat.mod_eq_of_lt hp]
        go_wp2_with fail
        refine (rsigned_up (P : Int) (by omega) (by omega) _).mono ?_
        rintro e w' ⟨rfl, rfl⟩
        go_wp2_with fail
        refine (rfit_yes _ _).mono ?_
        rintro e w' ⟨rfl, rfl⟩
        go_wp2
        go_ret2
        exact ⟨by rw [H1.out, H2.out]; exact congrArg (fun x => got x true) (H3.out.symm), rfl⟩
      · have tz : ((P : Int) != 0) = true := bne_iff_ne.2 (by omega)
        by_cases hs : P < 9223372036854775808
        · have hi : In (a * b) := ⟨by omega, by omega⟩
          have H1 := Lib.hid (fit_yes hi)
          have H2 := Lib.hid (fits_yes hi)
          have H3 := Lib.hid he
          clear hi he
          go_enter Try.func19, Try.ntmps19
          go_wp2_with fail
          refine (rabs_any a ha _).mono ?_
          rintro e w' ⟨rfl, rfl⟩
          go_wp2_with fail
          refine (rabs_any b hb _).mono ?_
          rintro e w' ⟨rfl, rfl⟩
          go_wp2_with fail
          refine (mul64_any a.natAbs b.natAbs hA hB _).mono ?_
          rintro e w' ⟨rfl, rfl⟩
          rw [← HP.out]
          rw [Nat.div_eq_of_lt hp, Nat.mod_eq_of_lt hp]
          go_wp2_with fail
          refine (rsigned_down (P : Int) (by omega) (by omega) _).mono ?_
          rintro e w' ⟨rfl, rfl⟩
          go_wp2_with fail
          refine (rfit_yes _ _).mono ?_
          rintro e w' ⟨rfl, rfl⟩
          go_wp2
          go_ret2
          exact ⟨by rw [H1.out, H2.out]; exact congrArg (fun x => got x true) (H3.out.symm), rfl⟩
        · by_cases hs2 : P = 9223372036854775808
          · have hi : In (a * b) := ⟨by omega, by omega⟩
            have H1 := Lib.hid (fit_yes hi)
            have H2 := Lib.hid (fits_yes hi)
            have H3 := Lib.hid he
            have H4 := Lib.hid hs2
            clear hi he hs2
            go_enter Try.func19, Try.ntmps19
            go_wp2_with fail
            refine (rabs_any a ha _).mono ?_
            rintro e w' ⟨rfl, rfl⟩
            go_wp2_with fail
            refine (rabs_any b hb _).mono ?_
            rintro e w' ⟨rfl, rfl⟩
            go_wp2_with fail
            refine (mul64_any a.natAbs b.natAbs hA hB _).mono ?_
            rintro e w' ⟨rfl, rfl⟩
            rw [← HP.out]
            rw [Nat.div_eq_of_lt hp, Nat.mod_eq_of_lt hp]
            go_wp2_with fail
            refine (rsigned_least (P : Int) (by have := H4.out; omega) _).mono ?_
            rintro e w' ⟨rfl, rfl⟩
            go_wp2_with fail
            refine (rfit_yes _ _).mono ?_
            rintro e w' ⟨rfl, rfl⟩
            go_wp2
            go_ret2
            exact ⟨by rw [H1.out, H2.out]; exact congrArg (fun x => got x true) (by have := H3.out; have := H4.out; omega), rfl⟩
          · have hi : ¬ In (a * b) := by unfold In; omega
            have H1 := Lib.hid (fit_no hi)
            have H2 := Lib.hid (fits_no hi)
            clear hi he
            go_enter Try.func19, Try.ntmps19
            go_wp2_with fail
            refine (rabs_any a ha _).mono ?_
            rintro e w' ⟨rfl, rfl⟩
            go_wp2_with fail
            refine (rabs_any b hb _).mono ?_
            rintro e w' ⟨rfl, rfl⟩
            go_wp2_with fail
            refine (mul64_any a.natAbs b.natAbs hA hB _).mono ?_
            rintro e w' ⟨rfl, rfl⟩
            rw [← HP.out]
            rw [Nat.div_eq_of_lt hp, Nat.mod_eq_of_lt hp]
            go_wp2_with fail
            refine (rsigned_far (P : Int) (by omega) _).mono ?_
            rintro e w' ⟨k, rfl, rfl⟩
            go_wp2_with fail
            refine (rfit_no _ _).mono ?_
            rintro e w' ⟨rfl, rfl⟩
            go_wp2
            go_ret2
            exact ⟨by rw [H1.out, H2.out]; rfl, rfl⟩
  · have ta : decide (a < 0) = false := decide_eq_false sa
    by_cases sb : b < 0
    · have tb : decide (b < 0) = true := decide_eq_true sb
      have he := he2 (by omega)
      clear he1 he2 sa sb
      by_cases hz : P = 0
      · have tz : ((P : Int) != 0) = false := bne_eq_false_iff_eq.2 (by omega)
        have hi : In (a * b) := ⟨by omega, by omega⟩
        have H1 := Lib.hid (fit_yes hi)
        have H2 := Lib.hid (fits_yes hi)
        have H3 := Lib.hid (show a * b = (P : Int) by omega)
        have hz' : P < 1 := by omega
        clear hi he hz
        go_enter Try.func19, Try.ntmps19
        go_wp2_with fail
        refine (rabs_any a ha _).mono ?_
        rintro e w' ⟨rfl, rfl⟩
        go_wp2_with fail
        refine (rabs_any b hb _).mono ?_
        rintro e w' ⟨rfl, rfl⟩
        go_wp2_with fail
        refine (mul64_any a.natAbs b.natAbs hA hB _).mono ?_
        rintro e w' ⟨rfl, rfl⟩
        rw [← HP.out]
        rw [Nat.div_eq_of_lt hp, Nat.mod_eq_of_lt hp]
        go_wp2_with fail
        refine (rsigned_up (P : Int) (by omega) (by omega) _).mono ?_
        rintro e w' ⟨rfl, rfl⟩
        go_wp2_with fail
        refine (rfit_yes _ _).mono ?_
        rintro e w' ⟨rfl, rfl⟩
        go_wp2
        go_ret2
        exact ⟨by rw [H1.out, H2.out]; exact congrArg (fun x => got x true) (H3.out.symm), rfl⟩
      · have tz : ((P : Int) != 0) = true := bne_iff_ne.2 (by omega)
        by_cases hs : P < 9223372036854775808
        · have hi : In (a * b) := ⟨by omega, by omega⟩
          have H1 := Lib.hid (fit_yes hi)
          have H2 := Lib.hid (fits_yes hi)
          have H3 := Lib.hid he
          clear hi he
          go_enter Try.func19, Try.ntmps19
          go_wp2_with fail
          refine (rabs_any a ha _).mono ?_
          rintro e w' ⟨rfl, rfl⟩
          go_wp2_with fail
          refine (rabs_any b hb _).mono ?_
          rintro e w' ⟨rfl, rfl⟩
          go_wp2_with fail
          refine (mul64_any a.natAbs b.natAbs hA hB _).mono ?_
          rintro e w' ⟨rfl, rfl⟩
          rw [← HP.out]
          rw [Nat.div_eq_of_lt hp, Nat.mod_eq_of_lt hp]
          go_wp2_with fail
          refine (rsigned_down (P : Int) (by omega) (by omega) _).mono ?_
          rintro e w' ⟨rfl, rfl⟩
          go_wp2_with fail
          refine (rfit_yes _ _).mono ?_
          rintro e w' ⟨rfl, rfl⟩
          go_wp2
          go_ret2
          exact ⟨by rw [H1.out, H2.out]; exact congrArg (fun x => got x true) (H3.out.symm), rfl⟩
        · by_cases hs2 : P = 9223372036854775808
          · have hi : In (a * b) := ⟨by omega, by omega⟩
            have H1 := Lib.hid (fit_yes hi)
            have H2 := Lib.hid (fits_yes hi)
            have H3 := Lib.hid he
            have H4 := Lib.hid hs2
            clear hi he hs2
            go_enter Try.func19, Try.ntmps19
            go_wp2_with fail
            refine (rabs_any a ha _).mono ?_
            rintro e w' ⟨rfl, rfl⟩
            go_wp2_with fail
            refine (rabs_any b hb _).mono ?_
            rintro e w' ⟨rfl, rfl⟩
            go_wp2_with fail
            refine (mul64_any a.natAbs b.natAbs hA hB _).mono ?_
            rintro e w' ⟨rfl, rfl⟩
            rw [← HP.out]
            rw [Nat.div_eq_of_lt hp, Nat.mod_eq_of_lt hp]
            go_wp2_with fail
            refine (rsigned_least (P : Int) (by have := H4.out; omega) _).mono ?_
            rintro e w' ⟨rfl, rfl⟩
            go_wp2_with fail
            refine (rfit_yes _ _).mono ?_
            rintro e w' ⟨rfl, rfl⟩
            go_wp2
            go_ret2
            exact ⟨by rw [H1.out, H2.out]; exact congrArg (fun x => got x true) (by have := H3.out; have := H4.out; omega), rfl⟩
          · have hi : ¬ In (a * b) := by unfold In; omega
            have H1 := Lib.hid (fit_no hi)
            have H2 := Lib.hid (fits_no hi)
            clear hi he
            go_enter Try.func19, Try.ntmps19
            go_wp2_with fail
            refine (rabs_any a ha _).mono ?_
            rintro e w' ⟨rfl, rfl⟩
            go_wp2_with fail
            refine (rabs_any b hb _).mono ?_
            rintro e w' ⟨rfl, rfl⟩
            go_wp2_with fail
            refine (mul64_any a.natAbs b.natAbs hA hB _).mono ?_
            rintro e w' ⟨rfl, rfl⟩
            rw [← HP.out]
            rw [Nat.div_eq_of_lt hp, Nat.mod_eq_of_lt hp]
            go_wp2_with fail
            refine (rsigned_far (P : Int) (by omega) _).mono ?_
            rintro e w' ⟨k, rfl, rfl⟩
            go_wp2_with fail
            refine (rfit_no _ _).mono ?_
            rintro e w' ⟨rfl, rfl⟩
            go_wp2
            go_ret2
            exact ⟨by rw [H1.out, H2.out]; rfl, rfl⟩
    · have tb : decide (b < 0) = false := decide_eq_false sb
      have he := he1 (by omega)
      clear he1 he2 sa sb
      by_cases hs : P < 9223372036854775808
      · have hi : In (a * b) := ⟨by omega, by omega⟩
        have H1 := Lib.hid (fit_yes hi)
        have H2 := Lib.hid (fits_yes hi)
        have H3 := Lib.hid he
        clear hi he
        go_enter Try.func19, Try.ntmps19
        go_wp2_with fail
        refine (rabs_any a ha _).mono ?_
        rintro e w' ⟨rfl, rfl⟩
        go_wp2_with fail
        refine (rabs_any b hb _).mono ?_
        rintro e w' ⟨rfl, rfl⟩
        go_wp2_with fail
        refine (mul64_any a.natAbs b.natAbs hA hB _).mono ?_
        rintro e w' ⟨rfl, rfl⟩
        rw [← HP.out]
        rw [Nat.div_eq_of_lt hp, Nat.mod_eq_of_lt hp]
        go_wp2_with fail
        refine (rsigned_up (P : Int) (by omega) (by omega) _).mono ?_
        rintro e w' ⟨rfl, rfl⟩
        go_wp2_with fail
        refine (rfit_yes _ _).mono ?_
        rintro e w' ⟨rfl, rfl⟩
        go_wp2
        go_ret2
        exact ⟨by rw [H1.out, H2.out]; exact congrArg (fun x => got x true) (H3.out.symm), rfl⟩
      · have hi : ¬ In (a * b) := by unfold In; omega
        have H1 := Lib.hid (fit_no hi)
        have H2 := Lib.hid (fits_no hi)
        clear hi he
        go_enter Try.func19, Try.ntmps19
        go_wp2_with fail
        refine (rabs_any a ha _).mono ?_
        rintro e w' ⟨rfl, rfl⟩
        go_wp2_with fail
        refine (rabs_any b hb _).mono ?_
        rintro e w' ⟨rfl, rfl⟩
        go_wp2_with fail
        refine (mul64_any a.natAbs b.natAbs hA hB _).mono ?_
        rintro e w' ⟨rfl, rfl⟩
        rw [← HP.out]
        rw [Nat.div_eq_of_lt hp, Nat.mod_eq_of_lt hp]
        go_wp2_with fail
        refine (rsigned_big (P : Int) (by omega) _).mono ?_
        rintro e w' ⟨k, rfl, rfl⟩
        go_wp2_with fail
        refine (rfit_no _ _).mono ?_
        rintro e w' ⟨rfl, rfl⟩
        go_wp2
        go_ret2
        exact ⟨by rw [H1.out, H2.out]; rfl, rfl⟩

end Go.Proofs.Ytpaembijdedeiaa
