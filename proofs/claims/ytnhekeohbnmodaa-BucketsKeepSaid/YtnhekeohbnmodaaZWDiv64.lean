/- What math/bits.Div64 returns. -/
import Derived.Test.YtnhekeohbnmodaaZWLen
import Derived.Test.YtnhekeohbnmodaaZWMath
namespace Go.Proofs.Ytnhekeohbnmodaa
open Go.RowKit

theorem pow_cast (n : Nat) : ((2 ^ n : Nat) : Int) = (2 : Int) ^ n := by simp
theorem low32z (a : Int) (h0 : 0 ≤ a) (h1 : a < 18446744073709551616) : bits .and .u64 a 4294967295 = a % 4294967296 := by
  obtain ⟨n, rfl⟩ := Int.eq_ofNat_of_zero_le h0
  have h := bits_and_u64_nat n 4294967295 (by omega) (by omega)
  rw [show n &&& 4294967295 = n % 4294967296 from Nat.and_two_pow_sub_one_eq_mod n 32] at h
  exact h.trans (by omega)
theorem keep64z (a : Int) (h0 : 0 ≤ a) (h1 : a < 18446744073709551616) : IntKind.u64.wrap a = a := by rw [IntKind.wrap_u64]; omega
theorem or_join (n : Nat) (x y : Int) (hx0 : 0 ≤ x) (hx : x % 2 ^ n = 0) (hx1 : x < 18446744073709551616) (hy0 : 0 ≤ y) (hy : y < 2 ^ n) (hy1 : y < 18446744073709551616) : bits .or .u64 x y = x + y :=
  bits_join .u64 64 (by decide) (fun m h0 h1 => keep64z m h0 (by simpa using h1)) n x y hx0 hx (by simpa using hx1) hy0 hy (by simpa using hy1)

/-- The numbers shifted to the left until the divisor's first bit is set. -/
theorem norm64 (hi lo y s : Int) (h1 : Word hi) (h2 : Word lo) (h3 : Word y) (hy : hi < y) (hs : lz y = s) (s0 : 0 ≤ s) (s1 : s ≤ 63) :
    ∃ Y U V k : Int, 9223372036854775808 ≤ Y ∧ Y < 18446744073709551616 ∧ 0 ≤ U ∧ U < Y ∧ 0 ≤ V ∧ V < 18446744073709551616 ∧
      IntKind.u64.wrap (y * 2 ^ s.toNat) = Y ∧ bits BinOp.or IntKind.u64 (IntKind.u64.wrap (hi * 2 ^ s.toNat)) (lo / 2 ^ (64 - s).toNat) = U ∧ IntKind.u64.wrap (lo * 2 ^ s.toNat) = V ∧
      0 < k ∧ k = 2 ^ s.toNat ∧ Y = y * k ∧ (hi * 18446744073709551616 + lo) * k = U * 18446744073709551616 + V := by
  have hl := lz_spec h3 (by obtain ⟨a, _⟩ := h1; omega)
  obtain ⟨a1, a2⟩ := h1; obtain ⟨b1, b2⟩ := h2; obtain ⟨c1, c2⟩ := h3
  rw [hs, pow_cast] at hl
  obtain ⟨l1, l2⟩ := hl
  have en : (64 - s).toNat = 64 - s.toNat := by omega
  have hn : s.toNat ≤ 63 := by omega
  rw [en]
  generalize s.toNat = n at *
  have kp : (0 : Int) < 2 ^ n := by rw [← pow_cast]; have : 0 < 2 ^ n := Nat.pow_pos (by decide); omega
  have Kp : (0 : Int) < 2 ^ (64 - n) := by rw [← pow_cast]; have : 0 < 2 ^ (64 - n) := Nat.pow_pos (by decide); omega
  have kK : (2 : Int) ^ n * 2 ^ (64 - n) = 18446744073709551616 := by
    rw [← pow_cast, ← pow_cast, ← Int.natCast_mul, ← Nat.pow_add, show n + (64 - n) = 64 by omega]; rfl
  have mh : hi * (2 : Int) ^ n % 2 ^ n = 0 := Int.mul_emod_left _ _
  have hik : 0 ≤ hi * (2 : Int) ^ n := Int.mul_nonneg a1 (by omega)
  have hil : hi * (2 : Int) ^ n + 2 ^ n ≤ y * 2 ^ n := by
    have : (hi + 1) * (2 : Int) ^ n ≤ y * 2 ^ n := Int.mul_le_mul_of_nonneg_right (by omega) (by omega)
    rw [Int.add_mul, Int.one_mul] at this; exact this
  have lq0 : 0 ≤ lo / (2 : Int) ^ (64 - n) := Int.ediv_nonneg b1 (by omega)
  have lq1 : lo / (2 : Int) ^ (64 - n) < 2 ^ n := Int.ediv_lt_of_lt_mul Kp (by rw [kK]; exact b2)
  have lok : 0 ≤ lo * (2 : Int) ^ n := Int.mul_nonneg b1 (by omega)
  have ediv : lo * (2 : Int) ^ n / 18446744073709551616 = lo / 2 ^ (64 - n) := by
    rw [← kK, Int.mul_comm lo]; exact Int.mul_ediv_mul_of_pos _ _ kp
  have em := Int.mul_ediv_add_emod (lo * (2 : Int) ^ n) 18446744073709551616
  rw [ediv] at em
  refine ⟨y * 2 ^ n, hi * 2 ^ n + lo / 2 ^ (64 - n), lo * 2 ^ n % 18446744073709551616, 2 ^ n, l1, l2, by omega, by omega, by omega, by omega, keep64z _ (by omega) l2, ?_, ?_, kp, rfl, rfl, ?_⟩
  · rw [keep64z _ hik (by omega)]
    exact or_join n _ _ hik mh (by omega) lq0 lq1 (by omega)
  · rw [IntKind.wrap_u64]
  · rw [Int.add_mul, Int.mul_right_comm]
    generalize hi * (2 : Int) ^ n = A at *
    generalize lo * (2 : Int) ^ n = L at *
    generalize lo / (2 : Int) ^ (64 - n) = Q at *
    omega

/-- What stays of the difference in 64 bits is the rest. -/
theorem rest_wrap {u v y q : Int} (hy : 0 < y) (hy2 : y < 18446744073709551616) (hq : q = qh u v y) :
    IntKind.u64.wrap (IntKind.u64.wrap (IntKind.u64.wrap (u * 4294967296) + v) - IntKind.u64.wrap (q * y)) = rh u v y := by
  have e := rh_eq u v y
  have b := rh_bound (u := u) (v := v) hy
  rw [← hq] at e
  generalize q * y = p at *
  generalize rh u v y = r at *
  simp only [IntKind.wrap_u64]
  omega
/-- A round of the search for a half: it goes on with a guess that is one less, or the guess (or one less) is the half. -/
theorem knuth_step {u v y1 y0 Q a b : Int} (y01 : 0 ≤ y0) (y02 : y0 < 4294967296) (y11 : 2147483648 ≤ y1) (v11 : 0 ≤ v) (v12 : v < 4294967296) (hu0 : 0 ≤ u) (hu : u < y1 * 4294967296 + y0)
    (hQ : Q = qh u v (y1 * 4294967296 + y0)) (a0 : 0 ≤ a) (hQa : Q ≤ a) (e : u = a * y1 + b) :
    (4294967296 ≤ a ∧ b + y1 < 4294967296 ∧ Q ≤ a - 1 ∧ u = (a - 1) * y1 + (b + y1)) ∨
    (a < 4294967296 ∧ 0 ≤ a * y0 ∧ a * y0 < 18446744073709551616 ∧ decide (4294967296 * b + v < a * y0) = true ∧ b + y1 < 4294967296 ∧ Q ≤ a - 1 ∧ u = (a - 1) * y1 + (b + y1)) ∨
    ((4294967296 ≤ a ∧ 4294967296 ≤ b + y1 ∧ a - 1 = Q) ∨
    (a < 4294967296 ∧ 0 ≤ a * y0 ∧ a * y0 < 18446744073709551616 ∧ decide (4294967296 * b + v < a * y0) = true ∧ 4294967296 ≤ b + y1 ∧ a - 1 = Q) ∨
    (a < 4294967296 ∧ 0 ≤ a * y0 ∧ a * y0 < 18446744073709551616 ∧ decide (4294967296 * b + v < a * y0) = false ∧ Q = a)) := by
  have hQ0 := qh_lt hu0 hu v11 v12
  rw [← hQ] at hQ0
  have hB : u = (a - 1) * y1 + (b + y1) := by rw [Int.sub_mul, Int.one_mul]; omega
  by_cases g1 : 4294967296 ≤ a
  · have hd : Q ≤ a - 1 := by omega
    by_cases g2 : 4294967296 ≤ b + y1
    · exact Or.inr (Or.inr (Or.inl ⟨g1, g2, by rw [hQ]; exact (qh_break (by omega) y01 y02 hu v11 hB (by omega) (by rw [← hQ]; exact hd) g2).symm⟩))
    · exact Or.inl ⟨g1, by omega, hd, hB⟩
  · have n1 : 0 ≤ a * y0 := Int.mul_nonneg a0 y01
    have n2 : a * y0 < 18446744073709551616 := by
      have : a * y0 ≤ 4294967295 * 4294967295 := Int.mul_le_mul (by omega) (by omega) y01 (by omega)
      omega
    by_cases g3 : b * 4294967296 + v < a * y0
    · have hd : Q ≤ a - 1 := by
        rw [hQ]; exact qh_down (by omega) y01 hu0 hu v11 v12 e (by rw [← hQ]; exact hQa) (Or.inr g3)
      by_cases g2 : 4294967296 ≤ b + y1
      · exact Or.inr (Or.inr (Or.inr (Or.inl ⟨by omega, n1, n2, decide_eq_true (by omega), g2, by rw [hQ]; exact (qh_break (by omega) y01 y02 hu v11 hB (by omega) (by rw [← hQ]; exact hd) g2).symm⟩)))
      · exact Or.inr (Or.inl ⟨by omega, n1, n2, decide_eq_true (by omega), by omega, hd, hB⟩)
    · exact Or.inr (Or.inr (Or.inr (Or.inr ⟨by omega, n1, n2, decide_eq_false (by omega), by rw [hQ]; exact qh_is (by omega) y01 e (by rw [← hQ]; exact hQa) (by omega)⟩)))

end Go.Proofs.Ytnhekeohbnmodaa
