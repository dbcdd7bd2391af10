/- Numbers of three words: plain mathematics. -/
import Derived.Test.YtflahclphdlolaaWMath
namespace Go.Proofs.Ytflahclphdlolaa

/-- The i-th word of a number. -/
def dg3 (v : Int) (i : Nat) : Int := v / 18446744073709551616 ^ i % 18446744073709551616
/-- The number that the first words make. -/
def V3 (z : Nat → Int) : Nat → Int
  | 0 => 0
  | i + 1 => V3 z i + z i * 18446744073709551616 ^ i
def updz (z : Nat → Int) (i : Nat) (t : Int) : Nat → Int := fun j => if j = i then t else z j
theorem updz_same (z : Nat → Int) (i : Nat) (t : Int) : updz z i t i = t := by simp [updz]
theorem updz_other (z : Nat → Int) {i j : Nat} (t : Int) (h : j ≠ i) : updz z i t j = z j := by simp [updz, h]
theorem V3_upd (z : Nat → Int) (i : Nat) (t : Int) (n : Nat) (h : n ≤ i) : V3 (updz z i t) n = V3 z n := by
  induction n with
  | zero => rfl
  | succ n ih => simp only [V3]; rw [ih (by omega), updz_other z t (by omega)]
theorem p64_0 : (18446744073709551616 : Int) ^ 0 = 1 := by decide
theorem p64_1 : (18446744073709551616 : Int) ^ 1 = 18446744073709551616 := by decide
theorem p64_2 : (18446744073709551616 : Int) ^ 2 = 340282366920938463463374607431768211456 := by decide
theorem p64_3 : (18446744073709551616 : Int) ^ 3 = 6277101735386680763835789423207666416102355444464034512896 := by decide
theorem p64_s (i : Nat) : (18446744073709551616 : Int) ^ (i + 1) = 18446744073709551616 ^ i * 18446744073709551616 := Int.pow_succ _ _
theorem V3_3 (z : Nat → Int) : V3 z 3 = z 0 + z 1 * 18446744073709551616 + z 2 * 340282366920938463463374607431768211456 := by
  simp only [V3, p64_0, p64_1, p64_2]; omega
theorem dg3_0 (v : Int) : dg3 v 0 = v % 18446744073709551616 := by simp only [dg3, p64_0]; omega
theorem dg3_1 (v : Int) : dg3 v 1 = v / 18446744073709551616 % 18446744073709551616 := by simp only [dg3, p64_1]
theorem dg3_2 (v : Int) : dg3 v 2 = v / 340282366920938463463374607431768211456 % 18446744073709551616 := by simp only [dg3, p64_2]
theorem dg3_word (v : Int) (i : Nat) : Word (dg3 v i) := by unfold dg3 Word; omega
theorem V3_dg (v : Int) : V3 (dg3 v) 3 + v / 6277101735386680763835789423207666416102355444464034512896 * 6277101735386680763835789423207666416102355444464034512896 = v := by
  rw [V3_3, dg3_0, dg3_1, dg3_2]; omega
/-- The words of a number that is known but for what does not fit. -/
theorem dg3_of {z : Nat → Int} {v q : Int} (h0 : Word (z 0)) (h1 : Word (z 1)) (h2 : Word (z 2)) (h : V3 z 3 + q * 6277101735386680763835789423207666416102355444464034512896 = v) :
    z 0 = dg3 v 0 ∧ z 1 = dg3 v 1 ∧ z 2 = dg3 v 2 := by
  rw [V3_3] at h
  unfold Word at h0 h1 h2
  rw [dg3_0, dg3_1, dg3_2]
  subst h
  refine ⟨?_, ?_, ?_⟩ <;> omega
theorem step_plus {z xs ys : Nat → Int} {i : Nat} {c s c' : Int} (h : V3 z i + c * 18446744073709551616 ^ i = V3 xs i + V3 ys i) (hs : s + c' * 18446744073709551616 = xs i + ys i + c) :
    V3 (updz z i s) (i + 1) + c' * 18446744073709551616 ^ (i + 1) = V3 xs (i + 1) + V3 ys (i + 1) := by
  simp only [V3]
  rw [V3_upd z i s i (Nat.le_refl _), updz_same, p64_s]
  generalize (18446744073709551616 : Int) ^ i = B at *
  have e1 : c' * (B * 18446744073709551616) = (c' * 18446744073709551616) * B := by rw [Int.mul_comm B, ← Int.mul_assoc]
  have e2 : (s + c' * 18446744073709551616) * B = (xs i + ys i + c) * B := by rw [hs]
  simp only [Int.add_mul] at e2
  rw [e1]
  omega
theorem step_minus {z xs ys : Nat → Int} {i : Nat} {c s c' : Int} (h : V3 z i + V3 ys i = V3 xs i + c * 18446744073709551616 ^ i) (hs : s + ys i + c = xs i + c' * 18446744073709551616) :
    V3 (updz z i s) (i + 1) + V3 ys (i + 1) = V3 xs (i + 1) + c' * 18446744073709551616 ^ (i + 1) := by
  simp only [V3]
  rw [V3_upd z i s i (Nat.le_refl _), updz_same, p64_s]
  generalize (18446744073709551616 : Int) ^ i = B at *
  have e1 : c' * (B * 18446744073709551616) = (c' * 18446744073709551616) * B := by rw [Int.mul_comm B, ← Int.mul_assoc]
  have e2 : (s + ys i + c) * B = (xs i + c' * 18446744073709551616) * B := by rw [hs]
  simp only [Int.add_mul] at e2
  rw [e1]
  omega
theorem plus_end {z : Nat → Int} {a b c : Int} (h0 : Word (z 0)) (h1 : Word (z 1)) (h2 : Word (z 2)) (h : V3 z 3 + c * 18446744073709551616 ^ 3 = V3 (dg3 a) 3 + V3 (dg3 b) 3) :
    z 0 = dg3 (a + b) 0 ∧ z 1 = dg3 (a + b) 1 ∧ z 2 = dg3 (a + b) 2 := by
  have ha := V3_dg a
  have hb := V3_dg b
  rw [p64_3] at h
  exact dg3_of (q := c + a / 6277101735386680763835789423207666416102355444464034512896 + b / 6277101735386680763835789423207666416102355444464034512896) h0 h1 h2 (by omega)
theorem minus_end {z : Nat → Int} {a b c : Int} (h0 : Word (z 0)) (h1 : Word (z 1)) (h2 : Word (z 2)) (h : V3 z 3 + V3 (dg3 b) 3 = V3 (dg3 a) 3 + c * 18446744073709551616 ^ 3) :
    z 0 = dg3 (a - b) 0 ∧ z 1 = dg3 (a - b) 1 ∧ z 2 = dg3 (a - b) 2 := by
  have ha := V3_dg a
  have hb := V3_dg b
  rw [p64_3] at h
  exact dg3_of (q := a / 6277101735386680763835789423207666416102355444464034512896 - b / 6277101735386680763835789423207666416102355444464034512896 - c) h0 h1 h2 (by omega)

/-- Two numbers that differ by a multiple of the fourth word. -/
def Mo3 (x y : Int) : Prop := ∃ q, x + q * 6277101735386680763835789423207666416102355444464034512896 = y
theorem V3_set (z : Nat → Int) {j : Nat} (hj : j < 3) (t : Int) : V3 (updz z j t) 3 = V3 z 3 + (t - z j) * 18446744073709551616 ^ j := by
  rw [V3_3, V3_3]
  rcases (by omega : j = 0 ∨ j = 1 ∨ j = 2) with rfl | rfl | rfl
  · rw [updz_same, updz_other z t (by omega), updz_other z t (by omega), p64_0]; omega
  · rw [updz_same, updz_other z t (by omega), updz_other z t (by omega), p64_1]; omega
  · rw [updz_same, updz_other z t (by omega), updz_other z t (by omega), p64_2]; omega
theorem step_times {z ys : Nat → Int} {R x c s c' : Int} {i m j : Nat} (hj : j < 3) (e : j = i + m) (h : Mo3 (V3 z 3 + c * 18446744073709551616 ^ j) (R + x * V3 ys m * 18446744073709551616 ^ i)) (hs : s + c' * 18446744073709551616 = x * ys m + z j + c) :
    Mo3 (V3 (updz z j s) 3 + c' * 18446744073709551616 ^ (j + 1)) (R + x * V3 ys (m + 1) * 18446744073709551616 ^ i) := by
  obtain ⟨q, hq⟩ := h
  refine ⟨q, ?_⟩
  rw [V3_set z hj, p64_s]
  have eB : (18446744073709551616 : Int) ^ j = 18446744073709551616 ^ m * 18446744073709551616 ^ i := by rw [e, Int.pow_add, Int.mul_comm]
  have e1 : c' * (18446744073709551616 ^ j * 18446744073709551616) = (c' * 18446744073709551616) * 18446744073709551616 ^ j := by rw [Int.mul_comm (18446744073709551616 ^ j), ← Int.mul_assoc]
  have e2 : (s + c' * 18446744073709551616) * 18446744073709551616 ^ j = (x * ys m + z j + c) * 18446744073709551616 ^ j := by rw [hs]
  have e3 : x * V3 ys (m + 1) * 18446744073709551616 ^ i = x * V3 ys m * 18446744073709551616 ^ i + x * ys m * 18446744073709551616 ^ j := by
    rw [eB]; simp only [V3]; rw [Int.mul_add, Int.add_mul, ← Int.mul_assoc, ← Int.mul_assoc]
  simp only [Int.add_mul] at e2
  rw [e1, e3, Int.sub_mul]
  generalize x * ys m * 18446744073709551616 ^ j = M at *
  generalize c' * 18446744073709551616 * 18446744073709551616 ^ j = C at *
  generalize z j * 18446744073709551616 ^ j = Z at *
  generalize c * 18446744073709551616 ^ j = K at *
  generalize s * 18446744073709551616 ^ j = S at *
  generalize x * V3 ys m * 18446744073709551616 ^ i = X at *
  omega
theorem row_times {z xs ys : Nat → Int} {c : Int} {i : Nat} (hi : i < 3) (h : Mo3 (V3 z 3 + c * 18446744073709551616 ^ 3) (V3 xs i * V3 ys 3 + xs i * V3 ys (3 - i) * 18446744073709551616 ^ i)) : Mo3 (V3 z 3) (V3 xs (i + 1) * V3 ys 3) := by
  obtain ⟨q, hq⟩ := h
  rw [p64_3] at hq
  have e1 : V3 xs (i + 1) * V3 ys 3 = V3 xs i * V3 ys 3 + xs i * 18446744073709551616 ^ i * V3 ys 3 := by simp only [V3]; rw [Int.add_mul (V3 xs i)]
  rw [e1]
  have key : ∃ d, xs i * 18446744073709551616 ^ i * V3 ys 3 = xs i * V3 ys (3 - i) * 18446744073709551616 ^ i + d * 6277101735386680763835789423207666416102355444464034512896 := by
    rcases (by omega : i = 0 ∨ i = 1 ∨ i = 2) with rfl | rfl | rfl
    · exact ⟨0, by simp only [p64_0]; show xs 0 * 1 * V3 ys 3 = xs 0 * V3 ys 3 * 1 + _; rw [Int.mul_one, Int.mul_one]; omega⟩
    · refine ⟨xs 1 * ys 2, ?_⟩
      simp only [p64_1, Nat.reduceSub, V3, p64_0, p64_2]
      have a1 : xs 1 * 18446744073709551616 * (0 + ys 0 * 1 + ys 1 * 18446744073709551616 + ys 2 * 340282366920938463463374607431768211456) = xs 1 * (0 + ys 0 * 1 + ys 1 * 18446744073709551616) * 18446744073709551616 + xs 1 * ys 2 * (18446744073709551616 * 340282366920938463463374607431768211456) := by
        rw [Int.mul_add (xs 1 * 18446744073709551616), Int.mul_right_comm (xs 1) 18446744073709551616 (0 + ys 0 * 1 + ys 1 * 18446744073709551616)]
        congr 1
        rw [Int.mul_assoc (xs 1), Int.mul_assoc (xs 1)]
        congr 1
        rw [← Int.mul_assoc, Int.mul_comm 18446744073709551616 (ys 2), Int.mul_assoc]
      rw [a1, show (18446744073709551616 : Int) * 340282366920938463463374607431768211456 = 6277101735386680763835789423207666416102355444464034512896 by decide]
    · refine ⟨xs 2 * (ys 1 + ys 2 * 18446744073709551616), ?_⟩
      simp only [Nat.reduceSub, V3, p64_0, p64_1, p64_2]
      have a1 : xs 2 * 340282366920938463463374607431768211456 * (0 + ys 0 * 1 + ys 1 * 18446744073709551616 + ys 2 * 340282366920938463463374607431768211456) = xs 2 * (0 + ys 0 * 1) * 340282366920938463463374607431768211456 + xs 2 * (ys 1 + ys 2 * 18446744073709551616) * (18446744073709551616 * 340282366920938463463374607431768211456) := by
        have b1 : (0 + ys 0 * 1 + ys 1 * 18446744073709551616 + ys 2 * 340282366920938463463374607431768211456) = (0 + ys 0 * 1) + (ys 1 + ys 2 * 18446744073709551616) * 18446744073709551616 := by omega
        rw [b1, Int.mul_add (xs 2 * 340282366920938463463374607431768211456), Int.mul_right_comm (xs 2) 340282366920938463463374607431768211456 (0 + ys 0 * 1)]
        congr 1
        rw [Int.mul_assoc (xs 2), Int.mul_assoc (xs 2)]
        congr 1
        rw [← Int.mul_assoc, Int.mul_comm 340282366920938463463374607431768211456 (ys 1 + ys 2 * 18446744073709551616), Int.mul_assoc, Int.mul_comm 340282366920938463463374607431768211456 18446744073709551616]
      rw [a1, show (18446744073709551616 : Int) * 340282366920938463463374607431768211456 = 6277101735386680763835789423207666416102355444464034512896 by decide]
  obtain ⟨d, hd⟩ := key
  refine ⟨q + c + d, ?_⟩
  rw [hd]
  generalize V3 xs i * V3 ys 3 = M at *
  generalize xs i * V3 ys (3 - i) * 18446744073709551616 ^ i = K at *
  omega
theorem times_end {z : Nat → Int} {a b : Int} (h0 : Word (z 0)) (h1 : Word (z 1)) (h2 : Word (z 2)) (h : Mo3 (V3 z 3) (V3 (dg3 a) 3 * V3 (dg3 b) 3)) :
    z 0 = dg3 (a * b) 0 ∧ z 1 = dg3 (a * b) 1 ∧ z 2 = dg3 (a * b) 2 := by
  obtain ⟨q, hq⟩ := h
  have ha := V3_dg a
  have hb := V3_dg b
  generalize a / 6277101735386680763835789423207666416102355444464034512896 = u at *
  generalize b / 6277101735386680763835789423207666416102355444464034512896 = v at *
  generalize V3 (dg3 a) 3 = A at *
  generalize V3 (dg3 b) 3 = B at *
  have e : a * b = A * B + (A * v + u * b) * 6277101735386680763835789423207666416102355444464034512896 := by
    rw [← ha]
    have : (A + u * 6277101735386680763835789423207666416102355444464034512896) * b = A * b + u * b * 6277101735386680763835789423207666416102355444464034512896 := by rw [Int.add_mul, Int.mul_right_comm]
    rw [this]
    have e2 : A * b = A * B + A * v * 6277101735386680763835789423207666416102355444464034512896 := by
      rw [← hb, Int.mul_add, Int.mul_assoc]
    rw [e2, Int.add_mul, Int.add_assoc]
  exact dg3_of (q := q + (A * v + u * b)) h0 h1 h2 (by rw [e, ← hq, Int.add_mul]; omega)
theorem dg3_small {v : Int} (h : In2 v) : dg3 v 0 = loZ v ∧ dg3 v 1 = hiZ v ∧ dg3 v 2 = 0 := by
  unfold In2 at h
  rw [dg3_0, dg3_1, dg3_2]
  unfold loZ hiZ
  refine ⟨rfl, ?_, ?_⟩ <;> omega
theorem dg3_great {v : Int} (h0 : 0 ≤ v) (h1 : v < 6277101735386680763835789423207666416102355444464034512896) (h : ¬ In2 v) : dg3 v 2 ≠ 0 := by
  unfold In2 at h
  rw [dg3_2]
  omega
end Go.Proofs.Ytflahclphdlolaa
