/- Plain facts on products by halves of words. -/
import Derived.Test.YtgafcpklocccdaaBWord
import Derived.Test.YtgafcpklocccdaaWMul
namespace Go.Proofs.Ytgafcpklocccdaa
open Go.RowKit

/-- The number of the first n halves. -/
def hV (z : Nat → Int) : Nat → Int
  | 0 => 0
  | n + 1 => hV z n + z n * 4294967296 ^ n
def upd (z : Nat → Int) (m : Nat) (t : Int) : Nat → Int := fun k => if k = m then t else z k
theorem upd_same (z : Nat → Int) (m : Nat) (t : Int) : upd z m t m = t := by unfold upd; rw [if_pos rfl]
theorem upd_other (z : Nat → Int) {m k : Nat} (t : Int) (h : k ≠ m) : upd z m t k = z k := by unfold upd; rw [if_neg h]
theorem hV_far (z : Nat → Int) (m : Nat) (t : Int) : ∀ n, n ≤ m → hV (upd z m t) n = hV z n
  | 0, _ => rfl
  | n + 1, h => by unfold hV; rw [hV_far z m t n (by omega), upd_other z t (by omega)]
theorem hV_upd (z : Nat → Int) (m : Nat) (t : Int) : ∀ n, m < n → hV (upd z m t) n = hV z n + (t - z m) * 4294967296 ^ m
  | 0, h => absurd h (by omega)
  | n + 1, h => by
    unfold hV
    by_cases e : m = n
    · subst e
      rw [hV_far z m t m (Nat.le_refl _), upd_same, Int.sub_mul]; omega
    · rw [hV_upd z m t n (by omega), upd_other z t (by omega)]; omega
theorem step_sum {z ys : Nat → Int} {i j : Nat} {A x c t : Int} (e : hV z 9 + c * 4294967296 ^ (i + j) = A + x * hV ys j * 4294967296 ^ i) (ht : t = z (i + j) + x * ys j + c) (hij : i + j < 9) :
    hV (upd z (i + j) (t % 4294967296)) 9 + t / 4294967296 * 4294967296 ^ (i + (j + 1)) = A + x * hV ys (j + 1) * 4294967296 ^ i := by
  rw [hV_upd z (i + j) _ 9 hij]
  have e1 : (4294967296 : Int) ^ (i + (j + 1)) = 4294967296 ^ (i + j) * 4294967296 := by rw [← Nat.add_assoc, Int.pow_succ]
  have e2 : hV ys (j + 1) = hV ys j + ys j * 4294967296 ^ j := rfl
  have e3 : (4294967296 : Int) ^ (i + j) = 4294967296 ^ i * 4294967296 ^ j := Int.pow_add ..
  rw [e1, e2]
  have e4 : x * (hV ys j + ys j * 4294967296 ^ j) * 4294967296 ^ i = x * hV ys j * 4294967296 ^ i + x * ys j * 4294967296 ^ (i + j) := by
    rw [e3, Int.mul_add, Int.add_mul]; congr 1; ac_rfl
  rw [e4]
  have e5 : t % 4294967296 = t - t / 4294967296 * 4294967296 := by omega
  generalize (4294967296 : Int) ^ (i + j) = P at *
  generalize x * hV ys j * 4294967296 ^ i = Q at *
  have e6 : (t % 4294967296 - z (i + j)) * P + t / 4294967296 * (P * 4294967296) = (t - z (i + j)) * P := by
    rw [e5, Int.sub_mul, Int.sub_mul, Int.sub_mul]
    have : t / 4294967296 * 4294967296 * P = t / 4294967296 * (P * 4294967296) := by ac_rfl
    omega
  have e7 : (t - z (i + j)) * P = x * ys j * P + c * P := by rw [← Int.add_mul]; congr 1; omega
  omega
theorem row_sum {z ys : Nat → Int} {i : Nat} {A x c : Int} (e : hV z 9 + c * 4294967296 ^ (i + 4) = A + x * hV ys 4 * 4294967296 ^ i) (hz : z (i + 4) = 0) (hi : i + 4 < 9) :
    hV (upd z (i + 4) c) 9 = A + x * hV ys 4 * 4294967296 ^ i := by
  rw [hV_upd z (i + 4) c 9 hi, hz, Int.sub_zero, e]
theorem next_row {xs ys : Nat → Int} {i : Nat} : hV xs i * hV ys 4 + xs i * hV ys 4 * 4294967296 ^ i = hV xs (i + 1) * hV ys 4 := by
  show _ = (hV xs i + xs i * 4294967296 ^ i) * hV ys 4
  rw [Int.add_mul]; congr 1; ac_rfl
theorem hV_0 (z : Nat → Int) : hV z 0 = 0 := rfl
theorem hV_zero : ∀ n, hV (fun _ => 0) n = 0
  | 0 => rfl
  | n + 1 => by unfold hV; rw [hV_zero n]; omega
/-- The halves of a number of two words. -/
def hf (h l : Int) : Nat → Int := fun k => if k = 0 then l % 4294967296 else if k = 1 then l / 4294967296 else if k = 2 then h % 4294967296 else if k = 3 then h / 4294967296 else 0
theorem hf_half {h l : Int} (hh : Word h) (hl : Word l) (k : Nat) : 0 ≤ hf h l k ∧ hf h l k ≤ 4294967295 := by
  unfold Word at *; unfold hf
  repeat' split
  all_goals omega
theorem p1 : (4294967296 : Int) ^ 1 = 4294967296 := by decide
theorem p2 : (4294967296 : Int) ^ 2 = 18446744073709551616 := by decide
theorem p3 : (4294967296 : Int) ^ 3 = 79228162514264337593543950336 := by decide
theorem p4 : (4294967296 : Int) ^ 4 = 340282366920938463463374607431768211456 := by decide
theorem p5 : (4294967296 : Int) ^ 5 = 1461501637330902918203684832716283019655932542976 := by decide
theorem p6 : (4294967296 : Int) ^ 6 = 6277101735386680763835789423207666416102355444464034512896 := by decide
theorem p7 : (4294967296 : Int) ^ 7 = 26959946667150639794667015087019630673637144422540572481103610249216 := by decide
theorem hf_val {h l : Int} : hV (hf h l) 4 = val h l := by
  show (((0 + l % 4294967296 * 4294967296 ^ 0) + l / 4294967296 * 4294967296 ^ 1) + h % 4294967296 * 4294967296 ^ 2) + h / 4294967296 * 4294967296 ^ 3 = _
  rw [Int.pow_zero, p1, p2, p3]; unfold val; omega
theorem z_words {z : Nat → Int} (h : z 8 = 0) : W4 (z 0 + z 1 * 4294967296) (z 2 + z 3 * 4294967296) (z 4 + z 5 * 4294967296) (z 6 + z 7 * 4294967296) = hV z 9 := by
  show _ = (((((((((0 + z 0 * 4294967296 ^ 0) + z 1 * 4294967296 ^ 1) + z 2 * 4294967296 ^ 2) + z 3 * 4294967296 ^ 3) + z 4 * 4294967296 ^ 4) + z 5 * 4294967296 ^ 5) + z 6 * 4294967296 ^ 6) + z 7 * 4294967296 ^ 7) + z 8 * 4294967296 ^ 8)
  rw [h, Int.pow_zero, p1, p2, p3, p4, p5, p6, p7]; unfold W4; omega
/-- One step: no overflow. -/
theorem half_step {x y z c : Int} (hx : 0 ≤ x ∧ x ≤ 4294967295) (hy : 0 ≤ y ∧ y ≤ 4294967295) (hz : 0 ≤ z ∧ z ≤ 4294967295) (hc : 0 ≤ c ∧ c ≤ 4294967295) :
    0 ≤ x * y ∧ x * y ≤ 18446744065119617025 ∧ IntKind.u64.wrap (x * y) = x * y ∧ IntKind.u64.wrap (z + x * y) = z + x * y ∧ IntKind.u64.wrap (z + x * y + c) = z + x * y + c ∧ 0 ≤ z + x * y + c ∧ z + x * y + c < 18446744073709551616 := by
  have k0 : 0 ≤ x * y := Int.mul_nonneg hx.1 hy.1
  have k1 : x * y ≤ 4294967295 * y := Int.mul_le_mul_of_nonneg_right hx.2 hy.1
  rw [IntKind.wrap_u64, IntKind.wrap_u64, IntKind.wrap_u64]
  omega
theorem and_low {x : Int} (h0 : 0 ≤ x) (h1 : x < 18446744073709551616) : bits .and .u64 x 4294967295 = x % 4294967296 := by
  obtain ⟨n, rfl⟩ := Int.eq_ofNat_of_zero_le h0
  rw [low32n n (by omega)]; omega
end Go.Proofs.Ytgafcpklocccdaa
