/- Texts of these claims, one after the other. -/
import Derived.Test.YtafkoddgefcpnabRows
import Derived.Below
import Derived.BigQuiet
import Derived.Carry
import Derived.ChangeSlices
import Derived.Deep.AppendLies
import Derived.Deep.Cut
import Derived.Deep.DeepCutAuto
import Derived.Deep.Draws
import Derived.Deep.LoopGhost
import Derived.Deep.QuietTactic
import Derived.Deep.RegionHeld3
import Derived.Deep.RegionLaw
import Derived.Deep.RegionWith
import Derived.Deep.SlicePairs
import Derived.Great.BuildSlice
import Derived.IntWalk
import Derived.Laws.CopyOwn
import Derived.Laws.Externs
import Derived.Laws.IdiomStrings
import Derived.Laws.MakeOwn
import Derived.Laws.OwnMore
import Derived.Laws.Rows
import Derived.Lib.BitFns
import Derived.Lib.Hide
import Derived.Lib.Mul64
import Derived.Lib.SliceRun
import Derived.Lib.SmallJoins
import Derived.Maps.AppendAt
import Derived.OpenShut
import Derived.OwnWalk
import Derived.ProofKit
import Derived.RegionTactic
import Derived.RowKit3
import Derived.Shelf.Abstract
import Derived.SizedLaws
import Derived.WalkKit
import Derived.WalkSmall
import Derived.WalkSpells
namespace Go.Proofs.Ytafkoddgefcpnab

/-- A word of 64 bits. -/
def Word (x : Int) : Prop := 0 ≤ x ∧ x < 18446744073709551616
/-- The number of two words. -/
def val (h l : Int) : Int := h * 18446744073709551616 + l
/-- The two words of a number. -/
def hiZ (v : Int) : Int := v / 18446744073709551616
def loZ (v : Int) : Int := v % 18446744073709551616
/-- A number of two words. -/
def In2 (v : Int) : Prop := 0 ≤ v ∧ v < 340282366920938463463374607431768211456
def fits2 (v : Int) : Bool := decide (0 ≤ v ∧ v < 340282366920938463463374607431768211456)
def fit2 (v : Int) : Int := if fits2 v = true then v else 0

theorem fits2_yes {v : Int} (h : In2 v) : fits2 v = true := by unfold fits2; exact decide_eq_true h
theorem fits2_no {v : Int} (h : ¬ In2 v) : fits2 v = false := by unfold fits2; exact decide_eq_false h
theorem fit2_yes {v : Int} (h : In2 v) : fit2 v = v := by unfold fit2; rw [if_pos (fits2_yes h)]
theorem fit2_no {v : Int} (h : ¬ In2 v) : fit2 v = 0 := by unfold fit2; rw [fits2_no h]; rfl
theorem hiZ_word {v : Int} (h : In2 v) : Word (hiZ v) := by obtain ⟨h1, h2⟩ := h; unfold hiZ; exact ⟨by omega, by omega⟩
theorem loZ_word (v : Int) : Word (loZ v) := by unfold loZ; exact ⟨by omega, by omega⟩
theorem hiZ_0 : hiZ 0 = 0 := by decide
theorem loZ_0 : loZ 0 = 0 := by decide
theorem val_in {h l : Int} (hh : Word h) (hl : Word l) : In2 (val h l) := by
  obtain ⟨h1, h2⟩ := hh; obtain ⟨h3, h4⟩ := hl; unfold val; exact ⟨by omega, by omega⟩
theorem hiZ_val {h l : Int} (hl : Word l) : hiZ (val h l) = h := by obtain ⟨h3, h4⟩ := hl; unfold hiZ val; omega
theorem loZ_val {h l : Int} (hl : Word l) : loZ (val h l) = l := by obtain ⟨h3, h4⟩ := hl; unfold loZ val; omega
theorem val_hilo (v : Int) : val (hiZ v) (loZ v) = v := by unfold val hiZ loZ; omega
theorem word_0 : Word 0 := ⟨by decide, by decide⟩
/-! ### The next half of a quotient -/
/-- The next half of a quotient by y = y1 * 2^32 + y0, of u * 2^32 + v. -/
def qh (u v y : Int) : Int := (u * 4294967296 + v) / y

theorem qh_lt {u v y : Int} (hu0 : 0 ≤ u) (hu : u < y) (hv0 : 0 ≤ v) (hv : v < 4294967296) : 0 ≤ qh u v y ∧ qh u v y < 4294967296 := by
  unfold qh
  refine ⟨Int.ediv_nonneg (by omega) (by omega), ?_⟩
  exact Int.ediv_lt_of_lt_mul (by omega) (by omega)

theorem qh_le {u v y1 y0 : Int} (hy : 0 < y1) (h0 : 0 ≤ y0) (hu0 : 0 ≤ u) (hv0 : 0 ≤ v) (hv : v < 4294967296) : qh u v (y1 * 4294967296 + y0) ≤ u / y1 := by
  unfold qh
  have e := Int.mul_ediv_add_emod u y1
  have m1 := Int.emod_nonneg u (show y1 ≠ 0 by omega)
  have m2 := Int.emod_lt_of_pos u hy
  apply Int.le_of_lt_add_one
  apply Int.ediv_lt_of_lt_mul (by omega)
  have hq : 0 ≤ u / y1 := Int.ediv_nonneg hu0 (by omega)
  generalize u / y1 = q at *
  have h1 : (q + 1) * (y1 * 4294967296 + y0) = (y1 * q + y1) * 4294967296 + (q + 1) * y0 := by
    rw [Int.mul_add, ← Int.mul_assoc, Int.add_mul q 1 y1, Int.one_mul, Int.mul_comm q y1]
  have h2 : 0 ≤ (q + 1) * y0 := Int.mul_nonneg (by omega) h0
  rw [h1]
  generalize (q + 1) * y0 = z at *
  generalize y1 * q = t at *
  omega

/-- The guess is too great: one less is still enough. -/
theorem qh_down {u v y1 y0 q r : Int} (_ : 0 < y1) (_ : 0 ≤ y0) (hu0 : 0 ≤ u) (hu : u < y1 * 4294967296 + y0) (hv0 : 0 ≤ v) (hv : v < 4294967296) (e : u = q * y1 + r)
    (hle : qh u v (y1 * 4294967296 + y0) ≤ q) (h : 4294967296 ≤ q ∨ r * 4294967296 + v < q * y0) : qh u v (y1 * 4294967296 + y0) ≤ q - 1 := by
  rcases h with h | h
  · have := (qh_lt hu0 hu hv0 hv).2; omega
  · have : qh u v (y1 * 4294967296 + y0) < q := by
      unfold qh
      apply Int.ediv_lt_of_lt_mul (by omega)
      have h1 : q * (y1 * 4294967296 + y0) = q * y1 * 4294967296 + q * y0 := by rw [Int.mul_add, ← Int.mul_assoc]
      rw [h1]
      generalize q * y1 = a at *
      generalize q * y0 = b at *
      omega
    omega
/-- The guess is not too great. -/
theorem qh_is {u v y1 y0 q r : Int} (hy : 0 < y1) (h0 : 0 ≤ y0) (e : u = q * y1 + r)
    (hle : qh u v (y1 * 4294967296 + y0) ≤ q) (h : q * y0 ≤ r * 4294967296 + v) : qh u v (y1 * 4294967296 + y0) = q := by
  have : q ≤ qh u v (y1 * 4294967296 + y0) := by
    unfold qh
    rw [Int.le_ediv_iff_mul_le (by omega)]
    have h1 : q * (y1 * 4294967296 + y0) = q * y1 * 4294967296 + q * y0 := by rw [Int.mul_add, ← Int.mul_assoc]
    rw [h1]
    generalize q * y1 = a at *
    generalize q * y0 = b at *
    omega
  omega
/-- The rest is so great that the guess is not too great. -/
theorem qh_break {u v y1 y0 q r : Int} (hy : 0 < y1) (h0 : 0 ≤ y0) (h1 : y0 < 4294967296) (hu : u < y1 * 4294967296 + y0) (hv0 : 0 ≤ v) (e : u = q * y1 + r) (hq : 0 ≤ q)
    (hle : qh u v (y1 * 4294967296 + y0) ≤ q) (h : 4294967296 ≤ r) : qh u v (y1 * 4294967296 + y0) = q := by
  apply qh_is hy h0 e hle
  by_cases hb : q < 4294967296
  · have : q * y0 ≤ 4294967296 * 4294967296 := Int.mul_le_mul (by omega) (by omega) h0 (by omega)
    omega
  · exfalso
    have : 4294967296 * y1 ≤ q * y1 := Int.mul_le_mul_of_nonneg_right (by omega) (by omega)
    generalize q * y1 = a at *
    omega

/-- What is left after a half. -/
def rh (u v y : Int) : Int := (u * 4294967296 + v) % y
theorem rh_bound {u v y : Int} (hy : 0 < y) : 0 ≤ rh u v y ∧ rh u v y < y := ⟨Int.emod_nonneg _ (by omega), Int.emod_lt_of_pos _ hy⟩
theorem rh_eq (u v y : Int) : rh u v y = u * 4294967296 + v - qh u v y * y := by
  unfold rh qh
  have := Int.mul_ediv_add_emod (u * 4294967296 + v) y
  rw [Int.mul_comm y] at this
  omega

/-- Two halves make the whole: the quotient and the rest of the shifted numbers, and of the numbers. -/
theorem halves {hi lo y k u32 v1 v0 : Int} (hk : 0 < k) (hy : 0 < y) (e : (hi * 18446744073709551616 + lo) * k = (u32 * 4294967296 + v1) * 4294967296 + v0) :
    qh u32 v1 (y * k) * 4294967296 + qh (rh u32 v1 (y * k)) v0 (y * k) = (hi * 18446744073709551616 + lo) / y ∧
    rh (rh u32 v1 (y * k)) v0 (y * k) / k = (hi * 18446744073709551616 + lo) % y := by
  have hyk : 0 < y * k := Int.mul_pos hy hk
  generalize hi * 18446744073709551616 + lo = u at *
  have e1 := rh_eq u32 v1 (y * k)
  have e2 := rh_eq (rh u32 v1 (y * k)) v0 (y * k)
  have b := rh_bound (u := rh u32 v1 (y * k)) (v := v0) hyk
  generalize rh (rh u32 v1 (y * k)) v0 (y * k) = R at *
  generalize qh (rh u32 v1 (y * k)) v0 (y * k) = q0 at *
  generalize rh u32 v1 (y * k) = r1 at *
  generalize qh u32 v1 (y * k) = q1 at *
  have e3 : u * k = (q1 * 4294967296 + q0) * (y * k) + R := by
    rw [Int.add_mul, Int.mul_right_comm q1]
    generalize q1 * (y * k) = a at *
    generalize q0 * (y * k) = c at *
    omega
  generalize q1 * 4294967296 + q0 = Q at *
  have e4 : R = (u - Q * y) * k := by
    rw [Int.sub_mul, Int.mul_assoc]; omega
  have e5 : 0 ≤ u - Q * y := by
    by_cases h : 0 ≤ u - Q * y
    · exact h
    · have : (u - Q * y) * k < 0 := Int.mul_neg_of_neg_of_pos (by omega) hk
      omega
  have e6 : u - Q * y < y := by
    have h : (u - Q * y) * k < y * k := by omega
    exact Int.lt_of_mul_lt_mul_right h (by omega)
  have e7 : u = (u - Q * y) + y * Q := by rw [Int.mul_comm y]; omega
  have e8 : u / y = Q := by
    rw [e7, Int.add_mul_ediv_left _ _ (by omega), Int.ediv_eq_zero_of_lt e5 e6]; omega
  constructor
  · exact e8.symm
  · rw [e4, Int.mul_ediv_cancel _ (by omega)]
    have := Int.mul_ediv_add_emod u y
    rw [e8, Int.mul_comm y] at this
    omega

end Go.Proofs.Ytafkoddgefcpnab

namespace Go.Proofs.Ytafkoddgefcpnab

/-- An int64 number. -/
def In (x : Int) : Prop := -9223372036854775808 ≤ x ∧ x ≤ 9223372036854775807
def fits (x : Int) : Bool := decide (-9223372036854775808 ≤ x ∧ x ≤ 9223372036854775807)
def fit (x : Int) : Int := if fits x = true then x else 0

theorem fits_yes {x : Int} (h : In x) : fits x = true := by unfold fits; exact decide_eq_true h
theorem fits_no {x : Int} (h : ¬ In x) : fits x = false := by unfold fits; exact decide_eq_false h
theorem fit_yes {x : Int} (h : In x) : fit x = x := by unfold fit; rw [if_pos (fits_yes h)]
theorem fit_no {x : Int} (h : ¬ In x) : fit x = 0 := by unfold fit; rw [fits_no h]; rfl
/-! ### Quotients -/
theorem tmod_lt (a b : Int) (hb : b ≠ 0) : -(b.natAbs : Int) < a.tmod b ∧ a.tmod b < b.natAbs := by
  have h : (a.tmod b).natAbs < b.natAbs := by
    rw [Int.natAbs_tmod]; exact Nat.mod_lt _ (by omega)
  omega
theorem tmod_sign (a b : Int) : (0 ≤ a → 0 ≤ a.tmod b) ∧ (a ≤ 0 → a.tmod b ≤ 0) := by
  refine ⟨fun h => Int.tmod_nonneg b h, fun h => ?_⟩
  have h2 := Int.tmod_nonneg b (a := -a) (by omega)
  rw [Int.neg_tmod] at h2; omega
theorem tdiv_tmod (a b : Int) : a.tdiv b * b + a.tmod b = a := by
  have := Int.tdiv_mul_add_tmod a b; omega
/-! ### The quotients rounded down and up, and the remainder -/
def flo (a b : Int) : Int := if a.tmod b ≠ 0 ∧ ¬ (a < 0 ↔ b < 0) then a.tdiv b - 1 else a.tdiv b
def rest (a b : Int) : Int := if a.tmod b ≠ 0 ∧ ¬ (a < 0 ↔ b < 0) then a.tmod b + b else a.tmod b
def rests (a b : Int) : Int := if b = 0 then 0 else rest a b

/-- There is a remainder. -/
def hasr (b : Int) : Bool := decide (b ≠ 0)
theorem hasr_yes {b : Int} (h : b ≠ 0) : hasr b = true := by unfold hasr; exact decide_eq_true h
theorem hasr_no {b : Int} (h : b = 0) : hasr b = false := by unfold hasr; exact decide_eq_false (by omega)
theorem rests_yes {a b : Int} (h : b ≠ 0) : rests a b = rest a b := by unfold rests; rw [if_neg h]
theorem rests_no {a b : Int} (h : b = 0) : rests a b = 0 := by unfold rests; rw [if_pos h]
theorem tmod_neg_iff {a b : Int} (h : a.tmod b ≠ 0) : a.tmod b < 0 ↔ a < 0 := by
  have := tmod_sign a b
  omega
theorem tmod_in {a b : Int} (hb : In b) (h0 : b ≠ 0) : In (a.tmod b) := by
  obtain ⟨h1, h2⟩ := hb
  have := tmod_lt a b h0
  exact ⟨by omega, by omega⟩
theorem rest_in {a b : Int} (hb : In b) (h0 : b ≠ 0) : In (rest a b) := by
  obtain ⟨h1, h2⟩ := hb
  have := tmod_lt a b h0
  have := tmod_sign a b
  unfold rest
  split
  · exact ⟨by omega, by omega⟩
  · exact ⟨by omega, by omega⟩

theorem flo_rest (a b : Int) : flo a b * b + rest a b = a := by
  have h := tdiv_tmod a b
  unfold flo rest
  split
  · rw [Int.sub_mul, Int.one_mul]; omega
  · exact h
theorem rest_pos (a b : Int) (h : 0 < b) : 0 ≤ rest a b ∧ rest a b < b := by
  have h1 := tmod_lt a b (by omega)
  have h2 := tmod_sign a b
  unfold rest
  split <;> omega
/-! ### Products -/
/-- What stays of x in 64 bits with a sign. -/
def wr (x : Int) : Int := (x + 9223372036854775808) % 18446744073709551616 - 9223372036854775808
/-! ### The greatest common divisor -/
def gcdZ (x y : Int) : Int := (Nat.gcd x.toNat y.toNat : Nat)
/-- What Gcd returns: 0 if a number is negative. -/
def gcds (x y : Int) : Int := if x < 0 ∨ y < 0 then 0 else gcdZ x y
theorem gcdZ_step (x y : Int) (hx : 0 ≤ x) (hy : 0 < y) : gcdZ y (x % y) = gcdZ x y := by
  obtain ⟨m, rfl⟩ := Int.eq_ofNat_of_zero_le hx
  obtain ⟨n, rfl⟩ := Int.eq_ofNat_of_zero_le (Int.le_of_lt hy)
  unfold gcdZ
  rw [show ((m : Int) % (n : Int)) = ((m % n : Nat) : Int) from rfl, Int.toNat_natCast, Int.toNat_natCast, Int.toNat_natCast, Nat.gcd_comm m n, Nat.gcd_rec n m, Nat.gcd_comm n (m % n)]
theorem gcdZ_zero (x : Int) (hx : 0 ≤ x) : gcdZ x 0 = x := by
  unfold gcdZ
  simp
  omega
theorem gcdZ_dvd (x y : Int) (hx : 0 ≤ x) (hy : 0 ≤ y) : gcdZ x y ∣ x ∧ gcdZ x y ∣ y := by
  obtain ⟨m, rfl⟩ := Int.eq_ofNat_of_zero_le hx
  obtain ⟨n, rfl⟩ := Int.eq_ofNat_of_zero_le hy
  unfold gcdZ
  rw [Int.toNat_natCast, Int.toNat_natCast]
  exact ⟨Int.natCast_dvd_natCast.2 (Nat.gcd_dvd_left m n), Int.natCast_dvd_natCast.2 (Nat.gcd_dvd_right m n)⟩
theorem gcds_neg {x y : Int} (h : x < 0 ∨ y < 0) : gcds x y = 0 := by unfold gcds; rw [if_pos h]
theorem gcds_pos {x y : Int} (hx : 0 ≤ x) (hy : 0 ≤ y) : gcds x y = gcdZ x y := by unfold gcds; rw [if_neg (by omega)]

/-! ### Powers -/
/-! ### Square roots -/
/-! ### Binary digits -/
def bitsN : Nat → Nat → Nat
  | 0, _ => 0
  | f + 1, n => if n = 0 then 0 else bitsN f (n / 2) + 1
/-- The number of binary digits of n; 0 if n is negative. -/
def bitsZ (n : Int) : Int := (bitsN n.toNat n.toNat : Nat)
theorem bitsN_fuel (f g n : Nat) (hf : n ≤ f) (hg : n ≤ g) : bitsN f n = bitsN g n := by
  induction f generalizing g n with
  | zero => have : n = 0 := by omega
            subst this; cases g <;> simp [bitsN]
  | succ f ih =>
    cases g with
    | zero => have : n = 0 := by omega
              subst this; simp [bitsN]
    | succ g =>
      by_cases h : n = 0
      · simp [bitsN, h]
      · simp only [bitsN, if_neg h]
        rw [ih g (n / 2) (by omega) (by omega)]
theorem bitsZ_step (n : Int) (h : 0 < n) : bitsZ n = bitsZ (n / 2) + 1 := by
  obtain ⟨m, rfl⟩ := Int.eq_ofNat_of_zero_le (Int.le_of_lt h)
  have hm : 0 < m := by omega
  have e : ((m : Int) / 2).toNat = m / 2 := by omega
  unfold bitsZ
  rw [e, Int.toNat_natCast]
  cases m with
  | zero => omega
  | succ k =>
    rw [show bitsN (k + 1) (k + 1) = bitsN k ((k + 1) / 2) + 1 from by simp [bitsN]]
    rw [bitsN_fuel k ((k + 1) / 2) ((k + 1) / 2) (by omega) (by omega)]
    omega
theorem bitsZ_low (n : Int) (h : n ≤ 0) : bitsZ n = 0 := by
  unfold bitsZ
  rw [show n.toNat = 0 from by omega]; rfl
theorem bitsN_le (f n : Nat) : bitsN f n ≤ n := by
  induction f generalizing n with
  | zero => simp [bitsN]
  | succ f ih =>
    unfold bitsN
    split
    · omega
    · have := ih (n / 2); omega
theorem bitsZ_bound (n : Int) : 0 ≤ bitsZ n ∧ (0 ≤ n → bitsZ n ≤ n) ∧ (n < 0 → bitsZ n = 0) := by
  unfold bitsZ
  have := bitsN_le n.toNat n.toNat
  omega
end Go.Proofs.Ytafkoddgefcpnab

namespace Go.Proofs.Ytafkoddgefcpnab

/-- The i-th word of a number. -/
def dg3 (v : Int) (i : Nat) : Int := v / 18446744073709551616 ^ i % 18446744073709551616
end Go.Proofs.Ytafkoddgefcpnab

namespace Go.Proofs.Ytafkoddgefcpnab
open Go.RowKit

/-- A checked result: the number and true, or 0 and false. -/
abbrev got (x : Int) (ok : Bool) : Ending := .returned (.tuple #[.int .i64 x, .bool ok])

/-- What the form says of an int64 argument. -/
theorem in_of_wf {x : Int} (h : (Lit.int .i64 x).wf = true) : In x := by
  simp [Lit.wf, IntKind.min, IntKind.max, IntKind.signed, IntKind.bits] at h
  exact ⟨by omega, by omega⟩

/-! ### The reference's sums -/
end Go.Proofs.Ytafkoddgefcpnab
