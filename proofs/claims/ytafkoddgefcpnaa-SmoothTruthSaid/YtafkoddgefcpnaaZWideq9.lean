/- Texts of these claims, one after the other. -/
import Derived.Test.YtafkoddgefcpnaaRows
import Derived.Test.YtafkoddgefcpnaaZWMathq1
namespace Go.Proofs.Ytafkoddgefcpnaa
open Go.RowKit

/-- A number of two words as a value, and a pair of it and a bool. -/
def wd (v : Int) : Value := .agg #[.int .u64 (hiZ v), .int .u64 (loZ v)]
end Go.Proofs.Ytafkoddgefcpnaa

namespace Go.Proofs.Ytafkoddgefcpnaa

/-! ### Quotients -/
/-! ### The quotients rounded down and up, and the remainder -/
def rests (a b : Int) : Int := if b = 0 then 0 else rest a b

/-- There is a remainder. -/
def hasr (b : Int) : Bool := decide (b ≠ 0)
theorem hasr_yes {b : Int} (h : b ≠ 0) : hasr b = true := by unfold hasr; exact decide_eq_true h
theorem hasr_no {b : Int} (h : b = 0) : hasr b = false := by unfold hasr; exact decide_eq_false (by omega)
theorem rests_yes {a b : Int} (h : b ≠ 0) : rests a b = rest a b := by unfold rests; rw [if_neg h]
theorem rests_no {a b : Int} (h : b = 0) : rests a b = 0 := by unfold rests; rw [if_pos h]
theorem tmod_neg_iff {a b : Int} (h : a.tmod b ≠ 0) : a.tmod b < 0 ↔ a < 0 := by
  have := tmod_sign a b
  omega
theorem tmod_in {a b : Int} (hb : In b) (h0 : b ≠ 0) : In (a.tmod b) := by
  obtain ⟨h1, h2⟩ := hb
  have := tmod_lt a b h0
  exact ⟨by omega, by omega⟩
theorem rest_in {a b : Int} (hb : In b) (h0 : b ≠ 0) : In (rest a b) := by
  obtain ⟨h1, h2⟩ := hb
  have := tmod_lt a b h0
  have := tmod_sign a b
  unfold rest
  split
  · exact ⟨by omega, by omega⟩
  · exact ⟨by omega, by omega⟩

/-! ### Products -/
/-! ### The greatest common divisor -/
/-- What Gcd returns: 0 if a number is negative. -/
def gcds (x y : Int) : Int := if x < 0 ∨ y < 0 then 0 else gcdZ x y
theorem gcds_neg {x y : Int} (h : x < 0 ∨ y < 0) : gcds x y = 0 := by unfold gcds; rw [if_pos h]
theorem gcds_pos {x y : Int} (hx : 0 ≤ x) (hy : 0 ≤ y) : gcds x y = gcdZ x y := by unfold gcds; rw [if_neg (by omega)]

/-! ### Powers -/
/-! ### Square roots -/
/-! ### Binary digits -/
end Go.Proofs.Ytafkoddgefcpnaa

namespace Go.Proofs.Ytafkoddgefcpnaa
open Go.RowKit

theorem mod_any (a b : Int) (hb : In b) (w : World) :
    Calls Try.prog 119 #[.int .i64 a, .int .i64 b] w fun e w' => e = got (rests a b) (hasr b) ∧ w = w' := by
  by_cases h0 : b = 0
  case pos =>
    have H1 := Lib.hid (rests_no (a := a) h0)
    have H2 := Lib.hid (hasr_no h0)
    have t0 : (b == 0) = true := beq_iff_eq.2 h0
    clear h0
    go_enter Try.func119, Try.ntmps119
    go_wp2
    go_ret2
    exact ⟨by rw [H1.out, H2.out]; rfl, rfl⟩
  have H1 := Lib.hid (rests_yes (a := a) h0)
  have H2 := Lib.hid (hasr_yes h0)
  have t0 : (b == 0) = false := beq_eq_false_iff_ne.2 h0
  obtain ⟨q1, q2⟩ := tmod_in (a := a) hb h0
  by_cases hr : a.tmod b = 0
  · have t1 : (a.tmod b != 0) = false := bne_eq_false_iff_eq.2 hr
    have K := Lib.hid hr
    clear hr
    go_enter Try.func119, Try.ntmps119
    go_wp2
    go_ret2
    exact ⟨by rw [H1.out, H2.out]; unfold rest; rw [if_neg (by have := K.out; omega)]; rfl, rfl⟩
  · have t1 : (a.tmod b != 0) = true := bne_iff_ne.2 hr
    have K := Lib.hid hr
    have hs := tmod_neg_iff hr
    have hl := tmod_lt a b h0
    have KS := Lib.hid hs
    clear hr
    obtain ⟨b1, b2⟩ := hb
    by_cases sa : a < 0
    · have ta : decide (a.tmod b < 0) = true := decide_eq_true (hs.2 sa)
      have KA := Lib.hid sa
      by_cases sb : b < 0
      · have tb : decide (b < 0) = true := decide_eq_true sb
        have KB := Lib.hid sb
        clear sa sb hs hl
        go_enter Try.func119, Try.ntmps119
        go_wp2
        go_ret2
        exact ⟨by rw [H1.out, H2.out]; unfold rest; rw [if_neg (by have := K.out; have := KA.out; have := KB.out; omega)]; rfl, rfl⟩
      · have tb : decide (b < 0) = false := decide_eq_false sb
        have KB := Lib.hid sb
        have m1 : -9223372036854775808 ≤ a.tmod b + b := by omega
        have m2 : a.tmod b + b ≤ 9223372036854775807 := by omega
        clear sa sb hs hl
        go_enter Try.func119, Try.ntmps119
        go_wp2
        go_ret2
        exact ⟨by rw [H1.out, H2.out]; unfold rest; rw [if_pos (by have := K.out; have := KA.out; have := KB.out; omega)]; rfl, rfl⟩
    · have ta : decide (a.tmod b < 0) = false := decide_eq_false (fun h => sa (hs.1 h))
      have KA := Lib.hid sa
      by_cases sb : b < 0
      · have tb : decide (b < 0) = true := decide_eq_true sb
        have KB := Lib.hid sb
        have m1 : -9223372036854775808 ≤ a.tmod b + b := by omega
        have m2 : a.tmod b + b ≤ 9223372036854775807 := by omega
        clear sa sb hs hl
        go_enter Try.func119, Try.ntmps119
        go_wp2
        go_ret2
        exact ⟨by rw [H1.out, H2.out]; unfold rest; rw [if_pos (by have := K.out; have := KA.out; have := KB.out; omega)]; rfl, rfl⟩
      · have tb : decide (b < 0) = false := decide_eq_false sb
        have KB := Lib.hid sb
        clear sa sb hs hl
        go_enter Try.func119, Try.ntmps119
        go_wp2
        go_ret2
        exact ⟨by rw [H1.out, H2.out]; unfold rest; rw [if_neg (by have := K.out; have := KA.out; have := KB.out; omega)]; rfl, rfl⟩

end Go.Proofs.Ytafkoddgefcpnaa

namespace Go.Proofs.Ytafkoddgefcpnaa

theorem validB_of {n d : Int} (h : validB n d = true) : 1 ≤ d ∧ Nat.gcd n.natAbs d.natAbs = 1 := by unfold validB at h; exact of_decide_eq_true h
/-- The rest has the same common divisors with the divisor. -/
theorem gcd_rest (n d : Int) (h : 1 ≤ d) : gcdZ (rest n d) d = (Nat.gcd n.natAbs d.natAbs : Nat) := by
  have e := flo_rest n d
  obtain ⟨r0, _⟩ := rest_pos n d (by omega)
  unfold gcdZ
  congr 1
  have hn : n.natAbs = (rest n d + d * flo n d).natAbs := by rw [Int.mul_comm, Int.add_comm, e]
  have e1 : (rest n d).toNat = (rest n d).natAbs := by omega
  have e2 : d.toNat = d.natAbs := by omega
  rw [e1, e2, hn]
  show Int.gcd (rest n d) d = Int.gcd (rest n d + d * flo n d) d
  rw [Int.gcd_add_mul_left_left]

end Go.Proofs.Ytafkoddgefcpnaa

namespace Go.Proofs.Ytafkoddgefcpnaa
open Go.RowKit

theorem gcd_any (a b : Int) (ha : In a) (hb : In b) (w : World) :
    Calls Try.prog 120 #[.int .i64 a, .int .i64 b] w fun e w' => e = .returned (.int .i64 (gcds a b)) ∧ ∃ n, w' = w.drewN n := by
  obtain ⟨a1, a2⟩ := ha; obtain ⟨b1, b2⟩ := hb
  by_cases hna : a < 0
  · have H := Lib.hid (gcds_neg (x := a) (y := b) (Or.inl hna))
    go_enter Try.func120, Try.ntmps120
    go_wp2
    go_ret
    exact ⟨by rw [H.out]; rfl, 0, rfl⟩
  by_cases hnb : b < 0
  · have H := Lib.hid (gcds_neg (x := a) (y := b) (Or.inr hnb))
    go_enter Try.func120, Try.ntmps120
    go_wp2
    go_ret
    exact ⟨by rw [H.out]; rfl, 0, rfl⟩
  have H := Lib.hid (gcds_pos (x := a) (y := b) (by omega) (by omega))
  have tA : decide (a < 0) = false := decide_eq_false hna
  have tB : decide (b < 0) = false := decide_eq_false hnb
  go_enter Try.func120, Try.ntmps120
  go_wp2
  go_loopw [0, 1] (fun t u wr => ∃ x y : Int, t = .int .i64 x ∧ u = .int .i64 y ∧ 0 ≤ x ∧ x ≤ 9223372036854775807 ∧ 0 ≤ y ∧ y ≤ 9223372036854775807 ∧ Hid (gcdZ x y = gcdZ a b) ∧ ∃ n, wr = w.drewN n) (fun _ u _ => (intOf u).toNat)
  case atStart => exact ⟨a, b, rfl, rfl, by omega, by omega, by omega, by omega, Lib.hid rfl, 0, rfl⟩
  case round =>
    obtain ⟨x, y, rfl, rfl, x1, x2, y1, y2, HR, n, rfl⟩ := hrel
    clear tA tB
    by_cases hy : y = 0
    · have t1 : (y != 0) = false := bne_eq_false_iff_eq.2 hy
      have HY := Lib.hid hy
      clear hy
      go_wp2
      go_ret
      refine ⟨?_, n, rfl⟩
      have h2 := HR.out
      rw [HY.out, gcdZ_zero x x1] at h2
      rw [H.out, ← h2]; rfl
    · have t1 : (y != 0) = true := bne_iff_ne.2 hy
      have y3 : 0 < y := by omega
      have HS := Lib.hid (gcdZ_step x y x1 y3)
      have m1 : 0 ≤ x % y := Int.emod_nonneg _ hy
      have m2 : x % y < y := Int.emod_lt_of_pos _ y3
      go_wp2
      go_quiet (fail)
      go_wp2
      go_roundw
      case rel => exact ⟨y, x % y, rfl, rfl, by omega, by omega, by omega, by omega, Lib.hid (HS.out.trans HR.out), n + nq, by simp [World.drewN, Nat.add_assoc]⟩
      case measure => simp only [intOf]; omega

end Go.Proofs.Ytafkoddgefcpnaa

namespace Go.Proofs.Ytafkoddgefcpnaa

/-- The number of four words, the least first. -/
def W4 (a b c d : Int) : Int := a + b * 18446744073709551616 + c * 340282366920938463463374607431768211456 + d * 6277101735386680763835789423207666416102355444464034512896
def In4 (v : Int) : Prop := 0 ≤ v ∧ v < 115792089237316195423570985008687907853269984665640564039457584007913129639936
theorem g0_word (v : Int) : Word (g0 v) := by unfold g0 Word; omega
theorem g1_word (v : Int) : Word (g1 v) := by unfold g1 Word; omega
theorem g2_word (v : Int) : Word (g2 v) := by unfold g2 Word; omega
theorem g3_word (v : Int) : Word (g3 v) := by unfold g3 Word; omega
theorem W4_g {v : Int} (h : In4 v) : W4 (g0 v) (g1 v) (g2 v) (g3 v) = v := by
  unfold In4 at h; unfold W4 g0 g1 g2 g3; omega
theorem g_W4 {a b c d v : Int} (ha : Word a) (hb : Word b) (hc : Word c) (hd : Word d) (e : W4 a b c d = v) : a = g0 v ∧ b = g1 v ∧ c = g2 v ∧ d = g3 v := by
  unfold Word at *; unfold W4 at e; unfold g0 g1 g2 g3; omega
theorem mul_in4 {x y : Int} (hx : In2 x) (hy : In2 y) : In4 (x * y) := by
  obtain ⟨x0, x1⟩ := hx; obtain ⟨y0, y1⟩ := hy
  refine ⟨Int.mul_nonneg x0 y0, ?_⟩
  have h1 : x * y ≤ 340282366920938463463374607431768211455 * y := Int.mul_le_mul_of_nonneg_right (by omega) y0
  omega
/-- One step of a product by words: no overflow. -/
theorem step_in {x y : Int} (hx : Word x) (hy : Word y) : 0 ≤ x * y ∧ x * y ≤ 340282366920938463426481119284349108225 := by
  obtain ⟨x0, x1⟩ := hx; obtain ⟨y0, y1⟩ := hy
  refine ⟨Int.mul_nonneg x0 y0, ?_⟩
  have h1 : x * y ≤ 18446744073709551615 * y := Int.mul_le_mul_of_nonneg_right (by omega) y0
  omega
theorem step_fits {x y p c : Int} (hx : Word x) (hy : Word y) (hp : Word p) (hc : Word c) : In2 (x * y) ∧ In2 (x * y + p) ∧ In2 (x * y + p + c) := by
  have h := step_in hx hy
  unfold Word at *; unfold In2; omega
theorem hi_lo_sum (t : Int) : loZ t + hiZ t * 18446744073709551616 = t := by unfold loZ hiZ; omega
/-- The product's steps. -/
theorem prod_rows {x0 x1 y0 y1 t00 t01 t10 t11 : Int} (e1 : t00 = x0 * y0 + 0 + 0) (e2 : t01 = x0 * y1 + 0 + hiZ t00) (e3 : t10 = x1 * y0 + loZ t01 + 0) (e4 : t11 = x1 * y1 + hiZ t01 + hiZ t10) :
    W4 (loZ t00) (loZ t10) (loZ t11) (hiZ t11) = val x1 x0 * val y1 y0 := by
  have s1 := hi_lo_sum t00
  have s2 := hi_lo_sum t01
  have s3 := hi_lo_sum t10
  have s4 := hi_lo_sum t11
  have ex : val x1 x0 * val y1 y0 = x0 * y0 + x0 * y1 * 18446744073709551616 + x1 * y0 * 18446744073709551616 + x1 * y1 * 340282366920938463463374607431768211456 := by
    unfold val
    have t1 : x1 * 18446744073709551616 * (y1 * 18446744073709551616) = x1 * y1 * 340282366920938463463374607431768211456 := by
      rw [show x1 * 18446744073709551616 * (y1 * 18446744073709551616) = x1 * y1 * (18446744073709551616 * 18446744073709551616) by ac_rfl]; rfl
    have t2 : x1 * 18446744073709551616 * y0 = x1 * y0 * 18446744073709551616 := by ac_rfl
    have t3 : x0 * (y1 * 18446744073709551616) = x0 * y1 * 18446744073709551616 := by ac_rfl
    rw [Int.add_mul, Int.mul_add, Int.mul_add, t1, t2, t3]; omega
  rw [ex]
  generalize x0 * y0 = a at *
  generalize x0 * y1 = b at *
  generalize x1 * y0 = c at *
  generalize x1 * y1 = d at *
  unfold W4
  generalize loZ t00 = l0 at *
  generalize loZ t10 = l1 at *
  generalize loZ t11 = l2 at *
  generalize loZ t01 = l3 at *
  generalize hiZ t00 = h0 at *
  generalize hiZ t10 = h1 at *
  generalize hiZ t11 = h2 at *
  generalize hiZ t01 = h3 at *
  omega
/-- The order of numbers of four words. -/
theorem W4_le {a0 a1 a2 a3 b0 b1 b2 b3 : Int} (p0 : Word a0) (p1 : Word a1) (p2 : Word a2) (_ : Word a3) (q0 : Word b0) (q1 : Word b1) (q2 : Word b2) (_ : Word b3) :
    (a3 ≠ b3 → decide (W4 a0 a1 a2 a3 ≤ W4 b0 b1 b2 b3) = decide (a3 < b3)) ∧ (a3 = b3 → a2 ≠ b2 → decide (W4 a0 a1 a2 a3 ≤ W4 b0 b1 b2 b3) = decide (a2 < b2)) ∧
    (a3 = b3 → a2 = b2 → a1 ≠ b1 → decide (W4 a0 a1 a2 a3 ≤ W4 b0 b1 b2 b3) = decide (a1 < b1)) ∧ (a3 = b3 → a2 = b2 → a1 = b1 → a0 ≠ b0 → decide (W4 a0 a1 a2 a3 ≤ W4 b0 b1 b2 b3) = decide (a0 < b0)) := by
  unfold Word at *
  refine ⟨fun h => ?_, fun h h' => ?_, fun h h' h'' => ?_, fun h h' h'' h''' => ?_⟩ <;> rw [decide_eq_decide] <;> unfold W4 <;> omega
theorem W4_eq {a0 a1 a2 a3 : Int} : decide (W4 a0 a1 a2 a3 ≤ W4 a0 a1 a2 a3) = true := decide_eq_true (Int.le_refl _)
end Go.Proofs.Ytafkoddgefcpnaa
