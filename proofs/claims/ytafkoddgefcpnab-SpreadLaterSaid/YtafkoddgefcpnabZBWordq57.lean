/- Texts of these claims, one after the other. -/
import Derived.Test.YtafkoddgefcpnabZWMathq0
namespace Go.Proofs.Ytafkoddgefcpnab

/-- The number of four words, the least first. -/
def W4 (a b c d : Int) : Int := a + b * 18446744073709551616 + c * 340282366920938463463374607431768211456 + d * 6277101735386680763835789423207666416102355444464034512896
/-- The words of a number. -/
def g0 (v : Int) : Int := v % 18446744073709551616
def g1 (v : Int) : Int := v / 18446744073709551616 % 18446744073709551616
def g2 (v : Int) : Int := v / 340282366920938463463374607431768211456 % 18446744073709551616
def g3 (v : Int) : Int := v / 6277101735386680763835789423207666416102355444464034512896 % 18446744073709551616
def In4 (v : Int) : Prop := 0 ≤ v ∧ v < 115792089237316195423570985008687907853269984665640564039457584007913129639936
theorem g0_word (v : Int) : Word (g0 v) := by unfold g0 Word; omega
theorem g1_word (v : Int) : Word (g1 v) := by unfold g1 Word; omega
theorem g2_word (v : Int) : Word (g2 v) := by unfold g2 Word; omega
theorem g3_word (v : Int) : Word (g3 v) := by unfold g3 Word; omega
theorem W4_g {v : Int} (h : In4 v) : W4 (g0 v) (g1 v) (g2 v) (g3 v) = v := by
  unfold In4 at h; unfold W4 g0 g1 g2 g3; omega
theorem g_W4 {a b c d v : Int} (ha : Word a) (hb : Word b) (hc : Word c) (hd : Word d) (e : W4 a b c d = v) : a = g0 v ∧ b = g1 v ∧ c = g2 v ∧ d = g3 v := by
  unfold Word at *; unfold W4 at e; unfold g0 g1 g2 g3; omega
theorem mul_in4 {x y : Int} (hx : In2 x) (hy : In2 y) : In4 (x * y) := by
  obtain ⟨x0, x1⟩ := hx; obtain ⟨y0, y1⟩ := hy
  refine ⟨Int.mul_nonneg x0 y0, ?_⟩
  have h1 : x * y ≤ 340282366920938463463374607431768211455 * y := Int.mul_le_mul_of_nonneg_right (by omega) y0
  omega
/-- One step of a product by words: no overflow. -/
theorem step_in {x y : Int} (hx : Word x) (hy : Word y) : 0 ≤ x * y ∧ x * y ≤ 340282366920938463426481119284349108225 := by
  obtain ⟨x0, x1⟩ := hx; obtain ⟨y0, y1⟩ := hy
  refine ⟨Int.mul_nonneg x0 y0, ?_⟩
  have h1 : x * y ≤ 18446744073709551615 * y := Int.mul_le_mul_of_nonneg_right (by omega) y0
  omega
theorem step_fits {x y p c : Int} (hx : Word x) (hy : Word y) (hp : Word p) (hc : Word c) : In2 (x * y) ∧ In2 (x * y + p) ∧ In2 (x * y + p + c) := by
  have h := step_in hx hy
  unfold Word at *; unfold In2; omega
theorem hi_lo_sum (t : Int) : loZ t + hiZ t * 18446744073709551616 = t := by unfold loZ hiZ; omega
/-- The product's steps. -/
theorem prod_rows {x0 x1 y0 y1 t00 t01 t10 t11 : Int} (e1 : t00 = x0 * y0 + 0 + 0) (e2 : t01 = x0 * y1 + 0 + hiZ t00) (e3 : t10 = x1 * y0 + loZ t01 + 0) (e4 : t11 = x1 * y1 + hiZ t01 + hiZ t10) :
    W4 (loZ t00) (loZ t10) (loZ t11) (hiZ t11) = val x1 x0 * val y1 y0 := by
  have s1 := hi_lo_sum t00
  have s2 := hi_lo_sum t01
  have s3 := hi_lo_sum t10
  have s4 := hi_lo_sum t11
  have ex : val x1 x0 * val y1 y0 = x0 * y0 + x0 * y1 * 18446744073709551616 + x1 * y0 * 18446744073709551616 + x1 * y1 * 340282366920938463463374607431768211456 := by
    unfold val
    have t1 : x1 * 18446744073709551616 * (y1 * 18446744073709551616) = x1 * y1 * 340282366920938463463374607431768211456 := by
      rw [show x1 * 18446744073709551616 * (y1 * 18446744073709551616) = x1 * y1 * (18446744073709551616 * 18446744073709551616) by ac_rfl]; rfl
    have t2 : x1 * 18446744073709551616 * y0 = x1 * y0 * 18446744073709551616 := by ac_rfl
    have t3 : x0 * (y1 * 18446744073709551616) = x0 * y1 * 18446744073709551616 := by ac_rfl
    rw [Int.add_mul, Int.mul_add, Int.mul_add, t1, t2, t3]; omega
  rw [ex]
  generalize x0 * y0 = a at *
  generalize x0 * y1 = b at *
  generalize x1 * y0 = c at *
  generalize x1 * y1 = d at *
  unfold W4
  generalize loZ t00 = l0 at *
  generalize loZ t10 = l1 at *
  generalize loZ t11 = l2 at *
  generalize loZ t01 = l3 at *
  generalize hiZ t00 = h0 at *
  generalize hiZ t10 = h1 at *
  generalize hiZ t11 = h2 at *
  generalize hiZ t01 = h3 at *
  omega
/-- The order of numbers of four words. -/
theorem W4_le {a0 a1 a2 a3 b0 b1 b2 b3 : Int} (p0 : Word a0) (p1 : Word a1) (p2 : Word a2) (_ : Word a3) (q0 : Word b0) (q1 : Word b1) (q2 : Word b2) (_ : Word b3) :
    (a3 ≠ b3 → decide (W4 a0 a1 a2 a3 ≤ W4 b0 b1 b2 b3) = decide (a3 < b3)) ∧ (a3 = b3 → a2 ≠ b2 → decide (W4 a0 a1 a2 a3 ≤ W4 b0 b1 b2 b3) = decide (a2 < b2)) ∧
    (a3 = b3 → a2 = b2 → a1 ≠ b1 → decide (W4 a0 a1 a2 a3 ≤ W4 b0 b1 b2 b3) = decide (a1 < b1)) ∧ (a3 = b3 → a2 = b2 → a1 = b1 → a0 ≠ b0 → decide (W4 a0 a1 a2 a3 ≤ W4 b0 b1 b2 b3) = decide (a0 < b0)) := by
  unfold Word at *
  refine ⟨fun h => ?_, fun h h' => ?_, fun h h' h'' => ?_, fun h h' h'' h''' => ?_⟩ <;> rw [decide_eq_decide] <;> unfold W4 <;> omega
theorem W4_eq {a0 a1 a2 a3 : Int} : decide (W4 a0 a1 a2 a3 ≤ W4 a0 a1 a2 a3) = true := decide_eq_true (Int.le_refl _)
end Go.Proofs.Ytafkoddgefcpnab

namespace Go.Proofs.Ytafkoddgefcpnab

/-- In lowest terms. -/
def validB (n d : Int) : Bool := decide (1 ≤ d ∧ Nat.gcd n.natAbs d.natAbs = 1)
theorem validB_yes {n d : Int} (h1 : 1 ≤ d) (h2 : Nat.gcd n.natAbs d.natAbs = 1) : validB n d = true := by unfold validB; exact decide_eq_true ⟨h1, h2⟩
theorem validB_of {n d : Int} (h : validB n d = true) : 1 ≤ d ∧ Nat.gcd n.natAbs d.natAbs = 1 := by unfold validB at h; exact of_decide_eq_true h
theorem validB_low {n d : Int} (h : d < 1) : validB n d = false := by unfold validB; exact decide_eq_false (by omega)
theorem validB_eq {n d : Int} (h : 1 ≤ d) : validB n d = decide (Nat.gcd n.natAbs d.natAbs = 1) := by
  unfold validB; by_cases g : Nat.gcd n.natAbs d.natAbs = 1
  · rw [decide_eq_true g, decide_eq_true ⟨h, g⟩]
  · rw [decide_eq_false g, decide_eq_false (fun x => g x.2)]

/-- The number of a sign and a magnitude. -/
def sz (s : Bool) (v : Int) : Int := if s = true then -v else v
theorem sz_true (v : Int) : sz true v = -v := rfl
theorem sz_false (v : Int) : sz false v = v := rfl
theorem sz_abs (s : Bool) (v : Int) : (sz s v).natAbs = v.natAbs := by cases s <;> simp [sz_true, sz_false]
theorem sz_of (a : Int) : sz (decide (a < 0)) (a.natAbs : Int) = a := by
  by_cases h : a < 0
  · rw [decide_eq_true h, sz_true]; omega
  · rw [decide_eq_false h, sz_false]; omega
theorem sz_mul (s t : Bool) (x y : Int) : sz (s != t) (x * y) = sz s x * sz t y := by
  cases s <;> cases t
  · rfl
  · show -(x * y) = x * -y; rw [Int.mul_neg]
  · show -(x * y) = -x * y; rw [Int.neg_mul]
  · show x * y = -x * -y; rw [Int.neg_mul_neg]
theorem sz_prod (a b : Int) : sz (decide (a < 0) != decide (b < 0)) ((a.natAbs : Int) * (b.natAbs : Int)) = a * b := by
  rw [sz_mul, sz_of, sz_of]

/-- The greatest common divisor of two numbers of any sign. -/
def quoG (p q : Int) : Int := (Nat.gcd p.natAbs q.natAbs : Nat)
/-- The parts of p / q in lowest terms. -/
def quoP (p q : Int) : Int := (if q < 0 then -p else p) / quoG p q
def quoQ (p q : Int) : Int := (q.natAbs : Int) / quoG p q
def quoB (p q : Int) : Bool := decide (q ≠ 0) && (fits (quoP p q) && fits (quoQ p q))
def quoN (p q : Int) : Int := if quoB p q = true then quoP p q else 0
def quoD (p q : Int) : Int := if quoB p q = true then quoQ p q else 0

theorem quoG_pos {p q : Int} (h : q ≠ 0) : 0 < quoG p q := by
  unfold quoG
  have := Nat.gcd_pos_of_pos_right p.natAbs (show 0 < q.natAbs by omega)
  omega
theorem quoG_left (p q : Int) : quoG p q ∣ p := by
  unfold quoG
  exact Int.dvd_natAbs.1 (Int.natCast_dvd_natCast.2 (Nat.gcd_dvd_left _ _))
theorem quoG_right (p q : Int) : quoG p q ∣ (q.natAbs : Int) := by
  unfold quoG
  exact Int.natCast_dvd_natCast.2 (Nat.gcd_dvd_right _ _)
theorem quo_zero (p : Int) : quoB p 0 = false ∧ quoN p 0 = 0 ∧ quoD p 0 = 0 := by
  have : quoB p 0 = false := by simp [quoB]
  refine ⟨this, ?_, ?_⟩
  · unfold quoN; rw [this]; rfl
  · unfold quoD; rw [this]; rfl
/-- The numerator without its sign, and the denominator. -/
theorem quo_parts (s t : Bool) (x y : Int) (hx : 0 ≤ x) (hy : 0 < y) :
    quoP (sz s x) (sz t y) = sz (s != t) (x / gcdZ x y) ∧ quoQ (sz s x) (sz t y) = y / gcdZ x y := by
  have eg : quoG (sz s x) (sz t y) = gcdZ x y := by
    unfold quoG gcdZ
    rw [sz_abs, sz_abs]
    obtain ⟨m, rfl⟩ := Int.eq_ofNat_of_zero_le hx
    obtain ⟨n, rfl⟩ := Int.eq_ofNat_of_zero_le (Int.le_of_lt hy)
    rfl
  have hd : gcdZ x y ∣ x := (gcdZ_dvd x y hx (Int.le_of_lt hy)).1
  have ey : ((sz t y).natAbs : Int) = y := by rw [sz_abs]; omega
  refine ⟨?_, ?_⟩
  · unfold quoP
    rw [eg]
    cases s <;> cases t
    · rw [sz_false, sz_false, if_neg (by omega)]; rfl
    · rw [sz_false, sz_true, if_pos (by omega), Int.neg_ediv_of_dvd hd]; rfl
    · rw [sz_true, sz_false, if_neg (by omega), Int.neg_ediv_of_dvd hd]; rfl
    · rw [sz_true, sz_true, if_pos (by omega), Int.neg_neg]; rfl
  · unfold quoQ; rw [eg, ey]

theorem quo_eq {p q : Int} (h : q ≠ 0) : quoP p q * q = p * quoQ p q := by
  obtain ⟨k, hk⟩ := quoG_left p q
  obtain ⟨m, hm⟩ := quoG_right p q
  have hg := quoG_pos (p := p) h
  unfold quoP quoQ
  generalize quoG p q = g at *
  have e2 : (q.natAbs : Int) / g = m := by rw [hm]; exact Int.mul_ediv_cancel_left m (by omega)
  rw [e2]
  by_cases hn : q < 0
  · have eq : q = -(g * m) := by omega
    have e1 : -p / g = -k := by rw [hk, ← Int.mul_neg]; exact Int.mul_ediv_cancel_left (-k) (by omega)
    rw [if_pos hn, e1, eq, hk, Int.neg_mul_neg]
    simp [Int.mul_comm, Int.mul_left_comm]
  · have eq : q = g * m := by omega
    have e1 : p / g = k := by rw [hk]; exact Int.mul_ediv_cancel_left k (by omega)
    rw [if_neg hn, e1, eq, hk]
    simp [Int.mul_comm, Int.mul_left_comm]
theorem quoQ_pos {p q : Int} (h : q ≠ 0) : 1 ≤ quoQ p q := by
  obtain ⟨m, hm⟩ := quoG_right p q
  have hg := quoG_pos (p := p) h
  unfold quoQ
  generalize quoG p q = g at *
  rw [hm, Int.mul_ediv_cancel_left m (by omega)]
  have h1 : 0 < g * m := by omega
  have := Int.pos_of_mul_pos_right h1 (by omega)
  omega
theorem quo_coprime {p q : Int} (h : q ≠ 0) : Nat.gcd (quoP p q).natAbs (quoQ p q).natAbs = 1 := by
  have hg := quoG_pos (p := p) h
  have e1 : (quoP p q).natAbs = p.natAbs / (quoG p q).natAbs := by
    unfold quoP
    have hd := quoG_left p q
    by_cases hn : q < 0
    · rw [if_pos hn, Int.natAbs_ediv_of_dvd ((Int.dvd_neg).2 hd), Int.natAbs_neg]
    · rw [if_neg hn, Int.natAbs_ediv_of_dvd hd]
  have e2 : (quoQ p q).natAbs = q.natAbs / (quoG p q).natAbs := by
    unfold quoQ
    rw [Int.natAbs_ediv_of_dvd (quoG_right p q)]; rfl
  rw [e1, e2]
  have e3 : (quoG p q).natAbs = Nat.gcd p.natAbs q.natAbs := by unfold quoG; omega
  rw [e3]
  exact Nat.coprime_div_gcd_div_gcd (Nat.gcd_pos_of_pos_right _ (by omega))
/-- There is one number in lowest terms that equals p / q. -/
theorem quo_uniq {p q n d : Int} (h : q ≠ 0) (h1 : 1 ≤ d) (h2 : Nat.gcd n.natAbs d.natAbs = 1) (e : p * d = n * q) : quoP p q = n ∧ quoQ p q = d := by
  have e1 := quo_eq (p := p) h
  have e2 := quoQ_pos (p := p) h
  have e3 := quo_coprime (p := p) h
  generalize quoP p q = N at *
  generalize quoQ p q = D at *
  have e4 : N * d = n * D := by
    have : q * (N * d) = q * (n * D) := by
      have t1 : q * (N * d) = N * q * d := by simp [Int.mul_comm, Int.mul_left_comm]
      have t2 : q * (n * D) = n * q * D := by simp [Int.mul_comm, Int.mul_left_comm]
      rw [t1, t2, e1, ← e]
      simp [Int.mul_comm, Int.mul_left_comm]
    exact Int.eq_of_mul_eq_mul_left h this
  have e5 : N.natAbs * d.natAbs = n.natAbs * D.natAbs := by
    have := congrArg Int.natAbs e4
    rw [Int.natAbs_mul, Int.natAbs_mul] at this; exact this
  have a1 : d.natAbs ∣ D.natAbs := Nat.Coprime.dvd_of_dvd_mul_left (Nat.Coprime.symm h2) (show d.natAbs ∣ n.natAbs * D.natAbs from ⟨N.natAbs, by rw [← e5, Nat.mul_comm]⟩)
  have a2 : D.natAbs ∣ d.natAbs := Nat.Coprime.dvd_of_dvd_mul_left (Nat.Coprime.symm e3) (show D.natAbs ∣ N.natAbs * d.natAbs from ⟨n.natAbs, by rw [e5, Nat.mul_comm]⟩)
  have a3 := Nat.dvd_antisymm a1 a2
  have a4 : D = d := by omega
  refine ⟨?_, a4⟩
  rw [a4] at e4
  exact Int.eq_of_mul_eq_mul_right (by omega) e4
theorem quo_yes {p q : Int} (h : quoB p q = true) : q ≠ 0 ∧ In (quoN p q) ∧ In (quoD p q) ∧ validB (quoN p q) (quoD p q) = true ∧ quoN p q * q = p * quoD p q := by
  have hh := h
  unfold quoB at hh
  rw [Bool.and_eq_true, Bool.and_eq_true] at hh
  obtain ⟨h1, h2, h3⟩ := hh
  have h0 := of_decide_eq_true h1
  unfold fits at h2 h3
  have e1 : quoN p q = quoP p q := by unfold quoN; rw [if_pos h]
  have e2 : quoD p q = quoQ p q := by unfold quoD; rw [if_pos h]
  rw [e1, e2]
  have i2 : In (quoP p q) := (of_decide_eq_true h2 : _ ∧ _)
  have i3 : In (quoQ p q) := (of_decide_eq_true h3 : _ ∧ _)
  exact ⟨h0, i2, i3, validB_yes (quoQ_pos h0) (quo_coprime h0), quo_eq h0⟩
theorem quo_no {p q : Int} (h : quoB p q = false) : quoN p q = 0 ∧ quoD p q = 0 := by
  unfold quoN quoD; rw [h]; exact ⟨rfl, rfl⟩
/-- The rest has the same common divisors with the divisor. -/
theorem gcd_rest (n d : Int) (h : 1 ≤ d) : gcdZ (rest n d) d = (Nat.gcd n.natAbs d.natAbs : Nat) := by
  have e := flo_rest n d
  obtain ⟨r0, _⟩ := rest_pos n d (by omega)
  unfold gcdZ
  congr 1
  have hn : n.natAbs = (rest n d + d * flo n d).natAbs := by rw [Int.mul_comm, Int.add_comm, e]
  have e1 : (rest n d).toNat = (rest n d).natAbs := by omega
  have e2 : d.toNat = d.natAbs := by omega
  rw [e1, e2, hn]
  show Int.gcd (rest n d) d = Int.gcd (rest n d + d * flo n d) d
  rw [Int.gcd_add_mul_left_left]

end Go.Proofs.Ytafkoddgefcpnab
