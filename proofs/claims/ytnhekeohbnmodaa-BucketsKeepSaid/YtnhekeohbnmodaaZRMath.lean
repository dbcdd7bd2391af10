/- Plain facts on rational numbers in lowest terms. No program is named here. -/
import Derived.Test.YtnhekeohbnmodaaZMath
import Derived.Test.YtnhekeohbnmodaaZWMath
namespace Go.Proofs.Ytnhekeohbnmodaa

/-- In lowest terms. -/
def validB (n d : Int) : Bool := decide (1 ≤ d ∧ Nat.gcd n.natAbs d.natAbs = 1)
theorem validB_yes {n d : Int} (h1 : 1 ≤ d) (h2 : Nat.gcd n.natAbs d.natAbs = 1) : validB n d = true := by unfold validB; exact decide_eq_true ⟨h1, h2⟩
theorem validB_of {n d : Int} (h : validB n d = true) : 1 ≤ d ∧ Nat.gcd n.natAbs d.natAbs = 1 := by unfold validB at h; exact of_decide_eq_true h
theorem validB_low {n d : Int} (h : d < 1) : validB n d = false := by unfold validB; exact decide_eq_false (by omega)
theorem validB_eq {n d : Int} (h : 1 ≤ d) : validB n d = decide (Nat.gcd n.natAbs d.natAbs = 1) := by
  unfold validB; by_cases g : Nat.gcd n.natAbs d.natAbs = 1
  · rw [decide_eq_true g, decide_eq_true ⟨h, g⟩]
  · rw [decide_eq_false g, decide_eq_false (fun x => g x.2)]

/-- The number of a sign and a magnitude. -/
def sz (s : Bool) (v : Int) : Int := if s = true then -v else v
theorem sz_true (v : Int) : sz true v = -v := rfl
theorem sz_false (v : Int) : sz false v = v := rfl
theorem sz_abs (s : Bool) (v : Int) : (sz s v).natAbs = v.natAbs := by cases s <;> simp [sz_true, sz_false]
theorem sz_not (s : Bool) (v : Int) : sz (!s) v = -sz s v := by cases s <;> simp [sz_true, sz_false]
theorem sz_of (a : Int) : sz (decide (a < 0)) (a.natAbs : Int) = a := by
  by_cases h : a < 0
  · rw [decide_eq_true h, sz_true]; omega
  · rw [decide_eq_false h, sz_false]; omega
theorem sz_mul (s t : Bool) (x y : Int) : sz (s != t) (x * y) = sz s x * sz t y := by
  cases s <;> cases t
  · rfl
  · show -(x * y) = x * -y; rw [Int.mul_neg]
  · show -(x * y) = -x * y; rw [Int.neg_mul]
  · show x * y = -x * -y; rw [Int.neg_mul_neg]
theorem sz_prod (a b : Int) : sz (decide (a < 0) != decide (b < 0)) ((a.natAbs : Int) * (b.natAbs : Int)) = a * b := by
  rw [sz_mul, sz_of, sz_of]

/-- The greatest common divisor of two numbers of any sign. -/
def quoG (p q : Int) : Int := (Nat.gcd p.natAbs q.natAbs : Nat)
/-- The parts of p / q in lowest terms. -/
def quoP (p q : Int) : Int := (if q < 0 then -p else p) / quoG p q
def quoQ (p q : Int) : Int := (q.natAbs : Int) / quoG p q
def quoB (p q : Int) : Bool := decide (q ≠ 0) && (fits (quoP p q) && fits (quoQ p q))
def quoN (p q : Int) : Int := if quoB p q = true then quoP p q else 0
def quoD (p q : Int) : Int := if quoB p q = true then quoQ p q else 0

theorem quoG_pos {p q : Int} (h : q ≠ 0) : 0 < quoG p q := by
  unfold quoG
  have := Nat.gcd_pos_of_pos_right p.natAbs (show 0 < q.natAbs by omega)
  omega
theorem quoG_left (p q : Int) : quoG p q ∣ p := by
  unfold quoG
  exact Int.dvd_natAbs.1 (Int.natCast_dvd_natCast.2 (Nat.gcd_dvd_left _ _))
theorem quoG_right (p q : Int) : quoG p q ∣ (q.natAbs : Int) := by
  unfold quoG
  exact Int.natCast_dvd_natCast.2 (Nat.gcd_dvd_right _ _)
theorem quo_zero (p : Int) : quoB p 0 = false ∧ quoN p 0 = 0 ∧ quoD p 0 = 0 := by
  have : quoB p 0 = false := by simp [quoB]
  refine ⟨this, ?_, ?_⟩
  · unfold quoN; rw [this]; rfl
  · unfold quoD; rw [this]; rfl
/-- The numerator without its sign, and the denominator. -/
theorem quo_parts (s t : Bool) (x y : Int) (hx : 0 ≤ x) (hy : 0 < y) :
    quoP (sz s x) (sz t y) = sz (s != t) (x / gcdZ x y) ∧ quoQ (sz s x) (sz t y) = y / gcdZ x y := by
  have eg : quoG (sz s x) (sz t y) = gcdZ x y := by
    unfold quoG gcdZ
    rw [sz_abs, sz_abs]
    obtain ⟨m, rfl⟩ := Int.eq_ofNat_of_zero_le hx
    obtain ⟨n, rfl⟩ := Int.eq_ofNat_of_zero_le (Int.le_of_lt hy)
    rfl
  have hd : gcdZ x y ∣ x := (gcdZ_dvd x y hx (Int.le_of_lt hy)).1
  have ey : ((sz t y).natAbs : Int) = y := by rw [sz_abs]; omega
  refine ⟨?_, ?_⟩
  · unfold quoP
    rw [eg]
    cases s <;> cases t
    · rw [sz_false, sz_false, if_neg (by omega)]; rfl
    · rw [sz_false, sz_true, if_pos (by omega), Int.neg_ediv_of_dvd hd]; rfl
    · rw [sz_true, sz_false, if_neg (by omega), Int.neg_ediv_of_dvd hd]; rfl
    · rw [sz_true, sz_true, if_pos (by omega), Int.neg_neg]; rfl
  · unfold quoQ; rw [eg, ey]

theorem quo_eq {p q : Int} (h : q ≠ 0) : quoP p q * q = p * quoQ p q := by
  obtain ⟨k, hk⟩ := quoG_left p q
  obtain ⟨m, hm⟩ := quoG_right p q
  have hg := quoG_pos (p := p) h
  unfold quoP quoQ
  generalize quoG p q = g at *
  have e2 : (q.natAbs : Int) / g = m := by rw [hm]; exact Int.mul_ediv_cancel_left m (by omega)
  rw [e2]
  by_cases hn : q < 0
  · have eq : q = -(g * m) := by omega
    have e1 : -p / g = -k := by rw [hk, ← Int.mul_neg]; exact Int.mul_ediv_cancel_left (-k) (by omega)
    rw [if_pos hn, e1, eq, hk, Int.neg_mul_neg]
    simp [Int.mul_comm, Int.mul_left_comm]
  · have eq : q = g * m := by omega
    have e1 : p / g = k := by rw [hk]; exact Int.mul_ediv_cancel_left k (by omega)
    rw [if_neg hn, e1, eq, hk]
    simp [Int.mul_comm, Int.mul_left_comm]
theorem quoQ_pos {p q : Int} (h : q ≠ 0) : 1 ≤ quoQ p q := by
  obtain ⟨m, hm⟩ := quoG_right p q
  have hg := quoG_pos (p := p) h
  unfold quoQ
  generalize quoG p q = g at *
  rw [hm, Int.mul_ediv_cancel_left m (by omega)]
  have h1 : 0 < g * m := by omega
  have := Int.pos_of_mul_pos_right h1 (by omega)
  omega
theorem quo_coprime {p q : Int} (h : q ≠ 0) : Nat.gcd (quoP p q).natAbs (quoQ p q).natAbs = 1 := by
  have hg := quoG_pos (p := p) h
  have e1 : (quoP p q).natAbs = p.natAbs / (quoG p q).natAbs := by
    unfold quoP
    have hd := quoG_left p q
    by_cases hn : q < 0
    · rw [if_pos hn, Int.natAbs_ediv_of_dvd ((Int.dvd_neg).2 hd), Int.natAbs_neg]
    · rw [if_neg hn, Int.natAbs_ediv_of_dvd hd]
  have e2 : (quoQ p q).natAbs = q.natAbs / (quoG p q).natAbs := by
    unfold quoQ
    rw [Int.natAbs_ediv_of_dvd (quoG_right p q)]; rfl
  rw [e1, e2]
  have e3 : (quoG p q).natAbs = Nat.gcd p.natAbs q.natAbs := by unfold quoG; omega
  rw [e3]
  exact Nat.coprime_div_gcd_div_gcd (Nat.gcd_pos_of_pos_right _ (by omega))
/-- There is one number in lowest terms that equals p / q. -/
theorem quo_uniq {p q n d : Int} (h : q ≠ 0) (h1 : 1 ≤ d) (h2 : Nat.gcd n.natAbs d.natAbs = 1) (e : p * d = n * q) : quoP p q = n ∧ quoQ p q = d := by
  have e1 := quo_eq (p := p) h
  have e2 := quoQ_pos (p := p) h
  have e3 := quo_coprime (p := p) h
  generalize quoP p q = N at *
  generalize quoQ p q = D at *
  have e4 : N * d = n * D := by
    have : q * (N * d) = q * (n * D) := by
      have t1 : q * (N * d) = N * q * d := by simp [Int.mul_comm, Int.mul_left_comm]
      have t2 : q * (n * D) = n * q * D := by simp [Int.mul_comm, Int.mul_left_comm]
      rw [t1, t2, e1, ← e]
      simp [Int.mul_comm, Int.mul_left_comm]
    exact Int.eq_of_mul_eq_mul_left h this
  have e5 : N.natAbs * d.natAbs = n.natAbs * D.natAbs := by
    have := congrArg Int.natAbs e4
    rw [Int.natAbs_mul, Int.natAbs_mul] at this; exact this
  have a1 : d.natAbs ∣ D.natAbs := Nat.Coprime.dvd_of_dvd_mul_left (Nat.Coprime.symm h2) (show d.natAbs ∣ n.natAbs * D.natAbs from ⟨N.natAbs, by rw [← e5, Nat.mul_comm]⟩)
  have a2 : D.natAbs ∣ d.natAbs := Nat.Coprime.dvd_of_dvd_mul_left (Nat.Coprime.symm e3) (show D.natAbs ∣ N.natAbs * d.natAbs from ⟨n.natAbs, by rw [e5, Nat.mul_comm]⟩)
  have a3 := Nat.dvd_antisymm a1 a2
  have a4 : D = d := by omega
  refine ⟨?_, a4⟩
  rw [a4] at e4
  exact Int.eq_of_mul_eq_mul_right (by omega) e4
theorem quo_is {p q n d : Int} (h : q ≠ 0) (hn : In n) (hd : In d) (hv : validB n d = true) (e : p * d = n * q) : quoB p q = true ∧ quoN p q = n ∧ quoD p q = d := by
  obtain ⟨h1, h2⟩ := validB_of hv
  obtain ⟨e1, e2⟩ := quo_uniq h h1 h2 e
  have hB : quoB p q = true := by unfold quoB; rw [e1, e2, fits_yes hn, fits_yes hd, decide_eq_true h]; rfl
  exact ⟨hB, by unfold quoN; rw [if_pos hB, e1], by unfold quoD; rw [if_pos hB, e2]⟩
theorem quo_yes {p q : Int} (h : quoB p q = true) : q ≠ 0 ∧ In (quoN p q) ∧ In (quoD p q) ∧ validB (quoN p q) (quoD p q) = true ∧ quoN p q * q = p * quoD p q := by
  have hh := h
  unfold quoB at hh
  rw [Bool.and_eq_true, Bool.and_eq_true] at hh
  obtain ⟨h1, h2, h3⟩ := hh
  have h0 := of_decide_eq_true h1
  unfold fits at h2 h3
  have e1 : quoN p q = quoP p q := by unfold quoN; rw [if_pos h]
  have e2 : quoD p q = quoQ p q := by unfold quoD; rw [if_pos h]
  rw [e1, e2]
  have i2 : In (quoP p q) := (of_decide_eq_true h2 : _ ∧ _)
  have i3 : In (quoQ p q) := (of_decide_eq_true h3 : _ ∧ _)
  exact ⟨h0, i2, i3, validB_yes (quoQ_pos h0) (quo_coprime h0), quo_eq h0⟩
theorem quo_no {p q : Int} (h : quoB p q = false) : quoN p q = 0 ∧ quoD p q = 0 := by
  unfold quoN quoD; rw [h]; exact ⟨rfl, rfl⟩
theorem quo_in (p q : Int) : In (quoN p q) ∧ In (quoD p q) := by
  cases h : quoB p q
  · rw [(quo_no h).1, (quo_no h).2]; exact ⟨⟨by decide, by decide⟩, ⟨by decide, by decide⟩⟩
  · exact ⟨(quo_yes h).2.1, (quo_yes h).2.2.1⟩

/-- The rest has the same common divisors with the divisor. -/
theorem gcd_rest (n d : Int) (h : 1 ≤ d) : gcdZ (rest n d) d = (Nat.gcd n.natAbs d.natAbs : Nat) := by
  have e := flo_rest n d
  obtain ⟨r0, _⟩ := rest_pos n d (by omega)
  unfold gcdZ
  congr 1
  have hn : n.natAbs = (rest n d + d * flo n d).natAbs := by rw [Int.mul_comm, Int.add_comm, e]
  have e1 : (rest n d).toNat = (rest n d).natAbs := by omega
  have e2 : d.toNat = d.natAbs := by omega
  rw [e1, e2, hn]
  show Int.gcd (rest n d) d = Int.gcd (rest n d + d * flo n d) d
  rw [Int.gcd_add_mul_left_left]

/-- The quotients next to n / d, where there is a number in lowest terms. -/
theorem hasq_valid {n d : Int} (h : 1 ≤ d) : hasq n d = true := hasq_yes ⟨by omega, by omega⟩

/-- The sum of two signed numbers: its sign and its magnitude. -/
def sumS (s t : Bool) (x y : Int) : Bool := if s = t then s else if x < y then t else s
def sumV (s t : Bool) (x y : Int) : Int := if s = t then x + y else if x < y then y - x else x - y
theorem sum_sz (s t : Bool) (x y : Int) : sz (sumS s t x y) (sumV s t x y) = sz s x + sz t y := by
  unfold sumS sumV
  by_cases h : s = t
  · rw [if_pos h, if_pos h, h]; cases t
    · rw [sz_false, sz_false, sz_false]
    · rw [sz_true, sz_true, sz_true]; omega
  · rw [if_neg h, if_neg h]
    by_cases l : x < y
    · rw [if_pos l, if_pos l]; cases s <;> cases t <;> simp [sz_true, sz_false] at * <;> omega
    · rw [if_neg l, if_neg l]; cases s <;> cases t <;> simp [sz_true, sz_false] at * <;> omega

end Go.Proofs.Ytnhekeohbnmodaa
