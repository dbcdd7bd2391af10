/- Plain facts on rational numbers in lowest terms. No program is named here. -/
import Derived.Test.YtafkoddgefcpnaaZWMathq4
namespace Go.Proofs.Ytafkoddgefcpnaa

theorem quoG_left (p q : Int) : quoG p q ∣ p := by
  unfold quoG
  exact Int.dvd_natAbs.1 (Int.natCast_dvd_natCast.2 (Nat.gcd_dvd_left _ _))
theorem quoG_right (p q : Int) : quoG p q ∣ (q.natAbs : Int) := by
  unfold quoG
  exact Int.natCast_dvd_natCast.2 (Nat.gcd_dvd_right _ _)
theorem quo_eq {p q : Int} (h : q ≠ 0) : quoP p q * q = p * quoQ p q := by
  obtain ⟨k, hk⟩ := quoG_left p q
  obtain ⟨m, hm⟩ := quoG_right p q
  have hg := quoG_pos (p := p) h
  unfold quoP quoQ
  generalize quoG p q = g at *
  have e2 : (q.natAbs : Int) / g = m := by rw [hm]; exact Int.mul_ediv_cancel_left m (by omega)
  rw [e2]
  by_cases hn : q < 0
  · have eq : q = -(g * m) := by omega
    have e1 : -p / g = -k := by rw [hk, ← Int.mul_neg]; exact Int.mul_ediv_cancel_left (-k) (by omega)
    rw [if_pos hn, e1, eq, hk, Int.neg_mul_neg]
    simp [Int.mul_comm, Int.mul_left_comm]
  · have eq : q = g * m := by omega
    have e1 : p / g = k := by rw [hk]; exact Int.mul_ediv_cancel_left k (by omega)
    rw [if_neg hn, e1, eq, hk]
    simp [Int.mul_comm, Int.mul_left_comm]
theorem quoQ_pos {p q : Int} (h : q ≠ 0) : 1 ≤ quoQ p q := by
  obtain ⟨m, hm⟩ := quoG_right p q
  have hg := quoG_pos (p := p) h
  unfold quoQ
  generalize quoG p q = g at *
  rw [hm, Int.mul_ediv_cancel_left m (by omega)]
  have h1 : 0 < g * m := by omega
  have := Int.pos_of_mul_pos_right h1 (by omega)
  omega
theorem quo_coprime {p q : Int} (h : q ≠ 0) : Nat.gcd (quoP p q).natAbs (quoQ p q).natAbs = 1 := by
  have hg := quoG_pos (p := p) h
  have e1 : (quoP p q).natAbs = p.natAbs / (quoG p q).natAbs := by
    unfold quoP
    have hd := quoG_left p q
    by_cases hn : q < 0
    · rw [if_pos hn, Int.natAbs_ediv_of_dvd ((Int.dvd_neg).2 hd), Int.natAbs_neg]
    · rw [if_neg hn, Int.natAbs_ediv_of_dvd hd]
  have e2 : (quoQ p q).natAbs = q.natAbs / (quoG p q).natAbs := by
    unfold quoQ
    rw [Int.natAbs_ediv_of_dvd (quoG_right p q)]; rfl
  rw [e1, e2]
  have e3 : (quoG p q).natAbs = Nat.gcd p.natAbs q.natAbs := by unfold quoG; omega
  rw [e3]
  exact Nat.coprime_div_gcd_div_gcd (Nat.gcd_pos_of_pos_right _ (by omega))
/-- There is one number in lowest terms that equals p / q. -/
theorem quo_uniq {p q n d : Int} (h : q ≠ 0) (h1 : 1 ≤ d) (h2 : Nat.gcd n.natAbs d.natAbs = 1) (e : p * d = n * q) : quoP p q = n ∧ quoQ p q = d := by
  have e1 := quo_eq (p := p) h
  have e2 := quoQ_pos (p := p) h
  have e3 := quo_coprime (p := p) h
  generalize quoP p q = N at *
  generalize quoQ p q = D at *
  have e4 : N * d = n * D := by
    have : q * (N * d) = q * (n * D) := by
      have t1 : q * (N * d) = N * q * d := by simp [Int.mul_comm, Int.mul_left_comm]
      have t2 : q * (n * D) = n * q * D := by simp [Int.mul_comm, Int.mul_left_comm]
      rw [t1, t2, e1, ← e]
      simp [Int.mul_comm, Int.mul_left_comm]
    exact Int.eq_of_mul_eq_mul_left h this
  have e5 : N.natAbs * d.natAbs = n.natAbs * D.natAbs := by
    have := congrArg Int.natAbs e4
    rw [Int.natAbs_mul, Int.natAbs_mul] at this; exact this
  have a1 : d.natAbs ∣ D.natAbs := Nat.Coprime.dvd_of_dvd_mul_left (Nat.Coprime.symm h2) (show d.natAbs ∣ n.natAbs * D.natAbs from ⟨N.natAbs, by rw [← e5, Nat.mul_comm]⟩)
  have a2 : D.natAbs ∣ d.natAbs := Nat.Coprime.dvd_of_dvd_mul_left (Nat.Coprime.symm e3) (show D.natAbs ∣ N.natAbs * d.natAbs from ⟨n.natAbs, by rw [e5, Nat.mul_comm]⟩)
  have a3 := Nat.dvd_antisymm a1 a2
  have a4 : D = d := by omega
  refine ⟨?_, a4⟩
  rw [a4] at e4
  exact Int.eq_of_mul_eq_mul_right (by omega) e4
end Go.Proofs.Ytafkoddgefcpnaa
