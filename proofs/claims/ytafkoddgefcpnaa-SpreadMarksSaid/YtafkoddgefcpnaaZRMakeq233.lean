/- What Make of package ratio, and of its reference, returns. -/
import Derived.Test.YtafkoddgefcpnaaRows
import Derived.Test.YtafkoddgefcpnaaZRRedq227
namespace Go.Proofs.Ytafkoddgefcpnaa
open Go.RowKit

theorem quo_same {p q p' q' : Int} (h : q ≠ 0) (h' : q' ≠ 0) (e : p * q' = p' * q) : quoN p q = quoN p' q' ∧ quoD p q = quoD p' q' ∧ quoB p q = quoB p' q' := by
  have e1 := quo_eq (p := p') h'
  obtain ⟨u1, u2⟩ := quo_uniq h (quoQ_pos (p := p') h') (quo_coprime (p := p') h') (show p * quoQ p' q' = quoP p' q' * q by
    have : q' * (p * quoQ p' q') = q' * (quoP p' q' * q) := by
      have t1 : q' * (p * quoQ p' q') = p * q' * quoQ p' q' := by ac_rfl
      have t2 : q' * (quoP p' q' * q) = quoP p' q' * q' * q := by ac_rfl
      rw [t1, t2, e1, e]
      ac_rfl
    exact Int.eq_of_mul_eq_mul_left h' this)
  have hB : quoB p q = quoB p' q' := by unfold quoB; rw [u1, u2, decide_eq_true h, decide_eq_true h']
  refine ⟨?_, ?_, hB⟩
  · unfold quoN; rw [hB, u1]
  · unfold quoD; rw [hB, u2]

/-- The reference's way to the quotient of two numbers. -/
theorem red_v (s : Bool) (x y p q : Int) (hx : In2 x) (hy : In2 y) (h0 : y ≠ 0) (hq : q ≠ 0) (e : sz s x * q = p * y) (w : World) :
    Calls Try.prog 128 #[.bool s, .agg #[.int .u64 (hiZ x), .int .u64 (loZ x)], .agg #[.int .u64 (hiZ y), .int .u64 (loZ y)]] w fun e w' => e = gotR (quoN p q) (quoD p q) (quoB p q) ∧ Up w w' := by
  have h := red_up s x y hx hy h0 w
  obtain ⟨e1, e2, e3⟩ := quo_same h0 hq e
  rw [e1, e2, e3] at h
  exact h

theorem hl_abs {a : Int} (ha : In a) : hiZ (a.natAbs : Int) = 0 ∧ loZ (a.natAbs : Int) = (a.natAbs : Int) := by
  obtain ⟨a1, a2⟩ := ha; unfold hiZ loZ; omega
theorem in2_abs {a : Int} (ha : In a) : In2 (a.natAbs : Int) := by
  obtain ⟨a1, a2⟩ := ha; exact ⟨by omega, by omega⟩
/-- The sign of the reference's Make. -/
theorem make_ways (n d : Int) (_ : d ≠ 0) :
    (decide (n < 0) = false ∧ decide (d < 0) = false ∧ sz false (n.natAbs : Int) * d = n * (d.natAbs : Int)) ∨
    (decide (n < 0) = true ∧ decide (d < 0) = true ∧ sz false (n.natAbs : Int) * d = n * (d.natAbs : Int)) ∨
    (decide (n < 0) = true ∧ decide (d < 0) = false ∧ (n != 0) = true ∧ sz true (n.natAbs : Int) * d = n * (d.natAbs : Int)) ∨
    (decide (n < 0) = false ∧ decide (d < 0) = true ∧ (n != 0) = true ∧ sz true (n.natAbs : Int) * d = n * (d.natAbs : Int)) ∨
    (decide (n < 0) = false ∧ decide (d < 0) = true ∧ (n != 0) = false ∧ sz false (n.natAbs : Int) * d = n * (d.natAbs : Int)) := by
  by_cases h1 : n < 0 <;> by_cases h2 : d < 0
  · refine Or.inr (Or.inl ⟨decide_eq_true h1, decide_eq_true h2, ?_⟩)
    rw [sz_false, show (n.natAbs : Int) = -n by omega, show (d.natAbs : Int) = -d by omega, Int.neg_mul, Int.mul_neg]
  · refine Or.inr (Or.inr (Or.inl ⟨decide_eq_true h1, decide_eq_false h2, bne_iff_ne.2 (by omega), ?_⟩))
    rw [sz_true, show -(n.natAbs : Int) = n by omega, show (d.natAbs : Int) = d by omega]
  · by_cases h3 : n = 0
    · refine Or.inr (Or.inr (Or.inr (Or.inr ⟨decide_eq_false h1, decide_eq_true h2, bne_eq_false_iff_eq.2 h3, ?_⟩)))
      rw [sz_false, h3]; simp
    · refine Or.inr (Or.inr (Or.inr (Or.inl ⟨decide_eq_false h1, decide_eq_true h2, bne_iff_ne.2 h3, ?_⟩)))
      rw [sz_true, show (n.natAbs : Int) = n by omega, show (d.natAbs : Int) = -d by omega, Int.neg_mul, Int.mul_neg]
  · refine Or.inl ⟨decide_eq_false h1, decide_eq_false h2, ?_⟩
    rw [sz_false, show (n.natAbs : Int) = n by omega, show (d.natAbs : Int) = d by omega]

set_option maxHeartbeats 2000000 in
theorem rmake_up (n d : Int) (hn : In n) (hd : In d) (w : World) :
    Calls Try.prog 95 #[.int .i64 n, .int .i64 d] w fun e w' => e = gotR (quoN n d) (quoD n d) (quoB n d) ∧ Up w w' := by
  by_cases h0 : d = 0
  · subst h0
    rw [(quo_zero n).1, (quo_zero n).2.1, (quo_zero n).2.2]
    go_enter Try.func95, Try.ntmps95
    go_wp2_with fail
    refine bodyPost_ret (v := .tuple #[.agg #[.int .i64 0, .int .i64 0], .bool false]) (by simp [results, Try.results95, go_sem]) rfl ⟨?_, ?_⟩
    · rfl
    · repeat (first | exact Up.refl _ | refine Up.alloc ?_ _ _ | refine Up.setCell ?_ (by first | (simp; done) | (simp; omega) | omega) _ | refine Up.drewN ?_ _ | refine Up.drew ?_)
  · have t0 : (d == 0) = false := beq_eq_false_iff_ne.2 h0
    have HA := Lib.hid (fun W => rabs_any n hn W)
    have HB := Lib.hid (fun W => rabs_any d hd W)
    have HM := Lib.hid (fun s (e : sz s (n.natAbs : Int) * d = n * (d.natAbs : Int)) W => red_v s (n.natAbs : Int) (d.natAbs : Int) n d (in2_abs hn) (in2_abs hd) (by omega) h0 e W)
    rw [(hl_abs hn).1, (hl_abs hn).2, (hl_abs hd).1, (hl_abs hd).2] at HM
    generalize quoN n d = N at *
    generalize quoD n d = D at *
    generalize quoB n d = B at *
    have hw := make_ways n d h0
    clear hn hd h0
    rcases hw with ⟨t1, t2, e⟩ | ⟨t1, t2, e⟩ | ⟨t1, t2, t3, e⟩ | ⟨t1, t2, t3, e⟩ | ⟨t1, t2, t3, e⟩
    all_goals
      have HE := Lib.hid e
      clear e
      generalize (n.natAbs : Int) = na at *
      generalize (d.natAbs : Int) = da at *
      go_enter Try.func95, Try.ntmps95
      go_wp2_with fail
      refine (HA.out _).mono ?_
      rintro e w' ⟨rfl, rfl⟩
      go_wp2_with fail
      refine (rof_up na _).mono ?_
      rintro e w1 ⟨rfl, hu1⟩
      try unfold got2
      have c1_0 := hu1.keep (w.heap.size) (0) (.int .i64 0) (by simp [go_sem, *])
      have c1_1 := hu1.keep (w.heap.size) (1) (.int .i64 0) (by simp [go_sem, *])
      have l1_0 : w.heap.size < w1.heap.size := World.block_lt_of_cell? _ _ c1_0
      have m1_0 : w.heap.size < w1.heap.size + 1 := by omega
      have n1_0 : w.heap.size < w1.heap.size + 1 + 1 := by omega
      have x1_0 : ¬ w1.heap.size = w.heap.size := by omega
      have y1_0 : ¬ w1.heap.size + 1 = w.heap.size := by omega
      have HU1 : Hid (Up w w1) := Lib.hid (by ((repeat (first | (with_reducible exact Up.refl _) | (with_reducible refine Up.trans ?_ hu1) | (with_reducible refine Up.alloc ?_ _ _) | (with_reducible refine Up.setCell ?_ ?_ _) | (with_reducible refine Up.drewN ?_ _) | (with_reducible refine Up.drew ?_))); all_goals (first | (simp; done) | (simp; omega) | omega)))
      clear hu1
      go_wp2_with fail
      refine (HB.out _).mono ?_
      rintro e w' ⟨rfl, rfl⟩
      go_wp2_with fail
      refine (rof_up da _).mono ?_
      rintro e w2 ⟨rfl, hu2⟩
      try unfold got2
      have c2_0 := hu2.keep (w.heap.size) (0) (.int .i64 0) (by simp [go_sem, *])
      have c2_1 := hu2.keep (w.heap.size) (1) (.int .i64 0) (by simp [go_sem, *])
      have l2_0 : w.heap.size < w2.heap.size := World.block_lt_of_cell? _ _ c2_0
      have m2_0 : w.heap.size < w2.heap.size + 1 := by omega
      have n2_0 : w.heap.size < w2.heap.size + 1 + 1 := by omega
      have x2_0 : ¬ w2.heap.size = w.heap.size := by omega
      have y2_0 : ¬ w2.heap.size + 1 = w.heap.size := by omega
      have HU2 : Hid (Up w w2) := Lib.hid (by ((repeat (first | (with_reducible exact Up.refl _) | (with_reducible exact HU1.out) | (with_reducible refine Up.trans ?_ hu2) | (with_reducible refine Up.alloc ?_ _ _) | (with_reducible refine Up.setCell ?_ ?_ _) | (with_reducible refine Up.drewN ?_ _) | (with_reducible refine Up.drew ?_))); all_goals (first | (simp; done) | (simp; omega) | omega)))
      clear hu2 c1_0 c1_1
      go_wp2_with fail
      refine (HM.out _ HE.out _).mono ?_
      rintro e w3 ⟨rfl, hu3⟩
      try unfold got2
      have c3_0 := hu3.keep (w.heap.size) (0) (.int .i64 0) (by simp [go_sem, *])
      have c3_1 := hu3.keep (w.heap.size) (1) (.int .i64 0) (by simp [go_sem, *])
      have l3_0 : w.heap.size < w3.heap.size := World.block_lt_of_cell? _ _ c3_0
      have m3_0 : w.heap.size < w3.heap.size + 1 := by omega
      have n3_0 : w.heap.size < w3.heap.size + 1 + 1 := by omega
      have x3_0 : ¬ w3.heap.size = w.heap.size := by omega
      have y3_0 : ¬ w3.heap.size + 1 = w.heap.size := by omega
      have HU3 : Hid (Up w w3) := Lib.hid (by ((repeat (first | (with_reducible exact Up.refl _) | (with_reducible exact HU2.out) | (with_reducible refine Up.trans ?_ hu3) | (with_reducible refine Up.alloc ?_ _ _) | (with_reducible refine Up.setCell ?_ ?_ _) | (with_reducible refine Up.drewN ?_ _) | (with_reducible refine Up.drew ?_))); all_goals (first | (simp; done) | (simp; omega) | omega)))
      clear hu3 c2_0 c2_1
      unfold gotR
      have z0 := own0 HU3.out 0
      have z1 := own0 HU3.out 1
      go_wp2_with fail
      refine bodyPost_ret (v := .tuple #[.agg #[.int .i64 N, .int .i64 D], .bool B]) (by simp [results, Try.results95, go_sem, c3_0, c3_1]) rfl ⟨?_, ?_⟩
      · rfl
      · ((repeat (first | (with_reducible exact Up.refl _) | (with_reducible exact HU3.out) | (with_reducible refine Up.alloc ?_ _ _) | (with_reducible refine Up.setCell ?_ ?_ _) | (with_reducible refine Up.drewN ?_ _) | (with_reducible refine Up.drew ?_))); all_goals (first | (simp; done) | (simp; omega) | omega))

end Go.Proofs.Ytafkoddgefcpnaa
