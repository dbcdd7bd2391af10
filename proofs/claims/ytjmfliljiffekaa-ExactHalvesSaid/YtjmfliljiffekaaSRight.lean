/- What wide.Right returns, for every shift. -/
import Derived.Test.YtjmfliljiffekaaSLeft
namespace Go.Proofs.Ytjmfliljiffekaa
open Go.RowKit

theorem right_high {h l n : Int} (hh : Word h) (hl : Word l) (h0 : 64 ≤ n) : hiZ (rightZ (val h l) n) = 0 ∧ loZ (rightZ (val h l) n) = h / 2 ^ (n - 64).toNat ∧ 0 ≤ h / 2 ^ (n - 64).toNat := by
  have e2 : val h l / 18446744073709551616 = h := by obtain ⟨c1, c2⟩ := hl; unfold val; omega
  have hp := pow_nonneg2 (n - 64).toNat
  obtain ⟨a1, a2⟩ := hh
  have q0 : 0 ≤ h / 2 ^ (n - 64).toNat := Int.ediv_nonneg a1 (by omega)
  have q1 : h / 2 ^ (n - 64).toNat ≤ h := Int.ediv_le_self _ a1
  unfold rightZ
  rw [if_neg (by omega), pow_split n h0, ← Int.ediv_ediv_of_nonneg (by decide), e2]
  generalize h / 2 ^ (n - 64).toNat = z at *
  unfold hiZ loZ
  omega
theorem shr_min {h : Int} (hh : Word h) (m : Nat) : h / 2 ^ min m 64 = h / 2 ^ m := by
  obtain ⟨a1, a2⟩ := hh
  by_cases hm : m ≤ 64
  · rw [Nat.min_eq_left hm]
  · rw [Nat.min_eq_right (by omega)]
    have e : (2 : Int) ^ 64 = 18446744073709551616 := by decide
    have p : (2 : Int) ^ 64 ≤ 2 ^ m := by
      rw [← pow_cast, ← pow_cast]
      exact Int.ofNat_le.2 (Nat.pow_le_pow_right (by decide) (by omega))
    rw [Int.ediv_eq_zero_of_lt a1 (by omega), Int.ediv_eq_zero_of_lt a1 (by omega)]
theorem shr_words (h l s : Int) (hh : Word h) (hl : Word l) (s0 : 0 ≤ s) (s1 : s ≤ 63) :
    bits BinOp.or IntKind.u64 (IntKind.u64.wrap (h * 2 ^ (64 - s).toNat)) (l / 2 ^ s.toNat) = loZ (rightZ (val h l) s) ∧ h / 2 ^ s.toNat = hiZ (rightZ (val h l) s) := by
  obtain ⟨a1, a2⟩ := hh; obtain ⟨b1, b2⟩ := hl
  have en : (64 - s).toNat = 64 - s.toNat := by omega
  have hn : s.toNat ≤ 63 := by omega
  unfold rightZ
  rw [en, if_neg (by omega)]
  generalize s.toNat = n at *
  have kp := pow_nonneg2 n
  have Kp := pow_nonneg2 (64 - n)
  have kK : (2 : Int) ^ n * 2 ^ (64 - n) = 18446744073709551616 := by
    rw [← pow_cast, ← pow_cast, ← Int.natCast_mul, ← Nat.pow_add, show n + (64 - n) = 64 by omega]; rfl
  have lq0 : 0 ≤ l / (2 : Int) ^ n := Int.ediv_nonneg b1 (by omega)
  have lq1 : l / (2 : Int) ^ n < 2 ^ (64 - n) := Int.ediv_lt_of_lt_mul kp (by rw [Int.mul_comm, kK]; exact b2)
  have lq2 : l / (2 : Int) ^ n ≤ l := Int.ediv_le_self _ b1
  have hq0 : 0 ≤ h / (2 : Int) ^ n := Int.ediv_nonneg a1 (by omega)
  have hm := Int.mul_ediv_add_emod h (2 ^ n)
  have hm0 := Int.emod_nonneg h (show (2 : Int) ^ n ≠ 0 by omega)
  have hm1 := Int.emod_lt_of_pos h kp
  -- the part of the first word that stays in the second
  have ew : IntKind.u64.wrap (h * 2 ^ (64 - n)) = h % 2 ^ n * 2 ^ (64 - n) := by
    rw [IntKind.wrap_u64]
    have e : h * 2 ^ (64 - n) = h % 2 ^ n * 2 ^ (64 - n) + h / 2 ^ n * 18446744073709551616 := by
      conv => lhs; rw [← hm]
      rw [Int.add_mul, show (2 : Int) ^ n * (h / 2 ^ n) * 2 ^ (64 - n) = h / 2 ^ n * (2 ^ n * 2 ^ (64 - n)) by ac_rfl, kK, Int.add_comm]
    have r0 : 0 ≤ h % 2 ^ n * 2 ^ (64 - n) := Int.mul_nonneg hm0 (by omega)
    have r1 : h % 2 ^ n * 2 ^ (64 - n) < 2 ^ n * 2 ^ (64 - n) := Int.mul_lt_mul_of_pos_right hm1 Kp
    rw [kK] at r1
    rw [e]
    generalize h % 2 ^ n * 2 ^ (64 - n) = x at *
    generalize h / 2 ^ n = y at *
    omega
  have r0 : 0 ≤ h % 2 ^ n * 2 ^ (64 - n) := Int.mul_nonneg hm0 (by omega)
  have r1 : h % 2 ^ n * 2 ^ (64 - n) + 2 ^ (64 - n) ≤ 18446744073709551616 := by
    have : (h % 2 ^ n + 1) * (2 : Int) ^ (64 - n) ≤ 2 ^ n * 2 ^ (64 - n) := Int.mul_le_mul_of_nonneg_right (by omega) (by omega)
    rw [Int.add_mul, Int.one_mul, kK] at this; exact this
  have ev : val h l / 2 ^ n = h / 2 ^ n * 18446744073709551616 + (h % 2 ^ n * 2 ^ (64 - n) + l / 2 ^ n) := by
    have e : val h l = l + 2 ^ n * (h / 2 ^ n * 18446744073709551616 + h % 2 ^ n * 2 ^ (64 - n)) := by
      unfold val
      rw [Int.mul_add, show (2 : Int) ^ n * (h % 2 ^ n * 2 ^ (64 - n)) = h % 2 ^ n * (2 ^ n * 2 ^ (64 - n)) by ac_rfl, kK, ← Int.mul_assoc, ← Int.add_mul, hm, Int.add_comm]
    rw [e, Int.add_mul_ediv_left _ _ (by omega)]
    generalize l / 2 ^ n = x
    generalize h % 2 ^ n * 2 ^ (64 - n) = y
    generalize h / 2 ^ n * 18446744073709551616 = z
    omega
  rw [ew, or_join (64 - n) _ _ r0 (Int.mul_emod_left _ _) (by omega) lq0 lq1 (by omega), ev]
  unfold hiZ loZ
  generalize h % 2 ^ n * 2 ^ (64 - n) = x at *
  generalize h / 2 ^ n = y at *
  generalize l / 2 ^ n = z at *
  omega

set_option maxHeartbeats 4000000 in
set_option maxRecDepth 100000 in
theorem right_up (h l n : Int) (hh : Word h) (hl : Word l) (hn : In n) (w : World) :
    Calls Try.prog 118 #[.agg #[.int .u64 h, .int .u64 l], .int .i64 n] w fun e w' => e = .returned (.agg #[.int .u64 (hiZ (rightZ (val h l) n)), .int .u64 (loZ (rightZ (val h l) n))]) ∧ Up w w' := by
  obtain ⟨n1, n2⟩ := hn
  by_cases hneg : n < 0
  · have t1 : decide (n < 0) = true := decide_eq_true hneg
    have HZ := Lib.hid (show rightZ (val h l) n = 0 from if_pos hneg)
    clear hneg n1 n2
    go_enter Try.func118, Try.ntmps118
    go_wp2_with fail
    refine bodyPost_ret (v := .agg #[.int .u64 0, .int .u64 0]) (by simp [results, Try.results118, go_sem]) rfl ⟨?_, ?_⟩
    · rw [HZ.out, hiZ_0, loZ_0]
    · repeat (first | exact Up.refl _ | refine Up.alloc ?_ _ _ | refine Up.setCell ?_ (by first | (simp; done) | (simp; omega) | omega) _ | refine Up.drewN ?_ _ | refine Up.drew ?_)
  have t1 : decide (n < 0) = false := decide_eq_false hneg
  have n0 : 0 ≤ n := by omega
  by_cases h64 : 64 ≤ n
  · have t4 : decide (64 ≤ n) = true := decide_eq_true h64
    obtain ⟨e1, e2, _⟩ := right_high (n := n) hh hl h64
    have HE := Lib.hid (And.intro e1 (e2.trans (shr_min hh _).symm))
    obtain ⟨a1, a2⟩ := id hh
    clear e1 e2 hneg
    generalize hiZ (rightZ (val h l) n) = X at *
    generalize loZ (rightZ (val h l) n) = Y at *
    go_enter Try.func118, Try.ntmps118
    go_wp2_with fail
    refine (of_up _ _).mono ?_
    rintro e w1 ⟨rfl, hu1⟩
    try unfold got2
    have c1_0 := hu1.keep (w.heap.size + 1) (0) (.int .u64 0) (by simp [go_sem, *])
    have c1_1 := hu1.keep (w.heap.size + 1) (1) (.int .u64 0) (by simp [go_sem, *])
    have l1_0 : w.heap.size + 1 < w1.heap.size := World.block_lt_of_cell? _ _ c1_0
    have m1_0 : w.heap.size + 1 < w1.heap.size + 1 := by omega
    have n1_0 : w.heap.size + 1 < w1.heap.size + 1 + 1 := by omega
    have x1_0 : ¬ w1.heap.size = w.heap.size + 1 := by omega
    have y1_0 : ¬ w1.heap.size + 1 = w.heap.size + 1 := by omega
    have HU1 : Hid (Up w w1) := Lib.hid (by ((repeat (first | (with_reducible exact Up.refl _) | (with_reducible refine Up.trans ?_ hu1) | (with_reducible refine Up.alloc ?_ _ _) | (with_reducible refine Up.setCell ?_ ?_ _) | (with_reducible refine Up.drewN ?_ _) | (with_reducible refine Up.drew ?_))); all_goals (first | (simp; done) | (simp; omega) | omega)))
    clear hu1
    have z0 := HU1.out.own 1 0
    have z1 := HU1.out.own 1 1
    go_wp2_with fail
    refine bodyPost_ret (v := .agg #[.int .u64 0, .int .u64 (h / 2 ^ min (n - 64).toNat 64)]) (by simp [results, Try.results118, go_sem, c1_0, c1_1]) rfl ⟨?_, ?_⟩
    · rw [HE.out.1, HE.out.2]
    · ((repeat (first | (with_reducible exact Up.refl _) | (with_reducible exact HU1.out) | (with_reducible refine Up.alloc ?_ _ _) | (with_reducible refine Up.setCell ?_ ?_ _) | (with_reducible refine Up.drewN ?_ _) | (with_reducible refine Up.drew ?_))); all_goals (first | (simp; done) | (simp; omega) | omega))
  · have t4 : decide (64 ≤ n) = false := decide_eq_false h64
    obtain ⟨e1, e2⟩ := shr_words h l n hh hl n0 (by omega)
    have n4 : n ≤ 63 := by omega
    have hw : IntKind.i64.wrap (64 - n) = 64 - n := IntWalk.i64_in _ (by omega)
    obtain ⟨a1, a2⟩ := id hh; obtain ⟨b1, b2⟩ := id hl
    generalize hX : hiZ (rightZ (val h l) n) = X at e2
    generalize hY : loZ (rightZ (val h l) n) = Y at e1
    clear hX hY h64 hneg n1 n2
    go_enter Try.func118, Try.ntmps118
    go_wp2_with fail
    go_region
    go_wp2_with fail
    refine bodyPost_ret (v := .agg #[.int .u64 X, .int .u64 Y]) (by simp [results, Try.results118, go_sem]) rfl ⟨?_, ?_⟩
    · rfl
    · repeat (first | exact Up.refl _ | refine Up.alloc ?_ _ _ | refine Up.setCell ?_ (by first | (simp; done) | (simp; omega) | omega) _ | refine Up.drewN ?_ _ | refine Up.drew ?_)

end Go.Proofs.Ytjmfliljiffekaa
