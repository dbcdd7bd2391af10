/- What wide.Pow returns. -/
import Derived.Test.YtinjainclhfahaaRows
import Derived.Test.YtinjainclhfahaaZWMul2q67
namespace Go.Proofs.Ytinjainclhfahaa
open Go.RowKit

/-- What Pow returns: the power and true if n is not negative and it is a number of two words, else 0 and false. -/
def powV (a n : Int) : Int := if n < 0 then 0 else fit2 (a ^ n.toNat)
def powB (a n : Int) : Bool := if n < 0 then false else fits2 (a ^ n.toNat)
theorem powV_neg {a n : Int} (h : n < 0) : powV a n = 0 ∧ powB a n = false := by
  unfold powV powB; rw [if_pos h, if_pos h]; exact ⟨rfl, rfl⟩
theorem powV_nat (a : Int) (n : Nat) : powV a (n : Int) = fit2 (a ^ n) ∧ powB a (n : Int) = fits2 (a ^ n) := by
  unfold powV powB
  rw [if_neg (by omega), if_neg (by omega), Int.toNat_natCast]; exact ⟨rfl, rfl⟩
theorem pow_le1 (a : Int) (h0 : 0 ≤ a) (h1 : a ≤ 1) (n : Nat) (hn : n ≠ 0) : a ^ n = a := by
  induction n with
  | zero => exact absurd rfl hn
  | succ n ih =>
    rw [Int.pow_succ]
    by_cases h : n = 0
    · subst h; rw [Int.pow_zero, Int.one_mul]
    · rw [ih h]; rcases (by omega : a = 0 ∨ a = 1) with e | e <;> subst e <;> decide
theorem far_mul2 {x a : Int} (ha : 1 < a) (hx0 : 0 ≤ x) (hx : ¬ In2 x) : ¬ In2 (x * a) := by
  have : x * 1 ≤ x * a := Int.mul_le_mul_of_nonneg_left (by omega) hx0
  unfold In2 at *; omega
theorem pow_far2 {a : Int} (ha : 1 < a) {k n : Nat} (hkn : k ≤ n) (hk : ¬ In2 (a ^ k)) : ¬ In2 (a ^ n) := by
  induction n with
  | zero => rw [show (0 : Nat) = k by omega]; exact hk
  | succ n ih =>
    by_cases h : k = n + 1
    · rw [← h]; exact hk
    · rw [Int.pow_succ]; exact far_mul2 ha (Int.pow_nonneg (by omega)) (ih (by omega))
theorem mul_of (P a : Int) (hP : In2 P) (ha : Word a) (w : World) :
    Calls Try.prog 56 #[.agg #[.int .u64 (hiZ P), .int .u64 (loZ P)], .agg #[.int .u64 0, .int .u64 a]] w fun e w' =>
      e = got2 (fit2 (P * a)) (fits2 (P * a)) ∧ Up w w' := by
  have h := mul_up (hiZ P) (loZ P) 0 a (hiZ_word hP) (loZ_word P) word_0 ha w
  rw [val_hilo, show val 0 a = a by unfold val; omega] at h
  exact h

set_option maxHeartbeats 4000000 in
set_option maxRecDepth 100000 in
theorem pow_up (a n : Int) (ha : Word a) (hn : -9223372036854775808 ≤ n ∧ n ≤ 9223372036854775807) (w : World) :
    Calls Try.prog 47 #[.int .u64 a, .int .i64 n] w fun e w' => e = got2 (powV a n) (powB a n) ∧ Up w w' := by
  obtain ⟨a1, a2⟩ := id ha
  by_cases hneg : n < 0
  · have H := Lib.hid (powV_neg (a := a) hneg)
    go_enter Try.func47, Try.ntmps47
    go_wp2
    refine bodyPost_ret (v := .tuple #[.agg #[.int .u64 0, .int .u64 0], .bool false]) (by simp [results, Try.results47, go_sem]) rfl ⟨?_, ?_⟩
    · rw [H.out.1, H.out.2]; rfl
    · repeat (first | exact Up.refl _ | refine Up.alloc ?_ _ _ | refine Up.setCell ?_ (by first | (simp; done) | (simp; omega) | omega) _ | refine Up.drewN ?_ _ | refine Up.drew ?_)
  obtain ⟨n, rfl⟩ := Int.eq_ofNat_of_zero_le (a := n) (by omega)
  have n2 : n ≤ 9223372036854775807 := by omega
  have HV := Lib.hid (powV_nat a n)
  clear hneg hn
  by_cases h0 : n = 0
  · have t1 : ((n : Int) == 0) = true := beq_iff_eq.2 (by omega)
    have HE := Lib.hid (show powV a (n : Int) = 1 ∧ powB a (n : Int) = true by rw [HV.out.1, HV.out.2, h0, Int.pow_zero]; exact ⟨by decide, by decide⟩)
    clear h0
    go_enter Try.func47, Try.ntmps47
    go_wp2_with fail
    refine (of_up 1 _).mono ?_
    rintro e w1 ⟨rfl, hu1⟩
    obtain ⟨hc1, hz1⟩ := hu1.cells
    have hs1 := hu1.size
    try simp at hs1
    try unfold got2
    have p1_0 : w.heap.size < w1.heap.size := by omega
    go_wp2_with fail
    refine bodyPost_ret (v := .tuple #[.agg #[.int .u64 0, .int .u64 1], .bool true]) (by simp [results, Try.results47, go_sem, hc1]) rfl ⟨?_, ?_⟩
    · rw [HE.out.1, HE.out.2]; rfl
    · repeat (first | exact Up.refl _ | refine Up.trans ?_ hu1 | refine Up.alloc ?_ _ _ | refine Up.setCell ?_ (by first | (simp; done) | (simp; omega) | omega) _ | refine Up.drewN ?_ _ | refine Up.drew ?_)
  have t1 : ((n : Int) == 0) = false := beq_eq_false_iff_ne.2 (by omega)
  by_cases hs : a ≤ 1
  · have t2 : decide (a ≤ 1) = true := decide_eq_true hs
    have hi : In2 a := ⟨a1, by omega⟩
    have HE := Lib.hid (show powV a (n : Int) = a ∧ powB a (n : Int) = true by rw [HV.out.1, HV.out.2, pow_le1 a a1 hs n h0]; exact ⟨fit2_yes hi, fits2_yes hi⟩)
    have HW := Lib.hid (show hiZ a = 0 ∧ loZ a = a by unfold hiZ loZ; omega)
    clear hs h0 hi
    go_enter Try.func47, Try.ntmps47
    go_wp2_with fail
    refine (of_up a _).mono ?_
    rintro e w1 ⟨rfl, hu1⟩
    obtain ⟨hc1, hz1⟩ := hu1.cells
    have hs1 := hu1.size
    try simp at hs1
    try unfold got2
    have p1_0 : w.heap.size < w1.heap.size := by omega
    go_wp2_with fail
    refine bodyPost_ret (v := .tuple #[.agg #[.int .u64 0, .int .u64 a], .bool true]) (by simp [results, Try.results47, go_sem, hc1]) rfl ⟨?_, ?_⟩
    · rw [HE.out.1, HE.out.2]; unfold got2; rw [HW.out.1, HW.out.2]
    · repeat (first | exact Up.refl _ | refine Up.trans ?_ hu1 | refine Up.alloc ?_ _ _ | refine Up.setCell ?_ (by first | (simp; done) | (simp; omega) | omega) _ | refine Up.drewN ?_ _ | refine Up.drew ?_)
  have hb : 1 < a := by omega
  have t2 : decide (a ≤ 1) = false := decide_eq_false hs
  clear hs
  go_enter Try.func47, Try.ntmps47
  go_wp2_with fail
  refine (of_up 1 _).mono ?_
  rintro e w1 ⟨rfl, hu1⟩
  obtain ⟨hc1, hz1⟩ := hu1.cells
  have hs1 := hu1.size
  try simp at hs1
  try unfold got2
  have p1_0 : w.heap.size < w1.heap.size := by omega
  go_wp2_with fail
  go_loopw [21] (fun u wr => ∃ (P : Int) (i : Nat), u = .int .i64 (i : Int) ∧ i ≤ n ∧ In2 P ∧ Hid (P = a ^ i) ∧ Up w wr ∧ wr.cell? ⟨w1.heap.size, 0, none⟩ = some (.int .u64 (hiZ P)) ∧ wr.cell? ⟨w1.heap.size, 1, none⟩ = some (.int .u64 (loZ P)) ∧ wr.cell? ⟨w.heap.size, 0, none⟩ = some (.int .u64 0) ∧ wr.cell? ⟨w.heap.size, 1, none⟩ = some (.int .u64 0)) (fun u _ => n - (intOf u).toNat)
  case atStart =>
    refine ⟨1, 0, rfl, by omega, ⟨by decide, by decide⟩, Lib.hid (by rw [Int.pow_zero]), ?_, ?_, ?_, ?_, ?_⟩
    · repeat (first | exact Up.refl _ | refine Up.trans ?_ hu1 | refine Up.alloc ?_ _ _ | refine Up.setCell ?_ (by first | (simp; done) | (simp; omega) | omega) _ | refine Up.drewN ?_ _ | refine Up.drew ?_)
    all_goals simp [go_sem, *, show hiZ 1 = 0 by decide, show loZ 1 = 1 by decide]
  case round =>
    obtain ⟨P, i, rfl, hin, hP, HP, hup, q0, q1, r0, r1⟩ := hrel
    have HUP := Lib.hid hup
    have z0 := hup.own 0 0
    have z1 := hup.own 0 1
    simp only [Nat.add_zero] at z0 z1
    have lr : w.heap.size < wr.heap.size := World.block_lt_of_cell? _ _ r0
    have lq : w1.heap.size < wr.heap.size := World.block_lt_of_cell? _ _ q0
    have zq0 : wr.frozen? ⟨w1.heap.size, 0, none⟩ = false := by have := hup.own (w1.heap.size - w.heap.size) 0; rw [show w.heap.size + (w1.heap.size - w.heap.size) = w1.heap.size by omega] at this; exact this
    have zq1 : wr.frozen? ⟨w1.heap.size, 1, none⟩ = false := by have := hup.own (w1.heap.size - w.heap.size) 1; rw [show w.heap.size + (w1.heap.size - w.heap.size) = w1.heap.size by omega] at this; exact this
    clear hup hc1 hz1
    by_cases hlt : i < n
    · go_upto_region 10 with fail
      go_cut [7, 8] (fun t7 t8 wx => ∃ g : Nat, t7 = .pointer (some ⟨g, 0, none⟩) ∧ t8 = .bool (fits2 (P * a)) ∧ wr.heap.size ≤ g ∧ wx.cell? ⟨g, 0, none⟩ = some (.int .u64 (hiZ (fit2 (P * a)))) ∧ wx.cell? ⟨g, 1, none⟩ = some (.int .u64 (loZ (fit2 (P * a)))) ∧
        Up wr wx ∧ wx.cell? ⟨w1.heap.size, 0, none⟩ = some (.int .u64 (hiZ P)) ∧ wx.cell? ⟨w1.heap.size, 1, none⟩ = some (.int .u64 (loZ P)))
      case first =>
        go_region_held3 (fun w' => Up wr w' ∧ w'.cell? ⟨w1.heap.size, 0, none⟩ = some (.int .u64 (hiZ P)) ∧ w'.cell? ⟨w1.heap.size, 1, none⟩ = some (.int .u64 (loZ P)))
          (first | (exact keep2 (by assumption) (by assumption)) | (repeat (first | assumption | (exact Hid.out (by assumption)) | (exact ⟨Up.refl _, q0, q1⟩) | (refine keep2 (Lib.hid ((Up.refl _).alloc _ _)) ?_) | (refine keep2 (Lib.hid (Up.refl _).drew) ?_) | (refine set2 ?_ (by omega) (by omega) (by omega)))))
          (first
            | (go_at_call 57; (with_reducible refine (of_up a _).mono ?_); rintro e w2 ⟨rfl, hu2⟩; have HU2 := Lib.hid hu2; have HS2 := Lib.hid (keep2 HU2 (by assumption)); obtain ⟨hc2, hz2⟩ := hu2.cells; have hs2 := hu2.size; (try simp at hs2); clear hu2; (try unfold got2); (try (have p2_0 : wr.heap.size < w2.heap.size := by omega)))
            | (go_at_call 56; (with_reducible refine (mul_of P a hP ha _).mono ?_); rintro e w3 ⟨rfl, hu3⟩; have HU3 := Lib.hid hu3; have HS3 := Lib.hid (keep2 HU3 (by assumption)); obtain ⟨hc3, hz3⟩ := hu3.cells; have hs3 := hu3.size; (try simp at hs3); clear hu3; (try unfold got2); (try (have p3_0 : wr.heap.size < w3.heap.size := by omega)); (try (have p3_1 : w2.heap.size < w3.heap.size := by omega)))
            )
        all_goals
          go_wp2_with fail
          go_meet
          refine ⟨_, rfl, rfl, ?_, ?_, ?_, by assumption⟩
          · omega
          all_goals simp [go_sem, *]
      case rest =>
        obtain ⟨g, rfl, rfl, lg, g0, g1, hup', q0', q1'⟩ := hcut
        have r0' := hup'.keep _ _ _ r0
        have r1' := hup'.keep _ _ _ r1
        have z0' := (hup'.cells.2 ⟨w.heap.size, 0, none⟩).trans z0
        have z1' := (hup'.cells.2 ⟨w.heap.size, 1, none⟩).trans z1
        have zq0' := (hup'.cells.2 ⟨w1.heap.size, 0, none⟩).trans zq0
        have zq1' := (hup'.cells.2 ⟨w1.heap.size, 1, none⟩).trans zq1
        have HUP2 := Lib.hid (HUP.out.trans hup')
        clear hup' q0 q1 r0 r1 z0 z1 zq0 zq1
        by_cases hi : In2 (P * a)
        · have t3 := fits2_yes hi
          rw [fit2_yes hi] at g0 g1
          have kg1 : ¬ g = w1.heap.size := by omega
          have kg2 : ¬ g = w.heap.size := by omega
          have kp : ¬ w1.heap.size = w.heap.size := by omega
          go_wp2_with fail
          go_roundw
          case rel =>
            refine ⟨P * a, i + 1, by go_num, by omega, hi, Lib.hid (by rw [Int.pow_succ, ← HP.out]), ?_, ?_, ?_, ?_, ?_⟩
            · repeat (first | exact Up.refl _ | (refine Up.trans ?_ (HUP2.out); skip) | refine Up.alloc ?_ _ _ | refine Up.setCell ?_ (by first | (simp; done) | (simp; omega) | omega) _ | refine Up.drewN ?_ _ | refine Up.drew ?_)
            all_goals simp [go_sem, *]
          case measure => simp only [intOf]; omega
        · have t3 := fits2_no hi
          have hfar : ¬ In2 (a ^ n) := pow_far2 hb (k := i + 1) (by omega) (by rw [Int.pow_succ, ← HP.out]; exact hi)
          have HX := Lib.hid (fit2_no hfar)
          have HY := Lib.hid (fits2_no hfar)
          clear hi hfar
          go_wp2_with fail
          refine bodyPost_ret (v := .tuple #[.agg #[.int .u64 0, .int .u64 0], .bool false]) (by simp [results, Try.results47, go_sem, r0', r1']) rfl ⟨?_, ?_⟩
          · rw [HV.out.1, HV.out.2, HX.out, HY.out]; rfl
          · repeat (first | exact Up.refl _ | (refine Up.trans ?_ (HUP2.out); skip) | refine Up.alloc ?_ _ _ | refine Up.setCell ?_ (by first | (simp; done) | (simp; omega) | omega) _ | refine Up.drewN ?_ _ | refine Up.drew ?_)
    · have hi : In2 (a ^ n) := by rw [show n = i by omega, ← HP.out]; exact hP
      have HX := Lib.hid (fit2_yes hi)
      have HY := Lib.hid (fits2_yes hi)
      have HE := Lib.hid (show a ^ n = P by rw [show n = i by omega, ← HP.out])
      clear hi
      go_wp2_with fail
      refine bodyPost_ret (v := .tuple #[.agg #[.int .u64 (hiZ P), .int .u64 (loZ P)], .bool true]) (by simp [results, Try.results47, go_sem, r0, r1]) rfl ⟨?_, ?_⟩
      · rw [HV.out.1, HV.out.2, HX.out, HY.out, HE.out]; rfl
      · repeat (first | exact Up.refl _ | (refine Up.trans ?_ (HUP.out); skip) | refine Up.alloc ?_ _ _ | refine Up.setCell ?_ (by first | (simp; done) | (simp; omega) | omega) _ | refine Up.drewN ?_ _ | refine Up.drew ?_)

end Go.Proofs.Ytinjainclhfahaa
