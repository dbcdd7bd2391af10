/- Texts of these claims, one after the other. -/
import Derived.Test.YtchikndofpkjmaaRows
import Derived.Test.YtchikndofpkjmaaZRValidq139
import Derived.Test.YtchikndofpkjmaaZWCmpq13
namespace Go.Proofs.Ytchikndofpkjmaa
open Go.RowKit

theorem bothValid_up (n d m c : Int) (hn : In n) (hd : In d) (hm : In m) (hc : In c) (w : World) :
    Calls Try.prog 93 #[.agg #[.int .i64 n, .int .i64 d], .agg #[.int .i64 m, .int .i64 c]] w fun e w' => e = .returned (.bool (validB n d && validB m c)) ∧ Up w w' := by
  have H1 := Lib.hid (fun W => valid_up n d hn hd W)
  have H2 := Lib.hid (fun W => valid_up m c hm hc W)
  generalize validB n d = p at *
  generalize validB m c = q at *
  cases p
  · go_enter Try.func93, Try.ntmps93
    go_wp2_with fail
    refine (H1.out _).mono ?_
    rintro e w1 ⟨rfl, hu1⟩
    obtain ⟨hc1, hz1⟩ := hu1.cells
    have hs1 := hu1.size
    try simp at hs1
    try unfold got2
    have p1_0 : w.heap.size < w1.heap.size := by omega
    have p1_1 : w.heap.size + 1 < w1.heap.size := by omega
    go_wp2_with fail
    go_ret
    refine ⟨rfl, ?_⟩
    repeat (first | exact Up.refl _ | refine Up.trans ?_ hu1 | refine Up.alloc ?_ _ _ | refine Up.setCell ?_ (by first | (simp; done) | (simp; omega) | omega) _ | refine Up.drewN ?_ _ | refine Up.drew ?_)
  · go_enter Try.func93, Try.ntmps93
    go_wp2_with fail
    refine (H1.out _).mono ?_
    rintro e w1 ⟨rfl, hu1⟩
    obtain ⟨hc1, hz1⟩ := hu1.cells
    have hs1 := hu1.size
    try simp at hs1
    try unfold got2
    have p1_0 : w.heap.size < w1.heap.size := by omega
    have p1_1 : w.heap.size + 1 < w1.heap.size := by omega
    go_wp2_with fail
    refine (H2.out _).mono ?_
    rintro e w2 ⟨rfl, hu2⟩
    obtain ⟨hc2, hz2⟩ := hu2.cells
    have hs2 := hu2.size
    try simp at hs2
    try unfold got2
    go_wp2_with fail
    go_ret
    refine ⟨rfl, ?_⟩
    repeat (first | exact Up.refl _ | refine Up.trans ?_ hu2 | refine Up.trans ?_ hu1 | refine Up.alloc ?_ _ _ | refine Up.setCell ?_ (by first | (simp; done) | (simp; omega) | omega) _ | refine Up.drewN ?_ _ | refine Up.drew ?_)

end Go.Proofs.Ytchikndofpkjmaa

namespace Go.Proofs.Ytchikndofpkjmaa
open Go.RowKit

/-- A rational number and a bool. -/
def gotR (n d : Int) (b : Bool) : Ending := .returned (.tuple #[.agg #[.int .i64 n, .int .i64 d], .bool b])

end Go.Proofs.Ytchikndofpkjmaa

namespace Go.Proofs.Ytchikndofpkjmaa
open Go.RowKit

def cmpR (n d m c : Int) : Int := if (validB n d && validB m c) = true then crossZ n c m d else 0

theorem comparer_up (n d m c : Int) (hn : In n) (hd : In d) (hm : In m) (hc : In c) (w : World) :
    Calls Try.prog 71 #[.agg #[.int .i64 n, .int .i64 d], .agg #[.int .i64 m, .int .i64 c]] w fun e w' => e = .returned (.int .i64 (cmpR n d m c)) ∧ Up w w' := by
  have HV := Lib.hid (fun W => bothValid_up n d m c hn hd hm hc W)
  have HC := Lib.hid (fun W => cross_up n c m d hn hc hm hd W)
  have HR := Lib.hid (show cmpR n d m c = if (validB n d && validB m c) = true then crossZ n c m d else 0 from rfl)
  generalize cmpR n d m c = r at *
  generalize crossZ n c m d = q at *
  generalize (validB n d && validB m c) = v at *
  clear hn hd hm hc
  cases v
  · go_enter Try.func71, Try.ntmps71
    go_wp2_with fail
    refine (HV.out _).mono ?_
    rintro e w1 ⟨rfl, hu1⟩
    try unfold got2
    have c1_0 := hu1.keep (w.heap.size) (0) (.int .i64 n) (by simp [go_sem, *])
    have c1_1 := hu1.keep (w.heap.size) (1) (.int .i64 d) (by simp [go_sem, *])
    have c1_2 := hu1.keep (w.heap.size + 1) (0) (.int .i64 m) (by simp [go_sem, *])
    have c1_3 := hu1.keep (w.heap.size + 1) (1) (.int .i64 c) (by simp [go_sem, *])
    have l1_0 : w.heap.size < w1.heap.size := World.block_lt_of_cell? _ _ c1_0
    have m1_0 : w.heap.size < w1.heap.size + 1 := by omega
    have n1_0 : w.heap.size < w1.heap.size + 1 + 1 := by omega
    have x1_0 : ¬ w1.heap.size = w.heap.size := by omega
    have y1_0 : ¬ w1.heap.size + 1 = w.heap.size := by omega
    have l1_1 : w.heap.size + 1 < w1.heap.size := World.block_lt_of_cell? _ _ c1_2
    have m1_1 : w.heap.size + 1 < w1.heap.size + 1 := by omega
    have n1_1 : w.heap.size + 1 < w1.heap.size + 1 + 1 := by omega
    have x1_1 : ¬ w1.heap.size = w.heap.size + 1 := by omega
    have y1_1 : ¬ w1.heap.size + 1 = w.heap.size + 1 := by omega
    have HU1 : Hid (Up w w1) := Lib.hid (by ((repeat (first | (with_reducible exact Up.refl _) | (with_reducible refine Up.trans ?_ hu1) | (with_reducible refine Up.alloc ?_ _ _) | (with_reducible refine Up.setCell ?_ ?_ _) | (with_reducible refine Up.drewN ?_ _) | (with_reducible refine Up.drew ?_))); all_goals (first | (simp; done) | (simp; omega) | omega)))
    clear hu1
    go_wp2_with fail
    go_ret
    exact ⟨by rw [HR.out]; rfl, HU1.out⟩
  · go_enter Try.func71, Try.ntmps71
    go_wp2_with fail
    refine (HV.out _).mono ?_
    rintro e w1 ⟨rfl, hu1⟩
    try unfold got2
    have c1_0 := hu1.keep (w.heap.size) (0) (.int .i64 n) (by simp [go_sem, *])
    have c1_1 := hu1.keep (w.heap.size) (1) (.int .i64 d) (by simp [go_sem, *])
    have c1_2 := hu1.keep (w.heap.size + 1) (0) (.int .i64 m) (by simp [go_sem, *])
    have c1_3 := hu1.keep (w.heap.size + 1) (1) (.int .i64 c) (by simp [go_sem, *])
    have l1_0 : w.heap.size < w1.heap.size := World.block_lt_of_cell? _ _ c1_0
    have m1_0 : w.heap.size < w1.heap.size + 1 := by omega
    have n1_0 : w.heap.size < w1.heap.size + 1 + 1 := by omega
    have x1_0 : ¬ w1.heap.size = w.heap.size := by omega
    have y1_0 : ¬ w1.heap.size + 1 = w.heap.size := by omega
    have l1_1 : w.heap.size + 1 < w1.heap.size := World.block_lt_of_cell? _ _ c1_2
    have m1_1 : w.heap.size + 1 < w1.heap.size + 1 := by omega
    have n1_1 : w.heap.size + 1 < w1.heap.size + 1 + 1 := by omega
    have x1_1 : ¬ w1.heap.size = w.heap.size + 1 := by omega
    have y1_1 : ¬ w1.heap.size + 1 = w.heap.size + 1 := by omega
    have HU1 : Hid (Up w w1) := Lib.hid (by ((repeat (first | (with_reducible exact Up.refl _) | (with_reducible refine Up.trans ?_ hu1) | (with_reducible refine Up.alloc ?_ _ _) | (with_reducible refine Up.setCell ?_ ?_ _) | (with_reducible refine Up.drewN ?_ _) | (with_reducible refine Up.drew ?_))); all_goals (first | (simp; done) | (simp; omega) | omega)))
    clear hu1
    go_wp2_with fail
    refine (HC.out _).mono ?_
    rintro e w2 ⟨rfl, hu2⟩
    try unfold got2
    have HU2 : Hid (Up w w2) := Lib.hid (by ((repeat (first | (with_reducible exact Up.refl _) | (with_reducible exact HU1.out) | (with_reducible refine Up.trans ?_ hu2) | (with_reducible refine Up.alloc ?_ _ _) | (with_reducible refine Up.setCell ?_ ?_ _) | (with_reducible refine Up.drewN ?_ _) | (with_reducible refine Up.drew ?_))); all_goals (first | (simp; done) | (simp; omega) | omega)))
    clear hu2 c1_0 c1_1 c1_2 c1_3
    go_wp2_with fail
    go_ret
    exact ⟨by rw [HR.out]; rfl, HU2.out⟩

end Go.Proofs.Ytchikndofpkjmaa

namespace Go.Proofs.Ytchikndofpkjmaa

theorem sgn_mul (a b : Int) : cmpZ a 0 * cmpZ b 0 = cmpZ (a * b) 0 := by
  rcases (by omega : a < 0 ∨ a = 0 ∨ 0 < a) with ha | ha | ha <;> rcases (by omega : b < 0 ∨ b = 0 ∨ 0 < b) with hb | hb | hb
  · rw [cmpZ_lt ha, cmpZ_lt hb, cmpZ_gt (Int.mul_pos_of_neg_of_neg ha hb)]; rfl
  · subst hb; rw [Int.mul_zero, cmpZ_eq (x := 0) rfl, Int.mul_zero]
  · rw [cmpZ_lt ha, cmpZ_gt hb, cmpZ_lt (Int.mul_neg_of_neg_of_pos ha hb)]; rfl
  · subst ha; rw [Int.zero_mul, cmpZ_eq (x := 0) rfl, Int.zero_mul]
  · subst ha; rw [Int.zero_mul, cmpZ_eq (x := 0) rfl, Int.zero_mul]
  · subst ha; rw [Int.zero_mul, cmpZ_eq (x := 0) rfl, Int.zero_mul]
  · rw [cmpZ_gt ha, cmpZ_lt hb, cmpZ_lt (Int.mul_neg_of_pos_of_neg ha hb)]; rfl
  · subst hb; rw [Int.mul_zero, cmpZ_eq (x := 0) rfl, Int.mul_zero]
  · rw [cmpZ_gt ha, cmpZ_gt hb, cmpZ_gt (Int.mul_pos ha hb)]; rfl
theorem cross_is (p q : Int) : (if cmpZ p 0 = cmpZ q 0 then cmpZ p 0 * cmpZ (p.natAbs : Int) (q.natAbs : Int) else cmpZ (cmpZ p 0) (cmpZ q 0)) = cmpZ p q := by
  rcases (by omega : p < 0 ∨ p = 0 ∨ 0 < p) with hp | hp | hp <;> rcases (by omega : q < 0 ∨ q = 0 ∨ 0 < q) with hq | hq | hq
  · rw [cmpZ_lt hp, cmpZ_lt hq, if_pos rfl]
    unfold cmpZ; (repeat' split) <;> omega
  · rw [cmpZ_lt hp, cmpZ_eq hq, if_neg (by decide), cmpZ_lt (x := p) (y := q) (by omega)]; rfl
  · rw [cmpZ_lt hp, cmpZ_gt hq, if_neg (by decide), cmpZ_lt (x := p) (y := q) (by omega)]; rfl
  · rw [cmpZ_eq hp, cmpZ_lt hq, if_neg (by decide), cmpZ_gt (x := p) (y := q) (by omega)]; rfl
  · rw [cmpZ_eq hp, cmpZ_eq hq, if_pos rfl, cmpZ_eq (x := p) (y := q) (by omega)]; omega
  · rw [cmpZ_eq hp, cmpZ_gt hq, if_neg (by decide), cmpZ_lt (x := p) (y := q) (by omega)]; rfl
  · rw [cmpZ_gt hp, cmpZ_lt hq, if_neg (by decide), cmpZ_gt (x := p) (y := q) (by omega)]; rfl
  · rw [cmpZ_gt hp, cmpZ_eq hq, if_neg (by decide), cmpZ_gt (x := p) (y := q) (by omega)]; rfl
  · rw [cmpZ_gt hp, cmpZ_gt hq, if_pos rfl]
    unfold cmpZ; (repeat' split) <;> omega
/-- The comparison of two products is what it says. -/
theorem crossZ_eq (a b c d : Int) : crossZ a b c d = cmpZ (a * b) (c * d) := by
  unfold crossZ
  rw [sgn_mul, sgn_mul, ← cross_is (a * b) (c * d), Int.natAbs_mul, Int.natAbs_mul, Int.natCast_mul, Int.natCast_mul]
theorem cmpZ_le {x y : Int} : cmpZ x y ≤ 0 ↔ x ≤ y := by unfold cmpZ; (repeat' split) <;> omega

end Go.Proofs.Ytchikndofpkjmaa

namespace Go.Proofs.Ytchikndofpkjmaa
open Go.RowKit

theorem add_v (x y : Int) (hx : In2 x) (hy : In2 y) (h : In2 (x + y)) (w : World) :
    Calls Try.prog 96 #[.agg #[.int .u64 (hiZ x), .int .u64 (loZ x)], .agg #[.int .u64 (hiZ y), .int .u64 (loZ y)]] w fun e w' => e = got2 (x + y) true ∧ Up w w' := by
  have g := add_up (hiZ x) (loZ x) (hiZ y) (loZ y) (hiZ_word hx) (loZ_word x) (hiZ_word hy) (loZ_word y) w
  rw [val_hilo, val_hilo, fit2_yes h, fits2_yes h] at g
  exact g
theorem sub_v (x y : Int) (hx : In2 x) (hy : In2 y) (h : In2 (x - y)) (w : World) :
    Calls Try.prog 98 #[.agg #[.int .u64 (hiZ x), .int .u64 (loZ x)], .agg #[.int .u64 (hiZ y), .int .u64 (loZ y)]] w fun e w' => e = got2 (x - y) true ∧ Up w w' := by
  have g := sub_up (hiZ x) (loZ x) (hiZ y) (loZ y) (hiZ_word hx) (loZ_word x) (hiZ_word hy) (loZ_word y) w
  rw [val_hilo, val_hilo, fit2_yes h, fits2_yes h] at g
  exact g
end Go.Proofs.Ytchikndofpkjmaa

namespace Go.Proofs.Ytchikndofpkjmaa

/-- An answer that is in order; a number that lies in it. -/
def bvB (a b c d e f : Int) : Bool := validB a b && (validB c d && (validB e f && (decide (cmpR a b c d ≤ 0) && decide (cmpR c d e f ≤ 0))))
def hoB (a b c d e f n m : Int) : Bool := bvB a b c d e f && (validB n m && (decide (cmpR a b n m ≤ 0) && decide (cmpR n m e f ≤ 0)))
theorem cmpR_val {n d m c : Int} (h : validB n d = true) (k : validB m c = true) : cmpR n d m c = cmpZ (n * c) (m * d) := by
  unfold cmpR; rw [h, k, crossZ_eq]; rfl
theorem le_of_cmpR {n d m c : Int} (h : validB n d = true) (k : validB m c = true) : cmpR n d m c ≤ 0 ↔ n * c ≤ m * d := by
  rw [cmpR_val h k]; exact cmpZ_le

theorem bvB_of {a b c d e f : Int} (h : bvB a b c d e f = true) : validB a b = true ∧ validB c d = true ∧ validB e f = true ∧ cmpR a b c d ≤ 0 ∧ cmpR c d e f ≤ 0 := by
  unfold bvB at h
  simp only [Bool.and_eq_true, decide_eq_true_eq] at h
  exact h
theorem bvB_mk {a b c d e f : Int} (h1 : validB a b = true) (h2 : validB c d = true) (h3 : validB e f = true) (h4 : cmpR a b c d ≤ 0) (h5 : cmpR c d e f ≤ 0) : bvB a b c d e f = true := by
  unfold bvB
  simp only [Bool.and_eq_true, decide_eq_true_eq]
  exact ⟨h1, h2, h3, h4, h5⟩
/-- The order of rational numbers is transitive. -/
theorem cmpR_trans {a b c d e f : Int} (h1 : validB a b = true) (h2 : validB c d = true) (h3 : validB e f = true) (x : cmpR a b c d ≤ 0) (y : cmpR c d e f ≤ 0) : cmpR a b e f ≤ 0 := by
  rw [le_of_cmpR h1 h2] at x
  rw [le_of_cmpR h2 h3] at y
  rw [le_of_cmpR h1 h3]
  have b1 := (validB_of h1).1
  have d1 := (validB_of h2).1
  have f1 := (validB_of h3).1
  have e1 : a * d * f ≤ c * b * f := Int.mul_le_mul_of_nonneg_right x (by omega)
  have e2 : c * f * b ≤ e * d * b := Int.mul_le_mul_of_nonneg_right y (by omega)
  have e3 : (a * f) * d ≤ (e * b) * d := by
    have t1 : a * d * f = (a * f) * d := by ac_rfl
    have t2 : c * b * f = c * f * b := by ac_rfl
    have t3 : e * d * b = (e * b) * d := by ac_rfl
    rw [t1, t2] at e1; rw [t3] at e2; omega
  exact Int.le_of_mul_le_mul_right e3 (by omega)
end Go.Proofs.Ytchikndofpkjmaa
