/- Texts of these claims, one after the other. -/
import Derived.Test.YtjbgogajnjefmaaGreatZRInt
import Derived.Test.YtjbgogajnjefmaaGreatZRQuo
import Derived.Test.YtjbgogajnjefmaaGreatZRRed
import Derived.Test.YtjbgogajnjefmaaGreatZRValid
import Derived.Test.YtjbgogajnjefmaaGreatZWAdd
import Derived.Test.YtjbgogajnjefmaaGreatZWGcd
import Derived.Test.YtjbgogajnjefmaaGreatZWMathm8
import Derived.Test.YtjbgogajnjefmaaGreatZWMul
import Derived.Test.YtjbgogajnjefmaaGreatZWRDiv2
import Derived.Test.YtjbgogajnjefmaaGreatZWShortm3
namespace Go.Proofs.YtjbgogajnjefmaaGreat
open Go.RowKit

def cmpR (n d m c : Int) : Int := if (validB n d && validB m c) = true then crossZ n c m d else 0

theorem ofr_up (n : Int) (w : World) : Calls Tryz.prog 31 #[.int .i64 n] w fun e w' => e = .returned (.agg #[.int .i64 n, .int .i64 1]) ∧ Up w w' := by
  go_enter Tryz.func31, Tryz.ntmps31
  go_wp2
  refine bodyPost_ret (v := .agg #[.int .i64 n, .int .i64 1]) (by simp [results, Tryz.results31, go_sem]) rfl ⟨?_, ?_⟩
  · rfl
  · repeat (first | exact Up.refl _ | refine Up.alloc ?_ _ _ | refine Up.setCell ?_ (by first | (simp; done) | (simp; omega) | omega) _ | refine Up.drewN ?_ _ | refine Up.drew ?_)

theorem rofr_up (n : Int) (w : World) : Calls Tryz.prog 75 #[.int .i64 n] w fun e w' => e = .returned (.agg #[.int .i64 n, .int .i64 1]) ∧ Up w w' := by
  go_enter Tryz.func75, Tryz.ntmps75
  go_wp2
  refine bodyPost_ret (v := .agg #[.int .i64 n, .int .i64 1]) (by simp [results, Tryz.results75, go_sem]) rfl ⟨?_, ?_⟩
  · rfl
  · repeat (first | exact Up.refl _ | refine Up.alloc ?_ _ _ | refine Up.setCell ?_ (by first | (simp; done) | (simp; omega) | omega) _ | refine Up.drewN ?_ _ | refine Up.drew ?_)

theorem comparer_up (n d m c : Int) (hn : In n) (hd : In d) (hm : In m) (hc : In c) (w : World) :
    Calls Tryz.prog 61 #[.agg #[.int .i64 n, .int .i64 d], .agg #[.int .i64 m, .int .i64 c]] w fun e w' => e = .returned (.int .i64 (cmpR n d m c)) ∧ Up w w' := by
  have HV := Lib.hid (fun W => bothValid_up n d m c hn hd hm hc W)
  have HC := Lib.hid (fun W => cross_up n c m d hn hc hm hd W)
  have HR := Lib.hid (show cmpR n d m c = if (validB n d && validB m c) = true then crossZ n c m d else 0 from rfl)
  generalize cmpR n d m c = r at *
  generalize crossZ n c m d = q at *
  generalize (validB n d && validB m c) = v at *
  clear hn hd hm hc
  cases v
  · go_enter Tryz.func61, Tryz.ntmps61
    go_wp2_with fail
    refine (HV.out _).mono ?_
    rintro e w1 ⟨rfl, hu1⟩
    try unfold got2
    have c1_0 := hu1.keep (w.heap.size) (0) (.int .i64 n) (by simp [go_sem, *])
    have c1_1 := hu1.keep (w.heap.size) (1) (.int .i64 d) (by simp [go_sem, *])
    have c1_2 := hu1.keep (w.heap.size + 1) (0) (.int .i64 m) (by simp [go_sem, *])
    have c1_3 := hu1.keep (w.heap.size + 1) (1) (.int .i64 c) (by simp [go_sem, *])
    have l1_0 : w.heap.size < w1.heap.size := World.block_lt_of_cell? _ _ c1_0
    have m1_0 : w.heap.size < w1.heap.size + 1 := by omega
    have n1_0 : w.heap.size < w1.heap.size + 1 + 1 := by omega
    have x1_0 : ¬ w1.heap.size = w.heap.size := by omega
    have y1_0 : ¬ w1.heap.size + 1 = w.heap.size := by omega
    have l1_1 : w.heap.size + 1 < w1.heap.size := World.block_lt_of_cell? _ _ c1_2
    have m1_1 : w.heap.size + 1 < w1.heap.size + 1 := by omega
    have n1_1 : w.heap.size + 1 < w1.heap.size + 1 + 1 := by omega
    have x1_1 : ¬ w1.heap.size = w.heap.size + 1 := by omega
    have y1_1 : ¬ w1.heap.size + 1 = w.heap.size + 1 := by omega
    have HU1 : Hid (Up w w1) := Lib.hid (by ((repeat (first | (with_reducible exact Up.refl _) | (with_reducible refine Up.trans ?_ hu1) | (with_reducible refine Up.alloc ?_ _ _) | (with_reducible refine Up.setCell ?_ ?_ _) | (with_reducible refine Up.drewN ?_ _) | (with_reducible refine Up.drew ?_))); all_goals (first | (simp; done) | (simp; omega) | omega)))
    clear hu1
    go_wp2_with fail
    go_ret
    exact ⟨by rw [HR.out]; rfl, HU1.out⟩
  · go_enter Tryz.func61, Tryz.ntmps61
    go_wp2_with fail
    refine (HV.out _).mono ?_
    rintro e w1 ⟨rfl, hu1⟩
    try unfold got2
    have c1_0 := hu1.keep (w.heap.size) (0) (.int .i64 n) (by simp [go_sem, *])
    have c1_1 := hu1.keep (w.heap.size) (1) (.int .i64 d) (by simp [go_sem, *])
    have c1_2 := hu1.keep (w.heap.size + 1) (0) (.int .i64 m) (by simp [go_sem, *])
    have c1_3 := hu1.keep (w.heap.size + 1) (1) (.int .i64 c) (by simp [go_sem, *])
    have l1_0 : w.heap.size < w1.heap.size := World.block_lt_of_cell? _ _ c1_0
    have m1_0 : w.heap.size < w1.heap.size + 1 := by omega
    have n1_0 : w.heap.size < w1.heap.size + 1 + 1 := by omega
    have x1_0 : ¬ w1.heap.size = w.heap.size := by omega
    have y1_0 : ¬ w1.heap.size + 1 = w.heap.size := by omega
    have l1_1 : w.heap.size + 1 < w1.heap.size := World.block_lt_of_cell? _ _ c1_2
    have m1_1 : w.heap.size + 1 < w1.heap.size + 1 := by omega
    have n1_1 : w.heap.size + 1 < w1.heap.size + 1 + 1 := by omega
    have x1_1 : ¬ w1.heap.size = w.heap.size + 1 := by omega
    have y1_1 : ¬ w1.heap.size + 1 = w.heap.size + 1 := by omega
    have HU1 : Hid (Up w w1) := Lib.hid (by ((repeat (first | (with_reducible exact Up.refl _) | (with_reducible refine Up.trans ?_ hu1) | (with_reducible refine Up.alloc ?_ _ _) | (with_reducible refine Up.setCell ?_ ?_ _) | (with_reducible refine Up.drewN ?_ _) | (with_reducible refine Up.drew ?_))); all_goals (first | (simp; done) | (simp; omega) | omega)))
    clear hu1
    go_wp2_with fail
    refine (HC.out _).mono ?_
    rintro e w2 ⟨rfl, hu2⟩
    try unfold got2
    have HU2 : Hid (Up w w2) := Lib.hid (by ((repeat (first | (with_reducible exact Up.refl _) | (with_reducible exact HU1.out) | (with_reducible refine Up.trans ?_ hu2) | (with_reducible refine Up.alloc ?_ _ _) | (with_reducible refine Up.setCell ?_ ?_ _) | (with_reducible refine Up.drewN ?_ _) | (with_reducible refine Up.drew ?_))); all_goals (first | (simp; done) | (simp; omega) | omega)))
    clear hu2 c1_0 c1_1 c1_2 c1_3
    go_wp2_with fail
    go_ret
    exact ⟨by rw [HR.out]; rfl, HU2.out⟩

theorem rcomparer_up (n d m c : Int) (hn : In n) (hd : In d) (hm : In m) (hc : In c) (w : World) :
    Calls Tryz.prog 43 #[.agg #[.int .i64 n, .int .i64 d], .agg #[.int .i64 m, .int .i64 c]] w fun e w' => e = .returned (.int .i64 (cmpR n d m c)) ∧ Up w w' := by
  have HV := Lib.hid (fun W => rvalid_up n d hn hd W)
  have HW := Lib.hid (fun W => rvalid_up m c hm hc W)
  have HC := Lib.hid (fun W => rcross_up n c m d hn hc hm hd W)
  have HR := Lib.hid (show cmpR n d m c = if (validB n d && validB m c) = true then crossZ n c m d else 0 from rfl)
  generalize cmpR n d m c = r at *
  generalize crossZ n c m d = q at *
  generalize validB n d = v at *
  generalize validB m c = u at *
  clear hn hd hm hc
  cases v
  · go_enter Tryz.func43, Tryz.ntmps43
    go_wp2_with fail
    refine (HV.out _).mono ?_
    rintro e w1 ⟨rfl, hu1⟩
    try unfold got2
    have c1_0 := hu1.keep (w.heap.size) (0) (.int .i64 n) (by simp [go_sem, *])
    have c1_1 := hu1.keep (w.heap.size) (1) (.int .i64 d) (by simp [go_sem, *])
    have c1_2 := hu1.keep (w.heap.size + 1) (0) (.int .i64 m) (by simp [go_sem, *])
    have c1_3 := hu1.keep (w.heap.size + 1) (1) (.int .i64 c) (by simp [go_sem, *])
    have l1_0 : w.heap.size < w1.heap.size := World.block_lt_of_cell? _ _ c1_0
    have m1_0 : w.heap.size < w1.heap.size + 1 := by omega
    have n1_0 : w.heap.size < w1.heap.size + 1 + 1 := by omega
    have x1_0 : ¬ w1.heap.size = w.heap.size := by omega
    have y1_0 : ¬ w1.heap.size + 1 = w.heap.size := by omega
    have l1_1 : w.heap.size + 1 < w1.heap.size := World.block_lt_of_cell? _ _ c1_2
    have m1_1 : w.heap.size + 1 < w1.heap.size + 1 := by omega
    have n1_1 : w.heap.size + 1 < w1.heap.size + 1 + 1 := by omega
    have x1_1 : ¬ w1.heap.size = w.heap.size + 1 := by omega
    have y1_1 : ¬ w1.heap.size + 1 = w.heap.size + 1 := by omega
    have HU1 : Hid (Up w w1) := Lib.hid (by ((repeat (first | (with_reducible exact Up.refl _) | (with_reducible refine Up.trans ?_ hu1) | (with_reducible refine Up.alloc ?_ _ _) | (with_reducible refine Up.setCell ?_ ?_ _) | (with_reducible refine Up.drewN ?_ _) | (with_reducible refine Up.drew ?_))); all_goals (first | (simp; done) | (simp; omega) | omega)))
    clear hu1
    go_wp2_with fail
    go_ret
    exact ⟨by rw [HR.out]; rfl, HU1.out⟩
  · cases u
    · go_enter Tryz.func43, Tryz.ntmps43
      go_wp2_with fail
      refine (HV.out _).mono ?_
      rintro e w1 ⟨rfl, hu1⟩
      try unfold got2
      have c1_0 := hu1.keep (w.heap.size) (0) (.int .i64 n) (by simp [go_sem, *])
      have c1_1 := hu1.keep (w.heap.size) (1) (.int .i64 d) (by simp [go_sem, *])
      have c1_2 := hu1.keep (w.heap.size + 1) (0) (.int .i64 m) (by simp [go_sem, *])
      have c1_3 := hu1.keep (w.heap.size + 1) (1) (.int .i64 c) (by simp [go_sem, *])
      have l1_0 : w.heap.size < w1.heap.size := World.block_lt_of_cell? _ _ c1_0
      have m1_0 : w.heap.size < w1.heap.size + 1 := by omega
      have n1_0 : w.heap.size < w1.heap.size + 1 + 1 := by omega
      have x1_0 : ¬ w1.heap.size = w.heap.size := by omega
      have y1_0 : ¬ w1.heap.size + 1 = w.heap.size := by omega
      have l1_1 : w.heap.size + 1 < w1.heap.size := World.block_lt_of_cell? _ _ c1_2
      have m1_1 : w.heap.size + 1 < w1.heap.size + 1 := by omega
      have n1_1 : w.heap.size + 1 < w1.heap.size + 1 + 1 := by omega
      have x1_1 : ¬ w1.heap.size = w.heap.size + 1 := by omega
      have y1_1 : ¬ w1.heap.size + 1 = w.heap.size + 1 := by omega
      have HU1 : Hid (Up w w1) := Lib.hid (by ((repeat (first | (with_reducible exact Up.refl _) | (with_reducible refine Up.trans ?_ hu1) | (with_reducible refine Up.alloc ?_ _ _) | (with_reducible refine Up.setCell ?_ ?_ _) | (with_reducible refine Up.drewN ?_ _) | (with_reducible refine Up.drew ?_))); all_goals (first | (simp; done) | (simp; omega) | omega)))
      clear hu1
      go_wp2_with fail
      refine (HW.out _).mono ?_
      rintro e w2 ⟨rfl, hu2⟩
      try unfold got2
      have c2_0 := hu2.keep (w.heap.size) (0) (.int .i64 n) (by simp [go_sem, *])
      have c2_1 := hu2.keep (w.heap.size) (1) (.int .i64 d) (by simp [go_sem, *])
      have c2_2 := hu2.keep (w.heap.size + 1) (0) (.int .i64 m) (by simp [go_sem, *])
      have c2_3 := hu2.keep (w.heap.size + 1) (1) (.int .i64 c) (by simp [go_sem, *])
      have l2_0 : w.heap.size < w2.heap.size := World.block_lt_of_cell? _ _ c2_0
      have m2_0 : w.heap.size < w2.heap.size + 1 := by omega
      have n2_0 : w.heap.size < w2.heap.size + 1 + 1 := by omega
      have x2_0 : ¬ w2.heap.size = w.heap.size := by omega
      have y2_0 : ¬ w2.heap.size + 1 = w.heap.size := by omega
      have l2_1 : w.heap.size + 1 < w2.heap.size := World.block_lt_of_cell? _ _ c2_2
      have m2_1 : w.heap.size + 1 < w2.heap.size + 1 := by omega
      have n2_1 : w.heap.size + 1 < w2.heap.size + 1 + 1 := by omega
      have x2_1 : ¬ w2.heap.size = w.heap.size + 1 := by omega
      have y2_1 : ¬ w2.heap.size + 1 = w.heap.size + 1 := by omega
      have HU2 : Hid (Up w w2) := Lib.hid (by ((repeat (first | (with_reducible exact Up.refl _) | (with_reducible exact HU1.out) | (with_reducible refine Up.trans ?_ hu2) | (with_reducible refine Up.alloc ?_ _ _) | (with_reducible refine Up.setCell ?_ ?_ _) | (with_reducible refine Up.drewN ?_ _) | (with_reducible refine Up.drew ?_))); all_goals (first | (simp; done) | (simp; omega) | omega)))
      clear hu2 c1_0 c1_1 c1_2 c1_3
      go_wp2_with fail
      go_ret
      exact ⟨by rw [HR.out]; rfl, HU2.out⟩
    · go_enter Tryz.func43, Tryz.ntmps43
      go_wp2_with fail
      refine (HV.out _).mono ?_
      rintro e w1 ⟨rfl, hu1⟩
      try unfold got2
      have c1_0 := hu1.keep (w.heap.size) (0) (.int .i64 n) (by simp [go_sem, *])
      have c1_1 := hu1.keep (w.heap.size) (1) (.int .i64 d) (by simp [go_sem, *])
      have c1_2 := hu1.keep (w.heap.size + 1) (0) (.int .i64 m) (by simp [go_sem, *])
      have c1_3 := hu1.keep (w.heap.size + 1) (1) (.int .i64 c) (by simp [go_sem, *])
      have l1_0 : w.heap.size < w1.heap.size := World.block_lt_of_cell? _ _ c1_0
      have m1_0 : w.heap.size < w1.heap.size + 1 := by omega
      have n1_0 : w.heap.size < w1.heap.size + 1 + 1 := by omega
      have x1_0 : ¬ w1.heap.size = w.heap.size := by omega
      have y1_0 : ¬ w1.heap.size + 1 = w.heap.size := by omega
      have l1_1 : w.heap.size + 1 < w1.heap.size := World.block_lt_of_cell? _ _ c1_2
      have m1_1 : w.heap.size + 1 < w1.heap.size + 1 := by omega
      have n1_1 : w.heap.size + 1 < w1.heap.size + 1 + 1 := by omega
      have x1_1 : ¬ w1.heap.size = w.heap.size + 1 := by omega
      have y1_1 : ¬ w1.heap.size + 1 = w.heap.size + 1 := by omega
      have HU1 : Hid (Up w w1) := Lib.hid (by ((repeat (first | (with_reducible exact Up.refl _) | (with_reducible refine Up.trans ?_ hu1) | (with_reducible refine Up.alloc ?_ _ _) | (with_reducible refine Up.setCell ?_ ?_ _) | (with_reducible refine Up.drewN ?_ _) | (with_reducible refine Up.drew ?_))); all_goals (first | (simp; done) | (simp; omega) | omega)))
      clear hu1
      go_wp2_with fail
      refine (HW.out _).mono ?_
      rintro e w2 ⟨rfl, hu2⟩
      try unfold got2
      have c2_0 := hu2.keep (w.heap.size) (0) (.int .i64 n) (by simp [go_sem, *])
      have c2_1 := hu2.keep (w.heap.size) (1) (.int .i64 d) (by simp [go_sem, *])
      have c2_2 := hu2.keep (w.heap.size + 1) (0) (.int .i64 m) (by simp [go_sem, *])
      have c2_3 := hu2.keep (w.heap.size + 1) (1) (.int .i64 c) (by simp [go_sem, *])
      have l2_0 : w.heap.size < w2.heap.size := World.block_lt_of_cell? _ _ c2_0
      have m2_0 : w.heap.size < w2.heap.size + 1 := by omega
      have n2_0 : w.heap.size < w2.heap.size + 1 + 1 := by omega
      have x2_0 : ¬ w2.heap.size = w.heap.size := by omega
      have y2_0 : ¬ w2.heap.size + 1 = w.heap.size := by omega
      have l2_1 : w.heap.size + 1 < w2.heap.size := World.block_lt_of_cell? _ _ c2_2
      have m2_1 : w.heap.size + 1 < w2.heap.size + 1 := by omega
      have n2_1 : w.heap.size + 1 < w2.heap.size + 1 + 1 := by omega
      have x2_1 : ¬ w2.heap.size = w.heap.size + 1 := by omega
      have y2_1 : ¬ w2.heap.size + 1 = w.heap.size + 1 := by omega
      have HU2 : Hid (Up w w2) := Lib.hid (by ((repeat (first | (with_reducible exact Up.refl _) | (with_reducible exact HU1.out) | (with_reducible refine Up.trans ?_ hu2) | (with_reducible refine Up.alloc ?_ _ _) | (with_reducible refine Up.setCell ?_ ?_ _) | (with_reducible refine Up.drewN ?_ _) | (with_reducible refine Up.drew ?_))); all_goals (first | (simp; done) | (simp; omega) | omega)))
      clear hu2 c1_0 c1_1 c1_2 c1_3
      go_wp2_with fail
      refine (HC.out _).mono ?_
      rintro e w3 ⟨rfl, hu3⟩
      try unfold got2
      have HU3 : Hid (Up w w3) := Lib.hid (by ((repeat (first | (with_reducible exact Up.refl _) | (with_reducible exact HU2.out) | (with_reducible refine Up.trans ?_ hu3) | (with_reducible refine Up.alloc ?_ _ _) | (with_reducible refine Up.setCell ?_ ?_ _) | (with_reducible refine Up.drewN ?_ _) | (with_reducible refine Up.drew ?_))); all_goals (first | (simp; done) | (simp; omega) | omega)))
      clear hu3 c2_0 c2_1 c2_2 c2_3
      go_wp2_with fail
      go_ret
      exact ⟨by rw [HR.out]; rfl, HU3.out⟩

end Go.Proofs.YtjbgogajnjefmaaGreat

namespace Go.Proofs.YtjbgogajnjefmaaGreat

theorem sgn_mul (a b : Int) : cmpZ a 0 * cmpZ b 0 = cmpZ (a * b) 0 := by
  rcases (by omega : a < 0 ∨ a = 0 ∨ 0 < a) with ha | ha | ha <;> rcases (by omega : b < 0 ∨ b = 0 ∨ 0 < b) with hb | hb | hb
  · rw [cmpZ_lt ha, cmpZ_lt hb, cmpZ_gt (Int.mul_pos_of_neg_of_neg ha hb)]; rfl
  · subst hb; rw [Int.mul_zero, cmpZ_eq (x := 0) rfl, Int.mul_zero]
  · rw [cmpZ_lt ha, cmpZ_gt hb, cmpZ_lt (Int.mul_neg_of_neg_of_pos ha hb)]; rfl
  · subst ha; rw [Int.zero_mul, cmpZ_eq (x := 0) rfl, Int.zero_mul]
  · subst ha; rw [Int.zero_mul, cmpZ_eq (x := 0) rfl, Int.zero_mul]
  · subst ha; rw [Int.zero_mul, cmpZ_eq (x := 0) rfl, Int.zero_mul]
  · rw [cmpZ_gt ha, cmpZ_lt hb, cmpZ_lt (Int.mul_neg_of_pos_of_neg ha hb)]; rfl
  · subst hb; rw [Int.mul_zero, cmpZ_eq (x := 0) rfl, Int.mul_zero]
  · rw [cmpZ_gt ha, cmpZ_gt hb, cmpZ_gt (Int.mul_pos ha hb)]; rfl
theorem cross_is (p q : Int) : (if cmpZ p 0 = cmpZ q 0 then cmpZ p 0 * cmpZ (p.natAbs : Int) (q.natAbs : Int) else cmpZ (cmpZ p 0) (cmpZ q 0)) = cmpZ p q := by
  rcases (by omega : p < 0 ∨ p = 0 ∨ 0 < p) with hp | hp | hp <;> rcases (by omega : q < 0 ∨ q = 0 ∨ 0 < q) with hq | hq | hq
  · rw [cmpZ_lt hp, cmpZ_lt hq, if_pos rfl]
    unfold cmpZ; (repeat' split) <;> omega
  · rw [cmpZ_lt hp, cmpZ_eq hq, if_neg (by decide), cmpZ_lt (x := p) (y := q) (by omega)]; rfl
  · rw [cmpZ_lt hp, cmpZ_gt hq, if_neg (by decide), cmpZ_lt (x := p) (y := q) (by omega)]; rfl
  · rw [cmpZ_eq hp, cmpZ_lt hq, if_neg (by decide), cmpZ_gt (x := p) (y := q) (by omega)]; rfl
  · rw [cmpZ_eq hp, cmpZ_eq hq, if_pos rfl, cmpZ_eq (x := p) (y := q) (by omega)]; omega
  · rw [cmpZ_eq hp, cmpZ_gt hq, if_neg (by decide), cmpZ_lt (x := p) (y := q) (by omega)]; rfl
  · rw [cmpZ_gt hp, cmpZ_lt hq, if_neg (by decide), cmpZ_gt (x := p) (y := q) (by omega)]; rfl
  · rw [cmpZ_gt hp, cmpZ_eq hq, if_neg (by decide), cmpZ_gt (x := p) (y := q) (by omega)]; rfl
  · rw [cmpZ_gt hp, cmpZ_gt hq, if_pos rfl]
    unfold cmpZ; (repeat' split) <;> omega
/-- The comparison of two products is what it says. -/
theorem crossZ_eq (a b c d : Int) : crossZ a b c d = cmpZ (a * b) (c * d) := by
  unfold crossZ
  rw [sgn_mul, sgn_mul, ← cross_is (a * b) (c * d), Int.natAbs_mul, Int.natAbs_mul, Int.natCast_mul, Int.natCast_mul]
theorem cmpZ_le {x y : Int} : cmpZ x y ≤ 0 ↔ x ≤ y := by unfold cmpZ; (repeat' split) <;> omega

end Go.Proofs.YtjbgogajnjefmaaGreat

namespace Go.Proofs.YtjbgogajnjefmaaGreat
open Go.RowKit

theorem quo_same {p q p' q' : Int} (h : q ≠ 0) (h' : q' ≠ 0) (e : p * q' = p' * q) : quoN p q = quoN p' q' ∧ quoD p q = quoD p' q' ∧ quoB p q = quoB p' q' := by
  have e1 := quo_eq (p := p') h'
  obtain ⟨u1, u2⟩ := quo_uniq h (quoQ_pos (p := p') h') (quo_coprime (p := p') h') (show p * quoQ p' q' = quoP p' q' * q by
    have : q' * (p * quoQ p' q') = q' * (quoP p' q' * q) := by
      have t1 : q' * (p * quoQ p' q') = p * q' * quoQ p' q' := by ac_rfl
      have t2 : q' * (quoP p' q' * q) = quoP p' q' * q' * q := by ac_rfl
      rw [t1, t2, e1, e]
      ac_rfl
    exact Int.eq_of_mul_eq_mul_left h' this)
  have hB : quoB p q = quoB p' q' := by unfold quoB; rw [u1, u2, decide_eq_true h, decide_eq_true h']
  refine ⟨?_, ?_, hB⟩
  · unfold quoN; rw [hB, u1]
  · unfold quoD; rw [hB, u2]

theorem quot_up (s t : Bool) (x y : Int) (hx : In2 x) (hy : In2 y) (w : World) :
    Calls Tryz.prog 35 #[.agg #[.bool s, .int .u64 (hiZ x), .int .u64 (loZ x)], .agg #[.bool t, .int .u64 (hiZ y), .int .u64 (loZ y)]] w fun e w' =>
      e = gotR (quoN (sz s x) (sz t y)) (quoD (sz s x) (sz t y)) (quoB (sz s x) (sz t y)) ∧ Up w w' := by
  by_cases h0 : y = 0
  · subst h0
    have hz : sz t 0 = 0 := by cases t <;> rfl
    rw [hz, (quo_zero _).1, (quo_zero _).2.1, (quo_zero _).2.2]
    exact quot_zero s t x w
  · exact quot_pos s t x y hx hy h0 w

theorem abs_prod {a b : Int} (ha : In a) (hb : In b) : 0 ≤ (a.natAbs : Int) * (b.natAbs : Int) ∧ (a.natAbs : Int) * (b.natAbs : Int) ≤ 85070591730234615865843651857942052864 := by
  obtain ⟨a1, a2⟩ := ha; obtain ⟨b1, b2⟩ := hb
  refine ⟨Int.mul_nonneg (by omega) (by omega), ?_⟩
  have h : (a.natAbs : Int) * (b.natAbs : Int) ≤ 9223372036854775808 * 9223372036854775808 := Int.mul_le_mul (by omega) (by omega) (by omega) (by omega)
  exact h
/-- A product of two int64 numbers as a sign and a magnitude. -/
theorem prod_v (a b : Int) (ha : In a) (hb : In b) : ∃ (s : Bool) (x : Int), In2 x ∧ x ≤ 85070591730234615865843651857942052864 ∧ sz s x = a * b ∧
    ∀ w, Calls Tryz.prog 37 #[.int .i64 a, .int .i64 b] w fun e w' => e = .returned (.agg #[.bool s, .int .u64 (hiZ x), .int .u64 (loZ x)]) ∧ Up w w' := by
  obtain ⟨h1, h2⟩ := abs_prod ha hb
  exact ⟨_, _, ⟨h1, by omega⟩, h2, sz_prod a b, fun w => prod_up a b ha hb w⟩

/-- The reference's way to the quotient of two numbers. -/
theorem red_v (s : Bool) (x y p q : Int) (hx : In2 x) (hy : In2 y) (h0 : y ≠ 0) (hq : q ≠ 0) (e : sz s x * q = p * y) (w : World) :
    Calls Tryz.prog 47 #[.bool s, .agg #[.int .u64 (hiZ x), .int .u64 (loZ x)], .agg #[.int .u64 (hiZ y), .int .u64 (loZ y)]] w fun e w' => e = gotR (quoN p q) (quoD p q) (quoB p q) ∧ Up w w' := by
  have h := red_up s x y hx hy h0 w
  obtain ⟨e1, e2, e3⟩ := quo_same h0 hq e
  rw [e1, e2, e3] at h
  exact h

end Go.Proofs.YtjbgogajnjefmaaGreat
