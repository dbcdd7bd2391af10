/- Texts of these claims, one after the other. -/
import Derived.Test.YtafkoddgefcpnaaRows
import Derived.Test.YtafkoddgefcpnaaZRValidq219
namespace Go.Proofs.Ytafkoddgefcpnaa
open Go.RowKit

/-! ### Comparisons -/
theorem cmpZ_bound (x y : Int) : -1 ≤ cmpZ x y ∧ cmpZ x y ≤ 1 := by unfold cmpZ; split; decide; split <;> decide
theorem nan_u64 (x : Int) (w : World) : Calls Try.prog 161 #[.int .u64 x] w fun e w' => e = .returned (.bool false) ∧ w = w' := by
  go_enter Try.func161, Try.ntmps161
  go_wp2
  go_ret
  exact ⟨by simp, rfl⟩
theorem cmp_u64 (x y : Int) (w : World) : Calls Try.prog 153 #[.int .u64 x, .int .u64 y] w fun e w' => e = .returned (.int .i64 (cmpZ x y)) ∧ w = w' := by
  by_cases hl : x < y
  · have t1 : decide (x < y) = true := decide_eq_true hl
    have H := Lib.hid (cmpZ_lt hl)
    clear hl
    go_enter Try.func153, Try.ntmps153
    go_wp2_with (refine (nan_u64 _ _).mono ?_; rintro e w' ⟨rfl, rfl⟩)
    go_ret
    exact ⟨by rw [H.out]; rfl, rfl⟩
  · have t1 : decide (x < y) = false := decide_eq_false hl
    by_cases hg : y < x
    · have t2 : decide (y < x) = true := decide_eq_true hg
      have H := Lib.hid (cmpZ_gt hg)
      clear hl hg
      go_enter Try.func153, Try.ntmps153
      go_wp2_with (refine (nan_u64 _ _).mono ?_; rintro e w' ⟨rfl, rfl⟩)
      go_ret
      exact ⟨by rw [H.out]; rfl, rfl⟩
    · have t2 : decide (y < x) = false := decide_eq_false hg
      have H := Lib.hid (cmpZ_eq (show x = y by omega))
      clear hl hg
      go_enter Try.func153, Try.ntmps153
      go_wp2_with (refine (nan_u64 _ _).mono ?_; rintro e w' ⟨rfl, rfl⟩)
      go_ret
      exact ⟨by rw [H.out]; rfl, rfl⟩

theorem nan_i64 (x : Int) (w : World) : Calls Try.prog 160 #[.int .i64 x] w fun e w' => e = .returned (.bool false) ∧ w = w' := by
  go_enter Try.func160, Try.ntmps160
  go_wp2
  go_ret
  exact ⟨by simp, rfl⟩
theorem cmp_i64 (x y : Int) (w : World) : Calls Try.prog 151 #[.int .i64 x, .int .i64 y] w fun e w' => e = .returned (.int .i64 (cmpZ x y)) ∧ w = w' := by
  by_cases hl : x < y
  · have t1 : decide (x < y) = true := decide_eq_true hl
    have H := Lib.hid (cmpZ_lt hl)
    clear hl
    go_enter Try.func151, Try.ntmps151
    go_wp2_with (refine (nan_i64 _ _).mono ?_; rintro e w' ⟨rfl, rfl⟩)
    go_ret
    exact ⟨by rw [H.out]; rfl, rfl⟩
  · have t1 : decide (x < y) = false := decide_eq_false hl
    by_cases hg : y < x
    · have t2 : decide (y < x) = true := decide_eq_true hg
      have H := Lib.hid (cmpZ_gt hg)
      clear hl hg
      go_enter Try.func151, Try.ntmps151
      go_wp2_with (refine (nan_i64 _ _).mono ?_; rintro e w' ⟨rfl, rfl⟩)
      go_ret
      exact ⟨by rw [H.out]; rfl, rfl⟩
    · have t2 : decide (y < x) = false := decide_eq_false hg
      have H := Lib.hid (cmpZ_eq (show x = y by omega))
      clear hl hg
      go_enter Try.func151, Try.ntmps151
      go_wp2_with (refine (nan_i64 _ _).mono ?_; rintro e w' ⟨rfl, rfl⟩)
      go_ret
      exact ⟨by rw [H.out]; rfl, rfl⟩

theorem nan_i64b (x : Int) (w : World) : Calls Try.prog 152 #[.int .i64 x] w fun e w' => e = .returned (.bool false) ∧ w = w' := by
  go_enter Try.func152, Try.ntmps152
  go_wp2
  go_ret
  exact ⟨by simp, rfl⟩
theorem cmp_i64b (x y : Int) (w : World) : Calls Try.prog 132 #[.int .i64 x, .int .i64 y] w fun e w' => e = .returned (.int .i64 (cmpZ x y)) ∧ w = w' := by
  by_cases hl : x < y
  · have t1 : decide (x < y) = true := decide_eq_true hl
    have H := Lib.hid (cmpZ_lt hl)
    clear hl
    go_enter Try.func132, Try.ntmps132
    go_wp2_with (refine (nan_i64b _ _).mono ?_; rintro e w' ⟨rfl, rfl⟩)
    go_ret
    exact ⟨by rw [H.out]; rfl, rfl⟩
  · have t1 : decide (x < y) = false := decide_eq_false hl
    by_cases hg : y < x
    · have t2 : decide (y < x) = true := decide_eq_true hg
      have H := Lib.hid (cmpZ_gt hg)
      clear hl hg
      go_enter Try.func132, Try.ntmps132
      go_wp2_with (refine (nan_i64b _ _).mono ?_; rintro e w' ⟨rfl, rfl⟩)
      go_ret
      exact ⟨by rw [H.out]; rfl, rfl⟩
    · have t2 : decide (y < x) = false := decide_eq_false hg
      have H := Lib.hid (cmpZ_eq (show x = y by omega))
      clear hl hg
      go_enter Try.func132, Try.ntmps132
      go_wp2_with (refine (nan_i64b _ _).mono ?_; rintro e w' ⟨rfl, rfl⟩)
      go_ret
      exact ⟨by rw [H.out]; rfl, rfl⟩

end Go.Proofs.Ytafkoddgefcpnaa

namespace Go.Proofs.Ytafkoddgefcpnaa
open Go.RowKit

theorem compare_up (ah al bh bl : Int) (_ : Word ah) (h2 : Word al) (_ : Word bh) (h4 : Word bl) (w : World) :
    Calls Try.prog 133 #[.agg #[.int .u64 ah, .int .u64 al], .agg #[.int .u64 bh, .int .u64 bl]] w fun e w' =>
      e = .returned (.int .i64 (cmpZ (val ah al) (val bh bl))) ∧ Up w w' := by
  by_cases ha : ah = bh
  · subst ha
    have H := Lib.hid (cmpZ_lo (ah := ah) (al := al) (bl := bl))
    by_cases hl : al = bl
    · subst hl
      have H2 := Lib.hid (cmpZ_eq (x := al) rfl)
      go_enter Try.func133, Try.ntmps133
      go_wp2
      go_ret
      refine ⟨by rw [H.out, H2.out]; rfl, ?_⟩
      repeat (first | exact Up.refl _ | refine Up.alloc ?_ _ _ | refine Up.setCell ?_ (by first | (simp; done) | (simp; omega) | omega) _ | refine Up.drewN ?_ _ | refine Up.drew ?_)
    · have t2 : (al == bl) = false := beq_eq_false_iff_ne.2 hl
      clear hl
      go_enter Try.func133, Try.ntmps133
      go_wp2_with (refine (cmp_u64 _ _ _).mono ?_; rintro e w' ⟨rfl, rfl⟩)
      go_ret
      refine ⟨by rw [H.out]; rfl, ?_⟩
      repeat (first | exact Up.refl _ | refine Up.alloc ?_ _ _ | refine Up.setCell ?_ (by first | (simp; done) | (simp; omega) | omega) _ | refine Up.drewN ?_ _ | refine Up.drew ?_)
  · have H := Lib.hid (cmpZ_hi h2 h4 ha)
    have t1 : (ah == bh) = false := beq_eq_false_iff_ne.2 ha
    have t2 : (ah != bh) = true := bne_iff_ne.2 ha
    clear ha
    go_enter Try.func133, Try.ntmps133
    go_wp2_with (refine (cmp_u64 _ _ _).mono ?_; rintro e w' ⟨rfl, rfl⟩)
    go_ret
    refine ⟨by rw [H.out]; rfl, ?_⟩
    repeat (first | exact Up.refl _ | refine Up.alloc ?_ _ _ | refine Up.setCell ?_ (by first | (simp; done) | (simp; omega) | omega) _ | refine Up.drewN ?_ _ | refine Up.drew ?_)

end Go.Proofs.Ytafkoddgefcpnaa

namespace Go.Proofs.Ytafkoddgefcpnaa
open Go.RowKit

/-! ### The comparison of two products -/
theorem mag_any (a : Int) (ha : In a) (w : World) :
    Calls Try.prog 134 #[.int .i64 a] w fun e w' => e = .returned (.int .u64 (a.natAbs : Int)) ∧ w = w' := by
  obtain ⟨a1, a2⟩ := ha
  by_cases hn : a < 0
  · have H : IntKind.u64.wrap (-IntKind.u64.wrap a) = (a.natAbs : Int) := by simp only [IntKind.wrap_u64]; omega
    go_enter Try.func134, Try.ntmps134
    go_wp2
    go_ret
    exact ⟨by rfl, rfl⟩
  · have H : IntKind.u64.wrap a = (a.natAbs : Int) := by simp only [IntKind.wrap_u64]; omega
    go_enter Try.func134, Try.ntmps134
    go_wp2
    go_ret
    exact ⟨by first | rfl | (simp only [Ending.returned.injEq, Value.int.injEq]; simp; done), rfl⟩
theorem sign_any (a : Int) (w : World) :
    Calls Try.prog 131 #[.int .i64 a] w fun e w' => e = .returned (.int .i64 (cmpZ a 0)) ∧ w = w' := by
  go_enter Try.func131, Try.ntmps131
  go_wp2_with (refine (cmp_i64 _ _ _).mono ?_; rintro e w' ⟨rfl, rfl⟩)
  go_ret
  exact ⟨rfl, rfl⟩
/-- -1, 0 or 1, as the product of a and b is to that of c and d. -/
def crossZ (a b c d : Int) : Int :=
  if cmpZ a 0 * cmpZ b 0 = cmpZ c 0 * cmpZ d 0 then cmpZ a 0 * cmpZ b 0 * cmpZ ((a.natAbs : Int) * (b.natAbs : Int)) ((c.natAbs : Int) * (d.natAbs : Int))
  else cmpZ (cmpZ a 0 * cmpZ b 0) (cmpZ c 0 * cmpZ d 0)
theorem unit_mul {x y : Int} (hx : -1 ≤ x ∧ x ≤ 1) (hy : -1 ≤ y ∧ y ≤ 1) : -1 ≤ x * y ∧ x * y ≤ 1 := by
  rcases (by omega : x = -1 ∨ x = 0 ∨ x = 1) with h | h | h <;> subst h <;> omega
theorem compare_v (x y : Int) (hx : In2 x) (hy : In2 y) (w : World) :
    Calls Try.prog 133 #[.agg #[.int .u64 (hiZ x), .int .u64 (loZ x)], .agg #[.int .u64 (hiZ y), .int .u64 (loZ y)]] w fun e w' => e = .returned (.int .i64 (cmpZ x y)) ∧ Up w w' := by
  have h := compare_up (hiZ x) (loZ x) (hiZ y) (loZ y) (hiZ_word hx) (loZ_word x) (hiZ_word hy) (loZ_word y) w
  rw [val_hilo, val_hilo] at h
  exact h
theorem cross_up (a b c d : Int) (ha : In a) (hb : In b) (hc : In c) (hd : In d) (w : World) :
    Calls Try.prog 96 #[.int .i64 a, .int .i64 b, .int .i64 c, .int .i64 d] w fun e w' => e = .returned (.int .i64 (crossZ a b c d)) ∧ Up w w' := by
  obtain ⟨p1, p2⟩ := unit_mul (cmpZ_bound a 0) (cmpZ_bound b 0)
  obtain ⟨q1, q2⟩ := unit_mul (cmpZ_bound c 0) (cmpZ_bound d 0)
  by_cases he : cmpZ a 0 * cmpZ b 0 = cmpZ c 0 * cmpZ d 0
  · have t : (cmpZ a 0 * cmpZ b 0 != cmpZ c 0 * cmpZ d 0) = false := bne_eq_false_iff_eq.2 he
    obtain ⟨r1, r2⟩ := unit_mul (unit_mul (cmpZ_bound a 0) (cmpZ_bound b 0)) (cmpZ_bound ((a.natAbs : Int) * (b.natAbs : Int)) ((c.natAbs : Int) * (d.natAbs : Int)))
    have H := Lib.hid (show crossZ a b c d = cmpZ a 0 * cmpZ b 0 * cmpZ ((a.natAbs : Int) * (b.natAbs : Int)) ((c.natAbs : Int) * (d.natAbs : Int)) from if_pos he)
    clear he
    go_enter Try.func96, Try.ntmps96
    go_wp2_with fail
    refine (sign_any a _).mono ?_
    rintro e w' ⟨rfl, rfl⟩
    go_wp2_with fail
    refine (sign_any b _).mono ?_
    rintro e w' ⟨rfl, rfl⟩
    go_wp2_with fail
    refine (sign_any c _).mono ?_
    rintro e w' ⟨rfl, rfl⟩
    go_wp2_with fail
    refine (sign_any d _).mono ?_
    rintro e w' ⟨rfl, rfl⟩
    go_wp2_with fail
    refine (mag_any a ha _).mono ?_
    rintro e w' ⟨rfl, rfl⟩
    go_wp2_with fail
    refine (mag_any b hb _).mono ?_
    rintro e w' ⟨rfl, rfl⟩
    go_wp2_with fail
    refine (product_up _ _ (abs_word ha) (abs_word hb) _).mono ?_
    rintro e w1 ⟨rfl, hu1⟩
    go_wp2_with fail
    refine (mag_any c hc _).mono ?_
    rintro e w' ⟨rfl, rfl⟩
    go_wp2_with fail
    refine (mag_any d hd _).mono ?_
    rintro e w' ⟨rfl, rfl⟩
    go_wp2_with fail
    refine (product_up _ _ (abs_word hc) (abs_word hd) _).mono ?_
    rintro e w2 ⟨rfl, hu2⟩
    go_wp2_with fail
    refine (compare_v _ _ (mul_word (abs_word ha) (abs_word hb)) (mul_word (abs_word hc) (abs_word hd)) _).mono ?_
    rintro e w3 ⟨rfl, hu3⟩
    go_wp2
    go_ret
    exact ⟨by rw [H.out]; rfl, (hu1.trans hu2).trans hu3⟩
  · have t : (cmpZ a 0 * cmpZ b 0 != cmpZ c 0 * cmpZ d 0) = true := bne_iff_ne.2 he
    have H := Lib.hid (show crossZ a b c d = cmpZ (cmpZ a 0 * cmpZ b 0) (cmpZ c 0 * cmpZ d 0) from if_neg he)
    clear he
    go_enter Try.func96, Try.ntmps96
    go_wp2_with fail
    refine (sign_any a _).mono ?_
    rintro e w' ⟨rfl, rfl⟩
    go_wp2_with fail
    refine (sign_any b _).mono ?_
    rintro e w' ⟨rfl, rfl⟩
    go_wp2_with fail
    refine (sign_any c _).mono ?_
    rintro e w' ⟨rfl, rfl⟩
    go_wp2_with fail
    refine (sign_any d _).mono ?_
    rintro e w' ⟨rfl, rfl⟩
    go_wp2_with fail
    refine (cmp_i64b _ _ _).mono ?_
    rintro e w' ⟨rfl, rfl⟩
    go_wp2
    go_ret
    exact ⟨by rw [H.out]; rfl, Up.refl _⟩

end Go.Proofs.Ytafkoddgefcpnaa

namespace Go.Proofs.Ytafkoddgefcpnaa

theorem sgn_mul (a b : Int) : cmpZ a 0 * cmpZ b 0 = cmpZ (a * b) 0 := by
  rcases (by omega : a < 0 ∨ a = 0 ∨ 0 < a) with ha | ha | ha <;> rcases (by omega : b < 0 ∨ b = 0 ∨ 0 < b) with hb | hb | hb
  · rw [cmpZ_lt ha, cmpZ_lt hb, cmpZ_gt (Int.mul_pos_of_neg_of_neg ha hb)]; rfl
  · subst hb; rw [Int.mul_zero, cmpZ_eq (x := 0) rfl, Int.mul_zero]
  · rw [cmpZ_lt ha, cmpZ_gt hb, cmpZ_lt (Int.mul_neg_of_neg_of_pos ha hb)]; rfl
  · subst ha; rw [Int.zero_mul, cmpZ_eq (x := 0) rfl, Int.zero_mul]
  · subst ha; rw [Int.zero_mul, cmpZ_eq (x := 0) rfl, Int.zero_mul]
  · subst ha; rw [Int.zero_mul, cmpZ_eq (x := 0) rfl, Int.zero_mul]
  · rw [cmpZ_gt ha, cmpZ_lt hb, cmpZ_lt (Int.mul_neg_of_pos_of_neg ha hb)]; rfl
  · subst hb; rw [Int.mul_zero, cmpZ_eq (x := 0) rfl, Int.mul_zero]
  · rw [cmpZ_gt ha, cmpZ_gt hb, cmpZ_gt (Int.mul_pos ha hb)]; rfl
theorem cross_is (p q : Int) : (if cmpZ p 0 = cmpZ q 0 then cmpZ p 0 * cmpZ (p.natAbs : Int) (q.natAbs : Int) else cmpZ (cmpZ p 0) (cmpZ q 0)) = cmpZ p q := by
  rcases (by omega : p < 0 ∨ p = 0 ∨ 0 < p) with hp | hp | hp <;> rcases (by omega : q < 0 ∨ q = 0 ∨ 0 < q) with hq | hq | hq
  · rw [cmpZ_lt hp, cmpZ_lt hq, if_pos rfl]
    unfold cmpZ; (repeat' split) <;> omega
  · rw [cmpZ_lt hp, cmpZ_eq hq, if_neg (by decide), cmpZ_lt (x := p) (y := q) (by omega)]; rfl
  · rw [cmpZ_lt hp, cmpZ_gt hq, if_neg (by decide), cmpZ_lt (x := p) (y := q) (by omega)]; rfl
  · rw [cmpZ_eq hp, cmpZ_lt hq, if_neg (by decide), cmpZ_gt (x := p) (y := q) (by omega)]; rfl
  · rw [cmpZ_eq hp, cmpZ_eq hq, if_pos rfl, cmpZ_eq (x := p) (y := q) (by omega)]; omega
  · rw [cmpZ_eq hp, cmpZ_gt hq, if_neg (by decide), cmpZ_lt (x := p) (y := q) (by omega)]; rfl
  · rw [cmpZ_gt hp, cmpZ_lt hq, if_neg (by decide), cmpZ_gt (x := p) (y := q) (by omega)]; rfl
  · rw [cmpZ_gt hp, cmpZ_eq hq, if_neg (by decide), cmpZ_gt (x := p) (y := q) (by omega)]; rfl
  · rw [cmpZ_gt hp, cmpZ_gt hq, if_pos rfl]
    unfold cmpZ; (repeat' split) <;> omega
/-- The comparison of two products is what it says. -/
theorem crossZ_eq (a b c d : Int) : crossZ a b c d = cmpZ (a * b) (c * d) := by
  unfold crossZ
  rw [sgn_mul, sgn_mul, ← cross_is (a * b) (c * d), Int.natAbs_mul, Int.natAbs_mul, Int.natCast_mul, Int.natCast_mul]
end Go.Proofs.Ytafkoddgefcpnaa
