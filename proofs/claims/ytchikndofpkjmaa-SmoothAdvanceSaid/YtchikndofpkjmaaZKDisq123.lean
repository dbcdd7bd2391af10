/- Package smooth: nearness, validDistances, Validate. -/
import Derived.Test.YtchikndofpkjmaaRows
import Derived.Test.YtchikndofpkjmaaZKValq120
namespace Go.Proofs.Ytchikndofpkjmaa
open Go.RowKit
set_option linter.unusedVariables false

theorem keepK8 {w w1 w2 : World} {b0 o0 b1 o1 b2 o2 b3 o3 b4 o4 b5 o5 b6 o6 b7 o7 : Nat} {x0 x1 x2 x3 x4 x5 x6 x7 : Value} (hu : Hid (Up w1 w2)) (h : Up w w1 ∧ w1.cell? ⟨b0, o0, none⟩ = some x0 ∧ w1.cell? ⟨b1, o1, none⟩ = some x1 ∧ w1.cell? ⟨b2, o2, none⟩ = some x2 ∧ w1.cell? ⟨b3, o3, none⟩ = some x3 ∧ w1.cell? ⟨b4, o4, none⟩ = some x4 ∧ w1.cell? ⟨b5, o5, none⟩ = some x5 ∧ w1.cell? ⟨b6, o6, none⟩ = some x6 ∧ w1.cell? ⟨b7, o7, none⟩ = some x7) : Up w w2 ∧ w2.cell? ⟨b0, o0, none⟩ = some x0 ∧ w2.cell? ⟨b1, o1, none⟩ = some x1 ∧ w2.cell? ⟨b2, o2, none⟩ = some x2 ∧ w2.cell? ⟨b3, o3, none⟩ = some x3 ∧ w2.cell? ⟨b4, o4, none⟩ = some x4 ∧ w2.cell? ⟨b5, o5, none⟩ = some x5 ∧ w2.cell? ⟨b6, o6, none⟩ = some x6 ∧ w2.cell? ⟨b7, o7, none⟩ = some x7 :=
  ⟨h.1.trans hu.out, hu.out.keep _ _ _ h.2.1, hu.out.keep _ _ _ h.2.2.1, hu.out.keep _ _ _ h.2.2.2.1, hu.out.keep _ _ _ h.2.2.2.2.1, hu.out.keep _ _ _ h.2.2.2.2.2.1, hu.out.keep _ _ _ h.2.2.2.2.2.2.1, hu.out.keep _ _ _ h.2.2.2.2.2.2.2.1, hu.out.keep _ _ _ h.2.2.2.2.2.2.2.2⟩
theorem keepK22 {w w1 w2 : World} {b0 o0 b1 o1 b2 o2 b3 o3 b4 o4 b5 o5 b6 o6 b7 o7 b8 o8 b9 o9 b10 o10 b11 o11 b12 o12 b13 o13 b14 o14 b15 o15 b16 o16 b17 o17 b18 o18 b19 o19 b20 o20 b21 o21 : Nat} {x0 x1 x2 x3 x4 x5 x6 x7 x8 x9 x10 x11 x12 x13 x14 x15 x16 x17 x18 x19 x20 x21 : Value} (hu : Hid (Up w1 w2)) (h : Up w w1 ∧ w1.cell? ⟨b0, o0, none⟩ = some x0 ∧ w1.cell? ⟨b1, o1, none⟩ = some x1 ∧ w1.cell? ⟨b2, o2, none⟩ = some x2 ∧ w1.cell? ⟨b3, o3, none⟩ = some x3 ∧ w1.cell? ⟨b4, o4, none⟩ = some x4 ∧ w1.cell? ⟨b5, o5, none⟩ = some x5 ∧ w1.cell? ⟨b6, o6, none⟩ = some x6 ∧ w1.cell? ⟨b7, o7, none⟩ = some x7 ∧ w1.cell? ⟨b8, o8, none⟩ = some x8 ∧ w1.cell? ⟨b9, o9, none⟩ = some x9 ∧ w1.cell? ⟨b10, o10, none⟩ = some x10 ∧ w1.cell? ⟨b11, o11, none⟩ = some x11 ∧ w1.cell? ⟨b12, o12, none⟩ = some x12 ∧ w1.cell? ⟨b13, o13, none⟩ = some x13 ∧ w1.cell? ⟨b14, o14, none⟩ = some x14 ∧ w1.cell? ⟨b15, o15, none⟩ = some x15 ∧ w1.cell? ⟨b16, o16, none⟩ = some x16 ∧ w1.cell? ⟨b17, o17, none⟩ = some x17 ∧ w1.cell? ⟨b18, o18, none⟩ = some x18 ∧ w1.cell? ⟨b19, o19, none⟩ = some x19 ∧ w1.cell? ⟨b20, o20, none⟩ = some x20 ∧ w1.cell? ⟨b21, o21, none⟩ = some x21) : Up w w2 ∧ w2.cell? ⟨b0, o0, none⟩ = some x0 ∧ w2.cell? ⟨b1, o1, none⟩ = some x1 ∧ w2.cell? ⟨b2, o2, none⟩ = some x2 ∧ w2.cell? ⟨b3, o3, none⟩ = some x3 ∧ w2.cell? ⟨b4, o4, none⟩ = some x4 ∧ w2.cell? ⟨b5, o5, none⟩ = some x5 ∧ w2.cell? ⟨b6, o6, none⟩ = some x6 ∧ w2.cell? ⟨b7, o7, none⟩ = some x7 ∧ w2.cell? ⟨b8, o8, none⟩ = some x8 ∧ w2.cell? ⟨b9, o9, none⟩ = some x9 ∧ w2.cell? ⟨b10, o10, none⟩ = some x10 ∧ w2.cell? ⟨b11, o11, none⟩ = some x11 ∧ w2.cell? ⟨b12, o12, none⟩ = some x12 ∧ w2.cell? ⟨b13, o13, none⟩ = some x13 ∧ w2.cell? ⟨b14, o14, none⟩ = some x14 ∧ w2.cell? ⟨b15, o15, none⟩ = some x15 ∧ w2.cell? ⟨b16, o16, none⟩ = some x16 ∧ w2.cell? ⟨b17, o17, none⟩ = some x17 ∧ w2.cell? ⟨b18, o18, none⟩ = some x18 ∧ w2.cell? ⟨b19, o19, none⟩ = some x19 ∧ w2.cell? ⟨b20, o20, none⟩ = some x20 ∧ w2.cell? ⟨b21, o21, none⟩ = some x21 :=
  ⟨h.1.trans hu.out, hu.out.keep _ _ _ h.2.1, hu.out.keep _ _ _ h.2.2.1, hu.out.keep _ _ _ h.2.2.2.1, hu.out.keep _ _ _ h.2.2.2.2.1, hu.out.keep _ _ _ h.2.2.2.2.2.1, hu.out.keep _ _ _ h.2.2.2.2.2.2.1, hu.out.keep _ _ _ h.2.2.2.2.2.2.2.1, hu.out.keep _ _ _ h.2.2.2.2.2.2.2.2.1, hu.out.keep _ _ _ h.2.2.2.2.2.2.2.2.2.1, hu.out.keep _ _ _ h.2.2.2.2.2.2.2.2.2.2.1, hu.out.keep _ _ _ h.2.2.2.2.2.2.2.2.2.2.2.1, hu.out.keep _ _ _ h.2.2.2.2.2.2.2.2.2.2.2.2.1, hu.out.keep _ _ _ h.2.2.2.2.2.2.2.2.2.2.2.2.2.1, hu.out.keep _ _ _ h.2.2.2.2.2.2.2.2.2.2.2.2.2.2.1, hu.out.keep _ _ _ h.2.2.2.2.2.2.2.2.2.2.2.2.2.2.2.1, hu.out.keep _ _ _ h.2.2.2.2.2.2.2.2.2.2.2.2.2.2.2.2.1, hu.out.keep _ _ _ h.2.2.2.2.2.2.2.2.2.2.2.2.2.2.2.2.2.1, hu.out.keep _ _ _ h.2.2.2.2.2.2.2.2.2.2.2.2.2.2.2.2.2.2.1, hu.out.keep _ _ _ h.2.2.2.2.2.2.2.2.2.2.2.2.2.2.2.2.2.2.2.1, hu.out.keep _ _ _ h.2.2.2.2.2.2.2.2.2.2.2.2.2.2.2.2.2.2.2.2.1, hu.out.keep _ _ _ h.2.2.2.2.2.2.2.2.2.2.2.2.2.2.2.2.2.2.2.2.2.1, hu.out.keep _ _ _ h.2.2.2.2.2.2.2.2.2.2.2.2.2.2.2.2.2.2.2.2.2.2⟩
theorem near_in {k y : Int} (hk : 1 ≤ k ∧ k ≤ 64) (h1 : -1152921504606846976 ≤ y * 65) (h2 : y * 65 ≤ 1152921504606846976) : (-1152921504606846976 ≤ k * y ∧ k * y ≤ 1152921504606846976) ∧ (-1152921504606846976 ≤ (k + 1) * y ∧ (k + 1) * y ≤ 1152921504606846976) := by
  rcases Int.le_total 0 y with h | h
  · have a1 := Int.mul_le_mul_of_nonneg_right (show k ≤ 65 by omega) h
    have a2 := Int.mul_le_mul_of_nonneg_right (show k + 1 ≤ 65 by omega) h
    have a3 : 0 ≤ k * y := Int.mul_nonneg (by omega) h
    have a4 : 0 ≤ (k + 1) * y := Int.mul_nonneg (by omega) h
    omega
  · have a1 := Int.mul_le_mul_of_nonpos_right (show k ≤ 65 by omega) h
    have a2 := Int.mul_le_mul_of_nonpos_right (show k + 1 ≤ 65 by omega) h
    have a3 : k * y ≤ 0 := Int.mul_nonpos_of_nonneg_of_nonpos (by omega) h
    have a4 : (k + 1) * y ≤ 0 := Int.mul_nonpos_of_nonneg_of_nonpos (by omega) h
    omega
theorem bdM_of {g : Int} {m : Mrk} (h : bdM m) : (-1152921504606846976 ≤ ofZ g m * 65 ∧ ofZ g m * 65 ≤ 1152921504606846976) ∧ In m.lo ∧ In m.hi := by
  obtain ⟨h1, h2, h3, h4, h5, h6⟩ := h
  refine ⟨?_, ⟨by omega, by omega⟩, ⟨by omega, by omega⟩⟩
  unfold ofZ
  repeat' split
  all_goals omega

/-- So great at most that what is close can be asked. -/
def bdG (g : Int) (m : Mrk) : Prop := (-1152921504606846976 ≤ ofZ g m * 65 ∧ ofZ g m * 65 ≤ 1152921504606846976) ∧ In m.lo ∧ In m.hi
set_option maxHeartbeats 4000000 in
set_option maxRecDepth 100000 in
theorem nearC_up (b1 a1 : Nat) (k g : Int) (sq t nn s qq lo hi sq2 t2 nn2 s2 qq2 lo2 hi2 : Int) (hk : 1 ≤ k ∧ k ≤ 64) (h1 : bdG g ⟨sq, t, nn, s, qq, lo, hi⟩) (h2 : bdG g ⟨sq2, t2, nn2, s2, qq2, lo2, hi2⟩) (w : World) (hb : w.cell? ⟨b1, 0, none⟩ = some (.int .i64 k)) (ha : w.cell? ⟨a1, 0, none⟩ = some (.int .i64 g)) :
    Calls Try.prog 85 #[.agg #[.int .i64 sq, .int .i64 t, .int .i64 nn, .int .i64 s, .int .i64 qq, .int .i64 lo, .int .i64 hi], .agg #[.int .i64 sq2, .int .i64 t2, .int .i64 nn2, .int .i64 s2, .int .i64 qq2, .int .i64 lo2, .int .i64 hi2], .pointer (some ⟨b1, 0, none⟩), .pointer (some ⟨a1, 0, none⟩)] w fun e w' => e = .returned (.bool (clM g k ⟨sq, t, nn, s, qq, lo, hi⟩ ⟨sq2, t2, nn2, s2, qq2, lo2, hi2⟩)) ∧ Up w w' := by
  obtain ⟨⟨x1, x2⟩, x3, x4⟩ := h1
  obtain ⟨⟨y1, y2⟩, y3, y4⟩ := h2
  simp only at x3 x4 y3 y4
  have K1 := Lib.hid (of13_up g sq t nn s qq lo hi x3 x4)
  have K2 := Lib.hid (of13_up g sq2 t2 nn2 s2 qq2 lo2 hi2 y3 y4)
  unfold clM
  have Z1 := near_in hk x1 x2
  have Z2 := near_in hk y1 y2
  clear x1 x2 x3 x4 y1 y2 y3 y4
  generalize ofZ g ⟨sq, t, nn, s, qq, lo, hi⟩ = x at *
  generalize ofZ g ⟨sq2, t2, nn2, s2, qq2, lo2, hi2⟩ = y at *
  obtain ⟨⟨z1, z2⟩, _⟩ := Z1
  obtain ⟨_, ⟨z3, z4⟩⟩ := Z2
  obtain ⟨k1, k2⟩ := hk
  have y1 : IntKind.i64.wrap (k + 1) = k + 1 := by rw [IntKind.wrap_i64]; omega
  have y2 : IntKind.i64.wrap (k * x) = k * x := by rw [IntKind.wrap_i64]; omega
  have y3 : IntKind.i64.wrap ((k + 1) * y) = (k + 1) * y := by rw [IntKind.wrap_i64]; omega
  have HU := Lib.hid (((Up.refl w).alloc #[.int .i64 sq, .int .i64 t, .int .i64 nn, .int .i64 s, .int .i64 qq, .int .i64 lo, .int .i64 hi] 23).alloc #[.int .i64 sq2, .int .i64 t2, .int .i64 nn2, .int .i64 s2, .int .i64 qq2, .int .i64 lo2, .int .i64 hi2] 23)
  have HSS : Hid (Up w ((w.alloc (.cells #[.int .i64 sq, .int .i64 t, .int .i64 nn, .int .i64 s, .int .i64 qq, .int .i64 lo, .int .i64 hi] 23)).alloc (.cells #[.int .i64 sq2, .int .i64 t2, .int .i64 nn2, .int .i64 s2, .int .i64 qq2, .int .i64 lo2, .int .i64 hi2] 23)) ∧ ((w.alloc (.cells #[.int .i64 sq, .int .i64 t, .int .i64 nn, .int .i64 s, .int .i64 qq, .int .i64 lo, .int .i64 hi] 23)).alloc (.cells #[.int .i64 sq2, .int .i64 t2, .int .i64 nn2, .int .i64 s2, .int .i64 qq2, .int .i64 lo2, .int .i64 hi2] 23)).cell? ⟨b1, 0, none⟩ = some (.int .i64 k) ∧ ((w.alloc (.cells #[.int .i64 sq, .int .i64 t, .int .i64 nn, .int .i64 s, .int .i64 qq, .int .i64 lo, .int .i64 hi] 23)).alloc (.cells #[.int .i64 sq2, .int .i64 t2, .int .i64 nn2, .int .i64 s2, .int .i64 qq2, .int .i64 lo2, .int .i64 hi2] 23)).cell? ⟨a1, 0, none⟩ = some (.int .i64 g) ∧ ((w.alloc (.cells #[.int .i64 sq, .int .i64 t, .int .i64 nn, .int .i64 s, .int .i64 qq, .int .i64 lo, .int .i64 hi] 23)).alloc (.cells #[.int .i64 sq2, .int .i64 t2, .int .i64 nn2, .int .i64 s2, .int .i64 qq2, .int .i64 lo2, .int .i64 hi2] 23)).cell? ⟨w.heap.size, 0, none⟩ = some (.int .i64 sq) ∧ ((w.alloc (.cells #[.int .i64 sq, .int .i64 t, .int .i64 nn, .int .i64 s, .int .i64 qq, .int .i64 lo, .int .i64 hi] 23)).alloc (.cells #[.int .i64 sq2, .int .i64 t2, .int .i64 nn2, .int .i64 s2, .int .i64 qq2, .int .i64 lo2, .int .i64 hi2] 23)).cell? ⟨w.heap.size, 1, none⟩ = some (.int .i64 t) ∧ ((w.alloc (.cells #[.int .i64 sq, .int .i64 t, .int .i64 nn, .int .i64 s, .int .i64 qq, .int .i64 lo, .int .i64 hi] 23)).alloc (.cells #[.int .i64 sq2, .int .i64 t2, .int .i64 nn2, .int .i64 s2, .int .i64 qq2, .int .i64 lo2, .int .i64 hi2] 23)).cell? ⟨w.heap.size, 2, none⟩ = some (.int .i64 nn) ∧ ((w.alloc (.cells #[.int .i64 sq, .int .i64 t, .int .i64 nn, .int .i64 s, .int .i64 qq, .int .i64 lo, .int .i64 hi] 23)).alloc (.cells #[.int .i64 sq2, .int .i64 t2, .int .i64 nn2, .int .i64 s2, .int .i64 qq2, .int .i64 lo2, .int .i64 hi2] 23)).cell? ⟨w.heap.size, 3, none⟩ = some (.int .i64 s) ∧ ((w.alloc (.cells #[.int .i64 sq, .int .i64 t, .int .i64 nn, .int .i64 s, .int .i64 qq, .int .i64 lo, .int .i64 hi] 23)).alloc (.cells #[.int .i64 sq2, .int .i64 t2, .int .i64 nn2, .int .i64 s2, .int .i64 qq2, .int .i64 lo2, .int .i64 hi2] 23)).cell? ⟨w.heap.size, 4, none⟩ = some (.int .i64 qq) ∧ ((w.alloc (.cells #[.int .i64 sq, .int .i64 t, .int .i64 nn, .int .i64 s, .int .i64 qq, .int .i64 lo, .int .i64 hi] 23)).alloc (.cells #[.int .i64 sq2, .int .i64 t2, .int .i64 nn2, .int .i64 s2, .int .i64 qq2, .int .i64 lo2, .int .i64 hi2] 23)).cell? ⟨w.heap.size, 5, none⟩ = some (.int .i64 lo) ∧ ((w.alloc (.cells #[.int .i64 sq, .int .i64 t, .int .i64 nn, .int .i64 s, .int .i64 qq, .int .i64 lo, .int .i64 hi] 23)).alloc (.cells #[.int .i64 sq2, .int .i64 t2, .int .i64 nn2, .int .i64 s2, .int .i64 qq2, .int .i64 lo2, .int .i64 hi2] 23)).cell? ⟨w.heap.size, 6, none⟩ = some (.int .i64 hi) ∧ ((w.alloc (.cells #[.int .i64 sq, .int .i64 t, .int .i64 nn, .int .i64 s, .int .i64 qq, .int .i64 lo, .int .i64 hi] 23)).alloc (.cells #[.int .i64 sq2, .int .i64 t2, .int .i64 nn2, .int .i64 s2, .int .i64 qq2, .int .i64 lo2, .int .i64 hi2] 23)).cell? ⟨(w.heap.size + 1), 0, none⟩ = some (.int .i64 sq2) ∧ ((w.alloc (.cells #[.int .i64 sq, .int .i64 t, .int .i64 nn, .int .i64 s, .int .i64 qq, .int .i64 lo, .int .i64 hi] 23)).alloc (.cells #[.int .i64 sq2, .int .i64 t2, .int .i64 nn2, .int .i64 s2, .int .i64 qq2, .int .i64 lo2, .int .i64 hi2] 23)).cell? ⟨(w.heap.size + 1), 1, none⟩ = some (.int .i64 t2) ∧ ((w.alloc (.cells #[.int .i64 sq, .int .i64 t, .int .i64 nn, .int .i64 s, .int .i64 qq, .int .i64 lo, .int .i64 hi] 23)).alloc (.cells #[.int .i64 sq2, .int .i64 t2, .int .i64 nn2, .int .i64 s2, .int .i64 qq2, .int .i64 lo2, .int .i64 hi2] 23)).cell? ⟨(w.heap.size + 1), 2, none⟩ = some (.int .i64 nn2) ∧ ((w.alloc (.cells #[.int .i64 sq, .int .i64 t, .int .i64 nn, .int .i64 s, .int .i64 qq, .int .i64 lo, .int .i64 hi] 23)).alloc (.cells #[.int .i64 sq2, .int .i64 t2, .int .i64 nn2, .int .i64 s2, .int .i64 qq2, .int .i64 lo2, .int .i64 hi2] 23)).cell? ⟨(w.heap.size + 1), 3, none⟩ = some (.int .i64 s2) ∧ ((w.alloc (.cells #[.int .i64 sq, .int .i64 t, .int .i64 nn, .int .i64 s, .int .i64 qq, .int .i64 lo, .int .i64 hi] 23)).alloc (.cells #[.int .i64 sq2, .int .i64 t2, .int .i64 nn2, .int .i64 s2, .int .i64 qq2, .int .i64 lo2, .int .i64 hi2] 23)).cell? ⟨(w.heap.size + 1), 4, none⟩ = some (.int .i64 qq2) ∧ ((w.alloc (.cells #[.int .i64 sq, .int .i64 t, .int .i64 nn, .int .i64 s, .int .i64 qq, .int .i64 lo, .int .i64 hi] 23)).alloc (.cells #[.int .i64 sq2, .int .i64 t2, .int .i64 nn2, .int .i64 s2, .int .i64 qq2, .int .i64 lo2, .int .i64 hi2] 23)).cell? ⟨(w.heap.size + 1), 5, none⟩ = some (.int .i64 lo2) ∧ ((w.alloc (.cells #[.int .i64 sq, .int .i64 t, .int .i64 nn, .int .i64 s, .int .i64 qq, .int .i64 lo, .int .i64 hi] 23)).alloc (.cells #[.int .i64 sq2, .int .i64 t2, .int .i64 nn2, .int .i64 s2, .int .i64 qq2, .int .i64 lo2, .int .i64 hi2] 23)).cell? ⟨(w.heap.size + 1), 6, none⟩ = some (.int .i64 hi2)) := Lib.hid ⟨HU.out, HU.out.keep _ _ _ hb, HU.out.keep _ _ _ ha, by simp [go_sem], by simp [go_sem], by simp [go_sem], by simp [go_sem], by simp [go_sem], by simp [go_sem], by simp [go_sem], by simp [go_sem], by simp [go_sem], by simp [go_sem], by simp [go_sem], by simp [go_sem], by simp [go_sem], by simp [go_sem]⟩
  clear ha hb
  go_enter Try.func85, Try.ntmps85
  go_wp2_with fail
  refine wp_region_held_drew (S := fun w' => Up w w' ∧ w'.cell? ⟨b1, 0, none⟩ = some (.int .i64 k) ∧ w'.cell? ⟨a1, 0, none⟩ = some (.int .i64 g) ∧ w'.cell? ⟨w.heap.size, 0, none⟩ = some (.int .i64 sq) ∧ w'.cell? ⟨w.heap.size, 1, none⟩ = some (.int .i64 t) ∧ w'.cell? ⟨w.heap.size, 2, none⟩ = some (.int .i64 nn) ∧ w'.cell? ⟨w.heap.size, 3, none⟩ = some (.int .i64 s) ∧ w'.cell? ⟨w.heap.size, 4, none⟩ = some (.int .i64 qq) ∧ w'.cell? ⟨w.heap.size, 5, none⟩ = some (.int .i64 lo) ∧ w'.cell? ⟨w.heap.size, 6, none⟩ = some (.int .i64 hi) ∧ w'.cell? ⟨(w.heap.size + 1), 0, none⟩ = some (.int .i64 sq2) ∧ w'.cell? ⟨(w.heap.size + 1), 1, none⟩ = some (.int .i64 t2) ∧ w'.cell? ⟨(w.heap.size + 1), 2, none⟩ = some (.int .i64 nn2) ∧ w'.cell? ⟨(w.heap.size + 1), 3, none⟩ = some (.int .i64 s2) ∧ w'.cell? ⟨(w.heap.size + 1), 4, none⟩ = some (.int .i64 qq2) ∧ w'.cell? ⟨(w.heap.size + 1), 5, none⟩ = some (.int .i64 lo2) ∧ w'.cell? ⟨(w.heap.size + 1), 6, none⟩ = some (.int .i64 hi2)) (by kernel_rfl) ?hB114 (fun hHeld => ?_)
  case hB114 => (first | (with_reducible assumption) | (with_reducible exact keepK16 (Lib.hid (Up.refl _).drew) HSS.out) | (with_reducible exact HX2.out) | (with_reducible exact HX3.out))
  refine wpAnyH_take (i := 0) (oi := ⟨_, _, _, _, _, _⟩) (v := ?v115) rfl (by kernel_rfl) (by kernel_rfl) (by kernel_rfl) (fun _ _ _ h => h) (Or.inl ⟨by rfl, ?hy115⟩) (by assumption) ?_
  case hy115 => (intro w hSw; (try dsimp only at hSw); go_simp; (try (with_reducible rfl)))
  (try simp only [Act.put, List.setIfInBounds_toArray, List.set_cons_zero, List.set_cons_succ])
  refine wpAnyH_take (i := 1) (oi := ⟨_, _, _, _, _, _⟩) (v := ?v116) rfl (by kernel_rfl) (by kernel_rfl) (by kernel_rfl) (fun _ _ _ h => h) (Or.inl ⟨by rfl, ?hy116⟩) (by assumption) ?_
  case hy116 => (intro w hSw; (try dsimp only at hSw); go_simp; (try (with_reducible rfl)))
  (try simp only [Act.put, List.setIfInBounds_toArray, List.set_cons_zero, List.set_cons_succ])
  refine wpAnyH_take (i := 2) (oi := ⟨_, _, _, _, _, _⟩) (v := ?v117) rfl (by kernel_rfl) (by kernel_rfl) (by kernel_rfl) (fun _ _ _ h => h) (Or.inl ⟨by rfl, ?hy117⟩) (by assumption) ?_
  case hy117 => (intro w hSw; (try dsimp only at hSw); go_simp; (try (with_reducible rfl)))
  (try simp only [Act.put, List.setIfInBounds_toArray, List.set_cons_zero, List.set_cons_succ])
  refine wpAnyH_take (i := 3) (oi := ⟨_, _, _, _, _, _⟩) (v := ?v118) rfl (by kernel_rfl) (by kernel_rfl) (by kernel_rfl) (fun _ _ _ h => h) (Or.inl ⟨by rfl, ?hy118⟩) (by assumption) ?_
  case hy118 => (intro w hSw; (try dsimp only at hSw); go_simp; (try (with_reducible rfl)))
  (try simp only [Act.put, List.setIfInBounds_toArray, List.set_cons_zero, List.set_cons_succ])
  refine wpAnyH_take (i := 6) (oi := ⟨_, _, _, _, _, _⟩) (v := ?v119) rfl (by kernel_rfl) (by kernel_rfl) (by kernel_rfl) (fun _ _ _ h => h) (Or.inl ⟨by rfl, ?hy119⟩) (by assumption) ?_
  case hy119 => (intro w hSw; (try dsimp only at hSw); go_simp; (try (with_reducible rfl)))
  (try simp only [Act.put, List.setIfInBounds_toArray, List.set_cons_zero, List.set_cons_succ])
  refine wpAnyH_take (i := 7) (oi := ⟨_, _, _, _, _, _⟩) (v := ?v120) rfl (by kernel_rfl) (by kernel_rfl) (by kernel_rfl) (fun _ _ _ h => h) (Or.inl ⟨by rfl, ?hy120⟩) (by assumption) ?_
  case hy120 => (intro w hSw; (try dsimp only at hSw); go_simp; (try (with_reducible rfl)))
  (try simp only [Act.put, List.setIfInBounds_toArray, List.set_cons_zero, List.set_cons_succ])
  refine wpAnyH_take (i := 8) (oi := ⟨_, _, _, _, _, _⟩) (v := ?v121) rfl (by kernel_rfl) (by kernel_rfl) (by kernel_rfl) (fun _ _ _ h => h) (Or.inl ⟨by rfl, ?hy121⟩) (by assumption) ?_
  case hy121 => (intro w hSw; (try dsimp only at hSw); go_simp; (try (with_reducible rfl)))
  (try simp only [Act.put, List.setIfInBounds_toArray, List.set_cons_zero, List.set_cons_succ])
  refine wpAnyH_ready (rs := [4]) (by kernel_rfl) (by simp) ?_
  refine AllReadyH.cons (o := ⟨_, _, _, _, _, _⟩) rfl (fun K hK => ?_) AllReadyH.nil
  go_simp
  (go_at_call 13; (with_reducible refine (K2.out _).mono ?_); rintro e w2 ⟨rfl, hu⟩; have HU2 := Lib.hid hu; have HX2 := Lib.hid (keepK16 HU2 hHeld); clear hu)
  (try go_wp2_with fail)
  refine hK.out _ _ ?hB122 (fun hHeld => ?_)
  case hB122 => (first | (with_reducible assumption) | (with_reducible exact keepK16 (Lib.hid (Up.refl _).drew) HSS.out) | (with_reducible exact HX2.out) | (with_reducible exact HX3.out))
  clear hK K
  (try simp only [Act.put, List.setIfInBounds_toArray, List.set_cons_zero, List.set_cons_succ])
  refine wpAnyH_take (i := 5) (oi := ⟨_, _, _, _, _, _⟩) (v := ?v123) rfl (by kernel_rfl) (by kernel_rfl) (by kernel_rfl) (fun _ _ _ h => h) (Or.inl ⟨by rfl, ?hy123⟩) (by assumption) ?_
  case hy123 => (intro w hSw; (try dsimp only at hSw); go_simp; (try (with_reducible rfl)))
  (try simp only [Act.put, List.setIfInBounds_toArray, List.set_cons_zero, List.set_cons_succ])
  refine wpAnyH_ready (rs := [9]) (by kernel_rfl) (by simp) ?_
  refine AllReadyH.cons (o := ⟨_, _, _, _, _, _⟩) rfl (fun K hK => ?_) AllReadyH.nil
  go_simp
  (go_at_call 13; (with_reducible refine (K1.out _).mono ?_); rintro e w3 ⟨rfl, hu⟩; have HU3 := Lib.hid hu; have HX3 := Lib.hid (keepK16 HU3 hHeld); clear hu)
  (try go_wp2_with fail)
  refine hK.out _ _ ?hB124 (fun hHeld => ?_)
  case hB124 => (first | (with_reducible assumption) | (with_reducible exact keepK16 (Lib.hid (Up.refl _).drew) HSS.out) | (with_reducible exact HX2.out) | (with_reducible exact HX3.out))
  clear hK K
  (try simp only [Act.put, List.setIfInBounds_toArray, List.set_cons_zero, List.set_cons_succ])
  refine wpAnyH_take (i := 10) (oi := ⟨_, _, _, _, _, _⟩) (v := ?v125) rfl (by kernel_rfl) (by kernel_rfl) (by kernel_rfl) (fun _ _ _ h => h) (Or.inl ⟨by rfl, ?hy125⟩) (by assumption) ?_
  case hy125 => (intro w hSw; (try dsimp only at hSw); go_simp; (try (with_reducible rfl)))
  (try simp only [Act.put, List.setIfInBounds_toArray, List.set_cons_zero, List.set_cons_succ])
  refine wpAnyH_take (i := 11) (oi := ⟨_, _, _, _, _, _⟩) (v := ?v126) rfl (by kernel_rfl) (by kernel_rfl) (by kernel_rfl) (fun _ _ _ h => h) (Or.inl ⟨by rfl, ?hy126⟩) (by assumption) ?_
  case hy126 => (intro w hSw; (try dsimp only at hSw); go_simp; (try (with_reducible rfl)))
  (try simp only [Act.put, List.setIfInBounds_toArray, List.set_cons_zero, List.set_cons_succ])
  refine wpAnyH_take (i := 12) (oi := ⟨_, _, _, _, _, _⟩) (v := ?v127) rfl (by kernel_rfl) (by kernel_rfl) (by kernel_rfl) (fun _ _ _ h => h) (Or.inl ⟨by rfl, ?hy127⟩) (by assumption) ?_
  case hy127 => (intro w hSw; (try dsimp only at hSw); go_simp; (try (with_reducible rfl)))
  (try simp only [Act.put, List.setIfInBounds_toArray, List.set_cons_zero, List.set_cons_succ])
  refine wpAnyH_done (by kernel_rfl) ?_ _
  go_wp2_with fail
  go_ret
  exact ⟨rfl, HX3.out.1⟩

theorem nearness_up (g k : Int) (w : World) :
    Calls Try.prog 57 #[.int .i64 g, .int .i64 k] w fun e w' => ∃ a1 b1 : Nat, e = .returned (.func (.func 85) #[] #[.pointer (some ⟨b1, 0, none⟩), .pointer (some ⟨a1, 0, none⟩)]) ∧ Up w w' ∧ w'.cell? ⟨b1, 0, none⟩ = some (.int .i64 k) ∧ w'.cell? ⟨a1, 0, none⟩ = some (.int .i64 g) := by
  have hmf : ∀ (fn : Fn) (first cap : Array Value) (w : World), (Instr.makeFunc fn first cap).run Try.prog w = .ok (.func fn first cap) w := fun _ _ _ _ => rfl
  go_enter Try.func57, Try.ntmps57
  go_wp2_with fail
  go_ret
  exact ⟨w.heap.size, w.heap.size + 1, rfl, ((Up.refl w).alloc _ _).alloc _ _, by simp [go_sem], by simp [go_sem]⟩

set_option maxHeartbeats 4000000 in
set_option maxRecDepth 100000 in
theorem validDistances_up (g v q c now seq : Int) (n k : Nat) (A : Option Addr) (X : List Mrk) (hm : mayM g v q c now = true) (hX : mrkB g v c now seq X = true) (hn : n ≤ 50000) (w : World) (hS : SG cM w A n X) :
    Calls Try.prog 48 #[.agg #[.int .i64 g, .int .i64 v, .int .i64 q, .int .i64 c, .int .i64 now, .int .i64 seq, .slice A n k]] w fun e w' => e = .returned (.bool (adB g q X)) ∧ Up w w' := by
  have HL := Lib.hid hS.1
  have HS := Lib.hid hS
  obtain ⟨hg, hm2⟩ := mayM_true hm
  obtain ⟨g1, g2, hc, g4⟩ := mayC_facts hm2
  obtain ⟨hs2, hok⟩ := mrkB_true hX
  have hq : 1 ≤ q ∧ q ≤ 64 := by
    unfold mayC at hm2
    rw [Bool.and_eq_true] at hm2
    exact of_decide_eq_true hm2.2
  have HD : Hid (∀ j, j < n → bdM (X.getD j mk0)) := Lib.hid (fun j hj => (hok j (by rw [HL.out]; exact hj)).bd hc.2 hs2.2)
  have HB := Lib.hid (fun j (hj : j < n) (h : ¬ adP g q X j) => adB_bad (X := X) (by rw [HL.out]; exact hj) h)
  have HT : Hid ((∀ j, j < n → adP g q X j) → adB g q X = true) := Lib.hid (fun h => decide_eq_true (by rw [HL.out]; exact h))
  generalize adB g q X = r at *
  have KN := Lib.hid (nearness_up g q)
  clear hS hm hm2 g1 g2 g4 hok hX hs2
  go_enter Try.func48, Try.ntmps48
  go_wp2_with (go_at_call 57; (with_reducible refine (KN.out _).mono ?_); rintro e w1 ⟨a1, b1, rfl, hu, cb, ca⟩; have HU1 := Lib.hid (((Up.refl w).alloc _ _).trans hu); have CB := Lib.hid cb; have CA := Lib.hid ca; have f6 := hu.keep w.heap.size 6 (.slice A n k) (by simp [go_sem]); clear hu ca cb)
  have KC := Lib.hid (fun P M (h1 : bdM P) (h2 : bdM M) W (h : Up w1 W) => nearC_up b1 a1 q g P.sq P.t P.n P.s P.q P.lo P.hi M.sq M.t M.n M.s M.q M.lo M.hi hq (bdM_of (g := g) h1) (bdM_of (g := g) h2) W (h.keep _ _ _ CB.out) (h.keep _ _ _ CA.out))
  have HS1 := Lib.hid (HS.out.up HU1.out)
  clear HS CA CB
  go_loopw [14] (fun t wr => ∃ i : Nat, t = .int .i64 i ∧ i ≤ n ∧ Hid (∀ j, j < i → adP g q X j) ∧ Hid (Up w1 wr ∧ wr.cell? ⟨w.heap.size, 6, none⟩ = some (.slice A n k))) (fun t _ => n - (intOf t).toNat)
  case atStart => exact ⟨0, rfl, Nat.zero_le _, Lib.hid (fun j hj => absurd hj (Nat.not_lt_zero _)), Lib.hid ⟨Up.refl _, f6⟩⟩
  case round =>
    clear f6
    obtain ⟨i, rfl, hin, HG, HW⟩ := hrel
    obtain ⟨u7, f6⟩ := HW.out
    by_cases hi' : i < n
    · have HSr := Lib.hid (HS1.out.up u7)
      obtain ⟨b, o, rfl, d0, d1, d2, d3, d4, d5, d6⟩ := mrk_at HSr.out mk0 hi'
      have HX : Hid (1 < i → clM g q (X.getD (i - 2) mk0) (X.getD i mk0) = true → r = false) := Lib.hid (fun h0 h => HB.out i hi' (fun hk => by have := hk.1 h0; have := of_decide_eq_true h; omega))
      have HY : Hid (0 < i → (X.getD (i - 1) mk0).sq + 1 < (X.getD i mk0).sq → clM g q (X.getD (i - 1) mk0) (X.getD i mk0) = false → r = false) := Lib.hid (fun h0 h1 h => HB.out i hi' (fun hk => by have := hk.2 h0 h1; have := of_decide_eq_false h; omega))
      have HA1 : Hid ((1 < i → clM g q (X.getD (i - 2) mk0) (X.getD i mk0) = false) → (0 < i → (X.getD (i - 1) mk0).sq + 1 < (X.getD i mk0).sq → clM g q (X.getD (i - 1) mk0) (X.getD i mk0) = true) → ∀ j, j < i + 1 → adP g q X j) := Lib.hid (fun h1 h2 j hj => by
        rcases Nat.lt_or_ge j i with x | x
        · exact HG.out j x
        · obtain rfl : j = i := by omega
          exact ⟨fun h => by have := of_decide_eq_false (h1 h); omega, fun h h' => of_decide_eq_true (h2 h h')⟩)
      have HDi := Lib.hid (HD.out i hi')
      have HDp : Hid (0 < i → bdM (X.getD (i - 1) mk0)) := Lib.hid (fun h => HD.out _ (by omega))
      have HDq : Hid (1 < i → bdM (X.getD (i - 2) mk0)) := Lib.hid (fun h => HD.out _ (by omega))
      have Hp : Hid (0 < i → i - 1 < n) := Lib.hid (fun h => by omega)
      have Hq : Hid (1 < i → i - 2 < n) := Lib.hid (fun h => by omega)
      have HPc := Lib.hid (fun h : 0 < i => mrk_prev HSr.out (Hp.out h))
      have HQc := Lib.hid (fun h : 1 < i => mrk_prev HSr.out (Hq.out h))
      generalize X.getD (i - 2) mk0 = Q0 at *
      generalize X.getD (i - 1) mk0 = P0 at *
      generalize X.getD i mk0 = M at *
      obtain ⟨sq, t, nn, s, qq, lo, hi⟩ := M
      obtain ⟨sq1, t1, nn1, s1, qq1, lo1, hi1⟩ := P0
      obtain ⟨sq2, t2, nn2, s2, qq2, lo2, hi2⟩ := Q0
      simp only at d0 d1 d2 d3 d4 d5 d6 HY HA1 HPc HQc
      have f20 : (i : Int) < n := by omega
      have f30 : (0 : Int) ≤ i := by omega
      have HSS : Hid (Up w1 (wr.alloc (.cells #[.int .i64 sq, .int .i64 t, .int .i64 nn, .int .i64 s, .int .i64 qq, .int .i64 lo, .int .i64 hi] 23)) ∧ (wr.alloc (.cells #[.int .i64 sq, .int .i64 t, .int .i64 nn, .int .i64 s, .int .i64 qq, .int .i64 lo, .int .i64 hi] 23)).cell? ⟨w.heap.size, 6, none⟩ = some (.slice (some ⟨b, o, none⟩) n k) ∧ (wr.alloc (.cells #[.int .i64 sq, .int .i64 t, .int .i64 nn, .int .i64 s, .int .i64 qq, .int .i64 lo, .int .i64 hi] 23)).cell? ⟨wr.heap.size, 0, none⟩ = some (.int .i64 sq) ∧ (wr.alloc (.cells #[.int .i64 sq, .int .i64 t, .int .i64 nn, .int .i64 s, .int .i64 qq, .int .i64 lo, .int .i64 hi] 23)).cell? ⟨wr.heap.size, 1, none⟩ = some (.int .i64 t) ∧ (wr.alloc (.cells #[.int .i64 sq, .int .i64 t, .int .i64 nn, .int .i64 s, .int .i64 qq, .int .i64 lo, .int .i64 hi] 23)).cell? ⟨wr.heap.size, 2, none⟩ = some (.int .i64 nn) ∧ (wr.alloc (.cells #[.int .i64 sq, .int .i64 t, .int .i64 nn, .int .i64 s, .int .i64 qq, .int .i64 lo, .int .i64 hi] 23)).cell? ⟨wr.heap.size, 3, none⟩ = some (.int .i64 s) ∧ (wr.alloc (.cells #[.int .i64 sq, .int .i64 t, .int .i64 nn, .int .i64 s, .int .i64 qq, .int .i64 lo, .int .i64 hi] 23)).cell? ⟨wr.heap.size, 4, none⟩ = some (.int .i64 qq) ∧ (wr.alloc (.cells #[.int .i64 sq, .int .i64 t, .int .i64 nn, .int .i64 s, .int .i64 qq, .int .i64 lo, .int .i64 hi] 23)).cell? ⟨wr.heap.size, 5, none⟩ = some (.int .i64 lo) ∧ (wr.alloc (.cells #[.int .i64 sq, .int .i64 t, .int .i64 nn, .int .i64 s, .int .i64 qq, .int .i64 lo, .int .i64 hi] 23)).cell? ⟨wr.heap.size, 6, none⟩ = some (.int .i64 hi)) := by
        have h := (Up.refl wr).alloc #[.int .i64 sq, .int .i64 t, .int .i64 nn, .int .i64 s, .int .i64 qq, .int .i64 lo, .int .i64 hi] 23
        exact Lib.hid ⟨u7.trans h, h.keep _ _ _ f6, by simp [go_sem], by simp [go_sem], by simp [go_sem], by simp [go_sem], by simp [go_sem], by simp [go_sem], by simp [go_sem]⟩
      clear HG HSr
      by_cases h0 : i = 0
      · subst h0
        have HA1 := Lib.hid (HA1.out (fun h => absurd h (by omega)) (fun h => absurd h (by omega)))
        simp only [Nat.zero_mul, Nat.add_zero] at d0 d1 d2 d3 d4 d5 d6
        have e0z : ((0 : Nat) : Int) = 0 := rfl
        rw [e0z] at f20 f30
        rw [e0z]
        clear e0z HX HY HDi HDp HDq Hp Hq HPc HQc HB HT HD KC
        go_wp2_with fail
        refine wp_region_held_drew (S := fun w' => Up w1 w' ∧ w'.cell? ⟨w.heap.size, 6, none⟩ = some (.slice (some ⟨b, o, none⟩) n k) ∧ w'.cell? ⟨wr.heap.size, 0, none⟩ = some (.int .i64 sq) ∧ w'.cell? ⟨wr.heap.size, 1, none⟩ = some (.int .i64 t) ∧ w'.cell? ⟨wr.heap.size, 2, none⟩ = some (.int .i64 nn) ∧ w'.cell? ⟨wr.heap.size, 3, none⟩ = some (.int .i64 s) ∧ w'.cell? ⟨wr.heap.size, 4, none⟩ = some (.int .i64 qq) ∧ w'.cell? ⟨wr.heap.size, 5, none⟩ = some (.int .i64 lo) ∧ w'.cell? ⟨wr.heap.size, 6, none⟩ = some (.int .i64 hi)) (by kernel_rfl) ?hB135 (fun hHeld => ?_)
        case hB135 => (first | (with_reducible assumption) | (with_reducible exact keepK8 (Lib.hid (Up.refl _).drew) HSS.out) | (with_reducible exact HX2.out))
        refine wpAnyH_take (i := 0) (oi := ⟨_, _, _, _, _, _⟩) (v := ?v136) rfl (by kernel_rfl) (by kernel_rfl) (by kernel_rfl) (fun _ _ _ h => h) (Or.inl ⟨by rfl, ?hy136⟩) (by assumption) ?_
        case hy136 => (intro w hSw; (try dsimp only at hSw); go_simp; (try (with_reducible rfl)))
        (try simp only [Act.put, List.setIfInBounds_toArray, List.set_cons_zero, List.set_cons_succ])
        refine wpAnyH_take (i := 1) (oi := ⟨_, _, _, _, _, _⟩) (v := ?v137) rfl (by kernel_rfl) (by kernel_rfl) (by kernel_rfl) (fun _ _ _ h => h) (Or.inl ⟨by rfl, ?hy137⟩) (by assumption) ?_
        case hy137 => (intro w hSw; (try dsimp only at hSw); go_simp; (try (with_reducible rfl)))
        (try simp only [Act.put, List.setIfInBounds_toArray, List.set_cons_zero, List.set_cons_succ])
        refine wpAnyH_take (i := 2) (oi := ⟨_, _, _, _, _, _⟩) (v := ?v138) rfl (by kernel_rfl) (by kernel_rfl) (by kernel_rfl) (fun _ _ _ h => h) (Or.inl ⟨by rfl, ?hy138⟩) (by assumption) ?_
        case hy138 => (intro w hSw; (try dsimp only at hSw); go_simp; (try (with_reducible rfl)))
        (try simp only [Act.put, List.setIfInBounds_toArray, List.set_cons_zero, List.set_cons_succ])
        refine wpAnyH_take (i := 3) (oi := ⟨_, _, _, _, _, _⟩) (v := undef) rfl (by kernel_rfl) (by kernel_rfl) (by kernel_rfl) (fun _ _ _ h => h) (Or.inr ⟨by rfl, rfl⟩) (by assumption) ?_
        (try simp only [Act.put, List.setIfInBounds_toArray, List.set_cons_zero, List.set_cons_succ])
        refine wpAnyH_take (i := 4) (oi := ⟨_, _, _, _, _, _⟩) (v := undef) rfl (by kernel_rfl) (by kernel_rfl) (by kernel_rfl) (fun _ _ _ h => h) (Or.inr ⟨by rfl, rfl⟩) (by assumption) ?_
        (try simp only [Act.put, List.setIfInBounds_toArray, List.set_cons_zero, List.set_cons_succ])
        refine wpAnyH_take (i := 5) (oi := ⟨_, _, _, _, _, _⟩) (v := undef) rfl (by kernel_rfl) (by kernel_rfl) (by kernel_rfl) (fun _ _ _ h => h) (Or.inr ⟨by rfl, rfl⟩) (by assumption) ?_
        (try simp only [Act.put, List.setIfInBounds_toArray, List.set_cons_zero, List.set_cons_succ])
        refine wpAnyH_take (i := 6) (oi := ⟨_, _, _, _, _, _⟩) (v := undef) rfl (by kernel_rfl) (by kernel_rfl) (by kernel_rfl) (fun _ _ _ h => h) (Or.inr ⟨by rfl, rfl⟩) (by assumption) ?_
        (try simp only [Act.put, List.setIfInBounds_toArray, List.set_cons_zero, List.set_cons_succ])
        refine wpAnyH_take (i := 7) (oi := ⟨_, _, _, _, _, _⟩) (v := undef) rfl (by kernel_rfl) (by kernel_rfl) (by kernel_rfl) (fun _ _ _ h => h) (Or.inr ⟨by rfl, rfl⟩) (by assumption) ?_
        (try simp only [Act.put, List.setIfInBounds_toArray, List.set_cons_zero, List.set_cons_succ])
        refine wpAnyH_take (i := 8) (oi := ⟨_, _, _, _, _, _⟩) (v := undef) rfl (by kernel_rfl) (by kernel_rfl) (by kernel_rfl) (fun _ _ _ h => h) (Or.inr ⟨by rfl, rfl⟩) (by assumption) ?_
        (try simp only [Act.put, List.setIfInBounds_toArray, List.set_cons_zero, List.set_cons_succ])
        refine wpAnyH_take (i := 9) (oi := ⟨_, _, _, _, _, _⟩) (v := undef) rfl (by kernel_rfl) (by kernel_rfl) (by kernel_rfl) (fun _ _ _ h => h) (Or.inr ⟨by rfl, rfl⟩) (by assumption) ?_
        (try simp only [Act.put, List.setIfInBounds_toArray, List.set_cons_zero, List.set_cons_succ])
        refine wpAnyH_take (i := 10) (oi := ⟨_, _, _, _, _, _⟩) (v := undef) rfl (by kernel_rfl) (by kernel_rfl) (by kernel_rfl) (fun _ _ _ h => h) (Or.inr ⟨by rfl, rfl⟩) (by assumption) ?_
        (try simp only [Act.put, List.setIfInBounds_toArray, List.set_cons_zero, List.set_cons_succ])
        refine wpAnyH_take (i := 11) (oi := ⟨_, _, _, _, _, _⟩) (v := undef) rfl (by kernel_rfl) (by kernel_rfl) (by kernel_rfl) (fun _ _ _ h => h) (Or.inr ⟨by rfl, rfl⟩) (by assumption) ?_
        (try simp only [Act.put, List.setIfInBounds_toArray, List.set_cons_zero, List.set_cons_succ])
        refine wpAnyH_take (i := 12) (oi := ⟨_, _, _, _, _, _⟩) (v := ?v139) rfl (by kernel_rfl) (by kernel_rfl) (by kernel_rfl) (fun _ _ _ h => h) (Or.inl ⟨by rfl, ?hy139⟩) (by assumption) ?_
        case hy139 => (intro w hSw; (try dsimp only at hSw); go_simp; (try (with_reducible rfl)))
        (try simp only [Act.put, List.setIfInBounds_toArray, List.set_cons_zero, List.set_cons_succ])
        refine wpAnyH_done (by kernel_rfl) ?_ _
        obtain ⟨u8, y0, y1, y2, y3, y4, y5, y6, y7⟩ := hHeld
        (repeat clear ‹Up w1 _ ∧ _›)
        have HSS := Lib.hid (And.intro u8 (And.intro y0 (And.intro y1 (And.intro y2 (And.intro y3 (And.intro y4 (And.intro y5 (And.intro y6 y7))))))))
        clear u8 y0 y1 y2 y3 y4 y5 y6 y7
        go_wp2_with fail
        refine wp_region_held_drew (S := fun w' => Up w1 w' ∧ w'.cell? ⟨w.heap.size, 6, none⟩ = some (.slice (some ⟨b, o, none⟩) n k) ∧ w'.cell? ⟨wr.heap.size, 0, none⟩ = some (.int .i64 sq) ∧ w'.cell? ⟨wr.heap.size, 1, none⟩ = some (.int .i64 t) ∧ w'.cell? ⟨wr.heap.size, 2, none⟩ = some (.int .i64 nn) ∧ w'.cell? ⟨wr.heap.size, 3, none⟩ = some (.int .i64 s) ∧ w'.cell? ⟨wr.heap.size, 4, none⟩ = some (.int .i64 qq) ∧ w'.cell? ⟨wr.heap.size, 5, none⟩ = some (.int .i64 lo) ∧ w'.cell? ⟨wr.heap.size, 6, none⟩ = some (.int .i64 hi)) (by kernel_rfl) ?hB128 (fun hHeld => ?_)
        case hB128 => (first | (with_reducible assumption) | (with_reducible exact keepK8 (Lib.hid (Up.refl _).drew) HSS.out) | (with_reducible exact HX2.out))
        refine wpAnyH_take (i := 0) (oi := ⟨_, _, _, _, _, _⟩) (v := ?v129) rfl (by kernel_rfl) (by kernel_rfl) (by kernel_rfl) (fun _ _ _ h => h) (Or.inl ⟨by rfl, ?hy129⟩) (by assumption) ?_
        case hy129 => (intro w hSw; (try dsimp only at hSw); go_simp; (try (with_reducible rfl)))
        (try simp only [Act.put, List.setIfInBounds_toArray, List.set_cons_zero, List.set_cons_succ])
        refine wpAnyH_take (i := 1) (oi := ⟨_, _, _, _, _, _⟩) (v := ?v130) rfl (by kernel_rfl) (by kernel_rfl) (by kernel_rfl) (fun _ _ _ h => h) (Or.inl ⟨by rfl, ?hy130⟩) (by assumption) ?_
        case hy130 => (intro w hSw; (try dsimp only at hSw); go_simp; (try (with_reducible rfl)))
        (try simp only [Act.put, List.setIfInBounds_toArray, List.set_cons_zero, List.set_cons_succ])
        refine wpAnyH_take (i := 2) (oi := ⟨_, _, _, _, _, _⟩) (v := ?v131) rfl (by kernel_rfl) (by kernel_rfl) (by kernel_rfl) (fun _ _ _ h => h) (Or.inl ⟨by rfl, ?hy131⟩) (by assumption) ?_
        case hy131 => (intro w hSw; (try dsimp only at hSw); go_simp; (try (with_reducible rfl)))
        (try simp only [Act.put, List.setIfInBounds_toArray, List.set_cons_zero, List.set_cons_succ])
        refine wpAnyH_take (i := 3) (oi := ⟨_, _, _, _, _, _⟩) (v := undef) rfl (by kernel_rfl) (by kernel_rfl) (by kernel_rfl) (fun _ _ _ h => h) (Or.inr ⟨by rfl, rfl⟩) (by assumption) ?_
        (try simp only [Act.put, List.setIfInBounds_toArray, List.set_cons_zero, List.set_cons_succ])
        refine wpAnyH_take (i := 4) (oi := ⟨_, _, _, _, _, _⟩) (v := undef) rfl (by kernel_rfl) (by kernel_rfl) (by kernel_rfl) (fun _ _ _ h => h) (Or.inr ⟨by rfl, rfl⟩) (by assumption) ?_
        (try simp only [Act.put, List.setIfInBounds_toArray, List.set_cons_zero, List.set_cons_succ])
        refine wpAnyH_take (i := 5) (oi := ⟨_, _, _, _, _, _⟩) (v := undef) rfl (by kernel_rfl) (by kernel_rfl) (by kernel_rfl) (fun _ _ _ h => h) (Or.inr ⟨by rfl, rfl⟩) (by assumption) ?_
        (try simp only [Act.put, List.setIfInBounds_toArray, List.set_cons_zero, List.set_cons_succ])
        refine wpAnyH_take (i := 6) (oi := ⟨_, _, _, _, _, _⟩) (v := undef) rfl (by kernel_rfl) (by kernel_rfl) (by kernel_rfl) (fun _ _ _ h => h) (Or.inr ⟨by rfl, rfl⟩) (by assumption) ?_
        (try simp only [Act.put, List.setIfInBounds_toArray, List.set_cons_zero, List.set_cons_succ])
        refine wpAnyH_take (i := 7) (oi := ⟨_, _, _, _, _, _⟩) (v := undef) rfl (by kernel_rfl) (by kernel_rfl) (by kernel_rfl) (fun _ _ _ h => h) (Or.inr ⟨by rfl, rfl⟩) (by assumption) ?_
        (try simp only [Act.put, List.setIfInBounds_toArray, List.set_cons_zero, List.set_cons_succ])
        refine wpAnyH_take (i := 8) (oi := ⟨_, _, _, _, _, _⟩) (v := undef) rfl (by kernel_rfl) (by kernel_rfl) (by kernel_rfl) (fun _ _ _ h => h) (Or.inr ⟨by rfl, rfl⟩) (by assumption) ?_
        (try simp only [Act.put, List.setIfInBounds_toArray, List.set_cons_zero, List.set_cons_succ])
        refine wpAnyH_take (i := 9) (oi := ⟨_, _, _, _, _, _⟩) (v := undef) rfl (by kernel_rfl) (by kernel_rfl) (by kernel_rfl) (fun _ _ _ h => h) (Or.inr ⟨by rfl, rfl⟩) (by assumption) ?_
        (try simp only [Act.put, List.setIfInBounds_toArray, List.set_cons_zero, List.set_cons_succ])
        refine wpAnyH_take (i := 10) (oi := ⟨_, _, _, _, _, _⟩) (v := undef) rfl (by kernel_rfl) (by kernel_rfl) (by kernel_rfl) (fun _ _ _ h => h) (Or.inr ⟨by rfl, rfl⟩) (by assumption) ?_
        (try simp only [Act.put, List.setIfInBounds_toArray, List.set_cons_zero, List.set_cons_succ])
        refine wpAnyH_take (i := 11) (oi := ⟨_, _, _, _, _, _⟩) (v := undef) rfl (by kernel_rfl) (by kernel_rfl) (by kernel_rfl) (fun _ _ _ h => h) (Or.inr ⟨by rfl, rfl⟩) (by assumption) ?_
        (try simp only [Act.put, List.setIfInBounds_toArray, List.set_cons_zero, List.set_cons_succ])
        refine wpAnyH_take (i := 12) (oi := ⟨_, _, _, _, _, _⟩) (v := undef) rfl (by kernel_rfl) (by kernel_rfl) (by kernel_rfl) (fun _ _ _ h => h) (Or.inr ⟨by rfl, rfl⟩) (by assumption) ?_
        (try simp only [Act.put, List.setIfInBounds_toArray, List.set_cons_zero, List.set_cons_succ])
        refine wpAnyH_take (i := 13) (oi := ⟨_, _, _, _, _, _⟩) (v := undef) rfl (by kernel_rfl) (by kernel_rfl) (by kernel_rfl) (fun _ _ _ h => h) (Or.inr ⟨by rfl, rfl⟩) (by assumption) ?_
        (try simp only [Act.put, List.setIfInBounds_toArray, List.set_cons_zero, List.set_cons_succ])
        refine wpAnyH_take (i := 14) (oi := ⟨_, _, _, _, _, _⟩) (v := ?v132) rfl (by kernel_rfl) (by kernel_rfl) (by kernel_rfl) (fun _ _ _ h => h) (Or.inl ⟨by rfl, ?hy132⟩) (by assumption) ?_
        case hy132 => (intro w hSw; (try dsimp only at hSw); go_simp; (try (with_reducible rfl)))
        (try simp only [Act.put, List.setIfInBounds_toArray, List.set_cons_zero, List.set_cons_succ])
        refine wpAnyH_take (i := 15) (oi := ⟨_, _, _, _, _, _⟩) (v := ?v133) rfl (by kernel_rfl) (by kernel_rfl) (by kernel_rfl) (fun _ _ _ h => h) (Or.inl ⟨by rfl, ?hy133⟩) (by assumption) ?_
        case hy133 => (intro w hSw; (try dsimp only at hSw); go_simp; (try (with_reducible rfl)))
        (try simp only [Act.put, List.setIfInBounds_toArray, List.set_cons_zero, List.set_cons_succ])
        refine wpAnyH_take (i := 16) (oi := ⟨_, _, _, _, _, _⟩) (v := undef) rfl (by kernel_rfl) (by kernel_rfl) (by kernel_rfl) (fun _ _ _ h => h) (Or.inr ⟨by rfl, rfl⟩) (by assumption) ?_
        (try simp only [Act.put, List.setIfInBounds_toArray, List.set_cons_zero, List.set_cons_succ])
        refine wpAnyH_take (i := 17) (oi := ⟨_, _, _, _, _, _⟩) (v := undef) rfl (by kernel_rfl) (by kernel_rfl) (by kernel_rfl) (fun _ _ _ h => h) (Or.inr ⟨by rfl, rfl⟩) (by assumption) ?_
        (try simp only [Act.put, List.setIfInBounds_toArray, List.set_cons_zero, List.set_cons_succ])
        refine wpAnyH_take (i := 18) (oi := ⟨_, _, _, _, _, _⟩) (v := undef) rfl (by kernel_rfl) (by kernel_rfl) (by kernel_rfl) (fun _ _ _ h => h) (Or.inr ⟨by rfl, rfl⟩) (by assumption) ?_
        (try simp only [Act.put, List.setIfInBounds_toArray, List.set_cons_zero, List.set_cons_succ])
        refine wpAnyH_take (i := 19) (oi := ⟨_, _, _, _, _, _⟩) (v := undef) rfl (by kernel_rfl) (by kernel_rfl) (by kernel_rfl) (fun _ _ _ h => h) (Or.inr ⟨by rfl, rfl⟩) (by assumption) ?_
        (try simp only [Act.put, List.setIfInBounds_toArray, List.set_cons_zero, List.set_cons_succ])
        refine wpAnyH_take (i := 20) (oi := ⟨_, _, _, _, _, _⟩) (v := undef) rfl (by kernel_rfl) (by kernel_rfl) (by kernel_rfl) (fun _ _ _ h => h) (Or.inr ⟨by rfl, rfl⟩) (by assumption) ?_
        (try simp only [Act.put, List.setIfInBounds_toArray, List.set_cons_zero, List.set_cons_succ])
        refine wpAnyH_take (i := 21) (oi := ⟨_, _, _, _, _, _⟩) (v := undef) rfl (by kernel_rfl) (by kernel_rfl) (by kernel_rfl) (fun _ _ _ h => h) (Or.inr ⟨by rfl, rfl⟩) (by assumption) ?_
        (try simp only [Act.put, List.setIfInBounds_toArray, List.set_cons_zero, List.set_cons_succ])
        refine wpAnyH_take (i := 22) (oi := ⟨_, _, _, _, _, _⟩) (v := undef) rfl (by kernel_rfl) (by kernel_rfl) (by kernel_rfl) (fun _ _ _ h => h) (Or.inr ⟨by rfl, rfl⟩) (by assumption) ?_
        (try simp only [Act.put, List.setIfInBounds_toArray, List.set_cons_zero, List.set_cons_succ])
        refine wpAnyH_take (i := 23) (oi := ⟨_, _, _, _, _, _⟩) (v := undef) rfl (by kernel_rfl) (by kernel_rfl) (by kernel_rfl) (fun _ _ _ h => h) (Or.inr ⟨by rfl, rfl⟩) (by assumption) ?_
        (try simp only [Act.put, List.setIfInBounds_toArray, List.set_cons_zero, List.set_cons_succ])
        refine wpAnyH_take (i := 24) (oi := ⟨_, _, _, _, _, _⟩) (v := undef) rfl (by kernel_rfl) (by kernel_rfl) (by kernel_rfl) (fun _ _ _ h => h) (Or.inr ⟨by rfl, rfl⟩) (by assumption) ?_
        (try simp only [Act.put, List.setIfInBounds_toArray, List.set_cons_zero, List.set_cons_succ])
        refine wpAnyH_take (i := 25) (oi := ⟨_, _, _, _, _, _⟩) (v := undef) rfl (by kernel_rfl) (by kernel_rfl) (by kernel_rfl) (fun _ _ _ h => h) (Or.inr ⟨by rfl, rfl⟩) (by assumption) ?_
        (try simp only [Act.put, List.setIfInBounds_toArray, List.set_cons_zero, List.set_cons_succ])
        refine wpAnyH_take (i := 26) (oi := ⟨_, _, _, _, _, _⟩) (v := ?v134) rfl (by kernel_rfl) (by kernel_rfl) (by kernel_rfl) (fun _ _ _ h => h) (Or.inl ⟨by rfl, ?hy134⟩) (by assumption) ?_
        case hy134 => (intro w hSw; (try dsimp only at hSw); go_simp; (try (with_reducible rfl)))
        (try simp only [Act.put, List.setIfInBounds_toArray, List.set_cons_zero, List.set_cons_succ])
        refine wpAnyH_done (by kernel_rfl) ?_ _
        obtain ⟨u8, f8, _⟩ := hHeld
        (repeat clear ‹Up w1 _ ∧ _›)
        go_wp2_with fail
        go_roundw
        case rel => exact ⟨0 + 1, by go_num, by omega, HA1, Lib.hid ⟨u8, f8⟩⟩
        case measure => simp [intOf]; omega
      by_cases h1 : i = 1
      · subst h1
        have HA1 := Lib.hid (HA1.out (fun h => absurd h (by omega)))
        have HA1 : Hid ((0 < 1 → sq1 + 1 < sq → clM g q ⟨sq1, t1, nn1, s1, qq1, lo1, hi1⟩ ⟨sq, t, nn, s, qq, lo, hi⟩ = true) → ∀ j, j < 1 + 1 → adP g q X j) := HA1
        simp only [Nat.one_mul] at d0 d1 d2 d3 d4 d5 d6
        have e0z : ((1 : Nat) : Int) = 1 := rfl
        have BQ := HDi.out
        have BP := HDp.out Nat.zero_lt_one
        have s1 : 1 ≤ sq ∧ sq ≤ 1099511627776 := BQ.2.2.2.2.2
        have s2 : 1 ≤ sq1 ∧ sq1 ≤ 1099511627776 := BP.2.2.2.2.2
        obtain ⟨s11, s12⟩ := s1
        obtain ⟨s21, s22⟩ := s2
        have s3 : IntKind.i64.wrap (sq - sq1) = sq - sq1 := by rw [IntKind.wrap_i64]; omega
        have HSS : Hid (Up w1 (wr.alloc (.cells #[.int .i64 sq, .int .i64 t, .int .i64 nn, .int .i64 s, .int .i64 qq, .int .i64 lo, .int .i64 hi] 23)) ∧ (wr.alloc (.cells #[.int .i64 sq, .int .i64 t, .int .i64 nn, .int .i64 s, .int .i64 qq, .int .i64 lo, .int .i64 hi] 23)).cell? ⟨w.heap.size, 6, none⟩ = some (.slice (some ⟨b, o, none⟩) n k) ∧ (wr.alloc (.cells #[.int .i64 sq, .int .i64 t, .int .i64 nn, .int .i64 s, .int .i64 qq, .int .i64 lo, .int .i64 hi] 23)).cell? ⟨wr.heap.size, 0, none⟩ = some (.int .i64 sq) ∧ (wr.alloc (.cells #[.int .i64 sq, .int .i64 t, .int .i64 nn, .int .i64 s, .int .i64 qq, .int .i64 lo, .int .i64 hi] 23)).cell? ⟨wr.heap.size, 1, none⟩ = some (.int .i64 t) ∧ (wr.alloc (.cells #[.int .i64 sq, .int .i64 t, .int .i64 nn, .int .i64 s, .int .i64 qq, .int .i64 lo, .int .i64 hi] 23)).cell? ⟨wr.heap.size, 2, none⟩ = some (.int .i64 nn) ∧ (wr.alloc (.cells #[.int .i64 sq, .int .i64 t, .int .i64 nn, .int .i64 s, .int .i64 qq, .int .i64 lo, .int .i64 hi] 23)).cell? ⟨wr.heap.size, 3, none⟩ = some (.int .i64 s) ∧ (wr.alloc (.cells #[.int .i64 sq, .int .i64 t, .int .i64 nn, .int .i64 s, .int .i64 qq, .int .i64 lo, .int .i64 hi] 23)).cell? ⟨wr.heap.size, 4, none⟩ = some (.int .i64 qq) ∧ (wr.alloc (.cells #[.int .i64 sq, .int .i64 t, .int .i64 nn, .int .i64 s, .int .i64 qq, .int .i64 lo, .int .i64 hi] 23)).cell? ⟨wr.heap.size, 5, none⟩ = some (.int .i64 lo) ∧ (wr.alloc (.cells #[.int .i64 sq, .int .i64 t, .int .i64 nn, .int .i64 s, .int .i64 qq, .int .i64 lo, .int .i64 hi] 23)).cell? ⟨wr.heap.size, 6, none⟩ = some (.int .i64 hi) ∧ (wr.alloc (.cells #[.int .i64 sq, .int .i64 t, .int .i64 nn, .int .i64 s, .int .i64 qq, .int .i64 lo, .int .i64 hi] 23)).cell? ⟨b, o, none⟩ = some (.int .i64 sq1) ∧ (wr.alloc (.cells #[.int .i64 sq, .int .i64 t, .int .i64 nn, .int .i64 s, .int .i64 qq, .int .i64 lo, .int .i64 hi] 23)).cell? ⟨b, o + 1, none⟩ = some (.int .i64 t1) ∧ (wr.alloc (.cells #[.int .i64 sq, .int .i64 t, .int .i64 nn, .int .i64 s, .int .i64 qq, .int .i64 lo, .int .i64 hi] 23)).cell? ⟨b, o + 2, none⟩ = some (.int .i64 nn1) ∧ (wr.alloc (.cells #[.int .i64 sq, .int .i64 t, .int .i64 nn, .int .i64 s, .int .i64 qq, .int .i64 lo, .int .i64 hi] 23)).cell? ⟨b, o + 3, none⟩ = some (.int .i64 s1) ∧ (wr.alloc (.cells #[.int .i64 sq, .int .i64 t, .int .i64 nn, .int .i64 s, .int .i64 qq, .int .i64 lo, .int .i64 hi] 23)).cell? ⟨b, o + 4, none⟩ = some (.int .i64 qq1) ∧ (wr.alloc (.cells #[.int .i64 sq, .int .i64 t, .int .i64 nn, .int .i64 s, .int .i64 qq, .int .i64 lo, .int .i64 hi] 23)).cell? ⟨b, o + 5, none⟩ = some (.int .i64 lo1) ∧ (wr.alloc (.cells #[.int .i64 sq, .int .i64 t, .int .i64 nn, .int .i64 s, .int .i64 qq, .int .i64 lo, .int .i64 hi] 23)).cell? ⟨b, o + 6, none⟩ = some (.int .i64 hi1)) := by
          obtain ⟨u7, f8, e0, e1, e2, e3, e4, e5, e6⟩ := HSS.out
          obtain ⟨x0, x1, x2, x3, x4, x5, x6⟩ := HPc.out Nat.zero_lt_one
          simp only [Nat.sub_self, Nat.zero_mul, Nat.add_zero] at x0 x1 x2 x3 x4 x5 x6
          have h := (Up.refl wr).alloc #[.int .i64 sq, .int .i64 t, .int .i64 nn, .int .i64 s, .int .i64 qq, .int .i64 lo, .int .i64 hi] 23
          exact Lib.hid ⟨u7, f8, e0, e1, e2, e3, e4, e5, e6, h.keep _ _ _ x0, h.keep _ _ _ x1, h.keep _ _ _ x2, h.keep _ _ _ x3, h.keep _ _ _ x4, h.keep _ _ _ x5, h.keep _ _ _ x6⟩
        have z5 : IntKind.i64.wrap 0 = 0 := by rw [IntKind.wrap_i64]; rfl
        have z6 : (0 : Int) < n := by omega
        have z7 : 0 < n := by omega
        rw [e0z] at f20 f30
        rw [e0z]
        clear e0z BQ BP
        go_wp2_with fail
        refine wp_region_held_drew (S := fun w' => Up w1 w' ∧ w'.cell? ⟨w.heap.size, 6, none⟩ = some (.slice (some ⟨b, o, none⟩) n k) ∧ w'.cell? ⟨wr.heap.size, 0, none⟩ = some (.int .i64 sq) ∧ w'.cell? ⟨wr.heap.size, 1, none⟩ = some (.int .i64 t) ∧ w'.cell? ⟨wr.heap.size, 2, none⟩ = some (.int .i64 nn) ∧ w'.cell? ⟨wr.heap.size, 3, none⟩ = some (.int .i64 s) ∧ w'.cell? ⟨wr.heap.size, 4, none⟩ = some (.int .i64 qq) ∧ w'.cell? ⟨wr.heap.size, 5, none⟩ = some (.int .i64 lo) ∧ w'.cell? ⟨wr.heap.size, 6, none⟩ = some (.int .i64 hi) ∧ w'.cell? ⟨b, o, none⟩ = some (.int .i64 sq1) ∧ w'.cell? ⟨b, o + 1, none⟩ = some (.int .i64 t1) ∧ w'.cell? ⟨b, o + 2, none⟩ = some (.int .i64 nn1) ∧ w'.cell? ⟨b, o + 3, none⟩ = some (.int .i64 s1) ∧ w'.cell? ⟨b, o + 4, none⟩ = some (.int .i64 qq1) ∧ w'.cell? ⟨b, o + 5, none⟩ = some (.int .i64 lo1) ∧ w'.cell? ⟨b, o + 6, none⟩ = some (.int .i64 hi1)) (by kernel_rfl) ?hB214 (fun hHeld => ?_)
        case hB214 => (first | (with_reducible assumption) | (with_reducible exact keepK15 (Lib.hid (Up.refl _).drew) HSS.out) | (with_reducible exact HX2.out))
        refine wpAnyH_take (i := 0) (oi := ⟨_, _, _, _, _, _⟩) (v := ?v215) rfl (by kernel_rfl) (by kernel_rfl) (by kernel_rfl) (fun _ _ _ h => h) (Or.inl ⟨by rfl, ?hy215⟩) (by assumption) ?_
        case hy215 => (intro w hSw; (try dsimp only at hSw); go_simp; (try (with_reducible rfl)))
        (try simp only [Act.put, List.setIfInBounds_toArray, List.set_cons_zero, List.set_cons_succ])
        refine wpAnyH_take (i := 1) (oi := ⟨_, _, _, _, _, _⟩) (v := ?v216) rfl (by kernel_rfl) (by kernel_rfl) (by kernel_rfl) (fun _ _ _ h => h) (Or.inl ⟨by rfl, ?hy216⟩) (by assumption) ?_
        case hy216 => (intro w hSw; (try dsimp only at hSw); go_simp; (try (with_reducible rfl)))
        (try simp only [Act.put, List.setIfInBounds_toArray, List.set_cons_zero, List.set_cons_succ])
        refine wpAnyH_take (i := 2) (oi := ⟨_, _, _, _, _, _⟩) (v := ?v217) rfl (by kernel_rfl) (by kernel_rfl) (by kernel_rfl) (fun _ _ _ h => h) (Or.inl ⟨by rfl, ?hy217⟩) (by assumption) ?_
        case hy217 => (intro w hSw; (try dsimp only at hSw); go_simp; (try (with_reducible rfl)))
        (try simp only [Act.put, List.setIfInBounds_toArray, List.set_cons_zero, List.set_cons_succ])
        refine wpAnyH_take (i := 3) (oi := ⟨_, _, _, _, _, _⟩) (v := undef) rfl (by kernel_rfl) (by kernel_rfl) (by kernel_rfl) (fun _ _ _ h => h) (Or.inr ⟨by rfl, rfl⟩) (by assumption) ?_
        (try simp only [Act.put, List.setIfInBounds_toArray, List.set_cons_zero, List.set_cons_succ])
        refine wpAnyH_take (i := 4) (oi := ⟨_, _, _, _, _, _⟩) (v := undef) rfl (by kernel_rfl) (by kernel_rfl) (by kernel_rfl) (fun _ _ _ h => h) (Or.inr ⟨by rfl, rfl⟩) (by assumption) ?_
        (try simp only [Act.put, List.setIfInBounds_toArray, List.set_cons_zero, List.set_cons_succ])
        refine wpAnyH_take (i := 5) (oi := ⟨_, _, _, _, _, _⟩) (v := undef) rfl (by kernel_rfl) (by kernel_rfl) (by kernel_rfl) (fun _ _ _ h => h) (Or.inr ⟨by rfl, rfl⟩) (by assumption) ?_
        (try simp only [Act.put, List.setIfInBounds_toArray, List.set_cons_zero, List.set_cons_succ])
        refine wpAnyH_take (i := 6) (oi := ⟨_, _, _, _, _, _⟩) (v := undef) rfl (by kernel_rfl) (by kernel_rfl) (by kernel_rfl) (fun _ _ _ h => h) (Or.inr ⟨by rfl, rfl⟩) (by assumption) ?_
        (try simp only [Act.put, List.setIfInBounds_toArray, List.set_cons_zero, List.set_cons_succ])
        refine wpAnyH_take (i := 7) (oi := ⟨_, _, _, _, _, _⟩) (v := undef) rfl (by kernel_rfl) (by kernel_rfl) (by kernel_rfl) (fun _ _ _ h => h) (Or.inr ⟨by rfl, rfl⟩) (by assumption) ?_
        (try simp only [Act.put, List.setIfInBounds_toArray, List.set_cons_zero, List.set_cons_succ])
        refine wpAnyH_take (i := 8) (oi := ⟨_, _, _, _, _, _⟩) (v := undef) rfl (by kernel_rfl) (by kernel_rfl) (by kernel_rfl) (fun _ _ _ h => h) (Or.inr ⟨by rfl, rfl⟩) (by assumption) ?_
        (try simp only [Act.put, List.setIfInBounds_toArray, List.set_cons_zero, List.set_cons_succ])
        refine wpAnyH_take (i := 9) (oi := ⟨_, _, _, _, _, _⟩) (v := undef) rfl (by kernel_rfl) (by kernel_rfl) (by kernel_rfl) (fun _ _ _ h => h) (Or.inr ⟨by rfl, rfl⟩) (by assumption) ?_
        (try simp only [Act.put, List.setIfInBounds_toArray, List.set_cons_zero, List.set_cons_succ])
        refine wpAnyH_take (i := 10) (oi := ⟨_, _, _, _, _, _⟩) (v := undef) rfl (by kernel_rfl) (by kernel_rfl) (by kernel_rfl) (fun _ _ _ h => h) (Or.inr ⟨by rfl, rfl⟩) (by assumption) ?_
        (try simp only [Act.put, List.setIfInBounds_toArray, List.set_cons_zero, List.set_cons_succ])
        refine wpAnyH_take (i := 11) (oi := ⟨_, _, _, _, _, _⟩) (v := undef) rfl (by kernel_rfl) (by kernel_rfl) (by kernel_rfl) (fun _ _ _ h => h) (Or.inr ⟨by rfl, rfl⟩) (by assumption) ?_
        (try simp only [Act.put, List.setIfInBounds_toArray, List.set_cons_zero, List.set_cons_succ])
        refine wpAnyH_take (i := 12) (oi := ⟨_, _, _, _, _, _⟩) (v := ?v218) rfl (by kernel_rfl) (by kernel_rfl) (by kernel_rfl) (fun _ _ _ h => h) (Or.inl ⟨by rfl, ?hy218⟩) (by assumption) ?_
        case hy218 => (intro w hSw; (try dsimp only at hSw); go_simp; (try (with_reducible rfl)))
        (try simp only [Act.put, List.setIfInBounds_toArray, List.set_cons_zero, List.set_cons_succ])
        refine wpAnyH_done (by kernel_rfl) ?_ _
        obtain ⟨u8, y0, y1, y2, y3, y4, y5, y6, y7, y8, y9, y10, y11, y12, y13, y14⟩ := hHeld
        (repeat clear ‹Up w1 _ ∧ _›)
        have HSS := Lib.hid (And.intro u8 (And.intro y0 (And.intro y1 (And.intro y2 (And.intro y3 (And.intro y4 (And.intro y5 (And.intro y6 (And.intro y7 (And.intro y8 (And.intro y9 (And.intro y10 (And.intro y11 (And.intro y12 (And.intro y13 y14)))))))))))))))
        clear u8 y0 y1 y2 y3 y4 y5 y6 y7 y8 y9 y10 y11 y12 y13 y14
        by_cases hd : 1 < sq - sq1
        · have td : decide (1 < sq - sq1) = true := decide_eq_true hd
          have K7 := Lib.hid (KC.out ⟨sq1, t1, nn1, s1, qq1, lo1, hi1⟩ ⟨sq, t, nn, s, qq, lo, hi⟩ (HDp.out Nat.zero_lt_one) HDi.out)
          simp only at K7
          cases hk : clM g q ⟨sq1, t1, nn1, s1, qq1, lo1, hi1⟩ ⟨sq, t, nn, s, qq, lo, hi⟩ with
          | false =>
            obtain rfl : r = false := HY.out Nat.zero_lt_one (by omega) hk
            rw [hk] at K7
            clear hk HX HY HA1 HDi HDp HDq Hp Hq HPc HQc HB HT HD KC
            go_wp2_with fail
            refine wp_region_held_drew (S := fun w' => Up w1 w' ∧ w'.cell? ⟨w.heap.size, 6, none⟩ = some (.slice (some ⟨b, o, none⟩) n k) ∧ w'.cell? ⟨wr.heap.size, 0, none⟩ = some (.int .i64 sq) ∧ w'.cell? ⟨wr.heap.size, 1, none⟩ = some (.int .i64 t) ∧ w'.cell? ⟨wr.heap.size, 2, none⟩ = some (.int .i64 nn) ∧ w'.cell? ⟨wr.heap.size, 3, none⟩ = some (.int .i64 s) ∧ w'.cell? ⟨wr.heap.size, 4, none⟩ = some (.int .i64 qq) ∧ w'.cell? ⟨wr.heap.size, 5, none⟩ = some (.int .i64 lo) ∧ w'.cell? ⟨wr.heap.size, 6, none⟩ = some (.int .i64 hi) ∧ w'.cell? ⟨b, o, none⟩ = some (.int .i64 sq1) ∧ w'.cell? ⟨b, o + 1, none⟩ = some (.int .i64 t1) ∧ w'.cell? ⟨b, o + 2, none⟩ = some (.int .i64 nn1) ∧ w'.cell? ⟨b, o + 3, none⟩ = some (.int .i64 s1) ∧ w'.cell? ⟨b, o + 4, none⟩ = some (.int .i64 qq1) ∧ w'.cell? ⟨b, o + 5, none⟩ = some (.int .i64 lo1) ∧ w'.cell? ⟨b, o + 6, none⟩ = some (.int .i64 hi1)) (by kernel_rfl) ?hB140 (fun hHeld => ?_)
            case hB140 => (first | (with_reducible assumption) | (with_reducible exact keepK15 (Lib.hid (Up.refl _).drew) HSS.out) | (with_reducible exact HX2.out) | (with_reducible exact HX3.out))
            refine wpAnyH_take (i := 0) (oi := ⟨_, _, _, _, _, _⟩) (v := ?v141) rfl (by kernel_rfl) (by kernel_rfl) (by kernel_rfl) (fun _ _ _ h => h) (Or.inl ⟨by rfl, ?hy141⟩) (by assumption) ?_
            case hy141 => (intro w hSw; (try dsimp only at hSw); go_simp; (try (with_reducible rfl)))
            (try simp only [Act.put, List.setIfInBounds_toArray, List.set_cons_zero, List.set_cons_succ])
            refine wpAnyH_take (i := 1) (oi := ⟨_, _, _, _, _, _⟩) (v := ?v142) rfl (by kernel_rfl) (by kernel_rfl) (by kernel_rfl) (fun _ _ _ h => h) (Or.inl ⟨by rfl, ?hy142⟩) (by assumption) ?_
            case hy142 => (intro w hSw; (try dsimp only at hSw); go_simp; (try (with_reducible rfl)))
            (try simp only [Act.put, List.setIfInBounds_toArray, List.set_cons_zero, List.set_cons_succ])
            refine wpAnyH_take (i := 2) (oi := ⟨_, _, _, _, _, _⟩) (v := ?v143) rfl (by kernel_rfl) (by kernel_rfl) (by kernel_rfl) (fun _ _ _ h => h) (Or.inl ⟨by rfl, ?hy143⟩) (by assumption) ?_
            case hy143 => (intro w hSw; (try dsimp only at hSw); go_simp; (try (with_reducible rfl)))
            (try simp only [Act.put, List.setIfInBounds_toArray, List.set_cons_zero, List.set_cons_succ])
            refine wpAnyH_take (i := 3) (oi := ⟨_, _, _, _, _, _⟩) (v := ?v144) rfl (by kernel_rfl) (by kernel_rfl) (by kernel_rfl) (fun _ _ _ h => h) (Or.inl ⟨by rfl, ?hy144⟩) (by assumption) ?_
            case hy144 => (intro w hSw; (try dsimp only at hSw); go_simp; (try (with_reducible rfl)))
            (try simp only [Act.put, List.setIfInBounds_toArray, List.set_cons_zero, List.set_cons_succ])
            refine wpAnyH_take (i := 4) (oi := ⟨_, _, _, _, _, _⟩) (v := ?v145) rfl (by kernel_rfl) (by kernel_rfl) (by kernel_rfl) (fun _ _ _ h => h) (Or.inl ⟨by rfl, ?hy145⟩) (by assumption) ?_
            case hy145 => (intro w hSw; (try dsimp only at hSw); go_simp; (try (with_reducible rfl)))
            (try simp only [Act.put, List.setIfInBounds_toArray, List.set_cons_zero, List.set_cons_succ])
            refine wpAnyH_take (i := 5) (oi := ⟨_, _, _, _, _, _⟩) (v := ?v146) rfl (by kernel_rfl) (by kernel_rfl) (by kernel_rfl) (fun _ _ _ h => h) (Or.inl ⟨by rfl, ?hy146⟩) (by assumption) ?_
            case hy146 => (intro w hSw; (try dsimp only at hSw); go_simp; (try (with_reducible rfl)))
            (try simp only [Act.put, List.setIfInBounds_toArray, List.set_cons_zero, List.set_cons_succ])
            refine wpAnyH_take (i := 6) (oi := ⟨_, _, _, _, _, _⟩) (v := ?v147) rfl (by kernel_rfl) (by kernel_rfl) (by kernel_rfl) (fun _ _ _ h => h) (Or.inl ⟨by rfl, ?hy147⟩) (by assumption) ?_
            case hy147 => (intro w hSw; (try dsimp only at hSw); go_simp; (try (with_reducible rfl)))
            (try simp only [Act.put, List.setIfInBounds_toArray, List.set_cons_zero, List.set_cons_succ])
            refine wpAnyH_take (i := 7) (oi := ⟨_, _, _, _, _, _⟩) (v := ?v148) rfl (by kernel_rfl) (by kernel_rfl) (by kernel_rfl) (fun _ _ _ h => h) (Or.inl ⟨by rfl, ?hy148⟩) (by assumption) ?_
            case hy148 => (intro w hSw; (try dsimp only at hSw); go_simp; (try (with_reducible rfl)))
            (try simp only [Act.put, List.setIfInBounds_toArray, List.set_cons_zero, List.set_cons_succ])
            refine wpAnyH_take (i := 8) (oi := ⟨_, _, _, _, _, _⟩) (v := ?v149) rfl (by kernel_rfl) (by kernel_rfl) (by kernel_rfl) (fun _ _ _ h => h) (Or.inl ⟨by rfl, ?hy149⟩) (by assumption) ?_
            case hy149 => (intro w hSw; (try dsimp only at hSw); go_simp; (try (with_reducible rfl)))
            (try simp only [Act.put, List.setIfInBounds_toArray, List.set_cons_zero, List.set_cons_succ])
            refine wpAnyH_take (i := 9) (oi := ⟨_, _, _, _, _, _⟩) (v := ?v150) rfl (by kernel_rfl) (by kernel_rfl) (by kernel_rfl) (fun _ _ _ h => h) (Or.inl ⟨by rfl, ?hy150⟩) (by assumption) ?_
            case hy150 => (intro w hSw; (try dsimp only at hSw); go_simp; (try (with_reducible rfl)))
            (try simp only [Act.put, List.setIfInBounds_toArray, List.set_cons_zero, List.set_cons_succ])
            refine wpAnyH_take (i := 10) (oi := ⟨_, _, _, _, _, _⟩) (v := ?v151) rfl (by kernel_rfl) (by kernel_rfl) (by kernel_rfl) (fun _ _ _ h => h) (Or.inl ⟨by rfl, ?hy151⟩) (by assumption) ?_
            case hy151 => (intro w hSw; (try dsimp only at hSw); go_simp; (try (with_reducible rfl)))
            (try simp only [Act.put, List.setIfInBounds_toArray, List.set_cons_zero, List.set_cons_succ])
            refine wpAnyH_take (i := 11) (oi := ⟨_, _, _, _, _, _⟩) (v := ?v152) rfl (by kernel_rfl) (by kernel_rfl) (by kernel_rfl) (fun _ _ _ h => h) (Or.inl ⟨by rfl, ?hy152⟩) (by assumption) ?_
            case hy152 => (intro w hSw; (try dsimp only at hSw); go_simp; (try (with_reducible rfl)))
            (try simp only [Act.put, List.setIfInBounds_toArray, List.set_cons_zero, List.set_cons_succ])
            refine wpAnyH_take (i := 12) (oi := ⟨_, _, _, _, _, _⟩) (v := ?v153) rfl (by kernel_rfl) (by kernel_rfl) (by kernel_rfl) (fun _ _ _ h => h) (Or.inl ⟨by rfl, ?hy153⟩) (by assumption) ?_
            case hy153 => (intro w hSw; (try dsimp only at hSw); go_simp; (try (with_reducible rfl)))
            (try simp only [Act.put, List.setIfInBounds_toArray, List.set_cons_zero, List.set_cons_succ])
            refine wpAnyH_take (i := 13) (oi := ⟨_, _, _, _, _, _⟩) (v := ?v154) rfl (by kernel_rfl) (by kernel_rfl) (by kernel_rfl) (fun _ _ _ h => h) (Or.inl ⟨by rfl, ?hy154⟩) (by assumption) ?_
            case hy154 => (intro w hSw; (try dsimp only at hSw); go_simp; (try (with_reducible rfl)))
            (try simp only [Act.put, List.setIfInBounds_toArray, List.set_cons_zero, List.set_cons_succ])
            refine wpAnyH_take (i := 14) (oi := ⟨_, _, _, _, _, _⟩) (v := ?v155) rfl (by kernel_rfl) (by kernel_rfl) (by kernel_rfl) (fun _ _ _ h => h) (Or.inl ⟨by rfl, ?hy155⟩) (by assumption) ?_
            case hy155 => (intro w hSw; (try dsimp only at hSw); go_simp; (try (with_reducible rfl)))
            (try simp only [Act.put, List.setIfInBounds_toArray, List.set_cons_zero, List.set_cons_succ])
            refine wpAnyH_take (i := 15) (oi := ⟨_, _, _, _, _, _⟩) (v := ?v156) rfl (by kernel_rfl) (by kernel_rfl) (by kernel_rfl) (fun _ _ _ h => h) (Or.inl ⟨by rfl, ?hy156⟩) (by assumption) ?_
            case hy156 => (intro w hSw; (try dsimp only at hSw); go_simp; (try (with_reducible rfl)))
            (try simp only [Act.put, List.setIfInBounds_toArray, List.set_cons_zero, List.set_cons_succ])
            refine wpAnyH_take (i := 16) (oi := ⟨_, _, _, _, _, _⟩) (v := ?v157) rfl (by kernel_rfl) (by kernel_rfl) (by kernel_rfl) (fun _ _ _ h => h) (Or.inl ⟨by rfl, ?hy157⟩) (by assumption) ?_
            case hy157 => (intro w hSw; (try dsimp only at hSw); go_simp; (try (with_reducible rfl)))
            (try simp only [Act.put, List.setIfInBounds_toArray, List.set_cons_zero, List.set_cons_succ])
            refine wpAnyH_take (i := 17) (oi := ⟨_, _, _, _, _, _⟩) (v := ?v158) rfl (by kernel_rfl) (by kernel_rfl) (by kernel_rfl) (fun _ _ _ h => h) (Or.inl ⟨by rfl, ?hy158⟩) (by assumption) ?_
            case hy158 => (intro w hSw; (try dsimp only at hSw); go_simp; (try (with_reducible rfl)))
            (try simp only [Act.put, List.setIfInBounds_toArray, List.set_cons_zero, List.set_cons_succ])
            refine wpAnyH_take (i := 18) (oi := ⟨_, _, _, _, _, _⟩) (v := ?v159) rfl (by kernel_rfl) (by kernel_rfl) (by kernel_rfl) (fun _ _ _ h => h) (Or.inl ⟨by rfl, ?hy159⟩) (by assumption) ?_
            case hy159 => (intro w hSw; (try dsimp only at hSw); go_simp; (try (with_reducible rfl)))
            (try simp only [Act.put, List.setIfInBounds_toArray, List.set_cons_zero, List.set_cons_succ])
            refine wpAnyH_take (i := 19) (oi := ⟨_, _, _, _, _, _⟩) (v := ?v160) rfl (by kernel_rfl) (by kernel_rfl) (by kernel_rfl) (fun _ _ _ h => h) (Or.inl ⟨by rfl, ?hy160⟩) (by assumption) ?_
            case hy160 => (intro w hSw; (try dsimp only at hSw); go_simp; (try (with_reducible rfl)))
            (try simp only [Act.put, List.setIfInBounds_toArray, List.set_cons_zero, List.set_cons_succ])
            refine wpAnyH_take (i := 20) (oi := ⟨_, _, _, _, _, _⟩) (v := ?v161) rfl (by kernel_rfl) (by kernel_rfl) (by kernel_rfl) (fun _ _ _ h => h) (Or.inl ⟨by rfl, ?hy161⟩) (by assumption) ?_
            case hy161 => (intro w hSw; (try dsimp only at hSw); go_simp; (try (with_reducible rfl)))
            (try simp only [Act.put, List.setIfInBounds_toArray, List.set_cons_zero, List.set_cons_succ])
            refine wpAnyH_take (i := 21) (oi := ⟨_, _, _, _, _, _⟩) (v := ?v162) rfl (by kernel_rfl) (by kernel_rfl) (by kernel_rfl) (fun _ _ _ h => h) (Or.inl ⟨by rfl, ?hy162⟩) (by assumption) ?_
            case hy162 => (intro w hSw; (try dsimp only at hSw); go_simp; (try (with_reducible rfl)))
            (try simp only [Act.put, List.setIfInBounds_toArray, List.set_cons_zero, List.set_cons_succ])
            refine wpAnyH_take (i := 22) (oi := ⟨_, _, _, _, _, _⟩) (v := ?v163) rfl (by kernel_rfl) (by kernel_rfl) (by kernel_rfl) (fun _ _ _ h => h) (Or.inl ⟨by rfl, ?hy163⟩) (by assumption) ?_
            case hy163 => (intro w hSw; (try dsimp only at hSw); go_simp; (try (with_reducible rfl)))
            (try simp only [Act.put, List.setIfInBounds_toArray, List.set_cons_zero, List.set_cons_succ])
            refine wpAnyH_take (i := 23) (oi := ⟨_, _, _, _, _, _⟩) (v := ?v164) rfl (by kernel_rfl) (by kernel_rfl) (by kernel_rfl) (fun _ _ _ h => h) (Or.inl ⟨by rfl, ?hy164⟩) (by assumption) ?_
            case hy164 => (intro w hSw; (try dsimp only at hSw); go_simp; (try (with_reducible rfl)))
            (try simp only [Act.put, List.setIfInBounds_toArray, List.set_cons_zero, List.set_cons_succ])
            refine wpAnyH_ready (rs := [24]) (by kernel_rfl) (by simp) ?_
            refine AllReadyH.cons (o := ⟨_, _, _, _, _, _⟩) rfl (fun K hK => ?_) AllReadyH.nil
            go_simp
            (go_at_call 85; (with_reducible refine (K7.out _ hHeld.1).mono ?_); rintro e w3 ⟨rfl, hu⟩; have HU3 := Lib.hid hu; have HX3 := Lib.hid (keepK15 HU3 hHeld); clear hu)
            (try go_wp2_with fail)
            refine hK.out _ _ ?hB165 (fun hHeld => ?_)
            case hB165 => (first | (with_reducible assumption) | (with_reducible exact keepK15 (Lib.hid (Up.refl _).drew) HSS.out) | (with_reducible exact HX2.out) | (with_reducible exact HX3.out))
            clear hK K
            (try simp only [Act.put, List.setIfInBounds_toArray, List.set_cons_zero, List.set_cons_succ])
            refine wpAnyH_take (i := 25) (oi := ⟨_, _, _, _, _, _⟩) (v := ?v166) rfl (by kernel_rfl) (by kernel_rfl) (by kernel_rfl) (fun _ _ _ h => h) (Or.inl ⟨by rfl, ?hy166⟩) (by assumption) ?_
            case hy166 => (intro w hSw; (try dsimp only at hSw); go_simp; (try (with_reducible rfl)))
            (try simp only [Act.put, List.setIfInBounds_toArray, List.set_cons_zero, List.set_cons_succ])
            refine wpAnyH_take (i := 26) (oi := ⟨_, _, _, _, _, _⟩) (v := ?v167) rfl (by kernel_rfl) (by kernel_rfl) (by kernel_rfl) (fun _ _ _ h => h) (Or.inl ⟨by rfl, ?hy167⟩) (by assumption) ?_
            case hy167 => (intro w hSw; (try dsimp only at hSw); go_simp; (try (with_reducible rfl)))
            (try simp only [Act.put, List.setIfInBounds_toArray, List.set_cons_zero, List.set_cons_succ])
            refine wpAnyH_done (by kernel_rfl) ?_ _
            go_wp2_with fail
            go_ret
            exact ⟨rfl, HU1.out.trans HX3.out.1⟩
          | true =>
            have HA2 := Lib.hid (HA1.out (fun _ _ => hk))
            rw [hk] at K7
            clear hk HX HY HA1 HDi HDp HDq Hp Hq HPc HQc HB HT HD KC
            go_wp2_with fail
            refine wp_region_held_drew (S := fun w' => Up w1 w' ∧ w'.cell? ⟨w.heap.size, 6, none⟩ = some (.slice (some ⟨b, o, none⟩) n k) ∧ w'.cell? ⟨wr.heap.size, 0, none⟩ = some (.int .i64 sq) ∧ w'.cell? ⟨wr.heap.size, 1, none⟩ = some (.int .i64 t) ∧ w'.cell? ⟨wr.heap.size, 2, none⟩ = some (.int .i64 nn) ∧ w'.cell? ⟨wr.heap.size, 3, none⟩ = some (.int .i64 s) ∧ w'.cell? ⟨wr.heap.size, 4, none⟩ = some (.int .i64 qq) ∧ w'.cell? ⟨wr.heap.size, 5, none⟩ = some (.int .i64 lo) ∧ w'.cell? ⟨wr.heap.size, 6, none⟩ = some (.int .i64 hi) ∧ w'.cell? ⟨b, o, none⟩ = some (.int .i64 sq1) ∧ w'.cell? ⟨b, o + 1, none⟩ = some (.int .i64 t1) ∧ w'.cell? ⟨b, o + 2, none⟩ = some (.int .i64 nn1) ∧ w'.cell? ⟨b, o + 3, none⟩ = some (.int .i64 s1) ∧ w'.cell? ⟨b, o + 4, none⟩ = some (.int .i64 qq1) ∧ w'.cell? ⟨b, o + 5, none⟩ = some (.int .i64 lo1) ∧ w'.cell? ⟨b, o + 6, none⟩ = some (.int .i64 hi1)) (by kernel_rfl) ?hB168 (fun hHeld => ?_)
            case hB168 => (first | (with_reducible assumption) | (with_reducible exact keepK15 (Lib.hid (Up.refl _).drew) HSS.out) | (with_reducible exact HX2.out) | (with_reducible exact HX3.out))
            refine wpAnyH_take (i := 0) (oi := ⟨_, _, _, _, _, _⟩) (v := ?v169) rfl (by kernel_rfl) (by kernel_rfl) (by kernel_rfl) (fun _ _ _ h => h) (Or.inl ⟨by rfl, ?hy169⟩) (by assumption) ?_
            case hy169 => (intro w hSw; (try dsimp only at hSw); go_simp; (try (with_reducible rfl)))
            (try simp only [Act.put, List.setIfInBounds_toArray, List.set_cons_zero, List.set_cons_succ])
            refine wpAnyH_take (i := 1) (oi := ⟨_, _, _, _, _, _⟩) (v := ?v170) rfl (by kernel_rfl) (by kernel_rfl) (by kernel_rfl) (fun _ _ _ h => h) (Or.inl ⟨by rfl, ?hy170⟩) (by assumption) ?_
            case hy170 => (intro w hSw; (try dsimp only at hSw); go_simp; (try (with_reducible rfl)))
            (try simp only [Act.put, List.setIfInBounds_toArray, List.set_cons_zero, List.set_cons_succ])
            refine wpAnyH_take (i := 2) (oi := ⟨_, _, _, _, _, _⟩) (v := ?v171) rfl (by kernel_rfl) (by kernel_rfl) (by kernel_rfl) (fun _ _ _ h => h) (Or.inl ⟨by rfl, ?hy171⟩) (by assumption) ?_
            case hy171 => (intro w hSw; (try dsimp only at hSw); go_simp; (try (with_reducible rfl)))
            (try simp only [Act.put, List.setIfInBounds_toArray, List.set_cons_zero, List.set_cons_succ])
            refine wpAnyH_take (i := 3) (oi := ⟨_, _, _, _, _, _⟩) (v := ?v172) rfl (by kernel_rfl) (by kernel_rfl) (by kernel_rfl) (fun _ _ _ h => h) (Or.inl ⟨by rfl, ?hy172⟩) (by assumption) ?_
            case hy172 => (intro w hSw; (try dsimp only at hSw); go_simp; (try (with_reducible rfl)))
            (try simp only [Act.put, List.setIfInBounds_toArray, List.set_cons_zero, List.set_cons_succ])
            refine wpAnyH_take (i := 4) (oi := ⟨_, _, _, _, _, _⟩) (v := ?v173) rfl (by kernel_rfl) (by kernel_rfl) (by kernel_rfl) (fun _ _ _ h => h) (Or.inl ⟨by rfl, ?hy173⟩) (by assumption) ?_
            case hy173 => (intro w hSw; (try dsimp only at hSw); go_simp; (try (with_reducible rfl)))
            (try simp only [Act.put, List.setIfInBounds_toArray, List.set_cons_zero, List.set_cons_succ])
            refine wpAnyH_take (i := 5) (oi := ⟨_, _, _, _, _, _⟩) (v := ?v174) rfl (by kernel_rfl) (by kernel_rfl) (by kernel_rfl) (fun _ _ _ h => h) (Or.inl ⟨by rfl, ?hy174⟩) (by assumption) ?_
            case hy174 => (intro w hSw; (try dsimp only at hSw); go_simp; (try (with_reducible rfl)))
            (try simp only [Act.put, List.setIfInBounds_toArray, List.set_cons_zero, List.set_cons_succ])
            refine wpAnyH_take (i := 6) (oi := ⟨_, _, _, _, _, _⟩) (v := ?v175) rfl (by kernel_rfl) (by kernel_rfl) (by kernel_rfl) (fun _ _ _ h => h) (Or.inl ⟨by rfl, ?hy175⟩) (by assumption) ?_
            case hy175 => (intro w hSw; (try dsimp only at hSw); go_simp; (try (with_reducible rfl)))
            (try simp only [Act.put, List.setIfInBounds_toArray, List.set_cons_zero, List.set_cons_succ])
            refine wpAnyH_take (i := 7) (oi := ⟨_, _, _, _, _, _⟩) (v := ?v176) rfl (by kernel_rfl) (by kernel_rfl) (by kernel_rfl) (fun _ _ _ h => h) (Or.inl ⟨by rfl, ?hy176⟩) (by assumption) ?_
            case hy176 => (intro w hSw; (try dsimp only at hSw); go_simp; (try (with_reducible rfl)))
            (try simp only [Act.put, List.setIfInBounds_toArray, List.set_cons_zero, List.set_cons_succ])
            refine wpAnyH_take (i := 8) (oi := ⟨_, _, _, _, _, _⟩) (v := ?v177) rfl (by kernel_rfl) (by kernel_rfl) (by kernel_rfl) (fun _ _ _ h => h) (Or.inl ⟨by rfl, ?hy177⟩) (by assumption) ?_
            case hy177 => (intro w hSw; (try dsimp only at hSw); go_simp; (try (with_reducible rfl)))
            (try simp only [Act.put, List.setIfInBounds_toArray, List.set_cons_zero, List.set_cons_succ])
            refine wpAnyH_take (i := 9) (oi := ⟨_, _, _, _, _, _⟩) (v := ?v178) rfl (by kernel_rfl) (by kernel_rfl) (by kernel_rfl) (fun _ _ _ h => h) (Or.inl ⟨by rfl, ?hy178⟩) (by assumption) ?_
            case hy178 => (intro w hSw; (try dsimp only at hSw); go_simp; (try (with_reducible rfl)))
            (try simp only [Act.put, List.setIfInBounds_toArray, List.set_cons_zero, List.set_cons_succ])
            refine wpAnyH_take (i := 10) (oi := ⟨_, _, _, _, _, _⟩) (v := ?v179) rfl (by kernel_rfl) (by kernel_rfl) (by kernel_rfl) (fun _ _ _ h => h) (Or.inl ⟨by rfl, ?hy179⟩) (by assumption) ?_
            case hy179 => (intro w hSw; (try dsimp only at hSw); go_simp; (try (with_reducible rfl)))
            (try simp only [Act.put, List.setIfInBounds_toArray, List.set_cons_zero, List.set_cons_succ])
            refine wpAnyH_take (i := 11) (oi := ⟨_, _, _, _, _, _⟩) (v := ?v180) rfl (by kernel_rfl) (by kernel_rfl) (by kernel_rfl) (fun _ _ _ h => h) (Or.inl ⟨by rfl, ?hy180⟩) (by assumption) ?_
            case hy180 => (intro w hSw; (try dsimp only at hSw); go_simp; (try (with_reducible rfl)))
            (try simp only [Act.put, List.setIfInBounds_toArray, List.set_cons_zero, List.set_cons_succ])
            refine wpAnyH_take (i := 12) (oi := ⟨_, _, _, _, _, _⟩) (v := ?v181) rfl (by kernel_rfl) (by kernel_rfl) (by kernel_rfl) (fun _ _ _ h => h) (Or.inl ⟨by rfl, ?hy181⟩) (by assumption) ?_
            case hy181 => (intro w hSw; (try dsimp only at hSw); go_simp; (try (with_reducible rfl)))
            (try simp only [Act.put, List.setIfInBounds_toArray, List.set_cons_zero, List.set_cons_succ])
            refine wpAnyH_take (i := 13) (oi := ⟨_, _, _, _, _, _⟩) (v := ?v182) rfl (by kernel_rfl) (by kernel_rfl) (by kernel_rfl) (fun _ _ _ h => h) (Or.inl ⟨by rfl, ?hy182⟩) (by assumption) ?_
            case hy182 => (intro w hSw; (try dsimp only at hSw); go_simp; (try (with_reducible rfl)))
            (try simp only [Act.put, List.setIfInBounds_toArray, List.set_cons_zero, List.set_cons_succ])
            refine wpAnyH_take (i := 14) (oi := ⟨_, _, _, _, _, _⟩) (v := ?v183) rfl (by kernel_rfl) (by kernel_rfl) (by kernel_rfl) (fun _ _ _ h => h) (Or.inl ⟨by rfl, ?hy183⟩) (by assumption) ?_
            case hy183 => (intro w hSw; (try dsimp only at hSw); go_simp; (try (with_reducible rfl)))
            (try simp only [Act.put, List.setIfInBounds_toArray, List.set_cons_zero, List.set_cons_succ])
            refine wpAnyH_take (i := 15) (oi := ⟨_, _, _, _, _, _⟩) (v := ?v184) rfl (by kernel_rfl) (by kernel_rfl) (by kernel_rfl) (fun _ _ _ h => h) (Or.inl ⟨by rfl, ?hy184⟩) (by assumption) ?_
            case hy184 => (intro w hSw; (try dsimp only at hSw); go_simp; (try (with_reducible rfl)))
            (try simp only [Act.put, List.setIfInBounds_toArray, List.set_cons_zero, List.set_cons_succ])
            refine wpAnyH_take (i := 16) (oi := ⟨_, _, _, _, _, _⟩) (v := ?v185) rfl (by kernel_rfl) (by kernel_rfl) (by kernel_rfl) (fun _ _ _ h => h) (Or.inl ⟨by rfl, ?hy185⟩) (by assumption) ?_
            case hy185 => (intro w hSw; (try dsimp only at hSw); go_simp; (try (with_reducible rfl)))
            (try simp only [Act.put, List.setIfInBounds_toArray, List.set_cons_zero, List.set_cons_succ])
            refine wpAnyH_take (i := 17) (oi := ⟨_, _, _, _, _, _⟩) (v := ?v186) rfl (by kernel_rfl) (by kernel_rfl) (by kernel_rfl) (fun _ _ _ h => h) (Or.inl ⟨by rfl, ?hy186⟩) (by assumption) ?_
            case hy186 => (intro w hSw; (try dsimp only at hSw); go_simp; (try (with_reducible rfl)))
            (try simp only [Act.put, List.setIfInBounds_toArray, List.set_cons_zero, List.set_cons_succ])
            refine wpAnyH_take (i := 18) (oi := ⟨_, _, _, _, _, _⟩) (v := ?v187) rfl (by kernel_rfl) (by kernel_rfl) (by kernel_rfl) (fun _ _ _ h => h) (Or.inl ⟨by rfl, ?hy187⟩) (by assumption) ?_
            case hy187 => (intro w hSw; (try dsimp only at hSw); go_simp; (try (with_reducible rfl)))
            (try simp only [Act.put, List.setIfInBounds_toArray, List.set_cons_zero, List.set_cons_succ])
            refine wpAnyH_take (i := 19) (oi := ⟨_, _, _, _, _, _⟩) (v := ?v188) rfl (by kernel_rfl) (by kernel_rfl) (by kernel_rfl) (fun _ _ _ h => h) (Or.inl ⟨by rfl, ?hy188⟩) (by assumption) ?_
            case hy188 => (intro w hSw; (try dsimp only at hSw); go_simp; (try (with_reducible rfl)))
            (try simp only [Act.put, List.setIfInBounds_toArray, List.set_cons_zero, List.set_cons_succ])
            refine wpAnyH_take (i := 20) (oi := ⟨_, _, _, _, _, _⟩) (v := ?v189) rfl (by kernel_rfl) (by kernel_rfl) (by kernel_rfl) (fun _ _ _ h => h) (Or.inl ⟨by rfl, ?hy189⟩) (by assumption) ?_
            case hy189 => (intro w hSw; (try dsimp only at hSw); go_simp; (try (with_reducible rfl)))
            (try simp only [Act.put, List.setIfInBounds_toArray, List.set_cons_zero, List.set_cons_succ])
            refine wpAnyH_take (i := 21) (oi := ⟨_, _, _, _, _, _⟩) (v := ?v190) rfl (by kernel_rfl) (by kernel_rfl) (by kernel_rfl) (fun _ _ _ h => h) (Or.inl ⟨by rfl, ?hy190⟩) (by assumption) ?_
            case hy190 => (intro w hSw; (try dsimp only at hSw); go_simp; (try (with_reducible rfl)))
            (try simp only [Act.put, List.setIfInBounds_toArray, List.set_cons_zero, List.set_cons_succ])
            refine wpAnyH_take (i := 22) (oi := ⟨_, _, _, _, _, _⟩) (v := ?v191) rfl (by kernel_rfl) (by kernel_rfl) (by kernel_rfl) (fun _ _ _ h => h) (Or.inl ⟨by rfl, ?hy191⟩) (by assumption) ?_
            case hy191 => (intro w hSw; (try dsimp only at hSw); go_simp; (try (with_reducible rfl)))
            (try simp only [Act.put, List.setIfInBounds_toArray, List.set_cons_zero, List.set_cons_succ])
            refine wpAnyH_take (i := 23) (oi := ⟨_, _, _, _, _, _⟩) (v := ?v192) rfl (by kernel_rfl) (by kernel_rfl) (by kernel_rfl) (fun _ _ _ h => h) (Or.inl ⟨by rfl, ?hy192⟩) (by assumption) ?_
            case hy192 => (intro w hSw; (try dsimp only at hSw); go_simp; (try (with_reducible rfl)))
            (try simp only [Act.put, List.setIfInBounds_toArray, List.set_cons_zero, List.set_cons_succ])
            refine wpAnyH_ready (rs := [24]) (by kernel_rfl) (by simp) ?_
            refine AllReadyH.cons (o := ⟨_, _, _, _, _, _⟩) rfl (fun K hK => ?_) AllReadyH.nil
            go_simp
            (go_at_call 85; (with_reducible refine (K7.out _ hHeld.1).mono ?_); rintro e w3 ⟨rfl, hu⟩; have HU3 := Lib.hid hu; have HX3 := Lib.hid (keepK15 HU3 hHeld); clear hu)
            (try go_wp2_with fail)
            refine hK.out _ _ ?hB193 (fun hHeld => ?_)
            case hB193 => (first | (with_reducible assumption) | (with_reducible exact keepK15 (Lib.hid (Up.refl _).drew) HSS.out) | (with_reducible exact HX2.out) | (with_reducible exact HX3.out))
            clear hK K
            (try simp only [Act.put, List.setIfInBounds_toArray, List.set_cons_zero, List.set_cons_succ])
            refine wpAnyH_take (i := 25) (oi := ⟨_, _, _, _, _, _⟩) (v := ?v194) rfl (by kernel_rfl) (by kernel_rfl) (by kernel_rfl) (fun _ _ _ h => h) (Or.inl ⟨by rfl, ?hy194⟩) (by assumption) ?_
            case hy194 => (intro w hSw; (try dsimp only at hSw); go_simp; (try (with_reducible rfl)))
            (try simp only [Act.put, List.setIfInBounds_toArray, List.set_cons_zero, List.set_cons_succ])
            refine wpAnyH_take (i := 26) (oi := ⟨_, _, _, _, _, _⟩) (v := ?v195) rfl (by kernel_rfl) (by kernel_rfl) (by kernel_rfl) (fun _ _ _ h => h) (Or.inl ⟨by rfl, ?hy195⟩) (by assumption) ?_
            case hy195 => (intro w hSw; (try dsimp only at hSw); go_simp; (try (with_reducible rfl)))
            (try simp only [Act.put, List.setIfInBounds_toArray, List.set_cons_zero, List.set_cons_succ])
            refine wpAnyH_done (by kernel_rfl) ?_ _
            obtain ⟨u8, f8, _⟩ := hHeld
            (repeat clear ‹Up w1 _ ∧ _›)
            go_wp2_with fail
            go_roundw
            case rel => exact ⟨1 + 1, by go_num, by omega, HA2, Lib.hid ⟨u8, f8⟩⟩
            case measure => simp [intOf]; omega
        · have td : decide (1 < sq - sq1) = false := decide_eq_false hd
          have HA2 := Lib.hid (HA1.out (fun _ h => absurd h (by omega)))
          clear HX HY HA1 HDi HDp HDq Hp Hq HPc HQc HB HT HD KC
          go_wp2_with fail
          refine wp_region_held_drew (S := fun w' => Up w1 w' ∧ w'.cell? ⟨w.heap.size, 6, none⟩ = some (.slice (some ⟨b, o, none⟩) n k) ∧ w'.cell? ⟨wr.heap.size, 0, none⟩ = some (.int .i64 sq) ∧ w'.cell? ⟨wr.heap.size, 1, none⟩ = some (.int .i64 t) ∧ w'.cell? ⟨wr.heap.size, 2, none⟩ = some (.int .i64 nn) ∧ w'.cell? ⟨wr.heap.size, 3, none⟩ = some (.int .i64 s) ∧ w'.cell? ⟨wr.heap.size, 4, none⟩ = some (.int .i64 qq) ∧ w'.cell? ⟨wr.heap.size, 5, none⟩ = some (.int .i64 lo) ∧ w'.cell? ⟨wr.heap.size, 6, none⟩ = some (.int .i64 hi) ∧ w'.cell? ⟨b, o, none⟩ = some (.int .i64 sq1) ∧ w'.cell? ⟨b, o + 1, none⟩ = some (.int .i64 t1) ∧ w'.cell? ⟨b, o + 2, none⟩ = some (.int .i64 nn1) ∧ w'.cell? ⟨b, o + 3, none⟩ = some (.int .i64 s1) ∧ w'.cell? ⟨b, o + 4, none⟩ = some (.int .i64 qq1) ∧ w'.cell? ⟨b, o + 5, none⟩ = some (.int .i64 lo1) ∧ w'.cell? ⟨b, o + 6, none⟩ = some (.int .i64 hi1)) (by kernel_rfl) ?hB196 (fun hHeld => ?_)
          case hB196 => (first | (with_reducible assumption) | (with_reducible exact keepK15 (Lib.hid (Up.refl _).drew) HSS.out) | (with_reducible exact HX2.out) | (with_reducible exact HX3.out))
          refine wpAnyH_take (i := 0) (oi := ⟨_, _, _, _, _, _⟩) (v := ?v197) rfl (by kernel_rfl) (by kernel_rfl) (by kernel_rfl) (fun _ _ _ h => h) (Or.inl ⟨by rfl, ?hy197⟩) (by assumption) ?_
          case hy197 => (intro w hSw; (try dsimp only at hSw); go_simp; (try (with_reducible rfl)))
          (try simp only [Act.put, List.setIfInBounds_toArray, List.set_cons_zero, List.set_cons_succ])
          refine wpAnyH_take (i := 1) (oi := ⟨_, _, _, _, _, _⟩) (v := ?v198) rfl (by kernel_rfl) (by kernel_rfl) (by kernel_rfl) (fun _ _ _ h => h) (Or.inl ⟨by rfl, ?hy198⟩) (by assumption) ?_
          case hy198 => (intro w hSw; (try dsimp only at hSw); go_simp; (try (with_reducible rfl)))
          (try simp only [Act.put, List.setIfInBounds_toArray, List.set_cons_zero, List.set_cons_succ])
          refine wpAnyH_take (i := 2) (oi := ⟨_, _, _, _, _, _⟩) (v := ?v199) rfl (by kernel_rfl) (by kernel_rfl) (by kernel_rfl) (fun _ _ _ h => h) (Or.inl ⟨by rfl, ?hy199⟩) (by assumption) ?_
          case hy199 => (intro w hSw; (try dsimp only at hSw); go_simp; (try (with_reducible rfl)))
          (try simp only [Act.put, List.setIfInBounds_toArray, List.set_cons_zero, List.set_cons_succ])
          refine wpAnyH_take (i := 3) (oi := ⟨_, _, _, _, _, _⟩) (v := ?v200) rfl (by kernel_rfl) (by kernel_rfl) (by kernel_rfl) (fun _ _ _ h => h) (Or.inl ⟨by rfl, ?hy200⟩) (by assumption) ?_
          case hy200 => (intro w hSw; (try dsimp only at hSw); go_simp; (try (with_reducible rfl)))
          (try simp only [Act.put, List.setIfInBounds_toArray, List.set_cons_zero, List.set_cons_succ])
          refine wpAnyH_take (i := 4) (oi := ⟨_, _, _, _, _, _⟩) (v := ?v201) rfl (by kernel_rfl) (by kernel_rfl) (by kernel_rfl) (fun _ _ _ h => h) (Or.inl ⟨by rfl, ?hy201⟩) (by assumption) ?_
          case hy201 => (intro w hSw; (try dsimp only at hSw); go_simp; (try (with_reducible rfl)))
          (try simp only [Act.put, List.setIfInBounds_toArray, List.set_cons_zero, List.set_cons_succ])
          refine wpAnyH_take (i := 5) (oi := ⟨_, _, _, _, _, _⟩) (v := ?v202) rfl (by kernel_rfl) (by kernel_rfl) (by kernel_rfl) (fun _ _ _ h => h) (Or.inl ⟨by rfl, ?hy202⟩) (by assumption) ?_
          case hy202 => (intro w hSw; (try dsimp only at hSw); go_simp; (try (with_reducible rfl)))
          (try simp only [Act.put, List.setIfInBounds_toArray, List.set_cons_zero, List.set_cons_succ])
          refine wpAnyH_take (i := 6) (oi := ⟨_, _, _, _, _, _⟩) (v := ?v203) rfl (by kernel_rfl) (by kernel_rfl) (by kernel_rfl) (fun _ _ _ h => h) (Or.inl ⟨by rfl, ?hy203⟩) (by assumption) ?_
          case hy203 => (intro w hSw; (try dsimp only at hSw); go_simp; (try (with_reducible rfl)))
          (try simp only [Act.put, List.setIfInBounds_toArray, List.set_cons_zero, List.set_cons_succ])
          refine wpAnyH_take (i := 7) (oi := ⟨_, _, _, _, _, _⟩) (v := ?v204) rfl (by kernel_rfl) (by kernel_rfl) (by kernel_rfl) (fun _ _ _ h => h) (Or.inl ⟨by rfl, ?hy204⟩) (by assumption) ?_
          case hy204 => (intro w hSw; (try dsimp only at hSw); go_simp; (try (with_reducible rfl)))
          (try simp only [Act.put, List.setIfInBounds_toArray, List.set_cons_zero, List.set_cons_succ])
          refine wpAnyH_take (i := 8) (oi := ⟨_, _, _, _, _, _⟩) (v := ?v205) rfl (by kernel_rfl) (by kernel_rfl) (by kernel_rfl) (fun _ _ _ h => h) (Or.inl ⟨by rfl, ?hy205⟩) (by assumption) ?_
          case hy205 => (intro w hSw; (try dsimp only at hSw); go_simp; (try (with_reducible rfl)))
          (try simp only [Act.put, List.setIfInBounds_toArray, List.set_cons_zero, List.set_cons_succ])
          refine wpAnyH_take (i := 9) (oi := ⟨_, _, _, _, _, _⟩) (v := ?v206) rfl (by kernel_rfl) (by kernel_rfl) (by kernel_rfl) (fun _ _ _ h => h) (Or.inl ⟨by rfl, ?hy206⟩) (by assumption) ?_
          case hy206 => (intro w hSw; (try dsimp only at hSw); go_simp; (try (with_reducible rfl)))
          (try simp only [Act.put, List.setIfInBounds_toArray, List.set_cons_zero, List.set_cons_succ])
          refine wpAnyH_take (i := 10) (oi := ⟨_, _, _, _, _, _⟩) (v := ?v207) rfl (by kernel_rfl) (by kernel_rfl) (by kernel_rfl) (fun _ _ _ h => h) (Or.inl ⟨by rfl, ?hy207⟩) (by assumption) ?_
          case hy207 => (intro w hSw; (try dsimp only at hSw); go_simp; (try (with_reducible rfl)))
          (try simp only [Act.put, List.setIfInBounds_toArray, List.set_cons_zero, List.set_cons_succ])
          refine wpAnyH_take (i := 11) (oi := ⟨_, _, _, _, _, _⟩) (v := ?v208) rfl (by kernel_rfl) (by kernel_rfl) (by kernel_rfl) (fun _ _ _ h => h) (Or.inl ⟨by rfl, ?hy208⟩) (by assumption) ?_
          case hy208 => (intro w hSw; (try dsimp only at hSw); go_simp; (try (with_reducible rfl)))
          (try simp only [Act.put, List.setIfInBounds_toArray, List.set_cons_zero, List.set_cons_succ])
          refine wpAnyH_take (i := 12) (oi := ⟨_, _, _, _, _, _⟩) (v := ?v209) rfl (by kernel_rfl) (by kernel_rfl) (by kernel_rfl) (fun _ _ _ h => h) (Or.inl ⟨by rfl, ?hy209⟩) (by assumption) ?_
          case hy209 => (intro w hSw; (try dsimp only at hSw); go_simp; (try (with_reducible rfl)))
          (try simp only [Act.put, List.setIfInBounds_toArray, List.set_cons_zero, List.set_cons_succ])
          refine wpAnyH_take (i := 13) (oi := ⟨_, _, _, _, _, _⟩) (v := ?v210) rfl (by kernel_rfl) (by kernel_rfl) (by kernel_rfl) (fun _ _ _ h => h) (Or.inl ⟨by rfl, ?hy210⟩) (by assumption) ?_
          case hy210 => (intro w hSw; (try dsimp only at hSw); go_simp; (try (with_reducible rfl)))
          (try simp only [Act.put, List.setIfInBounds_toArray, List.set_cons_zero, List.set_cons_succ])
          refine wpAnyH_take (i := 14) (oi := ⟨_, _, _, _, _, _⟩) (v := ?v211) rfl (by kernel_rfl) (by kernel_rfl) (by kernel_rfl) (fun _ _ _ h => h) (Or.inl ⟨by rfl, ?hy211⟩) (by assumption) ?_
          case hy211 => (intro w hSw; (try dsimp only at hSw); go_simp; (try (with_reducible rfl)))
          (try simp only [Act.put, List.setIfInBounds_toArray, List.set_cons_zero, List.set_cons_succ])
          refine wpAnyH_take (i := 15) (oi := ⟨_, _, _, _, _, _⟩) (v := ?v212) rfl (by kernel_rfl) (by kernel_rfl) (by kernel_rfl) (fun _ _ _ h => h) (Or.inl ⟨by rfl, ?hy212⟩) (by assumption) ?_
          case hy212 => (intro w hSw; (try dsimp only at hSw); go_simp; (try (with_reducible rfl)))
          (try simp only [Act.put, List.setIfInBounds_toArray, List.set_cons_zero, List.set_cons_succ])
          refine wpAnyH_take (i := 16) (oi := ⟨_, _, _, _, _, _⟩) (v := undef) rfl (by kernel_rfl) (by kernel_rfl) (by kernel_rfl) (fun _ _ _ h => h) (Or.inr ⟨by rfl, rfl⟩) (by assumption) ?_
          (try simp only [Act.put, List.setIfInBounds_toArray, List.set_cons_zero, List.set_cons_succ])
          refine wpAnyH_take (i := 17) (oi := ⟨_, _, _, _, _, _⟩) (v := undef) rfl (by kernel_rfl) (by kernel_rfl) (by kernel_rfl) (fun _ _ _ h => h) (Or.inr ⟨by rfl, rfl⟩) (by assumption) ?_
          (try simp only [Act.put, List.setIfInBounds_toArray, List.set_cons_zero, List.set_cons_succ])
          refine wpAnyH_take (i := 18) (oi := ⟨_, _, _, _, _, _⟩) (v := undef) rfl (by kernel_rfl) (by kernel_rfl) (by kernel_rfl) (fun _ _ _ h => h) (Or.inr ⟨by rfl, rfl⟩) (by assumption) ?_
          (try simp only [Act.put, List.setIfInBounds_toArray, List.set_cons_zero, List.set_cons_succ])
          refine wpAnyH_take (i := 19) (oi := ⟨_, _, _, _, _, _⟩) (v := undef) rfl (by kernel_rfl) (by kernel_rfl) (by kernel_rfl) (fun _ _ _ h => h) (Or.inr ⟨by rfl, rfl⟩) (by assumption) ?_
          (try simp only [Act.put, List.setIfInBounds_toArray, List.set_cons_zero, List.set_cons_succ])
          refine wpAnyH_take (i := 20) (oi := ⟨_, _, _, _, _, _⟩) (v := undef) rfl (by kernel_rfl) (by kernel_rfl) (by kernel_rfl) (fun _ _ _ h => h) (Or.inr ⟨by rfl, rfl⟩) (by assumption) ?_
          (try simp only [Act.put, List.setIfInBounds_toArray, List.set_cons_zero, List.set_cons_succ])
          refine wpAnyH_take (i := 21) (oi := ⟨_, _, _, _, _, _⟩) (v := undef) rfl (by kernel_rfl) (by kernel_rfl) (by kernel_rfl) (fun _ _ _ h => h) (Or.inr ⟨by rfl, rfl⟩) (by assumption) ?_
          (try simp only [Act.put, List.setIfInBounds_toArray, List.set_cons_zero, List.set_cons_succ])
          refine wpAnyH_take (i := 22) (oi := ⟨_, _, _, _, _, _⟩) (v := undef) rfl (by kernel_rfl) (by kernel_rfl) (by kernel_rfl) (fun _ _ _ h => h) (Or.inr ⟨by rfl, rfl⟩) (by assumption) ?_
          (try simp only [Act.put, List.setIfInBounds_toArray, List.set_cons_zero, List.set_cons_succ])
          refine wpAnyH_take (i := 23) (oi := ⟨_, _, _, _, _, _⟩) (v := undef) rfl (by kernel_rfl) (by kernel_rfl) (by kernel_rfl) (fun _ _ _ h => h) (Or.inr ⟨by rfl, rfl⟩) (by assumption) ?_
          (try simp only [Act.put, List.setIfInBounds_toArray, List.set_cons_zero, List.set_cons_succ])
          refine wpAnyH_take (i := 24) (oi := ⟨_, _, _, _, _, _⟩) (v := undef) rfl (by kernel_rfl) (by kernel_rfl) (by kernel_rfl) (fun _ _ _ h => h) (Or.inr ⟨by rfl, rfl⟩) (by assumption) ?_
          (try simp only [Act.put, List.setIfInBounds_toArray, List.set_cons_zero, List.set_cons_succ])
          refine wpAnyH_take (i := 25) (oi := ⟨_, _, _, _, _, _⟩) (v := undef) rfl (by kernel_rfl) (by kernel_rfl) (by kernel_rfl) (fun _ _ _ h => h) (Or.inr ⟨by rfl, rfl⟩) (by assumption) ?_
          (try simp only [Act.put, List.setIfInBounds_toArray, List.set_cons_zero, List.set_cons_succ])
          refine wpAnyH_take (i := 26) (oi := ⟨_, _, _, _, _, _⟩) (v := ?v213) rfl (by kernel_rfl) (by kernel_rfl) (by kernel_rfl) (fun _ _ _ h => h) (Or.inl ⟨by rfl, ?hy213⟩) (by assumption) ?_
          case hy213 => (intro w hSw; (try dsimp only at hSw); go_simp; (try (with_reducible rfl)))
          (try simp only [Act.put, List.setIfInBounds_toArray, List.set_cons_zero, List.set_cons_succ])
          refine wpAnyH_done (by kernel_rfl) ?_ _
          obtain ⟨u8, f8, _⟩ := hHeld
          (repeat clear ‹Up w1 _ ∧ _›)
          go_wp2_with fail
          go_roundw
          case rel => exact ⟨1 + 1, by go_num, by omega, HA2, Lib.hid ⟨u8, f8⟩⟩
          case measure => simp [intOf]; omega
      · obtain ⟨p, rfl⟩ : ∃ p, i = p + 2 := ⟨i - 2, by omega⟩
        have ei : ((p + 2 : Nat) : Int) = (p : Int) + 2 := by omega
        have q1 : Hid ((1 : Nat) < p + 2) := Lib.hid (by omega)
        have q0 : Hid ((0 : Nat) < p + 2) := Lib.hid (by omega)
        have BQ := HDi.out
        have BP := HDp.out q0.out
        have s1 : 1 ≤ sq ∧ sq ≤ 1099511627776 := BQ.2.2.2.2.2
        have s2 : 1 ≤ sq1 ∧ sq1 ≤ 1099511627776 := BP.2.2.2.2.2
        obtain ⟨s11, s12⟩ := s1
        obtain ⟨s21, s22⟩ := s2
        have s3 : IntKind.i64.wrap (sq - sq1) = sq - sq1 := by rw [IntKind.wrap_i64]; omega
        have HSS : Hid (Up w1 (wr.alloc (.cells #[.int .i64 sq, .int .i64 t, .int .i64 nn, .int .i64 s, .int .i64 qq, .int .i64 lo, .int .i64 hi] 23)) ∧ (wr.alloc (.cells #[.int .i64 sq, .int .i64 t, .int .i64 nn, .int .i64 s, .int .i64 qq, .int .i64 lo, .int .i64 hi] 23)).cell? ⟨w.heap.size, 6, none⟩ = some (.slice (some ⟨b, o, none⟩) n k) ∧ (wr.alloc (.cells #[.int .i64 sq, .int .i64 t, .int .i64 nn, .int .i64 s, .int .i64 qq, .int .i64 lo, .int .i64 hi] 23)).cell? ⟨wr.heap.size, 0, none⟩ = some (.int .i64 sq) ∧ (wr.alloc (.cells #[.int .i64 sq, .int .i64 t, .int .i64 nn, .int .i64 s, .int .i64 qq, .int .i64 lo, .int .i64 hi] 23)).cell? ⟨wr.heap.size, 1, none⟩ = some (.int .i64 t) ∧ (wr.alloc (.cells #[.int .i64 sq, .int .i64 t, .int .i64 nn, .int .i64 s, .int .i64 qq, .int .i64 lo, .int .i64 hi] 23)).cell? ⟨wr.heap.size, 2, none⟩ = some (.int .i64 nn) ∧ (wr.alloc (.cells #[.int .i64 sq, .int .i64 t, .int .i64 nn, .int .i64 s, .int .i64 qq, .int .i64 lo, .int .i64 hi] 23)).cell? ⟨wr.heap.size, 3, none⟩ = some (.int .i64 s) ∧ (wr.alloc (.cells #[.int .i64 sq, .int .i64 t, .int .i64 nn, .int .i64 s, .int .i64 qq, .int .i64 lo, .int .i64 hi] 23)).cell? ⟨wr.heap.size, 4, none⟩ = some (.int .i64 qq) ∧ (wr.alloc (.cells #[.int .i64 sq, .int .i64 t, .int .i64 nn, .int .i64 s, .int .i64 qq, .int .i64 lo, .int .i64 hi] 23)).cell? ⟨wr.heap.size, 5, none⟩ = some (.int .i64 lo) ∧ (wr.alloc (.cells #[.int .i64 sq, .int .i64 t, .int .i64 nn, .int .i64 s, .int .i64 qq, .int .i64 lo, .int .i64 hi] 23)).cell? ⟨wr.heap.size, 6, none⟩ = some (.int .i64 hi) ∧ (wr.alloc (.cells #[.int .i64 sq, .int .i64 t, .int .i64 nn, .int .i64 s, .int .i64 qq, .int .i64 lo, .int .i64 hi] 23)).cell? ⟨b, o + (p + 1) * 7, none⟩ = some (.int .i64 sq1) ∧ (wr.alloc (.cells #[.int .i64 sq, .int .i64 t, .int .i64 nn, .int .i64 s, .int .i64 qq, .int .i64 lo, .int .i64 hi] 23)).cell? ⟨b, o + (p + 1) * 7 + 1, none⟩ = some (.int .i64 t1) ∧ (wr.alloc (.cells #[.int .i64 sq, .int .i64 t, .int .i64 nn, .int .i64 s, .int .i64 qq, .int .i64 lo, .int .i64 hi] 23)).cell? ⟨b, o + (p + 1) * 7 + 2, none⟩ = some (.int .i64 nn1) ∧ (wr.alloc (.cells #[.int .i64 sq, .int .i64 t, .int .i64 nn, .int .i64 s, .int .i64 qq, .int .i64 lo, .int .i64 hi] 23)).cell? ⟨b, o + (p + 1) * 7 + 3, none⟩ = some (.int .i64 s1) ∧ (wr.alloc (.cells #[.int .i64 sq, .int .i64 t, .int .i64 nn, .int .i64 s, .int .i64 qq, .int .i64 lo, .int .i64 hi] 23)).cell? ⟨b, o + (p + 1) * 7 + 4, none⟩ = some (.int .i64 qq1) ∧ (wr.alloc (.cells #[.int .i64 sq, .int .i64 t, .int .i64 nn, .int .i64 s, .int .i64 qq, .int .i64 lo, .int .i64 hi] 23)).cell? ⟨b, o + (p + 1) * 7 + 5, none⟩ = some (.int .i64 lo1) ∧ (wr.alloc (.cells #[.int .i64 sq, .int .i64 t, .int .i64 nn, .int .i64 s, .int .i64 qq, .int .i64 lo, .int .i64 hi] 23)).cell? ⟨b, o + (p + 1) * 7 + 6, none⟩ = some (.int .i64 hi1) ∧ (wr.alloc (.cells #[.int .i64 sq, .int .i64 t, .int .i64 nn, .int .i64 s, .int .i64 qq, .int .i64 lo, .int .i64 hi] 23)).cell? ⟨b, o + p * 7, none⟩ = some (.int .i64 sq2) ∧ (wr.alloc (.cells #[.int .i64 sq, .int .i64 t, .int .i64 nn, .int .i64 s, .int .i64 qq, .int .i64 lo, .int .i64 hi] 23)).cell? ⟨b, o + p * 7 + 1, none⟩ = some (.int .i64 t2) ∧ (wr.alloc (.cells #[.int .i64 sq, .int .i64 t, .int .i64 nn, .int .i64 s, .int .i64 qq, .int .i64 lo, .int .i64 hi] 23)).cell? ⟨b, o + p * 7 + 2, none⟩ = some (.int .i64 nn2) ∧ (wr.alloc (.cells #[.int .i64 sq, .int .i64 t, .int .i64 nn, .int .i64 s, .int .i64 qq, .int .i64 lo, .int .i64 hi] 23)).cell? ⟨b, o + p * 7 + 3, none⟩ = some (.int .i64 s2) ∧ (wr.alloc (.cells #[.int .i64 sq, .int .i64 t, .int .i64 nn, .int .i64 s, .int .i64 qq, .int .i64 lo, .int .i64 hi] 23)).cell? ⟨b, o + p * 7 + 4, none⟩ = some (.int .i64 qq2) ∧ (wr.alloc (.cells #[.int .i64 sq, .int .i64 t, .int .i64 nn, .int .i64 s, .int .i64 qq, .int .i64 lo, .int .i64 hi] 23)).cell? ⟨b, o + p * 7 + 5, none⟩ = some (.int .i64 lo2) ∧ (wr.alloc (.cells #[.int .i64 sq, .int .i64 t, .int .i64 nn, .int .i64 s, .int .i64 qq, .int .i64 lo, .int .i64 hi] 23)).cell? ⟨b, o + p * 7 + 6, none⟩ = some (.int .i64 hi2)) := by
          obtain ⟨u7, f8, e0, e1, e2, e3, e4, e5, e6⟩ := HSS.out
          obtain ⟨x0, x1, x2, x3, x4, x5, x6⟩ := HPc.out q0.out
          obtain ⟨y0, y1, y2, y3, y4, y5, y6⟩ := HQc.out q1.out
          simp only [show p + 2 - 1 = p + 1 by omega] at x0 x1 x2 x3 x4 x5 x6
          simp only [Nat.add_sub_cancel] at y0 y1 y2 y3 y4 y5 y6
          have h := (Up.refl wr).alloc #[.int .i64 sq, .int .i64 t, .int .i64 nn, .int .i64 s, .int .i64 qq, .int .i64 lo, .int .i64 hi] 23
          exact Lib.hid ⟨u7, f8, e0, e1, e2, e3, e4, e5, e6, h.keep _ _ _ x0, h.keep _ _ _ x1, h.keep _ _ _ x2, h.keep _ _ _ x3, h.keep _ _ _ x4, h.keep _ _ _ x5, h.keep _ _ _ x6, h.keep _ _ _ y0, h.keep _ _ _ y1, h.keep _ _ _ y2, h.keep _ _ _ y3, h.keep _ _ _ y4, h.keep _ _ _ y5, h.keep _ _ _ y6⟩
        have z1 : (1 : Int) < (p : Int) + 2 := by omega
        have z0 : (0 : Int) < (p : Int) + 2 := by omega
        have z2 : (p : Int) < n := by omega
        have z3 : (0 : Int) ≤ p := by omega
        have z4 : (p : Int) + 1 < n := by omega
        have z4' : (0 : Int) ≤ (p : Int) + 1 := by omega
        have z5 : IntKind.i64.wrap (p : Int) = p := by rw [IntKind.wrap_i64]; omega
        have z6 : IntKind.i64.wrap ((p : Int) + 1) = (p : Int) + 1 := by rw [IntKind.wrap_i64]; omega
        have z7 : (p : Int) + 2 - 2 = p := by omega
        have z8 : (p : Int) + 2 - 1 = (p : Int) + 1 := by omega
        have z9 : ((p : Int) + 1).toNat = p + 1 := by omega
        rw [ei] at f20 f30
        rw [ei]
        have K5 := Lib.hid (KC.out ⟨sq2, t2, nn2, s2, qq2, lo2, hi2⟩ ⟨sq, t, nn, s, qq, lo, hi⟩ (HDq.out q1.out) HDi.out)
        simp only at K5
        clear BQ BP ei
        cases hk2 : clM g q ⟨sq2, t2, nn2, s2, qq2, lo2, hi2⟩ ⟨sq, t, nn, s, qq, lo, hi⟩ with
        | true =>
          obtain rfl : r = false := HX.out q1.out hk2
          rw [hk2] at K5
          clear hk2 HX HY HA1 HDi HDp HDq Hp Hq HPc HQc HB HT HD KC q0 q1
          go_wp2_with fail
          refine wp_region_held_drew (S := fun w' => Up w1 w' ∧ w'.cell? ⟨w.heap.size, 6, none⟩ = some (.slice (some ⟨b, o, none⟩) n k) ∧ w'.cell? ⟨wr.heap.size, 0, none⟩ = some (.int .i64 sq) ∧ w'.cell? ⟨wr.heap.size, 1, none⟩ = some (.int .i64 t) ∧ w'.cell? ⟨wr.heap.size, 2, none⟩ = some (.int .i64 nn) ∧ w'.cell? ⟨wr.heap.size, 3, none⟩ = some (.int .i64 s) ∧ w'.cell? ⟨wr.heap.size, 4, none⟩ = some (.int .i64 qq) ∧ w'.cell? ⟨wr.heap.size, 5, none⟩ = some (.int .i64 lo) ∧ w'.cell? ⟨wr.heap.size, 6, none⟩ = some (.int .i64 hi) ∧ w'.cell? ⟨b, o + (p + 1) * 7, none⟩ = some (.int .i64 sq1) ∧ w'.cell? ⟨b, o + (p + 1) * 7 + 1, none⟩ = some (.int .i64 t1) ∧ w'.cell? ⟨b, o + (p + 1) * 7 + 2, none⟩ = some (.int .i64 nn1) ∧ w'.cell? ⟨b, o + (p + 1) * 7 + 3, none⟩ = some (.int .i64 s1) ∧ w'.cell? ⟨b, o + (p + 1) * 7 + 4, none⟩ = some (.int .i64 qq1) ∧ w'.cell? ⟨b, o + (p + 1) * 7 + 5, none⟩ = some (.int .i64 lo1) ∧ w'.cell? ⟨b, o + (p + 1) * 7 + 6, none⟩ = some (.int .i64 hi1) ∧ w'.cell? ⟨b, o + p * 7, none⟩ = some (.int .i64 sq2) ∧ w'.cell? ⟨b, o + p * 7 + 1, none⟩ = some (.int .i64 t2) ∧ w'.cell? ⟨b, o + p * 7 + 2, none⟩ = some (.int .i64 nn2) ∧ w'.cell? ⟨b, o + p * 7 + 3, none⟩ = some (.int .i64 s2) ∧ w'.cell? ⟨b, o + p * 7 + 4, none⟩ = some (.int .i64 qq2) ∧ w'.cell? ⟨b, o + p * 7 + 5, none⟩ = some (.int .i64 lo2) ∧ w'.cell? ⟨b, o + p * 7 + 6, none⟩ = some (.int .i64 hi2)) (by kernel_rfl) ?hB219 (fun hHeld => ?_)
          case hB219 => (first | (with_reducible assumption) | (with_reducible exact keepK22 (Lib.hid (Up.refl _).drew) HSS.out) | (with_reducible exact HX2.out))
          refine wpAnyH_take (i := 0) (oi := ⟨_, _, _, _, _, _⟩) (v := ?v220) rfl (by kernel_rfl) (by kernel_rfl) (by kernel_rfl) (fun _ _ _ h => h) (Or.inl ⟨by rfl, ?hy220⟩) (by assumption) ?_
          case hy220 => (intro w hSw; (try dsimp only at hSw); go_simp; (try (with_reducible rfl)))
          (try simp only [Act.put, List.setIfInBounds_toArray, List.set_cons_zero, List.set_cons_succ])
          refine wpAnyH_take (i := 1) (oi := ⟨_, _, _, _, _, _⟩) (v := ?v221) rfl (by kernel_rfl) (by kernel_rfl) (by kernel_rfl) (fun _ _ _ h => h) (Or.inl ⟨by rfl, ?hy221⟩) (by assumption) ?_
          case hy221 => (intro w hSw; (try dsimp only at hSw); go_simp; (try (with_reducible rfl)))
          (try simp only [Act.put, List.setIfInBounds_toArray, List.set_cons_zero, List.set_cons_succ])
          refine wpAnyH_take (i := 2) (oi := ⟨_, _, _, _, _, _⟩) (v := ?v222) rfl (by kernel_rfl) (by kernel_rfl) (by kernel_rfl) (fun _ _ _ h => h) (Or.inl ⟨by rfl, ?hy222⟩) (by assumption) ?_
          case hy222 => (intro w hSw; (try dsimp only at hSw); go_simp; (try (with_reducible rfl)))
          (try simp only [Act.put, List.setIfInBounds_toArray, List.set_cons_zero, List.set_cons_succ])
          refine wpAnyH_take (i := 3) (oi := ⟨_, _, _, _, _, _⟩) (v := ?v223) rfl (by kernel_rfl) (by kernel_rfl) (by kernel_rfl) (fun _ _ _ h => h) (Or.inl ⟨by rfl, ?hy223⟩) (by assumption) ?_
          case hy223 => (intro w hSw; (try dsimp only at hSw); go_simp; (try (with_reducible rfl)))
          (try simp only [Act.put, List.setIfInBounds_toArray, List.set_cons_zero, List.set_cons_succ])
          refine wpAnyH_take (i := 4) (oi := ⟨_, _, _, _, _, _⟩) (v := ?v224) rfl (by kernel_rfl) (by kernel_rfl) (by kernel_rfl) (fun _ _ _ h => h) (Or.inl ⟨by rfl, ?hy224⟩) (by assumption) ?_
          case hy224 => (intro w hSw; (try dsimp only at hSw); go_simp; (try (with_reducible rfl)))
          (try simp only [Act.put, List.setIfInBounds_toArray, List.set_cons_zero, List.set_cons_succ])
          refine wpAnyH_take (i := 5) (oi := ⟨_, _, _, _, _, _⟩) (v := ?v225) rfl (by kernel_rfl) (by kernel_rfl) (by kernel_rfl) (fun _ _ _ h => h) (Or.inl ⟨by rfl, ?hy225⟩) (by assumption) ?_
          case hy225 => (intro w hSw; (try dsimp only at hSw); go_simp; (try (with_reducible rfl)))
          (try simp only [Act.put, List.setIfInBounds_toArray, List.set_cons_zero, List.set_cons_succ])
          refine wpAnyH_take (i := 6) (oi := ⟨_, _, _, _, _, _⟩) (v := ?v226) rfl (by kernel_rfl) (by kernel_rfl) (by kernel_rfl) (fun _ _ _ h => h) (Or.inl ⟨by rfl, ?hy226⟩) (by assumption) ?_
          case hy226 => (intro w hSw; (try dsimp only at hSw); go_simp; (try (with_reducible rfl)))
          (try simp only [Act.put, List.setIfInBounds_toArray, List.set_cons_zero, List.set_cons_succ])
          refine wpAnyH_take (i := 7) (oi := ⟨_, _, _, _, _, _⟩) (v := ?v227) rfl (by kernel_rfl) (by kernel_rfl) (by kernel_rfl) (fun _ _ _ h => h) (Or.inl ⟨by rfl, ?hy227⟩) (by assumption) ?_
          case hy227 => (intro w hSw; (try dsimp only at hSw); go_simp; (try (with_reducible rfl)))
          (try simp only [Act.put, List.setIfInBounds_toArray, List.set_cons_zero, List.set_cons_succ])
          refine wpAnyH_take (i := 8) (oi := ⟨_, _, _, _, _, _⟩) (v := ?v228) rfl (by kernel_rfl) (by kernel_rfl) (by kernel_rfl) (fun _ _ _ h => h) (Or.inl ⟨by rfl, ?hy228⟩) (by assumption) ?_
          case hy228 => (intro w hSw; (try dsimp only at hSw); go_simp; (try (with_reducible rfl)))
          (try simp only [Act.put, List.setIfInBounds_toArray, List.set_cons_zero, List.set_cons_succ])
          refine wpAnyH_take (i := 9) (oi := ⟨_, _, _, _, _, _⟩) (v := ?v229) rfl (by kernel_rfl) (by kernel_rfl) (by kernel_rfl) (fun _ _ _ h => h) (Or.inl ⟨by rfl, ?hy229⟩) (by assumption) ?_
          case hy229 => (intro w hSw; (try dsimp only at hSw); go_simp; (try (with_reducible rfl)))
          (try simp only [Act.put, List.setIfInBounds_toArray, List.set_cons_zero, List.set_cons_succ])
          refine wpAnyH_take (i := 10) (oi := ⟨_, _, _, _, _, _⟩) (v := ?v230) rfl (by kernel_rfl) (by kernel_rfl) (by kernel_rfl) (fun _ _ _ h => h) (Or.inl ⟨by rfl, ?hy230⟩) (by assumption) ?_
          case hy230 => (intro w hSw; (try dsimp only at hSw); go_simp; (try (with_reducible rfl)))
          (try simp only [Act.put, List.setIfInBounds_toArray, List.set_cons_zero, List.set_cons_succ])
          refine wpAnyH_ready (rs := [11]) (by kernel_rfl) (by simp) ?_
          refine AllReadyH.cons (o := ⟨_, _, _, _, _, _⟩) rfl (fun K hK => ?_) AllReadyH.nil
          go_simp
          (go_at_call 85; (with_reducible refine (K5.out _ hHeld.1).mono ?_); rintro e w2 ⟨rfl, hu⟩; have HU2 := Lib.hid hu; have HX2 := Lib.hid (keepK22 HU2 hHeld); clear hu)
          (try go_wp2_with fail)
          refine hK.out _ _ ?hB231 (fun hHeld => ?_)
          case hB231 => (first | (with_reducible assumption) | (with_reducible exact keepK22 (Lib.hid (Up.refl _).drew) HSS.out) | (with_reducible exact HX2.out))
          clear hK K
          (try simp only [Act.put, List.setIfInBounds_toArray, List.set_cons_zero, List.set_cons_succ])
          refine wpAnyH_take (i := 12) (oi := ⟨_, _, _, _, _, _⟩) (v := ?v232) rfl (by kernel_rfl) (by kernel_rfl) (by kernel_rfl) (fun _ _ _ h => h) (Or.inl ⟨by rfl, ?hy232⟩) (by assumption) ?_
          case hy232 => (intro w hSw; (try dsimp only at hSw); go_simp; (try (with_reducible rfl)))
          (try simp only [Act.put, List.setIfInBounds_toArray, List.set_cons_zero, List.set_cons_succ])
          refine wpAnyH_done (by kernel_rfl) ?_ _
          go_wp2_with fail
          go_ret
          exact ⟨rfl, HU1.out.trans HX2.out.1⟩
        | false =>
          rw [hk2] at K5
          have HA1 := Lib.hid (HA1.out (fun _ => hk2))
          clear hk2
          go_wp2_with fail
          refine wp_region_held_drew (S := fun w' => Up w1 w' ∧ w'.cell? ⟨w.heap.size, 6, none⟩ = some (.slice (some ⟨b, o, none⟩) n k) ∧ w'.cell? ⟨wr.heap.size, 0, none⟩ = some (.int .i64 sq) ∧ w'.cell? ⟨wr.heap.size, 1, none⟩ = some (.int .i64 t) ∧ w'.cell? ⟨wr.heap.size, 2, none⟩ = some (.int .i64 nn) ∧ w'.cell? ⟨wr.heap.size, 3, none⟩ = some (.int .i64 s) ∧ w'.cell? ⟨wr.heap.size, 4, none⟩ = some (.int .i64 qq) ∧ w'.cell? ⟨wr.heap.size, 5, none⟩ = some (.int .i64 lo) ∧ w'.cell? ⟨wr.heap.size, 6, none⟩ = some (.int .i64 hi) ∧ w'.cell? ⟨b, o + (p + 1) * 7, none⟩ = some (.int .i64 sq1) ∧ w'.cell? ⟨b, o + (p + 1) * 7 + 1, none⟩ = some (.int .i64 t1) ∧ w'.cell? ⟨b, o + (p + 1) * 7 + 2, none⟩ = some (.int .i64 nn1) ∧ w'.cell? ⟨b, o + (p + 1) * 7 + 3, none⟩ = some (.int .i64 s1) ∧ w'.cell? ⟨b, o + (p + 1) * 7 + 4, none⟩ = some (.int .i64 qq1) ∧ w'.cell? ⟨b, o + (p + 1) * 7 + 5, none⟩ = some (.int .i64 lo1) ∧ w'.cell? ⟨b, o + (p + 1) * 7 + 6, none⟩ = some (.int .i64 hi1) ∧ w'.cell? ⟨b, o + p * 7, none⟩ = some (.int .i64 sq2) ∧ w'.cell? ⟨b, o + p * 7 + 1, none⟩ = some (.int .i64 t2) ∧ w'.cell? ⟨b, o + p * 7 + 2, none⟩ = some (.int .i64 nn2) ∧ w'.cell? ⟨b, o + p * 7 + 3, none⟩ = some (.int .i64 s2) ∧ w'.cell? ⟨b, o + p * 7 + 4, none⟩ = some (.int .i64 qq2) ∧ w'.cell? ⟨b, o + p * 7 + 5, none⟩ = some (.int .i64 lo2) ∧ w'.cell? ⟨b, o + p * 7 + 6, none⟩ = some (.int .i64 hi2)) (by kernel_rfl) ?hB307 (fun hHeld => ?_)
          case hB307 => (first | (with_reducible assumption) | (with_reducible exact keepK22 (Lib.hid (Up.refl _).drew) HSS.out) | (with_reducible exact HX2.out))
          refine wpAnyH_take (i := 0) (oi := ⟨_, _, _, _, _, _⟩) (v := ?v308) rfl (by kernel_rfl) (by kernel_rfl) (by kernel_rfl) (fun _ _ _ h => h) (Or.inl ⟨by rfl, ?hy308⟩) (by assumption) ?_
          case hy308 => (intro w hSw; (try dsimp only at hSw); go_simp; (try (with_reducible rfl)))
          (try simp only [Act.put, List.setIfInBounds_toArray, List.set_cons_zero, List.set_cons_succ])
          refine wpAnyH_take (i := 1) (oi := ⟨_, _, _, _, _, _⟩) (v := ?v309) rfl (by kernel_rfl) (by kernel_rfl) (by kernel_rfl) (fun _ _ _ h => h) (Or.inl ⟨by rfl, ?hy309⟩) (by assumption) ?_
          case hy309 => (intro w hSw; (try dsimp only at hSw); go_simp; (try (with_reducible rfl)))
          (try simp only [Act.put, List.setIfInBounds_toArray, List.set_cons_zero, List.set_cons_succ])
          refine wpAnyH_take (i := 2) (oi := ⟨_, _, _, _, _, _⟩) (v := ?v310) rfl (by kernel_rfl) (by kernel_rfl) (by kernel_rfl) (fun _ _ _ h => h) (Or.inl ⟨by rfl, ?hy310⟩) (by assumption) ?_
          case hy310 => (intro w hSw; (try dsimp only at hSw); go_simp; (try (with_reducible rfl)))
          (try simp only [Act.put, List.setIfInBounds_toArray, List.set_cons_zero, List.set_cons_succ])
          refine wpAnyH_take (i := 3) (oi := ⟨_, _, _, _, _, _⟩) (v := ?v311) rfl (by kernel_rfl) (by kernel_rfl) (by kernel_rfl) (fun _ _ _ h => h) (Or.inl ⟨by rfl, ?hy311⟩) (by assumption) ?_
          case hy311 => (intro w hSw; (try dsimp only at hSw); go_simp; (try (with_reducible rfl)))
          (try simp only [Act.put, List.setIfInBounds_toArray, List.set_cons_zero, List.set_cons_succ])
          refine wpAnyH_take (i := 4) (oi := ⟨_, _, _, _, _, _⟩) (v := ?v312) rfl (by kernel_rfl) (by kernel_rfl) (by kernel_rfl) (fun _ _ _ h => h) (Or.inl ⟨by rfl, ?hy312⟩) (by assumption) ?_
          case hy312 => (intro w hSw; (try dsimp only at hSw); go_simp; (try (with_reducible rfl)))
          (try simp only [Act.put, List.setIfInBounds_toArray, List.set_cons_zero, List.set_cons_succ])
          refine wpAnyH_take (i := 5) (oi := ⟨_, _, _, _, _, _⟩) (v := ?v313) rfl (by kernel_rfl) (by kernel_rfl) (by kernel_rfl) (fun _ _ _ h => h) (Or.inl ⟨by rfl, ?hy313⟩) (by assumption) ?_
          case hy313 => (intro w hSw; (try dsimp only at hSw); go_simp; (try (with_reducible rfl)))
          (try simp only [Act.put, List.setIfInBounds_toArray, List.set_cons_zero, List.set_cons_succ])
          refine wpAnyH_take (i := 6) (oi := ⟨_, _, _, _, _, _⟩) (v := ?v314) rfl (by kernel_rfl) (by kernel_rfl) (by kernel_rfl) (fun _ _ _ h => h) (Or.inl ⟨by rfl, ?hy314⟩) (by assumption) ?_
          case hy314 => (intro w hSw; (try dsimp only at hSw); go_simp; (try (with_reducible rfl)))
          (try simp only [Act.put, List.setIfInBounds_toArray, List.set_cons_zero, List.set_cons_succ])
          refine wpAnyH_take (i := 7) (oi := ⟨_, _, _, _, _, _⟩) (v := ?v315) rfl (by kernel_rfl) (by kernel_rfl) (by kernel_rfl) (fun _ _ _ h => h) (Or.inl ⟨by rfl, ?hy315⟩) (by assumption) ?_
          case hy315 => (intro w hSw; (try dsimp only at hSw); go_simp; (try (with_reducible rfl)))
          (try simp only [Act.put, List.setIfInBounds_toArray, List.set_cons_zero, List.set_cons_succ])
          refine wpAnyH_take (i := 8) (oi := ⟨_, _, _, _, _, _⟩) (v := ?v316) rfl (by kernel_rfl) (by kernel_rfl) (by kernel_rfl) (fun _ _ _ h => h) (Or.inl ⟨by rfl, ?hy316⟩) (by assumption) ?_
          case hy316 => (intro w hSw; (try dsimp only at hSw); go_simp; (try (with_reducible rfl)))
          (try simp only [Act.put, List.setIfInBounds_toArray, List.set_cons_zero, List.set_cons_succ])
          refine wpAnyH_take (i := 9) (oi := ⟨_, _, _, _, _, _⟩) (v := ?v317) rfl (by kernel_rfl) (by kernel_rfl) (by kernel_rfl) (fun _ _ _ h => h) (Or.inl ⟨by rfl, ?hy317⟩) (by assumption) ?_
          case hy317 => (intro w hSw; (try dsimp only at hSw); go_simp; (try (with_reducible rfl)))
          (try simp only [Act.put, List.setIfInBounds_toArray, List.set_cons_zero, List.set_cons_succ])
          refine wpAnyH_take (i := 10) (oi := ⟨_, _, _, _, _, _⟩) (v := ?v318) rfl (by kernel_rfl) (by kernel_rfl) (by kernel_rfl) (fun _ _ _ h => h) (Or.inl ⟨by rfl, ?hy318⟩) (by assumption) ?_
          case hy318 => (intro w hSw; (try dsimp only at hSw); go_simp; (try (with_reducible rfl)))
          (try simp only [Act.put, List.setIfInBounds_toArray, List.set_cons_zero, List.set_cons_succ])
          refine wpAnyH_ready (rs := [11]) (by kernel_rfl) (by simp) ?_
          refine AllReadyH.cons (o := ⟨_, _, _, _, _, _⟩) rfl (fun K hK => ?_) AllReadyH.nil
          go_simp
          (go_at_call 85; (with_reducible refine (K5.out _ hHeld.1).mono ?_); rintro e w2 ⟨rfl, hu⟩; have HU2 := Lib.hid hu; have HX2 := Lib.hid (keepK22 HU2 hHeld); clear hu)
          (try go_wp2_with fail)
          refine hK.out _ _ ?hB319 (fun hHeld => ?_)
          case hB319 => (first | (with_reducible assumption) | (with_reducible exact keepK22 (Lib.hid (Up.refl _).drew) HSS.out) | (with_reducible exact HX2.out))
          clear hK K
          (try simp only [Act.put, List.setIfInBounds_toArray, List.set_cons_zero, List.set_cons_succ])
          refine wpAnyH_take (i := 12) (oi := ⟨_, _, _, _, _, _⟩) (v := ?v320) rfl (by kernel_rfl) (by kernel_rfl) (by kernel_rfl) (fun _ _ _ h => h) (Or.inl ⟨by rfl, ?hy320⟩) (by assumption) ?_
          case hy320 => (intro w hSw; (try dsimp only at hSw); go_simp; (try (with_reducible rfl)))
          (try simp only [Act.put, List.setIfInBounds_toArray, List.set_cons_zero, List.set_cons_succ])
          refine wpAnyH_done (by kernel_rfl) ?_ _
          obtain ⟨u8, y0, y1, y2, y3, y4, y5, y6, y7, y8, y9, y10, y11, y12, y13, y14, y15, y16, y17, y18, y19, y20, y21⟩ := hHeld
          (repeat clear ‹Up w1 _ ∧ _›)
          have HSS := Lib.hid (And.intro u8 (And.intro y0 (And.intro y1 (And.intro y2 (And.intro y3 (And.intro y4 (And.intro y5 (And.intro y6 (And.intro y7 (And.intro y8 (And.intro y9 (And.intro y10 (And.intro y11 (And.intro y12 (And.intro y13 (And.intro y14 (And.intro y15 (And.intro y16 (And.intro y17 (And.intro y18 (And.intro y19 (And.intro y20 y21))))))))))))))))))))))
          clear u8 y0 y1 y2 y3 y4 y5 y6 y7 y8 y9 y10 y11 y12 y13 y14 y15 y16 y17 y18 y19 y20 y21
          by_cases hd : 1 < sq - sq1
          · have td : decide (1 < sq - sq1) = true := decide_eq_true hd
            have K7 := Lib.hid (KC.out ⟨sq1, t1, nn1, s1, qq1, lo1, hi1⟩ ⟨sq, t, nn, s, qq, lo, hi⟩ (HDp.out q0.out) HDi.out)
            simp only at K7
            cases hk : clM g q ⟨sq1, t1, nn1, s1, qq1, lo1, hi1⟩ ⟨sq, t, nn, s, qq, lo, hi⟩ with
            | false =>
              obtain rfl : r = false := HY.out q0.out (by omega) hk
              rw [hk] at K7
              clear hk HX HY HA1 HDi HDp HDq Hp Hq HPc HQc HB HT HD KC
              go_wp2_with fail
              refine wp_region_held_drew (S := fun w' => Up w1 w' ∧ w'.cell? ⟨w.heap.size, 6, none⟩ = some (.slice (some ⟨b, o, none⟩) n k) ∧ w'.cell? ⟨wr.heap.size, 0, none⟩ = some (.int .i64 sq) ∧ w'.cell? ⟨wr.heap.size, 1, none⟩ = some (.int .i64 t) ∧ w'.cell? ⟨wr.heap.size, 2, none⟩ = some (.int .i64 nn) ∧ w'.cell? ⟨wr.heap.size, 3, none⟩ = some (.int .i64 s) ∧ w'.cell? ⟨wr.heap.size, 4, none⟩ = some (.int .i64 qq) ∧ w'.cell? ⟨wr.heap.size, 5, none⟩ = some (.int .i64 lo) ∧ w'.cell? ⟨wr.heap.size, 6, none⟩ = some (.int .i64 hi) ∧ w'.cell? ⟨b, o + (p + 1) * 7, none⟩ = some (.int .i64 sq1) ∧ w'.cell? ⟨b, o + (p + 1) * 7 + 1, none⟩ = some (.int .i64 t1) ∧ w'.cell? ⟨b, o + (p + 1) * 7 + 2, none⟩ = some (.int .i64 nn1) ∧ w'.cell? ⟨b, o + (p + 1) * 7 + 3, none⟩ = some (.int .i64 s1) ∧ w'.cell? ⟨b, o + (p + 1) * 7 + 4, none⟩ = some (.int .i64 qq1) ∧ w'.cell? ⟨b, o + (p + 1) * 7 + 5, none⟩ = some (.int .i64 lo1) ∧ w'.cell? ⟨b, o + (p + 1) * 7 + 6, none⟩ = some (.int .i64 hi1) ∧ w'.cell? ⟨b, o + p * 7, none⟩ = some (.int .i64 sq2) ∧ w'.cell? ⟨b, o + p * 7 + 1, none⟩ = some (.int .i64 t2) ∧ w'.cell? ⟨b, o + p * 7 + 2, none⟩ = some (.int .i64 nn2) ∧ w'.cell? ⟨b, o + p * 7 + 3, none⟩ = some (.int .i64 s2) ∧ w'.cell? ⟨b, o + p * 7 + 4, none⟩ = some (.int .i64 qq2) ∧ w'.cell? ⟨b, o + p * 7 + 5, none⟩ = some (.int .i64 lo2) ∧ w'.cell? ⟨b, o + p * 7 + 6, none⟩ = some (.int .i64 hi2)) (by kernel_rfl) ?hB233 (fun hHeld => ?_)
              case hB233 => (first | (with_reducible assumption) | (with_reducible exact keepK22 (Lib.hid (Up.refl _).drew) HSS.out) | (with_reducible exact HX2.out) | (with_reducible exact HX3.out))
              refine wpAnyH_take (i := 0) (oi := ⟨_, _, _, _, _, _⟩) (v := ?v234) rfl (by kernel_rfl) (by kernel_rfl) (by kernel_rfl) (fun _ _ _ h => h) (Or.inl ⟨by rfl, ?hy234⟩) (by assumption) ?_
              case hy234 => (intro w hSw; (try dsimp only at hSw); go_simp; (try (with_reducible rfl)))
              (try simp only [Act.put, List.setIfInBounds_toArray, List.set_cons_zero, List.set_cons_succ])
              refine wpAnyH_take (i := 1) (oi := ⟨_, _, _, _, _, _⟩) (v := ?v235) rfl (by kernel_rfl) (by kernel_rfl) (by kernel_rfl) (fun _ _ _ h => h) (Or.inl ⟨by rfl, ?hy235⟩) (by assumption) ?_
              case hy235 => (intro w hSw; (try dsimp only at hSw); go_simp; (try (with_reducible rfl)))
              (try simp only [Act.put, List.setIfInBounds_toArray, List.set_cons_zero, List.set_cons_succ])
              refine wpAnyH_take (i := 2) (oi := ⟨_, _, _, _, _, _⟩) (v := ?v236) rfl (by kernel_rfl) (by kernel_rfl) (by kernel_rfl) (fun _ _ _ h => h) (Or.inl ⟨by rfl, ?hy236⟩) (by assumption) ?_
              case hy236 => (intro w hSw; (try dsimp only at hSw); go_simp; (try (with_reducible rfl)))
              (try simp only [Act.put, List.setIfInBounds_toArray, List.set_cons_zero, List.set_cons_succ])
              refine wpAnyH_take (i := 3) (oi := ⟨_, _, _, _, _, _⟩) (v := ?v237) rfl (by kernel_rfl) (by kernel_rfl) (by kernel_rfl) (fun _ _ _ h => h) (Or.inl ⟨by rfl, ?hy237⟩) (by assumption) ?_
              case hy237 => (intro w hSw; (try dsimp only at hSw); go_simp; (try (with_reducible rfl)))
              (try simp only [Act.put, List.setIfInBounds_toArray, List.set_cons_zero, List.set_cons_succ])
              refine wpAnyH_take (i := 4) (oi := ⟨_, _, _, _, _, _⟩) (v := ?v238) rfl (by kernel_rfl) (by kernel_rfl) (by kernel_rfl) (fun _ _ _ h => h) (Or.inl ⟨by rfl, ?hy238⟩) (by assumption) ?_
              case hy238 => (intro w hSw; (try dsimp only at hSw); go_simp; (try (with_reducible rfl)))
              (try simp only [Act.put, List.setIfInBounds_toArray, List.set_cons_zero, List.set_cons_succ])
              refine wpAnyH_take (i := 5) (oi := ⟨_, _, _, _, _, _⟩) (v := ?v239) rfl (by kernel_rfl) (by kernel_rfl) (by kernel_rfl) (fun _ _ _ h => h) (Or.inl ⟨by rfl, ?hy239⟩) (by assumption) ?_
              case hy239 => (intro w hSw; (try dsimp only at hSw); go_simp; (try (with_reducible rfl)))
              (try simp only [Act.put, List.setIfInBounds_toArray, List.set_cons_zero, List.set_cons_succ])
              refine wpAnyH_take (i := 6) (oi := ⟨_, _, _, _, _, _⟩) (v := ?v240) rfl (by kernel_rfl) (by kernel_rfl) (by kernel_rfl) (fun _ _ _ h => h) (Or.inl ⟨by rfl, ?hy240⟩) (by assumption) ?_
              case hy240 => (intro w hSw; (try dsimp only at hSw); go_simp; (try (with_reducible rfl)))
              (try simp only [Act.put, List.setIfInBounds_toArray, List.set_cons_zero, List.set_cons_succ])
              refine wpAnyH_take (i := 7) (oi := ⟨_, _, _, _, _, _⟩) (v := ?v241) rfl (by kernel_rfl) (by kernel_rfl) (by kernel_rfl) (fun _ _ _ h => h) (Or.inl ⟨by rfl, ?hy241⟩) (by assumption) ?_
              case hy241 => (intro w hSw; (try dsimp only at hSw); go_simp; (try (with_reducible rfl)))
              (try simp only [Act.put, List.setIfInBounds_toArray, List.set_cons_zero, List.set_cons_succ])
              refine wpAnyH_take (i := 8) (oi := ⟨_, _, _, _, _, _⟩) (v := ?v242) rfl (by kernel_rfl) (by kernel_rfl) (by kernel_rfl) (fun _ _ _ h => h) (Or.inl ⟨by rfl, ?hy242⟩) (by assumption) ?_
              case hy242 => (intro w hSw; (try dsimp only at hSw); go_simp; (try (with_reducible rfl)))
              (try simp only [Act.put, List.setIfInBounds_toArray, List.set_cons_zero, List.set_cons_succ])
              refine wpAnyH_take (i := 9) (oi := ⟨_, _, _, _, _, _⟩) (v := ?v243) rfl (by kernel_rfl) (by kernel_rfl) (by kernel_rfl) (fun _ _ _ h => h) (Or.inl ⟨by rfl, ?hy243⟩) (by assumption) ?_
              case hy243 => (intro w hSw; (try dsimp only at hSw); go_simp; (try (with_reducible rfl)))
              (try simp only [Act.put, List.setIfInBounds_toArray, List.set_cons_zero, List.set_cons_succ])
              refine wpAnyH_take (i := 10) (oi := ⟨_, _, _, _, _, _⟩) (v := ?v244) rfl (by kernel_rfl) (by kernel_rfl) (by kernel_rfl) (fun _ _ _ h => h) (Or.inl ⟨by rfl, ?hy244⟩) (by assumption) ?_
              case hy244 => (intro w hSw; (try dsimp only at hSw); go_simp; (try (with_reducible rfl)))
              (try simp only [Act.put, List.setIfInBounds_toArray, List.set_cons_zero, List.set_cons_succ])
              refine wpAnyH_take (i := 11) (oi := ⟨_, _, _, _, _, _⟩) (v := ?v245) rfl (by kernel_rfl) (by kernel_rfl) (by kernel_rfl) (fun _ _ _ h => h) (Or.inl ⟨by rfl, ?hy245⟩) (by assumption) ?_
              case hy245 => (intro w hSw; (try dsimp only at hSw); go_simp; (try (with_reducible rfl)))
              (try simp only [Act.put, List.setIfInBounds_toArray, List.set_cons_zero, List.set_cons_succ])
              refine wpAnyH_take (i := 12) (oi := ⟨_, _, _, _, _, _⟩) (v := ?v246) rfl (by kernel_rfl) (by kernel_rfl) (by kernel_rfl) (fun _ _ _ h => h) (Or.inl ⟨by rfl, ?hy246⟩) (by assumption) ?_
              case hy246 => (intro w hSw; (try dsimp only at hSw); go_simp; (try (with_reducible rfl)))
              (try simp only [Act.put, List.setIfInBounds_toArray, List.set_cons_zero, List.set_cons_succ])
              refine wpAnyH_take (i := 13) (oi := ⟨_, _, _, _, _, _⟩) (v := ?v247) rfl (by kernel_rfl) (by kernel_rfl) (by kernel_rfl) (fun _ _ _ h => h) (Or.inl ⟨by rfl, ?hy247⟩) (by assumption) ?_
              case hy247 => (intro w hSw; (try dsimp only at hSw); go_simp; (try (with_reducible rfl)))
              (try simp only [Act.put, List.setIfInBounds_toArray, List.set_cons_zero, List.set_cons_succ])
              refine wpAnyH_take (i := 14) (oi := ⟨_, _, _, _, _, _⟩) (v := ?v248) rfl (by kernel_rfl) (by kernel_rfl) (by kernel_rfl) (fun _ _ _ h => h) (Or.inl ⟨by rfl, ?hy248⟩) (by assumption) ?_
              case hy248 => (intro w hSw; (try dsimp only at hSw); go_simp; (try (with_reducible rfl)))
              (try simp only [Act.put, List.setIfInBounds_toArray, List.set_cons_zero, List.set_cons_succ])
              refine wpAnyH_take (i := 15) (oi := ⟨_, _, _, _, _, _⟩) (v := ?v249) rfl (by kernel_rfl) (by kernel_rfl) (by kernel_rfl) (fun _ _ _ h => h) (Or.inl ⟨by rfl, ?hy249⟩) (by assumption) ?_
              case hy249 => (intro w hSw; (try dsimp only at hSw); go_simp; (try (with_reducible rfl)))
              (try simp only [Act.put, List.setIfInBounds_toArray, List.set_cons_zero, List.set_cons_succ])
              refine wpAnyH_take (i := 16) (oi := ⟨_, _, _, _, _, _⟩) (v := ?v250) rfl (by kernel_rfl) (by kernel_rfl) (by kernel_rfl) (fun _ _ _ h => h) (Or.inl ⟨by rfl, ?hy250⟩) (by assumption) ?_
              case hy250 => (intro w hSw; (try dsimp only at hSw); go_simp; (try (with_reducible rfl)))
              (try simp only [Act.put, List.setIfInBounds_toArray, List.set_cons_zero, List.set_cons_succ])
              refine wpAnyH_take (i := 17) (oi := ⟨_, _, _, _, _, _⟩) (v := ?v251) rfl (by kernel_rfl) (by kernel_rfl) (by kernel_rfl) (fun _ _ _ h => h) (Or.inl ⟨by rfl, ?hy251⟩) (by assumption) ?_
              case hy251 => (intro w hSw; (try dsimp only at hSw); go_simp; (try (with_reducible rfl)))
              (try simp only [Act.put, List.setIfInBounds_toArray, List.set_cons_zero, List.set_cons_succ])
              refine wpAnyH_take (i := 18) (oi := ⟨_, _, _, _, _, _⟩) (v := ?v252) rfl (by kernel_rfl) (by kernel_rfl) (by kernel_rfl) (fun _ _ _ h => h) (Or.inl ⟨by rfl, ?hy252⟩) (by assumption) ?_
              case hy252 => (intro w hSw; (try dsimp only at hSw); go_simp; (try (with_reducible rfl)))
              (try simp only [Act.put, List.setIfInBounds_toArray, List.set_cons_zero, List.set_cons_succ])
              refine wpAnyH_take (i := 19) (oi := ⟨_, _, _, _, _, _⟩) (v := ?v253) rfl (by kernel_rfl) (by kernel_rfl) (by kernel_rfl) (fun _ _ _ h => h) (Or.inl ⟨by rfl, ?hy253⟩) (by assumption) ?_
              case hy253 => (intro w hSw; (try dsimp only at hSw); go_simp; (try (with_reducible rfl)))
              (try simp only [Act.put, List.setIfInBounds_toArray, List.set_cons_zero, List.set_cons_succ])
              refine wpAnyH_take (i := 20) (oi := ⟨_, _, _, _, _, _⟩) (v := ?v254) rfl (by kernel_rfl) (by kernel_rfl) (by kernel_rfl) (fun _ _ _ h => h) (Or.inl ⟨by rfl, ?hy254⟩) (by assumption) ?_
              case hy254 => (intro w hSw; (try dsimp only at hSw); go_simp; (try (with_reducible rfl)))
              (try simp only [Act.put, List.setIfInBounds_toArray, List.set_cons_zero, List.set_cons_succ])
              refine wpAnyH_take (i := 21) (oi := ⟨_, _, _, _, _, _⟩) (v := ?v255) rfl (by kernel_rfl) (by kernel_rfl) (by kernel_rfl) (fun _ _ _ h => h) (Or.inl ⟨by rfl, ?hy255⟩) (by assumption) ?_
              case hy255 => (intro w hSw; (try dsimp only at hSw); go_simp; (try (with_reducible rfl)))
              (try simp only [Act.put, List.setIfInBounds_toArray, List.set_cons_zero, List.set_cons_succ])
              refine wpAnyH_take (i := 22) (oi := ⟨_, _, _, _, _, _⟩) (v := ?v256) rfl (by kernel_rfl) (by kernel_rfl) (by kernel_rfl) (fun _ _ _ h => h) (Or.inl ⟨by rfl, ?hy256⟩) (by assumption) ?_
              case hy256 => (intro w hSw; (try dsimp only at hSw); go_simp; (try (with_reducible rfl)))
              (try simp only [Act.put, List.setIfInBounds_toArray, List.set_cons_zero, List.set_cons_succ])
              refine wpAnyH_take (i := 23) (oi := ⟨_, _, _, _, _, _⟩) (v := ?v257) rfl (by kernel_rfl) (by kernel_rfl) (by kernel_rfl) (fun _ _ _ h => h) (Or.inl ⟨by rfl, ?hy257⟩) (by assumption) ?_
              case hy257 => (intro w hSw; (try dsimp only at hSw); go_simp; (try (with_reducible rfl)))
              (try simp only [Act.put, List.setIfInBounds_toArray, List.set_cons_zero, List.set_cons_succ])
              refine wpAnyH_ready (rs := [24]) (by kernel_rfl) (by simp) ?_
              refine AllReadyH.cons (o := ⟨_, _, _, _, _, _⟩) rfl (fun K hK => ?_) AllReadyH.nil
              go_simp
              (go_at_call 85; (with_reducible refine (K7.out _ hHeld.1).mono ?_); rintro e w3 ⟨rfl, hu⟩; have HU3 := Lib.hid hu; have HX3 := Lib.hid (keepK22 HU3 hHeld); clear hu)
              (try go_wp2_with fail)
              refine hK.out _ _ ?hB258 (fun hHeld => ?_)
              case hB258 => (first | (with_reducible assumption) | (with_reducible exact keepK22 (Lib.hid (Up.refl _).drew) HSS.out) | (with_reducible exact HX2.out) | (with_reducible exact HX3.out))
              clear hK K
              (try simp only [Act.put, List.setIfInBounds_toArray, List.set_cons_zero, List.set_cons_succ])
              refine wpAnyH_take (i := 25) (oi := ⟨_, _, _, _, _, _⟩) (v := ?v259) rfl (by kernel_rfl) (by kernel_rfl) (by kernel_rfl) (fun _ _ _ h => h) (Or.inl ⟨by rfl, ?hy259⟩) (by assumption) ?_
              case hy259 => (intro w hSw; (try dsimp only at hSw); go_simp; (try (with_reducible rfl)))
              (try simp only [Act.put, List.setIfInBounds_toArray, List.set_cons_zero, List.set_cons_succ])
              refine wpAnyH_take (i := 26) (oi := ⟨_, _, _, _, _, _⟩) (v := ?v260) rfl (by kernel_rfl) (by kernel_rfl) (by kernel_rfl) (fun _ _ _ h => h) (Or.inl ⟨by rfl, ?hy260⟩) (by assumption) ?_
              case hy260 => (intro w hSw; (try dsimp only at hSw); go_simp; (try (with_reducible rfl)))
              (try simp only [Act.put, List.setIfInBounds_toArray, List.set_cons_zero, List.set_cons_succ])
              refine wpAnyH_done (by kernel_rfl) ?_ _
              go_wp2_with fail
              go_ret
              exact ⟨rfl, HU1.out.trans HX3.out.1⟩
            | true =>
              have HA2 := Lib.hid (HA1.out (fun _ _ => hk))
              rw [hk] at K7
              clear hk HX HY HA1 HDi HDp HDq Hp Hq HPc HQc HB HT HD KC
              go_wp2_with fail
              refine wp_region_held_drew (S := fun w' => Up w1 w' ∧ w'.cell? ⟨w.heap.size, 6, none⟩ = some (.slice (some ⟨b, o, none⟩) n k) ∧ w'.cell? ⟨wr.heap.size, 0, none⟩ = some (.int .i64 sq) ∧ w'.cell? ⟨wr.heap.size, 1, none⟩ = some (.int .i64 t) ∧ w'.cell? ⟨wr.heap.size, 2, none⟩ = some (.int .i64 nn) ∧ w'.cell? ⟨wr.heap.size, 3, none⟩ = some (.int .i64 s) ∧ w'.cell? ⟨wr.heap.size, 4, none⟩ = some (.int .i64 qq) ∧ w'.cell? ⟨wr.heap.size, 5, none⟩ = some (.int .i64 lo) ∧ w'.cell? ⟨wr.heap.size, 6, none⟩ = some (.int .i64 hi) ∧ w'.cell? ⟨b, o + (p + 1) * 7, none⟩ = some (.int .i64 sq1) ∧ w'.cell? ⟨b, o + (p + 1) * 7 + 1, none⟩ = some (.int .i64 t1) ∧ w'.cell? ⟨b, o + (p + 1) * 7 + 2, none⟩ = some (.int .i64 nn1) ∧ w'.cell? ⟨b, o + (p + 1) * 7 + 3, none⟩ = some (.int .i64 s1) ∧ w'.cell? ⟨b, o + (p + 1) * 7 + 4, none⟩ = some (.int .i64 qq1) ∧ w'.cell? ⟨b, o + (p + 1) * 7 + 5, none⟩ = some (.int .i64 lo1) ∧ w'.cell? ⟨b, o + (p + 1) * 7 + 6, none⟩ = some (.int .i64 hi1) ∧ w'.cell? ⟨b, o + p * 7, none⟩ = some (.int .i64 sq2) ∧ w'.cell? ⟨b, o + p * 7 + 1, none⟩ = some (.int .i64 t2) ∧ w'.cell? ⟨b, o + p * 7 + 2, none⟩ = some (.int .i64 nn2) ∧ w'.cell? ⟨b, o + p * 7 + 3, none⟩ = some (.int .i64 s2) ∧ w'.cell? ⟨b, o + p * 7 + 4, none⟩ = some (.int .i64 qq2) ∧ w'.cell? ⟨b, o + p * 7 + 5, none⟩ = some (.int .i64 lo2) ∧ w'.cell? ⟨b, o + p * 7 + 6, none⟩ = some (.int .i64 hi2)) (by kernel_rfl) ?hB261 (fun hHeld => ?_)
              case hB261 => (first | (with_reducible assumption) | (with_reducible exact keepK22 (Lib.hid (Up.refl _).drew) HSS.out) | (with_reducible exact HX2.out) | (with_reducible exact HX3.out))
              refine wpAnyH_take (i := 0) (oi := ⟨_, _, _, _, _, _⟩) (v := ?v262) rfl (by kernel_rfl) (by kernel_rfl) (by kernel_rfl) (fun _ _ _ h => h) (Or.inl ⟨by rfl, ?hy262⟩) (by assumption) ?_
              case hy262 => (intro w hSw; (try dsimp only at hSw); go_simp; (try (with_reducible rfl)))
              (try simp only [Act.put, List.setIfInBounds_toArray, List.set_cons_zero, List.set_cons_succ])
              refine wpAnyH_take (i := 1) (oi := ⟨_, _, _, _, _, _⟩) (v := ?v263) rfl (by kernel_rfl) (by kernel_rfl) (by kernel_rfl) (fun _ _ _ h => h) (Or.inl ⟨by rfl, ?hy263⟩) (by assumption) ?_
              case hy263 => (intro w hSw; (try dsimp only at hSw); go_simp; (try (with_reducible rfl)))
              (try simp only [Act.put, List.setIfInBounds_toArray, List.set_cons_zero, List.set_cons_succ])
              refine wpAnyH_take (i := 2) (oi := ⟨_, _, _, _, _, _⟩) (v := ?v264) rfl (by kernel_rfl) (by kernel_rfl) (by kernel_rfl) (fun _ _ _ h => h) (Or.inl ⟨by rfl, ?hy264⟩) (by assumption) ?_
              case hy264 => (intro w hSw; (try dsimp only at hSw); go_simp; (try (with_reducible rfl)))
              (try simp only [Act.put, List.setIfInBounds_toArray, List.set_cons_zero, List.set_cons_succ])
              refine wpAnyH_take (i := 3) (oi := ⟨_, _, _, _, _, _⟩) (v := ?v265) rfl (by kernel_rfl) (by kernel_rfl) (by kernel_rfl) (fun _ _ _ h => h) (Or.inl ⟨by rfl, ?hy265⟩) (by assumption) ?_
              case hy265 => (intro w hSw; (try dsimp only at hSw); go_simp; (try (with_reducible rfl)))
              (try simp only [Act.put, List.setIfInBounds_toArray, List.set_cons_zero, List.set_cons_succ])
              refine wpAnyH_take (i := 4) (oi := ⟨_, _, _, _, _, _⟩) (v := ?v266) rfl (by kernel_rfl) (by kernel_rfl) (by kernel_rfl) (fun _ _ _ h => h) (Or.inl ⟨by rfl, ?hy266⟩) (by assumption) ?_
              case hy266 => (intro w hSw; (try dsimp only at hSw); go_simp; (try (with_reducible rfl)))
              (try simp only [Act.put, List.setIfInBounds_toArray, List.set_cons_zero, List.set_cons_succ])
              refine wpAnyH_take (i := 5) (oi := ⟨_, _, _, _, _, _⟩) (v := ?v267) rfl (by kernel_rfl) (by kernel_rfl) (by kernel_rfl) (fun _ _ _ h => h) (Or.inl ⟨by rfl, ?hy267⟩) (by assumption) ?_
              case hy267 => (intro w hSw; (try dsimp only at hSw); go_simp; (try (with_reducible rfl)))
              (try simp only [Act.put, List.setIfInBounds_toArray, List.set_cons_zero, List.set_cons_succ])
              refine wpAnyH_take (i := 6) (oi := ⟨_, _, _, _, _, _⟩) (v := ?v268) rfl (by kernel_rfl) (by kernel_rfl) (by kernel_rfl) (fun _ _ _ h => h) (Or.inl ⟨by rfl, ?hy268⟩) (by assumption) ?_
              case hy268 => (intro w hSw; (try dsimp only at hSw); go_simp; (try (with_reducible rfl)))
              (try simp only [Act.put, List.setIfInBounds_toArray, List.set_cons_zero, List.set_cons_succ])
              refine wpAnyH_take (i := 7) (oi := ⟨_, _, _, _, _, _⟩) (v := ?v269) rfl (by kernel_rfl) (by kernel_rfl) (by kernel_rfl) (fun _ _ _ h => h) (Or.inl ⟨by rfl, ?hy269⟩) (by assumption) ?_
              case hy269 => (intro w hSw; (try dsimp only at hSw); go_simp; (try (with_reducible rfl)))
              (try simp only [Act.put, List.setIfInBounds_toArray, List.set_cons_zero, List.set_cons_succ])
              refine wpAnyH_take (i := 8) (oi := ⟨_, _, _, _, _, _⟩) (v := ?v270) rfl (by kernel_rfl) (by kernel_rfl) (by kernel_rfl) (fun _ _ _ h => h) (Or.inl ⟨by rfl, ?hy270⟩) (by assumption) ?_
              case hy270 => (intro w hSw; (try dsimp only at hSw); go_simp; (try (with_reducible rfl)))
              (try simp only [Act.put, List.setIfInBounds_toArray, List.set_cons_zero, List.set_cons_succ])
              refine wpAnyH_take (i := 9) (oi := ⟨_, _, _, _, _, _⟩) (v := ?v271) rfl (by kernel_rfl) (by kernel_rfl) (by kernel_rfl) (fun _ _ _ h => h) (Or.inl ⟨by rfl, ?hy271⟩) (by assumption) ?_
              case hy271 => (intro w hSw; (try dsimp only at hSw); go_simp; (try (with_reducible rfl)))
              (try simp only [Act.put, List.setIfInBounds_toArray, List.set_cons_zero, List.set_cons_succ])
              refine wpAnyH_take (i := 10) (oi := ⟨_, _, _, _, _, _⟩) (v := ?v272) rfl (by kernel_rfl) (by kernel_rfl) (by kernel_rfl) (fun _ _ _ h => h) (Or.inl ⟨by rfl, ?hy272⟩) (by assumption) ?_
              case hy272 => (intro w hSw; (try dsimp only at hSw); go_simp; (try (with_reducible rfl)))
              (try simp only [Act.put, List.setIfInBounds_toArray, List.set_cons_zero, List.set_cons_succ])
              refine wpAnyH_take (i := 11) (oi := ⟨_, _, _, _, _, _⟩) (v := ?v273) rfl (by kernel_rfl) (by kernel_rfl) (by kernel_rfl) (fun _ _ _ h => h) (Or.inl ⟨by rfl, ?hy273⟩) (by assumption) ?_
              case hy273 => (intro w hSw; (try dsimp only at hSw); go_simp; (try (with_reducible rfl)))
              (try simp only [Act.put, List.setIfInBounds_toArray, List.set_cons_zero, List.set_cons_succ])
              refine wpAnyH_take (i := 12) (oi := ⟨_, _, _, _, _, _⟩) (v := ?v274) rfl (by kernel_rfl) (by kernel_rfl) (by kernel_rfl) (fun _ _ _ h => h) (Or.inl ⟨by rfl, ?hy274⟩) (by assumption) ?_
              case hy274 => (intro w hSw; (try dsimp only at hSw); go_simp; (try (with_reducible rfl)))
              (try simp only [Act.put, List.setIfInBounds_toArray, List.set_cons_zero, List.set_cons_succ])
              refine wpAnyH_take (i := 13) (oi := ⟨_, _, _, _, _, _⟩) (v := ?v275) rfl (by kernel_rfl) (by kernel_rfl) (by kernel_rfl) (fun _ _ _ h => h) (Or.inl ⟨by rfl, ?hy275⟩) (by assumption) ?_
              case hy275 => (intro w hSw; (try dsimp only at hSw); go_simp; (try (with_reducible rfl)))
              (try simp only [Act.put, List.setIfInBounds_toArray, List.set_cons_zero, List.set_cons_succ])
              refine wpAnyH_take (i := 14) (oi := ⟨_, _, _, _, _, _⟩) (v := ?v276) rfl (by kernel_rfl) (by kernel_rfl) (by kernel_rfl) (fun _ _ _ h => h) (Or.inl ⟨by rfl, ?hy276⟩) (by assumption) ?_
              case hy276 => (intro w hSw; (try dsimp only at hSw); go_simp; (try (with_reducible rfl)))
              (try simp only [Act.put, List.setIfInBounds_toArray, List.set_cons_zero, List.set_cons_succ])
              refine wpAnyH_take (i := 15) (oi := ⟨_, _, _, _, _, _⟩) (v := ?v277) rfl (by kernel_rfl) (by kernel_rfl) (by kernel_rfl) (fun _ _ _ h => h) (Or.inl ⟨by rfl, ?hy277⟩) (by assumption) ?_
              case hy277 => (intro w hSw; (try dsimp only at hSw); go_simp; (try (with_reducible rfl)))
              (try simp only [Act.put, List.setIfInBounds_toArray, List.set_cons_zero, List.set_cons_succ])
              refine wpAnyH_take (i := 16) (oi := ⟨_, _, _, _, _, _⟩) (v := ?v278) rfl (by kernel_rfl) (by kernel_rfl) (by kernel_rfl) (fun _ _ _ h => h) (Or.inl ⟨by rfl, ?hy278⟩) (by assumption) ?_
              case hy278 => (intro w hSw; (try dsimp only at hSw); go_simp; (try (with_reducible rfl)))
              (try simp only [Act.put, List.setIfInBounds_toArray, List.set_cons_zero, List.set_cons_succ])
              refine wpAnyH_take (i := 17) (oi := ⟨_, _, _, _, _, _⟩) (v := ?v279) rfl (by kernel_rfl) (by kernel_rfl) (by kernel_rfl) (fun _ _ _ h => h) (Or.inl ⟨by rfl, ?hy279⟩) (by assumption) ?_
              case hy279 => (intro w hSw; (try dsimp only at hSw); go_simp; (try (with_reducible rfl)))
              (try simp only [Act.put, List.setIfInBounds_toArray, List.set_cons_zero, List.set_cons_succ])
              refine wpAnyH_take (i := 18) (oi := ⟨_, _, _, _, _, _⟩) (v := ?v280) rfl (by kernel_rfl) (by kernel_rfl) (by kernel_rfl) (fun _ _ _ h => h) (Or.inl ⟨by rfl, ?hy280⟩) (by assumption) ?_
              case hy280 => (intro w hSw; (try dsimp only at hSw); go_simp; (try (with_reducible rfl)))
              (try simp only [Act.put, List.setIfInBounds_toArray, List.set_cons_zero, List.set_cons_succ])
              refine wpAnyH_take (i := 19) (oi := ⟨_, _, _, _, _, _⟩) (v := ?v281) rfl (by kernel_rfl) (by kernel_rfl) (by kernel_rfl) (fun _ _ _ h => h) (Or.inl ⟨by rfl, ?hy281⟩) (by assumption) ?_
              case hy281 => (intro w hSw; (try dsimp only at hSw); go_simp; (try (with_reducible rfl)))
              (try simp only [Act.put, List.setIfInBounds_toArray, List.set_cons_zero, List.set_cons_succ])
              refine wpAnyH_take (i := 20) (oi := ⟨_, _, _, _, _, _⟩) (v := ?v282) rfl (by kernel_rfl) (by kernel_rfl) (by kernel_rfl) (fun _ _ _ h => h) (Or.inl ⟨by rfl, ?hy282⟩) (by assumption) ?_
              case hy282 => (intro w hSw; (try dsimp only at hSw); go_simp; (try (with_reducible rfl)))
              (try simp only [Act.put, List.setIfInBounds_toArray, List.set_cons_zero, List.set_cons_succ])
              refine wpAnyH_take (i := 21) (oi := ⟨_, _, _, _, _, _⟩) (v := ?v283) rfl (by kernel_rfl) (by kernel_rfl) (by kernel_rfl) (fun _ _ _ h => h) (Or.inl ⟨by rfl, ?hy283⟩) (by assumption) ?_
              case hy283 => (intro w hSw; (try dsimp only at hSw); go_simp; (try (with_reducible rfl)))
              (try simp only [Act.put, List.setIfInBounds_toArray, List.set_cons_zero, List.set_cons_succ])
              refine wpAnyH_take (i := 22) (oi := ⟨_, _, _, _, _, _⟩) (v := ?v284) rfl (by kernel_rfl) (by kernel_rfl) (by kernel_rfl) (fun _ _ _ h => h) (Or.inl ⟨by rfl, ?hy284⟩) (by assumption) ?_
              case hy284 => (intro w hSw; (try dsimp only at hSw); go_simp; (try (with_reducible rfl)))
              (try simp only [Act.put, List.setIfInBounds_toArray, List.set_cons_zero, List.set_cons_succ])
              refine wpAnyH_take (i := 23) (oi := ⟨_, _, _, _, _, _⟩) (v := ?v285) rfl (by kernel_rfl) (by kernel_rfl) (by kernel_rfl) (fun _ _ _ h => h) (Or.inl ⟨by rfl, ?hy285⟩) (by assumption) ?_
              case hy285 => (intro w hSw; (try dsimp only at hSw); go_simp; (try (with_reducible rfl)))
              (try simp only [Act.put, List.setIfInBounds_toArray, List.set_cons_zero, List.set_cons_succ])
              refine wpAnyH_ready (rs := [24]) (by kernel_rfl) (by simp) ?_
              refine AllReadyH.cons (o := ⟨_, _, _, _, _, _⟩) rfl (fun K hK => ?_) AllReadyH.nil
              go_simp
              (go_at_call 85; (with_reducible refine (K7.out _ hHeld.1).mono ?_); rintro e w3 ⟨rfl, hu⟩; have HU3 := Lib.hid hu; have HX3 := Lib.hid (keepK22 HU3 hHeld); clear hu)
              (try go_wp2_with fail)
              refine hK.out _ _ ?hB286 (fun hHeld => ?_)
              case hB286 => (first | (with_reducible assumption) | (with_reducible exact keepK22 (Lib.hid (Up.refl _).drew) HSS.out) | (with_reducible exact HX2.out) | (with_reducible exact HX3.out))
              clear hK K
              (try simp only [Act.put, List.setIfInBounds_toArray, List.set_cons_zero, List.set_cons_succ])
              refine wpAnyH_take (i := 25) (oi := ⟨_, _, _, _, _, _⟩) (v := ?v287) rfl (by kernel_rfl) (by kernel_rfl) (by kernel_rfl) (fun _ _ _ h => h) (Or.inl ⟨by rfl, ?hy287⟩) (by assumption) ?_
              case hy287 => (intro w hSw; (try dsimp only at hSw); go_simp; (try (with_reducible rfl)))
              (try simp only [Act.put, List.setIfInBounds_toArray, List.set_cons_zero, List.set_cons_succ])
              refine wpAnyH_take (i := 26) (oi := ⟨_, _, _, _, _, _⟩) (v := ?v288) rfl (by kernel_rfl) (by kernel_rfl) (by kernel_rfl) (fun _ _ _ h => h) (Or.inl ⟨by rfl, ?hy288⟩) (by assumption) ?_
              case hy288 => (intro w hSw; (try dsimp only at hSw); go_simp; (try (with_reducible rfl)))
              (try simp only [Act.put, List.setIfInBounds_toArray, List.set_cons_zero, List.set_cons_succ])
              refine wpAnyH_done (by kernel_rfl) ?_ _
              obtain ⟨u8, f8, _⟩ := hHeld
              (repeat clear ‹Up w1 _ ∧ _›)
              go_wp2_with fail
              go_roundw
              case rel => exact ⟨p + 2 + 1, by go_num, by omega, HA2, Lib.hid ⟨u8, f8⟩⟩
              case measure => simp [intOf]; omega
          · have td : decide (1 < sq - sq1) = false := decide_eq_false hd
            have HA2 := Lib.hid (HA1.out (fun _ h => absurd h (by omega)))
            clear HX HY HA1 HDi HDp HDq Hp Hq HPc HQc HB HT HD KC
            go_wp2_with fail
            refine wp_region_held_drew (S := fun w' => Up w1 w' ∧ w'.cell? ⟨w.heap.size, 6, none⟩ = some (.slice (some ⟨b, o, none⟩) n k) ∧ w'.cell? ⟨wr.heap.size, 0, none⟩ = some (.int .i64 sq) ∧ w'.cell? ⟨wr.heap.size, 1, none⟩ = some (.int .i64 t) ∧ w'.cell? ⟨wr.heap.size, 2, none⟩ = some (.int .i64 nn) ∧ w'.cell? ⟨wr.heap.size, 3, none⟩ = some (.int .i64 s) ∧ w'.cell? ⟨wr.heap.size, 4, none⟩ = some (.int .i64 qq) ∧ w'.cell? ⟨wr.heap.size, 5, none⟩ = some (.int .i64 lo) ∧ w'.cell? ⟨wr.heap.size, 6, none⟩ = some (.int .i64 hi) ∧ w'.cell? ⟨b, o + (p + 1) * 7, none⟩ = some (.int .i64 sq1) ∧ w'.cell? ⟨b, o + (p + 1) * 7 + 1, none⟩ = some (.int .i64 t1) ∧ w'.cell? ⟨b, o + (p + 1) * 7 + 2, none⟩ = some (.int .i64 nn1) ∧ w'.cell? ⟨b, o + (p + 1) * 7 + 3, none⟩ = some (.int .i64 s1) ∧ w'.cell? ⟨b, o + (p + 1) * 7 + 4, none⟩ = some (.int .i64 qq1) ∧ w'.cell? ⟨b, o + (p + 1) * 7 + 5, none⟩ = some (.int .i64 lo1) ∧ w'.cell? ⟨b, o + (p + 1) * 7 + 6, none⟩ = some (.int .i64 hi1) ∧ w'.cell? ⟨b, o + p * 7, none⟩ = some (.int .i64 sq2) ∧ w'.cell? ⟨b, o + p * 7 + 1, none⟩ = some (.int .i64 t2) ∧ w'.cell? ⟨b, o + p * 7 + 2, none⟩ = some (.int .i64 nn2) ∧ w'.cell? ⟨b, o + p * 7 + 3, none⟩ = some (.int .i64 s2) ∧ w'.cell? ⟨b, o + p * 7 + 4, none⟩ = some (.int .i64 qq2) ∧ w'.cell? ⟨b, o + p * 7 + 5, none⟩ = some (.int .i64 lo2) ∧ w'.cell? ⟨b, o + p * 7 + 6, none⟩ = some (.int .i64 hi2)) (by kernel_rfl) ?hB289 (fun hHeld => ?_)
            case hB289 => (first | (with_reducible assumption) | (with_reducible exact keepK22 (Lib.hid (Up.refl _).drew) HSS.out) | (with_reducible exact HX2.out) | (with_reducible exact HX3.out))
            refine wpAnyH_take (i := 0) (oi := ⟨_, _, _, _, _, _⟩) (v := ?v290) rfl (by kernel_rfl) (by kernel_rfl) (by kernel_rfl) (fun _ _ _ h => h) (Or.inl ⟨by rfl, ?hy290⟩) (by assumption) ?_
            case hy290 => (intro w hSw; (try dsimp only at hSw); go_simp; (try (with_reducible rfl)))
            (try simp only [Act.put, List.setIfInBounds_toArray, List.set_cons_zero, List.set_cons_succ])
            refine wpAnyH_take (i := 1) (oi := ⟨_, _, _, _, _, _⟩) (v := ?v291) rfl (by kernel_rfl) (by kernel_rfl) (by kernel_rfl) (fun _ _ _ h => h) (Or.inl ⟨by rfl, ?hy291⟩) (by assumption) ?_
            case hy291 => (intro w hSw; (try dsimp only at hSw); go_simp; (try (with_reducible rfl)))
            (try simp only [Act.put, List.setIfInBounds_toArray, List.set_cons_zero, List.set_cons_succ])
            refine wpAnyH_take (i := 2) (oi := ⟨_, _, _, _, _, _⟩) (v := ?v292) rfl (by kernel_rfl) (by kernel_rfl) (by kernel_rfl) (fun _ _ _ h => h) (Or.inl ⟨by rfl, ?hy292⟩) (by assumption) ?_
            case hy292 => (intro w hSw; (try dsimp only at hSw); go_simp; (try (with_reducible rfl)))
            (try simp only [Act.put, List.setIfInBounds_toArray, List.set_cons_zero, List.set_cons_succ])
            refine wpAnyH_take (i := 3) (oi := ⟨_, _, _, _, _, _⟩) (v := ?v293) rfl (by kernel_rfl) (by kernel_rfl) (by kernel_rfl) (fun _ _ _ h => h) (Or.inl ⟨by rfl, ?hy293⟩) (by assumption) ?_
            case hy293 => (intro w hSw; (try dsimp only at hSw); go_simp; (try (with_reducible rfl)))
            (try simp only [Act.put, List.setIfInBounds_toArray, List.set_cons_zero, List.set_cons_succ])
            refine wpAnyH_take (i := 4) (oi := ⟨_, _, _, _, _, _⟩) (v := ?v294) rfl (by kernel_rfl) (by kernel_rfl) (by kernel_rfl) (fun _ _ _ h => h) (Or.inl ⟨by rfl, ?hy294⟩) (by assumption) ?_
            case hy294 => (intro w hSw; (try dsimp only at hSw); go_simp; (try (with_reducible rfl)))
            (try simp only [Act.put, List.setIfInBounds_toArray, List.set_cons_zero, List.set_cons_succ])
            refine wpAnyH_take (i := 5) (oi := ⟨_, _, _, _, _, _⟩) (v := ?v295) rfl (by kernel_rfl) (by kernel_rfl) (by kernel_rfl) (fun _ _ _ h => h) (Or.inl ⟨by rfl, ?hy295⟩) (by assumption) ?_
            case hy295 => (intro w hSw; (try dsimp only at hSw); go_simp; (try (with_reducible rfl)))
            (try simp only [Act.put, List.setIfInBounds_toArray, List.set_cons_zero, List.set_cons_succ])
            refine wpAnyH_take (i := 6) (oi := ⟨_, _, _, _, _, _⟩) (v := ?v296) rfl (by kernel_rfl) (by kernel_rfl) (by kernel_rfl) (fun _ _ _ h => h) (Or.inl ⟨by rfl, ?hy296⟩) (by assumption) ?_
            case hy296 => (intro w hSw; (try dsimp only at hSw); go_simp; (try (with_reducible rfl)))
            (try simp only [Act.put, List.setIfInBounds_toArray, List.set_cons_zero, List.set_cons_succ])
            refine wpAnyH_take (i := 7) (oi := ⟨_, _, _, _, _, _⟩) (v := ?v297) rfl (by kernel_rfl) (by kernel_rfl) (by kernel_rfl) (fun _ _ _ h => h) (Or.inl ⟨by rfl, ?hy297⟩) (by assumption) ?_
            case hy297 => (intro w hSw; (try dsimp only at hSw); go_simp; (try (with_reducible rfl)))
            (try simp only [Act.put, List.setIfInBounds_toArray, List.set_cons_zero, List.set_cons_succ])
            refine wpAnyH_take (i := 8) (oi := ⟨_, _, _, _, _, _⟩) (v := ?v298) rfl (by kernel_rfl) (by kernel_rfl) (by kernel_rfl) (fun _ _ _ h => h) (Or.inl ⟨by rfl, ?hy298⟩) (by assumption) ?_
            case hy298 => (intro w hSw; (try dsimp only at hSw); go_simp; (try (with_reducible rfl)))
            (try simp only [Act.put, List.setIfInBounds_toArray, List.set_cons_zero, List.set_cons_succ])
            refine wpAnyH_take (i := 9) (oi := ⟨_, _, _, _, _, _⟩) (v := ?v299) rfl (by kernel_rfl) (by kernel_rfl) (by kernel_rfl) (fun _ _ _ h => h) (Or.inl ⟨by rfl, ?hy299⟩) (by assumption) ?_
            case hy299 => (intro w hSw; (try dsimp only at hSw); go_simp; (try (with_reducible rfl)))
            (try simp only [Act.put, List.setIfInBounds_toArray, List.set_cons_zero, List.set_cons_succ])
            refine wpAnyH_take (i := 10) (oi := ⟨_, _, _, _, _, _⟩) (v := ?v300) rfl (by kernel_rfl) (by kernel_rfl) (by kernel_rfl) (fun _ _ _ h => h) (Or.inl ⟨by rfl, ?hy300⟩) (by assumption) ?_
            case hy300 => (intro w hSw; (try dsimp only at hSw); go_simp; (try (with_reducible rfl)))
            (try simp only [Act.put, List.setIfInBounds_toArray, List.set_cons_zero, List.set_cons_succ])
            refine wpAnyH_take (i := 11) (oi := ⟨_, _, _, _, _, _⟩) (v := ?v301) rfl (by kernel_rfl) (by kernel_rfl) (by kernel_rfl) (fun _ _ _ h => h) (Or.inl ⟨by rfl, ?hy301⟩) (by assumption) ?_
            case hy301 => (intro w hSw; (try dsimp only at hSw); go_simp; (try (with_reducible rfl)))
            (try simp only [Act.put, List.setIfInBounds_toArray, List.set_cons_zero, List.set_cons_succ])
            refine wpAnyH_take (i := 12) (oi := ⟨_, _, _, _, _, _⟩) (v := ?v302) rfl (by kernel_rfl) (by kernel_rfl) (by kernel_rfl) (fun _ _ _ h => h) (Or.inl ⟨by rfl, ?hy302⟩) (by assumption) ?_
            case hy302 => (intro w hSw; (try dsimp only at hSw); go_simp; (try (with_reducible rfl)))
            (try simp only [Act.put, List.setIfInBounds_toArray, List.set_cons_zero, List.set_cons_succ])
            refine wpAnyH_take (i := 13) (oi := ⟨_, _, _, _, _, _⟩) (v := ?v303) rfl (by kernel_rfl) (by kernel_rfl) (by kernel_rfl) (fun _ _ _ h => h) (Or.inl ⟨by rfl, ?hy303⟩) (by assumption) ?_
            case hy303 => (intro w hSw; (try dsimp only at hSw); go_simp; (try (with_reducible rfl)))
            (try simp only [Act.put, List.setIfInBounds_toArray, List.set_cons_zero, List.set_cons_succ])
            refine wpAnyH_take (i := 14) (oi := ⟨_, _, _, _, _, _⟩) (v := ?v304) rfl (by kernel_rfl) (by kernel_rfl) (by kernel_rfl) (fun _ _ _ h => h) (Or.inl ⟨by rfl, ?hy304⟩) (by assumption) ?_
            case hy304 => (intro w hSw; (try dsimp only at hSw); go_simp; (try (with_reducible rfl)))
            (try simp only [Act.put, List.setIfInBounds_toArray, List.set_cons_zero, List.set_cons_succ])
            refine wpAnyH_take (i := 15) (oi := ⟨_, _, _, _, _, _⟩) (v := ?v305) rfl (by kernel_rfl) (by kernel_rfl) (by kernel_rfl) (fun _ _ _ h => h) (Or.inl ⟨by rfl, ?hy305⟩) (by assumption) ?_
            case hy305 => (intro w hSw; (try dsimp only at hSw); go_simp; (try (with_reducible rfl)))
            (try simp only [Act.put, List.setIfInBounds_toArray, List.set_cons_zero, List.set_cons_succ])
            refine wpAnyH_take (i := 16) (oi := ⟨_, _, _, _, _, _⟩) (v := undef) rfl (by kernel_rfl) (by kernel_rfl) (by kernel_rfl) (fun _ _ _ h => h) (Or.inr ⟨by rfl, rfl⟩) (by assumption) ?_
            (try simp only [Act.put, List.setIfInBounds_toArray, List.set_cons_zero, List.set_cons_succ])
            refine wpAnyH_take (i := 17) (oi := ⟨_, _, _, _, _, _⟩) (v := undef) rfl (by kernel_rfl) (by kernel_rfl) (by kernel_rfl) (fun _ _ _ h => h) (Or.inr ⟨by rfl, rfl⟩) (by assumption) ?_
            (try simp only [Act.put, List.setIfInBounds_toArray, List.set_cons_zero, List.set_cons_succ])
            refine wpAnyH_take (i := 18) (oi := ⟨_, _, _, _, _, _⟩) (v := undef) rfl (by kernel_rfl) (by kernel_rfl) (by kernel_rfl) (fun _ _ _ h => h) (Or.inr ⟨by rfl, rfl⟩) (by assumption) ?_
            (try simp only [Act.put, List.setIfInBounds_toArray, List.set_cons_zero, List.set_cons_succ])
            refine wpAnyH_take (i := 19) (oi := ⟨_, _, _, _, _, _⟩) (v := undef) rfl (by kernel_rfl) (by kernel_rfl) (by kernel_rfl) (fun _ _ _ h => h) (Or.inr ⟨by rfl, rfl⟩) (by assumption) ?_
            (try simp only [Act.put, List.setIfInBounds_toArray, List.set_cons_zero, List.set_cons_succ])
            refine wpAnyH_take (i := 20) (oi := ⟨_, _, _, _, _, _⟩) (v := undef) rfl (by kernel_rfl) (by kernel_rfl) (by kernel_rfl) (fun _ _ _ h => h) (Or.inr ⟨by rfl, rfl⟩) (by assumption) ?_
            (try simp only [Act.put, List.setIfInBounds_toArray, List.set_cons_zero, List.set_cons_succ])
            refine wpAnyH_take (i := 21) (oi := ⟨_, _, _, _, _, _⟩) (v := undef) rfl (by kernel_rfl) (by kernel_rfl) (by kernel_rfl) (fun _ _ _ h => h) (Or.inr ⟨by rfl, rfl⟩) (by assumption) ?_
            (try simp only [Act.put, List.setIfInBounds_toArray, List.set_cons_zero, List.set_cons_succ])
            refine wpAnyH_take (i := 22) (oi := ⟨_, _, _, _, _, _⟩) (v := undef) rfl (by kernel_rfl) (by kernel_rfl) (by kernel_rfl) (fun _ _ _ h => h) (Or.inr ⟨by rfl, rfl⟩) (by assumption) ?_
            (try simp only [Act.put, List.setIfInBounds_toArray, List.set_cons_zero, List.set_cons_succ])
            refine wpAnyH_take (i := 23) (oi := ⟨_, _, _, _, _, _⟩) (v := undef) rfl (by kernel_rfl) (by kernel_rfl) (by kernel_rfl) (fun _ _ _ h => h) (Or.inr ⟨by rfl, rfl⟩) (by assumption) ?_
            (try simp only [Act.put, List.setIfInBounds_toArray, List.set_cons_zero, List.set_cons_succ])
            refine wpAnyH_take (i := 24) (oi := ⟨_, _, _, _, _, _⟩) (v := undef) rfl (by kernel_rfl) (by kernel_rfl) (by kernel_rfl) (fun _ _ _ h => h) (Or.inr ⟨by rfl, rfl⟩) (by assumption) ?_
            (try simp only [Act.put, List.setIfInBounds_toArray, List.set_cons_zero, List.set_cons_succ])
            refine wpAnyH_take (i := 25) (oi := ⟨_, _, _, _, _, _⟩) (v := undef) rfl (by kernel_rfl) (by kernel_rfl) (by kernel_rfl) (fun _ _ _ h => h) (Or.inr ⟨by rfl, rfl⟩) (by assumption) ?_
            (try simp only [Act.put, List.setIfInBounds_toArray, List.set_cons_zero, List.set_cons_succ])
            refine wpAnyH_take (i := 26) (oi := ⟨_, _, _, _, _, _⟩) (v := ?v306) rfl (by kernel_rfl) (by kernel_rfl) (by kernel_rfl) (fun _ _ _ h => h) (Or.inl ⟨by rfl, ?hy306⟩) (by assumption) ?_
            case hy306 => (intro w hSw; (try dsimp only at hSw); go_simp; (try (with_reducible rfl)))
            (try simp only [Act.put, List.setIfInBounds_toArray, List.set_cons_zero, List.set_cons_succ])
            refine wpAnyH_done (by kernel_rfl) ?_ _
            obtain ⟨u8, f8, _⟩ := hHeld
            (repeat clear ‹Up w1 _ ∧ _›)
            go_wp2_with fail
            go_roundw
            case rel => exact ⟨p + 2 + 1, by go_num, by omega, HA2, Lib.hid ⟨u8, f8⟩⟩
            case measure => simp [intOf]; omega
    · obtain rfl : i = n := by omega
      obtain rfl : r = true := HT.out HG.out
      clear HT HB HG
      go_wp2_with fail
      go_ret
      exact ⟨rfl, HU1.out.trans u7⟩
end Go.Proofs.Ytchikndofpkjmaa
