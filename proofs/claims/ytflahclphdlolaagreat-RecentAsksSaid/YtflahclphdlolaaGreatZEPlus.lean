/- What plus and minus of package exact return. -/
import Derived.Test.YtflahclphdlolaaGreatZEWords
import Derived.Test.YtflahclphdlolaaGreatZG0a
import Derived.Test.YtflahclphdlolaaGreatZG2a
namespace Go.Proofs.YtflahclphdlolaaGreat
open Go.RowKit

/-- The cells that the walks of plus, minus and times hold. -/
structure Wp (w wr : World) (xs ys z : Nat → Int) : Prop where
  up : Up w wr
  x : ∀ i, i < 3 → wr.cell? ⟨w.heap.size, i, none⟩ = some (.int .u64 (xs i))
  y : ∀ i, i < 3 → wr.cell? ⟨w.heap.size + 1, i, none⟩ = some (.int .u64 (ys i))
  r : ∀ i, i < 3 → wr.cell? ⟨w.heap.size + 1 + 1, i, none⟩ = some (.int .u64 0)
  z : ∀ i, i < 3 → wr.cell? ⟨w.heap.size + 1 + 1 + 1, i, none⟩ = some (.int .u64 (z i))
theorem Wp.keep {w w1 w2 : World} {xs ys z : Nat → Int} (h : Wp w w1 xs ys z) (hu : Up w1 w2) : Wp w w2 xs ys z :=
  ⟨h.up.trans hu, fun i hi => hu.keep _ _ _ (h.x i hi), fun i hi => hu.keep _ _ _ (h.y i hi), fun i hi => hu.keep _ _ _ (h.r i hi), fun i hi => hu.keep _ _ _ (h.z i hi)⟩
theorem Wp.far {w w1 : World} {g q : Nat} {v : Value} {xs ys z : Nat → Int} (h : Wp w w1 xs ys z) (hg : w.heap.size + 1 + 1 + 1 < g) : Wp w (w1.setCell ⟨g, q, none⟩ v) xs ys z :=
  ⟨h.up.setCell (by show w.heap.size ≤ g; omega) _, fun i hi => (cell_far (by show g ≠ _; omega)).trans (h.x i hi), fun i hi => (cell_far (by show g ≠ _; omega)).trans (h.y i hi), fun i hi => (cell_far (by show g ≠ _; omega)).trans (h.r i hi), fun i hi => (cell_far (by show g ≠ _; omega)).trans (h.z i hi)⟩
theorem Wp.set {w w1 : World} {m : Nat} {t : Int} {xs ys z : Nat → Int} (h : Wp w w1 xs ys z) : Wp w (w1.setCell ⟨w.heap.size + 1 + 1 + 1, m, none⟩ (.int .u64 t)) xs ys (updz z m t) :=
  ⟨h.up.setCell (by show w.heap.size ≤ w.heap.size + 1 + 1 + 1; omega) _, fun i hi => (cell_far (by show w.heap.size + 1 + 1 + 1 ≠ _; omega)).trans (h.x i hi), fun i hi => (cell_far (by show w.heap.size + 1 + 1 + 1 ≠ _; omega)).trans (h.y i hi),
   fun i hi => (cell_far (by show w.heap.size + 1 + 1 + 1 ≠ _; omega)).trans (h.r i hi), fun i hi => by rw [cell_set (h.z i hi)]; unfold updz; by_cases e : m = i <;> simp [e, eq_comm]⟩
theorem Wp.start {w wr : World} {xs ys : Nat → Int} (hu : Up w wr) (x0 : wr.cell? ⟨w.heap.size, 0, none⟩ = some (.int .u64 (xs 0))) (x1 : wr.cell? ⟨w.heap.size, 1, none⟩ = some (.int .u64 (xs 1))) (x2 : wr.cell? ⟨w.heap.size, 2, none⟩ = some (.int .u64 (xs 2)))
    (y0 : wr.cell? ⟨w.heap.size + 1, 0, none⟩ = some (.int .u64 (ys 0))) (y1 : wr.cell? ⟨w.heap.size + 1, 1, none⟩ = some (.int .u64 (ys 1))) (y2 : wr.cell? ⟨w.heap.size + 1, 2, none⟩ = some (.int .u64 (ys 2)))
    (r0 : wr.cell? ⟨w.heap.size + 1 + 1, 0, none⟩ = some (.int .u64 0)) (r1 : wr.cell? ⟨w.heap.size + 1 + 1, 1, none⟩ = some (.int .u64 0)) (r2 : wr.cell? ⟨w.heap.size + 1 + 1, 2, none⟩ = some (.int .u64 0))
    (z0 : wr.cell? ⟨w.heap.size + 1 + 1 + 1, 0, none⟩ = some (.int .u64 0)) (z1 : wr.cell? ⟨w.heap.size + 1 + 1 + 1, 1, none⟩ = some (.int .u64 0)) (z2 : wr.cell? ⟨w.heap.size + 1 + 1 + 1, 2, none⟩ = some (.int .u64 0)) : Wp w wr xs ys (fun _ => 0) := by
  refine ⟨hu, fun i hi => ?_, fun i hi => ?_, fun i hi => ?_, fun i hi => ?_⟩ <;> (rcases (by omega : i = 0 ∨ i = 1 ∨ i = 2) with rfl | rfl | rfl) <;> assumption
theorem words_upd {z : Nat → Int} {i : Nat} {t : Int} (h : ∀ m, Word (z m)) (ht : Word t) : ∀ m, Word (updz z i t m) := fun m => by
  by_cases e : m = i
  · rw [e, updz_same]; exact ht
  · rw [updz_other _ _ e]; exact h m

set_option maxHeartbeats 4000000 in
set_option maxRecDepth 100000 in
theorem plus_v (a b : Int) (w : World) :
    Calls Tryz.prog 70 #[w3 a, w3 b] w fun e w' => e = .returned (w3 (a + b)) ∧ Up w w' := by
  have BX := Lib.hid (fun i => dg3_word a i)
  have BY := Lib.hid (fun i => dg3_word b i)
  have HE := Lib.hid (fun (z : Nat → Int) (c : Int) (h0 : Word (z 0)) (h1 : Word (z 1)) (h2 : Word (z 2)) h => plus_end (z := z) (a := a) (b := b) (c := c) h0 h1 h2 h)
  unfold w3
  generalize hr : dg3 (a + b) = rs at *
  generalize hx : dg3 a = xs at *
  generalize hy : dg3 b = ys at *
  clear hr hx hy
  obtain ⟨x0, X0⟩ : ∃ t, t = xs 0 := ⟨_, rfl⟩
  obtain ⟨x1, X1⟩ : ∃ t, t = xs 1 := ⟨_, rfl⟩
  obtain ⟨x2, X2⟩ : ∃ t, t = xs 2 := ⟨_, rfl⟩
  obtain ⟨y0, Y0⟩ : ∃ t, t = ys 0 := ⟨_, rfl⟩
  obtain ⟨y1, Y1⟩ : ∃ t, t = ys 1 := ⟨_, rfl⟩
  obtain ⟨y2, Y2⟩ : ∃ t, t = ys 2 := ⟨_, rfl⟩
  rw [← X0, ← X1, ← X2, ← Y0, ← Y1, ← Y2]
  have HX0 := Lib.hid X0
  have HX1 := Lib.hid X1
  have HX2 := Lib.hid X2
  have HY0 := Lib.hid Y0
  have HY1 := Lib.hid Y1
  have HY2 := Lib.hid Y2
  clear X0 X1 X2 Y0 Y1 Y2
  go_enter Tryz.func70, Tryz.ntmps70
  go_wp2_with fail
  go_loopg [6, 8] 3 (fun kk u6 u8 wr => ∃ (i : Nat) (c : Int) (z : Nat → Int), kk = 3 - i ∧ i ≤ 3 ∧ u8 = .int .i64 i ∧ u6 = .int .u64 c ∧ 0 ≤ c ∧ c ≤ 1 ∧ Wp w wr xs ys z ∧ Hid (∀ m, Word (z m)) ∧ Hid (V3 z i + c * 18446744073709551616 ^ i = V3 xs i + V3 ys i))
  case atStart =>
    refine ⟨0, 0, fun _ => 0, rfl, by omega, rfl, rfl, Int.le_refl _, by decide, Wp.start ?_ ?_ ?_ ?_ ?_ ?_ ?_ ?_ ?_ ?_ ?_ ?_ ?_, Lib.hid (fun _ => (⟨by decide, by decide⟩ : Word 0)), Lib.hid (by simp [V3])⟩
    · repeat (first | exact Up.refl _ | refine Up.alloc ?_ _ _ | refine Up.setCell ?_ (by first | (simp; done) | (simp; omega) | omega) _ | refine Up.drewN ?_ _ | refine Up.drew ?_)
    · rw [← HX0.out]; simp [go_sem]
    · rw [← HX1.out]; simp [go_sem]
    · rw [← HX2.out]; simp [go_sem]
    · rw [← HY0.out]; simp [go_sem]
    · rw [← HY1.out]; simp [go_sem]
    · rw [← HY2.out]; simp [go_sem]
    all_goals simp [go_sem]
  case round =>
    obtain ⟨i, c, z, rfl, hi, rfl, rfl, c0, c1, hT, BZ, HV⟩ := hrel
    by_cases hi3 : i < 3
    · have hx := hT.x i hi3
      have hy := hT.y i hi3
      have hz := hT.z i hi3
      have HT := Lib.hid hT
      have z2 := hT.up.ownGe (show w.heap.size ≤ w.heap.size + 1 + 1 + 1 by omega) i
      have bx := BX.out i
      have by_ := BY.out i
      unfold Word at bx by_
      obtain ⟨bx0, bx1⟩ := bx
      obtain ⟨by0, by1⟩ := by_
      have ti : decide ((i : Int) < 3) = true := decide_eq_true (by omega)
      have ti' : (i : Int) < 3 := by omega
      have ti0 : (0 : Int) ≤ i := by omega
      have HM : Hid (V3 z i + c * 18446744073709551616 ^ i = V3 xs i + V3 ys i → V3 (updz z i ((xs i + ys i + c) % 18446744073709551616)) (i + 1) + (xs i + ys i + c) / 18446744073709551616 * 18446744073709551616 ^ (i + 1) = V3 xs (i + 1) + V3 ys (i + 1)) := Lib.hid (fun h => step_plus h (by omega))
      have q := add64 (xs i) (ys i) c bx0 by0 c0 c1
      clear hT
      generalize hzz : z i = zz at hz
      generalize hxx : xs i = xx at hx bx0 bx1 q HM
      generalize hyy : ys i = yy at hy by0 by1 q HM
      clear hzz
      generalize hs : (xx + yy + c) % 18446744073709551616 = s at q HM
      generalize hc : (xx + yy + c) / 18446744073709551616 = c' at q HM
      have hs0 : Word s := by rw [← hs]; unfold Word; omega
      have hc0 : 0 ≤ c' ∧ c' ≤ 1 := by rw [← hc]; first | exact bor_01 _ _ | omega
      obtain ⟨k0, k1⟩ := hc0
      have HW := Lib.hid (words_upd (i := i) BZ.out hs0)
      have HXX := Lib.hid hxx
      have HYY := Lib.hid hyy
      clear hs hc hs0 hxx hyy
      go_wp2_with fail
      go_region
      all_goals
        go_wp2_with fail
        go_roundg (3 - (i + 1))
        case measure => omega
        case rel => exact ⟨i + 1, _, _, rfl, by omega, by go_num, rfl, k0, k1, (HT.out.keep (Up.refl _).drew).set, HW, Lib.hid (HM.out HV.out)⟩
    · obtain rfl : i = 3 := by omega
      obtain ⟨e0, e1, e2⟩ := HE.out z c (BZ.out 0) (BZ.out 1) (BZ.out 2) HV.out
      have c0_ := hT.z 0 (by omega)
      have c1_ := hT.z 1 (by omega)
      have c2_ := hT.z 2 (by omega)
      have r0 := hT.r 0 (by omega)
      have r1 := hT.r 1 (by omega)
      have r2 := hT.r 2 (by omega)
      have z0 := hT.up.ownGe (show w.heap.size ≤ w.heap.size + 1 + 1 by omega) 0
      have z1 := hT.up.ownGe (show w.heap.size ≤ w.heap.size + 1 + 1 by omega) 1
      have z2 := hT.up.ownGe (show w.heap.size ≤ w.heap.size + 1 + 1 by omega) 2
      have HT := Lib.hid hT
      rw [e0] at c0_
      rw [e1] at c1_
      rw [e2] at c2_
      clear hT e0 e1 e2 BX BY HE HV BZ
      go_wp2_with fail
      refine bodyPost_ret (v := .agg #[.int .u64 (rs 0), .int .u64 (rs 1), .int .u64 (rs 2)]) (by simp [results, Tryz.results70, go_sem, r0, r1, r2]) rfl ⟨?_, ?_⟩
      · rfl
      · ((repeat (first | (with_reducible exact Up.refl _) | (with_reducible exact HT.out.up) | (with_reducible refine Up.alloc ?_ _ _) | (with_reducible refine Up.setCell ?_ ?_ _) | (with_reducible refine Up.drewN ?_ _) | (with_reducible refine Up.drew ?_))); all_goals (first | (simp; done) | (simp; omega) | omega))

set_option maxHeartbeats 4000000 in
set_option maxRecDepth 100000 in
theorem minus_v (a b : Int) (w : World) :
    Calls Tryz.prog 46 #[w3 a, w3 b] w fun e w' => e = .returned (w3 (a - b)) ∧ Up w w' := by
  have BX := Lib.hid (fun i => dg3_word a i)
  have BY := Lib.hid (fun i => dg3_word b i)
  have HE := Lib.hid (fun (z : Nat → Int) (c : Int) (h0 : Word (z 0)) (h1 : Word (z 1)) (h2 : Word (z 2)) h => minus_end (z := z) (a := a) (b := b) (c := c) h0 h1 h2 h)
  unfold w3
  generalize hr : dg3 (a - b) = rs at *
  generalize hx : dg3 a = xs at *
  generalize hy : dg3 b = ys at *
  clear hr hx hy
  obtain ⟨x0, X0⟩ : ∃ t, t = xs 0 := ⟨_, rfl⟩
  obtain ⟨x1, X1⟩ : ∃ t, t = xs 1 := ⟨_, rfl⟩
  obtain ⟨x2, X2⟩ : ∃ t, t = xs 2 := ⟨_, rfl⟩
  obtain ⟨y0, Y0⟩ : ∃ t, t = ys 0 := ⟨_, rfl⟩
  obtain ⟨y1, Y1⟩ : ∃ t, t = ys 1 := ⟨_, rfl⟩
  obtain ⟨y2, Y2⟩ : ∃ t, t = ys 2 := ⟨_, rfl⟩
  rw [← X0, ← X1, ← X2, ← Y0, ← Y1, ← Y2]
  have HX0 := Lib.hid X0
  have HX1 := Lib.hid X1
  have HX2 := Lib.hid X2
  have HY0 := Lib.hid Y0
  have HY1 := Lib.hid Y1
  have HY2 := Lib.hid Y2
  clear X0 X1 X2 Y0 Y1 Y2
  go_enter Tryz.func46, Tryz.ntmps46
  go_wp2_with fail
  go_loopg [6, 8] 3 (fun kk u6 u8 wr => ∃ (i : Nat) (c : Int) (z : Nat → Int), kk = 3 - i ∧ i ≤ 3 ∧ u8 = .int .i64 i ∧ u6 = .int .u64 c ∧ 0 ≤ c ∧ c ≤ 1 ∧ Wp w wr xs ys z ∧ Hid (∀ m, Word (z m)) ∧ Hid (V3 z i + V3 ys i = V3 xs i + c * 18446744073709551616 ^ i))
  case atStart =>
    refine ⟨0, 0, fun _ => 0, rfl, by omega, rfl, rfl, Int.le_refl _, by decide, Wp.start ?_ ?_ ?_ ?_ ?_ ?_ ?_ ?_ ?_ ?_ ?_ ?_ ?_, Lib.hid (fun _ => (⟨by decide, by decide⟩ : Word 0)), Lib.hid (by simp [V3])⟩
    · repeat (first | exact Up.refl _ | refine Up.alloc ?_ _ _ | refine Up.setCell ?_ (by first | (simp; done) | (simp; omega) | omega) _ | refine Up.drewN ?_ _ | refine Up.drew ?_)
    · rw [← HX0.out]; simp [go_sem]
    · rw [← HX1.out]; simp [go_sem]
    · rw [← HX2.out]; simp [go_sem]
    · rw [← HY0.out]; simp [go_sem]
    · rw [← HY1.out]; simp [go_sem]
    · rw [← HY2.out]; simp [go_sem]
    all_goals simp [go_sem]
  case round =>
    obtain ⟨i, c, z, rfl, hi, rfl, rfl, c0, c1, hT, BZ, HV⟩ := hrel
    by_cases hi3 : i < 3
    · have hx := hT.x i hi3
      have hy := hT.y i hi3
      have hz := hT.z i hi3
      have HT := Lib.hid hT
      have z2 := hT.up.ownGe (show w.heap.size ≤ w.heap.size + 1 + 1 + 1 by omega) i
      have bx := BX.out i
      have by_ := BY.out i
      unfold Word at bx by_
      obtain ⟨bx0, bx1⟩ := bx
      obtain ⟨by0, by1⟩ := by_
      have ti : decide ((i : Int) < 3) = true := decide_eq_true (by omega)
      have ti' : (i : Int) < 3 := by omega
      have ti0 : (0 : Int) ≤ i := by omega
      have HM : Hid (V3 z i + V3 ys i = V3 xs i + c * 18446744073709551616 ^ i → V3 (updz z i ((xs i - ys i - c) % 18446744073709551616)) (i + 1) + V3 ys (i + 1) = V3 xs (i + 1) + bor (xs i) (ys i + c) * 18446744073709551616 ^ (i + 1)) := Lib.hid (fun h => step_minus h (by unfold bor; split <;> omega))
      have q := sub64 (xs i) (ys i) c bx0 by0 by1 c0 c1
      clear hT
      generalize hzz : z i = zz at hz
      generalize hxx : xs i = xx at hx bx0 bx1 q HM
      generalize hyy : ys i = yy at hy by0 by1 q HM
      clear hzz
      generalize hs : (xx - yy - c) % 18446744073709551616 = s at q HM
      generalize hc : bor xx (yy + c) = c' at q HM
      have hs0 : Word s := by rw [← hs]; unfold Word; omega
      have hc0 : 0 ≤ c' ∧ c' ≤ 1 := by rw [← hc]; first | exact bor_01 _ _ | omega
      obtain ⟨k0, k1⟩ := hc0
      have HW := Lib.hid (words_upd (i := i) BZ.out hs0)
      have HXX := Lib.hid hxx
      have HYY := Lib.hid hyy
      clear hs hc hs0 hxx hyy
      go_wp2_with fail
      go_region
      all_goals
        go_wp2_with fail
        go_roundg (3 - (i + 1))
        case measure => omega
        case rel => exact ⟨i + 1, _, _, rfl, by omega, by go_num, rfl, k0, k1, (HT.out.keep (Up.refl _).drew).set, HW, Lib.hid (HM.out HV.out)⟩
    · obtain rfl : i = 3 := by omega
      obtain ⟨e0, e1, e2⟩ := HE.out z c (BZ.out 0) (BZ.out 1) (BZ.out 2) HV.out
      have c0_ := hT.z 0 (by omega)
      have c1_ := hT.z 1 (by omega)
      have c2_ := hT.z 2 (by omega)
      have r0 := hT.r 0 (by omega)
      have r1 := hT.r 1 (by omega)
      have r2 := hT.r 2 (by omega)
      have z0 := hT.up.ownGe (show w.heap.size ≤ w.heap.size + 1 + 1 by omega) 0
      have z1 := hT.up.ownGe (show w.heap.size ≤ w.heap.size + 1 + 1 by omega) 1
      have z2 := hT.up.ownGe (show w.heap.size ≤ w.heap.size + 1 + 1 by omega) 2
      have HT := Lib.hid hT
      rw [e0] at c0_
      rw [e1] at c1_
      rw [e2] at c2_
      clear hT e0 e1 e2 BX BY HE HV BZ
      go_wp2_with fail
      refine bodyPost_ret (v := .agg #[.int .u64 (rs 0), .int .u64 (rs 1), .int .u64 (rs 2)]) (by simp [results, Tryz.results46, go_sem, r0, r1, r2]) rfl ⟨?_, ?_⟩
      · rfl
      · ((repeat (first | (with_reducible exact Up.refl _) | (with_reducible exact HT.out.up) | (with_reducible refine Up.alloc ?_ _ _) | (with_reducible refine Up.setCell ?_ ?_ _) | (with_reducible refine Up.drewN ?_ _) | (with_reducible refine Up.drew ?_))); all_goals (first | (simp; done) | (simp; omega) | omega))

end Go.Proofs.YtflahclphdlolaaGreat
