/- What times of package exact returns. -/
import Derived.Deep.DeepCutAuto
import Derived.Test.YtflahclphdlolaaZEPlus
import Derived.Test.YtflahclphdlolaaZETotal
import Derived.Test.YtflahclphdlolaaZEWords
import Derived.Test.YtflahclphdlolaaZG0a
import Derived.Test.YtflahclphdlolaaZG2a
import Derived.Test.YtflahclphdlolaaZG4a
import Derived.Test.YtflahclphdlolaaZWCmp
namespace Go.Proofs.Ytflahclphdlolaa
open Go.RowKit

theorem step_in {x y p c : Int} (hx : Word x) (hy : Word y) (hp : Word p) (hc : Word c) : In2 (x * y) ∧ In2 (x * y + p) ∧ In2 (x * y + p + c) := by
  unfold Word at *
  have h1 : x * y ≤ 18446744073709551615 * 18446744073709551615 := Int.mul_le_mul (by omega) (by omega) hy.1 (by omega)
  have h2 : 0 ≤ x * y := Int.mul_nonneg hx.1 hy.1
  generalize x * y = m at *
  unfold In2
  refine ⟨⟨by omega, by omega⟩, ⟨by omega, by omega⟩, ⟨by omega, by omega⟩⟩
theorem wkeep {w w1 w2 : World} {xs ys z : Nat → Int} {o1 o2 : Nat} {x y : Value} (hu : Hid (Up w1 w2)) (h : Wp w w1 xs ys z ∧ w1.cell? ⟨w.heap.size + 1, o1, none⟩ = some x ∧ w1.cell? ⟨w.heap.size + 1 + 1 + 1, o2, none⟩ = some y) :
    Wp w w2 xs ys z ∧ w2.cell? ⟨w.heap.size + 1, o1, none⟩ = some x ∧ w2.cell? ⟨w.heap.size + 1 + 1 + 1, o2, none⟩ = some y := ⟨h.1.keep hu.out, hu.out.keep _ _ _ h.2.1, hu.out.keep _ _ _ h.2.2⟩
theorem wset {w w1 : World} {xs ys z : Nat → Int} {o1 o2 b q : Nat} {x y v : Value} (h : Wp w w1 xs ys z ∧ w1.cell? ⟨w.heap.size + 1, o1, none⟩ = some x ∧ w1.cell? ⟨w.heap.size + 1 + 1 + 1, o2, none⟩ = some y) (hb : w.heap.size + 1 + 1 + 1 < b) :
    Wp w (w1.setCell ⟨b, q, none⟩ v) xs ys z ∧ (w1.setCell ⟨b, q, none⟩ v).cell? ⟨w.heap.size + 1, o1, none⟩ = some x ∧ (w1.setCell ⟨b, q, none⟩ v).cell? ⟨w.heap.size + 1 + 1 + 1, o2, none⟩ = some y :=
  ⟨h.1.far hb, (cell_far (by show b ≠ _; omega)).trans h.2.1, (cell_far (by show b ≠ _; omega)).trans h.2.2⟩

set_option maxHeartbeats 8000000 in
set_option maxRecDepth 100000 in
theorem times3_v (a b : Int) (w : World) :
    Calls Try.prog 50 #[w3 a, w3 b] w fun e w' => e = .returned (w3 (a * b)) ∧ Up w w' := by
  have BX := Lib.hid (fun i => dg3_word a i)
  have BY := Lib.hid (fun i => dg3_word b i)
  have HE := Lib.hid (fun (z : Nat → Int) (h0 : Word (z 0)) (h1 : Word (z 1)) (h2 : Word (z 2)) h => times_end (z := z) (a := a) (b := b) h0 h1 h2 h)
  unfold w3
  generalize hr : dg3 (a * b) = rs at *
  generalize hx : dg3 a = xs at *
  generalize hy : dg3 b = ys at *
  clear hr hx hy
  obtain ⟨x0, X0⟩ : ∃ t, t = xs 0 := ⟨_, rfl⟩
  obtain ⟨x1, X1⟩ : ∃ t, t = xs 1 := ⟨_, rfl⟩
  obtain ⟨x2, X2⟩ : ∃ t, t = xs 2 := ⟨_, rfl⟩
  obtain ⟨y0, Y0⟩ : ∃ t, t = ys 0 := ⟨_, rfl⟩
  obtain ⟨y1, Y1⟩ : ∃ t, t = ys 1 := ⟨_, rfl⟩
  obtain ⟨y2, Y2⟩ : ∃ t, t = ys 2 := ⟨_, rfl⟩
  rw [← X0, ← X1, ← X2, ← Y0, ← Y1, ← Y2]
  have HX0 := Lib.hid X0
  have HX1 := Lib.hid X1
  have HX2 := Lib.hid X2
  have HY0 := Lib.hid Y0
  have HY1 := Lib.hid Y1
  have HY2 := Lib.hid Y2
  clear X0 X1 X2 Y0 Y1 Y2
  go_enter Try.func50, Try.ntmps50
  go_wp2_with fail
  go_loopg [13] 3 (fun kk u13 wr => ∃ (i : Nat) (z : Nat → Int), kk = 3 - i ∧ i ≤ 3 ∧ u13 = .int .i64 i ∧ Wp w wr xs ys z ∧ Hid (∀ m, Word (z m)) ∧ Hid (Mo3 (V3 z 3) (V3 xs i * V3 ys 3)))
  case atStart =>
    refine ⟨0, fun _ => 0, rfl, by omega, rfl, Wp.start ?_ ?_ ?_ ?_ ?_ ?_ ?_ ?_ ?_ ?_ ?_ ?_ ?_, Lib.hid (fun _ => (⟨by decide, by decide⟩ : Word 0)), Lib.hid ⟨0, by simp [V3]⟩⟩
    · repeat (first | exact Up.refl _ | refine Up.alloc ?_ _ _ | refine Up.setCell ?_ (by first | (simp; done) | (simp; omega) | omega) _ | refine Up.drewN ?_ _ | refine Up.drew ?_)
    · rw [← HX0.out]; simp [go_sem]
    · rw [← HX1.out]; simp [go_sem]
    · rw [← HX2.out]; simp [go_sem]
    · rw [← HY0.out]; simp [go_sem]
    · rw [← HY1.out]; simp [go_sem]
    · rw [← HY2.out]; simp [go_sem]
    all_goals simp [go_sem]
  case round =>
    obtain ⟨i, z, rfl, hi, rfl, hT, BZ, HV⟩ := hrel
    by_cases hi3 : i < 3
    · have ia : ∀ W : World, (Instr.index 80 (.agg #[.int .u64 x0, .int .u64 x1, .int .u64 x2]) (.int .i64 (i : Int))).run Try.prog W = .ok (.int .u64 (xs i)) W := fun W => by
        rcases (by omega : i = 0 ∨ i = 1 ∨ i = 2) with rfl | rfl | rfl
        · rw [← HX0.out]; kernel_rfl
        · rw [← HX1.out]; kernel_rfl
        · rw [← HX2.out]; kernel_rfl
      have ti : decide ((i : Int) < 3) = true := decide_eq_true (by omega)
      have ti' : (i : Int) < 3 := by omega
      have ti0 : (0 : Int) ≤ i := by omega
      have HT := Lib.hid hT
      have bx := BX.out i
      obtain ⟨xx, hxx⟩ : ∃ t, t = xs i := ⟨_, rfl⟩
      rw [← hxx] at ia bx
      have HXX := Lib.hid hxx
      have HBX := Lib.hid bx
      clear hT hxx bx
      go_wp2_with fail
      go_loopg [8, 9] 3 (fun kk u8 u9 wr => ∃ (m : Nat) (c : Int) (z : Nat → Int), kk = 3 - m ∧ i + m ≤ 3 ∧ u9 = .int .i64 ((i + m : Nat) : Int) ∧ u8 = .int .u64 c ∧ Hid (Word c) ∧ Wp w wr xs ys z ∧ Hid (∀ m, Word (z m)) ∧ Hid (Mo3 (V3 z 3 + c * 18446744073709551616 ^ (i + m)) (V3 xs i * V3 ys 3 + xx * V3 ys m * 18446744073709551616 ^ i)))
      case atStart =>
        refine ⟨0, 0, z, rfl, by omega, rfl, rfl, Lib.hid (⟨by decide, by decide⟩ : Word 0), HT.out, BZ, Lib.hid ?_⟩
        rw [Int.zero_mul, Int.add_zero]
        simp only [V3, Int.mul_zero, Int.zero_mul, Int.add_zero]
        exact HV.out
      case round =>
        clear HT BZ HV z
        obtain ⟨m, c, z, rfl, hm, rfl, rfl, HC, hT, BZ, HV⟩ := hrel
        by_cases hm3 : i + m < 3
        · have hz := hT.z (i + m) hm3
          have hy := hT.y m (by omega)
          have HT := Lib.hid hT
          have hb : w.heap.size + 1 + 1 + 1 < wr.heap.size := World.block_lt_of_cell? _ _ hz
          obtain ⟨q1, q2, q3⟩ := step_in HBX.out (BY.out m) (BZ.out (i + m)) HC.out
          have bz := BZ.out (i + m)
          have by_ := BY.out m
          have HS := Lib.hid (fun s c' => step_times (z := z) (ys := ys) (R := V3 xs i * V3 ys 3) (x := xx) (c := c) (s := s) (c' := c') (i := i) (m := m) (j := i + m) hm3 rfl HV.out)
          generalize hyy : ys m = yy at hy q1 q2 q3 by_ HS
          generalize hzz : z (i + m) = zz at hz q2 q3 bz HS
          have KP := Lib.hid (fun W => product_up xx yy HBX.out by_ W)
          have KA := Lib.hid (fun W => eadd_w (xx * yy) zz q1 bz q2 W)
          have KB := Lib.hid (fun W => eadd_w (xx * yy + zz) c q2 HC.out q3 W)
          obtain ⟨t, ht⟩ : ∃ t, t = xx * yy + zz + c := ⟨_, rfl⟩
          rw [← ht] at KB q3
          have HS1 := Lib.hid (HS.out (loZ t) (hiZ t) (by rw [← ht]; unfold loZ hiZ; omega))
          have HW := Lib.hid (words_upd (i := i + m) BZ.out (loZ_word t))
          have HH := Lib.hid (hiZ_word q3)
          generalize xx * yy + zz = s at KA KB
          generalize xx * yy = mm at KP KA
          have KO := Lib.hid (fun W => of_up zz W)
          have KC := Lib.hid (fun W => of_up c W)
          clear ht q1 q2 q3 bz by_ hyy hzz HS BZ HV hT HC
          have tj : decide (((i + m : Nat) : Int) < 3) = true := decide_eq_true (by omega)
          have lj : ((i + m : Nat) : Int) < 3 := by omega
          have nj : (0 : Int) ≤ ((i + m : Nat) : Int) := by omega
          have sj : IntKind.i64.wrap (((i + m : Nat) : Int) - (i : Int)) = (m : Int) := by rw [show ((i + m : Nat) : Int) - (i : Int) = m by omega]; exact IntWalk.i64_in _ (by omega)
          have lm : (m : Int) < 3 := by omega
          have nm_ : (0 : Int) ≤ (m : Int) := by omega
          have wj1 : IntKind.i64.wrap (((i + m : Nat) : Int) + 1) = ((i + (m + 1) : Nat) : Int) := by rw [show ((i + m : Nat) : Int) + 1 = ((i + (m + 1) : Nat) : Int) by omega]; exact IntWalk.i64_in _ (by omega)
          have HJ : Hid (i + m = i + m) := Lib.hid rfl
          generalize hj : i + m = j at *
          have HJJ := Lib.hid hj
          clear hj HJ
          go_upto_region 9 with fail
          go_cut [10] (fun t10 wx => ∃ g : Nat, w.heap.size + 1 + 1 + 1 < g ∧ t10 = .pointer (some ⟨g, 0, none⟩) ∧ wx.cell? ⟨g, 0, none⟩ = some (.int .u64 (hiZ s)) ∧ wx.cell? ⟨g, 1, none⟩ = some (.int .u64 (loZ s)) ∧ Wp w wx xs ys z)
          case first =>
            go_region_held3 (fun w' => Wp w w' xs ys z ∧ w'.cell? ⟨w.heap.size + 1, m, none⟩ = some (.int .u64 yy) ∧ w'.cell? ⟨w.heap.size + 1 + 1 + 1, j, none⟩ = some (.int .u64 zz))
              (first | (with_reducible exact wkeep (by assumption) (by assumption)) | (repeat (first | (with_reducible assumption) | (with_reducible exact Hid.out (by assumption)) | (with_reducible exact ⟨HT.out, hy, hz⟩) | (with_reducible refine wset ?_ (by omega)) | (with_reducible refine wkeep (Lib.hid ((Up.refl _).alloc _ _)) ?_) | (with_reducible refine wkeep (Lib.hid (Up.refl _).drew) ?_))))
              (first
                | (go_at_call 77; (with_reducible refine (KP.out _).mono ?_); rintro e w1 ⟨rfl, hu1⟩; have HU1 := Lib.hid hu1; have HS1 := Lib.hid (wkeep HU1 (by assumption)); obtain ⟨hc1, hz1⟩ := hu1.cells; have hs1 := hu1.size; (try simp at hs1); clear hu1; (try unfold got2); (try (have p1_0 : wr.heap.size < w1.heap.size := by omega)); (try (have p1_1 : w2.heap.size < w1.heap.size := by omega)))
                | (go_at_call 51; (with_reducible refine (KO.out _).mono ?_); rintro e w2 ⟨rfl, hu2⟩; have HU2 := Lib.hid hu2; have HS2 := Lib.hid (wkeep HU2 (by assumption)); obtain ⟨hc2, hz2⟩ := hu2.cells; have hs2 := hu2.size; (try simp at hs2); clear hu2; (try unfold got2); (try (have p2_0 : wr.heap.size < w2.heap.size := by omega)); (try (have p2_1 : w1.heap.size < w2.heap.size := by omega)))
                | (go_at_call 70; (with_reducible refine (KA.out _).mono ?_); rintro e w3 ⟨rfl, hu3⟩; have HU3 := Lib.hid hu3; have HS3 := Lib.hid (wkeep HU3 (by assumption)); obtain ⟨hc3, hz3⟩ := hu3.cells; have hs3 := hu3.size; (try simp at hs3); clear hu3; (try unfold got2); (try (have p3_0 : wr.heap.size < w3.heap.size := by omega)); (try (have p3_1 : w1.heap.size < w3.heap.size := by omega)); (try (have p3_2 : w2.heap.size < w3.heap.size := by omega))))
            all_goals
              go_wp2_with fail
              go_meet
              refine ⟨_, ?_, rfl, ?_, ?_, And.left (by assumption)⟩
              · omega
              all_goals (first | (simp [go_sem, *]; done))
          obtain ⟨g, lg, rfl, e0, e1, hP⟩ := hcut
          have HP2 := Lib.hid hP
          have z0 := hP.up.ownGe (show w.heap.size ≤ g by omega) 0
          have z1 := hP.up.ownGe (show w.heap.size ≤ g by omega) 1
          have lw : g < wc.heap.size := World.block_lt_of_cell? _ _ e0
          clear hP hb hy hz
          go_upto_region 10 with fail
          go_cut [] (fun wx => wx.cell? ⟨g, 0, none⟩ = some (.int .u64 (hiZ t)) ∧ wx.cell? ⟨g, 1, none⟩ = some (.int .u64 (loZ t)) ∧ Wp w wx xs ys z)
          case first =>
            go_region_with (first
              | (go_at_call 51; (with_reducible refine (KC.out _).mono ?_); rintro e w4 ⟨rfl, hu4⟩; have HU4 := Lib.hid hu4; have e0' := hu4.keep _ _ _ (show wc.drew.cell? _ = _ from e0); have e1' := hu4.keep _ _ _ (show wc.drew.cell? _ = _ from e1); have z0' := (hu4.cells.2 _).trans z0; have z1' := (hu4.cells.2 _).trans z1; clear hu4)
              | (go_at_call 70; (with_reducible refine (KB.out _).mono ?_); rintro e w5 ⟨rfl, hu5⟩; have HU5 := Lib.hid hu5; have e0'' := hu5.keep _ _ _ e0'; have e1'' := hu5.keep _ _ _ e1'; have z0'' := (hu5.cells.2 _).trans z0'; have z1'' := (hu5.cells.2 _).trans z1'; clear hu5; unfold got2))
            all_goals
              go_wp2_with fail
              go_meet
              refine ⟨by simp [go_sem, *], by simp [go_sem, *], ?_⟩
              exact (((HP2.out.keep (Up.refl _).drew).keep HU4.out).keep HU5.out).far lg |>.far lg
          obtain ⟨e0, e1, hP⟩ := hcut
          have HP3 := Lib.hid hP
          have hz := hP.z j (by omega)
          have z2 := hP.up.ownGe (show w.heap.size ≤ w.heap.size + 1 + 1 + 1 by omega) j
          clear hP
          go_wp2_with fail
          go_region
          all_goals
            go_wp2_with fail
            go_roundg (3 - (m + 1))
            case measure => have := HJJ.out; omega
            case rel =>
              obtain rfl := HJJ.out
              exact ⟨m + 1, hiZ t, updz z (i + m) (loZ t), rfl, by omega, by first | rfl | (rw [wj1]; rfl) | go_num, rfl, HH, (HP3.out.keep (Up.refl _).drew).set, HW, HS1⟩
        · have HT := Lib.hid hT
          have em : m = 3 - i := by omega
          have e3 : i + m = 3 := by omega
          have HR := Lib.hid (row_times (z := z) (xs := xs) (ys := ys) (c := c) hi3 (by have h := HV.out; rw [e3, HXX.out, em] at h; exact h))
          have tj : decide (((i + m : Nat) : Int) < 3) = false := decide_eq_false (by omega)
          generalize ((i + m : Nat) : Int) = jj at *
          clear hT em e3 HV
          go_wp2_with fail
          go_roundg (3 - (i + 1))
          case measure => omega
          case rel => exact ⟨i + 1, z, rfl, by omega, by go_num, HT.out, BZ, HR⟩
    · obtain rfl : i = 3 := by omega
      obtain ⟨e0, e1, e2⟩ := HE.out z (BZ.out 0) (BZ.out 1) (BZ.out 2) HV.out
      have c0_ := hT.z 0 (by omega)
      have c1_ := hT.z 1 (by omega)
      have c2_ := hT.z 2 (by omega)
      have r0 := hT.r 0 (by omega)
      have r1 := hT.r 1 (by omega)
      have r2 := hT.r 2 (by omega)
      have z0 := hT.up.ownGe (show w.heap.size ≤ w.heap.size + 1 + 1 by omega) 0
      have z1 := hT.up.ownGe (show w.heap.size ≤ w.heap.size + 1 + 1 by omega) 1
      have z2 := hT.up.ownGe (show w.heap.size ≤ w.heap.size + 1 + 1 by omega) 2
      have HT := Lib.hid hT
      rw [e0] at c0_
      rw [e1] at c1_
      rw [e2] at c2_
      clear hT e0 e1 e2 BX BY HE HV BZ
      go_wp2_with fail
      refine bodyPost_ret (v := .agg #[.int .u64 (rs 0), .int .u64 (rs 1), .int .u64 (rs 2)]) (by simp [results, Try.results50, go_sem, r0, r1, r2]) rfl ⟨?_, ?_⟩
      · rfl
      · ((repeat (first | (with_reducible exact Up.refl _) | (with_reducible exact HT.out.up) | (with_reducible refine Up.alloc ?_ _ _) | (with_reducible refine Up.setCell ?_ ?_ _) | (with_reducible refine Up.drewN ?_ _) | (with_reducible refine Up.drew ?_))); all_goals (first | (simp; done) | (simp; omega) | omega))
end Go.Proofs.Ytflahclphdlolaa
