/- Package marks: Ends. -/
import Derived.Test.YtafkoddgefcpnaaRows
import Derived.Test.YtafkoddgefcpnaaZKValq178
namespace Go.Proofs.Ytafkoddgefcpnaa
open Go.RowKit
set_option linter.unusedVariables false

theorem set7K14 {w w1 : World} {p pa pb : Nat} {x0 x1 x2 x3 x4 x5 x6 u0 u1 u2 u3 u4 u5 u6 v0 v1 v2 v3 v4 v5 v6 : Value} (h : Up w w1 ∧ w1.cell? ⟨pa, 0, none⟩ = some x0 ∧ w1.cell? ⟨pa, 1, none⟩ = some x1 ∧ w1.cell? ⟨pa, 2, none⟩ = some x2 ∧ w1.cell? ⟨pa, 3, none⟩ = some x3 ∧ w1.cell? ⟨pa, 4, none⟩ = some x4 ∧ w1.cell? ⟨pa, 5, none⟩ = some x5 ∧ w1.cell? ⟨pa, 6, none⟩ = some x6 ∧ w1.cell? ⟨pb, 0, none⟩ = some u0 ∧ w1.cell? ⟨pb, 1, none⟩ = some u1 ∧ w1.cell? ⟨pb, 2, none⟩ = some u2 ∧ w1.cell? ⟨pb, 3, none⟩ = some u3 ∧ w1.cell? ⟨pb, 4, none⟩ = some u4 ∧ w1.cell? ⟨pb, 5, none⟩ = some u5 ∧ w1.cell? ⟨pb, 6, none⟩ = some u6) (hp : w.heap.size ≤ p) (ha : p ≠ pa) (hb : p ≠ pb) : Up w (((((((w1.setCell ⟨p, 0, none⟩ (v0)).setCell ⟨p, 1, none⟩ (v1)).setCell ⟨p, 2, none⟩ (v2)).setCell ⟨p, 3, none⟩ (v3)).setCell ⟨p, 4, none⟩ (v4)).setCell ⟨p, 5, none⟩ (v5)).setCell ⟨p, 6, none⟩ (v6)) ∧ (((((((w1.setCell ⟨p, 0, none⟩ (v0)).setCell ⟨p, 1, none⟩ (v1)).setCell ⟨p, 2, none⟩ (v2)).setCell ⟨p, 3, none⟩ (v3)).setCell ⟨p, 4, none⟩ (v4)).setCell ⟨p, 5, none⟩ (v5)).setCell ⟨p, 6, none⟩ (v6)).cell? ⟨pa, 0, none⟩ = some x0 ∧ (((((((w1.setCell ⟨p, 0, none⟩ (v0)).setCell ⟨p, 1, none⟩ (v1)).setCell ⟨p, 2, none⟩ (v2)).setCell ⟨p, 3, none⟩ (v3)).setCell ⟨p, 4, none⟩ (v4)).setCell ⟨p, 5, none⟩ (v5)).setCell ⟨p, 6, none⟩ (v6)).cell? ⟨pa, 1, none⟩ = some x1 ∧ (((((((w1.setCell ⟨p, 0, none⟩ (v0)).setCell ⟨p, 1, none⟩ (v1)).setCell ⟨p, 2, none⟩ (v2)).setCell ⟨p, 3, none⟩ (v3)).setCell ⟨p, 4, none⟩ (v4)).setCell ⟨p, 5, none⟩ (v5)).setCell ⟨p, 6, none⟩ (v6)).cell? ⟨pa, 2, none⟩ = some x2 ∧ (((((((w1.setCell ⟨p, 0, none⟩ (v0)).setCell ⟨p, 1, none⟩ (v1)).setCell ⟨p, 2, none⟩ (v2)).setCell ⟨p, 3, none⟩ (v3)).setCell ⟨p, 4, none⟩ (v4)).setCell ⟨p, 5, none⟩ (v5)).setCell ⟨p, 6, none⟩ (v6)).cell? ⟨pa, 3, none⟩ = some x3 ∧ (((((((w1.setCell ⟨p, 0, none⟩ (v0)).setCell ⟨p, 1, none⟩ (v1)).setCell ⟨p, 2, none⟩ (v2)).setCell ⟨p, 3, none⟩ (v3)).setCell ⟨p, 4, none⟩ (v4)).setCell ⟨p, 5, none⟩ (v5)).setCell ⟨p, 6, none⟩ (v6)).cell? ⟨pa, 4, none⟩ = some x4 ∧ (((((((w1.setCell ⟨p, 0, none⟩ (v0)).setCell ⟨p, 1, none⟩ (v1)).setCell ⟨p, 2, none⟩ (v2)).setCell ⟨p, 3, none⟩ (v3)).setCell ⟨p, 4, none⟩ (v4)).setCell ⟨p, 5, none⟩ (v5)).setCell ⟨p, 6, none⟩ (v6)).cell? ⟨pa, 5, none⟩ = some x5 ∧ (((((((w1.setCell ⟨p, 0, none⟩ (v0)).setCell ⟨p, 1, none⟩ (v1)).setCell ⟨p, 2, none⟩ (v2)).setCell ⟨p, 3, none⟩ (v3)).setCell ⟨p, 4, none⟩ (v4)).setCell ⟨p, 5, none⟩ (v5)).setCell ⟨p, 6, none⟩ (v6)).cell? ⟨pa, 6, none⟩ = some x6 ∧ (((((((w1.setCell ⟨p, 0, none⟩ (v0)).setCell ⟨p, 1, none⟩ (v1)).setCell ⟨p, 2, none⟩ (v2)).setCell ⟨p, 3, none⟩ (v3)).setCell ⟨p, 4, none⟩ (v4)).setCell ⟨p, 5, none⟩ (v5)).setCell ⟨p, 6, none⟩ (v6)).cell? ⟨pb, 0, none⟩ = some u0 ∧ (((((((w1.setCell ⟨p, 0, none⟩ (v0)).setCell ⟨p, 1, none⟩ (v1)).setCell ⟨p, 2, none⟩ (v2)).setCell ⟨p, 3, none⟩ (v3)).setCell ⟨p, 4, none⟩ (v4)).setCell ⟨p, 5, none⟩ (v5)).setCell ⟨p, 6, none⟩ (v6)).cell? ⟨pb, 1, none⟩ = some u1 ∧ (((((((w1.setCell ⟨p, 0, none⟩ (v0)).setCell ⟨p, 1, none⟩ (v1)).setCell ⟨p, 2, none⟩ (v2)).setCell ⟨p, 3, none⟩ (v3)).setCell ⟨p, 4, none⟩ (v4)).setCell ⟨p, 5, none⟩ (v5)).setCell ⟨p, 6, none⟩ (v6)).cell? ⟨pb, 2, none⟩ = some u2 ∧ (((((((w1.setCell ⟨p, 0, none⟩ (v0)).setCell ⟨p, 1, none⟩ (v1)).setCell ⟨p, 2, none⟩ (v2)).setCell ⟨p, 3, none⟩ (v3)).setCell ⟨p, 4, none⟩ (v4)).setCell ⟨p, 5, none⟩ (v5)).setCell ⟨p, 6, none⟩ (v6)).cell? ⟨pb, 3, none⟩ = some u3 ∧ (((((((w1.setCell ⟨p, 0, none⟩ (v0)).setCell ⟨p, 1, none⟩ (v1)).setCell ⟨p, 2, none⟩ (v2)).setCell ⟨p, 3, none⟩ (v3)).setCell ⟨p, 4, none⟩ (v4)).setCell ⟨p, 5, none⟩ (v5)).setCell ⟨p, 6, none⟩ (v6)).cell? ⟨pb, 4, none⟩ = some u4 ∧ (((((((w1.setCell ⟨p, 0, none⟩ (v0)).setCell ⟨p, 1, none⟩ (v1)).setCell ⟨p, 2, none⟩ (v2)).setCell ⟨p, 3, none⟩ (v3)).setCell ⟨p, 4, none⟩ (v4)).setCell ⟨p, 5, none⟩ (v5)).setCell ⟨p, 6, none⟩ (v6)).cell? ⟨pb, 5, none⟩ = some u5 ∧ (((((((w1.setCell ⟨p, 0, none⟩ (v0)).setCell ⟨p, 1, none⟩ (v1)).setCell ⟨p, 2, none⟩ (v2)).setCell ⟨p, 3, none⟩ (v3)).setCell ⟨p, 4, none⟩ (v4)).setCell ⟨p, 5, none⟩ (v5)).setCell ⟨p, 6, none⟩ (v6)).cell? ⟨pb, 6, none⟩ = some u6 :=
  ⟨h.1.set7 hp, far7 h.2.1 ha, far7 h.2.2.1 ha, far7 h.2.2.2.1 ha, far7 h.2.2.2.2.1 ha, far7 h.2.2.2.2.2.1 ha, far7 h.2.2.2.2.2.2.1 ha, far7 h.2.2.2.2.2.2.2.1 ha, far7 h.2.2.2.2.2.2.2.2.1 hb, far7 h.2.2.2.2.2.2.2.2.2.1 hb, far7 h.2.2.2.2.2.2.2.2.2.2.1 hb, far7 h.2.2.2.2.2.2.2.2.2.2.2.1 hb, far7 h.2.2.2.2.2.2.2.2.2.2.2.2.1 hb, far7 h.2.2.2.2.2.2.2.2.2.2.2.2.2.1 hb, far7 h.2.2.2.2.2.2.2.2.2.2.2.2.2.2 hb⟩

set_option maxHeartbeats 4000000 in
set_option maxRecDepth 100000 in
theorem mends_none (g v q c now seq : Int) (k : Nat) (A : Option Addr) (w : World) :
    Calls Try.prog 75 #[.agg #[.int .i64 g, .int .i64 v, .int .i64 q, .int .i64 c, .int .i64 now, .int .i64 seq, .slice A 0 k]] w fun e w' => e = .returned (.tuple #[.agg #[.int .i64 0, .int .i64 0, .int .i64 0, .int .i64 0, .int .i64 0, .int .i64 0, .int .i64 0], .agg #[.int .i64 0, .int .i64 0, .int .i64 0, .int .i64 0, .int .i64 0, .int .i64 0, .int .i64 0]]) ∧ Up w w' := by
  go_enter Try.func75, Try.ntmps75
  go_wp2
  refine bodyPost_ret (v := .tuple #[.agg #[.int .i64 0, .int .i64 0, .int .i64 0, .int .i64 0, .int .i64 0, .int .i64 0, .int .i64 0], .agg #[.int .i64 0, .int .i64 0, .int .i64 0, .int .i64 0, .int .i64 0, .int .i64 0, .int .i64 0]]) (by simp [results, Try.results75, go_sem]) rfl ⟨?_, ?_⟩
  · rfl
  · repeat (first | exact Up.refl _ | refine Up.alloc ?_ _ _ | refine Up.setCell ?_ (by first | (simp; done) | (simp; omega) | omega) _ | refine Up.drewN ?_ _ | refine Up.drew ?_)

set_option maxHeartbeats 4000000 in
set_option maxRecDepth 100000 in
theorem mends_first (g v q c now seq : Int) (n k : Nat) (A : Option Addr) (X : List Mrk) (hn : n ≤ 50000) (h0 : 0 < n) (hl : liveB now v (X.getD 0 mk0).t = true) (w : World) (hS : SG cM w A n X) :
    Calls Try.prog 75 #[.agg #[.int .i64 g, .int .i64 v, .int .i64 q, .int .i64 c, .int .i64 now, .int .i64 seq, .slice A n k]] w fun e w' => e = .returned (.tuple #[mg (X.getD 0 mk0), mg (X.getD 0 mk0)]) ∧ Up w w' := by
  have HS := Lib.hid hS
  obtain ⟨b, o, rfl, _⟩ := mrk_at HS.out mk0 h0
  have HD0 := Lib.hid (fun W (h : Up w W) => mrk_prev (HS.out.up h) h0)
  simp only [Nat.zero_mul, Nat.add_zero] at HD0
  have f20 : (0 : Int) < n := by omega
  have t0 : ((n : Int) == 0) = false := beq_eq_false_iff_ne.2 (by omega)
  have t0' : ¬ ((n : Int) = 0) := by omega
  generalize X.getD 0 mk0 = Ma at *
  obtain ⟨sq1, t1, nn1, s1, qq1, lo1, hi1⟩ := Ma
  simp only at HD0 hl
  have KL := Lib.hid (isLive13_up g v q c now seq n k (some ⟨b, o, none⟩) sq1 t1 nn1 s1 qq1 lo1 hi1)
  rw [hl] at KL
  clear hl hS
  show Calls _ _ _ _ (fun e w' => e = .returned (.tuple #[.agg #[.int .i64 sq1, .int .i64 t1, .int .i64 nn1, .int .i64 s1, .int .i64 qq1, .int .i64 lo1, .int .i64 hi1], .agg #[.int .i64 sq1, .int .i64 t1, .int .i64 nn1, .int .i64 s1, .int .i64 qq1, .int .i64 lo1, .int .i64 hi1]]) ∧ Up w w')
  go_enter Try.func75, Try.ntmps75
  go_upto_region 3 with fail
  refine (show ∀ w1 : World, w1 = _ → Code.wp _ _ _ _ w1 from fun w1 hw1 => ?_) _ rfl
  have HW : Hid (Up w w1) := Lib.hid (by rw [hw1]; exact (((Up.refl w).alloc _ _).alloc _ _).alloc _ _)
  have a0 : w1.cell? ⟨w.heap.size, 0, none⟩ = some (.int .i64 g) := by rw [hw1]; simp [go_sem]
  have a1 : w1.cell? ⟨w.heap.size, 1, none⟩ = some (.int .i64 v) := by rw [hw1]; simp [go_sem]
  have a2 : w1.cell? ⟨w.heap.size, 2, none⟩ = some (.int .i64 q) := by rw [hw1]; simp [go_sem]
  have a3 : w1.cell? ⟨w.heap.size, 3, none⟩ = some (.int .i64 c) := by rw [hw1]; simp [go_sem]
  have a4 : w1.cell? ⟨w.heap.size, 4, none⟩ = some (.int .i64 now) := by rw [hw1]; simp [go_sem]
  have a5 : w1.cell? ⟨w.heap.size, 5, none⟩ = some (.int .i64 seq) := by rw [hw1]; simp [go_sem]
  have a6 : w1.cell? ⟨w.heap.size, 6, none⟩ = some (.slice (some ⟨b, o, none⟩) n k) := by rw [hw1]; simp [go_sem]
  have r0 : w1.cell? ⟨w.heap.size + 1, 0, none⟩ = some (.int .i64 0) := by rw [hw1]; simp [go_sem]
  have r1 : w1.cell? ⟨w.heap.size + 1, 1, none⟩ = some (.int .i64 0) := by rw [hw1]; simp [go_sem]
  have r2 : w1.cell? ⟨w.heap.size + 1, 2, none⟩ = some (.int .i64 0) := by rw [hw1]; simp [go_sem]
  have r3 : w1.cell? ⟨w.heap.size + 1, 3, none⟩ = some (.int .i64 0) := by rw [hw1]; simp [go_sem]
  have r4 : w1.cell? ⟨w.heap.size + 1, 4, none⟩ = some (.int .i64 0) := by rw [hw1]; simp [go_sem]
  have r5 : w1.cell? ⟨w.heap.size + 1, 5, none⟩ = some (.int .i64 0) := by rw [hw1]; simp [go_sem]
  have r6 : w1.cell? ⟨w.heap.size + 1, 6, none⟩ = some (.int .i64 0) := by rw [hw1]; simp [go_sem]
  have y0 : w1.cell? ⟨w.heap.size + 1 + 1, 0, none⟩ = some (.int .i64 0) := by rw [hw1]; simp [go_sem]
  have y1 : w1.cell? ⟨w.heap.size + 1 + 1, 1, none⟩ = some (.int .i64 0) := by rw [hw1]; simp [go_sem]
  have y2 : w1.cell? ⟨w.heap.size + 1 + 1, 2, none⟩ = some (.int .i64 0) := by rw [hw1]; simp [go_sem]
  have y3 : w1.cell? ⟨w.heap.size + 1 + 1, 3, none⟩ = some (.int .i64 0) := by rw [hw1]; simp [go_sem]
  have y4 : w1.cell? ⟨w.heap.size + 1 + 1, 4, none⟩ = some (.int .i64 0) := by rw [hw1]; simp [go_sem]
  have y5 : w1.cell? ⟨w.heap.size + 1 + 1, 5, none⟩ = some (.int .i64 0) := by rw [hw1]; simp [go_sem]
  have y6 : w1.cell? ⟨w.heap.size + 1 + 1, 6, none⟩ = some (.int .i64 0) := by rw [hw1]; simp [go_sem]
  have hl1 : w.heap.size + 1 + 1 < w1.heap.size := World.block_lt_of_cell? _ _ y0
  clear hw1
  obtain ⟨d0, d1, d2, d3, d4, d5, d6⟩ := HD0.out _ HW.out
  go_upto_region 4 with fail
  refine (show ∀ W2 : World, W2 = _ → Code.wp _ _ _ _ W2 from fun W2 hW2 => ?_) _ rfl
  have hv : Up w1 W2 := by rw [hW2]; exact (Up.refl _).alloc _ _
  have m0 : W2.cell? ⟨w1.heap.size, 0, none⟩ = some (.int .i64 sq1) := by rw [hW2]; simp [go_sem]
  have m1 : W2.cell? ⟨w1.heap.size, 1, none⟩ = some (.int .i64 t1) := by rw [hW2]; simp [go_sem]
  have m2 : W2.cell? ⟨w1.heap.size, 2, none⟩ = some (.int .i64 nn1) := by rw [hW2]; simp [go_sem]
  have m3 : W2.cell? ⟨w1.heap.size, 3, none⟩ = some (.int .i64 s1) := by rw [hW2]; simp [go_sem]
  have m4 : W2.cell? ⟨w1.heap.size, 4, none⟩ = some (.int .i64 qq1) := by rw [hW2]; simp [go_sem]
  have m5 : W2.cell? ⟨w1.heap.size, 5, none⟩ = some (.int .i64 lo1) := by rw [hW2]; simp [go_sem]
  have m6 : W2.cell? ⟨w1.heap.size, 6, none⟩ = some (.int .i64 hi1) := by rw [hW2]; simp [go_sem]
  have a0 := hv.keep _ _ _ a0
  have a1 := hv.keep _ _ _ a1
  have a2 := hv.keep _ _ _ a2
  have a3 := hv.keep _ _ _ a3
  have a4 := hv.keep _ _ _ a4
  have a5 := hv.keep _ _ _ a5
  have a6 := hv.keep _ _ _ a6
  have r0 := hv.keep _ _ _ r0
  have r1 := hv.keep _ _ _ r1
  have r2 := hv.keep _ _ _ r2
  have r3 := hv.keep _ _ _ r3
  have r4 := hv.keep _ _ _ r4
  have r5 := hv.keep _ _ _ r5
  have r6 := hv.keep _ _ _ r6
  have y0 := hv.keep _ _ _ y0
  have y1 := hv.keep _ _ _ y1
  have y2 := hv.keep _ _ _ y2
  have y3 := hv.keep _ _ _ y3
  have y4 := hv.keep _ _ _ y4
  have y5 := hv.keep _ _ _ y5
  have y6 := hv.keep _ _ _ y6
  have HW := Lib.hid (HW.out.trans hv)
  clear hv hW2 d0 d1 d2 d3 d4 d5 d6
  generalize w1.heap.size = p1 at *
  go_upto_region 5 with (go_at_call 111; (with_reducible refine (KL.out _).mono ?_); rintro e w3 ⟨rfl, hu⟩; have HW := Lib.hid (HW.out.trans hu); have a6 := hu.keep _ _ _ a6; have r0 := hu.keep _ _ _ r0; have r1 := hu.keep _ _ _ r1; have r2 := hu.keep _ _ _ r2; have r3 := hu.keep _ _ _ r3; have r4 := hu.keep _ _ _ r4; have r5 := hu.keep _ _ _ r5; have r6 := hu.keep _ _ _ r6; have y0 := hu.keep _ _ _ y0; have y1 := hu.keep _ _ _ y1; have y2 := hu.keep _ _ _ y2; have y3 := hu.keep _ _ _ y3; have y4 := hu.keep _ _ _ y4; have y5 := hu.keep _ _ _ y5; have y6 := hu.keep _ _ _ y6; have m0 := hu.keep _ _ _ m0; have m1 := hu.keep _ _ _ m1; have m2 := hu.keep _ _ _ m2; have m3 := hu.keep _ _ _ m3; have m4 := hu.keep _ _ _ m4; have m5 := hu.keep _ _ _ m5; have m6 := hu.keep _ _ _ m6; have zr0 := HW.out.ownGe (g := w.heap.size + 1) (by omega) 0; have zs0 := HW.out.ownGe (g := w.heap.size + 1 + 1) (by omega) 0; have zr1 := HW.out.ownGe (g := w.heap.size + 1) (by omega) 1; have zs1 := HW.out.ownGe (g := w.heap.size + 1 + 1) (by omega) 1; have zr2 := HW.out.ownGe (g := w.heap.size + 1) (by omega) 2; have zs2 := HW.out.ownGe (g := w.heap.size + 1 + 1) (by omega) 2; have zr3 := HW.out.ownGe (g := w.heap.size + 1) (by omega) 3; have zs3 := HW.out.ownGe (g := w.heap.size + 1 + 1) (by omega) 3; have zr4 := HW.out.ownGe (g := w.heap.size + 1) (by omega) 4; have zs4 := HW.out.ownGe (g := w.heap.size + 1 + 1) (by omega) 4; have zr5 := HW.out.ownGe (g := w.heap.size + 1) (by omega) 5; have zs5 := HW.out.ownGe (g := w.heap.size + 1 + 1) (by omega) 5; have zr6 := HW.out.ownGe (g := w.heap.size + 1) (by omega) 6; have zs6 := HW.out.ownGe (g := w.heap.size + 1 + 1) (by omega) 6; clear hu)
  have hp1_ : w.heap.size + 1 + 1 < p1 := by omega
  have HSS : Hid (Up w w3 ∧ w3.cell? ⟨p1, 0, none⟩ = some (.int .i64 sq1) ∧ w3.cell? ⟨p1, 1, none⟩ = some (.int .i64 t1) ∧ w3.cell? ⟨p1, 2, none⟩ = some (.int .i64 nn1) ∧ w3.cell? ⟨p1, 3, none⟩ = some (.int .i64 s1) ∧ w3.cell? ⟨p1, 4, none⟩ = some (.int .i64 qq1) ∧ w3.cell? ⟨p1, 5, none⟩ = some (.int .i64 lo1) ∧ w3.cell? ⟨p1, 6, none⟩ = some (.int .i64 hi1)) := Lib.hid ⟨HW.out, m0, m1, m2, m3, m4, m5, m6⟩
  clear m0 m1 m2 m3 m4 m5 m6
  go_wp2_with fail
  refine wp_region_held_drew (S := fun w' => Up w w' ∧ w'.cell? ⟨p1, 0, none⟩ = some (.int .i64 sq1) ∧ w'.cell? ⟨p1, 1, none⟩ = some (.int .i64 t1) ∧ w'.cell? ⟨p1, 2, none⟩ = some (.int .i64 nn1) ∧ w'.cell? ⟨p1, 3, none⟩ = some (.int .i64 s1) ∧ w'.cell? ⟨p1, 4, none⟩ = some (.int .i64 qq1) ∧ w'.cell? ⟨p1, 5, none⟩ = some (.int .i64 lo1) ∧ w'.cell? ⟨p1, 6, none⟩ = some (.int .i64 hi1)) (by kernel_rfl) ?hB73 (fun hHeld => ?_)
  case hB73 => (with_reducible exact keepK7 (Lib.hid (Up.refl _).drew) HSS.out)
  refine wpAnyH_take (i := 0) (oi := ⟨_, _, _, _, _, _⟩) (v := ?v74) rfl (by kernel_rfl) (by kernel_rfl) (by kernel_rfl) (fun _ _ _ h => h) (Or.inl ⟨by rfl, ?hy74⟩) (by assumption) ?_
  case hy74 => (intro w hSw; (try dsimp only at hSw); go_simp; (try (with_reducible rfl)))
  (try simp only [Act.put, List.setIfInBounds_toArray, List.set_cons_zero, List.set_cons_succ])
  refine wpAnyH_take (i := 1) (oi := ⟨_, _, _, _, _, _⟩) (v := ?v75) rfl (by kernel_rfl) (by kernel_rfl) (by kernel_rfl) (fun _ _ _ h => h) (Or.inl ⟨by rfl, ?hy75⟩) (by assumption) ?_
  case hy75 => (intro w hSw; (try dsimp only at hSw); go_simp; (try (with_reducible rfl)))
  (try simp only [Act.put, List.setIfInBounds_toArray, List.set_cons_zero, List.set_cons_succ])
  refine wpAnyH_ready (rs := [2]) (by kernel_rfl) (by simp) ?_
  refine AllReadyH.cons (o := ⟨_, _, _, _, _, _⟩) rfl (fun K hK => ?_) (AllReadyH.nil)
  go_simp
  refine hK.out _ _ ?hB76 (fun hHeld => ?_)
  case hB76 => (with_reducible exact keepK7 (Lib.hid (Up.refl _).drew) (set7K7 HSS.out (by omega) (by omega)))
  clear hK K
  (try simp only [Act.put, List.setIfInBounds_toArray, List.set_cons_zero, List.set_cons_succ])
  obtain ⟨wa, hwa⟩ : ∃ z, z = (((((((w3.setCell ⟨w.heap.size + 1, 0, none⟩ (.int .i64 sq1)).setCell ⟨w.heap.size + 1, 1, none⟩ (.int .i64 t1)).setCell ⟨w.heap.size + 1, 2, none⟩ (.int .i64 nn1)).setCell ⟨w.heap.size + 1, 3, none⟩ (.int .i64 s1)).setCell ⟨w.heap.size + 1, 4, none⟩ (.int .i64 qq1)).setCell ⟨w.heap.size + 1, 5, none⟩ (.int .i64 lo1)).setCell ⟨w.heap.size + 1, 6, none⟩ (.int .i64 hi1)).drew := ⟨_, rfl⟩
  rw [← hwa]
  rw [← hwa] at hHeld
  obtain ⟨r0_, r1_, r2_, r3_, r4_, r5_, r6_⟩ := cells7 (w := w3) (p := w.heap.size + 1) (v0 := .int .i64 sq1) (v1 := .int .i64 t1) (v2 := .int .i64 nn1) (v3 := .int .i64 s1) (v4 := .int .i64 qq1) (v5 := .int .i64 lo1) (v6 := .int .i64 hi1) r0 r1 r2 r3 r4 r5 r6
  have r0_ : wa.cell? ⟨w.heap.size + 1, 0, none⟩ = some (.int .i64 sq1) := by rw [hwa]; exact ((Up.refl _).drew).keep _ _ _ (r0_)
  have r1_ : wa.cell? ⟨w.heap.size + 1, 1, none⟩ = some (.int .i64 t1) := by rw [hwa]; exact ((Up.refl _).drew).keep _ _ _ (r1_)
  have r2_ : wa.cell? ⟨w.heap.size + 1, 2, none⟩ = some (.int .i64 nn1) := by rw [hwa]; exact ((Up.refl _).drew).keep _ _ _ (r2_)
  have r3_ : wa.cell? ⟨w.heap.size + 1, 3, none⟩ = some (.int .i64 s1) := by rw [hwa]; exact ((Up.refl _).drew).keep _ _ _ (r3_)
  have r4_ : wa.cell? ⟨w.heap.size + 1, 4, none⟩ = some (.int .i64 qq1) := by rw [hwa]; exact ((Up.refl _).drew).keep _ _ _ (r4_)
  have r5_ : wa.cell? ⟨w.heap.size + 1, 5, none⟩ = some (.int .i64 lo1) := by rw [hwa]; exact ((Up.refl _).drew).keep _ _ _ (r5_)
  have r6_ : wa.cell? ⟨w.heap.size + 1, 6, none⟩ = some (.int .i64 hi1) := by rw [hwa]; exact ((Up.refl _).drew).keep _ _ _ (r6_)
  have y0_ : wa.cell? ⟨w.heap.size + 1 + 1, 0, none⟩ = some (.int .i64 0) := by rw [hwa]; exact ((Up.refl _).drew).keep _ _ _ (far7 (w := w3) y0 (by omega))
  have y1_ : wa.cell? ⟨w.heap.size + 1 + 1, 1, none⟩ = some (.int .i64 0) := by rw [hwa]; exact ((Up.refl _).drew).keep _ _ _ (far7 (w := w3) y1 (by omega))
  have y2_ : wa.cell? ⟨w.heap.size + 1 + 1, 2, none⟩ = some (.int .i64 0) := by rw [hwa]; exact ((Up.refl _).drew).keep _ _ _ (far7 (w := w3) y2 (by omega))
  have y3_ : wa.cell? ⟨w.heap.size + 1 + 1, 3, none⟩ = some (.int .i64 0) := by rw [hwa]; exact ((Up.refl _).drew).keep _ _ _ (far7 (w := w3) y3 (by omega))
  have y4_ : wa.cell? ⟨w.heap.size + 1 + 1, 4, none⟩ = some (.int .i64 0) := by rw [hwa]; exact ((Up.refl _).drew).keep _ _ _ (far7 (w := w3) y4 (by omega))
  have y5_ : wa.cell? ⟨w.heap.size + 1 + 1, 5, none⟩ = some (.int .i64 0) := by rw [hwa]; exact ((Up.refl _).drew).keep _ _ _ (far7 (w := w3) y5 (by omega))
  have y6_ : wa.cell? ⟨w.heap.size + 1 + 1, 6, none⟩ = some (.int .i64 0) := by rw [hwa]; exact ((Up.refl _).drew).keep _ _ _ (far7 (w := w3) y6 (by omega))
  have HW := Lib.hid (show Up w wa by rw [hwa]; exact (HW.out.set7 (by omega)).drew)
  clear hwa r0 r1 r2 r3 r4 r5 r6 y0 y1 y2 y3 y4 y5 y6
  have r0 := r0_
  have r1 := r1_
  have r2 := r2_
  have r3 := r3_
  have r4 := r4_
  have r5 := r5_
  have r6 := r6_
  have y0 := y0_
  have y1 := y1_
  have y2 := y2_
  have y3 := y3_
  have y4 := y4_
  have y5 := y5_
  have y6 := y6_
  clear r0_ r1_ r2_ r3_ r4_ r5_ r6_ y0_ y1_ y2_ y3_ y4_ y5_ y6_
  have zr0 := HW.out.ownGe (g := w.heap.size + 1) (by omega) 0
  have zr1 := HW.out.ownGe (g := w.heap.size + 1) (by omega) 1
  have zr2 := HW.out.ownGe (g := w.heap.size + 1) (by omega) 2
  have zr3 := HW.out.ownGe (g := w.heap.size + 1) (by omega) 3
  have zr4 := HW.out.ownGe (g := w.heap.size + 1) (by omega) 4
  have zr5 := HW.out.ownGe (g := w.heap.size + 1) (by omega) 5
  have zr6 := HW.out.ownGe (g := w.heap.size + 1) (by omega) 6
  have zs0 := HW.out.ownGe (g := w.heap.size + 1 + 1) (by omega) 0
  have zs1 := HW.out.ownGe (g := w.heap.size + 1 + 1) (by omega) 1
  have zs2 := HW.out.ownGe (g := w.heap.size + 1 + 1) (by omega) 2
  have zs3 := HW.out.ownGe (g := w.heap.size + 1 + 1) (by omega) 3
  have zs4 := HW.out.ownGe (g := w.heap.size + 1 + 1) (by omega) 4
  have zs5 := HW.out.ownGe (g := w.heap.size + 1 + 1) (by omega) 5
  have zs6 := HW.out.ownGe (g := w.heap.size + 1 + 1) (by omega) 6
  refine wpAnyH_ready (rs := [3]) (by kernel_rfl) (by simp) ?_
  refine AllReadyH.cons (o := ⟨_, _, _, _, _, _⟩) rfl (fun K hK => ?_) (AllReadyH.nil)
  go_simp
  refine hK.out _ _ ?hB77 (fun hHeld => ?_)
  case hB77 => (with_reducible exact set7K7 hHeld (by omega) (by omega))
  clear hK K
  (try simp only [Act.put, List.setIfInBounds_toArray, List.set_cons_zero, List.set_cons_succ])
  obtain ⟨wb, hwb⟩ : ∃ z, z = ((((((wa.setCell ⟨w.heap.size + 1 + 1, 0, none⟩ (.int .i64 sq1)).setCell ⟨w.heap.size + 1 + 1, 1, none⟩ (.int .i64 t1)).setCell ⟨w.heap.size + 1 + 1, 2, none⟩ (.int .i64 nn1)).setCell ⟨w.heap.size + 1 + 1, 3, none⟩ (.int .i64 s1)).setCell ⟨w.heap.size + 1 + 1, 4, none⟩ (.int .i64 qq1)).setCell ⟨w.heap.size + 1 + 1, 5, none⟩ (.int .i64 lo1)).setCell ⟨w.heap.size + 1 + 1, 6, none⟩ (.int .i64 hi1) := ⟨_, rfl⟩
  rw [← hwb]
  rw [← hwb] at hHeld
  obtain ⟨y0_, y1_, y2_, y3_, y4_, y5_, y6_⟩ := cells7 (w := wa) (p := w.heap.size + 1 + 1) (v0 := .int .i64 sq1) (v1 := .int .i64 t1) (v2 := .int .i64 nn1) (v3 := .int .i64 s1) (v4 := .int .i64 qq1) (v5 := .int .i64 lo1) (v6 := .int .i64 hi1) y0 y1 y2 y3 y4 y5 y6
  have y0_ : wb.cell? ⟨w.heap.size + 1 + 1, 0, none⟩ = some (.int .i64 sq1) := by rw [hwb]; exact y0_
  have y1_ : wb.cell? ⟨w.heap.size + 1 + 1, 1, none⟩ = some (.int .i64 t1) := by rw [hwb]; exact y1_
  have y2_ : wb.cell? ⟨w.heap.size + 1 + 1, 2, none⟩ = some (.int .i64 nn1) := by rw [hwb]; exact y2_
  have y3_ : wb.cell? ⟨w.heap.size + 1 + 1, 3, none⟩ = some (.int .i64 s1) := by rw [hwb]; exact y3_
  have y4_ : wb.cell? ⟨w.heap.size + 1 + 1, 4, none⟩ = some (.int .i64 qq1) := by rw [hwb]; exact y4_
  have y5_ : wb.cell? ⟨w.heap.size + 1 + 1, 5, none⟩ = some (.int .i64 lo1) := by rw [hwb]; exact y5_
  have y6_ : wb.cell? ⟨w.heap.size + 1 + 1, 6, none⟩ = some (.int .i64 hi1) := by rw [hwb]; exact y6_
  have r0_ : wb.cell? ⟨w.heap.size + 1, 0, none⟩ = some (.int .i64 sq1) := by rw [hwb]; exact far7 (w := wa) r0 (by omega)
  have r1_ : wb.cell? ⟨w.heap.size + 1, 1, none⟩ = some (.int .i64 t1) := by rw [hwb]; exact far7 (w := wa) r1 (by omega)
  have r2_ : wb.cell? ⟨w.heap.size + 1, 2, none⟩ = some (.int .i64 nn1) := by rw [hwb]; exact far7 (w := wa) r2 (by omega)
  have r3_ : wb.cell? ⟨w.heap.size + 1, 3, none⟩ = some (.int .i64 s1) := by rw [hwb]; exact far7 (w := wa) r3 (by omega)
  have r4_ : wb.cell? ⟨w.heap.size + 1, 4, none⟩ = some (.int .i64 qq1) := by rw [hwb]; exact far7 (w := wa) r4 (by omega)
  have r5_ : wb.cell? ⟨w.heap.size + 1, 5, none⟩ = some (.int .i64 lo1) := by rw [hwb]; exact far7 (w := wa) r5 (by omega)
  have r6_ : wb.cell? ⟨w.heap.size + 1, 6, none⟩ = some (.int .i64 hi1) := by rw [hwb]; exact far7 (w := wa) r6 (by omega)
  have HW := Lib.hid (show Up w wb by rw [hwb]; exact HW.out.set7 (by omega))
  clear hwb r0 r1 r2 r3 r4 r5 r6 y0 y1 y2 y3 y4 y5 y6
  have r0 := r0_
  have r1 := r1_
  have r2 := r2_
  have r3 := r3_
  have r4 := r4_
  have r5 := r5_
  have r6 := r6_
  have y0 := y0_
  have y1 := y1_
  have y2 := y2_
  have y3 := y3_
  have y4 := y4_
  have y5 := y5_
  have y6 := y6_
  clear r0_ r1_ r2_ r3_ r4_ r5_ r6_ y0_ y1_ y2_ y3_ y4_ y5_ y6_
  have zr0 := HW.out.ownGe (g := w.heap.size + 1) (by omega) 0
  have zr1 := HW.out.ownGe (g := w.heap.size + 1) (by omega) 1
  have zr2 := HW.out.ownGe (g := w.heap.size + 1) (by omega) 2
  have zr3 := HW.out.ownGe (g := w.heap.size + 1) (by omega) 3
  have zr4 := HW.out.ownGe (g := w.heap.size + 1) (by omega) 4
  have zr5 := HW.out.ownGe (g := w.heap.size + 1) (by omega) 5
  have zr6 := HW.out.ownGe (g := w.heap.size + 1) (by omega) 6
  have zs0 := HW.out.ownGe (g := w.heap.size + 1 + 1) (by omega) 0
  have zs1 := HW.out.ownGe (g := w.heap.size + 1 + 1) (by omega) 1
  have zs2 := HW.out.ownGe (g := w.heap.size + 1 + 1) (by omega) 2
  have zs3 := HW.out.ownGe (g := w.heap.size + 1 + 1) (by omega) 3
  have zs4 := HW.out.ownGe (g := w.heap.size + 1 + 1) (by omega) 4
  have zs5 := HW.out.ownGe (g := w.heap.size + 1 + 1) (by omega) 5
  have zs6 := HW.out.ownGe (g := w.heap.size + 1 + 1) (by omega) 6
  refine wpAnyH_done (by kernel_rfl) ?_ _
  clear hHeld HSS
  go_wp2_with fail
  refine bodyPost_ret (v := .tuple #[.agg #[.int .i64 sq1, .int .i64 t1, .int .i64 nn1, .int .i64 s1, .int .i64 qq1, .int .i64 lo1, .int .i64 hi1], .agg #[.int .i64 sq1, .int .i64 t1, .int .i64 nn1, .int .i64 s1, .int .i64 qq1, .int .i64 lo1, .int .i64 hi1]]) (by simp [results, Try.results75, go_sem, r0, r1, r2, r3, r4, r5, r6, y0, y1, y2, y3, y4, y5, y6]) rfl ⟨rfl, HW.out⟩
set_option maxHeartbeats 4000000 in
set_option maxRecDepth 100000 in
theorem mends_second (g v q c now seq : Int) (n k : Nat) (A : Option Addr) (X : List Mrk) (hn : n ≤ 50000) (h1 : 1 < n) (hl : liveB now v (X.getD 0 mk0).t = false) (hb : bdM (X.getD 0 mk0)) (hq : (X.getD 1 mk0).sq = (X.getD 0 mk0).sq + 1) (w : World) (hS : SG cM w A n X) :
    Calls Try.prog 75 #[.agg #[.int .i64 g, .int .i64 v, .int .i64 q, .int .i64 c, .int .i64 now, .int .i64 seq, .slice A n k]] w fun e w' => e = .returned (.tuple #[mg (X.getD 1 mk0), mg (X.getD 1 mk0)]) ∧ Up w w' := by
  have h0 : 0 < n := by omega
  have HS := Lib.hid hS
  obtain ⟨b, o, rfl, _⟩ := mrk_at HS.out mk0 h0
  have HD0 := Lib.hid (fun W (h : Up w W) => mrk_prev (HS.out.up h) h0)
  simp only [Nat.zero_mul, Nat.add_zero] at HD0
  have f20 : (0 : Int) < n := by omega
  have t0 : ((n : Int) == 0) = false := beq_eq_false_iff_ne.2 (by omega)
  have t0' : ¬ ((n : Int) = 0) := by omega
  have HD1 := Lib.hid (fun W (h : Up w W) => mrk_prev (HS.out.up h) h1)
  simp only [Nat.one_mul] at HD1
  have f21 : (1 : Int) < n := by omega
  generalize X.getD 1 mk0 = Mb at *
  generalize X.getD 0 mk0 = Ma at *
  obtain ⟨sq1, t1, nn1, s1, qq1, lo1, hi1⟩ := Ma
  obtain ⟨sq2, t2, nn2, s2, qq2, lo2, hi2⟩ := Mb
  simp only at HD0 HD1 hl hq
  have u1 := hb.2.2.2.2.2
  simp only at u1
  obtain ⟨u1, u2⟩ := u1
  have w1_ : IntKind.i64.wrap (sq1 + 1) = sq1 + 1 := by rw [IntKind.wrap_i64]; omega
  have KL := Lib.hid (isLive13_up g v q c now seq n k (some ⟨b, o, none⟩) sq1 t1 nn1 s1 qq1 lo1 hi1)
  rw [hl] at KL
  clear hl hS hb
  subst hq
  show Calls _ _ _ _ (fun e w' => e = .returned (.tuple #[.agg #[.int .i64 (sq1 + 1), .int .i64 t2, .int .i64 nn2, .int .i64 s2, .int .i64 qq2, .int .i64 lo2, .int .i64 hi2], .agg #[.int .i64 (sq1 + 1), .int .i64 t2, .int .i64 nn2, .int .i64 s2, .int .i64 qq2, .int .i64 lo2, .int .i64 hi2]]) ∧ Up w w')
  go_enter Try.func75, Try.ntmps75
  go_upto_region 3 with fail
  refine (show ∀ w1 : World, w1 = _ → Code.wp _ _ _ _ w1 from fun w1 hw1 => ?_) _ rfl
  have HW : Hid (Up w w1) := Lib.hid (by rw [hw1]; exact (((Up.refl w).alloc _ _).alloc _ _).alloc _ _)
  have a0 : w1.cell? ⟨w.heap.size, 0, none⟩ = some (.int .i64 g) := by rw [hw1]; simp [go_sem]
  have a1 : w1.cell? ⟨w.heap.size, 1, none⟩ = some (.int .i64 v) := by rw [hw1]; simp [go_sem]
  have a2 : w1.cell? ⟨w.heap.size, 2, none⟩ = some (.int .i64 q) := by rw [hw1]; simp [go_sem]
  have a3 : w1.cell? ⟨w.heap.size, 3, none⟩ = some (.int .i64 c) := by rw [hw1]; simp [go_sem]
  have a4 : w1.cell? ⟨w.heap.size, 4, none⟩ = some (.int .i64 now) := by rw [hw1]; simp [go_sem]
  have a5 : w1.cell? ⟨w.heap.size, 5, none⟩ = some (.int .i64 seq) := by rw [hw1]; simp [go_sem]
  have a6 : w1.cell? ⟨w.heap.size, 6, none⟩ = some (.slice (some ⟨b, o, none⟩) n k) := by rw [hw1]; simp [go_sem]
  have r0 : w1.cell? ⟨w.heap.size + 1, 0, none⟩ = some (.int .i64 0) := by rw [hw1]; simp [go_sem]
  have r1 : w1.cell? ⟨w.heap.size + 1, 1, none⟩ = some (.int .i64 0) := by rw [hw1]; simp [go_sem]
  have r2 : w1.cell? ⟨w.heap.size + 1, 2, none⟩ = some (.int .i64 0) := by rw [hw1]; simp [go_sem]
  have r3 : w1.cell? ⟨w.heap.size + 1, 3, none⟩ = some (.int .i64 0) := by rw [hw1]; simp [go_sem]
  have r4 : w1.cell? ⟨w.heap.size + 1, 4, none⟩ = some (.int .i64 0) := by rw [hw1]; simp [go_sem]
  have r5 : w1.cell? ⟨w.heap.size + 1, 5, none⟩ = some (.int .i64 0) := by rw [hw1]; simp [go_sem]
  have r6 : w1.cell? ⟨w.heap.size + 1, 6, none⟩ = some (.int .i64 0) := by rw [hw1]; simp [go_sem]
  have y0 : w1.cell? ⟨w.heap.size + 1 + 1, 0, none⟩ = some (.int .i64 0) := by rw [hw1]; simp [go_sem]
  have y1 : w1.cell? ⟨w.heap.size + 1 + 1, 1, none⟩ = some (.int .i64 0) := by rw [hw1]; simp [go_sem]
  have y2 : w1.cell? ⟨w.heap.size + 1 + 1, 2, none⟩ = some (.int .i64 0) := by rw [hw1]; simp [go_sem]
  have y3 : w1.cell? ⟨w.heap.size + 1 + 1, 3, none⟩ = some (.int .i64 0) := by rw [hw1]; simp [go_sem]
  have y4 : w1.cell? ⟨w.heap.size + 1 + 1, 4, none⟩ = some (.int .i64 0) := by rw [hw1]; simp [go_sem]
  have y5 : w1.cell? ⟨w.heap.size + 1 + 1, 5, none⟩ = some (.int .i64 0) := by rw [hw1]; simp [go_sem]
  have y6 : w1.cell? ⟨w.heap.size + 1 + 1, 6, none⟩ = some (.int .i64 0) := by rw [hw1]; simp [go_sem]
  have hl1 : w.heap.size + 1 + 1 < w1.heap.size := World.block_lt_of_cell? _ _ y0
  clear hw1
  obtain ⟨d0, d1, d2, d3, d4, d5, d6⟩ := HD0.out _ HW.out
  go_upto_region 4 with fail
  refine (show ∀ W2 : World, W2 = _ → Code.wp _ _ _ _ W2 from fun W2 hW2 => ?_) _ rfl
  have hv : Up w1 W2 := by rw [hW2]; exact (Up.refl _).alloc _ _
  have m0 : W2.cell? ⟨w1.heap.size, 0, none⟩ = some (.int .i64 sq1) := by rw [hW2]; simp [go_sem]
  have m1 : W2.cell? ⟨w1.heap.size, 1, none⟩ = some (.int .i64 t1) := by rw [hW2]; simp [go_sem]
  have m2 : W2.cell? ⟨w1.heap.size, 2, none⟩ = some (.int .i64 nn1) := by rw [hW2]; simp [go_sem]
  have m3 : W2.cell? ⟨w1.heap.size, 3, none⟩ = some (.int .i64 s1) := by rw [hW2]; simp [go_sem]
  have m4 : W2.cell? ⟨w1.heap.size, 4, none⟩ = some (.int .i64 qq1) := by rw [hW2]; simp [go_sem]
  have m5 : W2.cell? ⟨w1.heap.size, 5, none⟩ = some (.int .i64 lo1) := by rw [hW2]; simp [go_sem]
  have m6 : W2.cell? ⟨w1.heap.size, 6, none⟩ = some (.int .i64 hi1) := by rw [hW2]; simp [go_sem]
  have a0 := hv.keep _ _ _ a0
  have a1 := hv.keep _ _ _ a1
  have a2 := hv.keep _ _ _ a2
  have a3 := hv.keep _ _ _ a3
  have a4 := hv.keep _ _ _ a4
  have a5 := hv.keep _ _ _ a5
  have a6 := hv.keep _ _ _ a6
  have r0 := hv.keep _ _ _ r0
  have r1 := hv.keep _ _ _ r1
  have r2 := hv.keep _ _ _ r2
  have r3 := hv.keep _ _ _ r3
  have r4 := hv.keep _ _ _ r4
  have r5 := hv.keep _ _ _ r5
  have r6 := hv.keep _ _ _ r6
  have y0 := hv.keep _ _ _ y0
  have y1 := hv.keep _ _ _ y1
  have y2 := hv.keep _ _ _ y2
  have y3 := hv.keep _ _ _ y3
  have y4 := hv.keep _ _ _ y4
  have y5 := hv.keep _ _ _ y5
  have y6 := hv.keep _ _ _ y6
  have HW := Lib.hid (HW.out.trans hv)
  clear hv hW2 d0 d1 d2 d3 d4 d5 d6
  generalize w1.heap.size = p1 at *
  go_upto_region 6 with (go_at_call 111; (with_reducible refine (KL.out _).mono ?_); rintro e w3 ⟨rfl, hu⟩; have HW := Lib.hid (HW.out.trans hu); have a6 := hu.keep _ _ _ a6; have r0 := hu.keep _ _ _ r0; have r1 := hu.keep _ _ _ r1; have r2 := hu.keep _ _ _ r2; have r3 := hu.keep _ _ _ r3; have r4 := hu.keep _ _ _ r4; have r5 := hu.keep _ _ _ r5; have r6 := hu.keep _ _ _ r6; have y0 := hu.keep _ _ _ y0; have y1 := hu.keep _ _ _ y1; have y2 := hu.keep _ _ _ y2; have y3 := hu.keep _ _ _ y3; have y4 := hu.keep _ _ _ y4; have y5 := hu.keep _ _ _ y5; have y6 := hu.keep _ _ _ y6; have m0 := hu.keep _ _ _ m0; have m1 := hu.keep _ _ _ m1; have m2 := hu.keep _ _ _ m2; have m3 := hu.keep _ _ _ m3; have m4 := hu.keep _ _ _ m4; have m5 := hu.keep _ _ _ m5; have m6 := hu.keep _ _ _ m6; have zr0 := HW.out.ownGe (g := w.heap.size + 1) (by omega) 0; have zs0 := HW.out.ownGe (g := w.heap.size + 1 + 1) (by omega) 0; have zr1 := HW.out.ownGe (g := w.heap.size + 1) (by omega) 1; have zs1 := HW.out.ownGe (g := w.heap.size + 1 + 1) (by omega) 1; have zr2 := HW.out.ownGe (g := w.heap.size + 1) (by omega) 2; have zs2 := HW.out.ownGe (g := w.heap.size + 1 + 1) (by omega) 2; have zr3 := HW.out.ownGe (g := w.heap.size + 1) (by omega) 3; have zs3 := HW.out.ownGe (g := w.heap.size + 1 + 1) (by omega) 3; have zr4 := HW.out.ownGe (g := w.heap.size + 1) (by omega) 4; have zs4 := HW.out.ownGe (g := w.heap.size + 1 + 1) (by omega) 4; have zr5 := HW.out.ownGe (g := w.heap.size + 1) (by omega) 5; have zs5 := HW.out.ownGe (g := w.heap.size + 1 + 1) (by omega) 5; have zr6 := HW.out.ownGe (g := w.heap.size + 1) (by omega) 6; have zs6 := HW.out.ownGe (g := w.heap.size + 1 + 1) (by omega) 6; obtain ⟨x0, x1, x2, x3, x4, x5, x6⟩ := HD1.out _ HW.out; clear hu)
  go_upto_region 7 with fail
  refine (show ∀ W5 : World, W5 = _ → Code.wp _ _ _ _ W5 from fun W5 hW5 => ?_) _ rfl
  have hv : Up w3 W5 := by rw [hW5]; exact (Up.refl _).alloc _ _
  have hl3 : w.heap.size + 1 + 1 < w3.heap.size := World.block_lt_of_cell? _ _ y0
  have e0 : W5.cell? ⟨w3.heap.size, 0, none⟩ = some (.int .i64 (sq1 + 1)) := by rw [hW5]; simp [go_sem]
  have e1 : W5.cell? ⟨w3.heap.size, 1, none⟩ = some (.int .i64 t2) := by rw [hW5]; simp [go_sem]
  have e2 : W5.cell? ⟨w3.heap.size, 2, none⟩ = some (.int .i64 nn2) := by rw [hW5]; simp [go_sem]
  have e3 : W5.cell? ⟨w3.heap.size, 3, none⟩ = some (.int .i64 s2) := by rw [hW5]; simp [go_sem]
  have e4 : W5.cell? ⟨w3.heap.size, 4, none⟩ = some (.int .i64 qq2) := by rw [hW5]; simp [go_sem]
  have e5 : W5.cell? ⟨w3.heap.size, 5, none⟩ = some (.int .i64 lo2) := by rw [hW5]; simp [go_sem]
  have e6 : W5.cell? ⟨w3.heap.size, 6, none⟩ = some (.int .i64 hi2) := by rw [hW5]; simp [go_sem]
  have r0 := hv.keep _ _ _ r0
  have r1 := hv.keep _ _ _ r1
  have r2 := hv.keep _ _ _ r2
  have r3 := hv.keep _ _ _ r3
  have r4 := hv.keep _ _ _ r4
  have r5 := hv.keep _ _ _ r5
  have r6 := hv.keep _ _ _ r6
  have y0 := hv.keep _ _ _ y0
  have y1 := hv.keep _ _ _ y1
  have y2 := hv.keep _ _ _ y2
  have y3 := hv.keep _ _ _ y3
  have y4 := hv.keep _ _ _ y4
  have y5 := hv.keep _ _ _ y5
  have y6 := hv.keep _ _ _ y6
  have m0 := hv.keep _ _ _ m0
  have m1 := hv.keep _ _ _ m1
  have m2 := hv.keep _ _ _ m2
  have m3 := hv.keep _ _ _ m3
  have m4 := hv.keep _ _ _ m4
  have m5 := hv.keep _ _ _ m5
  have m6 := hv.keep _ _ _ m6
  have HW := Lib.hid (HW.out.trans hv)
  clear hv hW5 x0 x1 x2 x3 x4 x5 x6 a6 zr0 zr1 zr2 zr3 zr4 zr5 zr6 zs0 zs1 zs2 zs3 zs4 zs5 zs6
  generalize w3.heap.size = p5 at *
  have zr0 := HW.out.ownGe (g := w.heap.size + 1) (by omega) 0
  have zs0 := HW.out.ownGe (g := w.heap.size + 1 + 1) (by omega) 0
  have zr1 := HW.out.ownGe (g := w.heap.size + 1) (by omega) 1
  have zs1 := HW.out.ownGe (g := w.heap.size + 1 + 1) (by omega) 1
  have zr2 := HW.out.ownGe (g := w.heap.size + 1) (by omega) 2
  have zs2 := HW.out.ownGe (g := w.heap.size + 1 + 1) (by omega) 2
  have zr3 := HW.out.ownGe (g := w.heap.size + 1) (by omega) 3
  have zs3 := HW.out.ownGe (g := w.heap.size + 1 + 1) (by omega) 3
  have zr4 := HW.out.ownGe (g := w.heap.size + 1) (by omega) 4
  have zs4 := HW.out.ownGe (g := w.heap.size + 1 + 1) (by omega) 4
  have zr5 := HW.out.ownGe (g := w.heap.size + 1) (by omega) 5
  have zs5 := HW.out.ownGe (g := w.heap.size + 1 + 1) (by omega) 5
  have zr6 := HW.out.ownGe (g := w.heap.size + 1) (by omega) 6
  have zs6 := HW.out.ownGe (g := w.heap.size + 1 + 1) (by omega) 6
  go_upto_region 8 with fail
  clear m0 m1 m2 m3 m4 m5 m6
  have HSS : Hid (Up w W5 ∧ W5.cell? ⟨p5, 0, none⟩ = some (.int .i64 (sq1 + 1)) ∧ W5.cell? ⟨p5, 1, none⟩ = some (.int .i64 t2) ∧ W5.cell? ⟨p5, 2, none⟩ = some (.int .i64 nn2) ∧ W5.cell? ⟨p5, 3, none⟩ = some (.int .i64 s2) ∧ W5.cell? ⟨p5, 4, none⟩ = some (.int .i64 qq2) ∧ W5.cell? ⟨p5, 5, none⟩ = some (.int .i64 lo2) ∧ W5.cell? ⟨p5, 6, none⟩ = some (.int .i64 hi2)) := Lib.hid ⟨HW.out, e0, e1, e2, e3, e4, e5, e6⟩
  clear e0 e1 e2 e3 e4 e5 e6
  go_wp2_with fail
  refine wp_region_held_drew (S := fun w' => Up w w' ∧ w'.cell? ⟨p5, 0, none⟩ = some (.int .i64 (sq1 + 1)) ∧ w'.cell? ⟨p5, 1, none⟩ = some (.int .i64 t2) ∧ w'.cell? ⟨p5, 2, none⟩ = some (.int .i64 nn2) ∧ w'.cell? ⟨p5, 3, none⟩ = some (.int .i64 s2) ∧ w'.cell? ⟨p5, 4, none⟩ = some (.int .i64 qq2) ∧ w'.cell? ⟨p5, 5, none⟩ = some (.int .i64 lo2) ∧ w'.cell? ⟨p5, 6, none⟩ = some (.int .i64 hi2)) (by kernel_rfl) ?hB78 (fun hHeld => ?_)
  case hB78 => (with_reducible exact keepK7 (Lib.hid (Up.refl _).drew) HSS.out)
  refine wpAnyH_take (i := 0) (oi := ⟨_, _, _, _, _, _⟩) (v := ?v79) rfl (by kernel_rfl) (by kernel_rfl) (by kernel_rfl) (fun _ _ _ h => h) (Or.inl ⟨by rfl, ?hy79⟩) (by assumption) ?_
  case hy79 => (intro w hSw; (try dsimp only at hSw); go_simp; (try (with_reducible rfl)))
  (try simp only [Act.put, List.setIfInBounds_toArray, List.set_cons_zero, List.set_cons_succ])
  refine wpAnyH_take (i := 1) (oi := ⟨_, _, _, _, _, _⟩) (v := ?v80) rfl (by kernel_rfl) (by kernel_rfl) (by kernel_rfl) (fun _ _ _ h => h) (Or.inl ⟨by rfl, ?hy80⟩) (by assumption) ?_
  case hy80 => (intro w hSw; (try dsimp only at hSw); go_simp; (try (with_reducible rfl)))
  (try simp only [Act.put, List.setIfInBounds_toArray, List.set_cons_zero, List.set_cons_succ])
  refine wpAnyH_ready (rs := [2]) (by kernel_rfl) (by simp) ?_
  refine AllReadyH.cons (o := ⟨_, _, _, _, _, _⟩) rfl (fun K hK => ?_) (AllReadyH.nil)
  go_simp
  refine hK.out _ _ ?hB81 (fun hHeld => ?_)
  case hB81 => (with_reducible exact keepK7 (Lib.hid (Up.refl _).drew) (set7K7 HSS.out (by omega) (by omega)))
  clear hK K
  (try simp only [Act.put, List.setIfInBounds_toArray, List.set_cons_zero, List.set_cons_succ])
  obtain ⟨wa, hwa⟩ : ∃ z, z = (((((((W5.setCell ⟨w.heap.size + 1, 0, none⟩ (.int .i64 (sq1 + 1))).setCell ⟨w.heap.size + 1, 1, none⟩ (.int .i64 t2)).setCell ⟨w.heap.size + 1, 2, none⟩ (.int .i64 nn2)).setCell ⟨w.heap.size + 1, 3, none⟩ (.int .i64 s2)).setCell ⟨w.heap.size + 1, 4, none⟩ (.int .i64 qq2)).setCell ⟨w.heap.size + 1, 5, none⟩ (.int .i64 lo2)).setCell ⟨w.heap.size + 1, 6, none⟩ (.int .i64 hi2)).drew := ⟨_, rfl⟩
  rw [← hwa]
  rw [← hwa] at hHeld
  obtain ⟨r0_, r1_, r2_, r3_, r4_, r5_, r6_⟩ := cells7 (w := W5) (p := w.heap.size + 1) (v0 := .int .i64 (sq1 + 1)) (v1 := .int .i64 t2) (v2 := .int .i64 nn2) (v3 := .int .i64 s2) (v4 := .int .i64 qq2) (v5 := .int .i64 lo2) (v6 := .int .i64 hi2) r0 r1 r2 r3 r4 r5 r6
  have r0_ : wa.cell? ⟨w.heap.size + 1, 0, none⟩ = some (.int .i64 (sq1 + 1)) := by rw [hwa]; exact ((Up.refl _).drew).keep _ _ _ (r0_)
  have r1_ : wa.cell? ⟨w.heap.size + 1, 1, none⟩ = some (.int .i64 t2) := by rw [hwa]; exact ((Up.refl _).drew).keep _ _ _ (r1_)
  have r2_ : wa.cell? ⟨w.heap.size + 1, 2, none⟩ = some (.int .i64 nn2) := by rw [hwa]; exact ((Up.refl _).drew).keep _ _ _ (r2_)
  have r3_ : wa.cell? ⟨w.heap.size + 1, 3, none⟩ = some (.int .i64 s2) := by rw [hwa]; exact ((Up.refl _).drew).keep _ _ _ (r3_)
  have r4_ : wa.cell? ⟨w.heap.size + 1, 4, none⟩ = some (.int .i64 qq2) := by rw [hwa]; exact ((Up.refl _).drew).keep _ _ _ (r4_)
  have r5_ : wa.cell? ⟨w.heap.size + 1, 5, none⟩ = some (.int .i64 lo2) := by rw [hwa]; exact ((Up.refl _).drew).keep _ _ _ (r5_)
  have r6_ : wa.cell? ⟨w.heap.size + 1, 6, none⟩ = some (.int .i64 hi2) := by rw [hwa]; exact ((Up.refl _).drew).keep _ _ _ (r6_)
  have y0_ : wa.cell? ⟨w.heap.size + 1 + 1, 0, none⟩ = some (.int .i64 0) := by rw [hwa]; exact ((Up.refl _).drew).keep _ _ _ (far7 (w := W5) y0 (by omega))
  have y1_ : wa.cell? ⟨w.heap.size + 1 + 1, 1, none⟩ = some (.int .i64 0) := by rw [hwa]; exact ((Up.refl _).drew).keep _ _ _ (far7 (w := W5) y1 (by omega))
  have y2_ : wa.cell? ⟨w.heap.size + 1 + 1, 2, none⟩ = some (.int .i64 0) := by rw [hwa]; exact ((Up.refl _).drew).keep _ _ _ (far7 (w := W5) y2 (by omega))
  have y3_ : wa.cell? ⟨w.heap.size + 1 + 1, 3, none⟩ = some (.int .i64 0) := by rw [hwa]; exact ((Up.refl _).drew).keep _ _ _ (far7 (w := W5) y3 (by omega))
  have y4_ : wa.cell? ⟨w.heap.size + 1 + 1, 4, none⟩ = some (.int .i64 0) := by rw [hwa]; exact ((Up.refl _).drew).keep _ _ _ (far7 (w := W5) y4 (by omega))
  have y5_ : wa.cell? ⟨w.heap.size + 1 + 1, 5, none⟩ = some (.int .i64 0) := by rw [hwa]; exact ((Up.refl _).drew).keep _ _ _ (far7 (w := W5) y5 (by omega))
  have y6_ : wa.cell? ⟨w.heap.size + 1 + 1, 6, none⟩ = some (.int .i64 0) := by rw [hwa]; exact ((Up.refl _).drew).keep _ _ _ (far7 (w := W5) y6 (by omega))
  have HW := Lib.hid (show Up w wa by rw [hwa]; exact (HW.out.set7 (by omega)).drew)
  clear hwa r0 r1 r2 r3 r4 r5 r6 y0 y1 y2 y3 y4 y5 y6
  have r0 := r0_
  have r1 := r1_
  have r2 := r2_
  have r3 := r3_
  have r4 := r4_
  have r5 := r5_
  have r6 := r6_
  have y0 := y0_
  have y1 := y1_
  have y2 := y2_
  have y3 := y3_
  have y4 := y4_
  have y5 := y5_
  have y6 := y6_
  clear r0_ r1_ r2_ r3_ r4_ r5_ r6_ y0_ y1_ y2_ y3_ y4_ y5_ y6_
  have zr0 := HW.out.ownGe (g := w.heap.size + 1) (by omega) 0
  have zr1 := HW.out.ownGe (g := w.heap.size + 1) (by omega) 1
  have zr2 := HW.out.ownGe (g := w.heap.size + 1) (by omega) 2
  have zr3 := HW.out.ownGe (g := w.heap.size + 1) (by omega) 3
  have zr4 := HW.out.ownGe (g := w.heap.size + 1) (by omega) 4
  have zr5 := HW.out.ownGe (g := w.heap.size + 1) (by omega) 5
  have zr6 := HW.out.ownGe (g := w.heap.size + 1) (by omega) 6
  have zs0 := HW.out.ownGe (g := w.heap.size + 1 + 1) (by omega) 0
  have zs1 := HW.out.ownGe (g := w.heap.size + 1 + 1) (by omega) 1
  have zs2 := HW.out.ownGe (g := w.heap.size + 1 + 1) (by omega) 2
  have zs3 := HW.out.ownGe (g := w.heap.size + 1 + 1) (by omega) 3
  have zs4 := HW.out.ownGe (g := w.heap.size + 1 + 1) (by omega) 4
  have zs5 := HW.out.ownGe (g := w.heap.size + 1 + 1) (by omega) 5
  have zs6 := HW.out.ownGe (g := w.heap.size + 1 + 1) (by omega) 6
  refine wpAnyH_ready (rs := [3]) (by kernel_rfl) (by simp) ?_
  refine AllReadyH.cons (o := ⟨_, _, _, _, _, _⟩) rfl (fun K hK => ?_) (AllReadyH.nil)
  go_simp
  refine hK.out _ _ ?hB82 (fun hHeld => ?_)
  case hB82 => (with_reducible exact set7K7 hHeld (by omega) (by omega))
  clear hK K
  (try simp only [Act.put, List.setIfInBounds_toArray, List.set_cons_zero, List.set_cons_succ])
  obtain ⟨wb, hwb⟩ : ∃ z, z = ((((((wa.setCell ⟨w.heap.size + 1 + 1, 0, none⟩ (.int .i64 (sq1 + 1))).setCell ⟨w.heap.size + 1 + 1, 1, none⟩ (.int .i64 t2)).setCell ⟨w.heap.size + 1 + 1, 2, none⟩ (.int .i64 nn2)).setCell ⟨w.heap.size + 1 + 1, 3, none⟩ (.int .i64 s2)).setCell ⟨w.heap.size + 1 + 1, 4, none⟩ (.int .i64 qq2)).setCell ⟨w.heap.size + 1 + 1, 5, none⟩ (.int .i64 lo2)).setCell ⟨w.heap.size + 1 + 1, 6, none⟩ (.int .i64 hi2) := ⟨_, rfl⟩
  rw [← hwb]
  rw [← hwb] at hHeld
  obtain ⟨y0_, y1_, y2_, y3_, y4_, y5_, y6_⟩ := cells7 (w := wa) (p := w.heap.size + 1 + 1) (v0 := .int .i64 (sq1 + 1)) (v1 := .int .i64 t2) (v2 := .int .i64 nn2) (v3 := .int .i64 s2) (v4 := .int .i64 qq2) (v5 := .int .i64 lo2) (v6 := .int .i64 hi2) y0 y1 y2 y3 y4 y5 y6
  have y0_ : wb.cell? ⟨w.heap.size + 1 + 1, 0, none⟩ = some (.int .i64 (sq1 + 1)) := by rw [hwb]; exact y0_
  have y1_ : wb.cell? ⟨w.heap.size + 1 + 1, 1, none⟩ = some (.int .i64 t2) := by rw [hwb]; exact y1_
  have y2_ : wb.cell? ⟨w.heap.size + 1 + 1, 2, none⟩ = some (.int .i64 nn2) := by rw [hwb]; exact y2_
  have y3_ : wb.cell? ⟨w.heap.size + 1 + 1, 3, none⟩ = some (.int .i64 s2) := by rw [hwb]; exact y3_
  have y4_ : wb.cell? ⟨w.heap.size + 1 + 1, 4, none⟩ = some (.int .i64 qq2) := by rw [hwb]; exact y4_
  have y5_ : wb.cell? ⟨w.heap.size + 1 + 1, 5, none⟩ = some (.int .i64 lo2) := by rw [hwb]; exact y5_
  have y6_ : wb.cell? ⟨w.heap.size + 1 + 1, 6, none⟩ = some (.int .i64 hi2) := by rw [hwb]; exact y6_
  have r0_ : wb.cell? ⟨w.heap.size + 1, 0, none⟩ = some (.int .i64 (sq1 + 1)) := by rw [hwb]; exact far7 (w := wa) r0 (by omega)
  have r1_ : wb.cell? ⟨w.heap.size + 1, 1, none⟩ = some (.int .i64 t2) := by rw [hwb]; exact far7 (w := wa) r1 (by omega)
  have r2_ : wb.cell? ⟨w.heap.size + 1, 2, none⟩ = some (.int .i64 nn2) := by rw [hwb]; exact far7 (w := wa) r2 (by omega)
  have r3_ : wb.cell? ⟨w.heap.size + 1, 3, none⟩ = some (.int .i64 s2) := by rw [hwb]; exact far7 (w := wa) r3 (by omega)
  have r4_ : wb.cell? ⟨w.heap.size + 1, 4, none⟩ = some (.int .i64 qq2) := by rw [hwb]; exact far7 (w := wa) r4 (by omega)
  have r5_ : wb.cell? ⟨w.heap.size + 1, 5, none⟩ = some (.int .i64 lo2) := by rw [hwb]; exact far7 (w := wa) r5 (by omega)
  have r6_ : wb.cell? ⟨w.heap.size + 1, 6, none⟩ = some (.int .i64 hi2) := by rw [hwb]; exact far7 (w := wa) r6 (by omega)
  have HW := Lib.hid (show Up w wb by rw [hwb]; exact HW.out.set7 (by omega))
  clear hwb r0 r1 r2 r3 r4 r5 r6 y0 y1 y2 y3 y4 y5 y6
  have r0 := r0_
  have r1 := r1_
  have r2 := r2_
  have r3 := r3_
  have r4 := r4_
  have r5 := r5_
  have r6 := r6_
  have y0 := y0_
  have y1 := y1_
  have y2 := y2_
  have y3 := y3_
  have y4 := y4_
  have y5 := y5_
  have y6 := y6_
  clear r0_ r1_ r2_ r3_ r4_ r5_ r6_ y0_ y1_ y2_ y3_ y4_ y5_ y6_
  have zr0 := HW.out.ownGe (g := w.heap.size + 1) (by omega) 0
  have zr1 := HW.out.ownGe (g := w.heap.size + 1) (by omega) 1
  have zr2 := HW.out.ownGe (g := w.heap.size + 1) (by omega) 2
  have zr3 := HW.out.ownGe (g := w.heap.size + 1) (by omega) 3
  have zr4 := HW.out.ownGe (g := w.heap.size + 1) (by omega) 4
  have zr5 := HW.out.ownGe (g := w.heap.size + 1) (by omega) 5
  have zr6 := HW.out.ownGe (g := w.heap.size + 1) (by omega) 6
  have zs0 := HW.out.ownGe (g := w.heap.size + 1 + 1) (by omega) 0
  have zs1 := HW.out.ownGe (g := w.heap.size + 1 + 1) (by omega) 1
  have zs2 := HW.out.ownGe (g := w.heap.size + 1 + 1) (by omega) 2
  have zs3 := HW.out.ownGe (g := w.heap.size + 1 + 1) (by omega) 3
  have zs4 := HW.out.ownGe (g := w.heap.size + 1 + 1) (by omega) 4
  have zs5 := HW.out.ownGe (g := w.heap.size + 1 + 1) (by omega) 5
  have zs6 := HW.out.ownGe (g := w.heap.size + 1 + 1) (by omega) 6
  refine wpAnyH_done (by kernel_rfl) ?_ _
  clear hHeld HSS
  go_wp2_with fail
  refine bodyPost_ret (v := .tuple #[.agg #[.int .i64 (sq1 + 1), .int .i64 t2, .int .i64 nn2, .int .i64 s2, .int .i64 qq2, .int .i64 lo2, .int .i64 hi2], .agg #[.int .i64 (sq1 + 1), .int .i64 t2, .int .i64 nn2, .int .i64 s2, .int .i64 qq2, .int .i64 lo2, .int .i64 hi2]]) (by simp [results, Try.results75, go_sem, r0, r1, r2, r3, r4, r5, r6, y0, y1, y2, y3, y4, y5, y6]) rfl ⟨rfl, HW.out⟩
set_option maxHeartbeats 4000000 in
set_option maxRecDepth 100000 in
theorem mends_both (g v q c now seq : Int) (n k : Nat) (A : Option Addr) (X : List Mrk) (hn : n ≤ 50000) (h1 : 1 < n) (hl : liveB now v (X.getD 0 mk0).t = false) (hb : bdM (X.getD 0 mk0)) (hq : ¬ (X.getD 1 mk0).sq = (X.getD 0 mk0).sq + 1) (w : World) (hS : SG cM w A n X) :
    Calls Try.prog 75 #[.agg #[.int .i64 g, .int .i64 v, .int .i64 q, .int .i64 c, .int .i64 now, .int .i64 seq, .slice A n k]] w fun e w' => e = .returned (.tuple #[mg (X.getD 1 mk0), mg (X.getD 0 mk0)]) ∧ Up w w' := by
  have h0 : 0 < n := by omega
  have HS := Lib.hid hS
  obtain ⟨b, o, rfl, _⟩ := mrk_at HS.out mk0 h0
  have HD0 := Lib.hid (fun W (h : Up w W) => mrk_prev (HS.out.up h) h0)
  simp only [Nat.zero_mul, Nat.add_zero] at HD0
  have f20 : (0 : Int) < n := by omega
  have t0 : ((n : Int) == 0) = false := beq_eq_false_iff_ne.2 (by omega)
  have t0' : ¬ ((n : Int) = 0) := by omega
  have HD1 := Lib.hid (fun W (h : Up w W) => mrk_prev (HS.out.up h) h1)
  simp only [Nat.one_mul] at HD1
  have f21 : (1 : Int) < n := by omega
  generalize X.getD 1 mk0 = Mb at *
  generalize X.getD 0 mk0 = Ma at *
  obtain ⟨sq1, t1, nn1, s1, qq1, lo1, hi1⟩ := Ma
  obtain ⟨sq2, t2, nn2, s2, qq2, lo2, hi2⟩ := Mb
  simp only at HD0 HD1 hl hq
  have u1 := hb.2.2.2.2.2
  simp only at u1
  obtain ⟨u1, u2⟩ := u1
  have w1_ : IntKind.i64.wrap (sq1 + 1) = sq1 + 1 := by rw [IntKind.wrap_i64]; omega
  have KL := Lib.hid (isLive13_up g v q c now seq n k (some ⟨b, o, none⟩) sq1 t1 nn1 s1 qq1 lo1 hi1)
  rw [hl] at KL
  clear hl hS hb
  have hq1 : (sq2 == sq1 + 1) = false := beq_eq_false_iff_ne.2 hq
  show Calls _ _ _ _ (fun e w' => e = .returned (.tuple #[.agg #[.int .i64 sq2, .int .i64 t2, .int .i64 nn2, .int .i64 s2, .int .i64 qq2, .int .i64 lo2, .int .i64 hi2], .agg #[.int .i64 sq1, .int .i64 t1, .int .i64 nn1, .int .i64 s1, .int .i64 qq1, .int .i64 lo1, .int .i64 hi1]]) ∧ Up w w')
  go_enter Try.func75, Try.ntmps75
  go_upto_region 3 with fail
  refine (show ∀ w1 : World, w1 = _ → Code.wp _ _ _ _ w1 from fun w1 hw1 => ?_) _ rfl
  have HW : Hid (Up w w1) := Lib.hid (by rw [hw1]; exact (((Up.refl w).alloc _ _).alloc _ _).alloc _ _)
  have a0 : w1.cell? ⟨w.heap.size, 0, none⟩ = some (.int .i64 g) := by rw [hw1]; simp [go_sem]
  have a1 : w1.cell? ⟨w.heap.size, 1, none⟩ = some (.int .i64 v) := by rw [hw1]; simp [go_sem]
  have a2 : w1.cell? ⟨w.heap.size, 2, none⟩ = some (.int .i64 q) := by rw [hw1]; simp [go_sem]
  have a3 : w1.cell? ⟨w.heap.size, 3, none⟩ = some (.int .i64 c) := by rw [hw1]; simp [go_sem]
  have a4 : w1.cell? ⟨w.heap.size, 4, none⟩ = some (.int .i64 now) := by rw [hw1]; simp [go_sem]
  have a5 : w1.cell? ⟨w.heap.size, 5, none⟩ = some (.int .i64 seq) := by rw [hw1]; simp [go_sem]
  have a6 : w1.cell? ⟨w.heap.size, 6, none⟩ = some (.slice (some ⟨b, o, none⟩) n k) := by rw [hw1]; simp [go_sem]
  have r0 : w1.cell? ⟨w.heap.size + 1, 0, none⟩ = some (.int .i64 0) := by rw [hw1]; simp [go_sem]
  have r1 : w1.cell? ⟨w.heap.size + 1, 1, none⟩ = some (.int .i64 0) := by rw [hw1]; simp [go_sem]
  have r2 : w1.cell? ⟨w.heap.size + 1, 2, none⟩ = some (.int .i64 0) := by rw [hw1]; simp [go_sem]
  have r3 : w1.cell? ⟨w.heap.size + 1, 3, none⟩ = some (.int .i64 0) := by rw [hw1]; simp [go_sem]
  have r4 : w1.cell? ⟨w.heap.size + 1, 4, none⟩ = some (.int .i64 0) := by rw [hw1]; simp [go_sem]
  have r5 : w1.cell? ⟨w.heap.size + 1, 5, none⟩ = some (.int .i64 0) := by rw [hw1]; simp [go_sem]
  have r6 : w1.cell? ⟨w.heap.size + 1, 6, none⟩ = some (.int .i64 0) := by rw [hw1]; simp [go_sem]
  have y0 : w1.cell? ⟨w.heap.size + 1 + 1, 0, none⟩ = some (.int .i64 0) := by rw [hw1]; simp [go_sem]
  have y1 : w1.cell? ⟨w.heap.size + 1 + 1, 1, none⟩ = some (.int .i64 0) := by rw [hw1]; simp [go_sem]
  have y2 : w1.cell? ⟨w.heap.size + 1 + 1, 2, none⟩ = some (.int .i64 0) := by rw [hw1]; simp [go_sem]
  have y3 : w1.cell? ⟨w.heap.size + 1 + 1, 3, none⟩ = some (.int .i64 0) := by rw [hw1]; simp [go_sem]
  have y4 : w1.cell? ⟨w.heap.size + 1 + 1, 4, none⟩ = some (.int .i64 0) := by rw [hw1]; simp [go_sem]
  have y5 : w1.cell? ⟨w.heap.size + 1 + 1, 5, none⟩ = some (.int .i64 0) := by rw [hw1]; simp [go_sem]
  have y6 : w1.cell? ⟨w.heap.size + 1 + 1, 6, none⟩ = some (.int .i64 0) := by rw [hw1]; simp [go_sem]
  have hl1 : w.heap.size + 1 + 1 < w1.heap.size := World.block_lt_of_cell? _ _ y0
  clear hw1
  obtain ⟨d0, d1, d2, d3, d4, d5, d6⟩ := HD0.out _ HW.out
  go_upto_region 4 with fail
  refine (show ∀ W2 : World, W2 = _ → Code.wp _ _ _ _ W2 from fun W2 hW2 => ?_) _ rfl
  have hv : Up w1 W2 := by rw [hW2]; exact (Up.refl _).alloc _ _
  have m0 : W2.cell? ⟨w1.heap.size, 0, none⟩ = some (.int .i64 sq1) := by rw [hW2]; simp [go_sem]
  have m1 : W2.cell? ⟨w1.heap.size, 1, none⟩ = some (.int .i64 t1) := by rw [hW2]; simp [go_sem]
  have m2 : W2.cell? ⟨w1.heap.size, 2, none⟩ = some (.int .i64 nn1) := by rw [hW2]; simp [go_sem]
  have m3 : W2.cell? ⟨w1.heap.size, 3, none⟩ = some (.int .i64 s1) := by rw [hW2]; simp [go_sem]
  have m4 : W2.cell? ⟨w1.heap.size, 4, none⟩ = some (.int .i64 qq1) := by rw [hW2]; simp [go_sem]
  have m5 : W2.cell? ⟨w1.heap.size, 5, none⟩ = some (.int .i64 lo1) := by rw [hW2]; simp [go_sem]
  have m6 : W2.cell? ⟨w1.heap.size, 6, none⟩ = some (.int .i64 hi1) := by rw [hW2]; simp [go_sem]
  have a0 := hv.keep _ _ _ a0
  have a1 := hv.keep _ _ _ a1
  have a2 := hv.keep _ _ _ a2
  have a3 := hv.keep _ _ _ a3
  have a4 := hv.keep _ _ _ a4
  have a5 := hv.keep _ _ _ a5
  have a6 := hv.keep _ _ _ a6
  have r0 := hv.keep _ _ _ r0
  have r1 := hv.keep _ _ _ r1
  have r2 := hv.keep _ _ _ r2
  have r3 := hv.keep _ _ _ r3
  have r4 := hv.keep _ _ _ r4
  have r5 := hv.keep _ _ _ r5
  have r6 := hv.keep _ _ _ r6
  have y0 := hv.keep _ _ _ y0
  have y1 := hv.keep _ _ _ y1
  have y2 := hv.keep _ _ _ y2
  have y3 := hv.keep _ _ _ y3
  have y4 := hv.keep _ _ _ y4
  have y5 := hv.keep _ _ _ y5
  have y6 := hv.keep _ _ _ y6
  have HW := Lib.hid (HW.out.trans hv)
  clear hv hW2 d0 d1 d2 d3 d4 d5 d6
  generalize w1.heap.size = p1 at *
  go_upto_region 6 with (go_at_call 111; (with_reducible refine (KL.out _).mono ?_); rintro e w3 ⟨rfl, hu⟩; have HW := Lib.hid (HW.out.trans hu); have a6 := hu.keep _ _ _ a6; have r0 := hu.keep _ _ _ r0; have r1 := hu.keep _ _ _ r1; have r2 := hu.keep _ _ _ r2; have r3 := hu.keep _ _ _ r3; have r4 := hu.keep _ _ _ r4; have r5 := hu.keep _ _ _ r5; have r6 := hu.keep _ _ _ r6; have y0 := hu.keep _ _ _ y0; have y1 := hu.keep _ _ _ y1; have y2 := hu.keep _ _ _ y2; have y3 := hu.keep _ _ _ y3; have y4 := hu.keep _ _ _ y4; have y5 := hu.keep _ _ _ y5; have y6 := hu.keep _ _ _ y6; have m0 := hu.keep _ _ _ m0; have m1 := hu.keep _ _ _ m1; have m2 := hu.keep _ _ _ m2; have m3 := hu.keep _ _ _ m3; have m4 := hu.keep _ _ _ m4; have m5 := hu.keep _ _ _ m5; have m6 := hu.keep _ _ _ m6; have zr0 := HW.out.ownGe (g := w.heap.size + 1) (by omega) 0; have zs0 := HW.out.ownGe (g := w.heap.size + 1 + 1) (by omega) 0; have zr1 := HW.out.ownGe (g := w.heap.size + 1) (by omega) 1; have zs1 := HW.out.ownGe (g := w.heap.size + 1 + 1) (by omega) 1; have zr2 := HW.out.ownGe (g := w.heap.size + 1) (by omega) 2; have zs2 := HW.out.ownGe (g := w.heap.size + 1 + 1) (by omega) 2; have zr3 := HW.out.ownGe (g := w.heap.size + 1) (by omega) 3; have zs3 := HW.out.ownGe (g := w.heap.size + 1 + 1) (by omega) 3; have zr4 := HW.out.ownGe (g := w.heap.size + 1) (by omega) 4; have zs4 := HW.out.ownGe (g := w.heap.size + 1 + 1) (by omega) 4; have zr5 := HW.out.ownGe (g := w.heap.size + 1) (by omega) 5; have zs5 := HW.out.ownGe (g := w.heap.size + 1 + 1) (by omega) 5; have zr6 := HW.out.ownGe (g := w.heap.size + 1) (by omega) 6; have zs6 := HW.out.ownGe (g := w.heap.size + 1 + 1) (by omega) 6; obtain ⟨x0, x1, x2, x3, x4, x5, x6⟩ := HD1.out _ HW.out; clear hu)
  go_upto_region 7 with fail
  refine (show ∀ W5 : World, W5 = _ → Code.wp _ _ _ _ W5 from fun W5 hW5 => ?_) _ rfl
  have hv : Up w3 W5 := by rw [hW5]; exact (Up.refl _).alloc _ _
  have hl3 : w.heap.size + 1 + 1 < w3.heap.size := World.block_lt_of_cell? _ _ y0
  have e0 : W5.cell? ⟨w3.heap.size, 0, none⟩ = some (.int .i64 sq2) := by rw [hW5]; simp [go_sem]
  have e1 : W5.cell? ⟨w3.heap.size, 1, none⟩ = some (.int .i64 t2) := by rw [hW5]; simp [go_sem]
  have e2 : W5.cell? ⟨w3.heap.size, 2, none⟩ = some (.int .i64 nn2) := by rw [hW5]; simp [go_sem]
  have e3 : W5.cell? ⟨w3.heap.size, 3, none⟩ = some (.int .i64 s2) := by rw [hW5]; simp [go_sem]
  have e4 : W5.cell? ⟨w3.heap.size, 4, none⟩ = some (.int .i64 qq2) := by rw [hW5]; simp [go_sem]
  have e5 : W5.cell? ⟨w3.heap.size, 5, none⟩ = some (.int .i64 lo2) := by rw [hW5]; simp [go_sem]
  have e6 : W5.cell? ⟨w3.heap.size, 6, none⟩ = some (.int .i64 hi2) := by rw [hW5]; simp [go_sem]
  have r0 := hv.keep _ _ _ r0
  have r1 := hv.keep _ _ _ r1
  have r2 := hv.keep _ _ _ r2
  have r3 := hv.keep _ _ _ r3
  have r4 := hv.keep _ _ _ r4
  have r5 := hv.keep _ _ _ r5
  have r6 := hv.keep _ _ _ r6
  have y0 := hv.keep _ _ _ y0
  have y1 := hv.keep _ _ _ y1
  have y2 := hv.keep _ _ _ y2
  have y3 := hv.keep _ _ _ y3
  have y4 := hv.keep _ _ _ y4
  have y5 := hv.keep _ _ _ y5
  have y6 := hv.keep _ _ _ y6
  have m0 := hv.keep _ _ _ m0
  have m1 := hv.keep _ _ _ m1
  have m2 := hv.keep _ _ _ m2
  have m3 := hv.keep _ _ _ m3
  have m4 := hv.keep _ _ _ m4
  have m5 := hv.keep _ _ _ m5
  have m6 := hv.keep _ _ _ m6
  have HW := Lib.hid (HW.out.trans hv)
  clear hv hW5 x0 x1 x2 x3 x4 x5 x6 a6 zr0 zr1 zr2 zr3 zr4 zr5 zr6 zs0 zs1 zs2 zs3 zs4 zs5 zs6
  generalize w3.heap.size = p5 at *
  have zr0 := HW.out.ownGe (g := w.heap.size + 1) (by omega) 0
  have zs0 := HW.out.ownGe (g := w.heap.size + 1 + 1) (by omega) 0
  have zr1 := HW.out.ownGe (g := w.heap.size + 1) (by omega) 1
  have zs1 := HW.out.ownGe (g := w.heap.size + 1 + 1) (by omega) 1
  have zr2 := HW.out.ownGe (g := w.heap.size + 1) (by omega) 2
  have zs2 := HW.out.ownGe (g := w.heap.size + 1 + 1) (by omega) 2
  have zr3 := HW.out.ownGe (g := w.heap.size + 1) (by omega) 3
  have zs3 := HW.out.ownGe (g := w.heap.size + 1 + 1) (by omega) 3
  have zr4 := HW.out.ownGe (g := w.heap.size + 1) (by omega) 4
  have zs4 := HW.out.ownGe (g := w.heap.size + 1 + 1) (by omega) 4
  have zr5 := HW.out.ownGe (g := w.heap.size + 1) (by omega) 5
  have zs5 := HW.out.ownGe (g := w.heap.size + 1 + 1) (by omega) 5
  have zr6 := HW.out.ownGe (g := w.heap.size + 1) (by omega) 6
  have zs6 := HW.out.ownGe (g := w.heap.size + 1 + 1) (by omega) 6
  go_upto_region 9 with fail
  have HSS : Hid (Up w W5 ∧ W5.cell? ⟨p5, 0, none⟩ = some (.int .i64 sq2) ∧ W5.cell? ⟨p5, 1, none⟩ = some (.int .i64 t2) ∧ W5.cell? ⟨p5, 2, none⟩ = some (.int .i64 nn2) ∧ W5.cell? ⟨p5, 3, none⟩ = some (.int .i64 s2) ∧ W5.cell? ⟨p5, 4, none⟩ = some (.int .i64 qq2) ∧ W5.cell? ⟨p5, 5, none⟩ = some (.int .i64 lo2) ∧ W5.cell? ⟨p5, 6, none⟩ = some (.int .i64 hi2) ∧ W5.cell? ⟨p1, 0, none⟩ = some (.int .i64 sq1) ∧ W5.cell? ⟨p1, 1, none⟩ = some (.int .i64 t1) ∧ W5.cell? ⟨p1, 2, none⟩ = some (.int .i64 nn1) ∧ W5.cell? ⟨p1, 3, none⟩ = some (.int .i64 s1) ∧ W5.cell? ⟨p1, 4, none⟩ = some (.int .i64 qq1) ∧ W5.cell? ⟨p1, 5, none⟩ = some (.int .i64 lo1) ∧ W5.cell? ⟨p1, 6, none⟩ = some (.int .i64 hi1)) := Lib.hid ⟨HW.out, e0, e1, e2, e3, e4, e5, e6, m0, m1, m2, m3, m4, m5, m6⟩
  clear e0 e1 e2 e3 e4 e5 e6 m0 m1 m2 m3 m4 m5 m6
  go_wp2_with fail
  refine wp_region_held_drew (S := fun w' => Up w w' ∧ w'.cell? ⟨p5, 0, none⟩ = some (.int .i64 sq2) ∧ w'.cell? ⟨p5, 1, none⟩ = some (.int .i64 t2) ∧ w'.cell? ⟨p5, 2, none⟩ = some (.int .i64 nn2) ∧ w'.cell? ⟨p5, 3, none⟩ = some (.int .i64 s2) ∧ w'.cell? ⟨p5, 4, none⟩ = some (.int .i64 qq2) ∧ w'.cell? ⟨p5, 5, none⟩ = some (.int .i64 lo2) ∧ w'.cell? ⟨p5, 6, none⟩ = some (.int .i64 hi2) ∧ w'.cell? ⟨p1, 0, none⟩ = some (.int .i64 sq1) ∧ w'.cell? ⟨p1, 1, none⟩ = some (.int .i64 t1) ∧ w'.cell? ⟨p1, 2, none⟩ = some (.int .i64 nn1) ∧ w'.cell? ⟨p1, 3, none⟩ = some (.int .i64 s1) ∧ w'.cell? ⟨p1, 4, none⟩ = some (.int .i64 qq1) ∧ w'.cell? ⟨p1, 5, none⟩ = some (.int .i64 lo1) ∧ w'.cell? ⟨p1, 6, none⟩ = some (.int .i64 hi1)) (by kernel_rfl) ?hB83 (fun hHeld => ?_)
  case hB83 => (with_reducible exact keepK14 (Lib.hid (Up.refl _).drew) HSS.out)
  refine wpAnyH_take (i := 0) (oi := ⟨_, _, _, _, _, _⟩) (v := ?v84) rfl (by kernel_rfl) (by kernel_rfl) (by kernel_rfl) (fun _ _ _ h => h) (Or.inl ⟨by rfl, ?hy84⟩) (by assumption) ?_
  case hy84 => (intro w hSw; (try dsimp only at hSw); go_simp; (try (with_reducible rfl)))
  (try simp only [Act.put, List.setIfInBounds_toArray, List.set_cons_zero, List.set_cons_succ])
  refine wpAnyH_take (i := 1) (oi := ⟨_, _, _, _, _, _⟩) (v := ?v85) rfl (by kernel_rfl) (by kernel_rfl) (by kernel_rfl) (fun _ _ _ h => h) (Or.inl ⟨by rfl, ?hy85⟩) (by assumption) ?_
  case hy85 => (intro w hSw; (try dsimp only at hSw); go_simp; (try (with_reducible rfl)))
  (try simp only [Act.put, List.setIfInBounds_toArray, List.set_cons_zero, List.set_cons_succ])
  refine wpAnyH_ready (rs := [2]) (by kernel_rfl) (by simp) ?_
  refine AllReadyH.cons (o := ⟨_, _, _, _, _, _⟩) rfl (fun K hK => ?_) (AllReadyH.nil)
  go_simp
  refine hK.out _ _ ?hB86 (fun hHeld => ?_)
  case hB86 => (with_reducible exact keepK14 (Lib.hid (Up.refl _).drew) (set7K14 HSS.out (by omega) (by omega) (by omega)))
  clear hK K
  (try simp only [Act.put, List.setIfInBounds_toArray, List.set_cons_zero, List.set_cons_succ])
  obtain ⟨wa, hwa⟩ : ∃ z, z = (((((((W5.setCell ⟨w.heap.size + 1, 0, none⟩ (.int .i64 sq2)).setCell ⟨w.heap.size + 1, 1, none⟩ (.int .i64 t2)).setCell ⟨w.heap.size + 1, 2, none⟩ (.int .i64 nn2)).setCell ⟨w.heap.size + 1, 3, none⟩ (.int .i64 s2)).setCell ⟨w.heap.size + 1, 4, none⟩ (.int .i64 qq2)).setCell ⟨w.heap.size + 1, 5, none⟩ (.int .i64 lo2)).setCell ⟨w.heap.size + 1, 6, none⟩ (.int .i64 hi2)).drew := ⟨_, rfl⟩
  rw [← hwa]
  rw [← hwa] at hHeld
  obtain ⟨r0_, r1_, r2_, r3_, r4_, r5_, r6_⟩ := cells7 (w := W5) (p := w.heap.size + 1) (v0 := .int .i64 sq2) (v1 := .int .i64 t2) (v2 := .int .i64 nn2) (v3 := .int .i64 s2) (v4 := .int .i64 qq2) (v5 := .int .i64 lo2) (v6 := .int .i64 hi2) r0 r1 r2 r3 r4 r5 r6
  have r0_ : wa.cell? ⟨w.heap.size + 1, 0, none⟩ = some (.int .i64 sq2) := by rw [hwa]; exact ((Up.refl _).drew).keep _ _ _ (r0_)
  have r1_ : wa.cell? ⟨w.heap.size + 1, 1, none⟩ = some (.int .i64 t2) := by rw [hwa]; exact ((Up.refl _).drew).keep _ _ _ (r1_)
  have r2_ : wa.cell? ⟨w.heap.size + 1, 2, none⟩ = some (.int .i64 nn2) := by rw [hwa]; exact ((Up.refl _).drew).keep _ _ _ (r2_)
  have r3_ : wa.cell? ⟨w.heap.size + 1, 3, none⟩ = some (.int .i64 s2) := by rw [hwa]; exact ((Up.refl _).drew).keep _ _ _ (r3_)
  have r4_ : wa.cell? ⟨w.heap.size + 1, 4, none⟩ = some (.int .i64 qq2) := by rw [hwa]; exact ((Up.refl _).drew).keep _ _ _ (r4_)
  have r5_ : wa.cell? ⟨w.heap.size + 1, 5, none⟩ = some (.int .i64 lo2) := by rw [hwa]; exact ((Up.refl _).drew).keep _ _ _ (r5_)
  have r6_ : wa.cell? ⟨w.heap.size + 1, 6, none⟩ = some (.int .i64 hi2) := by rw [hwa]; exact ((Up.refl _).drew).keep _ _ _ (r6_)
  have y0_ : wa.cell? ⟨w.heap.size + 1 + 1, 0, none⟩ = some (.int .i64 0) := by rw [hwa]; exact ((Up.refl _).drew).keep _ _ _ (far7 (w := W5) y0 (by omega))
  have y1_ : wa.cell? ⟨w.heap.size + 1 + 1, 1, none⟩ = some (.int .i64 0) := by rw [hwa]; exact ((Up.refl _).drew).keep _ _ _ (far7 (w := W5) y1 (by omega))
  have y2_ : wa.cell? ⟨w.heap.size + 1 + 1, 2, none⟩ = some (.int .i64 0) := by rw [hwa]; exact ((Up.refl _).drew).keep _ _ _ (far7 (w := W5) y2 (by omega))
  have y3_ : wa.cell? ⟨w.heap.size + 1 + 1, 3, none⟩ = some (.int .i64 0) := by rw [hwa]; exact ((Up.refl _).drew).keep _ _ _ (far7 (w := W5) y3 (by omega))
  have y4_ : wa.cell? ⟨w.heap.size + 1 + 1, 4, none⟩ = some (.int .i64 0) := by rw [hwa]; exact ((Up.refl _).drew).keep _ _ _ (far7 (w := W5) y4 (by omega))
  have y5_ : wa.cell? ⟨w.heap.size + 1 + 1, 5, none⟩ = some (.int .i64 0) := by rw [hwa]; exact ((Up.refl _).drew).keep _ _ _ (far7 (w := W5) y5 (by omega))
  have y6_ : wa.cell? ⟨w.heap.size + 1 + 1, 6, none⟩ = some (.int .i64 0) := by rw [hwa]; exact ((Up.refl _).drew).keep _ _ _ (far7 (w := W5) y6 (by omega))
  have HW := Lib.hid (show Up w wa by rw [hwa]; exact (HW.out.set7 (by omega)).drew)
  clear hwa r0 r1 r2 r3 r4 r5 r6 y0 y1 y2 y3 y4 y5 y6
  have r0 := r0_
  have r1 := r1_
  have r2 := r2_
  have r3 := r3_
  have r4 := r4_
  have r5 := r5_
  have r6 := r6_
  have y0 := y0_
  have y1 := y1_
  have y2 := y2_
  have y3 := y3_
  have y4 := y4_
  have y5 := y5_
  have y6 := y6_
  clear r0_ r1_ r2_ r3_ r4_ r5_ r6_ y0_ y1_ y2_ y3_ y4_ y5_ y6_
  have zr0 := HW.out.ownGe (g := w.heap.size + 1) (by omega) 0
  have zr1 := HW.out.ownGe (g := w.heap.size + 1) (by omega) 1
  have zr2 := HW.out.ownGe (g := w.heap.size + 1) (by omega) 2
  have zr3 := HW.out.ownGe (g := w.heap.size + 1) (by omega) 3
  have zr4 := HW.out.ownGe (g := w.heap.size + 1) (by omega) 4
  have zr5 := HW.out.ownGe (g := w.heap.size + 1) (by omega) 5
  have zr6 := HW.out.ownGe (g := w.heap.size + 1) (by omega) 6
  have zs0 := HW.out.ownGe (g := w.heap.size + 1 + 1) (by omega) 0
  have zs1 := HW.out.ownGe (g := w.heap.size + 1 + 1) (by omega) 1
  have zs2 := HW.out.ownGe (g := w.heap.size + 1 + 1) (by omega) 2
  have zs3 := HW.out.ownGe (g := w.heap.size + 1 + 1) (by omega) 3
  have zs4 := HW.out.ownGe (g := w.heap.size + 1 + 1) (by omega) 4
  have zs5 := HW.out.ownGe (g := w.heap.size + 1 + 1) (by omega) 5
  have zs6 := HW.out.ownGe (g := w.heap.size + 1 + 1) (by omega) 6
  refine wpAnyH_ready (rs := [3]) (by kernel_rfl) (by simp) ?_
  refine AllReadyH.cons (o := ⟨_, _, _, _, _, _⟩) rfl (fun K hK => ?_) (AllReadyH.nil)
  go_simp
  refine hK.out _ _ ?hB87 (fun hHeld => ?_)
  case hB87 => (with_reducible exact set7K14 hHeld (by omega) (by omega) (by omega))
  clear hK K
  (try simp only [Act.put, List.setIfInBounds_toArray, List.set_cons_zero, List.set_cons_succ])
  obtain ⟨wb, hwb⟩ : ∃ z, z = ((((((wa.setCell ⟨w.heap.size + 1 + 1, 0, none⟩ (.int .i64 sq1)).setCell ⟨w.heap.size + 1 + 1, 1, none⟩ (.int .i64 t1)).setCell ⟨w.heap.size + 1 + 1, 2, none⟩ (.int .i64 nn1)).setCell ⟨w.heap.size + 1 + 1, 3, none⟩ (.int .i64 s1)).setCell ⟨w.heap.size + 1 + 1, 4, none⟩ (.int .i64 qq1)).setCell ⟨w.heap.size + 1 + 1, 5, none⟩ (.int .i64 lo1)).setCell ⟨w.heap.size + 1 + 1, 6, none⟩ (.int .i64 hi1) := ⟨_, rfl⟩
  rw [← hwb]
  rw [← hwb] at hHeld
  obtain ⟨y0_, y1_, y2_, y3_, y4_, y5_, y6_⟩ := cells7 (w := wa) (p := w.heap.size + 1 + 1) (v0 := .int .i64 sq1) (v1 := .int .i64 t1) (v2 := .int .i64 nn1) (v3 := .int .i64 s1) (v4 := .int .i64 qq1) (v5 := .int .i64 lo1) (v6 := .int .i64 hi1) y0 y1 y2 y3 y4 y5 y6
  have y0_ : wb.cell? ⟨w.heap.size + 1 + 1, 0, none⟩ = some (.int .i64 sq1) := by rw [hwb]; exact y0_
  have y1_ : wb.cell? ⟨w.heap.size + 1 + 1, 1, none⟩ = some (.int .i64 t1) := by rw [hwb]; exact y1_
  have y2_ : wb.cell? ⟨w.heap.size + 1 + 1, 2, none⟩ = some (.int .i64 nn1) := by rw [hwb]; exact y2_
  have y3_ : wb.cell? ⟨w.heap.size + 1 + 1, 3, none⟩ = some (.int .i64 s1) := by rw [hwb]; exact y3_
  have y4_ : wb.cell? ⟨w.heap.size + 1 + 1, 4, none⟩ = some (.int .i64 qq1) := by rw [hwb]; exact y4_
  have y5_ : wb.cell? ⟨w.heap.size + 1 + 1, 5, none⟩ = some (.int .i64 lo1) := by rw [hwb]; exact y5_
  have y6_ : wb.cell? ⟨w.heap.size + 1 + 1, 6, none⟩ = some (.int .i64 hi1) := by rw [hwb]; exact y6_
  have r0_ : wb.cell? ⟨w.heap.size + 1, 0, none⟩ = some (.int .i64 sq2) := by rw [hwb]; exact far7 (w := wa) r0 (by omega)
  have r1_ : wb.cell? ⟨w.heap.size + 1, 1, none⟩ = some (.int .i64 t2) := by rw [hwb]; exact far7 (w := wa) r1 (by omega)
  have r2_ : wb.cell? ⟨w.heap.size + 1, 2, none⟩ = some (.int .i64 nn2) := by rw [hwb]; exact far7 (w := wa) r2 (by omega)
  have r3_ : wb.cell? ⟨w.heap.size + 1, 3, none⟩ = some (.int .i64 s2) := by rw [hwb]; exact far7 (w := wa) r3 (by omega)
  have r4_ : wb.cell? ⟨w.heap.size + 1, 4, none⟩ = some (.int .i64 qq2) := by rw [hwb]; exact far7 (w := wa) r4 (by omega)
  have r5_ : wb.cell? ⟨w.heap.size + 1, 5, none⟩ = some (.int .i64 lo2) := by rw [hwb]; exact far7 (w := wa) r5 (by omega)
  have r6_ : wb.cell? ⟨w.heap.size + 1, 6, none⟩ = some (.int .i64 hi2) := by rw [hwb]; exact far7 (w := wa) r6 (by omega)
  have HW := Lib.hid (show Up w wb by rw [hwb]; exact HW.out.set7 (by omega))
  clear hwb r0 r1 r2 r3 r4 r5 r6 y0 y1 y2 y3 y4 y5 y6
  have r0 := r0_
  have r1 := r1_
  have r2 := r2_
  have r3 := r3_
  have r4 := r4_
  have r5 := r5_
  have r6 := r6_
  have y0 := y0_
  have y1 := y1_
  have y2 := y2_
  have y3 := y3_
  have y4 := y4_
  have y5 := y5_
  have y6 := y6_
  clear r0_ r1_ r2_ r3_ r4_ r5_ r6_ y0_ y1_ y2_ y3_ y4_ y5_ y6_
  have zr0 := HW.out.ownGe (g := w.heap.size + 1) (by omega) 0
  have zr1 := HW.out.ownGe (g := w.heap.size + 1) (by omega) 1
  have zr2 := HW.out.ownGe (g := w.heap.size + 1) (by omega) 2
  have zr3 := HW.out.ownGe (g := w.heap.size + 1) (by omega) 3
  have zr4 := HW.out.ownGe (g := w.heap.size + 1) (by omega) 4
  have zr5 := HW.out.ownGe (g := w.heap.size + 1) (by omega) 5
  have zr6 := HW.out.ownGe (g := w.heap.size + 1) (by omega) 6
  have zs0 := HW.out.ownGe (g := w.heap.size + 1 + 1) (by omega) 0
  have zs1 := HW.out.ownGe (g := w.heap.size + 1 + 1) (by omega) 1
  have zs2 := HW.out.ownGe (g := w.heap.size + 1 + 1) (by omega) 2
  have zs3 := HW.out.ownGe (g := w.heap.size + 1 + 1) (by omega) 3
  have zs4 := HW.out.ownGe (g := w.heap.size + 1 + 1) (by omega) 4
  have zs5 := HW.out.ownGe (g := w.heap.size + 1 + 1) (by omega) 5
  have zs6 := HW.out.ownGe (g := w.heap.size + 1 + 1) (by omega) 6
  refine wpAnyH_done (by kernel_rfl) ?_ _
  clear hHeld HSS
  go_wp2_with fail
  refine bodyPost_ret (v := .tuple #[.agg #[.int .i64 sq2, .int .i64 t2, .int .i64 nn2, .int .i64 s2, .int .i64 qq2, .int .i64 lo2, .int .i64 hi2], .agg #[.int .i64 sq1, .int .i64 t1, .int .i64 nn1, .int .i64 s1, .int .i64 qq1, .int .i64 lo1, .int .i64 hi1]]) (by simp [results, Try.results75, go_sem, r0, r1, r2, r3, r4, r5, r6, y0, y1, y2, y3, y4, y5, y6]) rfl ⟨rfl, HW.out⟩
theorem list_two' {X : List Mrk} (h : 1 < X.length) : ∃ T, X = X.getD 0 mk0 :: X.getD 1 mk0 :: T := by
  match X, h with
  | a :: b :: T, _ => exact ⟨T, rfl⟩
theorem mends_up (g v q c now seq : Int) (n k : Nat) (A : Option Addr) (X : List Mrk) (hn : n ≤ 50000) (h1 : n = 1 → liveB now v (X.getD 0 mk0).t = true) (hX : ∀ j, j < n → bdM (X.getD j mk0)) (w : World) (hS : SG cM w A n X) :
    Calls Try.prog 75 #[.agg #[.int .i64 g, .int .i64 v, .int .i64 q, .int .i64 c, .int .i64 now, .int .i64 seq, .slice A n k]] w fun e w' => e = .returned (.tuple #[mg (enM now v X).1, mg (enM now v X).2]) ∧ Up w w' := by
  by_cases h0 : n = 0
  · subst h0
    have e : X = [] := List.eq_nil_of_length_eq_zero hS.1
    subst e
    exact mends_none g v q c now seq k A w
  by_cases hn1 : n = 1
  · have e := list_one (R := X) (by rw [hS.1]; exact hn1)
    rw [show enM now v X = (X.getD 0 mk0, X.getD 0 mk0) by conv => lhs; rw [e]
                                                           rfl]
    exact mends_first g v q c now seq n k A X hn (by omega) (h1 hn1) w hS
  obtain ⟨T, e⟩ := list_two' (X := X) (by rw [hS.1]; omega)
  have ee : enM now v X = if liveB now v (X.getD 0 mk0).t = true then (X.getD 0 mk0, X.getD 0 mk0) else if (X.getD 1 mk0).sq = (X.getD 0 mk0).sq + 1 then (X.getD 1 mk0, X.getD 1 mk0) else (X.getD 1 mk0, X.getD 0 mk0) := by
    conv => lhs; rw [e]
    rfl
  cases hl : liveB now v (X.getD 0 mk0).t with
  | true =>
    rw [ee, if_pos hl]
    exact mends_first g v q c now seq n k A X hn (by omega) hl w hS
  | false =>
    rw [ee, if_neg (by rw [hl]; exact Bool.false_ne_true)]
    by_cases hq : (X.getD 1 mk0).sq = (X.getD 0 mk0).sq + 1
    · rw [if_pos hq]
      exact mends_second g v q c now seq n k A X hn (by omega) hl (hX 0 (by omega)) hq w hS
    · rw [if_neg hq]
      exact mends_both g v q c now seq n k A X hn (by omega) hl (hX 0 (by omega)) hq w hS
end Go.Proofs.Ytafkoddgefcpnaa
