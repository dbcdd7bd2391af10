/- Texts of these claims, one after the other. -/
import Derived.Test.YtafkoddgefcpnaaRows
import Derived.Test.YtafkoddgefcpnaaZBWholeq242
import Derived.Test.YtafkoddgefcpnaaZHNumq244
import Derived.Test.YtafkoddgefcpnaaZKAskq245
import Derived.Test.YtafkoddgefcpnaaZKRVdq198
namespace Go.Proofs.Ytafkoddgefcpnaa
open Go.RowKit
set_option linter.unusedVariables false

theorem bV_self (n : Int) : bV n n = .agg #[.int .i64 n, .int .i64 1, .int .i64 n, .int .i64 1, .int .i64 n, .int .i64 1] := by
  unfold bV mid
  rw [decide_eq_true (Int.le_refl n), show (n + n) / 2 = n by omega]
  rfl
theorem list_one' {X : List Mrk} (h : 0 < X.length) : ∃ T, X = X.getD 0 mk0 :: T := by
  match X, h with
  | a :: T, _ => exact ⟨T, rfl⟩
set_option maxHeartbeats 4000000 in
set_option maxRecDepth 100000 in
theorem rask13_bad (g v q c now seq : Int) (n k : Nat) (A : Option Addr) (X : List Mrk) (hn : n ≤ 50000) (hv : stM g v q c now seq X = false) (w : World) (hS : SG cM w A n X) :
    Calls Try.prog 29 #[.agg #[.int .i64 g, .int .i64 v, .int .i64 q, .int .i64 c, .int .i64 now, .int .i64 seq, .slice A n k]] w fun e w' => e = .returned (.tuple #[.agg #[.int .i64 0, .int .i64 0, .int .i64 0, .int .i64 0, .int .i64 0, .int .i64 0], .int .i64 2]) ∧ Up w w' := by
  have KV := Lib.hid (fun W (h : SG cM W A n X) => rvalidate13_up g v q c now seq n k A X hn W h)
  rw [stME_no hv] at KV
  have HS := Lib.hid hS
  clear hS hv
  go_enter Try.func29, Try.ntmps29
  go_wp2_with (go_at_call 23; (with_reducible refine (KV.out _ (HS.out.up (((Up.refl w).alloc _ _).alloc _ _))).mono ?_); rintro e w1 ⟨rfl, hu⟩; have HW := Lib.hid ((((Up.refl w).alloc #[.int .i64 g, .int .i64 v, .int .i64 q, .int .i64 c, .int .i64 now, .int .i64 seq, .slice A n k] 26).alloc #[.int .i64 0, .int .i64 0, .int .i64 0, .int .i64 0, .int .i64 0, .int .i64 0] 42).trans hu); have a0 := hu.keep (w.heap.size) 0 (.int .i64 g) (by simp [go_sem]); have a1 := hu.keep (w.heap.size) 1 (.int .i64 v) (by simp [go_sem]); have a2 := hu.keep (w.heap.size) 2 (.int .i64 q) (by simp [go_sem]); have a3 := hu.keep (w.heap.size) 3 (.int .i64 c) (by simp [go_sem]); have a4 := hu.keep (w.heap.size) 4 (.int .i64 now) (by simp [go_sem]); have a5 := hu.keep (w.heap.size) 5 (.int .i64 seq) (by simp [go_sem]); have a6 := hu.keep (w.heap.size) 6 (.slice A n k) (by simp [go_sem]); have r0 := hu.keep (w.heap.size + 1) 0 (.int .i64 0) (by simp [go_sem]); have r1 := hu.keep (w.heap.size + 1) 1 (.int .i64 0) (by simp [go_sem]); have r2 := hu.keep (w.heap.size + 1) 2 (.int .i64 0) (by simp [go_sem]); have r3 := hu.keep (w.heap.size + 1) 3 (.int .i64 0) (by simp [go_sem]); have r4 := hu.keep (w.heap.size + 1) 4 (.int .i64 0) (by simp [go_sem]); have r5 := hu.keep (w.heap.size + 1) 5 (.int .i64 0) (by simp [go_sem]); have z0 := HW.out.ownGe (g := w.heap.size + 1) (by omega) 0; have z1 := HW.out.ownGe (g := w.heap.size + 1) (by omega) 1; have z2 := HW.out.ownGe (g := w.heap.size + 1) (by omega) 2; have z3 := HW.out.ownGe (g := w.heap.size + 1) (by omega) 3; have z4 := HW.out.ownGe (g := w.heap.size + 1) (by omega) 4; have z5 := HW.out.ownGe (g := w.heap.size + 1) (by omega) 5; clear hu)
  refine bodyPost_ret (v := .tuple #[.agg #[.int .i64 0, .int .i64 0, .int .i64 0, .int .i64 0, .int .i64 0, .int .i64 0], .int .i64 2]) (by simp [results, Try.results29, go_sem, r0, r1, r2, r3, r4, r5]) rfl ⟨rfl, ?_⟩
  exact HW.out.set6 (by omega)

set_option maxHeartbeats 4000000 in
set_option maxRecDepth 100000 in
theorem rask13_none (g v q c now seq : Int) (n k : Nat) (A : Option Addr) (X : List Mrk) (hn : n ≤ 50000) (hv : stM g v q c now seq X = true) (h0 : n = 0) (w : World) (hS : SG cM w A n X) :
    Calls Try.prog 29 #[.agg #[.int .i64 g, .int .i64 v, .int .i64 q, .int .i64 c, .int .i64 now, .int .i64 seq, .slice A n k]] w fun e w' => e = .returned (.tuple #[.agg #[.int .i64 0, .int .i64 1, .int .i64 0, .int .i64 1, .int .i64 0, .int .i64 1], .int .i64 0]) ∧ Up w w' := by
  have KV := Lib.hid (fun W (h : SG cM W A n X) => rvalidate13_up g v q c now seq n k A X hn W h)
  rw [stME_yes hv] at KV
  have HS := Lib.hid hS
  have KE := Lib.hid (whole8_up 0 ⟨by omega, by omega⟩)
  clear hS hv
  subst h0
  go_enter Try.func29, Try.ntmps29
  go_wp2_with (first | (go_at_call 77; (with_reducible refine (KE.out _).mono ?_); rintro e w9 ⟨rfl, hu⟩; have HW := Lib.hid (HW.out.trans hu); have r0 := hu.keep _ _ _ r0; have r1 := hu.keep _ _ _ r1; have r2 := hu.keep _ _ _ r2; have r3 := hu.keep _ _ _ r3; have r4 := hu.keep _ _ _ r4; have r5 := hu.keep _ _ _ r5; have z0 := HW.out.ownGe (g := w.heap.size + 1) (by omega) 0; have z1 := HW.out.ownGe (g := w.heap.size + 1) (by omega) 1; have z2 := HW.out.ownGe (g := w.heap.size + 1) (by omega) 2; have z3 := HW.out.ownGe (g := w.heap.size + 1) (by omega) 3; have z4 := HW.out.ownGe (g := w.heap.size + 1) (by omega) 4; have z5 := HW.out.ownGe (g := w.heap.size + 1) (by omega) 5; clear hu) | (go_at_call 23; (with_reducible refine (KV.out _ (HS.out.up (((Up.refl w).alloc _ _).alloc _ _))).mono ?_); rintro e w1 ⟨rfl, hu⟩; have HW := Lib.hid ((((Up.refl w).alloc #[.int .i64 g, .int .i64 v, .int .i64 q, .int .i64 c, .int .i64 now, .int .i64 seq, .slice A 0 k] 26).alloc #[.int .i64 0, .int .i64 0, .int .i64 0, .int .i64 0, .int .i64 0, .int .i64 0] 42).trans hu); have a0 := hu.keep (w.heap.size) 0 (.int .i64 g) (by simp [go_sem]); have a1 := hu.keep (w.heap.size) 1 (.int .i64 v) (by simp [go_sem]); have a2 := hu.keep (w.heap.size) 2 (.int .i64 q) (by simp [go_sem]); have a3 := hu.keep (w.heap.size) 3 (.int .i64 c) (by simp [go_sem]); have a4 := hu.keep (w.heap.size) 4 (.int .i64 now) (by simp [go_sem]); have a5 := hu.keep (w.heap.size) 5 (.int .i64 seq) (by simp [go_sem]); have a6 := hu.keep (w.heap.size) 6 (.slice A 0 k) (by simp [go_sem]); have r0 := hu.keep (w.heap.size + 1) 0 (.int .i64 0) (by simp [go_sem]); have r1 := hu.keep (w.heap.size + 1) 1 (.int .i64 0) (by simp [go_sem]); have r2 := hu.keep (w.heap.size + 1) 2 (.int .i64 0) (by simp [go_sem]); have r3 := hu.keep (w.heap.size + 1) 3 (.int .i64 0) (by simp [go_sem]); have r4 := hu.keep (w.heap.size + 1) 4 (.int .i64 0) (by simp [go_sem]); have r5 := hu.keep (w.heap.size + 1) 5 (.int .i64 0) (by simp [go_sem]); have z0 := HW.out.ownGe (g := w.heap.size + 1) (by omega) 0; have z1 := HW.out.ownGe (g := w.heap.size + 1) (by omega) 1; have z2 := HW.out.ownGe (g := w.heap.size + 1) (by omega) 2; have z3 := HW.out.ownGe (g := w.heap.size + 1) (by omega) 3; have z4 := HW.out.ownGe (g := w.heap.size + 1) (by omega) 4; have z5 := HW.out.ownGe (g := w.heap.size + 1) (by omega) 5; clear hu))
  refine bodyPost_ret (v := .tuple #[.agg #[.int .i64 0, .int .i64 1, .int .i64 0, .int .i64 1, .int .i64 0, .int .i64 1], .int .i64 0]) (by simp [results, Try.results29, go_sem, r0, r1, r2, r3, r4, r5]) rfl ⟨rfl, ?_⟩
  exact HW.out.set6 (by omega)

set_option maxHeartbeats 4000000 in
set_option maxRecDepth 100000 in
theorem rask13_first (g v q c now seq : Int) (n k : Nat) (A : Option Addr) (X : List Mrk) (hn : n ≤ 50000) (hv : stM g v q c now seq X = true) (h0 : 0 < n) (hl : liveB now v (X.getD 0 mk0).t = true) (w : World) (hS : SG cM w A n X) :
    Calls Try.prog 29 #[.agg #[.int .i64 g, .int .i64 v, .int .i64 q, .int .i64 c, .int .i64 now, .int .i64 seq, .slice A n k]] w fun e w' => e = .returned (.tuple #[.agg #[.int .i64 (ofZ g (X.getD 0 mk0)), .int .i64 1, .int .i64 (ofZ g (X.getD 0 mk0)), .int .i64 1, .int .i64 (ofZ g (X.getD 0 mk0)), .int .i64 1], .int .i64 0]) ∧ Up w w' := by
  have KV := Lib.hid (fun W (h : SG cM W A n X) => rvalidate13_up g v q c now seq n k A X hn W h)
  rw [stME_yes hv] at KV
  have HS := Lib.hid hS
  have HBd : Hid (∀ j, j < n → bdM (X.getD j mk0)) := Lib.hid (by
    obtain ⟨hm, hx, _⟩ := stM_true hv
    obtain ⟨g1, g2, hc, g4⟩ := mayC_facts (mayM_true hm).2
    obtain ⟨hs2, hok⟩ := mrkB_true hx
    exact fun j hj => (hok j (by rw [hS.1]; exact hj)).bd hc.2 hs2.2)
  clear hS hv
  obtain ⟨b, o, rfl, _⟩ := mrk_at HS.out mk0 h0
  have HD0 := Lib.hid (fun W (h : Up w W) => mrk_prev (HS.out.up h) h0)
  simp only [Nat.zero_mul, Nat.add_zero] at HD0
  have B1 := Lib.hid (HBd.out 0 h0)
  have f20 : (0 : Int) < n := by omega
  clear HBd
  generalize X.getD 0 mk0 = Ma at *
  obtain ⟨sq1, t1, nn1, s1, qq1, lo1, hi1⟩ := Ma
  simp only at HD0 hl
  have K1 := Lib.hid (rof13_up g sq1 t1 nn1 s1 qq1 lo1 hi1 (bdM_of (g := g) B1.out).2.1 (bdM_of (g := g) B1.out).2.2)
  have hI1 := ofZ_in (g := g) B1.out
  have KE := Lib.hid (whole8_up (ofZ g ⟨sq1, t1, nn1, s1, qq1, lo1, hi1⟩) hI1)
  clear hI1
  generalize ofZ g ⟨sq1, t1, nn1, s1, qq1, lo1, hi1⟩ = y1 at *
  have KL := Lib.hid (rlive_any now v t1)
  rw [hl] at KL
  clear hl B1
  go_enter Try.func29, Try.ntmps29
  go_upto_region 6 with (go_at_call 23; (with_reducible refine (KV.out _ (HS.out.up (((Up.refl w).alloc _ _).alloc _ _))).mono ?_); rintro e w1 ⟨rfl, hu⟩; have HW := Lib.hid ((((Up.refl w).alloc #[.int .i64 g, .int .i64 v, .int .i64 q, .int .i64 c, .int .i64 now, .int .i64 seq, .slice (some ⟨b, o, none⟩) n k] 26).alloc #[.int .i64 0, .int .i64 0, .int .i64 0, .int .i64 0, .int .i64 0, .int .i64 0] 42).trans hu); have a0 := hu.keep (w.heap.size) 0 (.int .i64 g) (by simp [go_sem]); have a1 := hu.keep (w.heap.size) 1 (.int .i64 v) (by simp [go_sem]); have a2 := hu.keep (w.heap.size) 2 (.int .i64 q) (by simp [go_sem]); have a3 := hu.keep (w.heap.size) 3 (.int .i64 c) (by simp [go_sem]); have a4 := hu.keep (w.heap.size) 4 (.int .i64 now) (by simp [go_sem]); have a5 := hu.keep (w.heap.size) 5 (.int .i64 seq) (by simp [go_sem]); have a6 := hu.keep (w.heap.size) 6 (.slice (some ⟨b, o, none⟩) n k) (by simp [go_sem]); have r0 := hu.keep (w.heap.size + 1) 0 (.int .i64 0) (by simp [go_sem]); have r1 := hu.keep (w.heap.size + 1) 1 (.int .i64 0) (by simp [go_sem]); have r2 := hu.keep (w.heap.size + 1) 2 (.int .i64 0) (by simp [go_sem]); have r3 := hu.keep (w.heap.size + 1) 3 (.int .i64 0) (by simp [go_sem]); have r4 := hu.keep (w.heap.size + 1) 4 (.int .i64 0) (by simp [go_sem]); have r5 := hu.keep (w.heap.size + 1) 5 (.int .i64 0) (by simp [go_sem]); have z0 := HW.out.ownGe (g := w.heap.size + 1) (by omega) 0; have z1 := HW.out.ownGe (g := w.heap.size + 1) (by omega) 1; have z2 := HW.out.ownGe (g := w.heap.size + 1) (by omega) 2; have z3 := HW.out.ownGe (g := w.heap.size + 1) (by omega) 3; have z4 := HW.out.ownGe (g := w.heap.size + 1) (by omega) 4; have z5 := HW.out.ownGe (g := w.heap.size + 1) (by omega) 5; clear hu)
  obtain ⟨d0, d1, d2, d3, d4, d5, d6⟩ := HD0.out _ HW.out
  go_upto_region 7 with fail
  refine (show ∀ W2 : World, W2 = _ → Code.wp _ _ _ _ W2 from fun W2 hW2 => ?_) _ rfl
  have a0 : W2.cell? ⟨w.heap.size, 0, none⟩ = some (.int .i64 g) := by rw [hW2]; exact ((Up.refl _).alloc _ _).keep _ _ _ a0
  have a1 : W2.cell? ⟨w.heap.size, 1, none⟩ = some (.int .i64 v) := by rw [hW2]; exact ((Up.refl _).alloc _ _).keep _ _ _ a1
  have a2 : W2.cell? ⟨w.heap.size, 2, none⟩ = some (.int .i64 q) := by rw [hW2]; exact ((Up.refl _).alloc _ _).keep _ _ _ a2
  have a3 : W2.cell? ⟨w.heap.size, 3, none⟩ = some (.int .i64 c) := by rw [hW2]; exact ((Up.refl _).alloc _ _).keep _ _ _ a3
  have a4 : W2.cell? ⟨w.heap.size, 4, none⟩ = some (.int .i64 now) := by rw [hW2]; exact ((Up.refl _).alloc _ _).keep _ _ _ a4
  have a5 : W2.cell? ⟨w.heap.size, 5, none⟩ = some (.int .i64 seq) := by rw [hW2]; exact ((Up.refl _).alloc _ _).keep _ _ _ a5
  have a6 : W2.cell? ⟨w.heap.size, 6, none⟩ = some (.slice (some ⟨b, o, none⟩) n k) := by rw [hW2]; exact ((Up.refl _).alloc _ _).keep _ _ _ a6
  have r0 : W2.cell? ⟨w.heap.size + 1, 0, none⟩ = some (.int .i64 0) := by rw [hW2]; exact ((Up.refl _).alloc _ _).keep _ _ _ r0
  have r1 : W2.cell? ⟨w.heap.size + 1, 1, none⟩ = some (.int .i64 0) := by rw [hW2]; exact ((Up.refl _).alloc _ _).keep _ _ _ r1
  have r2 : W2.cell? ⟨w.heap.size + 1, 2, none⟩ = some (.int .i64 0) := by rw [hW2]; exact ((Up.refl _).alloc _ _).keep _ _ _ r2
  have r3 : W2.cell? ⟨w.heap.size + 1, 3, none⟩ = some (.int .i64 0) := by rw [hW2]; exact ((Up.refl _).alloc _ _).keep _ _ _ r3
  have r4 : W2.cell? ⟨w.heap.size + 1, 4, none⟩ = some (.int .i64 0) := by rw [hW2]; exact ((Up.refl _).alloc _ _).keep _ _ _ r4
  have r5 : W2.cell? ⟨w.heap.size + 1, 5, none⟩ = some (.int .i64 0) := by rw [hW2]; exact ((Up.refl _).alloc _ _).keep _ _ _ r5
  have m0 : W2.cell? ⟨w1.heap.size, 0, none⟩ = some (.int .i64 sq1) := by rw [hW2]; simp [go_sem]
  have m1 : W2.cell? ⟨w1.heap.size, 1, none⟩ = some (.int .i64 t1) := by rw [hW2]; simp [go_sem]
  have m2 : W2.cell? ⟨w1.heap.size, 2, none⟩ = some (.int .i64 nn1) := by rw [hW2]; simp [go_sem]
  have m3 : W2.cell? ⟨w1.heap.size, 3, none⟩ = some (.int .i64 s1) := by rw [hW2]; simp [go_sem]
  have m4 : W2.cell? ⟨w1.heap.size, 4, none⟩ = some (.int .i64 qq1) := by rw [hW2]; simp [go_sem]
  have m5 : W2.cell? ⟨w1.heap.size, 5, none⟩ = some (.int .i64 lo1) := by rw [hW2]; simp [go_sem]
  have m6 : W2.cell? ⟨w1.heap.size, 6, none⟩ = some (.int .i64 hi1) := by rw [hW2]; simp [go_sem]
  have HW : Hid (Up w W2) := Lib.hid (by rw [hW2]; exact HW.out.alloc _ _)
  have hp1 := World.block_lt_of_cell? _ _ m0
  have z0 := HW.out.ownGe (g := w.heap.size + 1) (by omega) 0
  have z1 := HW.out.ownGe (g := w.heap.size + 1) (by omega) 1
  have z2 := HW.out.ownGe (g := w.heap.size + 1) (by omega) 2
  have z3 := HW.out.ownGe (g := w.heap.size + 1) (by omega) 3
  have z4 := HW.out.ownGe (g := w.heap.size + 1) (by omega) 4
  have z5 := HW.out.ownGe (g := w.heap.size + 1) (by omega) 5
  clear hW2 d0 d1 d2 d3 d4 d5 d6
  generalize w1.heap.size = p1 at *
  go_wp2_with (first | (go_at_call 78; (with_reducible refine (KL.out _).mono ?_); rintro e w' ⟨rfl, rfl⟩) | (go_at_call 17; (with_reducible refine (K1.out _).mono ?_); rintro e w4 ⟨rfl, hu⟩; have HW := Lib.hid (HW.out.trans hu); have r0 := hu.keep _ _ _ r0; have r1 := hu.keep _ _ _ r1; have r2 := hu.keep _ _ _ r2; have r3 := hu.keep _ _ _ r3; have r4 := hu.keep _ _ _ r4; have r5 := hu.keep _ _ _ r5; have z0 := HW.out.ownGe (g := w.heap.size + 1) (by omega) 0; have z1 := HW.out.ownGe (g := w.heap.size + 1) (by omega) 1; have z2 := HW.out.ownGe (g := w.heap.size + 1) (by omega) 2; have z3 := HW.out.ownGe (g := w.heap.size + 1) (by omega) 3; have z4 := HW.out.ownGe (g := w.heap.size + 1) (by omega) 4; have z5 := HW.out.ownGe (g := w.heap.size + 1) (by omega) 5; clear hu) | (go_at_call 77; (with_reducible refine (KE.out _).mono ?_); rintro e w9 ⟨rfl, hu⟩; have HW := Lib.hid (HW.out.trans hu); have r0 := hu.keep _ _ _ r0; have r1 := hu.keep _ _ _ r1; have r2 := hu.keep _ _ _ r2; have r3 := hu.keep _ _ _ r3; have r4 := hu.keep _ _ _ r4; have r5 := hu.keep _ _ _ r5; have z0 := HW.out.ownGe (g := w.heap.size + 1) (by omega) 0; have z1 := HW.out.ownGe (g := w.heap.size + 1) (by omega) 1; have z2 := HW.out.ownGe (g := w.heap.size + 1) (by omega) 2; have z3 := HW.out.ownGe (g := w.heap.size + 1) (by omega) 3; have z4 := HW.out.ownGe (g := w.heap.size + 1) (by omega) 4; have z5 := HW.out.ownGe (g := w.heap.size + 1) (by omega) 5; clear hu))
  refine bodyPost_ret (v := .tuple #[.agg #[.int .i64 y1, .int .i64 1, .int .i64 y1, .int .i64 1, .int .i64 y1, .int .i64 1], .int .i64 0]) (by simp [results, Try.results29, go_sem, r0, r1, r2, r3, r4, r5]) rfl ⟨rfl, ?_⟩
  exact HW.out.set6 (by omega)

set_option maxHeartbeats 4000000 in
set_option maxRecDepth 100000 in
theorem rask13_second (g v q c now seq : Int) (n k : Nat) (A : Option Addr) (X : List Mrk) (hn : n ≤ 50000) (hv : stM g v q c now seq X = true) (h1 : 1 < n) (hl : liveB now v (X.getD 0 mk0).t = false) (hq : (X.getD 1 mk0).sq = (X.getD 0 mk0).sq + 1) (w : World) (hS : SG cM w A n X) :
    Calls Try.prog 29 #[.agg #[.int .i64 g, .int .i64 v, .int .i64 q, .int .i64 c, .int .i64 now, .int .i64 seq, .slice A n k]] w fun e w' => e = .returned (.tuple #[.agg #[.int .i64 (ofZ g (X.getD 1 mk0)), .int .i64 1, .int .i64 (ofZ g (X.getD 1 mk0)), .int .i64 1, .int .i64 (ofZ g (X.getD 1 mk0)), .int .i64 1], .int .i64 0]) ∧ Up w w' := by
  have KV := Lib.hid (fun W (h : SG cM W A n X) => rvalidate13_up g v q c now seq n k A X hn W h)
  rw [stME_yes hv] at KV
  have HS := Lib.hid hS
  have HBd : Hid (∀ j, j < n → bdM (X.getD j mk0)) := Lib.hid (by
    obtain ⟨hm, hx, _⟩ := stM_true hv
    obtain ⟨g1, g2, hc, g4⟩ := mayC_facts (mayM_true hm).2
    obtain ⟨hs2, hok⟩ := mrkB_true hx
    exact fun j hj => (hok j (by rw [hS.1]; exact hj)).bd hc.2 hs2.2)
  clear hS hv
  have h0 : 0 < n := by omega
  obtain ⟨b, o, rfl, _⟩ := mrk_at HS.out mk0 h0
  have HD0 := Lib.hid (fun W (h : Up w W) => mrk_prev (HS.out.up h) h0)
  simp only [Nat.zero_mul, Nat.add_zero] at HD0
  have B1 := Lib.hid (HBd.out 0 h0)
  have f20 : (0 : Int) < n := by omega
  have HD1 := Lib.hid (fun W (h : Up w W) => mrk_prev (HS.out.up h) h1)
  simp only [Nat.one_mul] at HD1
  have B2 := Lib.hid (HBd.out 1 h1)
  have f21 : (1 : Int) < n := by omega
  clear HBd
  generalize X.getD 1 mk0 = Mb at *
  generalize X.getD 0 mk0 = Ma at *
  obtain ⟨sq1, t1, nn1, s1, qq1, lo1, hi1⟩ := Ma
  obtain ⟨sq2, t2, nn2, s2, qq2, lo2, hi2⟩ := Mb
  simp only at HD0 HD1 hl hq
  have u1 := B1.out.2.2.2.2.2
  simp only at u1
  have w1_ : IntKind.i64.wrap (sq1 + 1) = sq1 + 1 := by rw [IntKind.wrap_i64]; omega
  clear u1
  subst hq
  have K2 := Lib.hid (rof13_up g (sq1 + 1) t2 nn2 s2 qq2 lo2 hi2 (bdM_of (g := g) B2.out).2.1 (bdM_of (g := g) B2.out).2.2)
  have hI2 := ofZ_in (g := g) B2.out
  have KE := Lib.hid (whole8_up (ofZ g ⟨(sq1 + 1), t2, nn2, s2, qq2, lo2, hi2⟩) hI2)
  clear hI2
  generalize ofZ g ⟨(sq1 + 1), t2, nn2, s2, qq2, lo2, hi2⟩ = y2 at *
  have KL := Lib.hid (rlive_any now v t1)
  rw [hl] at KL
  clear hl B1 B2
  go_enter Try.func29, Try.ntmps29
  go_upto_region 6 with (go_at_call 23; (with_reducible refine (KV.out _ (HS.out.up (((Up.refl w).alloc _ _).alloc _ _))).mono ?_); rintro e w1 ⟨rfl, hu⟩; have HW := Lib.hid ((((Up.refl w).alloc #[.int .i64 g, .int .i64 v, .int .i64 q, .int .i64 c, .int .i64 now, .int .i64 seq, .slice (some ⟨b, o, none⟩) n k] 26).alloc #[.int .i64 0, .int .i64 0, .int .i64 0, .int .i64 0, .int .i64 0, .int .i64 0] 42).trans hu); have a0 := hu.keep (w.heap.size) 0 (.int .i64 g) (by simp [go_sem]); have a1 := hu.keep (w.heap.size) 1 (.int .i64 v) (by simp [go_sem]); have a2 := hu.keep (w.heap.size) 2 (.int .i64 q) (by simp [go_sem]); have a3 := hu.keep (w.heap.size) 3 (.int .i64 c) (by simp [go_sem]); have a4 := hu.keep (w.heap.size) 4 (.int .i64 now) (by simp [go_sem]); have a5 := hu.keep (w.heap.size) 5 (.int .i64 seq) (by simp [go_sem]); have a6 := hu.keep (w.heap.size) 6 (.slice (some ⟨b, o, none⟩) n k) (by simp [go_sem]); have r0 := hu.keep (w.heap.size + 1) 0 (.int .i64 0) (by simp [go_sem]); have r1 := hu.keep (w.heap.size + 1) 1 (.int .i64 0) (by simp [go_sem]); have r2 := hu.keep (w.heap.size + 1) 2 (.int .i64 0) (by simp [go_sem]); have r3 := hu.keep (w.heap.size + 1) 3 (.int .i64 0) (by simp [go_sem]); have r4 := hu.keep (w.heap.size + 1) 4 (.int .i64 0) (by simp [go_sem]); have r5 := hu.keep (w.heap.size + 1) 5 (.int .i64 0) (by simp [go_sem]); have z0 := HW.out.ownGe (g := w.heap.size + 1) (by omega) 0; have z1 := HW.out.ownGe (g := w.heap.size + 1) (by omega) 1; have z2 := HW.out.ownGe (g := w.heap.size + 1) (by omega) 2; have z3 := HW.out.ownGe (g := w.heap.size + 1) (by omega) 3; have z4 := HW.out.ownGe (g := w.heap.size + 1) (by omega) 4; have z5 := HW.out.ownGe (g := w.heap.size + 1) (by omega) 5; clear hu)
  obtain ⟨d0, d1, d2, d3, d4, d5, d6⟩ := HD0.out _ HW.out
  go_upto_region 7 with fail
  refine (show ∀ W2 : World, W2 = _ → Code.wp _ _ _ _ W2 from fun W2 hW2 => ?_) _ rfl
  have a0 : W2.cell? ⟨w.heap.size, 0, none⟩ = some (.int .i64 g) := by rw [hW2]; exact ((Up.refl _).alloc _ _).keep _ _ _ a0
  have a1 : W2.cell? ⟨w.heap.size, 1, none⟩ = some (.int .i64 v) := by rw [hW2]; exact ((Up.refl _).alloc _ _).keep _ _ _ a1
  have a2 : W2.cell? ⟨w.heap.size, 2, none⟩ = some (.int .i64 q) := by rw [hW2]; exact ((Up.refl _).alloc _ _).keep _ _ _ a2
  have a3 : W2.cell? ⟨w.heap.size, 3, none⟩ = some (.int .i64 c) := by rw [hW2]; exact ((Up.refl _).alloc _ _).keep _ _ _ a3
  have a4 : W2.cell? ⟨w.heap.size, 4, none⟩ = some (.int .i64 now) := by rw [hW2]; exact ((Up.refl _).alloc _ _).keep _ _ _ a4
  have a5 : W2.cell? ⟨w.heap.size, 5, none⟩ = some (.int .i64 seq) := by rw [hW2]; exact ((Up.refl _).alloc _ _).keep _ _ _ a5
  have a6 : W2.cell? ⟨w.heap.size, 6, none⟩ = some (.slice (some ⟨b, o, none⟩) n k) := by rw [hW2]; exact ((Up.refl _).alloc _ _).keep _ _ _ a6
  have r0 : W2.cell? ⟨w.heap.size + 1, 0, none⟩ = some (.int .i64 0) := by rw [hW2]; exact ((Up.refl _).alloc _ _).keep _ _ _ r0
  have r1 : W2.cell? ⟨w.heap.size + 1, 1, none⟩ = some (.int .i64 0) := by rw [hW2]; exact ((Up.refl _).alloc _ _).keep _ _ _ r1
  have r2 : W2.cell? ⟨w.heap.size + 1, 2, none⟩ = some (.int .i64 0) := by rw [hW2]; exact ((Up.refl _).alloc _ _).keep _ _ _ r2
  have r3 : W2.cell? ⟨w.heap.size + 1, 3, none⟩ = some (.int .i64 0) := by rw [hW2]; exact ((Up.refl _).alloc _ _).keep _ _ _ r3
  have r4 : W2.cell? ⟨w.heap.size + 1, 4, none⟩ = some (.int .i64 0) := by rw [hW2]; exact ((Up.refl _).alloc _ _).keep _ _ _ r4
  have r5 : W2.cell? ⟨w.heap.size + 1, 5, none⟩ = some (.int .i64 0) := by rw [hW2]; exact ((Up.refl _).alloc _ _).keep _ _ _ r5
  have m0 : W2.cell? ⟨w1.heap.size, 0, none⟩ = some (.int .i64 sq1) := by rw [hW2]; simp [go_sem]
  have m1 : W2.cell? ⟨w1.heap.size, 1, none⟩ = some (.int .i64 t1) := by rw [hW2]; simp [go_sem]
  have m2 : W2.cell? ⟨w1.heap.size, 2, none⟩ = some (.int .i64 nn1) := by rw [hW2]; simp [go_sem]
  have m3 : W2.cell? ⟨w1.heap.size, 3, none⟩ = some (.int .i64 s1) := by rw [hW2]; simp [go_sem]
  have m4 : W2.cell? ⟨w1.heap.size, 4, none⟩ = some (.int .i64 qq1) := by rw [hW2]; simp [go_sem]
  have m5 : W2.cell? ⟨w1.heap.size, 5, none⟩ = some (.int .i64 lo1) := by rw [hW2]; simp [go_sem]
  have m6 : W2.cell? ⟨w1.heap.size, 6, none⟩ = some (.int .i64 hi1) := by rw [hW2]; simp [go_sem]
  have HW : Hid (Up w W2) := Lib.hid (by rw [hW2]; exact HW.out.alloc _ _)
  have hp1 := World.block_lt_of_cell? _ _ m0
  have z0 := HW.out.ownGe (g := w.heap.size + 1) (by omega) 0
  have z1 := HW.out.ownGe (g := w.heap.size + 1) (by omega) 1
  have z2 := HW.out.ownGe (g := w.heap.size + 1) (by omega) 2
  have z3 := HW.out.ownGe (g := w.heap.size + 1) (by omega) 3
  have z4 := HW.out.ownGe (g := w.heap.size + 1) (by omega) 4
  have z5 := HW.out.ownGe (g := w.heap.size + 1) (by omega) 5
  clear hW2 d0 d1 d2 d3 d4 d5 d6
  generalize w1.heap.size = p1 at *
  obtain ⟨d0, d1, d2, d3, d4, d5, d6⟩ := HD1.out _ HW.out
  go_upto_region 10 with (go_at_call 78; (with_reducible refine (KL.out _).mono ?_); rintro e w' ⟨rfl, rfl⟩)
  refine (show ∀ W5 : World, W5 = _ → Code.wp _ _ _ _ W5 from fun W5 hW5 => ?_) _ rfl
  have a0 : W5.cell? ⟨w.heap.size, 0, none⟩ = some (.int .i64 g) := by rw [hW5]; exact ((Up.refl _).alloc _ _).keep _ _ _ a0
  have r0 : W5.cell? ⟨w.heap.size + 1, 0, none⟩ = some (.int .i64 0) := by rw [hW5]; exact ((Up.refl _).alloc _ _).keep _ _ _ r0
  have r1 : W5.cell? ⟨w.heap.size + 1, 1, none⟩ = some (.int .i64 0) := by rw [hW5]; exact ((Up.refl _).alloc _ _).keep _ _ _ r1
  have r2 : W5.cell? ⟨w.heap.size + 1, 2, none⟩ = some (.int .i64 0) := by rw [hW5]; exact ((Up.refl _).alloc _ _).keep _ _ _ r2
  have r3 : W5.cell? ⟨w.heap.size + 1, 3, none⟩ = some (.int .i64 0) := by rw [hW5]; exact ((Up.refl _).alloc _ _).keep _ _ _ r3
  have r4 : W5.cell? ⟨w.heap.size + 1, 4, none⟩ = some (.int .i64 0) := by rw [hW5]; exact ((Up.refl _).alloc _ _).keep _ _ _ r4
  have r5 : W5.cell? ⟨w.heap.size + 1, 5, none⟩ = some (.int .i64 0) := by rw [hW5]; exact ((Up.refl _).alloc _ _).keep _ _ _ r5
  have m0 : W5.cell? ⟨p1, 0, none⟩ = some (.int .i64 sq1) := by rw [hW5]; exact ((Up.refl _).alloc _ _).keep _ _ _ m0
  have m1 : W5.cell? ⟨p1, 1, none⟩ = some (.int .i64 t1) := by rw [hW5]; exact ((Up.refl _).alloc _ _).keep _ _ _ m1
  have m2 : W5.cell? ⟨p1, 2, none⟩ = some (.int .i64 nn1) := by rw [hW5]; exact ((Up.refl _).alloc _ _).keep _ _ _ m2
  have m3 : W5.cell? ⟨p1, 3, none⟩ = some (.int .i64 s1) := by rw [hW5]; exact ((Up.refl _).alloc _ _).keep _ _ _ m3
  have m4 : W5.cell? ⟨p1, 4, none⟩ = some (.int .i64 qq1) := by rw [hW5]; exact ((Up.refl _).alloc _ _).keep _ _ _ m4
  have m5 : W5.cell? ⟨p1, 5, none⟩ = some (.int .i64 lo1) := by rw [hW5]; exact ((Up.refl _).alloc _ _).keep _ _ _ m5
  have m6 : W5.cell? ⟨p1, 6, none⟩ = some (.int .i64 hi1) := by rw [hW5]; exact ((Up.refl _).alloc _ _).keep _ _ _ m6
  have e0 : W5.cell? ⟨W2.heap.size, 0, none⟩ = some (.int .i64 (sq1 + 1)) := by rw [hW5]; simp [go_sem]
  have e1 : W5.cell? ⟨W2.heap.size, 1, none⟩ = some (.int .i64 t2) := by rw [hW5]; simp [go_sem]
  have e2 : W5.cell? ⟨W2.heap.size, 2, none⟩ = some (.int .i64 nn2) := by rw [hW5]; simp [go_sem]
  have e3 : W5.cell? ⟨W2.heap.size, 3, none⟩ = some (.int .i64 s2) := by rw [hW5]; simp [go_sem]
  have e4 : W5.cell? ⟨W2.heap.size, 4, none⟩ = some (.int .i64 qq2) := by rw [hW5]; simp [go_sem]
  have e5 : W5.cell? ⟨W2.heap.size, 5, none⟩ = some (.int .i64 lo2) := by rw [hW5]; simp [go_sem]
  have e6 : W5.cell? ⟨W2.heap.size, 6, none⟩ = some (.int .i64 hi2) := by rw [hW5]; simp [go_sem]
  have HW : Hid (Up w W5) := Lib.hid (by rw [hW5]; exact HW.out.alloc _ _)
  have hp2 := World.block_lt_of_cell? _ _ e0
  have z0 := HW.out.ownGe (g := w.heap.size + 1) (by omega) 0
  have z1 := HW.out.ownGe (g := w.heap.size + 1) (by omega) 1
  have z2 := HW.out.ownGe (g := w.heap.size + 1) (by omega) 2
  have z3 := HW.out.ownGe (g := w.heap.size + 1) (by omega) 3
  have z4 := HW.out.ownGe (g := w.heap.size + 1) (by omega) 4
  have z5 := HW.out.ownGe (g := w.heap.size + 1) (by omega) 5
  clear hW5 d0 d1 d2 d3 d4 d5 d6
  generalize W2.heap.size = p2 at *
  go_wp2_with (first | (go_at_call 17; (with_reducible refine (K2.out _).mono ?_); rintro e w6 ⟨rfl, hu⟩; have HW := Lib.hid (HW.out.trans hu); have r0 := hu.keep _ _ _ r0; have r1 := hu.keep _ _ _ r1; have r2 := hu.keep _ _ _ r2; have r3 := hu.keep _ _ _ r3; have r4 := hu.keep _ _ _ r4; have r5 := hu.keep _ _ _ r5; have z0 := HW.out.ownGe (g := w.heap.size + 1) (by omega) 0; have z1 := HW.out.ownGe (g := w.heap.size + 1) (by omega) 1; have z2 := HW.out.ownGe (g := w.heap.size + 1) (by omega) 2; have z3 := HW.out.ownGe (g := w.heap.size + 1) (by omega) 3; have z4 := HW.out.ownGe (g := w.heap.size + 1) (by omega) 4; have z5 := HW.out.ownGe (g := w.heap.size + 1) (by omega) 5; clear hu) | (go_at_call 77; (with_reducible refine (KE.out _).mono ?_); rintro e w9 ⟨rfl, hu⟩; have HW := Lib.hid (HW.out.trans hu); have r0 := hu.keep _ _ _ r0; have r1 := hu.keep _ _ _ r1; have r2 := hu.keep _ _ _ r2; have r3 := hu.keep _ _ _ r3; have r4 := hu.keep _ _ _ r4; have r5 := hu.keep _ _ _ r5; have z0 := HW.out.ownGe (g := w.heap.size + 1) (by omega) 0; have z1 := HW.out.ownGe (g := w.heap.size + 1) (by omega) 1; have z2 := HW.out.ownGe (g := w.heap.size + 1) (by omega) 2; have z3 := HW.out.ownGe (g := w.heap.size + 1) (by omega) 3; have z4 := HW.out.ownGe (g := w.heap.size + 1) (by omega) 4; have z5 := HW.out.ownGe (g := w.heap.size + 1) (by omega) 5; clear hu))
  refine bodyPost_ret (v := .tuple #[.agg #[.int .i64 y2, .int .i64 1, .int .i64 y2, .int .i64 1, .int .i64 y2, .int .i64 1], .int .i64 0]) (by simp [results, Try.results29, go_sem, r0, r1, r2, r3, r4, r5]) rfl ⟨rfl, ?_⟩
  exact HW.out.set6 (by omega)

set_option maxHeartbeats 4000000 in
set_option maxRecDepth 100000 in
theorem rask13_whole (g v q c now seq : Int) (n k : Nat) (A : Option Addr) (X : List Mrk) (hn : n ≤ 50000) (hv : stM g v q c now seq X = true) (h1 : 1 < n) (hl : liveB now v (X.getD 0 mk0).t = false) (hq : ¬ (X.getD 1 mk0).sq = (X.getD 0 mk0).sq + 1) (w : World) (hS : SG cM w A n X) :
    Calls Try.prog 29 #[.agg #[.int .i64 g, .int .i64 v, .int .i64 q, .int .i64 c, .int .i64 now, .int .i64 seq, .slice A n k]] w fun e w' => e = .returned (.tuple #[bV (ofZ g (X.getD 1 mk0)) (ofZ g (X.getD 0 mk0)), .int .i64 0]) ∧ Up w w' := by
  have KV := Lib.hid (fun W (h : SG cM W A n X) => rvalidate13_up g v q c now seq n k A X hn W h)
  rw [stME_yes hv] at KV
  have HS := Lib.hid hS
  have HBd : Hid (∀ j, j < n → bdM (X.getD j mk0)) := Lib.hid (by
    obtain ⟨hm, hx, _⟩ := stM_true hv
    obtain ⟨g1, g2, hc, g4⟩ := mayC_facts (mayM_true hm).2
    obtain ⟨hs2, hok⟩ := mrkB_true hx
    exact fun j hj => (hok j (by rw [hS.1]; exact hj)).bd hc.2 hs2.2)
  clear hS hv
  have h0 : 0 < n := by omega
  obtain ⟨b, o, rfl, _⟩ := mrk_at HS.out mk0 h0
  have HD0 := Lib.hid (fun W (h : Up w W) => mrk_prev (HS.out.up h) h0)
  simp only [Nat.zero_mul, Nat.add_zero] at HD0
  have B1 := Lib.hid (HBd.out 0 h0)
  have f20 : (0 : Int) < n := by omega
  have HD1 := Lib.hid (fun W (h : Up w W) => mrk_prev (HS.out.up h) h1)
  simp only [Nat.one_mul] at HD1
  have B2 := Lib.hid (HBd.out 1 h1)
  have f21 : (1 : Int) < n := by omega
  clear HBd
  generalize X.getD 1 mk0 = Mb at *
  generalize X.getD 0 mk0 = Ma at *
  obtain ⟨sq1, t1, nn1, s1, qq1, lo1, hi1⟩ := Ma
  obtain ⟨sq2, t2, nn2, s2, qq2, lo2, hi2⟩ := Mb
  simp only at HD0 HD1 hl hq
  have u1 := B1.out.2.2.2.2.2
  simp only at u1
  have w1_ : IntKind.i64.wrap (sq1 + 1) = sq1 + 1 := by rw [IntKind.wrap_i64]; omega
  clear u1
  have K1 := Lib.hid (rof13_up g sq1 t1 nn1 s1 qq1 lo1 hi1 (bdM_of (g := g) B1.out).2.1 (bdM_of (g := g) B1.out).2.2)
  have hI1 := ofZ_in (g := g) B1.out
  have K2 := Lib.hid (rof13_up g sq2 t2 nn2 s2 qq2 lo2 hi2 (bdM_of (g := g) B2.out).2.1 (bdM_of (g := g) B2.out).2.2)
  have hI2 := ofZ_in (g := g) B2.out
  generalize ofZ g ⟨sq1, t1, nn1, s1, qq1, lo1, hi1⟩ = x1 at *
  generalize ofZ g ⟨sq2, t2, nn2, s2, qq2, lo2, hi2⟩ = x2 at *
  obtain ⟨y0, y1, y2, y3, y4, y5, bb, ey, kw⟩ : ∃ y0 y1 y2 y3 y4 y5 bb, bV x2 x1 = .agg #[.int .i64 y0, .int .i64 y1, .int .i64 y2, .int .i64 y3, .int .i64 y4, .int .i64 y5] ∧ ∀ W, Calls Try.prog 79 #[.int .i64 x2, .int .i64 x1] W fun e w' => e = .returned (.tuple #[.agg #[.int .i64 y0, .int .i64 y1, .int .i64 y2, .int .i64 y3, .int .i64 y4, .int .i64 y5], .bool bb]) ∧ Up W w' := ⟨_, _, _, _, _, _, _, rfl, fun W => rwhole_up x2 x1 hI2 hI1 W⟩
  have KW := Lib.hid kw
  rw [ey]
  clear kw ey hI1 hI2
  have KL := Lib.hid (rlive_any now v t1)
  rw [hl] at KL
  have hqb : (sq2 == sq1 + 1) = false := beq_eq_false_iff_ne.2 hq
  clear hl hq B1 B2
  go_enter Try.func29, Try.ntmps29
  go_upto_region 6 with (go_at_call 23; (with_reducible refine (KV.out _ (HS.out.up (((Up.refl w).alloc _ _).alloc _ _))).mono ?_); rintro e w1 ⟨rfl, hu⟩; have HW := Lib.hid ((((Up.refl w).alloc #[.int .i64 g, .int .i64 v, .int .i64 q, .int .i64 c, .int .i64 now, .int .i64 seq, .slice (some ⟨b, o, none⟩) n k] 26).alloc #[.int .i64 0, .int .i64 0, .int .i64 0, .int .i64 0, .int .i64 0, .int .i64 0] 42).trans hu); have a0 := hu.keep (w.heap.size) 0 (.int .i64 g) (by simp [go_sem]); have a1 := hu.keep (w.heap.size) 1 (.int .i64 v) (by simp [go_sem]); have a2 := hu.keep (w.heap.size) 2 (.int .i64 q) (by simp [go_sem]); have a3 := hu.keep (w.heap.size) 3 (.int .i64 c) (by simp [go_sem]); have a4 := hu.keep (w.heap.size) 4 (.int .i64 now) (by simp [go_sem]); have a5 := hu.keep (w.heap.size) 5 (.int .i64 seq) (by simp [go_sem]); have a6 := hu.keep (w.heap.size) 6 (.slice (some ⟨b, o, none⟩) n k) (by simp [go_sem]); have r0 := hu.keep (w.heap.size + 1) 0 (.int .i64 0) (by simp [go_sem]); have r1 := hu.keep (w.heap.size + 1) 1 (.int .i64 0) (by simp [go_sem]); have r2 := hu.keep (w.heap.size + 1) 2 (.int .i64 0) (by simp [go_sem]); have r3 := hu.keep (w.heap.size + 1) 3 (.int .i64 0) (by simp [go_sem]); have r4 := hu.keep (w.heap.size + 1) 4 (.int .i64 0) (by simp [go_sem]); have r5 := hu.keep (w.heap.size + 1) 5 (.int .i64 0) (by simp [go_sem]); have z0 := HW.out.ownGe (g := w.heap.size + 1) (by omega) 0; have z1 := HW.out.ownGe (g := w.heap.size + 1) (by omega) 1; have z2 := HW.out.ownGe (g := w.heap.size + 1) (by omega) 2; have z3 := HW.out.ownGe (g := w.heap.size + 1) (by omega) 3; have z4 := HW.out.ownGe (g := w.heap.size + 1) (by omega) 4; have z5 := HW.out.ownGe (g := w.heap.size + 1) (by omega) 5; clear hu)
  obtain ⟨d0, d1, d2, d3, d4, d5, d6⟩ := HD0.out _ HW.out
  go_upto_region 7 with fail
  refine (show ∀ W2 : World, W2 = _ → Code.wp _ _ _ _ W2 from fun W2 hW2 => ?_) _ rfl
  have a0 : W2.cell? ⟨w.heap.size, 0, none⟩ = some (.int .i64 g) := by rw [hW2]; exact ((Up.refl _).alloc _ _).keep _ _ _ a0
  have a1 : W2.cell? ⟨w.heap.size, 1, none⟩ = some (.int .i64 v) := by rw [hW2]; exact ((Up.refl _).alloc _ _).keep _ _ _ a1
  have a2 : W2.cell? ⟨w.heap.size, 2, none⟩ = some (.int .i64 q) := by rw [hW2]; exact ((Up.refl _).alloc _ _).keep _ _ _ a2
  have a3 : W2.cell? ⟨w.heap.size, 3, none⟩ = some (.int .i64 c) := by rw [hW2]; exact ((Up.refl _).alloc _ _).keep _ _ _ a3
  have a4 : W2.cell? ⟨w.heap.size, 4, none⟩ = some (.int .i64 now) := by rw [hW2]; exact ((Up.refl _).alloc _ _).keep _ _ _ a4
  have a5 : W2.cell? ⟨w.heap.size, 5, none⟩ = some (.int .i64 seq) := by rw [hW2]; exact ((Up.refl _).alloc _ _).keep _ _ _ a5
  have a6 : W2.cell? ⟨w.heap.size, 6, none⟩ = some (.slice (some ⟨b, o, none⟩) n k) := by rw [hW2]; exact ((Up.refl _).alloc _ _).keep _ _ _ a6
  have r0 : W2.cell? ⟨w.heap.size + 1, 0, none⟩ = some (.int .i64 0) := by rw [hW2]; exact ((Up.refl _).alloc _ _).keep _ _ _ r0
  have r1 : W2.cell? ⟨w.heap.size + 1, 1, none⟩ = some (.int .i64 0) := by rw [hW2]; exact ((Up.refl _).alloc _ _).keep _ _ _ r1
  have r2 : W2.cell? ⟨w.heap.size + 1, 2, none⟩ = some (.int .i64 0) := by rw [hW2]; exact ((Up.refl _).alloc _ _).keep _ _ _ r2
  have r3 : W2.cell? ⟨w.heap.size + 1, 3, none⟩ = some (.int .i64 0) := by rw [hW2]; exact ((Up.refl _).alloc _ _).keep _ _ _ r3
  have r4 : W2.cell? ⟨w.heap.size + 1, 4, none⟩ = some (.int .i64 0) := by rw [hW2]; exact ((Up.refl _).alloc _ _).keep _ _ _ r4
  have r5 : W2.cell? ⟨w.heap.size + 1, 5, none⟩ = some (.int .i64 0) := by rw [hW2]; exact ((Up.refl _).alloc _ _).keep _ _ _ r5
  have m0 : W2.cell? ⟨w1.heap.size, 0, none⟩ = some (.int .i64 sq1) := by rw [hW2]; simp [go_sem]
  have m1 : W2.cell? ⟨w1.heap.size, 1, none⟩ = some (.int .i64 t1) := by rw [hW2]; simp [go_sem]
  have m2 : W2.cell? ⟨w1.heap.size, 2, none⟩ = some (.int .i64 nn1) := by rw [hW2]; simp [go_sem]
  have m3 : W2.cell? ⟨w1.heap.size, 3, none⟩ = some (.int .i64 s1) := by rw [hW2]; simp [go_sem]
  have m4 : W2.cell? ⟨w1.heap.size, 4, none⟩ = some (.int .i64 qq1) := by rw [hW2]; simp [go_sem]
  have m5 : W2.cell? ⟨w1.heap.size, 5, none⟩ = some (.int .i64 lo1) := by rw [hW2]; simp [go_sem]
  have m6 : W2.cell? ⟨w1.heap.size, 6, none⟩ = some (.int .i64 hi1) := by rw [hW2]; simp [go_sem]
  have HW : Hid (Up w W2) := Lib.hid (by rw [hW2]; exact HW.out.alloc _ _)
  have hp1 := World.block_lt_of_cell? _ _ m0
  have z0 := HW.out.ownGe (g := w.heap.size + 1) (by omega) 0
  have z1 := HW.out.ownGe (g := w.heap.size + 1) (by omega) 1
  have z2 := HW.out.ownGe (g := w.heap.size + 1) (by omega) 2
  have z3 := HW.out.ownGe (g := w.heap.size + 1) (by omega) 3
  have z4 := HW.out.ownGe (g := w.heap.size + 1) (by omega) 4
  have z5 := HW.out.ownGe (g := w.heap.size + 1) (by omega) 5
  clear hW2 d0 d1 d2 d3 d4 d5 d6
  generalize w1.heap.size = p1 at *
  obtain ⟨d0, d1, d2, d3, d4, d5, d6⟩ := HD1.out _ HW.out
  go_upto_region 10 with (go_at_call 78; (with_reducible refine (KL.out _).mono ?_); rintro e w' ⟨rfl, rfl⟩)
  refine (show ∀ W5 : World, W5 = _ → Code.wp _ _ _ _ W5 from fun W5 hW5 => ?_) _ rfl
  have a0 : W5.cell? ⟨w.heap.size, 0, none⟩ = some (.int .i64 g) := by rw [hW5]; exact ((Up.refl _).alloc _ _).keep _ _ _ a0
  have r0 : W5.cell? ⟨w.heap.size + 1, 0, none⟩ = some (.int .i64 0) := by rw [hW5]; exact ((Up.refl _).alloc _ _).keep _ _ _ r0
  have r1 : W5.cell? ⟨w.heap.size + 1, 1, none⟩ = some (.int .i64 0) := by rw [hW5]; exact ((Up.refl _).alloc _ _).keep _ _ _ r1
  have r2 : W5.cell? ⟨w.heap.size + 1, 2, none⟩ = some (.int .i64 0) := by rw [hW5]; exact ((Up.refl _).alloc _ _).keep _ _ _ r2
  have r3 : W5.cell? ⟨w.heap.size + 1, 3, none⟩ = some (.int .i64 0) := by rw [hW5]; exact ((Up.refl _).alloc _ _).keep _ _ _ r3
  have r4 : W5.cell? ⟨w.heap.size + 1, 4, none⟩ = some (.int .i64 0) := by rw [hW5]; exact ((Up.refl _).alloc _ _).keep _ _ _ r4
  have r5 : W5.cell? ⟨w.heap.size + 1, 5, none⟩ = some (.int .i64 0) := by rw [hW5]; exact ((Up.refl _).alloc _ _).keep _ _ _ r5
  have m0 : W5.cell? ⟨p1, 0, none⟩ = some (.int .i64 sq1) := by rw [hW5]; exact ((Up.refl _).alloc _ _).keep _ _ _ m0
  have m1 : W5.cell? ⟨p1, 1, none⟩ = some (.int .i64 t1) := by rw [hW5]; exact ((Up.refl _).alloc _ _).keep _ _ _ m1
  have m2 : W5.cell? ⟨p1, 2, none⟩ = some (.int .i64 nn1) := by rw [hW5]; exact ((Up.refl _).alloc _ _).keep _ _ _ m2
  have m3 : W5.cell? ⟨p1, 3, none⟩ = some (.int .i64 s1) := by rw [hW5]; exact ((Up.refl _).alloc _ _).keep _ _ _ m3
  have m4 : W5.cell? ⟨p1, 4, none⟩ = some (.int .i64 qq1) := by rw [hW5]; exact ((Up.refl _).alloc _ _).keep _ _ _ m4
  have m5 : W5.cell? ⟨p1, 5, none⟩ = some (.int .i64 lo1) := by rw [hW5]; exact ((Up.refl _).alloc _ _).keep _ _ _ m5
  have m6 : W5.cell? ⟨p1, 6, none⟩ = some (.int .i64 hi1) := by rw [hW5]; exact ((Up.refl _).alloc _ _).keep _ _ _ m6
  have e0 : W5.cell? ⟨W2.heap.size, 0, none⟩ = some (.int .i64 sq2) := by rw [hW5]; simp [go_sem]
  have e1 : W5.cell? ⟨W2.heap.size, 1, none⟩ = some (.int .i64 t2) := by rw [hW5]; simp [go_sem]
  have e2 : W5.cell? ⟨W2.heap.size, 2, none⟩ = some (.int .i64 nn2) := by rw [hW5]; simp [go_sem]
  have e3 : W5.cell? ⟨W2.heap.size, 3, none⟩ = some (.int .i64 s2) := by rw [hW5]; simp [go_sem]
  have e4 : W5.cell? ⟨W2.heap.size, 4, none⟩ = some (.int .i64 qq2) := by rw [hW5]; simp [go_sem]
  have e5 : W5.cell? ⟨W2.heap.size, 5, none⟩ = some (.int .i64 lo2) := by rw [hW5]; simp [go_sem]
  have e6 : W5.cell? ⟨W2.heap.size, 6, none⟩ = some (.int .i64 hi2) := by rw [hW5]; simp [go_sem]
  have HW : Hid (Up w W5) := Lib.hid (by rw [hW5]; exact HW.out.alloc _ _)
  have hp2 := World.block_lt_of_cell? _ _ e0
  have z0 := HW.out.ownGe (g := w.heap.size + 1) (by omega) 0
  have z1 := HW.out.ownGe (g := w.heap.size + 1) (by omega) 1
  have z2 := HW.out.ownGe (g := w.heap.size + 1) (by omega) 2
  have z3 := HW.out.ownGe (g := w.heap.size + 1) (by omega) 3
  have z4 := HW.out.ownGe (g := w.heap.size + 1) (by omega) 4
  have z5 := HW.out.ownGe (g := w.heap.size + 1) (by omega) 5
  clear hW5 d0 d1 d2 d3 d4 d5 d6
  generalize W2.heap.size = p2 at *
  go_upto_region 12 with fail
  have HSS : Hid (Up w W5 ∧ W5.cell? ⟨w.heap.size, 0, none⟩ = some (.int .i64 g) ∧ W5.cell? ⟨p1, 0, none⟩ = some (.int .i64 sq1) ∧ W5.cell? ⟨p1, 1, none⟩ = some (.int .i64 t1) ∧ W5.cell? ⟨p1, 2, none⟩ = some (.int .i64 nn1) ∧ W5.cell? ⟨p1, 3, none⟩ = some (.int .i64 s1) ∧ W5.cell? ⟨p1, 4, none⟩ = some (.int .i64 qq1) ∧ W5.cell? ⟨p1, 5, none⟩ = some (.int .i64 lo1) ∧ W5.cell? ⟨p1, 6, none⟩ = some (.int .i64 hi1) ∧ W5.cell? ⟨p2, 0, none⟩ = some (.int .i64 sq2) ∧ W5.cell? ⟨p2, 1, none⟩ = some (.int .i64 t2) ∧ W5.cell? ⟨p2, 2, none⟩ = some (.int .i64 nn2) ∧ W5.cell? ⟨p2, 3, none⟩ = some (.int .i64 s2) ∧ W5.cell? ⟨p2, 4, none⟩ = some (.int .i64 qq2) ∧ W5.cell? ⟨p2, 5, none⟩ = some (.int .i64 lo2) ∧ W5.cell? ⟨p2, 6, none⟩ = some (.int .i64 hi2)) := Lib.hid ⟨HW.out, a0, m0, m1, m2, m3, m4, m5, m6, e0, e1, e2, e3, e4, e5, e6⟩
  have hls : w.heap.size + 1 < W5.heap.size := World.block_lt_of_cell? _ _ r0
  have HW := Lib.hid HW.out.drew
  clear a0 m0 m1 m2 m3 m4 m5 m6 e0 e1 e2 e3 e4 e5 e6
  go_wp2_with fail
  refine wp_region_held_drew (S := fun w' => Up w w' ∧ w'.cell? ⟨w.heap.size, 0, none⟩ = some (.int .i64 g) ∧ w'.cell? ⟨p1, 0, none⟩ = some (.int .i64 sq1) ∧ w'.cell? ⟨p1, 1, none⟩ = some (.int .i64 t1) ∧ w'.cell? ⟨p1, 2, none⟩ = some (.int .i64 nn1) ∧ w'.cell? ⟨p1, 3, none⟩ = some (.int .i64 s1) ∧ w'.cell? ⟨p1, 4, none⟩ = some (.int .i64 qq1) ∧ w'.cell? ⟨p1, 5, none⟩ = some (.int .i64 lo1) ∧ w'.cell? ⟨p1, 6, none⟩ = some (.int .i64 hi1) ∧ w'.cell? ⟨p2, 0, none⟩ = some (.int .i64 sq2) ∧ w'.cell? ⟨p2, 1, none⟩ = some (.int .i64 t2) ∧ w'.cell? ⟨p2, 2, none⟩ = some (.int .i64 nn2) ∧ w'.cell? ⟨p2, 3, none⟩ = some (.int .i64 s2) ∧ w'.cell? ⟨p2, 4, none⟩ = some (.int .i64 qq2) ∧ w'.cell? ⟨p2, 5, none⟩ = some (.int .i64 lo2) ∧ w'.cell? ⟨p2, 6, none⟩ = some (.int .i64 hi2)) (by kernel_rfl) ?hB743 (fun hHeld => ?_)
  case hB743 => (first | (with_reducible assumption) | (with_reducible exact keepK15 (Lib.hid (Up.refl _).drew) HSS.out) | (with_reducible exact HX.out) | (with_reducible exact keepK15 (Lib.hid ((Up.refl _).alloc _ _)) hHeld) | (with_reducible exact set6K15 hHeld (by omega) (by omega) (by omega) (by omega)))
  refine wpAnyH_take (i := 0) (oi := ⟨_, _, _, _, _, _⟩) (v := ?v744) rfl (by kernel_rfl) (by kernel_rfl) (by kernel_rfl) (fun _ _ _ h => h) (Or.inl ⟨by rfl, ?hy744⟩) (by assumption) ?_
  case hy744 => (intro w hSw; (try dsimp only at hSw); go_simp; (try (with_reducible rfl)))
  (try simp only [Act.put, List.setIfInBounds_toArray, List.set_cons_zero, List.set_cons_succ])
  refine wpAnyH_take (i := 1) (oi := ⟨_, _, _, _, _, _⟩) (v := ?v745) rfl (by kernel_rfl) (by kernel_rfl) (by kernel_rfl) (fun _ _ _ h => h) (Or.inl ⟨by rfl, ?hy745⟩) (by assumption) ?_
  case hy745 => (intro w hSw; (try dsimp only at hSw); go_simp; (try (with_reducible rfl)))
  (try simp only [Act.put, List.setIfInBounds_toArray, List.set_cons_zero, List.set_cons_succ])
  refine wpAnyH_take (i := 2) (oi := ⟨_, _, _, _, _, _⟩) (v := ?v746) rfl (by kernel_rfl) (by kernel_rfl) (by kernel_rfl) (fun _ _ _ h => h) (Or.inl ⟨by rfl, ?hy746⟩) (by assumption) ?_
  case hy746 => (intro w hSw; (try dsimp only at hSw); go_simp; (try (with_reducible rfl)))
  (try simp only [Act.put, List.setIfInBounds_toArray, List.set_cons_zero, List.set_cons_succ])
  refine wpAnyH_take (i := 4) (oi := ⟨_, _, _, _, _, _⟩) (v := ?v747) rfl (by kernel_rfl) (by kernel_rfl) (by kernel_rfl) (fun _ _ _ h => h) (Or.inl ⟨by rfl, ?hy747⟩) (by assumption) ?_
  case hy747 => (intro w hSw; (try dsimp only at hSw); go_simp; (try (with_reducible rfl)))
  (try simp only [Act.put, List.setIfInBounds_toArray, List.set_cons_zero, List.set_cons_succ])
  refine wpAnyH_take (i := 5) (oi := ⟨_, _, _, _, _, _⟩) (v := ?v748) rfl (by kernel_rfl) (by kernel_rfl) (by kernel_rfl) (fun _ _ _ h => h) (Or.inl ⟨by rfl, ?hy748⟩) (by assumption) ?_
  case hy748 => (intro w hSw; (try dsimp only at hSw); go_simp; (try (with_reducible rfl)))
  (try simp only [Act.put, List.setIfInBounds_toArray, List.set_cons_zero, List.set_cons_succ])
  refine wpAnyH_take (i := 6) (oi := ⟨_, _, _, _, _, _⟩) (v := ?v749) rfl (by kernel_rfl) (by kernel_rfl) (by kernel_rfl) (fun _ _ _ h => h) (Or.inl ⟨by rfl, ?hy749⟩) (by assumption) ?_
  case hy749 => (intro w hSw; (try dsimp only at hSw); go_simp; (try (with_reducible rfl)))
  (try simp only [Act.put, List.setIfInBounds_toArray, List.set_cons_zero, List.set_cons_succ])
  refine wpAnyH_ready (rs := [3, 12]) (by kernel_rfl) (by simp) ?_
  refine AllReadyH.cons (o := ⟨_, _, _, _, _, _⟩) rfl (fun K hK => ?_) (AllReadyH.cons (o := ⟨_, _, _, _, _, _⟩) rfl (fun K hK => ?_) (AllReadyH.nil))
  · go_simp
    (go_at_call 17; (with_reducible refine (K2.out _).mono ?_); rintro e w6 ⟨rfl, hu⟩; have HW := Lib.hid (HW.out.trans hu); have HX := Lib.hid (keepK15 (Lib.hid hu) hHeld); have r0 := hu.keep _ _ _ r0; have r1 := hu.keep _ _ _ r1; have r2 := hu.keep _ _ _ r2; have r3 := hu.keep _ _ _ r3; have r4 := hu.keep _ _ _ r4; have r5 := hu.keep _ _ _ r5; have z0 := HW.out.ownGe (g := w.heap.size + 1) (by omega) 0; have z1 := HW.out.ownGe (g := w.heap.size + 1) (by omega) 1; have z2 := HW.out.ownGe (g := w.heap.size + 1) (by omega) 2; have z3 := HW.out.ownGe (g := w.heap.size + 1) (by omega) 3; have z4 := HW.out.ownGe (g := w.heap.size + 1) (by omega) 4; have z5 := HW.out.ownGe (g := w.heap.size + 1) (by omega) 5; clear hu)
    (try go_wp2_with fail)
    refine hK.out _ _ ?hB750 (fun hHeld => ?_)
    case hB750 => (with_reducible exact HX.out)
    clear hK K
    (try simp only [Act.put, List.setIfInBounds_toArray, List.set_cons_zero, List.set_cons_succ])
    refine wpAnyH_ready (rs := [7, 12]) (by kernel_rfl) (by simp) ?_
    refine AllReadyH.cons (o := ⟨_, _, _, _, _, _⟩) rfl (fun K hK => ?_) (AllReadyH.cons (o := ⟨_, _, _, _, _, _⟩) rfl (fun K hK => ?_) (AllReadyH.nil))
    · go_simp
      (go_at_call 17; (with_reducible refine (K1.out _).mono ?_); rintro e w7 ⟨rfl, hu⟩; have HW := Lib.hid (HW.out.trans hu); have HX := Lib.hid (keepK15 (Lib.hid hu) hHeld); have r0 := hu.keep _ _ _ r0; have r1 := hu.keep _ _ _ r1; have r2 := hu.keep _ _ _ r2; have r3 := hu.keep _ _ _ r3; have r4 := hu.keep _ _ _ r4; have r5 := hu.keep _ _ _ r5; have z0 := HW.out.ownGe (g := w.heap.size + 1) (by omega) 0; have z1 := HW.out.ownGe (g := w.heap.size + 1) (by omega) 1; have z2 := HW.out.ownGe (g := w.heap.size + 1) (by omega) 2; have z3 := HW.out.ownGe (g := w.heap.size + 1) (by omega) 3; have z4 := HW.out.ownGe (g := w.heap.size + 1) (by omega) 4; have z5 := HW.out.ownGe (g := w.heap.size + 1) (by omega) 5; clear hu)
      (try go_wp2_with fail)
      refine hK.out _ _ ?hB751 (fun hHeld => ?_)
      case hB751 => (with_reducible exact HX.out)
      clear hK K
      (try simp only [Act.put, List.setIfInBounds_toArray, List.set_cons_zero, List.set_cons_succ])
      refine wpAnyH_ready (rs := [8, 12]) (by kernel_rfl) (by simp) ?_
      refine AllReadyH.cons (o := ⟨_, _, _, _, _, _⟩) rfl (fun K hK => ?_) (AllReadyH.cons (o := ⟨_, _, _, _, _, _⟩) rfl (fun K hK => ?_) (AllReadyH.nil))
      · go_simp
        (go_at_call 79; (with_reducible refine (KW.out _).mono ?_); rintro e w9 ⟨rfl, hu⟩; have HW := Lib.hid (HW.out.trans hu); have HX := Lib.hid (keepK15 (Lib.hid hu) hHeld); have r0 := hu.keep _ _ _ r0; have r1 := hu.keep _ _ _ r1; have r2 := hu.keep _ _ _ r2; have r3 := hu.keep _ _ _ r3; have r4 := hu.keep _ _ _ r4; have r5 := hu.keep _ _ _ r5; have z0 := HW.out.ownGe (g := w.heap.size + 1) (by omega) 0; have z1 := HW.out.ownGe (g := w.heap.size + 1) (by omega) 1; have z2 := HW.out.ownGe (g := w.heap.size + 1) (by omega) 2; have z3 := HW.out.ownGe (g := w.heap.size + 1) (by omega) 3; have z4 := HW.out.ownGe (g := w.heap.size + 1) (by omega) 4; have z5 := HW.out.ownGe (g := w.heap.size + 1) (by omega) 5; clear hu)
        (try go_wp2_with fail)
        refine hK.out _ _ ?hB752 (fun hHeld => ?_)
        case hB752 => (with_reducible exact HX.out)
        clear hK K
        (try simp only [Act.put, List.setIfInBounds_toArray, List.set_cons_zero, List.set_cons_succ])
        refine wpAnyH_take (i := 9) (oi := ⟨_, _, _, _, _, _⟩) (v := ?v755) rfl (by kernel_rfl) (by kernel_rfl) (by kernel_rfl) (fun _ _ _ h => h) (Or.inl ⟨by rfl, ?hy755⟩) (by assumption) ?_
        case hy755 => (intro w hSw; (try dsimp only at hSw); go_simp; (try (with_reducible rfl)))
        (try simp only [Act.put, List.setIfInBounds_toArray, List.set_cons_zero, List.set_cons_succ])
        refine wpAnyH_take (i := 10) (oi := ⟨_, _, _, _, _, _⟩) (v := ?v756) rfl (by kernel_rfl) (by kernel_rfl) (by kernel_rfl) (fun _ _ _ h => h) (Or.inl ⟨by rfl, ?hy756⟩) (by assumption) ?_
        case hy756 => (intro w hSw; (try dsimp only at hSw); go_simp; (try (with_reducible rfl)))
        (try simp only [Act.put, List.setIfInBounds_toArray, List.set_cons_zero, List.set_cons_succ])
        refine wpAnyH_take (i := 11) (oi := ⟨_, _, _, _, _, _⟩) (v := ?v757) rfl (by kernel_rfl) (by kernel_rfl) (by kernel_rfl) (fun _ _ _ h => h) (Or.inl ⟨by rfl, ?hy757⟩) (by assumption) ?_
        case hy757 => (intro w hSw; (try dsimp only at hSw); go_simp; (try (with_reducible rfl)))
        (try simp only [Act.put, List.setIfInBounds_toArray, List.set_cons_zero, List.set_cons_succ])
        refine wpAnyH_ready (rs := [12]) (by kernel_rfl) (by simp) ?_
        refine AllReadyH.cons (o := ⟨_, _, _, _, _, _⟩) rfl (fun K hK => ?_) (AllReadyH.nil)
        have hlt_ : w.heap.size + 1 < w9.heap.size := World.block_lt_of_cell? _ _ r0
        go_simp
        refine hK.out _ _ ?hB753 (fun hHeld => ?_)
        case hB753 => (first | (with_reducible exact keepK15 (Lib.hid ((Up.refl _).alloc _ _)) HX.out))
        clear hK K
        (try simp only [Act.put, List.setIfInBounds_toArray, List.set_cons_zero, List.set_cons_succ])
        refine wpAnyH_ready (rs := [13]) (by kernel_rfl) (by simp) ?_
        refine AllReadyH.cons (o := ⟨_, _, _, _, _, _⟩) rfl (fun K hK => ?_) (AllReadyH.nil)
        go_simp
        refine hK.out _ _ ?hB754 (fun hHeld => ?_)
        case hB754 => (first | (with_reducible exact keepK15 (Lib.hid ((Up.refl _).alloc _ _)) HX.out))
        clear hK K
        (try simp only [Act.put, List.setIfInBounds_toArray, List.set_cons_zero, List.set_cons_succ])
        refine wpAnyH_take (i := 14) (oi := ⟨_, _, _, _, _, _⟩) (v := ?v758) rfl (by kernel_rfl) (by kernel_rfl) (by kernel_rfl) (fun _ _ _ h => h) (Or.inl ⟨by rfl, ?hy758⟩) (by assumption) ?_
        case hy758 => (intro w hSw; (try dsimp only at hSw); go_simp; (try (with_reducible rfl)))
        (try simp only [Act.put, List.setIfInBounds_toArray, List.set_cons_zero, List.set_cons_succ])
        refine wpAnyH_done (by kernel_rfl) ?_ _
        clear hHeld HSS HX
        have n1_ : ¬ (w9.heap.size = w.heap.size + 1) := by omega
        have n2_ : ¬ (w.heap.size + 1 = w9.heap.size) := by omega
        go_wp2_with fail
        obtain ⟨wa, hwa⟩ : ∃ y, y = (((((w9.setCell ⟨w.heap.size + 1, 0, none⟩ (.int .i64 y0)).setCell ⟨w.heap.size + 1, 1, none⟩ (.int .i64 y1)).setCell ⟨w.heap.size + 1, 2, none⟩ (.int .i64 y2)).setCell ⟨w.heap.size + 1, 3, none⟩ (.int .i64 y3)).setCell ⟨w.heap.size + 1, 4, none⟩ (.int .i64 y4)).setCell ⟨w.heap.size + 1, 5, none⟩ (.int .i64 y5) := ⟨_, rfl⟩
        rw [← hwa]
        obtain ⟨s0, s1, s2, s3, s4, s5⟩ := set6cells (v0 := .int .i64 y0) (v1 := .int .i64 y1) (v2 := .int .i64 y2) (v3 := .int .i64 y3) (v4 := .int .i64 y4) (v5 := .int .i64 y5) r0 r1 r2 r3 r4 r5
        rw [← hwa] at s0 s1 s2 s3 s4 s5
        have r0 := ((Up.refl wa).alloc #[.int .i64 y0, .int .i64 y1, .int .i64 y2, .int .i64 y3, .int .i64 y4, .int .i64 y5] 42).keep _ _ _ s0
        have r1 := ((Up.refl wa).alloc #[.int .i64 y0, .int .i64 y1, .int .i64 y2, .int .i64 y3, .int .i64 y4, .int .i64 y5] 42).keep _ _ _ s1
        have r2 := ((Up.refl wa).alloc #[.int .i64 y0, .int .i64 y1, .int .i64 y2, .int .i64 y3, .int .i64 y4, .int .i64 y5] 42).keep _ _ _ s2
        have r3 := ((Up.refl wa).alloc #[.int .i64 y0, .int .i64 y1, .int .i64 y2, .int .i64 y3, .int .i64 y4, .int .i64 y5] 42).keep _ _ _ s3
        have r4 := ((Up.refl wa).alloc #[.int .i64 y0, .int .i64 y1, .int .i64 y2, .int .i64 y3, .int .i64 y4, .int .i64 y5] 42).keep _ _ _ s4
        have r5 := ((Up.refl wa).alloc #[.int .i64 y0, .int .i64 y1, .int .i64 y2, .int .i64 y3, .int .i64 y4, .int .i64 y5] 42).keep _ _ _ s5
        refine bodyPost_ret (v := .tuple #[.agg #[.int .i64 y0, .int .i64 y1, .int .i64 y2, .int .i64 y3, .int .i64 y4, .int .i64 y5], .int .i64 0]) (by simp [results, Try.results29, go_sem, r0, r1, r2, r3, r4, r5]) rfl ⟨rfl, ?_⟩
        exact (by rw [hwa]; exact (HW.out.set6 (by omega)).alloc _ _)
      · have hlt_ : w.heap.size + 1 < w7.heap.size := World.block_lt_of_cell? _ _ r0
        have hp1_ : p1 < w7.heap.size := by have := World.block_lt_of_cell? _ _ hHeld.2.2.1; simpa using this
        have hp2_ : p2 < w7.heap.size := by have := World.block_lt_of_cell? _ _ hHeld.2.2.2.2.2.2.2.2.2.1; simpa using this
        have g0 : (w7.alloc (.cells #[.int .i64 0, .int .i64 0, .int .i64 0, .int .i64 0, .int .i64 0, .int .i64 0] 42)).cell? ⟨w7.heap.size, 0, none⟩ = some (.int .i64 0) := by simp [go_sem]
        have g1 : (w7.alloc (.cells #[.int .i64 0, .int .i64 0, .int .i64 0, .int .i64 0, .int .i64 0, .int .i64 0] 42)).cell? ⟨w7.heap.size, 1, none⟩ = some (.int .i64 0) := by simp [go_sem]
        have g2 : (w7.alloc (.cells #[.int .i64 0, .int .i64 0, .int .i64 0, .int .i64 0, .int .i64 0, .int .i64 0] 42)).cell? ⟨w7.heap.size, 2, none⟩ = some (.int .i64 0) := by simp [go_sem]
        have g3 : (w7.alloc (.cells #[.int .i64 0, .int .i64 0, .int .i64 0, .int .i64 0, .int .i64 0, .int .i64 0] 42)).cell? ⟨w7.heap.size, 3, none⟩ = some (.int .i64 0) := by simp [go_sem]
        have g4 : (w7.alloc (.cells #[.int .i64 0, .int .i64 0, .int .i64 0, .int .i64 0, .int .i64 0, .int .i64 0] 42)).cell? ⟨w7.heap.size, 4, none⟩ = some (.int .i64 0) := by simp [go_sem]
        have g5 : (w7.alloc (.cells #[.int .i64 0, .int .i64 0, .int .i64 0, .int .i64 0, .int .i64 0, .int .i64 0] 42)).cell? ⟨w7.heap.size, 5, none⟩ = some (.int .i64 0) := by simp [go_sem]
        have r0 := ((Up.refl w7).alloc #[.int .i64 0, .int .i64 0, .int .i64 0, .int .i64 0, .int .i64 0, .int .i64 0] 42).keep _ _ _ r0
        have r1 := ((Up.refl w7).alloc #[.int .i64 0, .int .i64 0, .int .i64 0, .int .i64 0, .int .i64 0, .int .i64 0] 42).keep _ _ _ r1
        have r2 := ((Up.refl w7).alloc #[.int .i64 0, .int .i64 0, .int .i64 0, .int .i64 0, .int .i64 0, .int .i64 0] 42).keep _ _ _ r2
        have r3 := ((Up.refl w7).alloc #[.int .i64 0, .int .i64 0, .int .i64 0, .int .i64 0, .int .i64 0, .int .i64 0] 42).keep _ _ _ r3
        have r4 := ((Up.refl w7).alloc #[.int .i64 0, .int .i64 0, .int .i64 0, .int .i64 0, .int .i64 0, .int .i64 0] 42).keep _ _ _ r4
        have r5 := ((Up.refl w7).alloc #[.int .i64 0, .int .i64 0, .int .i64 0, .int .i64 0, .int .i64 0, .int .i64 0] 42).keep _ _ _ r5
        have HW := Lib.hid (HW.out.alloc #[.int .i64 0, .int .i64 0, .int .i64 0, .int .i64 0, .int .i64 0, .int .i64 0] 42)
        have z0 := HW.out.ownGe (g := w.heap.size + 1) (by omega) 0
        have z1 := HW.out.ownGe (g := w.heap.size + 1) (by omega) 1
        have z2 := HW.out.ownGe (g := w.heap.size + 1) (by omega) 2
        have z3 := HW.out.ownGe (g := w.heap.size + 1) (by omega) 3
        have z4 := HW.out.ownGe (g := w.heap.size + 1) (by omega) 4
        have z5 := HW.out.ownGe (g := w.heap.size + 1) (by omega) 5
        have k0 := HW.out.ownGe (g := w7.heap.size) (by omega) 0
        have k1 := HW.out.ownGe (g := w7.heap.size) (by omega) 1
        have k2 := HW.out.ownGe (g := w7.heap.size) (by omega) 2
        have k3 := HW.out.ownGe (g := w7.heap.size) (by omega) 3
        have k4 := HW.out.ownGe (g := w7.heap.size) (by omega) 4
        have k5 := HW.out.ownGe (g := w7.heap.size) (by omega) 5
        go_simp
        refine hK.out _ _ ?hB759 (fun hHeld => ?_)
        case hB759 => (with_reducible exact keepK15 (Lib.hid ((Up.refl _).alloc _ _)) hHeld)
        clear hK K
        (try simp only [Act.put, List.setIfInBounds_toArray, List.set_cons_zero, List.set_cons_succ])
        refine wpAnyH_ready (rs := [8]) (by kernel_rfl) (by simp) ?_
        refine AllReadyH.cons (o := ⟨_, _, _, _, _, _⟩) rfl (fun K hK => ?_) (AllReadyH.nil)
        go_simp
        (go_at_call 79; (with_reducible refine (KW.out _).mono ?_); rintro e w9 ⟨rfl, hu⟩; have HW := Lib.hid (HW.out.trans hu); have HX := Lib.hid (keepK15 (Lib.hid hu) hHeld); have r0 := hu.keep _ _ _ r0; have r1 := hu.keep _ _ _ r1; have r2 := hu.keep _ _ _ r2; have r3 := hu.keep _ _ _ r3; have r4 := hu.keep _ _ _ r4; have r5 := hu.keep _ _ _ r5; have g0 := hu.keep _ _ _ g0; have g1 := hu.keep _ _ _ g1; have g2 := hu.keep _ _ _ g2; have g3 := hu.keep _ _ _ g3; have g4 := hu.keep _ _ _ g4; have g5 := hu.keep _ _ _ g5; have z0 := HW.out.ownGe (g := w.heap.size + 1) (by omega) 0; have z1 := HW.out.ownGe (g := w.heap.size + 1) (by omega) 1; have z2 := HW.out.ownGe (g := w.heap.size + 1) (by omega) 2; have z3 := HW.out.ownGe (g := w.heap.size + 1) (by omega) 3; have z4 := HW.out.ownGe (g := w.heap.size + 1) (by omega) 4; have z5 := HW.out.ownGe (g := w.heap.size + 1) (by omega) 5; have k0 := HW.out.ownGe (g := w7.heap.size) (by omega) 0; have k1 := HW.out.ownGe (g := w7.heap.size) (by omega) 1; have k2 := HW.out.ownGe (g := w7.heap.size) (by omega) 2; have k3 := HW.out.ownGe (g := w7.heap.size) (by omega) 3; have k4 := HW.out.ownGe (g := w7.heap.size) (by omega) 4; have k5 := HW.out.ownGe (g := w7.heap.size) (by omega) 5; clear hu)
        (try go_wp2_with fail)
        refine hK.out _ _ ?hB760 (fun hHeld => ?_)
        case hB760 => (with_reducible exact HX.out)
        clear hK K
        (try simp only [Act.put, List.setIfInBounds_toArray, List.set_cons_zero, List.set_cons_succ])
        refine wpAnyH_take (i := 9) (oi := ⟨_, _, _, _, _, _⟩) (v := ?v761) rfl (by kernel_rfl) (by kernel_rfl) (by kernel_rfl) (fun _ _ _ h => h) (Or.inl ⟨by rfl, ?hy761⟩) (by assumption) ?_
        case hy761 => (intro w hSw; (try dsimp only at hSw); go_simp; (try (with_reducible rfl)))
        (try simp only [Act.put, List.setIfInBounds_toArray, List.set_cons_zero, List.set_cons_succ])
        refine wpAnyH_take (i := 10) (oi := ⟨_, _, _, _, _, _⟩) (v := ?v762) rfl (by kernel_rfl) (by kernel_rfl) (by kernel_rfl) (fun _ _ _ h => h) (Or.inl ⟨by rfl, ?hy762⟩) (by assumption) ?_
        case hy762 => (intro w hSw; (try dsimp only at hSw); go_simp; (try (with_reducible rfl)))
        (try simp only [Act.put, List.setIfInBounds_toArray, List.set_cons_zero, List.set_cons_succ])
        refine wpAnyH_take (i := 11) (oi := ⟨_, _, _, _, _, _⟩) (v := ?v763) rfl (by kernel_rfl) (by kernel_rfl) (by kernel_rfl) (fun _ _ _ h => h) (Or.inl ⟨by rfl, ?hy763⟩) (by assumption) ?_
        case hy763 => (intro w hSw; (try dsimp only at hSw); go_simp; (try (with_reducible rfl)))
        (try simp only [Act.put, List.setIfInBounds_toArray, List.set_cons_zero, List.set_cons_succ])
        refine wpAnyH_ready (rs := [13]) (by kernel_rfl) (by simp) ?_
        refine AllReadyH.cons (o := ⟨_, _, _, _, _, _⟩) rfl (fun K hK => ?_) (AllReadyH.nil)
        go_simp
        refine hK.out _ _ ?hB764 (fun hHeld => ?_)
        case hB764 => (with_reducible exact set6K15 hHeld (by omega) (by omega) (by omega) (by omega))
        clear hK K
        (try simp only [Act.put, List.setIfInBounds_toArray, List.set_cons_zero, List.set_cons_succ])
        refine wpAnyH_take (i := 14) (oi := ⟨_, _, _, _, _, _⟩) (v := ?v765) rfl (by kernel_rfl) (by kernel_rfl) (by kernel_rfl) (fun _ _ _ h => h) (Or.inl ⟨by rfl, ?hy765⟩) (by assumption) ?_
        case hy765 => (intro w hSw; (try dsimp only at hSw); go_simp; (try (with_reducible rfl)))
        (try simp only [Act.put, List.setIfInBounds_toArray, List.set_cons_zero, List.set_cons_succ])
        refine wpAnyH_done (by kernel_rfl) ?_ _
        clear hHeld HSS
        (try clear HX)
        have n1_ : ¬ (w7.heap.size = w.heap.size + 1) := by omega
        have n2_ : ¬ (w.heap.size + 1 = w7.heap.size) := by omega
        go_wp2_with fail
        refine bodyPost_ret (v := .tuple #[.agg #[.int .i64 y0, .int .i64 y1, .int .i64 y2, .int .i64 y3, .int .i64 y4, .int .i64 y5], .int .i64 0]) (by simp [results, Try.results29, go_sem, r0, r1, r2, r3, r4, r5]) rfl ⟨rfl, ?_⟩
        exact (HW.out.set6 (by omega)).set6 (by omega)
    · have hlt_ : w.heap.size + 1 < w6.heap.size := World.block_lt_of_cell? _ _ r0
      have hp1_ : p1 < w6.heap.size := by have := World.block_lt_of_cell? _ _ hHeld.2.2.1; simpa using this
      have hp2_ : p2 < w6.heap.size := by have := World.block_lt_of_cell? _ _ hHeld.2.2.2.2.2.2.2.2.2.1; simpa using this
      have g0 : (w6.alloc (.cells #[.int .i64 0, .int .i64 0, .int .i64 0, .int .i64 0, .int .i64 0, .int .i64 0] 42)).cell? ⟨w6.heap.size, 0, none⟩ = some (.int .i64 0) := by simp [go_sem]
      have g1 : (w6.alloc (.cells #[.int .i64 0, .int .i64 0, .int .i64 0, .int .i64 0, .int .i64 0, .int .i64 0] 42)).cell? ⟨w6.heap.size, 1, none⟩ = some (.int .i64 0) := by simp [go_sem]
      have g2 : (w6.alloc (.cells #[.int .i64 0, .int .i64 0, .int .i64 0, .int .i64 0, .int .i64 0, .int .i64 0] 42)).cell? ⟨w6.heap.size, 2, none⟩ = some (.int .i64 0) := by simp [go_sem]
      have g3 : (w6.alloc (.cells #[.int .i64 0, .int .i64 0, .int .i64 0, .int .i64 0, .int .i64 0, .int .i64 0] 42)).cell? ⟨w6.heap.size, 3, none⟩ = some (.int .i64 0) := by simp [go_sem]
      have g4 : (w6.alloc (.cells #[.int .i64 0, .int .i64 0, .int .i64 0, .int .i64 0, .int .i64 0, .int .i64 0] 42)).cell? ⟨w6.heap.size, 4, none⟩ = some (.int .i64 0) := by simp [go_sem]
      have g5 : (w6.alloc (.cells #[.int .i64 0, .int .i64 0, .int .i64 0, .int .i64 0, .int .i64 0, .int .i64 0] 42)).cell? ⟨w6.heap.size, 5, none⟩ = some (.int .i64 0) := by simp [go_sem]
      have r0 := ((Up.refl w6).alloc #[.int .i64 0, .int .i64 0, .int .i64 0, .int .i64 0, .int .i64 0, .int .i64 0] 42).keep _ _ _ r0
      have r1 := ((Up.refl w6).alloc #[.int .i64 0, .int .i64 0, .int .i64 0, .int .i64 0, .int .i64 0, .int .i64 0] 42).keep _ _ _ r1
      have r2 := ((Up.refl w6).alloc #[.int .i64 0, .int .i64 0, .int .i64 0, .int .i64 0, .int .i64 0, .int .i64 0] 42).keep _ _ _ r2
      have r3 := ((Up.refl w6).alloc #[.int .i64 0, .int .i64 0, .int .i64 0, .int .i64 0, .int .i64 0, .int .i64 0] 42).keep _ _ _ r3
      have r4 := ((Up.refl w6).alloc #[.int .i64 0, .int .i64 0, .int .i64 0, .int .i64 0, .int .i64 0, .int .i64 0] 42).keep _ _ _ r4
      have r5 := ((Up.refl w6).alloc #[.int .i64 0, .int .i64 0, .int .i64 0, .int .i64 0, .int .i64 0, .int .i64 0] 42).keep _ _ _ r5
      have HW := Lib.hid (HW.out.alloc #[.int .i64 0, .int .i64 0, .int .i64 0, .int .i64 0, .int .i64 0, .int .i64 0] 42)
      have z0 := HW.out.ownGe (g := w.heap.size + 1) (by omega) 0
      have z1 := HW.out.ownGe (g := w.heap.size + 1) (by omega) 1
      have z2 := HW.out.ownGe (g := w.heap.size + 1) (by omega) 2
      have z3 := HW.out.ownGe (g := w.heap.size + 1) (by omega) 3
      have z4 := HW.out.ownGe (g := w.heap.size + 1) (by omega) 4
      have z5 := HW.out.ownGe (g := w.heap.size + 1) (by omega) 5
      have k0 := HW.out.ownGe (g := w6.heap.size) (by omega) 0
      have k1 := HW.out.ownGe (g := w6.heap.size) (by omega) 1
      have k2 := HW.out.ownGe (g := w6.heap.size) (by omega) 2
      have k3 := HW.out.ownGe (g := w6.heap.size) (by omega) 3
      have k4 := HW.out.ownGe (g := w6.heap.size) (by omega) 4
      have k5 := HW.out.ownGe (g := w6.heap.size) (by omega) 5
      go_simp
      refine hK.out _ _ ?hB766 (fun hHeld => ?_)
      case hB766 => (with_reducible exact keepK15 (Lib.hid ((Up.refl _).alloc _ _)) hHeld)
      clear hK K
      (try simp only [Act.put, List.setIfInBounds_toArray, List.set_cons_zero, List.set_cons_succ])
      refine wpAnyH_ready (rs := [7]) (by kernel_rfl) (by simp) ?_
      refine AllReadyH.cons (o := ⟨_, _, _, _, _, _⟩) rfl (fun K hK => ?_) (AllReadyH.nil)
      go_simp
      (go_at_call 17; (with_reducible refine (K1.out _).mono ?_); rintro e w7 ⟨rfl, hu⟩; have HW := Lib.hid (HW.out.trans hu); have HX := Lib.hid (keepK15 (Lib.hid hu) hHeld); have r0 := hu.keep _ _ _ r0; have r1 := hu.keep _ _ _ r1; have r2 := hu.keep _ _ _ r2; have r3 := hu.keep _ _ _ r3; have r4 := hu.keep _ _ _ r4; have r5 := hu.keep _ _ _ r5; have g0 := hu.keep _ _ _ g0; have g1 := hu.keep _ _ _ g1; have g2 := hu.keep _ _ _ g2; have g3 := hu.keep _ _ _ g3; have g4 := hu.keep _ _ _ g4; have g5 := hu.keep _ _ _ g5; have z0 := HW.out.ownGe (g := w.heap.size + 1) (by omega) 0; have z1 := HW.out.ownGe (g := w.heap.size + 1) (by omega) 1; have z2 := HW.out.ownGe (g := w.heap.size + 1) (by omega) 2; have z3 := HW.out.ownGe (g := w.heap.size + 1) (by omega) 3; have z4 := HW.out.ownGe (g := w.heap.size + 1) (by omega) 4; have z5 := HW.out.ownGe (g := w.heap.size + 1) (by omega) 5; have k0 := HW.out.ownGe (g := w6.heap.size) (by omega) 0; have k1 := HW.out.ownGe (g := w6.heap.size) (by omega) 1; have k2 := HW.out.ownGe (g := w6.heap.size) (by omega) 2; have k3 := HW.out.ownGe (g := w6.heap.size) (by omega) 3; have k4 := HW.out.ownGe (g := w6.heap.size) (by omega) 4; have k5 := HW.out.ownGe (g := w6.heap.size) (by omega) 5; clear hu)
      (try go_wp2_with fail)
      refine hK.out _ _ ?hB767 (fun hHeld => ?_)
      case hB767 => (with_reducible exact HX.out)
      clear hK K
      (try simp only [Act.put, List.setIfInBounds_toArray, List.set_cons_zero, List.set_cons_succ])
      refine wpAnyH_ready (rs := [8]) (by kernel_rfl) (by simp) ?_
      refine AllReadyH.cons (o := ⟨_, _, _, _, _, _⟩) rfl (fun K hK => ?_) (AllReadyH.nil)
      go_simp
      (go_at_call 79; (with_reducible refine (KW.out _).mono ?_); rintro e w9 ⟨rfl, hu⟩; have HW := Lib.hid (HW.out.trans hu); have HX := Lib.hid (keepK15 (Lib.hid hu) hHeld); have r0 := hu.keep _ _ _ r0; have r1 := hu.keep _ _ _ r1; have r2 := hu.keep _ _ _ r2; have r3 := hu.keep _ _ _ r3; have r4 := hu.keep _ _ _ r4; have r5 := hu.keep _ _ _ r5; have g0 := hu.keep _ _ _ g0; have g1 := hu.keep _ _ _ g1; have g2 := hu.keep _ _ _ g2; have g3 := hu.keep _ _ _ g3; have g4 := hu.keep _ _ _ g4; have g5 := hu.keep _ _ _ g5; have z0 := HW.out.ownGe (g := w.heap.size + 1) (by omega) 0; have z1 := HW.out.ownGe (g := w.heap.size + 1) (by omega) 1; have z2 := HW.out.ownGe (g := w.heap.size + 1) (by omega) 2; have z3 := HW.out.ownGe (g := w.heap.size + 1) (by omega) 3; have z4 := HW.out.ownGe (g := w.heap.size + 1) (by omega) 4; have z5 := HW.out.ownGe (g := w.heap.size + 1) (by omega) 5; have k0 := HW.out.ownGe (g := w6.heap.size) (by omega) 0; have k1 := HW.out.ownGe (g := w6.heap.size) (by omega) 1; have k2 := HW.out.ownGe (g := w6.heap.size) (by omega) 2; have k3 := HW.out.ownGe (g := w6.heap.size) (by omega) 3; have k4 := HW.out.ownGe (g := w6.heap.size) (by omega) 4; have k5 := HW.out.ownGe (g := w6.heap.size) (by omega) 5; clear hu)
      (try go_wp2_with fail)
      refine hK.out _ _ ?hB768 (fun hHeld => ?_)
      case hB768 => (with_reducible exact HX.out)
      clear hK K
      (try simp only [Act.put, List.setIfInBounds_toArray, List.set_cons_zero, List.set_cons_succ])
      refine wpAnyH_take (i := 9) (oi := ⟨_, _, _, _, _, _⟩) (v := ?v769) rfl (by kernel_rfl) (by kernel_rfl) (by kernel_rfl) (fun _ _ _ h => h) (Or.inl ⟨by rfl, ?hy769⟩) (by assumption) ?_
      case hy769 => (intro w hSw; (try dsimp only at hSw); go_simp; (try (with_reducible rfl)))
      (try simp only [Act.put, List.setIfInBounds_toArray, List.set_cons_zero, List.set_cons_succ])
      refine wpAnyH_take (i := 10) (oi := ⟨_, _, _, _, _, _⟩) (v := ?v770) rfl (by kernel_rfl) (by kernel_rfl) (by kernel_rfl) (fun _ _ _ h => h) (Or.inl ⟨by rfl, ?hy770⟩) (by assumption) ?_
      case hy770 => (intro w hSw; (try dsimp only at hSw); go_simp; (try (with_reducible rfl)))
      (try simp only [Act.put, List.setIfInBounds_toArray, List.set_cons_zero, List.set_cons_succ])
      refine wpAnyH_take (i := 11) (oi := ⟨_, _, _, _, _, _⟩) (v := ?v771) rfl (by kernel_rfl) (by kernel_rfl) (by kernel_rfl) (fun _ _ _ h => h) (Or.inl ⟨by rfl, ?hy771⟩) (by assumption) ?_
      case hy771 => (intro w hSw; (try dsimp only at hSw); go_simp; (try (with_reducible rfl)))
      (try simp only [Act.put, List.setIfInBounds_toArray, List.set_cons_zero, List.set_cons_succ])
      refine wpAnyH_ready (rs := [13]) (by kernel_rfl) (by simp) ?_
      refine AllReadyH.cons (o := ⟨_, _, _, _, _, _⟩) rfl (fun K hK => ?_) (AllReadyH.nil)
      go_simp
      refine hK.out _ _ ?hB772 (fun hHeld => ?_)
      case hB772 => (with_reducible exact set6K15 hHeld (by omega) (by omega) (by omega) (by omega))
      clear hK K
      (try simp only [Act.put, List.setIfInBounds_toArray, List.set_cons_zero, List.set_cons_succ])
      refine wpAnyH_take (i := 14) (oi := ⟨_, _, _, _, _, _⟩) (v := ?v773) rfl (by kernel_rfl) (by kernel_rfl) (by kernel_rfl) (fun _ _ _ h => h) (Or.inl ⟨by rfl, ?hy773⟩) (by assumption) ?_
      case hy773 => (intro w hSw; (try dsimp only at hSw); go_simp; (try (with_reducible rfl)))
      (try simp only [Act.put, List.setIfInBounds_toArray, List.set_cons_zero, List.set_cons_succ])
      refine wpAnyH_done (by kernel_rfl) ?_ _
      clear hHeld HSS
      (try clear HX)
      have n1_ : ¬ (w6.heap.size = w.heap.size + 1) := by omega
      have n2_ : ¬ (w.heap.size + 1 = w6.heap.size) := by omega
      go_wp2_with fail
      refine bodyPost_ret (v := .tuple #[.agg #[.int .i64 y0, .int .i64 y1, .int .i64 y2, .int .i64 y3, .int .i64 y4, .int .i64 y5], .int .i64 0]) (by simp [results, Try.results29, go_sem, r0, r1, r2, r3, r4, r5]) rfl ⟨rfl, ?_⟩
      exact (HW.out.set6 (by omega)).set6 (by omega)
  · have hlt_ : w.heap.size + 1 < W5.heap.size := World.block_lt_of_cell? _ _ r0
    have hp1_ : p1 < W5.heap.size := by have := World.block_lt_of_cell? _ _ hHeld.2.2.1; simpa using this
    have hp2_ : p2 < W5.heap.size := by have := World.block_lt_of_cell? _ _ hHeld.2.2.2.2.2.2.2.2.2.1; simpa using this
    have g0 : (W5.alloc (.cells #[.int .i64 0, .int .i64 0, .int .i64 0, .int .i64 0, .int .i64 0, .int .i64 0] 42)).cell? ⟨W5.heap.size, 0, none⟩ = some (.int .i64 0) := by simp [go_sem]
    have g1 : (W5.alloc (.cells #[.int .i64 0, .int .i64 0, .int .i64 0, .int .i64 0, .int .i64 0, .int .i64 0] 42)).cell? ⟨W5.heap.size, 1, none⟩ = some (.int .i64 0) := by simp [go_sem]
    have g2 : (W5.alloc (.cells #[.int .i64 0, .int .i64 0, .int .i64 0, .int .i64 0, .int .i64 0, .int .i64 0] 42)).cell? ⟨W5.heap.size, 2, none⟩ = some (.int .i64 0) := by simp [go_sem]
    have g3 : (W5.alloc (.cells #[.int .i64 0, .int .i64 0, .int .i64 0, .int .i64 0, .int .i64 0, .int .i64 0] 42)).cell? ⟨W5.heap.size, 3, none⟩ = some (.int .i64 0) := by simp [go_sem]
    have g4 : (W5.alloc (.cells #[.int .i64 0, .int .i64 0, .int .i64 0, .int .i64 0, .int .i64 0, .int .i64 0] 42)).cell? ⟨W5.heap.size, 4, none⟩ = some (.int .i64 0) := by simp [go_sem]
    have g5 : (W5.alloc (.cells #[.int .i64 0, .int .i64 0, .int .i64 0, .int .i64 0, .int .i64 0, .int .i64 0] 42)).cell? ⟨W5.heap.size, 5, none⟩ = some (.int .i64 0) := by simp [go_sem]
    have r0 := ((Up.refl W5).alloc #[.int .i64 0, .int .i64 0, .int .i64 0, .int .i64 0, .int .i64 0, .int .i64 0] 42).keep _ _ _ r0
    have r1 := ((Up.refl W5).alloc #[.int .i64 0, .int .i64 0, .int .i64 0, .int .i64 0, .int .i64 0, .int .i64 0] 42).keep _ _ _ r1
    have r2 := ((Up.refl W5).alloc #[.int .i64 0, .int .i64 0, .int .i64 0, .int .i64 0, .int .i64 0, .int .i64 0] 42).keep _ _ _ r2
    have r3 := ((Up.refl W5).alloc #[.int .i64 0, .int .i64 0, .int .i64 0, .int .i64 0, .int .i64 0, .int .i64 0] 42).keep _ _ _ r3
    have r4 := ((Up.refl W5).alloc #[.int .i64 0, .int .i64 0, .int .i64 0, .int .i64 0, .int .i64 0, .int .i64 0] 42).keep _ _ _ r4
    have r5 := ((Up.refl W5).alloc #[.int .i64 0, .int .i64 0, .int .i64 0, .int .i64 0, .int .i64 0, .int .i64 0] 42).keep _ _ _ r5
    have HW := Lib.hid (HW.out.alloc #[.int .i64 0, .int .i64 0, .int .i64 0, .int .i64 0, .int .i64 0, .int .i64 0] 42)
    have z0 := HW.out.ownGe (g := w.heap.size + 1) (by omega) 0
    have z1 := HW.out.ownGe (g := w.heap.size + 1) (by omega) 1
    have z2 := HW.out.ownGe (g := w.heap.size + 1) (by omega) 2
    have z3 := HW.out.ownGe (g := w.heap.size + 1) (by omega) 3
    have z4 := HW.out.ownGe (g := w.heap.size + 1) (by omega) 4
    have z5 := HW.out.ownGe (g := w.heap.size + 1) (by omega) 5
    have k0 := HW.out.ownGe (g := W5.heap.size) (by omega) 0
    have k1 := HW.out.ownGe (g := W5.heap.size) (by omega) 1
    have k2 := HW.out.ownGe (g := W5.heap.size) (by omega) 2
    have k3 := HW.out.ownGe (g := W5.heap.size) (by omega) 3
    have k4 := HW.out.ownGe (g := W5.heap.size) (by omega) 4
    have k5 := HW.out.ownGe (g := W5.heap.size) (by omega) 5
    go_simp
    refine hK.out _ _ ?hB774 (fun hHeld => ?_)
    case hB774 => (with_reducible exact keepK15 (Lib.hid ((Up.refl _).alloc _ _)) hHeld)
    clear hK K
    (try simp only [Act.put, List.setIfInBounds_toArray, List.set_cons_zero, List.set_cons_succ])
    refine wpAnyH_ready (rs := [3]) (by kernel_rfl) (by simp) ?_
    refine AllReadyH.cons (o := ⟨_, _, _, _, _, _⟩) rfl (fun K hK => ?_) (AllReadyH.nil)
    go_simp
    (go_at_call 17; (with_reducible refine (K2.out _).mono ?_); rintro e w6 ⟨rfl, hu⟩; have HW := Lib.hid (HW.out.trans hu); have HX := Lib.hid (keepK15 (Lib.hid hu) hHeld); have r0 := hu.keep _ _ _ r0; have r1 := hu.keep _ _ _ r1; have r2 := hu.keep _ _ _ r2; have r3 := hu.keep _ _ _ r3; have r4 := hu.keep _ _ _ r4; have r5 := hu.keep _ _ _ r5; have g0 := hu.keep _ _ _ g0; have g1 := hu.keep _ _ _ g1; have g2 := hu.keep _ _ _ g2; have g3 := hu.keep _ _ _ g3; have g4 := hu.keep _ _ _ g4; have g5 := hu.keep _ _ _ g5; have z0 := HW.out.ownGe (g := w.heap.size + 1) (by omega) 0; have z1 := HW.out.ownGe (g := w.heap.size + 1) (by omega) 1; have z2 := HW.out.ownGe (g := w.heap.size + 1) (by omega) 2; have z3 := HW.out.ownGe (g := w.heap.size + 1) (by omega) 3; have z4 := HW.out.ownGe (g := w.heap.size + 1) (by omega) 4; have z5 := HW.out.ownGe (g := w.heap.size + 1) (by omega) 5; have k0 := HW.out.ownGe (g := W5.heap.size) (by omega) 0; have k1 := HW.out.ownGe (g := W5.heap.size) (by omega) 1; have k2 := HW.out.ownGe (g := W5.heap.size) (by omega) 2; have k3 := HW.out.ownGe (g := W5.heap.size) (by omega) 3; have k4 := HW.out.ownGe (g := W5.heap.size) (by omega) 4; have k5 := HW.out.ownGe (g := W5.heap.size) (by omega) 5; clear hu)
    (try go_wp2_with fail)
    refine hK.out _ _ ?hB775 (fun hHeld => ?_)
    case hB775 => (with_reducible exact HX.out)
    clear hK K
    (try simp only [Act.put, List.setIfInBounds_toArray, List.set_cons_zero, List.set_cons_succ])
    refine wpAnyH_ready (rs := [7]) (by kernel_rfl) (by simp) ?_
    refine AllReadyH.cons (o := ⟨_, _, _, _, _, _⟩) rfl (fun K hK => ?_) (AllReadyH.nil)
    go_simp
    (go_at_call 17; (with_reducible refine (K1.out _).mono ?_); rintro e w7 ⟨rfl, hu⟩; have HW := Lib.hid (HW.out.trans hu); have HX := Lib.hid (keepK15 (Lib.hid hu) hHeld); have r0 := hu.keep _ _ _ r0; have r1 := hu.keep _ _ _ r1; have r2 := hu.keep _ _ _ r2; have r3 := hu.keep _ _ _ r3; have r4 := hu.keep _ _ _ r4; have r5 := hu.keep _ _ _ r5; have g0 := hu.keep _ _ _ g0; have g1 := hu.keep _ _ _ g1; have g2 := hu.keep _ _ _ g2; have g3 := hu.keep _ _ _ g3; have g4 := hu.keep _ _ _ g4; have g5 := hu.keep _ _ _ g5; have z0 := HW.out.ownGe (g := w.heap.size + 1) (by omega) 0; have z1 := HW.out.ownGe (g := w.heap.size + 1) (by omega) 1; have z2 := HW.out.ownGe (g := w.heap.size + 1) (by omega) 2; have z3 := HW.out.ownGe (g := w.heap.size + 1) (by omega) 3; have z4 := HW.out.ownGe (g := w.heap.size + 1) (by omega) 4; have z5 := HW.out.ownGe (g := w.heap.size + 1) (by omega) 5; have k0 := HW.out.ownGe (g := W5.heap.size) (by omega) 0; have k1 := HW.out.ownGe (g := W5.heap.size) (by omega) 1; have k2 := HW.out.ownGe (g := W5.heap.size) (by omega) 2; have k3 := HW.out.ownGe (g := W5.heap.size) (by omega) 3; have k4 := HW.out.ownGe (g := W5.heap.size) (by omega) 4; have k5 := HW.out.ownGe (g := W5.heap.size) (by omega) 5; clear hu)
    (try go_wp2_with fail)
    refine hK.out _ _ ?hB776 (fun hHeld => ?_)
    case hB776 => (with_reducible exact HX.out)
    clear hK K
    (try simp only [Act.put, List.setIfInBounds_toArray, List.set_cons_zero, List.set_cons_succ])
    refine wpAnyH_ready (rs := [8]) (by kernel_rfl) (by simp) ?_
    refine AllReadyH.cons (o := ⟨_, _, _, _, _, _⟩) rfl (fun K hK => ?_) (AllReadyH.nil)
    go_simp
    (go_at_call 79; (with_reducible refine (KW.out _).mono ?_); rintro e w9 ⟨rfl, hu⟩; have HW := Lib.hid (HW.out.trans hu); have HX := Lib.hid (keepK15 (Lib.hid hu) hHeld); have r0 := hu.keep _ _ _ r0; have r1 := hu.keep _ _ _ r1; have r2 := hu.keep _ _ _ r2; have r3 := hu.keep _ _ _ r3; have r4 := hu.keep _ _ _ r4; have r5 := hu.keep _ _ _ r5; have g0 := hu.keep _ _ _ g0; have g1 := hu.keep _ _ _ g1; have g2 := hu.keep _ _ _ g2; have g3 := hu.keep _ _ _ g3; have g4 := hu.keep _ _ _ g4; have g5 := hu.keep _ _ _ g5; have z0 := HW.out.ownGe (g := w.heap.size + 1) (by omega) 0; have z1 := HW.out.ownGe (g := w.heap.size + 1) (by omega) 1; have z2 := HW.out.ownGe (g := w.heap.size + 1) (by omega) 2; have z3 := HW.out.ownGe (g := w.heap.size + 1) (by omega) 3; have z4 := HW.out.ownGe (g := w.heap.size + 1) (by omega) 4; have z5 := HW.out.ownGe (g := w.heap.size + 1) (by omega) 5; have k0 := HW.out.ownGe (g := W5.heap.size) (by omega) 0; have k1 := HW.out.ownGe (g := W5.heap.size) (by omega) 1; have k2 := HW.out.ownGe (g := W5.heap.size) (by omega) 2; have k3 := HW.out.ownGe (g := W5.heap.size) (by omega) 3; have k4 := HW.out.ownGe (g := W5.heap.size) (by omega) 4; have k5 := HW.out.ownGe (g := W5.heap.size) (by omega) 5; clear hu)
    (try go_wp2_with fail)
    refine hK.out _ _ ?hB777 (fun hHeld => ?_)
    case hB777 => (with_reducible exact HX.out)
    clear hK K
    (try simp only [Act.put, List.setIfInBounds_toArray, List.set_cons_zero, List.set_cons_succ])
    refine wpAnyH_take (i := 9) (oi := ⟨_, _, _, _, _, _⟩) (v := ?v778) rfl (by kernel_rfl) (by kernel_rfl) (by kernel_rfl) (fun _ _ _ h => h) (Or.inl ⟨by rfl, ?hy778⟩) (by assumption) ?_
    case hy778 => (intro w hSw; (try dsimp only at hSw); go_simp; (try (with_reducible rfl)))
    (try simp only [Act.put, List.setIfInBounds_toArray, List.set_cons_zero, List.set_cons_succ])
    refine wpAnyH_take (i := 10) (oi := ⟨_, _, _, _, _, _⟩) (v := ?v779) rfl (by kernel_rfl) (by kernel_rfl) (by kernel_rfl) (fun _ _ _ h => h) (Or.inl ⟨by rfl, ?hy779⟩) (by assumption) ?_
    case hy779 => (intro w hSw; (try dsimp only at hSw); go_simp; (try (with_reducible rfl)))
    (try simp only [Act.put, List.setIfInBounds_toArray, List.set_cons_zero, List.set_cons_succ])
    refine wpAnyH_take (i := 11) (oi := ⟨_, _, _, _, _, _⟩) (v := ?v780) rfl (by kernel_rfl) (by kernel_rfl) (by kernel_rfl) (fun _ _ _ h => h) (Or.inl ⟨by rfl, ?hy780⟩) (by assumption) ?_
    case hy780 => (intro w hSw; (try dsimp only at hSw); go_simp; (try (with_reducible rfl)))
    (try simp only [Act.put, List.setIfInBounds_toArray, List.set_cons_zero, List.set_cons_succ])
    refine wpAnyH_ready (rs := [13]) (by kernel_rfl) (by simp) ?_
    refine AllReadyH.cons (o := ⟨_, _, _, _, _, _⟩) rfl (fun K hK => ?_) (AllReadyH.nil)
    go_simp
    refine hK.out _ _ ?hB781 (fun hHeld => ?_)
    case hB781 => (with_reducible exact set6K15 hHeld (by omega) (by omega) (by omega) (by omega))
    clear hK K
    (try simp only [Act.put, List.setIfInBounds_toArray, List.set_cons_zero, List.set_cons_succ])
    refine wpAnyH_take (i := 14) (oi := ⟨_, _, _, _, _, _⟩) (v := ?v782) rfl (by kernel_rfl) (by kernel_rfl) (by kernel_rfl) (fun _ _ _ h => h) (Or.inl ⟨by rfl, ?hy782⟩) (by assumption) ?_
    case hy782 => (intro w hSw; (try dsimp only at hSw); go_simp; (try (with_reducible rfl)))
    (try simp only [Act.put, List.setIfInBounds_toArray, List.set_cons_zero, List.set_cons_succ])
    refine wpAnyH_done (by kernel_rfl) ?_ _
    clear hHeld HSS
    (try clear HX)
    have n1_ : ¬ (W5.heap.size = w.heap.size + 1) := by omega
    have n2_ : ¬ (w.heap.size + 1 = W5.heap.size) := by omega
    go_wp2_with fail
    refine bodyPost_ret (v := .tuple #[.agg #[.int .i64 y0, .int .i64 y1, .int .i64 y2, .int .i64 y3, .int .i64 y4, .int .i64 y5], .int .i64 0]) (by simp [results, Try.results29, go_sem, r0, r1, r2, r3, r4, r5]) rfl ⟨rfl, ?_⟩
    exact (HW.out.set6 (by omega)).set6 (by omega)

theorem rask13_up (g v q c now seq : Int) (n k : Nat) (A : Option Addr) (X : List Mrk) (hn : n ≤ 50000) (w : World) (hS : SG cM w A n X) :
    Calls Try.prog 29 #[.agg #[.int .i64 g, .int .i64 v, .int .i64 q, .int .i64 c, .int .i64 now, .int .i64 seq, .slice A n k]] w fun e w' => e = .returned (akM (stM g v q c now seq X) (asM g now v X)) ∧ Up w w' := by
  cases hv : stM g v q c now seq X with
  | false => exact rask13_bad g v q c now seq n k A X hn hv w hS
  | true =>
    show Calls _ _ _ _ (fun e w' => e = .returned (.tuple #[bV (asM g now v X).1 (asM g now v X).2, .int .i64 0]) ∧ _)
    by_cases h0 : n = 0
    · have e : X = [] := List.eq_nil_of_length_eq_zero (by rw [hS.1]; exact h0)
      rw [show asM g now v X = (0, 0) by rw [e]; rfl, show bV (0, 0).1 (0, 0).2 = _ from bV_self 0]
      exact rask13_none g v q c now seq n k A X hn hv h0 w hS
    cases hl : liveB now v (X.getD 0 mk0).t with
    | true =>
      obtain ⟨T, e⟩ := list_one' (X := X) (by rw [hS.1]; omega)
      rw [show asM g now v X = (ofZ g (X.getD 0 mk0), ofZ g (X.getD 0 mk0)) by conv => lhs; rw [e]
                                                                               show (if liveB now v (X.getD 0 mk0).t = true then _ else _) = _
                                                                               rw [if_pos hl]]
      show Calls _ _ _ _ (fun e w' => e = .returned (.tuple #[bV (ofZ g (X.getD 0 mk0)) (ofZ g (X.getD 0 mk0)), .int .i64 0]) ∧ _)
      rw [bV_self]
      exact rask13_first g v q c now seq n k A X hn hv (by omega) hl w hS
    | false =>
      have h1 : 1 < n := by
        rcases Nat.lt_or_ge 1 n with h | h
        · exact h
        · have := one_live hv (by rw [hS.1]; omega)
          rw [hl] at this; cases this
      obtain ⟨T, e⟩ := list_two' (X := X) (by rw [hS.1]; exact h1)
      have ea : asM g now v X = if (X.getD 1 mk0).sq = (X.getD 0 mk0).sq + 1 then (ofZ g (X.getD 1 mk0), ofZ g (X.getD 1 mk0)) else (ofZ g (X.getD 1 mk0), ofZ g (X.getD 0 mk0)) := by
        conv => lhs; rw [e]
        show (if liveB now v (X.getD 0 mk0).t = true then _ else _) = _
        rw [hl, if_neg Bool.false_ne_true]
      by_cases hq : (X.getD 1 mk0).sq = (X.getD 0 mk0).sq + 1
      · rw [ea, if_pos hq]
        show Calls _ _ _ _ (fun e w' => e = .returned (.tuple #[bV (ofZ g (X.getD 1 mk0)) (ofZ g (X.getD 1 mk0)), .int .i64 0]) ∧ _)
        rw [bV_self]
        exact rask13_second g v q c now seq n k A X hn hv h1 hl hq w hS
      · rw [ea, if_neg hq]
        exact rask13_whole g v q c now seq n k A X hn hv h1 hl hq w hS

end Go.Proofs.Ytafkoddgefcpnaa

namespace Go.Proofs.Ytafkoddgefcpnaa
open Go.RowKit
set_option linter.unusedVariables false

theorem akM_agg (b : Bool) (p : Int × Int) : ∃ x0 x1 x2 x3 x4 x5 e0, akM b p = .tuple #[.agg #[.int .i64 x0, .int .i64 x1, .int .i64 x2, .int .i64 x3, .int .i64 x4, .int .i64 x5], .int .i64 e0] := by
  unfold akM
  cases b
  · exact ⟨_, _, _, _, _, _, _, rfl⟩
  · exact ⟨_, _, _, _, _, _, _, rfl⟩
end Go.Proofs.Ytafkoddgefcpnaa
