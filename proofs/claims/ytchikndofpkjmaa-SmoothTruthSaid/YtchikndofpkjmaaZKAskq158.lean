/- Ask of package smooth and of its reference. -/
import Derived.Test.YtchikndofpkjmaaRows
import Derived.Test.YtchikndofpkjmaaZBWholeq154
import Derived.Test.YtchikndofpkjmaaZKNewq125
namespace Go.Proofs.Ytchikndofpkjmaa
open Go.RowKit
set_option linter.unusedVariables false

theorem far6 {w : World} {p g o : Nat} {v0 v1 v2 v3 v4 v5 : Value} {u : Value} (h : w.cell? ⟨g, o, none⟩ = some u) (hp : p ≠ g) : ((((((w.setCell ⟨p, 0, none⟩ v0).setCell ⟨p, 1, none⟩ v1).setCell ⟨p, 2, none⟩ v2).setCell ⟨p, 3, none⟩ v3).setCell ⟨p, 4, none⟩ v4).setCell ⟨p, 5, none⟩ v5).cell? ⟨g, o, none⟩ = some u :=
  (cell_far hp).trans ((cell_far hp).trans ((cell_far hp).trans ((cell_far hp).trans ((cell_far hp).trans ((cell_far hp).trans h)))))
theorem set6cells {w : World} {p : Nat} {v0 v1 v2 v3 v4 v5 x0 x1 x2 x3 x4 x5 : Value} (e0 : w.cell? ⟨p, 0, none⟩ = some x0) (e1 : w.cell? ⟨p, 1, none⟩ = some x1) (e2 : w.cell? ⟨p, 2, none⟩ = some x2) (e3 : w.cell? ⟨p, 3, none⟩ = some x3) (e4 : w.cell? ⟨p, 4, none⟩ = some x4) (e5 : w.cell? ⟨p, 5, none⟩ = some x5) :
    let W := (((((w.setCell ⟨p, 0, none⟩ v0).setCell ⟨p, 1, none⟩ v1).setCell ⟨p, 2, none⟩ v2).setCell ⟨p, 3, none⟩ v3).setCell ⟨p, 4, none⟩ v4).setCell ⟨p, 5, none⟩ v5
    W.cell? ⟨p, 0, none⟩ = some v0 ∧ W.cell? ⟨p, 1, none⟩ = some v1 ∧ W.cell? ⟨p, 2, none⟩ = some v2 ∧ W.cell? ⟨p, 3, none⟩ = some v3 ∧ W.cell? ⟨p, 4, none⟩ = some v4 ∧ W.cell? ⟨p, 5, none⟩ = some v5 :=
  ⟨cell_set (cell_set (cell_set (cell_set (cell_set (cell_set e0))))), cell_set (cell_set (cell_set (cell_set (cell_set (cell_set e1))))), cell_set (cell_set (cell_set (cell_set (cell_set (cell_set e2))))), cell_set (cell_set (cell_set (cell_set (cell_set (cell_set e3))))), cell_set (cell_set (cell_set (cell_set (cell_set (cell_set e4))))), cell_set (cell_set (cell_set (cell_set (cell_set (cell_set e5)))))⟩
theorem set6K15 {w w1 : World} {p pa pb pc : Nat} {x0 x1 x2 x3 x4 x5 x6 x7 x8 x9 x10 x11 x12 x13 x14 v0 v1 v2 v3 v4 v5 : Value} (h : Up w w1 ∧ w1.cell? ⟨pa, 0, none⟩ = some x0 ∧ w1.cell? ⟨pb, 0, none⟩ = some x1 ∧ w1.cell? ⟨pb, 1, none⟩ = some x2 ∧ w1.cell? ⟨pb, 2, none⟩ = some x3 ∧ w1.cell? ⟨pb, 3, none⟩ = some x4 ∧ w1.cell? ⟨pb, 4, none⟩ = some x5 ∧ w1.cell? ⟨pb, 5, none⟩ = some x6 ∧ w1.cell? ⟨pb, 6, none⟩ = some x7 ∧ w1.cell? ⟨pc, 0, none⟩ = some x8 ∧ w1.cell? ⟨pc, 1, none⟩ = some x9 ∧ w1.cell? ⟨pc, 2, none⟩ = some x10 ∧ w1.cell? ⟨pc, 3, none⟩ = some x11 ∧ w1.cell? ⟨pc, 4, none⟩ = some x12 ∧ w1.cell? ⟨pc, 5, none⟩ = some x13 ∧ w1.cell? ⟨pc, 6, none⟩ = some x14) (hp : w.heap.size ≤ p) (ha : p ≠ pa) (hb : p ≠ pb) (hc : p ≠ pc) : Up w ((((((w1.setCell ⟨p, 0, none⟩ v0).setCell ⟨p, 1, none⟩ v1).setCell ⟨p, 2, none⟩ v2).setCell ⟨p, 3, none⟩ v3).setCell ⟨p, 4, none⟩ v4).setCell ⟨p, 5, none⟩ v5) ∧ ((((((w1.setCell ⟨p, 0, none⟩ v0).setCell ⟨p, 1, none⟩ v1).setCell ⟨p, 2, none⟩ v2).setCell ⟨p, 3, none⟩ v3).setCell ⟨p, 4, none⟩ v4).setCell ⟨p, 5, none⟩ v5).cell? ⟨pa, 0, none⟩ = some x0 ∧ ((((((w1.setCell ⟨p, 0, none⟩ v0).setCell ⟨p, 1, none⟩ v1).setCell ⟨p, 2, none⟩ v2).setCell ⟨p, 3, none⟩ v3).setCell ⟨p, 4, none⟩ v4).setCell ⟨p, 5, none⟩ v5).cell? ⟨pb, 0, none⟩ = some x1 ∧ ((((((w1.setCell ⟨p, 0, none⟩ v0).setCell ⟨p, 1, none⟩ v1).setCell ⟨p, 2, none⟩ v2).setCell ⟨p, 3, none⟩ v3).setCell ⟨p, 4, none⟩ v4).setCell ⟨p, 5, none⟩ v5).cell? ⟨pb, 1, none⟩ = some x2 ∧ ((((((w1.setCell ⟨p, 0, none⟩ v0).setCell ⟨p, 1, none⟩ v1).setCell ⟨p, 2, none⟩ v2).setCell ⟨p, 3, none⟩ v3).setCell ⟨p, 4, none⟩ v4).setCell ⟨p, 5, none⟩ v5).cell? ⟨pb, 2, none⟩ = some x3 ∧ ((((((w1.setCell ⟨p, 0, none⟩ v0).setCell ⟨p, 1, none⟩ v1).setCell ⟨p, 2, none⟩ v2).setCell ⟨p, 3, none⟩ v3).setCell ⟨p, 4, none⟩ v4).setCell ⟨p, 5, none⟩ v5).cell? ⟨pb, 3, none⟩ = some x4 ∧ ((((((w1.setCell ⟨p, 0, none⟩ v0).setCell ⟨p, 1, none⟩ v1).setCell ⟨p, 2, none⟩ v2).setCell ⟨p, 3, none⟩ v3).setCell ⟨p, 4, none⟩ v4).setCell ⟨p, 5, none⟩ v5).cell? ⟨pb, 4, none⟩ = some x5 ∧ ((((((w1.setCell ⟨p, 0, none⟩ v0).setCell ⟨p, 1, none⟩ v1).setCell ⟨p, 2, none⟩ v2).setCell ⟨p, 3, none⟩ v3).setCell ⟨p, 4, none⟩ v4).setCell ⟨p, 5, none⟩ v5).cell? ⟨pb, 5, none⟩ = some x6 ∧ ((((((w1.setCell ⟨p, 0, none⟩ v0).setCell ⟨p, 1, none⟩ v1).setCell ⟨p, 2, none⟩ v2).setCell ⟨p, 3, none⟩ v3).setCell ⟨p, 4, none⟩ v4).setCell ⟨p, 5, none⟩ v5).cell? ⟨pb, 6, none⟩ = some x7 ∧ ((((((w1.setCell ⟨p, 0, none⟩ v0).setCell ⟨p, 1, none⟩ v1).setCell ⟨p, 2, none⟩ v2).setCell ⟨p, 3, none⟩ v3).setCell ⟨p, 4, none⟩ v4).setCell ⟨p, 5, none⟩ v5).cell? ⟨pc, 0, none⟩ = some x8 ∧ ((((((w1.setCell ⟨p, 0, none⟩ v0).setCell ⟨p, 1, none⟩ v1).setCell ⟨p, 2, none⟩ v2).setCell ⟨p, 3, none⟩ v3).setCell ⟨p, 4, none⟩ v4).setCell ⟨p, 5, none⟩ v5).cell? ⟨pc, 1, none⟩ = some x9 ∧ ((((((w1.setCell ⟨p, 0, none⟩ v0).setCell ⟨p, 1, none⟩ v1).setCell ⟨p, 2, none⟩ v2).setCell ⟨p, 3, none⟩ v3).setCell ⟨p, 4, none⟩ v4).setCell ⟨p, 5, none⟩ v5).cell? ⟨pc, 2, none⟩ = some x10 ∧ ((((((w1.setCell ⟨p, 0, none⟩ v0).setCell ⟨p, 1, none⟩ v1).setCell ⟨p, 2, none⟩ v2).setCell ⟨p, 3, none⟩ v3).setCell ⟨p, 4, none⟩ v4).setCell ⟨p, 5, none⟩ v5).cell? ⟨pc, 3, none⟩ = some x11 ∧ ((((((w1.setCell ⟨p, 0, none⟩ v0).setCell ⟨p, 1, none⟩ v1).setCell ⟨p, 2, none⟩ v2).setCell ⟨p, 3, none⟩ v3).setCell ⟨p, 4, none⟩ v4).setCell ⟨p, 5, none⟩ v5).cell? ⟨pc, 4, none⟩ = some x12 ∧ ((((((w1.setCell ⟨p, 0, none⟩ v0).setCell ⟨p, 1, none⟩ v1).setCell ⟨p, 2, none⟩ v2).setCell ⟨p, 3, none⟩ v3).setCell ⟨p, 4, none⟩ v4).setCell ⟨p, 5, none⟩ v5).cell? ⟨pc, 5, none⟩ = some x13 ∧ ((((((w1.setCell ⟨p, 0, none⟩ v0).setCell ⟨p, 1, none⟩ v1).setCell ⟨p, 2, none⟩ v2).setCell ⟨p, 3, none⟩ v3).setCell ⟨p, 4, none⟩ v4).setCell ⟨p, 5, none⟩ v5).cell? ⟨pc, 6, none⟩ = some x14 :=
  ⟨h.1.set6 hp, far6 h.2.1 ha, far6 h.2.2.1 hb, far6 h.2.2.2.1 hb, far6 h.2.2.2.2.1 hb, far6 h.2.2.2.2.2.1 hb, far6 h.2.2.2.2.2.2.1 hb, far6 h.2.2.2.2.2.2.2.1 hb, far6 h.2.2.2.2.2.2.2.2.1 hb, far6 h.2.2.2.2.2.2.2.2.2.1 hc, far6 h.2.2.2.2.2.2.2.2.2.2.1 hc, far6 h.2.2.2.2.2.2.2.2.2.2.2.1 hc, far6 h.2.2.2.2.2.2.2.2.2.2.2.2.1 hc, far6 h.2.2.2.2.2.2.2.2.2.2.2.2.2.1 hc, far6 h.2.2.2.2.2.2.2.2.2.2.2.2.2.2.1 hc, far6 h.2.2.2.2.2.2.2.2.2.2.2.2.2.2.2 hc⟩
/-- Bounds between two whole numbers. -/
def bV (lo hi : Int) : Value := .agg #[.int .i64 (oz (decide (lo ≤ hi)) lo), .int .i64 (oz (decide (lo ≤ hi)) 1), .int .i64 (oz (decide (lo ≤ hi)) (mid lo hi)), .int .i64 (oz (decide (lo ≤ hi)) 1), .int .i64 (oz (decide (lo ≤ hi)) hi), .int .i64 (oz (decide (lo ≤ hi)) 1)]
def akM (ok : Bool) (p : Int × Int) : Value := if ok = true then .tuple #[bV p.1 p.2, .int .i64 0] else .tuple #[.agg #[.int .i64 0, .int .i64 0, .int .i64 0, .int .i64 0, .int .i64 0, .int .i64 0], .int .i64 2]
theorem bV_self (n : Int) : bV n n = .agg #[.int .i64 n, .int .i64 1, .int .i64 n, .int .i64 1, .int .i64 n, .int .i64 1] := by
  unfold bV mid
  rw [decide_eq_true (Int.le_refl n), show (n + n) / 2 = n by omega]
  rfl
theorem list_two' {X : List Mrk} (h : 1 < X.length) : ∃ T, X = X.getD 0 mk0 :: X.getD 1 mk0 :: T := by
  match X, h with
  | a :: b :: T, _ => exact ⟨T, rfl⟩
theorem list_one' {X : List Mrk} (h : 0 < X.length) : ∃ T, X = X.getD 0 mk0 :: T := by
  match X, h with
  | a :: T, _ => exact ⟨T, rfl⟩
/-- A valid state's first mark is live if it is the only one. -/
theorem one_live {g v q c now seq : Int} {X : List Mrk} (h : stM g v q c now seq X = true) (h1 : X.length = 1) : liveB now v (X.getD 0 mk0).t = true := by
  obtain ⟨hm, hx, _⟩ := stM_true h
  have hp := ((okB_pk hm).1 ((mrkB_true hx).2 0 (by omega))).1
  exact hp.2.2 (Or.inr h1)
theorem ofZ_in {g : Int} {m : Mrk} (h : bdM m) : In (ofZ g m) := by
  have := (bdM_of (g := g) h).1
  unfold In; omega

set_option maxHeartbeats 4000000 in
set_option maxRecDepth 100000 in
theorem ask13_bad (g v q c now seq : Int) (n k : Nat) (A : Option Addr) (X : List Mrk) (hn : n ≤ 50000) (hv : stM g v q c now seq X = false) (w : World) (hS : SG cM w A n X) :
    Calls Try.prog 25 #[.agg #[.int .i64 g, .int .i64 v, .int .i64 q, .int .i64 c, .int .i64 now, .int .i64 seq, .slice A n k]] w fun e w' => e = .returned (.tuple #[.agg #[.int .i64 0, .int .i64 0, .int .i64 0, .int .i64 0, .int .i64 0, .int .i64 0], .int .i64 2]) ∧ Up w w' := by
  have KV := Lib.hid (fun W (h : SG cM W A n X) => validate13_up g v q c now seq n k A X hn W h)
  rw [stME_no hv] at KV
  have HS := Lib.hid hS
  clear hS hv
  go_enter Try.func25, Try.ntmps25
  go_wp2_with (go_at_call 19; (with_reducible refine (KV.out _ (HS.out.up (((Up.refl w).alloc _ _).alloc _ _))).mono ?_); rintro e w1 ⟨rfl, hu⟩; have HW := Lib.hid ((((Up.refl w).alloc #[.int .i64 g, .int .i64 v, .int .i64 q, .int .i64 c, .int .i64 now, .int .i64 seq, .slice A n k] 26).alloc #[.int .i64 0, .int .i64 0, .int .i64 0, .int .i64 0, .int .i64 0, .int .i64 0] 42).trans hu); have a0 := hu.keep (w.heap.size) 0 (.int .i64 g) (by simp [go_sem]); have a1 := hu.keep (w.heap.size) 1 (.int .i64 v) (by simp [go_sem]); have a2 := hu.keep (w.heap.size) 2 (.int .i64 q) (by simp [go_sem]); have a3 := hu.keep (w.heap.size) 3 (.int .i64 c) (by simp [go_sem]); have a4 := hu.keep (w.heap.size) 4 (.int .i64 now) (by simp [go_sem]); have a5 := hu.keep (w.heap.size) 5 (.int .i64 seq) (by simp [go_sem]); have a6 := hu.keep (w.heap.size) 6 (.slice A n k) (by simp [go_sem]); have r0 := hu.keep (w.heap.size + 1) 0 (.int .i64 0) (by simp [go_sem]); have r1 := hu.keep (w.heap.size + 1) 1 (.int .i64 0) (by simp [go_sem]); have r2 := hu.keep (w.heap.size + 1) 2 (.int .i64 0) (by simp [go_sem]); have r3 := hu.keep (w.heap.size + 1) 3 (.int .i64 0) (by simp [go_sem]); have r4 := hu.keep (w.heap.size + 1) 4 (.int .i64 0) (by simp [go_sem]); have r5 := hu.keep (w.heap.size + 1) 5 (.int .i64 0) (by simp [go_sem]); have z0 := HW.out.ownGe (g := w.heap.size + 1) (by omega) 0; have z1 := HW.out.ownGe (g := w.heap.size + 1) (by omega) 1; have z2 := HW.out.ownGe (g := w.heap.size + 1) (by omega) 2; have z3 := HW.out.ownGe (g := w.heap.size + 1) (by omega) 3; have z4 := HW.out.ownGe (g := w.heap.size + 1) (by omega) 4; have z5 := HW.out.ownGe (g := w.heap.size + 1) (by omega) 5; clear hu)
  refine bodyPost_ret (v := .tuple #[.agg #[.int .i64 0, .int .i64 0, .int .i64 0, .int .i64 0, .int .i64 0, .int .i64 0], .int .i64 2]) (by simp [results, Try.results25, go_sem, r0, r1, r2, r3, r4, r5]) rfl ⟨rfl, ?_⟩
  exact HW.out.set6 (by omega)

set_option maxHeartbeats 4000000 in
set_option maxRecDepth 100000 in
theorem ask13_none (g v q c now seq : Int) (n k : Nat) (A : Option Addr) (X : List Mrk) (hn : n ≤ 50000) (hv : stM g v q c now seq X = true) (h0 : n = 0) (w : World) (hS : SG cM w A n X) :
    Calls Try.prog 25 #[.agg #[.int .i64 g, .int .i64 v, .int .i64 q, .int .i64 c, .int .i64 now, .int .i64 seq, .slice A n k]] w fun e w' => e = .returned (.tuple #[.agg #[.int .i64 0, .int .i64 1, .int .i64 0, .int .i64 1, .int .i64 0, .int .i64 1], .int .i64 0]) ∧ Up w w' := by
  have KV := Lib.hid (fun W (h : SG cM W A n X) => validate13_up g v q c now seq n k A X hn W h)
  rw [stME_yes hv] at KV
  have HS := Lib.hid hS
  have KO := Lib.hid (ofr_up 0)
  have KE := Lib.hid (bexact_up 0 1 ⟨by omega, by omega⟩ ⟨by omega, by omega⟩)
  rw [valid_one 0] at KE
  simp only [oz_yes] at KE
  clear hS hv
  subst h0
  go_enter Try.func25, Try.ntmps25
  go_wp2_with (first | (go_at_call 61; (with_reducible refine (KO.out _).mono ?_); rintro e w8 ⟨rfl, hu⟩; have HW := Lib.hid (HW.out.trans hu); have r0 := hu.keep _ _ _ r0; have r1 := hu.keep _ _ _ r1; have r2 := hu.keep _ _ _ r2; have r3 := hu.keep _ _ _ r3; have r4 := hu.keep _ _ _ r4; have r5 := hu.keep _ _ _ r5; have z0 := HW.out.ownGe (g := w.heap.size + 1) (by omega) 0; have z1 := HW.out.ownGe (g := w.heap.size + 1) (by omega) 1; have z2 := HW.out.ownGe (g := w.heap.size + 1) (by omega) 2; have z3 := HW.out.ownGe (g := w.heap.size + 1) (by omega) 3; have z4 := HW.out.ownGe (g := w.heap.size + 1) (by omega) 4; have z5 := HW.out.ownGe (g := w.heap.size + 1) (by omega) 5; clear hu) | (go_at_call 60; (with_reducible refine (KE.out _).mono ?_); rintro e w9 ⟨rfl, hu⟩; have HW := Lib.hid (HW.out.trans hu); have r0 := hu.keep _ _ _ r0; have r1 := hu.keep _ _ _ r1; have r2 := hu.keep _ _ _ r2; have r3 := hu.keep _ _ _ r3; have r4 := hu.keep _ _ _ r4; have r5 := hu.keep _ _ _ r5; have z0 := HW.out.ownGe (g := w.heap.size + 1) (by omega) 0; have z1 := HW.out.ownGe (g := w.heap.size + 1) (by omega) 1; have z2 := HW.out.ownGe (g := w.heap.size + 1) (by omega) 2; have z3 := HW.out.ownGe (g := w.heap.size + 1) (by omega) 3; have z4 := HW.out.ownGe (g := w.heap.size + 1) (by omega) 4; have z5 := HW.out.ownGe (g := w.heap.size + 1) (by omega) 5; clear hu) | (go_at_call 19; (with_reducible refine (KV.out _ (HS.out.up (((Up.refl w).alloc _ _).alloc _ _))).mono ?_); rintro e w1 ⟨rfl, hu⟩; have HW := Lib.hid ((((Up.refl w).alloc #[.int .i64 g, .int .i64 v, .int .i64 q, .int .i64 c, .int .i64 now, .int .i64 seq, .slice A 0 k] 26).alloc #[.int .i64 0, .int .i64 0, .int .i64 0, .int .i64 0, .int .i64 0, .int .i64 0] 42).trans hu); have a0 := hu.keep (w.heap.size) 0 (.int .i64 g) (by simp [go_sem]); have a1 := hu.keep (w.heap.size) 1 (.int .i64 v) (by simp [go_sem]); have a2 := hu.keep (w.heap.size) 2 (.int .i64 q) (by simp [go_sem]); have a3 := hu.keep (w.heap.size) 3 (.int .i64 c) (by simp [go_sem]); have a4 := hu.keep (w.heap.size) 4 (.int .i64 now) (by simp [go_sem]); have a5 := hu.keep (w.heap.size) 5 (.int .i64 seq) (by simp [go_sem]); have a6 := hu.keep (w.heap.size) 6 (.slice A 0 k) (by simp [go_sem]); have r0 := hu.keep (w.heap.size + 1) 0 (.int .i64 0) (by simp [go_sem]); have r1 := hu.keep (w.heap.size + 1) 1 (.int .i64 0) (by simp [go_sem]); have r2 := hu.keep (w.heap.size + 1) 2 (.int .i64 0) (by simp [go_sem]); have r3 := hu.keep (w.heap.size + 1) 3 (.int .i64 0) (by simp [go_sem]); have r4 := hu.keep (w.heap.size + 1) 4 (.int .i64 0) (by simp [go_sem]); have r5 := hu.keep (w.heap.size + 1) 5 (.int .i64 0) (by simp [go_sem]); have z0 := HW.out.ownGe (g := w.heap.size + 1) (by omega) 0; have z1 := HW.out.ownGe (g := w.heap.size + 1) (by omega) 1; have z2 := HW.out.ownGe (g := w.heap.size + 1) (by omega) 2; have z3 := HW.out.ownGe (g := w.heap.size + 1) (by omega) 3; have z4 := HW.out.ownGe (g := w.heap.size + 1) (by omega) 4; have z5 := HW.out.ownGe (g := w.heap.size + 1) (by omega) 5; clear hu))
  refine bodyPost_ret (v := .tuple #[.agg #[.int .i64 0, .int .i64 1, .int .i64 0, .int .i64 1, .int .i64 0, .int .i64 1], .int .i64 0]) (by simp [results, Try.results25, go_sem, r0, r1, r2, r3, r4, r5]) rfl ⟨rfl, ?_⟩
  exact HW.out.set6 (by omega)

set_option maxHeartbeats 4000000 in
set_option maxRecDepth 100000 in
theorem ask13_first (g v q c now seq : Int) (n k : Nat) (A : Option Addr) (X : List Mrk) (hn : n ≤ 50000) (hv : stM g v q c now seq X = true) (h0 : 0 < n) (hl : liveB now v (X.getD 0 mk0).t = true) (w : World) (hS : SG cM w A n X) :
    Calls Try.prog 25 #[.agg #[.int .i64 g, .int .i64 v, .int .i64 q, .int .i64 c, .int .i64 now, .int .i64 seq, .slice A n k]] w fun e w' => e = .returned (.tuple #[.agg #[.int .i64 (ofZ g (X.getD 0 mk0)), .int .i64 1, .int .i64 (ofZ g (X.getD 0 mk0)), .int .i64 1, .int .i64 (ofZ g (X.getD 0 mk0)), .int .i64 1], .int .i64 0]) ∧ Up w w' := by
  have KV := Lib.hid (fun W (h : SG cM W A n X) => validate13_up g v q c now seq n k A X hn W h)
  rw [stME_yes hv] at KV
  have HS := Lib.hid hS
  have HBd : Hid (∀ j, j < n → bdM (X.getD j mk0)) := Lib.hid (by
    obtain ⟨hm, hx, _⟩ := stM_true hv
    obtain ⟨g1, g2, hc, g4⟩ := mayC_facts (mayM_true hm).2
    obtain ⟨hs2, hok⟩ := mrkB_true hx
    exact fun j hj => (hok j (by rw [hS.1]; exact hj)).bd hc.2 hs2.2)
  clear hS hv
  obtain ⟨b, o, rfl, _⟩ := mrk_at HS.out mk0 h0
  have HD0 := Lib.hid (fun W (h : Up w W) => mrk_prev (HS.out.up h) h0)
  simp only [Nat.zero_mul, Nat.add_zero] at HD0
  have B1 := Lib.hid (HBd.out 0 h0)
  have f20 : (0 : Int) < n := by omega
  clear HBd
  generalize X.getD 0 mk0 = Ma at *
  obtain ⟨sq1, t1, nn1, s1, qq1, lo1, hi1⟩ := Ma
  simp only at HD0 hl
  have K1 := Lib.hid (of13_up g sq1 t1 nn1 s1 qq1 lo1 hi1 (bdM_of (g := g) B1.out).2.1 (bdM_of (g := g) B1.out).2.2)
  have hI1 := ofZ_in (g := g) B1.out
  have KO := Lib.hid (ofr_up (ofZ g ⟨sq1, t1, nn1, s1, qq1, lo1, hi1⟩))
  have KE := Lib.hid (bexact_up (ofZ g ⟨sq1, t1, nn1, s1, qq1, lo1, hi1⟩) 1 hI1 ⟨by omega, by omega⟩)
  rw [valid_one (ofZ g ⟨sq1, t1, nn1, s1, qq1, lo1, hi1⟩)] at KE
  simp only [oz_yes] at KE
  clear hI1
  generalize ofZ g ⟨sq1, t1, nn1, s1, qq1, lo1, hi1⟩ = y1 at *
  have KL := Lib.hid (isLive13_up g v q c now seq n k (some ⟨b, o, none⟩) sq1 t1 nn1 s1 qq1 lo1 hi1)
  rw [hl] at KL
  clear hl B1
  go_enter Try.func25, Try.ntmps25
  go_upto_region 6 with (go_at_call 19; (with_reducible refine (KV.out _ (HS.out.up (((Up.refl w).alloc _ _).alloc _ _))).mono ?_); rintro e w1 ⟨rfl, hu⟩; have HW := Lib.hid ((((Up.refl w).alloc #[.int .i64 g, .int .i64 v, .int .i64 q, .int .i64 c, .int .i64 now, .int .i64 seq, .slice (some ⟨b, o, none⟩) n k] 26).alloc #[.int .i64 0, .int .i64 0, .int .i64 0, .int .i64 0, .int .i64 0, .int .i64 0] 42).trans hu); have a0 := hu.keep (w.heap.size) 0 (.int .i64 g) (by simp [go_sem]); have a1 := hu.keep (w.heap.size) 1 (.int .i64 v) (by simp [go_sem]); have a2 := hu.keep (w.heap.size) 2 (.int .i64 q) (by simp [go_sem]); have a3 := hu.keep (w.heap.size) 3 (.int .i64 c) (by simp [go_sem]); have a4 := hu.keep (w.heap.size) 4 (.int .i64 now) (by simp [go_sem]); have a5 := hu.keep (w.heap.size) 5 (.int .i64 seq) (by simp [go_sem]); have a6 := hu.keep (w.heap.size) 6 (.slice (some ⟨b, o, none⟩) n k) (by simp [go_sem]); have r0 := hu.keep (w.heap.size + 1) 0 (.int .i64 0) (by simp [go_sem]); have r1 := hu.keep (w.heap.size + 1) 1 (.int .i64 0) (by simp [go_sem]); have r2 := hu.keep (w.heap.size + 1) 2 (.int .i64 0) (by simp [go_sem]); have r3 := hu.keep (w.heap.size + 1) 3 (.int .i64 0) (by simp [go_sem]); have r4 := hu.keep (w.heap.size + 1) 4 (.int .i64 0) (by simp [go_sem]); have r5 := hu.keep (w.heap.size + 1) 5 (.int .i64 0) (by simp [go_sem]); have z0 := HW.out.ownGe (g := w.heap.size + 1) (by omega) 0; have z1 := HW.out.ownGe (g := w.heap.size + 1) (by omega) 1; have z2 := HW.out.ownGe (g := w.heap.size + 1) (by omega) 2; have z3 := HW.out.ownGe (g := w.heap.size + 1) (by omega) 3; have z4 := HW.out.ownGe (g := w.heap.size + 1) (by omega) 4; have z5 := HW.out.ownGe (g := w.heap.size + 1) (by omega) 5; clear hu)
  obtain ⟨d0, d1, d2, d3, d4, d5, d6⟩ := HD0.out _ HW.out
  go_upto_region 7 with fail
  refine (show ∀ W2 : World, W2 = _ → Code.wp _ _ _ _ W2 from fun W2 hW2 => ?_) _ rfl
  have a0 : W2.cell? ⟨w.heap.size, 0, none⟩ = some (.int .i64 g) := by rw [hW2]; exact ((Up.refl _).alloc _ _).keep _ _ _ a0
  have a1 : W2.cell? ⟨w.heap.size, 1, none⟩ = some (.int .i64 v) := by rw [hW2]; exact ((Up.refl _).alloc _ _).keep _ _ _ a1
  have a2 : W2.cell? ⟨w.heap.size, 2, none⟩ = some (.int .i64 q) := by rw [hW2]; exact ((Up.refl _).alloc _ _).keep _ _ _ a2
  have a3 : W2.cell? ⟨w.heap.size, 3, none⟩ = some (.int .i64 c) := by rw [hW2]; exact ((Up.refl _).alloc _ _).keep _ _ _ a3
  have a4 : W2.cell? ⟨w.heap.size, 4, none⟩ = some (.int .i64 now) := by rw [hW2]; exact ((Up.refl _).alloc _ _).keep _ _ _ a4
  have a5 : W2.cell? ⟨w.heap.size, 5, none⟩ = some (.int .i64 seq) := by rw [hW2]; exact ((Up.refl _).alloc _ _).keep _ _ _ a5
  have a6 : W2.cell? ⟨w.heap.size, 6, none⟩ = some (.slice (some ⟨b, o, none⟩) n k) := by rw [hW2]; exact ((Up.refl _).alloc _ _).keep _ _ _ a6
  have r0 : W2.cell? ⟨w.heap.size + 1, 0, none⟩ = some (.int .i64 0) := by rw [hW2]; exact ((Up.refl _).alloc _ _).keep _ _ _ r0
  have r1 : W2.cell? ⟨w.heap.size + 1, 1, none⟩ = some (.int .i64 0) := by rw [hW2]; exact ((Up.refl _).alloc _ _).keep _ _ _ r1
  have r2 : W2.cell? ⟨w.heap.size + 1, 2, none⟩ = some (.int .i64 0) := by rw [hW2]; exact ((Up.refl _).alloc _ _).keep _ _ _ r2
  have r3 : W2.cell? ⟨w.heap.size + 1, 3, none⟩ = some (.int .i64 0) := by rw [hW2]; exact ((Up.refl _).alloc _ _).keep _ _ _ r3
  have r4 : W2.cell? ⟨w.heap.size + 1, 4, none⟩ = some (.int .i64 0) := by rw [hW2]; exact ((Up.refl _).alloc _ _).keep _ _ _ r4
  have r5 : W2.cell? ⟨w.heap.size + 1, 5, none⟩ = some (.int .i64 0) := by rw [hW2]; exact ((Up.refl _).alloc _ _).keep _ _ _ r5
  have m0 : W2.cell? ⟨w1.heap.size, 0, none⟩ = some (.int .i64 sq1) := by rw [hW2]; simp [go_sem]
  have m1 : W2.cell? ⟨w1.heap.size, 1, none⟩ = some (.int .i64 t1) := by rw [hW2]; simp [go_sem]
  have m2 : W2.cell? ⟨w1.heap.size, 2, none⟩ = some (.int .i64 nn1) := by rw [hW2]; simp [go_sem]
  have m3 : W2.cell? ⟨w1.heap.size, 3, none⟩ = some (.int .i64 s1) := by rw [hW2]; simp [go_sem]
  have m4 : W2.cell? ⟨w1.heap.size, 4, none⟩ = some (.int .i64 qq1) := by rw [hW2]; simp [go_sem]
  have m5 : W2.cell? ⟨w1.heap.size, 5, none⟩ = some (.int .i64 lo1) := by rw [hW2]; simp [go_sem]
  have m6 : W2.cell? ⟨w1.heap.size, 6, none⟩ = some (.int .i64 hi1) := by rw [hW2]; simp [go_sem]
  have HW : Hid (Up w W2) := Lib.hid (by rw [hW2]; exact HW.out.alloc _ _)
  have hp1 := World.block_lt_of_cell? _ _ m0
  have z0 := HW.out.ownGe (g := w.heap.size + 1) (by omega) 0
  have z1 := HW.out.ownGe (g := w.heap.size + 1) (by omega) 1
  have z2 := HW.out.ownGe (g := w.heap.size + 1) (by omega) 2
  have z3 := HW.out.ownGe (g := w.heap.size + 1) (by omega) 3
  have z4 := HW.out.ownGe (g := w.heap.size + 1) (by omega) 4
  have z5 := HW.out.ownGe (g := w.heap.size + 1) (by omega) 5
  clear hW2 d0 d1 d2 d3 d4 d5 d6
  generalize w1.heap.size = p1 at *
  go_wp2_with (first | (go_at_call 51; (with_reducible refine (KL.out _).mono ?_); rintro e w3 ⟨rfl, hu⟩; have HW := Lib.hid (HW.out.trans hu); have a0 := hu.keep _ _ _ a0; have m0 := hu.keep _ _ _ m0; have m1 := hu.keep _ _ _ m1; have m2 := hu.keep _ _ _ m2; have m3 := hu.keep _ _ _ m3; have m4 := hu.keep _ _ _ m4; have m5 := hu.keep _ _ _ m5; have m6 := hu.keep _ _ _ m6; have r0 := hu.keep _ _ _ r0; have r1 := hu.keep _ _ _ r1; have r2 := hu.keep _ _ _ r2; have r3 := hu.keep _ _ _ r3; have r4 := hu.keep _ _ _ r4; have r5 := hu.keep _ _ _ r5; have z0 := HW.out.ownGe (g := w.heap.size + 1) (by omega) 0; have z1 := HW.out.ownGe (g := w.heap.size + 1) (by omega) 1; have z2 := HW.out.ownGe (g := w.heap.size + 1) (by omega) 2; have z3 := HW.out.ownGe (g := w.heap.size + 1) (by omega) 3; have z4 := HW.out.ownGe (g := w.heap.size + 1) (by omega) 4; have z5 := HW.out.ownGe (g := w.heap.size + 1) (by omega) 5; clear hu) | (go_at_call 13; (with_reducible refine (K1.out _).mono ?_); rintro e w4 ⟨rfl, hu⟩; have HW := Lib.hid (HW.out.trans hu); have r0 := hu.keep _ _ _ r0; have r1 := hu.keep _ _ _ r1; have r2 := hu.keep _ _ _ r2; have r3 := hu.keep _ _ _ r3; have r4 := hu.keep _ _ _ r4; have r5 := hu.keep _ _ _ r5; have z0 := HW.out.ownGe (g := w.heap.size + 1) (by omega) 0; have z1 := HW.out.ownGe (g := w.heap.size + 1) (by omega) 1; have z2 := HW.out.ownGe (g := w.heap.size + 1) (by omega) 2; have z3 := HW.out.ownGe (g := w.heap.size + 1) (by omega) 3; have z4 := HW.out.ownGe (g := w.heap.size + 1) (by omega) 4; have z5 := HW.out.ownGe (g := w.heap.size + 1) (by omega) 5; clear hu) | (go_at_call 61; (with_reducible refine (KO.out _).mono ?_); rintro e w8 ⟨rfl, hu⟩; have HW := Lib.hid (HW.out.trans hu); have r0 := hu.keep _ _ _ r0; have r1 := hu.keep _ _ _ r1; have r2 := hu.keep _ _ _ r2; have r3 := hu.keep _ _ _ r3; have r4 := hu.keep _ _ _ r4; have r5 := hu.keep _ _ _ r5; have z0 := HW.out.ownGe (g := w.heap.size + 1) (by omega) 0; have z1 := HW.out.ownGe (g := w.heap.size + 1) (by omega) 1; have z2 := HW.out.ownGe (g := w.heap.size + 1) (by omega) 2; have z3 := HW.out.ownGe (g := w.heap.size + 1) (by omega) 3; have z4 := HW.out.ownGe (g := w.heap.size + 1) (by omega) 4; have z5 := HW.out.ownGe (g := w.heap.size + 1) (by omega) 5; clear hu) | (go_at_call 60; (with_reducible refine (KE.out _).mono ?_); rintro e w9 ⟨rfl, hu⟩; have HW := Lib.hid (HW.out.trans hu); have r0 := hu.keep _ _ _ r0; have r1 := hu.keep _ _ _ r1; have r2 := hu.keep _ _ _ r2; have r3 := hu.keep _ _ _ r3; have r4 := hu.keep _ _ _ r4; have r5 := hu.keep _ _ _ r5; have z0 := HW.out.ownGe (g := w.heap.size + 1) (by omega) 0; have z1 := HW.out.ownGe (g := w.heap.size + 1) (by omega) 1; have z2 := HW.out.ownGe (g := w.heap.size + 1) (by omega) 2; have z3 := HW.out.ownGe (g := w.heap.size + 1) (by omega) 3; have z4 := HW.out.ownGe (g := w.heap.size + 1) (by omega) 4; have z5 := HW.out.ownGe (g := w.heap.size + 1) (by omega) 5; clear hu))
  refine bodyPost_ret (v := .tuple #[.agg #[.int .i64 y1, .int .i64 1, .int .i64 y1, .int .i64 1, .int .i64 y1, .int .i64 1], .int .i64 0]) (by simp [results, Try.results25, go_sem, r0, r1, r2, r3, r4, r5]) rfl ⟨rfl, ?_⟩
  exact HW.out.set6 (by omega)

set_option maxHeartbeats 4000000 in
set_option maxRecDepth 100000 in
theorem ask13_second (g v q c now seq : Int) (n k : Nat) (A : Option Addr) (X : List Mrk) (hn : n ≤ 50000) (hv : stM g v q c now seq X = true) (h1 : 1 < n) (hl : liveB now v (X.getD 0 mk0).t = false) (hq : (X.getD 1 mk0).sq = (X.getD 0 mk0).sq + 1) (w : World) (hS : SG cM w A n X) :
    Calls Try.prog 25 #[.agg #[.int .i64 g, .int .i64 v, .int .i64 q, .int .i64 c, .int .i64 now, .int .i64 seq, .slice A n k]] w fun e w' => e = .returned (.tuple #[.agg #[.int .i64 (ofZ g (X.getD 1 mk0)), .int .i64 1, .int .i64 (ofZ g (X.getD 1 mk0)), .int .i64 1, .int .i64 (ofZ g (X.getD 1 mk0)), .int .i64 1], .int .i64 0]) ∧ Up w w' := by
  have KV := Lib.hid (fun W (h : SG cM W A n X) => validate13_up g v q c now seq n k A X hn W h)
  rw [stME_yes hv] at KV
  have HS := Lib.hid hS
  have HBd : Hid (∀ j, j < n → bdM (X.getD j mk0)) := Lib.hid (by
    obtain ⟨hm, hx, _⟩ := stM_true hv
    obtain ⟨g1, g2, hc, g4⟩ := mayC_facts (mayM_true hm).2
    obtain ⟨hs2, hok⟩ := mrkB_true hx
    exact fun j hj => (hok j (by rw [hS.1]; exact hj)).bd hc.2 hs2.2)
  clear hS hv
  have h0 : 0 < n := by omega
  obtain ⟨b, o, rfl, _⟩ := mrk_at HS.out mk0 h0
  have HD0 := Lib.hid (fun W (h : Up w W) => mrk_prev (HS.out.up h) h0)
  simp only [Nat.zero_mul, Nat.add_zero] at HD0
  have B1 := Lib.hid (HBd.out 0 h0)
  have f20 : (0 : Int) < n := by omega
  have HD1 := Lib.hid (fun W (h : Up w W) => mrk_prev (HS.out.up h) h1)
  simp only [Nat.one_mul] at HD1
  have B2 := Lib.hid (HBd.out 1 h1)
  have f21 : (1 : Int) < n := by omega
  clear HBd
  generalize X.getD 1 mk0 = Mb at *
  generalize X.getD 0 mk0 = Ma at *
  obtain ⟨sq1, t1, nn1, s1, qq1, lo1, hi1⟩ := Ma
  obtain ⟨sq2, t2, nn2, s2, qq2, lo2, hi2⟩ := Mb
  simp only at HD0 HD1 hl hq
  have u1 := B1.out.2.2.2.2.2
  simp only at u1
  have w1_ : IntKind.i64.wrap (sq1 + 1) = sq1 + 1 := by rw [IntKind.wrap_i64]; omega
  clear u1
  subst hq
  have K2 := Lib.hid (of13_up g (sq1 + 1) t2 nn2 s2 qq2 lo2 hi2 (bdM_of (g := g) B2.out).2.1 (bdM_of (g := g) B2.out).2.2)
  have hI2 := ofZ_in (g := g) B2.out
  have KO := Lib.hid (ofr_up (ofZ g ⟨(sq1 + 1), t2, nn2, s2, qq2, lo2, hi2⟩))
  have KE := Lib.hid (bexact_up (ofZ g ⟨(sq1 + 1), t2, nn2, s2, qq2, lo2, hi2⟩) 1 hI2 ⟨by omega, by omega⟩)
  rw [valid_one (ofZ g ⟨(sq1 + 1), t2, nn2, s2, qq2, lo2, hi2⟩)] at KE
  simp only [oz_yes] at KE
  clear hI2
  generalize ofZ g ⟨(sq1 + 1), t2, nn2, s2, qq2, lo2, hi2⟩ = y2 at *
  have KL := Lib.hid (isLive13_up g v q c now seq n k (some ⟨b, o, none⟩) sq1 t1 nn1 s1 qq1 lo1 hi1)
  rw [hl] at KL
  clear hl B1 B2
  go_enter Try.func25, Try.ntmps25
  go_upto_region 6 with (go_at_call 19; (with_reducible refine (KV.out _ (HS.out.up (((Up.refl w).alloc _ _).alloc _ _))).mono ?_); rintro e w1 ⟨rfl, hu⟩; have HW := Lib.hid ((((Up.refl w).alloc #[.int .i64 g, .int .i64 v, .int .i64 q, .int .i64 c, .int .i64 now, .int .i64 seq, .slice (some ⟨b, o, none⟩) n k] 26).alloc #[.int .i64 0, .int .i64 0, .int .i64 0, .int .i64 0, .int .i64 0, .int .i64 0] 42).trans hu); have a0 := hu.keep (w.heap.size) 0 (.int .i64 g) (by simp [go_sem]); have a1 := hu.keep (w.heap.size) 1 (.int .i64 v) (by simp [go_sem]); have a2 := hu.keep (w.heap.size) 2 (.int .i64 q) (by simp [go_sem]); have a3 := hu.keep (w.heap.size) 3 (.int .i64 c) (by simp [go_sem]); have a4 := hu.keep (w.heap.size) 4 (.int .i64 now) (by simp [go_sem]); have a5 := hu.keep (w.heap.size) 5 (.int .i64 seq) (by simp [go_sem]); have a6 := hu.keep (w.heap.size) 6 (.slice (some ⟨b, o, none⟩) n k) (by simp [go_sem]); have r0 := hu.keep (w.heap.size + 1) 0 (.int .i64 0) (by simp [go_sem]); have r1 := hu.keep (w.heap.size + 1) 1 (.int .i64 0) (by simp [go_sem]); have r2 := hu.keep (w.heap.size + 1) 2 (.int .i64 0) (by simp [go_sem]); have r3 := hu.keep (w.heap.size + 1) 3 (.int .i64 0) (by simp [go_sem]); have r4 := hu.keep (w.heap.size + 1) 4 (.int .i64 0) (by simp [go_sem]); have r5 := hu.keep (w.heap.size + 1) 5 (.int .i64 0) (by simp [go_sem]); have z0 := HW.out.ownGe (g := w.heap.size + 1) (by omega) 0; have z1 := HW.out.ownGe (g := w.heap.size + 1) (by omega) 1; have z2 := HW.out.ownGe (g := w.heap.size + 1) (by omega) 2; have z3 := HW.out.ownGe (g := w.heap.size + 1) (by omega) 3; have z4 := HW.out.ownGe (g := w.heap.size + 1) (by omega) 4; have z5 := HW.out.ownGe (g := w.heap.size + 1) (by omega) 5; clear hu)
  obtain ⟨d0, d1, d2, d3, d4, d5, d6⟩ := HD0.out _ HW.out
  go_upto_region 7 with fail
  refine (show ∀ W2 : World, W2 = _ → Code.wp _ _ _ _ W2 from fun W2 hW2 => ?_) _ rfl
  have a0 : W2.cell? ⟨w.heap.size, 0, none⟩ = some (.int .i64 g) := by rw [hW2]; exact ((Up.refl _).alloc _ _).keep _ _ _ a0
  have a1 : W2.cell? ⟨w.heap.size, 1, none⟩ = some (.int .i64 v) := by rw [hW2]; exact ((Up.refl _).alloc _ _).keep _ _ _ a1
  have a2 : W2.cell? ⟨w.heap.size, 2, none⟩ = some (.int .i64 q) := by rw [hW2]; exact ((Up.refl _).alloc _ _).keep _ _ _ a2
  have a3 : W2.cell? ⟨w.heap.size, 3, none⟩ = some (.int .i64 c) := by rw [hW2]; exact ((Up.refl _).alloc _ _).keep _ _ _ a3
  have a4 : W2.cell? ⟨w.heap.size, 4, none⟩ = some (.int .i64 now) := by rw [hW2]; exact ((Up.refl _).alloc _ _).keep _ _ _ a4
  have a5 : W2.cell? ⟨w.heap.size, 5, none⟩ = some (.int .i64 seq) := by rw [hW2]; exact ((Up.refl _).alloc _ _).keep _ _ _ a5
  have a6 : W2.cell? ⟨w.heap.size, 6, none⟩ = some (.slice (some ⟨b, o, none⟩) n k) := by rw [hW2]; exact ((Up.refl _).alloc _ _).keep _ _ _ a6
  have r0 : W2.cell? ⟨w.heap.size + 1, 0, none⟩ = some (.int .i64 0) := by rw [hW2]; exact ((Up.refl _).alloc _ _).keep _ _ _ r0
  have r1 : W2.cell? ⟨w.heap.size + 1, 1, none⟩ = some (.int .i64 0) := by rw [hW2]; exact ((Up.refl _).alloc _ _).keep _ _ _ r1
  have r2 : W2.cell? ⟨w.heap.size + 1, 2, none⟩ = some (.int .i64 0) := by rw [hW2]; exact ((Up.refl _).alloc _ _).keep _ _ _ r2
  have r3 : W2.cell? ⟨w.heap.size + 1, 3, none⟩ = some (.int .i64 0) := by rw [hW2]; exact ((Up.refl _).alloc _ _).keep _ _ _ r3
  have r4 : W2.cell? ⟨w.heap.size + 1, 4, none⟩ = some (.int .i64 0) := by rw [hW2]; exact ((Up.refl _).alloc _ _).keep _ _ _ r4
  have r5 : W2.cell? ⟨w.heap.size + 1, 5, none⟩ = some (.int .i64 0) := by rw [hW2]; exact ((Up.refl _).alloc _ _).keep _ _ _ r5
  have m0 : W2.cell? ⟨w1.heap.size, 0, none⟩ = some (.int .i64 sq1) := by rw [hW2]; simp [go_sem]
  have m1 : W2.cell? ⟨w1.heap.size, 1, none⟩ = some (.int .i64 t1) := by rw [hW2]; simp [go_sem]
  have m2 : W2.cell? ⟨w1.heap.size, 2, none⟩ = some (.int .i64 nn1) := by rw [hW2]; simp [go_sem]
  have m3 : W2.cell? ⟨w1.heap.size, 3, none⟩ = some (.int .i64 s1) := by rw [hW2]; simp [go_sem]
  have m4 : W2.cell? ⟨w1.heap.size, 4, none⟩ = some (.int .i64 qq1) := by rw [hW2]; simp [go_sem]
  have m5 : W2.cell? ⟨w1.heap.size, 5, none⟩ = some (.int .i64 lo1) := by rw [hW2]; simp [go_sem]
  have m6 : W2.cell? ⟨w1.heap.size, 6, none⟩ = some (.int .i64 hi1) := by rw [hW2]; simp [go_sem]
  have HW : Hid (Up w W2) := Lib.hid (by rw [hW2]; exact HW.out.alloc _ _)
  have hp1 := World.block_lt_of_cell? _ _ m0
  have z0 := HW.out.ownGe (g := w.heap.size + 1) (by omega) 0
  have z1 := HW.out.ownGe (g := w.heap.size + 1) (by omega) 1
  have z2 := HW.out.ownGe (g := w.heap.size + 1) (by omega) 2
  have z3 := HW.out.ownGe (g := w.heap.size + 1) (by omega) 3
  have z4 := HW.out.ownGe (g := w.heap.size + 1) (by omega) 4
  have z5 := HW.out.ownGe (g := w.heap.size + 1) (by omega) 5
  clear hW2 d0 d1 d2 d3 d4 d5 d6
  generalize w1.heap.size = p1 at *
  go_upto_region 10 with (go_at_call 51; (with_reducible refine (KL.out _).mono ?_); rintro e w3 ⟨rfl, hu⟩; have HW := Lib.hid (HW.out.trans hu); have a0 := hu.keep _ _ _ a0; have a6 := hu.keep _ _ _ a6; have m0 := hu.keep _ _ _ m0; have m1 := hu.keep _ _ _ m1; have m2 := hu.keep _ _ _ m2; have m3 := hu.keep _ _ _ m3; have m4 := hu.keep _ _ _ m4; have m5 := hu.keep _ _ _ m5; have m6 := hu.keep _ _ _ m6; have r0 := hu.keep _ _ _ r0; have r1 := hu.keep _ _ _ r1; have r2 := hu.keep _ _ _ r2; have r3 := hu.keep _ _ _ r3; have r4 := hu.keep _ _ _ r4; have r5 := hu.keep _ _ _ r5; have z0 := HW.out.ownGe (g := w.heap.size + 1) (by omega) 0; have z1 := HW.out.ownGe (g := w.heap.size + 1) (by omega) 1; have z2 := HW.out.ownGe (g := w.heap.size + 1) (by omega) 2; have z3 := HW.out.ownGe (g := w.heap.size + 1) (by omega) 3; have z4 := HW.out.ownGe (g := w.heap.size + 1) (by omega) 4; have z5 := HW.out.ownGe (g := w.heap.size + 1) (by omega) 5; obtain ⟨d0, d1, d2, d3, d4, d5, d6⟩ := HD1.out _ HW.out; clear hu)
  refine (show ∀ W5 : World, W5 = _ → Code.wp _ _ _ _ W5 from fun W5 hW5 => ?_) _ rfl
  have a0 : W5.cell? ⟨w.heap.size, 0, none⟩ = some (.int .i64 g) := by rw [hW5]; exact ((Up.refl _).alloc _ _).keep _ _ _ a0
  have r0 : W5.cell? ⟨w.heap.size + 1, 0, none⟩ = some (.int .i64 0) := by rw [hW5]; exact ((Up.refl _).alloc _ _).keep _ _ _ r0
  have r1 : W5.cell? ⟨w.heap.size + 1, 1, none⟩ = some (.int .i64 0) := by rw [hW5]; exact ((Up.refl _).alloc _ _).keep _ _ _ r1
  have r2 : W5.cell? ⟨w.heap.size + 1, 2, none⟩ = some (.int .i64 0) := by rw [hW5]; exact ((Up.refl _).alloc _ _).keep _ _ _ r2
  have r3 : W5.cell? ⟨w.heap.size + 1, 3, none⟩ = some (.int .i64 0) := by rw [hW5]; exact ((Up.refl _).alloc _ _).keep _ _ _ r3
  have r4 : W5.cell? ⟨w.heap.size + 1, 4, none⟩ = some (.int .i64 0) := by rw [hW5]; exact ((Up.refl _).alloc _ _).keep _ _ _ r4
  have r5 : W5.cell? ⟨w.heap.size + 1, 5, none⟩ = some (.int .i64 0) := by rw [hW5]; exact ((Up.refl _).alloc _ _).keep _ _ _ r5
  have m0 : W5.cell? ⟨p1, 0, none⟩ = some (.int .i64 sq1) := by rw [hW5]; exact ((Up.refl _).alloc _ _).keep _ _ _ m0
  have m1 : W5.cell? ⟨p1, 1, none⟩ = some (.int .i64 t1) := by rw [hW5]; exact ((Up.refl _).alloc _ _).keep _ _ _ m1
  have m2 : W5.cell? ⟨p1, 2, none⟩ = some (.int .i64 nn1) := by rw [hW5]; exact ((Up.refl _).alloc _ _).keep _ _ _ m2
  have m3 : W5.cell? ⟨p1, 3, none⟩ = some (.int .i64 s1) := by rw [hW5]; exact ((Up.refl _).alloc _ _).keep _ _ _ m3
  have m4 : W5.cell? ⟨p1, 4, none⟩ = some (.int .i64 qq1) := by rw [hW5]; exact ((Up.refl _).alloc _ _).keep _ _ _ m4
  have m5 : W5.cell? ⟨p1, 5, none⟩ = some (.int .i64 lo1) := by rw [hW5]; exact ((Up.refl _).alloc _ _).keep _ _ _ m5
  have m6 : W5.cell? ⟨p1, 6, none⟩ = some (.int .i64 hi1) := by rw [hW5]; exact ((Up.refl _).alloc _ _).keep _ _ _ m6
  have e0 : W5.cell? ⟨w3.heap.size, 0, none⟩ = some (.int .i64 (sq1 + 1)) := by rw [hW5]; simp [go_sem]
  have e1 : W5.cell? ⟨w3.heap.size, 1, none⟩ = some (.int .i64 t2) := by rw [hW5]; simp [go_sem]
  have e2 : W5.cell? ⟨w3.heap.size, 2, none⟩ = some (.int .i64 nn2) := by rw [hW5]; simp [go_sem]
  have e3 : W5.cell? ⟨w3.heap.size, 3, none⟩ = some (.int .i64 s2) := by rw [hW5]; simp [go_sem]
  have e4 : W5.cell? ⟨w3.heap.size, 4, none⟩ = some (.int .i64 qq2) := by rw [hW5]; simp [go_sem]
  have e5 : W5.cell? ⟨w3.heap.size, 5, none⟩ = some (.int .i64 lo2) := by rw [hW5]; simp [go_sem]
  have e6 : W5.cell? ⟨w3.heap.size, 6, none⟩ = some (.int .i64 hi2) := by rw [hW5]; simp [go_sem]
  have HW : Hid (Up w W5) := Lib.hid (by rw [hW5]; exact HW.out.alloc _ _)
  have hp2 := World.block_lt_of_cell? _ _ e0
  have z0 := HW.out.ownGe (g := w.heap.size + 1) (by omega) 0
  have z1 := HW.out.ownGe (g := w.heap.size + 1) (by omega) 1
  have z2 := HW.out.ownGe (g := w.heap.size + 1) (by omega) 2
  have z3 := HW.out.ownGe (g := w.heap.size + 1) (by omega) 3
  have z4 := HW.out.ownGe (g := w.heap.size + 1) (by omega) 4
  have z5 := HW.out.ownGe (g := w.heap.size + 1) (by omega) 5
  clear hW5 d0 d1 d2 d3 d4 d5 d6
  generalize w3.heap.size = p2 at *
  go_wp2_with (first | (go_at_call 13; (with_reducible refine (K2.out _).mono ?_); rintro e w6 ⟨rfl, hu⟩; have HW := Lib.hid (HW.out.trans hu); have r0 := hu.keep _ _ _ r0; have r1 := hu.keep _ _ _ r1; have r2 := hu.keep _ _ _ r2; have r3 := hu.keep _ _ _ r3; have r4 := hu.keep _ _ _ r4; have r5 := hu.keep _ _ _ r5; have z0 := HW.out.ownGe (g := w.heap.size + 1) (by omega) 0; have z1 := HW.out.ownGe (g := w.heap.size + 1) (by omega) 1; have z2 := HW.out.ownGe (g := w.heap.size + 1) (by omega) 2; have z3 := HW.out.ownGe (g := w.heap.size + 1) (by omega) 3; have z4 := HW.out.ownGe (g := w.heap.size + 1) (by omega) 4; have z5 := HW.out.ownGe (g := w.heap.size + 1) (by omega) 5; clear hu) | (go_at_call 61; (with_reducible refine (KO.out _).mono ?_); rintro e w8 ⟨rfl, hu⟩; have HW := Lib.hid (HW.out.trans hu); have r0 := hu.keep _ _ _ r0; have r1 := hu.keep _ _ _ r1; have r2 := hu.keep _ _ _ r2; have r3 := hu.keep _ _ _ r3; have r4 := hu.keep _ _ _ r4; have r5 := hu.keep _ _ _ r5; have z0 := HW.out.ownGe (g := w.heap.size + 1) (by omega) 0; have z1 := HW.out.ownGe (g := w.heap.size + 1) (by omega) 1; have z2 := HW.out.ownGe (g := w.heap.size + 1) (by omega) 2; have z3 := HW.out.ownGe (g := w.heap.size + 1) (by omega) 3; have z4 := HW.out.ownGe (g := w.heap.size + 1) (by omega) 4; have z5 := HW.out.ownGe (g := w.heap.size + 1) (by omega) 5; clear hu) | (go_at_call 60; (with_reducible refine (KE.out _).mono ?_); rintro e w9 ⟨rfl, hu⟩; have HW := Lib.hid (HW.out.trans hu); have r0 := hu.keep _ _ _ r0; have r1 := hu.keep _ _ _ r1; have r2 := hu.keep _ _ _ r2; have r3 := hu.keep _ _ _ r3; have r4 := hu.keep _ _ _ r4; have r5 := hu.keep _ _ _ r5; have z0 := HW.out.ownGe (g := w.heap.size + 1) (by omega) 0; have z1 := HW.out.ownGe (g := w.heap.size + 1) (by omega) 1; have z2 := HW.out.ownGe (g := w.heap.size + 1) (by omega) 2; have z3 := HW.out.ownGe (g := w.heap.size + 1) (by omega) 3; have z4 := HW.out.ownGe (g := w.heap.size + 1) (by omega) 4; have z5 := HW.out.ownGe (g := w.heap.size + 1) (by omega) 5; clear hu))
  refine bodyPost_ret (v := .tuple #[.agg #[.int .i64 y2, .int .i64 1, .int .i64 y2, .int .i64 1, .int .i64 y2, .int .i64 1], .int .i64 0]) (by simp [results, Try.results25, go_sem, r0, r1, r2, r3, r4, r5]) rfl ⟨rfl, ?_⟩
  exact HW.out.set6 (by omega)

set_option maxHeartbeats 4000000 in
set_option maxRecDepth 100000 in
theorem ask13_whole (g v q c now seq : Int) (n k : Nat) (A : Option Addr) (X : List Mrk) (hn : n ≤ 50000) (hv : stM g v q c now seq X = true) (h1 : 1 < n) (hl : liveB now v (X.getD 0 mk0).t = false) (hq : ¬ (X.getD 1 mk0).sq = (X.getD 0 mk0).sq + 1) (w : World) (hS : SG cM w A n X) :
    Calls Try.prog 25 #[.agg #[.int .i64 g, .int .i64 v, .int .i64 q, .int .i64 c, .int .i64 now, .int .i64 seq, .slice A n k]] w fun e w' => e = .returned (.tuple #[bV (ofZ g (X.getD 1 mk0)) (ofZ g (X.getD 0 mk0)), .int .i64 0]) ∧ Up w w' := by
  have KV := Lib.hid (fun W (h : SG cM W A n X) => validate13_up g v q c now seq n k A X hn W h)
  rw [stME_yes hv] at KV
  have HS := Lib.hid hS
  have HBd : Hid (∀ j, j < n → bdM (X.getD j mk0)) := Lib.hid (by
    obtain ⟨hm, hx, _⟩ := stM_true hv
    obtain ⟨g1, g2, hc, g4⟩ := mayC_facts (mayM_true hm).2
    obtain ⟨hs2, hok⟩ := mrkB_true hx
    exact fun j hj => (hok j (by rw [hS.1]; exact hj)).bd hc.2 hs2.2)
  clear hS hv
  have h0 : 0 < n := by omega
  obtain ⟨b, o, rfl, _⟩ := mrk_at HS.out mk0 h0
  have HD0 := Lib.hid (fun W (h : Up w W) => mrk_prev (HS.out.up h) h0)
  simp only [Nat.zero_mul, Nat.add_zero] at HD0
  have B1 := Lib.hid (HBd.out 0 h0)
  have f20 : (0 : Int) < n := by omega
  have HD1 := Lib.hid (fun W (h : Up w W) => mrk_prev (HS.out.up h) h1)
  simp only [Nat.one_mul] at HD1
  have B2 := Lib.hid (HBd.out 1 h1)
  have f21 : (1 : Int) < n := by omega
  clear HBd
  generalize X.getD 1 mk0 = Mb at *
  generalize X.getD 0 mk0 = Ma at *
  obtain ⟨sq1, t1, nn1, s1, qq1, lo1, hi1⟩ := Ma
  obtain ⟨sq2, t2, nn2, s2, qq2, lo2, hi2⟩ := Mb
  simp only at HD0 HD1 hl hq
  have u1 := B1.out.2.2.2.2.2
  simp only at u1
  have w1_ : IntKind.i64.wrap (sq1 + 1) = sq1 + 1 := by rw [IntKind.wrap_i64]; omega
  clear u1
  have K1 := Lib.hid (of13_up g sq1 t1 nn1 s1 qq1 lo1 hi1 (bdM_of (g := g) B1.out).2.1 (bdM_of (g := g) B1.out).2.2)
  have hI1 := ofZ_in (g := g) B1.out
  have K2 := Lib.hid (of13_up g sq2 t2 nn2 s2 qq2 lo2 hi2 (bdM_of (g := g) B2.out).2.1 (bdM_of (g := g) B2.out).2.2)
  have hI2 := ofZ_in (g := g) B2.out
  generalize ofZ g ⟨sq1, t1, nn1, s1, qq1, lo1, hi1⟩ = x1 at *
  generalize ofZ g ⟨sq2, t2, nn2, s2, qq2, lo2, hi2⟩ = x2 at *
  obtain ⟨y0, y1, y2, y3, y4, y5, bb, ey, kw⟩ : ∃ y0 y1 y2 y3 y4 y5 bb, bV x2 x1 = .agg #[.int .i64 y0, .int .i64 y1, .int .i64 y2, .int .i64 y3, .int .i64 y4, .int .i64 y5] ∧ ∀ W, Calls Try.prog 62 #[.int .i64 x2, .int .i64 x1] W fun e w' => e = .returned (.tuple #[.agg #[.int .i64 y0, .int .i64 y1, .int .i64 y2, .int .i64 y3, .int .i64 y4, .int .i64 y5], .bool bb]) ∧ Up W w' := ⟨_, _, _, _, _, _, _, rfl, fun W => whole_up x2 x1 hI2 hI1 W⟩
  have KW := Lib.hid kw
  rw [ey]
  clear kw ey hI1 hI2
  have KL := Lib.hid (isLive13_up g v q c now seq n k (some ⟨b, o, none⟩) sq1 t1 nn1 s1 qq1 lo1 hi1)
  rw [hl] at KL
  have hqb : (sq2 == sq1 + 1) = false := beq_eq_false_iff_ne.2 hq
  clear hl hq B1 B2
  go_enter Try.func25, Try.ntmps25
  go_upto_region 6 with (go_at_call 19; (with_reducible refine (KV.out _ (HS.out.up (((Up.refl w).alloc _ _).alloc _ _))).mono ?_); rintro e w1 ⟨rfl, hu⟩; have HW := Lib.hid ((((Up.refl w).alloc #[.int .i64 g, .int .i64 v, .int .i64 q, .int .i64 c, .int .i64 now, .int .i64 seq, .slice (some ⟨b, o, none⟩) n k] 26).alloc #[.int .i64 0, .int .i64 0, .int .i64 0, .int .i64 0, .int .i64 0, .int .i64 0] 42).trans hu); have a0 := hu.keep (w.heap.size) 0 (.int .i64 g) (by simp [go_sem]); have a1 := hu.keep (w.heap.size) 1 (.int .i64 v) (by simp [go_sem]); have a2 := hu.keep (w.heap.size) 2 (.int .i64 q) (by simp [go_sem]); have a3 := hu.keep (w.heap.size) 3 (.int .i64 c) (by simp [go_sem]); have a4 := hu.keep (w.heap.size) 4 (.int .i64 now) (by simp [go_sem]); have a5 := hu.keep (w.heap.size) 5 (.int .i64 seq) (by simp [go_sem]); have a6 := hu.keep (w.heap.size) 6 (.slice (some ⟨b, o, none⟩) n k) (by simp [go_sem]); have r0 := hu.keep (w.heap.size + 1) 0 (.int .i64 0) (by simp [go_sem]); have r1 := hu.keep (w.heap.size + 1) 1 (.int .i64 0) (by simp [go_sem]); have r2 := hu.keep (w.heap.size + 1) 2 (.int .i64 0) (by simp [go_sem]); have r3 := hu.keep (w.heap.size + 1) 3 (.int .i64 0) (by simp [go_sem]); have r4 := hu.keep (w.heap.size + 1) 4 (.int .i64 0) (by simp [go_sem]); have r5 := hu.keep (w.heap.size + 1) 5 (.int .i64 0) (by simp [go_sem]); have z0 := HW.out.ownGe (g := w.heap.size + 1) (by omega) 0; have z1 := HW.out.ownGe (g := w.heap.size + 1) (by omega) 1; have z2 := HW.out.ownGe (g := w.heap.size + 1) (by omega) 2; have z3 := HW.out.ownGe (g := w.heap.size + 1) (by omega) 3; have z4 := HW.out.ownGe (g := w.heap.size + 1) (by omega) 4; have z5 := HW.out.ownGe (g := w.heap.size + 1) (by omega) 5; clear hu)
  obtain ⟨d0, d1, d2, d3, d4, d5, d6⟩ := HD0.out _ HW.out
  go_upto_region 7 with fail
  refine (show ∀ W2 : World, W2 = _ → Code.wp _ _ _ _ W2 from fun W2 hW2 => ?_) _ rfl
  have a0 : W2.cell? ⟨w.heap.size, 0, none⟩ = some (.int .i64 g) := by rw [hW2]; exact ((Up.refl _).alloc _ _).keep _ _ _ a0
  have a1 : W2.cell? ⟨w.heap.size, 1, none⟩ = some (.int .i64 v) := by rw [hW2]; exact ((Up.refl _).alloc _ _).keep _ _ _ a1
  have a2 : W2.cell? ⟨w.heap.size, 2, none⟩ = some (.int .i64 q) := by rw [hW2]; exact ((Up.refl _).alloc _ _).keep _ _ _ a2
  have a3 : W2.cell? ⟨w.heap.size, 3, none⟩ = some (.int .i64 c) := by rw [hW2]; exact ((Up.refl _).alloc _ _).keep _ _ _ a3
  have a4 : W2.cell? ⟨w.heap.size, 4, none⟩ = some (.int .i64 now) := by rw [hW2]; exact ((Up.refl _).alloc _ _).keep _ _ _ a4
  have a5 : W2.cell? ⟨w.heap.size, 5, none⟩ = some (.int .i64 seq) := by rw [hW2]; exact ((Up.refl _).alloc _ _).keep _ _ _ a5
  have a6 : W2.cell? ⟨w.heap.size, 6, none⟩ = some (.slice (some ⟨b, o, none⟩) n k) := by rw [hW2]; exact ((Up.refl _).alloc _ _).keep _ _ _ a6
  have r0 : W2.cell? ⟨w.heap.size + 1, 0, none⟩ = some (.int .i64 0) := by rw [hW2]; exact ((Up.refl _).alloc _ _).keep _ _ _ r0
  have r1 : W2.cell? ⟨w.heap.size + 1, 1, none⟩ = some (.int .i64 0) := by rw [hW2]; exact ((Up.refl _).alloc _ _).keep _ _ _ r1
  have r2 : W2.cell? ⟨w.heap.size + 1, 2, none⟩ = some (.int .i64 0) := by rw [hW2]; exact ((Up.refl _).alloc _ _).keep _ _ _ r2
  have r3 : W2.cell? ⟨w.heap.size + 1, 3, none⟩ = some (.int .i64 0) := by rw [hW2]; exact ((Up.refl _).alloc _ _).keep _ _ _ r3
  have r4 : W2.cell? ⟨w.heap.size + 1, 4, none⟩ = some (.int .i64 0) := by rw [hW2]; exact ((Up.refl _).alloc _ _).keep _ _ _ r4
  have r5 : W2.cell? ⟨w.heap.size + 1, 5, none⟩ = some (.int .i64 0) := by rw [hW2]; exact ((Up.refl _).alloc _ _).keep _ _ _ r5
  have m0 : W2.cell? ⟨w1.heap.size, 0, none⟩ = some (.int .i64 sq1) := by rw [hW2]; simp [go_sem]
  have m1 : W2.cell? ⟨w1.heap.size, 1, none⟩ = some (.int .i64 t1) := by rw [hW2]; simp [go_sem]
  have m2 : W2.cell? ⟨w1.heap.size, 2, none⟩ = some (.int .i64 nn1) := by rw [hW2]; simp [go_sem]
  have m3 : W2.cell? ⟨w1.heap.size, 3, none⟩ = some (.int .i64 s1) := by rw [hW2]; simp [go_sem]
  have m4 : W2.cell? ⟨w1.heap.size, 4, none⟩ = some (.int .i64 qq1) := by rw [hW2]; simp [go_sem]
  have m5 : W2.cell? ⟨w1.heap.size, 5, none⟩ = some (.int .i64 lo1) := by rw [hW2]; simp [go_sem]
  have m6 : W2.cell? ⟨w1.heap.size, 6, none⟩ = some (.int .i64 hi1) := by rw [hW2]; simp [go_sem]
  have HW : Hid (Up w W2) := Lib.hid (by rw [hW2]; exact HW.out.alloc _ _)
  have hp1 := World.block_lt_of_cell? _ _ m0
  have z0 := HW.out.ownGe (g := w.heap.size + 1) (by omega) 0
  have z1 := HW.out.ownGe (g := w.heap.size + 1) (by omega) 1
  have z2 := HW.out.ownGe (g := w.heap.size + 1) (by omega) 2
  have z3 := HW.out.ownGe (g := w.heap.size + 1) (by omega) 3
  have z4 := HW.out.ownGe (g := w.heap.size + 1) (by omega) 4
  have z5 := HW.out.ownGe (g := w.heap.size + 1) (by omega) 5
  clear hW2 d0 d1 d2 d3 d4 d5 d6
  generalize w1.heap.size = p1 at *
  go_upto_region 10 with (go_at_call 51; (with_reducible refine (KL.out _).mono ?_); rintro e w3 ⟨rfl, hu⟩; have HW := Lib.hid (HW.out.trans hu); have a0 := hu.keep _ _ _ a0; have a6 := hu.keep _ _ _ a6; have m0 := hu.keep _ _ _ m0; have m1 := hu.keep _ _ _ m1; have m2 := hu.keep _ _ _ m2; have m3 := hu.keep _ _ _ m3; have m4 := hu.keep _ _ _ m4; have m5 := hu.keep _ _ _ m5; have m6 := hu.keep _ _ _ m6; have r0 := hu.keep _ _ _ r0; have r1 := hu.keep _ _ _ r1; have r2 := hu.keep _ _ _ r2; have r3 := hu.keep _ _ _ r3; have r4 := hu.keep _ _ _ r4; have r5 := hu.keep _ _ _ r5; have z0 := HW.out.ownGe (g := w.heap.size + 1) (by omega) 0; have z1 := HW.out.ownGe (g := w.heap.size + 1) (by omega) 1; have z2 := HW.out.ownGe (g := w.heap.size + 1) (by omega) 2; have z3 := HW.out.ownGe (g := w.heap.size + 1) (by omega) 3; have z4 := HW.out.ownGe (g := w.heap.size + 1) (by omega) 4; have z5 := HW.out.ownGe (g := w.heap.size + 1) (by omega) 5; obtain ⟨d0, d1, d2, d3, d4, d5, d6⟩ := HD1.out _ HW.out; clear hu)
  refine (show ∀ W5 : World, W5 = _ → Code.wp _ _ _ _ W5 from fun W5 hW5 => ?_) _ rfl
  have a0 : W5.cell? ⟨w.heap.size, 0, none⟩ = some (.int .i64 g) := by rw [hW5]; exact ((Up.refl _).alloc _ _).keep _ _ _ a0
  have r0 : W5.cell? ⟨w.heap.size + 1, 0, none⟩ = some (.int .i64 0) := by rw [hW5]; exact ((Up.refl _).alloc _ _).keep _ _ _ r0
  have r1 : W5.cell? ⟨w.heap.size + 1, 1, none⟩ = some (.int .i64 0) := by rw [hW5]; exact ((Up.refl _).alloc _ _).keep _ _ _ r1
  have r2 : W5.cell? ⟨w.heap.size + 1, 2, none⟩ = some (.int .i64 0) := by rw [hW5]; exact ((Up.refl _).alloc _ _).keep _ _ _ r2
  have r3 : W5.cell? ⟨w.heap.size + 1, 3, none⟩ = some (.int .i64 0) := by rw [hW5]; exact ((Up.refl _).alloc _ _).keep _ _ _ r3
  have r4 : W5.cell? ⟨w.heap.size + 1, 4, none⟩ = some (.int .i64 0) := by rw [hW5]; exact ((Up.refl _).alloc _ _).keep _ _ _ r4
  have r5 : W5.cell? ⟨w.heap.size + 1, 5, none⟩ = some (.int .i64 0) := by rw [hW5]; exact ((Up.refl _).alloc _ _).keep _ _ _ r5
  have m0 : W5.cell? ⟨p1, 0, none⟩ = some (.int .i64 sq1) := by rw [hW5]; exact ((Up.refl _).alloc _ _).keep _ _ _ m0
  have m1 : W5.cell? ⟨p1, 1, none⟩ = some (.int .i64 t1) := by rw [hW5]; exact ((Up.refl _).alloc _ _).keep _ _ _ m1
  have m2 : W5.cell? ⟨p1, 2, none⟩ = some (.int .i64 nn1) := by rw [hW5]; exact ((Up.refl _).alloc _ _).keep _ _ _ m2
  have m3 : W5.cell? ⟨p1, 3, none⟩ = some (.int .i64 s1) := by rw [hW5]; exact ((Up.refl _).alloc _ _).keep _ _ _ m3
  have m4 : W5.cell? ⟨p1, 4, none⟩ = some (.int .i64 qq1) := by rw [hW5]; exact ((Up.refl _).alloc _ _).keep _ _ _ m4
  have m5 : W5.cell? ⟨p1, 5, none⟩ = some (.int .i64 lo1) := by rw [hW5]; exact ((Up.refl _).alloc _ _).keep _ _ _ m5
  have m6 : W5.cell? ⟨p1, 6, none⟩ = some (.int .i64 hi1) := by rw [hW5]; exact ((Up.refl _).alloc _ _).keep _ _ _ m6
  have e0 : W5.cell? ⟨w3.heap.size, 0, none⟩ = some (.int .i64 sq2) := by rw [hW5]; simp [go_sem]
  have e1 : W5.cell? ⟨w3.heap.size, 1, none⟩ = some (.int .i64 t2) := by rw [hW5]; simp [go_sem]
  have e2 : W5.cell? ⟨w3.heap.size, 2, none⟩ = some (.int .i64 nn2) := by rw [hW5]; simp [go_sem]
  have e3 : W5.cell? ⟨w3.heap.size, 3, none⟩ = some (.int .i64 s2) := by rw [hW5]; simp [go_sem]
  have e4 : W5.cell? ⟨w3.heap.size, 4, none⟩ = some (.int .i64 qq2) := by rw [hW5]; simp [go_sem]
  have e5 : W5.cell? ⟨w3.heap.size, 5, none⟩ = some (.int .i64 lo2) := by rw [hW5]; simp [go_sem]
  have e6 : W5.cell? ⟨w3.heap.size, 6, none⟩ = some (.int .i64 hi2) := by rw [hW5]; simp [go_sem]
  have HW : Hid (Up w W5) := Lib.hid (by rw [hW5]; exact HW.out.alloc _ _)
  have hp2 := World.block_lt_of_cell? _ _ e0
  have z0 := HW.out.ownGe (g := w.heap.size + 1) (by omega) 0
  have z1 := HW.out.ownGe (g := w.heap.size + 1) (by omega) 1
  have z2 := HW.out.ownGe (g := w.heap.size + 1) (by omega) 2
  have z3 := HW.out.ownGe (g := w.heap.size + 1) (by omega) 3
  have z4 := HW.out.ownGe (g := w.heap.size + 1) (by omega) 4
  have z5 := HW.out.ownGe (g := w.heap.size + 1) (by omega) 5
  clear hW5 d0 d1 d2 d3 d4 d5 d6
  generalize w3.heap.size = p2 at *
  go_upto_region 12 with fail
  have HSS : Hid (Up w W5 ∧ W5.cell? ⟨w.heap.size, 0, none⟩ = some (.int .i64 g) ∧ W5.cell? ⟨p1, 0, none⟩ = some (.int .i64 sq1) ∧ W5.cell? ⟨p1, 1, none⟩ = some (.int .i64 t1) ∧ W5.cell? ⟨p1, 2, none⟩ = some (.int .i64 nn1) ∧ W5.cell? ⟨p1, 3, none⟩ = some (.int .i64 s1) ∧ W5.cell? ⟨p1, 4, none⟩ = some (.int .i64 qq1) ∧ W5.cell? ⟨p1, 5, none⟩ = some (.int .i64 lo1) ∧ W5.cell? ⟨p1, 6, none⟩ = some (.int .i64 hi1) ∧ W5.cell? ⟨p2, 0, none⟩ = some (.int .i64 sq2) ∧ W5.cell? ⟨p2, 1, none⟩ = some (.int .i64 t2) ∧ W5.cell? ⟨p2, 2, none⟩ = some (.int .i64 nn2) ∧ W5.cell? ⟨p2, 3, none⟩ = some (.int .i64 s2) ∧ W5.cell? ⟨p2, 4, none⟩ = some (.int .i64 qq2) ∧ W5.cell? ⟨p2, 5, none⟩ = some (.int .i64 lo2) ∧ W5.cell? ⟨p2, 6, none⟩ = some (.int .i64 hi2)) := Lib.hid ⟨HW.out, a0, m0, m1, m2, m3, m4, m5, m6, e0, e1, e2, e3, e4, e5, e6⟩
  have hls : w.heap.size + 1 < W5.heap.size := World.block_lt_of_cell? _ _ r0
  have HW := Lib.hid HW.out.drew
  clear a0 m0 m1 m2 m3 m4 m5 m6 e0 e1 e2 e3 e4 e5 e6
  go_wp2_with fail
  refine wp_region_held_drew (S := fun w' => Up w w' ∧ w'.cell? ⟨w.heap.size, 0, none⟩ = some (.int .i64 g) ∧ w'.cell? ⟨p1, 0, none⟩ = some (.int .i64 sq1) ∧ w'.cell? ⟨p1, 1, none⟩ = some (.int .i64 t1) ∧ w'.cell? ⟨p1, 2, none⟩ = some (.int .i64 nn1) ∧ w'.cell? ⟨p1, 3, none⟩ = some (.int .i64 s1) ∧ w'.cell? ⟨p1, 4, none⟩ = some (.int .i64 qq1) ∧ w'.cell? ⟨p1, 5, none⟩ = some (.int .i64 lo1) ∧ w'.cell? ⟨p1, 6, none⟩ = some (.int .i64 hi1) ∧ w'.cell? ⟨p2, 0, none⟩ = some (.int .i64 sq2) ∧ w'.cell? ⟨p2, 1, none⟩ = some (.int .i64 t2) ∧ w'.cell? ⟨p2, 2, none⟩ = some (.int .i64 nn2) ∧ w'.cell? ⟨p2, 3, none⟩ = some (.int .i64 s2) ∧ w'.cell? ⟨p2, 4, none⟩ = some (.int .i64 qq2) ∧ w'.cell? ⟨p2, 5, none⟩ = some (.int .i64 lo2) ∧ w'.cell? ⟨p2, 6, none⟩ = some (.int .i64 hi2)) (by kernel_rfl) ?hB1018 (fun hHeld => ?_)
  case hB1018 => (first | (with_reducible assumption) | (with_reducible exact keepK15 (Lib.hid (Up.refl _).drew) HSS.out) | (with_reducible exact HX.out) | (with_reducible exact keepK15 (Lib.hid ((Up.refl _).alloc _ _)) hHeld) | (with_reducible exact set6K15 hHeld (by omega) (by omega) (by omega) (by omega)))
  refine wpAnyH_take (i := 0) (oi := ⟨_, _, _, _, _, _⟩) (v := ?v1019) rfl (by kernel_rfl) (by kernel_rfl) (by kernel_rfl) (fun _ _ _ h => h) (Or.inl ⟨by rfl, ?hy1019⟩) (by assumption) ?_
  case hy1019 => (intro w hSw; (try dsimp only at hSw); go_simp; (try (with_reducible rfl)))
  (try simp only [Act.put, List.setIfInBounds_toArray, List.set_cons_zero, List.set_cons_succ])
  refine wpAnyH_take (i := 1) (oi := ⟨_, _, _, _, _, _⟩) (v := ?v1020) rfl (by kernel_rfl) (by kernel_rfl) (by kernel_rfl) (fun _ _ _ h => h) (Or.inl ⟨by rfl, ?hy1020⟩) (by assumption) ?_
  case hy1020 => (intro w hSw; (try dsimp only at hSw); go_simp; (try (with_reducible rfl)))
  (try simp only [Act.put, List.setIfInBounds_toArray, List.set_cons_zero, List.set_cons_succ])
  refine wpAnyH_take (i := 2) (oi := ⟨_, _, _, _, _, _⟩) (v := ?v1021) rfl (by kernel_rfl) (by kernel_rfl) (by kernel_rfl) (fun _ _ _ h => h) (Or.inl ⟨by rfl, ?hy1021⟩) (by assumption) ?_
  case hy1021 => (intro w hSw; (try dsimp only at hSw); go_simp; (try (with_reducible rfl)))
  (try simp only [Act.put, List.setIfInBounds_toArray, List.set_cons_zero, List.set_cons_succ])
  refine wpAnyH_take (i := 4) (oi := ⟨_, _, _, _, _, _⟩) (v := ?v1022) rfl (by kernel_rfl) (by kernel_rfl) (by kernel_rfl) (fun _ _ _ h => h) (Or.inl ⟨by rfl, ?hy1022⟩) (by assumption) ?_
  case hy1022 => (intro w hSw; (try dsimp only at hSw); go_simp; (try (with_reducible rfl)))
  (try simp only [Act.put, List.setIfInBounds_toArray, List.set_cons_zero, List.set_cons_succ])
  refine wpAnyH_take (i := 5) (oi := ⟨_, _, _, _, _, _⟩) (v := ?v1023) rfl (by kernel_rfl) (by kernel_rfl) (by kernel_rfl) (fun _ _ _ h => h) (Or.inl ⟨by rfl, ?hy1023⟩) (by assumption) ?_
  case hy1023 => (intro w hSw; (try dsimp only at hSw); go_simp; (try (with_reducible rfl)))
  (try simp only [Act.put, List.setIfInBounds_toArray, List.set_cons_zero, List.set_cons_succ])
  refine wpAnyH_take (i := 6) (oi := ⟨_, _, _, _, _, _⟩) (v := ?v1024) rfl (by kernel_rfl) (by kernel_rfl) (by kernel_rfl) (fun _ _ _ h => h) (Or.inl ⟨by rfl, ?hy1024⟩) (by assumption) ?_
  case hy1024 => (intro w hSw; (try dsimp only at hSw); go_simp; (try (with_reducible rfl)))
  (try simp only [Act.put, List.setIfInBounds_toArray, List.set_cons_zero, List.set_cons_succ])
  refine wpAnyH_ready (rs := [3, 12]) (by kernel_rfl) (by simp) ?_
  refine AllReadyH.cons (o := ⟨_, _, _, _, _, _⟩) rfl (fun K hK => ?_) (AllReadyH.cons (o := ⟨_, _, _, _, _, _⟩) rfl (fun K hK => ?_) (AllReadyH.nil))
  · go_simp
    (go_at_call 13; (with_reducible refine (K2.out _).mono ?_); rintro e w6 ⟨rfl, hu⟩; have HW := Lib.hid (HW.out.trans hu); have HX := Lib.hid (keepK15 (Lib.hid hu) hHeld); have r0 := hu.keep _ _ _ r0; have r1 := hu.keep _ _ _ r1; have r2 := hu.keep _ _ _ r2; have r3 := hu.keep _ _ _ r3; have r4 := hu.keep _ _ _ r4; have r5 := hu.keep _ _ _ r5; have z0 := HW.out.ownGe (g := w.heap.size + 1) (by omega) 0; have z1 := HW.out.ownGe (g := w.heap.size + 1) (by omega) 1; have z2 := HW.out.ownGe (g := w.heap.size + 1) (by omega) 2; have z3 := HW.out.ownGe (g := w.heap.size + 1) (by omega) 3; have z4 := HW.out.ownGe (g := w.heap.size + 1) (by omega) 4; have z5 := HW.out.ownGe (g := w.heap.size + 1) (by omega) 5; clear hu)
    (try go_wp2_with fail)
    refine hK.out _ _ ?hB1025 (fun hHeld => ?_)
    case hB1025 => (with_reducible exact HX.out)
    clear hK K
    (try simp only [Act.put, List.setIfInBounds_toArray, List.set_cons_zero, List.set_cons_succ])
    refine wpAnyH_ready (rs := [7, 12]) (by kernel_rfl) (by simp) ?_
    refine AllReadyH.cons (o := ⟨_, _, _, _, _, _⟩) rfl (fun K hK => ?_) (AllReadyH.cons (o := ⟨_, _, _, _, _, _⟩) rfl (fun K hK => ?_) (AllReadyH.nil))
    · go_simp
      (go_at_call 13; (with_reducible refine (K1.out _).mono ?_); rintro e w7 ⟨rfl, hu⟩; have HW := Lib.hid (HW.out.trans hu); have HX := Lib.hid (keepK15 (Lib.hid hu) hHeld); have r0 := hu.keep _ _ _ r0; have r1 := hu.keep _ _ _ r1; have r2 := hu.keep _ _ _ r2; have r3 := hu.keep _ _ _ r3; have r4 := hu.keep _ _ _ r4; have r5 := hu.keep _ _ _ r5; have z0 := HW.out.ownGe (g := w.heap.size + 1) (by omega) 0; have z1 := HW.out.ownGe (g := w.heap.size + 1) (by omega) 1; have z2 := HW.out.ownGe (g := w.heap.size + 1) (by omega) 2; have z3 := HW.out.ownGe (g := w.heap.size + 1) (by omega) 3; have z4 := HW.out.ownGe (g := w.heap.size + 1) (by omega) 4; have z5 := HW.out.ownGe (g := w.heap.size + 1) (by omega) 5; clear hu)
      (try go_wp2_with fail)
      refine hK.out _ _ ?hB1026 (fun hHeld => ?_)
      case hB1026 => (with_reducible exact HX.out)
      clear hK K
      (try simp only [Act.put, List.setIfInBounds_toArray, List.set_cons_zero, List.set_cons_succ])
      refine wpAnyH_ready (rs := [8, 12]) (by kernel_rfl) (by simp) ?_
      refine AllReadyH.cons (o := ⟨_, _, _, _, _, _⟩) rfl (fun K hK => ?_) (AllReadyH.cons (o := ⟨_, _, _, _, _, _⟩) rfl (fun K hK => ?_) (AllReadyH.nil))
      · go_simp
        (go_at_call 62; (with_reducible refine (KW.out _).mono ?_); rintro e w9 ⟨rfl, hu⟩; have HW := Lib.hid (HW.out.trans hu); have HX := Lib.hid (keepK15 (Lib.hid hu) hHeld); have r0 := hu.keep _ _ _ r0; have r1 := hu.keep _ _ _ r1; have r2 := hu.keep _ _ _ r2; have r3 := hu.keep _ _ _ r3; have r4 := hu.keep _ _ _ r4; have r5 := hu.keep _ _ _ r5; have z0 := HW.out.ownGe (g := w.heap.size + 1) (by omega) 0; have z1 := HW.out.ownGe (g := w.heap.size + 1) (by omega) 1; have z2 := HW.out.ownGe (g := w.heap.size + 1) (by omega) 2; have z3 := HW.out.ownGe (g := w.heap.size + 1) (by omega) 3; have z4 := HW.out.ownGe (g := w.heap.size + 1) (by omega) 4; have z5 := HW.out.ownGe (g := w.heap.size + 1) (by omega) 5; clear hu)
        (try go_wp2_with fail)
        refine hK.out _ _ ?hB1027 (fun hHeld => ?_)
        case hB1027 => (with_reducible exact HX.out)
        clear hK K
        (try simp only [Act.put, List.setIfInBounds_toArray, List.set_cons_zero, List.set_cons_succ])
        refine wpAnyH_take (i := 9) (oi := ⟨_, _, _, _, _, _⟩) (v := ?v1030) rfl (by kernel_rfl) (by kernel_rfl) (by kernel_rfl) (fun _ _ _ h => h) (Or.inl ⟨by rfl, ?hy1030⟩) (by assumption) ?_
        case hy1030 => (intro w hSw; (try dsimp only at hSw); go_simp; (try (with_reducible rfl)))
        (try simp only [Act.put, List.setIfInBounds_toArray, List.set_cons_zero, List.set_cons_succ])
        refine wpAnyH_take (i := 10) (oi := ⟨_, _, _, _, _, _⟩) (v := ?v1031) rfl (by kernel_rfl) (by kernel_rfl) (by kernel_rfl) (fun _ _ _ h => h) (Or.inl ⟨by rfl, ?hy1031⟩) (by assumption) ?_
        case hy1031 => (intro w hSw; (try dsimp only at hSw); go_simp; (try (with_reducible rfl)))
        (try simp only [Act.put, List.setIfInBounds_toArray, List.set_cons_zero, List.set_cons_succ])
        refine wpAnyH_take (i := 11) (oi := ⟨_, _, _, _, _, _⟩) (v := ?v1032) rfl (by kernel_rfl) (by kernel_rfl) (by kernel_rfl) (fun _ _ _ h => h) (Or.inl ⟨by rfl, ?hy1032⟩) (by assumption) ?_
        case hy1032 => (intro w hSw; (try dsimp only at hSw); go_simp; (try (with_reducible rfl)))
        (try simp only [Act.put, List.setIfInBounds_toArray, List.set_cons_zero, List.set_cons_succ])
        refine wpAnyH_ready (rs := [12]) (by kernel_rfl) (by simp) ?_
        refine AllReadyH.cons (o := ⟨_, _, _, _, _, _⟩) rfl (fun K hK => ?_) (AllReadyH.nil)
        have hlt_ : w.heap.size + 1 < w9.heap.size := World.block_lt_of_cell? _ _ r0
        go_simp
        refine hK.out _ _ ?hB1028 (fun hHeld => ?_)
        case hB1028 => (first | (with_reducible exact keepK15 (Lib.hid ((Up.refl _).alloc _ _)) HX.out))
        clear hK K
        (try simp only [Act.put, List.setIfInBounds_toArray, List.set_cons_zero, List.set_cons_succ])
        refine wpAnyH_ready (rs := [13]) (by kernel_rfl) (by simp) ?_
        refine AllReadyH.cons (o := ⟨_, _, _, _, _, _⟩) rfl (fun K hK => ?_) (AllReadyH.nil)
        go_simp
        refine hK.out _ _ ?hB1029 (fun hHeld => ?_)
        case hB1029 => (first | (with_reducible exact keepK15 (Lib.hid ((Up.refl _).alloc _ _)) HX.out))
        clear hK K
        (try simp only [Act.put, List.setIfInBounds_toArray, List.set_cons_zero, List.set_cons_succ])
        refine wpAnyH_take (i := 14) (oi := ⟨_, _, _, _, _, _⟩) (v := ?v1033) rfl (by kernel_rfl) (by kernel_rfl) (by kernel_rfl) (fun _ _ _ h => h) (Or.inl ⟨by rfl, ?hy1033⟩) (by assumption) ?_
        case hy1033 => (intro w hSw; (try dsimp only at hSw); go_simp; (try (with_reducible rfl)))
        (try simp only [Act.put, List.setIfInBounds_toArray, List.set_cons_zero, List.set_cons_succ])
        refine wpAnyH_done (by kernel_rfl) ?_ _
        clear hHeld HSS HX
        have n1_ : ¬ (w9.heap.size = w.heap.size + 1) := by omega
        have n2_ : ¬ (w.heap.size + 1 = w9.heap.size) := by omega
        go_wp2_with fail
        obtain ⟨wa, hwa⟩ : ∃ y, y = (((((w9.setCell ⟨w.heap.size + 1, 0, none⟩ (.int .i64 y0)).setCell ⟨w.heap.size + 1, 1, none⟩ (.int .i64 y1)).setCell ⟨w.heap.size + 1, 2, none⟩ (.int .i64 y2)).setCell ⟨w.heap.size + 1, 3, none⟩ (.int .i64 y3)).setCell ⟨w.heap.size + 1, 4, none⟩ (.int .i64 y4)).setCell ⟨w.heap.size + 1, 5, none⟩ (.int .i64 y5) := ⟨_, rfl⟩
        rw [← hwa]
        obtain ⟨s0, s1, s2, s3, s4, s5⟩ := set6cells (v0 := .int .i64 y0) (v1 := .int .i64 y1) (v2 := .int .i64 y2) (v3 := .int .i64 y3) (v4 := .int .i64 y4) (v5 := .int .i64 y5) r0 r1 r2 r3 r4 r5
        rw [← hwa] at s0 s1 s2 s3 s4 s5
        have r0 := ((Up.refl wa).alloc #[.int .i64 y0, .int .i64 y1, .int .i64 y2, .int .i64 y3, .int .i64 y4, .int .i64 y5] 42).keep _ _ _ s0
        have r1 := ((Up.refl wa).alloc #[.int .i64 y0, .int .i64 y1, .int .i64 y2, .int .i64 y3, .int .i64 y4, .int .i64 y5] 42).keep _ _ _ s1
        have r2 := ((Up.refl wa).alloc #[.int .i64 y0, .int .i64 y1, .int .i64 y2, .int .i64 y3, .int .i64 y4, .int .i64 y5] 42).keep _ _ _ s2
        have r3 := ((Up.refl wa).alloc #[.int .i64 y0, .int .i64 y1, .int .i64 y2, .int .i64 y3, .int .i64 y4, .int .i64 y5] 42).keep _ _ _ s3
        have r4 := ((Up.refl wa).alloc #[.int .i64 y0, .int .i64 y1, .int .i64 y2, .int .i64 y3, .int .i64 y4, .int .i64 y5] 42).keep _ _ _ s4
        have r5 := ((Up.refl wa).alloc #[.int .i64 y0, .int .i64 y1, .int .i64 y2, .int .i64 y3, .int .i64 y4, .int .i64 y5] 42).keep _ _ _ s5
        refine bodyPost_ret (v := .tuple #[.agg #[.int .i64 y0, .int .i64 y1, .int .i64 y2, .int .i64 y3, .int .i64 y4, .int .i64 y5], .int .i64 0]) (by simp [results, Try.results25, go_sem, r0, r1, r2, r3, r4, r5]) rfl ⟨rfl, ?_⟩
        exact (by rw [hwa]; exact (HW.out.set6 (by omega)).alloc _ _)
      · have hlt_ : w.heap.size + 1 < w7.heap.size := World.block_lt_of_cell? _ _ r0
        have hp1_ : p1 < w7.heap.size := by have := World.block_lt_of_cell? _ _ hHeld.2.2.1; simpa using this
        have hp2_ : p2 < w7.heap.size := by have := World.block_lt_of_cell? _ _ hHeld.2.2.2.2.2.2.2.2.2.1; simpa using this
        have g0 : (w7.alloc (.cells #[.int .i64 0, .int .i64 0, .int .i64 0, .int .i64 0, .int .i64 0, .int .i64 0] 42)).cell? ⟨w7.heap.size, 0, none⟩ = some (.int .i64 0) := by simp [go_sem]
        have g1 : (w7.alloc (.cells #[.int .i64 0, .int .i64 0, .int .i64 0, .int .i64 0, .int .i64 0, .int .i64 0] 42)).cell? ⟨w7.heap.size, 1, none⟩ = some (.int .i64 0) := by simp [go_sem]
        have g2 : (w7.alloc (.cells #[.int .i64 0, .int .i64 0, .int .i64 0, .int .i64 0, .int .i64 0, .int .i64 0] 42)).cell? ⟨w7.heap.size, 2, none⟩ = some (.int .i64 0) := by simp [go_sem]
        have g3 : (w7.alloc (.cells #[.int .i64 0, .int .i64 0, .int .i64 0, .int .i64 0, .int .i64 0, .int .i64 0] 42)).cell? ⟨w7.heap.size, 3, none⟩ = some (.int .i64 0) := by simp [go_sem]
        have g4 : (w7.alloc (.cells #[.int .i64 0, .int .i64 0, .int .i64 0, .int .i64 0, .int .i64 0, .int .i64 0] 42)).cell? ⟨w7.heap.size, 4, none⟩ = some (.int .i64 0) := by simp [go_sem]
        have g5 : (w7.alloc (.cells #[.int .i64 0, .int .i64 0, .int .i64 0, .int .i64 0, .int .i64 0, .int .i64 0] 42)).cell? ⟨w7.heap.size, 5, none⟩ = some (.int .i64 0) := by simp [go_sem]
        have r0 := ((Up.refl w7).alloc #[.int .i64 0, .int .i64 0, .int .i64 0, .int .i64 0, .int .i64 0, .int .i64 0] 42).keep _ _ _ r0
        have r1 := ((Up.refl w7).alloc #[.int .i64 0, .int .i64 0, .int .i64 0, .int .i64 0, .int .i64 0, .int .i64 0] 42).keep _ _ _ r1
        have r2 := ((Up.refl w7).alloc #[.int .i64 0, .int .i64 0, .int .i64 0, .int .i64 0, .int .i64 0, .int .i64 0] 42).keep _ _ _ r2
        have r3 := ((Up.refl w7).alloc #[.int .i64 0, .int .i64 0, .int .i64 0, .int .i64 0, .int .i64 0, .int .i64 0] 42).keep _ _ _ r3
        have r4 := ((Up.refl w7).alloc #[.int .i64 0, .int .i64 0, .int .i64 0, .int .i64 0, .int .i64 0, .int .i64 0] 42).keep _ _ _ r4
        have r5 := ((Up.refl w7).alloc #[.int .i64 0, .int .i64 0, .int .i64 0, .int .i64 0, .int .i64 0, .int .i64 0] 42).keep _ _ _ r5
        have HW := Lib.hid (HW.out.alloc #[.int .i64 0, .int .i64 0, .int .i64 0, .int .i64 0, .int .i64 0, .int .i64 0] 42)
        have z0 := HW.out.ownGe (g := w.heap.size + 1) (by omega) 0
        have z1 := HW.out.ownGe (g := w.heap.size + 1) (by omega) 1
        have z2 := HW.out.ownGe (g := w.heap.size + 1) (by omega) 2
        have z3 := HW.out.ownGe (g := w.heap.size + 1) (by omega) 3
        have z4 := HW.out.ownGe (g := w.heap.size + 1) (by omega) 4
        have z5 := HW.out.ownGe (g := w.heap.size + 1) (by omega) 5
        have k0 := HW.out.ownGe (g := w7.heap.size) (by omega) 0
        have k1 := HW.out.ownGe (g := w7.heap.size) (by omega) 1
        have k2 := HW.out.ownGe (g := w7.heap.size) (by omega) 2
        have k3 := HW.out.ownGe (g := w7.heap.size) (by omega) 3
        have k4 := HW.out.ownGe (g := w7.heap.size) (by omega) 4
        have k5 := HW.out.ownGe (g := w7.heap.size) (by omega) 5
        go_simp
        refine hK.out _ _ ?hB1034 (fun hHeld => ?_)
        case hB1034 => (with_reducible exact keepK15 (Lib.hid ((Up.refl _).alloc _ _)) hHeld)
        clear hK K
        (try simp only [Act.put, List.setIfInBounds_toArray, List.set_cons_zero, List.set_cons_succ])
        refine wpAnyH_ready (rs := [8]) (by kernel_rfl) (by simp) ?_
        refine AllReadyH.cons (o := ⟨_, _, _, _, _, _⟩) rfl (fun K hK => ?_) (AllReadyH.nil)
        go_simp
        (go_at_call 62; (with_reducible refine (KW.out _).mono ?_); rintro e w9 ⟨rfl, hu⟩; have HW := Lib.hid (HW.out.trans hu); have HX := Lib.hid (keepK15 (Lib.hid hu) hHeld); have r0 := hu.keep _ _ _ r0; have r1 := hu.keep _ _ _ r1; have r2 := hu.keep _ _ _ r2; have r3 := hu.keep _ _ _ r3; have r4 := hu.keep _ _ _ r4; have r5 := hu.keep _ _ _ r5; have g0 := hu.keep _ _ _ g0; have g1 := hu.keep _ _ _ g1; have g2 := hu.keep _ _ _ g2; have g3 := hu.keep _ _ _ g3; have g4 := hu.keep _ _ _ g4; have g5 := hu.keep _ _ _ g5; have z0 := HW.out.ownGe (g := w.heap.size + 1) (by omega) 0; have z1 := HW.out.ownGe (g := w.heap.size + 1) (by omega) 1; have z2 := HW.out.ownGe (g := w.heap.size + 1) (by omega) 2; have z3 := HW.out.ownGe (g := w.heap.size + 1) (by omega) 3; have z4 := HW.out.ownGe (g := w.heap.size + 1) (by omega) 4; have z5 := HW.out.ownGe (g := w.heap.size + 1) (by omega) 5; have k0 := HW.out.ownGe (g := w7.heap.size) (by omega) 0; have k1 := HW.out.ownGe (g := w7.heap.size) (by omega) 1; have k2 := HW.out.ownGe (g := w7.heap.size) (by omega) 2; have k3 := HW.out.ownGe (g := w7.heap.size) (by omega) 3; have k4 := HW.out.ownGe (g := w7.heap.size) (by omega) 4; have k5 := HW.out.ownGe (g := w7.heap.size) (by omega) 5; clear hu)
        (try go_wp2_with fail)
        refine hK.out _ _ ?hB1035 (fun hHeld => ?_)
        case hB1035 => (with_reducible exact HX.out)
        clear hK K
        (try simp only [Act.put, List.setIfInBounds_toArray, List.set_cons_zero, List.set_cons_succ])
        refine wpAnyH_take (i := 9) (oi := ⟨_, _, _, _, _, _⟩) (v := ?v1036) rfl (by kernel_rfl) (by kernel_rfl) (by kernel_rfl) (fun _ _ _ h => h) (Or.inl ⟨by rfl, ?hy1036⟩) (by assumption) ?_
        case hy1036 => (intro w hSw; (try dsimp only at hSw); go_simp; (try (with_reducible rfl)))
        (try simp only [Act.put, List.setIfInBounds_toArray, List.set_cons_zero, List.set_cons_succ])
        refine wpAnyH_take (i := 10) (oi := ⟨_, _, _, _, _, _⟩) (v := ?v1037) rfl (by kernel_rfl) (by kernel_rfl) (by kernel_rfl) (fun _ _ _ h => h) (Or.inl ⟨by rfl, ?hy1037⟩) (by assumption) ?_
        case hy1037 => (intro w hSw; (try dsimp only at hSw); go_simp; (try (with_reducible rfl)))
        (try simp only [Act.put, List.setIfInBounds_toArray, List.set_cons_zero, List.set_cons_succ])
        refine wpAnyH_take (i := 11) (oi := ⟨_, _, _, _, _, _⟩) (v := ?v1038) rfl (by kernel_rfl) (by kernel_rfl) (by kernel_rfl) (fun _ _ _ h => h) (Or.inl ⟨by rfl, ?hy1038⟩) (by assumption) ?_
        case hy1038 => (intro w hSw; (try dsimp only at hSw); go_simp; (try (with_reducible rfl)))
        (try simp only [Act.put, List.setIfInBounds_toArray, List.set_cons_zero, List.set_cons_succ])
        refine wpAnyH_ready (rs := [13]) (by kernel_rfl) (by simp) ?_
        refine AllReadyH.cons (o := ⟨_, _, _, _, _, _⟩) rfl (fun K hK => ?_) (AllReadyH.nil)
        go_simp
        refine hK.out _ _ ?hB1039 (fun hHeld => ?_)
        case hB1039 => (with_reducible exact set6K15 hHeld (by omega) (by omega) (by omega) (by omega))
        clear hK K
        (try simp only [Act.put, List.setIfInBounds_toArray, List.set_cons_zero, List.set_cons_succ])
        refine wpAnyH_take (i := 14) (oi := ⟨_, _, _, _, _, _⟩) (v := ?v1040) rfl (by kernel_rfl) (by kernel_rfl) (by kernel_rfl) (fun _ _ _ h => h) (Or.inl ⟨by rfl, ?hy1040⟩) (by assumption) ?_
        case hy1040 => (intro w hSw; (try dsimp only at hSw); go_simp; (try (with_reducible rfl)))
        (try simp only [Act.put, List.setIfInBounds_toArray, List.set_cons_zero, List.set_cons_succ])
        refine wpAnyH_done (by kernel_rfl) ?_ _
        clear hHeld HSS
        (try clear HX)
        have n1_ : ¬ (w7.heap.size = w.heap.size + 1) := by omega
        have n2_ : ¬ (w.heap.size + 1 = w7.heap.size) := by omega
        go_wp2_with fail
        refine bodyPost_ret (v := .tuple #[.agg #[.int .i64 y0, .int .i64 y1, .int .i64 y2, .int .i64 y3, .int .i64 y4, .int .i64 y5], .int .i64 0]) (by simp [results, Try.results25, go_sem, r0, r1, r2, r3, r4, r5]) rfl ⟨rfl, ?_⟩
        exact (HW.out.set6 (by omega)).set6 (by omega)
    · have hlt_ : w.heap.size + 1 < w6.heap.size := World.block_lt_of_cell? _ _ r0
      have hp1_ : p1 < w6.heap.size := by have := World.block_lt_of_cell? _ _ hHeld.2.2.1; simpa using this
      have hp2_ : p2 < w6.heap.size := by have := World.block_lt_of_cell? _ _ hHeld.2.2.2.2.2.2.2.2.2.1; simpa using this
      have g0 : (w6.alloc (.cells #[.int .i64 0, .int .i64 0, .int .i64 0, .int .i64 0, .int .i64 0, .int .i64 0] 42)).cell? ⟨w6.heap.size, 0, none⟩ = some (.int .i64 0) := by simp [go_sem]
      have g1 : (w6.alloc (.cells #[.int .i64 0, .int .i64 0, .int .i64 0, .int .i64 0, .int .i64 0, .int .i64 0] 42)).cell? ⟨w6.heap.size, 1, none⟩ = some (.int .i64 0) := by simp [go_sem]
      have g2 : (w6.alloc (.cells #[.int .i64 0, .int .i64 0, .int .i64 0, .int .i64 0, .int .i64 0, .int .i64 0] 42)).cell? ⟨w6.heap.size, 2, none⟩ = some (.int .i64 0) := by simp [go_sem]
      have g3 : (w6.alloc (.cells #[.int .i64 0, .int .i64 0, .int .i64 0, .int .i64 0, .int .i64 0, .int .i64 0] 42)).cell? ⟨w6.heap.size, 3, none⟩ = some (.int .i64 0) := by simp [go_sem]
      have g4 : (w6.alloc (.cells #[.int .i64 0, .int .i64 0, .int .i64 0, .int .i64 0, .int .i64 0, .int .i64 0] 42)).cell? ⟨w6.heap.size, 4, none⟩ = some (.int .i64 0) := by simp [go_sem]
      have g5 : (w6.alloc (.cells #[.int .i64 0, .int .i64 0, .int .i64 0, .int .i64 0, .int .i64 0, .int .i64 0] 42)).cell? ⟨w6.heap.size, 5, none⟩ = some (.int .i64 0) := by simp [go_sem]
      have r0 := ((Up.refl w6).alloc #[.int .i64 0, .int .i64 0, .int .i64 0, .int .i64 0, .int .i64 0, .int .i64 0] 42).keep _ _ _ r0
      have r1 := ((Up.refl w6).alloc #[.int .i64 0, .int .i64 0, .int .i64 0, .int .i64 0, .int .i64 0, .int .i64 0] 42).keep _ _ _ r1
      have r2 := ((Up.refl w6).alloc #[.int .i64 0, .int .i64 0, .int .i64 0, .int .i64 0, .int .i64 0, .int .i64 0] 42).keep _ _ _ r2
      have r3 := ((Up.refl w6).alloc #[.int .i64 0, .int .i64 0, .int .i64 0, .int .i64 0, .int .i64 0, .int .i64 0] 42).keep _ _ _ r3
      have r4 := ((Up.refl w6).alloc #[.int .i64 0, .int .i64 0, .int .i64 0, .int .i64 0, .int .i64 0, .int .i64 0] 42).keep _ _ _ r4
      have r5 := ((Up.refl w6).alloc #[.int .i64 0, .int .i64 0, .int .i64 0, .int .i64 0, .int .i64 0, .int .i64 0] 42).keep _ _ _ r5
      have HW := Lib.hid (HW.out.alloc #[.int .i64 0, .int .i64 0, .int .i64 0, .int .i64 0, .int .i64 0, .int .i64 0] 42)
      have z0 := HW.out.ownGe (g := w.heap.size + 1) (by omega) 0
      have z1 := HW.out.ownGe (g := w.heap.size + 1) (by omega) 1
      have z2 := HW.out.ownGe (g := w.heap.size + 1) (by omega) 2
      have z3 := HW.out.ownGe (g := w.heap.size + 1) (by omega) 3
      have z4 := HW.out.ownGe (g := w.heap.size + 1) (by omega) 4
      have z5 := HW.out.ownGe (g := w.heap.size + 1) (by omega) 5
      have k0 := HW.out.ownGe (g := w6.heap.size) (by omega) 0
      have k1 := HW.out.ownGe (g := w6.heap.size) (by omega) 1
      have k2 := HW.out.ownGe (g := w6.heap.size) (by omega) 2
      have k3 := HW.out.ownGe (g := w6.heap.size) (by omega) 3
      have k4 := HW.out.ownGe (g := w6.heap.size) (by omega) 4
      have k5 := HW.out.ownGe (g := w6.heap.size) (by omega) 5
      go_simp
      refine hK.out _ _ ?hB1041 (fun hHeld => ?_)
      case hB1041 => (with_reducible exact keepK15 (Lib.hid ((Up.refl _).alloc _ _)) hHeld)
      clear hK K
      (try simp only [Act.put, List.setIfInBounds_toArray, List.set_cons_zero, List.set_cons_succ])
      refine wpAnyH_ready (rs := [7]) (by kernel_rfl) (by simp) ?_
      refine AllReadyH.cons (o := ⟨_, _, _, _, _, _⟩) rfl (fun K hK => ?_) (AllReadyH.nil)
      go_simp
      (go_at_call 13; (with_reducible refine (K1.out _).mono ?_); rintro e w7 ⟨rfl, hu⟩; have HW := Lib.hid (HW.out.trans hu); have HX := Lib.hid (keepK15 (Lib.hid hu) hHeld); have r0 := hu.keep _ _ _ r0; have r1 := hu.keep _ _ _ r1; have r2 := hu.keep _ _ _ r2; have r3 := hu.keep _ _ _ r3; have r4 := hu.keep _ _ _ r4; have r5 := hu.keep _ _ _ r5; have g0 := hu.keep _ _ _ g0; have g1 := hu.keep _ _ _ g1; have g2 := hu.keep _ _ _ g2; have g3 := hu.keep _ _ _ g3; have g4 := hu.keep _ _ _ g4; have g5 := hu.keep _ _ _ g5; have z0 := HW.out.ownGe (g := w.heap.size + 1) (by omega) 0; have z1 := HW.out.ownGe (g := w.heap.size + 1) (by omega) 1; have z2 := HW.out.ownGe (g := w.heap.size + 1) (by omega) 2; have z3 := HW.out.ownGe (g := w.heap.size + 1) (by omega) 3; have z4 := HW.out.ownGe (g := w.heap.size + 1) (by omega) 4; have z5 := HW.out.ownGe (g := w.heap.size + 1) (by omega) 5; have k0 := HW.out.ownGe (g := w6.heap.size) (by omega) 0; have k1 := HW.out.ownGe (g := w6.heap.size) (by omega) 1; have k2 := HW.out.ownGe (g := w6.heap.size) (by omega) 2; have k3 := HW.out.ownGe (g := w6.heap.size) (by omega) 3; have k4 := HW.out.ownGe (g := w6.heap.size) (by omega) 4; have k5 := HW.out.ownGe (g := w6.heap.size) (by omega) 5; clear hu)
      (try go_wp2_with fail)
      refine hK.out _ _ ?hB1042 (fun hHeld => ?_)
      case hB1042 => (with_reducible exact HX.out)
      clear hK K
      (try simp only [Act.put, List.setIfInBounds_toArray, List.set_cons_zero, List.set_cons_succ])
      refine wpAnyH_ready (rs := [8]) (by kernel_rfl) (by simp) ?_
      refine AllReadyH.cons (o := ⟨_, _, _, _, _, _⟩) rfl (fun K hK => ?_) (AllReadyH.nil)
      go_simp
      (go_at_call 62; (with_reducible refine (KW.out _).mono ?_); rintro e w9 ⟨rfl, hu⟩; have HW := Lib.hid (HW.out.trans hu); have HX := Lib.hid (keepK15 (Lib.hid hu) hHeld); have r0 := hu.keep _ _ _ r0; have r1 := hu.keep _ _ _ r1; have r2 := hu.keep _ _ _ r2; have r3 := hu.keep _ _ _ r3; have r4 := hu.keep _ _ _ r4; have r5 := hu.keep _ _ _ r5; have g0 := hu.keep _ _ _ g0; have g1 := hu.keep _ _ _ g1; have g2 := hu.keep _ _ _ g2; have g3 := hu.keep _ _ _ g3; have g4 := hu.keep _ _ _ g4; have g5 := hu.keep _ _ _ g5; have z0 := HW.out.ownGe (g := w.heap.size + 1) (by omega) 0; have z1 := HW.out.ownGe (g := w.heap.size + 1) (by omega) 1; have z2 := HW.out.ownGe (g := w.heap.size + 1) (by omega) 2; have z3 := HW.out.ownGe (g := w.heap.size + 1) (by omega) 3; have z4 := HW.out.ownGe (g := w.heap.size + 1) (by omega) 4; have z5 := HW.out.ownGe (g := w.heap.size + 1) (by omega) 5; have k0 := HW.out.ownGe (g := w6.heap.size) (by omega) 0; have k1 := HW.out.ownGe (g := w6.heap.size) (by omega) 1; have k2 := HW.out.ownGe (g := w6.heap.size) (by omega) 2; have k3 := HW.out.ownGe (g := w6.heap.size) (by omega) 3; have k4 := HW.out.ownGe (g := w6.heap.size) (by omega) 4; have k5 := HW.out.ownGe (g := w6.heap.size) (by omega) 5; clear hu)
      (try go_wp2_with fail)
      refine hK.out _ _ ?hB1043 (fun hHeld => ?_)
      case hB1043 => (with_reducible exact HX.out)
      clear hK K
      (try simp only [Act.put, List.setIfInBounds_toArray, List.set_cons_zero, List.set_cons_succ])
      refine wpAnyH_take (i := 9) (oi := ⟨_, _, _, _, _, _⟩) (v := ?v1044) rfl (by kernel_rfl) (by kernel_rfl) (by kernel_rfl) (fun _ _ _ h => h) (Or.inl ⟨by rfl, ?hy1044⟩) (by assumption) ?_
      case hy1044 => (intro w hSw; (try dsimp only at hSw); go_simp; (try (with_reducible rfl)))
      (try simp only [Act.put, List.setIfInBounds_toArray, List.set_cons_zero, List.set_cons_succ])
      refine wpAnyH_take (i := 10) (oi := ⟨_, _, _, _, _, _⟩) (v := ?v1045) rfl (by kernel_rfl) (by kernel_rfl) (by kernel_rfl) (fun _ _ _ h => h) (Or.inl ⟨by rfl, ?hy1045⟩) (by assumption) ?_
      case hy1045 => (intro w hSw; (try dsimp only at hSw); go_simp; (try (with_reducible rfl)))
      (try simp only [Act.put, List.setIfInBounds_toArray, List.set_cons_zero, List.set_cons_succ])
      refine wpAnyH_take (i := 11) (oi := ⟨_, _, _, _, _, _⟩) (v := ?v1046) rfl (by kernel_rfl) (by kernel_rfl) (by kernel_rfl) (fun _ _ _ h => h) (Or.inl ⟨by rfl, ?hy1046⟩) (by assumption) ?_
      case hy1046 => (intro w hSw; (try dsimp only at hSw); go_simp; (try (with_reducible rfl)))
      (try simp only [Act.put, List.setIfInBounds_toArray, List.set_cons_zero, List.set_cons_succ])
      refine wpAnyH_ready (rs := [13]) (by kernel_rfl) (by simp) ?_
      refine AllReadyH.cons (o := ⟨_, _, _, _, _, _⟩) rfl (fun K hK => ?_) (AllReadyH.nil)
      go_simp
      refine hK.out _ _ ?hB1047 (fun hHeld => ?_)
      case hB1047 => (with_reducible exact set6K15 hHeld (by omega) (by omega) (by omega) (by omega))
      clear hK K
      (try simp only [Act.put, List.setIfInBounds_toArray, List.set_cons_zero, List.set_cons_succ])
      refine wpAnyH_take (i := 14) (oi := ⟨_, _, _, _, _, _⟩) (v := ?v1048) rfl (by kernel_rfl) (by kernel_rfl) (by kernel_rfl) (fun _ _ _ h => h) (Or.inl ⟨by rfl, ?hy1048⟩) (by assumption) ?_
      case hy1048 => (intro w hSw; (try dsimp only at hSw); go_simp; (try (with_reducible rfl)))
      (try simp only [Act.put, List.setIfInBounds_toArray, List.set_cons_zero, List.set_cons_succ])
      refine wpAnyH_done (by kernel_rfl) ?_ _
      clear hHeld HSS
      (try clear HX)
      have n1_ : ¬ (w6.heap.size = w.heap.size + 1) := by omega
      have n2_ : ¬ (w.heap.size + 1 = w6.heap.size) := by omega
      go_wp2_with fail
      refine bodyPost_ret (v := .tuple #[.agg #[.int .i64 y0, .int .i64 y1, .int .i64 y2, .int .i64 y3, .int .i64 y4, .int .i64 y5], .int .i64 0]) (by simp [results, Try.results25, go_sem, r0, r1, r2, r3, r4, r5]) rfl ⟨rfl, ?_⟩
      exact (HW.out.set6 (by omega)).set6 (by omega)
  · have hlt_ : w.heap.size + 1 < W5.heap.size := World.block_lt_of_cell? _ _ r0
    have hp1_ : p1 < W5.heap.size := by have := World.block_lt_of_cell? _ _ hHeld.2.2.1; simpa using this
    have hp2_ : p2 < W5.heap.size := by have := World.block_lt_of_cell? _ _ hHeld.2.2.2.2.2.2.2.2.2.1; simpa using this
    have g0 : (W5.alloc (.cells #[.int .i64 0, .int .i64 0, .int .i64 0, .int .i64 0, .int .i64 0, .int .i64 0] 42)).cell? ⟨W5.heap.size, 0, none⟩ = some (.int .i64 0) := by simp [go_sem]
    have g1 : (W5.alloc (.cells #[.int .i64 0, .int .i64 0, .int .i64 0, .int .i64 0, .int .i64 0, .int .i64 0] 42)).cell? ⟨W5.heap.size, 1, none⟩ = some (.int .i64 0) := by simp [go_sem]
    have g2 : (W5.alloc (.cells #[.int .i64 0, .int .i64 0, .int .i64 0, .int .i64 0, .int .i64 0, .int .i64 0] 42)).cell? ⟨W5.heap.size, 2, none⟩ = some (.int .i64 0) := by simp [go_sem]
    have g3 : (W5.alloc (.cells #[.int .i64 0, .int .i64 0, .int .i64 0, .int .i64 0, .int .i64 0, .int .i64 0] 42)).cell? ⟨W5.heap.size, 3, none⟩ = some (.int .i64 0) := by simp [go_sem]
    have g4 : (W5.alloc (.cells #[.int .i64 0, .int .i64 0, .int .i64 0, .int .i64 0, .int .i64 0, .int .i64 0] 42)).cell? ⟨W5.heap.size, 4, none⟩ = some (.int .i64 0) := by simp [go_sem]
    have g5 : (W5.alloc (.cells #[.int .i64 0, .int .i64 0, .int .i64 0, .int .i64 0, .int .i64 0, .int .i64 0] 42)).cell? ⟨W5.heap.size, 5, none⟩ = some (.int .i64 0) := by simp [go_sem]
    have r0 := ((Up.refl W5).alloc #[.int .i64 0, .int .i64 0, .int .i64 0, .int .i64 0, .int .i64 0, .int .i64 0] 42).keep _ _ _ r0
    have r1 := ((Up.refl W5).alloc #[.int .i64 0, .int .i64 0, .int .i64 0, .int .i64 0, .int .i64 0, .int .i64 0] 42).keep _ _ _ r1
    have r2 := ((Up.refl W5).alloc #[.int .i64 0, .int .i64 0, .int .i64 0, .int .i64 0, .int .i64 0, .int .i64 0] 42).keep _ _ _ r2
    have r3 := ((Up.refl W5).alloc #[.int .i64 0, .int .i64 0, .int .i64 0, .int .i64 0, .int .i64 0, .int .i64 0] 42).keep _ _ _ r3
    have r4 := ((Up.refl W5).alloc #[.int .i64 0, .int .i64 0, .int .i64 0, .int .i64 0, .int .i64 0, .int .i64 0] 42).keep _ _ _ r4
    have r5 := ((Up.refl W5).alloc #[.int .i64 0, .int .i64 0, .int .i64 0, .int .i64 0, .int .i64 0, .int .i64 0] 42).keep _ _ _ r5
    have HW := Lib.hid (HW.out.alloc #[.int .i64 0, .int .i64 0, .int .i64 0, .int .i64 0, .int .i64 0, .int .i64 0] 42)
    have z0 := HW.out.ownGe (g := w.heap.size + 1) (by omega) 0
    have z1 := HW.out.ownGe (g := w.heap.size + 1) (by omega) 1
    have z2 := HW.out.ownGe (g := w.heap.size + 1) (by omega) 2
    have z3 := HW.out.ownGe (g := w.heap.size + 1) (by omega) 3
    have z4 := HW.out.ownGe (g := w.heap.size + 1) (by omega) 4
    have z5 := HW.out.ownGe (g := w.heap.size + 1) (by omega) 5
    have k0 := HW.out.ownGe (g := W5.heap.size) (by omega) 0
    have k1 := HW.out.ownGe (g := W5.heap.size) (by omega) 1
    have k2 := HW.out.ownGe (g := W5.heap.size) (by omega) 2
    have k3 := HW.out.ownGe (g := W5.heap.size) (by omega) 3
    have k4 := HW.out.ownGe (g := W5.heap.size) (by omega) 4
    have k5 := HW.out.ownGe (g := W5.heap.size) (by omega) 5
    go_simp
    refine hK.out _ _ ?hB1049 (fun hHeld => ?_)
    case hB1049 => (with_reducible exact keepK15 (Lib.hid ((Up.refl _).alloc _ _)) hHeld)
    clear hK K
    (try simp only [Act.put, List.setIfInBounds_toArray, List.set_cons_zero, List.set_cons_succ])
    refine wpAnyH_ready (rs := [3]) (by kernel_rfl) (by simp) ?_
    refine AllReadyH.cons (o := ⟨_, _, _, _, _, _⟩) rfl (fun K hK => ?_) (AllReadyH.nil)
    go_simp
    (go_at_call 13; (with_reducible refine (K2.out _).mono ?_); rintro e w6 ⟨rfl, hu⟩; have HW := Lib.hid (HW.out.trans hu); have HX := Lib.hid (keepK15 (Lib.hid hu) hHeld); have r0 := hu.keep _ _ _ r0; have r1 := hu.keep _ _ _ r1; have r2 := hu.keep _ _ _ r2; have r3 := hu.keep _ _ _ r3; have r4 := hu.keep _ _ _ r4; have r5 := hu.keep _ _ _ r5; have g0 := hu.keep _ _ _ g0; have g1 := hu.keep _ _ _ g1; have g2 := hu.keep _ _ _ g2; have g3 := hu.keep _ _ _ g3; have g4 := hu.keep _ _ _ g4; have g5 := hu.keep _ _ _ g5; have z0 := HW.out.ownGe (g := w.heap.size + 1) (by omega) 0; have z1 := HW.out.ownGe (g := w.heap.size + 1) (by omega) 1; have z2 := HW.out.ownGe (g := w.heap.size + 1) (by omega) 2; have z3 := HW.out.ownGe (g := w.heap.size + 1) (by omega) 3; have z4 := HW.out.ownGe (g := w.heap.size + 1) (by omega) 4; have z5 := HW.out.ownGe (g := w.heap.size + 1) (by omega) 5; have k0 := HW.out.ownGe (g := W5.heap.size) (by omega) 0; have k1 := HW.out.ownGe (g := W5.heap.size) (by omega) 1; have k2 := HW.out.ownGe (g := W5.heap.size) (by omega) 2; have k3 := HW.out.ownGe (g := W5.heap.size) (by omega) 3; have k4 := HW.out.ownGe (g := W5.heap.size) (by omega) 4; have k5 := HW.out.ownGe (g := W5.heap.size) (by omega) 5; clear hu)
    (try go_wp2_with fail)
    refine hK.out _ _ ?hB1050 (fun hHeld => ?_)
    case hB1050 => (with_reducible exact HX.out)
    clear hK K
    (try simp only [Act.put, List.setIfInBounds_toArray, List.set_cons_zero, List.set_cons_succ])
    refine wpAnyH_ready (rs := [7]) (by kernel_rfl) (by simp) ?_
    refine AllReadyH.cons (o := ⟨_, _, _, _, _, _⟩) rfl (fun K hK => ?_) (AllReadyH.nil)
    go_simp
    (go_at_call 13; (with_reducible refine (K1.out _).mono ?_); rintro e w7 ⟨rfl, hu⟩; have HW := Lib.hid (HW.out.trans hu); have HX := Lib.hid (keepK15 (Lib.hid hu) hHeld); have r0 := hu.keep _ _ _ r0; have r1 := hu.keep _ _ _ r1; have r2 := hu.keep _ _ _ r2; have r3 := hu.keep _ _ _ r3; have r4 := hu.keep _ _ _ r4; have r5 := hu.keep _ _ _ r5; have g0 := hu.keep _ _ _ g0; have g1 := hu.keep _ _ _ g1; have g2 := hu.keep _ _ _ g2; have g3 := hu.keep _ _ _ g3; have g4 := hu.keep _ _ _ g4; have g5 := hu.keep _ _ _ g5; have z0 := HW.out.ownGe (g := w.heap.size + 1) (by omega) 0; have z1 := HW.out.ownGe (g := w.heap.size + 1) (by omega) 1; have z2 := HW.out.ownGe (g := w.heap.size + 1) (by omega) 2; have z3 := HW.out.ownGe (g := w.heap.size + 1) (by omega) 3; have z4 := HW.out.ownGe (g := w.heap.size + 1) (by omega) 4; have z5 := HW.out.ownGe (g := w.heap.size + 1) (by omega) 5; have k0 := HW.out.ownGe (g := W5.heap.size) (by omega) 0; have k1 := HW.out.ownGe (g := W5.heap.size) (by omega) 1; have k2 := HW.out.ownGe (g := W5.heap.size) (by omega) 2; have k3 := HW.out.ownGe (g := W5.heap.size) (by omega) 3; have k4 := HW.out.ownGe (g := W5.heap.size) (by omega) 4; have k5 := HW.out.ownGe (g := W5.heap.size) (by omega) 5; clear hu)
    (try go_wp2_with fail)
    refine hK.out _ _ ?hB1051 (fun hHeld => ?_)
    case hB1051 => (with_reducible exact HX.out)
    clear hK K
    (try simp only [Act.put, List.setIfInBounds_toArray, List.set_cons_zero, List.set_cons_succ])
    refine wpAnyH_ready (rs := [8]) (by kernel_rfl) (by simp) ?_
    refine AllReadyH.cons (o := ⟨_, _, _, _, _, _⟩) rfl (fun K hK => ?_) (AllReadyH.nil)
    go_simp
    (go_at_call 62; (with_reducible refine (KW.out _).mono ?_); rintro e w9 ⟨rfl, hu⟩; have HW := Lib.hid (HW.out.trans hu); have HX := Lib.hid (keepK15 (Lib.hid hu) hHeld); have r0 := hu.keep _ _ _ r0; have r1 := hu.keep _ _ _ r1; have r2 := hu.keep _ _ _ r2; have r3 := hu.keep _ _ _ r3; have r4 := hu.keep _ _ _ r4; have r5 := hu.keep _ _ _ r5; have g0 := hu.keep _ _ _ g0; have g1 := hu.keep _ _ _ g1; have g2 := hu.keep _ _ _ g2; have g3 := hu.keep _ _ _ g3; have g4 := hu.keep _ _ _ g4; have g5 := hu.keep _ _ _ g5; have z0 := HW.out.ownGe (g := w.heap.size + 1) (by omega) 0; have z1 := HW.out.ownGe (g := w.heap.size + 1) (by omega) 1; have z2 := HW.out.ownGe (g := w.heap.size + 1) (by omega) 2; have z3 := HW.out.ownGe (g := w.heap.size + 1) (by omega) 3; have z4 := HW.out.ownGe (g := w.heap.size + 1) (by omega) 4; have z5 := HW.out.ownGe (g := w.heap.size + 1) (by omega) 5; have k0 := HW.out.ownGe (g := W5.heap.size) (by omega) 0; have k1 := HW.out.ownGe (g := W5.heap.size) (by omega) 1; have k2 := HW.out.ownGe (g := W5.heap.size) (by omega) 2; have k3 := HW.out.ownGe (g := W5.heap.size) (by omega) 3; have k4 := HW.out.ownGe (g := W5.heap.size) (by omega) 4; have k5 := HW.out.ownGe (g := W5.heap.size) (by omega) 5; clear hu)
    (try go_wp2_with fail)
    refine hK.out _ _ ?hB1052 (fun hHeld => ?_)
    case hB1052 => (with_reducible exact HX.out)
    clear hK K
    (try simp only [Act.put, List.setIfInBounds_toArray, List.set_cons_zero, List.set_cons_succ])
    refine wpAnyH_take (i := 9) (oi := ⟨_, _, _, _, _, _⟩) (v := ?v1053) rfl (by kernel_rfl) (by kernel_rfl) (by kernel_rfl) (fun _ _ _ h => h) (Or.inl ⟨by rfl, ?hy1053⟩) (by assumption) ?_
    case hy1053 => (intro w hSw; (try dsimp only at hSw); go_simp; (try (with_reducible rfl)))
    (try simp only [Act.put, List.setIfInBounds_toArray, List.set_cons_zero, List.set_cons_succ])
    refine wpAnyH_take (i := 10) (oi := ⟨_, _, _, _, _, _⟩) (v := ?v1054) rfl (by kernel_rfl) (by kernel_rfl) (by kernel_rfl) (fun _ _ _ h => h) (Or.inl ⟨by rfl, ?hy1054⟩) (by assumption) ?_
    case hy1054 => (intro w hSw; (try dsimp only at hSw); go_simp; (try (with_reducible rfl)))
    (try simp only [Act.put, List.setIfInBounds_toArray, List.set_cons_zero, List.set_cons_succ])
    refine wpAnyH_take (i := 11) (oi := ⟨_, _, _, _, _, _⟩) (v := ?v1055) rfl (by kernel_rfl) (by kernel_rfl) (by kernel_rfl) (fun _ _ _ h => h) (Or.inl ⟨by rfl, ?hy1055⟩) (by assumption) ?_
    case hy1055 => (intro w hSw; (try dsimp only at hSw); go_simp; (try (with_reducible rfl)))
    (try simp only [Act.put, List.setIfInBounds_toArray, List.set_cons_zero, List.set_cons_succ])
    refine wpAnyH_ready (rs := [13]) (by kernel_rfl) (by simp) ?_
    refine AllReadyH.cons (o := ⟨_, _, _, _, _, _⟩) rfl (fun K hK => ?_) (AllReadyH.nil)
    go_simp
    refine hK.out _ _ ?hB1056 (fun hHeld => ?_)
    case hB1056 => (with_reducible exact set6K15 hHeld (by omega) (by omega) (by omega) (by omega))
    clear hK K
    (try simp only [Act.put, List.setIfInBounds_toArray, List.set_cons_zero, List.set_cons_succ])
    refine wpAnyH_take (i := 14) (oi := ⟨_, _, _, _, _, _⟩) (v := ?v1057) rfl (by kernel_rfl) (by kernel_rfl) (by kernel_rfl) (fun _ _ _ h => h) (Or.inl ⟨by rfl, ?hy1057⟩) (by assumption) ?_
    case hy1057 => (intro w hSw; (try dsimp only at hSw); go_simp; (try (with_reducible rfl)))
    (try simp only [Act.put, List.setIfInBounds_toArray, List.set_cons_zero, List.set_cons_succ])
    refine wpAnyH_done (by kernel_rfl) ?_ _
    clear hHeld HSS
    (try clear HX)
    have n1_ : ¬ (W5.heap.size = w.heap.size + 1) := by omega
    have n2_ : ¬ (w.heap.size + 1 = W5.heap.size) := by omega
    go_wp2_with fail
    refine bodyPost_ret (v := .tuple #[.agg #[.int .i64 y0, .int .i64 y1, .int .i64 y2, .int .i64 y3, .int .i64 y4, .int .i64 y5], .int .i64 0]) (by simp [results, Try.results25, go_sem, r0, r1, r2, r3, r4, r5]) rfl ⟨rfl, ?_⟩
    exact (HW.out.set6 (by omega)).set6 (by omega)

theorem ask13_up (g v q c now seq : Int) (n k : Nat) (A : Option Addr) (X : List Mrk) (hn : n ≤ 50000) (w : World) (hS : SG cM w A n X) :
    Calls Try.prog 25 #[.agg #[.int .i64 g, .int .i64 v, .int .i64 q, .int .i64 c, .int .i64 now, .int .i64 seq, .slice A n k]] w fun e w' => e = .returned (akM (stM g v q c now seq X) (asM g now v X)) ∧ Up w w' := by
  cases hv : stM g v q c now seq X with
  | false => exact ask13_bad g v q c now seq n k A X hn hv w hS
  | true =>
    show Calls _ _ _ _ (fun e w' => e = .returned (.tuple #[bV (asM g now v X).1 (asM g now v X).2, .int .i64 0]) ∧ _)
    by_cases h0 : n = 0
    · have e : X = [] := List.eq_nil_of_length_eq_zero (by rw [hS.1]; exact h0)
      rw [show asM g now v X = (0, 0) by rw [e]; rfl, show bV (0, 0).1 (0, 0).2 = _ from bV_self 0]
      exact ask13_none g v q c now seq n k A X hn hv h0 w hS
    cases hl : liveB now v (X.getD 0 mk0).t with
    | true =>
      obtain ⟨T, e⟩ := list_one' (X := X) (by rw [hS.1]; omega)
      rw [show asM g now v X = (ofZ g (X.getD 0 mk0), ofZ g (X.getD 0 mk0)) by conv => lhs; rw [e]
                                                                               show (if liveB now v (X.getD 0 mk0).t = true then _ else _) = _
                                                                               rw [if_pos hl]]
      show Calls _ _ _ _ (fun e w' => e = .returned (.tuple #[bV (ofZ g (X.getD 0 mk0)) (ofZ g (X.getD 0 mk0)), .int .i64 0]) ∧ _)
      rw [bV_self]
      exact ask13_first g v q c now seq n k A X hn hv (by omega) hl w hS
    | false =>
      have h1 : 1 < n := by
        rcases Nat.lt_or_ge 1 n with h | h
        · exact h
        · have := one_live hv (by rw [hS.1]; omega)
          rw [hl] at this; cases this
      obtain ⟨T, e⟩ := list_two' (X := X) (by rw [hS.1]; exact h1)
      have ea : asM g now v X = if (X.getD 1 mk0).sq = (X.getD 0 mk0).sq + 1 then (ofZ g (X.getD 1 mk0), ofZ g (X.getD 1 mk0)) else (ofZ g (X.getD 1 mk0), ofZ g (X.getD 0 mk0)) := by
        conv => lhs; rw [e]
        show (if liveB now v (X.getD 0 mk0).t = true then _ else _) = _
        rw [hl, if_neg Bool.false_ne_true]
      by_cases hq : (X.getD 1 mk0).sq = (X.getD 0 mk0).sq + 1
      · rw [ea, if_pos hq]
        show Calls _ _ _ _ (fun e w' => e = .returned (.tuple #[bV (ofZ g (X.getD 1 mk0)) (ofZ g (X.getD 1 mk0)), .int .i64 0]) ∧ _)
        rw [bV_self]
        exact ask13_second g v q c now seq n k A X hn hv h1 hl hq w hS
      · rw [ea, if_neg hq]
        exact ask13_whole g v q c now seq n k A X hn hv h1 hl hq w hS

end Go.Proofs.Ytchikndofpkjmaa
