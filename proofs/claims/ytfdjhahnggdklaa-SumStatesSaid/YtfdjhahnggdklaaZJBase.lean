/- Package sum: parameters, empty states, equal states. -/
import Derived.Test.YtfdjhahnggdklaaZBSmallm2
import Derived.Test.YtfdjhahnggdklaaZCClock
import Derived.Test.YtfdjhahnggdklaaZGBasem8
import Derived.Test.YtfdjhahnggdklaaZGLawm3
import Derived.Test.YtfdjhahnggdklaaZHOrdm2
import Derived.Test.YtfdjhahnggdklaaZHQry
import Derived.Test.YtfdjhahnggdklaaZHRVal
import Derived.Test.YtfdjhahnggdklaaZHRowm3
import Derived.Test.YtfdjhahnggdklaaZHSamem5
import Derived.Test.YtfdjhahnggdklaaZHSmallm7
import Derived.Test.YtfdjhahnggdklaaZIAdvm2
import Derived.Test.YtfdjhahnggdklaaZIBasem2
import Derived.Test.YtfdjhahnggdklaaZJSt
import Derived.Test.YtfdjhahnggdklaaZREasym4
import Derived.Test.YtfdjhahnggdklaaZWCmpm5
import Derived.Test.YtfdjhahnggdklaaZWGcd
import Derived.Test.YtfdjhahnggdklaaZWMathm9
import Derived.Test.YtfdjhahnggdklaaZWRDiv2
namespace Go.Proofs.Ytfdjhahnggdklaa
open Go.RowKit
set_option linter.unusedVariables false

theorem Sl.off6 {w : World} {A : Option Addr} {n p : Nat} {M : List It} (h : Sl w A n M) (hn : ∀ b o, A = some ⟨b, o, none⟩ → b ≠ p) (v0 v1 v2 v3 v4 v5 : Value) : Sl ((((((w.setCell ⟨p, 0, none⟩ v0).setCell ⟨p, 1, none⟩ v1).setCell ⟨p, 2, none⟩ v2).setCell ⟨p, 3, none⟩ v3).setCell ⟨p, 4, none⟩ v4).setCell ⟨p, 5, none⟩ v5) A n M :=
  (((((h.off hn _).off hn _).off hn _).off hn _).off hn _).off hn _
/-- The cells of a variable behind a store of all of them. -/
theorem cellsS6 {w : World} {p : Nat} {v0 v1 v2 v3 v4 v5 x0 x1 x2 x3 x4 x5 : Value} (e0 : w.cell? ⟨p, 0, none⟩ = some x0) (e1 : w.cell? ⟨p, 1, none⟩ = some x1) (e2 : w.cell? ⟨p, 2, none⟩ = some x2) (e3 : w.cell? ⟨p, 3, none⟩ = some x3) (e4 : w.cell? ⟨p, 4, none⟩ = some x4) (e5 : w.cell? ⟨p, 5, none⟩ = some x5) :
    let W := (((((w.setCell ⟨p, 0, none⟩ v0).setCell ⟨p, 1, none⟩ v1).setCell ⟨p, 2, none⟩ v2).setCell ⟨p, 3, none⟩ v3).setCell ⟨p, 4, none⟩ v4).setCell ⟨p, 5, none⟩ v5
    W.cell? ⟨p, 0, none⟩ = some v0 ∧ W.cell? ⟨p, 1, none⟩ = some v1 ∧ W.cell? ⟨p, 2, none⟩ = some v2 ∧ W.cell? ⟨p, 3, none⟩ = some v3 ∧ W.cell? ⟨p, 4, none⟩ = some v4 ∧ W.cell? ⟨p, 5, none⟩ = some v5 :=
  ⟨cell_set (cell_set (cell_set (cell_set (cell_set (cell_set (e0)))))), cell_set (cell_set (cell_set (cell_set (cell_set (cell_set (e1)))))), cell_set (cell_set (cell_set (cell_set (cell_set (cell_set (e2)))))), cell_set (cell_set (cell_set (cell_set (cell_set (cell_set (e3)))))), cell_set (cell_set (cell_set (cell_set (cell_set (cell_set (e4)))))), cell_set (cell_set (cell_set (cell_set (cell_set (cell_set (e5))))))⟩
theorem far6 {w : World} {p g o : Nat} {v0 v1 v2 v3 v4 v5 : Value} {u : Value} (h : w.cell? ⟨g, o, none⟩ = some u) (hp : p ≠ g) : ((((((w.setCell ⟨p, 0, none⟩ v0).setCell ⟨p, 1, none⟩ v1).setCell ⟨p, 2, none⟩ v2).setCell ⟨p, 3, none⟩ v3).setCell ⟨p, 4, none⟩ v4).setCell ⟨p, 5, none⟩ v5).cell? ⟨g, o, none⟩ = some u :=
  (cell_far hp).trans ((cell_far hp).trans ((cell_far hp).trans ((cell_far hp).trans ((cell_far hp).trans ((cell_far hp).trans h)))))
theorem keepQ4 {w w1 w2 : World} {b0 o0 b1 o1 b2 o2 b3 o3 : Nat} {x0 x1 x2 x3 : Value} (hu : Hid (Up w1 w2)) (h : Up w w1 ∧ w1.cell? ⟨b0, o0, none⟩ = some x0 ∧ w1.cell? ⟨b1, o1, none⟩ = some x1 ∧ w1.cell? ⟨b2, o2, none⟩ = some x2 ∧ w1.cell? ⟨b3, o3, none⟩ = some x3) : Up w w2 ∧ w2.cell? ⟨b0, o0, none⟩ = some x0 ∧ w2.cell? ⟨b1, o1, none⟩ = some x1 ∧ w2.cell? ⟨b2, o2, none⟩ = some x2 ∧ w2.cell? ⟨b3, o3, none⟩ = some x3 :=
  ⟨h.1.trans hu.out, hu.out.keep _ _ _ h.2.1, hu.out.keep _ _ _ h.2.2.1, hu.out.keep _ _ _ h.2.2.2.1, hu.out.keep _ _ _ h.2.2.2.2⟩
theorem keepQ12 {w w1 w2 : World} {b0 o0 b1 o1 b2 o2 b3 o3 b4 o4 b5 o5 b6 o6 b7 o7 b8 o8 b9 o9 b10 o10 b11 o11 : Nat} {x0 x1 x2 x3 x4 x5 x6 x7 x8 x9 x10 x11 : Value} (hu : Hid (Up w1 w2)) (h : Up w w1 ∧ w1.cell? ⟨b0, o0, none⟩ = some x0 ∧ w1.cell? ⟨b1, o1, none⟩ = some x1 ∧ w1.cell? ⟨b2, o2, none⟩ = some x2 ∧ w1.cell? ⟨b3, o3, none⟩ = some x3 ∧ w1.cell? ⟨b4, o4, none⟩ = some x4 ∧ w1.cell? ⟨b5, o5, none⟩ = some x5 ∧ w1.cell? ⟨b6, o6, none⟩ = some x6 ∧ w1.cell? ⟨b7, o7, none⟩ = some x7 ∧ w1.cell? ⟨b8, o8, none⟩ = some x8 ∧ w1.cell? ⟨b9, o9, none⟩ = some x9 ∧ w1.cell? ⟨b10, o10, none⟩ = some x10 ∧ w1.cell? ⟨b11, o11, none⟩ = some x11) : Up w w2 ∧ w2.cell? ⟨b0, o0, none⟩ = some x0 ∧ w2.cell? ⟨b1, o1, none⟩ = some x1 ∧ w2.cell? ⟨b2, o2, none⟩ = some x2 ∧ w2.cell? ⟨b3, o3, none⟩ = some x3 ∧ w2.cell? ⟨b4, o4, none⟩ = some x4 ∧ w2.cell? ⟨b5, o5, none⟩ = some x5 ∧ w2.cell? ⟨b6, o6, none⟩ = some x6 ∧ w2.cell? ⟨b7, o7, none⟩ = some x7 ∧ w2.cell? ⟨b8, o8, none⟩ = some x8 ∧ w2.cell? ⟨b9, o9, none⟩ = some x9 ∧ w2.cell? ⟨b10, o10, none⟩ = some x10 ∧ w2.cell? ⟨b11, o11, none⟩ = some x11 :=
  ⟨h.1.trans hu.out, hu.out.keep _ _ _ h.2.1, hu.out.keep _ _ _ h.2.2.1, hu.out.keep _ _ _ h.2.2.2.1, hu.out.keep _ _ _ h.2.2.2.2.1, hu.out.keep _ _ _ h.2.2.2.2.2.1, hu.out.keep _ _ _ h.2.2.2.2.2.2.1, hu.out.keep _ _ _ h.2.2.2.2.2.2.2.1, hu.out.keep _ _ _ h.2.2.2.2.2.2.2.2.1, hu.out.keep _ _ _ h.2.2.2.2.2.2.2.2.2.1, hu.out.keep _ _ _ h.2.2.2.2.2.2.2.2.2.2.1, hu.out.keep _ _ _ h.2.2.2.2.2.2.2.2.2.2.2.1, hu.out.keep _ _ _ h.2.2.2.2.2.2.2.2.2.2.2.2⟩

set_option maxHeartbeats 4000000 in
set_option maxRecDepth 100000 in
theorem validSizes12_up (v q c mx now : Int) (n k : Nat) (A : Option Addr) (w : World) :
    Calls Try.prog 35 #[.agg #[.int .i64 v, .int .i64 q, .int .i64 c, .int .i64 mx, .int .i64 now, .slice A n k]] w fun e w' => e = .returned (.bool (mayS v q c mx now)) ∧ Up w w' := by
  have KF := Lib.hid (first_any now v)
  have e0 : mayS v q c mx now = ((tickB now && winB v) && (decide (1 ≤ q ∧ q ≤ 64) && (decide (1 ≤ c ∧ c ≤ 65536) && decide (1 ≤ mx ∧ mx ≤ 1024)))) := by
    unfold mayS mayC mayB mxB
    cases tickB now <;> cases winB v <;> cases decide (1 ≤ q ∧ q ≤ 64) <;> cases decide (1 ≤ c ∧ c ≤ 65536) <;> cases decide (1 ≤ mx ∧ mx ≤ 1024) <;> rfl
  rw [e0]
  clear e0
  cases hb : (tickB now && winB v) with
  | false =>
    rw [firZ_no hb] at KF
    clear hb
    rw [Bool.false_and]
    go_enter Try.func35, Try.ntmps35
    go_wp2_with (go_at_call 41; (with_reducible refine (KF.out _).mono ?_); rintro e w' ⟨rfl, rfl⟩)
    go_ret
    exact ⟨rfl, (Up.refl w).alloc _ _⟩
  | true =>
  have h0 := firZ_low hb
  clear hb
  generalize firZ now v = x at *
  have t0 : decide (x < 0) = false := decide_eq_false (by omega)
  clear h0
  rw [Bool.true_and]
  by_cases h : q < 1
  · rw [decide_eq_false (p := 1 ≤ q ∧ q ≤ 64) (by omega), Bool.false_and]
    have t1 : decide (q < 1) = true := decide_eq_true h
    clear h
    go_enter Try.func35, Try.ntmps35
    go_wp2_with (go_at_call 41; (with_reducible refine (KF.out _).mono ?_); rintro e w' ⟨rfl, rfl⟩)
    go_ret
    exact ⟨rfl, (Up.refl w).alloc _ _⟩
  have t1 : decide (q < 1) = false := decide_eq_false h
  by_cases h2 : 64 < q
  · rw [decide_eq_false (p := 1 ≤ q ∧ q ≤ 64) (by omega), Bool.false_and]
    have t2 : decide (64 < q) = true := decide_eq_true h2
    clear h h2
    go_enter Try.func35, Try.ntmps35
    go_wp2_with (go_at_call 41; (with_reducible refine (KF.out _).mono ?_); rintro e w' ⟨rfl, rfl⟩)
    go_ret
    exact ⟨rfl, (Up.refl w).alloc _ _⟩
  have t2 : decide (64 < q) = false := decide_eq_false h2
  rw [decide_eq_true (p := 1 ≤ q ∧ q ≤ 64) (by omega), Bool.true_and]
  clear h h2
  by_cases h : 1 ≤ c
  case neg =>
    rw [decide_eq_false (p := 1 ≤ c ∧ c ≤ 65536) (by omega), Bool.false_and]
    have t3 : decide (1 ≤ c) = false := decide_eq_false h
    clear h
    go_enter Try.func35, Try.ntmps35
    go_wp2_with (go_at_call 41; (with_reducible refine (KF.out _).mono ?_); rintro e w' ⟨rfl, rfl⟩)
    go_ret
    exact ⟨rfl, (Up.refl w).alloc _ _⟩
  have t3 : decide (1 ≤ c) = true := decide_eq_true h
  by_cases h2 : c ≤ 65536
  case neg =>
    rw [decide_eq_false (p := 1 ≤ c ∧ c ≤ 65536) (by omega), Bool.false_and]
    have t4 : decide (c ≤ 65536) = false := decide_eq_false h2
    clear h h2
    go_enter Try.func35, Try.ntmps35
    go_wp2_with (go_at_call 41; (with_reducible refine (KF.out _).mono ?_); rintro e w' ⟨rfl, rfl⟩)
    go_ret
    exact ⟨rfl, (Up.refl w).alloc _ _⟩
  have t4 : decide (c ≤ 65536) = true := decide_eq_true h2
  rw [decide_eq_true (p := 1 ≤ c ∧ c ≤ 65536) (by omega), Bool.true_and]
  clear h h2
  by_cases h : 1 ≤ mx
  case neg =>
    rw [decide_eq_false (p := 1 ≤ mx ∧ mx ≤ 1024) (by omega)]
    have t5 : decide (1 ≤ mx) = false := decide_eq_false h
    clear h
    go_enter Try.func35, Try.ntmps35
    go_wp2_with (go_at_call 41; (with_reducible refine (KF.out _).mono ?_); rintro e w' ⟨rfl, rfl⟩)
    go_ret
    exact ⟨rfl, (Up.refl w).alloc _ _⟩
  have t5 : decide (1 ≤ mx) = true := decide_eq_true h
  by_cases h2 : mx ≤ 1024
  case neg =>
    rw [decide_eq_false (p := 1 ≤ mx ∧ mx ≤ 1024) (by omega)]
    have t6 : decide (mx ≤ 1024) = false := decide_eq_false h2
    clear h h2
    go_enter Try.func35, Try.ntmps35
    go_wp2_with (go_at_call 41; (with_reducible refine (KF.out _).mono ?_); rintro e w' ⟨rfl, rfl⟩)
    go_ret
    exact ⟨rfl, (Up.refl w).alloc _ _⟩
  have t6 : decide (mx ≤ 1024) = true := decide_eq_true h2
  rw [decide_eq_true (p := 1 ≤ mx ∧ mx ≤ 1024) (by omega)]
  clear h h2
  go_enter Try.func35, Try.ntmps35
  go_wp2_with (go_at_call 41; (with_reducible refine (KF.out _).mono ?_); rintro e w' ⟨rfl, rfl⟩)
  go_ret
  exact ⟨rfl, (Up.refl w).alloc _ _⟩

set_option maxHeartbeats 4000000 in
set_option maxRecDepth 100000 in
theorem new12_no (v q c mx now : Int) (h : mayS v q c mx now = false) (w : World) :
    Calls Try.prog 8 #[.int .i64 v, .int .i64 q, .int .i64 c, .int .i64 mx, .int .i64 now] w fun e w' => e = .returned (.tuple #[.agg #[.int .i64 0, .int .i64 0, .int .i64 0, .int .i64 0, .int .i64 0, .slice none 0 0], .int .i64 1]) ∧ Up w w' := by
  have KM := Lib.hid (fun W => validSizes12_up v q c mx now 0 0 none W)
  rw [h] at KM
  clear h
  go_enter Try.func8, Try.ntmps8
  go_wp2_with (go_at_call 35; (with_reducible refine (KM.out _).mono ?_); rintro e w1 ⟨rfl, hu⟩; have HU1 := Lib.hid ((((Up.refl w).alloc #[.int .i64 0, .int .i64 0, .int .i64 0, .int .i64 0, .int .i64 0, .slice none 0 0] 24).alloc #[.int .i64 v, .int .i64 q, .int .i64 c, .int .i64 mx, .int .i64 now, .slice none 0 0] 24).trans hu); have c00 := hu.keep (w.heap.size) 0 (.int .i64 0) (by simp [go_sem]); have c01 := hu.keep (w.heap.size) 1 (.int .i64 0) (by simp [go_sem]); have c02 := hu.keep (w.heap.size) 2 (.int .i64 0) (by simp [go_sem]); have c03 := hu.keep (w.heap.size) 3 (.int .i64 0) (by simp [go_sem]); have c04 := hu.keep (w.heap.size) 4 (.int .i64 0) (by simp [go_sem]); have c05 := hu.keep (w.heap.size) 5 (.slice none 0 0) (by simp [go_sem]); have c10 := hu.keep (w.heap.size + 1) 0 (.int .i64 v) (by simp [go_sem]); have c11 := hu.keep (w.heap.size + 1) 1 (.int .i64 q) (by simp [go_sem]); have c12 := hu.keep (w.heap.size + 1) 2 (.int .i64 c) (by simp [go_sem]); have c13 := hu.keep (w.heap.size + 1) 3 (.int .i64 mx) (by simp [go_sem]); have c14 := hu.keep (w.heap.size + 1) 4 (.int .i64 now) (by simp [go_sem]); have c15 := hu.keep (w.heap.size + 1) 5 (.slice none 0 0) (by simp [go_sem]); have z00 := HU1.out.ownGe (g := w.heap.size) (Nat.le_refl _) 0; have z01 := HU1.out.ownGe (g := w.heap.size) (Nat.le_refl _) 1; have z02 := HU1.out.ownGe (g := w.heap.size) (Nat.le_refl _) 2; have z03 := HU1.out.ownGe (g := w.heap.size) (Nat.le_refl _) 3; have z04 := HU1.out.ownGe (g := w.heap.size) (Nat.le_refl _) 4; have z05 := HU1.out.ownGe (g := w.heap.size) (Nat.le_refl _) 5; have hlt : w.heap.size + 1 < w1.heap.size := World.block_lt_of_cell? _ _ c10; have hlt0 : w.heap.size < w1.heap.size := Nat.lt_of_succ_lt hlt; clear hu)
  refine bodyPost_ret (v := .tuple #[.agg #[.int .i64 0, .int .i64 0, .int .i64 0, .int .i64 0, .int .i64 0, .slice none 0 0], .int .i64 1]) (by simp [results, Try.results8, go_sem, c00, c01, c02, c03, c04, c05]) rfl ⟨rfl, ?_⟩
  exact HU1.out.set6 (Nat.le_refl _)

set_option maxHeartbeats 4000000 in
set_option maxRecDepth 100000 in
theorem new12_yes (v q c mx now : Int) (h : mayS v q c mx now = true) (w : World) :
    Calls Try.prog 8 #[.int .i64 v, .int .i64 q, .int .i64 c, .int .i64 mx, .int .i64 now] w fun e w' => e = .returned (.tuple #[.agg #[.int .i64 v, .int .i64 q, .int .i64 c, .int .i64 mx, .int .i64 now, .slice none 0 0], .int .i64 0]) ∧ Up w w' := by
  have KM := Lib.hid (fun W => validSizes12_up v q c mx now 0 0 none W)
  rw [h] at KM
  clear h
  go_enter Try.func8, Try.ntmps8
  go_wp2_with (go_at_call 35; (with_reducible refine (KM.out _).mono ?_); rintro e w1 ⟨rfl, hu⟩; have HU1 := Lib.hid ((((Up.refl w).alloc #[.int .i64 0, .int .i64 0, .int .i64 0, .int .i64 0, .int .i64 0, .slice none 0 0] 24).alloc #[.int .i64 v, .int .i64 q, .int .i64 c, .int .i64 mx, .int .i64 now, .slice none 0 0] 24).trans hu); have c00 := hu.keep (w.heap.size) 0 (.int .i64 0) (by simp [go_sem]); have c01 := hu.keep (w.heap.size) 1 (.int .i64 0) (by simp [go_sem]); have c02 := hu.keep (w.heap.size) 2 (.int .i64 0) (by simp [go_sem]); have c03 := hu.keep (w.heap.size) 3 (.int .i64 0) (by simp [go_sem]); have c04 := hu.keep (w.heap.size) 4 (.int .i64 0) (by simp [go_sem]); have c05 := hu.keep (w.heap.size) 5 (.slice none 0 0) (by simp [go_sem]); have c10 := hu.keep (w.heap.size + 1) 0 (.int .i64 v) (by simp [go_sem]); have c11 := hu.keep (w.heap.size + 1) 1 (.int .i64 q) (by simp [go_sem]); have c12 := hu.keep (w.heap.size + 1) 2 (.int .i64 c) (by simp [go_sem]); have c13 := hu.keep (w.heap.size + 1) 3 (.int .i64 mx) (by simp [go_sem]); have c14 := hu.keep (w.heap.size + 1) 4 (.int .i64 now) (by simp [go_sem]); have c15 := hu.keep (w.heap.size + 1) 5 (.slice none 0 0) (by simp [go_sem]); have z00 := HU1.out.ownGe (g := w.heap.size) (Nat.le_refl _) 0; have z01 := HU1.out.ownGe (g := w.heap.size) (Nat.le_refl _) 1; have z02 := HU1.out.ownGe (g := w.heap.size) (Nat.le_refl _) 2; have z03 := HU1.out.ownGe (g := w.heap.size) (Nat.le_refl _) 3; have z04 := HU1.out.ownGe (g := w.heap.size) (Nat.le_refl _) 4; have z05 := HU1.out.ownGe (g := w.heap.size) (Nat.le_refl _) 5; have hlt : w.heap.size + 1 < w1.heap.size := World.block_lt_of_cell? _ _ c10; have hlt0 : w.heap.size < w1.heap.size := Nat.lt_of_succ_lt hlt; clear hu)
  refine bodyPost_ret (v := .tuple #[.agg #[.int .i64 v, .int .i64 q, .int .i64 c, .int .i64 mx, .int .i64 now, .slice none 0 0], .int .i64 0]) (by simp [results, Try.results8, go_sem, c00, c01, c02, c03, c04, c05]) rfl ⟨rfl, ?_⟩
  exact HU1.out.set6 (Nat.le_refl _)

theorem rmaymax_any (mx : Int) (w : World) :
    Calls Try.prog 38 #[.int .i64 mx] w fun e w' => e = .returned (.bool (mxB mx)) ∧ w = w' := by
  unfold mxB
  by_cases h1 : 1 ≤ mx
  case neg =>
    rw [decide_eq_false (p := 1 ≤ mx ∧ mx ≤ 1024) (by omega)]
    have t1 : decide (1 ≤ mx) = false := decide_eq_false h1
    clear h1
    go_enter Try.func38, Try.ntmps38
    go_wp2
    go_ret
    exact ⟨rfl, rfl⟩
  have t1 : decide (1 ≤ mx) = true := decide_eq_true h1
  by_cases h2 : mx ≤ 1024
  case neg =>
    rw [decide_eq_false (p := 1 ≤ mx ∧ mx ≤ 1024) (by omega)]
    have t2 : decide (mx ≤ 1024) = false := decide_eq_false h2
    clear h1 h2
    go_enter Try.func38, Try.ntmps38
    go_wp2
    go_ret
    exact ⟨rfl, rfl⟩
  have t2 : decide (mx ≤ 1024) = true := decide_eq_true h2
  rw [decide_eq_true (p := 1 ≤ mx ∧ mx ≤ 1024) (by omega)]
  clear h1 h2
  go_enter Try.func38, Try.ntmps38
  go_wp2
  go_ret
  exact ⟨rfl, rfl⟩

set_option maxHeartbeats 4000000 in
set_option maxRecDepth 100000 in
theorem rnew12_no (v q c mx now : Int) (h : mayS v q c mx now = false) (w : World) :
    Calls Try.prog 9 #[.int .i64 v, .int .i64 q, .int .i64 c, .int .i64 mx, .int .i64 now] w fun e w' => e = .returned (.tuple #[.agg #[.int .i64 0, .int .i64 0, .int .i64 0, .int .i64 0, .int .i64 0, .slice none 0 0], .int .i64 1]) ∧ Up w w' := by
  have KM := Lib.hid (rmay_any v c now)
  have KK := Lib.hid (rmayK11_any q)
  have KX := Lib.hid (rmaymax_any mx)
  unfold mayS mayC at h
  cases hm : mayB v c now with
  | false =>
    rw [hm] at KM
    clear h hm
    go_enter Try.func9, Try.ntmps9
    go_wp2_with (first | (go_at_call 36; (with_reducible refine (KM.out _).mono ?_); rintro e w' ⟨rfl, rfl⟩) | (go_at_call 37; (with_reducible refine (KK.out _).mono ?_); rintro e w' ⟨rfl, rfl⟩) | (go_at_call 38; (with_reducible refine (KX.out _).mono ?_); rintro e w' ⟨rfl, rfl⟩))
    refine bodyPost_ret (v := .tuple #[.agg #[.int .i64 0, .int .i64 0, .int .i64 0, .int .i64 0, .int .i64 0, .slice none 0 0], .int .i64 1]) (by simp [results, Try.results9, go_sem]) rfl ⟨?_, ?_⟩
    · rfl
    · repeat (first | exact Up.refl _ | refine Up.alloc ?_ _ _ | refine Up.setCell ?_ (by first | (simp; done) | (simp; omega) | omega) _ | refine Up.drewN ?_ _ | refine Up.drew ?_)
  | true =>
  rw [hm] at KM h
  cases hk : decide (1 ≤ q ∧ q ≤ 64) with
  | false =>
    rw [hk] at KK
    clear h hm hk
    go_enter Try.func9, Try.ntmps9
    go_wp2_with (first | (go_at_call 36; (with_reducible refine (KM.out _).mono ?_); rintro e w' ⟨rfl, rfl⟩) | (go_at_call 37; (with_reducible refine (KK.out _).mono ?_); rintro e w' ⟨rfl, rfl⟩) | (go_at_call 38; (with_reducible refine (KX.out _).mono ?_); rintro e w' ⟨rfl, rfl⟩))
    refine bodyPost_ret (v := .tuple #[.agg #[.int .i64 0, .int .i64 0, .int .i64 0, .int .i64 0, .int .i64 0, .slice none 0 0], .int .i64 1]) (by simp [results, Try.results9, go_sem]) rfl ⟨?_, ?_⟩
    · rfl
    · repeat (first | exact Up.refl _ | refine Up.alloc ?_ _ _ | refine Up.setCell ?_ (by first | (simp; done) | (simp; omega) | omega) _ | refine Up.drewN ?_ _ | refine Up.drew ?_)
  | true =>
    rw [hk] at KK h
    rw [Bool.true_and, Bool.true_and] at h
    rw [h] at KX
    clear h hm hk
    go_enter Try.func9, Try.ntmps9
    go_wp2_with (first | (go_at_call 36; (with_reducible refine (KM.out _).mono ?_); rintro e w' ⟨rfl, rfl⟩) | (go_at_call 37; (with_reducible refine (KK.out _).mono ?_); rintro e w' ⟨rfl, rfl⟩) | (go_at_call 38; (with_reducible refine (KX.out _).mono ?_); rintro e w' ⟨rfl, rfl⟩))
    refine bodyPost_ret (v := .tuple #[.agg #[.int .i64 0, .int .i64 0, .int .i64 0, .int .i64 0, .int .i64 0, .slice none 0 0], .int .i64 1]) (by simp [results, Try.results9, go_sem]) rfl ⟨?_, ?_⟩
    · rfl
    · repeat (first | exact Up.refl _ | refine Up.alloc ?_ _ _ | refine Up.setCell ?_ (by first | (simp; done) | (simp; omega) | omega) _ | refine Up.drewN ?_ _ | refine Up.drew ?_)

set_option maxHeartbeats 4000000 in
set_option maxRecDepth 100000 in
theorem rnew12_yes (v q c mx now : Int) (h : mayS v q c mx now = true) (w : World) :
    Calls Try.prog 9 #[.int .i64 v, .int .i64 q, .int .i64 c, .int .i64 mx, .int .i64 now] w fun e w' => e = .returned (.tuple #[.agg #[.int .i64 v, .int .i64 q, .int .i64 c, .int .i64 mx, .int .i64 now, .slice none 0 0], .int .i64 0]) ∧ Up w w' := by
  have KM := Lib.hid (rmay_any v c now)
  have KK := Lib.hid (rmayK11_any q)
  have KX := Lib.hid (rmaymax_any mx)
  unfold mayS mayC at h
  rw [Bool.and_eq_true, Bool.and_eq_true] at h
  rw [h.1.1] at KM
  rw [h.1.2] at KK
  rw [h.2] at KX
  clear h
  go_enter Try.func9, Try.ntmps9
  go_wp2_with (first | (go_at_call 36; (with_reducible refine (KM.out _).mono ?_); rintro e w' ⟨rfl, rfl⟩) | (go_at_call 37; (with_reducible refine (KK.out _).mono ?_); rintro e w' ⟨rfl, rfl⟩) | (go_at_call 38; (with_reducible refine (KX.out _).mono ?_); rintro e w' ⟨rfl, rfl⟩))
  refine bodyPost_ret (v := .tuple #[.agg #[.int .i64 v, .int .i64 q, .int .i64 c, .int .i64 mx, .int .i64 now, .slice none 0 0], .int .i64 0]) (by simp [results, Try.results9, go_sem]) rfl ⟨?_, ?_⟩
  · rfl
  · repeat (first | exact Up.refl _ | refine Up.alloc ?_ _ _ | refine Up.setCell ?_ (by first | (simp; done) | (simp; omega) | omega) _ | refine Up.drewN ?_ _ | refine Up.drew ?_)

set_option maxHeartbeats 4000000 in
set_option maxRecDepth 100000 in
theorem same12_t (v q c mx now : Int) (n k k2 : Nat) (A B : Option Addr) (L : List It) (hn : n ≤ 1000000) (w : World) (hA : Sl w A n L) (hB : Sl w B n L) :
    Calls Try.prog 10 #[.agg #[.int .i64 v, .int .i64 q, .int .i64 c, .int .i64 mx, .int .i64 now, .slice A n k], .agg #[.int .i64 v, .int .i64 q, .int .i64 c, .int .i64 mx, .int .i64 now, .slice B n k2]] w fun e w' => e = .returned (.bool true) ∧ Up w w' := by
  have HA := Lib.hid hA
  have HB := Lib.hid hB
  clear hA hB
  have t_v : (v == v) = true := by simp
  have t_q : (q == q) = true := by simp
  have t_c : (c == c) = true := by simp
  have t_mx : (mx == mx) = true := by simp
  have t_now : (now == now) = true := by simp
  go_enter Try.func10, Try.ntmps10
  go_wp2_with (go_at_call 34; refine (sameB_t n k k2 A B L hn _ (HA.out.up (((Up.refl w).alloc _ _).alloc _ _)) (HB.out.up (((Up.refl w).alloc _ _).alloc _ _))).mono ?_; rintro e w' ⟨rfl, hu⟩; have HU := Lib.hid hu; clear hu)
  go_ret
  exact ⟨rfl, (((Up.refl w).alloc _ _).alloc _ _).trans HU.out⟩

theorem few12_any (v q c mx now : Int) (n k : Nat) (A : Option Addr) (w : World) :
    Calls Try.prog 12 #[.agg #[.int .i64 v, .int .i64 q, .int .i64 c, .int .i64 mx, .int .i64 now, .slice A n k]] w fun e w' => e = .returned (.bool (decide ((n : Int) ≤ 300))) ∧ Up w w' := by
  go_enter Try.func12, Try.ntmps12
  go_wp2
  go_ret
  refine ⟨rfl, ?_⟩
  repeat (first | exact Up.refl _ | refine Up.alloc ?_ _ _ | refine Up.setCell ?_ (by first | (simp; done) | (simp; omega) | omega) _ | refine Up.drewN ?_ _ | refine Up.drew ?_)
end Go.Proofs.Ytfdjhahnggdklaa
