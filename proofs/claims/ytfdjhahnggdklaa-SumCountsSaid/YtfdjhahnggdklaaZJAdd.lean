/- What Add of package sum and of its reference returns. -/
import Derived.Test.YtfdjhahnggdklaaZBSmallm2
import Derived.Test.YtfdjhahnggdklaaZGBasem8
import Derived.Test.YtfdjhahnggdklaaZGLawm3
import Derived.Test.YtfdjhahnggdklaaZHGrowm2
import Derived.Test.YtfdjhahnggdklaaZHOrdm2
import Derived.Test.YtfdjhahnggdklaaZHRVal
import Derived.Test.YtfdjhahnggdklaaZHRowm3
import Derived.Test.YtfdjhahnggdklaaZHSamem5
import Derived.Test.YtfdjhahnggdklaaZHSmallm7
import Derived.Test.YtfdjhahnggdklaaZIBasem2
import Derived.Test.YtfdjhahnggdklaaZJAdv
import Derived.Test.YtfdjhahnggdklaaZJBase
import Derived.Test.YtfdjhahnggdklaaZJIns
import Derived.Test.YtfdjhahnggdklaaZJSt
import Derived.Test.YtfdjhahnggdklaaZJVal
import Derived.Test.YtfdjhahnggdklaaZREasym4
import Derived.Test.YtfdjhahnggdklaaZWCmpm5
import Derived.Test.YtfdjhahnggdklaaZWGcd
import Derived.Test.YtfdjhahnggdklaaZWMathm9
import Derived.Test.YtfdjhahnggdklaaZWRDiv2
namespace Go.Proofs.Ytfdjhahnggdklaa
open Go.RowKit
set_option linter.unusedVariables false


set_option maxHeartbeats 4000000 in
set_option maxRecDepth 100000 in
theorem add12_bad (v q c mx now d : Int) (n k : Nat) (A : Option Addr) (L : List It) (hn : n ≤ 50000) (hk : n ≤ k) (hv : stS v q c mx now L = false) (w : World) (hS : Sl w A n L) :
    Calls Try.prog 15 #[.agg #[.int .i64 v, .int .i64 q, .int .i64 c, .int .i64 mx, .int .i64 now, .slice A n k], .int .i64 d] w fun e w' => e = .returned (.tuple #[.agg #[.int .i64 0, .int .i64 0, .int .i64 0, .int .i64 0, .int .i64 0, .slice none 0 0], .int .i64 2]) ∧ Up w w' := by
  have KV := Lib.hid (fun W (h : Sl W A n L) => validate12_up v q c mx now n k A L hn W h)
  rw [stSE_no hv] at KV
  have HS := Lib.hid hS
  clear hS hv
  go_enter Try.func15, Try.ntmps15
  go_wp2_with (go_at_call 19; (with_reducible refine (KV.out _ (HS.out.up (((Up.refl w).alloc _ _).alloc _ _))).mono ?_); rintro e w1 ⟨rfl, hu⟩; have HU1 := Lib.hid ((((Up.refl w).alloc #[.int .i64 v, .int .i64 q, .int .i64 c, .int .i64 mx, .int .i64 now, .slice A n k] 24).alloc #[.int .i64 0, .int .i64 0, .int .i64 0, .int .i64 0, .int .i64 0, .slice none 0 0] 24).trans hu); have c00 := hu.keep (w.heap.size) 0 (.int .i64 v) (by simp [go_sem]); have c01 := hu.keep (w.heap.size) 1 (.int .i64 q) (by simp [go_sem]); have c02 := hu.keep (w.heap.size) 2 (.int .i64 c) (by simp [go_sem]); have c03 := hu.keep (w.heap.size) 3 (.int .i64 mx) (by simp [go_sem]); have c04 := hu.keep (w.heap.size) 4 (.int .i64 now) (by simp [go_sem]); have c05 := hu.keep (w.heap.size) 5 (.slice A n k) (by simp [go_sem]); have c10 := hu.keep (w.heap.size + 1) 0 (.int .i64 0) (by simp [go_sem]); have c11 := hu.keep (w.heap.size + 1) 1 (.int .i64 0) (by simp [go_sem]); have c12 := hu.keep (w.heap.size + 1) 2 (.int .i64 0) (by simp [go_sem]); have c13 := hu.keep (w.heap.size + 1) 3 (.int .i64 0) (by simp [go_sem]); have c14 := hu.keep (w.heap.size + 1) 4 (.int .i64 0) (by simp [go_sem]); have c15 := hu.keep (w.heap.size + 1) 5 (.slice none 0 0) (by simp [go_sem]); have z00 := HU1.out.ownGe (g := w.heap.size) (Nat.le_refl _) 0; have z01 := HU1.out.ownGe (g := w.heap.size) (Nat.le_refl _) 1; have z02 := HU1.out.ownGe (g := w.heap.size) (Nat.le_refl _) 2; have z03 := HU1.out.ownGe (g := w.heap.size) (Nat.le_refl _) 3; have z04 := HU1.out.ownGe (g := w.heap.size) (Nat.le_refl _) 4; have z05 := HU1.out.ownGe (g := w.heap.size) (Nat.le_refl _) 5; have z10 := HU1.out.ownGe (g := w.heap.size + 1) (by omega) 0; have z11 := HU1.out.ownGe (g := w.heap.size + 1) (by omega) 1; have z12 := HU1.out.ownGe (g := w.heap.size + 1) (by omega) 2; have z13 := HU1.out.ownGe (g := w.heap.size + 1) (by omega) 3; have z14 := HU1.out.ownGe (g := w.heap.size + 1) (by omega) 4; have z15 := HU1.out.ownGe (g := w.heap.size + 1) (by omega) 5; have hlt : w.heap.size + 1 < w1.heap.size := World.block_lt_of_cell? _ _ c10; have hlt0 : w.heap.size < w1.heap.size := Nat.lt_of_succ_lt hlt; clear hu)
  refine bodyPost_ret (v := .tuple #[.agg #[.int .i64 0, .int .i64 0, .int .i64 0, .int .i64 0, .int .i64 0, .slice none 0 0], .int .i64 2]) (by simp [results, Try.results15, go_sem, c10, c11, c12, c13, c14, c15]) rfl ⟨rfl, ?_⟩
  exact HU1.out.set6 (by omega)

set_option maxHeartbeats 4000000 in
set_option maxRecDepth 100000 in
theorem add12_range (v q c mx now d : Int) (n k : Nat) (A : Option Addr) (L : List It) (hn : n ≤ 50000) (hk : n ≤ k) (hv : stS v q c mx now L = true) (hr : d < 0 ∨ mx < d) (w : World) (hS : Sl w A n L) :
    Calls Try.prog 15 #[.agg #[.int .i64 v, .int .i64 q, .int .i64 c, .int .i64 mx, .int .i64 now, .slice A n k], .int .i64 d] w fun e w' => e = .returned (.tuple #[.agg #[.int .i64 0, .int .i64 0, .int .i64 0, .int .i64 0, .int .i64 0, .slice none 0 0], .int .i64 4]) ∧ Up w w' := by
  have KV := Lib.hid (fun W (h : Sl W A n L) => validate12_up v q c mx now n k A L hn W h)
  rw [stSE_yes hv] at KV
  have HS := Lib.hid hS
  clear hS hv
  by_cases h : d < 0
  · have t1 : decide (d < 0) = true := decide_eq_true h
    clear h hr
    go_enter Try.func15, Try.ntmps15
    go_wp2_with (go_at_call 19; (with_reducible refine (KV.out _ (HS.out.up (((Up.refl w).alloc _ _).alloc _ _))).mono ?_); rintro e w1 ⟨rfl, hu⟩; have HU1 := Lib.hid ((((Up.refl w).alloc #[.int .i64 v, .int .i64 q, .int .i64 c, .int .i64 mx, .int .i64 now, .slice A n k] 24).alloc #[.int .i64 0, .int .i64 0, .int .i64 0, .int .i64 0, .int .i64 0, .slice none 0 0] 24).trans hu); have c00 := hu.keep (w.heap.size) 0 (.int .i64 v) (by simp [go_sem]); have c01 := hu.keep (w.heap.size) 1 (.int .i64 q) (by simp [go_sem]); have c02 := hu.keep (w.heap.size) 2 (.int .i64 c) (by simp [go_sem]); have c03 := hu.keep (w.heap.size) 3 (.int .i64 mx) (by simp [go_sem]); have c04 := hu.keep (w.heap.size) 4 (.int .i64 now) (by simp [go_sem]); have c05 := hu.keep (w.heap.size) 5 (.slice A n k) (by simp [go_sem]); have c10 := hu.keep (w.heap.size + 1) 0 (.int .i64 0) (by simp [go_sem]); have c11 := hu.keep (w.heap.size + 1) 1 (.int .i64 0) (by simp [go_sem]); have c12 := hu.keep (w.heap.size + 1) 2 (.int .i64 0) (by simp [go_sem]); have c13 := hu.keep (w.heap.size + 1) 3 (.int .i64 0) (by simp [go_sem]); have c14 := hu.keep (w.heap.size + 1) 4 (.int .i64 0) (by simp [go_sem]); have c15 := hu.keep (w.heap.size + 1) 5 (.slice none 0 0) (by simp [go_sem]); have z00 := HU1.out.ownGe (g := w.heap.size) (Nat.le_refl _) 0; have z01 := HU1.out.ownGe (g := w.heap.size) (Nat.le_refl _) 1; have z02 := HU1.out.ownGe (g := w.heap.size) (Nat.le_refl _) 2; have z03 := HU1.out.ownGe (g := w.heap.size) (Nat.le_refl _) 3; have z04 := HU1.out.ownGe (g := w.heap.size) (Nat.le_refl _) 4; have z05 := HU1.out.ownGe (g := w.heap.size) (Nat.le_refl _) 5; have z10 := HU1.out.ownGe (g := w.heap.size + 1) (by omega) 0; have z11 := HU1.out.ownGe (g := w.heap.size + 1) (by omega) 1; have z12 := HU1.out.ownGe (g := w.heap.size + 1) (by omega) 2; have z13 := HU1.out.ownGe (g := w.heap.size + 1) (by omega) 3; have z14 := HU1.out.ownGe (g := w.heap.size + 1) (by omega) 4; have z15 := HU1.out.ownGe (g := w.heap.size + 1) (by omega) 5; have hlt : w.heap.size + 1 < w1.heap.size := World.block_lt_of_cell? _ _ c10; have hlt0 : w.heap.size < w1.heap.size := Nat.lt_of_succ_lt hlt; clear hu)
    refine bodyPost_ret (v := .tuple #[.agg #[.int .i64 0, .int .i64 0, .int .i64 0, .int .i64 0, .int .i64 0, .slice none 0 0], .int .i64 4]) (by simp [results, Try.results15, go_sem, c10, c11, c12, c13, c14, c15]) rfl ⟨rfl, ?_⟩
    exact HU1.out.set6 (by omega)
  · have t1 : decide (d < 0) = false := decide_eq_false h
    have t2 : decide (mx < d) = true := decide_eq_true (by omega)
    clear h hr
    go_enter Try.func15, Try.ntmps15
    go_wp2_with (go_at_call 19; (with_reducible refine (KV.out _ (HS.out.up (((Up.refl w).alloc _ _).alloc _ _))).mono ?_); rintro e w1 ⟨rfl, hu⟩; have HU1 := Lib.hid ((((Up.refl w).alloc #[.int .i64 v, .int .i64 q, .int .i64 c, .int .i64 mx, .int .i64 now, .slice A n k] 24).alloc #[.int .i64 0, .int .i64 0, .int .i64 0, .int .i64 0, .int .i64 0, .slice none 0 0] 24).trans hu); have c00 := hu.keep (w.heap.size) 0 (.int .i64 v) (by simp [go_sem]); have c01 := hu.keep (w.heap.size) 1 (.int .i64 q) (by simp [go_sem]); have c02 := hu.keep (w.heap.size) 2 (.int .i64 c) (by simp [go_sem]); have c03 := hu.keep (w.heap.size) 3 (.int .i64 mx) (by simp [go_sem]); have c04 := hu.keep (w.heap.size) 4 (.int .i64 now) (by simp [go_sem]); have c05 := hu.keep (w.heap.size) 5 (.slice A n k) (by simp [go_sem]); have c10 := hu.keep (w.heap.size + 1) 0 (.int .i64 0) (by simp [go_sem]); have c11 := hu.keep (w.heap.size + 1) 1 (.int .i64 0) (by simp [go_sem]); have c12 := hu.keep (w.heap.size + 1) 2 (.int .i64 0) (by simp [go_sem]); have c13 := hu.keep (w.heap.size + 1) 3 (.int .i64 0) (by simp [go_sem]); have c14 := hu.keep (w.heap.size + 1) 4 (.int .i64 0) (by simp [go_sem]); have c15 := hu.keep (w.heap.size + 1) 5 (.slice none 0 0) (by simp [go_sem]); have z00 := HU1.out.ownGe (g := w.heap.size) (Nat.le_refl _) 0; have z01 := HU1.out.ownGe (g := w.heap.size) (Nat.le_refl _) 1; have z02 := HU1.out.ownGe (g := w.heap.size) (Nat.le_refl _) 2; have z03 := HU1.out.ownGe (g := w.heap.size) (Nat.le_refl _) 3; have z04 := HU1.out.ownGe (g := w.heap.size) (Nat.le_refl _) 4; have z05 := HU1.out.ownGe (g := w.heap.size) (Nat.le_refl _) 5; have z10 := HU1.out.ownGe (g := w.heap.size + 1) (by omega) 0; have z11 := HU1.out.ownGe (g := w.heap.size + 1) (by omega) 1; have z12 := HU1.out.ownGe (g := w.heap.size + 1) (by omega) 2; have z13 := HU1.out.ownGe (g := w.heap.size + 1) (by omega) 3; have z14 := HU1.out.ownGe (g := w.heap.size + 1) (by omega) 4; have z15 := HU1.out.ownGe (g := w.heap.size + 1) (by omega) 5; have hlt : w.heap.size + 1 < w1.heap.size := World.block_lt_of_cell? _ _ c10; have hlt0 : w.heap.size < w1.heap.size := Nat.lt_of_succ_lt hlt; clear hu)
    refine bodyPost_ret (v := .tuple #[.agg #[.int .i64 0, .int .i64 0, .int .i64 0, .int .i64 0, .int .i64 0, .slice none 0 0], .int .i64 4]) (by simp [results, Try.results15, go_sem, c10, c11, c12, c13, c14, c15]) rfl ⟨rfl, ?_⟩
    exact HU1.out.set6 (by omega)

set_option maxHeartbeats 4000000 in
set_option maxRecDepth 100000 in
theorem add12_full (v q c mx now d : Int) (n k : Nat) (A : Option Addr) (L : List It) (hn : n ≤ 50000) (hk : n ≤ k) (hv : stS v q c mx now L = true) (hr0 : 0 ≤ d) (hr1 : d ≤ mx) (hf : c < totB L + d) (w : World) (hS : Sl w A n L) :
    Calls Try.prog 15 #[.agg #[.int .i64 v, .int .i64 q, .int .i64 c, .int .i64 mx, .int .i64 now, .slice A n k], .int .i64 d] w fun e w' => e = .returned (.tuple #[.agg #[.int .i64 0, .int .i64 0, .int .i64 0, .int .i64 0, .int .i64 0, .slice none 0 0], .int .i64 5]) ∧ Up w w' := by
  have KV := Lib.hid (fun W (h : Sl W A n L) => validate12_up v q c mx now n k A L hn W h)
  rw [stSE_yes hv] at KV
  have HS := Lib.hid hS
  have t1 : decide (d < 0) = false := decide_eq_false (by omega)
  have t2 : decide (mx < d) = false := decide_eq_false (by omega)
  have q1 := totB_low L
  have q2 := (stC_true (stS_true hv).1).2.2.2
  have q3 := (stC_facts (stS_true hv).1).2.2
  have q4 := (stS_true hv).2.2
  have KT := Lib.hid (fun W (h : Sl W A n L) => total10_up n k A L (by omega) W h)
  generalize totB L = y at *
  have k1 : IntKind.i64.wrap (y + d) = y + d := IntWalk.i64_in _ (by omega)
  have t3 : decide (c < y + d) = true := decide_eq_true hf
  clear hS hv hf hr0 hr1 q1 q2 q3 q4
  go_enter Try.func15, Try.ntmps15
  go_wp2_with (go_at_call 19; (with_reducible refine (KV.out _ (HS.out.up (((Up.refl w).alloc _ _).alloc _ _))).mono ?_); rintro e w1 ⟨rfl, hu⟩; have HU1 := Lib.hid ((((Up.refl w).alloc #[.int .i64 v, .int .i64 q, .int .i64 c, .int .i64 mx, .int .i64 now, .slice A n k] 24).alloc #[.int .i64 0, .int .i64 0, .int .i64 0, .int .i64 0, .int .i64 0, .slice none 0 0] 24).trans hu); have c00 := hu.keep (w.heap.size) 0 (.int .i64 v) (by simp [go_sem]); have c01 := hu.keep (w.heap.size) 1 (.int .i64 q) (by simp [go_sem]); have c02 := hu.keep (w.heap.size) 2 (.int .i64 c) (by simp [go_sem]); have c03 := hu.keep (w.heap.size) 3 (.int .i64 mx) (by simp [go_sem]); have c04 := hu.keep (w.heap.size) 4 (.int .i64 now) (by simp [go_sem]); have c05 := hu.keep (w.heap.size) 5 (.slice A n k) (by simp [go_sem]); have c10 := hu.keep (w.heap.size + 1) 0 (.int .i64 0) (by simp [go_sem]); have c11 := hu.keep (w.heap.size + 1) 1 (.int .i64 0) (by simp [go_sem]); have c12 := hu.keep (w.heap.size + 1) 2 (.int .i64 0) (by simp [go_sem]); have c13 := hu.keep (w.heap.size + 1) 3 (.int .i64 0) (by simp [go_sem]); have c14 := hu.keep (w.heap.size + 1) 4 (.int .i64 0) (by simp [go_sem]); have c15 := hu.keep (w.heap.size + 1) 5 (.slice none 0 0) (by simp [go_sem]); have z00 := HU1.out.ownGe (g := w.heap.size) (Nat.le_refl _) 0; have z01 := HU1.out.ownGe (g := w.heap.size) (Nat.le_refl _) 1; have z02 := HU1.out.ownGe (g := w.heap.size) (Nat.le_refl _) 2; have z03 := HU1.out.ownGe (g := w.heap.size) (Nat.le_refl _) 3; have z04 := HU1.out.ownGe (g := w.heap.size) (Nat.le_refl _) 4; have z05 := HU1.out.ownGe (g := w.heap.size) (Nat.le_refl _) 5; have z10 := HU1.out.ownGe (g := w.heap.size + 1) (by omega) 0; have z11 := HU1.out.ownGe (g := w.heap.size + 1) (by omega) 1; have z12 := HU1.out.ownGe (g := w.heap.size + 1) (by omega) 2; have z13 := HU1.out.ownGe (g := w.heap.size + 1) (by omega) 3; have z14 := HU1.out.ownGe (g := w.heap.size + 1) (by omega) 4; have z15 := HU1.out.ownGe (g := w.heap.size + 1) (by omega) 5; have hlt : w.heap.size + 1 < w1.heap.size := World.block_lt_of_cell? _ _ c10; have hlt0 : w.heap.size < w1.heap.size := Nat.lt_of_succ_lt hlt; clear hu)
  have HSS : Hid (Up w w1 ∧ w1.cell? ⟨w.heap.size, 0, none⟩ = some (.int .i64 v) ∧ w1.cell? ⟨w.heap.size, 1, none⟩ = some (.int .i64 q) ∧ w1.cell? ⟨w.heap.size, 2, none⟩ = some (.int .i64 c) ∧ w1.cell? ⟨w.heap.size, 3, none⟩ = some (.int .i64 mx) ∧ w1.cell? ⟨w.heap.size, 4, none⟩ = some (.int .i64 now) ∧ w1.cell? ⟨w.heap.size, 5, none⟩ = some (.slice A n k) ∧ w1.cell? ⟨w.heap.size + 1, 0, none⟩ = some (.int .i64 0) ∧ w1.cell? ⟨w.heap.size + 1, 1, none⟩ = some (.int .i64 0) ∧ w1.cell? ⟨w.heap.size + 1, 2, none⟩ = some (.int .i64 0) ∧ w1.cell? ⟨w.heap.size + 1, 3, none⟩ = some (.int .i64 0) ∧ w1.cell? ⟨w.heap.size + 1, 4, none⟩ = some (.int .i64 0) ∧ w1.cell? ⟨w.heap.size + 1, 5, none⟩ = some (.slice none 0 0)) := Lib.hid ⟨HU1.out, c00, c01, c02, c03, c04, c05, c10, c11, c12, c13, c14, c15⟩
  clear c00 z00 c01 z01 c02 z02 c03 z03 c04 z04 c05 z05 c10 z10 c11 z11 c12 z12 c13 z13 c14 z14 c15 z15 hlt hlt0
  go_region_held3 (fun w' => Up w w' ∧ w'.cell? ⟨w.heap.size, 0, none⟩ = some (.int .i64 v) ∧ w'.cell? ⟨w.heap.size, 1, none⟩ = some (.int .i64 q) ∧ w'.cell? ⟨w.heap.size, 2, none⟩ = some (.int .i64 c) ∧ w'.cell? ⟨w.heap.size, 3, none⟩ = some (.int .i64 mx) ∧ w'.cell? ⟨w.heap.size, 4, none⟩ = some (.int .i64 now) ∧ w'.cell? ⟨w.heap.size, 5, none⟩ = some (.slice A n k) ∧ w'.cell? ⟨w.heap.size + 1, 0, none⟩ = some (.int .i64 0) ∧ w'.cell? ⟨w.heap.size + 1, 1, none⟩ = some (.int .i64 0) ∧ w'.cell? ⟨w.heap.size + 1, 2, none⟩ = some (.int .i64 0) ∧ w'.cell? ⟨w.heap.size + 1, 3, none⟩ = some (.int .i64 0) ∧ w'.cell? ⟨w.heap.size + 1, 4, none⟩ = some (.int .i64 0) ∧ w'.cell? ⟨w.heap.size + 1, 5, none⟩ = some (.slice none 0 0))
    (repeat (first | (with_reducible exact HSS.out) | (with_reducible exact keepQ12 (by assumption) (by assumption)) | (with_reducible exact Hid.out (by assumption)) | (with_reducible refine keepQ12 (Lib.hid (Up.refl _).drew) ?_)))
    (first | (go_at_call 45; (with_reducible refine (KT.out _ (HS.out.up (by assumption : Up w _ ∧ _).1)).mono ?_); rintro e w3 ⟨rfl, hu⟩; have HU3 := Lib.hid hu; have HX3 := Lib.hid (keepQ12 HU3 (by assumption)); clear hu))
  clear ‹Up w _ ∧ _›
  obtain ⟨_, d00, d01, d02, d03, d04, d05, d10, d11, d12, d13, d14, d15⟩ := HX3.out
  have HU3w : Hid (Up w w3) := Lib.hid HX3.out.1
  have y00 := HU3w.out.ownGe (g := w.heap.size) (Nat.le_refl _) 0
  have y10 := HU3w.out.ownGe (g := w.heap.size + 1) (by omega) 0
  have y01 := HU3w.out.ownGe (g := w.heap.size) (Nat.le_refl _) 1
  have y11 := HU3w.out.ownGe (g := w.heap.size + 1) (by omega) 1
  have y02 := HU3w.out.ownGe (g := w.heap.size) (Nat.le_refl _) 2
  have y12 := HU3w.out.ownGe (g := w.heap.size + 1) (by omega) 2
  have y03 := HU3w.out.ownGe (g := w.heap.size) (Nat.le_refl _) 3
  have y13 := HU3w.out.ownGe (g := w.heap.size + 1) (by omega) 3
  have y04 := HU3w.out.ownGe (g := w.heap.size) (Nat.le_refl _) 4
  have y14 := HU3w.out.ownGe (g := w.heap.size + 1) (by omega) 4
  have y05 := HU3w.out.ownGe (g := w.heap.size) (Nat.le_refl _) 5
  have y15 := HU3w.out.ownGe (g := w.heap.size + 1) (by omega) 5
  have hlt : w.heap.size + 1 < w3.heap.size := World.block_lt_of_cell? _ _ d10
  have hlt0 : w.heap.size < w3.heap.size := Nat.lt_of_succ_lt hlt
  go_wp2_with fail
  refine bodyPost_ret (v := .tuple #[.agg #[.int .i64 0, .int .i64 0, .int .i64 0, .int .i64 0, .int .i64 0, .slice none 0 0], .int .i64 5]) (by simp [results, Try.results15, go_sem, d10, d11, d12, d13, d14, d15]) rfl ⟨rfl, ?_⟩
  exact HU3w.out.set6 (by omega)

set_option maxHeartbeats 4000000 in
set_option maxRecDepth 100000 in
theorem add12_good (v q c mx now d : Int) (n k : Nat) (A : Option Addr) (L : List It) (hn : n ≤ 50000) (hk : n ≤ k) (hv : stS v q c mx now L = true) (hr0 : 0 ≤ d) (hr1 : d ≤ mx) (hf : totB L + d ≤ c) (w : World) (hS : Sl w A n L) :
    Calls Try.prog 15 #[.agg #[.int .i64 v, .int .i64 q, .int .i64 c, .int .i64 mx, .int .i64 now, .slice A n k], .int .i64 d] w fun e w' => ∃ A' n' k', e = .returned (.tuple #[.agg #[.int .i64 v, .int .i64 q, .int .i64 c, .int .i64 mx, .int .i64 now, .slice A' n' k'], .int .i64 0]) ∧ n' ≤ n + 1024 ∧ n' ≤ k' ∧ Nw w A' ∧ Sl w' A' n' (itB q now d.toNat L) ∧ Up w w' := by
  have KV := Lib.hid (fun W (h : Sl W A n L) => validate12_up v q c mx now n k A L hn W h)
  rw [stSE_yes hv] at KV
  have HS := Lib.hid hS
  have t1 : decide (d < 0) = false := decide_eq_false (by omega)
  have t2 : decide (mx < d) = false := decide_eq_false (by omega)
  have q1 := totB_low L
  have q2 := (stC_true (stS_true hv).1).2.2.2
  have q3 := (stC_facts (stS_true hv).1).2.2
  have q4 := (stS_true hv).2.2
  have KT := Lib.hid (fun W (h : Sl W A n L) => total10_up n k A L (by omega) W h)
  have KI := Lib.hid (fun W (h : Sl W A n L) => insertMany_up n k A L q now d hn W h)
  rw [imL_many (stS_true hv).1 hr0 (by omega) hf] at KI
  generalize itB q now d.toNat L = M at *
  generalize totB L = y at *
  have k1 : IntKind.i64.wrap (y + d) = y + d := IntWalk.i64_in _ (by omega)
  have t3 : decide (c < y + d) = false := decide_eq_false (by omega)
  clear hS hv hf hr0 hr1 q1 q2 q3 q4
  go_enter Try.func15, Try.ntmps15
  go_wp2_with (go_at_call 19; (with_reducible refine (KV.out _ (HS.out.up (((Up.refl w).alloc _ _).alloc _ _))).mono ?_); rintro e w1 ⟨rfl, hu⟩; have HU1 := Lib.hid ((((Up.refl w).alloc #[.int .i64 v, .int .i64 q, .int .i64 c, .int .i64 mx, .int .i64 now, .slice A n k] 24).alloc #[.int .i64 0, .int .i64 0, .int .i64 0, .int .i64 0, .int .i64 0, .slice none 0 0] 24).trans hu); have c00 := hu.keep (w.heap.size) 0 (.int .i64 v) (by simp [go_sem]); have c01 := hu.keep (w.heap.size) 1 (.int .i64 q) (by simp [go_sem]); have c02 := hu.keep (w.heap.size) 2 (.int .i64 c) (by simp [go_sem]); have c03 := hu.keep (w.heap.size) 3 (.int .i64 mx) (by simp [go_sem]); have c04 := hu.keep (w.heap.size) 4 (.int .i64 now) (by simp [go_sem]); have c05 := hu.keep (w.heap.size) 5 (.slice A n k) (by simp [go_sem]); have c10 := hu.keep (w.heap.size + 1) 0 (.int .i64 0) (by simp [go_sem]); have c11 := hu.keep (w.heap.size + 1) 1 (.int .i64 0) (by simp [go_sem]); have c12 := hu.keep (w.heap.size + 1) 2 (.int .i64 0) (by simp [go_sem]); have c13 := hu.keep (w.heap.size + 1) 3 (.int .i64 0) (by simp [go_sem]); have c14 := hu.keep (w.heap.size + 1) 4 (.int .i64 0) (by simp [go_sem]); have c15 := hu.keep (w.heap.size + 1) 5 (.slice none 0 0) (by simp [go_sem]); have z00 := HU1.out.ownGe (g := w.heap.size) (Nat.le_refl _) 0; have z01 := HU1.out.ownGe (g := w.heap.size) (Nat.le_refl _) 1; have z02 := HU1.out.ownGe (g := w.heap.size) (Nat.le_refl _) 2; have z03 := HU1.out.ownGe (g := w.heap.size) (Nat.le_refl _) 3; have z04 := HU1.out.ownGe (g := w.heap.size) (Nat.le_refl _) 4; have z05 := HU1.out.ownGe (g := w.heap.size) (Nat.le_refl _) 5; have z10 := HU1.out.ownGe (g := w.heap.size + 1) (by omega) 0; have z11 := HU1.out.ownGe (g := w.heap.size + 1) (by omega) 1; have z12 := HU1.out.ownGe (g := w.heap.size + 1) (by omega) 2; have z13 := HU1.out.ownGe (g := w.heap.size + 1) (by omega) 3; have z14 := HU1.out.ownGe (g := w.heap.size + 1) (by omega) 4; have z15 := HU1.out.ownGe (g := w.heap.size + 1) (by omega) 5; have hlt : w.heap.size + 1 < w1.heap.size := World.block_lt_of_cell? _ _ c10; have hlt0 : w.heap.size < w1.heap.size := Nat.lt_of_succ_lt hlt; clear hu)
  have HSS : Hid (Up w w1 ∧ w1.cell? ⟨w.heap.size, 0, none⟩ = some (.int .i64 v) ∧ w1.cell? ⟨w.heap.size, 1, none⟩ = some (.int .i64 q) ∧ w1.cell? ⟨w.heap.size, 2, none⟩ = some (.int .i64 c) ∧ w1.cell? ⟨w.heap.size, 3, none⟩ = some (.int .i64 mx) ∧ w1.cell? ⟨w.heap.size, 4, none⟩ = some (.int .i64 now) ∧ w1.cell? ⟨w.heap.size, 5, none⟩ = some (.slice A n k) ∧ w1.cell? ⟨w.heap.size + 1, 0, none⟩ = some (.int .i64 0) ∧ w1.cell? ⟨w.heap.size + 1, 1, none⟩ = some (.int .i64 0) ∧ w1.cell? ⟨w.heap.size + 1, 2, none⟩ = some (.int .i64 0) ∧ w1.cell? ⟨w.heap.size + 1, 3, none⟩ = some (.int .i64 0) ∧ w1.cell? ⟨w.heap.size + 1, 4, none⟩ = some (.int .i64 0) ∧ w1.cell? ⟨w.heap.size + 1, 5, none⟩ = some (.slice none 0 0)) := Lib.hid ⟨HU1.out, c00, c01, c02, c03, c04, c05, c10, c11, c12, c13, c14, c15⟩
  clear c00 z00 c01 z01 c02 z02 c03 z03 c04 z04 c05 z05 c10 z10 c11 z11 c12 z12 c13 z13 c14 z14 c15 z15 hlt hlt0
  go_region_held3 (fun w' => Up w w' ∧ w'.cell? ⟨w.heap.size, 0, none⟩ = some (.int .i64 v) ∧ w'.cell? ⟨w.heap.size, 1, none⟩ = some (.int .i64 q) ∧ w'.cell? ⟨w.heap.size, 2, none⟩ = some (.int .i64 c) ∧ w'.cell? ⟨w.heap.size, 3, none⟩ = some (.int .i64 mx) ∧ w'.cell? ⟨w.heap.size, 4, none⟩ = some (.int .i64 now) ∧ w'.cell? ⟨w.heap.size, 5, none⟩ = some (.slice A n k) ∧ w'.cell? ⟨w.heap.size + 1, 0, none⟩ = some (.int .i64 0) ∧ w'.cell? ⟨w.heap.size + 1, 1, none⟩ = some (.int .i64 0) ∧ w'.cell? ⟨w.heap.size + 1, 2, none⟩ = some (.int .i64 0) ∧ w'.cell? ⟨w.heap.size + 1, 3, none⟩ = some (.int .i64 0) ∧ w'.cell? ⟨w.heap.size + 1, 4, none⟩ = some (.int .i64 0) ∧ w'.cell? ⟨w.heap.size + 1, 5, none⟩ = some (.slice none 0 0))
    (repeat (first | (with_reducible exact HSS.out) | (with_reducible exact keepQ12 (by assumption) (by assumption)) | (with_reducible exact Hid.out (by assumption)) | (with_reducible refine keepQ12 (Lib.hid (Up.refl _).drew) ?_)))
    (first | (go_at_call 45; (with_reducible refine (KT.out _ (HS.out.up (by assumption : Up w _ ∧ _).1)).mono ?_); rintro e w3 ⟨rfl, hu⟩; have HU3 := Lib.hid hu; have HX3 := Lib.hid (keepQ12 HU3 (by assumption)); clear hu))
  clear ‹Up w _ ∧ _›
  obtain ⟨_, d00, d01, d02, d03, d04, d05, d10, d11, d12, d13, d14, d15⟩ := HX3.out
  have HU3w : Hid (Up w w3) := Lib.hid HX3.out.1
  have y00 := HU3w.out.ownGe (g := w.heap.size) (Nat.le_refl _) 0
  have y10 := HU3w.out.ownGe (g := w.heap.size + 1) (by omega) 0
  have y01 := HU3w.out.ownGe (g := w.heap.size) (Nat.le_refl _) 1
  have y11 := HU3w.out.ownGe (g := w.heap.size + 1) (by omega) 1
  have y02 := HU3w.out.ownGe (g := w.heap.size) (Nat.le_refl _) 2
  have y12 := HU3w.out.ownGe (g := w.heap.size + 1) (by omega) 2
  have y03 := HU3w.out.ownGe (g := w.heap.size) (Nat.le_refl _) 3
  have y13 := HU3w.out.ownGe (g := w.heap.size + 1) (by omega) 3
  have y04 := HU3w.out.ownGe (g := w.heap.size) (Nat.le_refl _) 4
  have y14 := HU3w.out.ownGe (g := w.heap.size + 1) (by omega) 4
  have y05 := HU3w.out.ownGe (g := w.heap.size) (Nat.le_refl _) 5
  have y15 := HU3w.out.ownGe (g := w.heap.size + 1) (by omega) 5
  have hlt : w.heap.size + 1 < w3.heap.size := World.block_lt_of_cell? _ _ d10
  have hlt0 : w.heap.size < w3.heap.size := Nat.lt_of_succ_lt hlt
  go_wp2_with (go_at_call 46; (with_reducible refine (KI.out _ (HS.out.up HU3w.out)).mono ?_); rintro e w4 ⟨A4, n4, k4, rfl, hn4, hM, hu⟩; have HM := Lib.hid hM; have HU4 := Lib.hid (HU3w.out.trans hu); have e00 := hu.keep _ _ _ d00; have e10 := hu.keep _ _ _ d10; have e01 := hu.keep _ _ _ d01; have e11 := hu.keep _ _ _ d11; have e02 := hu.keep _ _ _ d02; have e12 := hu.keep _ _ _ d12; have e03 := hu.keep _ _ _ d03; have e13 := hu.keep _ _ _ d13; have e04 := hu.keep _ _ _ d04; have e14 := hu.keep _ _ _ d14; have e05 := hu.keep _ _ _ d05; have e15 := hu.keep _ _ _ d15; have x00 := HU4.out.ownGe (g := w.heap.size) (Nat.le_refl _) 0; have x10 := HU4.out.ownGe (g := w.heap.size + 1) (by omega) 0; have x01 := HU4.out.ownGe (g := w.heap.size) (Nat.le_refl _) 1; have x11 := HU4.out.ownGe (g := w.heap.size + 1) (by omega) 1; have x02 := HU4.out.ownGe (g := w.heap.size) (Nat.le_refl _) 2; have x12 := HU4.out.ownGe (g := w.heap.size + 1) (by omega) 2; have x03 := HU4.out.ownGe (g := w.heap.size) (Nat.le_refl _) 3; have x13 := HU4.out.ownGe (g := w.heap.size + 1) (by omega) 3; have x04 := HU4.out.ownGe (g := w.heap.size) (Nat.le_refl _) 4; have x14 := HU4.out.ownGe (g := w.heap.size + 1) (by omega) 4; have x05 := HU4.out.ownGe (g := w.heap.size) (Nat.le_refl _) 5; have x15 := HU4.out.ownGe (g := w.heap.size + 1) (by omega) 5; have hlt4 : w.heap.size + 1 < w4.heap.size := World.block_lt_of_cell? _ _ e10; clear hu hM)
  refine bodyPost_ret (v := .tuple #[.agg #[.int .i64 v, .int .i64 q, .int .i64 c, .int .i64 mx, .int .i64 now, .slice A4 n4 k4], .int .i64 0]) (by simp [results, Try.results15, go_sem, e10, e11, e12, e13, e14, e15]) rfl ⟨A4, n4, k4, rfl, hn4, HM.out.at_.1, HM.out.nw.up HU3w.out, ?_, ?_⟩
  · exact (HM.out.at_.2.off (HM.out.nw.off hlt0) _).off6 (HM.out.nw.off hlt) _ _ _ _ _ _
  · exact (HU4.out.setCell (Nat.le_refl _) _).set6 (by omega)

set_option maxHeartbeats 4000000 in
set_option maxRecDepth 100000 in
theorem radd12_bad (v q c mx now d : Int) (n k : Nat) (A : Option Addr) (L : List It) (hn : n ≤ 50000) (hk : n ≤ k) (hv : stS v q c mx now L = false) (w : World) (hS : Sl w A n L) :
    Calls Try.prog 16 #[.agg #[.int .i64 v, .int .i64 q, .int .i64 c, .int .i64 mx, .int .i64 now, .slice A n k], .int .i64 d] w fun e w' => e = .returned (.tuple #[.agg #[.int .i64 0, .int .i64 0, .int .i64 0, .int .i64 0, .int .i64 0, .slice none 0 0], .int .i64 2]) ∧ Up w w' := by
  have KV := Lib.hid (fun W (h : Sl W A n L) => rvalidate12_up v q c mx now n k A L hn W h)
  rw [stSE_no hv] at KV
  have HS := Lib.hid hS
  clear hS hv
  go_enter Try.func16, Try.ntmps16
  go_wp2_with (go_at_call 20; (with_reducible refine (KV.out _ (HS.out.up (((Up.refl w).alloc _ _).alloc _ _))).mono ?_); rintro e w1 ⟨rfl, hu⟩; have HU1 := Lib.hid ((((Up.refl w).alloc #[.int .i64 v, .int .i64 q, .int .i64 c, .int .i64 mx, .int .i64 now, .slice A n k] 24).alloc #[.int .i64 0, .int .i64 0, .int .i64 0, .int .i64 0, .int .i64 0, .slice none 0 0] 24).trans hu); have c00 := hu.keep (w.heap.size) 0 (.int .i64 v) (by simp [go_sem]); have c01 := hu.keep (w.heap.size) 1 (.int .i64 q) (by simp [go_sem]); have c02 := hu.keep (w.heap.size) 2 (.int .i64 c) (by simp [go_sem]); have c03 := hu.keep (w.heap.size) 3 (.int .i64 mx) (by simp [go_sem]); have c04 := hu.keep (w.heap.size) 4 (.int .i64 now) (by simp [go_sem]); have c05 := hu.keep (w.heap.size) 5 (.slice A n k) (by simp [go_sem]); have c10 := hu.keep (w.heap.size + 1) 0 (.int .i64 0) (by simp [go_sem]); have c11 := hu.keep (w.heap.size + 1) 1 (.int .i64 0) (by simp [go_sem]); have c12 := hu.keep (w.heap.size + 1) 2 (.int .i64 0) (by simp [go_sem]); have c13 := hu.keep (w.heap.size + 1) 3 (.int .i64 0) (by simp [go_sem]); have c14 := hu.keep (w.heap.size + 1) 4 (.int .i64 0) (by simp [go_sem]); have c15 := hu.keep (w.heap.size + 1) 5 (.slice none 0 0) (by simp [go_sem]); have z00 := HU1.out.ownGe (g := w.heap.size) (Nat.le_refl _) 0; have z01 := HU1.out.ownGe (g := w.heap.size) (Nat.le_refl _) 1; have z02 := HU1.out.ownGe (g := w.heap.size) (Nat.le_refl _) 2; have z03 := HU1.out.ownGe (g := w.heap.size) (Nat.le_refl _) 3; have z04 := HU1.out.ownGe (g := w.heap.size) (Nat.le_refl _) 4; have z05 := HU1.out.ownGe (g := w.heap.size) (Nat.le_refl _) 5; have z10 := HU1.out.ownGe (g := w.heap.size + 1) (by omega) 0; have z11 := HU1.out.ownGe (g := w.heap.size + 1) (by omega) 1; have z12 := HU1.out.ownGe (g := w.heap.size + 1) (by omega) 2; have z13 := HU1.out.ownGe (g := w.heap.size + 1) (by omega) 3; have z14 := HU1.out.ownGe (g := w.heap.size + 1) (by omega) 4; have z15 := HU1.out.ownGe (g := w.heap.size + 1) (by omega) 5; have hlt : w.heap.size + 1 < w1.heap.size := World.block_lt_of_cell? _ _ c10; have hlt0 : w.heap.size < w1.heap.size := Nat.lt_of_succ_lt hlt; clear hu)
  refine bodyPost_ret (v := .tuple #[.agg #[.int .i64 0, .int .i64 0, .int .i64 0, .int .i64 0, .int .i64 0, .slice none 0 0], .int .i64 2]) (by simp [results, Try.results16, go_sem, c10, c11, c12, c13, c14, c15]) rfl ⟨rfl, ?_⟩
  exact HU1.out.set6 (by omega)

set_option maxHeartbeats 4000000 in
set_option maxRecDepth 100000 in
theorem radd12_range (v q c mx now d : Int) (n k : Nat) (A : Option Addr) (L : List It) (hn : n ≤ 50000) (hk : n ≤ k) (hv : stS v q c mx now L = true) (hr : d < 0 ∨ mx < d) (w : World) (hS : Sl w A n L) :
    Calls Try.prog 16 #[.agg #[.int .i64 v, .int .i64 q, .int .i64 c, .int .i64 mx, .int .i64 now, .slice A n k], .int .i64 d] w fun e w' => e = .returned (.tuple #[.agg #[.int .i64 0, .int .i64 0, .int .i64 0, .int .i64 0, .int .i64 0, .slice none 0 0], .int .i64 4]) ∧ Up w w' := by
  have KV := Lib.hid (fun W (h : Sl W A n L) => rvalidate12_up v q c mx now n k A L hn W h)
  rw [stSE_yes hv] at KV
  have HS := Lib.hid hS
  clear hS hv
  by_cases h : d < 0
  · have t1 : decide (d < 0) = true := decide_eq_true h
    clear h hr
    go_enter Try.func16, Try.ntmps16
    go_wp2_with (go_at_call 20; (with_reducible refine (KV.out _ (HS.out.up (((Up.refl w).alloc _ _).alloc _ _))).mono ?_); rintro e w1 ⟨rfl, hu⟩; have HU1 := Lib.hid ((((Up.refl w).alloc #[.int .i64 v, .int .i64 q, .int .i64 c, .int .i64 mx, .int .i64 now, .slice A n k] 24).alloc #[.int .i64 0, .int .i64 0, .int .i64 0, .int .i64 0, .int .i64 0, .slice none 0 0] 24).trans hu); have c00 := hu.keep (w.heap.size) 0 (.int .i64 v) (by simp [go_sem]); have c01 := hu.keep (w.heap.size) 1 (.int .i64 q) (by simp [go_sem]); have c02 := hu.keep (w.heap.size) 2 (.int .i64 c) (by simp [go_sem]); have c03 := hu.keep (w.heap.size) 3 (.int .i64 mx) (by simp [go_sem]); have c04 := hu.keep (w.heap.size) 4 (.int .i64 now) (by simp [go_sem]); have c05 := hu.keep (w.heap.size) 5 (.slice A n k) (by simp [go_sem]); have c10 := hu.keep (w.heap.size + 1) 0 (.int .i64 0) (by simp [go_sem]); have c11 := hu.keep (w.heap.size + 1) 1 (.int .i64 0) (by simp [go_sem]); have c12 := hu.keep (w.heap.size + 1) 2 (.int .i64 0) (by simp [go_sem]); have c13 := hu.keep (w.heap.size + 1) 3 (.int .i64 0) (by simp [go_sem]); have c14 := hu.keep (w.heap.size + 1) 4 (.int .i64 0) (by simp [go_sem]); have c15 := hu.keep (w.heap.size + 1) 5 (.slice none 0 0) (by simp [go_sem]); have z00 := HU1.out.ownGe (g := w.heap.size) (Nat.le_refl _) 0; have z01 := HU1.out.ownGe (g := w.heap.size) (Nat.le_refl _) 1; have z02 := HU1.out.ownGe (g := w.heap.size) (Nat.le_refl _) 2; have z03 := HU1.out.ownGe (g := w.heap.size) (Nat.le_refl _) 3; have z04 := HU1.out.ownGe (g := w.heap.size) (Nat.le_refl _) 4; have z05 := HU1.out.ownGe (g := w.heap.size) (Nat.le_refl _) 5; have z10 := HU1.out.ownGe (g := w.heap.size + 1) (by omega) 0; have z11 := HU1.out.ownGe (g := w.heap.size + 1) (by omega) 1; have z12 := HU1.out.ownGe (g := w.heap.size + 1) (by omega) 2; have z13 := HU1.out.ownGe (g := w.heap.size + 1) (by omega) 3; have z14 := HU1.out.ownGe (g := w.heap.size + 1) (by omega) 4; have z15 := HU1.out.ownGe (g := w.heap.size + 1) (by omega) 5; have hlt : w.heap.size + 1 < w1.heap.size := World.block_lt_of_cell? _ _ c10; have hlt0 : w.heap.size < w1.heap.size := Nat.lt_of_succ_lt hlt; clear hu)
    refine bodyPost_ret (v := .tuple #[.agg #[.int .i64 0, .int .i64 0, .int .i64 0, .int .i64 0, .int .i64 0, .slice none 0 0], .int .i64 4]) (by simp [results, Try.results16, go_sem, c10, c11, c12, c13, c14, c15]) rfl ⟨rfl, ?_⟩
    exact HU1.out.set6 (by omega)
  · have t1 : decide (d < 0) = false := decide_eq_false h
    have t2 : decide (mx < d) = true := decide_eq_true (by omega)
    clear h hr
    go_enter Try.func16, Try.ntmps16
    go_wp2_with (go_at_call 20; (with_reducible refine (KV.out _ (HS.out.up (((Up.refl w).alloc _ _).alloc _ _))).mono ?_); rintro e w1 ⟨rfl, hu⟩; have HU1 := Lib.hid ((((Up.refl w).alloc #[.int .i64 v, .int .i64 q, .int .i64 c, .int .i64 mx, .int .i64 now, .slice A n k] 24).alloc #[.int .i64 0, .int .i64 0, .int .i64 0, .int .i64 0, .int .i64 0, .slice none 0 0] 24).trans hu); have c00 := hu.keep (w.heap.size) 0 (.int .i64 v) (by simp [go_sem]); have c01 := hu.keep (w.heap.size) 1 (.int .i64 q) (by simp [go_sem]); have c02 := hu.keep (w.heap.size) 2 (.int .i64 c) (by simp [go_sem]); have c03 := hu.keep (w.heap.size) 3 (.int .i64 mx) (by simp [go_sem]); have c04 := hu.keep (w.heap.size) 4 (.int .i64 now) (by simp [go_sem]); have c05 := hu.keep (w.heap.size) 5 (.slice A n k) (by simp [go_sem]); have c10 := hu.keep (w.heap.size + 1) 0 (.int .i64 0) (by simp [go_sem]); have c11 := hu.keep (w.heap.size + 1) 1 (.int .i64 0) (by simp [go_sem]); have c12 := hu.keep (w.heap.size + 1) 2 (.int .i64 0) (by simp [go_sem]); have c13 := hu.keep (w.heap.size + 1) 3 (.int .i64 0) (by simp [go_sem]); have c14 := hu.keep (w.heap.size + 1) 4 (.int .i64 0) (by simp [go_sem]); have c15 := hu.keep (w.heap.size + 1) 5 (.slice none 0 0) (by simp [go_sem]); have z00 := HU1.out.ownGe (g := w.heap.size) (Nat.le_refl _) 0; have z01 := HU1.out.ownGe (g := w.heap.size) (Nat.le_refl _) 1; have z02 := HU1.out.ownGe (g := w.heap.size) (Nat.le_refl _) 2; have z03 := HU1.out.ownGe (g := w.heap.size) (Nat.le_refl _) 3; have z04 := HU1.out.ownGe (g := w.heap.size) (Nat.le_refl _) 4; have z05 := HU1.out.ownGe (g := w.heap.size) (Nat.le_refl _) 5; have z10 := HU1.out.ownGe (g := w.heap.size + 1) (by omega) 0; have z11 := HU1.out.ownGe (g := w.heap.size + 1) (by omega) 1; have z12 := HU1.out.ownGe (g := w.heap.size + 1) (by omega) 2; have z13 := HU1.out.ownGe (g := w.heap.size + 1) (by omega) 3; have z14 := HU1.out.ownGe (g := w.heap.size + 1) (by omega) 4; have z15 := HU1.out.ownGe (g := w.heap.size + 1) (by omega) 5; have hlt : w.heap.size + 1 < w1.heap.size := World.block_lt_of_cell? _ _ c10; have hlt0 : w.heap.size < w1.heap.size := Nat.lt_of_succ_lt hlt; clear hu)
    refine bodyPost_ret (v := .tuple #[.agg #[.int .i64 0, .int .i64 0, .int .i64 0, .int .i64 0, .int .i64 0, .slice none 0 0], .int .i64 4]) (by simp [results, Try.results16, go_sem, c10, c11, c12, c13, c14, c15]) rfl ⟨rfl, ?_⟩
    exact HU1.out.set6 (by omega)

set_option maxHeartbeats 4000000 in
set_option maxRecDepth 100000 in
theorem radd12_full (v q c mx now d : Int) (n k : Nat) (A : Option Addr) (L : List It) (hn : n ≤ 50000) (hk : n ≤ k) (hv : stS v q c mx now L = true) (hr0 : 0 ≤ d) (hr1 : d ≤ mx) (hf : c < totB L + d) (w : World) (hS : Sl w A n L) :
    Calls Try.prog 16 #[.agg #[.int .i64 v, .int .i64 q, .int .i64 c, .int .i64 mx, .int .i64 now, .slice A n k], .int .i64 d] w fun e w' => e = .returned (.tuple #[.agg #[.int .i64 0, .int .i64 0, .int .i64 0, .int .i64 0, .int .i64 0, .slice none 0 0], .int .i64 5]) ∧ Up w w' := by
  have KV := Lib.hid (fun W (h : Sl W A n L) => rvalidate12_up v q c mx now n k A L hn W h)
  rw [stSE_yes hv] at KV
  have HS := Lib.hid hS
  have t1 : decide (d < 0) = false := decide_eq_false (by omega)
  have t2 : decide (mx < d) = false := decide_eq_false (by omega)
  have q1 := totB_low L
  have q2 := (stC_true (stS_true hv).1).2.2.2
  have q3 := (stC_facts (stS_true hv).1).2.2
  have q4 := (stS_true hv).2.2
  have KT := Lib.hid (fun W (h : Sl W A n L) => rtotal10_up n k A L (by omega) W h)
  generalize totB L = y at *
  have k1 : IntKind.i64.wrap (y + d) = y + d := IntWalk.i64_in _ (by omega)
  have t3 : decide (c < y + d) = true := decide_eq_true hf
  clear hS hv hf hr0 hr1 q1 q2 q3 q4
  go_enter Try.func16, Try.ntmps16
  go_wp2_with (go_at_call 20; (with_reducible refine (KV.out _ (HS.out.up (((Up.refl w).alloc _ _).alloc _ _))).mono ?_); rintro e w1 ⟨rfl, hu⟩; have HU1 := Lib.hid ((((Up.refl w).alloc #[.int .i64 v, .int .i64 q, .int .i64 c, .int .i64 mx, .int .i64 now, .slice A n k] 24).alloc #[.int .i64 0, .int .i64 0, .int .i64 0, .int .i64 0, .int .i64 0, .slice none 0 0] 24).trans hu); have c00 := hu.keep (w.heap.size) 0 (.int .i64 v) (by simp [go_sem]); have c01 := hu.keep (w.heap.size) 1 (.int .i64 q) (by simp [go_sem]); have c02 := hu.keep (w.heap.size) 2 (.int .i64 c) (by simp [go_sem]); have c03 := hu.keep (w.heap.size) 3 (.int .i64 mx) (by simp [go_sem]); have c04 := hu.keep (w.heap.size) 4 (.int .i64 now) (by simp [go_sem]); have c05 := hu.keep (w.heap.size) 5 (.slice A n k) (by simp [go_sem]); have c10 := hu.keep (w.heap.size + 1) 0 (.int .i64 0) (by simp [go_sem]); have c11 := hu.keep (w.heap.size + 1) 1 (.int .i64 0) (by simp [go_sem]); have c12 := hu.keep (w.heap.size + 1) 2 (.int .i64 0) (by simp [go_sem]); have c13 := hu.keep (w.heap.size + 1) 3 (.int .i64 0) (by simp [go_sem]); have c14 := hu.keep (w.heap.size + 1) 4 (.int .i64 0) (by simp [go_sem]); have c15 := hu.keep (w.heap.size + 1) 5 (.slice none 0 0) (by simp [go_sem]); have z00 := HU1.out.ownGe (g := w.heap.size) (Nat.le_refl _) 0; have z01 := HU1.out.ownGe (g := w.heap.size) (Nat.le_refl _) 1; have z02 := HU1.out.ownGe (g := w.heap.size) (Nat.le_refl _) 2; have z03 := HU1.out.ownGe (g := w.heap.size) (Nat.le_refl _) 3; have z04 := HU1.out.ownGe (g := w.heap.size) (Nat.le_refl _) 4; have z05 := HU1.out.ownGe (g := w.heap.size) (Nat.le_refl _) 5; have z10 := HU1.out.ownGe (g := w.heap.size + 1) (by omega) 0; have z11 := HU1.out.ownGe (g := w.heap.size + 1) (by omega) 1; have z12 := HU1.out.ownGe (g := w.heap.size + 1) (by omega) 2; have z13 := HU1.out.ownGe (g := w.heap.size + 1) (by omega) 3; have z14 := HU1.out.ownGe (g := w.heap.size + 1) (by omega) 4; have z15 := HU1.out.ownGe (g := w.heap.size + 1) (by omega) 5; have hlt : w.heap.size + 1 < w1.heap.size := World.block_lt_of_cell? _ _ c10; have hlt0 : w.heap.size < w1.heap.size := Nat.lt_of_succ_lt hlt; clear hu)
  have HSS : Hid (Up w w1 ∧ w1.cell? ⟨w.heap.size, 0, none⟩ = some (.int .i64 v) ∧ w1.cell? ⟨w.heap.size, 1, none⟩ = some (.int .i64 q) ∧ w1.cell? ⟨w.heap.size, 2, none⟩ = some (.int .i64 c) ∧ w1.cell? ⟨w.heap.size, 3, none⟩ = some (.int .i64 mx) ∧ w1.cell? ⟨w.heap.size, 4, none⟩ = some (.int .i64 now) ∧ w1.cell? ⟨w.heap.size, 5, none⟩ = some (.slice A n k) ∧ w1.cell? ⟨w.heap.size + 1, 0, none⟩ = some (.int .i64 0) ∧ w1.cell? ⟨w.heap.size + 1, 1, none⟩ = some (.int .i64 0) ∧ w1.cell? ⟨w.heap.size + 1, 2, none⟩ = some (.int .i64 0) ∧ w1.cell? ⟨w.heap.size + 1, 3, none⟩ = some (.int .i64 0) ∧ w1.cell? ⟨w.heap.size + 1, 4, none⟩ = some (.int .i64 0) ∧ w1.cell? ⟨w.heap.size + 1, 5, none⟩ = some (.slice none 0 0)) := Lib.hid ⟨HU1.out, c00, c01, c02, c03, c04, c05, c10, c11, c12, c13, c14, c15⟩
  clear c00 z00 c01 z01 c02 z02 c03 z03 c04 z04 c05 z05 c10 z10 c11 z11 c12 z12 c13 z13 c14 z14 c15 z15 hlt hlt0
  go_region_held3 (fun w' => Up w w' ∧ w'.cell? ⟨w.heap.size, 0, none⟩ = some (.int .i64 v) ∧ w'.cell? ⟨w.heap.size, 1, none⟩ = some (.int .i64 q) ∧ w'.cell? ⟨w.heap.size, 2, none⟩ = some (.int .i64 c) ∧ w'.cell? ⟨w.heap.size, 3, none⟩ = some (.int .i64 mx) ∧ w'.cell? ⟨w.heap.size, 4, none⟩ = some (.int .i64 now) ∧ w'.cell? ⟨w.heap.size, 5, none⟩ = some (.slice A n k) ∧ w'.cell? ⟨w.heap.size + 1, 0, none⟩ = some (.int .i64 0) ∧ w'.cell? ⟨w.heap.size + 1, 1, none⟩ = some (.int .i64 0) ∧ w'.cell? ⟨w.heap.size + 1, 2, none⟩ = some (.int .i64 0) ∧ w'.cell? ⟨w.heap.size + 1, 3, none⟩ = some (.int .i64 0) ∧ w'.cell? ⟨w.heap.size + 1, 4, none⟩ = some (.int .i64 0) ∧ w'.cell? ⟨w.heap.size + 1, 5, none⟩ = some (.slice none 0 0))
    (repeat (first | (with_reducible exact HSS.out) | (with_reducible exact keepQ12 (by assumption) (by assumption)) | (with_reducible exact Hid.out (by assumption)) | (with_reducible refine keepQ12 (Lib.hid (Up.refl _).drew) ?_)))
    (first | (go_at_call 47; (with_reducible refine (KT.out _ (HS.out.up (by assumption : Up w _ ∧ _).1)).mono ?_); rintro e w3 ⟨rfl, hu⟩; have HU3 := Lib.hid hu; have HX3 := Lib.hid (keepQ12 HU3 (by assumption)); clear hu))
  clear ‹Up w _ ∧ _›
  obtain ⟨_, d00, d01, d02, d03, d04, d05, d10, d11, d12, d13, d14, d15⟩ := HX3.out
  have HU3w : Hid (Up w w3) := Lib.hid HX3.out.1
  have y00 := HU3w.out.ownGe (g := w.heap.size) (Nat.le_refl _) 0
  have y10 := HU3w.out.ownGe (g := w.heap.size + 1) (by omega) 0
  have y01 := HU3w.out.ownGe (g := w.heap.size) (Nat.le_refl _) 1
  have y11 := HU3w.out.ownGe (g := w.heap.size + 1) (by omega) 1
  have y02 := HU3w.out.ownGe (g := w.heap.size) (Nat.le_refl _) 2
  have y12 := HU3w.out.ownGe (g := w.heap.size + 1) (by omega) 2
  have y03 := HU3w.out.ownGe (g := w.heap.size) (Nat.le_refl _) 3
  have y13 := HU3w.out.ownGe (g := w.heap.size + 1) (by omega) 3
  have y04 := HU3w.out.ownGe (g := w.heap.size) (Nat.le_refl _) 4
  have y14 := HU3w.out.ownGe (g := w.heap.size + 1) (by omega) 4
  have y05 := HU3w.out.ownGe (g := w.heap.size) (Nat.le_refl _) 5
  have y15 := HU3w.out.ownGe (g := w.heap.size + 1) (by omega) 5
  have hlt : w.heap.size + 1 < w3.heap.size := World.block_lt_of_cell? _ _ d10
  have hlt0 : w.heap.size < w3.heap.size := Nat.lt_of_succ_lt hlt
  go_wp2_with fail
  refine bodyPost_ret (v := .tuple #[.agg #[.int .i64 0, .int .i64 0, .int .i64 0, .int .i64 0, .int .i64 0, .slice none 0 0], .int .i64 5]) (by simp [results, Try.results16, go_sem, d10, d11, d12, d13, d14, d15]) rfl ⟨rfl, ?_⟩
  exact HU3w.out.set6 (by omega)

set_option maxHeartbeats 4000000 in
set_option maxRecDepth 100000 in
theorem radd12_zero (v q c mx now d : Int) (n k : Nat) (A : Option Addr) (L : List It) (hn : n ≤ 50000) (hk : n ≤ k) (hv : stS v q c mx now L = true) (hr0 : 0 ≤ d) (hz : d = 0) (hr1 : d ≤ mx) (hf : totB L + d ≤ c) (w : World) (hS : Sl w A n L) :
    Calls Try.prog 16 #[.agg #[.int .i64 v, .int .i64 q, .int .i64 c, .int .i64 mx, .int .i64 now, .slice A n k], .int .i64 d] w fun e w' => ∃ A' n' k', e = .returned (.tuple #[.agg #[.int .i64 v, .int .i64 q, .int .i64 c, .int .i64 mx, .int .i64 now, .slice A' n' k'], .int .i64 0]) ∧ n' ≤ n + 1024 ∧ Sl w' A' n' (itB q now d.toNat L) ∧ Up w w' := by
  have KV := Lib.hid (fun W (h : Sl W A n L) => rvalidate12_up v q c mx now n k A L hn W h)
  rw [stSE_yes hv] at KV
  have HS := Lib.hid hS
  have t1 : decide (d < 0) = false := decide_eq_false (by omega)
  have t2 : decide (mx < d) = false := decide_eq_false (by omega)
  have q1 := totB_low L
  have q2 := (stC_true (stS_true hv).1).2.2.2
  have q3 := (stC_facts (stS_true hv).1).2.2
  have q4 := (stS_true hv).2.2
  have KT := Lib.hid (fun W (h : Sl W A n L) => rtotal10_up n k A L (by omega) W h)
  subst hz
  rw [itB_none]
  have KI := Lib.hid (fun W (h : Sl W A n L) => rinsertMany_none n k A L v q c now hn (stS_true hv).1 W h)
  generalize totB L = y at *
  have t3 : decide (c < y) = false := decide_eq_false (by omega)
  have k1 : IntKind.i64.wrap y = y := IntWalk.i64_in _ (by omega)
  clear hS hv hf hr0 hr1 q1 q2 q3 q4
  go_enter Try.func16, Try.ntmps16
  go_wp2_with (go_at_call 20; (with_reducible refine (KV.out _ (HS.out.up (((Up.refl w).alloc _ _).alloc _ _))).mono ?_); rintro e w1 ⟨rfl, hu⟩; have HU1 := Lib.hid ((((Up.refl w).alloc #[.int .i64 v, .int .i64 q, .int .i64 c, .int .i64 mx, .int .i64 now, .slice A n k] 24).alloc #[.int .i64 0, .int .i64 0, .int .i64 0, .int .i64 0, .int .i64 0, .slice none 0 0] 24).trans hu); have c00 := hu.keep (w.heap.size) 0 (.int .i64 v) (by simp [go_sem]); have c01 := hu.keep (w.heap.size) 1 (.int .i64 q) (by simp [go_sem]); have c02 := hu.keep (w.heap.size) 2 (.int .i64 c) (by simp [go_sem]); have c03 := hu.keep (w.heap.size) 3 (.int .i64 mx) (by simp [go_sem]); have c04 := hu.keep (w.heap.size) 4 (.int .i64 now) (by simp [go_sem]); have c05 := hu.keep (w.heap.size) 5 (.slice A n k) (by simp [go_sem]); have c10 := hu.keep (w.heap.size + 1) 0 (.int .i64 0) (by simp [go_sem]); have c11 := hu.keep (w.heap.size + 1) 1 (.int .i64 0) (by simp [go_sem]); have c12 := hu.keep (w.heap.size + 1) 2 (.int .i64 0) (by simp [go_sem]); have c13 := hu.keep (w.heap.size + 1) 3 (.int .i64 0) (by simp [go_sem]); have c14 := hu.keep (w.heap.size + 1) 4 (.int .i64 0) (by simp [go_sem]); have c15 := hu.keep (w.heap.size + 1) 5 (.slice none 0 0) (by simp [go_sem]); have z00 := HU1.out.ownGe (g := w.heap.size) (Nat.le_refl _) 0; have z01 := HU1.out.ownGe (g := w.heap.size) (Nat.le_refl _) 1; have z02 := HU1.out.ownGe (g := w.heap.size) (Nat.le_refl _) 2; have z03 := HU1.out.ownGe (g := w.heap.size) (Nat.le_refl _) 3; have z04 := HU1.out.ownGe (g := w.heap.size) (Nat.le_refl _) 4; have z05 := HU1.out.ownGe (g := w.heap.size) (Nat.le_refl _) 5; have z10 := HU1.out.ownGe (g := w.heap.size + 1) (by omega) 0; have z11 := HU1.out.ownGe (g := w.heap.size + 1) (by omega) 1; have z12 := HU1.out.ownGe (g := w.heap.size + 1) (by omega) 2; have z13 := HU1.out.ownGe (g := w.heap.size + 1) (by omega) 3; have z14 := HU1.out.ownGe (g := w.heap.size + 1) (by omega) 4; have z15 := HU1.out.ownGe (g := w.heap.size + 1) (by omega) 5; have hlt : w.heap.size + 1 < w1.heap.size := World.block_lt_of_cell? _ _ c10; have hlt0 : w.heap.size < w1.heap.size := Nat.lt_of_succ_lt hlt; clear hu)
  have HSS : Hid (Up w w1 ∧ w1.cell? ⟨w.heap.size, 0, none⟩ = some (.int .i64 v) ∧ w1.cell? ⟨w.heap.size, 1, none⟩ = some (.int .i64 q) ∧ w1.cell? ⟨w.heap.size, 2, none⟩ = some (.int .i64 c) ∧ w1.cell? ⟨w.heap.size, 3, none⟩ = some (.int .i64 mx) ∧ w1.cell? ⟨w.heap.size, 4, none⟩ = some (.int .i64 now) ∧ w1.cell? ⟨w.heap.size, 5, none⟩ = some (.slice A n k) ∧ w1.cell? ⟨w.heap.size + 1, 0, none⟩ = some (.int .i64 0) ∧ w1.cell? ⟨w.heap.size + 1, 1, none⟩ = some (.int .i64 0) ∧ w1.cell? ⟨w.heap.size + 1, 2, none⟩ = some (.int .i64 0) ∧ w1.cell? ⟨w.heap.size + 1, 3, none⟩ = some (.int .i64 0) ∧ w1.cell? ⟨w.heap.size + 1, 4, none⟩ = some (.int .i64 0) ∧ w1.cell? ⟨w.heap.size + 1, 5, none⟩ = some (.slice none 0 0)) := Lib.hid ⟨HU1.out, c00, c01, c02, c03, c04, c05, c10, c11, c12, c13, c14, c15⟩
  clear c00 z00 c01 z01 c02 z02 c03 z03 c04 z04 c05 z05 c10 z10 c11 z11 c12 z12 c13 z13 c14 z14 c15 z15 hlt hlt0
  go_region_held3 (fun w' => Up w w' ∧ w'.cell? ⟨w.heap.size, 0, none⟩ = some (.int .i64 v) ∧ w'.cell? ⟨w.heap.size, 1, none⟩ = some (.int .i64 q) ∧ w'.cell? ⟨w.heap.size, 2, none⟩ = some (.int .i64 c) ∧ w'.cell? ⟨w.heap.size, 3, none⟩ = some (.int .i64 mx) ∧ w'.cell? ⟨w.heap.size, 4, none⟩ = some (.int .i64 now) ∧ w'.cell? ⟨w.heap.size, 5, none⟩ = some (.slice A n k) ∧ w'.cell? ⟨w.heap.size + 1, 0, none⟩ = some (.int .i64 0) ∧ w'.cell? ⟨w.heap.size + 1, 1, none⟩ = some (.int .i64 0) ∧ w'.cell? ⟨w.heap.size + 1, 2, none⟩ = some (.int .i64 0) ∧ w'.cell? ⟨w.heap.size + 1, 3, none⟩ = some (.int .i64 0) ∧ w'.cell? ⟨w.heap.size + 1, 4, none⟩ = some (.int .i64 0) ∧ w'.cell? ⟨w.heap.size + 1, 5, none⟩ = some (.slice none 0 0))
    (repeat (first | (with_reducible exact HSS.out) | (with_reducible exact keepQ12 (by assumption) (by assumption)) | (with_reducible exact Hid.out (by assumption)) | (with_reducible refine keepQ12 (Lib.hid (Up.refl _).drew) ?_)))
    (first | (go_at_call 47; (with_reducible refine (KT.out _ (HS.out.up (by assumption : Up w _ ∧ _).1)).mono ?_); rintro e w3 ⟨rfl, hu⟩; have HU3 := Lib.hid hu; have HX3 := Lib.hid (keepQ12 HU3 (by assumption)); clear hu))
  clear ‹Up w _ ∧ _›
  obtain ⟨_, d00, d01, d02, d03, d04, d05, d10, d11, d12, d13, d14, d15⟩ := HX3.out
  have HU3w : Hid (Up w w3) := Lib.hid HX3.out.1
  have y00 := HU3w.out.ownGe (g := w.heap.size) (Nat.le_refl _) 0
  have y10 := HU3w.out.ownGe (g := w.heap.size + 1) (by omega) 0
  have y01 := HU3w.out.ownGe (g := w.heap.size) (Nat.le_refl _) 1
  have y11 := HU3w.out.ownGe (g := w.heap.size + 1) (by omega) 1
  have y02 := HU3w.out.ownGe (g := w.heap.size) (Nat.le_refl _) 2
  have y12 := HU3w.out.ownGe (g := w.heap.size + 1) (by omega) 2
  have y03 := HU3w.out.ownGe (g := w.heap.size) (Nat.le_refl _) 3
  have y13 := HU3w.out.ownGe (g := w.heap.size + 1) (by omega) 3
  have y04 := HU3w.out.ownGe (g := w.heap.size) (Nat.le_refl _) 4
  have y14 := HU3w.out.ownGe (g := w.heap.size + 1) (by omega) 4
  have y05 := HU3w.out.ownGe (g := w.heap.size) (Nat.le_refl _) 5
  have y15 := HU3w.out.ownGe (g := w.heap.size + 1) (by omega) 5
  have hlt : w.heap.size + 1 < w3.heap.size := World.block_lt_of_cell? _ _ d10
  have hlt0 : w.heap.size < w3.heap.size := Nat.lt_of_succ_lt hlt
  go_wp2_with (go_at_call 48; (with_reducible refine (KI.out _ (HS.out.up HU3w.out)).mono ?_); rintro e w4 ⟨rfl, hu⟩; have HU4 := Lib.hid (HU3w.out.trans hu); have e00 := hu.keep _ _ _ d00; have e10 := hu.keep _ _ _ d10; have e01 := hu.keep _ _ _ d01; have e11 := hu.keep _ _ _ d11; have e02 := hu.keep _ _ _ d02; have e12 := hu.keep _ _ _ d12; have e03 := hu.keep _ _ _ d03; have e13 := hu.keep _ _ _ d13; have e04 := hu.keep _ _ _ d04; have e14 := hu.keep _ _ _ d14; have e05 := hu.keep _ _ _ d05; have e15 := hu.keep _ _ _ d15; have x00 := HU4.out.ownGe (g := w.heap.size) (Nat.le_refl _) 0; have x10 := HU4.out.ownGe (g := w.heap.size + 1) (by omega) 0; have x01 := HU4.out.ownGe (g := w.heap.size) (Nat.le_refl _) 1; have x11 := HU4.out.ownGe (g := w.heap.size + 1) (by omega) 1; have x02 := HU4.out.ownGe (g := w.heap.size) (Nat.le_refl _) 2; have x12 := HU4.out.ownGe (g := w.heap.size + 1) (by omega) 2; have x03 := HU4.out.ownGe (g := w.heap.size) (Nat.le_refl _) 3; have x13 := HU4.out.ownGe (g := w.heap.size + 1) (by omega) 3; have x04 := HU4.out.ownGe (g := w.heap.size) (Nat.le_refl _) 4; have x14 := HU4.out.ownGe (g := w.heap.size + 1) (by omega) 4; have x05 := HU4.out.ownGe (g := w.heap.size) (Nat.le_refl _) 5; have x15 := HU4.out.ownGe (g := w.heap.size + 1) (by omega) 5; have hlt4 : w.heap.size + 1 < w4.heap.size := World.block_lt_of_cell? _ _ e10; clear hu)
  refine bodyPost_ret (v := .tuple #[.agg #[.int .i64 v, .int .i64 q, .int .i64 c, .int .i64 mx, .int .i64 now, .slice A n k], .int .i64 0]) (by simp [results, Try.results16, go_sem, e10, e11, e12, e13, e14, e15]) rfl ⟨A, n, k, rfl, by omega, ?_, ?_⟩
  · exact HS.out.up ((HU4.out.setCell (Nat.le_refl _) _).set6 (by omega))
  · exact (HU4.out.setCell (Nat.le_refl _) _).set6 (by omega)

set_option maxHeartbeats 4000000 in
set_option maxRecDepth 100000 in
theorem radd12_pos (v q c mx now d : Int) (n k : Nat) (A : Option Addr) (L : List It) (hn : n ≤ 50000) (hk : n ≤ k) (hv : stS v q c mx now L = true) (hr0 : 0 ≤ d) (hz : 0 < d) (hr1 : d ≤ mx) (hf : totB L + d ≤ c) (w : World) (hS : Sl w A n L) :
    Calls Try.prog 16 #[.agg #[.int .i64 v, .int .i64 q, .int .i64 c, .int .i64 mx, .int .i64 now, .slice A n k], .int .i64 d] w fun e w' => ∃ A' n' k', e = .returned (.tuple #[.agg #[.int .i64 v, .int .i64 q, .int .i64 c, .int .i64 mx, .int .i64 now, .slice A' n' k'], .int .i64 0]) ∧ n' ≤ n + 1024 ∧ Sl w' A' n' (itB q now d.toNat L) ∧ Up w w' := by
  have KV := Lib.hid (fun W (h : Sl W A n L) => rvalidate12_up v q c mx now n k A L hn W h)
  rw [stSE_yes hv] at KV
  have HS := Lib.hid hS
  have t1 : decide (d < 0) = false := decide_eq_false (by omega)
  have t2 : decide (mx < d) = false := decide_eq_false (by omega)
  have q1 := totB_low L
  have q2 := (stC_true (stS_true hv).1).2.2.2
  have q3 := (stC_facts (stS_true hv).1).2.2
  have q4 := (stS_true hv).2.2
  have KT := Lib.hid (fun W (h : Sl W A n L) => rtotal10_up n k A L (by omega) W h)
  have KI := Lib.hid (fun W (h : Sl W A n L) => rinsertMany_some n k A L v q c now d hn (stS_true hv).1 hz (by omega) hf W h)
  generalize itB q now d.toNat L = M at *
  generalize totB L = y at *
  have k1 : IntKind.i64.wrap (y + d) = y + d := IntWalk.i64_in _ (by omega)
  have t3 : decide (c < y + d) = false := decide_eq_false (by omega)
  clear hS hv hf hr0 hr1 q1 q2 q3 q4 hz
  go_enter Try.func16, Try.ntmps16
  go_wp2_with (go_at_call 20; (with_reducible refine (KV.out _ (HS.out.up (((Up.refl w).alloc _ _).alloc _ _))).mono ?_); rintro e w1 ⟨rfl, hu⟩; have HU1 := Lib.hid ((((Up.refl w).alloc #[.int .i64 v, .int .i64 q, .int .i64 c, .int .i64 mx, .int .i64 now, .slice A n k] 24).alloc #[.int .i64 0, .int .i64 0, .int .i64 0, .int .i64 0, .int .i64 0, .slice none 0 0] 24).trans hu); have c00 := hu.keep (w.heap.size) 0 (.int .i64 v) (by simp [go_sem]); have c01 := hu.keep (w.heap.size) 1 (.int .i64 q) (by simp [go_sem]); have c02 := hu.keep (w.heap.size) 2 (.int .i64 c) (by simp [go_sem]); have c03 := hu.keep (w.heap.size) 3 (.int .i64 mx) (by simp [go_sem]); have c04 := hu.keep (w.heap.size) 4 (.int .i64 now) (by simp [go_sem]); have c05 := hu.keep (w.heap.size) 5 (.slice A n k) (by simp [go_sem]); have c10 := hu.keep (w.heap.size + 1) 0 (.int .i64 0) (by simp [go_sem]); have c11 := hu.keep (w.heap.size + 1) 1 (.int .i64 0) (by simp [go_sem]); have c12 := hu.keep (w.heap.size + 1) 2 (.int .i64 0) (by simp [go_sem]); have c13 := hu.keep (w.heap.size + 1) 3 (.int .i64 0) (by simp [go_sem]); have c14 := hu.keep (w.heap.size + 1) 4 (.int .i64 0) (by simp [go_sem]); have c15 := hu.keep (w.heap.size + 1) 5 (.slice none 0 0) (by simp [go_sem]); have z00 := HU1.out.ownGe (g := w.heap.size) (Nat.le_refl _) 0; have z01 := HU1.out.ownGe (g := w.heap.size) (Nat.le_refl _) 1; have z02 := HU1.out.ownGe (g := w.heap.size) (Nat.le_refl _) 2; have z03 := HU1.out.ownGe (g := w.heap.size) (Nat.le_refl _) 3; have z04 := HU1.out.ownGe (g := w.heap.size) (Nat.le_refl _) 4; have z05 := HU1.out.ownGe (g := w.heap.size) (Nat.le_refl _) 5; have z10 := HU1.out.ownGe (g := w.heap.size + 1) (by omega) 0; have z11 := HU1.out.ownGe (g := w.heap.size + 1) (by omega) 1; have z12 := HU1.out.ownGe (g := w.heap.size + 1) (by omega) 2; have z13 := HU1.out.ownGe (g := w.heap.size + 1) (by omega) 3; have z14 := HU1.out.ownGe (g := w.heap.size + 1) (by omega) 4; have z15 := HU1.out.ownGe (g := w.heap.size + 1) (by omega) 5; have hlt : w.heap.size + 1 < w1.heap.size := World.block_lt_of_cell? _ _ c10; have hlt0 : w.heap.size < w1.heap.size := Nat.lt_of_succ_lt hlt; clear hu)
  have HSS : Hid (Up w w1 ∧ w1.cell? ⟨w.heap.size, 0, none⟩ = some (.int .i64 v) ∧ w1.cell? ⟨w.heap.size, 1, none⟩ = some (.int .i64 q) ∧ w1.cell? ⟨w.heap.size, 2, none⟩ = some (.int .i64 c) ∧ w1.cell? ⟨w.heap.size, 3, none⟩ = some (.int .i64 mx) ∧ w1.cell? ⟨w.heap.size, 4, none⟩ = some (.int .i64 now) ∧ w1.cell? ⟨w.heap.size, 5, none⟩ = some (.slice A n k) ∧ w1.cell? ⟨w.heap.size + 1, 0, none⟩ = some (.int .i64 0) ∧ w1.cell? ⟨w.heap.size + 1, 1, none⟩ = some (.int .i64 0) ∧ w1.cell? ⟨w.heap.size + 1, 2, none⟩ = some (.int .i64 0) ∧ w1.cell? ⟨w.heap.size + 1, 3, none⟩ = some (.int .i64 0) ∧ w1.cell? ⟨w.heap.size + 1, 4, none⟩ = some (.int .i64 0) ∧ w1.cell? ⟨w.heap.size + 1, 5, none⟩ = some (.slice none 0 0)) := Lib.hid ⟨HU1.out, c00, c01, c02, c03, c04, c05, c10, c11, c12, c13, c14, c15⟩
  clear c00 z00 c01 z01 c02 z02 c03 z03 c04 z04 c05 z05 c10 z10 c11 z11 c12 z12 c13 z13 c14 z14 c15 z15 hlt hlt0
  go_region_held3 (fun w' => Up w w' ∧ w'.cell? ⟨w.heap.size, 0, none⟩ = some (.int .i64 v) ∧ w'.cell? ⟨w.heap.size, 1, none⟩ = some (.int .i64 q) ∧ w'.cell? ⟨w.heap.size, 2, none⟩ = some (.int .i64 c) ∧ w'.cell? ⟨w.heap.size, 3, none⟩ = some (.int .i64 mx) ∧ w'.cell? ⟨w.heap.size, 4, none⟩ = some (.int .i64 now) ∧ w'.cell? ⟨w.heap.size, 5, none⟩ = some (.slice A n k) ∧ w'.cell? ⟨w.heap.size + 1, 0, none⟩ = some (.int .i64 0) ∧ w'.cell? ⟨w.heap.size + 1, 1, none⟩ = some (.int .i64 0) ∧ w'.cell? ⟨w.heap.size + 1, 2, none⟩ = some (.int .i64 0) ∧ w'.cell? ⟨w.heap.size + 1, 3, none⟩ = some (.int .i64 0) ∧ w'.cell? ⟨w.heap.size + 1, 4, none⟩ = some (.int .i64 0) ∧ w'.cell? ⟨w.heap.size + 1, 5, none⟩ = some (.slice none 0 0))
    (repeat (first | (with_reducible exact HSS.out) | (with_reducible exact keepQ12 (by assumption) (by assumption)) | (with_reducible exact Hid.out (by assumption)) | (with_reducible refine keepQ12 (Lib.hid (Up.refl _).drew) ?_)))
    (first | (go_at_call 47; (with_reducible refine (KT.out _ (HS.out.up (by assumption : Up w _ ∧ _).1)).mono ?_); rintro e w3 ⟨rfl, hu⟩; have HU3 := Lib.hid hu; have HX3 := Lib.hid (keepQ12 HU3 (by assumption)); clear hu))
  clear ‹Up w _ ∧ _›
  obtain ⟨_, d00, d01, d02, d03, d04, d05, d10, d11, d12, d13, d14, d15⟩ := HX3.out
  have HU3w : Hid (Up w w3) := Lib.hid HX3.out.1
  have y00 := HU3w.out.ownGe (g := w.heap.size) (Nat.le_refl _) 0
  have y10 := HU3w.out.ownGe (g := w.heap.size + 1) (by omega) 0
  have y01 := HU3w.out.ownGe (g := w.heap.size) (Nat.le_refl _) 1
  have y11 := HU3w.out.ownGe (g := w.heap.size + 1) (by omega) 1
  have y02 := HU3w.out.ownGe (g := w.heap.size) (Nat.le_refl _) 2
  have y12 := HU3w.out.ownGe (g := w.heap.size + 1) (by omega) 2
  have y03 := HU3w.out.ownGe (g := w.heap.size) (Nat.le_refl _) 3
  have y13 := HU3w.out.ownGe (g := w.heap.size + 1) (by omega) 3
  have y04 := HU3w.out.ownGe (g := w.heap.size) (Nat.le_refl _) 4
  have y14 := HU3w.out.ownGe (g := w.heap.size + 1) (by omega) 4
  have y05 := HU3w.out.ownGe (g := w.heap.size) (Nat.le_refl _) 5
  have y15 := HU3w.out.ownGe (g := w.heap.size + 1) (by omega) 5
  have hlt : w.heap.size + 1 < w3.heap.size := World.block_lt_of_cell? _ _ d10
  have hlt0 : w.heap.size < w3.heap.size := Nat.lt_of_succ_lt hlt
  go_wp2_with (go_at_call 48; (with_reducible refine (KI.out _ (HS.out.up HU3w.out)).mono ?_); rintro e w4 ⟨A4, n4, k4, rfl, hn4, hW, hM, hu⟩; have HM := Lib.hid hM; have HW := Lib.hid hW; have HU4 := Lib.hid (HU3w.out.trans hu); have e00 := hu.keep _ _ _ d00; have e10 := hu.keep _ _ _ d10; have e01 := hu.keep _ _ _ d01; have e11 := hu.keep _ _ _ d11; have e02 := hu.keep _ _ _ d02; have e12 := hu.keep _ _ _ d12; have e03 := hu.keep _ _ _ d03; have e13 := hu.keep _ _ _ d13; have e04 := hu.keep _ _ _ d04; have e14 := hu.keep _ _ _ d14; have e05 := hu.keep _ _ _ d05; have e15 := hu.keep _ _ _ d15; have x00 := HU4.out.ownGe (g := w.heap.size) (Nat.le_refl _) 0; have x10 := HU4.out.ownGe (g := w.heap.size + 1) (by omega) 0; have x01 := HU4.out.ownGe (g := w.heap.size) (Nat.le_refl _) 1; have x11 := HU4.out.ownGe (g := w.heap.size + 1) (by omega) 1; have x02 := HU4.out.ownGe (g := w.heap.size) (Nat.le_refl _) 2; have x12 := HU4.out.ownGe (g := w.heap.size + 1) (by omega) 2; have x03 := HU4.out.ownGe (g := w.heap.size) (Nat.le_refl _) 3; have x13 := HU4.out.ownGe (g := w.heap.size + 1) (by omega) 3; have x04 := HU4.out.ownGe (g := w.heap.size) (Nat.le_refl _) 4; have x14 := HU4.out.ownGe (g := w.heap.size + 1) (by omega) 4; have x05 := HU4.out.ownGe (g := w.heap.size) (Nat.le_refl _) 5; have x15 := HU4.out.ownGe (g := w.heap.size + 1) (by omega) 5; have hlt4 : w.heap.size + 1 < w4.heap.size := World.block_lt_of_cell? _ _ e10; clear hu hM hW)
  refine bodyPost_ret (v := .tuple #[.agg #[.int .i64 v, .int .i64 q, .int .i64 c, .int .i64 mx, .int .i64 now, .slice A4 n4 k4], .int .i64 0]) (by simp [results, Try.results16, go_sem, e10, e11, e12, e13, e14, e15]) rfl ⟨A4, n4, k4, rfl, hn4, ?_, ?_⟩
  · exact (HM.out.off (HW.out.off hlt0) _).off6 (HW.out.off hlt) _ _ _ _ _ _
  · exact (HU4.out.setCell (Nat.le_refl _) _).set6 (by omega)
end Go.Proofs.Ytfdjhahnggdklaa
