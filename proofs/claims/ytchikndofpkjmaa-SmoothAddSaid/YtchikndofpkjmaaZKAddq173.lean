/- Add of package smooth. -/
import Derived.Test.YtchikndofpkjmaaRows
import Derived.Test.YtchikndofpkjmaaZKAddq172
import Derived.Test.YtchikndofpkjmaaZKFnRq164
import Derived.Test.YtchikndofpkjmaaZKRVdq129
namespace Go.Proofs.Ytchikndofpkjmaa
open Go.RowKit
set_option linter.unusedVariables false

set_option maxHeartbeats 4000000 in
set_option maxRecDepth 100000 in
theorem add13_bad (g v q c now seq d : Int) (n k : Nat) (A : Option Addr) (X : List Mrk) (hn : n ≤ 50000) (hk : n ≤ k) (hv : stM g v q c now seq X = false) (w : World) (hS : SG cM w A n X) :
    Calls Try.prog 23 #[.agg #[.int .i64 g, .int .i64 v, .int .i64 q, .int .i64 c, .int .i64 now, .int .i64 seq, .slice A n k], .int .i64 d] w fun e w' => e = .returned (.tuple #[.agg #[.int .i64 0, .int .i64 0, .int .i64 0, .int .i64 0, .int .i64 0, .int .i64 0, .slice none 0 0], .int .i64 2]) ∧ Up w w' := by
  have KV := Lib.hid (fun W (h : SG cM W A n X) => validate13_up g v q c now seq n k A X hn W h)
  rw [stME_no hv] at KV
  have HS := Lib.hid hS
  clear hS hv
  go_enter Try.func23, Try.ntmps23
  go_wp2_with (go_at_call 19; (with_reducible refine (KV.out _ (HS.out.up (((Up.refl w).alloc _ _).alloc _ _))).mono ?_); rintro e w1 ⟨rfl, hu⟩; have HU1 := Lib.hid ((((Up.refl w).alloc #[.int .i64 g, .int .i64 v, .int .i64 q, .int .i64 c, .int .i64 now, .int .i64 seq, .slice A n k] 26).alloc #[.int .i64 0, .int .i64 0, .int .i64 0, .int .i64 0, .int .i64 0, .int .i64 0, .slice none 0 0] 26).trans hu); have c00 := hu.keep (w.heap.size) 0 (.int .i64 g) (by simp [go_sem]); have c01 := hu.keep (w.heap.size) 1 (.int .i64 v) (by simp [go_sem]); have c02 := hu.keep (w.heap.size) 2 (.int .i64 q) (by simp [go_sem]); have c03 := hu.keep (w.heap.size) 3 (.int .i64 c) (by simp [go_sem]); have c04 := hu.keep (w.heap.size) 4 (.int .i64 now) (by simp [go_sem]); have c05 := hu.keep (w.heap.size) 5 (.int .i64 seq) (by simp [go_sem]); have c06 := hu.keep (w.heap.size) 6 (.slice A n k) (by simp [go_sem]); have c10 := hu.keep (w.heap.size + 1) 0 (.int .i64 0) (by simp [go_sem]); have c11 := hu.keep (w.heap.size + 1) 1 (.int .i64 0) (by simp [go_sem]); have c12 := hu.keep (w.heap.size + 1) 2 (.int .i64 0) (by simp [go_sem]); have c13 := hu.keep (w.heap.size + 1) 3 (.int .i64 0) (by simp [go_sem]); have c14 := hu.keep (w.heap.size + 1) 4 (.int .i64 0) (by simp [go_sem]); have c15 := hu.keep (w.heap.size + 1) 5 (.int .i64 0) (by simp [go_sem]); have c16 := hu.keep (w.heap.size + 1) 6 (.slice none 0 0) (by simp [go_sem]); have z00 := HU1.out.ownGe (g := w.heap.size) (Nat.le_refl _) 0; have z01 := HU1.out.ownGe (g := w.heap.size) (Nat.le_refl _) 1; have z02 := HU1.out.ownGe (g := w.heap.size) (Nat.le_refl _) 2; have z03 := HU1.out.ownGe (g := w.heap.size) (Nat.le_refl _) 3; have z04 := HU1.out.ownGe (g := w.heap.size) (Nat.le_refl _) 4; have z05 := HU1.out.ownGe (g := w.heap.size) (Nat.le_refl _) 5; have z06 := HU1.out.ownGe (g := w.heap.size) (Nat.le_refl _) 6; have z10 := HU1.out.ownGe (g := w.heap.size + 1) (by omega) 0; have z11 := HU1.out.ownGe (g := w.heap.size + 1) (by omega) 1; have z12 := HU1.out.ownGe (g := w.heap.size + 1) (by omega) 2; have z13 := HU1.out.ownGe (g := w.heap.size + 1) (by omega) 3; have z14 := HU1.out.ownGe (g := w.heap.size + 1) (by omega) 4; have z15 := HU1.out.ownGe (g := w.heap.size + 1) (by omega) 5; have z16 := HU1.out.ownGe (g := w.heap.size + 1) (by omega) 6; have hlt : w.heap.size + 1 < w1.heap.size := World.block_lt_of_cell? _ _ c10; have hlt0 : w.heap.size < w1.heap.size := Nat.lt_of_succ_lt hlt; clear hu)
  refine bodyPost_ret (v := .tuple #[.agg #[.int .i64 0, .int .i64 0, .int .i64 0, .int .i64 0, .int .i64 0, .int .i64 0, .slice none 0 0], .int .i64 2]) (by simp [results, Try.results23, go_sem, c10, c11, c12, c13, c14, c15, c16]) rfl ⟨rfl, ?_⟩
  exact HU1.out.set7 (by omega)

set_option maxHeartbeats 4000000 in
set_option maxRecDepth 100000 in
theorem add13_range (g v q c now seq d : Int) (n k : Nat) (A : Option Addr) (X : List Mrk) (hn : n ≤ 50000) (hk : n ≤ k) (hv : stM g v q c now seq X = true) (hd : ¬ valG g d) (w : World) (hS : SG cM w A n X) :
    Calls Try.prog 23 #[.agg #[.int .i64 g, .int .i64 v, .int .i64 q, .int .i64 c, .int .i64 now, .int .i64 seq, .slice A n k], .int .i64 d] w fun e w' => e = .returned (.tuple #[.agg #[.int .i64 0, .int .i64 0, .int .i64 0, .int .i64 0, .int .i64 0, .int .i64 0, .slice none 0 0], .int .i64 4]) ∧ Up w w' := by
  have KV := Lib.hid (fun W (h : SG cM W A n X) => validate13_up g v q c now seq n k A X hn W h)
  rw [stME_yes hv] at KV
  have HS := Lib.hid hS
  have KI := Lib.hid (isValueG_any d g (mayM_true (stM_true hv).1).1)
  rw [decide_eq_false hd] at KI
  clear hS hv hd
  go_enter Try.func23, Try.ntmps23
  go_wp2_with (first | (go_at_call 54; (with_reducible refine (KI.out _).mono ?_); rintro e w2 ⟨rfl, rfl⟩) | (go_at_call 19; (with_reducible refine (KV.out _ (HS.out.up (((Up.refl w).alloc _ _).alloc _ _))).mono ?_); rintro e w1 ⟨rfl, hu⟩; have HU1 := Lib.hid ((((Up.refl w).alloc #[.int .i64 g, .int .i64 v, .int .i64 q, .int .i64 c, .int .i64 now, .int .i64 seq, .slice A n k] 26).alloc #[.int .i64 0, .int .i64 0, .int .i64 0, .int .i64 0, .int .i64 0, .int .i64 0, .slice none 0 0] 26).trans hu); have c00 := hu.keep (w.heap.size) 0 (.int .i64 g) (by simp [go_sem]); have c01 := hu.keep (w.heap.size) 1 (.int .i64 v) (by simp [go_sem]); have c02 := hu.keep (w.heap.size) 2 (.int .i64 q) (by simp [go_sem]); have c03 := hu.keep (w.heap.size) 3 (.int .i64 c) (by simp [go_sem]); have c04 := hu.keep (w.heap.size) 4 (.int .i64 now) (by simp [go_sem]); have c05 := hu.keep (w.heap.size) 5 (.int .i64 seq) (by simp [go_sem]); have c06 := hu.keep (w.heap.size) 6 (.slice A n k) (by simp [go_sem]); have c10 := hu.keep (w.heap.size + 1) 0 (.int .i64 0) (by simp [go_sem]); have c11 := hu.keep (w.heap.size + 1) 1 (.int .i64 0) (by simp [go_sem]); have c12 := hu.keep (w.heap.size + 1) 2 (.int .i64 0) (by simp [go_sem]); have c13 := hu.keep (w.heap.size + 1) 3 (.int .i64 0) (by simp [go_sem]); have c14 := hu.keep (w.heap.size + 1) 4 (.int .i64 0) (by simp [go_sem]); have c15 := hu.keep (w.heap.size + 1) 5 (.int .i64 0) (by simp [go_sem]); have c16 := hu.keep (w.heap.size + 1) 6 (.slice none 0 0) (by simp [go_sem]); have z00 := HU1.out.ownGe (g := w.heap.size) (Nat.le_refl _) 0; have z01 := HU1.out.ownGe (g := w.heap.size) (Nat.le_refl _) 1; have z02 := HU1.out.ownGe (g := w.heap.size) (Nat.le_refl _) 2; have z03 := HU1.out.ownGe (g := w.heap.size) (Nat.le_refl _) 3; have z04 := HU1.out.ownGe (g := w.heap.size) (Nat.le_refl _) 4; have z05 := HU1.out.ownGe (g := w.heap.size) (Nat.le_refl _) 5; have z06 := HU1.out.ownGe (g := w.heap.size) (Nat.le_refl _) 6; have z10 := HU1.out.ownGe (g := w.heap.size + 1) (by omega) 0; have z11 := HU1.out.ownGe (g := w.heap.size + 1) (by omega) 1; have z12 := HU1.out.ownGe (g := w.heap.size + 1) (by omega) 2; have z13 := HU1.out.ownGe (g := w.heap.size + 1) (by omega) 3; have z14 := HU1.out.ownGe (g := w.heap.size + 1) (by omega) 4; have z15 := HU1.out.ownGe (g := w.heap.size + 1) (by omega) 5; have z16 := HU1.out.ownGe (g := w.heap.size + 1) (by omega) 6; have hlt : w.heap.size + 1 < w1.heap.size := World.block_lt_of_cell? _ _ c10; have hlt0 : w.heap.size < w1.heap.size := Nat.lt_of_succ_lt hlt; clear hu))
  refine bodyPost_ret (v := .tuple #[.agg #[.int .i64 0, .int .i64 0, .int .i64 0, .int .i64 0, .int .i64 0, .int .i64 0, .slice none 0 0], .int .i64 4]) (by simp [results, Try.results23, go_sem, c10, c11, c12, c13, c14, c15, c16]) rfl ⟨rfl, ?_⟩
  exact HU1.out.set7 (by omega)

end Go.Proofs.Ytchikndofpkjmaa
