/- Advance of package smooth and of its reference. -/
import Derived.Test.YtafkoddgefcpnaaRows
import Derived.Test.YtafkoddgefcpnaaZKMcq189
import Derived.Test.YtafkoddgefcpnaaZKNewq195
namespace Go.Proofs.Ytafkoddgefcpnaa
open Go.RowKit
set_option linter.unusedVariables false

theorem stM_tick {g v q c now seq : Int} {X : List Mrk} (h : stM g v q c now seq X = true) : tickB now = true := (mayB_true (mayC_true (stM_may h)).1).1

set_option maxHeartbeats 4000000 in
set_option maxRecDepth 100000 in
theorem adv13_good (g v q c now seq td : Int) (n k : Nat) (A : Option Addr) (X : List Mrk) (hn : n ≤ 50000) (hk : n ≤ k) (hv : stM g v q c now seq X = true) (h1 : now ≤ td) (h2 : td ≤ 16777216) (w : World) (hS : SG cM w A n X) :
    Calls Try.prog 24 #[.agg #[.int .i64 g, .int .i64 v, .int .i64 q, .int .i64 c, .int .i64 now, .int .i64 seq, .slice A n k], .int .i64 td] w fun e w' => ∃ A' n' k', e = .returned (.tuple #[.agg #[.int .i64 g, .int .i64 v, .int .i64 q, .int .i64 c, .int .i64 td, .int .i64 seq, .slice A' n' k'], .int .i64 0]) ∧ n' ≤ n ∧ n' ≤ k' ∧ Nw w A' ∧ Up w w' ∧ SG cM w' A' n' (drM td v X) := by
  have KV := Lib.hid (fun W (h : SG cM W A n X) => validate13_up g v q c now seq n k A X hn W h)
  rw [stME_yes hv] at KV
  have HS := Lib.hid hS
  have KA := Lib.hid (fun W (hu : Up w W) => madv_good g v q c now seq td n k A X hn hk (stM_tick hv) h1 h2 W (hS.up hu))
  clear hS hv h1 h2
  generalize drM td v X = Z at *
  go_enter Try.func24, Try.ntmps24
  go_wp2_with (first | (go_at_call 69; (with_reducible refine (KA.out _ HU1.out).mono ?_); rintro e w2 ⟨A2, n2, k2, rfl, hn2, hk2, hnw, hu, hM⟩; have HU2 := Lib.hid (HU1.out.trans hu); have d10 := hu.keep _ _ _ c10; have d11 := hu.keep _ _ _ c11; have d12 := hu.keep _ _ _ c12; have d13 := hu.keep _ _ _ c13; have d14 := hu.keep _ _ _ c14; have d15 := hu.keep _ _ _ c15; have d16 := hu.keep _ _ _ c16; have y10 := HU2.out.ownGe (g := w.heap.size + 1) (by omega) 0; have y11 := HU2.out.ownGe (g := w.heap.size + 1) (by omega) 1; have y12 := HU2.out.ownGe (g := w.heap.size + 1) (by omega) 2; have y13 := HU2.out.ownGe (g := w.heap.size + 1) (by omega) 3; have y14 := HU2.out.ownGe (g := w.heap.size + 1) (by omega) 4; have y15 := HU2.out.ownGe (g := w.heap.size + 1) (by omega) 5; have y16 := HU2.out.ownGe (g := w.heap.size + 1) (by omega) 6; have hlt2 := World.block_lt_of_cell? _ _ d10; have HM := Lib.hid hM; have HNW := Lib.hid hnw; clear hM hnw; clear hu) | (go_at_call 22; (with_reducible refine (KV.out _ (HS.out.up (((Up.refl w).alloc _ _).alloc _ _))).mono ?_); rintro e w1 ⟨rfl, hu⟩; have HU1 := Lib.hid ((((Up.refl w).alloc #[.int .i64 g, .int .i64 v, .int .i64 q, .int .i64 c, .int .i64 now, .int .i64 seq, .slice A n k] 26).alloc #[.int .i64 0, .int .i64 0, .int .i64 0, .int .i64 0, .int .i64 0, .int .i64 0, .slice none 0 0] 26).trans hu); have c00 := hu.keep (w.heap.size) 0 (.int .i64 g) (by simp [go_sem]); have c01 := hu.keep (w.heap.size) 1 (.int .i64 v) (by simp [go_sem]); have c02 := hu.keep (w.heap.size) 2 (.int .i64 q) (by simp [go_sem]); have c03 := hu.keep (w.heap.size) 3 (.int .i64 c) (by simp [go_sem]); have c04 := hu.keep (w.heap.size) 4 (.int .i64 now) (by simp [go_sem]); have c05 := hu.keep (w.heap.size) 5 (.int .i64 seq) (by simp [go_sem]); have c06 := hu.keep (w.heap.size) 6 (.slice A n k) (by simp [go_sem]); have c10 := hu.keep (w.heap.size + 1) 0 (.int .i64 0) (by simp [go_sem]); have c11 := hu.keep (w.heap.size + 1) 1 (.int .i64 0) (by simp [go_sem]); have c12 := hu.keep (w.heap.size + 1) 2 (.int .i64 0) (by simp [go_sem]); have c13 := hu.keep (w.heap.size + 1) 3 (.int .i64 0) (by simp [go_sem]); have c14 := hu.keep (w.heap.size + 1) 4 (.int .i64 0) (by simp [go_sem]); have c15 := hu.keep (w.heap.size + 1) 5 (.int .i64 0) (by simp [go_sem]); have c16 := hu.keep (w.heap.size + 1) 6 (.slice none 0 0) (by simp [go_sem]); have z00 := HU1.out.ownGe (g := w.heap.size) (Nat.le_refl _) 0; have z01 := HU1.out.ownGe (g := w.heap.size) (Nat.le_refl _) 1; have z02 := HU1.out.ownGe (g := w.heap.size) (Nat.le_refl _) 2; have z03 := HU1.out.ownGe (g := w.heap.size) (Nat.le_refl _) 3; have z04 := HU1.out.ownGe (g := w.heap.size) (Nat.le_refl _) 4; have z05 := HU1.out.ownGe (g := w.heap.size) (Nat.le_refl _) 5; have z06 := HU1.out.ownGe (g := w.heap.size) (Nat.le_refl _) 6; have z10 := HU1.out.ownGe (g := w.heap.size + 1) (by omega) 0; have z11 := HU1.out.ownGe (g := w.heap.size + 1) (by omega) 1; have z12 := HU1.out.ownGe (g := w.heap.size + 1) (by omega) 2; have z13 := HU1.out.ownGe (g := w.heap.size + 1) (by omega) 3; have z14 := HU1.out.ownGe (g := w.heap.size + 1) (by omega) 4; have z15 := HU1.out.ownGe (g := w.heap.size + 1) (by omega) 5; have z16 := HU1.out.ownGe (g := w.heap.size + 1) (by omega) 6; have hlt : w.heap.size + 1 < w1.heap.size := World.block_lt_of_cell? _ _ c10; have hlt0 : w.heap.size < w1.heap.size := Nat.lt_of_succ_lt hlt; clear hu))
  refine bodyPost_ret (v := .tuple #[.agg #[.int .i64 g, .int .i64 v, .int .i64 q, .int .i64 c, .int .i64 td, .int .i64 seq, .slice A2 n2 k2], .int .i64 0]) (by simp [results, Try.results24, go_sem, d10, d11, d12, d13, d14, d15, d16]) rfl ⟨A2, n2, k2, rfl, hn2, hk2, fun b_ o_ h_ => Nat.le_trans HU1.out.size (HNW.out b_ o_ h_), ?_, ?_⟩
  · exact HU2.out.set7 (by omega)
  · exact HM.out.off7 (fun b_ o_ h_ => by have := HNW.out b_ o_ h_; omega) _ _ _ _ _ _ _

end Go.Proofs.Ytafkoddgefcpnaa
