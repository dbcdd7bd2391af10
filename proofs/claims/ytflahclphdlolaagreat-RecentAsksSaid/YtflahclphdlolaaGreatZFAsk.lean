/- What Ask of package recent returns. -/
import Derived.Test.YtflahclphdlolaaGreatZEQnt
import Derived.Test.YtflahclphdlolaaGreatZESort
import Derived.Test.YtflahclphdlolaaGreatZESpread
import Derived.Test.YtflahclphdlolaaGreatZESq
import Derived.Test.YtflahclphdlolaaGreatZETotal
import Derived.Test.YtflahclphdlolaaGreatZEWords
import Derived.Test.YtflahclphdlolaaGreatZFAdv
import Derived.Test.YtflahclphdlolaaGreatZFAskM
import Derived.Test.YtflahclphdlolaaGreatZFBase
import Derived.Test.YtflahclphdlolaaGreatZFExt
import Derived.Test.YtflahclphdlolaaGreatZFNum
import Derived.Test.YtflahclphdlolaaGreatZFState
import Derived.Test.YtflahclphdlolaaGreatZG0a
import Derived.Test.YtflahclphdlolaaGreatZG2a
import Derived.Test.YtflahclphdlolaaGreatZG4a
import Derived.Test.YtflahclphdlolaaGreatZG5a
import Derived.Test.YtflahclphdlolaaGreatZJFVal
import Derived.Test.YtflahclphdlolaaGreatZJRQuo
namespace Go.Proofs.YtflahclphdlolaaGreat
open Go.RowKit

set_option maxHeartbeats 8000000 in
set_option maxRecDepth 100000 in
theorem ask9_bad (v c now o a b : Int) (n k : Nat) (A : Option Addr) (L : List It) (hst : stB v c now L = false) (w : World) (hS : Sl w A n L) :
    Calls Tryz.prog 6 #[.agg #[.int .i64 v, .int .i64 c, .int .i64 now, .slice A n k], .agg #[.int .i64 o, .int .i64 a, .int .i64 b]] w fun e w' => e = .returned (.tuple #[.agg #[.int .i64 0, .int .i64 0, .int .i64 0, .int .i64 0, .int .i64 0, .int .i64 0, .slice none 0 0, .int .u64 0, .int .u64 0, .int .u64 0, .int .u64 0], .int .i64 2]) ∧ Up w w' := by
  have KV := Lib.hid (fun W (h : Sl W A n L) => validate9_up v c now n k A L W h)
  rw [stE_no hst] at KV
  have HS := Lib.hid hS
  clear hS hst
  go_enter Tryz.func6, Tryz.ntmps6
  go_wp2_with (go_at_call 11; (with_reducible refine (KV.out _ (HS.out.up ((((Up.refl w).alloc _ _).alloc _ _).alloc _ _))).mono ?_); rintro e w1 ⟨rfl, hu⟩; have HU1 := Lib.hid (((((Up.refl w).alloc #[.int .i64 v, .int .i64 c, .int .i64 now, .slice A n k] 24).alloc #[.int .i64 o, .int .i64 a, .int .i64 b] 26).alloc #[.int .i64 0, .int .i64 0, .int .i64 0, .int .i64 0, .int .i64 0, .int .i64 0, .slice none 0 0, .int .u64 0, .int .u64 0, .int .u64 0, .int .u64 0] 40).trans hu); have s3 := hu.keep w.heap.size 3 (.slice A n k) (by simp [go_sem]); have q0 := hu.keep (w.heap.size + 1) 0 (.int .i64 o) (by simp [go_sem]); have q1 := hu.keep (w.heap.size + 1) 1 (.int .i64 a) (by simp [go_sem]); have q2 := hu.keep (w.heap.size + 1) 2 (.int .i64 b) (by simp [go_sem]); have r0 := hu.keep (w.heap.size + 1 + 1) 0 (.int .i64 0) (by simp [go_sem]); have r1 := hu.keep (w.heap.size + 1 + 1) 1 (.int .i64 0) (by simp [go_sem]); have r2 := hu.keep (w.heap.size + 1 + 1) 2 (.int .i64 0) (by simp [go_sem]); have r3 := hu.keep (w.heap.size + 1 + 1) 3 (.int .i64 0) (by simp [go_sem]); have r4 := hu.keep (w.heap.size + 1 + 1) 4 (.int .i64 0) (by simp [go_sem]); have r5 := hu.keep (w.heap.size + 1 + 1) 5 (.int .i64 0) (by simp [go_sem]); have r6 := hu.keep (w.heap.size + 1 + 1) 6 (.slice none 0 0) (by simp [go_sem]); have r7 := hu.keep (w.heap.size + 1 + 1) 7 (.int .u64 0) (by simp [go_sem]); have r8 := hu.keep (w.heap.size + 1 + 1) 8 (.int .u64 0) (by simp [go_sem]); have r9 := hu.keep (w.heap.size + 1 + 1) 9 (.int .u64 0) (by simp [go_sem]); have r10 := hu.keep (w.heap.size + 1 + 1) 10 (.int .u64 0) (by simp [go_sem]); have z0 := HU1.out.ownGe (g := w.heap.size + 1 + 1) (by omega) 0; have z1 := HU1.out.ownGe (g := w.heap.size + 1 + 1) (by omega) 1; have z2 := HU1.out.ownGe (g := w.heap.size + 1 + 1) (by omega) 2; have z3 := HU1.out.ownGe (g := w.heap.size + 1 + 1) (by omega) 3; have z4 := HU1.out.ownGe (g := w.heap.size + 1 + 1) (by omega) 4; have z5 := HU1.out.ownGe (g := w.heap.size + 1 + 1) (by omega) 5; have z6 := HU1.out.ownGe (g := w.heap.size + 1 + 1) (by omega) 6; have z7 := HU1.out.ownGe (g := w.heap.size + 1 + 1) (by omega) 7; have z8 := HU1.out.ownGe (g := w.heap.size + 1 + 1) (by omega) 8; have z9 := HU1.out.ownGe (g := w.heap.size + 1 + 1) (by omega) 9; have z10 := HU1.out.ownGe (g := w.heap.size + 1 + 1) (by omega) 10; have hlt : w.heap.size + 1 + 1 < w1.heap.size := World.block_lt_of_cell? _ _ r0; clear hu)
  refine bodyPost_ret (v := .tuple #[.agg #[.int .i64 0, .int .i64 0, .int .i64 0, .int .i64 0, .int .i64 0, .int .i64 0, .slice none 0 0, .int .u64 0, .int .u64 0, .int .u64 0, .int .u64 0], .int .i64 2]) (by simp [results, Tryz.results6, go_sem, r0, r1, r2, r3, r4, r5, r6, r7, r8, r9, r10]) rfl ⟨rfl, ?_⟩
  exact HU1.out.set11 (by omega)

set_option maxHeartbeats 8000000 in
set_option maxRecDepth 100000 in
theorem ask9_other (v c now o a b : Int) (n k : Nat) (A : Option Addr) (L : List It) (hst : stB v c now L = true) (ho : ¬ (1 ≤ o ∧ o ≤ 8)) (w : World) (hS : Sl w A n L) :
    Calls Tryz.prog 6 #[.agg #[.int .i64 v, .int .i64 c, .int .i64 now, .slice A n k], .agg #[.int .i64 o, .int .i64 a, .int .i64 b]] w fun e w' => e = .returned (.tuple #[.agg #[.int .i64 0, .int .i64 0, .int .i64 0, .int .i64 0, .int .i64 0, .int .i64 0, .slice none 0 0, .int .u64 0, .int .u64 0, .int .u64 0, .int .u64 0], .int .i64 12]) ∧ Up w w' := by
  have KV := Lib.hid (fun W (h : Sl W A n L) => validate9_up v c now n k A L W h)
  rw [stE_yes hst] at KV
  have HS := Lib.hid hS
  have t1 : (o == 1) = false := by simp; omega
  have t2 : (o == 2) = false := by simp; omega
  have t3 : (o == 3) = false := by simp; omega
  have t4 : (o == 4) = false := by simp; omega
  have t5 : (o == 5) = false := by simp; omega
  have t6 : (o == 6) = false := by simp; omega
  have t7 : (o == 7) = false := by simp; omega
  have t8 : (o == 8) = false := by simp; omega
  clear hS hst ho
  go_enter Tryz.func6, Tryz.ntmps6
  go_wp2_with (go_at_call 11; (with_reducible refine (KV.out _ (HS.out.up ((((Up.refl w).alloc _ _).alloc _ _).alloc _ _))).mono ?_); rintro e w1 ⟨rfl, hu⟩; have HU1 := Lib.hid (((((Up.refl w).alloc #[.int .i64 v, .int .i64 c, .int .i64 now, .slice A n k] 24).alloc #[.int .i64 o, .int .i64 a, .int .i64 b] 26).alloc #[.int .i64 0, .int .i64 0, .int .i64 0, .int .i64 0, .int .i64 0, .int .i64 0, .slice none 0 0, .int .u64 0, .int .u64 0, .int .u64 0, .int .u64 0] 40).trans hu); have s3 := hu.keep w.heap.size 3 (.slice A n k) (by simp [go_sem]); have q0 := hu.keep (w.heap.size + 1) 0 (.int .i64 o) (by simp [go_sem]); have q1 := hu.keep (w.heap.size + 1) 1 (.int .i64 a) (by simp [go_sem]); have q2 := hu.keep (w.heap.size + 1) 2 (.int .i64 b) (by simp [go_sem]); have r0 := hu.keep (w.heap.size + 1 + 1) 0 (.int .i64 0) (by simp [go_sem]); have r1 := hu.keep (w.heap.size + 1 + 1) 1 (.int .i64 0) (by simp [go_sem]); have r2 := hu.keep (w.heap.size + 1 + 1) 2 (.int .i64 0) (by simp [go_sem]); have r3 := hu.keep (w.heap.size + 1 + 1) 3 (.int .i64 0) (by simp [go_sem]); have r4 := hu.keep (w.heap.size + 1 + 1) 4 (.int .i64 0) (by simp [go_sem]); have r5 := hu.keep (w.heap.size + 1 + 1) 5 (.int .i64 0) (by simp [go_sem]); have r6 := hu.keep (w.heap.size + 1 + 1) 6 (.slice none 0 0) (by simp [go_sem]); have r7 := hu.keep (w.heap.size + 1 + 1) 7 (.int .u64 0) (by simp [go_sem]); have r8 := hu.keep (w.heap.size + 1 + 1) 8 (.int .u64 0) (by simp [go_sem]); have r9 := hu.keep (w.heap.size + 1 + 1) 9 (.int .u64 0) (by simp [go_sem]); have r10 := hu.keep (w.heap.size + 1 + 1) 10 (.int .u64 0) (by simp [go_sem]); have z0 := HU1.out.ownGe (g := w.heap.size + 1 + 1) (by omega) 0; have z1 := HU1.out.ownGe (g := w.heap.size + 1 + 1) (by omega) 1; have z2 := HU1.out.ownGe (g := w.heap.size + 1 + 1) (by omega) 2; have z3 := HU1.out.ownGe (g := w.heap.size + 1 + 1) (by omega) 3; have z4 := HU1.out.ownGe (g := w.heap.size + 1 + 1) (by omega) 4; have z5 := HU1.out.ownGe (g := w.heap.size + 1 + 1) (by omega) 5; have z6 := HU1.out.ownGe (g := w.heap.size + 1 + 1) (by omega) 6; have z7 := HU1.out.ownGe (g := w.heap.size + 1 + 1) (by omega) 7; have z8 := HU1.out.ownGe (g := w.heap.size + 1 + 1) (by omega) 8; have z9 := HU1.out.ownGe (g := w.heap.size + 1 + 1) (by omega) 9; have z10 := HU1.out.ownGe (g := w.heap.size + 1 + 1) (by omega) 10; have hlt : w.heap.size + 1 + 1 < w1.heap.size := World.block_lt_of_cell? _ _ r0; clear hu)
  refine bodyPost_ret (v := .tuple #[.agg #[.int .i64 0, .int .i64 0, .int .i64 0, .int .i64 0, .int .i64 0, .int .i64 0, .slice none 0 0, .int .u64 0, .int .u64 0, .int .u64 0, .int .u64 0], .int .i64 12]) (by simp [results, Tryz.results6, go_sem, r0, r1, r2, r3, r4, r5, r6, r7, r8, r9, r10]) rfl ⟨rfl, ?_⟩
  exact HU1.out.set11 (by omega)

set_option maxHeartbeats 8000000 in
set_option maxRecDepth 100000 in
theorem ask9_1 (v c now a b : Int) (n k : Nat) (A : Option Addr) (L : List It) (hst : stB v c now L = true) (w : World) (hS : Sl w A n L) :
    Calls Tryz.prog 6 #[.agg #[.int .i64 v, .int .i64 c, .int .i64 now, .slice A n k], .agg #[.int .i64 1, .int .i64 a, .int .i64 b]] w fun e w' => e = .returned (.tuple #[.agg #[.int .i64 (L.length : Int), .int .i64 1, .int .i64 (L.length : Int), .int .i64 1, .int .i64 (L.length : Int), .int .i64 1, .slice none 0 0, .int .u64 0, .int .u64 0, .int .u64 0, .int .u64 0], .int .i64 0]) ∧ Up w w' := by
  have KV := Lib.hid (fun W (h : Sl W A n L) => validate9_up v c now n k A L W h)
  rw [stE_yes hst] at KV
  have HS := Lib.hid hS
  obtain ⟨hI, hl, hs⟩ := st_small hst
  have hn : n ≤ 65536 := by rw [← hS.1]; exact hl
  have KA := Lib.hid (fun W => count_any n k A W)
  have KB := Lib.hid (fun W => integer_up (n : Int) (by unfold In; omega) W)
  rw [show (L.length : Int) = n by rw [hS.1]]
  clear hS hst hI hl hs hn
  go_enter Tryz.func6, Tryz.ntmps6
  go_wp2_with (go_at_call 11; (with_reducible refine (KV.out _ (HS.out.up ((((Up.refl w).alloc _ _).alloc _ _).alloc _ _))).mono ?_); rintro e w1 ⟨rfl, hu⟩; have HU1 := Lib.hid (((((Up.refl w).alloc #[.int .i64 v, .int .i64 c, .int .i64 now, .slice A n k] 24).alloc #[.int .i64 1, .int .i64 a, .int .i64 b] 26).alloc #[.int .i64 0, .int .i64 0, .int .i64 0, .int .i64 0, .int .i64 0, .int .i64 0, .slice none 0 0, .int .u64 0, .int .u64 0, .int .u64 0, .int .u64 0] 40).trans hu); have s3 := hu.keep w.heap.size 3 (.slice A n k) (by simp [go_sem]); have q0 := hu.keep (w.heap.size + 1) 0 (.int .i64 1) (by simp [go_sem]); have q1 := hu.keep (w.heap.size + 1) 1 (.int .i64 a) (by simp [go_sem]); have q2 := hu.keep (w.heap.size + 1) 2 (.int .i64 b) (by simp [go_sem]); have r0 := hu.keep (w.heap.size + 1 + 1) 0 (.int .i64 0) (by simp [go_sem]); have r1 := hu.keep (w.heap.size + 1 + 1) 1 (.int .i64 0) (by simp [go_sem]); have r2 := hu.keep (w.heap.size + 1 + 1) 2 (.int .i64 0) (by simp [go_sem]); have r3 := hu.keep (w.heap.size + 1 + 1) 3 (.int .i64 0) (by simp [go_sem]); have r4 := hu.keep (w.heap.size + 1 + 1) 4 (.int .i64 0) (by simp [go_sem]); have r5 := hu.keep (w.heap.size + 1 + 1) 5 (.int .i64 0) (by simp [go_sem]); have r6 := hu.keep (w.heap.size + 1 + 1) 6 (.slice none 0 0) (by simp [go_sem]); have r7 := hu.keep (w.heap.size + 1 + 1) 7 (.int .u64 0) (by simp [go_sem]); have r8 := hu.keep (w.heap.size + 1 + 1) 8 (.int .u64 0) (by simp [go_sem]); have r9 := hu.keep (w.heap.size + 1 + 1) 9 (.int .u64 0) (by simp [go_sem]); have r10 := hu.keep (w.heap.size + 1 + 1) 10 (.int .u64 0) (by simp [go_sem]); have z0 := HU1.out.ownGe (g := w.heap.size + 1 + 1) (by omega) 0; have z1 := HU1.out.ownGe (g := w.heap.size + 1 + 1) (by omega) 1; have z2 := HU1.out.ownGe (g := w.heap.size + 1 + 1) (by omega) 2; have z3 := HU1.out.ownGe (g := w.heap.size + 1 + 1) (by omega) 3; have z4 := HU1.out.ownGe (g := w.heap.size + 1 + 1) (by omega) 4; have z5 := HU1.out.ownGe (g := w.heap.size + 1 + 1) (by omega) 5; have z6 := HU1.out.ownGe (g := w.heap.size + 1 + 1) (by omega) 6; have z7 := HU1.out.ownGe (g := w.heap.size + 1 + 1) (by omega) 7; have z8 := HU1.out.ownGe (g := w.heap.size + 1 + 1) (by omega) 8; have z9 := HU1.out.ownGe (g := w.heap.size + 1 + 1) (by omega) 9; have z10 := HU1.out.ownGe (g := w.heap.size + 1 + 1) (by omega) 10; have hlt : w.heap.size + 1 + 1 < w1.heap.size := World.block_lt_of_cell? _ _ r0; clear hu)
  refine (KA.out _).mono ?_
  rintro e w2 ⟨rfl, rfl⟩
  go_wp2_with fail
  refine (KB.out _).mono ?_
  rintro e w3 ⟨rfl, hv⟩
  have HU2 := Lib.hid (HU1.out.trans hv)
  have R0 := hv.keep _ _ _ r0
  have R1 := hv.keep _ _ _ r1
  have R2 := hv.keep _ _ _ r2
  have R3 := hv.keep _ _ _ r3
  have R4 := hv.keep _ _ _ r4
  have R5 := hv.keep _ _ _ r5
  have R6 := hv.keep _ _ _ r6
  have R7 := hv.keep _ _ _ r7
  have R8 := hv.keep _ _ _ r8
  have R9 := hv.keep _ _ _ r9
  have R10 := hv.keep _ _ _ r10
  have Z0 := HU2.out.ownGe (g := w.heap.size + 1 + 1) (by omega) 0
  have Z1 := HU2.out.ownGe (g := w.heap.size + 1 + 1) (by omega) 1
  have Z2 := HU2.out.ownGe (g := w.heap.size + 1 + 1) (by omega) 2
  have Z3 := HU2.out.ownGe (g := w.heap.size + 1 + 1) (by omega) 3
  have Z4 := HU2.out.ownGe (g := w.heap.size + 1 + 1) (by omega) 4
  have Z5 := HU2.out.ownGe (g := w.heap.size + 1 + 1) (by omega) 5
  have Z6 := HU2.out.ownGe (g := w.heap.size + 1 + 1) (by omega) 6
  have Z7 := HU2.out.ownGe (g := w.heap.size + 1 + 1) (by omega) 7
  have Z8 := HU2.out.ownGe (g := w.heap.size + 1 + 1) (by omega) 8
  have Z9 := HU2.out.ownGe (g := w.heap.size + 1 + 1) (by omega) 9
  have Z10 := HU2.out.ownGe (g := w.heap.size + 1 + 1) (by omega) 10
  clear r0 r1 r2 r3 r4 r5 r6 r7 r8 r9 r10 z0 z1 z2 z3 z4 z5 z6 z7 z8 z9 z10 s3 q0 q1 q2
  clear hv
  go_wp2_with fail
  refine bodyPost_ret (v := .tuple #[.agg #[.int .i64 (n : Int), .int .i64 1, .int .i64 (n : Int), .int .i64 1, .int .i64 (n : Int), .int .i64 1, .slice none 0 0, .int .u64 0, .int .u64 0, .int .u64 0, .int .u64 0], .int .i64 0]) (by simp [results, Tryz.results6, go_sem, R0, R1, R2, R3, R4, R5, R6, R7, R8, R9, R10]) rfl ⟨rfl, ?_⟩
  exact HU2.out.set11 (by omega)

set_option maxHeartbeats 8000000 in
set_option maxRecDepth 100000 in
theorem ask9_2 (v c now a b : Int) (n k : Nat) (A : Option Addr) (L : List It) (hst : stB v c now L = true) (w : World) (hS : Sl w A n L) :
    Calls Tryz.prog 6 #[.agg #[.int .i64 v, .int .i64 c, .int .i64 now, .slice A n k], .agg #[.int .i64 2, .int .i64 a, .int .i64 b]] w fun e w' => e = .returned (.tuple #[.agg #[.int .i64 (smZ L), .int .i64 1, .int .i64 (smZ L), .int .i64 1, .int .i64 (smZ L), .int .i64 1, .slice none 0 0, .int .u64 0, .int .u64 0, .int .u64 0, .int .u64 0], .int .i64 0]) ∧ Up w w' := by
  have KV := Lib.hid (fun W (h : Sl W A n L) => validate9_up v c now n k A L W h)
  rw [stE_yes hst] at KV
  have HS := Lib.hid hS
  obtain ⟨hI, hl, hs⟩ := st_small hst
  have hn : n ≤ 65536 := by rw [← hS.1]; exact hl
  have hx : In (smZ L) := by have := sm_bound hs; unfold In; omega
  have KA := Lib.hid (fun W (h : Sl W A n L) => sumE_up n k A L (by omega) hI W h)
  have KB := Lib.hid (fun W => integer_up (smZ L) hx W)
  rw [fit_yes hx, fits_yes hx] at KA
  unfold got at KA
  clear hx
  generalize smZ L = x at *
  clear hS hst hI hl hs hn
  go_enter Tryz.func6, Tryz.ntmps6
  go_wp2_with (go_at_call 11; (with_reducible refine (KV.out _ (HS.out.up ((((Up.refl w).alloc _ _).alloc _ _).alloc _ _))).mono ?_); rintro e w1 ⟨rfl, hu⟩; have HU1 := Lib.hid (((((Up.refl w).alloc #[.int .i64 v, .int .i64 c, .int .i64 now, .slice A n k] 24).alloc #[.int .i64 2, .int .i64 a, .int .i64 b] 26).alloc #[.int .i64 0, .int .i64 0, .int .i64 0, .int .i64 0, .int .i64 0, .int .i64 0, .slice none 0 0, .int .u64 0, .int .u64 0, .int .u64 0, .int .u64 0] 40).trans hu); have s3 := hu.keep w.heap.size 3 (.slice A n k) (by simp [go_sem]); have q0 := hu.keep (w.heap.size + 1) 0 (.int .i64 2) (by simp [go_sem]); have q1 := hu.keep (w.heap.size + 1) 1 (.int .i64 a) (by simp [go_sem]); have q2 := hu.keep (w.heap.size + 1) 2 (.int .i64 b) (by simp [go_sem]); have r0 := hu.keep (w.heap.size + 1 + 1) 0 (.int .i64 0) (by simp [go_sem]); have r1 := hu.keep (w.heap.size + 1 + 1) 1 (.int .i64 0) (by simp [go_sem]); have r2 := hu.keep (w.heap.size + 1 + 1) 2 (.int .i64 0) (by simp [go_sem]); have r3 := hu.keep (w.heap.size + 1 + 1) 3 (.int .i64 0) (by simp [go_sem]); have r4 := hu.keep (w.heap.size + 1 + 1) 4 (.int .i64 0) (by simp [go_sem]); have r5 := hu.keep (w.heap.size + 1 + 1) 5 (.int .i64 0) (by simp [go_sem]); have r6 := hu.keep (w.heap.size + 1 + 1) 6 (.slice none 0 0) (by simp [go_sem]); have r7 := hu.keep (w.heap.size + 1 + 1) 7 (.int .u64 0) (by simp [go_sem]); have r8 := hu.keep (w.heap.size + 1 + 1) 8 (.int .u64 0) (by simp [go_sem]); have r9 := hu.keep (w.heap.size + 1 + 1) 9 (.int .u64 0) (by simp [go_sem]); have r10 := hu.keep (w.heap.size + 1 + 1) 10 (.int .u64 0) (by simp [go_sem]); have z0 := HU1.out.ownGe (g := w.heap.size + 1 + 1) (by omega) 0; have z1 := HU1.out.ownGe (g := w.heap.size + 1 + 1) (by omega) 1; have z2 := HU1.out.ownGe (g := w.heap.size + 1 + 1) (by omega) 2; have z3 := HU1.out.ownGe (g := w.heap.size + 1 + 1) (by omega) 3; have z4 := HU1.out.ownGe (g := w.heap.size + 1 + 1) (by omega) 4; have z5 := HU1.out.ownGe (g := w.heap.size + 1 + 1) (by omega) 5; have z6 := HU1.out.ownGe (g := w.heap.size + 1 + 1) (by omega) 6; have z7 := HU1.out.ownGe (g := w.heap.size + 1 + 1) (by omega) 7; have z8 := HU1.out.ownGe (g := w.heap.size + 1 + 1) (by omega) 8; have z9 := HU1.out.ownGe (g := w.heap.size + 1 + 1) (by omega) 9; have z10 := HU1.out.ownGe (g := w.heap.size + 1 + 1) (by omega) 10; have hlt : w.heap.size + 1 + 1 < w1.heap.size := World.block_lt_of_cell? _ _ r0; clear hu)
  refine (KA.out _ (HS.out.up HU1.out)).mono ?_
  rintro e w2 ⟨rfl, hu2⟩
  go_wp2_with fail
  refine (KB.out _).mono ?_
  rintro e w3 ⟨rfl, hu3⟩
  have hv := hu2.trans hu3
  clear hu2 hu3
  have HU2 := Lib.hid (HU1.out.trans hv)
  have R0 := hv.keep _ _ _ r0
  have R1 := hv.keep _ _ _ r1
  have R2 := hv.keep _ _ _ r2
  have R3 := hv.keep _ _ _ r3
  have R4 := hv.keep _ _ _ r4
  have R5 := hv.keep _ _ _ r5
  have R6 := hv.keep _ _ _ r6
  have R7 := hv.keep _ _ _ r7
  have R8 := hv.keep _ _ _ r8
  have R9 := hv.keep _ _ _ r9
  have R10 := hv.keep _ _ _ r10
  have Z0 := HU2.out.ownGe (g := w.heap.size + 1 + 1) (by omega) 0
  have Z1 := HU2.out.ownGe (g := w.heap.size + 1 + 1) (by omega) 1
  have Z2 := HU2.out.ownGe (g := w.heap.size + 1 + 1) (by omega) 2
  have Z3 := HU2.out.ownGe (g := w.heap.size + 1 + 1) (by omega) 3
  have Z4 := HU2.out.ownGe (g := w.heap.size + 1 + 1) (by omega) 4
  have Z5 := HU2.out.ownGe (g := w.heap.size + 1 + 1) (by omega) 5
  have Z6 := HU2.out.ownGe (g := w.heap.size + 1 + 1) (by omega) 6
  have Z7 := HU2.out.ownGe (g := w.heap.size + 1 + 1) (by omega) 7
  have Z8 := HU2.out.ownGe (g := w.heap.size + 1 + 1) (by omega) 8
  have Z9 := HU2.out.ownGe (g := w.heap.size + 1 + 1) (by omega) 9
  have Z10 := HU2.out.ownGe (g := w.heap.size + 1 + 1) (by omega) 10
  clear r0 r1 r2 r3 r4 r5 r6 r7 r8 r9 r10 z0 z1 z2 z3 z4 z5 z6 z7 z8 z9 z10 s3 q0 q1 q2
  clear hv
  go_wp2_with fail
  refine bodyPost_ret (v := .tuple #[.agg #[.int .i64 x, .int .i64 1, .int .i64 x, .int .i64 1, .int .i64 x, .int .i64 1, .slice none 0 0, .int .u64 0, .int .u64 0, .int .u64 0, .int .u64 0], .int .i64 0]) (by simp [results, Tryz.results6, go_sem, R0, R1, R2, R3, R4, R5, R6, R7, R8, R9, R10]) rfl ⟨rfl, ?_⟩
  exact HU2.out.set11 (by omega)

set_option maxHeartbeats 8000000 in
set_option maxRecDepth 100000 in
theorem ask9_3 (v c now a b : Int) (n k : Nat) (A : Option Addr) (L : List It) (hst : stB v c now L = true) (w : World) (hS : Sl w A n L) :
    Calls Tryz.prog 6 #[.agg #[.int .i64 v, .int .i64 c, .int .i64 now, .slice A n k], .agg #[.int .i64 3, .int .i64 a, .int .i64 b]] w fun e w' => e = .returned (.tuple #[.agg #[.int .i64 (sqZ L), .int .i64 1, .int .i64 (sqZ L), .int .i64 1, .int .i64 (sqZ L), .int .i64 1, .slice none 0 0, .int .u64 0, .int .u64 0, .int .u64 0, .int .u64 0], .int .i64 0]) ∧ Up w w' := by
  have KV := Lib.hid (fun W (h : Sl W A n L) => validate9_up v c now n k A L W h)
  rw [stE_yes hst] at KV
  have HS := Lib.hid hS
  obtain ⟨hI, hl, hs⟩ := st_small hst
  have hn : n ≤ 65536 := by rw [← hS.1]; exact hl
  have hx : In (sqZ L) := by have := sq_bound hs; unfold In; omega
  have KA := Lib.hid (fun W (h : Sl W A n L) => squaresE_up n k A L (by omega) hI W h)
  have KB := Lib.hid (fun W => integer_up (sqZ L) hx W)
  rw [fit_yes hx, fits_yes hx] at KA
  unfold got at KA
  clear hx
  generalize sqZ L = x at *
  clear hS hst hI hl hs hn
  go_enter Tryz.func6, Tryz.ntmps6
  go_wp2_with (go_at_call 11; (with_reducible refine (KV.out _ (HS.out.up ((((Up.refl w).alloc _ _).alloc _ _).alloc _ _))).mono ?_); rintro e w1 ⟨rfl, hu⟩; have HU1 := Lib.hid (((((Up.refl w).alloc #[.int .i64 v, .int .i64 c, .int .i64 now, .slice A n k] 24).alloc #[.int .i64 3, .int .i64 a, .int .i64 b] 26).alloc #[.int .i64 0, .int .i64 0, .int .i64 0, .int .i64 0, .int .i64 0, .int .i64 0, .slice none 0 0, .int .u64 0, .int .u64 0, .int .u64 0, .int .u64 0] 40).trans hu); have s3 := hu.keep w.heap.size 3 (.slice A n k) (by simp [go_sem]); have q0 := hu.keep (w.heap.size + 1) 0 (.int .i64 3) (by simp [go_sem]); have q1 := hu.keep (w.heap.size + 1) 1 (.int .i64 a) (by simp [go_sem]); have q2 := hu.keep (w.heap.size + 1) 2 (.int .i64 b) (by simp [go_sem]); have r0 := hu.keep (w.heap.size + 1 + 1) 0 (.int .i64 0) (by simp [go_sem]); have r1 := hu.keep (w.heap.size + 1 + 1) 1 (.int .i64 0) (by simp [go_sem]); have r2 := hu.keep (w.heap.size + 1 + 1) 2 (.int .i64 0) (by simp [go_sem]); have r3 := hu.keep (w.heap.size + 1 + 1) 3 (.int .i64 0) (by simp [go_sem]); have r4 := hu.keep (w.heap.size + 1 + 1) 4 (.int .i64 0) (by simp [go_sem]); have r5 := hu.keep (w.heap.size + 1 + 1) 5 (.int .i64 0) (by simp [go_sem]); have r6 := hu.keep (w.heap.size + 1 + 1) 6 (.slice none 0 0) (by simp [go_sem]); have r7 := hu.keep (w.heap.size + 1 + 1) 7 (.int .u64 0) (by simp [go_sem]); have r8 := hu.keep (w.heap.size + 1 + 1) 8 (.int .u64 0) (by simp [go_sem]); have r9 := hu.keep (w.heap.size + 1 + 1) 9 (.int .u64 0) (by simp [go_sem]); have r10 := hu.keep (w.heap.size + 1 + 1) 10 (.int .u64 0) (by simp [go_sem]); have z0 := HU1.out.ownGe (g := w.heap.size + 1 + 1) (by omega) 0; have z1 := HU1.out.ownGe (g := w.heap.size + 1 + 1) (by omega) 1; have z2 := HU1.out.ownGe (g := w.heap.size + 1 + 1) (by omega) 2; have z3 := HU1.out.ownGe (g := w.heap.size + 1 + 1) (by omega) 3; have z4 := HU1.out.ownGe (g := w.heap.size + 1 + 1) (by omega) 4; have z5 := HU1.out.ownGe (g := w.heap.size + 1 + 1) (by omega) 5; have z6 := HU1.out.ownGe (g := w.heap.size + 1 + 1) (by omega) 6; have z7 := HU1.out.ownGe (g := w.heap.size + 1 + 1) (by omega) 7; have z8 := HU1.out.ownGe (g := w.heap.size + 1 + 1) (by omega) 8; have z9 := HU1.out.ownGe (g := w.heap.size + 1 + 1) (by omega) 9; have z10 := HU1.out.ownGe (g := w.heap.size + 1 + 1) (by omega) 10; have hlt : w.heap.size + 1 + 1 < w1.heap.size := World.block_lt_of_cell? _ _ r0; clear hu)
  refine (KA.out _ (HS.out.up HU1.out)).mono ?_
  rintro e w2 ⟨rfl, hu2⟩
  go_wp2_with fail
  refine (KB.out _).mono ?_
  rintro e w3 ⟨rfl, hu3⟩
  have hv := hu2.trans hu3
  clear hu2 hu3
  have HU2 := Lib.hid (HU1.out.trans hv)
  have R0 := hv.keep _ _ _ r0
  have R1 := hv.keep _ _ _ r1
  have R2 := hv.keep _ _ _ r2
  have R3 := hv.keep _ _ _ r3
  have R4 := hv.keep _ _ _ r4
  have R5 := hv.keep _ _ _ r5
  have R6 := hv.keep _ _ _ r6
  have R7 := hv.keep _ _ _ r7
  have R8 := hv.keep _ _ _ r8
  have R9 := hv.keep _ _ _ r9
  have R10 := hv.keep _ _ _ r10
  have Z0 := HU2.out.ownGe (g := w.heap.size + 1 + 1) (by omega) 0
  have Z1 := HU2.out.ownGe (g := w.heap.size + 1 + 1) (by omega) 1
  have Z2 := HU2.out.ownGe (g := w.heap.size + 1 + 1) (by omega) 2
  have Z3 := HU2.out.ownGe (g := w.heap.size + 1 + 1) (by omega) 3
  have Z4 := HU2.out.ownGe (g := w.heap.size + 1 + 1) (by omega) 4
  have Z5 := HU2.out.ownGe (g := w.heap.size + 1 + 1) (by omega) 5
  have Z6 := HU2.out.ownGe (g := w.heap.size + 1 + 1) (by omega) 6
  have Z7 := HU2.out.ownGe (g := w.heap.size + 1 + 1) (by omega) 7
  have Z8 := HU2.out.ownGe (g := w.heap.size + 1 + 1) (by omega) 8
  have Z9 := HU2.out.ownGe (g := w.heap.size + 1 + 1) (by omega) 9
  have Z10 := HU2.out.ownGe (g := w.heap.size + 1 + 1) (by omega) 10
  clear r0 r1 r2 r3 r4 r5 r6 r7 r8 r9 r10 z0 z1 z2 z3 z4 z5 z6 z7 z8 z9 z10 s3 q0 q1 q2
  clear hv
  go_wp2_with fail
  refine bodyPost_ret (v := .tuple #[.agg #[.int .i64 x, .int .i64 1, .int .i64 x, .int .i64 1, .int .i64 x, .int .i64 1, .slice none 0 0, .int .u64 0, .int .u64 0, .int .u64 0, .int .u64 0], .int .i64 0]) (by simp [results, Tryz.results6, go_sem, R0, R1, R2, R3, R4, R5, R6, R7, R8, R9, R10]) rfl ⟨rfl, ?_⟩
  exact HU2.out.set11 (by omega)

set_option maxHeartbeats 8000000 in
set_option maxRecDepth 100000 in
theorem ask9_4 (v c now a b : Int) (n k : Nat) (A : Option Addr) (L : List It) (hst : stB v c now L = true) (w : World) (hS : Sl w A n L) :
    Calls Tryz.prog 6 #[.agg #[.int .i64 v, .int .i64 c, .int .i64 now, .slice A n k], .agg #[.int .i64 4, .int .i64 a, .int .i64 b]] w fun e w' => e = .returned (.tuple #[.agg #[.int .i64 (grV L - leV L), .int .i64 1, .int .i64 (grV L - leV L), .int .i64 1, .int .i64 (grV L - leV L), .int .i64 1, .slice none 0 0, .int .u64 0, .int .u64 0, .int .u64 0, .int .u64 0], .int .i64 0]) ∧ Up w w' := by
  have KV := Lib.hid (fun W (h : Sl W A n L) => validate9_up v c now n k A L W h)
  rw [stE_yes hst] at KV
  have HS := Lib.hid hS
  obtain ⟨hI, hl, hs⟩ := st_small hst
  have hn : n ≤ 65536 := by rw [← hS.1]; exact hl
  have hx : In (grV L - leV L) := by have := ext_in hs; unfold In; omega
  have KA := Lib.hid (fun W (h : Sl W A n L) => distance_up n k A L (by omega) hs W h)
  have KB := Lib.hid (fun W => integer_up (grV L - leV L) hx W)
  clear hx
  generalize grV L - leV L = x at *
  clear hS hst hI hl hs hn
  go_enter Tryz.func6, Tryz.ntmps6
  go_wp2_with (go_at_call 11; (with_reducible refine (KV.out _ (HS.out.up ((((Up.refl w).alloc _ _).alloc _ _).alloc _ _))).mono ?_); rintro e w1 ⟨rfl, hu⟩; have HU1 := Lib.hid (((((Up.refl w).alloc #[.int .i64 v, .int .i64 c, .int .i64 now, .slice A n k] 24).alloc #[.int .i64 4, .int .i64 a, .int .i64 b] 26).alloc #[.int .i64 0, .int .i64 0, .int .i64 0, .int .i64 0, .int .i64 0, .int .i64 0, .slice none 0 0, .int .u64 0, .int .u64 0, .int .u64 0, .int .u64 0] 40).trans hu); have s3 := hu.keep w.heap.size 3 (.slice A n k) (by simp [go_sem]); have q0 := hu.keep (w.heap.size + 1) 0 (.int .i64 4) (by simp [go_sem]); have q1 := hu.keep (w.heap.size + 1) 1 (.int .i64 a) (by simp [go_sem]); have q2 := hu.keep (w.heap.size + 1) 2 (.int .i64 b) (by simp [go_sem]); have r0 := hu.keep (w.heap.size + 1 + 1) 0 (.int .i64 0) (by simp [go_sem]); have r1 := hu.keep (w.heap.size + 1 + 1) 1 (.int .i64 0) (by simp [go_sem]); have r2 := hu.keep (w.heap.size + 1 + 1) 2 (.int .i64 0) (by simp [go_sem]); have r3 := hu.keep (w.heap.size + 1 + 1) 3 (.int .i64 0) (by simp [go_sem]); have r4 := hu.keep (w.heap.size + 1 + 1) 4 (.int .i64 0) (by simp [go_sem]); have r5 := hu.keep (w.heap.size + 1 + 1) 5 (.int .i64 0) (by simp [go_sem]); have r6 := hu.keep (w.heap.size + 1 + 1) 6 (.slice none 0 0) (by simp [go_sem]); have r7 := hu.keep (w.heap.size + 1 + 1) 7 (.int .u64 0) (by simp [go_sem]); have r8 := hu.keep (w.heap.size + 1 + 1) 8 (.int .u64 0) (by simp [go_sem]); have r9 := hu.keep (w.heap.size + 1 + 1) 9 (.int .u64 0) (by simp [go_sem]); have r10 := hu.keep (w.heap.size + 1 + 1) 10 (.int .u64 0) (by simp [go_sem]); have z0 := HU1.out.ownGe (g := w.heap.size + 1 + 1) (by omega) 0; have z1 := HU1.out.ownGe (g := w.heap.size + 1 + 1) (by omega) 1; have z2 := HU1.out.ownGe (g := w.heap.size + 1 + 1) (by omega) 2; have z3 := HU1.out.ownGe (g := w.heap.size + 1 + 1) (by omega) 3; have z4 := HU1.out.ownGe (g := w.heap.size + 1 + 1) (by omega) 4; have z5 := HU1.out.ownGe (g := w.heap.size + 1 + 1) (by omega) 5; have z6 := HU1.out.ownGe (g := w.heap.size + 1 + 1) (by omega) 6; have z7 := HU1.out.ownGe (g := w.heap.size + 1 + 1) (by omega) 7; have z8 := HU1.out.ownGe (g := w.heap.size + 1 + 1) (by omega) 8; have z9 := HU1.out.ownGe (g := w.heap.size + 1 + 1) (by omega) 9; have z10 := HU1.out.ownGe (g := w.heap.size + 1 + 1) (by omega) 10; have hlt : w.heap.size + 1 + 1 < w1.heap.size := World.block_lt_of_cell? _ _ r0; clear hu)
  refine (KA.out _ (HS.out.up HU1.out)).mono ?_
  rintro e w2 ⟨rfl, hu2⟩
  go_wp2_with fail
  refine (KB.out _).mono ?_
  rintro e w3 ⟨rfl, hu3⟩
  have hv := hu2.trans hu3
  clear hu2 hu3
  have HU2 := Lib.hid (HU1.out.trans hv)
  have R0 := hv.keep _ _ _ r0
  have R1 := hv.keep _ _ _ r1
  have R2 := hv.keep _ _ _ r2
  have R3 := hv.keep _ _ _ r3
  have R4 := hv.keep _ _ _ r4
  have R5 := hv.keep _ _ _ r5
  have R6 := hv.keep _ _ _ r6
  have R7 := hv.keep _ _ _ r7
  have R8 := hv.keep _ _ _ r8
  have R9 := hv.keep _ _ _ r9
  have R10 := hv.keep _ _ _ r10
  have Z0 := HU2.out.ownGe (g := w.heap.size + 1 + 1) (by omega) 0
  have Z1 := HU2.out.ownGe (g := w.heap.size + 1 + 1) (by omega) 1
  have Z2 := HU2.out.ownGe (g := w.heap.size + 1 + 1) (by omega) 2
  have Z3 := HU2.out.ownGe (g := w.heap.size + 1 + 1) (by omega) 3
  have Z4 := HU2.out.ownGe (g := w.heap.size + 1 + 1) (by omega) 4
  have Z5 := HU2.out.ownGe (g := w.heap.size + 1 + 1) (by omega) 5
  have Z6 := HU2.out.ownGe (g := w.heap.size + 1 + 1) (by omega) 6
  have Z7 := HU2.out.ownGe (g := w.heap.size + 1 + 1) (by omega) 7
  have Z8 := HU2.out.ownGe (g := w.heap.size + 1 + 1) (by omega) 8
  have Z9 := HU2.out.ownGe (g := w.heap.size + 1 + 1) (by omega) 9
  have Z10 := HU2.out.ownGe (g := w.heap.size + 1 + 1) (by omega) 10
  clear r0 r1 r2 r3 r4 r5 r6 r7 r8 r9 r10 z0 z1 z2 z3 z4 z5 z6 z7 z8 z9 z10 s3 q0 q1 q2
  clear hv
  go_wp2_with fail
  refine bodyPost_ret (v := .tuple #[.agg #[.int .i64 x, .int .i64 1, .int .i64 x, .int .i64 1, .int .i64 x, .int .i64 1, .slice none 0 0, .int .u64 0, .int .u64 0, .int .u64 0, .int .u64 0], .int .i64 0]) (by simp [results, Tryz.results6, go_sem, R0, R1, R2, R3, R4, R5, R6, R7, R8, R9, R10]) rfl ⟨rfl, ?_⟩
  exact HU2.out.set11 (by omega)

set_option maxHeartbeats 8000000 in
set_option maxRecDepth 100000 in
theorem ask9_5 (v c now a b : Int) (n k : Nat) (A : Option Addr) (L : List It) (hst : stB v c now L = true) (w : World) (hS : Sl w A n L) :
    Calls Tryz.prog 6 #[.agg #[.int .i64 v, .int .i64 c, .int .i64 now, .slice A n k], .agg #[.int .i64 5, .int .i64 a, .int .i64 b]] w fun e w' => e = .returned (.tuple #[.agg #[.int .i64 (sprN L), .int .i64 (sprD L), .int .i64 (sprN L), .int .i64 (sprD L), .int .i64 (sprN L), .int .i64 (sprD L), .slice none 0 0, .int .u64 0, .int .u64 0, .int .u64 0, .int .u64 0], .int .i64 0]) ∧ Up w w' := by
  have KV := Lib.hid (fun W (h : Sl W A n L) => validate9_up v c now n k A L W h)
  rw [stE_yes hst] at KV
  have HS := Lib.hid hS
  obtain ⟨hI, hl, hs⟩ := st_small hst
  have hn : n ≤ 65536 := by rw [← hS.1]; exact hl
  have hx := spr_ok hs hl
  have KA := Lib.hid (fun W (h : Sl W A n L) => spread_up n k A L (by omega) hI W h)
  have KB := Lib.hid (fun W => number_up (sprN L) (sprD L) hx.1 hx.2.1 hx.2.2.1 W)
  rw [hx.2.2.2] at KA
  unfold gotR at KA
  clear hx
  generalize sprN L = x at *
  generalize sprD L = y at *
  clear hS hst hI hl hs hn
  go_enter Tryz.func6, Tryz.ntmps6
  go_wp2_with (go_at_call 11; (with_reducible refine (KV.out _ (HS.out.up ((((Up.refl w).alloc _ _).alloc _ _).alloc _ _))).mono ?_); rintro e w1 ⟨rfl, hu⟩; have HU1 := Lib.hid (((((Up.refl w).alloc #[.int .i64 v, .int .i64 c, .int .i64 now, .slice A n k] 24).alloc #[.int .i64 5, .int .i64 a, .int .i64 b] 26).alloc #[.int .i64 0, .int .i64 0, .int .i64 0, .int .i64 0, .int .i64 0, .int .i64 0, .slice none 0 0, .int .u64 0, .int .u64 0, .int .u64 0, .int .u64 0] 40).trans hu); have s3 := hu.keep w.heap.size 3 (.slice A n k) (by simp [go_sem]); have q0 := hu.keep (w.heap.size + 1) 0 (.int .i64 5) (by simp [go_sem]); have q1 := hu.keep (w.heap.size + 1) 1 (.int .i64 a) (by simp [go_sem]); have q2 := hu.keep (w.heap.size + 1) 2 (.int .i64 b) (by simp [go_sem]); have r0 := hu.keep (w.heap.size + 1 + 1) 0 (.int .i64 0) (by simp [go_sem]); have r1 := hu.keep (w.heap.size + 1 + 1) 1 (.int .i64 0) (by simp [go_sem]); have r2 := hu.keep (w.heap.size + 1 + 1) 2 (.int .i64 0) (by simp [go_sem]); have r3 := hu.keep (w.heap.size + 1 + 1) 3 (.int .i64 0) (by simp [go_sem]); have r4 := hu.keep (w.heap.size + 1 + 1) 4 (.int .i64 0) (by simp [go_sem]); have r5 := hu.keep (w.heap.size + 1 + 1) 5 (.int .i64 0) (by simp [go_sem]); have r6 := hu.keep (w.heap.size + 1 + 1) 6 (.slice none 0 0) (by simp [go_sem]); have r7 := hu.keep (w.heap.size + 1 + 1) 7 (.int .u64 0) (by simp [go_sem]); have r8 := hu.keep (w.heap.size + 1 + 1) 8 (.int .u64 0) (by simp [go_sem]); have r9 := hu.keep (w.heap.size + 1 + 1) 9 (.int .u64 0) (by simp [go_sem]); have r10 := hu.keep (w.heap.size + 1 + 1) 10 (.int .u64 0) (by simp [go_sem]); have z0 := HU1.out.ownGe (g := w.heap.size + 1 + 1) (by omega) 0; have z1 := HU1.out.ownGe (g := w.heap.size + 1 + 1) (by omega) 1; have z2 := HU1.out.ownGe (g := w.heap.size + 1 + 1) (by omega) 2; have z3 := HU1.out.ownGe (g := w.heap.size + 1 + 1) (by omega) 3; have z4 := HU1.out.ownGe (g := w.heap.size + 1 + 1) (by omega) 4; have z5 := HU1.out.ownGe (g := w.heap.size + 1 + 1) (by omega) 5; have z6 := HU1.out.ownGe (g := w.heap.size + 1 + 1) (by omega) 6; have z7 := HU1.out.ownGe (g := w.heap.size + 1 + 1) (by omega) 7; have z8 := HU1.out.ownGe (g := w.heap.size + 1 + 1) (by omega) 8; have z9 := HU1.out.ownGe (g := w.heap.size + 1 + 1) (by omega) 9; have z10 := HU1.out.ownGe (g := w.heap.size + 1 + 1) (by omega) 10; have hlt : w.heap.size + 1 + 1 < w1.heap.size := World.block_lt_of_cell? _ _ r0; clear hu)
  refine (KA.out _ (HS.out.up HU1.out)).mono ?_
  rintro e w2 ⟨rfl, hu2⟩
  go_wp2_with fail
  refine (KB.out _).mono ?_
  rintro e w3 ⟨rfl, hu3⟩
  have hv := (hu2.alloc #[.int .i64 x, .int .i64 y] 30).trans hu3
  clear hu2 hu3
  have HU2 := Lib.hid (HU1.out.trans hv)
  have R0 := hv.keep _ _ _ r0
  have R1 := hv.keep _ _ _ r1
  have R2 := hv.keep _ _ _ r2
  have R3 := hv.keep _ _ _ r3
  have R4 := hv.keep _ _ _ r4
  have R5 := hv.keep _ _ _ r5
  have R6 := hv.keep _ _ _ r6
  have R7 := hv.keep _ _ _ r7
  have R8 := hv.keep _ _ _ r8
  have R9 := hv.keep _ _ _ r9
  have R10 := hv.keep _ _ _ r10
  have Z0 := HU2.out.ownGe (g := w.heap.size + 1 + 1) (by omega) 0
  have Z1 := HU2.out.ownGe (g := w.heap.size + 1 + 1) (by omega) 1
  have Z2 := HU2.out.ownGe (g := w.heap.size + 1 + 1) (by omega) 2
  have Z3 := HU2.out.ownGe (g := w.heap.size + 1 + 1) (by omega) 3
  have Z4 := HU2.out.ownGe (g := w.heap.size + 1 + 1) (by omega) 4
  have Z5 := HU2.out.ownGe (g := w.heap.size + 1 + 1) (by omega) 5
  have Z6 := HU2.out.ownGe (g := w.heap.size + 1 + 1) (by omega) 6
  have Z7 := HU2.out.ownGe (g := w.heap.size + 1 + 1) (by omega) 7
  have Z8 := HU2.out.ownGe (g := w.heap.size + 1 + 1) (by omega) 8
  have Z9 := HU2.out.ownGe (g := w.heap.size + 1 + 1) (by omega) 9
  have Z10 := HU2.out.ownGe (g := w.heap.size + 1 + 1) (by omega) 10
  clear r0 r1 r2 r3 r4 r5 r6 r7 r8 r9 r10 z0 z1 z2 z3 z4 z5 z6 z7 z8 z9 z10 s3 q0 q1 q2
  clear hv
  go_wp2_with fail
  refine bodyPost_ret (v := .tuple #[.agg #[.int .i64 x, .int .i64 y, .int .i64 x, .int .i64 y, .int .i64 x, .int .i64 y, .slice none 0 0, .int .u64 0, .int .u64 0, .int .u64 0, .int .u64 0], .int .i64 0]) (by simp [results, Tryz.results6, go_sem, R0, R1, R2, R3, R4, R5, R6, R7, R8, R9, R10]) rfl ⟨rfl, ?_⟩
  exact HU2.out.set11 (by omega)

set_option maxHeartbeats 8000000 in
set_option maxRecDepth 100000 in
theorem ask9_7 (v c now a b : Int) (n k : Nat) (A : Option Addr) (L : List It) (hst : stB v c now L = true) (w : World) (hS : Sl w A n L) :
    Calls Tryz.prog 6 #[.agg #[.int .i64 v, .int .i64 c, .int .i64 now, .slice A n k], .agg #[.int .i64 7, .int .i64 a, .int .i64 b]] w fun e w' => e = .returned (.tuple #[.agg #[.int .i64 (rkN a L : Int), .int .i64 1, .int .i64 (rkN a L : Int), .int .i64 1, .int .i64 (rkN a L : Int), .int .i64 1, .slice none 0 0, .int .u64 0, .int .u64 0, .int .u64 0, .int .u64 0], .int .i64 0]) ∧ Up w w' := by
  have KV := Lib.hid (fun W (h : Sl W A n L) => validate9_up v c now n k A L W h)
  rw [stE_yes hst] at KV
  have HS := Lib.hid hS
  obtain ⟨hI, hl, hs⟩ := st_small hst
  have hn : n ≤ 65536 := by rw [← hS.1]; exact hl
  have hx : In (rkN a L : Int) := by have := rkN_le a L; unfold In; omega
  have KA := Lib.hid (fun W (h : Sl W A n L) => rank_up n k A L a (by omega) W h)
  have KB := Lib.hid (fun W => integer_up (rkN a L : Int) hx W)
  clear hx
  generalize (rkN a L : Int) = x at *
  clear hS hst hI hl hs hn
  go_enter Tryz.func6, Tryz.ntmps6
  go_wp2_with (go_at_call 11; (with_reducible refine (KV.out _ (HS.out.up ((((Up.refl w).alloc _ _).alloc _ _).alloc _ _))).mono ?_); rintro e w1 ⟨rfl, hu⟩; have HU1 := Lib.hid (((((Up.refl w).alloc #[.int .i64 v, .int .i64 c, .int .i64 now, .slice A n k] 24).alloc #[.int .i64 7, .int .i64 a, .int .i64 b] 26).alloc #[.int .i64 0, .int .i64 0, .int .i64 0, .int .i64 0, .int .i64 0, .int .i64 0, .slice none 0 0, .int .u64 0, .int .u64 0, .int .u64 0, .int .u64 0] 40).trans hu); have s3 := hu.keep w.heap.size 3 (.slice A n k) (by simp [go_sem]); have q0 := hu.keep (w.heap.size + 1) 0 (.int .i64 7) (by simp [go_sem]); have q1 := hu.keep (w.heap.size + 1) 1 (.int .i64 a) (by simp [go_sem]); have q2 := hu.keep (w.heap.size + 1) 2 (.int .i64 b) (by simp [go_sem]); have r0 := hu.keep (w.heap.size + 1 + 1) 0 (.int .i64 0) (by simp [go_sem]); have r1 := hu.keep (w.heap.size + 1 + 1) 1 (.int .i64 0) (by simp [go_sem]); have r2 := hu.keep (w.heap.size + 1 + 1) 2 (.int .i64 0) (by simp [go_sem]); have r3 := hu.keep (w.heap.size + 1 + 1) 3 (.int .i64 0) (by simp [go_sem]); have r4 := hu.keep (w.heap.size + 1 + 1) 4 (.int .i64 0) (by simp [go_sem]); have r5 := hu.keep (w.heap.size + 1 + 1) 5 (.int .i64 0) (by simp [go_sem]); have r6 := hu.keep (w.heap.size + 1 + 1) 6 (.slice none 0 0) (by simp [go_sem]); have r7 := hu.keep (w.heap.size + 1 + 1) 7 (.int .u64 0) (by simp [go_sem]); have r8 := hu.keep (w.heap.size + 1 + 1) 8 (.int .u64 0) (by simp [go_sem]); have r9 := hu.keep (w.heap.size + 1 + 1) 9 (.int .u64 0) (by simp [go_sem]); have r10 := hu.keep (w.heap.size + 1 + 1) 10 (.int .u64 0) (by simp [go_sem]); have z0 := HU1.out.ownGe (g := w.heap.size + 1 + 1) (by omega) 0; have z1 := HU1.out.ownGe (g := w.heap.size + 1 + 1) (by omega) 1; have z2 := HU1.out.ownGe (g := w.heap.size + 1 + 1) (by omega) 2; have z3 := HU1.out.ownGe (g := w.heap.size + 1 + 1) (by omega) 3; have z4 := HU1.out.ownGe (g := w.heap.size + 1 + 1) (by omega) 4; have z5 := HU1.out.ownGe (g := w.heap.size + 1 + 1) (by omega) 5; have z6 := HU1.out.ownGe (g := w.heap.size + 1 + 1) (by omega) 6; have z7 := HU1.out.ownGe (g := w.heap.size + 1 + 1) (by omega) 7; have z8 := HU1.out.ownGe (g := w.heap.size + 1 + 1) (by omega) 8; have z9 := HU1.out.ownGe (g := w.heap.size + 1 + 1) (by omega) 9; have z10 := HU1.out.ownGe (g := w.heap.size + 1 + 1) (by omega) 10; have hlt : w.heap.size + 1 + 1 < w1.heap.size := World.block_lt_of_cell? _ _ r0; clear hu)
  refine (KA.out _ (HS.out.up HU1.out)).mono ?_
  rintro e w2 ⟨rfl, hu2⟩
  go_wp2_with fail
  refine (KB.out _).mono ?_
  rintro e w3 ⟨rfl, hu3⟩
  have hv := hu2.trans hu3
  clear hu2 hu3
  have HU2 := Lib.hid (HU1.out.trans hv)
  have R0 := hv.keep _ _ _ r0
  have R1 := hv.keep _ _ _ r1
  have R2 := hv.keep _ _ _ r2
  have R3 := hv.keep _ _ _ r3
  have R4 := hv.keep _ _ _ r4
  have R5 := hv.keep _ _ _ r5
  have R6 := hv.keep _ _ _ r6
  have R7 := hv.keep _ _ _ r7
  have R8 := hv.keep _ _ _ r8
  have R9 := hv.keep _ _ _ r9
  have R10 := hv.keep _ _ _ r10
  have Z0 := HU2.out.ownGe (g := w.heap.size + 1 + 1) (by omega) 0
  have Z1 := HU2.out.ownGe (g := w.heap.size + 1 + 1) (by omega) 1
  have Z2 := HU2.out.ownGe (g := w.heap.size + 1 + 1) (by omega) 2
  have Z3 := HU2.out.ownGe (g := w.heap.size + 1 + 1) (by omega) 3
  have Z4 := HU2.out.ownGe (g := w.heap.size + 1 + 1) (by omega) 4
  have Z5 := HU2.out.ownGe (g := w.heap.size + 1 + 1) (by omega) 5
  have Z6 := HU2.out.ownGe (g := w.heap.size + 1 + 1) (by omega) 6
  have Z7 := HU2.out.ownGe (g := w.heap.size + 1 + 1) (by omega) 7
  have Z8 := HU2.out.ownGe (g := w.heap.size + 1 + 1) (by omega) 8
  have Z9 := HU2.out.ownGe (g := w.heap.size + 1 + 1) (by omega) 9
  have Z10 := HU2.out.ownGe (g := w.heap.size + 1 + 1) (by omega) 10
  clear r0 r1 r2 r3 r4 r5 r6 r7 r8 r9 r10 z0 z1 z2 z3 z4 z5 z6 z7 z8 z9 z10 s3 q0 q1 q2
  clear hv
  go_wp2_with fail
  refine bodyPost_ret (v := .tuple #[.agg #[.int .i64 x, .int .i64 1, .int .i64 x, .int .i64 1, .int .i64 x, .int .i64 1, .slice none 0 0, .int .u64 0, .int .u64 0, .int .u64 0, .int .u64 0], .int .i64 0]) (by simp [results, Tryz.results6, go_sem, R0, R1, R2, R3, R4, R5, R6, R7, R8, R9, R10]) rfl ⟨rfl, ?_⟩
  exact HU2.out.set11 (by omega)

set_option maxHeartbeats 8000000 in
set_option maxRecDepth 100000 in
theorem ask9_6 (v c now a b : Int) (n k : Nat) (A : Option Addr) (L : List It) (hst : stB v c now L = true) {N D e0 : Int} {Vs : List Int} (h : (if L = [] then ((0 : Int), (0 : Int), ([] : List Int), (7 : Int)) else (0, 0, [leV L, grV L], 0)) = (N, D, Vs, e0)) (w : World) (hS : Sl w A n L) :
    Calls Tryz.prog 6 #[.agg #[.int .i64 v, .int .i64 c, .int .i64 now, .slice A n k], .agg #[.int .i64 6, .int .i64 a, .int .i64 b]] w fun e w' => ∃ A' k', e = .returned (.tuple #[.agg #[.int .i64 N, .int .i64 D, .int .i64 N, .int .i64 D, .int .i64 N, .int .i64 D, .slice A' Vs.length k', .int .u64 0, .int .u64 0, .int .u64 0, .int .u64 0], .int .i64 e0]) ∧ Sn w' A' Vs.length Vs ∧ Up w w' := by
  have KV := Lib.hid (fun W (h : Sl W A n L) => validate9_up v c now n k A L W h)
  rw [stE_yes hst] at KV
  have HS := Lib.hid hS
  obtain ⟨hI, hl, hs⟩ := st_small hst
  have hn : n ≤ 65536 := by rw [← hS.1]; exact hl
  have KA := Lib.hid (fun W (g : Sl W A n L) => extremes_up n k A L (by omega) W g h)
  clear hS hst hI hl hs hn h
  generalize Vs.length = m at *
  go_enter Tryz.func6, Tryz.ntmps6
  go_wp2_with (go_at_call 11; (with_reducible refine (KV.out _ (HS.out.up ((((Up.refl w).alloc _ _).alloc _ _).alloc _ _))).mono ?_); rintro e w1 ⟨rfl, hu⟩; have HU1 := Lib.hid (((((Up.refl w).alloc #[.int .i64 v, .int .i64 c, .int .i64 now, .slice A n k] 24).alloc #[.int .i64 6, .int .i64 a, .int .i64 b] 26).alloc #[.int .i64 0, .int .i64 0, .int .i64 0, .int .i64 0, .int .i64 0, .int .i64 0, .slice none 0 0, .int .u64 0, .int .u64 0, .int .u64 0, .int .u64 0] 40).trans hu); have s3 := hu.keep w.heap.size 3 (.slice A n k) (by simp [go_sem]); have q0 := hu.keep (w.heap.size + 1) 0 (.int .i64 6) (by simp [go_sem]); have q1 := hu.keep (w.heap.size + 1) 1 (.int .i64 a) (by simp [go_sem]); have q2 := hu.keep (w.heap.size + 1) 2 (.int .i64 b) (by simp [go_sem]); have r0 := hu.keep (w.heap.size + 1 + 1) 0 (.int .i64 0) (by simp [go_sem]); have r1 := hu.keep (w.heap.size + 1 + 1) 1 (.int .i64 0) (by simp [go_sem]); have r2 := hu.keep (w.heap.size + 1 + 1) 2 (.int .i64 0) (by simp [go_sem]); have r3 := hu.keep (w.heap.size + 1 + 1) 3 (.int .i64 0) (by simp [go_sem]); have r4 := hu.keep (w.heap.size + 1 + 1) 4 (.int .i64 0) (by simp [go_sem]); have r5 := hu.keep (w.heap.size + 1 + 1) 5 (.int .i64 0) (by simp [go_sem]); have r6 := hu.keep (w.heap.size + 1 + 1) 6 (.slice none 0 0) (by simp [go_sem]); have r7 := hu.keep (w.heap.size + 1 + 1) 7 (.int .u64 0) (by simp [go_sem]); have r8 := hu.keep (w.heap.size + 1 + 1) 8 (.int .u64 0) (by simp [go_sem]); have r9 := hu.keep (w.heap.size + 1 + 1) 9 (.int .u64 0) (by simp [go_sem]); have r10 := hu.keep (w.heap.size + 1 + 1) 10 (.int .u64 0) (by simp [go_sem]); have z0 := HU1.out.ownGe (g := w.heap.size + 1 + 1) (by omega) 0; have z1 := HU1.out.ownGe (g := w.heap.size + 1 + 1) (by omega) 1; have z2 := HU1.out.ownGe (g := w.heap.size + 1 + 1) (by omega) 2; have z3 := HU1.out.ownGe (g := w.heap.size + 1 + 1) (by omega) 3; have z4 := HU1.out.ownGe (g := w.heap.size + 1 + 1) (by omega) 4; have z5 := HU1.out.ownGe (g := w.heap.size + 1 + 1) (by omega) 5; have z6 := HU1.out.ownGe (g := w.heap.size + 1 + 1) (by omega) 6; have z7 := HU1.out.ownGe (g := w.heap.size + 1 + 1) (by omega) 7; have z8 := HU1.out.ownGe (g := w.heap.size + 1 + 1) (by omega) 8; have z9 := HU1.out.ownGe (g := w.heap.size + 1 + 1) (by omega) 9; have z10 := HU1.out.ownGe (g := w.heap.size + 1 + 1) (by omega) 10; have hlt : w.heap.size + 1 + 1 < w1.heap.size := World.block_lt_of_cell? _ _ r0; clear hu)
  refine (KA.out _ (HS.out.up HU1.out)).mono ?_
  rintro e w2 ⟨A2, k2, rfl, hN, hW, hv⟩
  have HN := Lib.hid (And.intro hN hW)
  have R0 := hv.keep _ _ _ r0
  have R1 := hv.keep _ _ _ r1
  have R2 := hv.keep _ _ _ r2
  have R3 := hv.keep _ _ _ r3
  have R4 := hv.keep _ _ _ r4
  have R5 := hv.keep _ _ _ r5
  have R6 := hv.keep _ _ _ r6
  have R7 := hv.keep _ _ _ r7
  have R8 := hv.keep _ _ _ r8
  have R9 := hv.keep _ _ _ r9
  have R10 := hv.keep _ _ _ r10
  have HU2 := Lib.hid (HU1.out.trans hv)
  have Z0 := HU2.out.ownGe (g := w.heap.size + 1 + 1) (by omega) 0
  have Z1 := HU2.out.ownGe (g := w.heap.size + 1 + 1) (by omega) 1
  have Z2 := HU2.out.ownGe (g := w.heap.size + 1 + 1) (by omega) 2
  have Z3 := HU2.out.ownGe (g := w.heap.size + 1 + 1) (by omega) 3
  have Z4 := HU2.out.ownGe (g := w.heap.size + 1 + 1) (by omega) 4
  have Z5 := HU2.out.ownGe (g := w.heap.size + 1 + 1) (by omega) 5
  have Z6 := HU2.out.ownGe (g := w.heap.size + 1 + 1) (by omega) 6
  have Z7 := HU2.out.ownGe (g := w.heap.size + 1 + 1) (by omega) 7
  have Z8 := HU2.out.ownGe (g := w.heap.size + 1 + 1) (by omega) 8
  have Z9 := HU2.out.ownGe (g := w.heap.size + 1 + 1) (by omega) 9
  have Z10 := HU2.out.ownGe (g := w.heap.size + 1 + 1) (by omega) 10
  clear hv hN hW r0 r1 r2 r3 r4 r5 r6 r7 r8 r9 r10 z0 z1 z2 z3 z4 z5 z6 z7 z8 z9 z10 s3 q0 q1 q2
  go_wp2_with fail
  refine bodyPost_ret (v := .tuple #[.agg #[.int .i64 N, .int .i64 D, .int .i64 N, .int .i64 D, .int .i64 N, .int .i64 D, .slice A2 m k2, .int .u64 0, .int .u64 0, .int .u64 0, .int .u64 0], .int .i64 e0]) (by simp [results, Tryz.results6, go_sem, R0, R1, R2, R3, R4, R5, R6, R7, R8, R9, R10]) rfl ⟨A2, k2, rfl, ?_, ?_⟩
  · exact HN.out.1.set11 (HN.out.2.off hlt)
  · exact HU2.out.set11 (by omega)

set_option maxHeartbeats 8000000 in
set_option maxRecDepth 100000 in
theorem ask9_8 (v c now a b : Int) (n k : Nat) (A : Option Addr) (L : List It) (hst : stB v c now L = true) (hb : b ≤ 9223372036854775807) {N D e0 : Int} {Vs : List Int} (h : (if askB a b = false then ((0 : Int), (0 : Int), ([] : List Int), (1 : Int)) else if (qnO L a b).isSome = true then (0, 0, [(qnO L a b).getD 0], 0) else (0, 0, [], 7)) = (N, D, Vs, e0)) (w : World) (hS : Sl w A n L) :
    Calls Tryz.prog 6 #[.agg #[.int .i64 v, .int .i64 c, .int .i64 now, .slice A n k], .agg #[.int .i64 8, .int .i64 a, .int .i64 b]] w fun e w' => ∃ A' k', e = .returned (.tuple #[.agg #[.int .i64 N, .int .i64 D, .int .i64 N, .int .i64 D, .int .i64 N, .int .i64 D, .slice A' Vs.length k', .int .u64 0, .int .u64 0, .int .u64 0, .int .u64 0], .int .i64 e0]) ∧ Sn w' A' Vs.length Vs ∧ Lo w w' := by
  have KV := Lib.hid (fun W (h : Sl W A n L) => validate9_up v c now n k A L W h)
  rw [stE_yes hst] at KV
  have HS := Lib.hid hS
  obtain ⟨hI, hl, hs⟩ := st_small hst
  have hn : n ≤ 65536 := by rw [← hS.1]; exact hl
  have KA := Lib.hid (fun W (g : Sl W A n L) => quantile9_lo n k A L a b hb (by omega) W g h)
  clear hS hst hI hl hs hn h
  generalize Vs.length = m at *
  go_enter Tryz.func6, Tryz.ntmps6
  go_wp2_with (go_at_call 11; (with_reducible refine (KV.out _ (HS.out.up ((((Up.refl w).alloc _ _).alloc _ _).alloc _ _))).mono ?_); rintro e w1 ⟨rfl, hu⟩; have HU1 := Lib.hid (((((Up.refl w).alloc #[.int .i64 v, .int .i64 c, .int .i64 now, .slice A n k] 24).alloc #[.int .i64 8, .int .i64 a, .int .i64 b] 26).alloc #[.int .i64 0, .int .i64 0, .int .i64 0, .int .i64 0, .int .i64 0, .int .i64 0, .slice none 0 0, .int .u64 0, .int .u64 0, .int .u64 0, .int .u64 0] 40).trans hu); have s3 := hu.keep w.heap.size 3 (.slice A n k) (by simp [go_sem]); have q0 := hu.keep (w.heap.size + 1) 0 (.int .i64 8) (by simp [go_sem]); have q1 := hu.keep (w.heap.size + 1) 1 (.int .i64 a) (by simp [go_sem]); have q2 := hu.keep (w.heap.size + 1) 2 (.int .i64 b) (by simp [go_sem]); have r0 := hu.keep (w.heap.size + 1 + 1) 0 (.int .i64 0) (by simp [go_sem]); have r1 := hu.keep (w.heap.size + 1 + 1) 1 (.int .i64 0) (by simp [go_sem]); have r2 := hu.keep (w.heap.size + 1 + 1) 2 (.int .i64 0) (by simp [go_sem]); have r3 := hu.keep (w.heap.size + 1 + 1) 3 (.int .i64 0) (by simp [go_sem]); have r4 := hu.keep (w.heap.size + 1 + 1) 4 (.int .i64 0) (by simp [go_sem]); have r5 := hu.keep (w.heap.size + 1 + 1) 5 (.int .i64 0) (by simp [go_sem]); have r6 := hu.keep (w.heap.size + 1 + 1) 6 (.slice none 0 0) (by simp [go_sem]); have r7 := hu.keep (w.heap.size + 1 + 1) 7 (.int .u64 0) (by simp [go_sem]); have r8 := hu.keep (w.heap.size + 1 + 1) 8 (.int .u64 0) (by simp [go_sem]); have r9 := hu.keep (w.heap.size + 1 + 1) 9 (.int .u64 0) (by simp [go_sem]); have r10 := hu.keep (w.heap.size + 1 + 1) 10 (.int .u64 0) (by simp [go_sem]); have z0 := HU1.out.ownGe (g := w.heap.size + 1 + 1) (by omega) 0; have z1 := HU1.out.ownGe (g := w.heap.size + 1 + 1) (by omega) 1; have z2 := HU1.out.ownGe (g := w.heap.size + 1 + 1) (by omega) 2; have z3 := HU1.out.ownGe (g := w.heap.size + 1 + 1) (by omega) 3; have z4 := HU1.out.ownGe (g := w.heap.size + 1 + 1) (by omega) 4; have z5 := HU1.out.ownGe (g := w.heap.size + 1 + 1) (by omega) 5; have z6 := HU1.out.ownGe (g := w.heap.size + 1 + 1) (by omega) 6; have z7 := HU1.out.ownGe (g := w.heap.size + 1 + 1) (by omega) 7; have z8 := HU1.out.ownGe (g := w.heap.size + 1 + 1) (by omega) 8; have z9 := HU1.out.ownGe (g := w.heap.size + 1 + 1) (by omega) 9; have z10 := HU1.out.ownGe (g := w.heap.size + 1 + 1) (by omega) 10; have hlt : w.heap.size + 1 + 1 < w1.heap.size := World.block_lt_of_cell? _ _ r0; clear hu)
  refine (KA.out _ (HS.out.up HU1.out)).mono ?_
  rintro e w2 ⟨A2, k2, rfl, hN, hW, hv⟩
  have HN := Lib.hid (And.intro hN hW)
  have R0 := hv.keep _ _ _ r0
  have R1 := hv.keep _ _ _ r1
  have R2 := hv.keep _ _ _ r2
  have R3 := hv.keep _ _ _ r3
  have R4 := hv.keep _ _ _ r4
  have R5 := hv.keep _ _ _ r5
  have R6 := hv.keep _ _ _ r6
  have R7 := hv.keep _ _ _ r7
  have R8 := hv.keep _ _ _ r8
  have R9 := hv.keep _ _ _ r9
  have R10 := hv.keep _ _ _ r10
  have HU2 : Hid (Lo w w2) := Lib.hid (Below.trans HU1.out.below (hv.mono HU1.out.size))
  have Z0 := (hv.frozen9 ⟨w.heap.size + 1 + 1, 0, none⟩ hlt).trans z0
  have Z1 := (hv.frozen9 ⟨w.heap.size + 1 + 1, 1, none⟩ hlt).trans z1
  have Z2 := (hv.frozen9 ⟨w.heap.size + 1 + 1, 2, none⟩ hlt).trans z2
  have Z3 := (hv.frozen9 ⟨w.heap.size + 1 + 1, 3, none⟩ hlt).trans z3
  have Z4 := (hv.frozen9 ⟨w.heap.size + 1 + 1, 4, none⟩ hlt).trans z4
  have Z5 := (hv.frozen9 ⟨w.heap.size + 1 + 1, 5, none⟩ hlt).trans z5
  have Z6 := (hv.frozen9 ⟨w.heap.size + 1 + 1, 6, none⟩ hlt).trans z6
  have Z7 := (hv.frozen9 ⟨w.heap.size + 1 + 1, 7, none⟩ hlt).trans z7
  have Z8 := (hv.frozen9 ⟨w.heap.size + 1 + 1, 8, none⟩ hlt).trans z8
  have Z9 := (hv.frozen9 ⟨w.heap.size + 1 + 1, 9, none⟩ hlt).trans z9
  have Z10 := (hv.frozen9 ⟨w.heap.size + 1 + 1, 10, none⟩ hlt).trans z10
  clear hv hN hW r0 r1 r2 r3 r4 r5 r6 r7 r8 r9 r10 z0 z1 z2 z3 z4 z5 z6 z7 z8 z9 z10 s3 q0 q1 q2
  go_wp2_with fail
  refine bodyPost_ret (v := .tuple #[.agg #[.int .i64 N, .int .i64 D, .int .i64 N, .int .i64 D, .int .i64 N, .int .i64 D, .slice A2 m k2, .int .u64 0, .int .u64 0, .int .u64 0, .int .u64 0], .int .i64 e0]) (by simp [results, Tryz.results6, go_sem, R0, R1, R2, R3, R4, R5, R6, R7, R8, R9, R10]) rfl ⟨A2, k2, rfl, ?_, ?_⟩
  · exact HN.out.1.set11 (HN.out.2.off hlt)
  · exact HU2.out.set11 (by omega)

theorem ask9_all (v c now o a b : Int) (n k : Nat) (A : Option Addr) (L : List It) (hb : b ≤ 9223372036854775807) {N D e0 : Int} {Vs : List Int} (h : askR v c now L o a b = (N, D, Vs, e0)) (w : World) (hS : Sl w A n L) :
    Calls Tryz.prog 6 #[.agg #[.int .i64 v, .int .i64 c, .int .i64 now, .slice A n k], .agg #[.int .i64 o, .int .i64 a, .int .i64 b]] w fun e w' => ∃ A' k', e = .returned (.tuple #[.agg #[.int .i64 N, .int .i64 D, .int .i64 N, .int .i64 D, .int .i64 N, .int .i64 D, .slice A' Vs.length k', .int .u64 0, .int .u64 0, .int .u64 0, .int .u64 0], .int .i64 e0]) ∧ Sn w' A' Vs.length Vs ∧ Lo w w' := by
  unfold askR at h
  by_cases hst : stB v c now L = false
  · rw [if_pos hst] at h
    cases h
    exact (ask9_bad v c now o a b n k A L hst w hS).mono (fun _ _ ⟨h1, h2⟩ => ⟨none, 0, h1, Sn.none_, Lo.of_up h2⟩)
  rw [if_neg hst] at h
  rw [Bool.not_eq_false] at hst
  by_cases h1 : o = 1
  · rw [if_pos h1] at h
    subst h1
    cases h
    exact (ask9_1 v c now a b n k A L hst w hS).mono (fun _ _ ⟨h1, h2⟩ => ⟨none, 0, h1, Sn.none_, Lo.of_up h2⟩)
  rw [if_neg h1] at h
  by_cases h2 : o = 2
  · rw [if_pos h2] at h
    subst h2
    cases h
    exact (ask9_2 v c now a b n k A L hst w hS).mono (fun _ _ ⟨h1, h2⟩ => ⟨none, 0, h1, Sn.none_, Lo.of_up h2⟩)
  rw [if_neg h2] at h
  by_cases h3 : o = 3
  · rw [if_pos h3] at h
    subst h3
    cases h
    exact (ask9_3 v c now a b n k A L hst w hS).mono (fun _ _ ⟨h1, h2⟩ => ⟨none, 0, h1, Sn.none_, Lo.of_up h2⟩)
  rw [if_neg h3] at h
  by_cases h4 : o = 4
  · rw [if_pos h4] at h
    subst h4
    cases h
    exact (ask9_4 v c now a b n k A L hst w hS).mono (fun _ _ ⟨h1, h2⟩ => ⟨none, 0, h1, Sn.none_, Lo.of_up h2⟩)
  rw [if_neg h4] at h
  by_cases h5 : o = 5
  · rw [if_pos h5] at h
    subst h5
    cases h
    exact (ask9_5 v c now a b n k A L hst w hS).mono (fun _ _ ⟨h1, h2⟩ => ⟨none, 0, h1, Sn.none_, Lo.of_up h2⟩)
  rw [if_neg h5] at h
  by_cases h6 : o = 6
  · rw [if_pos h6] at h
    subst h6
    exact (ask9_6 v c now a b n k A L hst h w hS).mono (fun _ _ ⟨A1, k1, h1, h2, h3⟩ => ⟨A1, k1, h1, h2, Lo.of_up h3⟩)
  rw [if_neg h6] at h
  by_cases h7 : o = 7
  · rw [if_pos h7] at h
    subst h7
    cases h
    exact (ask9_7 v c now a b n k A L hst w hS).mono (fun _ _ ⟨h1, h2⟩ => ⟨none, 0, h1, Sn.none_, Lo.of_up h2⟩)
  rw [if_neg h7] at h
  by_cases h8 : o = 8
  · rw [if_pos h8] at h
    subst h8
    exact ask9_8 v c now a b n k A L hst hb h w hS
  rw [if_neg h8] at h
  cases h
  exact (ask9_other v c now o a b n k A L hst (by omega) w hS).mono (fun _ _ ⟨h1, h2⟩ => ⟨none, 0, h1, Sn.none_, Lo.of_up h2⟩)
end Go.Proofs.YtflahclphdlolaaGreat
