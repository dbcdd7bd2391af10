/- Texts of this claim, one after the other. -/
import Derived.Test.YtflahclphdlolaaGreatZEQnt
import Derived.Test.YtflahclphdlolaaGreatZERSpr
import Derived.Test.YtflahclphdlolaaGreatZESort
import Derived.Test.YtflahclphdlolaaGreatZESpread
import Derived.Test.YtflahclphdlolaaGreatZESq
import Derived.Test.YtflahclphdlolaaGreatZETot2
import Derived.Test.YtflahclphdlolaaGreatZETotal
import Derived.Test.YtflahclphdlolaaGreatZEWords
import Derived.Test.YtflahclphdlolaaGreatZFAskM
import Derived.Test.YtflahclphdlolaaGreatZFBase
import Derived.Test.YtflahclphdlolaaGreatZFExt
import Derived.Test.YtflahclphdlolaaGreatZFNum
import Derived.Test.YtflahclphdlolaaGreatZG0a
import Derived.Test.YtflahclphdlolaaGreatZG2a
import Derived.Test.YtflahclphdlolaaGreatZG4a
import Derived.Test.YtflahclphdlolaaGreatZG5a
import Derived.Test.YtflahclphdlolaaGreatZJFVal
import Derived.Test.YtflahclphdlolaaGreatZJRQuo
import Derived.Test.YtflahclphdlolaaGreatZRMake
/- What Ask of the reference of package recent returns. -/
namespace Go.Proofs.YtflahclphdlolaaGreat
open Go.RowKit

set_option maxHeartbeats 8000000 in
set_option maxRecDepth 100000 in
theorem rspread9_up (n : Nat) (L : List It) (hl : L.length = n) (hn : n ≤ 65536) (hs : smallI L) (w : World) :
    Calls Tryz.prog 28 #[.int .i64 n, .int .i64 (smZ L), .int .i64 (sqZ L)] w fun e w' => e = .returned (.agg #[.int .i64 (sprN L), .int .i64 (sprD L)]) ∧ Up w w' := by
  have hd := dv_bound hs (by omega)
  have hsm := sm_bound hs
  have hsq := sq_bound hs
  have b1 : 0 ≤ (n : Int) * sqZ L ∧ (n : Int) * sqZ L ≤ 72057594037927936 := ⟨Int.mul_nonneg (by omega) hsq.1, Int.le_trans (Int.mul_le_mul (show (n : Int) ≤ 65536 by omega) (show sqZ L ≤ 1099511627776 by omega) hsq.1 (by omega)) (by decide)⟩
  have ep : (n : Int) * sqZ L - smZ L * smZ L = dvZ L := by unfold dvZ; rw [hl]
  have hmx : In (max (n : Int) 1) := by unfold In; omega
  have KM := Lib.hid (fun W => rmake_up (dvZ L) (max (n : Int) 1) (by unfold In; omega) hmx W)
  have eN : quoN (dvZ L) (max (n : Int) 1) = sprN L ∧ quoD (dvZ L) (max (n : Int) 1) = sprD L := by
    by_cases he : L = []
    · subst he
      obtain rfl : n = 0 := hl.symm
      unfold sprN sprD
      rw [if_pos rfl, if_pos rfl, dvZ_nil]
      exact ⟨quo_0_1.1, quo_0_1.2.1⟩
    · unfold sprN sprD
      rw [if_neg he, if_neg he]
      have : 0 < L.length := List.length_pos_iff.2 he
      rw [show max (n : Int) 1 = (L.length : Int) by omega]
      exact ⟨rfl, rfl⟩
  rw [eN.1, eN.2] at KM
  unfold gotR at KM
  generalize quoB (dvZ L) (max (n : Int) 1) = qb at *
  generalize sprN L = x at *
  generalize sprD L = y at *
  have k1 : IntKind.i64.wrap ((n : Int) * sqZ L) = (n : Int) * sqZ L := IntWalk.i64_in _ (by omega)
  have k2 : IntKind.i64.wrap (smZ L * smZ L) = smZ L * smZ L := IntWalk.i64_in _ (by omega)
  have k3 : IntKind.i64.wrap (dvZ L) = dvZ L := IntWalk.i64_in _ (by omega)
  clear eN hmx hl hs
  generalize smZ L = s at *
  generalize sqZ L = q at *
  generalize dvZ L = p at *
  clear hd hsm hsq b1
  go_enter Tryz.func28, Tryz.ntmps28
  go_wp2_with fail
  refine (KM.out _).mono ?_
  rintro e w1 ⟨rfl, hu1⟩
  have r0' := hu1.keep w.heap.size 0 (.int .i64 0) (by simp [go_sem])
  have r1' := hu1.keep w.heap.size 1 (.int .i64 0) (by simp [go_sem])
  have HU := Lib.hid (((Up.refl w).alloc #[.int .i64 0, .int .i64 0] 30).trans hu1)
  have z0' := HU.out.ownGe (Nat.le_refl w.heap.size) 0
  have z1' := HU.out.ownGe (Nat.le_refl w.heap.size) 1
  have lw : w.heap.size < w1.heap.size := World.block_lt_of_cell? _ _ r0'
  clear hu1
  go_wp2_with fail
  refine bodyPost_ret (v := .agg #[.int .i64 x, .int .i64 y]) (by simp [results, Tryz.results28, go_sem, r0', r1', lw]) rfl ⟨?_, ?_⟩
  · rfl
  · ((repeat (first | (with_reducible exact Up.refl _) | (with_reducible exact HU.out) | (with_reducible refine Up.alloc ?_ _ _) | (with_reducible refine Up.setCell ?_ ?_ _) | (with_reducible refine Up.drewN ?_ _) | (with_reducible refine Up.drew ?_))); all_goals (first | (simp; done) | (simp; omega) | omega))

set_option maxHeartbeats 8000000 in
set_option maxRecDepth 100000 in
theorem rask9_bad (v c now o a b : Int) (n k : Nat) (A : Option Addr) (L : List It) (hst : stB v c now L = false) (w : World) (hS : Sl w A n L) :
    Calls Tryz.prog 7 #[.agg #[.int .i64 v, .int .i64 c, .int .i64 now, .slice A n k], .agg #[.int .i64 o, .int .i64 a, .int .i64 b]] w fun e w' => e = .returned (.tuple #[.agg #[.int .i64 0, .int .i64 0, .int .i64 0, .int .i64 0, .int .i64 0, .int .i64 0, .slice none 0 0, .int .u64 0, .int .u64 0, .int .u64 0, .int .u64 0], .int .i64 2]) ∧ Up w w' := by
  have KV := Lib.hid (fun W (h : Sl W A n L) => rvalidate9_up v c now n k A L W h)
  rw [stE_no hst] at KV
  have HS := Lib.hid hS
  clear hS hst
  go_enter Tryz.func7, Tryz.ntmps7
  go_wp2_with (go_at_call 22; (with_reducible refine (KV.out _ (HS.out.up ((((Up.refl w).alloc _ _).alloc _ _).alloc _ _))).mono ?_); rintro e w1 ⟨rfl, hu⟩; have HU1 := Lib.hid (((((Up.refl w).alloc #[.int .i64 v, .int .i64 c, .int .i64 now, .slice A n k] 24).alloc #[.int .i64 o, .int .i64 a, .int .i64 b] 26).alloc #[.int .i64 0, .int .i64 0, .int .i64 0, .int .i64 0, .int .i64 0, .int .i64 0, .slice none 0 0, .int .u64 0, .int .u64 0, .int .u64 0, .int .u64 0] 40).trans hu); have s3 := hu.keep w.heap.size 3 (.slice A n k) (by simp [go_sem]); have q0 := hu.keep (w.heap.size + 1) 0 (.int .i64 o) (by simp [go_sem]); have q1 := hu.keep (w.heap.size + 1) 1 (.int .i64 a) (by simp [go_sem]); have q2 := hu.keep (w.heap.size + 1) 2 (.int .i64 b) (by simp [go_sem]); have r0 := hu.keep (w.heap.size + 1 + 1) 0 (.int .i64 0) (by simp [go_sem]); have r1 := hu.keep (w.heap.size + 1 + 1) 1 (.int .i64 0) (by simp [go_sem]); have r2 := hu.keep (w.heap.size + 1 + 1) 2 (.int .i64 0) (by simp [go_sem]); have r3 := hu.keep (w.heap.size + 1 + 1) 3 (.int .i64 0) (by simp [go_sem]); have r4 := hu.keep (w.heap.size + 1 + 1) 4 (.int .i64 0) (by simp [go_sem]); have r5 := hu.keep (w.heap.size + 1 + 1) 5 (.int .i64 0) (by simp [go_sem]); have r6 := hu.keep (w.heap.size + 1 + 1) 6 (.slice none 0 0) (by simp [go_sem]); have r7 := hu.keep (w.heap.size + 1 + 1) 7 (.int .u64 0) (by simp [go_sem]); have r8 := hu.keep (w.heap.size + 1 + 1) 8 (.int .u64 0) (by simp [go_sem]); have r9 := hu.keep (w.heap.size + 1 + 1) 9 (.int .u64 0) (by simp [go_sem]); have r10 := hu.keep (w.heap.size + 1 + 1) 10 (.int .u64 0) (by simp [go_sem]); have z0 := HU1.out.ownGe (g := w.heap.size + 1 + 1) (by omega) 0; have z1 := HU1.out.ownGe (g := w.heap.size + 1 + 1) (by omega) 1; have z2 := HU1.out.ownGe (g := w.heap.size + 1 + 1) (by omega) 2; have z3 := HU1.out.ownGe (g := w.heap.size + 1 + 1) (by omega) 3; have z4 := HU1.out.ownGe (g := w.heap.size + 1 + 1) (by omega) 4; have z5 := HU1.out.ownGe (g := w.heap.size + 1 + 1) (by omega) 5; have z6 := HU1.out.ownGe (g := w.heap.size + 1 + 1) (by omega) 6; have z7 := HU1.out.ownGe (g := w.heap.size + 1 + 1) (by omega) 7; have z8 := HU1.out.ownGe (g := w.heap.size + 1 + 1) (by omega) 8; have z9 := HU1.out.ownGe (g := w.heap.size + 1 + 1) (by omega) 9; have z10 := HU1.out.ownGe (g := w.heap.size + 1 + 1) (by omega) 10; have hlt : w.heap.size + 1 + 1 < w1.heap.size := World.block_lt_of_cell? _ _ r0; clear hu)
  refine bodyPost_ret (v := .tuple #[.agg #[.int .i64 0, .int .i64 0, .int .i64 0, .int .i64 0, .int .i64 0, .int .i64 0, .slice none 0 0, .int .u64 0, .int .u64 0, .int .u64 0, .int .u64 0], .int .i64 2]) (by simp [results, Tryz.results7, go_sem, r0, r1, r2, r3, r4, r5, r6, r7, r8, r9, r10]) rfl ⟨rfl, ?_⟩
  exact HU1.out.set11 (by omega)

set_option maxHeartbeats 8000000 in
set_option maxRecDepth 100000 in
theorem rask9_1 (v c now a b : Int) (n k : Nat) (A : Option Addr) (L : List It) (hst : stB v c now L = true)  (w : World) (hS : Sl w A n L) :
    Calls Tryz.prog 7 #[.agg #[.int .i64 v, .int .i64 c, .int .i64 now, .slice A n k], .agg #[.int .i64 1, .int .i64 a, .int .i64 b]] w fun e w' => e = .returned (.tuple #[.agg #[.int .i64 (L.length : Int), .int .i64 1, .int .i64 (L.length : Int), .int .i64 1, .int .i64 (L.length : Int), .int .i64 1, .slice none 0 0, .int .u64 0, .int .u64 0, .int .u64 0, .int .u64 0], .int .i64 0]) ∧ Up w w' := by
  have KV := Lib.hid (fun W (h : Sl W A n L) => rvalidate9_up v c now n k A L W h)
  rw [stE_yes hst] at KV
  have HS := Lib.hid hS
  obtain ⟨hI, hl, hs⟩ := st_small hst
  have hn : n ≤ 65536 := by rw [← hS.1]; exact hl
  have KE := Lib.hid (fun W (h : Sl W A n L) => rleast_up n k A L (by omega) W h)
  have KG := Lib.hid (fun W (h : Sl W A n L) => rgreatest_up n k A L (by omega) W h)
  have KS := Lib.hid (fun W (h : Sl W A n L) => rsum_up n k A L (by omega) hI W h)
  have KQ := Lib.hid (fun W (h : Sl W A n L) => rsquaresE_up n k A L (by omega) hI W h)
  have hsm : In (smZ L) := by have := sm_bound hs; unfold In; omega
  have hsq : In (sqZ L) := by have := sq_bound hs; unfold In; omega
  rw [leE_V] at KE
  rw [grE_V] at KG
  rw [fit_yes hsm, fits_yes hsm] at KS
  rw [fit_yes hsq, fits_yes hsq] at KQ
  unfold got at KE KG KS KQ
  obtain ⟨x1, x2, x3, x4⟩ := ext_in hs
  have KW := Lib.hid (fun W => whole8_up (n : Int) (by unfold In; omega) W)
  rw [show (L.length : Int) = n by rw [hS.1]]
  clear hS hst hI hl hs hn hsm hsq
  generalize leV L = lo at *
  generalize grV L = hi at *
  generalize smZ L = sm at *
  generalize sqZ L = sq at *
  generalize decide (L ≠ []) = ne at *
  go_enter Tryz.func7, Tryz.ntmps7
  go_wp2_with (go_at_call 22; (with_reducible refine (KV.out _ (HS.out.up ((((Up.refl w).alloc _ _).alloc _ _).alloc _ _))).mono ?_); rintro e w1 ⟨rfl, hu⟩; have HU1 := Lib.hid (((((Up.refl w).alloc #[.int .i64 v, .int .i64 c, .int .i64 now, .slice A n k] 24).alloc #[.int .i64 1, .int .i64 a, .int .i64 b] 26).alloc #[.int .i64 0, .int .i64 0, .int .i64 0, .int .i64 0, .int .i64 0, .int .i64 0, .slice none 0 0, .int .u64 0, .int .u64 0, .int .u64 0, .int .u64 0] 40).trans hu); have s3 := hu.keep w.heap.size 3 (.slice A n k) (by simp [go_sem]); have q0 := hu.keep (w.heap.size + 1) 0 (.int .i64 1) (by simp [go_sem]); have q1 := hu.keep (w.heap.size + 1) 1 (.int .i64 a) (by simp [go_sem]); have q2 := hu.keep (w.heap.size + 1) 2 (.int .i64 b) (by simp [go_sem]); have r0 := hu.keep (w.heap.size + 1 + 1) 0 (.int .i64 0) (by simp [go_sem]); have r1 := hu.keep (w.heap.size + 1 + 1) 1 (.int .i64 0) (by simp [go_sem]); have r2 := hu.keep (w.heap.size + 1 + 1) 2 (.int .i64 0) (by simp [go_sem]); have r3 := hu.keep (w.heap.size + 1 + 1) 3 (.int .i64 0) (by simp [go_sem]); have r4 := hu.keep (w.heap.size + 1 + 1) 4 (.int .i64 0) (by simp [go_sem]); have r5 := hu.keep (w.heap.size + 1 + 1) 5 (.int .i64 0) (by simp [go_sem]); have r6 := hu.keep (w.heap.size + 1 + 1) 6 (.slice none 0 0) (by simp [go_sem]); have r7 := hu.keep (w.heap.size + 1 + 1) 7 (.int .u64 0) (by simp [go_sem]); have r8 := hu.keep (w.heap.size + 1 + 1) 8 (.int .u64 0) (by simp [go_sem]); have r9 := hu.keep (w.heap.size + 1 + 1) 9 (.int .u64 0) (by simp [go_sem]); have r10 := hu.keep (w.heap.size + 1 + 1) 10 (.int .u64 0) (by simp [go_sem]); have z0 := HU1.out.ownGe (g := w.heap.size + 1 + 1) (by omega) 0; have z1 := HU1.out.ownGe (g := w.heap.size + 1 + 1) (by omega) 1; have z2 := HU1.out.ownGe (g := w.heap.size + 1 + 1) (by omega) 2; have z3 := HU1.out.ownGe (g := w.heap.size + 1 + 1) (by omega) 3; have z4 := HU1.out.ownGe (g := w.heap.size + 1 + 1) (by omega) 4; have z5 := HU1.out.ownGe (g := w.heap.size + 1 + 1) (by omega) 5; have z6 := HU1.out.ownGe (g := w.heap.size + 1 + 1) (by omega) 6; have z7 := HU1.out.ownGe (g := w.heap.size + 1 + 1) (by omega) 7; have z8 := HU1.out.ownGe (g := w.heap.size + 1 + 1) (by omega) 8; have z9 := HU1.out.ownGe (g := w.heap.size + 1 + 1) (by omega) 9; have z10 := HU1.out.ownGe (g := w.heap.size + 1 + 1) (by omega) 10; have hlt : w.heap.size + 1 + 1 < w1.heap.size := World.block_lt_of_cell? _ _ r0; clear hu)
  have H0 := Lib.hid r0
  have H1 := Lib.hid r1
  have H2 := Lib.hid r2
  have H3 := Lib.hid r3
  have H4 := Lib.hid r4
  have H5 := Lib.hid r5
  have H6 := Lib.hid r6
  have H7 := Lib.hid r7
  have H8 := Lib.hid r8
  have H9 := Lib.hid r9
  have H10 := Lib.hid r10
  have HQ0 := Lib.hid q0
  have HQ1 := Lib.hid q1
  have HQ2 := Lib.hid q2
  clear q0 q1 q2 r0 r1 r2 r3 r4 r5 r6 r7 r8 r9 r10 z0 z1 z2 z3 z4 z5 z6 z7 z8 z9 z10
  have HS3 := Lib.hid s3
  clear s3
  refine (KE.out _ (HS.out.up HU1.out)).mono ?_
  rintro e w2 ⟨rfl, hu2⟩
  have hv2 := hu2
  have t3_2 := hv2.keep _ _ _ HS3.out
  go_wp2_with fail
  clear t3_2
  refine (KG.out _ (HS.out.up (HU1.out.trans hv2))).mono ?_
  rintro e w3 ⟨rfl, hu3⟩
  have hv3 := hv2.trans hu3
  have t3_3 := hv3.keep _ _ _ HS3.out
  go_wp2_with fail
  clear t3_3
  refine (KS.out _ (HS.out.up (HU1.out.trans hv3))).mono ?_
  rintro e w4 ⟨rfl, hu4⟩
  have hv4 := hv3.trans hu4
  have t3_4 := hv4.keep _ _ _ HS3.out
  go_wp2_with fail
  clear t3_4
  refine (KQ.out _ (HS.out.up (HU1.out.trans hv4))).mono ?_
  rintro e w5 ⟨rfl, hu5⟩
  have hv5 := hv4.trans hu5
  have HU5 := Lib.hid (HU1.out.trans hv5)
  have s3_ := hv5.keep _ _ _ HS3.out
  have q0_ := hv5.keep _ _ _ HQ0.out
  have q1_ := hv5.keep _ _ _ HQ1.out
  have q2_ := hv5.keep _ _ _ HQ2.out
  have r0_ := hv5.keep _ _ _ H0.out
  have r1_ := hv5.keep _ _ _ H1.out
  have r2_ := hv5.keep _ _ _ H2.out
  have r3_ := hv5.keep _ _ _ H3.out
  have r4_ := hv5.keep _ _ _ H4.out
  have r5_ := hv5.keep _ _ _ H5.out
  have r6_ := hv5.keep _ _ _ H6.out
  have r7_ := hv5.keep _ _ _ H7.out
  have r8_ := hv5.keep _ _ _ H8.out
  have r9_ := hv5.keep _ _ _ H9.out
  have r10_ := hv5.keep _ _ _ H10.out
  have z0_ := HU5.out.ownGe (g := w.heap.size + 1 + 1) (by omega) 0
  have z1_ := HU5.out.ownGe (g := w.heap.size + 1 + 1) (by omega) 1
  have z2_ := HU5.out.ownGe (g := w.heap.size + 1 + 1) (by omega) 2
  have z3_ := HU5.out.ownGe (g := w.heap.size + 1 + 1) (by omega) 3
  have z4_ := HU5.out.ownGe (g := w.heap.size + 1 + 1) (by omega) 4
  have z5_ := HU5.out.ownGe (g := w.heap.size + 1 + 1) (by omega) 5
  have z6_ := HU5.out.ownGe (g := w.heap.size + 1 + 1) (by omega) 6
  have z7_ := HU5.out.ownGe (g := w.heap.size + 1 + 1) (by omega) 7
  have z8_ := HU5.out.ownGe (g := w.heap.size + 1 + 1) (by omega) 8
  have z9_ := HU5.out.ownGe (g := w.heap.size + 1 + 1) (by omega) 9
  have z10_ := HU5.out.ownGe (g := w.heap.size + 1 + 1) (by omega) 10
  have hlt5 : w.heap.size + 1 + 1 < w5.heap.size := World.block_lt_of_cell? _ _ r0_
  clear hu2 hu3 hu4 hu5 hv2 hv3 hv4 hv5 HS3 HQ0 HQ1 HQ2 H0 H1 H2 H3 H4 H5 H6 H7 H8 H9 H10
  go_wp2_with fail
  refine (KW.out _).mono ?_
  rintro e w6 ⟨rfl, hw⟩
  have HU6 := Lib.hid (HU5.out.trans hw)
  have R0 := hw.keep _ _ _ r0_
  have R1 := hw.keep _ _ _ r1_
  have R2 := hw.keep _ _ _ r2_
  have R3 := hw.keep _ _ _ r3_
  have R4 := hw.keep _ _ _ r4_
  have R5 := hw.keep _ _ _ r5_
  have R6 := hw.keep _ _ _ r6_
  have R7 := hw.keep _ _ _ r7_
  have R8 := hw.keep _ _ _ r8_
  have R9 := hw.keep _ _ _ r9_
  have R10 := hw.keep _ _ _ r10_
  have Z0 := HU6.out.ownGe (g := w.heap.size + 1 + 1) (by omega) 0
  have Z1 := HU6.out.ownGe (g := w.heap.size + 1 + 1) (by omega) 1
  have Z2 := HU6.out.ownGe (g := w.heap.size + 1 + 1) (by omega) 2
  have Z3 := HU6.out.ownGe (g := w.heap.size + 1 + 1) (by omega) 3
  have Z4 := HU6.out.ownGe (g := w.heap.size + 1 + 1) (by omega) 4
  have Z5 := HU6.out.ownGe (g := w.heap.size + 1 + 1) (by omega) 5
  have Z6 := HU6.out.ownGe (g := w.heap.size + 1 + 1) (by omega) 6
  have Z7 := HU6.out.ownGe (g := w.heap.size + 1 + 1) (by omega) 7
  have Z8 := HU6.out.ownGe (g := w.heap.size + 1 + 1) (by omega) 8
  have Z9 := HU6.out.ownGe (g := w.heap.size + 1 + 1) (by omega) 9
  have Z10 := HU6.out.ownGe (g := w.heap.size + 1 + 1) (by omega) 10
  clear r0_ r1_ r2_ r3_ r4_ r5_ r6_ r7_ r8_ r9_ r10_ z0_ z1_ z2_ z3_ z4_ z5_ z6_ z7_ z8_ z9_ z10_ s3_ q0_ q1_ q2_ hw
  go_wp2_with fail
  refine bodyPost_ret (v := .tuple #[.agg #[.int .i64 (n : Int), .int .i64 1, .int .i64 (n : Int), .int .i64 1, .int .i64 (n : Int), .int .i64 1, .slice none 0 0, .int .u64 0, .int .u64 0, .int .u64 0, .int .u64 0], .int .i64 0]) (by simp [results, Tryz.results7, go_sem, R0, R1, R2, R3, R4, R5, R6, R7, R8, R9, R10]) rfl ⟨rfl, ?_⟩
  exact HU6.out.set11 (by omega)

set_option maxHeartbeats 8000000 in
set_option maxRecDepth 100000 in
theorem rask9_2 (v c now a b : Int) (n k : Nat) (A : Option Addr) (L : List It) (hst : stB v c now L = true)  (w : World) (hS : Sl w A n L) :
    Calls Tryz.prog 7 #[.agg #[.int .i64 v, .int .i64 c, .int .i64 now, .slice A n k], .agg #[.int .i64 2, .int .i64 a, .int .i64 b]] w fun e w' => e = .returned (.tuple #[.agg #[.int .i64 (smZ L), .int .i64 1, .int .i64 (smZ L), .int .i64 1, .int .i64 (smZ L), .int .i64 1, .slice none 0 0, .int .u64 0, .int .u64 0, .int .u64 0, .int .u64 0], .int .i64 0]) ∧ Up w w' := by
  have KV := Lib.hid (fun W (h : Sl W A n L) => rvalidate9_up v c now n k A L W h)
  rw [stE_yes hst] at KV
  have HS := Lib.hid hS
  obtain ⟨hI, hl, hs⟩ := st_small hst
  have hn : n ≤ 65536 := by rw [← hS.1]; exact hl
  have KE := Lib.hid (fun W (h : Sl W A n L) => rleast_up n k A L (by omega) W h)
  have KG := Lib.hid (fun W (h : Sl W A n L) => rgreatest_up n k A L (by omega) W h)
  have KS := Lib.hid (fun W (h : Sl W A n L) => rsum_up n k A L (by omega) hI W h)
  have KQ := Lib.hid (fun W (h : Sl W A n L) => rsquaresE_up n k A L (by omega) hI W h)
  have hsm : In (smZ L) := by have := sm_bound hs; unfold In; omega
  have hsq : In (sqZ L) := by have := sq_bound hs; unfold In; omega
  rw [leE_V] at KE
  rw [grE_V] at KG
  rw [fit_yes hsm, fits_yes hsm] at KS
  rw [fit_yes hsq, fits_yes hsq] at KQ
  unfold got at KE KG KS KQ
  obtain ⟨x1, x2, x3, x4⟩ := ext_in hs
  have KW := Lib.hid (fun W => whole8_up (smZ L) hsm W)
  clear hS hst hI hl hs hn hsm hsq
  generalize leV L = lo at *
  generalize grV L = hi at *
  generalize smZ L = sm at *
  generalize sqZ L = sq at *
  generalize decide (L ≠ []) = ne at *
  go_enter Tryz.func7, Tryz.ntmps7
  go_wp2_with (go_at_call 22; (with_reducible refine (KV.out _ (HS.out.up ((((Up.refl w).alloc _ _).alloc _ _).alloc _ _))).mono ?_); rintro e w1 ⟨rfl, hu⟩; have HU1 := Lib.hid (((((Up.refl w).alloc #[.int .i64 v, .int .i64 c, .int .i64 now, .slice A n k] 24).alloc #[.int .i64 2, .int .i64 a, .int .i64 b] 26).alloc #[.int .i64 0, .int .i64 0, .int .i64 0, .int .i64 0, .int .i64 0, .int .i64 0, .slice none 0 0, .int .u64 0, .int .u64 0, .int .u64 0, .int .u64 0] 40).trans hu); have s3 := hu.keep w.heap.size 3 (.slice A n k) (by simp [go_sem]); have q0 := hu.keep (w.heap.size + 1) 0 (.int .i64 2) (by simp [go_sem]); have q1 := hu.keep (w.heap.size + 1) 1 (.int .i64 a) (by simp [go_sem]); have q2 := hu.keep (w.heap.size + 1) 2 (.int .i64 b) (by simp [go_sem]); have r0 := hu.keep (w.heap.size + 1 + 1) 0 (.int .i64 0) (by simp [go_sem]); have r1 := hu.keep (w.heap.size + 1 + 1) 1 (.int .i64 0) (by simp [go_sem]); have r2 := hu.keep (w.heap.size + 1 + 1) 2 (.int .i64 0) (by simp [go_sem]); have r3 := hu.keep (w.heap.size + 1 + 1) 3 (.int .i64 0) (by simp [go_sem]); have r4 := hu.keep (w.heap.size + 1 + 1) 4 (.int .i64 0) (by simp [go_sem]); have r5 := hu.keep (w.heap.size + 1 + 1) 5 (.int .i64 0) (by simp [go_sem]); have r6 := hu.keep (w.heap.size + 1 + 1) 6 (.slice none 0 0) (by simp [go_sem]); have r7 := hu.keep (w.heap.size + 1 + 1) 7 (.int .u64 0) (by simp [go_sem]); have r8 := hu.keep (w.heap.size + 1 + 1) 8 (.int .u64 0) (by simp [go_sem]); have r9 := hu.keep (w.heap.size + 1 + 1) 9 (.int .u64 0) (by simp [go_sem]); have r10 := hu.keep (w.heap.size + 1 + 1) 10 (.int .u64 0) (by simp [go_sem]); have z0 := HU1.out.ownGe (g := w.heap.size + 1 + 1) (by omega) 0; have z1 := HU1.out.ownGe (g := w.heap.size + 1 + 1) (by omega) 1; have z2 := HU1.out.ownGe (g := w.heap.size + 1 + 1) (by omega) 2; have z3 := HU1.out.ownGe (g := w.heap.size + 1 + 1) (by omega) 3; have z4 := HU1.out.ownGe (g := w.heap.size + 1 + 1) (by omega) 4; have z5 := HU1.out.ownGe (g := w.heap.size + 1 + 1) (by omega) 5; have z6 := HU1.out.ownGe (g := w.heap.size + 1 + 1) (by omega) 6; have z7 := HU1.out.ownGe (g := w.heap.size + 1 + 1) (by omega) 7; have z8 := HU1.out.ownGe (g := w.heap.size + 1 + 1) (by omega) 8; have z9 := HU1.out.ownGe (g := w.heap.size + 1 + 1) (by omega) 9; have z10 := HU1.out.ownGe (g := w.heap.size + 1 + 1) (by omega) 10; have hlt : w.heap.size + 1 + 1 < w1.heap.size := World.block_lt_of_cell? _ _ r0; clear hu)
  have H0 := Lib.hid r0
  have H1 := Lib.hid r1
  have H2 := Lib.hid r2
  have H3 := Lib.hid r3
  have H4 := Lib.hid r4
  have H5 := Lib.hid r5
  have H6 := Lib.hid r6
  have H7 := Lib.hid r7
  have H8 := Lib.hid r8
  have H9 := Lib.hid r9
  have H10 := Lib.hid r10
  have HQ0 := Lib.hid q0
  have HQ1 := Lib.hid q1
  have HQ2 := Lib.hid q2
  clear q0 q1 q2 r0 r1 r2 r3 r4 r5 r6 r7 r8 r9 r10 z0 z1 z2 z3 z4 z5 z6 z7 z8 z9 z10
  have HS3 := Lib.hid s3
  clear s3
  refine (KE.out _ (HS.out.up HU1.out)).mono ?_
  rintro e w2 ⟨rfl, hu2⟩
  have hv2 := hu2
  have t3_2 := hv2.keep _ _ _ HS3.out
  go_wp2_with fail
  clear t3_2
  refine (KG.out _ (HS.out.up (HU1.out.trans hv2))).mono ?_
  rintro e w3 ⟨rfl, hu3⟩
  have hv3 := hv2.trans hu3
  have t3_3 := hv3.keep _ _ _ HS3.out
  go_wp2_with fail
  clear t3_3
  refine (KS.out _ (HS.out.up (HU1.out.trans hv3))).mono ?_
  rintro e w4 ⟨rfl, hu4⟩
  have hv4 := hv3.trans hu4
  have t3_4 := hv4.keep _ _ _ HS3.out
  go_wp2_with fail
  clear t3_4
  refine (KQ.out _ (HS.out.up (HU1.out.trans hv4))).mono ?_
  rintro e w5 ⟨rfl, hu5⟩
  have hv5 := hv4.trans hu5
  have HU5 := Lib.hid (HU1.out.trans hv5)
  have s3_ := hv5.keep _ _ _ HS3.out
  have q0_ := hv5.keep _ _ _ HQ0.out
  have q1_ := hv5.keep _ _ _ HQ1.out
  have q2_ := hv5.keep _ _ _ HQ2.out
  have r0_ := hv5.keep _ _ _ H0.out
  have r1_ := hv5.keep _ _ _ H1.out
  have r2_ := hv5.keep _ _ _ H2.out
  have r3_ := hv5.keep _ _ _ H3.out
  have r4_ := hv5.keep _ _ _ H4.out
  have r5_ := hv5.keep _ _ _ H5.out
  have r6_ := hv5.keep _ _ _ H6.out
  have r7_ := hv5.keep _ _ _ H7.out
  have r8_ := hv5.keep _ _ _ H8.out
  have r9_ := hv5.keep _ _ _ H9.out
  have r10_ := hv5.keep _ _ _ H10.out
  have z0_ := HU5.out.ownGe (g := w.heap.size + 1 + 1) (by omega) 0
  have z1_ := HU5.out.ownGe (g := w.heap.size + 1 + 1) (by omega) 1
  have z2_ := HU5.out.ownGe (g := w.heap.size + 1 + 1) (by omega) 2
  have z3_ := HU5.out.ownGe (g := w.heap.size + 1 + 1) (by omega) 3
  have z4_ := HU5.out.ownGe (g := w.heap.size + 1 + 1) (by omega) 4
  have z5_ := HU5.out.ownGe (g := w.heap.size + 1 + 1) (by omega) 5
  have z6_ := HU5.out.ownGe (g := w.heap.size + 1 + 1) (by omega) 6
  have z7_ := HU5.out.ownGe (g := w.heap.size + 1 + 1) (by omega) 7
  have z8_ := HU5.out.ownGe (g := w.heap.size + 1 + 1) (by omega) 8
  have z9_ := HU5.out.ownGe (g := w.heap.size + 1 + 1) (by omega) 9
  have z10_ := HU5.out.ownGe (g := w.heap.size + 1 + 1) (by omega) 10
  have hlt5 : w.heap.size + 1 + 1 < w5.heap.size := World.block_lt_of_cell? _ _ r0_
  clear hu2 hu3 hu4 hu5 hv2 hv3 hv4 hv5 HS3 HQ0 HQ1 HQ2 H0 H1 H2 H3 H4 H5 H6 H7 H8 H9 H10
  go_wp2_with fail
  refine (KW.out _).mono ?_
  rintro e w6 ⟨rfl, hw⟩
  have HU6 := Lib.hid (HU5.out.trans hw)
  have R0 := hw.keep _ _ _ r0_
  have R1 := hw.keep _ _ _ r1_
  have R2 := hw.keep _ _ _ r2_
  have R3 := hw.keep _ _ _ r3_
  have R4 := hw.keep _ _ _ r4_
  have R5 := hw.keep _ _ _ r5_
  have R6 := hw.keep _ _ _ r6_
  have R7 := hw.keep _ _ _ r7_
  have R8 := hw.keep _ _ _ r8_
  have R9 := hw.keep _ _ _ r9_
  have R10 := hw.keep _ _ _ r10_
  have Z0 := HU6.out.ownGe (g := w.heap.size + 1 + 1) (by omega) 0
  have Z1 := HU6.out.ownGe (g := w.heap.size + 1 + 1) (by omega) 1
  have Z2 := HU6.out.ownGe (g := w.heap.size + 1 + 1) (by omega) 2
  have Z3 := HU6.out.ownGe (g := w.heap.size + 1 + 1) (by omega) 3
  have Z4 := HU6.out.ownGe (g := w.heap.size + 1 + 1) (by omega) 4
  have Z5 := HU6.out.ownGe (g := w.heap.size + 1 + 1) (by omega) 5
  have Z6 := HU6.out.ownGe (g := w.heap.size + 1 + 1) (by omega) 6
  have Z7 := HU6.out.ownGe (g := w.heap.size + 1 + 1) (by omega) 7
  have Z8 := HU6.out.ownGe (g := w.heap.size + 1 + 1) (by omega) 8
  have Z9 := HU6.out.ownGe (g := w.heap.size + 1 + 1) (by omega) 9
  have Z10 := HU6.out.ownGe (g := w.heap.size + 1 + 1) (by omega) 10
  clear r0_ r1_ r2_ r3_ r4_ r5_ r6_ r7_ r8_ r9_ r10_ z0_ z1_ z2_ z3_ z4_ z5_ z6_ z7_ z8_ z9_ z10_ s3_ q0_ q1_ q2_ hw
  go_wp2_with fail
  refine bodyPost_ret (v := .tuple #[.agg #[.int .i64 sm, .int .i64 1, .int .i64 sm, .int .i64 1, .int .i64 sm, .int .i64 1, .slice none 0 0, .int .u64 0, .int .u64 0, .int .u64 0, .int .u64 0], .int .i64 0]) (by simp [results, Tryz.results7, go_sem, R0, R1, R2, R3, R4, R5, R6, R7, R8, R9, R10]) rfl ⟨rfl, ?_⟩
  exact HU6.out.set11 (by omega)
end Go.Proofs.YtflahclphdlolaaGreat

/- What Ask of the reference of package recent returns: a part. -/

namespace Go.Proofs.YtflahclphdlolaaGreat
open Go.RowKit

set_option maxHeartbeats 8000000 in
set_option maxRecDepth 100000 in
theorem rask9_3 (v c now a b : Int) (n k : Nat) (A : Option Addr) (L : List It) (hst : stB v c now L = true)  (w : World) (hS : Sl w A n L) :
    Calls Tryz.prog 7 #[.agg #[.int .i64 v, .int .i64 c, .int .i64 now, .slice A n k], .agg #[.int .i64 3, .int .i64 a, .int .i64 b]] w fun e w' => e = .returned (.tuple #[.agg #[.int .i64 (sqZ L), .int .i64 1, .int .i64 (sqZ L), .int .i64 1, .int .i64 (sqZ L), .int .i64 1, .slice none 0 0, .int .u64 0, .int .u64 0, .int .u64 0, .int .u64 0], .int .i64 0]) ∧ Up w w' := by
  have KV := Lib.hid (fun W (h : Sl W A n L) => rvalidate9_up v c now n k A L W h)
  rw [stE_yes hst] at KV
  have HS := Lib.hid hS
  obtain ⟨hI, hl, hs⟩ := st_small hst
  have hn : n ≤ 65536 := by rw [← hS.1]; exact hl
  have KE := Lib.hid (fun W (h : Sl W A n L) => rleast_up n k A L (by omega) W h)
  have KG := Lib.hid (fun W (h : Sl W A n L) => rgreatest_up n k A L (by omega) W h)
  have KS := Lib.hid (fun W (h : Sl W A n L) => rsum_up n k A L (by omega) hI W h)
  have KQ := Lib.hid (fun W (h : Sl W A n L) => rsquaresE_up n k A L (by omega) hI W h)
  have hsm : In (smZ L) := by have := sm_bound hs; unfold In; omega
  have hsq : In (sqZ L) := by have := sq_bound hs; unfold In; omega
  rw [leE_V] at KE
  rw [grE_V] at KG
  rw [fit_yes hsm, fits_yes hsm] at KS
  rw [fit_yes hsq, fits_yes hsq] at KQ
  unfold got at KE KG KS KQ
  obtain ⟨x1, x2, x3, x4⟩ := ext_in hs
  have KW := Lib.hid (fun W => whole8_up (sqZ L) hsq W)
  clear hS hst hI hl hs hn hsm hsq
  generalize leV L = lo at *
  generalize grV L = hi at *
  generalize smZ L = sm at *
  generalize sqZ L = sq at *
  generalize decide (L ≠ []) = ne at *
  go_enter Tryz.func7, Tryz.ntmps7
  go_wp2_with (go_at_call 22; (with_reducible refine (KV.out _ (HS.out.up ((((Up.refl w).alloc _ _).alloc _ _).alloc _ _))).mono ?_); rintro e w1 ⟨rfl, hu⟩; have HU1 := Lib.hid (((((Up.refl w).alloc #[.int .i64 v, .int .i64 c, .int .i64 now, .slice A n k] 24).alloc #[.int .i64 3, .int .i64 a, .int .i64 b] 26).alloc #[.int .i64 0, .int .i64 0, .int .i64 0, .int .i64 0, .int .i64 0, .int .i64 0, .slice none 0 0, .int .u64 0, .int .u64 0, .int .u64 0, .int .u64 0] 40).trans hu); have s3 := hu.keep w.heap.size 3 (.slice A n k) (by simp [go_sem]); have q0 := hu.keep (w.heap.size + 1) 0 (.int .i64 3) (by simp [go_sem]); have q1 := hu.keep (w.heap.size + 1) 1 (.int .i64 a) (by simp [go_sem]); have q2 := hu.keep (w.heap.size + 1) 2 (.int .i64 b) (by simp [go_sem]); have r0 := hu.keep (w.heap.size + 1 + 1) 0 (.int .i64 0) (by simp [go_sem]); have r1 := hu.keep (w.heap.size + 1 + 1) 1 (.int .i64 0) (by simp [go_sem]); have r2 := hu.keep (w.heap.size + 1 + 1) 2 (.int .i64 0) (by simp [go_sem]); have r3 := hu.keep (w.heap.size + 1 + 1) 3 (.int .i64 0) (by simp [go_sem]); have r4 := hu.keep (w.heap.size + 1 + 1) 4 (.int .i64 0) (by simp [go_sem]); have r5 := hu.keep (w.heap.size + 1 + 1) 5 (.int .i64 0) (by simp [go_sem]); have r6 := hu.keep (w.heap.size + 1 + 1) 6 (.slice none 0 0) (by simp [go_sem]); have r7 := hu.keep (w.heap.size + 1 + 1) 7 (.int .u64 0) (by simp [go_sem]); have r8 := hu.keep (w.heap.size + 1 + 1) 8 (.int .u64 0) (by simp [go_sem]); have r9 := hu.keep (w.heap.size + 1 + 1) 9 (.int .u64 0) (by simp [go_sem]); have r10 := hu.keep (w.heap.size + 1 + 1) 10 (.int .u64 0) (by simp [go_sem]); have z0 := HU1.out.ownGe (g := w.heap.size + 1 + 1) (by omega) 0; have z1 := HU1.out.ownGe (g := w.heap.size + 1 + 1) (by omega) 1; have z2 := HU1.out.ownGe (g := w.heap.size + 1 + 1) (by omega) 2; have z3 := HU1.out.ownGe (g := w.heap.size + 1 + 1) (by omega) 3; have z4 := HU1.out.ownGe (g := w.heap.size + 1 + 1) (by omega) 4; have z5 := HU1.out.ownGe (g := w.heap.size + 1 + 1) (by omega) 5; have z6 := HU1.out.ownGe (g := w.heap.size + 1 + 1) (by omega) 6; have z7 := HU1.out.ownGe (g := w.heap.size + 1 + 1) (by omega) 7; have z8 := HU1.out.ownGe (g := w.heap.size + 1 + 1) (by omega) 8; have z9 := HU1.out.ownGe (g := w.heap.size + 1 + 1) (by omega) 9; have z10 := HU1.out.ownGe (g := w.heap.size + 1 + 1) (by omega) 10; have hlt : w.heap.size + 1 + 1 < w1.heap.size := World.block_lt_of_cell? _ _ r0; clear hu)
  have H0 := Lib.hid r0
  have H1 := Lib.hid r1
  have H2 := Lib.hid r2
  have H3 := Lib.hid r3
  have H4 := Lib.hid r4
  have H5 := Lib.hid r5
  have H6 := Lib.hid r6
  have H7 := Lib.hid r7
  have H8 := Lib.hid r8
  have H9 := Lib.hid r9
  have H10 := Lib.hid r10
  have HQ0 := Lib.hid q0
  have HQ1 := Lib.hid q1
  have HQ2 := Lib.hid q2
  clear q0 q1 q2 r0 r1 r2 r3 r4 r5 r6 r7 r8 r9 r10 z0 z1 z2 z3 z4 z5 z6 z7 z8 z9 z10
  have HS3 := Lib.hid s3
  clear s3
  refine (KE.out _ (HS.out.up HU1.out)).mono ?_
  rintro e w2 ⟨rfl, hu2⟩
  have hv2 := hu2
  have t3_2 := hv2.keep _ _ _ HS3.out
  go_wp2_with fail
  clear t3_2
  refine (KG.out _ (HS.out.up (HU1.out.trans hv2))).mono ?_
  rintro e w3 ⟨rfl, hu3⟩
  have hv3 := hv2.trans hu3
  have t3_3 := hv3.keep _ _ _ HS3.out
  go_wp2_with fail
  clear t3_3
  refine (KS.out _ (HS.out.up (HU1.out.trans hv3))).mono ?_
  rintro e w4 ⟨rfl, hu4⟩
  have hv4 := hv3.trans hu4
  have t3_4 := hv4.keep _ _ _ HS3.out
  go_wp2_with fail
  clear t3_4
  refine (KQ.out _ (HS.out.up (HU1.out.trans hv4))).mono ?_
  rintro e w5 ⟨rfl, hu5⟩
  have hv5 := hv4.trans hu5
  have HU5 := Lib.hid (HU1.out.trans hv5)
  have s3_ := hv5.keep _ _ _ HS3.out
  have q0_ := hv5.keep _ _ _ HQ0.out
  have q1_ := hv5.keep _ _ _ HQ1.out
  have q2_ := hv5.keep _ _ _ HQ2.out
  have r0_ := hv5.keep _ _ _ H0.out
  have r1_ := hv5.keep _ _ _ H1.out
  have r2_ := hv5.keep _ _ _ H2.out
  have r3_ := hv5.keep _ _ _ H3.out
  have r4_ := hv5.keep _ _ _ H4.out
  have r5_ := hv5.keep _ _ _ H5.out
  have r6_ := hv5.keep _ _ _ H6.out
  have r7_ := hv5.keep _ _ _ H7.out
  have r8_ := hv5.keep _ _ _ H8.out
  have r9_ := hv5.keep _ _ _ H9.out
  have r10_ := hv5.keep _ _ _ H10.out
  have z0_ := HU5.out.ownGe (g := w.heap.size + 1 + 1) (by omega) 0
  have z1_ := HU5.out.ownGe (g := w.heap.size + 1 + 1) (by omega) 1
  have z2_ := HU5.out.ownGe (g := w.heap.size + 1 + 1) (by omega) 2
  have z3_ := HU5.out.ownGe (g := w.heap.size + 1 + 1) (by omega) 3
  have z4_ := HU5.out.ownGe (g := w.heap.size + 1 + 1) (by omega) 4
  have z5_ := HU5.out.ownGe (g := w.heap.size + 1 + 1) (by omega) 5
  have z6_ := HU5.out.ownGe (g := w.heap.size + 1 + 1) (by omega) 6
  have z7_ := HU5.out.ownGe (g := w.heap.size + 1 + 1) (by omega) 7
  have z8_ := HU5.out.ownGe (g := w.heap.size + 1 + 1) (by omega) 8
  have z9_ := HU5.out.ownGe (g := w.heap.size + 1 + 1) (by omega) 9
  have z10_ := HU5.out.ownGe (g := w.heap.size + 1 + 1) (by omega) 10
  have hlt5 : w.heap.size + 1 + 1 < w5.heap.size := World.block_lt_of_cell? _ _ r0_
  clear hu2 hu3 hu4 hu5 hv2 hv3 hv4 hv5 HS3 HQ0 HQ1 HQ2 H0 H1 H2 H3 H4 H5 H6 H7 H8 H9 H10
  go_wp2_with fail
  refine (KW.out _).mono ?_
  rintro e w6 ⟨rfl, hw⟩
  have HU6 := Lib.hid (HU5.out.trans hw)
  have R0 := hw.keep _ _ _ r0_
  have R1 := hw.keep _ _ _ r1_
  have R2 := hw.keep _ _ _ r2_
  have R3 := hw.keep _ _ _ r3_
  have R4 := hw.keep _ _ _ r4_
  have R5 := hw.keep _ _ _ r5_
  have R6 := hw.keep _ _ _ r6_
  have R7 := hw.keep _ _ _ r7_
  have R8 := hw.keep _ _ _ r8_
  have R9 := hw.keep _ _ _ r9_
  have R10 := hw.keep _ _ _ r10_
  have Z0 := HU6.out.ownGe (g := w.heap.size + 1 + 1) (by omega) 0
  have Z1 := HU6.out.ownGe (g := w.heap.size + 1 + 1) (by omega) 1
  have Z2 := HU6.out.ownGe (g := w.heap.size + 1 + 1) (by omega) 2
  have Z3 := HU6.out.ownGe (g := w.heap.size + 1 + 1) (by omega) 3
  have Z4 := HU6.out.ownGe (g := w.heap.size + 1 + 1) (by omega) 4
  have Z5 := HU6.out.ownGe (g := w.heap.size + 1 + 1) (by omega) 5
  have Z6 := HU6.out.ownGe (g := w.heap.size + 1 + 1) (by omega) 6
  have Z7 := HU6.out.ownGe (g := w.heap.size + 1 + 1) (by omega) 7
  have Z8 := HU6.out.ownGe (g := w.heap.size + 1 + 1) (by omega) 8
  have Z9 := HU6.out.ownGe (g := w.heap.size + 1 + 1) (by omega) 9
  have Z10 := HU6.out.ownGe (g := w.heap.size + 1 + 1) (by omega) 10
  clear r0_ r1_ r2_ r3_ r4_ r5_ r6_ r7_ r8_ r9_ r10_ z0_ z1_ z2_ z3_ z4_ z5_ z6_ z7_ z8_ z9_ z10_ s3_ q0_ q1_ q2_ hw
  go_wp2_with fail
  refine bodyPost_ret (v := .tuple #[.agg #[.int .i64 sq, .int .i64 1, .int .i64 sq, .int .i64 1, .int .i64 sq, .int .i64 1, .slice none 0 0, .int .u64 0, .int .u64 0, .int .u64 0, .int .u64 0], .int .i64 0]) (by simp [results, Tryz.results7, go_sem, R0, R1, R2, R3, R4, R5, R6, R7, R8, R9, R10]) rfl ⟨rfl, ?_⟩
  exact HU6.out.set11 (by omega)

set_option maxHeartbeats 8000000 in
set_option maxRecDepth 100000 in
theorem rask9_4 (v c now a b : Int) (n k : Nat) (A : Option Addr) (L : List It) (hst : stB v c now L = true)  (w : World) (hS : Sl w A n L) :
    Calls Tryz.prog 7 #[.agg #[.int .i64 v, .int .i64 c, .int .i64 now, .slice A n k], .agg #[.int .i64 4, .int .i64 a, .int .i64 b]] w fun e w' => e = .returned (.tuple #[.agg #[.int .i64 (grV L - leV L), .int .i64 1, .int .i64 (grV L - leV L), .int .i64 1, .int .i64 (grV L - leV L), .int .i64 1, .slice none 0 0, .int .u64 0, .int .u64 0, .int .u64 0, .int .u64 0], .int .i64 0]) ∧ Up w w' := by
  have KV := Lib.hid (fun W (h : Sl W A n L) => rvalidate9_up v c now n k A L W h)
  rw [stE_yes hst] at KV
  have HS := Lib.hid hS
  obtain ⟨hI, hl, hs⟩ := st_small hst
  have hn : n ≤ 65536 := by rw [← hS.1]; exact hl
  have KE := Lib.hid (fun W (h : Sl W A n L) => rleast_up n k A L (by omega) W h)
  have KG := Lib.hid (fun W (h : Sl W A n L) => rgreatest_up n k A L (by omega) W h)
  have KS := Lib.hid (fun W (h : Sl W A n L) => rsum_up n k A L (by omega) hI W h)
  have KQ := Lib.hid (fun W (h : Sl W A n L) => rsquaresE_up n k A L (by omega) hI W h)
  have hsm : In (smZ L) := by have := sm_bound hs; unfold In; omega
  have hsq : In (sqZ L) := by have := sq_bound hs; unfold In; omega
  rw [leE_V] at KE
  rw [grE_V] at KG
  rw [fit_yes hsm, fits_yes hsm] at KS
  rw [fit_yes hsq, fits_yes hsq] at KQ
  unfold got at KE KG KS KQ
  obtain ⟨x1, x2, x3, x4⟩ := ext_in hs
  have KW := Lib.hid (fun W => whole8_up (grV L - leV L) (by unfold In; omega) W)
  clear hS hst hI hl hs hn hsm hsq
  generalize leV L = lo at *
  generalize grV L = hi at *
  generalize smZ L = sm at *
  generalize sqZ L = sq at *
  generalize decide (L ≠ []) = ne at *
  go_enter Tryz.func7, Tryz.ntmps7
  go_wp2_with (go_at_call 22; (with_reducible refine (KV.out _ (HS.out.up ((((Up.refl w).alloc _ _).alloc _ _).alloc _ _))).mono ?_); rintro e w1 ⟨rfl, hu⟩; have HU1 := Lib.hid (((((Up.refl w).alloc #[.int .i64 v, .int .i64 c, .int .i64 now, .slice A n k] 24).alloc #[.int .i64 4, .int .i64 a, .int .i64 b] 26).alloc #[.int .i64 0, .int .i64 0, .int .i64 0, .int .i64 0, .int .i64 0, .int .i64 0, .slice none 0 0, .int .u64 0, .int .u64 0, .int .u64 0, .int .u64 0] 40).trans hu); have s3 := hu.keep w.heap.size 3 (.slice A n k) (by simp [go_sem]); have q0 := hu.keep (w.heap.size + 1) 0 (.int .i64 4) (by simp [go_sem]); have q1 := hu.keep (w.heap.size + 1) 1 (.int .i64 a) (by simp [go_sem]); have q2 := hu.keep (w.heap.size + 1) 2 (.int .i64 b) (by simp [go_sem]); have r0 := hu.keep (w.heap.size + 1 + 1) 0 (.int .i64 0) (by simp [go_sem]); have r1 := hu.keep (w.heap.size + 1 + 1) 1 (.int .i64 0) (by simp [go_sem]); have r2 := hu.keep (w.heap.size + 1 + 1) 2 (.int .i64 0) (by simp [go_sem]); have r3 := hu.keep (w.heap.size + 1 + 1) 3 (.int .i64 0) (by simp [go_sem]); have r4 := hu.keep (w.heap.size + 1 + 1) 4 (.int .i64 0) (by simp [go_sem]); have r5 := hu.keep (w.heap.size + 1 + 1) 5 (.int .i64 0) (by simp [go_sem]); have r6 := hu.keep (w.heap.size + 1 + 1) 6 (.slice none 0 0) (by simp [go_sem]); have r7 := hu.keep (w.heap.size + 1 + 1) 7 (.int .u64 0) (by simp [go_sem]); have r8 := hu.keep (w.heap.size + 1 + 1) 8 (.int .u64 0) (by simp [go_sem]); have r9 := hu.keep (w.heap.size + 1 + 1) 9 (.int .u64 0) (by simp [go_sem]); have r10 := hu.keep (w.heap.size + 1 + 1) 10 (.int .u64 0) (by simp [go_sem]); have z0 := HU1.out.ownGe (g := w.heap.size + 1 + 1) (by omega) 0; have z1 := HU1.out.ownGe (g := w.heap.size + 1 + 1) (by omega) 1; have z2 := HU1.out.ownGe (g := w.heap.size + 1 + 1) (by omega) 2; have z3 := HU1.out.ownGe (g := w.heap.size + 1 + 1) (by omega) 3; have z4 := HU1.out.ownGe (g := w.heap.size + 1 + 1) (by omega) 4; have z5 := HU1.out.ownGe (g := w.heap.size + 1 + 1) (by omega) 5; have z6 := HU1.out.ownGe (g := w.heap.size + 1 + 1) (by omega) 6; have z7 := HU1.out.ownGe (g := w.heap.size + 1 + 1) (by omega) 7; have z8 := HU1.out.ownGe (g := w.heap.size + 1 + 1) (by omega) 8; have z9 := HU1.out.ownGe (g := w.heap.size + 1 + 1) (by omega) 9; have z10 := HU1.out.ownGe (g := w.heap.size + 1 + 1) (by omega) 10; have hlt : w.heap.size + 1 + 1 < w1.heap.size := World.block_lt_of_cell? _ _ r0; clear hu)
  have H0 := Lib.hid r0
  have H1 := Lib.hid r1
  have H2 := Lib.hid r2
  have H3 := Lib.hid r3
  have H4 := Lib.hid r4
  have H5 := Lib.hid r5
  have H6 := Lib.hid r6
  have H7 := Lib.hid r7
  have H8 := Lib.hid r8
  have H9 := Lib.hid r9
  have H10 := Lib.hid r10
  have HQ0 := Lib.hid q0
  have HQ1 := Lib.hid q1
  have HQ2 := Lib.hid q2
  clear q0 q1 q2 r0 r1 r2 r3 r4 r5 r6 r7 r8 r9 r10 z0 z1 z2 z3 z4 z5 z6 z7 z8 z9 z10
  have HS3 := Lib.hid s3
  clear s3
  refine (KE.out _ (HS.out.up HU1.out)).mono ?_
  rintro e w2 ⟨rfl, hu2⟩
  have hv2 := hu2
  have t3_2 := hv2.keep _ _ _ HS3.out
  go_wp2_with fail
  clear t3_2
  refine (KG.out _ (HS.out.up (HU1.out.trans hv2))).mono ?_
  rintro e w3 ⟨rfl, hu3⟩
  have hv3 := hv2.trans hu3
  have t3_3 := hv3.keep _ _ _ HS3.out
  go_wp2_with fail
  clear t3_3
  refine (KS.out _ (HS.out.up (HU1.out.trans hv3))).mono ?_
  rintro e w4 ⟨rfl, hu4⟩
  have hv4 := hv3.trans hu4
  have t3_4 := hv4.keep _ _ _ HS3.out
  go_wp2_with fail
  clear t3_4
  refine (KQ.out _ (HS.out.up (HU1.out.trans hv4))).mono ?_
  rintro e w5 ⟨rfl, hu5⟩
  have hv5 := hv4.trans hu5
  have HU5 := Lib.hid (HU1.out.trans hv5)
  have s3_ := hv5.keep _ _ _ HS3.out
  have q0_ := hv5.keep _ _ _ HQ0.out
  have q1_ := hv5.keep _ _ _ HQ1.out
  have q2_ := hv5.keep _ _ _ HQ2.out
  have r0_ := hv5.keep _ _ _ H0.out
  have r1_ := hv5.keep _ _ _ H1.out
  have r2_ := hv5.keep _ _ _ H2.out
  have r3_ := hv5.keep _ _ _ H3.out
  have r4_ := hv5.keep _ _ _ H4.out
  have r5_ := hv5.keep _ _ _ H5.out
  have r6_ := hv5.keep _ _ _ H6.out
  have r7_ := hv5.keep _ _ _ H7.out
  have r8_ := hv5.keep _ _ _ H8.out
  have r9_ := hv5.keep _ _ _ H9.out
  have r10_ := hv5.keep _ _ _ H10.out
  have z0_ := HU5.out.ownGe (g := w.heap.size + 1 + 1) (by omega) 0
  have z1_ := HU5.out.ownGe (g := w.heap.size + 1 + 1) (by omega) 1
  have z2_ := HU5.out.ownGe (g := w.heap.size + 1 + 1) (by omega) 2
  have z3_ := HU5.out.ownGe (g := w.heap.size + 1 + 1) (by omega) 3
  have z4_ := HU5.out.ownGe (g := w.heap.size + 1 + 1) (by omega) 4
  have z5_ := HU5.out.ownGe (g := w.heap.size + 1 + 1) (by omega) 5
  have z6_ := HU5.out.ownGe (g := w.heap.size + 1 + 1) (by omega) 6
  have z7_ := HU5.out.ownGe (g := w.heap.size + 1 + 1) (by omega) 7
  have z8_ := HU5.out.ownGe (g := w.heap.size + 1 + 1) (by omega) 8
  have z9_ := HU5.out.ownGe (g := w.heap.size + 1 + 1) (by omega) 9
  have z10_ := HU5.out.ownGe (g := w.heap.size + 1 + 1) (by omega) 10
  have hlt5 : w.heap.size + 1 + 1 < w5.heap.size := World.block_lt_of_cell? _ _ r0_
  clear hu2 hu3 hu4 hu5 hv2 hv3 hv4 hv5 HS3 HQ0 HQ1 HQ2 H0 H1 H2 H3 H4 H5 H6 H7 H8 H9 H10
  go_wp2_with fail
  refine (KW.out _).mono ?_
  rintro e w6 ⟨rfl, hw⟩
  have HU6 := Lib.hid (HU5.out.trans hw)
  have R0 := hw.keep _ _ _ r0_
  have R1 := hw.keep _ _ _ r1_
  have R2 := hw.keep _ _ _ r2_
  have R3 := hw.keep _ _ _ r3_
  have R4 := hw.keep _ _ _ r4_
  have R5 := hw.keep _ _ _ r5_
  have R6 := hw.keep _ _ _ r6_
  have R7 := hw.keep _ _ _ r7_
  have R8 := hw.keep _ _ _ r8_
  have R9 := hw.keep _ _ _ r9_
  have R10 := hw.keep _ _ _ r10_
  have Z0 := HU6.out.ownGe (g := w.heap.size + 1 + 1) (by omega) 0
  have Z1 := HU6.out.ownGe (g := w.heap.size + 1 + 1) (by omega) 1
  have Z2 := HU6.out.ownGe (g := w.heap.size + 1 + 1) (by omega) 2
  have Z3 := HU6.out.ownGe (g := w.heap.size + 1 + 1) (by omega) 3
  have Z4 := HU6.out.ownGe (g := w.heap.size + 1 + 1) (by omega) 4
  have Z5 := HU6.out.ownGe (g := w.heap.size + 1 + 1) (by omega) 5
  have Z6 := HU6.out.ownGe (g := w.heap.size + 1 + 1) (by omega) 6
  have Z7 := HU6.out.ownGe (g := w.heap.size + 1 + 1) (by omega) 7
  have Z8 := HU6.out.ownGe (g := w.heap.size + 1 + 1) (by omega) 8
  have Z9 := HU6.out.ownGe (g := w.heap.size + 1 + 1) (by omega) 9
  have Z10 := HU6.out.ownGe (g := w.heap.size + 1 + 1) (by omega) 10
  clear r0_ r1_ r2_ r3_ r4_ r5_ r6_ r7_ r8_ r9_ r10_ z0_ z1_ z2_ z3_ z4_ z5_ z6_ z7_ z8_ z9_ z10_ s3_ q0_ q1_ q2_ hw
  go_wp2_with fail
  refine bodyPost_ret (v := .tuple #[.agg #[.int .i64 (hi - lo), .int .i64 1, .int .i64 (hi - lo), .int .i64 1, .int .i64 (hi - lo), .int .i64 1, .slice none 0 0, .int .u64 0, .int .u64 0, .int .u64 0, .int .u64 0], .int .i64 0]) (by simp [results, Tryz.results7, go_sem, R0, R1, R2, R3, R4, R5, R6, R7, R8, R9, R10]) rfl ⟨rfl, ?_⟩
  exact HU6.out.set11 (by omega)
end Go.Proofs.YtflahclphdlolaaGreat

/- What Ask of the reference of package recent returns: a part. -/
namespace Go.Proofs.YtflahclphdlolaaGreat
open Go.RowKit

set_option maxHeartbeats 8000000 in
set_option maxRecDepth 100000 in
theorem rask9_5 (v c now a b : Int) (n k : Nat) (A : Option Addr) (L : List It) (hst : stB v c now L = true)  (w : World) (hS : Sl w A n L) :
    Calls Tryz.prog 7 #[.agg #[.int .i64 v, .int .i64 c, .int .i64 now, .slice A n k], .agg #[.int .i64 5, .int .i64 a, .int .i64 b]] w fun e w' => e = .returned (.tuple #[.agg #[.int .i64 (sprN L), .int .i64 (sprD L), .int .i64 (sprN L), .int .i64 (sprD L), .int .i64 (sprN L), .int .i64 (sprD L), .slice none 0 0, .int .u64 0, .int .u64 0, .int .u64 0, .int .u64 0], .int .i64 0]) ∧ Up w w' := by
  have KV := Lib.hid (fun W (h : Sl W A n L) => rvalidate9_up v c now n k A L W h)
  rw [stE_yes hst] at KV
  have HS := Lib.hid hS
  obtain ⟨hI, hl, hs⟩ := st_small hst
  have hn : n ≤ 65536 := by rw [← hS.1]; exact hl
  have KE := Lib.hid (fun W (h : Sl W A n L) => rleast_up n k A L (by omega) W h)
  have KG := Lib.hid (fun W (h : Sl W A n L) => rgreatest_up n k A L (by omega) W h)
  have KS := Lib.hid (fun W (h : Sl W A n L) => rsum_up n k A L (by omega) hI W h)
  have KQ := Lib.hid (fun W (h : Sl W A n L) => rsquaresE_up n k A L (by omega) hI W h)
  have hsm : In (smZ L) := by have := sm_bound hs; unfold In; omega
  have hsq : In (sqZ L) := by have := sq_bound hs; unfold In; omega
  rw [leE_V] at KE
  rw [grE_V] at KG
  rw [fit_yes hsm, fits_yes hsm] at KS
  rw [fit_yes hsq, fits_yes hsq] at KQ
  unfold got at KE KG KS KQ
  obtain ⟨x1, x2, x3, x4⟩ := ext_in hs
  have hx := spr_ok hs hl
  have KP := Lib.hid (fun W => rspread9_up n L hS.1 hn hs W)
  have KW := Lib.hid (fun W => rexact9_up (sprN L) (sprD L) hx.1 hx.2.1 hx.2.2.1 W)
  clear hx
  generalize sprN L = x at *
  generalize sprD L = y at *
  clear hS hst hI hl hs hn hsm hsq
  generalize leV L = lo at *
  generalize grV L = hi at *
  generalize smZ L = sm at *
  generalize sqZ L = sq at *
  generalize decide (L ≠ []) = ne at *
  go_enter Tryz.func7, Tryz.ntmps7
  go_wp2_with (go_at_call 22; (with_reducible refine (KV.out _ (HS.out.up ((((Up.refl w).alloc _ _).alloc _ _).alloc _ _))).mono ?_); rintro e w1 ⟨rfl, hu⟩; have HU1 := Lib.hid (((((Up.refl w).alloc #[.int .i64 v, .int .i64 c, .int .i64 now, .slice A n k] 24).alloc #[.int .i64 5, .int .i64 a, .int .i64 b] 26).alloc #[.int .i64 0, .int .i64 0, .int .i64 0, .int .i64 0, .int .i64 0, .int .i64 0, .slice none 0 0, .int .u64 0, .int .u64 0, .int .u64 0, .int .u64 0] 40).trans hu); have s3 := hu.keep w.heap.size 3 (.slice A n k) (by simp [go_sem]); have q0 := hu.keep (w.heap.size + 1) 0 (.int .i64 5) (by simp [go_sem]); have q1 := hu.keep (w.heap.size + 1) 1 (.int .i64 a) (by simp [go_sem]); have q2 := hu.keep (w.heap.size + 1) 2 (.int .i64 b) (by simp [go_sem]); have r0 := hu.keep (w.heap.size + 1 + 1) 0 (.int .i64 0) (by simp [go_sem]); have r1 := hu.keep (w.heap.size + 1 + 1) 1 (.int .i64 0) (by simp [go_sem]); have r2 := hu.keep (w.heap.size + 1 + 1) 2 (.int .i64 0) (by simp [go_sem]); have r3 := hu.keep (w.heap.size + 1 + 1) 3 (.int .i64 0) (by simp [go_sem]); have r4 := hu.keep (w.heap.size + 1 + 1) 4 (.int .i64 0) (by simp [go_sem]); have r5 := hu.keep (w.heap.size + 1 + 1) 5 (.int .i64 0) (by simp [go_sem]); have r6 := hu.keep (w.heap.size + 1 + 1) 6 (.slice none 0 0) (by simp [go_sem]); have r7 := hu.keep (w.heap.size + 1 + 1) 7 (.int .u64 0) (by simp [go_sem]); have r8 := hu.keep (w.heap.size + 1 + 1) 8 (.int .u64 0) (by simp [go_sem]); have r9 := hu.keep (w.heap.size + 1 + 1) 9 (.int .u64 0) (by simp [go_sem]); have r10 := hu.keep (w.heap.size + 1 + 1) 10 (.int .u64 0) (by simp [go_sem]); have z0 := HU1.out.ownGe (g := w.heap.size + 1 + 1) (by omega) 0; have z1 := HU1.out.ownGe (g := w.heap.size + 1 + 1) (by omega) 1; have z2 := HU1.out.ownGe (g := w.heap.size + 1 + 1) (by omega) 2; have z3 := HU1.out.ownGe (g := w.heap.size + 1 + 1) (by omega) 3; have z4 := HU1.out.ownGe (g := w.heap.size + 1 + 1) (by omega) 4; have z5 := HU1.out.ownGe (g := w.heap.size + 1 + 1) (by omega) 5; have z6 := HU1.out.ownGe (g := w.heap.size + 1 + 1) (by omega) 6; have z7 := HU1.out.ownGe (g := w.heap.size + 1 + 1) (by omega) 7; have z8 := HU1.out.ownGe (g := w.heap.size + 1 + 1) (by omega) 8; have z9 := HU1.out.ownGe (g := w.heap.size + 1 + 1) (by omega) 9; have z10 := HU1.out.ownGe (g := w.heap.size + 1 + 1) (by omega) 10; have hlt : w.heap.size + 1 + 1 < w1.heap.size := World.block_lt_of_cell? _ _ r0; clear hu)
  have H0 := Lib.hid r0
  have H1 := Lib.hid r1
  have H2 := Lib.hid r2
  have H3 := Lib.hid r3
  have H4 := Lib.hid r4
  have H5 := Lib.hid r5
  have H6 := Lib.hid r6
  have H7 := Lib.hid r7
  have H8 := Lib.hid r8
  have H9 := Lib.hid r9
  have H10 := Lib.hid r10
  have HQ0 := Lib.hid q0
  have HQ1 := Lib.hid q1
  have HQ2 := Lib.hid q2
  clear q0 q1 q2 r0 r1 r2 r3 r4 r5 r6 r7 r8 r9 r10 z0 z1 z2 z3 z4 z5 z6 z7 z8 z9 z10
  have HS3 := Lib.hid s3
  clear s3
  refine (KE.out _ (HS.out.up HU1.out)).mono ?_
  rintro e w2 ⟨rfl, hu2⟩
  have hv2 := hu2
  have t3_2 := hv2.keep _ _ _ HS3.out
  go_wp2_with fail
  clear t3_2
  refine (KG.out _ (HS.out.up (HU1.out.trans hv2))).mono ?_
  rintro e w3 ⟨rfl, hu3⟩
  have hv3 := hv2.trans hu3
  have t3_3 := hv3.keep _ _ _ HS3.out
  go_wp2_with fail
  clear t3_3
  refine (KS.out _ (HS.out.up (HU1.out.trans hv3))).mono ?_
  rintro e w4 ⟨rfl, hu4⟩
  have hv4 := hv3.trans hu4
  have t3_4 := hv4.keep _ _ _ HS3.out
  go_wp2_with fail
  clear t3_4
  refine (KQ.out _ (HS.out.up (HU1.out.trans hv4))).mono ?_
  rintro e w5 ⟨rfl, hu5⟩
  have hv5 := hv4.trans hu5
  have HU5 := Lib.hid (HU1.out.trans hv5)
  have s3_ := hv5.keep _ _ _ HS3.out
  have q0_ := hv5.keep _ _ _ HQ0.out
  have q1_ := hv5.keep _ _ _ HQ1.out
  have q2_ := hv5.keep _ _ _ HQ2.out
  have r0_ := hv5.keep _ _ _ H0.out
  have r1_ := hv5.keep _ _ _ H1.out
  have r2_ := hv5.keep _ _ _ H2.out
  have r3_ := hv5.keep _ _ _ H3.out
  have r4_ := hv5.keep _ _ _ H4.out
  have r5_ := hv5.keep _ _ _ H5.out
  have r6_ := hv5.keep _ _ _ H6.out
  have r7_ := hv5.keep _ _ _ H7.out
  have r8_ := hv5.keep _ _ _ H8.out
  have r9_ := hv5.keep _ _ _ H9.out
  have r10_ := hv5.keep _ _ _ H10.out
  have z0_ := HU5.out.ownGe (g := w.heap.size + 1 + 1) (by omega) 0
  have z1_ := HU5.out.ownGe (g := w.heap.size + 1 + 1) (by omega) 1
  have z2_ := HU5.out.ownGe (g := w.heap.size + 1 + 1) (by omega) 2
  have z3_ := HU5.out.ownGe (g := w.heap.size + 1 + 1) (by omega) 3
  have z4_ := HU5.out.ownGe (g := w.heap.size + 1 + 1) (by omega) 4
  have z5_ := HU5.out.ownGe (g := w.heap.size + 1 + 1) (by omega) 5
  have z6_ := HU5.out.ownGe (g := w.heap.size + 1 + 1) (by omega) 6
  have z7_ := HU5.out.ownGe (g := w.heap.size + 1 + 1) (by omega) 7
  have z8_ := HU5.out.ownGe (g := w.heap.size + 1 + 1) (by omega) 8
  have z9_ := HU5.out.ownGe (g := w.heap.size + 1 + 1) (by omega) 9
  have z10_ := HU5.out.ownGe (g := w.heap.size + 1 + 1) (by omega) 10
  have hlt5 : w.heap.size + 1 + 1 < w5.heap.size := World.block_lt_of_cell? _ _ r0_
  clear hu2 hu3 hu4 hu5 hv2 hv3 hv4 hv5 HS3 HQ0 HQ1 HQ2 H0 H1 H2 H3 H4 H5 H6 H7 H8 H9 H10
  go_wp2_with fail
  refine (KP.out _).mono ?_
  rintro e w6 ⟨rfl, hp⟩
  go_wp2_with fail
  refine (KW.out _).mono ?_
  rintro e w7 ⟨rfl, hw7⟩
  have hw := hp.trans hw7
  clear hp hw7
  have HU6 := Lib.hid (HU5.out.trans hw)
  have R0 := hw.keep _ _ _ r0_
  have R1 := hw.keep _ _ _ r1_
  have R2 := hw.keep _ _ _ r2_
  have R3 := hw.keep _ _ _ r3_
  have R4 := hw.keep _ _ _ r4_
  have R5 := hw.keep _ _ _ r5_
  have R6 := hw.keep _ _ _ r6_
  have R7 := hw.keep _ _ _ r7_
  have R8 := hw.keep _ _ _ r8_
  have R9 := hw.keep _ _ _ r9_
  have R10 := hw.keep _ _ _ r10_
  have Z0 := HU6.out.ownGe (g := w.heap.size + 1 + 1) (by omega) 0
  have Z1 := HU6.out.ownGe (g := w.heap.size + 1 + 1) (by omega) 1
  have Z2 := HU6.out.ownGe (g := w.heap.size + 1 + 1) (by omega) 2
  have Z3 := HU6.out.ownGe (g := w.heap.size + 1 + 1) (by omega) 3
  have Z4 := HU6.out.ownGe (g := w.heap.size + 1 + 1) (by omega) 4
  have Z5 := HU6.out.ownGe (g := w.heap.size + 1 + 1) (by omega) 5
  have Z6 := HU6.out.ownGe (g := w.heap.size + 1 + 1) (by omega) 6
  have Z7 := HU6.out.ownGe (g := w.heap.size + 1 + 1) (by omega) 7
  have Z8 := HU6.out.ownGe (g := w.heap.size + 1 + 1) (by omega) 8
  have Z9 := HU6.out.ownGe (g := w.heap.size + 1 + 1) (by omega) 9
  have Z10 := HU6.out.ownGe (g := w.heap.size + 1 + 1) (by omega) 10
  clear r0_ r1_ r2_ r3_ r4_ r5_ r6_ r7_ r8_ r9_ r10_ z0_ z1_ z2_ z3_ z4_ z5_ z6_ z7_ z8_ z9_ z10_ s3_ q0_ q1_ q2_ hw
  go_wp2_with fail
  refine bodyPost_ret (v := .tuple #[.agg #[.int .i64 x, .int .i64 y, .int .i64 x, .int .i64 y, .int .i64 x, .int .i64 y, .slice none 0 0, .int .u64 0, .int .u64 0, .int .u64 0, .int .u64 0], .int .i64 0]) (by simp [results, Tryz.results7, go_sem, R0, R1, R2, R3, R4, R5, R6, R7, R8, R9, R10]) rfl ⟨rfl, ?_⟩
  exact HU6.out.set11 (by omega)

set_option maxHeartbeats 8000000 in
set_option maxRecDepth 100000 in
theorem rask9_7 (v c now a b : Int) (n k : Nat) (A : Option Addr) (L : List It) (hst : stB v c now L = true)  (w : World) (hS : Sl w A n L) :
    Calls Tryz.prog 7 #[.agg #[.int .i64 v, .int .i64 c, .int .i64 now, .slice A n k], .agg #[.int .i64 7, .int .i64 a, .int .i64 b]] w fun e w' => e = .returned (.tuple #[.agg #[.int .i64 (rkN a L : Int), .int .i64 1, .int .i64 (rkN a L : Int), .int .i64 1, .int .i64 (rkN a L : Int), .int .i64 1, .slice none 0 0, .int .u64 0, .int .u64 0, .int .u64 0, .int .u64 0], .int .i64 0]) ∧ Up w w' := by
  have KV := Lib.hid (fun W (h : Sl W A n L) => rvalidate9_up v c now n k A L W h)
  rw [stE_yes hst] at KV
  have HS := Lib.hid hS
  obtain ⟨hI, hl, hs⟩ := st_small hst
  have hn : n ≤ 65536 := by rw [← hS.1]; exact hl
  have KE := Lib.hid (fun W (h : Sl W A n L) => rleast_up n k A L (by omega) W h)
  have KG := Lib.hid (fun W (h : Sl W A n L) => rgreatest_up n k A L (by omega) W h)
  have KS := Lib.hid (fun W (h : Sl W A n L) => rsum_up n k A L (by omega) hI W h)
  have KQ := Lib.hid (fun W (h : Sl W A n L) => rsquaresE_up n k A L (by omega) hI W h)
  have hsm : In (smZ L) := by have := sm_bound hs; unfold In; omega
  have hsq : In (sqZ L) := by have := sq_bound hs; unfold In; omega
  rw [leE_V] at KE
  rw [grE_V] at KG
  rw [fit_yes hsm, fits_yes hsm] at KS
  rw [fit_yes hsq, fits_yes hsq] at KQ
  unfold got at KE KG KS KQ
  obtain ⟨x1, x2, x3, x4⟩ := ext_in hs
  have hx : In (rkN a L : Int) := by have := rkN_le a L; unfold In; omega
  have KP := Lib.hid (fun W (h : Sl W A n L) => rrank_up n k A L a (by omega) W h)
  have KW := Lib.hid (fun W => whole8_up (rkN a L : Int) hx W)
  clear hx
  generalize (rkN a L : Int) = x at *
  clear hS hst hI hl hs hn hsm hsq
  generalize leV L = lo at *
  generalize grV L = hi at *
  generalize smZ L = sm at *
  generalize sqZ L = sq at *
  generalize decide (L ≠ []) = ne at *
  go_enter Tryz.func7, Tryz.ntmps7
  go_wp2_with (go_at_call 22; (with_reducible refine (KV.out _ (HS.out.up ((((Up.refl w).alloc _ _).alloc _ _).alloc _ _))).mono ?_); rintro e w1 ⟨rfl, hu⟩; have HU1 := Lib.hid (((((Up.refl w).alloc #[.int .i64 v, .int .i64 c, .int .i64 now, .slice A n k] 24).alloc #[.int .i64 7, .int .i64 a, .int .i64 b] 26).alloc #[.int .i64 0, .int .i64 0, .int .i64 0, .int .i64 0, .int .i64 0, .int .i64 0, .slice none 0 0, .int .u64 0, .int .u64 0, .int .u64 0, .int .u64 0] 40).trans hu); have s3 := hu.keep w.heap.size 3 (.slice A n k) (by simp [go_sem]); have q0 := hu.keep (w.heap.size + 1) 0 (.int .i64 7) (by simp [go_sem]); have q1 := hu.keep (w.heap.size + 1) 1 (.int .i64 a) (by simp [go_sem]); have q2 := hu.keep (w.heap.size + 1) 2 (.int .i64 b) (by simp [go_sem]); have r0 := hu.keep (w.heap.size + 1 + 1) 0 (.int .i64 0) (by simp [go_sem]); have r1 := hu.keep (w.heap.size + 1 + 1) 1 (.int .i64 0) (by simp [go_sem]); have r2 := hu.keep (w.heap.size + 1 + 1) 2 (.int .i64 0) (by simp [go_sem]); have r3 := hu.keep (w.heap.size + 1 + 1) 3 (.int .i64 0) (by simp [go_sem]); have r4 := hu.keep (w.heap.size + 1 + 1) 4 (.int .i64 0) (by simp [go_sem]); have r5 := hu.keep (w.heap.size + 1 + 1) 5 (.int .i64 0) (by simp [go_sem]); have r6 := hu.keep (w.heap.size + 1 + 1) 6 (.slice none 0 0) (by simp [go_sem]); have r7 := hu.keep (w.heap.size + 1 + 1) 7 (.int .u64 0) (by simp [go_sem]); have r8 := hu.keep (w.heap.size + 1 + 1) 8 (.int .u64 0) (by simp [go_sem]); have r9 := hu.keep (w.heap.size + 1 + 1) 9 (.int .u64 0) (by simp [go_sem]); have r10 := hu.keep (w.heap.size + 1 + 1) 10 (.int .u64 0) (by simp [go_sem]); have z0 := HU1.out.ownGe (g := w.heap.size + 1 + 1) (by omega) 0; have z1 := HU1.out.ownGe (g := w.heap.size + 1 + 1) (by omega) 1; have z2 := HU1.out.ownGe (g := w.heap.size + 1 + 1) (by omega) 2; have z3 := HU1.out.ownGe (g := w.heap.size + 1 + 1) (by omega) 3; have z4 := HU1.out.ownGe (g := w.heap.size + 1 + 1) (by omega) 4; have z5 := HU1.out.ownGe (g := w.heap.size + 1 + 1) (by omega) 5; have z6 := HU1.out.ownGe (g := w.heap.size + 1 + 1) (by omega) 6; have z7 := HU1.out.ownGe (g := w.heap.size + 1 + 1) (by omega) 7; have z8 := HU1.out.ownGe (g := w.heap.size + 1 + 1) (by omega) 8; have z9 := HU1.out.ownGe (g := w.heap.size + 1 + 1) (by omega) 9; have z10 := HU1.out.ownGe (g := w.heap.size + 1 + 1) (by omega) 10; have hlt : w.heap.size + 1 + 1 < w1.heap.size := World.block_lt_of_cell? _ _ r0; clear hu)
  have H0 := Lib.hid r0
  have H1 := Lib.hid r1
  have H2 := Lib.hid r2
  have H3 := Lib.hid r3
  have H4 := Lib.hid r4
  have H5 := Lib.hid r5
  have H6 := Lib.hid r6
  have H7 := Lib.hid r7
  have H8 := Lib.hid r8
  have H9 := Lib.hid r9
  have H10 := Lib.hid r10
  have HQ0 := Lib.hid q0
  have HQ1 := Lib.hid q1
  have HQ2 := Lib.hid q2
  clear q0 q1 q2 r0 r1 r2 r3 r4 r5 r6 r7 r8 r9 r10 z0 z1 z2 z3 z4 z5 z6 z7 z8 z9 z10
  have HS3 := Lib.hid s3
  clear s3
  refine (KE.out _ (HS.out.up HU1.out)).mono ?_
  rintro e w2 ⟨rfl, hu2⟩
  have hv2 := hu2
  have t3_2 := hv2.keep _ _ _ HS3.out
  go_wp2_with fail
  clear t3_2
  refine (KG.out _ (HS.out.up (HU1.out.trans hv2))).mono ?_
  rintro e w3 ⟨rfl, hu3⟩
  have hv3 := hv2.trans hu3
  have t3_3 := hv3.keep _ _ _ HS3.out
  go_wp2_with fail
  clear t3_3
  refine (KS.out _ (HS.out.up (HU1.out.trans hv3))).mono ?_
  rintro e w4 ⟨rfl, hu4⟩
  have hv4 := hv3.trans hu4
  have t3_4 := hv4.keep _ _ _ HS3.out
  go_wp2_with fail
  clear t3_4
  refine (KQ.out _ (HS.out.up (HU1.out.trans hv4))).mono ?_
  rintro e w5 ⟨rfl, hu5⟩
  have hv5 := hv4.trans hu5
  have HU5 := Lib.hid (HU1.out.trans hv5)
  have s3_ := hv5.keep _ _ _ HS3.out
  have q0_ := hv5.keep _ _ _ HQ0.out
  have q1_ := hv5.keep _ _ _ HQ1.out
  have q2_ := hv5.keep _ _ _ HQ2.out
  have r0_ := hv5.keep _ _ _ H0.out
  have r1_ := hv5.keep _ _ _ H1.out
  have r2_ := hv5.keep _ _ _ H2.out
  have r3_ := hv5.keep _ _ _ H3.out
  have r4_ := hv5.keep _ _ _ H4.out
  have r5_ := hv5.keep _ _ _ H5.out
  have r6_ := hv5.keep _ _ _ H6.out
  have r7_ := hv5.keep _ _ _ H7.out
  have r8_ := hv5.keep _ _ _ H8.out
  have r9_ := hv5.keep _ _ _ H9.out
  have r10_ := hv5.keep _ _ _ H10.out
  have z0_ := HU5.out.ownGe (g := w.heap.size + 1 + 1) (by omega) 0
  have z1_ := HU5.out.ownGe (g := w.heap.size + 1 + 1) (by omega) 1
  have z2_ := HU5.out.ownGe (g := w.heap.size + 1 + 1) (by omega) 2
  have z3_ := HU5.out.ownGe (g := w.heap.size + 1 + 1) (by omega) 3
  have z4_ := HU5.out.ownGe (g := w.heap.size + 1 + 1) (by omega) 4
  have z5_ := HU5.out.ownGe (g := w.heap.size + 1 + 1) (by omega) 5
  have z6_ := HU5.out.ownGe (g := w.heap.size + 1 + 1) (by omega) 6
  have z7_ := HU5.out.ownGe (g := w.heap.size + 1 + 1) (by omega) 7
  have z8_ := HU5.out.ownGe (g := w.heap.size + 1 + 1) (by omega) 8
  have z9_ := HU5.out.ownGe (g := w.heap.size + 1 + 1) (by omega) 9
  have z10_ := HU5.out.ownGe (g := w.heap.size + 1 + 1) (by omega) 10
  have hlt5 : w.heap.size + 1 + 1 < w5.heap.size := World.block_lt_of_cell? _ _ r0_
  clear hu2 hu3 hu4 hu5 hv2 hv3 hv4 hv5 HS3 HQ0 HQ1 HQ2 H0 H1 H2 H3 H4 H5 H6 H7 H8 H9 H10
  go_wp2_with fail
  refine (KP.out _ (HS.out.up HU5.out)).mono ?_
  rintro e w6 ⟨rfl, hp⟩
  go_wp2_with fail
  refine (KW.out _).mono ?_
  rintro e w7 ⟨rfl, hw7⟩
  have hw := hp.trans hw7
  clear hp hw7
  have HU6 := Lib.hid (HU5.out.trans hw)
  have R0 := hw.keep _ _ _ r0_
  have R1 := hw.keep _ _ _ r1_
  have R2 := hw.keep _ _ _ r2_
  have R3 := hw.keep _ _ _ r3_
  have R4 := hw.keep _ _ _ r4_
  have R5 := hw.keep _ _ _ r5_
  have R6 := hw.keep _ _ _ r6_
  have R7 := hw.keep _ _ _ r7_
  have R8 := hw.keep _ _ _ r8_
  have R9 := hw.keep _ _ _ r9_
  have R10 := hw.keep _ _ _ r10_
  have Z0 := HU6.out.ownGe (g := w.heap.size + 1 + 1) (by omega) 0
  have Z1 := HU6.out.ownGe (g := w.heap.size + 1 + 1) (by omega) 1
  have Z2 := HU6.out.ownGe (g := w.heap.size + 1 + 1) (by omega) 2
  have Z3 := HU6.out.ownGe (g := w.heap.size + 1 + 1) (by omega) 3
  have Z4 := HU6.out.ownGe (g := w.heap.size + 1 + 1) (by omega) 4
  have Z5 := HU6.out.ownGe (g := w.heap.size + 1 + 1) (by omega) 5
  have Z6 := HU6.out.ownGe (g := w.heap.size + 1 + 1) (by omega) 6
  have Z7 := HU6.out.ownGe (g := w.heap.size + 1 + 1) (by omega) 7
  have Z8 := HU6.out.ownGe (g := w.heap.size + 1 + 1) (by omega) 8
  have Z9 := HU6.out.ownGe (g := w.heap.size + 1 + 1) (by omega) 9
  have Z10 := HU6.out.ownGe (g := w.heap.size + 1 + 1) (by omega) 10
  clear r0_ r1_ r2_ r3_ r4_ r5_ r6_ r7_ r8_ r9_ r10_ z0_ z1_ z2_ z3_ z4_ z5_ z6_ z7_ z8_ z9_ z10_ s3_ q0_ q1_ q2_ hw
  go_wp2_with fail
  refine bodyPost_ret (v := .tuple #[.agg #[.int .i64 x, .int .i64 1, .int .i64 x, .int .i64 1, .int .i64 x, .int .i64 1, .slice none 0 0, .int .u64 0, .int .u64 0, .int .u64 0, .int .u64 0], .int .i64 0]) (by simp [results, Tryz.results7, go_sem, R0, R1, R2, R3, R4, R5, R6, R7, R8, R9, R10]) rfl ⟨rfl, ?_⟩
  exact HU6.out.set11 (by omega)
end Go.Proofs.YtflahclphdlolaaGreat

/- What Ask of the reference of package recent returns: a part. -/

namespace Go.Proofs.YtflahclphdlolaaGreat
open Go.RowKit

set_option maxHeartbeats 8000000 in
set_option maxRecDepth 100000 in
theorem rask9_other (v c now o a b : Int) (n k : Nat) (A : Option Addr) (L : List It) (hst : stB v c now L = true) (ho : ¬ (1 ≤ o ∧ o ≤ 8)) (w : World) (hS : Sl w A n L) :
    Calls Tryz.prog 7 #[.agg #[.int .i64 v, .int .i64 c, .int .i64 now, .slice A n k], .agg #[.int .i64 o, .int .i64 a, .int .i64 b]] w fun e w' => e = .returned (.tuple #[.agg #[.int .i64 0, .int .i64 0, .int .i64 0, .int .i64 0, .int .i64 0, .int .i64 0, .slice none 0 0, .int .u64 0, .int .u64 0, .int .u64 0, .int .u64 0], .int .i64 12]) ∧ Up w w' := by
  have KV := Lib.hid (fun W (h : Sl W A n L) => rvalidate9_up v c now n k A L W h)
  rw [stE_yes hst] at KV
  have HS := Lib.hid hS
  obtain ⟨hI, hl, hs⟩ := st_small hst
  have hn : n ≤ 65536 := by rw [← hS.1]; exact hl
  have KE := Lib.hid (fun W (h : Sl W A n L) => rleast_up n k A L (by omega) W h)
  have KG := Lib.hid (fun W (h : Sl W A n L) => rgreatest_up n k A L (by omega) W h)
  have KS := Lib.hid (fun W (h : Sl W A n L) => rsum_up n k A L (by omega) hI W h)
  have KQ := Lib.hid (fun W (h : Sl W A n L) => rsquaresE_up n k A L (by omega) hI W h)
  have hsm : In (smZ L) := by have := sm_bound hs; unfold In; omega
  have hsq : In (sqZ L) := by have := sq_bound hs; unfold In; omega
  rw [leE_V] at KE
  rw [grE_V] at KG
  rw [fit_yes hsm, fits_yes hsm] at KS
  rw [fit_yes hsq, fits_yes hsq] at KQ
  unfold got at KE KG KS KQ
  obtain ⟨x1, x2, x3, x4⟩ := ext_in hs
  have t1 : (o == 1) = false := by simp; omega
  have t2 : (o == 2) = false := by simp; omega
  have t3 : (o == 3) = false := by simp; omega
  have t4 : (o == 4) = false := by simp; omega
  have t5 : (o == 5) = false := by simp; omega
  have t6 : (o == 6) = false := by simp; omega
  have t7 : (o == 7) = false := by simp; omega
  have t8 : (o == 8) = false := by simp; omega
  clear ho
  clear hS hst hI hl hs hn hsm hsq
  generalize leV L = lo at *
  generalize grV L = hi at *
  generalize smZ L = sm at *
  generalize sqZ L = sq at *
  generalize decide (L ≠ []) = ne at *
  go_enter Tryz.func7, Tryz.ntmps7
  go_wp2_with (go_at_call 22; (with_reducible refine (KV.out _ (HS.out.up ((((Up.refl w).alloc _ _).alloc _ _).alloc _ _))).mono ?_); rintro e w1 ⟨rfl, hu⟩; have HU1 := Lib.hid (((((Up.refl w).alloc #[.int .i64 v, .int .i64 c, .int .i64 now, .slice A n k] 24).alloc #[.int .i64 o, .int .i64 a, .int .i64 b] 26).alloc #[.int .i64 0, .int .i64 0, .int .i64 0, .int .i64 0, .int .i64 0, .int .i64 0, .slice none 0 0, .int .u64 0, .int .u64 0, .int .u64 0, .int .u64 0] 40).trans hu); have s3 := hu.keep w.heap.size 3 (.slice A n k) (by simp [go_sem]); have q0 := hu.keep (w.heap.size + 1) 0 (.int .i64 o) (by simp [go_sem]); have q1 := hu.keep (w.heap.size + 1) 1 (.int .i64 a) (by simp [go_sem]); have q2 := hu.keep (w.heap.size + 1) 2 (.int .i64 b) (by simp [go_sem]); have r0 := hu.keep (w.heap.size + 1 + 1) 0 (.int .i64 0) (by simp [go_sem]); have r1 := hu.keep (w.heap.size + 1 + 1) 1 (.int .i64 0) (by simp [go_sem]); have r2 := hu.keep (w.heap.size + 1 + 1) 2 (.int .i64 0) (by simp [go_sem]); have r3 := hu.keep (w.heap.size + 1 + 1) 3 (.int .i64 0) (by simp [go_sem]); have r4 := hu.keep (w.heap.size + 1 + 1) 4 (.int .i64 0) (by simp [go_sem]); have r5 := hu.keep (w.heap.size + 1 + 1) 5 (.int .i64 0) (by simp [go_sem]); have r6 := hu.keep (w.heap.size + 1 + 1) 6 (.slice none 0 0) (by simp [go_sem]); have r7 := hu.keep (w.heap.size + 1 + 1) 7 (.int .u64 0) (by simp [go_sem]); have r8 := hu.keep (w.heap.size + 1 + 1) 8 (.int .u64 0) (by simp [go_sem]); have r9 := hu.keep (w.heap.size + 1 + 1) 9 (.int .u64 0) (by simp [go_sem]); have r10 := hu.keep (w.heap.size + 1 + 1) 10 (.int .u64 0) (by simp [go_sem]); have z0 := HU1.out.ownGe (g := w.heap.size + 1 + 1) (by omega) 0; have z1 := HU1.out.ownGe (g := w.heap.size + 1 + 1) (by omega) 1; have z2 := HU1.out.ownGe (g := w.heap.size + 1 + 1) (by omega) 2; have z3 := HU1.out.ownGe (g := w.heap.size + 1 + 1) (by omega) 3; have z4 := HU1.out.ownGe (g := w.heap.size + 1 + 1) (by omega) 4; have z5 := HU1.out.ownGe (g := w.heap.size + 1 + 1) (by omega) 5; have z6 := HU1.out.ownGe (g := w.heap.size + 1 + 1) (by omega) 6; have z7 := HU1.out.ownGe (g := w.heap.size + 1 + 1) (by omega) 7; have z8 := HU1.out.ownGe (g := w.heap.size + 1 + 1) (by omega) 8; have z9 := HU1.out.ownGe (g := w.heap.size + 1 + 1) (by omega) 9; have z10 := HU1.out.ownGe (g := w.heap.size + 1 + 1) (by omega) 10; have hlt : w.heap.size + 1 + 1 < w1.heap.size := World.block_lt_of_cell? _ _ r0; clear hu)
  have H0 := Lib.hid r0
  have H1 := Lib.hid r1
  have H2 := Lib.hid r2
  have H3 := Lib.hid r3
  have H4 := Lib.hid r4
  have H5 := Lib.hid r5
  have H6 := Lib.hid r6
  have H7 := Lib.hid r7
  have H8 := Lib.hid r8
  have H9 := Lib.hid r9
  have H10 := Lib.hid r10
  have HQ0 := Lib.hid q0
  have HQ1 := Lib.hid q1
  have HQ2 := Lib.hid q2
  clear q0 q1 q2 r0 r1 r2 r3 r4 r5 r6 r7 r8 r9 r10 z0 z1 z2 z3 z4 z5 z6 z7 z8 z9 z10
  have HS3 := Lib.hid s3
  clear s3
  refine (KE.out _ (HS.out.up HU1.out)).mono ?_
  rintro e w2 ⟨rfl, hu2⟩
  have hv2 := hu2
  have t3_2 := hv2.keep _ _ _ HS3.out
  go_wp2_with fail
  clear t3_2
  refine (KG.out _ (HS.out.up (HU1.out.trans hv2))).mono ?_
  rintro e w3 ⟨rfl, hu3⟩
  have hv3 := hv2.trans hu3
  have t3_3 := hv3.keep _ _ _ HS3.out
  go_wp2_with fail
  clear t3_3
  refine (KS.out _ (HS.out.up (HU1.out.trans hv3))).mono ?_
  rintro e w4 ⟨rfl, hu4⟩
  have hv4 := hv3.trans hu4
  have t3_4 := hv4.keep _ _ _ HS3.out
  go_wp2_with fail
  clear t3_4
  refine (KQ.out _ (HS.out.up (HU1.out.trans hv4))).mono ?_
  rintro e w5 ⟨rfl, hu5⟩
  have hv5 := hv4.trans hu5
  have HU5 := Lib.hid (HU1.out.trans hv5)
  have s3_ := hv5.keep _ _ _ HS3.out
  have q0_ := hv5.keep _ _ _ HQ0.out
  have q1_ := hv5.keep _ _ _ HQ1.out
  have q2_ := hv5.keep _ _ _ HQ2.out
  have r0_ := hv5.keep _ _ _ H0.out
  have r1_ := hv5.keep _ _ _ H1.out
  have r2_ := hv5.keep _ _ _ H2.out
  have r3_ := hv5.keep _ _ _ H3.out
  have r4_ := hv5.keep _ _ _ H4.out
  have r5_ := hv5.keep _ _ _ H5.out
  have r6_ := hv5.keep _ _ _ H6.out
  have r7_ := hv5.keep _ _ _ H7.out
  have r8_ := hv5.keep _ _ _ H8.out
  have r9_ := hv5.keep _ _ _ H9.out
  have r10_ := hv5.keep _ _ _ H10.out
  have z0_ := HU5.out.ownGe (g := w.heap.size + 1 + 1) (by omega) 0
  have z1_ := HU5.out.ownGe (g := w.heap.size + 1 + 1) (by omega) 1
  have z2_ := HU5.out.ownGe (g := w.heap.size + 1 + 1) (by omega) 2
  have z3_ := HU5.out.ownGe (g := w.heap.size + 1 + 1) (by omega) 3
  have z4_ := HU5.out.ownGe (g := w.heap.size + 1 + 1) (by omega) 4
  have z5_ := HU5.out.ownGe (g := w.heap.size + 1 + 1) (by omega) 5
  have z6_ := HU5.out.ownGe (g := w.heap.size + 1 + 1) (by omega) 6
  have z7_ := HU5.out.ownGe (g := w.heap.size + 1 + 1) (by omega) 7
  have z8_ := HU5.out.ownGe (g := w.heap.size + 1 + 1) (by omega) 8
  have z9_ := HU5.out.ownGe (g := w.heap.size + 1 + 1) (by omega) 9
  have z10_ := HU5.out.ownGe (g := w.heap.size + 1 + 1) (by omega) 10
  have hlt5 : w.heap.size + 1 + 1 < w5.heap.size := World.block_lt_of_cell? _ _ r0_
  clear hu2 hu3 hu4 hu5 hv2 hv3 hv4 hv5 HS3 HQ0 HQ1 HQ2 H0 H1 H2 H3 H4 H5 H6 H7 H8 H9 H10
  go_wp2_with fail
  refine bodyPost_ret (v := .tuple #[.agg #[.int .i64 0, .int .i64 0, .int .i64 0, .int .i64 0, .int .i64 0, .int .i64 0, .slice none 0 0, .int .u64 0, .int .u64 0, .int .u64 0, .int .u64 0], .int .i64 12]) (by simp [results, Tryz.results7, go_sem, r0_, r1_, r2_, r3_, r4_, r5_, r6_, r7_, r8_, r9_, r10_]) rfl ⟨rfl, ?_⟩
  exact HU5.out.set11 (by omega)

set_option maxHeartbeats 8000000 in
set_option maxRecDepth 100000 in
theorem rask9_6 (v c now a b : Int) (n k : Nat) (A : Option Addr) (L : List It) (hst : stB v c now L = true) {N D e0 : Int} {Vs : List Int} (h : (if L = [] then ((0 : Int), (0 : Int), ([] : List Int), (7 : Int)) else (0, 0, [leV L, grV L], 0)) = (N, D, Vs, e0)) (w : World) (hS : Sl w A n L) :
    Calls Tryz.prog 7 #[.agg #[.int .i64 v, .int .i64 c, .int .i64 now, .slice A n k], .agg #[.int .i64 6, .int .i64 a, .int .i64 b]] w fun e w' => ∃ A' k', e = .returned (.tuple #[.agg #[.int .i64 N, .int .i64 D, .int .i64 N, .int .i64 D, .int .i64 N, .int .i64 D, .slice A' Vs.length k', .int .u64 0, .int .u64 0, .int .u64 0, .int .u64 0], .int .i64 e0]) ∧ Sn w' A' Vs.length Vs ∧ Up w w' := by
  have KV := Lib.hid (fun W (h : Sl W A n L) => rvalidate9_up v c now n k A L W h)
  rw [stE_yes hst] at KV
  have HS := Lib.hid hS
  obtain ⟨hI, hl, hs⟩ := st_small hst
  have hn : n ≤ 65536 := by rw [← hS.1]; exact hl
  have KE := Lib.hid (fun W (h : Sl W A n L) => rleast_up n k A L (by omega) W h)
  have KG := Lib.hid (fun W (h : Sl W A n L) => rgreatest_up n k A L (by omega) W h)
  have KS := Lib.hid (fun W (h : Sl W A n L) => rsum_up n k A L (by omega) hI W h)
  have KQ := Lib.hid (fun W (h : Sl W A n L) => rsquaresE_up n k A L (by omega) hI W h)
  have hsm : In (smZ L) := by have := sm_bound hs; unfold In; omega
  have hsq : In (sqZ L) := by have := sq_bound hs; unfold In; omega
  rw [leE_V] at KE
  rw [grE_V] at KG
  rw [fit_yes hsm, fits_yes hsm] at KS
  rw [fit_yes hsq, fits_yes hsq] at KQ
  unfold got at KE KG KS KQ
  obtain ⟨x1, x2, x3, x4⟩ := ext_in hs
  by_cases he : L = []
  · rw [if_pos he] at h
    cases h
    have t1 : ((n : Int) == 0) = true := by rw [← hS.1, he]; rfl
    clear he
    clear hS hst hI hl hs hn hsm hsq
    generalize leV L = lo at *
    generalize grV L = hi at *
    generalize smZ L = sm at *
    generalize sqZ L = sq at *
    generalize decide (L ≠ []) = ne at *
    go_enter Tryz.func7, Tryz.ntmps7
    go_wp2_with (go_at_call 22; (with_reducible refine (KV.out _ (HS.out.up ((((Up.refl w).alloc _ _).alloc _ _).alloc _ _))).mono ?_); rintro e w1 ⟨rfl, hu⟩; have HU1 := Lib.hid (((((Up.refl w).alloc #[.int .i64 v, .int .i64 c, .int .i64 now, .slice A n k] 24).alloc #[.int .i64 6, .int .i64 a, .int .i64 b] 26).alloc #[.int .i64 0, .int .i64 0, .int .i64 0, .int .i64 0, .int .i64 0, .int .i64 0, .slice none 0 0, .int .u64 0, .int .u64 0, .int .u64 0, .int .u64 0] 40).trans hu); have s3 := hu.keep w.heap.size 3 (.slice A n k) (by simp [go_sem]); have q0 := hu.keep (w.heap.size + 1) 0 (.int .i64 6) (by simp [go_sem]); have q1 := hu.keep (w.heap.size + 1) 1 (.int .i64 a) (by simp [go_sem]); have q2 := hu.keep (w.heap.size + 1) 2 (.int .i64 b) (by simp [go_sem]); have r0 := hu.keep (w.heap.size + 1 + 1) 0 (.int .i64 0) (by simp [go_sem]); have r1 := hu.keep (w.heap.size + 1 + 1) 1 (.int .i64 0) (by simp [go_sem]); have r2 := hu.keep (w.heap.size + 1 + 1) 2 (.int .i64 0) (by simp [go_sem]); have r3 := hu.keep (w.heap.size + 1 + 1) 3 (.int .i64 0) (by simp [go_sem]); have r4 := hu.keep (w.heap.size + 1 + 1) 4 (.int .i64 0) (by simp [go_sem]); have r5 := hu.keep (w.heap.size + 1 + 1) 5 (.int .i64 0) (by simp [go_sem]); have r6 := hu.keep (w.heap.size + 1 + 1) 6 (.slice none 0 0) (by simp [go_sem]); have r7 := hu.keep (w.heap.size + 1 + 1) 7 (.int .u64 0) (by simp [go_sem]); have r8 := hu.keep (w.heap.size + 1 + 1) 8 (.int .u64 0) (by simp [go_sem]); have r9 := hu.keep (w.heap.size + 1 + 1) 9 (.int .u64 0) (by simp [go_sem]); have r10 := hu.keep (w.heap.size + 1 + 1) 10 (.int .u64 0) (by simp [go_sem]); have z0 := HU1.out.ownGe (g := w.heap.size + 1 + 1) (by omega) 0; have z1 := HU1.out.ownGe (g := w.heap.size + 1 + 1) (by omega) 1; have z2 := HU1.out.ownGe (g := w.heap.size + 1 + 1) (by omega) 2; have z3 := HU1.out.ownGe (g := w.heap.size + 1 + 1) (by omega) 3; have z4 := HU1.out.ownGe (g := w.heap.size + 1 + 1) (by omega) 4; have z5 := HU1.out.ownGe (g := w.heap.size + 1 + 1) (by omega) 5; have z6 := HU1.out.ownGe (g := w.heap.size + 1 + 1) (by omega) 6; have z7 := HU1.out.ownGe (g := w.heap.size + 1 + 1) (by omega) 7; have z8 := HU1.out.ownGe (g := w.heap.size + 1 + 1) (by omega) 8; have z9 := HU1.out.ownGe (g := w.heap.size + 1 + 1) (by omega) 9; have z10 := HU1.out.ownGe (g := w.heap.size + 1 + 1) (by omega) 10; have hlt : w.heap.size + 1 + 1 < w1.heap.size := World.block_lt_of_cell? _ _ r0; clear hu)
    have H0 := Lib.hid r0
    have H1 := Lib.hid r1
    have H2 := Lib.hid r2
    have H3 := Lib.hid r3
    have H4 := Lib.hid r4
    have H5 := Lib.hid r5
    have H6 := Lib.hid r6
    have H7 := Lib.hid r7
    have H8 := Lib.hid r8
    have H9 := Lib.hid r9
    have H10 := Lib.hid r10
    have HQ0 := Lib.hid q0
    have HQ1 := Lib.hid q1
    have HQ2 := Lib.hid q2
    clear q0 q1 q2 r0 r1 r2 r3 r4 r5 r6 r7 r8 r9 r10 z0 z1 z2 z3 z4 z5 z6 z7 z8 z9 z10
    have HS3 := Lib.hid s3
    clear s3
    refine (KE.out _ (HS.out.up HU1.out)).mono ?_
    rintro e w2 ⟨rfl, hu2⟩
    have hv2 := hu2
    have t3_2 := hv2.keep _ _ _ HS3.out
    go_wp2_with fail
    clear t3_2
    refine (KG.out _ (HS.out.up (HU1.out.trans hv2))).mono ?_
    rintro e w3 ⟨rfl, hu3⟩
    have hv3 := hv2.trans hu3
    have t3_3 := hv3.keep _ _ _ HS3.out
    go_wp2_with fail
    clear t3_3
    refine (KS.out _ (HS.out.up (HU1.out.trans hv3))).mono ?_
    rintro e w4 ⟨rfl, hu4⟩
    have hv4 := hv3.trans hu4
    have t3_4 := hv4.keep _ _ _ HS3.out
    go_wp2_with fail
    clear t3_4
    refine (KQ.out _ (HS.out.up (HU1.out.trans hv4))).mono ?_
    rintro e w5 ⟨rfl, hu5⟩
    have hv5 := hv4.trans hu5
    have HU5 := Lib.hid (HU1.out.trans hv5)
    have s3_ := hv5.keep _ _ _ HS3.out
    have q0_ := hv5.keep _ _ _ HQ0.out
    have q1_ := hv5.keep _ _ _ HQ1.out
    have q2_ := hv5.keep _ _ _ HQ2.out
    have r0_ := hv5.keep _ _ _ H0.out
    have r1_ := hv5.keep _ _ _ H1.out
    have r2_ := hv5.keep _ _ _ H2.out
    have r3_ := hv5.keep _ _ _ H3.out
    have r4_ := hv5.keep _ _ _ H4.out
    have r5_ := hv5.keep _ _ _ H5.out
    have r6_ := hv5.keep _ _ _ H6.out
    have r7_ := hv5.keep _ _ _ H7.out
    have r8_ := hv5.keep _ _ _ H8.out
    have r9_ := hv5.keep _ _ _ H9.out
    have r10_ := hv5.keep _ _ _ H10.out
    have z0_ := HU5.out.ownGe (g := w.heap.size + 1 + 1) (by omega) 0
    have z1_ := HU5.out.ownGe (g := w.heap.size + 1 + 1) (by omega) 1
    have z2_ := HU5.out.ownGe (g := w.heap.size + 1 + 1) (by omega) 2
    have z3_ := HU5.out.ownGe (g := w.heap.size + 1 + 1) (by omega) 3
    have z4_ := HU5.out.ownGe (g := w.heap.size + 1 + 1) (by omega) 4
    have z5_ := HU5.out.ownGe (g := w.heap.size + 1 + 1) (by omega) 5
    have z6_ := HU5.out.ownGe (g := w.heap.size + 1 + 1) (by omega) 6
    have z7_ := HU5.out.ownGe (g := w.heap.size + 1 + 1) (by omega) 7
    have z8_ := HU5.out.ownGe (g := w.heap.size + 1 + 1) (by omega) 8
    have z9_ := HU5.out.ownGe (g := w.heap.size + 1 + 1) (by omega) 9
    have z10_ := HU5.out.ownGe (g := w.heap.size + 1 + 1) (by omega) 10
    have hlt5 : w.heap.size + 1 + 1 < w5.heap.size := World.block_lt_of_cell? _ _ r0_
    clear hu2 hu3 hu4 hu5 hv2 hv3 hv4 hv5 HS3 HQ0 HQ1 HQ2 H0 H1 H2 H3 H4 H5 H6 H7 H8 H9 H10
    go_wp2_with fail
    refine bodyPost_ret (v := .tuple #[.agg #[.int .i64 0, .int .i64 0, .int .i64 0, .int .i64 0, .int .i64 0, .int .i64 0, .slice none 0 0, .int .u64 0, .int .u64 0, .int .u64 0, .int .u64 0], .int .i64 7]) (by simp [results, Tryz.results7, go_sem, r0_, r1_, r2_, r3_, r4_, r5_, r6_, r7_, r8_, r9_, r10_]) rfl ⟨none, 0, rfl, Sn.none_, ?_⟩
    exact HU5.out.set11 (by omega)
  · rw [if_neg he] at h
    cases h
    have t1 : ((n : Int) == 0) = false := by
      have : 0 < L.length := List.length_pos_iff.2 he
      rw [hS.1] at this
      simp; omega
    clear he
    clear hS hst hI hl hs hn hsm hsq
    generalize leV L = lo at *
    generalize grV L = hi at *
    generalize smZ L = sm at *
    generalize sqZ L = sq at *
    generalize decide (L ≠ []) = ne at *
    go_enter Tryz.func7, Tryz.ntmps7
    go_wp2_with (go_at_call 22; (with_reducible refine (KV.out _ (HS.out.up ((((Up.refl w).alloc _ _).alloc _ _).alloc _ _))).mono ?_); rintro e w1 ⟨rfl, hu⟩; have HU1 := Lib.hid (((((Up.refl w).alloc #[.int .i64 v, .int .i64 c, .int .i64 now, .slice A n k] 24).alloc #[.int .i64 6, .int .i64 a, .int .i64 b] 26).alloc #[.int .i64 0, .int .i64 0, .int .i64 0, .int .i64 0, .int .i64 0, .int .i64 0, .slice none 0 0, .int .u64 0, .int .u64 0, .int .u64 0, .int .u64 0] 40).trans hu); have s3 := hu.keep w.heap.size 3 (.slice A n k) (by simp [go_sem]); have q0 := hu.keep (w.heap.size + 1) 0 (.int .i64 6) (by simp [go_sem]); have q1 := hu.keep (w.heap.size + 1) 1 (.int .i64 a) (by simp [go_sem]); have q2 := hu.keep (w.heap.size + 1) 2 (.int .i64 b) (by simp [go_sem]); have r0 := hu.keep (w.heap.size + 1 + 1) 0 (.int .i64 0) (by simp [go_sem]); have r1 := hu.keep (w.heap.size + 1 + 1) 1 (.int .i64 0) (by simp [go_sem]); have r2 := hu.keep (w.heap.size + 1 + 1) 2 (.int .i64 0) (by simp [go_sem]); have r3 := hu.keep (w.heap.size + 1 + 1) 3 (.int .i64 0) (by simp [go_sem]); have r4 := hu.keep (w.heap.size + 1 + 1) 4 (.int .i64 0) (by simp [go_sem]); have r5 := hu.keep (w.heap.size + 1 + 1) 5 (.int .i64 0) (by simp [go_sem]); have r6 := hu.keep (w.heap.size + 1 + 1) 6 (.slice none 0 0) (by simp [go_sem]); have r7 := hu.keep (w.heap.size + 1 + 1) 7 (.int .u64 0) (by simp [go_sem]); have r8 := hu.keep (w.heap.size + 1 + 1) 8 (.int .u64 0) (by simp [go_sem]); have r9 := hu.keep (w.heap.size + 1 + 1) 9 (.int .u64 0) (by simp [go_sem]); have r10 := hu.keep (w.heap.size + 1 + 1) 10 (.int .u64 0) (by simp [go_sem]); have z0 := HU1.out.ownGe (g := w.heap.size + 1 + 1) (by omega) 0; have z1 := HU1.out.ownGe (g := w.heap.size + 1 + 1) (by omega) 1; have z2 := HU1.out.ownGe (g := w.heap.size + 1 + 1) (by omega) 2; have z3 := HU1.out.ownGe (g := w.heap.size + 1 + 1) (by omega) 3; have z4 := HU1.out.ownGe (g := w.heap.size + 1 + 1) (by omega) 4; have z5 := HU1.out.ownGe (g := w.heap.size + 1 + 1) (by omega) 5; have z6 := HU1.out.ownGe (g := w.heap.size + 1 + 1) (by omega) 6; have z7 := HU1.out.ownGe (g := w.heap.size + 1 + 1) (by omega) 7; have z8 := HU1.out.ownGe (g := w.heap.size + 1 + 1) (by omega) 8; have z9 := HU1.out.ownGe (g := w.heap.size + 1 + 1) (by omega) 9; have z10 := HU1.out.ownGe (g := w.heap.size + 1 + 1) (by omega) 10; have hlt : w.heap.size + 1 + 1 < w1.heap.size := World.block_lt_of_cell? _ _ r0; clear hu)
    have H0 := Lib.hid r0
    have H1 := Lib.hid r1
    have H2 := Lib.hid r2
    have H3 := Lib.hid r3
    have H4 := Lib.hid r4
    have H5 := Lib.hid r5
    have H6 := Lib.hid r6
    have H7 := Lib.hid r7
    have H8 := Lib.hid r8
    have H9 := Lib.hid r9
    have H10 := Lib.hid r10
    have HQ0 := Lib.hid q0
    have HQ1 := Lib.hid q1
    have HQ2 := Lib.hid q2
    clear q0 q1 q2 r0 r1 r2 r3 r4 r5 r6 r7 r8 r9 r10 z0 z1 z2 z3 z4 z5 z6 z7 z8 z9 z10
    have HS3 := Lib.hid s3
    clear s3
    refine (KE.out _ (HS.out.up HU1.out)).mono ?_
    rintro e w2 ⟨rfl, hu2⟩
    have hv2 := hu2
    have t3_2 := hv2.keep _ _ _ HS3.out
    go_wp2_with fail
    clear t3_2
    refine (KG.out _ (HS.out.up (HU1.out.trans hv2))).mono ?_
    rintro e w3 ⟨rfl, hu3⟩
    have hv3 := hv2.trans hu3
    have t3_3 := hv3.keep _ _ _ HS3.out
    go_wp2_with fail
    clear t3_3
    refine (KS.out _ (HS.out.up (HU1.out.trans hv3))).mono ?_
    rintro e w4 ⟨rfl, hu4⟩
    have hv4 := hv3.trans hu4
    have t3_4 := hv4.keep _ _ _ HS3.out
    go_wp2_with fail
    clear t3_4
    refine (KQ.out _ (HS.out.up (HU1.out.trans hv4))).mono ?_
    rintro e w5 ⟨rfl, hu5⟩
    have hv5 := hv4.trans hu5
    have HU5 := Lib.hid (HU1.out.trans hv5)
    have s3_ := hv5.keep _ _ _ HS3.out
    have q0_ := hv5.keep _ _ _ HQ0.out
    have q1_ := hv5.keep _ _ _ HQ1.out
    have q2_ := hv5.keep _ _ _ HQ2.out
    have r0_ := hv5.keep _ _ _ H0.out
    have r1_ := hv5.keep _ _ _ H1.out
    have r2_ := hv5.keep _ _ _ H2.out
    have r3_ := hv5.keep _ _ _ H3.out
    have r4_ := hv5.keep _ _ _ H4.out
    have r5_ := hv5.keep _ _ _ H5.out
    have r6_ := hv5.keep _ _ _ H6.out
    have r7_ := hv5.keep _ _ _ H7.out
    have r8_ := hv5.keep _ _ _ H8.out
    have r9_ := hv5.keep _ _ _ H9.out
    have r10_ := hv5.keep _ _ _ H10.out
    have z0_ := HU5.out.ownGe (g := w.heap.size + 1 + 1) (by omega) 0
    have z1_ := HU5.out.ownGe (g := w.heap.size + 1 + 1) (by omega) 1
    have z2_ := HU5.out.ownGe (g := w.heap.size + 1 + 1) (by omega) 2
    have z3_ := HU5.out.ownGe (g := w.heap.size + 1 + 1) (by omega) 3
    have z4_ := HU5.out.ownGe (g := w.heap.size + 1 + 1) (by omega) 4
    have z5_ := HU5.out.ownGe (g := w.heap.size + 1 + 1) (by omega) 5
    have z6_ := HU5.out.ownGe (g := w.heap.size + 1 + 1) (by omega) 6
    have z7_ := HU5.out.ownGe (g := w.heap.size + 1 + 1) (by omega) 7
    have z8_ := HU5.out.ownGe (g := w.heap.size + 1 + 1) (by omega) 8
    have z9_ := HU5.out.ownGe (g := w.heap.size + 1 + 1) (by omega) 9
    have z10_ := HU5.out.ownGe (g := w.heap.size + 1 + 1) (by omega) 10
    have hlt5 : w.heap.size + 1 + 1 < w5.heap.size := World.block_lt_of_cell? _ _ r0_
    clear hu2 hu3 hu4 hu5 hv2 hv3 hv4 hv5 HS3 HQ0 HQ1 HQ2 H0 H1 H2 H3 H4 H5 H6 H7 H8 H9 H10
    go_wp2_with fail
    refine bodyPost_ret (v := .tuple #[.agg #[.int .i64 0, .int .i64 0, .int .i64 0, .int .i64 0, .int .i64 0, .int .i64 0, .slice (some ⟨w5.heap.size, 0, none⟩) 2 2, .int .u64 0, .int .u64 0, .int .u64 0, .int .u64 0], .int .i64 0]) (by simp [results, Tryz.results7, go_sem, r0_, r1_, r2_, r3_, r4_, r5_, r6_, r7_, r8_, r9_, r10_, hlt5]) rfl ⟨some ⟨w5.heap.size, 0, none⟩, 2, rfl, ?_, ?_⟩
    · exact (Bn.new _ [lo, hi] _ (by simp [World.setCell])).sn rfl
    · exact (HU5.out.set11 (by omega)).alloc _ _
end Go.Proofs.YtflahclphdlolaaGreat

/- What Ask of the reference of package recent returns: a part. -/

namespace Go.Proofs.YtflahclphdlolaaGreat
open Go.RowKit

set_option maxHeartbeats 8000000 in
set_option maxRecDepth 100000 in
theorem rask9_8 (v c now a b : Int) (n k : Nat) (A : Option Addr) (L : List It) (hst : stB v c now L = true) (hb : b ≤ 9223372036854775807) {N D e0 : Int} {Vs : List Int} (h : (if askB a b = false then ((0 : Int), (0 : Int), ([] : List Int), (1 : Int)) else if (qnO L a b).isSome = true then (0, 0, [(qnO L a b).getD 0], 0) else (0, 0, [], 7)) = (N, D, Vs, e0)) (w : World) (hS : Sl w A n L) :
    Calls Tryz.prog 7 #[.agg #[.int .i64 v, .int .i64 c, .int .i64 now, .slice A n k], .agg #[.int .i64 8, .int .i64 a, .int .i64 b]] w fun e w' => ∃ A' k', e = .returned (.tuple #[.agg #[.int .i64 N, .int .i64 D, .int .i64 N, .int .i64 D, .int .i64 N, .int .i64 D, .slice A' Vs.length k', .int .u64 0, .int .u64 0, .int .u64 0, .int .u64 0], .int .i64 e0]) ∧ Sn w' A' Vs.length Vs ∧ Up w w' := by
  have KV := Lib.hid (fun W (h : Sl W A n L) => rvalidate9_up v c now n k A L W h)
  rw [stE_yes hst] at KV
  have HS := Lib.hid hS
  obtain ⟨hI, hl, hs⟩ := st_small hst
  have hn : n ≤ 65536 := by rw [← hS.1]; exact hl
  have KE := Lib.hid (fun W (h : Sl W A n L) => rleast_up n k A L (by omega) W h)
  have KG := Lib.hid (fun W (h : Sl W A n L) => rgreatest_up n k A L (by omega) W h)
  have KS := Lib.hid (fun W (h : Sl W A n L) => rsum_up n k A L (by omega) hI W h)
  have KQ := Lib.hid (fun W (h : Sl W A n L) => rsquaresE_up n k A L (by omega) hI W h)
  have hsm : In (smZ L) := by have := sm_bound hs; unfold In; omega
  have hsq : In (sqZ L) := by have := sq_bound hs; unfold In; omega
  rw [leE_V] at KE
  rw [grE_V] at KG
  rw [fit_yes hsm, fits_yes hsm] at KS
  rw [fit_yes hsq, fits_yes hsq] at KQ
  unfold got at KE KG KS KQ
  obtain ⟨x1, x2, x3, x4⟩ := ext_in hs
  have KB := Lib.hid (fun W => asks_any a b W)
  have KN := Lib.hid (fun W (g : Sl W A n L) => rquantile_up n k A L a b hb (by omega) W g)
  cases hk : askB a b with
  | false =>
    rw [hk] at KB
    rw [if_pos hk] at h
    cases h
    clear hk KN
    clear hS hst hI hl hs hn hsm hsq
    generalize leV L = lo at *
    generalize grV L = hi at *
    generalize smZ L = sm at *
    generalize sqZ L = sq at *
    generalize decide (L ≠ []) = ne at *
    go_enter Tryz.func7, Tryz.ntmps7
    go_wp2_with (go_at_call 22; (with_reducible refine (KV.out _ (HS.out.up ((((Up.refl w).alloc _ _).alloc _ _).alloc _ _))).mono ?_); rintro e w1 ⟨rfl, hu⟩; have HU1 := Lib.hid (((((Up.refl w).alloc #[.int .i64 v, .int .i64 c, .int .i64 now, .slice A n k] 24).alloc #[.int .i64 8, .int .i64 a, .int .i64 b] 26).alloc #[.int .i64 0, .int .i64 0, .int .i64 0, .int .i64 0, .int .i64 0, .int .i64 0, .slice none 0 0, .int .u64 0, .int .u64 0, .int .u64 0, .int .u64 0] 40).trans hu); have s3 := hu.keep w.heap.size 3 (.slice A n k) (by simp [go_sem]); have q0 := hu.keep (w.heap.size + 1) 0 (.int .i64 8) (by simp [go_sem]); have q1 := hu.keep (w.heap.size + 1) 1 (.int .i64 a) (by simp [go_sem]); have q2 := hu.keep (w.heap.size + 1) 2 (.int .i64 b) (by simp [go_sem]); have r0 := hu.keep (w.heap.size + 1 + 1) 0 (.int .i64 0) (by simp [go_sem]); have r1 := hu.keep (w.heap.size + 1 + 1) 1 (.int .i64 0) (by simp [go_sem]); have r2 := hu.keep (w.heap.size + 1 + 1) 2 (.int .i64 0) (by simp [go_sem]); have r3 := hu.keep (w.heap.size + 1 + 1) 3 (.int .i64 0) (by simp [go_sem]); have r4 := hu.keep (w.heap.size + 1 + 1) 4 (.int .i64 0) (by simp [go_sem]); have r5 := hu.keep (w.heap.size + 1 + 1) 5 (.int .i64 0) (by simp [go_sem]); have r6 := hu.keep (w.heap.size + 1 + 1) 6 (.slice none 0 0) (by simp [go_sem]); have r7 := hu.keep (w.heap.size + 1 + 1) 7 (.int .u64 0) (by simp [go_sem]); have r8 := hu.keep (w.heap.size + 1 + 1) 8 (.int .u64 0) (by simp [go_sem]); have r9 := hu.keep (w.heap.size + 1 + 1) 9 (.int .u64 0) (by simp [go_sem]); have r10 := hu.keep (w.heap.size + 1 + 1) 10 (.int .u64 0) (by simp [go_sem]); have z0 := HU1.out.ownGe (g := w.heap.size + 1 + 1) (by omega) 0; have z1 := HU1.out.ownGe (g := w.heap.size + 1 + 1) (by omega) 1; have z2 := HU1.out.ownGe (g := w.heap.size + 1 + 1) (by omega) 2; have z3 := HU1.out.ownGe (g := w.heap.size + 1 + 1) (by omega) 3; have z4 := HU1.out.ownGe (g := w.heap.size + 1 + 1) (by omega) 4; have z5 := HU1.out.ownGe (g := w.heap.size + 1 + 1) (by omega) 5; have z6 := HU1.out.ownGe (g := w.heap.size + 1 + 1) (by omega) 6; have z7 := HU1.out.ownGe (g := w.heap.size + 1 + 1) (by omega) 7; have z8 := HU1.out.ownGe (g := w.heap.size + 1 + 1) (by omega) 8; have z9 := HU1.out.ownGe (g := w.heap.size + 1 + 1) (by omega) 9; have z10 := HU1.out.ownGe (g := w.heap.size + 1 + 1) (by omega) 10; have hlt : w.heap.size + 1 + 1 < w1.heap.size := World.block_lt_of_cell? _ _ r0; clear hu)
    have H0 := Lib.hid r0
    have H1 := Lib.hid r1
    have H2 := Lib.hid r2
    have H3 := Lib.hid r3
    have H4 := Lib.hid r4
    have H5 := Lib.hid r5
    have H6 := Lib.hid r6
    have H7 := Lib.hid r7
    have H8 := Lib.hid r8
    have H9 := Lib.hid r9
    have H10 := Lib.hid r10
    have HQ0 := Lib.hid q0
    have HQ1 := Lib.hid q1
    have HQ2 := Lib.hid q2
    clear q0 q1 q2 r0 r1 r2 r3 r4 r5 r6 r7 r8 r9 r10 z0 z1 z2 z3 z4 z5 z6 z7 z8 z9 z10
    have HS3 := Lib.hid s3
    clear s3
    refine (KE.out _ (HS.out.up HU1.out)).mono ?_
    rintro e w2 ⟨rfl, hu2⟩
    have hv2 := hu2
    have t3_2 := hv2.keep _ _ _ HS3.out
    go_wp2_with fail
    clear t3_2
    refine (KG.out _ (HS.out.up (HU1.out.trans hv2))).mono ?_
    rintro e w3 ⟨rfl, hu3⟩
    have hv3 := hv2.trans hu3
    have t3_3 := hv3.keep _ _ _ HS3.out
    go_wp2_with fail
    clear t3_3
    refine (KS.out _ (HS.out.up (HU1.out.trans hv3))).mono ?_
    rintro e w4 ⟨rfl, hu4⟩
    have hv4 := hv3.trans hu4
    have t3_4 := hv4.keep _ _ _ HS3.out
    go_wp2_with fail
    clear t3_4
    refine (KQ.out _ (HS.out.up (HU1.out.trans hv4))).mono ?_
    rintro e w5 ⟨rfl, hu5⟩
    have hv5 := hv4.trans hu5
    have HU5 := Lib.hid (HU1.out.trans hv5)
    have s3_ := hv5.keep _ _ _ HS3.out
    have q0_ := hv5.keep _ _ _ HQ0.out
    have q1_ := hv5.keep _ _ _ HQ1.out
    have q2_ := hv5.keep _ _ _ HQ2.out
    have r0_ := hv5.keep _ _ _ H0.out
    have r1_ := hv5.keep _ _ _ H1.out
    have r2_ := hv5.keep _ _ _ H2.out
    have r3_ := hv5.keep _ _ _ H3.out
    have r4_ := hv5.keep _ _ _ H4.out
    have r5_ := hv5.keep _ _ _ H5.out
    have r6_ := hv5.keep _ _ _ H6.out
    have r7_ := hv5.keep _ _ _ H7.out
    have r8_ := hv5.keep _ _ _ H8.out
    have r9_ := hv5.keep _ _ _ H9.out
    have r10_ := hv5.keep _ _ _ H10.out
    have z0_ := HU5.out.ownGe (g := w.heap.size + 1 + 1) (by omega) 0
    have z1_ := HU5.out.ownGe (g := w.heap.size + 1 + 1) (by omega) 1
    have z2_ := HU5.out.ownGe (g := w.heap.size + 1 + 1) (by omega) 2
    have z3_ := HU5.out.ownGe (g := w.heap.size + 1 + 1) (by omega) 3
    have z4_ := HU5.out.ownGe (g := w.heap.size + 1 + 1) (by omega) 4
    have z5_ := HU5.out.ownGe (g := w.heap.size + 1 + 1) (by omega) 5
    have z6_ := HU5.out.ownGe (g := w.heap.size + 1 + 1) (by omega) 6
    have z7_ := HU5.out.ownGe (g := w.heap.size + 1 + 1) (by omega) 7
    have z8_ := HU5.out.ownGe (g := w.heap.size + 1 + 1) (by omega) 8
    have z9_ := HU5.out.ownGe (g := w.heap.size + 1 + 1) (by omega) 9
    have z10_ := HU5.out.ownGe (g := w.heap.size + 1 + 1) (by omega) 10
    have hlt5 : w.heap.size + 1 + 1 < w5.heap.size := World.block_lt_of_cell? _ _ r0_
    clear hu2 hu3 hu4 hu5 hv2 hv3 hv4 hv5 HS3 HQ0 HQ1 HQ2 H0 H1 H2 H3 H4 H5 H6 H7 H8 H9 H10
    go_wp2_with fail
    refine (KB.out _).mono ?_
    rintro e w6 ⟨rfl, rfl⟩
    go_wp2_with fail
    refine bodyPost_ret (v := .tuple #[.agg #[.int .i64 0, .int .i64 0, .int .i64 0, .int .i64 0, .int .i64 0, .int .i64 0, .slice none 0 0, .int .u64 0, .int .u64 0, .int .u64 0, .int .u64 0], .int .i64 1]) (by simp [results, Tryz.results7, go_sem, r0_, r1_, r2_, r3_, r4_, r5_, r6_, r7_, r8_, r9_, r10_]) rfl ⟨none, 0, rfl, Sn.none_, ?_⟩
    exact HU5.out.set11 (by omega)
  | true =>
    rw [hk] at KB
    rw [if_neg (by simp [hk])] at h
    clear hk
    generalize (qnO L a b).getD 0 = yq at *
    generalize (qnO L a b).isSome = sq_ at *
    unfold got at KN
    cases sq_ with
    | false =>
      rw [if_neg (by simp)] at h
      cases h
      clear hS hst hI hl hs hn hsm hsq
      generalize leV L = lo at *
      generalize grV L = hi at *
      generalize smZ L = sm at *
      generalize sqZ L = sq at *
      generalize decide (L ≠ []) = ne at *
      go_enter Tryz.func7, Tryz.ntmps7
      go_wp2_with (go_at_call 22; (with_reducible refine (KV.out _ (HS.out.up ((((Up.refl w).alloc _ _).alloc _ _).alloc _ _))).mono ?_); rintro e w1 ⟨rfl, hu⟩; have HU1 := Lib.hid (((((Up.refl w).alloc #[.int .i64 v, .int .i64 c, .int .i64 now, .slice A n k] 24).alloc #[.int .i64 8, .int .i64 a, .int .i64 b] 26).alloc #[.int .i64 0, .int .i64 0, .int .i64 0, .int .i64 0, .int .i64 0, .int .i64 0, .slice none 0 0, .int .u64 0, .int .u64 0, .int .u64 0, .int .u64 0] 40).trans hu); have s3 := hu.keep w.heap.size 3 (.slice A n k) (by simp [go_sem]); have q0 := hu.keep (w.heap.size + 1) 0 (.int .i64 8) (by simp [go_sem]); have q1 := hu.keep (w.heap.size + 1) 1 (.int .i64 a) (by simp [go_sem]); have q2 := hu.keep (w.heap.size + 1) 2 (.int .i64 b) (by simp [go_sem]); have r0 := hu.keep (w.heap.size + 1 + 1) 0 (.int .i64 0) (by simp [go_sem]); have r1 := hu.keep (w.heap.size + 1 + 1) 1 (.int .i64 0) (by simp [go_sem]); have r2 := hu.keep (w.heap.size + 1 + 1) 2 (.int .i64 0) (by simp [go_sem]); have r3 := hu.keep (w.heap.size + 1 + 1) 3 (.int .i64 0) (by simp [go_sem]); have r4 := hu.keep (w.heap.size + 1 + 1) 4 (.int .i64 0) (by simp [go_sem]); have r5 := hu.keep (w.heap.size + 1 + 1) 5 (.int .i64 0) (by simp [go_sem]); have r6 := hu.keep (w.heap.size + 1 + 1) 6 (.slice none 0 0) (by simp [go_sem]); have r7 := hu.keep (w.heap.size + 1 + 1) 7 (.int .u64 0) (by simp [go_sem]); have r8 := hu.keep (w.heap.size + 1 + 1) 8 (.int .u64 0) (by simp [go_sem]); have r9 := hu.keep (w.heap.size + 1 + 1) 9 (.int .u64 0) (by simp [go_sem]); have r10 := hu.keep (w.heap.size + 1 + 1) 10 (.int .u64 0) (by simp [go_sem]); have z0 := HU1.out.ownGe (g := w.heap.size + 1 + 1) (by omega) 0; have z1 := HU1.out.ownGe (g := w.heap.size + 1 + 1) (by omega) 1; have z2 := HU1.out.ownGe (g := w.heap.size + 1 + 1) (by omega) 2; have z3 := HU1.out.ownGe (g := w.heap.size + 1 + 1) (by omega) 3; have z4 := HU1.out.ownGe (g := w.heap.size + 1 + 1) (by omega) 4; have z5 := HU1.out.ownGe (g := w.heap.size + 1 + 1) (by omega) 5; have z6 := HU1.out.ownGe (g := w.heap.size + 1 + 1) (by omega) 6; have z7 := HU1.out.ownGe (g := w.heap.size + 1 + 1) (by omega) 7; have z8 := HU1.out.ownGe (g := w.heap.size + 1 + 1) (by omega) 8; have z9 := HU1.out.ownGe (g := w.heap.size + 1 + 1) (by omega) 9; have z10 := HU1.out.ownGe (g := w.heap.size + 1 + 1) (by omega) 10; have hlt : w.heap.size + 1 + 1 < w1.heap.size := World.block_lt_of_cell? _ _ r0; clear hu)
      have H0 := Lib.hid r0
      have H1 := Lib.hid r1
      have H2 := Lib.hid r2
      have H3 := Lib.hid r3
      have H4 := Lib.hid r4
      have H5 := Lib.hid r5
      have H6 := Lib.hid r6
      have H7 := Lib.hid r7
      have H8 := Lib.hid r8
      have H9 := Lib.hid r9
      have H10 := Lib.hid r10
      have HQ0 := Lib.hid q0
      have HQ1 := Lib.hid q1
      have HQ2 := Lib.hid q2
      clear q0 q1 q2 r0 r1 r2 r3 r4 r5 r6 r7 r8 r9 r10 z0 z1 z2 z3 z4 z5 z6 z7 z8 z9 z10
      have HS3 := Lib.hid s3
      clear s3
      refine (KE.out _ (HS.out.up HU1.out)).mono ?_
      rintro e w2 ⟨rfl, hu2⟩
      have hv2 := hu2
      have t3_2 := hv2.keep _ _ _ HS3.out
      go_wp2_with fail
      clear t3_2
      refine (KG.out _ (HS.out.up (HU1.out.trans hv2))).mono ?_
      rintro e w3 ⟨rfl, hu3⟩
      have hv3 := hv2.trans hu3
      have t3_3 := hv3.keep _ _ _ HS3.out
      go_wp2_with fail
      clear t3_3
      refine (KS.out _ (HS.out.up (HU1.out.trans hv3))).mono ?_
      rintro e w4 ⟨rfl, hu4⟩
      have hv4 := hv3.trans hu4
      have t3_4 := hv4.keep _ _ _ HS3.out
      go_wp2_with fail
      clear t3_4
      refine (KQ.out _ (HS.out.up (HU1.out.trans hv4))).mono ?_
      rintro e w5 ⟨rfl, hu5⟩
      have hv5 := hv4.trans hu5
      have HU5 := Lib.hid (HU1.out.trans hv5)
      have s3_ := hv5.keep _ _ _ HS3.out
      have q0_ := hv5.keep _ _ _ HQ0.out
      have q1_ := hv5.keep _ _ _ HQ1.out
      have q2_ := hv5.keep _ _ _ HQ2.out
      have r0_ := hv5.keep _ _ _ H0.out
      have r1_ := hv5.keep _ _ _ H1.out
      have r2_ := hv5.keep _ _ _ H2.out
      have r3_ := hv5.keep _ _ _ H3.out
      have r4_ := hv5.keep _ _ _ H4.out
      have r5_ := hv5.keep _ _ _ H5.out
      have r6_ := hv5.keep _ _ _ H6.out
      have r7_ := hv5.keep _ _ _ H7.out
      have r8_ := hv5.keep _ _ _ H8.out
      have r9_ := hv5.keep _ _ _ H9.out
      have r10_ := hv5.keep _ _ _ H10.out
      have z0_ := HU5.out.ownGe (g := w.heap.size + 1 + 1) (by omega) 0
      have z1_ := HU5.out.ownGe (g := w.heap.size + 1 + 1) (by omega) 1
      have z2_ := HU5.out.ownGe (g := w.heap.size + 1 + 1) (by omega) 2
      have z3_ := HU5.out.ownGe (g := w.heap.size + 1 + 1) (by omega) 3
      have z4_ := HU5.out.ownGe (g := w.heap.size + 1 + 1) (by omega) 4
      have z5_ := HU5.out.ownGe (g := w.heap.size + 1 + 1) (by omega) 5
      have z6_ := HU5.out.ownGe (g := w.heap.size + 1 + 1) (by omega) 6
      have z7_ := HU5.out.ownGe (g := w.heap.size + 1 + 1) (by omega) 7
      have z8_ := HU5.out.ownGe (g := w.heap.size + 1 + 1) (by omega) 8
      have z9_ := HU5.out.ownGe (g := w.heap.size + 1 + 1) (by omega) 9
      have z10_ := HU5.out.ownGe (g := w.heap.size + 1 + 1) (by omega) 10
      have hlt5 : w.heap.size + 1 + 1 < w5.heap.size := World.block_lt_of_cell? _ _ r0_
      clear hu2 hu3 hu4 hu5 hv2 hv3 hv4 hv5 HS3 HQ0 HQ1 HQ2 H0 H1 H2 H3 H4 H5 H6 H7 H8 H9 H10
      go_wp2_with fail
      refine (KB.out _).mono ?_
      rintro e w6 ⟨rfl, rfl⟩
      go_wp2_with fail
      refine (KN.out _ (HS.out.up HU5.out)).mono ?_
      rintro e w7 ⟨rfl, hw⟩
      have HU6 := Lib.hid (HU5.out.trans hw)
      have R0 := hw.keep _ _ _ r0_
      have R1 := hw.keep _ _ _ r1_
      have R2 := hw.keep _ _ _ r2_
      have R3 := hw.keep _ _ _ r3_
      have R4 := hw.keep _ _ _ r4_
      have R5 := hw.keep _ _ _ r5_
      have R6 := hw.keep _ _ _ r6_
      have R7 := hw.keep _ _ _ r7_
      have R8 := hw.keep _ _ _ r8_
      have R9 := hw.keep _ _ _ r9_
      have R10 := hw.keep _ _ _ r10_
      have Z0 := HU6.out.ownGe (g := w.heap.size + 1 + 1) (by omega) 0
      have Z1 := HU6.out.ownGe (g := w.heap.size + 1 + 1) (by omega) 1
      have Z2 := HU6.out.ownGe (g := w.heap.size + 1 + 1) (by omega) 2
      have Z3 := HU6.out.ownGe (g := w.heap.size + 1 + 1) (by omega) 3
      have Z4 := HU6.out.ownGe (g := w.heap.size + 1 + 1) (by omega) 4
      have Z5 := HU6.out.ownGe (g := w.heap.size + 1 + 1) (by omega) 5
      have Z6 := HU6.out.ownGe (g := w.heap.size + 1 + 1) (by omega) 6
      have Z7 := HU6.out.ownGe (g := w.heap.size + 1 + 1) (by omega) 7
      have Z8 := HU6.out.ownGe (g := w.heap.size + 1 + 1) (by omega) 8
      have Z9 := HU6.out.ownGe (g := w.heap.size + 1 + 1) (by omega) 9
      have Z10 := HU6.out.ownGe (g := w.heap.size + 1 + 1) (by omega) 10
      clear r0_ r1_ r2_ r3_ r4_ r5_ r6_ r7_ r8_ r9_ r10_ z0_ z1_ z2_ z3_ z4_ z5_ z6_ z7_ z8_ z9_ z10_ s3_ q0_ q1_ q2_ hw
      go_wp2_with fail
      refine bodyPost_ret (v := .tuple #[.agg #[.int .i64 0, .int .i64 0, .int .i64 0, .int .i64 0, .int .i64 0, .int .i64 0, .slice none 0 0, .int .u64 0, .int .u64 0, .int .u64 0, .int .u64 0], .int .i64 7]) (by simp [results, Tryz.results7, go_sem, R0, R1, R2, R3, R4, R5, R6, R7, R8, R9, R10]) rfl ⟨none, 0, rfl, Sn.none_, ?_⟩
      exact HU6.out.set11 (by omega)
    | true =>
      rw [if_pos rfl] at h
      cases h
      clear hS hst hI hl hs hn hsm hsq
      generalize leV L = lo at *
      generalize grV L = hi at *
      generalize smZ L = sm at *
      generalize sqZ L = sq at *
      generalize decide (L ≠ []) = ne at *
      go_enter Tryz.func7, Tryz.ntmps7
      go_wp2_with (go_at_call 22; (with_reducible refine (KV.out _ (HS.out.up ((((Up.refl w).alloc _ _).alloc _ _).alloc _ _))).mono ?_); rintro e w1 ⟨rfl, hu⟩; have HU1 := Lib.hid (((((Up.refl w).alloc #[.int .i64 v, .int .i64 c, .int .i64 now, .slice A n k] 24).alloc #[.int .i64 8, .int .i64 a, .int .i64 b] 26).alloc #[.int .i64 0, .int .i64 0, .int .i64 0, .int .i64 0, .int .i64 0, .int .i64 0, .slice none 0 0, .int .u64 0, .int .u64 0, .int .u64 0, .int .u64 0] 40).trans hu); have s3 := hu.keep w.heap.size 3 (.slice A n k) (by simp [go_sem]); have q0 := hu.keep (w.heap.size + 1) 0 (.int .i64 8) (by simp [go_sem]); have q1 := hu.keep (w.heap.size + 1) 1 (.int .i64 a) (by simp [go_sem]); have q2 := hu.keep (w.heap.size + 1) 2 (.int .i64 b) (by simp [go_sem]); have r0 := hu.keep (w.heap.size + 1 + 1) 0 (.int .i64 0) (by simp [go_sem]); have r1 := hu.keep (w.heap.size + 1 + 1) 1 (.int .i64 0) (by simp [go_sem]); have r2 := hu.keep (w.heap.size + 1 + 1) 2 (.int .i64 0) (by simp [go_sem]); have r3 := hu.keep (w.heap.size + 1 + 1) 3 (.int .i64 0) (by simp [go_sem]); have r4 := hu.keep (w.heap.size + 1 + 1) 4 (.int .i64 0) (by simp [go_sem]); have r5 := hu.keep (w.heap.size + 1 + 1) 5 (.int .i64 0) (by simp [go_sem]); have r6 := hu.keep (w.heap.size + 1 + 1) 6 (.slice none 0 0) (by simp [go_sem]); have r7 := hu.keep (w.heap.size + 1 + 1) 7 (.int .u64 0) (by simp [go_sem]); have r8 := hu.keep (w.heap.size + 1 + 1) 8 (.int .u64 0) (by simp [go_sem]); have r9 := hu.keep (w.heap.size + 1 + 1) 9 (.int .u64 0) (by simp [go_sem]); have r10 := hu.keep (w.heap.size + 1 + 1) 10 (.int .u64 0) (by simp [go_sem]); have z0 := HU1.out.ownGe (g := w.heap.size + 1 + 1) (by omega) 0; have z1 := HU1.out.ownGe (g := w.heap.size + 1 + 1) (by omega) 1; have z2 := HU1.out.ownGe (g := w.heap.size + 1 + 1) (by omega) 2; have z3 := HU1.out.ownGe (g := w.heap.size + 1 + 1) (by omega) 3; have z4 := HU1.out.ownGe (g := w.heap.size + 1 + 1) (by omega) 4; have z5 := HU1.out.ownGe (g := w.heap.size + 1 + 1) (by omega) 5; have z6 := HU1.out.ownGe (g := w.heap.size + 1 + 1) (by omega) 6; have z7 := HU1.out.ownGe (g := w.heap.size + 1 + 1) (by omega) 7; have z8 := HU1.out.ownGe (g := w.heap.size + 1 + 1) (by omega) 8; have z9 := HU1.out.ownGe (g := w.heap.size + 1 + 1) (by omega) 9; have z10 := HU1.out.ownGe (g := w.heap.size + 1 + 1) (by omega) 10; have hlt : w.heap.size + 1 + 1 < w1.heap.size := World.block_lt_of_cell? _ _ r0; clear hu)
      have H0 := Lib.hid r0
      have H1 := Lib.hid r1
      have H2 := Lib.hid r2
      have H3 := Lib.hid r3
      have H4 := Lib.hid r4
      have H5 := Lib.hid r5
      have H6 := Lib.hid r6
      have H7 := Lib.hid r7
      have H8 := Lib.hid r8
      have H9 := Lib.hid r9
      have H10 := Lib.hid r10
      have HQ0 := Lib.hid q0
      have HQ1 := Lib.hid q1
      have HQ2 := Lib.hid q2
      clear q0 q1 q2 r0 r1 r2 r3 r4 r5 r6 r7 r8 r9 r10 z0 z1 z2 z3 z4 z5 z6 z7 z8 z9 z10
      have HS3 := Lib.hid s3
      clear s3
      refine (KE.out _ (HS.out.up HU1.out)).mono ?_
      rintro e w2 ⟨rfl, hu2⟩
      have hv2 := hu2
      have t3_2 := hv2.keep _ _ _ HS3.out
      go_wp2_with fail
      clear t3_2
      refine (KG.out _ (HS.out.up (HU1.out.trans hv2))).mono ?_
      rintro e w3 ⟨rfl, hu3⟩
      have hv3 := hv2.trans hu3
      have t3_3 := hv3.keep _ _ _ HS3.out
      go_wp2_with fail
      clear t3_3
      refine (KS.out _ (HS.out.up (HU1.out.trans hv3))).mono ?_
      rintro e w4 ⟨rfl, hu4⟩
      have hv4 := hv3.trans hu4
      have t3_4 := hv4.keep _ _ _ HS3.out
      go_wp2_with fail
      clear t3_4
      refine (KQ.out _ (HS.out.up (HU1.out.trans hv4))).mono ?_
      rintro e w5 ⟨rfl, hu5⟩
      have hv5 := hv4.trans hu5
      have HU5 := Lib.hid (HU1.out.trans hv5)
      have s3_ := hv5.keep _ _ _ HS3.out
      have q0_ := hv5.keep _ _ _ HQ0.out
      have q1_ := hv5.keep _ _ _ HQ1.out
      have q2_ := hv5.keep _ _ _ HQ2.out
      have r0_ := hv5.keep _ _ _ H0.out
      have r1_ := hv5.keep _ _ _ H1.out
      have r2_ := hv5.keep _ _ _ H2.out
      have r3_ := hv5.keep _ _ _ H3.out
      have r4_ := hv5.keep _ _ _ H4.out
      have r5_ := hv5.keep _ _ _ H5.out
      have r6_ := hv5.keep _ _ _ H6.out
      have r7_ := hv5.keep _ _ _ H7.out
      have r8_ := hv5.keep _ _ _ H8.out
      have r9_ := hv5.keep _ _ _ H9.out
      have r10_ := hv5.keep _ _ _ H10.out
      have z0_ := HU5.out.ownGe (g := w.heap.size + 1 + 1) (by omega) 0
      have z1_ := HU5.out.ownGe (g := w.heap.size + 1 + 1) (by omega) 1
      have z2_ := HU5.out.ownGe (g := w.heap.size + 1 + 1) (by omega) 2
      have z3_ := HU5.out.ownGe (g := w.heap.size + 1 + 1) (by omega) 3
      have z4_ := HU5.out.ownGe (g := w.heap.size + 1 + 1) (by omega) 4
      have z5_ := HU5.out.ownGe (g := w.heap.size + 1 + 1) (by omega) 5
      have z6_ := HU5.out.ownGe (g := w.heap.size + 1 + 1) (by omega) 6
      have z7_ := HU5.out.ownGe (g := w.heap.size + 1 + 1) (by omega) 7
      have z8_ := HU5.out.ownGe (g := w.heap.size + 1 + 1) (by omega) 8
      have z9_ := HU5.out.ownGe (g := w.heap.size + 1 + 1) (by omega) 9
      have z10_ := HU5.out.ownGe (g := w.heap.size + 1 + 1) (by omega) 10
      have hlt5 : w.heap.size + 1 + 1 < w5.heap.size := World.block_lt_of_cell? _ _ r0_
      clear hu2 hu3 hu4 hu5 hv2 hv3 hv4 hv5 HS3 HQ0 HQ1 HQ2 H0 H1 H2 H3 H4 H5 H6 H7 H8 H9 H10
      go_wp2_with fail
      refine (KB.out _).mono ?_
      rintro e w6 ⟨rfl, rfl⟩
      go_wp2_with fail
      refine (KN.out _ (HS.out.up HU5.out)).mono ?_
      rintro e w7 ⟨rfl, hw⟩
      have HU6 := Lib.hid (HU5.out.trans hw)
      have R0 := hw.keep _ _ _ r0_
      have R1 := hw.keep _ _ _ r1_
      have R2 := hw.keep _ _ _ r2_
      have R3 := hw.keep _ _ _ r3_
      have R4 := hw.keep _ _ _ r4_
      have R5 := hw.keep _ _ _ r5_
      have R6 := hw.keep _ _ _ r6_
      have R7 := hw.keep _ _ _ r7_
      have R8 := hw.keep _ _ _ r8_
      have R9 := hw.keep _ _ _ r9_
      have R10 := hw.keep _ _ _ r10_
      have Z0 := HU6.out.ownGe (g := w.heap.size + 1 + 1) (by omega) 0
      have Z1 := HU6.out.ownGe (g := w.heap.size + 1 + 1) (by omega) 1
      have Z2 := HU6.out.ownGe (g := w.heap.size + 1 + 1) (by omega) 2
      have Z3 := HU6.out.ownGe (g := w.heap.size + 1 + 1) (by omega) 3
      have Z4 := HU6.out.ownGe (g := w.heap.size + 1 + 1) (by omega) 4
      have Z5 := HU6.out.ownGe (g := w.heap.size + 1 + 1) (by omega) 5
      have Z6 := HU6.out.ownGe (g := w.heap.size + 1 + 1) (by omega) 6
      have Z7 := HU6.out.ownGe (g := w.heap.size + 1 + 1) (by omega) 7
      have Z8 := HU6.out.ownGe (g := w.heap.size + 1 + 1) (by omega) 8
      have Z9 := HU6.out.ownGe (g := w.heap.size + 1 + 1) (by omega) 9
      have Z10 := HU6.out.ownGe (g := w.heap.size + 1 + 1) (by omega) 10
      have hlt7 : w.heap.size + 1 + 1 < w7.heap.size := World.block_lt_of_cell? _ _ R0
      clear r0_ r1_ r2_ r3_ r4_ r5_ r6_ r7_ r8_ r9_ r10_ z0_ z1_ z2_ z3_ z4_ z5_ z6_ z7_ z8_ z9_ z10_ s3_ q0_ q1_ q2_ hw
      go_wp2_with fail
      refine bodyPost_ret (v := .tuple #[.agg #[.int .i64 0, .int .i64 0, .int .i64 0, .int .i64 0, .int .i64 0, .int .i64 0, .slice (some ⟨w7.heap.size, 0, none⟩) 1 1, .int .u64 0, .int .u64 0, .int .u64 0, .int .u64 0], .int .i64 0]) (by simp [results, Tryz.results7, go_sem, R0, R1, R2, R3, R4, R5, R6, R7, R8, R9, R10, hlt7]) rfl ⟨some ⟨w7.heap.size, 0, none⟩, 1, rfl, ?_, ?_⟩
      · exact (Bn.new _ [yq] _ (by simp [World.setCell])).sn rfl
      · exact (HU6.out.set11 (by omega)).alloc _ _
end Go.Proofs.YtflahclphdlolaaGreat

/- What Ask of the reference of package recent returns: a part. -/
namespace Go.Proofs.YtflahclphdlolaaGreat
open Go.RowKit

theorem rask9_all (v c now o a b : Int) (n k : Nat) (A : Option Addr) (L : List It) (hb : b ≤ 9223372036854775807) {N D e0 : Int} {Vs : List Int} (h : askR v c now L o a b = (N, D, Vs, e0)) (w : World) (hS : Sl w A n L) :
    Calls Tryz.prog 7 #[.agg #[.int .i64 v, .int .i64 c, .int .i64 now, .slice A n k], .agg #[.int .i64 o, .int .i64 a, .int .i64 b]] w fun e w' => ∃ A' k', e = .returned (.tuple #[.agg #[.int .i64 N, .int .i64 D, .int .i64 N, .int .i64 D, .int .i64 N, .int .i64 D, .slice A' Vs.length k', .int .u64 0, .int .u64 0, .int .u64 0, .int .u64 0], .int .i64 e0]) ∧ Sn w' A' Vs.length Vs ∧ Up w w' := by
  unfold askR at h
  by_cases hst : stB v c now L = false
  · rw [if_pos hst] at h
    cases h
    exact (rask9_bad v c now o a b n k A L hst w hS).mono (fun _ _ ⟨h1, h2⟩ => ⟨none, 0, h1, Sn.none_, h2⟩)
  rw [if_neg hst] at h
  rw [Bool.not_eq_false] at hst
  by_cases h1 : o = 1
  · rw [if_pos h1] at h
    subst h1
    cases h
    exact (rask9_1 v c now a b n k A L hst w hS).mono (fun _ _ ⟨h1, h2⟩ => ⟨none, 0, h1, Sn.none_, h2⟩)
  rw [if_neg h1] at h
  by_cases h2 : o = 2
  · rw [if_pos h2] at h
    subst h2
    cases h
    exact (rask9_2 v c now a b n k A L hst w hS).mono (fun _ _ ⟨h1, h2⟩ => ⟨none, 0, h1, Sn.none_, h2⟩)
  rw [if_neg h2] at h
  by_cases h3 : o = 3
  · rw [if_pos h3] at h
    subst h3
    cases h
    exact (rask9_3 v c now a b n k A L hst w hS).mono (fun _ _ ⟨h1, h2⟩ => ⟨none, 0, h1, Sn.none_, h2⟩)
  rw [if_neg h3] at h
  by_cases h4 : o = 4
  · rw [if_pos h4] at h
    subst h4
    cases h
    exact (rask9_4 v c now a b n k A L hst w hS).mono (fun _ _ ⟨h1, h2⟩ => ⟨none, 0, h1, Sn.none_, h2⟩)
  rw [if_neg h4] at h
  by_cases h5 : o = 5
  · rw [if_pos h5] at h
    subst h5
    cases h
    exact (rask9_5 v c now a b n k A L hst w hS).mono (fun _ _ ⟨h1, h2⟩ => ⟨none, 0, h1, Sn.none_, h2⟩)
  rw [if_neg h5] at h
  by_cases h6 : o = 6
  · rw [if_pos h6] at h
    subst h6
    exact rask9_6 v c now a b n k A L hst h w hS
  rw [if_neg h6] at h
  by_cases h7 : o = 7
  · rw [if_pos h7] at h
    subst h7
    cases h
    exact (rask9_7 v c now a b n k A L hst w hS).mono (fun _ _ ⟨h1, h2⟩ => ⟨none, 0, h1, Sn.none_, h2⟩)
  rw [if_neg h7] at h
  by_cases h8 : o = 8
  · rw [if_pos h8] at h
    subst h8
    exact rask9_8 v c now a b n k A L hst hb h w hS
  rw [if_neg h8] at h
  cases h
  exact (rask9_other v c now o a b n k A L hst (by omega) w hS).mono (fun _ _ ⟨h1, h2⟩ => ⟨none, 0, h1, Sn.none_, h2⟩)
end Go.Proofs.YtflahclphdlolaaGreat
