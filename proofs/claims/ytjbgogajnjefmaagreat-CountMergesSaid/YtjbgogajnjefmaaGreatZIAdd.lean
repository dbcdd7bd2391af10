/- What Add of package count and of its reference returns. -/
import Derived.Test.YtjbgogajnjefmaaGreatZGFramem4
import Derived.Test.YtjbgogajnjefmaaGreatZGLawm3
import Derived.Test.YtjbgogajnjefmaaGreatZHGrowm2
import Derived.Test.YtjbgogajnjefmaaGreatZHOrdm2
import Derived.Test.YtjbgogajnjefmaaGreatZHRVal
import Derived.Test.YtjbgogajnjefmaaGreatZHRowm2
import Derived.Test.YtjbgogajnjefmaaGreatZHSamem4
import Derived.Test.YtjbgogajnjefmaaGreatZHTot
import Derived.Test.YtjbgogajnjefmaaGreatZIBase
import Derived.Test.YtjbgogajnjefmaaGreatZIVal
import Derived.Test.YtjbgogajnjefmaaGreatZWKeepm7
import Derived.Test.YtjbgogajnjefmaaGreatZWMathm8
import Derived.Test.YtjbgogajnjefmaaGreatZWShortm3
namespace Go.Proofs.YtjbgogajnjefmaaGreat
open Go.RowKit
set_option linter.unusedVariables false


set_option maxHeartbeats 4000000 in
set_option maxRecDepth 100000 in
theorem add11_good (v q c now : Int) (n k : Nat) (A : Option Addr) (L : List It) (hn : n ≤ 50000) (hk : n ≤ k) (hv : stC v q c now L = true) (hf : totB L ≠ c) (w : World) (hS : Sl w A n L) :
    Calls Tryz.prog 9 #[.agg #[.int .i64 v, .int .i64 q, .int .i64 c, .int .i64 now, .slice A n k]] w fun e w' => ∃ A' n' k', e = .returned (.tuple #[.agg #[.int .i64 v, .int .i64 q, .int .i64 c, .int .i64 now, .slice A' n' k'], .int .i64 0]) ∧ n' ≤ n + 1024 ∧ n' ≤ k' ∧ Nw w A' ∧ Sl w' A' n' (puB q now L) ∧ Up w w' := by
  have KV := Lib.hid (fun W (h : Sl W A n L) => validate11_up v q c now n k A L hn W h)
  rw [stCE_yes hv] at KV
  have HS := Lib.hid hS
  have KT := Lib.hid (fun W (h : Sl W A n L) => total10_up n k A L (by omega) W h)
  obtain ⟨_, b2, b3, b4⟩ := stC_add hv hf
  have KI := Lib.hid (fun W (h : Sl W A n L) => insert_up n k A L q now hn W h)
  rw [imL_one (stC_true hv).2.1 b2.1 b2.2 b3 b4] at KI
  generalize puB q now L = M at *
  generalize totB L = y at *
  have t1 : (y == c) = false := by simp [hf]
  clear hS hv hf b2 b3 b4
  go_enter Tryz.func9, Tryz.ntmps9
  go_wp2_with (go_at_call 15; (with_reducible refine (KV.out _ (HS.out.up (((Up.refl w).alloc _ _).alloc _ _))).mono ?_); rintro e w1 ⟨rfl, hu⟩; have HU1 := Lib.hid ((((Up.refl w).alloc #[.int .i64 v, .int .i64 q, .int .i64 c, .int .i64 now, .slice A n k] 24).alloc #[.int .i64 0, .int .i64 0, .int .i64 0, .int .i64 0, .slice none 0 0] 24).trans hu); have c00 := hu.keep (w.heap.size) 0 (.int .i64 v) (by simp [go_sem]); have c01 := hu.keep (w.heap.size) 1 (.int .i64 q) (by simp [go_sem]); have c02 := hu.keep (w.heap.size) 2 (.int .i64 c) (by simp [go_sem]); have c03 := hu.keep (w.heap.size) 3 (.int .i64 now) (by simp [go_sem]); have c04 := hu.keep (w.heap.size) 4 (.slice A n k) (by simp [go_sem]); have c10 := hu.keep (w.heap.size + 1) 0 (.int .i64 0) (by simp [go_sem]); have c11 := hu.keep (w.heap.size + 1) 1 (.int .i64 0) (by simp [go_sem]); have c12 := hu.keep (w.heap.size + 1) 2 (.int .i64 0) (by simp [go_sem]); have c13 := hu.keep (w.heap.size + 1) 3 (.int .i64 0) (by simp [go_sem]); have c14 := hu.keep (w.heap.size + 1) 4 (.slice none 0 0) (by simp [go_sem]); have z00 := HU1.out.ownGe (g := w.heap.size) (Nat.le_refl _) 0; have z01 := HU1.out.ownGe (g := w.heap.size) (Nat.le_refl _) 1; have z02 := HU1.out.ownGe (g := w.heap.size) (Nat.le_refl _) 2; have z03 := HU1.out.ownGe (g := w.heap.size) (Nat.le_refl _) 3; have z04 := HU1.out.ownGe (g := w.heap.size) (Nat.le_refl _) 4; have z10 := HU1.out.ownGe (g := w.heap.size + 1) (by omega) 0; have z11 := HU1.out.ownGe (g := w.heap.size + 1) (by omega) 1; have z12 := HU1.out.ownGe (g := w.heap.size + 1) (by omega) 2; have z13 := HU1.out.ownGe (g := w.heap.size + 1) (by omega) 3; have z14 := HU1.out.ownGe (g := w.heap.size + 1) (by omega) 4; have hlt : w.heap.size + 1 < w1.heap.size := World.block_lt_of_cell? _ _ c10; have hlt0 : w.heap.size < w1.heap.size := Nat.lt_of_succ_lt hlt; clear hu)
  have HSS : Hid (Up w w1 ∧ w1.cell? ⟨w.heap.size, 0, none⟩ = some (.int .i64 v) ∧ w1.cell? ⟨w.heap.size, 1, none⟩ = some (.int .i64 q) ∧ w1.cell? ⟨w.heap.size, 2, none⟩ = some (.int .i64 c) ∧ w1.cell? ⟨w.heap.size, 3, none⟩ = some (.int .i64 now) ∧ w1.cell? ⟨w.heap.size, 4, none⟩ = some (.slice A n k) ∧ w1.cell? ⟨w.heap.size + 1, 0, none⟩ = some (.int .i64 0) ∧ w1.cell? ⟨w.heap.size + 1, 1, none⟩ = some (.int .i64 0) ∧ w1.cell? ⟨w.heap.size + 1, 2, none⟩ = some (.int .i64 0) ∧ w1.cell? ⟨w.heap.size + 1, 3, none⟩ = some (.int .i64 0) ∧ w1.cell? ⟨w.heap.size + 1, 4, none⟩ = some (.slice none 0 0)) := Lib.hid ⟨HU1.out, c00, c01, c02, c03, c04, c10, c11, c12, c13, c14⟩
  clear c00 z00 c01 z01 c02 z02 c03 z03 c04 z04 c10 z10 c11 z11 c12 z12 c13 z13 c14 z14 hlt hlt0
  go_region_held3 (fun w' => Up w w' ∧ w'.cell? ⟨w.heap.size, 0, none⟩ = some (.int .i64 v) ∧ w'.cell? ⟨w.heap.size, 1, none⟩ = some (.int .i64 q) ∧ w'.cell? ⟨w.heap.size, 2, none⟩ = some (.int .i64 c) ∧ w'.cell? ⟨w.heap.size, 3, none⟩ = some (.int .i64 now) ∧ w'.cell? ⟨w.heap.size, 4, none⟩ = some (.slice A n k) ∧ w'.cell? ⟨w.heap.size + 1, 0, none⟩ = some (.int .i64 0) ∧ w'.cell? ⟨w.heap.size + 1, 1, none⟩ = some (.int .i64 0) ∧ w'.cell? ⟨w.heap.size + 1, 2, none⟩ = some (.int .i64 0) ∧ w'.cell? ⟨w.heap.size + 1, 3, none⟩ = some (.int .i64 0) ∧ w'.cell? ⟨w.heap.size + 1, 4, none⟩ = some (.slice none 0 0))
    (repeat (first | (with_reducible exact HSS.out) | (with_reducible exact keepQ10 (by assumption) (by assumption)) | (with_reducible exact Hid.out (by assumption)) | (with_reducible refine keepQ10 (Lib.hid (Up.refl _).drew) ?_)))
    (first | (go_at_call 16; (with_reducible refine (KT.out _ (HS.out.up (by assumption : Up w _ ∧ _).1)).mono ?_); rintro e w3 ⟨rfl, hu⟩; have HU3 := Lib.hid hu; have HX3 := Lib.hid (keepQ10 HU3 (by assumption)); clear hu))
  clear ‹Up w _ ∧ _›
  obtain ⟨_, d00, d01, d02, d03, d04, d10, d11, d12, d13, d14⟩ := HX3.out
  have HU3w : Hid (Up w w3) := Lib.hid HX3.out.1
  have y00 := HU3w.out.ownGe (g := w.heap.size) (Nat.le_refl _) 0
  have y10 := HU3w.out.ownGe (g := w.heap.size + 1) (by omega) 0
  have y01 := HU3w.out.ownGe (g := w.heap.size) (Nat.le_refl _) 1
  have y11 := HU3w.out.ownGe (g := w.heap.size + 1) (by omega) 1
  have y02 := HU3w.out.ownGe (g := w.heap.size) (Nat.le_refl _) 2
  have y12 := HU3w.out.ownGe (g := w.heap.size + 1) (by omega) 2
  have y03 := HU3w.out.ownGe (g := w.heap.size) (Nat.le_refl _) 3
  have y13 := HU3w.out.ownGe (g := w.heap.size + 1) (by omega) 3
  have y04 := HU3w.out.ownGe (g := w.heap.size) (Nat.le_refl _) 4
  have y14 := HU3w.out.ownGe (g := w.heap.size + 1) (by omega) 4
  have hlt : w.heap.size + 1 < w3.heap.size := World.block_lt_of_cell? _ _ d10
  have hlt0 : w.heap.size < w3.heap.size := Nat.lt_of_succ_lt hlt
  go_wp2_with (go_at_call 17; (with_reducible refine (KI.out _ (HS.out.up HU3w.out)).mono ?_); rintro e w4 ⟨A4, n4, k4, rfl, hn4, hM, hu⟩; have HM := Lib.hid hM; have HU4 := Lib.hid (HU3w.out.trans hu); have e00 := hu.keep _ _ _ d00; have e10 := hu.keep _ _ _ d10; have e01 := hu.keep _ _ _ d01; have e11 := hu.keep _ _ _ d11; have e02 := hu.keep _ _ _ d02; have e12 := hu.keep _ _ _ d12; have e03 := hu.keep _ _ _ d03; have e13 := hu.keep _ _ _ d13; have e04 := hu.keep _ _ _ d04; have e14 := hu.keep _ _ _ d14; have x00 := HU4.out.ownGe (g := w.heap.size) (Nat.le_refl _) 0; have x10 := HU4.out.ownGe (g := w.heap.size + 1) (by omega) 0; have x01 := HU4.out.ownGe (g := w.heap.size) (Nat.le_refl _) 1; have x11 := HU4.out.ownGe (g := w.heap.size + 1) (by omega) 1; have x02 := HU4.out.ownGe (g := w.heap.size) (Nat.le_refl _) 2; have x12 := HU4.out.ownGe (g := w.heap.size + 1) (by omega) 2; have x03 := HU4.out.ownGe (g := w.heap.size) (Nat.le_refl _) 3; have x13 := HU4.out.ownGe (g := w.heap.size + 1) (by omega) 3; have x04 := HU4.out.ownGe (g := w.heap.size) (Nat.le_refl _) 4; have x14 := HU4.out.ownGe (g := w.heap.size + 1) (by omega) 4; have hlt4 : w.heap.size + 1 < w4.heap.size := World.block_lt_of_cell? _ _ e10; clear hu hM)
  refine bodyPost_ret (v := .tuple #[.agg #[.int .i64 v, .int .i64 q, .int .i64 c, .int .i64 now, .slice A4 n4 k4], .int .i64 0]) (by simp [results, Tryz.results9, go_sem, e10, e11, e12, e13, e14]) rfl ⟨A4, n4, k4, rfl, hn4, HM.out.at_.1, HM.out.nw.up HU3w.out, ?_, ?_⟩
  · exact (HM.out.at_.2.off (HM.out.nw.off hlt0) _).off5 (HM.out.nw.off hlt) _ _ _ _ _
  · exact (HU4.out.setCell (Nat.le_refl _) _).set5 (by omega)

end Go.Proofs.YtjbgogajnjefmaaGreat
