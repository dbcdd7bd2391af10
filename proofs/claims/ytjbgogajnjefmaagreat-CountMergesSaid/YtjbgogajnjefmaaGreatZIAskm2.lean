/- Texts of these claims, one after the other. -/
import Derived.Test.YtjbgogajnjefmaaGreatZBSmallm2
import Derived.Test.YtjbgogajnjefmaaGreatZGFramem4
import Derived.Test.YtjbgogajnjefmaaGreatZGLawm3
import Derived.Test.YtjbgogajnjefmaaGreatZHOrdm2
import Derived.Test.YtjbgogajnjefmaaGreatZHQrym3
import Derived.Test.YtjbgogajnjefmaaGreatZHRVal
import Derived.Test.YtjbgogajnjefmaaGreatZHRowm2
import Derived.Test.YtjbgogajnjefmaaGreatZHSamem4
import Derived.Test.YtjbgogajnjefmaaGreatZIAdd
import Derived.Test.YtjbgogajnjefmaaGreatZIBase
import Derived.Test.YtjbgogajnjefmaaGreatZIVal
import Derived.Test.YtjbgogajnjefmaaGreatZRArithm4
import Derived.Test.YtjbgogajnjefmaaGreatZWGcd
import Derived.Test.YtjbgogajnjefmaaGreatZWKeepm7
import Derived.Test.YtjbgogajnjefmaaGreatZWMathm8
import Derived.Test.YtjbgogajnjefmaaGreatZWRDiv2
import Derived.Test.YtjbgogajnjefmaaGreatZWShortm3
namespace Go.Proofs.YtjbgogajnjefmaaGreat
open Go.RowKit
set_option linter.unusedVariables false

/-- What Ask returns. -/
def akV (b : Bool) (L : List It) : Value := if b = true then .tuple #[quV L, .int .i64 0] else .tuple #[.agg #[.int .i64 0, .int .i64 0, .int .i64 0, .int .i64 0, .int .i64 0, .int .i64 0], .int .i64 2]

set_option maxHeartbeats 4000000 in
set_option maxRecDepth 100000 in
theorem ask11_up (v q c now : Int) (n k : Nat) (A : Option Addr) (L : List It) (hn : n ≤ 50000) (w : World) (hS : Sl w A n L) :
    Calls Tryz.prog 10 #[.agg #[.int .i64 v, .int .i64 q, .int .i64 c, .int .i64 now, .slice A n k]] w fun e w' => e = .returned (akV (stC v q c now L) L) ∧ Up w w' := by
  have KV := Lib.hid (fun W (h : Sl W A n L) => validate11_up v q c now n k A L hn W h)
  have HS := Lib.hid hS
  unfold akV
  cases hv : stC v q c now L with
  | false =>
    rw [stCE_no hv] at KV
    clear hS hv
    go_enter Tryz.func10, Tryz.ntmps10
    go_wp2_with (go_at_call 15; (with_reducible refine (KV.out _ (HS.out.up (((Up.refl w).alloc _ _).alloc _ _))).mono ?_); rintro e w1 ⟨rfl, hu⟩; have HU1 := Lib.hid ((((Up.refl w).alloc #[.int .i64 v, .int .i64 q, .int .i64 c, .int .i64 now, .slice A n k] 24).alloc #[.int .i64 0, .int .i64 0, .int .i64 0, .int .i64 0, .int .i64 0, .int .i64 0] 30).trans hu); have c00 := hu.keep (w.heap.size) 0 (.int .i64 v) (by simp [go_sem]); have c01 := hu.keep (w.heap.size) 1 (.int .i64 q) (by simp [go_sem]); have c02 := hu.keep (w.heap.size) 2 (.int .i64 c) (by simp [go_sem]); have c03 := hu.keep (w.heap.size) 3 (.int .i64 now) (by simp [go_sem]); have c04 := hu.keep (w.heap.size) 4 (.slice A n k) (by simp [go_sem]); have c10 := hu.keep (w.heap.size + 1) 0 (.int .i64 0) (by simp [go_sem]); have c11 := hu.keep (w.heap.size + 1) 1 (.int .i64 0) (by simp [go_sem]); have c12 := hu.keep (w.heap.size + 1) 2 (.int .i64 0) (by simp [go_sem]); have c13 := hu.keep (w.heap.size + 1) 3 (.int .i64 0) (by simp [go_sem]); have c14 := hu.keep (w.heap.size + 1) 4 (.int .i64 0) (by simp [go_sem]); have c15 := hu.keep (w.heap.size + 1) 5 (.int .i64 0) (by simp [go_sem]); have z00 := HU1.out.ownGe (g := w.heap.size) (Nat.le_refl _) 0; have z01 := HU1.out.ownGe (g := w.heap.size) (Nat.le_refl _) 1; have z02 := HU1.out.ownGe (g := w.heap.size) (Nat.le_refl _) 2; have z03 := HU1.out.ownGe (g := w.heap.size) (Nat.le_refl _) 3; have z04 := HU1.out.ownGe (g := w.heap.size) (Nat.le_refl _) 4; have z10 := HU1.out.ownGe (g := w.heap.size + 1) (by omega) 0; have z11 := HU1.out.ownGe (g := w.heap.size + 1) (by omega) 1; have z12 := HU1.out.ownGe (g := w.heap.size + 1) (by omega) 2; have z13 := HU1.out.ownGe (g := w.heap.size + 1) (by omega) 3; have z14 := HU1.out.ownGe (g := w.heap.size + 1) (by omega) 4; have z15 := HU1.out.ownGe (g := w.heap.size + 1) (by omega) 5; have hlt : w.heap.size + 1 < w1.heap.size := World.block_lt_of_cell? _ _ c10; have hlt0 : w.heap.size < w1.heap.size := Nat.lt_of_succ_lt hlt; clear hu)
    refine bodyPost_ret (v := .tuple #[.agg #[.int .i64 0, .int .i64 0, .int .i64 0, .int .i64 0, .int .i64 0, .int .i64 0], .int .i64 2]) (by simp [results, Tryz.results10, go_sem, c10, c11, c12, c13, c14, c15]) rfl ⟨rfl, ?_⟩
    exact HU1.out.set6 (by omega)
  | true =>
    rw [stCE_yes hv] at KV
    have KQ := Lib.hid (fun W (h : Sl W A n L) => query10_up n k A L hn (stC_true hv).2.1.lv W h)
    obtain ⟨x0, x1, x2, x3, x4, x5, eq⟩ := quV_agg L
    rw [eq] at KQ
    rw [eq]
    clear hS hv eq
    go_enter Tryz.func10, Tryz.ntmps10
    go_wp2_with (first | (go_at_call 18; (with_reducible refine (KQ.out _ (HS.out.up HU1.out)).mono ?_); rintro e w2 ⟨rfl, hu⟩; have HU2 := Lib.hid (HU1.out.trans hu); have d10 := hu.keep _ _ _ c10; have y10 := HU2.out.ownGe (g := w.heap.size + 1) (by omega) 0; have d11 := hu.keep _ _ _ c11; have y11 := HU2.out.ownGe (g := w.heap.size + 1) (by omega) 1; have d12 := hu.keep _ _ _ c12; have y12 := HU2.out.ownGe (g := w.heap.size + 1) (by omega) 2; have d13 := hu.keep _ _ _ c13; have y13 := HU2.out.ownGe (g := w.heap.size + 1) (by omega) 3; have d14 := hu.keep _ _ _ c14; have y14 := HU2.out.ownGe (g := w.heap.size + 1) (by omega) 4; have d15 := hu.keep _ _ _ c15; have y15 := HU2.out.ownGe (g := w.heap.size + 1) (by omega) 5; have hlt2 : w.heap.size + 1 < w2.heap.size := World.block_lt_of_cell? _ _ d10; clear hu) | (go_at_call 15; (with_reducible refine (KV.out _ (HS.out.up (((Up.refl w).alloc _ _).alloc _ _))).mono ?_); rintro e w1 ⟨rfl, hu⟩; have HU1 := Lib.hid ((((Up.refl w).alloc #[.int .i64 v, .int .i64 q, .int .i64 c, .int .i64 now, .slice A n k] 24).alloc #[.int .i64 0, .int .i64 0, .int .i64 0, .int .i64 0, .int .i64 0, .int .i64 0] 30).trans hu); have c00 := hu.keep (w.heap.size) 0 (.int .i64 v) (by simp [go_sem]); have c01 := hu.keep (w.heap.size) 1 (.int .i64 q) (by simp [go_sem]); have c02 := hu.keep (w.heap.size) 2 (.int .i64 c) (by simp [go_sem]); have c03 := hu.keep (w.heap.size) 3 (.int .i64 now) (by simp [go_sem]); have c04 := hu.keep (w.heap.size) 4 (.slice A n k) (by simp [go_sem]); have c10 := hu.keep (w.heap.size + 1) 0 (.int .i64 0) (by simp [go_sem]); have c11 := hu.keep (w.heap.size + 1) 1 (.int .i64 0) (by simp [go_sem]); have c12 := hu.keep (w.heap.size + 1) 2 (.int .i64 0) (by simp [go_sem]); have c13 := hu.keep (w.heap.size + 1) 3 (.int .i64 0) (by simp [go_sem]); have c14 := hu.keep (w.heap.size + 1) 4 (.int .i64 0) (by simp [go_sem]); have c15 := hu.keep (w.heap.size + 1) 5 (.int .i64 0) (by simp [go_sem]); have z00 := HU1.out.ownGe (g := w.heap.size) (Nat.le_refl _) 0; have z01 := HU1.out.ownGe (g := w.heap.size) (Nat.le_refl _) 1; have z02 := HU1.out.ownGe (g := w.heap.size) (Nat.le_refl _) 2; have z03 := HU1.out.ownGe (g := w.heap.size) (Nat.le_refl _) 3; have z04 := HU1.out.ownGe (g := w.heap.size) (Nat.le_refl _) 4; have z10 := HU1.out.ownGe (g := w.heap.size + 1) (by omega) 0; have z11 := HU1.out.ownGe (g := w.heap.size + 1) (by omega) 1; have z12 := HU1.out.ownGe (g := w.heap.size + 1) (by omega) 2; have z13 := HU1.out.ownGe (g := w.heap.size + 1) (by omega) 3; have z14 := HU1.out.ownGe (g := w.heap.size + 1) (by omega) 4; have z15 := HU1.out.ownGe (g := w.heap.size + 1) (by omega) 5; have hlt : w.heap.size + 1 < w1.heap.size := World.block_lt_of_cell? _ _ c10; have hlt0 : w.heap.size < w1.heap.size := Nat.lt_of_succ_lt hlt; clear hu))
    refine bodyPost_ret (v := .tuple #[.agg #[.int .i64 x0, .int .i64 x1, .int .i64 x2, .int .i64 x3, .int .i64 x4, .int .i64 x5], .int .i64 0]) (by simp [results, Tryz.results10, go_sem, d10, d11, d12, d13, d14, d15]) rfl ⟨rfl, ?_⟩
    exact HU2.out.set6 (by omega)

set_option maxHeartbeats 4000000 in
set_option maxRecDepth 100000 in
theorem rask11_up (v q c now : Int) (n k : Nat) (A : Option Addr) (L : List It) (hn : n ≤ 50000) (w : World) (hS : Sl w A n L) :
    Calls Tryz.prog 12 #[.agg #[.int .i64 v, .int .i64 q, .int .i64 c, .int .i64 now, .slice A n k]] w fun e w' => e = .returned (akV (stC v q c now L) L) ∧ Up w w' := by
  have KV := Lib.hid (fun W (h : Sl W A n L) => rvalidate11_up v q c now n k A L hn W h)
  have HS := Lib.hid hS
  unfold akV
  cases hv : stC v q c now L with
  | false =>
    rw [stCE_no hv] at KV
    clear hS hv
    go_enter Tryz.func12, Tryz.ntmps12
    go_wp2_with (go_at_call 21; (with_reducible refine (KV.out _ (HS.out.up (((Up.refl w).alloc _ _).alloc _ _))).mono ?_); rintro e w1 ⟨rfl, hu⟩; have HU1 := Lib.hid ((((Up.refl w).alloc #[.int .i64 v, .int .i64 q, .int .i64 c, .int .i64 now, .slice A n k] 24).alloc #[.int .i64 0, .int .i64 0, .int .i64 0, .int .i64 0, .int .i64 0, .int .i64 0] 30).trans hu); have c00 := hu.keep (w.heap.size) 0 (.int .i64 v) (by simp [go_sem]); have c01 := hu.keep (w.heap.size) 1 (.int .i64 q) (by simp [go_sem]); have c02 := hu.keep (w.heap.size) 2 (.int .i64 c) (by simp [go_sem]); have c03 := hu.keep (w.heap.size) 3 (.int .i64 now) (by simp [go_sem]); have c04 := hu.keep (w.heap.size) 4 (.slice A n k) (by simp [go_sem]); have c10 := hu.keep (w.heap.size + 1) 0 (.int .i64 0) (by simp [go_sem]); have c11 := hu.keep (w.heap.size + 1) 1 (.int .i64 0) (by simp [go_sem]); have c12 := hu.keep (w.heap.size + 1) 2 (.int .i64 0) (by simp [go_sem]); have c13 := hu.keep (w.heap.size + 1) 3 (.int .i64 0) (by simp [go_sem]); have c14 := hu.keep (w.heap.size + 1) 4 (.int .i64 0) (by simp [go_sem]); have c15 := hu.keep (w.heap.size + 1) 5 (.int .i64 0) (by simp [go_sem]); have z00 := HU1.out.ownGe (g := w.heap.size) (Nat.le_refl _) 0; have z01 := HU1.out.ownGe (g := w.heap.size) (Nat.le_refl _) 1; have z02 := HU1.out.ownGe (g := w.heap.size) (Nat.le_refl _) 2; have z03 := HU1.out.ownGe (g := w.heap.size) (Nat.le_refl _) 3; have z04 := HU1.out.ownGe (g := w.heap.size) (Nat.le_refl _) 4; have z10 := HU1.out.ownGe (g := w.heap.size + 1) (by omega) 0; have z11 := HU1.out.ownGe (g := w.heap.size + 1) (by omega) 1; have z12 := HU1.out.ownGe (g := w.heap.size + 1) (by omega) 2; have z13 := HU1.out.ownGe (g := w.heap.size + 1) (by omega) 3; have z14 := HU1.out.ownGe (g := w.heap.size + 1) (by omega) 4; have z15 := HU1.out.ownGe (g := w.heap.size + 1) (by omega) 5; have hlt : w.heap.size + 1 < w1.heap.size := World.block_lt_of_cell? _ _ c10; have hlt0 : w.heap.size < w1.heap.size := Nat.lt_of_succ_lt hlt; clear hu)
    refine bodyPost_ret (v := .tuple #[.agg #[.int .i64 0, .int .i64 0, .int .i64 0, .int .i64 0, .int .i64 0, .int .i64 0], .int .i64 2]) (by simp [results, Tryz.results12, go_sem, c10, c11, c12, c13, c14, c15]) rfl ⟨rfl, ?_⟩
    exact HU1.out.set6 (by omega)
  | true =>
    rw [stCE_yes hv] at KV
    have KQ := Lib.hid (fun W (h : Sl W A n L) => rquery10_up n k A L hn (stC_true hv).2.1.lv W h)
    obtain ⟨x0, x1, x2, x3, x4, x5, eq⟩ := quV_agg L
    rw [eq] at KQ
    rw [eq]
    clear hS hv eq
    go_enter Tryz.func12, Tryz.ntmps12
    go_wp2_with (first | (go_at_call 22; (with_reducible refine (KQ.out _ (HS.out.up HU1.out)).mono ?_); rintro e w2 ⟨rfl, hu⟩; have HU2 := Lib.hid (HU1.out.trans hu); have d10 := hu.keep _ _ _ c10; have y10 := HU2.out.ownGe (g := w.heap.size + 1) (by omega) 0; have d11 := hu.keep _ _ _ c11; have y11 := HU2.out.ownGe (g := w.heap.size + 1) (by omega) 1; have d12 := hu.keep _ _ _ c12; have y12 := HU2.out.ownGe (g := w.heap.size + 1) (by omega) 2; have d13 := hu.keep _ _ _ c13; have y13 := HU2.out.ownGe (g := w.heap.size + 1) (by omega) 3; have d14 := hu.keep _ _ _ c14; have y14 := HU2.out.ownGe (g := w.heap.size + 1) (by omega) 4; have d15 := hu.keep _ _ _ c15; have y15 := HU2.out.ownGe (g := w.heap.size + 1) (by omega) 5; have hlt2 : w.heap.size + 1 < w2.heap.size := World.block_lt_of_cell? _ _ d10; clear hu) | (go_at_call 21; (with_reducible refine (KV.out _ (HS.out.up (((Up.refl w).alloc _ _).alloc _ _))).mono ?_); rintro e w1 ⟨rfl, hu⟩; have HU1 := Lib.hid ((((Up.refl w).alloc #[.int .i64 v, .int .i64 q, .int .i64 c, .int .i64 now, .slice A n k] 24).alloc #[.int .i64 0, .int .i64 0, .int .i64 0, .int .i64 0, .int .i64 0, .int .i64 0] 30).trans hu); have c00 := hu.keep (w.heap.size) 0 (.int .i64 v) (by simp [go_sem]); have c01 := hu.keep (w.heap.size) 1 (.int .i64 q) (by simp [go_sem]); have c02 := hu.keep (w.heap.size) 2 (.int .i64 c) (by simp [go_sem]); have c03 := hu.keep (w.heap.size) 3 (.int .i64 now) (by simp [go_sem]); have c04 := hu.keep (w.heap.size) 4 (.slice A n k) (by simp [go_sem]); have c10 := hu.keep (w.heap.size + 1) 0 (.int .i64 0) (by simp [go_sem]); have c11 := hu.keep (w.heap.size + 1) 1 (.int .i64 0) (by simp [go_sem]); have c12 := hu.keep (w.heap.size + 1) 2 (.int .i64 0) (by simp [go_sem]); have c13 := hu.keep (w.heap.size + 1) 3 (.int .i64 0) (by simp [go_sem]); have c14 := hu.keep (w.heap.size + 1) 4 (.int .i64 0) (by simp [go_sem]); have c15 := hu.keep (w.heap.size + 1) 5 (.int .i64 0) (by simp [go_sem]); have z00 := HU1.out.ownGe (g := w.heap.size) (Nat.le_refl _) 0; have z01 := HU1.out.ownGe (g := w.heap.size) (Nat.le_refl _) 1; have z02 := HU1.out.ownGe (g := w.heap.size) (Nat.le_refl _) 2; have z03 := HU1.out.ownGe (g := w.heap.size) (Nat.le_refl _) 3; have z04 := HU1.out.ownGe (g := w.heap.size) (Nat.le_refl _) 4; have z10 := HU1.out.ownGe (g := w.heap.size + 1) (by omega) 0; have z11 := HU1.out.ownGe (g := w.heap.size + 1) (by omega) 1; have z12 := HU1.out.ownGe (g := w.heap.size + 1) (by omega) 2; have z13 := HU1.out.ownGe (g := w.heap.size + 1) (by omega) 3; have z14 := HU1.out.ownGe (g := w.heap.size + 1) (by omega) 4; have z15 := HU1.out.ownGe (g := w.heap.size + 1) (by omega) 5; have hlt : w.heap.size + 1 < w1.heap.size := World.block_lt_of_cell? _ _ c10; have hlt0 : w.heap.size < w1.heap.size := Nat.lt_of_succ_lt hlt; clear hu))
    refine bodyPost_ret (v := .tuple #[.agg #[.int .i64 x0, .int .i64 x1, .int .i64 x2, .int .i64 x3, .int .i64 x4, .int .i64 x5], .int .i64 0]) (by simp [results, Tryz.results12, go_sem, d10, d11, d12, d13, d14, d15]) rfl ⟨rfl, ?_⟩
    exact HU2.out.set6 (by omega)
end Go.Proofs.YtjbgogajnjefmaaGreat

namespace Go.Proofs.YtjbgogajnjefmaaGreat
open Go.RowKit
set_option linter.unusedVariables false

theorem put1 : puB 1 0 [] = [(0, 0)] := puS_at (by decide)
theorem awk_st : stC 10 1 100 0 [] = true ∧ stC 10 1 100 0 [(0, 0)] = true := by
  have h := (Hs.start (v := 10) (k := 1) (c := 100) (now := 0) (by decide)).st
  have h2 := (stC_add h (by decide)).1
  rw [put1] at h2
  exact ⟨h, h2⟩
theorem awk_ak : akV (stC 10 1 100 0 [(0, 0)]) [(0, 0)] = .tuple #[.agg #[.int .i64 1, .int .i64 1, .int .i64 1, .int .i64 1, .int .i64 1, .int .i64 1], .int .i64 0] := by
  rw [awk_st.2]
  rfl
theorem awk_new (W : World) : Calls Tryz.prog 8 #[.int .i64 10, .int .i64 1, .int .i64 100, .int .i64 0] W fun e w' => e = .returned (.tuple #[.agg #[.int .i64 10, .int .i64 1, .int .i64 100, .int .i64 0, .slice none 0 0], .int .i64 0]) ∧ Up W w' :=
  new11_yes 10 1 100 0 (by decide) W
theorem awk_add (W : World) : Calls Tryz.prog 9 #[.agg #[.int .i64 10, .int .i64 1, .int .i64 100, .int .i64 0, .slice none 0 0]] W fun e w' => ∃ A' k', e = .returned (.tuple #[.agg #[.int .i64 10, .int .i64 1, .int .i64 100, .int .i64 0, .slice A' 1 k'], .int .i64 0]) ∧ Nw W A' ∧ Sl w' A' 1 [(0, 0)] ∧ Up W w' :=
  (add11_good 10 1 100 0 0 0 none [] (by omega) (Nat.le_refl _) awk_st.1 (by decide) W Sl.none_).mono (fun _ _ ⟨A', n', k', h1, _, _, h3, h4, h5⟩ => by
    rw [put1] at h4
    obtain rfl : n' = 1 := h4.1.symm
    exact ⟨A', k', h1, h3, h4, h5⟩)
theorem awk_ask (W : World) (A : Option Addr) (k : Nat) (h : Sl W A 1 [(0, 0)]) : Calls Tryz.prog 10 #[.agg #[.int .i64 10, .int .i64 1, .int .i64 100, .int .i64 0, .slice A 1 k]] W fun e w' => e = .returned (.tuple #[.agg #[.int .i64 1, .int .i64 1, .int .i64 1, .int .i64 1, .int .i64 1, .int .i64 1], .int .i64 0]) ∧ Up W w' := by
  have := ask11_up 10 1 100 0 1 k A [(0, 0)] (by omega) W h
  rwa [awk_ak] at this

set_option maxHeartbeats 4000000 in
set_option maxRecDepth 100000 in
theorem awake11_up (w : World) : Calls Tryz.prog 5 #[] w fun e w' => e = .returned (.bool true) ∧ Up w w' := by
  have K1 := Lib.hid awk_new
  have K2 := Lib.hid awk_add
  have K3 := Lib.hid awk_ask
  go_enter Tryz.func5, Tryz.ntmps5
  go_wp2_with (first
    | (go_at_call 8; (with_reducible refine (K1.out _).mono ?_); rintro e w1 ⟨rfl, hu⟩; have HU1 := Lib.hid hu; clear hu)
    | (go_at_call 9; (with_reducible refine (K2.out _).mono ?_); rintro e w2 ⟨A2, k2, rfl, hn, hs, hu⟩; have HN := Lib.hid hn; have HS := Lib.hid hs; have HU2 := Lib.hid ((HU1.out.alloc _ _).trans hu); have a0 := hu.keep w1.heap.size 0 (.int .i64 10) (by simp [go_sem]); have a1 := hu.keep w1.heap.size 1 (.int .i64 1) (by simp [go_sem]); have a2 := hu.keep w1.heap.size 2 (.int .i64 100) (by simp [go_sem]); have a3 := hu.keep w1.heap.size 3 (.int .i64 0) (by simp [go_sem]); have a4 := hu.keep w1.heap.size 4 (.slice none 0 0) (by simp [go_sem]); have hw1 := HU1.out.size; have hlt : w1.heap.size < w2.heap.size := World.block_lt_of_cell? _ _ a0; have f0 := HU2.out.ownGe (g := w1.heap.size) hw1 0; have f1 := HU2.out.ownGe (g := w1.heap.size) hw1 1; have f2 := HU2.out.ownGe (g := w1.heap.size) hw1 2; have f3 := HU2.out.ownGe (g := w1.heap.size) hw1 3; have f4 := HU2.out.ownGe (g := w1.heap.size) hw1 4; clear hu hn hs)
    | (go_at_call 10; (with_reducible refine (K3.out _ A2 k2 (HS.out.off5 (HN.out.off (by simp)) _ _ _ _ _)).mono ?_); rintro e w3 ⟨rfl, hu⟩; have HU3 := Lib.hid ((HU2.out.set5 hw1).trans hu); clear hu))
  go_ret
  exact ⟨rfl, HU3.out.alloc _ _⟩
end Go.Proofs.YtjbgogajnjefmaaGreat
