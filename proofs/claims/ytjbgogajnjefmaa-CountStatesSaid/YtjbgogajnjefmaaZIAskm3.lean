/- Texts of these claims, one after the other. -/
import Derived.Test.YtjbgogajnjefmaaZBSmallm2
import Derived.Test.YtjbgogajnjefmaaZGBasem10
import Derived.Test.YtjbgogajnjefmaaZGLawm6
import Derived.Test.YtjbgogajnjefmaaZHOrdm3
import Derived.Test.YtjbgogajnjefmaaZHQrym3
import Derived.Test.YtjbgogajnjefmaaZHRVal
import Derived.Test.YtjbgogajnjefmaaZHRowm3
import Derived.Test.YtjbgogajnjefmaaZHSamem5
import Derived.Test.YtjbgogajnjefmaaZIAdd
import Derived.Test.YtjbgogajnjefmaaZIAdv
import Derived.Test.YtjbgogajnjefmaaZIBasem2
import Derived.Test.YtjbgogajnjefmaaZIVal
import Derived.Test.YtjbgogajnjefmaaZRArithm2
import Derived.Test.YtjbgogajnjefmaaZWGcd
import Derived.Test.YtjbgogajnjefmaaZWMathm11
import Derived.Test.YtjbgogajnjefmaaZWRDiv2
import Derived.Test.YtjbgogajnjefmaaZWShortm6
namespace Go.Proofs.Ytjbgogajnjefmaa
open Go.RowKit
set_option linter.unusedVariables false

/-- What Ask returns. -/
def akV (b : Bool) (L : List It) : Value := if b = true then .tuple #[quV L, .int .i64 0] else .tuple #[.agg #[.int .i64 0, .int .i64 0, .int .i64 0, .int .i64 0, .int .i64 0, .int .i64 0], .int .i64 2]

set_option maxHeartbeats 4000000 in
set_option maxRecDepth 100000 in
theorem ask11_up (v q c now : Int) (n k : Nat) (A : Option Addr) (L : List It) (hn : n ≤ 50000) (w : World) (hS : Sl w A n L) :
    Calls Try.prog 17 #[.agg #[.int .i64 v, .int .i64 q, .int .i64 c, .int .i64 now, .slice A n k]] w fun e w' => e = .returned (akV (stC v q c now L) L) ∧ Up w w' := by
  have KV := Lib.hid (fun W (h : Sl W A n L) => validate11_up v q c now n k A L hn W h)
  have HS := Lib.hid hS
  unfold akV
  cases hv : stC v q c now L with
  | false =>
    rw [stCE_no hv] at KV
    clear hS hv
    go_enter Try.func17, Try.ntmps17
    go_wp2_with (go_at_call 19; (with_reducible refine (KV.out _ (HS.out.up (((Up.refl w).alloc _ _).alloc _ _))).mono ?_); rintro e w1 ⟨rfl, hu⟩; have HU1 := Lib.hid ((((Up.refl w).alloc #[.int .i64 v, .int .i64 q, .int .i64 c, .int .i64 now, .slice A n k] 24).alloc #[.int .i64 0, .int .i64 0, .int .i64 0, .int .i64 0, .int .i64 0, .int .i64 0] 37).trans hu); have c00 := hu.keep (w.heap.size) 0 (.int .i64 v) (by simp [go_sem]); have c01 := hu.keep (w.heap.size) 1 (.int .i64 q) (by simp [go_sem]); have c02 := hu.keep (w.heap.size) 2 (.int .i64 c) (by simp [go_sem]); have c03 := hu.keep (w.heap.size) 3 (.int .i64 now) (by simp [go_sem]); have c04 := hu.keep (w.heap.size) 4 (.slice A n k) (by simp [go_sem]); have c10 := hu.keep (w.heap.size + 1) 0 (.int .i64 0) (by simp [go_sem]); have c11 := hu.keep (w.heap.size + 1) 1 (.int .i64 0) (by simp [go_sem]); have c12 := hu.keep (w.heap.size + 1) 2 (.int .i64 0) (by simp [go_sem]); have c13 := hu.keep (w.heap.size + 1) 3 (.int .i64 0) (by simp [go_sem]); have c14 := hu.keep (w.heap.size + 1) 4 (.int .i64 0) (by simp [go_sem]); have c15 := hu.keep (w.heap.size + 1) 5 (.int .i64 0) (by simp [go_sem]); have z00 := HU1.out.ownGe (g := w.heap.size) (Nat.le_refl _) 0; have z01 := HU1.out.ownGe (g := w.heap.size) (Nat.le_refl _) 1; have z02 := HU1.out.ownGe (g := w.heap.size) (Nat.le_refl _) 2; have z03 := HU1.out.ownGe (g := w.heap.size) (Nat.le_refl _) 3; have z04 := HU1.out.ownGe (g := w.heap.size) (Nat.le_refl _) 4; have z10 := HU1.out.ownGe (g := w.heap.size + 1) (by omega) 0; have z11 := HU1.out.ownGe (g := w.heap.size + 1) (by omega) 1; have z12 := HU1.out.ownGe (g := w.heap.size + 1) (by omega) 2; have z13 := HU1.out.ownGe (g := w.heap.size + 1) (by omega) 3; have z14 := HU1.out.ownGe (g := w.heap.size + 1) (by omega) 4; have z15 := HU1.out.ownGe (g := w.heap.size + 1) (by omega) 5; have hlt : w.heap.size + 1 < w1.heap.size := World.block_lt_of_cell? _ _ c10; have hlt0 : w.heap.size < w1.heap.size := Nat.lt_of_succ_lt hlt; clear hu)
    refine bodyPost_ret (v := .tuple #[.agg #[.int .i64 0, .int .i64 0, .int .i64 0, .int .i64 0, .int .i64 0, .int .i64 0], .int .i64 2]) (by simp [results, Try.results17, go_sem, c10, c11, c12, c13, c14, c15]) rfl ⟨rfl, ?_⟩
    exact HU1.out.set6 (by omega)
  | true =>
    rw [stCE_yes hv] at KV
    have KQ := Lib.hid (fun W (h : Sl W A n L) => query10_up n k A L hn (stC_true hv).2.1.lv W h)
    obtain ⟨x0, x1, x2, x3, x4, x5, eq⟩ := quV_agg L
    rw [eq] at KQ
    rw [eq]
    clear hS hv eq
    go_enter Try.func17, Try.ntmps17
    go_wp2_with (first | (go_at_call 46; (with_reducible refine (KQ.out _ (HS.out.up HU1.out)).mono ?_); rintro e w2 ⟨rfl, hu⟩; have HU2 := Lib.hid (HU1.out.trans hu); have d10 := hu.keep _ _ _ c10; have y10 := HU2.out.ownGe (g := w.heap.size + 1) (by omega) 0; have d11 := hu.keep _ _ _ c11; have y11 := HU2.out.ownGe (g := w.heap.size + 1) (by omega) 1; have d12 := hu.keep _ _ _ c12; have y12 := HU2.out.ownGe (g := w.heap.size + 1) (by omega) 2; have d13 := hu.keep _ _ _ c13; have y13 := HU2.out.ownGe (g := w.heap.size + 1) (by omega) 3; have d14 := hu.keep _ _ _ c14; have y14 := HU2.out.ownGe (g := w.heap.size + 1) (by omega) 4; have d15 := hu.keep _ _ _ c15; have y15 := HU2.out.ownGe (g := w.heap.size + 1) (by omega) 5; have hlt2 : w.heap.size + 1 < w2.heap.size := World.block_lt_of_cell? _ _ d10; clear hu) | (go_at_call 19; (with_reducible refine (KV.out _ (HS.out.up (((Up.refl w).alloc _ _).alloc _ _))).mono ?_); rintro e w1 ⟨rfl, hu⟩; have HU1 := Lib.hid ((((Up.refl w).alloc #[.int .i64 v, .int .i64 q, .int .i64 c, .int .i64 now, .slice A n k] 24).alloc #[.int .i64 0, .int .i64 0, .int .i64 0, .int .i64 0, .int .i64 0, .int .i64 0] 37).trans hu); have c00 := hu.keep (w.heap.size) 0 (.int .i64 v) (by simp [go_sem]); have c01 := hu.keep (w.heap.size) 1 (.int .i64 q) (by simp [go_sem]); have c02 := hu.keep (w.heap.size) 2 (.int .i64 c) (by simp [go_sem]); have c03 := hu.keep (w.heap.size) 3 (.int .i64 now) (by simp [go_sem]); have c04 := hu.keep (w.heap.size) 4 (.slice A n k) (by simp [go_sem]); have c10 := hu.keep (w.heap.size + 1) 0 (.int .i64 0) (by simp [go_sem]); have c11 := hu.keep (w.heap.size + 1) 1 (.int .i64 0) (by simp [go_sem]); have c12 := hu.keep (w.heap.size + 1) 2 (.int .i64 0) (by simp [go_sem]); have c13 := hu.keep (w.heap.size + 1) 3 (.int .i64 0) (by simp [go_sem]); have c14 := hu.keep (w.heap.size + 1) 4 (.int .i64 0) (by simp [go_sem]); have c15 := hu.keep (w.heap.size + 1) 5 (.int .i64 0) (by simp [go_sem]); have z00 := HU1.out.ownGe (g := w.heap.size) (Nat.le_refl _) 0; have z01 := HU1.out.ownGe (g := w.heap.size) (Nat.le_refl _) 1; have z02 := HU1.out.ownGe (g := w.heap.size) (Nat.le_refl _) 2; have z03 := HU1.out.ownGe (g := w.heap.size) (Nat.le_refl _) 3; have z04 := HU1.out.ownGe (g := w.heap.size) (Nat.le_refl _) 4; have z10 := HU1.out.ownGe (g := w.heap.size + 1) (by omega) 0; have z11 := HU1.out.ownGe (g := w.heap.size + 1) (by omega) 1; have z12 := HU1.out.ownGe (g := w.heap.size + 1) (by omega) 2; have z13 := HU1.out.ownGe (g := w.heap.size + 1) (by omega) 3; have z14 := HU1.out.ownGe (g := w.heap.size + 1) (by omega) 4; have z15 := HU1.out.ownGe (g := w.heap.size + 1) (by omega) 5; have hlt : w.heap.size + 1 < w1.heap.size := World.block_lt_of_cell? _ _ c10; have hlt0 : w.heap.size < w1.heap.size := Nat.lt_of_succ_lt hlt; clear hu))
    refine bodyPost_ret (v := .tuple #[.agg #[.int .i64 x0, .int .i64 x1, .int .i64 x2, .int .i64 x3, .int .i64 x4, .int .i64 x5], .int .i64 0]) (by simp [results, Try.results17, go_sem, d10, d11, d12, d13, d14, d15]) rfl ⟨rfl, ?_⟩
    exact HU2.out.set6 (by omega)

set_option maxHeartbeats 4000000 in
set_option maxRecDepth 100000 in
theorem rask11_up (v q c now : Int) (n k : Nat) (A : Option Addr) (L : List It) (hn : n ≤ 50000) (w : World) (hS : Sl w A n L) :
    Calls Try.prog 18 #[.agg #[.int .i64 v, .int .i64 q, .int .i64 c, .int .i64 now, .slice A n k]] w fun e w' => e = .returned (akV (stC v q c now L) L) ∧ Up w w' := by
  have KV := Lib.hid (fun W (h : Sl W A n L) => rvalidate11_up v q c now n k A L hn W h)
  have HS := Lib.hid hS
  unfold akV
  cases hv : stC v q c now L with
  | false =>
    rw [stCE_no hv] at KV
    clear hS hv
    go_enter Try.func18, Try.ntmps18
    go_wp2_with (go_at_call 20; (with_reducible refine (KV.out _ (HS.out.up (((Up.refl w).alloc _ _).alloc _ _))).mono ?_); rintro e w1 ⟨rfl, hu⟩; have HU1 := Lib.hid ((((Up.refl w).alloc #[.int .i64 v, .int .i64 q, .int .i64 c, .int .i64 now, .slice A n k] 24).alloc #[.int .i64 0, .int .i64 0, .int .i64 0, .int .i64 0, .int .i64 0, .int .i64 0] 37).trans hu); have c00 := hu.keep (w.heap.size) 0 (.int .i64 v) (by simp [go_sem]); have c01 := hu.keep (w.heap.size) 1 (.int .i64 q) (by simp [go_sem]); have c02 := hu.keep (w.heap.size) 2 (.int .i64 c) (by simp [go_sem]); have c03 := hu.keep (w.heap.size) 3 (.int .i64 now) (by simp [go_sem]); have c04 := hu.keep (w.heap.size) 4 (.slice A n k) (by simp [go_sem]); have c10 := hu.keep (w.heap.size + 1) 0 (.int .i64 0) (by simp [go_sem]); have c11 := hu.keep (w.heap.size + 1) 1 (.int .i64 0) (by simp [go_sem]); have c12 := hu.keep (w.heap.size + 1) 2 (.int .i64 0) (by simp [go_sem]); have c13 := hu.keep (w.heap.size + 1) 3 (.int .i64 0) (by simp [go_sem]); have c14 := hu.keep (w.heap.size + 1) 4 (.int .i64 0) (by simp [go_sem]); have c15 := hu.keep (w.heap.size + 1) 5 (.int .i64 0) (by simp [go_sem]); have z00 := HU1.out.ownGe (g := w.heap.size) (Nat.le_refl _) 0; have z01 := HU1.out.ownGe (g := w.heap.size) (Nat.le_refl _) 1; have z02 := HU1.out.ownGe (g := w.heap.size) (Nat.le_refl _) 2; have z03 := HU1.out.ownGe (g := w.heap.size) (Nat.le_refl _) 3; have z04 := HU1.out.ownGe (g := w.heap.size) (Nat.le_refl _) 4; have z10 := HU1.out.ownGe (g := w.heap.size + 1) (by omega) 0; have z11 := HU1.out.ownGe (g := w.heap.size + 1) (by omega) 1; have z12 := HU1.out.ownGe (g := w.heap.size + 1) (by omega) 2; have z13 := HU1.out.ownGe (g := w.heap.size + 1) (by omega) 3; have z14 := HU1.out.ownGe (g := w.heap.size + 1) (by omega) 4; have z15 := HU1.out.ownGe (g := w.heap.size + 1) (by omega) 5; have hlt : w.heap.size + 1 < w1.heap.size := World.block_lt_of_cell? _ _ c10; have hlt0 : w.heap.size < w1.heap.size := Nat.lt_of_succ_lt hlt; clear hu)
    refine bodyPost_ret (v := .tuple #[.agg #[.int .i64 0, .int .i64 0, .int .i64 0, .int .i64 0, .int .i64 0, .int .i64 0], .int .i64 2]) (by simp [results, Try.results18, go_sem, c10, c11, c12, c13, c14, c15]) rfl ⟨rfl, ?_⟩
    exact HU1.out.set6 (by omega)
  | true =>
    rw [stCE_yes hv] at KV
    have KQ := Lib.hid (fun W (h : Sl W A n L) => rquery10_up n k A L hn (stC_true hv).2.1.lv W h)
    obtain ⟨x0, x1, x2, x3, x4, x5, eq⟩ := quV_agg L
    rw [eq] at KQ
    rw [eq]
    clear hS hv eq
    go_enter Try.func18, Try.ntmps18
    go_wp2_with (first | (go_at_call 47; (with_reducible refine (KQ.out _ (HS.out.up HU1.out)).mono ?_); rintro e w2 ⟨rfl, hu⟩; have HU2 := Lib.hid (HU1.out.trans hu); have d10 := hu.keep _ _ _ c10; have y10 := HU2.out.ownGe (g := w.heap.size + 1) (by omega) 0; have d11 := hu.keep _ _ _ c11; have y11 := HU2.out.ownGe (g := w.heap.size + 1) (by omega) 1; have d12 := hu.keep _ _ _ c12; have y12 := HU2.out.ownGe (g := w.heap.size + 1) (by omega) 2; have d13 := hu.keep _ _ _ c13; have y13 := HU2.out.ownGe (g := w.heap.size + 1) (by omega) 3; have d14 := hu.keep _ _ _ c14; have y14 := HU2.out.ownGe (g := w.heap.size + 1) (by omega) 4; have d15 := hu.keep _ _ _ c15; have y15 := HU2.out.ownGe (g := w.heap.size + 1) (by omega) 5; have hlt2 : w.heap.size + 1 < w2.heap.size := World.block_lt_of_cell? _ _ d10; clear hu) | (go_at_call 20; (with_reducible refine (KV.out _ (HS.out.up (((Up.refl w).alloc _ _).alloc _ _))).mono ?_); rintro e w1 ⟨rfl, hu⟩; have HU1 := Lib.hid ((((Up.refl w).alloc #[.int .i64 v, .int .i64 q, .int .i64 c, .int .i64 now, .slice A n k] 24).alloc #[.int .i64 0, .int .i64 0, .int .i64 0, .int .i64 0, .int .i64 0, .int .i64 0] 37).trans hu); have c00 := hu.keep (w.heap.size) 0 (.int .i64 v) (by simp [go_sem]); have c01 := hu.keep (w.heap.size) 1 (.int .i64 q) (by simp [go_sem]); have c02 := hu.keep (w.heap.size) 2 (.int .i64 c) (by simp [go_sem]); have c03 := hu.keep (w.heap.size) 3 (.int .i64 now) (by simp [go_sem]); have c04 := hu.keep (w.heap.size) 4 (.slice A n k) (by simp [go_sem]); have c10 := hu.keep (w.heap.size + 1) 0 (.int .i64 0) (by simp [go_sem]); have c11 := hu.keep (w.heap.size + 1) 1 (.int .i64 0) (by simp [go_sem]); have c12 := hu.keep (w.heap.size + 1) 2 (.int .i64 0) (by simp [go_sem]); have c13 := hu.keep (w.heap.size + 1) 3 (.int .i64 0) (by simp [go_sem]); have c14 := hu.keep (w.heap.size + 1) 4 (.int .i64 0) (by simp [go_sem]); have c15 := hu.keep (w.heap.size + 1) 5 (.int .i64 0) (by simp [go_sem]); have z00 := HU1.out.ownGe (g := w.heap.size) (Nat.le_refl _) 0; have z01 := HU1.out.ownGe (g := w.heap.size) (Nat.le_refl _) 1; have z02 := HU1.out.ownGe (g := w.heap.size) (Nat.le_refl _) 2; have z03 := HU1.out.ownGe (g := w.heap.size) (Nat.le_refl _) 3; have z04 := HU1.out.ownGe (g := w.heap.size) (Nat.le_refl _) 4; have z10 := HU1.out.ownGe (g := w.heap.size + 1) (by omega) 0; have z11 := HU1.out.ownGe (g := w.heap.size + 1) (by omega) 1; have z12 := HU1.out.ownGe (g := w.heap.size + 1) (by omega) 2; have z13 := HU1.out.ownGe (g := w.heap.size + 1) (by omega) 3; have z14 := HU1.out.ownGe (g := w.heap.size + 1) (by omega) 4; have z15 := HU1.out.ownGe (g := w.heap.size + 1) (by omega) 5; have hlt : w.heap.size + 1 < w1.heap.size := World.block_lt_of_cell? _ _ c10; have hlt0 : w.heap.size < w1.heap.size := Nat.lt_of_succ_lt hlt; clear hu))
    refine bodyPost_ret (v := .tuple #[.agg #[.int .i64 x0, .int .i64 x1, .int .i64 x2, .int .i64 x3, .int .i64 x4, .int .i64 x5], .int .i64 0]) (by simp [results, Try.results18, go_sem, d10, d11, d12, d13, d14, d15]) rfl ⟨rfl, ?_⟩
    exact HU2.out.set6 (by omega)
end Go.Proofs.Ytjbgogajnjefmaa

namespace Go.Proofs.Ytjbgogajnjefmaa
open Go.RowKit
set_option linter.unusedVariables false

theorem put1 : puB 1 0 [] = [(0, 0)] := puS_at (by decide)
theorem awk_st : stC 10 1 100 0 [] = true ∧ stC 10 1 100 0 [(0, 0)] = true := by
  have h := (Hs.start (v := 10) (k := 1) (c := 100) (now := 0) (by decide)).st
  have h2 := (stC_add h (by decide)).1
  rw [put1] at h2
  exact ⟨h, h2⟩
theorem awk_ak : akV (stC 10 1 100 0 [(0, 0)]) [(0, 0)] = .tuple #[.agg #[.int .i64 1, .int .i64 1, .int .i64 1, .int .i64 1, .int .i64 1, .int .i64 1], .int .i64 0] := by
  rw [awk_st.2]
  rfl
theorem awk_new (W : World) : Calls Try.prog 8 #[.int .i64 10, .int .i64 1, .int .i64 100, .int .i64 0] W fun e w' => e = .returned (.tuple #[.agg #[.int .i64 10, .int .i64 1, .int .i64 100, .int .i64 0, .slice none 0 0], .int .i64 0]) ∧ Up W w' :=
  new11_yes 10 1 100 0 (by decide) W
theorem awk_add (W : World) : Calls Try.prog 15 #[.agg #[.int .i64 10, .int .i64 1, .int .i64 100, .int .i64 0, .slice none 0 0]] W fun e w' => ∃ A' k', e = .returned (.tuple #[.agg #[.int .i64 10, .int .i64 1, .int .i64 100, .int .i64 0, .slice A' 1 k'], .int .i64 0]) ∧ Nw W A' ∧ Sl w' A' 1 [(0, 0)] ∧ Up W w' :=
  (add11_good 10 1 100 0 0 0 none [] (by omega) (Nat.le_refl _) awk_st.1 (by decide) W Sl.none_).mono (fun _ _ ⟨A', n', k', h1, _, _, h3, h4, h5⟩ => by
    rw [put1] at h4
    obtain rfl : n' = 1 := h4.1.symm
    exact ⟨A', k', h1, h3, h4, h5⟩)
theorem awk_ask (W : World) (A : Option Addr) (k : Nat) (h : Sl W A 1 [(0, 0)]) : Calls Try.prog 17 #[.agg #[.int .i64 10, .int .i64 1, .int .i64 100, .int .i64 0, .slice A 1 k]] W fun e w' => e = .returned (.tuple #[.agg #[.int .i64 1, .int .i64 1, .int .i64 1, .int .i64 1, .int .i64 1, .int .i64 1], .int .i64 0]) ∧ Up W w' := by
  have := ask11_up 10 1 100 0 1 k A [(0, 0)] (by omega) W h
  rwa [awk_ak] at this

set_option maxHeartbeats 4000000 in
set_option maxRecDepth 100000 in
theorem awake11_up (w : World) : Calls Try.prog 11 #[] w fun e w' => e = .returned (.bool true) ∧ Up w w' := by
  have K1 := Lib.hid awk_new
  have K2 := Lib.hid awk_add
  have K3 := Lib.hid awk_ask
  go_enter Try.func11, Try.ntmps11
  go_wp2_with (first
    | (go_at_call 8; (with_reducible refine (K1.out _).mono ?_); rintro e w1 ⟨rfl, hu⟩; have HU1 := Lib.hid hu; clear hu)
    | (go_at_call 15; (with_reducible refine (K2.out _).mono ?_); rintro e w2 ⟨A2, k2, rfl, hn, hs, hu⟩; have HN := Lib.hid hn; have HS := Lib.hid hs; have HU2 := Lib.hid ((HU1.out.alloc _ _).trans hu); have a0 := hu.keep w1.heap.size 0 (.int .i64 10) (by simp [go_sem]); have a1 := hu.keep w1.heap.size 1 (.int .i64 1) (by simp [go_sem]); have a2 := hu.keep w1.heap.size 2 (.int .i64 100) (by simp [go_sem]); have a3 := hu.keep w1.heap.size 3 (.int .i64 0) (by simp [go_sem]); have a4 := hu.keep w1.heap.size 4 (.slice none 0 0) (by simp [go_sem]); have hw1 := HU1.out.size; have hlt : w1.heap.size < w2.heap.size := World.block_lt_of_cell? _ _ a0; have f0 := HU2.out.ownGe (g := w1.heap.size) hw1 0; have f1 := HU2.out.ownGe (g := w1.heap.size) hw1 1; have f2 := HU2.out.ownGe (g := w1.heap.size) hw1 2; have f3 := HU2.out.ownGe (g := w1.heap.size) hw1 3; have f4 := HU2.out.ownGe (g := w1.heap.size) hw1 4; clear hu hn hs)
    | (go_at_call 17; (with_reducible refine (K3.out _ A2 k2 (HS.out.off5 (HN.out.off (by simp)) _ _ _ _ _)).mono ?_); rintro e w3 ⟨rfl, hu⟩; have HU3 := Lib.hid ((HU2.out.set5 hw1).trans hu); clear hu))
  go_ret
  exact ⟨rfl, HU3.out.alloc _ _⟩
end Go.Proofs.Ytjbgogajnjefmaa

namespace Go.Proofs.Ytjbgogajnjefmaa
open Go.RowKit
set_option linter.unusedVariables false

/-- What Advance and Add return: the numbers of the state, its buckets, the error. -/
def advC (v q c now td : Int) (L : List It) : Int × Int × Int × Int × List It × Int :=
  if stC v q c now L = false then (0, 0, 0, 0, [], 2) else if td < now ∨ 16777216 < td then (0, 0, 0, 0, [], 3) else (v, q, c, td, exL L (firZ td v), 0)
def addC (v q c now : Int) (L : List It) : Int × Int × Int × Int × List It × Int :=
  if stC v q c now L = false then (0, 0, 0, 0, [], 2) else if totB L = c then (0, 0, 0, 0, [], 5) else (v, q, c, now, puB q now L, 0)
theorem adv11_all (v q c now td : Int) (n k : Nat) (A : Option Addr) (L : List It) (hn : n ≤ 50000) (hk : n ≤ k) {a b d f e0 : Int} {M : List It} (h : advC v q c now td L = (a, b, d, f, M, e0)) (w : World) (hS : Sl w A n L) :
    Calls Try.prog 13 #[.agg #[.int .i64 v, .int .i64 q, .int .i64 c, .int .i64 now, .slice A n k], .int .i64 td] w fun e w' => ∃ A' k', e = .returned (.tuple #[.agg #[.int .i64 a, .int .i64 b, .int .i64 d, .int .i64 f, .slice A' M.length k'], .int .i64 e0]) ∧ M.length ≤ n + 1024 ∧ Sl w' A' M.length M ∧ Up w w' := by
  unfold advC at h
  split at h
  · rename_i hv
    cases h
    exact (adv11_bad v q c now td n k A L hn hk hv w hS).mono (fun _ _ ⟨h1, h2⟩ => ⟨none, 0, h1, Nat.zero_le _, Sl.none_, h2⟩)
  · rename_i hv
    rw [Bool.not_eq_false] at hv
    split at h
    · rename_i ht
      cases h
      exact (adv11_time v q c now td n k A L hn hk hv ht w hS).mono (fun _ _ ⟨h1, h2⟩ => ⟨none, 0, h1, Nat.zero_le _, Sl.none_, h2⟩)
    · rename_i ht
      cases h
      refine (adv11_good v q c now td n k A L hn hk hv (by omega) (by omega) w hS).mono ?_
      rintro e w' ⟨A', n', k', rfl, hn', _, _, h2, h3⟩
      obtain rfl : (exL L (firZ td v)).length = n' := h2.1
      exact ⟨A', k', rfl, by omega, h2, h3⟩
theorem add11_all (v q c now : Int) (n k : Nat) (A : Option Addr) (L : List It) (hn : n ≤ 50000) (hk : n ≤ k) {a b d f e0 : Int} {M : List It} (h : addC v q c now L = (a, b, d, f, M, e0)) (w : World) (hS : Sl w A n L) :
    Calls Try.prog 15 #[.agg #[.int .i64 v, .int .i64 q, .int .i64 c, .int .i64 now, .slice A n k]] w fun e w' => ∃ A' k', e = .returned (.tuple #[.agg #[.int .i64 a, .int .i64 b, .int .i64 d, .int .i64 f, .slice A' M.length k'], .int .i64 e0]) ∧ M.length ≤ n + 1024 ∧ Sl w' A' M.length M ∧ Up w w' := by
  unfold addC at h
  split at h
  · rename_i hv
    cases h
    exact (add11_bad v q c now n k A L hn hk hv w hS).mono (fun _ _ ⟨h1, h2⟩ => ⟨none, 0, h1, Nat.zero_le _, Sl.none_, h2⟩)
  · rename_i hv
    rw [Bool.not_eq_false] at hv
    split at h
    · rename_i ht
      cases h
      exact (add11_full v q c now n k A L hn hk hv ht w hS).mono (fun _ _ ⟨h1, h2⟩ => ⟨none, 0, h1, Nat.zero_le _, Sl.none_, h2⟩)
    · rename_i ht
      cases h
      refine (add11_good v q c now n k A L hn hk hv ht w hS).mono ?_
      rintro e w' ⟨A', n', k', rfl, hn', _, _, h2, h3⟩
      obtain rfl : (puB q now L).length = n' := h2.1
      exact ⟨A', k', rfl, by omega, h2, h3⟩
theorem radv11_all (v q c now td : Int) (n k : Nat) (A : Option Addr) (L : List It) (hn : n ≤ 50000) (hk : n ≤ k) {a b d f e0 : Int} {M : List It} (h : advC v q c now td L = (a, b, d, f, M, e0)) (w : World) (hS : Sl w A n L) :
    Calls Try.prog 14 #[.agg #[.int .i64 v, .int .i64 q, .int .i64 c, .int .i64 now, .slice A n k], .int .i64 td] w fun e w' => ∃ A' k', e = .returned (.tuple #[.agg #[.int .i64 a, .int .i64 b, .int .i64 d, .int .i64 f, .slice A' M.length k'], .int .i64 e0]) ∧ M.length ≤ n + 1024 ∧ Sl w' A' M.length M ∧ Up w w' := by
  unfold advC at h
  split at h
  · rename_i hv
    cases h
    exact (radv11_bad v q c now td n k A L hn hk hv w hS).mono (fun _ _ ⟨h1, h2⟩ => ⟨none, 0, h1, Nat.zero_le _, Sl.none_, h2⟩)
  · rename_i hv
    rw [Bool.not_eq_false] at hv
    split at h
    · rename_i ht
      cases h
      exact (radv11_time v q c now td n k A L hn hk hv ht w hS).mono (fun _ _ ⟨h1, h2⟩ => ⟨none, 0, h1, Nat.zero_le _, Sl.none_, h2⟩)
    · rename_i ht
      cases h
      refine (radv11_good v q c now td n k A L hn hk hv (by omega) (by omega) w hS).mono ?_
      rintro e w' ⟨A', n', k', rfl, hn', h2, h3⟩
      obtain rfl : (exL L (firZ td v)).length = n' := h2.1
      exact ⟨A', k', rfl, by omega, h2, h3⟩
theorem radd11_all (v q c now : Int) (n k : Nat) (A : Option Addr) (L : List It) (hn : n ≤ 50000) (hk : n ≤ k) {a b d f e0 : Int} {M : List It} (h : addC v q c now L = (a, b, d, f, M, e0)) (w : World) (hS : Sl w A n L) :
    Calls Try.prog 16 #[.agg #[.int .i64 v, .int .i64 q, .int .i64 c, .int .i64 now, .slice A n k]] w fun e w' => ∃ A' k', e = .returned (.tuple #[.agg #[.int .i64 a, .int .i64 b, .int .i64 d, .int .i64 f, .slice A' M.length k'], .int .i64 e0]) ∧ M.length ≤ n + 1024 ∧ Sl w' A' M.length M ∧ Up w w' := by
  unfold addC at h
  split at h
  · rename_i hv
    cases h
    exact (radd11_bad v q c now n k A L hn hk hv w hS).mono (fun _ _ ⟨h1, h2⟩ => ⟨none, 0, h1, Nat.zero_le _, Sl.none_, h2⟩)
  · rename_i hv
    rw [Bool.not_eq_false] at hv
    split at h
    · rename_i ht
      cases h
      exact (radd11_full v q c now n k A L hn hk hv ht w hS).mono (fun _ _ ⟨h1, h2⟩ => ⟨none, 0, h1, Nat.zero_le _, Sl.none_, h2⟩)
    · rename_i ht
      cases h
      refine (radd11_good v q c now n k A L hn hk hv ht w hS).mono ?_
      rintro e w' ⟨A', n', k', rfl, hn', _, _, h2, h3⟩
      obtain rfl : (puB q now L).length = n' := h2.1
      exact ⟨A', k', rfl, by omega, h2, h3⟩
theorem akV_agg (b : Bool) (L : List It) : ∃ x0 x1 x2 x3 x4 x5 e0, akV b L = .tuple #[.agg #[.int .i64 x0, .int .i64 x1, .int .i64 x2, .int .i64 x3, .int .i64 x4, .int .i64 x5], .int .i64 e0] := by
  unfold akV
  cases b
  · exact ⟨_, _, _, _, _, _, _, rfl⟩
  · obtain ⟨x0, x1, x2, x3, x4, x5, eq⟩ := quV_agg L
    exact ⟨x0, x1, x2, x3, x4, x5, 0, by rw [eq]; rfl⟩
theorem keepS {w w1 w2 : World} {b0 o0 b1 o1 b2 o2 b3 o3 b4 o4 b5 o5 b6 o6 b7 o7 b8 o8 b9 o9 b10 o10 b11 o11 b12 o12 b13 o13 b14 o14 b15 o15 b16 o16 b17 o17 b18 o18 b19 o19 b20 o20 b21 o21 b22 o22 b23 o23 b24 o24 b25 o25 b26 o26 b27 o27 b28 o28 b29 o29 b30 o30 b31 o31 b32 o32 b33 o33 b34 o34 b35 o35 b36 o36 : Nat} {x0 x1 x2 x3 x4 x5 x6 x7 x8 x9 x10 x11 x12 x13 x14 x15 x16 x17 x18 x19 x20 x21 x22 x23 x24 x25 x26 x27 x28 x29 x30 x31 x32 x33 x34 x35 x36 : Value} (hu : Hid (Up w1 w2)) (h : Up w w1 ∧ w1.cell? ⟨b0, o0, none⟩ = some x0 ∧ w1.cell? ⟨b1, o1, none⟩ = some x1 ∧ w1.cell? ⟨b2, o2, none⟩ = some x2 ∧ w1.cell? ⟨b3, o3, none⟩ = some x3 ∧ w1.cell? ⟨b4, o4, none⟩ = some x4 ∧ w1.cell? ⟨b5, o5, none⟩ = some x5 ∧ w1.cell? ⟨b6, o6, none⟩ = some x6 ∧ w1.cell? ⟨b7, o7, none⟩ = some x7 ∧ w1.cell? ⟨b8, o8, none⟩ = some x8 ∧ w1.cell? ⟨b9, o9, none⟩ = some x9 ∧ w1.cell? ⟨b10, o10, none⟩ = some x10 ∧ w1.cell? ⟨b11, o11, none⟩ = some x11 ∧ w1.cell? ⟨b12, o12, none⟩ = some x12 ∧ w1.cell? ⟨b13, o13, none⟩ = some x13 ∧ w1.cell? ⟨b14, o14, none⟩ = some x14 ∧ w1.cell? ⟨b15, o15, none⟩ = some x15 ∧ w1.cell? ⟨b16, o16, none⟩ = some x16 ∧ w1.cell? ⟨b17, o17, none⟩ = some x17 ∧ w1.cell? ⟨b18, o18, none⟩ = some x18 ∧ w1.cell? ⟨b19, o19, none⟩ = some x19 ∧ w1.cell? ⟨b20, o20, none⟩ = some x20 ∧ w1.cell? ⟨b21, o21, none⟩ = some x21 ∧ w1.cell? ⟨b22, o22, none⟩ = some x22 ∧ w1.cell? ⟨b23, o23, none⟩ = some x23 ∧ w1.cell? ⟨b24, o24, none⟩ = some x24 ∧ w1.cell? ⟨b25, o25, none⟩ = some x25 ∧ w1.cell? ⟨b26, o26, none⟩ = some x26 ∧ w1.cell? ⟨b27, o27, none⟩ = some x27 ∧ w1.cell? ⟨b28, o28, none⟩ = some x28 ∧ w1.cell? ⟨b29, o29, none⟩ = some x29 ∧ w1.cell? ⟨b30, o30, none⟩ = some x30 ∧ w1.cell? ⟨b31, o31, none⟩ = some x31 ∧ w1.cell? ⟨b32, o32, none⟩ = some x32 ∧ w1.cell? ⟨b33, o33, none⟩ = some x33 ∧ w1.cell? ⟨b34, o34, none⟩ = some x34 ∧ w1.cell? ⟨b35, o35, none⟩ = some x35 ∧ w1.cell? ⟨b36, o36, none⟩ = some x36) : Up w w2 ∧ w2.cell? ⟨b0, o0, none⟩ = some x0 ∧ w2.cell? ⟨b1, o1, none⟩ = some x1 ∧ w2.cell? ⟨b2, o2, none⟩ = some x2 ∧ w2.cell? ⟨b3, o3, none⟩ = some x3 ∧ w2.cell? ⟨b4, o4, none⟩ = some x4 ∧ w2.cell? ⟨b5, o5, none⟩ = some x5 ∧ w2.cell? ⟨b6, o6, none⟩ = some x6 ∧ w2.cell? ⟨b7, o7, none⟩ = some x7 ∧ w2.cell? ⟨b8, o8, none⟩ = some x8 ∧ w2.cell? ⟨b9, o9, none⟩ = some x9 ∧ w2.cell? ⟨b10, o10, none⟩ = some x10 ∧ w2.cell? ⟨b11, o11, none⟩ = some x11 ∧ w2.cell? ⟨b12, o12, none⟩ = some x12 ∧ w2.cell? ⟨b13, o13, none⟩ = some x13 ∧ w2.cell? ⟨b14, o14, none⟩ = some x14 ∧ w2.cell? ⟨b15, o15, none⟩ = some x15 ∧ w2.cell? ⟨b16, o16, none⟩ = some x16 ∧ w2.cell? ⟨b17, o17, none⟩ = some x17 ∧ w2.cell? ⟨b18, o18, none⟩ = some x18 ∧ w2.cell? ⟨b19, o19, none⟩ = some x19 ∧ w2.cell? ⟨b20, o20, none⟩ = some x20 ∧ w2.cell? ⟨b21, o21, none⟩ = some x21 ∧ w2.cell? ⟨b22, o22, none⟩ = some x22 ∧ w2.cell? ⟨b23, o23, none⟩ = some x23 ∧ w2.cell? ⟨b24, o24, none⟩ = some x24 ∧ w2.cell? ⟨b25, o25, none⟩ = some x25 ∧ w2.cell? ⟨b26, o26, none⟩ = some x26 ∧ w2.cell? ⟨b27, o27, none⟩ = some x27 ∧ w2.cell? ⟨b28, o28, none⟩ = some x28 ∧ w2.cell? ⟨b29, o29, none⟩ = some x29 ∧ w2.cell? ⟨b30, o30, none⟩ = some x30 ∧ w2.cell? ⟨b31, o31, none⟩ = some x31 ∧ w2.cell? ⟨b32, o32, none⟩ = some x32 ∧ w2.cell? ⟨b33, o33, none⟩ = some x33 ∧ w2.cell? ⟨b34, o34, none⟩ = some x34 ∧ w2.cell? ⟨b35, o35, none⟩ = some x35 ∧ w2.cell? ⟨b36, o36, none⟩ = some x36 :=
  ⟨h.1.trans hu.out, hu.out.keep _ _ _ h.2.1, hu.out.keep _ _ _ h.2.2.1, hu.out.keep _ _ _ h.2.2.2.1, hu.out.keep _ _ _ h.2.2.2.2.1, hu.out.keep _ _ _ h.2.2.2.2.2.1, hu.out.keep _ _ _ h.2.2.2.2.2.2.1, hu.out.keep _ _ _ h.2.2.2.2.2.2.2.1, hu.out.keep _ _ _ h.2.2.2.2.2.2.2.2.1, hu.out.keep _ _ _ h.2.2.2.2.2.2.2.2.2.1, hu.out.keep _ _ _ h.2.2.2.2.2.2.2.2.2.2.1, hu.out.keep _ _ _ h.2.2.2.2.2.2.2.2.2.2.2.1, hu.out.keep _ _ _ h.2.2.2.2.2.2.2.2.2.2.2.2.1, hu.out.keep _ _ _ h.2.2.2.2.2.2.2.2.2.2.2.2.2.1, hu.out.keep _ _ _ h.2.2.2.2.2.2.2.2.2.2.2.2.2.2.1, hu.out.keep _ _ _ h.2.2.2.2.2.2.2.2.2.2.2.2.2.2.2.1, hu.out.keep _ _ _ h.2.2.2.2.2.2.2.2.2.2.2.2.2.2.2.2.1, hu.out.keep _ _ _ h.2.2.2.2.2.2.2.2.2.2.2.2.2.2.2.2.2.1, hu.out.keep _ _ _ h.2.2.2.2.2.2.2.2.2.2.2.2.2.2.2.2.2.2.1, hu.out.keep _ _ _ h.2.2.2.2.2.2.2.2.2.2.2.2.2.2.2.2.2.2.2.1, hu.out.keep _ _ _ h.2.2.2.2.2.2.2.2.2.2.2.2.2.2.2.2.2.2.2.2.1, hu.out.keep _ _ _ h.2.2.2.2.2.2.2.2.2.2.2.2.2.2.2.2.2.2.2.2.2.1, hu.out.keep _ _ _ h.2.2.2.2.2.2.2.2.2.2.2.2.2.2.2.2.2.2.2.2.2.2.1, hu.out.keep _ _ _ h.2.2.2.2.2.2.2.2.2.2.2.2.2.2.2.2.2.2.2.2.2.2.2.1, hu.out.keep _ _ _ h.2.2.2.2.2.2.2.2.2.2.2.2.2.2.2.2.2.2.2.2.2.2.2.2.1, hu.out.keep _ _ _ h.2.2.2.2.2.2.2.2.2.2.2.2.2.2.2.2.2.2.2.2.2.2.2.2.2.1, hu.out.keep _ _ _ h.2.2.2.2.2.2.2.2.2.2.2.2.2.2.2.2.2.2.2.2.2.2.2.2.2.2.1, hu.out.keep _ _ _ h.2.2.2.2.2.2.2.2.2.2.2.2.2.2.2.2.2.2.2.2.2.2.2.2.2.2.2.1, hu.out.keep _ _ _ h.2.2.2.2.2.2.2.2.2.2.2.2.2.2.2.2.2.2.2.2.2.2.2.2.2.2.2.2.1, hu.out.keep _ _ _ h.2.2.2.2.2.2.2.2.2.2.2.2.2.2.2.2.2.2.2.2.2.2.2.2.2.2.2.2.2.1, hu.out.keep _ _ _ h.2.2.2.2.2.2.2.2.2.2.2.2.2.2.2.2.2.2.2.2.2.2.2.2.2.2.2.2.2.2.1, hu.out.keep _ _ _ h.2.2.2.2.2.2.2.2.2.2.2.2.2.2.2.2.2.2.2.2.2.2.2.2.2.2.2.2.2.2.2.1, hu.out.keep _ _ _ h.2.2.2.2.2.2.2.2.2.2.2.2.2.2.2.2.2.2.2.2.2.2.2.2.2.2.2.2.2.2.2.2.1, hu.out.keep _ _ _ h.2.2.2.2.2.2.2.2.2.2.2.2.2.2.2.2.2.2.2.2.2.2.2.2.2.2.2.2.2.2.2.2.2.1, hu.out.keep _ _ _ h.2.2.2.2.2.2.2.2.2.2.2.2.2.2.2.2.2.2.2.2.2.2.2.2.2.2.2.2.2.2.2.2.2.2.1, hu.out.keep _ _ _ h.2.2.2.2.2.2.2.2.2.2.2.2.2.2.2.2.2.2.2.2.2.2.2.2.2.2.2.2.2.2.2.2.2.2.2.1, hu.out.keep _ _ _ h.2.2.2.2.2.2.2.2.2.2.2.2.2.2.2.2.2.2.2.2.2.2.2.2.2.2.2.2.2.2.2.2.2.2.2.2.1, hu.out.keep _ _ _ h.2.2.2.2.2.2.2.2.2.2.2.2.2.2.2.2.2.2.2.2.2.2.2.2.2.2.2.2.2.2.2.2.2.2.2.2.2⟩
end Go.Proofs.Ytjbgogajnjefmaa
