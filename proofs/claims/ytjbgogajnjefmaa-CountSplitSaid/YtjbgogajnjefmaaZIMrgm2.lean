/- Texts of these claims, one after the other. -/
import Derived.Test.YtjbgogajnjefmaaZBAdd
import Derived.Test.YtjbgogajnjefmaaZBAtMost
import Derived.Test.YtjbgogajnjefmaaZBProduct
import Derived.Test.YtjbgogajnjefmaaZBSmallm2
import Derived.Test.YtjbgogajnjefmaaZBValidm2
import Derived.Test.YtjbgogajnjefmaaZBWhole
import Derived.Test.YtjbgogajnjefmaaZBWidth
import Derived.Test.YtjbgogajnjefmaaZBWithin
import Derived.Test.YtjbgogajnjefmaaZGBasem10
import Derived.Test.YtjbgogajnjefmaaZGLawm6
import Derived.Test.YtjbgogajnjefmaaZHOrdm3
import Derived.Test.YtjbgogajnjefmaaZHQrym3
import Derived.Test.YtjbgogajnjefmaaZHRVal
import Derived.Test.YtjbgogajnjefmaaZHRowm3
import Derived.Test.YtjbgogajnjefmaaZHSamem5
import Derived.Test.YtjbgogajnjefmaaZHSmallm4
import Derived.Test.YtjbgogajnjefmaaZIAdv
import Derived.Test.YtjbgogajnjefmaaZIAskm3
import Derived.Test.YtjbgogajnjefmaaZIBasem2
import Derived.Test.YtjbgogajnjefmaaZIMade
import Derived.Test.YtjbgogajnjefmaaZIRun
import Derived.Test.YtjbgogajnjefmaaZRArithm2
import Derived.Test.YtjbgogajnjefmaaZWGcd
import Derived.Test.YtjbgogajnjefmaaZWMathm11
import Derived.Test.YtjbgogajnjefmaaZWRDiv2
import Derived.Test.YtjbgogajnjefmaaZWShortm6
namespace Go.Proofs.Ytjbgogajnjefmaa
open Go.RowKit
set_option linter.unusedVariables false

theorem sum_one {a b : Int} (h : In (a + b)) : sN a 1 b 1 = a + b ∧ sD a 1 b 1 = 1 ∧ sB a 1 b 1 = true := by
  have hv : (validB a 1 && validB b 1) = true := by rw [valid_one, valid_one]; rfl
  obtain ⟨e1, e2, e3⟩ := quo_is (p := a * 1 + b * 1) (q := 1 * 1) (by omega) h (show In 1 from ⟨by omega, by omega⟩) (valid_one _) (by omega)
  unfold sN sD sB vN vD vB
  rw [hv, e1, e2, e3]
  exact ⟨rfl, rfl, rfl⟩
theorem quV_form (X : List It) : quV X = .agg #[.int .i64 (qlo0 X), .int .i64 1, .int .i64 (mid (qlo0 X) (totB X)), .int .i64 1, .int .i64 (totB X), .int .i64 1] := by
  unfold quV qlo0
  by_cases h : X = []
  · subst h; rfl
  · rw [if_neg h, if_neg h]; rfl
/-- The bounds of a valid state's list. -/
theorem qu_facts {v q c now : Int} {X : List It} (h : stC v q c now X = true) : 0 ≤ qlo0 X ∧ qlo0 X ≤ mid (qlo0 X) (totB X) ∧ mid (qlo0 X) (totB X) ≤ totB X ∧ totB X ≤ 65536 ∧ bvB (qlo0 X) 1 (mid (qlo0 X) (totB X)) 1 (totB X) 1 = true := by
  obtain ⟨a1, a2, a3, a4⟩ := stC_true h
  have g3 := (mayC_facts a1).2.2.1
  obtain ⟨x, m, y, e, _, _, _, hb, _⟩ := a2.query (by omega)
  rw [quV_form] at e
  have e0 : qlo0 X = x ∧ mid (qlo0 X) (totB X) = m ∧ totB X = y := by simpa using e
  have hq : 0 ≤ qlo0 X ∧ qlo0 X ≤ totB X := by
    unfold qlo0
    split
    · rename_i h; subst h; exact ⟨Int.le_refl _, Int.le_refl _⟩
    · rename_i h
      obtain ⟨n1, n2, n3⟩ := a2.narrow h
      exact ⟨by omega, by omega⟩
  have hm : qlo0 X ≤ mid (qlo0 X) (totB X) ∧ mid (qlo0 X) (totB X) ≤ totB X := by unfold mid; omega
  refine ⟨hq.1, hm.1, hm.2, by omega, ?_⟩
  rw [e0.1, ← e0.1, e0.2.1] at *
  obtain ⟨e1, e2, e3⟩ := e0
  rw [e1, e3]
  exact hb
theorem akV_no (L : List It) : akV false L = .tuple #[.agg #[.int .i64 0, .int .i64 0, .int .i64 0, .int .i64 0, .int .i64 0, .int .i64 0], .int .i64 2] := rfl
theorem akV_yes (L : List It) : akV true L = .tuple #[quV L, .int .i64 0] := rfl
def suV (L M : List It) : Value := .agg #[.int .i64 (qlo0 L + qlo0 M), .int .i64 1, .int .i64 (mid (qlo0 L) (totB L) + mid (qlo0 M) (totB M)), .int .i64 1, .int .i64 (totB L + totB M), .int .i64 1]
/-- What Merge returns. -/
def mgV (va vb sm : Bool) (L M : List It) : Value := if va = true then (if vb = true then (if sm = true then .tuple #[suV L M, .int .i64 0] else .tuple #[.agg #[.int .i64 0, .int .i64 0, .int .i64 0, .int .i64 0, .int .i64 0, .int .i64 0], .int .i64 1]) else .tuple #[.agg #[.int .i64 0, .int .i64 0, .int .i64 0, .int .i64 0, .int .i64 0, .int .i64 0], .int .i64 2]) else .tuple #[.agg #[.int .i64 0, .int .i64 0, .int .i64 0, .int .i64 0, .int .i64 0, .int .i64 0], .int .i64 2]

set_option maxHeartbeats 8000000 in
set_option maxRecDepth 100000 in
theorem merge11_up (v q c now : Int) (n k : Nat) (A : Option Addr) (L : List It) (hn : n ≤ 50000) (v2 q2 c2 now2 : Int) (n2 k2 : Nat) (A2 : Option Addr) (L2 : List It) (hn2 : n2 ≤ 50000) (w : World) (hS : Sl w A n L) (hS2 : Sl w A2 n2 L2) :
    Calls Try.prog 31 #[.agg #[.int .i64 v, .int .i64 q, .int .i64 c, .int .i64 now, .slice A n k], .agg #[.int .i64 v2, .int .i64 q2, .int .i64 c2, .int .i64 now2, .slice A2 n2 k2]] w fun e w' => e = .returned (mgV (stC v q c now L) (stC v2 q2 c2 now2 L2) (decide (v = v2) && decide (now = now2)) L L2) ∧ Up w w' := by
  have K1 := Lib.hid (fun W (h : Sl W A n L) => ask11_up v q c now n k A L hn W h)
  have K2 := Lib.hid (fun W (h : Sl W A2 n2 L2) => ask11_up v2 q2 c2 now2 n2 k2 A2 L2 hn2 W h)
  have HA := Lib.hid hS
  have HB := Lib.hid hS2
  unfold mgV
  cases hv : stC v q c now L with
  | false =>
    rw [hv, akV_no] at K1
    clear hv hS hS2
    go_enter Try.func31, Try.ntmps31
    go_wp2_with (go_at_call 17; (with_reducible refine (K1.out _ (HA.out.up ((((Up.refl w).alloc _ _).alloc _ _).alloc _ _))).mono ?_); rintro e w1 ⟨rfl, hu⟩; have HU1 := Lib.hid (((((Up.refl w).alloc #[.int .i64 v, .int .i64 q, .int .i64 c, .int .i64 now, .slice A n k] 24).alloc #[.int .i64 v2, .int .i64 q2, .int .i64 c2, .int .i64 now2, .slice A2 n2 k2] 24).alloc #[.int .i64 0, .int .i64 0, .int .i64 0, .int .i64 0, .int .i64 0, .int .i64 0] 37).trans hu); have a1_0 := hu.keep (w.heap.size) 0 (.int .i64 v) (by simp [go_sem]); have a1_1 := hu.keep (w.heap.size) 1 (.int .i64 q) (by simp [go_sem]); have a1_2 := hu.keep (w.heap.size) 2 (.int .i64 c) (by simp [go_sem]); have a1_3 := hu.keep (w.heap.size) 3 (.int .i64 now) (by simp [go_sem]); have a1_4 := hu.keep (w.heap.size) 4 (.slice A n k) (by simp [go_sem]); have b1_0 := hu.keep (w.heap.size + 1) 0 (.int .i64 v2) (by simp [go_sem]); have b1_1 := hu.keep (w.heap.size + 1) 1 (.int .i64 q2) (by simp [go_sem]); have b1_2 := hu.keep (w.heap.size + 1) 2 (.int .i64 c2) (by simp [go_sem]); have b1_3 := hu.keep (w.heap.size + 1) 3 (.int .i64 now2) (by simp [go_sem]); have b1_4 := hu.keep (w.heap.size + 1) 4 (.slice A2 n2 k2) (by simp [go_sem]); have r1_0 := hu.keep (w.heap.size + 1 + 1) 0 (.int .i64 0) (by simp [go_sem]); have r1_1 := hu.keep (w.heap.size + 1 + 1) 1 (.int .i64 0) (by simp [go_sem]); have r1_2 := hu.keep (w.heap.size + 1 + 1) 2 (.int .i64 0) (by simp [go_sem]); have r1_3 := hu.keep (w.heap.size + 1 + 1) 3 (.int .i64 0) (by simp [go_sem]); have r1_4 := hu.keep (w.heap.size + 1 + 1) 4 (.int .i64 0) (by simp [go_sem]); have r1_5 := hu.keep (w.heap.size + 1 + 1) 5 (.int .i64 0) (by simp [go_sem]); have z1_0 := HU1.out.ownGe (g := w.heap.size + 1 + 1) (by omega) 0; have z1_1 := HU1.out.ownGe (g := w.heap.size + 1 + 1) (by omega) 1; have z1_2 := HU1.out.ownGe (g := w.heap.size + 1 + 1) (by omega) 2; have z1_3 := HU1.out.ownGe (g := w.heap.size + 1 + 1) (by omega) 3; have z1_4 := HU1.out.ownGe (g := w.heap.size + 1 + 1) (by omega) 4; have z1_5 := HU1.out.ownGe (g := w.heap.size + 1 + 1) (by omega) 5; have l1 : w.heap.size + 1 + 1 < w1.heap.size := World.block_lt_of_cell? _ _ r1_0; have l1b : w.heap.size + 1 < w1.heap.size := (by omega); have l1a : w.heap.size < w1.heap.size := (by omega); have n1 : ¬ w1.heap.size = w.heap.size + 1 + 1 := (by omega); clear hu)
    obtain ⟨s0, s1, s2, s3, s4, s5⟩ := cells6 (v0 := .int .i64 0) (v1 := .int .i64 0) (v2 := .int .i64 0) (v3 := .int .i64 0) (v4 := .int .i64 0) (v5 := .int .i64 0) r1_0 r1_1 r1_2 r1_3 r1_4 r1_5 #[.int .i64 0, .int .i64 0, .int .i64 0, .int .i64 0, .int .i64 0, .int .i64 0] 37
    refine bodyPost_ret (v := .tuple #[.agg #[.int .i64 0, .int .i64 0, .int .i64 0, .int .i64 0, .int .i64 0, .int .i64 0], .int .i64 2]) (by simp [results, Try.results31, go_sem, s0, s1, s2, s3, s4, s5]) rfl ⟨rfl, ?_⟩
    exact (HU1.out.set6 (by omega)).alloc _ _
  | true =>
  rw [hv, akV_yes] at K1
  cases hv2 : stC v2 q2 c2 now2 L2 with
  | false =>
    rw [hv2, akV_no] at K2
    have fa := qu_facts hv
    have ea := quV_form L
    rw [ea] at K1
    generalize mid (qlo0 L) (totB L) = a1 at *
    generalize qlo0 L = a0 at *
    generalize totB L = a2 at *
    clear hv hv2 hS hS2 ea fa
    go_enter Try.func31, Try.ntmps31
    go_wp2_with (first | (go_at_call 17; (with_reducible refine (K1.out _ (HA.out.up ((((Up.refl w).alloc _ _).alloc _ _).alloc _ _))).mono ?_); rintro e w1 ⟨rfl, hu⟩; have HU1 := Lib.hid (((((Up.refl w).alloc #[.int .i64 v, .int .i64 q, .int .i64 c, .int .i64 now, .slice A n k] 24).alloc #[.int .i64 v2, .int .i64 q2, .int .i64 c2, .int .i64 now2, .slice A2 n2 k2] 24).alloc #[.int .i64 0, .int .i64 0, .int .i64 0, .int .i64 0, .int .i64 0, .int .i64 0] 37).trans hu); have a1_0 := hu.keep (w.heap.size) 0 (.int .i64 v) (by simp [go_sem]); have a1_1 := hu.keep (w.heap.size) 1 (.int .i64 q) (by simp [go_sem]); have a1_2 := hu.keep (w.heap.size) 2 (.int .i64 c) (by simp [go_sem]); have a1_3 := hu.keep (w.heap.size) 3 (.int .i64 now) (by simp [go_sem]); have a1_4 := hu.keep (w.heap.size) 4 (.slice A n k) (by simp [go_sem]); have b1_0 := hu.keep (w.heap.size + 1) 0 (.int .i64 v2) (by simp [go_sem]); have b1_1 := hu.keep (w.heap.size + 1) 1 (.int .i64 q2) (by simp [go_sem]); have b1_2 := hu.keep (w.heap.size + 1) 2 (.int .i64 c2) (by simp [go_sem]); have b1_3 := hu.keep (w.heap.size + 1) 3 (.int .i64 now2) (by simp [go_sem]); have b1_4 := hu.keep (w.heap.size + 1) 4 (.slice A2 n2 k2) (by simp [go_sem]); have r1_0 := hu.keep (w.heap.size + 1 + 1) 0 (.int .i64 0) (by simp [go_sem]); have r1_1 := hu.keep (w.heap.size + 1 + 1) 1 (.int .i64 0) (by simp [go_sem]); have r1_2 := hu.keep (w.heap.size + 1 + 1) 2 (.int .i64 0) (by simp [go_sem]); have r1_3 := hu.keep (w.heap.size + 1 + 1) 3 (.int .i64 0) (by simp [go_sem]); have r1_4 := hu.keep (w.heap.size + 1 + 1) 4 (.int .i64 0) (by simp [go_sem]); have r1_5 := hu.keep (w.heap.size + 1 + 1) 5 (.int .i64 0) (by simp [go_sem]); have z1_0 := HU1.out.ownGe (g := w.heap.size + 1 + 1) (by omega) 0; have z1_1 := HU1.out.ownGe (g := w.heap.size + 1 + 1) (by omega) 1; have z1_2 := HU1.out.ownGe (g := w.heap.size + 1 + 1) (by omega) 2; have z1_3 := HU1.out.ownGe (g := w.heap.size + 1 + 1) (by omega) 3; have z1_4 := HU1.out.ownGe (g := w.heap.size + 1 + 1) (by omega) 4; have z1_5 := HU1.out.ownGe (g := w.heap.size + 1 + 1) (by omega) 5; have l1 : w.heap.size + 1 + 1 < w1.heap.size := World.block_lt_of_cell? _ _ r1_0; have l1b : w.heap.size + 1 < w1.heap.size := (by omega); have l1a : w.heap.size < w1.heap.size := (by omega); have n1 : ¬ w1.heap.size = w.heap.size + 1 + 1 := (by omega); clear hu) | (go_at_call 17; (with_reducible refine (K2.out _ (HB.out.up (HU1.out.alloc _ _))).mono ?_); rintro e w2 ⟨rfl, hu⟩; have hv := ((Up.refl w1).alloc #[.int .i64 a0, .int .i64 1, .int .i64 a1, .int .i64 1, .int .i64 a2, .int .i64 1] 37).trans hu; have HU2 := Lib.hid (HU1.out.trans hv); have a2_0 := hv.keep _ _ _ a1_0; have b2_0 := hv.keep _ _ _ b1_0; have a2_1 := hv.keep _ _ _ a1_1; have b2_1 := hv.keep _ _ _ b1_1; have a2_2 := hv.keep _ _ _ a1_2; have b2_2 := hv.keep _ _ _ b1_2; have a2_3 := hv.keep _ _ _ a1_3; have b2_3 := hv.keep _ _ _ b1_3; have a2_4 := hv.keep _ _ _ a1_4; have b2_4 := hv.keep _ _ _ b1_4; have r2_0 := hv.keep _ _ _ r1_0; have z2_0 := HU2.out.ownGe (g := w.heap.size + 1 + 1) (by omega) 0; have d2_0 := hu.keep w1.heap.size 0 (.int .i64 a0) (by simp [go_sem]); have r2_1 := hv.keep _ _ _ r1_1; have z2_1 := HU2.out.ownGe (g := w.heap.size + 1 + 1) (by omega) 1; have d2_1 := hu.keep w1.heap.size 1 (.int .i64 1) (by simp [go_sem]); have r2_2 := hv.keep _ _ _ r1_2; have z2_2 := HU2.out.ownGe (g := w.heap.size + 1 + 1) (by omega) 2; have d2_2 := hu.keep w1.heap.size 2 (.int .i64 a1) (by simp [go_sem]); have r2_3 := hv.keep _ _ _ r1_3; have z2_3 := HU2.out.ownGe (g := w.heap.size + 1 + 1) (by omega) 3; have d2_3 := hu.keep w1.heap.size 3 (.int .i64 1) (by simp [go_sem]); have r2_4 := hv.keep _ _ _ r1_4; have z2_4 := HU2.out.ownGe (g := w.heap.size + 1 + 1) (by omega) 4; have d2_4 := hu.keep w1.heap.size 4 (.int .i64 a2) (by simp [go_sem]); have r2_5 := hv.keep _ _ _ r1_5; have z2_5 := HU2.out.ownGe (g := w.heap.size + 1 + 1) (by omega) 5; have d2_5 := hu.keep w1.heap.size 5 (.int .i64 1) (by simp [go_sem]); have l2 : w.heap.size + 1 + 1 < w2.heap.size := World.block_lt_of_cell? _ _ r2_0; have l2b : w.heap.size + 1 < w2.heap.size := (by omega); have l2a : w.heap.size < w2.heap.size := (by omega); have l2d : w1.heap.size < w2.heap.size := World.block_lt_of_cell? _ _ d2_0; have n2_ : ¬ w2.heap.size = w.heap.size + 1 + 1 := (by omega); clear hu hv a1_0 b1_0 a1_1 b1_1 a1_2 b1_2 a1_3 b1_3 a1_4 b1_4 r1_0 z1_0 r1_1 z1_1 r1_2 z1_2 r1_3 z1_3 r1_4 z1_4 r1_5 z1_5))
    obtain ⟨s0, s1, s2, s3, s4, s5⟩ := cells6 (v0 := .int .i64 0) (v1 := .int .i64 0) (v2 := .int .i64 0) (v3 := .int .i64 0) (v4 := .int .i64 0) (v5 := .int .i64 0) r2_0 r2_1 r2_2 r2_3 r2_4 r2_5 #[.int .i64 0, .int .i64 0, .int .i64 0, .int .i64 0, .int .i64 0, .int .i64 0] 37
    refine bodyPost_ret (v := .tuple #[.agg #[.int .i64 0, .int .i64 0, .int .i64 0, .int .i64 0, .int .i64 0, .int .i64 0], .int .i64 2]) (by simp [results, Try.results31, go_sem, s0, s1, s2, s3, s4, s5]) rfl ⟨rfl, ?_⟩
    exact (HU2.out.set6 (by omega)).alloc _ _
  | true =>
  rw [hv2, akV_yes] at K2
  have fa := qu_facts hv
  have fb := qu_facts hv2
  have KD := Lib.hid (fun W => badd_up (qlo0 L) 1 (mid (qlo0 L) (totB L)) 1 (totB L) 1 (qlo0 L2) 1 (mid (qlo0 L2) (totB L2)) 1 (totB L2) 1 ⟨by omega, by omega⟩ ⟨by omega, by omega⟩ ⟨by omega, by omega⟩ ⟨by omega, by omega⟩ ⟨by omega, by omega⟩ ⟨by omega, by omega⟩ ⟨by omega, by omega⟩ ⟨by omega, by omega⟩ ⟨by omega, by omega⟩ ⟨by omega, by omega⟩ ⟨by omega, by omega⟩ ⟨by omega, by omega⟩ W)
  obtain ⟨s1, s2, s3⟩ := sum_one (a := qlo0 L) (b := qlo0 L2) ⟨by omega, by omega⟩
  obtain ⟨s4, s5, s6⟩ := sum_one (a := mid (qlo0 L) (totB L)) (b := mid (qlo0 L2) (totB L2)) ⟨by omega, by omega⟩
  obtain ⟨s7, s8, s9⟩ := sum_one (a := totB L) (b := totB L2) ⟨by omega, by omega⟩
  have e9 : aB (qlo0 L) 1 (mid (qlo0 L) (totB L)) 1 (totB L) 1 (qlo0 L2) 1 (mid (qlo0 L2) (totB L2)) 1 (totB L2) 1 = true := by
    unfold aB
    rw [fa.2.2.2.2, fb.2.2.2.2, s3, s6, s9]; rfl
  rw [e9] at KD
  simp only [oz_yes] at KD
  rw [s1, s2, s4, s5, s7, s8] at KD
  have ea := quV_form L
  have eb := quV_form L2
  rw [ea] at K1
  rw [eb] at K2
  unfold suV
  clear e9 s1 s2 s3 s4 s5 s6 s7 s8 s9 fa fb ea eb hv hv2 hS hS2
  generalize mid (qlo0 L) (totB L) = a1 at *
  generalize qlo0 L = a0 at *
  generalize totB L = a2 at *
  generalize mid (qlo0 L2) (totB L2) = b1 at *
  generalize qlo0 L2 = b0 at *
  generalize totB L2 = b2 at *
  by_cases h1 : v = v2
  case neg =>
    rw [decide_eq_false h1, Bool.false_and]
    have t1 : (v != v2) = true := by simp [h1]
    clear h1 KD
    go_enter Try.func31, Try.ntmps31
    go_wp2_with (first | (go_at_call 17; (with_reducible refine (K1.out _ (HA.out.up ((((Up.refl w).alloc _ _).alloc _ _).alloc _ _))).mono ?_); rintro e w1 ⟨rfl, hu⟩; have HU1 := Lib.hid (((((Up.refl w).alloc #[.int .i64 v, .int .i64 q, .int .i64 c, .int .i64 now, .slice A n k] 24).alloc #[.int .i64 v2, .int .i64 q2, .int .i64 c2, .int .i64 now2, .slice A2 n2 k2] 24).alloc #[.int .i64 0, .int .i64 0, .int .i64 0, .int .i64 0, .int .i64 0, .int .i64 0] 37).trans hu); have a1_0 := hu.keep (w.heap.size) 0 (.int .i64 v) (by simp [go_sem]); have a1_1 := hu.keep (w.heap.size) 1 (.int .i64 q) (by simp [go_sem]); have a1_2 := hu.keep (w.heap.size) 2 (.int .i64 c) (by simp [go_sem]); have a1_3 := hu.keep (w.heap.size) 3 (.int .i64 now) (by simp [go_sem]); have a1_4 := hu.keep (w.heap.size) 4 (.slice A n k) (by simp [go_sem]); have b1_0 := hu.keep (w.heap.size + 1) 0 (.int .i64 v2) (by simp [go_sem]); have b1_1 := hu.keep (w.heap.size + 1) 1 (.int .i64 q2) (by simp [go_sem]); have b1_2 := hu.keep (w.heap.size + 1) 2 (.int .i64 c2) (by simp [go_sem]); have b1_3 := hu.keep (w.heap.size + 1) 3 (.int .i64 now2) (by simp [go_sem]); have b1_4 := hu.keep (w.heap.size + 1) 4 (.slice A2 n2 k2) (by simp [go_sem]); have r1_0 := hu.keep (w.heap.size + 1 + 1) 0 (.int .i64 0) (by simp [go_sem]); have r1_1 := hu.keep (w.heap.size + 1 + 1) 1 (.int .i64 0) (by simp [go_sem]); have r1_2 := hu.keep (w.heap.size + 1 + 1) 2 (.int .i64 0) (by simp [go_sem]); have r1_3 := hu.keep (w.heap.size + 1 + 1) 3 (.int .i64 0) (by simp [go_sem]); have r1_4 := hu.keep (w.heap.size + 1 + 1) 4 (.int .i64 0) (by simp [go_sem]); have r1_5 := hu.keep (w.heap.size + 1 + 1) 5 (.int .i64 0) (by simp [go_sem]); have z1_0 := HU1.out.ownGe (g := w.heap.size + 1 + 1) (by omega) 0; have z1_1 := HU1.out.ownGe (g := w.heap.size + 1 + 1) (by omega) 1; have z1_2 := HU1.out.ownGe (g := w.heap.size + 1 + 1) (by omega) 2; have z1_3 := HU1.out.ownGe (g := w.heap.size + 1 + 1) (by omega) 3; have z1_4 := HU1.out.ownGe (g := w.heap.size + 1 + 1) (by omega) 4; have z1_5 := HU1.out.ownGe (g := w.heap.size + 1 + 1) (by omega) 5; have l1 : w.heap.size + 1 + 1 < w1.heap.size := World.block_lt_of_cell? _ _ r1_0; have l1b : w.heap.size + 1 < w1.heap.size := (by omega); have l1a : w.heap.size < w1.heap.size := (by omega); have n1 : ¬ w1.heap.size = w.heap.size + 1 + 1 := (by omega); clear hu) | (go_at_call 17; (with_reducible refine (K2.out _ (HB.out.up (HU1.out.alloc _ _))).mono ?_); rintro e w2 ⟨rfl, hu⟩; have hv := ((Up.refl w1).alloc #[.int .i64 a0, .int .i64 1, .int .i64 a1, .int .i64 1, .int .i64 a2, .int .i64 1] 37).trans hu; have HU2 := Lib.hid (HU1.out.trans hv); have a2_0 := hv.keep _ _ _ a1_0; have b2_0 := hv.keep _ _ _ b1_0; have a2_1 := hv.keep _ _ _ a1_1; have b2_1 := hv.keep _ _ _ b1_1; have a2_2 := hv.keep _ _ _ a1_2; have b2_2 := hv.keep _ _ _ b1_2; have a2_3 := hv.keep _ _ _ a1_3; have b2_3 := hv.keep _ _ _ b1_3; have a2_4 := hv.keep _ _ _ a1_4; have b2_4 := hv.keep _ _ _ b1_4; have r2_0 := hv.keep _ _ _ r1_0; have z2_0 := HU2.out.ownGe (g := w.heap.size + 1 + 1) (by omega) 0; have d2_0 := hu.keep w1.heap.size 0 (.int .i64 a0) (by simp [go_sem]); have r2_1 := hv.keep _ _ _ r1_1; have z2_1 := HU2.out.ownGe (g := w.heap.size + 1 + 1) (by omega) 1; have d2_1 := hu.keep w1.heap.size 1 (.int .i64 1) (by simp [go_sem]); have r2_2 := hv.keep _ _ _ r1_2; have z2_2 := HU2.out.ownGe (g := w.heap.size + 1 + 1) (by omega) 2; have d2_2 := hu.keep w1.heap.size 2 (.int .i64 a1) (by simp [go_sem]); have r2_3 := hv.keep _ _ _ r1_3; have z2_3 := HU2.out.ownGe (g := w.heap.size + 1 + 1) (by omega) 3; have d2_3 := hu.keep w1.heap.size 3 (.int .i64 1) (by simp [go_sem]); have r2_4 := hv.keep _ _ _ r1_4; have z2_4 := HU2.out.ownGe (g := w.heap.size + 1 + 1) (by omega) 4; have d2_4 := hu.keep w1.heap.size 4 (.int .i64 a2) (by simp [go_sem]); have r2_5 := hv.keep _ _ _ r1_5; have z2_5 := HU2.out.ownGe (g := w.heap.size + 1 + 1) (by omega) 5; have d2_5 := hu.keep w1.heap.size 5 (.int .i64 1) (by simp [go_sem]); have l2 : w.heap.size + 1 + 1 < w2.heap.size := World.block_lt_of_cell? _ _ r2_0; have l2b : w.heap.size + 1 < w2.heap.size := (by omega); have l2a : w.heap.size < w2.heap.size := (by omega); have l2d : w1.heap.size < w2.heap.size := World.block_lt_of_cell? _ _ d2_0; have n2_ : ¬ w2.heap.size = w.heap.size + 1 + 1 := (by omega); clear hu hv a1_0 b1_0 a1_1 b1_1 a1_2 b1_2 a1_3 b1_3 a1_4 b1_4 r1_0 z1_0 r1_1 z1_1 r1_2 z1_2 r1_3 z1_3 r1_4 z1_4 r1_5 z1_5))
    obtain ⟨s0, s1, s2, s3, s4, s5⟩ := cells6 (v0 := .int .i64 0) (v1 := .int .i64 0) (v2 := .int .i64 0) (v3 := .int .i64 0) (v4 := .int .i64 0) (v5 := .int .i64 0) r2_0 r2_1 r2_2 r2_3 r2_4 r2_5 #[.int .i64 b0, .int .i64 1, .int .i64 b1, .int .i64 1, .int .i64 b2, .int .i64 1] 37
    refine bodyPost_ret (v := .tuple #[.agg #[.int .i64 0, .int .i64 0, .int .i64 0, .int .i64 0, .int .i64 0, .int .i64 0], .int .i64 1]) (by simp [results, Try.results31, go_sem, s0, s1, s2, s3, s4, s5]) rfl ⟨rfl, ?_⟩
    exact (HU2.out.set6 (by omega)).alloc _ _
  subst h1
  have t1 : (v != v) = false := by simp
  by_cases h2 : now = now2
  case neg =>
    rw [decide_eq_false h2, Bool.and_false]
    have t2 : (now != now2) = true := by simp [h2]
    clear h2 KD
    go_enter Try.func31, Try.ntmps31
    go_wp2_with (first | (go_at_call 17; (with_reducible refine (K1.out _ (HA.out.up ((((Up.refl w).alloc _ _).alloc _ _).alloc _ _))).mono ?_); rintro e w1 ⟨rfl, hu⟩; have HU1 := Lib.hid (((((Up.refl w).alloc #[.int .i64 v, .int .i64 q, .int .i64 c, .int .i64 now, .slice A n k] 24).alloc #[.int .i64 v, .int .i64 q2, .int .i64 c2, .int .i64 now2, .slice A2 n2 k2] 24).alloc #[.int .i64 0, .int .i64 0, .int .i64 0, .int .i64 0, .int .i64 0, .int .i64 0] 37).trans hu); have a1_0 := hu.keep (w.heap.size) 0 (.int .i64 v) (by simp [go_sem]); have a1_1 := hu.keep (w.heap.size) 1 (.int .i64 q) (by simp [go_sem]); have a1_2 := hu.keep (w.heap.size) 2 (.int .i64 c) (by simp [go_sem]); have a1_3 := hu.keep (w.heap.size) 3 (.int .i64 now) (by simp [go_sem]); have a1_4 := hu.keep (w.heap.size) 4 (.slice A n k) (by simp [go_sem]); have b1_0 := hu.keep (w.heap.size + 1) 0 (.int .i64 v) (by simp [go_sem]); have b1_1 := hu.keep (w.heap.size + 1) 1 (.int .i64 q2) (by simp [go_sem]); have b1_2 := hu.keep (w.heap.size + 1) 2 (.int .i64 c2) (by simp [go_sem]); have b1_3 := hu.keep (w.heap.size + 1) 3 (.int .i64 now2) (by simp [go_sem]); have b1_4 := hu.keep (w.heap.size + 1) 4 (.slice A2 n2 k2) (by simp [go_sem]); have r1_0 := hu.keep (w.heap.size + 1 + 1) 0 (.int .i64 0) (by simp [go_sem]); have r1_1 := hu.keep (w.heap.size + 1 + 1) 1 (.int .i64 0) (by simp [go_sem]); have r1_2 := hu.keep (w.heap.size + 1 + 1) 2 (.int .i64 0) (by simp [go_sem]); have r1_3 := hu.keep (w.heap.size + 1 + 1) 3 (.int .i64 0) (by simp [go_sem]); have r1_4 := hu.keep (w.heap.size + 1 + 1) 4 (.int .i64 0) (by simp [go_sem]); have r1_5 := hu.keep (w.heap.size + 1 + 1) 5 (.int .i64 0) (by simp [go_sem]); have z1_0 := HU1.out.ownGe (g := w.heap.size + 1 + 1) (by omega) 0; have z1_1 := HU1.out.ownGe (g := w.heap.size + 1 + 1) (by omega) 1; have z1_2 := HU1.out.ownGe (g := w.heap.size + 1 + 1) (by omega) 2; have z1_3 := HU1.out.ownGe (g := w.heap.size + 1 + 1) (by omega) 3; have z1_4 := HU1.out.ownGe (g := w.heap.size + 1 + 1) (by omega) 4; have z1_5 := HU1.out.ownGe (g := w.heap.size + 1 + 1) (by omega) 5; have l1 : w.heap.size + 1 + 1 < w1.heap.size := World.block_lt_of_cell? _ _ r1_0; have l1b : w.heap.size + 1 < w1.heap.size := (by omega); have l1a : w.heap.size < w1.heap.size := (by omega); have n1 : ¬ w1.heap.size = w.heap.size + 1 + 1 := (by omega); clear hu) | (go_at_call 17; (with_reducible refine (K2.out _ (HB.out.up (HU1.out.alloc _ _))).mono ?_); rintro e w2 ⟨rfl, hu⟩; have hv := ((Up.refl w1).alloc #[.int .i64 a0, .int .i64 1, .int .i64 a1, .int .i64 1, .int .i64 a2, .int .i64 1] 37).trans hu; have HU2 := Lib.hid (HU1.out.trans hv); have a2_0 := hv.keep _ _ _ a1_0; have b2_0 := hv.keep _ _ _ b1_0; have a2_1 := hv.keep _ _ _ a1_1; have b2_1 := hv.keep _ _ _ b1_1; have a2_2 := hv.keep _ _ _ a1_2; have b2_2 := hv.keep _ _ _ b1_2; have a2_3 := hv.keep _ _ _ a1_3; have b2_3 := hv.keep _ _ _ b1_3; have a2_4 := hv.keep _ _ _ a1_4; have b2_4 := hv.keep _ _ _ b1_4; have r2_0 := hv.keep _ _ _ r1_0; have z2_0 := HU2.out.ownGe (g := w.heap.size + 1 + 1) (by omega) 0; have d2_0 := hu.keep w1.heap.size 0 (.int .i64 a0) (by simp [go_sem]); have r2_1 := hv.keep _ _ _ r1_1; have z2_1 := HU2.out.ownGe (g := w.heap.size + 1 + 1) (by omega) 1; have d2_1 := hu.keep w1.heap.size 1 (.int .i64 1) (by simp [go_sem]); have r2_2 := hv.keep _ _ _ r1_2; have z2_2 := HU2.out.ownGe (g := w.heap.size + 1 + 1) (by omega) 2; have d2_2 := hu.keep w1.heap.size 2 (.int .i64 a1) (by simp [go_sem]); have r2_3 := hv.keep _ _ _ r1_3; have z2_3 := HU2.out.ownGe (g := w.heap.size + 1 + 1) (by omega) 3; have d2_3 := hu.keep w1.heap.size 3 (.int .i64 1) (by simp [go_sem]); have r2_4 := hv.keep _ _ _ r1_4; have z2_4 := HU2.out.ownGe (g := w.heap.size + 1 + 1) (by omega) 4; have d2_4 := hu.keep w1.heap.size 4 (.int .i64 a2) (by simp [go_sem]); have r2_5 := hv.keep _ _ _ r1_5; have z2_5 := HU2.out.ownGe (g := w.heap.size + 1 + 1) (by omega) 5; have d2_5 := hu.keep w1.heap.size 5 (.int .i64 1) (by simp [go_sem]); have l2 : w.heap.size + 1 + 1 < w2.heap.size := World.block_lt_of_cell? _ _ r2_0; have l2b : w.heap.size + 1 < w2.heap.size := (by omega); have l2a : w.heap.size < w2.heap.size := (by omega); have l2d : w1.heap.size < w2.heap.size := World.block_lt_of_cell? _ _ d2_0; have n2_ : ¬ w2.heap.size = w.heap.size + 1 + 1 := (by omega); clear hu hv a1_0 b1_0 a1_1 b1_1 a1_2 b1_2 a1_3 b1_3 a1_4 b1_4 r1_0 z1_0 r1_1 z1_1 r1_2 z1_2 r1_3 z1_3 r1_4 z1_4 r1_5 z1_5))
    obtain ⟨s0, s1, s2, s3, s4, s5⟩ := cells6 (v0 := .int .i64 0) (v1 := .int .i64 0) (v2 := .int .i64 0) (v3 := .int .i64 0) (v4 := .int .i64 0) (v5 := .int .i64 0) r2_0 r2_1 r2_2 r2_3 r2_4 r2_5 #[.int .i64 b0, .int .i64 1, .int .i64 b1, .int .i64 1, .int .i64 b2, .int .i64 1] 37
    refine bodyPost_ret (v := .tuple #[.agg #[.int .i64 0, .int .i64 0, .int .i64 0, .int .i64 0, .int .i64 0, .int .i64 0], .int .i64 1]) (by simp [results, Try.results31, go_sem, s0, s1, s2, s3, s4, s5]) rfl ⟨rfl, ?_⟩
    exact (HU2.out.set6 (by omega)).alloc _ _
  subst h2
  have t2 : (now != now) = false := by simp
  rw [decide_eq_true (rfl : v = v), decide_eq_true (rfl : now = now)]
  go_enter Try.func31, Try.ntmps31
  go_wp2_with (first | (go_at_call 17; (with_reducible refine (K1.out _ (HA.out.up ((((Up.refl w).alloc _ _).alloc _ _).alloc _ _))).mono ?_); rintro e w1 ⟨rfl, hu⟩; have HU1 := Lib.hid (((((Up.refl w).alloc #[.int .i64 v, .int .i64 q, .int .i64 c, .int .i64 now, .slice A n k] 24).alloc #[.int .i64 v, .int .i64 q2, .int .i64 c2, .int .i64 now, .slice A2 n2 k2] 24).alloc #[.int .i64 0, .int .i64 0, .int .i64 0, .int .i64 0, .int .i64 0, .int .i64 0] 37).trans hu); have a1_0 := hu.keep (w.heap.size) 0 (.int .i64 v) (by simp [go_sem]); have a1_1 := hu.keep (w.heap.size) 1 (.int .i64 q) (by simp [go_sem]); have a1_2 := hu.keep (w.heap.size) 2 (.int .i64 c) (by simp [go_sem]); have a1_3 := hu.keep (w.heap.size) 3 (.int .i64 now) (by simp [go_sem]); have a1_4 := hu.keep (w.heap.size) 4 (.slice A n k) (by simp [go_sem]); have b1_0 := hu.keep (w.heap.size + 1) 0 (.int .i64 v) (by simp [go_sem]); have b1_1 := hu.keep (w.heap.size + 1) 1 (.int .i64 q2) (by simp [go_sem]); have b1_2 := hu.keep (w.heap.size + 1) 2 (.int .i64 c2) (by simp [go_sem]); have b1_3 := hu.keep (w.heap.size + 1) 3 (.int .i64 now) (by simp [go_sem]); have b1_4 := hu.keep (w.heap.size + 1) 4 (.slice A2 n2 k2) (by simp [go_sem]); have r1_0 := hu.keep (w.heap.size + 1 + 1) 0 (.int .i64 0) (by simp [go_sem]); have r1_1 := hu.keep (w.heap.size + 1 + 1) 1 (.int .i64 0) (by simp [go_sem]); have r1_2 := hu.keep (w.heap.size + 1 + 1) 2 (.int .i64 0) (by simp [go_sem]); have r1_3 := hu.keep (w.heap.size + 1 + 1) 3 (.int .i64 0) (by simp [go_sem]); have r1_4 := hu.keep (w.heap.size + 1 + 1) 4 (.int .i64 0) (by simp [go_sem]); have r1_5 := hu.keep (w.heap.size + 1 + 1) 5 (.int .i64 0) (by simp [go_sem]); have z1_0 := HU1.out.ownGe (g := w.heap.size + 1 + 1) (by omega) 0; have z1_1 := HU1.out.ownGe (g := w.heap.size + 1 + 1) (by omega) 1; have z1_2 := HU1.out.ownGe (g := w.heap.size + 1 + 1) (by omega) 2; have z1_3 := HU1.out.ownGe (g := w.heap.size + 1 + 1) (by omega) 3; have z1_4 := HU1.out.ownGe (g := w.heap.size + 1 + 1) (by omega) 4; have z1_5 := HU1.out.ownGe (g := w.heap.size + 1 + 1) (by omega) 5; have l1 : w.heap.size + 1 + 1 < w1.heap.size := World.block_lt_of_cell? _ _ r1_0; have l1b : w.heap.size + 1 < w1.heap.size := (by omega); have l1a : w.heap.size < w1.heap.size := (by omega); have n1 : ¬ w1.heap.size = w.heap.size + 1 + 1 := (by omega); clear hu) | (go_at_call 17; (with_reducible refine (K2.out _ (HB.out.up (HU1.out.alloc _ _))).mono ?_); rintro e w2 ⟨rfl, hu⟩; have hv := ((Up.refl w1).alloc #[.int .i64 a0, .int .i64 1, .int .i64 a1, .int .i64 1, .int .i64 a2, .int .i64 1] 37).trans hu; have HU2 := Lib.hid (HU1.out.trans hv); have a2_0 := hv.keep _ _ _ a1_0; have b2_0 := hv.keep _ _ _ b1_0; have a2_1 := hv.keep _ _ _ a1_1; have b2_1 := hv.keep _ _ _ b1_1; have a2_2 := hv.keep _ _ _ a1_2; have b2_2 := hv.keep _ _ _ b1_2; have a2_3 := hv.keep _ _ _ a1_3; have b2_3 := hv.keep _ _ _ b1_3; have a2_4 := hv.keep _ _ _ a1_4; have b2_4 := hv.keep _ _ _ b1_4; have r2_0 := hv.keep _ _ _ r1_0; have z2_0 := HU2.out.ownGe (g := w.heap.size + 1 + 1) (by omega) 0; have d2_0 := hu.keep w1.heap.size 0 (.int .i64 a0) (by simp [go_sem]); have r2_1 := hv.keep _ _ _ r1_1; have z2_1 := HU2.out.ownGe (g := w.heap.size + 1 + 1) (by omega) 1; have d2_1 := hu.keep w1.heap.size 1 (.int .i64 1) (by simp [go_sem]); have r2_2 := hv.keep _ _ _ r1_2; have z2_2 := HU2.out.ownGe (g := w.heap.size + 1 + 1) (by omega) 2; have d2_2 := hu.keep w1.heap.size 2 (.int .i64 a1) (by simp [go_sem]); have r2_3 := hv.keep _ _ _ r1_3; have z2_3 := HU2.out.ownGe (g := w.heap.size + 1 + 1) (by omega) 3; have d2_3 := hu.keep w1.heap.size 3 (.int .i64 1) (by simp [go_sem]); have r2_4 := hv.keep _ _ _ r1_4; have z2_4 := HU2.out.ownGe (g := w.heap.size + 1 + 1) (by omega) 4; have d2_4 := hu.keep w1.heap.size 4 (.int .i64 a2) (by simp [go_sem]); have r2_5 := hv.keep _ _ _ r1_5; have z2_5 := HU2.out.ownGe (g := w.heap.size + 1 + 1) (by omega) 5; have d2_5 := hu.keep w1.heap.size 5 (.int .i64 1) (by simp [go_sem]); have l2 : w.heap.size + 1 + 1 < w2.heap.size := World.block_lt_of_cell? _ _ r2_0; have l2b : w.heap.size + 1 < w2.heap.size := (by omega); have l2a : w.heap.size < w2.heap.size := (by omega); have l2d : w1.heap.size < w2.heap.size := World.block_lt_of_cell? _ _ d2_0; have n2_ : ¬ w2.heap.size = w.heap.size + 1 + 1 := (by omega); clear hu hv a1_0 b1_0 a1_1 b1_1 a1_2 b1_2 a1_3 b1_3 a1_4 b1_4 r1_0 z1_0 r1_1 z1_1 r1_2 z1_2 r1_3 z1_3 r1_4 z1_4 r1_5 z1_5) | (go_at_call 63; (with_reducible refine (KD.out _).mono ?_); rintro e w3 ⟨rfl, hu⟩; unfold gotB; have hv := ((Up.refl w2).alloc #[.int .i64 b0, .int .i64 1, .int .i64 b1, .int .i64 1, .int .i64 b2, .int .i64 1] 37).trans hu; have HU3 := Lib.hid (HU2.out.trans hv); have r3_0 := hv.keep _ _ _ r2_0; have z3_0 := HU3.out.ownGe (g := w.heap.size + 1 + 1) (by omega) 0; have r3_1 := hv.keep _ _ _ r2_1; have z3_1 := HU3.out.ownGe (g := w.heap.size + 1 + 1) (by omega) 1; have r3_2 := hv.keep _ _ _ r2_2; have z3_2 := HU3.out.ownGe (g := w.heap.size + 1 + 1) (by omega) 2; have r3_3 := hv.keep _ _ _ r2_3; have z3_3 := HU3.out.ownGe (g := w.heap.size + 1 + 1) (by omega) 3; have r3_4 := hv.keep _ _ _ r2_4; have z3_4 := HU3.out.ownGe (g := w.heap.size + 1 + 1) (by omega) 4; have r3_5 := hv.keep _ _ _ r2_5; have z3_5 := HU3.out.ownGe (g := w.heap.size + 1 + 1) (by omega) 5; have l3 : w.heap.size + 1 + 1 < w3.heap.size := World.block_lt_of_cell? _ _ r3_0; have n3_ : ¬ w3.heap.size = w.heap.size + 1 + 1 := (by omega); clear hu hv))
  obtain ⟨s0, s1, s2, s3, s4, s5⟩ := cells6 (v0 := .int .i64 (a0 + b0)) (v1 := .int .i64 1) (v2 := .int .i64 (a1 + b1)) (v3 := .int .i64 1) (v4 := .int .i64 (a2 + b2)) (v5 := .int .i64 1) r3_0 r3_1 r3_2 r3_3 r3_4 r3_5 #[.int .i64 (a0 + b0), .int .i64 1, .int .i64 (a1 + b1), .int .i64 1, .int .i64 (a2 + b2), .int .i64 1] 37
  refine bodyPost_ret (v := .tuple #[.agg #[.int .i64 (a0 + b0), .int .i64 1, .int .i64 (a1 + b1), .int .i64 1, .int .i64 (a2 + b2), .int .i64 1], .int .i64 0]) (by simp [results, Try.results31, go_sem, s0, s1, s2, s3, s4, s5]) rfl ⟨rfl, ?_⟩
  exact (HU3.out.set6 (by omega)).alloc _ _

end Go.Proofs.Ytjbgogajnjefmaa

namespace Go.Proofs.Ytjbgogajnjefmaa
open Go.RowKit
set_option linter.unusedVariables false

/-- The variable in block p holds a state that stands for the items M. -/
structure Vc (W : World) (p : Nat) (v q c now : Int) (X M : List It) (A : Option Addr) (k : Nat) : Prop where
  c0 : W.cell? ⟨p, 0, none⟩ = some (.int .i64 v)
  c1 : W.cell? ⟨p, 1, none⟩ = some (.int .i64 q)
  c2 : W.cell? ⟨p, 2, none⟩ = some (.int .i64 c)
  c3 : W.cell? ⟨p, 3, none⟩ = some (.int .i64 now)
  c4 : W.cell? ⟨p, 4, none⟩ = some (.slice A X.length k)
  hs : Hs v q c now X M
  sl : Sl W A X.length X
  off : ∀ b o, A = some ⟨b, o, none⟩ → b ≠ p
  cap : X.length ≤ k
theorem Vc.up {W W2 : World} {p : Nat} {v q c now : Int} {X M : List It} {A : Option Addr} {k : Nat} (h : Vc W p v q c now X M A k) (hu : Up W W2) : Vc W2 p v q c now X M A k :=
  ⟨hu.keep _ _ _ h.c0, hu.keep _ _ _ h.c1, hu.keep _ _ _ h.c2, hu.keep _ _ _ h.c3, hu.keep _ _ _ h.c4, h.hs, h.sl.up hu, h.off, h.cap⟩
theorem Vc.lt {W : World} {p : Nat} {v q c now : Int} {X M : List It} {A : Option Addr} {k : Nat} (h : Vc W p v q c now X M A k) : p < W.heap.size := World.block_lt_of_cell? _ _ h.c0
theorem Vc.few {W : World} {p : Nat} {v q c now : Int} {X M : List It} {A : Option Addr} {k : Nat} (h : Vc W p v q c now X M A k) : X.length ≤ 50000 := by have := stC_few h.hs.st; omega
/-- A store of a new state into the variable. -/
theorem Vc.put {W : World} {p : Nat} {x0 x1 x2 x3 x4 : Value} {v q c now : Int} {X M : List It} {A : Option Addr} {k : Nat} (e0 : W.cell? ⟨p, 0, none⟩ = some x0) (e1 : W.cell? ⟨p, 1, none⟩ = some x1) (e2 : W.cell? ⟨p, 2, none⟩ = some x2) (e3 : W.cell? ⟨p, 3, none⟩ = some x3) (e4 : W.cell? ⟨p, 4, none⟩ = some x4)
    (hs : Hs v q c now X M) (sl : Sl W A X.length X) (off : ∀ b o, A = some ⟨b, o, none⟩ → b ≠ p) (cap : X.length ≤ k) :
    Vc (((((W.setCell ⟨p, 0, none⟩ (.int .i64 v)).setCell ⟨p, 1, none⟩ (.int .i64 q)).setCell ⟨p, 2, none⟩ (.int .i64 c)).setCell ⟨p, 3, none⟩ (.int .i64 now)).setCell ⟨p, 4, none⟩ (.slice A X.length k)) p v q c now X M A k := by
  obtain ⟨a0, a1, a2, a3, a4⟩ := cells5 (v0 := .int .i64 v) (v1 := .int .i64 q) (v2 := .int .i64 c) (v3 := .int .i64 now) (v4 := .slice A X.length k) e0 e1 e2 e3 e4
  exact ⟨a0, a1, a2, a3, a4, hs, sl.off5 off _ _ _ _ _, off, cap⟩
/-- A store into another variable. -/
theorem Vc.far {W : World} {p g : Nat} {v q c now : Int} {X M : List It} {A : Option Addr} {k : Nat} (h : Vc W p v q c now X M A k) (hg : g ≠ p) (ho : ∀ b o, A = some ⟨b, o, none⟩ → b ≠ g) (y0 y1 y2 y3 y4 : Value) :
    Vc (((((W.setCell ⟨g, 0, none⟩ y0).setCell ⟨g, 1, none⟩ y1).setCell ⟨g, 2, none⟩ y2).setCell ⟨g, 3, none⟩ y3).setCell ⟨g, 4, none⟩ y4) p v q c now X M A k :=
  ⟨far5 h.c0 hg, far5 h.c1 hg, far5 h.c2 hg, far5 h.c3 hg, far5 h.c4 hg, h.hs, h.sl.off5 ho _ _ _ _ _, h.off, h.cap⟩
theorem Sl.out {W : World} {A : Option Addr} {n : Nat} {M : List It} (h : Sl W A n M) (hn : 0 < n) : ∃ b o, A = some ⟨b, o, none⟩ ∧ b < W.heap.size := by
  obtain ⟨b, o, e, d0, _⟩ := h.at_ hn
  exact ⟨b, o, e, World.block_lt_of_cell? _ _ d0⟩
/-- Advance of what a variable holds. -/
theorem advV {W0 W : World} {v q c now td : Int} {X M : List It} {A : Option Addr} {k : Nat} (hs : Hs v q c now X M) (sl : Sl W0 A X.length X) (cap : X.length ≤ k) (hu : Up W0 W) (h1 : now ≤ td) (h2 : td ≤ 16777216) :
    Calls Try.prog 13 #[.agg #[.int .i64 v, .int .i64 q, .int .i64 c, .int .i64 now, .slice A X.length k], .int .i64 td] W fun e W' => ∃ A' k', e = .returned (.tuple #[.agg #[.int .i64 v, .int .i64 q, .int .i64 c, .int .i64 td, .slice A' (exL X (firZ td v)).length k'], .int .i64 0]) ∧ (exL X (firZ td v)).length ≤ k' ∧ Nw W A' ∧ Sl W' A' (exL X (firZ td v)).length (exL X (firZ td v)) ∧ Hs v q c td (exL X (firZ td v)) M ∧ Up W W' := by
  have hf : X.length ≤ 50000 := by have := stC_few hs.st; omega
  refine (adv11_good v q c now td X.length k A X hf cap hs.st h1 h2 W (sl.up hu)).mono ?_
  rintro e W' ⟨A', n', k', rfl, _, hk, hn, hS, hU⟩
  obtain rfl : (exL X (firZ td v)).length = n' := hS.1
  exact ⟨A', k', rfl, hk, hn, hS, hs.adv h1 h2, hU⟩
/-- Items of made, with its greatest number as a number. -/
theorem itemsJ_up (n k : Nat) (A : Option Addr) (L : List It) (v : Int) (h1 : 1 ≤ v) (h2 : v ≤ 25) (mx : Nat) (mi : Int) (e : (mx : Int) = mi) (hmx : mx ≤ 200) (w : World) (hS : Sl w A n L) :
    Calls Try.prog 23 #[.slice A n k, .int .i64 v, .int .i64 mi] w fun e w' => ∃ A' n' k' M z, e = .returned (.slice A' n' k') ∧ n' ≤ mx ∧ mdQ M z ∧ Own w w' (.slice A' n' k') n' M ∧ Up w w' := by
  subst e
  exact itemsI_up n k A L v h1 h2 mx hmx w hS
theorem ho_one {a m b n : Int} (h : bvB a 1 m 1 b 1 = true) (h1 : a ≤ n) (h2 : n ≤ b) : hoB a 1 m 1 b 1 n 1 = true := by
  unfold hoB
  rw [h, valid_one, decide_eq_true ((le_of_cmpR (valid_one a) (valid_one n)).2 (by omega)), decide_eq_true ((le_of_cmpR (valid_one n) (valid_one b)).2 (by omega))]
  rfl
theorem wi_one {a m b n q : Int} (h : bvB a 1 m 1 b 1 = true) (h1 : 1 ≤ q) (h2 : 0 ≤ n) (h3 : q * (b - a) ≤ n) : wiB a 1 m 1 b 1 q n 1 = true := by
  rw [wiB_main h h1 (valid_one _) h2]
  refine decide_eq_true ?_
  unfold wdZ
  rw [Int.mul_one, Int.mul_one, Int.mul_one, Int.mul_one, Int.one_mul, Int.mul_comm]
  exact h3
theorem few_most {v q c now : Int} {X : List It} (h : stC v q c now X = true) : (X.length : Int) ≤ moZ q c := by
  obtain ⟨h1, h2, h3, h4⟩ := stC_true h
  obtain ⟨g1, g2, g3, g4⟩ := mayC_facts h1
  have hk := (mayC_true h1).2
  have e := h2.few (by omega)
  unfold moZ
  rw [if_pos (show kB q = true from decide_eq_true ⟨hk.1, by omega⟩)]
  exact Int.le_trans e (Int.mul_le_mul_of_nonneg_left (bitsZ_mono h4) (by omega))
theorem keepT9 {w w1 w2 : World} {b0 o0 b1 o1 b2 o2 b3 o3 b4 o4 b5 o5 b6 o6 b7 o7 b8 o8 : Nat} {x0 x1 x2 x3 x4 x5 x6 x7 x8 : Value} (hu : Hid (Up w1 w2)) (h : Up w w1 ∧ w1.cell? ⟨b0, o0, none⟩ = some x0 ∧ w1.cell? ⟨b1, o1, none⟩ = some x1 ∧ w1.cell? ⟨b2, o2, none⟩ = some x2 ∧ w1.cell? ⟨b3, o3, none⟩ = some x3 ∧ w1.cell? ⟨b4, o4, none⟩ = some x4 ∧ w1.cell? ⟨b5, o5, none⟩ = some x5 ∧ w1.cell? ⟨b6, o6, none⟩ = some x6 ∧ w1.cell? ⟨b7, o7, none⟩ = some x7 ∧ w1.cell? ⟨b8, o8, none⟩ = some x8) : Up w w2 ∧ w2.cell? ⟨b0, o0, none⟩ = some x0 ∧ w2.cell? ⟨b1, o1, none⟩ = some x1 ∧ w2.cell? ⟨b2, o2, none⟩ = some x2 ∧ w2.cell? ⟨b3, o3, none⟩ = some x3 ∧ w2.cell? ⟨b4, o4, none⟩ = some x4 ∧ w2.cell? ⟨b5, o5, none⟩ = some x5 ∧ w2.cell? ⟨b6, o6, none⟩ = some x6 ∧ w2.cell? ⟨b7, o7, none⟩ = some x7 ∧ w2.cell? ⟨b8, o8, none⟩ = some x8 :=
  ⟨h.1.trans hu.out, hu.out.keep _ _ _ h.2.1, hu.out.keep _ _ _ h.2.2.1, hu.out.keep _ _ _ h.2.2.2.1, hu.out.keep _ _ _ h.2.2.2.2.1, hu.out.keep _ _ _ h.2.2.2.2.2.1, hu.out.keep _ _ _ h.2.2.2.2.2.2.1, hu.out.keep _ _ _ h.2.2.2.2.2.2.2.1, hu.out.keep _ _ _ h.2.2.2.2.2.2.2.2.1, hu.out.keep _ _ _ h.2.2.2.2.2.2.2.2.2⟩
end Go.Proofs.Ytjbgogajnjefmaa
