/- Query of package buckets and of its reference. -/
import Derived.Test.YtfdjhahnggdklaaZBSmallm2
import Derived.Test.YtfdjhahnggdklaaZBWhole
import Derived.Test.YtfdjhahnggdklaaZGBasem8
import Derived.Test.YtfdjhahnggdklaaZGLawm3
import Derived.Test.YtfdjhahnggdklaaZHOrdm2
import Derived.Test.YtfdjhahnggdklaaZHRVal
import Derived.Test.YtfdjhahnggdklaaZHRowm3
import Derived.Test.YtfdjhahnggdklaaZHSamem5
import Derived.Test.YtfdjhahnggdklaaZHSmallm7
import Derived.Test.YtfdjhahnggdklaaZREasym4
import Derived.Test.YtfdjhahnggdklaaZWCmpm5
import Derived.Test.YtfdjhahnggdklaaZWGcd
import Derived.Test.YtfdjhahnggdklaaZWMathm9
import Derived.Test.YtfdjhahnggdklaaZWRDiv2
namespace Go.Proofs.Ytfdjhahnggdklaa
open Go.RowKit

theorem cells6 {w : World} {p : Nat} {v0 v1 v2 v3 v4 v5 x0 x1 x2 x3 x4 x5 : Value} (e0 : w.cell? ⟨p, 0, none⟩ = some x0) (e1 : w.cell? ⟨p, 1, none⟩ = some x1) (e2 : w.cell? ⟨p, 2, none⟩ = some x2) (e3 : w.cell? ⟨p, 3, none⟩ = some x3) (e4 : w.cell? ⟨p, 4, none⟩ = some x4) (e5 : w.cell? ⟨p, 5, none⟩ = some x5) (c : Array Value) (t : TypeId) :
    let W := ((((((w.setCell ⟨p, 0, none⟩ v0).setCell ⟨p, 1, none⟩ v1).setCell ⟨p, 2, none⟩ v2).setCell ⟨p, 3, none⟩ v3).setCell ⟨p, 4, none⟩ v4).setCell ⟨p, 5, none⟩ v5).alloc (.cells c t)
    W.cell? ⟨p, 0, none⟩ = some v0 ∧ W.cell? ⟨p, 1, none⟩ = some v1 ∧ W.cell? ⟨p, 2, none⟩ = some v2 ∧ W.cell? ⟨p, 3, none⟩ = some v3 ∧ W.cell? ⟨p, 4, none⟩ = some v4 ∧ W.cell? ⟨p, 5, none⟩ = some v5 :=
  have k := fun o u h => ((Up.refl _).alloc c t).keep p o u h
  ⟨k _ _ (cell_set (cell_set (cell_set (cell_set (cell_set (cell_set e0)))))), k _ _ (cell_set (cell_set (cell_set (cell_set (cell_set (cell_set e1)))))), k _ _ (cell_set (cell_set (cell_set (cell_set (cell_set (cell_set e2)))))), k _ _ (cell_set (cell_set (cell_set (cell_set (cell_set (cell_set e3)))))), k _ _ (cell_set (cell_set (cell_set (cell_set (cell_set (cell_set e4)))))), k _ _ (cell_set (cell_set (cell_set (cell_set (cell_set (cell_set e5))))))⟩
/-- The bounds of a list whose levels are in range. -/
def qlo (L : List It) : Int := totB L - szB (L.getD 0 (0, 0)).2 + 1
def quV (L : List It) : Value := if L = [] then .agg #[.int .i64 0, .int .i64 1, .int .i64 0, .int .i64 1, .int .i64 0, .int .i64 1] else .agg #[.int .i64 (qlo L), .int .i64 1, .int .i64 (mid (qlo L) (totB L)), .int .i64 1, .int .i64 (totB L), .int .i64 1]

set_option maxHeartbeats 8000000 in
set_option maxRecDepth 100000 in
theorem query10_up (n k : Nat) (A : Option Addr) (L : List It) (hn : n ≤ 50000) (hl : lvB L = true) (w : World) (hS : Sl w A n L) :
    Calls Try.prog 49 #[.slice A n k] w fun e w' => e = .returned (quV L) ∧ Up w w' := by
  cases n with
  | zero =>
    have e : L = [] := List.eq_nil_of_length_eq_zero hS.1
    rw [show quV L = .agg #[.int .i64 0, .int .i64 1, .int .i64 0, .int .i64 1, .int .i64 0, .int .i64 1] by unfold quV; rw [if_pos e]]
    clear hS hl e
    have KO := Lib.hid (ofr_up 0)
    have KE := Lib.hid (bexact_up 0 1 ⟨by omega, by omega⟩ ⟨by omega, by omega⟩)
    rw [valid_one 0] at KE
    simp only [oz_yes] at KE
    go_enter Try.func49, Try.ntmps49
    go_wp2_with (first | (go_at_call 82; (with_reducible refine (KO.out _).mono ?_); rintro e w1 ⟨rfl, hu⟩; have HU1 := Lib.hid hu; clear hu) | (go_at_call 81; (with_reducible refine (KE.out _).mono ?_); rintro e w2 ⟨rfl, hu⟩; have HU2 := Lib.hid (HU1.out.trans hu); have HU := Lib.hid (((Up.refl w).alloc #[.int .i64 0, .int .i64 0, .int .i64 0, .int .i64 0, .int .i64 0, .int .i64 0] 36).trans HU2.out); have r0 := HU2.out.keep w.heap.size 0 (.int .i64 0) (by simp [go_sem]); have r1 := HU2.out.keep w.heap.size 1 (.int .i64 0) (by simp [go_sem]); have r2 := HU2.out.keep w.heap.size 2 (.int .i64 0) (by simp [go_sem]); have r3 := HU2.out.keep w.heap.size 3 (.int .i64 0) (by simp [go_sem]); have r4 := HU2.out.keep w.heap.size 4 (.int .i64 0) (by simp [go_sem]); have r5 := HU2.out.keep w.heap.size 5 (.int .i64 0) (by simp [go_sem]); have z0 := HU.out.ownGe (g := w.heap.size) (Nat.le_refl _) 0; have z1 := HU.out.ownGe (g := w.heap.size) (Nat.le_refl _) 1; have z2 := HU.out.ownGe (g := w.heap.size) (Nat.le_refl _) 2; have z3 := HU.out.ownGe (g := w.heap.size) (Nat.le_refl _) 3; have z4 := HU.out.ownGe (g := w.heap.size) (Nat.le_refl _) 4; have z5 := HU.out.ownGe (g := w.heap.size) (Nat.le_refl _) 5; clear hu))
    refine bodyPost_ret (v := .agg #[.int .i64 0, .int .i64 1, .int .i64 0, .int .i64 1, .int .i64 0, .int .i64 1]) (by simp [results, Try.results49, go_sem, r0, r1, r2, r3, r4, r5]) rfl ⟨rfl, ?_⟩
    exact HU.out.set6 (Nat.le_refl _)
  | succ n =>
  obtain ⟨b, o, rfl, d0, d1⟩ := hS.at_ (show 0 < n + 1 by omega)
  simp only [Nat.zero_mul, Nat.add_zero] at d0 d1
  have hX : L ≠ [] := fun e => by have := hS.1; rw [e] at this; simp at this
  have h0 := lv_all hl (show 0 < L.length by rw [hS.1]; omega)
  have hz := szB_in h0
  have hz2 := szB_high (L.getD 0 (0, 0)).2
  have hf := tot_first hX
  have hy := totB_high L
  rw [hS.1] at hy
  have eq : quV L = .agg #[.int .i64 (qlo L), .int .i64 1, .int .i64 (mid (qlo L) (totB L)), .int .i64 1, .int .i64 (totB L), .int .i64 1] := by unfold quV; rw [if_neg hX]
  rw [eq]
  unfold qlo
  have HS := Lib.hid hS
  have KT := Lib.hid (fun W (h : Sl W (some ⟨b, o, none⟩) (n + 1) L) => total10_up (n + 1) k (some ⟨b, o, none⟩) L (by omega) W h)
  have KZ := Lib.hid (size_up (L.getD 0 (0, 0)).1 (L.getD 0 (0, 0)).2)
  generalize totB L = y at *
  generalize (L.getD 0 (0, 0)).1 = p0 at *
  generalize (L.getD 0 (0, 0)).2 = p1 at *
  have HW : Hid (wrap64 (2 ^ p1.toNat) = szB p1) := Lib.hid (by
    rw [← hz.2]
    have := hz.1
    unfold wrap64; omega)
  have hz1 := hz.1
  generalize szB p1 = C at *
  have KW := Lib.hid (whole_up (y - C + 1) y ⟨by omega, by omega⟩ ⟨by omega, by omega⟩)
  rw [decide_eq_true (p := y - C + 1 ≤ y) (by omega)] at KW
  simp only [oz_yes] at KW
  have t1 : (((n : Int) + 1) == 0) = false := by simp; omega
  have t2 : (0 : Int) < (n : Int) + 1 := by omega
  clear hS hX hz hl eq
  clear HW
  go_enter Try.func49, Try.ntmps49
  go_wp2_with (first | (go_at_call 45; (with_reducible refine (KT.out _ (HS.out.up ((Up.refl w).alloc _ _))).mono ?_); rintro e w1 ⟨rfl, hu⟩; have HU1 := Lib.hid hu; have e0 := hu.keep _ _ _ (((Up.refl w).alloc #[.int .i64 0, .int .i64 0, .int .i64 0, .int .i64 0, .int .i64 0, .int .i64 0] 36).keep _ _ _ d0); have e1 := hu.keep _ _ _ (((Up.refl w).alloc #[.int .i64 0, .int .i64 0, .int .i64 0, .int .i64 0, .int .i64 0, .int .i64 0] 36).keep _ _ _ d1); clear hu) | (go_at_call 73; (with_reducible refine (KZ.out _).mono ?_); rintro e w2 ⟨rfl, hu⟩; have HU2 := Lib.hid (HU1.out.trans hu); clear hu))
  go_at_call 83
  (with_reducible refine (KW.out _).mono ?_)
  rintro e w3 ⟨rfl, hu⟩
  unfold gotB
  have HU3 := Lib.hid (HU2.out.trans hu)
  have HU := Lib.hid (((Up.refl w).alloc #[.int .i64 0, .int .i64 0, .int .i64 0, .int .i64 0, .int .i64 0, .int .i64 0] 36).trans HU3.out)
  have r0 := HU3.out.keep w.heap.size 0 (.int .i64 0) (by simp [go_sem]); have r1 := HU3.out.keep w.heap.size 1 (.int .i64 0) (by simp [go_sem]); have r2 := HU3.out.keep w.heap.size 2 (.int .i64 0) (by simp [go_sem]); have r3 := HU3.out.keep w.heap.size 3 (.int .i64 0) (by simp [go_sem]); have r4 := HU3.out.keep w.heap.size 4 (.int .i64 0) (by simp [go_sem]); have r5 := HU3.out.keep w.heap.size 5 (.int .i64 0) (by simp [go_sem])
  have z0 := HU.out.ownGe (g := w.heap.size) (Nat.le_refl _) 0; have z1 := HU.out.ownGe (g := w.heap.size) (Nat.le_refl _) 1; have z2 := HU.out.ownGe (g := w.heap.size) (Nat.le_refl _) 2; have z3 := HU.out.ownGe (g := w.heap.size) (Nat.le_refl _) 3; have z4 := HU.out.ownGe (g := w.heap.size) (Nat.le_refl _) 4; have z5 := HU.out.ownGe (g := w.heap.size) (Nat.le_refl _) 5
  have ltw : w.heap.size < w3.heap.size := World.block_lt_of_cell? _ _ r0
  have neq : ¬ w3.heap.size = w.heap.size := by omega
  clear hu
  go_wp2_with fail
  obtain ⟨s0, s1, s2, s3, s4, s5⟩ := cells6 (v0 := .int .i64 (y - C + 1)) (v1 := .int .i64 1) (v2 := .int .i64 (mid (y - C + 1) y)) (v3 := .int .i64 1) (v4 := .int .i64 y) (v5 := .int .i64 1) r0 r1 r2 r3 r4 r5 #[.int .i64 (y - C + 1), .int .i64 1, .int .i64 (mid (y - C + 1) y), .int .i64 1, .int .i64 y, .int .i64 1] 36
  refine bodyPost_ret (v := .agg #[.int .i64 (y - C + 1), .int .i64 1, .int .i64 (mid (y - C + 1) y), .int .i64 1, .int .i64 y, .int .i64 1]) (by simp [results, Try.results49, go_sem, s0, s1, s2, s3, s4, s5]) rfl ⟨rfl, ?_⟩
  exact (HU.out.set6 (Nat.le_refl _)).alloc _ _

set_option maxHeartbeats 8000000 in
set_option maxRecDepth 100000 in
theorem rquery10_up (n k : Nat) (A : Option Addr) (L : List It) (hn : n ≤ 50000) (hl : lvB L = true) (w : World) (hS : Sl w A n L) :
    Calls Try.prog 50 #[.slice A n k] w fun e w' => e = .returned (quV L) ∧ Up w w' := by
  cases n with
  | zero =>
    have e : L = [] := List.eq_nil_of_length_eq_zero hS.1
    rw [show quV L = .agg #[.int .i64 0, .int .i64 1, .int .i64 0, .int .i64 1, .int .i64 0, .int .i64 1] by unfold quV; rw [if_pos e]]
    clear hS hl e
    have KE := Lib.hid (whole8_up 0 ⟨by omega, by omega⟩)
    go_enter Try.func50, Try.ntmps50
    go_wp2_with (go_at_call 84; (with_reducible refine (KE.out _).mono ?_); rintro e w2 ⟨rfl, hu⟩; have HU2 := Lib.hid hu; have HU := Lib.hid (((Up.refl w).alloc #[.int .i64 0, .int .i64 0, .int .i64 0, .int .i64 0, .int .i64 0, .int .i64 0] 36).trans HU2.out); have r0 := HU2.out.keep w.heap.size 0 (.int .i64 0) (by simp [go_sem]); have r1 := HU2.out.keep w.heap.size 1 (.int .i64 0) (by simp [go_sem]); have r2 := HU2.out.keep w.heap.size 2 (.int .i64 0) (by simp [go_sem]); have r3 := HU2.out.keep w.heap.size 3 (.int .i64 0) (by simp [go_sem]); have r4 := HU2.out.keep w.heap.size 4 (.int .i64 0) (by simp [go_sem]); have r5 := HU2.out.keep w.heap.size 5 (.int .i64 0) (by simp [go_sem]); have z0 := HU.out.ownGe (g := w.heap.size) (Nat.le_refl _) 0; have z1 := HU.out.ownGe (g := w.heap.size) (Nat.le_refl _) 1; have z2 := HU.out.ownGe (g := w.heap.size) (Nat.le_refl _) 2; have z3 := HU.out.ownGe (g := w.heap.size) (Nat.le_refl _) 3; have z4 := HU.out.ownGe (g := w.heap.size) (Nat.le_refl _) 4; have z5 := HU.out.ownGe (g := w.heap.size) (Nat.le_refl _) 5; clear hu)
    refine bodyPost_ret (v := .agg #[.int .i64 0, .int .i64 1, .int .i64 0, .int .i64 1, .int .i64 0, .int .i64 1]) (by simp [results, Try.results50, go_sem, r0, r1, r2, r3, r4, r5]) rfl ⟨rfl, ?_⟩
    exact HU.out.set6 (Nat.le_refl _)
  | succ n =>
  obtain ⟨b, o, rfl, d0, d1⟩ := hS.at_ (show 0 < n + 1 by omega)
  simp only [Nat.zero_mul, Nat.add_zero] at d0 d1
  have hX : L ≠ [] := fun e => by have := hS.1; rw [e] at this; simp at this
  have h0 := lv_all hl (show 0 < L.length by rw [hS.1]; omega)
  have hz := szB_in h0
  have hz2 := szB_high (L.getD 0 (0, 0)).2
  have hf := tot_first hX
  have hy := totB_high L
  rw [hS.1] at hy
  have eq : quV L = .agg #[.int .i64 (qlo L), .int .i64 1, .int .i64 (mid (qlo L) (totB L)), .int .i64 1, .int .i64 (totB L), .int .i64 1] := by unfold quV; rw [if_neg hX]
  rw [eq]
  unfold qlo
  have HS := Lib.hid hS
  have KT := Lib.hid (fun W (h : Sl W (some ⟨b, o, none⟩) (n + 1) L) => rtotal10_up (n + 1) k (some ⟨b, o, none⟩) L (by omega) W h)
  have KZ := Lib.hid (size_up (L.getD 0 (0, 0)).1 (L.getD 0 (0, 0)).2)
  generalize totB L = y at *
  generalize (L.getD 0 (0, 0)).1 = p0 at *
  generalize (L.getD 0 (0, 0)).2 = p1 at *
  have HW : Hid (wrap64 (2 ^ p1.toNat) = szB p1) := Lib.hid (by
    rw [← hz.2]
    have := hz.1
    unfold wrap64; omega)
  have hz1 := hz.1
  generalize szB p1 = C at *
  have KW := Lib.hid (rwhole_up (y - C + 1) y ⟨by omega, by omega⟩ ⟨by omega, by omega⟩)
  rw [decide_eq_true (p := y - C + 1 ≤ y) (by omega)] at KW
  simp only [oz_yes] at KW
  have t1 : (((n : Int) + 1) == 0) = false := by simp; omega
  have t2 : (0 : Int) < (n : Int) + 1 := by omega
  clear hS hX hz hl eq
  have hw := HW.out
  clear KZ
  go_enter Try.func50, Try.ntmps50
  go_wp2_with (first | (go_at_call 47; (with_reducible refine (KT.out _ (HS.out.up ((Up.refl w).alloc _ _))).mono ?_); rintro e w1 ⟨rfl, hu⟩; have HU1 := Lib.hid hu; have e0 := hu.keep _ _ _ (((Up.refl w).alloc #[.int .i64 0, .int .i64 0, .int .i64 0, .int .i64 0, .int .i64 0, .int .i64 0] 36).keep _ _ _ d0); have e1 := hu.keep _ _ _ (((Up.refl w).alloc #[.int .i64 0, .int .i64 0, .int .i64 0, .int .i64 0, .int .i64 0, .int .i64 0] 36).keep _ _ _ d1); clear hu))
  go_at_call 85
  (with_reducible refine (KW.out _).mono ?_)
  rintro e w3 ⟨rfl, hu⟩
  unfold gotB
  have HU3 := Lib.hid (HU1.out.trans hu)
  have HU := Lib.hid (((Up.refl w).alloc #[.int .i64 0, .int .i64 0, .int .i64 0, .int .i64 0, .int .i64 0, .int .i64 0] 36).trans HU3.out)
  have r0 := HU3.out.keep w.heap.size 0 (.int .i64 0) (by simp [go_sem]); have r1 := HU3.out.keep w.heap.size 1 (.int .i64 0) (by simp [go_sem]); have r2 := HU3.out.keep w.heap.size 2 (.int .i64 0) (by simp [go_sem]); have r3 := HU3.out.keep w.heap.size 3 (.int .i64 0) (by simp [go_sem]); have r4 := HU3.out.keep w.heap.size 4 (.int .i64 0) (by simp [go_sem]); have r5 := HU3.out.keep w.heap.size 5 (.int .i64 0) (by simp [go_sem])
  have z0 := HU.out.ownGe (g := w.heap.size) (Nat.le_refl _) 0; have z1 := HU.out.ownGe (g := w.heap.size) (Nat.le_refl _) 1; have z2 := HU.out.ownGe (g := w.heap.size) (Nat.le_refl _) 2; have z3 := HU.out.ownGe (g := w.heap.size) (Nat.le_refl _) 3; have z4 := HU.out.ownGe (g := w.heap.size) (Nat.le_refl _) 4; have z5 := HU.out.ownGe (g := w.heap.size) (Nat.le_refl _) 5
  have ltw : w.heap.size < w3.heap.size := World.block_lt_of_cell? _ _ r0
  have neq : ¬ w3.heap.size = w.heap.size := by omega
  clear hu
  go_wp2_with fail
  obtain ⟨s0, s1, s2, s3, s4, s5⟩ := cells6 (v0 := .int .i64 (y - C + 1)) (v1 := .int .i64 1) (v2 := .int .i64 (mid (y - C + 1) y)) (v3 := .int .i64 1) (v4 := .int .i64 y) (v5 := .int .i64 1) r0 r1 r2 r3 r4 r5 #[.int .i64 (y - C + 1), .int .i64 1, .int .i64 (mid (y - C + 1) y), .int .i64 1, .int .i64 y, .int .i64 1] 36
  refine bodyPost_ret (v := .agg #[.int .i64 (y - C + 1), .int .i64 1, .int .i64 (mid (y - C + 1) y), .int .i64 1, .int .i64 y, .int .i64 1]) (by simp [results, Try.results50, go_sem, s0, s1, s2, s3, s4, s5]) rfl ⟨rfl, ?_⟩
  exact (HU.out.set6 (Nat.le_refl _)).alloc _ _
end Go.Proofs.Ytfdjhahnggdklaa
