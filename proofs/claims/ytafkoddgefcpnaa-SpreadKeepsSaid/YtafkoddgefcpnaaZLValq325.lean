/- Package spread: states, Validate, New, Most; New, Most, Same of the reference. -/
import Derived.Test.YtafkoddgefcpnaaRows
import Derived.Test.YtafkoddgefcpnaaZIBaseq115
import Derived.Test.YtafkoddgefcpnaaZLBaseq318
namespace Go.Proofs.Ytafkoddgefcpnaa
open Go.RowKit
set_option linter.unusedVariables false

theorem Up.setP6 {w0 w : World} {p : Nat} {v0 v1 v2 v3 v4 v5 : Value} (h : Up w0 w) (hp : w0.heap.size ≤ p) : Up w0 ((((((w.setCell ⟨p, 0, none⟩ (v0)).setCell ⟨p, 1, none⟩ (v1)).setCell ⟨p, 2, none⟩ (v2)).setCell ⟨p, 3, none⟩ (v3)).setCell ⟨p, 4, none⟩ (v4)).setCell ⟨p, 5, none⟩ (v5)) :=
  (((((h.setCell hp _).setCell hp _).setCell hp _).setCell hp _).setCell hp _).setCell hp _
set_option maxHeartbeats 4000000 in
set_option maxRecDepth 100000 in
theorem fromSmooth_up (g v q c now seq : Int) (n k : Nat) (A : Option Addr) (w : World) :
    Calls Try.prog 90 #[.agg #[.int .i64 g, .int .i64 v, .int .i64 q, .int .i64 c, .int .i64 now, .int .i64 seq, .slice A n k]] w fun e w' => e = .returned (.agg #[.int .i64 v, .int .i64 q, .int .i64 c, .int .i64 now, .int .i64 seq, .slice A n k]) ∧ Up w w' := by
  go_enter Try.func90, Try.ntmps90
  go_wp2
  refine bodyPost_ret (v := .agg #[.int .i64 v, .int .i64 q, .int .i64 c, .int .i64 now, .int .i64 seq, .slice A n k]) (by simp [results, Try.results90, go_sem]) rfl ⟨?_, ?_⟩
  · rfl
  · repeat (first | exact Up.refl _ | refine Up.alloc ?_ _ _ | refine Up.setCell ?_ (by first | (simp; done) | (simp; omega) | omega) _ | refine Up.drewN ?_ _ | refine Up.drew ?_)
set_option maxHeartbeats 4000000 in
set_option maxRecDepth 100000 in
theorem new14_yes (v q c now : Int) (h : mayC v q c now = true) (w : World) :
    Calls Try.prog 39 #[.int .i64 v, .int .i64 q, .int .i64 c, .int .i64 now] w fun e w' => e = .returned (.tuple #[.agg #[.int .i64 v, .int .i64 q, .int .i64 c, .int .i64 now, .int .i64 0, .slice none 0 0], .int .i64 0]) ∧ Up w w' := by
  have KN := Lib.hid (mnew_yes 4 v q c now (by unfold mayM; rw [h]; rfl))
  have KF := Lib.hid (fromSmooth_up 4 v q c now 0 0 0 none)
  clear h
  go_enter Try.func39, Try.ntmps39
  go_wp2_with (first
    | (go_at_call 54; (with_reducible refine (KN.out _).mono ?_); rintro e w1 ⟨rfl, hu⟩; have hv := ((Up.refl w).alloc #[.int .i64 0, .int .i64 0, .int .i64 0, .int .i64 0, .int .i64 0, .slice none 0 0] 61).trans hu; have HV1 := Lib.hid hv; have HU1 := Lib.hid ((Up.refl w).trans hv); have r_1_0 := hu.keep (w.heap.size) 0 (.int .i64 0) (by simp [go_sem]); have r_1_1 := hu.keep (w.heap.size) 1 (.int .i64 0) (by simp [go_sem]); have r_1_2 := hu.keep (w.heap.size) 2 (.int .i64 0) (by simp [go_sem]); have r_1_3 := hu.keep (w.heap.size) 3 (.int .i64 0) (by simp [go_sem]); have r_1_4 := hu.keep (w.heap.size) 4 (.int .i64 0) (by simp [go_sem]); have r_1_5 := hu.keep (w.heap.size) 5 (.slice none 0 0) (by simp [go_sem]); have lr1 := World.block_lt_of_cell? _ _ r_1_0; clear hu hv )
    | (go_at_call 90; (with_reducible refine (KF.out _).mono ?_); rintro e w2 ⟨rfl, hu⟩; have hv := ((Up.refl w1).alloc #[.int .i64 4, .int .i64 v, .int .i64 q, .int .i64 c, .int .i64 now, .int .i64 0, .slice none 0 0] 26).trans hu; have HV2 := Lib.hid hv; have HU2 := Lib.hid (HU1.out.trans hv); have r_2_0 := hv.keep _ _ _ r_1_0; have r_2_1 := hv.keep _ _ _ r_1_1; have r_2_2 := hv.keep _ _ _ r_1_2; have r_2_3 := hv.keep _ _ _ r_1_3; have r_2_4 := hv.keep _ _ _ r_1_4; have r_2_5 := hv.keep _ _ _ r_1_5; have x_2_0 := hu.keep (w1.heap.size) 0 (.int .i64 4) (by simp [go_sem]); have x_2_1 := hu.keep (w1.heap.size) 1 (.int .i64 v) (by simp [go_sem]); have x_2_2 := hu.keep (w1.heap.size) 2 (.int .i64 q) (by simp [go_sem]); have x_2_3 := hu.keep (w1.heap.size) 3 (.int .i64 c) (by simp [go_sem]); have x_2_4 := hu.keep (w1.heap.size) 4 (.int .i64 now) (by simp [go_sem]); have x_2_5 := hu.keep (w1.heap.size) 5 (.int .i64 0) (by simp [go_sem]); have x_2_6 := hu.keep (w1.heap.size) 6 (.slice none 0 0) (by simp [go_sem]); have lr2 := World.block_lt_of_cell? _ _ r_2_0; have lx2 := World.block_lt_of_cell? _ _ x_2_0; have z0 := HU2.out.ownGe (g := w.heap.size) (Nat.le_refl _) 0; have z1 := HU2.out.ownGe (g := w.heap.size) (Nat.le_refl _) 1; have z2 := HU2.out.ownGe (g := w.heap.size) (Nat.le_refl _) 2; have z3 := HU2.out.ownGe (g := w.heap.size) (Nat.le_refl _) 3; have z4 := HU2.out.ownGe (g := w.heap.size) (Nat.le_refl _) 4; have z5 := HU2.out.ownGe (g := w.heap.size) (Nat.le_refl _) 5; clear hu hv lr1 r_1_0 r_1_1 r_1_2 r_1_3 r_1_4 r_1_5))
  refine bodyPost_ret (v := .tuple #[.agg #[.int .i64 v, .int .i64 q, .int .i64 c, .int .i64 now, .int .i64 0, .slice none 0 0], .int .i64 0]) (by simp [results, Try.results39, go_sem, r_2_0, r_2_1, r_2_2, r_2_3, r_2_4, r_2_5]) rfl ⟨rfl, ?_⟩
  exact HU2.out.setP6 (Nat.le_refl _)

end Go.Proofs.Ytafkoddgefcpnaa
