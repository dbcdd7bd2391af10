/- Whole of the reference of layer 8; six stores into a block. -/
import Derived.Test.YtafkoddgefcpnaaRows
import Derived.Test.YtafkoddgefcpnaaZBSmallq240
namespace Go.Proofs.Ytafkoddgefcpnaa
open Go.RowKit

set_option maxHeartbeats 8000000 in
set_option maxRecDepth 100000 in
theorem whole8_up (n : Int) (hn : In n) (w : World) :
    Calls Try.prog 77 #[.int .i64 n] w fun e w' => e = .returned (.agg #[.int .i64 n, .int .i64 1, .int .i64 n, .int .i64 1, .int .i64 n, .int .i64 1]) ∧ Up w w' := by
  have H1 := Lib.hid (fun W => rofr_up n W)
  have H2 := Lib.hid (fun W => rbexact_up n 1 hn (by unfold In; omega) W)
  rw [valid_one n] at H2
  simp only [oz_yes] at H2
  clear hn
  go_enter Try.func77, Try.ntmps77
  go_wp2_with fail
  refine (H1.out _).mono ?_
  rintro e w1 ⟨rfl, hu⟩
  go_wp2_with fail
  refine (H2.out _).mono ?_
  rintro e w2 ⟨rfl, hu2⟩
  have hv := hu.trans hu2
  have HU1 := Lib.hid (((Up.refl w).alloc #[.int .i64 0, .int .i64 0, .int .i64 0, .int .i64 0, .int .i64 0, .int .i64 0] 42).trans hv)
  have r0 := hv.keep (w.heap.size) 0 (.int .i64 0) (by simp [go_sem])
  have r1 := hv.keep (w.heap.size) 1 (.int .i64 0) (by simp [go_sem])
  have r2 := hv.keep (w.heap.size) 2 (.int .i64 0) (by simp [go_sem])
  have r3 := hv.keep (w.heap.size) 3 (.int .i64 0) (by simp [go_sem])
  have r4 := hv.keep (w.heap.size) 4 (.int .i64 0) (by simp [go_sem])
  have r5 := hv.keep (w.heap.size) 5 (.int .i64 0) (by simp [go_sem])
  have z0 := HU1.out.ownGe (g := w.heap.size) (by omega) 0
  have z1 := HU1.out.ownGe (g := w.heap.size) (by omega) 1
  have z2 := HU1.out.ownGe (g := w.heap.size) (by omega) 2
  have z3 := HU1.out.ownGe (g := w.heap.size) (by omega) 3
  have z4 := HU1.out.ownGe (g := w.heap.size) (by omega) 4
  have z5 := HU1.out.ownGe (g := w.heap.size) (by omega) 5
  clear hu hu2 hv
  go_wp2_with fail
  refine bodyPost_ret (v := .agg #[.int .i64 n, .int .i64 1, .int .i64 n, .int .i64 1, .int .i64 n, .int .i64 1]) (by simp [results, Try.results77, go_sem, r0, r1, r2, r3, r4, r5]) rfl ⟨rfl, ?_⟩
  exact HU1.out.set6 (by omega)

end Go.Proofs.Ytafkoddgefcpnaa
