/- Package spread and its reference: the spread of a mark. -/
import Derived.Test.YtafkoddgefcpnaaRows
import Derived.Test.YtafkoddgefcpnaaZLBaseq319
import Derived.Test.YtafkoddgefcpnaaZRMakeq233
namespace Go.Proofs.Ytafkoddgefcpnaa
open Go.RowKit
set_option linter.unusedVariables false

set_option maxHeartbeats 4000000 in
set_option maxRecDepth 100000 in
theorem rof14_no (sq t nn s qq lo hi : Int) (h : myM ⟨sq, t, nn, s, qq, lo, hi⟩ = false) (w : World) :
    Calls Try.prog 46 #[.agg #[.int .i64 sq, .int .i64 t, .int .i64 nn, .int .i64 s, .int .i64 qq, .int .i64 lo, .int .i64 hi]] w fun e w' => e = gotR 0 0 false ∧ Up w w' := by
  have KH := Lib.hid (rmay14_up sq t nn s qq lo hi)
  rw [h] at KH
  clear h
  go_enter Try.func46, Try.ntmps46
  go_wp2_with (go_at_call 94; (with_reducible refine (KH.out _).mono ?_); rintro e w1 ⟨rfl, hu⟩; have HU1 := Lib.hid ((((Up.refl w).alloc _ _).alloc _ _).trans hu); have a0 := hu.keep w.heap.size 0 (.int .i64 sq) (by simp [go_sem]); have a1 := hu.keep w.heap.size 1 (.int .i64 t) (by simp [go_sem]); have a2 := hu.keep w.heap.size 2 (.int .i64 nn) (by simp [go_sem]); have a3 := hu.keep w.heap.size 3 (.int .i64 s) (by simp [go_sem]); have a4 := hu.keep w.heap.size 4 (.int .i64 qq) (by simp [go_sem]); have a5 := hu.keep w.heap.size 5 (.int .i64 lo) (by simp [go_sem]); have a6 := hu.keep w.heap.size 6 (.int .i64 hi) (by simp [go_sem]); have r0 := hu.keep (w.heap.size + 1) 0 (.int .i64 0) (by simp [go_sem]); have r1 := hu.keep (w.heap.size + 1) 1 (.int .i64 0) (by simp [go_sem]); have z0 := HU1.out.ownGe (g := w.heap.size + 1) (by omega) 0; have z1 := HU1.out.ownGe (g := w.heap.size + 1) (by omega) 1; clear hu)
  refine bodyPost_ret (v := .tuple #[.agg #[.int .i64 0, .int .i64 0], .bool false]) (by simp [results, Try.results46, go_sem, r0, r1]) rfl ⟨rfl, ?_⟩
  exact HU1.out.setP2 (by omega)

set_option maxHeartbeats 4000000 in
set_option maxRecDepth 100000 in
theorem rof14_yes (sq t nn s qq lo hi : Int) (h : myM ⟨sq, t, nn, s, qq, lo, hi⟩ = true) (w : World) :
    Calls Try.prog 46 #[.agg #[.int .i64 sq, .int .i64 t, .int .i64 nn, .int .i64 s, .int .i64 qq, .int .i64 lo, .int .i64 hi]] w fun e w' => e = gotR (quoN (spM ⟨sq, t, nn, s, qq, lo, hi⟩) nn) (quoD (spM ⟨sq, t, nn, s, qq, lo, hi⟩) nn) true ∧ Up w w' := by
  have KH := Lib.hid (rmay14_up sq t nn s qq lo hi)
  rw [h] at KH
  have KM := Lib.hid (rmake_up (spM ⟨sq, t, nn, s, qq, lo, hi⟩) nn (spM_in h).1 (spM_in h).2)
  rw [show quoB (spM ⟨sq, t, nn, s, qq, lo, hi⟩) nn = true from spM_fit h] at KM
  obtain ⟨⟨a1, a2⟩, ⟨a3, a4⟩, ⟨a5, a6⟩, ⟨a7, a8⟩, ⟨a9, a10⟩, ⟨a11, a12⟩⟩ := myM_bd h
  simp only at a1 a2 a3 a4 a5 a6 a7 a8 a9 a10
  generalize quoN (spM ⟨sq, t, nn, s, qq, lo, hi⟩) nn = x at *
  generalize quoD (spM ⟨sq, t, nn, s, qq, lo, hi⟩) nn = y at *
  rw [show spM ⟨sq, t, nn, s, qq, lo, hi⟩ = nn * qq - s * s from rfl] at KM
  unfold gotR at KM ⊢
  have v1 : IntKind.i64.wrap (nn * qq) = nn * qq := by rw [IntKind.wrap_i64]; omega
  have v2 : IntKind.i64.wrap (s * s) = s * s := by rw [IntKind.wrap_i64]; omega
  have v3 : IntKind.i64.wrap (nn * qq - s * s) = nn * qq - s * s := by rw [IntKind.wrap_i64]; omega
  clear h a11 a12 a1 a2 a3 a4 a5 a6 a7 a8 a9 a10
  go_enter Try.func46, Try.ntmps46
  go_wp2_with (first | (go_at_call 94; (with_reducible refine (KH.out _).mono ?_); rintro e w1 ⟨rfl, hu⟩; have HU1 := Lib.hid ((((Up.refl w).alloc _ _).alloc _ _).trans hu); have a0 := hu.keep w.heap.size 0 (.int .i64 sq) (by simp [go_sem]); have a1 := hu.keep w.heap.size 1 (.int .i64 t) (by simp [go_sem]); have a2 := hu.keep w.heap.size 2 (.int .i64 nn) (by simp [go_sem]); have a3 := hu.keep w.heap.size 3 (.int .i64 s) (by simp [go_sem]); have a4 := hu.keep w.heap.size 4 (.int .i64 qq) (by simp [go_sem]); have a5 := hu.keep w.heap.size 5 (.int .i64 lo) (by simp [go_sem]); have a6 := hu.keep w.heap.size 6 (.int .i64 hi) (by simp [go_sem]); have r0 := hu.keep (w.heap.size + 1) 0 (.int .i64 0) (by simp [go_sem]); have r1 := hu.keep (w.heap.size + 1) 1 (.int .i64 0) (by simp [go_sem]); have z0 := HU1.out.ownGe (g := w.heap.size + 1) (by omega) 0; have z1 := HU1.out.ownGe (g := w.heap.size + 1) (by omega) 1; clear hu) | (go_at_call 95; (with_reducible refine (KM.out _).mono ?_); rintro e w3 ⟨rfl, hu⟩; have HU3 := Lib.hid (HU1.out.trans hu); have r0 := hu.keep _ _ _ r0; have r1 := hu.keep _ _ _ r1; have z0 := HU3.out.ownGe (g := w.heap.size + 1) (by omega) 0; have z1 := HU3.out.ownGe (g := w.heap.size + 1) (by omega) 1; clear hu))
  refine bodyPost_ret (v := .tuple #[.agg #[.int .i64 x, .int .i64 y], .bool true]) (by simp [results, Try.results46, go_sem, r0, r1]) rfl ⟨rfl, ?_⟩
  exact HU3.out.setP2 (by omega)
theorem rof14_up (m : Mrk) (w : World) : Calls Try.prog 46 #[.agg #[.int .i64 m.sq, .int .i64 m.t, .int .i64 m.n, .int .i64 m.s, .int .i64 m.q, .int .i64 m.lo, .int .i64 m.hi]] w fun e w' => e = ofS m ∧ Up w w' := by
  unfold ofS
  cases h : myM m with
  | false => rw [if_neg Bool.false_ne_true]; exact rof14_no m.sq m.t m.n m.s m.q m.lo m.hi h w
  | true => rw [if_pos rfl]; exact rof14_yes m.sq m.t m.n m.s m.q m.lo m.hi h w
end Go.Proofs.Ytafkoddgefcpnaa
