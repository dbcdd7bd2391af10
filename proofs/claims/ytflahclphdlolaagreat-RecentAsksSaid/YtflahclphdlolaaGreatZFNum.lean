/- Exact of package bounds and of its reference for a number in lowest terms; number and integer of package recent, Whole of the reference. -/
import Derived.Test.YtflahclphdlolaaGreatZESort
import Derived.Test.YtflahclphdlolaaGreatZFAdv
import Derived.Test.YtflahclphdlolaaGreatZFAskM
import Derived.Test.YtflahclphdlolaaGreatZFState
import Derived.Test.YtflahclphdlolaaGreatZG0a
import Derived.Test.YtflahclphdlolaaGreatZG2a
import Derived.Test.YtflahclphdlolaaGreatZG4a
import Derived.Test.YtflahclphdlolaaGreatZG5a
import Derived.Test.YtflahclphdlolaaGreatZJRQuo
import Derived.Test.YtflahclphdlolaaGreatZRValid
namespace Go.Proofs.YtflahclphdlolaaGreat
open Go.RowKit

theorem Up.set11 {w0 w : World} {p : Nat} {v0 v1 v2 v3 v4 v5 v6 v7 v8 v9 v10 : Value} (h : Up w0 w) (hp : w0.heap.size ≤ p) : Up w0 ((((((((((((w.setCell ⟨p, 0, none⟩ v0).setCell ⟨p, 1, none⟩ v1).setCell ⟨p, 2, none⟩ v2).setCell ⟨p, 3, none⟩ v3).setCell ⟨p, 4, none⟩ v4).setCell ⟨p, 5, none⟩ v5).setCell ⟨p, 6, none⟩ v6).setCell ⟨p, 7, none⟩ v7).setCell ⟨p, 8, none⟩ v8).setCell ⟨p, 9, none⟩ v9).setCell ⟨p, 10, none⟩ v10)) :=
  (((((((((((h.setCell hp _).setCell hp _).setCell hp _).setCell hp _).setCell hp _).setCell hp _).setCell hp _).setCell hp _).setCell hp _).setCell hp _).setCell hp _)
theorem Up.set6 {w0 w : World} {p : Nat} {v0 v1 v2 v3 v4 v5 : Value} (h : Up w0 w) (hp : w0.heap.size ≤ p) : Up w0 (((((((w.setCell ⟨p, 0, none⟩ v0).setCell ⟨p, 1, none⟩ v1).setCell ⟨p, 2, none⟩ v2).setCell ⟨p, 3, none⟩ v3).setCell ⟨p, 4, none⟩ v4).setCell ⟨p, 5, none⟩ v5)) :=
  ((((((h.setCell hp _).setCell hp _).setCell hp _).setCell hp _).setCell hp _).setCell hp _)
theorem Lo.set11 {w0 w : World} {p : Nat} {v0 v1 v2 v3 v4 v5 v6 v7 v8 v9 v10 : Value} (h : Lo w0 w) (hp : w0.heap.size ≤ p) : Lo w0 ((((((((((((w.setCell ⟨p, 0, none⟩ v0).setCell ⟨p, 1, none⟩ v1).setCell ⟨p, 2, none⟩ v2).setCell ⟨p, 3, none⟩ v3).setCell ⟨p, 4, none⟩ v4).setCell ⟨p, 5, none⟩ v5).setCell ⟨p, 6, none⟩ v6).setCell ⟨p, 7, none⟩ v7).setCell ⟨p, 8, none⟩ v8).setCell ⟨p, 9, none⟩ v9).setCell ⟨p, 10, none⟩ v10)) := by
  unfold Lo at *
  exact (((((((((((h.setCell hp _).setCell hp _).setCell hp _).setCell hp _).setCell hp _).setCell hp _).setCell hp _).setCell hp _).setCell hp _).setCell hp _).setCell hp _)
theorem Nw.none_ {w : World} : Nw w none := fun _ _ e => by cases e
theorem Sn.off {w : World} {A : Option Addr} {n p o : Nat} {M : List Int} (h : Sn w A n M) (hn : ∀ b o, A = some ⟨b, o, none⟩ → b ≠ p) (x : Value) : Sn (w.setCell ⟨p, o, none⟩ x) A n M := by
  refine ⟨h.1, fun h0 => ?_⟩
  obtain ⟨b, o, e, hc⟩ := h.2 h0
  exact ⟨b, o, e, fun j hj => (cell_far (fun hp => hn b o e hp.symm)).trans (hc j hj)⟩
theorem Sn.set11 {w : World} {A : Option Addr} {n p : Nat} {M : List Int} {v0 v1 v2 v3 v4 v5 v6 v7 v8 v9 v10 : Value} (h : Sn w A n M) (hp : ∀ b o, A = some ⟨b, o, none⟩ → b ≠ p) : Sn ((((((((((((w.setCell ⟨p, 0, none⟩ v0).setCell ⟨p, 1, none⟩ v1).setCell ⟨p, 2, none⟩ v2).setCell ⟨p, 3, none⟩ v3).setCell ⟨p, 4, none⟩ v4).setCell ⟨p, 5, none⟩ v5).setCell ⟨p, 6, none⟩ v6).setCell ⟨p, 7, none⟩ v7).setCell ⟨p, 8, none⟩ v8).setCell ⟨p, 9, none⟩ v9).setCell ⟨p, 10, none⟩ v10)) A n M :=
  (((((((((((h.off hp _).off hp _).off hp _).off hp _).off hp _).off hp _).off hp _).off hp _).off hp _).off hp _).off hp _)

set_option maxHeartbeats 8000000 in
set_option maxRecDepth 100000 in
theorem exact9_up (n d : Int) (hv : validB n d = true) (hn : In n) (hd : In d) (w : World) :
    Calls Tryz.prog 49 #[.agg #[.int .i64 n, .int .i64 d]] w fun e w' => e = .returned (.agg #[.int .i64 n, .int .i64 d, .int .i64 n, .int .i64 d, .int .i64 n, .int .i64 d]) ∧ Up w w' := by
  have H1 := Lib.hid (fun W => valid_up n d hn hd W)
  rw [hv] at H1
  clear hn hd hv
  go_enter Tryz.func49, Tryz.ntmps49
  go_wp2_with fail
  refine (H1.out _).mono ?_
  rintro e w1 ⟨rfl, hu⟩
  have HU1 := Lib.hid ((((Up.refl w).alloc #[.int .i64 n, .int .i64 d] 30).alloc #[.int .i64 0, .int .i64 0, .int .i64 0, .int .i64 0, .int .i64 0, .int .i64 0] 32).trans hu)
  have c0 := hu.keep (w.heap.size) 0 (.int .i64 n) (by simp [go_sem])
  have c1 := hu.keep (w.heap.size) 1 (.int .i64 d) (by simp [go_sem])
  have r0 := hu.keep (w.heap.size + 1) 0 (.int .i64 0) (by simp [go_sem])
  have r1 := hu.keep (w.heap.size + 1) 1 (.int .i64 0) (by simp [go_sem])
  have r2 := hu.keep (w.heap.size + 1) 2 (.int .i64 0) (by simp [go_sem])
  have r3 := hu.keep (w.heap.size + 1) 3 (.int .i64 0) (by simp [go_sem])
  have r4 := hu.keep (w.heap.size + 1) 4 (.int .i64 0) (by simp [go_sem])
  have r5 := hu.keep (w.heap.size + 1) 5 (.int .i64 0) (by simp [go_sem])
  have z0 := HU1.out.ownGe (g := w.heap.size + 1) (by omega) 0
  have z1 := HU1.out.ownGe (g := w.heap.size + 1) (by omega) 1
  have z2 := HU1.out.ownGe (g := w.heap.size + 1) (by omega) 2
  have z3 := HU1.out.ownGe (g := w.heap.size + 1) (by omega) 3
  have z4 := HU1.out.ownGe (g := w.heap.size + 1) (by omega) 4
  have z5 := HU1.out.ownGe (g := w.heap.size + 1) (by omega) 5
  clear hu
  go_wp2_with fail
  refine bodyPost_ret (v := .agg #[.int .i64 n, .int .i64 d, .int .i64 n, .int .i64 d, .int .i64 n, .int .i64 d]) (by simp [results, Tryz.results49, go_sem, r0, r1, r2, r3, r4, r5]) rfl ⟨rfl, ?_⟩
  exact HU1.out.set6 (by omega)

set_option maxHeartbeats 8000000 in
set_option maxRecDepth 100000 in
theorem rexact9_up (n d : Int) (hv : validB n d = true) (hn : In n) (hd : In d) (w : World) :
    Calls Tryz.prog 27 #[.agg #[.int .i64 n, .int .i64 d]] w fun e w' => e = .returned (.agg #[.int .i64 n, .int .i64 d, .int .i64 n, .int .i64 d, .int .i64 n, .int .i64 d]) ∧ Up w w' := by
  have H1 := Lib.hid (fun W => rvalid_up n d hn hd W)
  rw [hv] at H1
  clear hn hd hv
  go_enter Tryz.func27, Tryz.ntmps27
  go_wp2_with fail
  refine (H1.out _).mono ?_
  rintro e w1 ⟨rfl, hu⟩
  have HU1 := Lib.hid ((((Up.refl w).alloc #[.int .i64 n, .int .i64 d] 30).alloc #[.int .i64 0, .int .i64 0, .int .i64 0, .int .i64 0, .int .i64 0, .int .i64 0] 32).trans hu)
  have c0 := hu.keep (w.heap.size) 0 (.int .i64 n) (by simp [go_sem])
  have c1 := hu.keep (w.heap.size) 1 (.int .i64 d) (by simp [go_sem])
  have r0 := hu.keep (w.heap.size + 1) 0 (.int .i64 0) (by simp [go_sem])
  have r1 := hu.keep (w.heap.size + 1) 1 (.int .i64 0) (by simp [go_sem])
  have r2 := hu.keep (w.heap.size + 1) 2 (.int .i64 0) (by simp [go_sem])
  have r3 := hu.keep (w.heap.size + 1) 3 (.int .i64 0) (by simp [go_sem])
  have r4 := hu.keep (w.heap.size + 1) 4 (.int .i64 0) (by simp [go_sem])
  have r5 := hu.keep (w.heap.size + 1) 5 (.int .i64 0) (by simp [go_sem])
  have z0 := HU1.out.ownGe (g := w.heap.size + 1) (by omega) 0
  have z1 := HU1.out.ownGe (g := w.heap.size + 1) (by omega) 1
  have z2 := HU1.out.ownGe (g := w.heap.size + 1) (by omega) 2
  have z3 := HU1.out.ownGe (g := w.heap.size + 1) (by omega) 3
  have z4 := HU1.out.ownGe (g := w.heap.size + 1) (by omega) 4
  have z5 := HU1.out.ownGe (g := w.heap.size + 1) (by omega) 5
  clear hu
  go_wp2_with fail
  refine bodyPost_ret (v := .agg #[.int .i64 n, .int .i64 d, .int .i64 n, .int .i64 d, .int .i64 n, .int .i64 d]) (by simp [results, Tryz.results27, go_sem, r0, r1, r2, r3, r4, r5]) rfl ⟨rfl, ?_⟩
  exact HU1.out.set6 (by omega)

set_option maxHeartbeats 8000000 in
set_option maxRecDepth 100000 in
theorem number_up (n d : Int) (hv : validB n d = true) (hn : In n) (hd : In d) (w : World) :
    Calls Tryz.prog 18 #[.agg #[.int .i64 n, .int .i64 d]] w fun e w' => e = .returned (.agg #[.int .i64 n, .int .i64 d, .int .i64 n, .int .i64 d, .int .i64 n, .int .i64 d, .slice none 0 0, .int .u64 0, .int .u64 0, .int .u64 0, .int .u64 0]) ∧ Up w w' := by
  have H1 := Lib.hid (fun W => exact9_up n d hv hn hd W)
  clear hn hd hv
  go_enter Tryz.func18, Tryz.ntmps18
  go_wp2_with fail
  refine (H1.out _).mono ?_
  rintro e w1 ⟨rfl, hu⟩
  have HU1 := Lib.hid ((((Up.refl w).alloc #[.int .i64 n, .int .i64 d] 30).alloc #[.int .i64 0, .int .i64 0, .int .i64 0, .int .i64 0, .int .i64 0, .int .i64 0, .slice none 0 0, .int .u64 0, .int .u64 0, .int .u64 0, .int .u64 0] 40).trans hu)
  have r0 := hu.keep (w.heap.size + 1) 0 (.int .i64 0) (by simp [go_sem])
  have r1 := hu.keep (w.heap.size + 1) 1 (.int .i64 0) (by simp [go_sem])
  have r2 := hu.keep (w.heap.size + 1) 2 (.int .i64 0) (by simp [go_sem])
  have r3 := hu.keep (w.heap.size + 1) 3 (.int .i64 0) (by simp [go_sem])
  have r4 := hu.keep (w.heap.size + 1) 4 (.int .i64 0) (by simp [go_sem])
  have r5 := hu.keep (w.heap.size + 1) 5 (.int .i64 0) (by simp [go_sem])
  have r6 := hu.keep (w.heap.size + 1) 6 (.slice none 0 0) (by simp [go_sem])
  have r7 := hu.keep (w.heap.size + 1) 7 (.int .u64 0) (by simp [go_sem])
  have r8 := hu.keep (w.heap.size + 1) 8 (.int .u64 0) (by simp [go_sem])
  have r9 := hu.keep (w.heap.size + 1) 9 (.int .u64 0) (by simp [go_sem])
  have r10 := hu.keep (w.heap.size + 1) 10 (.int .u64 0) (by simp [go_sem])
  have z0 := HU1.out.ownGe (g := w.heap.size + 1) (by omega) 0
  have z1 := HU1.out.ownGe (g := w.heap.size + 1) (by omega) 1
  have z2 := HU1.out.ownGe (g := w.heap.size + 1) (by omega) 2
  have z3 := HU1.out.ownGe (g := w.heap.size + 1) (by omega) 3
  have z4 := HU1.out.ownGe (g := w.heap.size + 1) (by omega) 4
  have z5 := HU1.out.ownGe (g := w.heap.size + 1) (by omega) 5
  have z6 := HU1.out.ownGe (g := w.heap.size + 1) (by omega) 6
  have z7 := HU1.out.ownGe (g := w.heap.size + 1) (by omega) 7
  have z8 := HU1.out.ownGe (g := w.heap.size + 1) (by omega) 8
  have z9 := HU1.out.ownGe (g := w.heap.size + 1) (by omega) 9
  have z10 := HU1.out.ownGe (g := w.heap.size + 1) (by omega) 10
  clear hu
  go_wp2_with fail
  refine bodyPost_ret (v := .agg #[.int .i64 n, .int .i64 d, .int .i64 n, .int .i64 d, .int .i64 n, .int .i64 d, .slice none 0 0, .int .u64 0, .int .u64 0, .int .u64 0, .int .u64 0]) (by simp [results, Tryz.results18, go_sem, r0, r1, r2, r3, r4, r5, r6, r7, r8, r9, r10]) rfl ⟨rfl, ?_⟩
  exact HU1.out.set11 (by omega)

set_option maxHeartbeats 8000000 in
set_option maxRecDepth 100000 in
theorem integer_up (n : Int) (hn : In n) (w : World) :
    Calls Tryz.prog 12 #[.int .i64 n] w fun e w' => e = .returned (.agg #[.int .i64 n, .int .i64 1, .int .i64 n, .int .i64 1, .int .i64 n, .int .i64 1, .slice none 0 0, .int .u64 0, .int .u64 0, .int .u64 0, .int .u64 0]) ∧ Up w w' := by
  have H1 := Lib.hid (fun W => ofr_up n W)
  have H2 := Lib.hid (fun W => number_up n 1 (valid_one n) hn (by unfold In; omega) W)
  clear hn
  go_enter Tryz.func12, Tryz.ntmps12
  go_wp2_with fail
  refine (H1.out _).mono ?_
  rintro e w1 ⟨rfl, hu⟩
  go_wp2_with fail
  refine (H2.out _).mono ?_
  rintro e w2 ⟨rfl, hu2⟩
  have hv := hu.trans hu2
  have HU1 := Lib.hid (((Up.refl w).alloc #[.int .i64 0, .int .i64 0, .int .i64 0, .int .i64 0, .int .i64 0, .int .i64 0, .slice none 0 0, .int .u64 0, .int .u64 0, .int .u64 0, .int .u64 0] 40).trans hv)
  have r0 := hv.keep (w.heap.size) 0 (.int .i64 0) (by simp [go_sem])
  have r1 := hv.keep (w.heap.size) 1 (.int .i64 0) (by simp [go_sem])
  have r2 := hv.keep (w.heap.size) 2 (.int .i64 0) (by simp [go_sem])
  have r3 := hv.keep (w.heap.size) 3 (.int .i64 0) (by simp [go_sem])
  have r4 := hv.keep (w.heap.size) 4 (.int .i64 0) (by simp [go_sem])
  have r5 := hv.keep (w.heap.size) 5 (.int .i64 0) (by simp [go_sem])
  have r6 := hv.keep (w.heap.size) 6 (.slice none 0 0) (by simp [go_sem])
  have r7 := hv.keep (w.heap.size) 7 (.int .u64 0) (by simp [go_sem])
  have r8 := hv.keep (w.heap.size) 8 (.int .u64 0) (by simp [go_sem])
  have r9 := hv.keep (w.heap.size) 9 (.int .u64 0) (by simp [go_sem])
  have r10 := hv.keep (w.heap.size) 10 (.int .u64 0) (by simp [go_sem])
  have z0 := HU1.out.ownGe (g := w.heap.size) (by omega) 0
  have z1 := HU1.out.ownGe (g := w.heap.size) (by omega) 1
  have z2 := HU1.out.ownGe (g := w.heap.size) (by omega) 2
  have z3 := HU1.out.ownGe (g := w.heap.size) (by omega) 3
  have z4 := HU1.out.ownGe (g := w.heap.size) (by omega) 4
  have z5 := HU1.out.ownGe (g := w.heap.size) (by omega) 5
  have z6 := HU1.out.ownGe (g := w.heap.size) (by omega) 6
  have z7 := HU1.out.ownGe (g := w.heap.size) (by omega) 7
  have z8 := HU1.out.ownGe (g := w.heap.size) (by omega) 8
  have z9 := HU1.out.ownGe (g := w.heap.size) (by omega) 9
  have z10 := HU1.out.ownGe (g := w.heap.size) (by omega) 10
  clear hu hu2 hv
  go_wp2_with fail
  refine bodyPost_ret (v := .agg #[.int .i64 n, .int .i64 1, .int .i64 n, .int .i64 1, .int .i64 n, .int .i64 1, .slice none 0 0, .int .u64 0, .int .u64 0, .int .u64 0, .int .u64 0]) (by simp [results, Tryz.results12, go_sem, r0, r1, r2, r3, r4, r5, r6, r7, r8, r9, r10]) rfl ⟨rfl, ?_⟩
  exact HU1.out.set11 (by omega)

set_option maxHeartbeats 8000000 in
set_option maxRecDepth 100000 in
theorem whole8_up (n : Int) (hn : In n) (w : World) :
    Calls Tryz.prog 26 #[.int .i64 n] w fun e w' => e = .returned (.agg #[.int .i64 n, .int .i64 1, .int .i64 n, .int .i64 1, .int .i64 n, .int .i64 1]) ∧ Up w w' := by
  have H1 := Lib.hid (fun W => rofr_up n W)
  have H2 := Lib.hid (fun W => rexact9_up n 1 (valid_one n) hn (by unfold In; omega) W)
  clear hn
  go_enter Tryz.func26, Tryz.ntmps26
  go_wp2_with fail
  refine (H1.out _).mono ?_
  rintro e w1 ⟨rfl, hu⟩
  go_wp2_with fail
  refine (H2.out _).mono ?_
  rintro e w2 ⟨rfl, hu2⟩
  have hv := hu.trans hu2
  have HU1 := Lib.hid (((Up.refl w).alloc #[.int .i64 0, .int .i64 0, .int .i64 0, .int .i64 0, .int .i64 0, .int .i64 0] 32).trans hv)
  have r0 := hv.keep (w.heap.size) 0 (.int .i64 0) (by simp [go_sem])
  have r1 := hv.keep (w.heap.size) 1 (.int .i64 0) (by simp [go_sem])
  have r2 := hv.keep (w.heap.size) 2 (.int .i64 0) (by simp [go_sem])
  have r3 := hv.keep (w.heap.size) 3 (.int .i64 0) (by simp [go_sem])
  have r4 := hv.keep (w.heap.size) 4 (.int .i64 0) (by simp [go_sem])
  have r5 := hv.keep (w.heap.size) 5 (.int .i64 0) (by simp [go_sem])
  have z0 := HU1.out.ownGe (g := w.heap.size) (by omega) 0
  have z1 := HU1.out.ownGe (g := w.heap.size) (by omega) 1
  have z2 := HU1.out.ownGe (g := w.heap.size) (by omega) 2
  have z3 := HU1.out.ownGe (g := w.heap.size) (by omega) 3
  have z4 := HU1.out.ownGe (g := w.heap.size) (by omega) 4
  have z5 := HU1.out.ownGe (g := w.heap.size) (by omega) 5
  clear hu hu2 hv
  go_wp2_with fail
  refine bodyPost_ret (v := .agg #[.int .i64 n, .int .i64 1, .int .i64 n, .int .i64 1, .int .i64 n, .int .i64 1]) (by simp [results, Tryz.results26, go_sem, r0, r1, r2, r3, r4, r5]) rfl ⟨rfl, ?_⟩
  exact HU1.out.set6 (by omega)

set_option maxHeartbeats 8000000 in
set_option maxRecDepth 100000 in
theorem distance_up (n k : Nat) (A : Option Addr) (L : List It) (hn : n ≤ 1000000) (hs : smallI L) (w : World) (hS : Sl w A n L) :
    Calls Tryz.prog 16 #[.slice A n k] w fun e w' => e = .returned (.int .i64 (grV L - leV L)) ∧ Up w w' := by
  have K1 := Lib.hid (fun W (h : Sl W A n L) => least_up n k A L hn W h)
  have K2 := Lib.hid (fun W (h : Sl W A n L) => greatest_up n k A L hn W h)
  rw [leE_V] at K1
  rw [grE_V] at K2
  have HS := Lib.hid hS
  obtain ⟨x1, x2, x3, x4⟩ := ext_in hs
  generalize leV L = x at *
  generalize grV L = y at *
  clear hS
  unfold got at K1 K2
  go_enter Tryz.func16, Tryz.ntmps16
  go_wp2_with fail
  refine (K1.out _ HS.out).mono ?_
  rintro e w1 ⟨rfl, hu⟩
  go_wp2_with fail
  refine (K2.out _ (HS.out.up hu)).mono ?_
  rintro e w2 ⟨rfl, hu2⟩
  have HU := Lib.hid (hu.trans hu2)
  clear hu hu2
  go_wp2_with fail
  go_ret
  exact ⟨rfl, HU.out⟩
end Go.Proofs.YtflahclphdlolaaGreat
