/- What awake of the laws of layer 5 returns. -/
import Derived.Test.YtjedcpfipebncaaGPush
import Derived.Test.YtjedcpfipebncaaGPushF
namespace Go.Proofs.Ytjedcpfipebncaa
open Go.RowKit

theorem awk_new (W : World) : Calls Try.prog 10 #[.int .i64 2] W fun e w' => ∃ g, e = .returned (.tuple #[.agg #[.int .i64 2, .int .i64 0, .int .i64 0, .slice (some ⟨g, 0, none⟩) 2 2], .int .i64 0]) ∧ W.heap.size ≤ g ∧ Bi w' g (ofL 2 0 []) ∧ Up W w' :=
  new_yes 2 (by omega) (by omega) W
theorem awk_back (g : Nat) (W : World) (hB : Bi W g (ofL 2 0 [])) : Calls Try.prog 20 #[.agg #[.int .i64 2, .int .i64 0, .int .i64 0, .slice (some ⟨g, 0, none⟩) 2 2], .agg #[.int .i64 1, .int .i64 0]] W fun e w' => ∃ g, e = .returned (.tuple #[.agg #[.int .i64 2, .int .i64 0, .int .i64 1, .slice (some ⟨g, 0, none⟩) 2 2], .int .i64 0]) ∧ W.heap.size ≤ g ∧ Bi w' g (ofL 2 0 [(1, 0)]) ∧ Up W w' :=
  pushBack_good 2 0 2 (some ⟨g, 0, none⟩) [] 1 0 (by omega) (by omega) (by omega) (by simp) (by simp) W (hB.sl (ofL_length _ _ _))
theorem awk_front (g : Nat) (W : World) (hB : Bi W g (ofL 2 0 [(1, 0)])) : Calls Try.prog 21 #[.agg #[.int .i64 2, .int .i64 0, .int .i64 1, .slice (some ⟨g, 0, none⟩) 2 2], .agg #[.int .i64 2, .int .i64 0]] W fun e w' => ∃ g, e = .returned (.tuple #[.agg #[.int .i64 2, .int .i64 1, .int .i64 2, .slice (some ⟨g, 0, none⟩) 2 2], .int .i64 0]) ∧ W.heap.size ≤ g ∧ Bi w' g (ofL 2 1 [(2, 0), (1, 0)]) ∧ Up W w' :=
  pushFront_good 2 0 2 (some ⟨g, 0, none⟩) [(1, 0)] 2 0 (by omega) (by omega) (by omega) (by simp) (by simp) W (hB.sl (ofL_length _ _ _))

set_option maxHeartbeats 4000000 in
set_option maxRecDepth 100000 in
theorem awake_up (w : World) : Calls Try.prog 12 #[] w fun e w' => e = .returned (.bool true) ∧ Up w w' := by
  have K1 := Lib.hid awk_new
  have K2 := Lib.hid awk_back
  have K3 := Lib.hid awk_front
  go_enter Try.func12, Try.ntmps12
  go_wp2_with (first
    | (go_at_call 10; (with_reducible refine (K1.out _).mono ?_); rintro e w1 ⟨g, rfl, hg, hb, hu⟩; have HU1 := Lib.hid hu; have HB1 := Lib.hid hb; clear hu hb)
    | (go_at_call 20; (with_reducible refine (K2.out g _ (HB1.out.up ((Up.refl _).alloc _ _))).mono ?_); rintro e w2 ⟨g2, rfl, hg2, hb, hu⟩; have HU2 := Lib.hid ((HU1.out.alloc _ _).trans hu); have HB2 := Lib.hid hb;
        have a0 := hu.keep w1.heap.size 0 (.int .i64 2) (by simp [go_sem]); have a1 := hu.keep w1.heap.size 1 (.int .i64 0) (by simp [go_sem]); have a2 := hu.keep w1.heap.size 2 (.int .i64 0) (by simp [go_sem]); have a3 := hu.keep w1.heap.size 3 (.slice (some ⟨g, 0, none⟩) 2 2) (by simp [go_sem]);
        have hw1 := HU1.out.size; have f0 := HU2.out.ownGe (g := w1.heap.size) hw1 0; have f1 := HU2.out.ownGe (g := w1.heap.size) hw1 1; have f2 := HU2.out.ownGe (g := w1.heap.size) hw1 2; have f3 := HU2.out.ownGe (g := w1.heap.size) hw1 3; (try simp at hg2); clear hu hb))
  have HU3 := Lib.hid (HU2.out.set4 (p := w1.heap.size) (v0 := .int .i64 2) (v1 := .int .i64 0) (v2 := .int .i64 1) (v3 := .slice (some ⟨g2, 0, none⟩) 2 2) hw1)
  obtain ⟨w3, hw3⟩ : ∃ w3, w3 = (((w2.setCell ⟨w1.heap.size, 0, none⟩ (.int .i64 2)).setCell ⟨w1.heap.size, 1, none⟩ (.int .i64 0)).setCell ⟨w1.heap.size, 2, none⟩ (.int .i64 1)).setCell ⟨w1.heap.size, 3, none⟩ (.slice (some ⟨g2, 0, none⟩) 2 2) := ⟨_, rfl⟩
  have HR3 : Hid (Rt w3 w1.heap.size g2 2 0 1 (ofL 2 0 [(1, 0)])) := Lib.hid (by rw [hw3]; exact Rt.of_store (c := 2) (h := 0) (l := 1) a0 a1 a2 a3 HB2.out (fun o => HU2.out.ownGe hw1 o) (show w1.heap.size ≠ g2 by omega) (ofL_length _ _ _))
  rw [← hw3] at HU3 ⊢
  clear hw3 a0 a1 a2 a3 f0 f1 f2 f3
  have D0 : w3.cell? ⟨w1.heap.size, 0, none⟩ = some (.int .i64 2) := HR3.out.c0
  have D1 : w3.cell? ⟨w1.heap.size, 1, none⟩ = some (.int .i64 0) := HR3.out.c1
  have D2 : w3.cell? ⟨w1.heap.size, 2, none⟩ = some (.int .i64 1) := HR3.out.c2
  have D3 : w3.cell? ⟨w1.heap.size, 3, none⟩ = some (.slice (some ⟨g2, 0, none⟩) 2 2) := HR3.out.c3
  (with_reducible refine (K3.out g2 _ HR3.out.bi).mono ?_)
  rintro e w4 ⟨g4, rfl, hg4, hb, hu⟩
  have HU4 := Lib.hid (HU3.out.trans hu)
  have a0 := hu.keep _ _ _ D0
  have a1 := hu.keep _ _ _ D1
  have a2 := hu.keep _ _ _ D2
  have a3 := hu.keep _ _ _ D3
  have f0 := HU4.out.ownGe (g := w1.heap.size) hw1 0
  have f1 := HU4.out.ownGe (g := w1.heap.size) hw1 1
  have f2 := HU4.out.ownGe (g := w1.heap.size) hw1 2
  have f3 := HU4.out.ownGe (g := w1.heap.size) hw1 3
  clear hu hb D0 D1 D2 D3
  go_wp2_with fail
  go_ret
  exact ⟨rfl, HU4.out.set4 hw1⟩
end Go.Proofs.Ytjedcpfipebncaa
