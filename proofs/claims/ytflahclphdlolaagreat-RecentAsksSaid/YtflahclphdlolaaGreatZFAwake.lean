/- What awake of the laws of package recent returns. -/
import Derived.Test.YtflahclphdlolaaGreatZFAdd
import Derived.Test.YtflahclphdlolaaGreatZFBase
import Derived.Test.YtflahclphdlolaaGreatZG0a
import Derived.Test.YtflahclphdlolaaGreatZG2a
import Derived.Test.YtflahclphdlolaaGreatZGLaw
namespace Go.Proofs.YtflahclphdlolaaGreat
open Go.RowKit

theorem awk9_new (W : World) : Calls Tryz.prog 9 #[.int .i64 3, .int .i64 2, .int .i64 0] W fun e w' => e = .returned (.tuple #[.agg #[.int .i64 3, .int .i64 2, .int .i64 0, .slice none 0 0], .int .i64 0]) ∧ Up W w' :=
  new9_yes 3 2 0 (by decide) W
theorem awk9_add (W : World) : Calls Tryz.prog 10 #[.agg #[.int .i64 3, .int .i64 2, .int .i64 0, .slice none 0 0], .int .i64 5] W fun e w' => ∃ g' k', e = .returned (.tuple #[.agg #[.int .i64 3, .int .i64 2, .int .i64 0, .slice (some ⟨g', 0, none⟩) 1 k'], .int .i64 0]) ∧ Up W w' :=
  (add9_good 3 2 0 5 0 0 none [] (Nat.le_refl _) (by decide) (by decide) (by decide) W Sl.none_).mono (fun _ _ ⟨g', k', h1, _, _, _, h4⟩ => ⟨g', k', h1, h4⟩)

set_option maxHeartbeats 4000000 in
set_option maxRecDepth 100000 in
theorem awake9_up (w : World) : Calls Tryz.prog 5 #[] w fun e w' => e = .returned (.bool true) ∧ Up w w' := by
  have K1 := Lib.hid awk9_new
  have K2 := Lib.hid awk9_add
  go_enter Tryz.func5, Tryz.ntmps5
  go_wp2_with (first
    | (go_at_call 9; (with_reducible refine (K1.out _).mono ?_); rintro e w1 ⟨rfl, hu⟩; have HU1 := Lib.hid hu; clear hu)
    | (go_at_call 10; (with_reducible refine (K2.out _).mono ?_); rintro e w2 ⟨g2, k2, rfl, hu⟩; have HU2 := Lib.hid ((HU1.out.alloc _ _).trans hu);
        have a0 := hu.keep w1.heap.size 0 (.int .i64 3) (by simp [go_sem]); have a1 := hu.keep w1.heap.size 1 (.int .i64 2) (by simp [go_sem]); have a2 := hu.keep w1.heap.size 2 (.int .i64 0) (by simp [go_sem]); have a3 := hu.keep w1.heap.size 3 (.slice none 0 0) (by simp [go_sem]);
        have hw1 := HU1.out.size; have f0 := HU2.out.ownGe (g := w1.heap.size) hw1 0; have f1 := HU2.out.ownGe (g := w1.heap.size) hw1 1; have f2 := HU2.out.ownGe (g := w1.heap.size) hw1 2; have f3 := HU2.out.ownGe (g := w1.heap.size) hw1 3; clear hu))
  go_ret
  exact ⟨rfl, HU2.out.set4 hw1⟩
end Go.Proofs.YtflahclphdlolaaGreat
