/- slices.Delete of one bucket: in its place. -/
import Derived.Test.YtnhekeohbnmodaaHRow
namespace Go.Proofs.Ytnhekeohbnmodaa
open Go.RowKit

set_option maxHeartbeats 4000000 in
set_option maxRecDepth 100000 in
theorem delete_ro (g k n i : Nat) (L : List It) (w : World) (h : Ro w g k n L) (hi : i + 1 < n) (hn : n ≤ 1000000) :
    Calls Try.prog 66 #[.slice (some ⟨g, 0, none⟩) n k, .int .i64 i, .int .i64 ((i : Int) + 1)] w fun e w' => e = .returned (.slice (some ⟨g, 0, none⟩) (n - 1) k) ∧ Ro w' g k (n - 1) (L.take i ++ L.drop (i + 1)) ∧ Cp w w' g := by
  have hk := h.le
  obtain ⟨m, rfl⟩ : ∃ m, n = m + 1 := ⟨n - 1, by omega⟩
  rw [Nat.add_sub_cancel] at *
  have hs3 := fun W => slice3B_run (some ⟨g, 0, none⟩) (m + 1) k i (by omega) (by omega) W
  rw [Int.natCast_add, Int.natCast_one] at hs3
  have hsT := fun W => sliceTo_run g (m + 1) k i (by omega) W
  have hsF := fun W => sliceFrom_run (some ⟨g, 0, none⟩) (m + 1) k (i + 1) (by omega) W
  rw [if_neg (show ¬ k = i + 1 by omega), Option.map_some, add_at, Nat.zero_add, Int.natCast_add, Int.natCast_one] at hsF
  have hsM := fun W => sliceMid_run g m k m (m + 1) (by omega) (by omega) W (by omega)
  rw [Int.natCast_add, Int.natCast_one, show m + 1 - m = 1 by omega] at hsM
  obtain ⟨w1, hr1, hR1, hc1⟩ := delete_append 22 g k (m + 1) i L w.drew h hi
  rw [Nat.add_sub_cancel] at hR1
  rw [Nat.add_sub_cancel, show m + 1 - (i + 1) = m - i by omega] at hr1
  obtain ⟨w2, hr2, hR2, hc2⟩ := clear_run 0 g k m 1 (k - m) _ w1 hR1 (by omega) (by omega)
  have HR1 := Lib.hid hr1
  have HC : Hid (Cp w w2 g) := Lib.hid (Cp.trans ⟨fun _ h hg => hc1.up _ h.drew hg, hc1.far, hc1.size, hc1.fr⟩ hc2)
  clear hr1 hc1 hc2 hR1
  have HR := Lib.hid h
  clear h
  have t1 : ((i : Int) == (i : Int) + 1) = false := by simp; omega
  go_enter Try.func66, Try.ntmps66
  go_wp2_with fail
  go_region_held3 (fun _ => True) (exact trivial) (first | ((with_reducible refine step_append_run rfl (.tmp 22) (.tmp 25) _ rfl _ _ ?_ ?_ _ _ HR1.out ?_); rfl; rfl))
  go_wp2_with fail
  go_ret
  exact ⟨rfl, hR2, HC.out⟩
end Go.Proofs.Ytnhekeohbnmodaa
