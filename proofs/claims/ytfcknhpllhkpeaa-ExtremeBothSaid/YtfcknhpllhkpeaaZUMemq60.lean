/- Results of package extreme with a row of items; rows that are cut; an empty row with room; a copy of a row. -/
import Derived.Test.YtfcknhpllhkpeaaRows
import Derived.Test.YtfcknhpllhkpeaaZUMemq58
import Derived.Test.YtfcknhpllhkpeaaZUStq48
namespace Go.Proofs.Ytfcknhpllhkpeaa
open Go.RowKit
set_option linter.unusedVariables false

theorem makeI0_run (c : Nat) (hc : c ≤ 500000) (w : World) : ∃ cs : Array Value, cs.size = c * 2 ∧ (Instr.makeSlice 22 (.int .i64 0) (.int .i64 (c : Int))).run Try.prog w = .ok (.slice (some ⟨w.heap.size, 0, none⟩) 0 c) (w.alloc (.cells cs 41)) := by
  obtain ⟨i, hi, hz, hs, hb⟩ := info_parts item_info
  have := run_make (P := Try.prog) w 22 41 i _ Try.underlying22 hi hz .i64 .i64 0 (c : Int) (by omega) (by omega) (by rw [hb]; omega) (by omega)
  refine ⟨_, ?_, this⟩
  rw [hs]
  simp [madeCells]
theorem own_room17 {w0 w : World} {c g : Nat} (cs : Array Value) (hc : c ≤ 500000) (hs : cs.size = c * 2) (hg : g = w.heap.size) (h : w0.heap.size ≤ w.heap.size) : Own w0 (w.alloc (.cells cs 41)) (.slice (some ⟨g, 0, none⟩) 0 c) 0 [] := by
  subst hg
  exact ⟨rfl, Or.inr ⟨w.heap.size, c, cs, rfl, h, Blk.new w _ _, Nat.zero_le _, by simp only [maxLen]; omega, hs, by simp [fl]⟩⟩
end Go.Proofs.Ytfcknhpllhkpeaa
