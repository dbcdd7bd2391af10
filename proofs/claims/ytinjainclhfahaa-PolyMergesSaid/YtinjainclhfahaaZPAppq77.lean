/- Rows of wide numbers of the call's own: append, and make. -/
import Derived.Test.YtinjainclhfahaaRows
import Derived.Test.YtinjainclhfahaaZKRowq59
namespace Go.Proofs.Ytinjainclhfahaa
open Go.RowKit
set_option linter.unusedVariables false

/-- One number that has just been made. -/
theorem oneW_row (w : World) (x : Int) : SG cW (w.alloc (.cells (cW x).toArray 35)) (some ⟨w.heap.size, 0, none⟩) 1 [x] := by
  refine ⟨rfl, fun _ => ⟨w.heap.size, 0, rfl, fun j u hj => ?_⟩⟩
  rw [Nat.zero_add, Blk.cell (Blk.new w _ _)]
  simpa [flG] using hj
theorem append1W (w0 w : World) (A : Option Addr) (n k : Nat) (L : List Int) (x : Int) (hO : OwW w0 w (.slice A n k) n L) (hu : Up w0 w) (hn : n + 1 ≤ 1000000) :
    ∃ A' k' w', (Builtin.append_ #[22, 22] 22 #[.slice A n k, .slice (some ⟨w.heap.size, 0, none⟩) 1 1]).run Try.prog (w.alloc (.cells #[.int .u64 (hiZ x), .int .u64 (loZ x)] 35)) = .ok (.slice A' (n + 1) k') w' ∧ OwW w0 w' (.slice A' (n + 1) k') (n + 1) (L ++ [x]) ∧ Up w0 w' :=
  appendW 22 w0 (w.alloc (.cells #[.int .u64 (hiZ x), .int .u64 (loZ x)] 35)) (.slice A n k) n L ⟨hO.1, hO.2.of_up ((Up.refl _).alloc _ _)⟩ (hu.alloc _ _) (some ⟨w.heap.size, 0, none⟩) 1 1 [x] (oneW_row w x) hn
end Go.Proofs.Ytinjainclhfahaa
