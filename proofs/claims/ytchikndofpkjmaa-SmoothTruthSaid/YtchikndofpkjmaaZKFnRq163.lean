/- Rows of marks: Include and Drop of the reference. -/
import Derived.Test.YtchikndofpkjmaaRows
import Derived.Test.YtchikndofpkjmaaZKFnq161
import Derived.Test.YtchikndofpkjmaaZKMemq97
namespace Go.Proofs.Ytchikndofpkjmaa
open Go.RowKit
set_option linter.unusedVariables false

theorem drL_two {lv : Mrk → Bool} {a b : Mrk} {R : List Mrk} (h : lv b = false) : drL lv (a :: b :: R) = drL lv (b :: R) := by
  show (if lv b = true then a :: b :: R else drL lv (b :: R)) = _
  rw [h]; rfl
theorem drL_stop {lv : Mrk → Bool} {a b : Mrk} {R : List Mrk} (h : lv b = true) : drL lv (a :: b :: R) = a :: b :: R := by
  show (if lv b = true then a :: b :: R else drL lv (b :: R)) = _
  rw [h]; rfl
theorem drL_one {lv : Mrk → Bool} {a : Mrk} : drL lv [a] = if lv a = true then [a] else [] := rfl
theorem list_two {R : List Mrk} {m : Nat} (hl : R.length = m) (h : 1 < m) : ∃ a T, R = a :: R.getD 1 mk0 :: T ∧ R.drop 1 = R.getD 1 mk0 :: T := by
  match R, hl with
  | [], hl => simp at hl; omega
  | [a], hl => simp at hl; omega
  | a :: b :: T, _ => exact ⟨a, T, rfl, rfl⟩
theorem list_one {R : List Mrk} (hl : R.length = 1) : R = [R.getD 0 mk0] := by
  match R, hl with
  | [a], _ => rfl
theorem sliceM_run (A : Option Addr) (n k : Nat) (h : 1 ≤ n) (w : World) : (Instr.slice 24 (.slice A n k) (some (.int .i64 1)) none none).run Try.prog w = .ok (.slice (if k = 1 then A else A.map (·.add (1 * 7))) (n - 1) (k - 1)) w := by
  have qs := Try.sizeOf23
  have ht := Try.underlying24
  have h1 : (1 : Int) ≤ n := by omega
  simp [Instr.slice, run_underlying ht, Instr.sliceBounds, run_sliceBound, qs, h1]

end Go.Proofs.Ytchikndofpkjmaa
