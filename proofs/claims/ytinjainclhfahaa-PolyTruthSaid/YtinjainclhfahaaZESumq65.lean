/- What sumOf of package exact returns, for any closure whose answers are known. -/
import Derived.Test.YtinjainclhfahaaRows
import Derived.Test.YtinjainclhfahaaZESumq64
import Derived.Test.YtinjainclhfahaaZGBaseq14
import Derived.Test.YtinjainclhfahaaZNumq21
namespace Go.Proofs.Ytinjainclhfahaa
open Go.RowKit

/-- The sum of terms, as long as each has one and all sums fit. -/
def accO (f : It → Int) (b : It → Bool) : Int → List It → Option Int
  | s, [] => some s
  | s, x :: L => if (b x && fits2 (s + f x)) = true then accO f b (s + f x) L else none
def gotW (o : Option Int) : Ending := got2 (o.getD 0) o.isSome
theorem drop_consI {L : List It} {i : Nat} (h : i < L.length) : L.drop i = L.getD i (0, 0) :: L.drop (i + 1) := by
  rw [List.drop_eq_getElem_cons h]; simp [List.getD, h]
theorem accO_end {f : It → Int} {b : It → Bool} {L : List It} {i : Nat} {s : Int} (h : L.length ≤ i) : accO f b s (L.drop i) = some s := by rw [List.drop_eq_nil_of_le h]; rfl
theorem accO_next {f : It → Int} {b : It → Bool} {L : List It} {i : Nat} {s : Int} (h : i < L.length) (hb : b (L.getD i (0, 0)) = true) (hf : fits2 (s + f (L.getD i (0, 0))) = true) : accO f b s (L.drop i) = accO f b (s + f (L.getD i (0, 0))) (L.drop (i + 1)) := by
  rw [drop_consI h, accO, hb, hf]; rfl
theorem accO_no {f : It → Int} {b : It → Bool} {L : List It} {i : Nat} {s : Int} (h : i < L.length) (hb : b (L.getD i (0, 0)) = false) : accO f b s (L.drop i) = none := by
  rw [drop_consI h, accO, hb]; rfl
theorem accO_big {f : It → Int} {b : It → Bool} {L : List It} {i : Nat} {s : Int} (h : i < L.length) (hf : fits2 (s + f (L.getD i (0, 0))) = false) : accO f b s (L.drop i) = none := by
  rw [drop_consI h, accO, hf, Bool.and_false]; rfl

end Go.Proofs.Ytinjainclhfahaa
