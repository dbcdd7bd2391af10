/- What Live of package exact and of its reference return. -/
import Derived.Test.YtflahclphdlolaaGreatZCClock
import Derived.Test.YtflahclphdlolaaGreatZELive
import Derived.Test.YtflahclphdlolaaGreatZESq
import Derived.Test.YtflahclphdlolaaGreatZG0a
import Derived.Test.YtflahclphdlolaaGreatZG2a
import Derived.Test.YtflahclphdlolaaGreatZGLaw
namespace Go.Proofs.YtflahclphdlolaaGreat
open Go.RowKit

/-- The items in the window. -/
def livL (L : List It) (now v : Int) : List It := L.filter (fun x => liveB now v x.1)
def livE (L : List It) (now v : Int) : List It := if (valB L now && winB v) = true then livL L now v else []
theorem livL_take {L : List It} {i : Nat} (hi : i < L.length) (now v : Int) : livL (L.take (i + 1)) now v = livL (L.take i) now v ++ (if liveB now v (L.getD i (0, 0)).1 = true then [L.getD i (0, 0)] else []) := by
  unfold livL; rw [take_next hi, List.filter_append]
  by_cases h : liveB now v (L.getD i (0, 0)).1 = true
  · rw [if_pos h, List.filter_cons, if_pos h]; rfl
  · rw [if_neg h, List.filter_cons, if_neg h]; rfl
theorem livL_no {L : List It} {now v : Int} (h : winB v = false) : livL L now v = [] := by
  unfold livL; rw [List.filter_eq_nil_iff]; intro x _; unfold liveB; rw [h]; simp
theorem livL_len (L : List It) (now v : Int) : (livL L now v).length ≤ L.length := List.length_filter_le _ _
/-- append of one item, in the world that stands behind its own row of one item. -/
theorem append1I_run (ty : TypeId) (w0 w : World) (A : Option Addr) (n k : Nat) (L : List It) (p0 p1 : Int) (hO : Own w0 w (.slice A n k) n L) (hu : Up w0 w) (hlen : n + 1 ≤ 1000000) :
    ∃ A' k' w', (Builtin.append_ #[22, 22] ty #[.slice A n k, .slice (some ⟨w.heap.size, 0, none⟩) 1 1]).run Tryz.prog (w.alloc (.cells #[.int .i64 p0, .int .i64 p1] 70)) = .ok (.slice A' (n + 1) k') w' ∧ Own w0 w' (.slice A' (n + 1) k') (n + 1) (L ++ [(p0, p1)]) ∧ Up w0 w' := by
  obtain ⟨v', w', hr, h1, h2⟩ := append_run ty w0 (w.alloc (.cells #[.int .i64 p0, .int .i64 p1] 70)) (.slice A n k) n L (hO.of_up ((Up.refl _).alloc _ _)) (hu.alloc _ _) (some ⟨w.heap.size, 0, none⟩) 1 1 [(p0, p1)] (one_new w p0 p1) hlen
  obtain ⟨A', k', rfl, _, _⟩ := h1.sl
  exact ⟨A', k', w', hr, h1, h2⟩

end Go.Proofs.YtflahclphdlolaaGreat
