/- How arguments that are marks or states of package smooth are opened. -/
import Derived.Test.YtafkoddgefcpnaaRows
import Derived.Test.YtafkoddgefcpnaaZKFrameq145
namespace Go.Proofs.Ytafkoddgefcpnaa
open Go.ChangeShapes Go.WideShapes Go.ChangeAt Go.RowKit Go.Joins Go.Deep
set_option linter.unusedVariables false

section
variable {H : Type} {enc : TypeId × Value → H} {w : World} {base : Nat} {spare : Nat → Bool} {held : Bool}
set_option maxRecDepth 100000 in
theorem open_mark {r : Reach} {b0 : Nat} {v : Value} {d : DataW H} {p : List MemPlace} (hv : Value.okWide Try.prog w r b0 23 v) (h : DataW.Trod enc Try.prog w 0 (fun _ => true) held 23 v d p) :
    ∃ (z0 z1 z2 z3 z4 z5 z6 : Int), v = .agg #[.int .i64 z0, .int .i64 z1, .int .i64 z2, .int .i64 z3, .int .i64 z4, .int .i64 z5, .int .i64 z6] ∧ In z0 ∧ In z1 ∧ In z2 ∧ In z3 ∧ In z4 ∧ In z5 ∧ In z6 := by
  obtain ⟨v0, v1, v2, v3, v4, v5, v6, y0, y1, y2, y3, y4, y5, y6, n, rfl, h0, h1, h2, h3, h4, h5, h6⟩ := open_agg7 Try.underlying23 (by kernel_rfl) mark_cells hv h
  obtain ⟨z0, e0, _, g0⟩ := DataW.trod_int Try.underlying2 h0
  obtain ⟨z1, e1, _, g1⟩ := DataW.trod_int Try.underlying2 h1
  obtain ⟨z2, e2, _, g2⟩ := DataW.trod_int Try.underlying2 h2
  obtain ⟨z3, e3, _, g3⟩ := DataW.trod_int Try.underlying2 h3
  obtain ⟨z4, e4, _, g4⟩ := DataW.trod_int Try.underlying2 h4
  obtain ⟨z5, e5, _, g5⟩ := DataW.trod_int Try.underlying2 h5
  obtain ⟨z6, e6, _, g6⟩ := DataW.trod_int Try.underlying2 h6
  simp at e0 e1 e2 e3 e4 e5 e6
  subst e0 e1 e2 e3 e4 e5 e6
  exact ⟨z0, z1, z2, z3, z4, z5, z6, rfl, in_of_wf g0, in_of_wf g1, in_of_wf g2, in_of_wf g3, in_of_wf g4, in_of_wf g5, in_of_wf g6⟩
end
end Go.Proofs.Ytafkoddgefcpnaa
