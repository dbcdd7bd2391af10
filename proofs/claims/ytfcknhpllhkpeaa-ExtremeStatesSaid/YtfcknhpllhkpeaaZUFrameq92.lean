/- How an argument that is a state of package extreme is opened. -/
import Derived.Test.YtfcknhpllhkpeaaRows
import Derived.Test.YtfcknhpllhkpeaaZIFrameq91
namespace Go.Proofs.Ytfcknhpllhkpeaa
open Go.ChangeShapes Go.WideShapes Go.ChangeAt Go.RowKit Go.Joins Go.Deep

theorem state17_cells : Try.prog.cellsOf 24 = 5 := by kernel_rfl
section
variable {H : Type} {enc : TypeId × Value → H} {w : World} {base : Nat} {spare : Nat → Bool} {held : Bool}
set_option maxRecDepth 100000 in
theorem open_state17 {r : Reach} {b0 : Nat} {v : Value} {d : DataW H} {p : List MemPlace} (hv : Value.okWide Try.prog w r b0 24 v) (h : DataW.Trod enc Try.prog w 0 (fun _ => true) held 24 v d p) :
    ∃ (a0 : Bool) (a1 a2 a3 : Int) (n k : Nat) (A : Option Addr) (L : List It), v = .agg #[.bool a0, .int .i64 a1, .int .i64 a2, .int .i64 a3, .slice A n k] ∧ n ≤ k ∧ Sl w A n L := by
  obtain ⟨v0, v1, v2, v3, v4, y0, y1, y2, y3, y4, n, rfl, h0, h1, h2, h3, h4⟩ := open_agg5 Try.underlying24 (by kernel_rfl) state17_cells hv h
  obtain ⟨a0, e0, _⟩ := DataW.trod_bool Try.underlying4 h0
  obtain ⟨a1, e1, _, _⟩ := DataW.trod_int Try.underlying2 h1
  obtain ⟨a2, e2, _, _⟩ := DataW.trod_int Try.underlying3 h2
  obtain ⟨a3, e3, _, _⟩ := DataW.trod_int Try.underlying2 h3
  obtain ⟨A, len, cap, L, es, hl, hS⟩ := cells_items h4
  simp at e0 e1 e2 e3 es
  subst e0 e1 e2 e3 es
  exact ⟨a0, a1, a2, a3, len, cap, A, L, rfl, hl, hS⟩
end
end Go.Proofs.Ytfcknhpllhkpeaa
