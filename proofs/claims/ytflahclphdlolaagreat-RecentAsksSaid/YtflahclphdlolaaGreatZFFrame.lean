/- How an argument that is a stored list or a question is opened. -/
import Derived.Test.YtflahclphdlolaaGreatZFBase
import Derived.Test.YtflahclphdlolaaGreatZG0a
import Derived.Test.YtflahclphdlolaaGreatZG2a
namespace Go.Proofs.YtflahclphdlolaaGreat
open Go.ChangeShapes Go.WideShapes Go.ChangeAt Go.RowKit Go.Joins Go.Deep

theorem recent_cells : Tryz.prog.cellsOf 24 = 4 := by kernel_rfl
theorem query_cells : Tryz.prog.cellsOf 26 = 3 := by kernel_rfl
section
variable {H : Type} {enc : TypeId × Value → H} {w : World} {base : Nat} {spare : Nat → Bool} {held : Bool}
set_option maxRecDepth 100000 in
theorem open_recent {r : Reach} {b0 : Nat} {v : Value} {d : DataW H} {p : List MemPlace} (hv : Value.okWide Tryz.prog w r b0 24 v) (h : DataW.Trod enc Tryz.prog w 0 (fun _ => true) held 24 v d p) :
    ∃ (c h l : Int) (n k : Nat) (A : Option Addr) (L : List It), v = .agg #[.int .i64 c, .int .i64 h, .int .i64 l, .slice A n k] ∧ n ≤ k ∧ Sl w A n L := by
  obtain ⟨v0, v1, v2, v3, y0, y1, y2, y3, n, rfl, _, _, h0, h1, h2, h3⟩ := open_agg4 Tryz.underlying24 (by kernel_rfl) recent_cells hv h
  obtain ⟨c, ec, _, _⟩ := DataW.trod_int Tryz.underlying2 h0
  obtain ⟨h', eh, _, _⟩ := DataW.trod_int Tryz.underlying3 h1
  obtain ⟨l, el, _, _⟩ := DataW.trod_int Tryz.underlying2 h2
  obtain ⟨A, len, cap, L, es, hl, hS⟩ := cells_items h3
  simp at ec eh el es
  subst ec eh el es
  exact ⟨c, h', l, len, cap, A, L, rfl, hl, hS⟩
set_option maxRecDepth 100000 in
theorem open_query {r : Reach} {b0 : Nat} {v : Value} {d : DataW H} {p : List MemPlace} (hv : Value.okWide Tryz.prog w r b0 26 v) (h : DataW.Trod enc Tryz.prog w 0 (fun _ => true) held 26 v d p) :
    ∃ (x0 x1 x2 : Int), v = .agg #[.int .i64 x0, .int .i64 x1, .int .i64 x2] ∧ In x1 ∧ In x2 := by
  obtain ⟨v0, v1, v2, y0, y1, y2, n, rfl, _, _, h0, h1, h2⟩ := open_agg3 Tryz.underlying26 (by kernel_rfl) query_cells hv h
  obtain ⟨c, ec, _, _⟩ := DataW.trod_int Tryz.underlying3 h0
  obtain ⟨h', eh, _, fh⟩ := DataW.trod_int Tryz.underlying2 h1
  obtain ⟨l, el, _, fl⟩ := DataW.trod_int Tryz.underlying2 h2
  simp at ec eh el
  subst ec eh el
  exact ⟨c, h', l, rfl, in_of_wf fh, in_of_wf fl⟩
end
end Go.Proofs.YtflahclphdlolaaGreat
