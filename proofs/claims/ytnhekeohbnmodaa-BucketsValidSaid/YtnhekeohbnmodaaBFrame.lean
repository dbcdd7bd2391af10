/- How an argument that is an answer with bounds is opened to its six numbers, and shut. -/
import Derived.Test.YtnhekeohbnmodaaRows
import Derived.WalkKit
import Derived.ProofKit
import Derived.OpenShut
import Derived.Lib.SmallJoins
import Derived.Deep.Strs
namespace Go.Proofs.Ytnhekeohbnmodaa
open Go.ChangeShapes Go.WideShapes Go.ChangeAt Go.RowKit Go.Joins Go.Deep

theorem array6 {α : Type} {cs : Array α} (h : cs.size = 6) : ∃ c0 c1 c2 c3 c4 c5, cs = #[c0, c1, c2, c3, c4, c5] := by
  obtain ⟨l⟩ := cs
  match l, h with
  | [c0, c1, c2, c3, c4, c5], _ => exact ⟨c0, c1, c2, c3, c4, c5, rfl⟩
theorem bounds_cells : Try.prog.cellsOf 43 = 6 := by kernel_rfl
theorem ratio_cells : Try.prog.cellsOf 41 = 2 := by kernel_rfl
theorem int64_cells : Try.prog.cellsOf 2 = 1 := by kernel_rfl
section
variable {H : Type} {enc : TypeId × Value → H} {w : World} {base : Nat} {spare : Nat → Bool} {held : Bool}
set_option maxRecDepth 100000 in
theorem ratio_open {n : Nat} {c0 c1 : Value} {y : DataW H × List MemPlace} (h : DataW.trod enc Try.prog w base spare held n 41 [c0, c1] = some y) :
    ∃ a b : Int, c0 = .int .i64 a ∧ c1 = .int .i64 b ∧ y = (.agg [.lit (.int .i64 a), .lit (.int .i64 b)], []) ∧ (Lit.int .i64 a).wf = true ∧ (Lit.int .i64 b).wf = true := by
  obtain ⟨u0, u1, m, e, _, i0, i1⟩ := trod_struct2 Try.underlying41 h
  simp only [int64_cells, List.drop_zero, List.take_succ_cons, List.take_zero, List.drop_succ_cons] at i0 i1
  obtain ⟨a, ea, rfl, wa⟩ := DataW.trod_int Try.underlying2 i0
  obtain ⟨b, eb, rfl, wb⟩ := DataW.trod_int Try.underlying2 i1
  simp at ea eb
  exact ⟨a, b, ea, eb, by simpa using e, wa, wb⟩
set_option maxRecDepth 100000 in
theorem ratio_shut {a b : Int} (wa : (Lit.int .i64 a).wf = true) (wb : (Lit.int .i64 b).wf = true) :
    DataW.trod enc Try.prog w base spare held 2 41 [.int .i64 a, .int .i64 b] = some (.agg [.lit (.int .i64 a), .lit (.int .i64 b)], []) := by
  have ts := trod_struct2_mk (enc := enc) (w := w) (base := base) (spare := spare) (held := held) (n := 1) (cs := [.int .i64 a, .int .i64 b]) (y0 := (.lit (.int .i64 a), [])) (y1 := (.lit (.int .i64 b), [])) Try.underlying41 (by simp [ratio_cells])
    (by simp [int64_cells, DataW.trod, Try.underlying2, wa]) (by simp [int64_cells, DataW.trod, Try.underlying2, wb])
  simpa using ts
set_option maxRecDepth 100000 in
theorem open_bounds {r : Reach} {b0 : Nat} {v : Value} {d : DataW H} {p : List MemPlace} (hv : Value.okWide Try.prog w r b0 43 v) (h : DataW.Trod enc Try.prog w base spare held 43 v d p) :
    ∃ n1 d1 n2 d2 n3 d3 : Int, v = .agg #[.int .i64 n1, .int .i64 d1, .int .i64 n2, .int .i64 d2, .int .i64 n3, .int .i64 d3] ∧
      d = .agg [.agg [.lit (.int .i64 n1), .lit (.int .i64 d1)], .agg [.lit (.int .i64 n2), .lit (.int .i64 d2)], .agg [.lit (.int .i64 n3), .lit (.int .i64 d3)]] ∧ p = [] ∧
      (Lit.int .i64 n1).wf = true ∧ (Lit.int .i64 d1).wf = true ∧ (Lit.int .i64 n2).wf = true ∧ (Lit.int .i64 d2).wf = true ∧ (Lit.int .i64 n3).wf = true ∧ (Lit.int .i64 d3).wf = true := by
  obtain ⟨cs, rfl, hsz⟩ := okWide_struct Try.underlying43 hv
  obtain ⟨c0, c1, c2, c3, c4, c5, rfl⟩ := array6 (hsz.trans bounds_cells)
  obtain ⟨fuel, hf⟩ := h
  obtain ⟨y0, y1, y2, n, hx, _, h0, h1, h2⟩ := trod_struct3 Try.underlying43 hf
  simp only [Value.cells, ratio_cells, List.drop_zero, List.take_succ_cons, List.take_zero, List.drop_succ_cons] at h0 h1 h2
  obtain ⟨n1, d1, rfl, rfl, rfl, w1, x1⟩ := ratio_open h0
  obtain ⟨n2, d2, rfl, rfl, rfl, w2, x2⟩ := ratio_open h1
  obtain ⟨n3, d3, rfl, rfl, rfl, w3, x3⟩ := ratio_open h2
  simp only [Prod.mk.injEq] at hx
  exact ⟨n1, d1, n2, d2, n3, d3, rfl, hx.1, by simpa using hx.2, w1, x1, w2, x2, w3, x3⟩
set_option maxRecDepth 100000 in
theorem shut_bounds {n1 d1 n2 d2 n3 d3 : Int} (w1 : (Lit.int .i64 n1).wf = true) (x1 : (Lit.int .i64 d1).wf = true) (w2 : (Lit.int .i64 n2).wf = true) (x2 : (Lit.int .i64 d2).wf = true) (w3 : (Lit.int .i64 n3).wf = true) (x3 : (Lit.int .i64 d3).wf = true) :
    DataW.Trod enc Try.prog w base spare held 43 (.agg #[.int .i64 n1, .int .i64 d1, .int .i64 n2, .int .i64 d2, .int .i64 n3, .int .i64 d3])
      (.agg [.agg [.lit (.int .i64 n1), .lit (.int .i64 d1)], .agg [.lit (.int .i64 n2), .lit (.int .i64 d2)], .agg [.lit (.int .i64 n3), .lit (.int .i64 d3)]]) [] := by
  have ts := trod_struct3_mk (enc := enc) (w := w) (base := base) (spare := spare) (held := held) (n := 2) (cs := [.int .i64 n1, .int .i64 d1, .int .i64 n2, .int .i64 d2, .int .i64 n3, .int .i64 d3])
    (y0 := (.agg [.lit (.int .i64 n1), .lit (.int .i64 d1)], [])) (y1 := (.agg [.lit (.int .i64 n2), .lit (.int .i64 d2)], [])) (y2 := (.agg [.lit (.int .i64 n3), .lit (.int .i64 d3)], [])) Try.underlying43 (by simp [bounds_cells])
    (by simpa [ratio_cells] using ratio_shut w1 x1) (by simpa [ratio_cells] using ratio_shut w2 x2) (by simpa [ratio_cells] using ratio_shut w3 x3)
  exact ⟨_, by simpa [Value.cells] using ts⟩
end
end Go.Proofs.Ytnhekeohbnmodaa
