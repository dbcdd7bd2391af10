/- How arguments that are states of package halve are opened. -/
import Derived.Test.YtegaeaonoggmkaaRows
import Derived.Test.YtegaeaonoggmkaaZESqq37
namespace Go.Proofs.Ytegaeaonoggmkaa
open Go.ChangeShapes Go.WideShapes Go.ChangeAt Go.RowKit Go.Joins Go.Deep
set_option linter.unusedVariables false

section
variable {H : Type} {enc : TypeId × Value → H} {w : World} {base : Nat} {spare : Nat → Bool} {held : Bool}
theorem array2 {α : Type} {cs : Array α} (h : cs.size = 2) : ∃ v0 v1, cs = #[v0, v1] := by
  obtain ⟨l⟩ := cs
  match l, h with
  | [v0, v1], _ => exact ⟨v0, v1, rfl⟩
theorem open_agg2 {P : Program} {r : Reach} {b0 : Nat} {t : TypeId} {f0 f1 : Field} {v : Value} {d : DataW H} {p : List MemPlace} (hs : P.underlying t = some (.struct #[f0, f1])) (hone : oneCellFields P #[f0, f1] = true) (hC : P.cellsOf t = 2)
    (hv : Value.okWide P w r b0 t v) (h : DataW.Trod enc P w 0 (fun _ => true) held t v d p) :
    ∃ (v0 v1 : Value) (y0 y1 : DataW H × List MemPlace) (n : Nat), v = .agg #[v0, v1] ∧ DataW.trod enc P w 0 (fun _ => true) held n f0.type [v0] = some y0 ∧ DataW.trod enc P w 0 (fun _ => true) held n f1.type [v1] = some y1 := by
  obtain ⟨cs, rfl, hsz⟩ := okWide_struct hs hv
  obtain ⟨v0, v1, rfl⟩ := array2 (hsz.trans hC)
  obtain ⟨fuel, hf⟩ := h
  obtain ⟨xs, n, _, hx, hl, hlen, hf⟩ := DataW.trod_struct hs hf
  obtain ⟨o0, k0⟩ := hone_of hone 0 f0 rfl
  obtain ⟨o1, k1⟩ := hone_of hone 1 f1 rfl
  match xs, hlen with
  | [y0, y1], _ => exact ⟨v0, v1, y0, y1, n, rfl, by simpa [Value.cells, o0, k0] using hf 0 f0 rfl, by simpa [Value.cells, o1, k1] using hf 1 f1 rfl⟩
set_option maxRecDepth 100000 in
theorem cells_nums {n : Nat} {cs : List Value} {x : DataW H × List MemPlace} (h : DataW.trod enc Try.prog w 0 (fun _ => true) held n 22 cs = some x) :
    ∃ (A : Option Addr) (len cap : Nat) (L : List Int), cs = [.slice A len cap] ∧ len ≤ cap ∧ Sn w A len L ∧ (∀ x ∈ L, In x) := by
  rcases open_ints Try.underlying22 Try.underlying2 int64_cells h with ⟨hc, hx⟩ | ⟨a, len, cap, zs, hc, _, hl, hm, hzl, hx, hcell, hwf⟩
  · exact ⟨none, 0, 0, [], hc, Nat.le_refl _, Sn.none_, fun x hx => (by cases hx)⟩
  · simp only [if_true] at hzl
    refine ⟨some a, len, cap, zs.take len, hc, hl, ⟨by simp; omega, fun hn => ?_⟩, fun x hx => in_of_wf (hwf x (List.mem_of_mem_take hx))⟩
    have hsp : a.spot = none := by
      have := World.cell?_spot (hcell 0 (by omega))
      simpa [Addr.add] using this
    obtain ⟨b, o, s⟩ := a
    simp at hsp
    subst hsp
    refine ⟨b, o, rfl, fun j hj => ?_⟩
    have := hcell j (by omega)
    rw [add_at] at this
    rw [this]
    simp [List.getD, hj]
theorem state16_cells : Try.prog.cellsOf 24 = 2 := by kernel_rfl
set_option maxRecDepth 100000 in
theorem open_state16 {r : Reach} {b0 : Nat} {v : Value} {d : DataW H} {p : List MemPlace} (hv : Value.okWide Try.prog w r b0 24 v) (h : DataW.Trod enc Try.prog w 0 (fun _ => true) held 24 v d p) :
    ∃ (a0 : Int) (n1 k1 : Nat) (A1 : Option Addr) (L1 : List Int), v = .agg #[.int .i64 a0, .slice A1 n1 k1] ∧ n1 ≤ k1 ∧ Sn w A1 n1 L1 ∧ (∀ x ∈ L1, In x) ∧ In a0 := by
  obtain ⟨v0, v1, y0, y1, n, rfl, h0, h1⟩ := open_agg2 Try.underlying24 (by kernel_rfl) state16_cells hv h
  obtain ⟨a0, e0, _, g0⟩ := DataW.trod_int Try.underlying2 h0
  obtain ⟨A1, n1, k1, L1, e1, hl1, hS1, hI1⟩ := cells_nums h1
  simp at e0 e1
  subst e0 e1
  exact ⟨a0, n1, k1, A1, L1, rfl, hl1, hS1, hI1, in_of_wf g0⟩
end
end Go.Proofs.Ytegaeaonoggmkaa
