/- How a list of items, with the bounds of its numbers, is opened. -/
import Derived.Test.YtfcknhpllhkpeaaRows
import Derived.Test.YtfcknhpllhkpeaaZESqq25
import Derived.Test.YtfcknhpllhkpeaaZGFrameq6
import Derived.Test.YtfcknhpllhkpeaaZNumq19
namespace Go.Proofs.Ytfcknhpllhkpeaa
open Go.ChangeShapes Go.WideShapes Go.ChangeAt Go.RowKit Go.Joins Go.Deep

section
variable {H : Type} {enc : TypeId × Value → H} {w : World} {base : Nat} {spare : Nat → Bool} {held : Bool}
set_option maxRecDepth 100000 in
theorem cells_items2 {n : Nat} {cs : List Value} {x : DataW H × List MemPlace} (h : DataW.trod enc Try.prog w 0 (fun _ => true) held n 22 cs = some x) :
    ∃ (A : Option Addr) (len cap : Nat) (L : List It), cs = [.slice A len cap] ∧ len ≤ cap ∧ Sl w A len L ∧ InI L := by
  rcases open_slice_pairs Try.underlying22 Try.underlying41 item_cells rfl rfl int64_cells int64_cells h with ⟨hc, hx⟩ | ⟨a, len, cap, m, k, V0, V1, D0, D1, P0, P1, hc, _, hl, hm, hmm, hx, hall⟩
  · exact ⟨none, 0, 0, [], hc, Nat.le_refl _, Sl.none_, fun x hx => by cases hx⟩
  · simp only [if_true] at hmm
    subst hmm
    have each : ∀ i, i < m → ∃ z : It, w.cell? (a.add (i * 2)) = some (.int .i64 z.1) ∧ w.cell? (a.add (i * 2 + 1)) = some (.int .i64 z.2) ∧ In z.1 ∧ In z.2 := fun i hi => by
      obtain ⟨h1, h2, h3, h4⟩ := hall i hi
      obtain ⟨z0, e0, _, f0⟩ := DataW.trod_int Try.underlying2 h3
      obtain ⟨z1, e1, _, f1⟩ := DataW.trod_int Try.underlying2 h4
      simp at e0 e1
      exact ⟨(z0, z1), by rw [h1, e0], by rw [h2, e1], in_of_wf f0, in_of_wf f1⟩
    obtain ⟨z, hz⟩ := choose_lt each
    refine ⟨some a, len, m, (List.range len).map z, hc, hl, ⟨by simp, fun hn => ?_⟩, fun x hx => ?_⟩
    rotate_left
    · obtain ⟨j, hj, rfl⟩ := List.mem_map.1 hx
      have := hz j (by have := List.mem_range.1 hj; omega)
      exact this.2.2
    have hsp : a.spot = none := by
      have := World.cell?_spot (hz 0 (by omega)).1
      simpa [Addr.add] using this
    obtain ⟨b, o, s⟩ := a
    simp at hsp
    subst hsp
    refine ⟨b, o, rfl, fun j u hj => ?_⟩
    have hjl : j < len * 2 := by
      rcases Nat.lt_or_ge j (len * 2) with g | g
      · exact g
      · rw [List.getElem?_eq_none (by rw [fl_length]; simp; omega)] at hj; cases hj
    have hk : j / 2 < ((List.range len).map z).length := by simp; omega
    obtain ⟨c0, c1, _, _⟩ := hz (j / 2) (by omega)
    rw [add_at] at c0 c1
    rcases (by omega : j = j / 2 * 2 ∨ j = j / 2 * 2 + 1) with e | e
    · have := fl_get0 _ _ hk
      rw [← e, hj] at this
      rw [← e] at c0
      rw [c0, this]; simp
    · have := fl_get1 _ _ hk
      rw [← e, hj] at this
      rw [← e] at c1
      rw [c1, this]; simp
set_option maxRecDepth 100000 in
theorem open_items2 {r : Reach} {b0 : Nat} {v : Value} {d : DataW H} {p : List MemPlace} (hv : Value.okWide Try.prog w r b0 22 v) (h : DataW.Trod enc Try.prog w 0 (fun _ => true) held 22 v d p) :
    ∃ (n k : Nat) (A : Option Addr) (L : List It), v = .slice A n k ∧ n ≤ k ∧ Sl w A n L ∧ InI L := by
  obtain ⟨fuel, hf⟩ := h
  obtain ⟨A, len, cap, L, es, hl, hS, hI⟩ := cells_items2 hf
  obtain ⟨a, n, c, rfl⟩ := okWide_slice Try.underlying22 hv
  simp [Value.cells] at es
  obtain ⟨rfl, rfl, rfl⟩ := es
  exact ⟨_, _, _, L, rfl, hl, hS, hI⟩
end
end Go.Proofs.Ytfcknhpllhkpeaa
