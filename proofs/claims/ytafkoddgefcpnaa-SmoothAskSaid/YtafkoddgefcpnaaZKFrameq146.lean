/- How arguments that are marks or states of package smooth are opened. -/
import Derived.Test.YtafkoddgefcpnaaRows
import Derived.Test.YtafkoddgefcpnaaZIAppq119
import Derived.Test.YtafkoddgefcpnaaZKFrameq145
namespace Go.Proofs.Ytafkoddgefcpnaa
open Go.ChangeShapes Go.WideShapes Go.ChangeAt Go.RowKit Go.Joins Go.Deep
set_option linter.unusedVariables false

section
variable {H : Type} {enc : TypeId × Value → H} {w : World} {base : Nat} {spare : Nat → Bool} {held : Bool}
/-- A slice by the cells of each of its elements. -/
theorem SG.of_each {α : Type} {f : α → List Value} {s b o len : Nat} {w : World} (hf : ∀ x, (f x).length = s) (hs : 0 < s) (z : Nat → α) (h : ∀ i, i < len → ∀ j u, (f (z i))[j]? = some u → w.cell? ⟨b, o + (i * s + j), none⟩ = some u) : SG f w (some ⟨b, o, none⟩) len ((List.range len).map z) := by
  refine ⟨by simp, fun _ => ⟨b, o, rfl, fun j u hj => ?_⟩⟩
  have hjl : j < len * s := by
    rcases Nat.lt_or_ge j (len * s) with g | g
    · exact g
    · rw [List.getElem?_eq_none (by rw [flG_len hf]; simpa using g)] at hj; cases hj
  have hk : j / s < len := Nat.div_lt_of_lt_mul (by rw [Nat.mul_comm]; exact hjl)
  have e : j / s * s + j % s = j := Nat.div_add_mod' j s
  have hk2 : j / s < ((List.range len).map z).length := by simpa using hk
  rw [← e, flG_get hf (z 0) hk2 (Nat.mod_lt _ hs)] at hj
  rw [show ((List.range len).map z).getD (j / s) (z 0) = z (j / s) by simp [List.getD, hk]] at hj
  have := h (j / s) hk (j % s) u hj
  rwa [e] at this
theorem cells_agg7 {P : Program} {t : TypeId} {f0 f1 f2 f3 f4 f5 f6 : Field} {m : Nat} {cs : List Value} {x : DataW H × List MemPlace} (hs : P.underlying t = some (.struct #[f0, f1, f2, f3, f4, f5, f6])) (hone : oneCellFields P #[f0, f1, f2, f3, f4, f5, f6] = true) (hC : P.cellsOf t = 7)
    (h : DataW.trod enc P w 0 (fun _ => true) held m t cs = some x) :
    ∃ (v0 v1 v2 v3 v4 v5 v6 : Value) (y0 y1 y2 y3 y4 y5 y6 : DataW H × List MemPlace) (n : Nat), cs = [v0, v1, v2, v3, v4, v5, v6] ∧ DataW.trod enc P w 0 (fun _ => true) held n f0.type [v0] = some y0 ∧ DataW.trod enc P w 0 (fun _ => true) held n f1.type [v1] = some y1 ∧ DataW.trod enc P w 0 (fun _ => true) held n f2.type [v2] = some y2 ∧ DataW.trod enc P w 0 (fun _ => true) held n f3.type [v3] = some y3 ∧ DataW.trod enc P w 0 (fun _ => true) held n f4.type [v4] = some y4 ∧ DataW.trod enc P w 0 (fun _ => true) held n f5.type [v5] = some y5 ∧ DataW.trod enc P w 0 (fun _ => true) held n f6.type [v6] = some y6 := by
  obtain ⟨xs, n, _, hx, hl, hlen, hf⟩ := DataW.trod_struct hs h
  rw [hC] at hl
  obtain ⟨o0, k0⟩ := hone_of hone 0 f0 rfl
  obtain ⟨o1, k1⟩ := hone_of hone 1 f1 rfl
  obtain ⟨o2, k2⟩ := hone_of hone 2 f2 rfl
  obtain ⟨o3, k3⟩ := hone_of hone 3 f3 rfl
  obtain ⟨o4, k4⟩ := hone_of hone 4 f4 rfl
  obtain ⟨o5, k5⟩ := hone_of hone 5 f5 rfl
  obtain ⟨o6, k6⟩ := hone_of hone 6 f6 rfl
  match xs, hlen, cs, hl with
  | [y0, y1, y2, y3, y4, y5, y6], _, [v0, v1, v2, v3, v4, v5, v6], _ => exact ⟨v0, v1, v2, v3, v4, v5, v6, y0, y1, y2, y3, y4, y5, y6, n, rfl, by simpa [Value.cells, o0, k0] using hf 0 f0 rfl, by simpa [Value.cells, o1, k1] using hf 1 f1 rfl, by simpa [Value.cells, o2, k2] using hf 2 f2 rfl, by simpa [Value.cells, o3, k3] using hf 3 f3 rfl, by simpa [Value.cells, o4, k4] using hf 4 f4 rfl, by simpa [Value.cells, o5, k5] using hf 5 f5 rfl, by simpa [Value.cells, o6, k6] using hf 6 f6 rfl⟩
set_option maxRecDepth 100000 in
theorem cells_mark {n : Nat} {cs : List Value} {x : DataW H × List MemPlace} (h : DataW.trod enc Try.prog w 0 (fun _ => true) held n 23 cs = some x) : ∃ z : Mrk, cs = cM z := by
  obtain ⟨v0, v1, v2, v3, v4, v5, v6, y0, y1, y2, y3, y4, y5, y6, n, rfl, h0, h1, h2, h3, h4, h5, h6⟩ := cells_agg7 Try.underlying23 (by kernel_rfl) mark_cells h
  obtain ⟨z0, e0, _, g0⟩ := DataW.trod_int Try.underlying2 h0
  obtain ⟨z1, e1, _, g1⟩ := DataW.trod_int Try.underlying2 h1
  obtain ⟨z2, e2, _, g2⟩ := DataW.trod_int Try.underlying2 h2
  obtain ⟨z3, e3, _, g3⟩ := DataW.trod_int Try.underlying2 h3
  obtain ⟨z4, e4, _, g4⟩ := DataW.trod_int Try.underlying2 h4
  obtain ⟨z5, e5, _, g5⟩ := DataW.trod_int Try.underlying2 h5
  obtain ⟨z6, e6, _, g6⟩ := DataW.trod_int Try.underlying2 h6
  simp at e0 e1 e2 e3 e4 e5 e6
  subst e0 e1 e2 e3 e4 e5 e6
  exact ⟨⟨z0, z1, z2, z3, z4, z5, z6⟩, rfl⟩
set_option maxRecDepth 100000 in
theorem cells_marks {n : Nat} {cs : List Value} {x : DataW H × List MemPlace} (h : DataW.trod enc Try.prog w 0 (fun _ => true) held n 24 cs = some x) :
    ∃ (A : Option Addr) (len cap : Nat) (L : List Mrk), cs = [.slice A len cap] ∧ len ≤ cap ∧ SG cM w A len L := by
  rcases open_slice Try.underlying24 h with ⟨hc, hx⟩ | ⟨a, len, cap, m, k, D, Pl, hc, _, hl, hm, hmm, hx, hall⟩
  · exact ⟨none, 0, 0, [], hc, Nat.le_refl _, rfl, fun h0 => absurd h0 (Nat.lt_irrefl _)⟩
  · simp only [if_true] at hmm
    subst hmm
    have each : ∀ i, i < m → ∃ z : Mrk, ∀ j u, (cM z)[j]? = some u → w.cell? (a.add (i * 7 + j)) = some u := fun i hi => by
      obtain ⟨cs', h1, h2⟩ := hall i hi
      rw [mark_cells] at h1
      obtain ⟨_, hlen, hcell⟩ := World.cells?_some h1
      obtain ⟨z, rfl⟩ := cells_mark h2
      refine ⟨z, fun j u hj => ?_⟩
      have hj2 : j < 7 := by
        rcases Nat.lt_or_ge j 7 with g | g
        · exact g
        · rw [List.getElem?_eq_none (by rw [hlen]; exact g)] at hj; cases hj
      have := hcell j hj2
      rw [add_add, hj] at this
      exact this
    have inh : Inhabited Mrk := ⟨⟨0, 0, 0, 0, 0, 0, 0⟩⟩
    obtain ⟨z, hz⟩ := choose_lt each
    rcases Nat.eq_zero_or_pos len with h0 | h0
    · subst h0
      exact ⟨some a, 0, m, [], hc, hl, rfl, fun h0 => absurd h0 (Nat.lt_irrefl _)⟩
    have hsp : a.spot = none := by
      have := World.cell?_spot (hz 0 (by omega) 0 _ rfl)
      simpa [Addr.add] using this
    obtain ⟨b, o, s⟩ := a
    simp at hsp
    subst hsp
    refine ⟨some ⟨b, o, none⟩, len, m, (List.range len).map z, hc, hl, SG.of_each (s := 7) (fun _ => rfl) (by omega) z (fun i hi j u hj => ?_)⟩
    have := hz i (by omega) j u hj
    rwa [add_plain] at this
theorem state13_cells : Try.prog.cellsOf 26 = 7 := by kernel_rfl
set_option maxRecDepth 100000 in
theorem open_state13 {r : Reach} {b0 : Nat} {v : Value} {d : DataW H} {p : List MemPlace} (hv : Value.okWide Try.prog w r b0 26 v) (h : DataW.Trod enc Try.prog w 0 (fun _ => true) held 26 v d p) :
    ∃ (a0 : Int) (a1 : Int) (a2 : Int) (a3 : Int) (a4 : Int) (a5 : Int) (n6 k6 : Nat) (A6 : Option Addr) (L6 : List Mrk), v = .agg #[.int .i64 a0, .int .i64 a1, .int .i64 a2, .int .i64 a3, .int .i64 a4, .int .i64 a5, .slice A6 n6 k6] ∧ n6 ≤ k6 ∧ SG cM w A6 n6 L6 := by
  obtain ⟨v0, v1, v2, v3, v4, v5, v6, y0, y1, y2, y3, y4, y5, y6, n, rfl, h0, h1, h2, h3, h4, h5, h6⟩ := open_agg7 Try.underlying26 (by kernel_rfl) state13_cells hv h
  obtain ⟨a0, e0, _, _⟩ := DataW.trod_int Try.underlying3 h0
  obtain ⟨a1, e1, _, _⟩ := DataW.trod_int Try.underlying2 h1
  obtain ⟨a2, e2, _, _⟩ := DataW.trod_int Try.underlying3 h2
  obtain ⟨a3, e3, _, _⟩ := DataW.trod_int Try.underlying3 h3
  obtain ⟨a4, e4, _, _⟩ := DataW.trod_int Try.underlying2 h4
  obtain ⟨a5, e5, _, _⟩ := DataW.trod_int Try.underlying2 h5
  obtain ⟨A6, n6, k6, L6, e6, hl6, hS6⟩ := cells_marks h6
  simp at e0 e1 e2 e3 e4 e5 e6
  subst e0 e1 e2 e3 e4 e5 e6
  exact ⟨a0, a1, a2, a3, a4, a5, n6, k6, A6, L6, rfl, hl6, hS6⟩
end
end Go.Proofs.Ytafkoddgefcpnaa
