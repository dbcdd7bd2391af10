/- How arguments that are states of package poly are opened. -/
import Derived.Test.YtinjainclhfahaaRows
import Derived.Test.YtinjainclhfahaaZKRowq59
namespace Go.Proofs.Ytinjainclhfahaa
open Go.ChangeShapes Go.WideShapes Go.ChangeAt Go.RowKit Go.Joins Go.Deep
set_option linter.unusedVariables false

section
variable {H : Type} {enc : TypeId × Value → H} {w : World} {base : Nat} {spare : Nat → Bool} {held : Bool}
/-- A slice by the cells of each of its elements. -/
theorem SG.of_each {α : Type} {f : α → List Value} {s b o len : Nat} {w : World} (hf : ∀ x, (f x).length = s) (hs : 0 < s) (z : Nat → α) (h : ∀ i, i < len → ∀ j u, (f (z i))[j]? = some u → w.cell? ⟨b, o + (i * s + j), none⟩ = some u) : SG f w (some ⟨b, o, none⟩) len ((List.range len).map z) := by
  refine ⟨by simp, fun _ => ⟨b, o, rfl, fun j u hj => ?_⟩⟩
  have hjl : j < len * s := by
    rcases Nat.lt_or_ge j (len * s) with g | g
    · exact g
    · rw [List.getElem?_eq_none (by rw [flG_len hf]; simpa using g)] at hj; cases hj
  have hk : j / s < len := Nat.div_lt_of_lt_mul (by rw [Nat.mul_comm]; exact hjl)
  have e : j / s * s + j % s = j := Nat.div_add_mod' j s
  have hk2 : j / s < ((List.range len).map z).length := by simpa using hk
  rw [← e, flG_get hf (z 0) hk2 (Nat.mod_lt _ hs)] at hj
  rw [show ((List.range len).map z).getD (j / s) (z 0) = z (j / s) by simp [List.getD, hk]] at hj
  have := h (j / s) hk (j % s) u hj
  rwa [e] at this
theorem cells_agg2 {P : Program} {t : TypeId} {f0 f1 : Field} {m : Nat} {cs : List Value} {x : DataW H × List MemPlace} (hs : P.underlying t = some (.struct #[f0, f1])) (hone : oneCellFields P #[f0, f1] = true) (hC : P.cellsOf t = 2)
    (h : DataW.trod enc P w 0 (fun _ => true) held m t cs = some x) :
    ∃ (v0 v1 : Value) (y0 y1 : DataW H × List MemPlace) (n : Nat), cs = [v0, v1] ∧ DataW.trod enc P w 0 (fun _ => true) held n f0.type [v0] = some y0 ∧ DataW.trod enc P w 0 (fun _ => true) held n f1.type [v1] = some y1 := by
  obtain ⟨xs, n, _, hx, hl, hlen, hf⟩ := DataW.trod_struct hs h
  rw [hC] at hl
  obtain ⟨o0, k0⟩ := hone_of hone 0 f0 rfl
  obtain ⟨o1, k1⟩ := hone_of hone 1 f1 rfl
  match xs, hlen, cs, hl with
  | [y0, y1], _, [v0, v1], _ => exact ⟨v0, v1, y0, y1, n, rfl, by simpa [Value.cells, o0, k0] using hf 0 f0 rfl, by simpa [Value.cells, o1, k1] using hf 1 f1 rfl⟩
theorem array4 {α : Type} {cs : Array α} (h : cs.size = 4) : ∃ v0 v1 v2 v3, cs = #[v0, v1, v2, v3] := by
  obtain ⟨l⟩ := cs
  match l, h with
  | [v0, v1, v2, v3], _ => exact ⟨v0, v1, v2, v3, rfl⟩
theorem open_agg4 {P : Program} {r : Reach} {b0 : Nat} {t : TypeId} {f0 f1 f2 f3 : Field} {v : Value} {d : DataW H} {p : List MemPlace} (hs : P.underlying t = some (.struct #[f0, f1, f2, f3])) (hone : oneCellFields P #[f0, f1, f2, f3] = true) (hC : P.cellsOf t = 4)
    (hv : Value.okWide P w r b0 t v) (h : DataW.Trod enc P w 0 (fun _ => true) held t v d p) :
    ∃ (v0 v1 v2 v3 : Value) (y0 y1 y2 y3 : DataW H × List MemPlace) (n : Nat), v = .agg #[v0, v1, v2, v3] ∧ DataW.trod enc P w 0 (fun _ => true) held n f0.type [v0] = some y0 ∧ DataW.trod enc P w 0 (fun _ => true) held n f1.type [v1] = some y1 ∧ DataW.trod enc P w 0 (fun _ => true) held n f2.type [v2] = some y2 ∧ DataW.trod enc P w 0 (fun _ => true) held n f3.type [v3] = some y3 := by
  obtain ⟨cs, rfl, hsz⟩ := okWide_struct hs hv
  obtain ⟨v0, v1, v2, v3, rfl⟩ := array4 (hsz.trans hC)
  obtain ⟨fuel, hf⟩ := h
  obtain ⟨xs, n, _, hx, hl, hlen, hf⟩ := DataW.trod_struct hs hf
  obtain ⟨o0, k0⟩ := hone_of hone 0 f0 rfl
  obtain ⟨o1, k1⟩ := hone_of hone 1 f1 rfl
  obtain ⟨o2, k2⟩ := hone_of hone 2 f2 rfl
  obtain ⟨o3, k3⟩ := hone_of hone 3 f3 rfl
  match xs, hlen with
  | [y0, y1, y2, y3], _ => exact ⟨v0, v1, v2, v3, y0, y1, y2, y3, n, rfl, by simpa [Value.cells, o0, k0] using hf 0 f0 rfl, by simpa [Value.cells, o1, k1] using hf 1 f1 rfl, by simpa [Value.cells, o2, k2] using hf 2 f2 rfl, by simpa [Value.cells, o3, k3] using hf 3 f3 rfl⟩
theorem wd_of_wf {x : Int} (h : (Lit.int .u64 x).wf = true) : Word x := by
  simp [Lit.wf, IntKind.min, IntKind.max, IntKind.signed, IntKind.bits] at h
  exact ⟨by omega, by omega⟩
theorem wide15_cells : Try.prog.cellsOf 35 = 2 := by kernel_rfl
set_option maxRecDepth 100000 in
theorem cells_wide {n : Nat} {cs : List Value} {x : DataW H × List MemPlace} (h : DataW.trod enc Try.prog w 0 (fun _ => true) held n 35 cs = some x) : ∃ z : Int, In2 z ∧ cs = cW z := by
  obtain ⟨v0, v1, y0, y1, n, rfl, h0, h1⟩ := cells_agg2 Try.underlying35 (by kernel_rfl) wide15_cells h
  obtain ⟨z0, e0, _, g0⟩ := DataW.trod_int Try.underlying33 h0
  obtain ⟨z1, e1, _, g1⟩ := DataW.trod_int Try.underlying33 h1
  simp at e0 e1
  subst e0 e1
  have w0 := wd_of_wf g0
  have w1 := wd_of_wf g1
  exact ⟨val z0 z1, val_in w0 w1, by rw [cW, hiZ_val w1, loZ_val w1]⟩
set_option maxRecDepth 100000 in
theorem cells_wides {n : Nat} {cs : List Value} {x : DataW H × List MemPlace} (h : DataW.trod enc Try.prog w 0 (fun _ => true) held n 22 cs = some x) :
    ∃ (A : Option Addr) (len cap : Nat) (L : List Int), cs = [.slice A len cap] ∧ len ≤ cap ∧ SG cW w A len L ∧ (∀ x ∈ L, In2 x) := by
  rcases open_slice Try.underlying22 h with ⟨hc, hx⟩ | ⟨a, len, cap, m, k, D, Pl, hc, _, hl, hm, hmm, hx, hall⟩
  · exact ⟨none, 0, 0, [], hc, Nat.le_refl _, ⟨rfl, fun h0 => absurd h0 (Nat.lt_irrefl _)⟩, fun x hx => absurd hx (by simp)⟩
  · simp only [if_true] at hmm
    subst hmm
    have each : ∀ i, i < m → ∃ z : Int, In2 z ∧ ∀ j u, (cW z)[j]? = some u → w.cell? (a.add (i * 2 + j)) = some u := fun i hi => by
      obtain ⟨cs', h1, h2⟩ := hall i hi
      rw [wide15_cells] at h1
      obtain ⟨_, hlen, hcell⟩ := World.cells?_some h1
      obtain ⟨z, hz2, rfl⟩ := cells_wide h2
      refine ⟨z, hz2, fun j u hj => ?_⟩
      have hj2 : j < 2 := by
        rcases Nat.lt_or_ge j 2 with g | g
        · exact g
        · rw [List.getElem?_eq_none (by rw [hlen]; exact g)] at hj; cases hj
      have := hcell j hj2
      rw [add_add, hj] at this
      exact this
    obtain ⟨z, hz⟩ := choose_lt each
    rcases Nat.eq_zero_or_pos len with h0 | h0
    · subst h0
      exact ⟨some a, 0, m, [], hc, hl, ⟨rfl, fun h0 => absurd h0 (Nat.lt_irrefl _)⟩, fun x hx => absurd hx (by simp)⟩
    have hsp : a.spot = none := by
      have := World.cell?_spot ((hz 0 (by omega)).2 0 _ rfl)
      simpa [Addr.add] using this
    obtain ⟨b, o, s⟩ := a
    simp at hsp
    subst hsp
    refine ⟨some ⟨b, o, none⟩, len, m, (List.range len).map z, hc, hl, SG.of_each (s := 2) (fun _ => rfl) (by omega) z (fun i hi j u hj => ?_), fun x hx => ?_⟩
    · have := (hz i (by omega)).2 j u hj
      rwa [add_plain] at this
    · obtain ⟨i, hi, rfl⟩ := List.mem_map.1 hx
      exact (hz i (by have := List.mem_range.1 hi; omega)).1
theorem state15_cells : Try.prog.cellsOf 24 = 4 := by kernel_rfl
set_option maxRecDepth 100000 in
theorem open_state15 {r : Reach} {b0 : Nat} {v : Value} {d : DataW H} {p : List MemPlace} (hv : Value.okWide Try.prog w r b0 24 v) (h : DataW.Trod enc Try.prog w 0 (fun _ => true) held 24 v d p) :
    ∃ (a0 : Int) (a1 : Int) (a2 : Int) (n3 k3 : Nat) (A3 : Option Addr) (L3 : List Int), v = .agg #[.int .i64 a0, .int .i64 a1, .int .i64 a2, .slice A3 n3 k3] ∧ n3 ≤ k3 ∧ SG cW w A3 n3 L3 ∧ ∀ x ∈ L3, In2 x := by
  obtain ⟨v0, v1, v2, v3, y0, y1, y2, y3, n, rfl, h0, h1, h2, h3⟩ := open_agg4 Try.underlying24 (by kernel_rfl) state15_cells hv h
  obtain ⟨a0, e0, _, _⟩ := DataW.trod_int Try.underlying3 h0
  obtain ⟨a1, e1, _, _⟩ := DataW.trod_int Try.underlying2 h1
  obtain ⟨a2, e2, _, _⟩ := DataW.trod_int Try.underlying2 h2
  obtain ⟨A3, n3, k3, L3, e3, hl3, hS3, hI3⟩ := cells_wides h3
  simp at e0 e1 e2 e3
  subst e0 e1 e2 e3
  exact ⟨a0, a1, a2, n3, k3, A3, L3, rfl, hl3, hS3, hI3⟩
end
end Go.Proofs.Ytinjainclhfahaa
