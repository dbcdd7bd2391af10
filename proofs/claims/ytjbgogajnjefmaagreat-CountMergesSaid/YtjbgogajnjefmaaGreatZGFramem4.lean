/- Texts of these claims, one after the other. -/
import Derived.Test.YtjbgogajnjefmaaGreatZWKeepm7
import Derived.Test.YtjbgogajnjefmaaGreatZWMathm8
import Derived.Test.YtjbgogajnjefmaaGreatZWShortm3
namespace Go.Proofs.YtjbgogajnjefmaaGreat
open Go.ChangeShapes Go.WideShapes Go.ChangeAt Go.RowKit Go.Joins Go.Deep

theorem int64_cells : Tryz.prog.cellsOf 2 = 1 := by kernel_rfl
theorem laid_out : laidOutB Tryz.prog = true := by kernel_rfl
section
variable {H : Type} {enc : TypeId × Value → H} {w : World} {base : Nat} {spare : Nat → Bool} {held : Bool}
theorem stay {t : TypeId} (hr : Tryz.prog.readableRec t = true) (hrow : t < Tryz.prog.types.size) {W W' : World} {v : Value} {d : DataW H} {ps before : List MemPlace} {sp : Nat → Bool}
    (h : DataW.Trod enc Tryz.prog W 0 (fun _ => true) true t v d ps) (hu : Up W W') (hlt : ∀ x ∈ before, x.block < W.heap.size) (hsub : ∀ x ∈ ps, x ∈ before) (hsp : ∀ x ∈ before, sp x.block = true) :
    DataW.Trod enc Tryz.prog W' 0 sp true t v d ps :=
  WideElems.Trod_stays laid_out hr hrow h (fun x hx => hu.below.same (hlt x (hsub x hx))) (fun x hx => hsp x (hsub x hx))
end
end Go.Proofs.YtjbgogajnjefmaaGreat

namespace Go.Proofs.YtjbgogajnjefmaaGreat
open Go.ChangeShapes Go.WideShapes Go.ChangeAt Go.RowKit Go.Joins Go.Deep

theorem bucket_cells : Tryz.prog.cellsOf 54 = 2 := by kernel_rfl
theorem int_cells : Tryz.prog.cellsOf 3 = 1 := by kernel_rfl
section
variable {H : Type} {enc : TypeId × Value → H} {w : World} {base : Nat} {spare : Nat → Bool} {held : Bool}
set_option maxRecDepth 100000 in
theorem cells_buckets {n : Nat} {cs : List Value} {x : DataW H × List MemPlace} (h : DataW.trod enc Tryz.prog w 0 (fun _ => true) held n 22 cs = some x) :
    ∃ (A : Option Addr) (len cap : Nat) (L : List It), cs = [.slice A len cap] ∧ len ≤ cap ∧ Sl w A len L := by
  rcases open_slice_pairs Tryz.underlying22 Tryz.underlying54 bucket_cells rfl rfl int64_cells int_cells h with ⟨hc, hx⟩ | ⟨a, len, cap, m, k, V0, V1, D0, D1, P0, P1, hc, _, hl, hm, hmm, hx, hall⟩
  · exact ⟨none, 0, 0, [], hc, Nat.le_refl _, Sl.none_⟩
  · simp only [if_true] at hmm
    subst hmm
    have each : ∀ i, i < m → ∃ z : It, w.cell? (a.add (i * 2)) = some (.int .i64 z.1) ∧ w.cell? (a.add (i * 2 + 1)) = some (.int .i64 z.2) := fun i hi => by
      obtain ⟨h1, h2, h3, h4⟩ := hall i hi
      obtain ⟨z0, e0, _, _⟩ := DataW.trod_int Tryz.underlying2 h3
      obtain ⟨z1, e1, _, _⟩ := DataW.trod_int Tryz.underlying3 h4
      simp at e0 e1
      exact ⟨(z0, z1), by rw [h1, e0], by rw [h2, e1]⟩
    obtain ⟨z, hz⟩ := choose_lt each
    refine ⟨some a, len, m, (List.range len).map z, hc, hl, by simp, fun hn => ?_⟩
    have hsp : a.spot = none := by
      have := World.cell?_spot (hz 0 (by omega)).1
      simpa [Addr.add] using this
    obtain ⟨b, o, s⟩ := a
    simp at hsp
    subst hsp
    refine ⟨b, o, rfl, fun j u hj => ?_⟩
    have hjl : j < len * 2 := by
      rcases Nat.lt_or_ge j (len * 2) with g | g
      · exact g
      · rw [List.getElem?_eq_none (by rw [fl_length]; simp; omega)] at hj; cases hj
    have hk : j / 2 < ((List.range len).map z).length := by simp; omega
    obtain ⟨c0, c1⟩ := hz (j / 2) (by omega)
    rw [add_at] at c0 c1
    rcases (by omega : j = j / 2 * 2 ∨ j = j / 2 * 2 + 1) with e | e
    · have := fl_get0 _ _ hk
      rw [← e, hj] at this
      rw [← e] at c0
      rw [c0, this]; simp
    · have := fl_get1 _ _ hk
      rw [← e, hj] at this
      rw [← e] at c1
      rw [c1, this]; simp
end
end Go.Proofs.YtjbgogajnjefmaaGreat

namespace Go.Proofs.YtjbgogajnjefmaaGreat
open Go.ChangeShapes Go.WideShapes Go.ChangeAt Go.RowKit Go.Joins Go.Deep

theorem state11_cells : Tryz.prog.cellsOf 24 = 5 := by kernel_rfl
section
variable {H : Type} {enc : TypeId × Value → H} {w : World} {base : Nat} {spare : Nat → Bool} {held : Bool}
theorem array5 {α : Type} {cs : Array α} (h : cs.size = 5) : ∃ v0 v1 v2 v3 v4, cs = #[v0, v1, v2, v3, v4] := by
  obtain ⟨l⟩ := cs
  match l, h with
  | [v0, v1, v2, v3, v4], _ => exact ⟨v0, v1, v2, v3, v4, rfl⟩
theorem open_agg5 {P : Program} {r : Reach} {b0 : Nat} {t : TypeId} {f0 f1 f2 f3 f4 : Field} {v : Value} {d : DataW H} {p : List MemPlace} (hs : P.underlying t = some (.struct #[f0, f1, f2, f3, f4])) (hone : oneCellFields P #[f0, f1, f2, f3, f4] = true) (hC : P.cellsOf t = 5)
    (hv : Value.okWide P w r b0 t v) (h : DataW.Trod enc P w 0 (fun _ => true) held t v d p) :
    ∃ (v0 v1 v2 v3 v4 : Value) (y0 y1 y2 y3 y4 : DataW H × List MemPlace) (n : Nat), v = .agg #[v0, v1, v2, v3, v4] ∧ DataW.trod enc P w 0 (fun _ => true) held n f0.type [v0] = some y0 ∧ DataW.trod enc P w 0 (fun _ => true) held n f1.type [v1] = some y1 ∧ DataW.trod enc P w 0 (fun _ => true) held n f2.type [v2] = some y2 ∧ DataW.trod enc P w 0 (fun _ => true) held n f3.type [v3] = some y3 ∧ DataW.trod enc P w 0 (fun _ => true) held n f4.type [v4] = some y4 := by
  obtain ⟨cs, rfl, hsz⟩ := okWide_struct hs hv
  obtain ⟨v0, v1, v2, v3, v4, rfl⟩ := array5 (hsz.trans hC)
  obtain ⟨fuel, hf⟩ := h
  obtain ⟨xs, n, _, hx, hl, hlen, hf⟩ := DataW.trod_struct hs hf
  obtain ⟨o0, k0⟩ := hone_of hone 0 f0 rfl
  obtain ⟨o1, k1⟩ := hone_of hone 1 f1 rfl
  obtain ⟨o2, k2⟩ := hone_of hone 2 f2 rfl
  obtain ⟨o3, k3⟩ := hone_of hone 3 f3 rfl
  obtain ⟨o4, k4⟩ := hone_of hone 4 f4 rfl
  match xs, hlen with
  | [y0, y1, y2, y3, y4], _ => exact ⟨v0, v1, v2, v3, v4, y0, y1, y2, y3, y4, n, rfl, by simpa [Value.cells, o0, k0] using hf 0 f0 rfl, by simpa [Value.cells, o1, k1] using hf 1 f1 rfl, by simpa [Value.cells, o2, k2] using hf 2 f2 rfl, by simpa [Value.cells, o3, k3] using hf 3 f3 rfl, by simpa [Value.cells, o4, k4] using hf 4 f4 rfl⟩
set_option maxRecDepth 100000 in
theorem open_state11 {r : Reach} {b0 : Nat} {v : Value} {d : DataW H} {p : List MemPlace} (hv : Value.okWide Tryz.prog w r b0 24 v) (h : DataW.Trod enc Tryz.prog w 0 (fun _ => true) held 24 v d p) :
    ∃ (a0 a1 a2 a3 : Int) (n k : Nat) (A : Option Addr) (L : List It), v = .agg #[.int .i64 a0, .int .i64 a1, .int .i64 a2, .int .i64 a3, .slice A n k] ∧ n ≤ k ∧ Sl w A n L := by
  obtain ⟨v0, v1, v2, v3, v4, y0, y1, y2, y3, y4, n, rfl, h0, h1, h2, h3, h4⟩ := open_agg5 Tryz.underlying24 (by kernel_rfl) state11_cells hv h
  obtain ⟨a0, e0, _, _⟩ := DataW.trod_int Tryz.underlying2 h0
  obtain ⟨a1, e1, _, _⟩ := DataW.trod_int Tryz.underlying3 h1
  obtain ⟨a2, e2, _, _⟩ := DataW.trod_int Tryz.underlying3 h2
  obtain ⟨a3, e3, _, _⟩ := DataW.trod_int Tryz.underlying2 h3
  obtain ⟨A, len, cap, L, es, hl, hS⟩ := cells_buckets h4
  simp at e0 e1 e2 e3 es
  subst e0 e1 e2 e3 es
  exact ⟨a0, a1, a2, a3, len, cap, A, L, rfl, hl, hS⟩
end
end Go.Proofs.YtjbgogajnjefmaaGreat

namespace Go.Proofs.YtjbgogajnjefmaaGreat
open Go.ChangeShapes Go.WideShapes Go.ChangeAt Go.RowKit Go.Joins Go.Deep

/-- A slice of int64 that reads as the list L. -/
def Sn (w : World) (A : Option Addr) (n : Nat) (L : List Int) : Prop :=
  L.length = n ∧ (0 < n → ∃ b o, A = some ⟨b, o, none⟩ ∧ ∀ j, j < n → w.cell? ⟨b, o + j, none⟩ = some (.int .i64 (L.getD j 0)))
theorem Sn.none_ {w : World} {A : Option Addr} : Sn w A 0 [] := ⟨rfl, fun h => absurd h (by omega)⟩
theorem Sn.up {w w' : World} {A : Option Addr} {n : Nat} {L : List Int} (h : Sn w A n L) (hu : Up w w') : Sn w' A n L :=
  ⟨h.1, fun hn => by
    obtain ⟨b, o, e, hc⟩ := h.2 hn
    exact ⟨b, o, e, fun j hj => hu.keep _ _ _ (hc j hj)⟩⟩
section
variable {H : Type} {enc : TypeId × Value → H} {w : World} {base : Nat} {spare : Nat → Bool} {held : Bool}
end
end Go.Proofs.YtjbgogajnjefmaaGreat
