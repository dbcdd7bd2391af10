/- Texts of these claims, one after the other. -/
import Derived.Test.YtinjainclhfahaaRows
import Derived.Test.YtinjainclhfahaaZESqq30
import Derived.Test.YtinjainclhfahaaZWPow2q69
namespace Go.Proofs.Ytinjainclhfahaa
open Go.RowKit

/-- What the walks of sums hold: the result's cells, and the sum so far in block g. -/
structure Sm (w wr : World) (g : Nat) (s : Int) : Prop where
  up : Up w wr
  r0 : wr.cell? ⟨w.heap.size, 0, none⟩ = some (.int .u64 0)
  r1 : wr.cell? ⟨w.heap.size, 1, none⟩ = some (.int .u64 0)
  s0 : wr.cell? ⟨g, 0, none⟩ = some (.int .u64 (hiZ s))
  s1 : wr.cell? ⟨g, 1, none⟩ = some (.int .u64 (loZ s))
theorem Sm.keep {w w1 w2 : World} {g : Nat} {s : Int} (h : Sm w w1 g s) (hu : Up w1 w2) : Sm w w2 g s :=
  ⟨h.up.trans hu, hu.keep _ _ _ h.r0, hu.keep _ _ _ h.r1, hu.keep _ _ _ h.s0, hu.keep _ _ _ h.s1⟩
theorem Sm.set {w w1 : World} {g : Nat} {s u : Int} (h : Sm w w1 g s) (hg : w.heap.size < g) : Sm w ((w1.setCell ⟨g, 0, none⟩ (.int .u64 (hiZ u))).setCell ⟨g, 1, none⟩ (.int .u64 (loZ u))) g u := by
  have far : ∀ (W : World) (i : Nat) (x : Value) (o : Nat) (y : Value), W.cell? ⟨w.heap.size, o, none⟩ = some y → (W.setCell ⟨g, i, none⟩ x).cell? ⟨w.heap.size, o, none⟩ = some y := fun W i x o y hy => (cell_far (by show g ≠ w.heap.size; omega)).trans hy
  refine ⟨(h.up.setCell (by show w.heap.size ≤ g; omega) _).setCell (by show w.heap.size ≤ g; omega) _, far _ _ _ _ _ (far _ _ _ _ _ h.r0), far _ _ _ _ _ (far _ _ _ _ _ h.r1), ?_, ?_⟩
  · rw [cell_set (cell_set h.s0)]; rfl
  · rw [cell_set (cell_set h.s1)]; rfl

end Go.Proofs.Ytinjainclhfahaa

namespace Go.Proofs.Ytinjainclhfahaa
open Go.RowKit

theorem fit2_in2 (v : Int) : In2 (fit2 v) := by
  unfold fit2
  by_cases h : fits2 v = true
  · rw [if_pos h]; exact (of_decide_eq_true h : 0 ≤ v ∧ v < 340282366920938463463374607431768211456)
  · rw [if_neg h]; exact ⟨by decide, by decide⟩
end Go.Proofs.Ytinjainclhfahaa

namespace Go.Proofs.Ytinjainclhfahaa
open Go.RowKit

/-- A slice of wide numbers, and one of bools. -/
def Sw (w : World) (A : Option Addr) (n : Nat) (xs : Nat → Int) : Prop := 0 < n → ∃ b o, A = some ⟨b, o, none⟩ ∧ ∀ j, j < n → w.cell? ⟨b, o + j * 2, none⟩ = some (.int .u64 (hiZ (xs j))) ∧ w.cell? ⟨b, o + j * 2 + 1, none⟩ = some (.int .u64 (loZ (xs j)))
def Sb (w : World) (A : Option Addr) (n : Nat) (sg : Nat → Bool) : Prop := 0 < n → ∃ b o, A = some ⟨b, o, none⟩ ∧ ∀ j, j < n → w.cell? ⟨b, o + j, none⟩ = some (.bool (sg j))
theorem Sw.up {w w' : World} {A : Option Addr} {n : Nat} {xs : Nat → Int} (h : Sw w A n xs) (hu : Up w w') : Sw w' A n xs := fun hn => by
  obtain ⟨b, o, e, hc⟩ := h hn
  exact ⟨b, o, e, fun j hj => ⟨hu.keep _ _ _ (hc j hj).1, hu.keep _ _ _ (hc j hj).2⟩⟩
theorem Sb.up {w w' : World} {A : Option Addr} {n : Nat} {sg : Nat → Bool} (h : Sb w A n sg) (hu : Up w w') : Sb w' A n sg := fun hn => by
  obtain ⟨b, o, e, hc⟩ := h hn
  exact ⟨b, o, e, fun j hj => hu.keep _ _ _ (hc j hj)⟩
/-- What the walk of total holds. -/
structure Tr (w wr : World) (p q : Int) : Prop where
  up : Up w wr
  r0 : wr.cell? ⟨w.heap.size, 0, none⟩ = some (.int .u64 0)
  r1 : wr.cell? ⟨w.heap.size, 1, none⟩ = some (.int .u64 0)
  r2 : wr.cell? ⟨w.heap.size + 1, 0, none⟩ = some (.int .u64 0)
  r3 : wr.cell? ⟨w.heap.size + 1, 1, none⟩ = some (.int .u64 0)
  p0 : wr.cell? ⟨w.heap.size + 1 + 1, 0, none⟩ = some (.int .u64 (hiZ p))
  p1 : wr.cell? ⟨w.heap.size + 1 + 1, 1, none⟩ = some (.int .u64 (loZ p))
  q0 : wr.cell? ⟨w.heap.size + 1 + 1 + 1, 0, none⟩ = some (.int .u64 (hiZ q))
  q1 : wr.cell? ⟨w.heap.size + 1 + 1 + 1, 1, none⟩ = some (.int .u64 (loZ q))
theorem Tr.keep {w w1 w2 : World} {p q : Int} (h : Tr w w1 p q) (hu : Up w1 w2) : Tr w w2 p q :=
  ⟨h.up.trans hu, hu.keep _ _ _ h.r0, hu.keep _ _ _ h.r1, hu.keep _ _ _ h.r2, hu.keep _ _ _ h.r3, hu.keep _ _ _ h.p0, hu.keep _ _ _ h.p1, hu.keep _ _ _ h.q0, hu.keep _ _ _ h.q1⟩
end Go.Proofs.Ytinjainclhfahaa

namespace Go.Proofs.Ytinjainclhfahaa
open Go.RowKit

theorem wide_info : (Try.prog.info? 35).map (fun i => (i.zero, i.size, i.bytes)) = some (some (.agg #[.int .u64 0, .int .u64 0]), 2, 16) := by kernel_rfl
/-- What the loops hold: two rows of the call's own, and the item in block q. -/
structure Sg (w W : World) (q : Nat) (p0 p1 : Int) (A1 A2 : Option Addr) (i j k1 k2 : Nat) (cA cB : List Value) : Prop where
  a : Rw w W 35 2 (.slice A1 i k1) i cA
  b : Rw w W 4 1 (.slice A2 j k2) j cB
  ap : Apt A1 A2
  up : Up w W
  it : Blk W q 53 #[.int .i64 p0, .int .i64 p1]
theorem Sg.keep {w W W' : World} {q : Nat} {p0 p1 : Int} {A1 A2 : Option Addr} {i j k1 k2 : Nat} {cA cB : List Value} (h : Sg w W q p0 p1 A1 A2 i j k1 k2 cA cB) (hu : Up W W') : Sg w W' q p0 p1 A1 A2 i j k1 k2 cA cB :=
  ⟨h.a.of_up hu, h.b.of_up hu, h.ap, h.up.trans hu, h.it.up hu⟩
end Go.Proofs.Ytinjainclhfahaa

namespace Go.Proofs.Ytinjainclhfahaa
open Go.RowKit

/-- All fit. -/
def fitL (X : List Int) : Bool := X.all fits2
theorem fitL_iff {X : List Int} : fitL X = true ↔ ∀ x ∈ X, In2 x := by
  unfold fitL
  rw [List.all_eq_true]
  exact ⟨fun h x hx => (of_decide_eq_true (show decide (0 ≤ x ∧ x < 340282366920938463463374607431768211456) = true from h x hx) : 0 ≤ x ∧ x < 340282366920938463463374607431768211456), fun h x hx => fits2_yes (h x hx)⟩
theorem byL_mem {n : Nat} {f : Nat → Int} {x : Int} (h : x ∈ byL n f) : ∃ j, j < n ∧ f j = x := by
  unfold byL at h
  obtain ⟨j, hj, e⟩ := List.mem_map.1 h
  exact ⟨j, List.mem_range.1 hj, e⟩
theorem mem_byL {n j : Nat} {f : Nat → Int} (h : j < n) : f j ∈ byL n f := List.mem_map.2 ⟨j, List.mem_range.2 h, rfl⟩
theorem fitL_by {n : Nat} {f : Nat → Int} : fitL (byL n f) = true ↔ ∀ j, j < n → In2 (f j) := by
  rw [fitL_iff]
  exact ⟨fun h j hj => h _ (mem_byL hj), fun h x hx => by obtain ⟨j, hj, rfl⟩ := byL_mem hx; exact h j hj⟩
theorem fitL_no {n j : Nat} {f : Nat → Int} (h : j < n) (hf : ¬ In2 (f j)) : fitL (byL n f) = false := by
  rw [← Bool.not_eq_true, fitL_by]
  exact fun g => hf (g j h)
theorem getD_in {X : List Int} (h : ∀ x ∈ X, In2 x) (j : Nat) : In2 (X.getD j 0) := by
  by_cases g : j < X.length
  · rw [List.getD_eq_getElem?_getD, List.getElem?_eq_getElem g]; exact h _ (List.getElem_mem g)
  · rw [List.getD_eq_getElem?_getD, List.getElem?_eq_none (by omega)]; exact ⟨by decide, by decide⟩
/-- Powers of ages. -/
theorem age_pow {a : Int} (h0 : 0 ≤ a) (h1 : a ≤ 16777217) {j : Nat} (hj : j ≤ 4) : 0 ≤ a ^ j ∧ a ^ j ≤ 79228181396177107763200000000000 ∧ a ^ j ≤ 16777217 ^ j := by
  have h2 := pow_le_p h0 h1 j
  have h3 : 0 ≤ a ^ j := Int.pow_nonneg h0
  refine ⟨h3, ?_, h2⟩
  rcases (show j = 0 ∨ j = 1 ∨ j = 2 ∨ j = 3 ∨ j = 4 by omega) with h | h | h | h | h <;> subst h <;> exact Int.le_trans h2 (by decide)
theorem age_in {a : Int} (h0 : 0 ≤ a) (h1 : a ≤ 16777217) {j : Nat} (hj : j ≤ 4) : In2 (a ^ j) := by
  have := age_pow h0 h1 hj
  exact ⟨this.1, by omega⟩
theorem age_powV {a : Int} (h0 : 0 ≤ a) (h1 : a ≤ 16777217) {j : Nat} (hj : j ≤ 4) : powV a (j : Int) = a ^ j ∧ powB a (j : Int) = true := by
  obtain ⟨e1, e2⟩ := powV_nat a j
  rw [e1, e2]
  exact ⟨fit2_yes (age_in h0 h1 hj), fits2_yes (age_in h0 h1 hj)⟩
/-- A term of Add fits. -/
theorem term_in {a v : Int} (h0 : 0 ≤ a) (h1 : a ≤ 16777217) (hv0 : 0 ≤ v) (hv1 : v ≤ 4096) {j : Nat} (hj : j ≤ 4) : In2 (v * a ^ j) ∧ In2 (a ^ j * v) := by
  obtain ⟨p0, p1, _⟩ := age_pow h0 h1 hj
  have q0 := Int.mul_nonneg hv0 p0
  have q1 := Int.mul_le_mul hv1 p1 p0 (by omega)
  have e : a ^ j * v = v * a ^ j := Int.mul_comm _ _
  rw [e]
  exact ⟨⟨q0, by omega⟩, ⟨q0, by omega⟩⟩
end Go.Proofs.Ytinjainclhfahaa

namespace Go.Proofs.Ytinjainclhfahaa
open Go.RowKit

/-- A weight of Rebase fits. -/
theorem chZ_le {n k : Nat} (hn : n ≤ 4) (hk : k ≤ n) : 1 ≤ chZ n k ∧ chZ n k ≤ 6 := by
  rcases (show n = 0 ∨ n = 1 ∨ n = 2 ∨ n = 3 ∨ n = 4 by omega) with h | h | h | h | h <;> subst h <;>
  rcases (show k = 0 ∨ k = 1 ∨ k = 2 ∨ k = 3 ∨ k = 4 by omega) with g | g | g | g | g <;> subst g <;> first | omega | decide
theorem weight_in {d : Int} (h0 : 0 ≤ d) (h1 : d ≤ 16777217) {j i : Nat} (hj : j ≤ 4) (hi : i ≤ j) : In2 (d ^ (j - i) * chZ j i) := by
  obtain ⟨p0, p1, _⟩ := age_pow h0 h1 (show j - i ≤ 4 by omega)
  obtain ⟨c0, c1⟩ := chZ_le hj hi
  have q0 := Int.mul_nonneg p0 (show 0 ≤ chZ j i by omega)
  have q1 := Int.mul_le_mul p1 c1 (by omega) (by omega)
  exact ⟨q0, by omega⟩
/-- A rebased moment fits exactly if all of its terms and all of its partial sums do. -/
theorem reS_in {d : Int} {X : List Int} (hd : 0 ≤ d) (hX : ∀ x ∈ X, 0 ≤ x) (j n : Nat) : In2 (reS d X j (n + 1)) → In2 (reS d X j n) ∧ In2 (d ^ (j - n) * chZ j n * X.getD n 0) := by
  intro h
  have h1 := reS_up hd hX j n
  have h2 := reS_mono hd hX j (Nat.zero_le n)
  have h3 : reS d X j (n + 1) = reS d X j n + d ^ (j - n) * chZ j n * X.getD n 0 := rfl
  have h4 : reS d X j 0 = 0 := rfl
  rw [h3] at h
  obtain ⟨a, b⟩ := h
  exact ⟨⟨by omega, by omega⟩, ⟨h1, by omega⟩⟩
theorem reS_far {d : Int} {X : List Int} (hd : 0 ≤ d) (hX : ∀ x ∈ X, 0 ≤ x) (j : Nat) {m n : Nat} (h : m ≤ n) (hm : ¬ In2 (reS d X j m)) : ¬ In2 (reS d X j n) := by
  intro g
  have h1 := reS_mono hd hX j h
  have h2 := reS_mono hd hX j (Nat.zero_le m)
  have h4 : reS d X j 0 = 0 := rfl
  exact hm ⟨by omega, by have := g.2; omega⟩
end Go.Proofs.Ytinjainclhfahaa
