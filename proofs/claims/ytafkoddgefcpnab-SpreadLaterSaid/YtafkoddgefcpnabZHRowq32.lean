/- Texts of these claims, one after the other. -/
import Derived.Test.YtafkoddgefcpnabRows
import Derived.Test.YtafkoddgefcpnabZESqq20
import Derived.Test.YtafkoddgefcpnabZHTallyq30
namespace Go.Proofs.Ytafkoddgefcpnab
open Go.RowKit

section
variable {w w' : World} {g k n : Nat} {L : List It}
end
theorem Cp.trans {w w' w2 : World} {g : Nat} (h : Cp w w' g) (h2 : Cp w' w2 g) : Cp w w2 g :=
  ⟨fun w0 h0 hg => h2.up w0 (h.up w0 h0 hg) hg, fun b hb => (h2.far b hb).trans (h.far b hb), h2.size.trans h.size, fun a => (h2.fr a).trans (h.fr a)⟩
end Go.Proofs.Ytafkoddgefcpnab

namespace Go.Proofs.Ytafkoddgefcpnab
open Go.RowKit

/-- The sum of the values that are not negative, that of the magnitudes of the others, and the whole sum. -/
def posZ (L : List It) : Int := (L.map (fun x => if x.2 < 0 then 0 else x.2)).sum
def negZ (L : List It) : Int := (L.map (fun x => if x.2 < 0 then -x.2 else 0)).sum
def smZ (L : List It) : Int := (L.map (fun x => x.2)).sum
theorem smZ_eq (L : List It) : smZ L = posZ L - negZ L := by
  induction L with
  | nil => simp [smZ, posZ, negZ]
  | cons x L ih => simp only [smZ, posZ, negZ, List.map_cons, List.sum_cons] at *; split <;> omega
theorem posZ_next {L : List It} {i : Nat} (hi : i < L.length) : posZ (L.take (i + 1)) = posZ (L.take i) + (if (L.getD i (0, 0)).2 < 0 then 0 else (L.getD i (0, 0)).2) := by rw [take_next hi]; simp [posZ]
theorem negZ_next {L : List It} {i : Nat} (hi : i < L.length) : negZ (L.take (i + 1)) = negZ (L.take i) + (if (L.getD i (0, 0)).2 < 0 then -(L.getD i (0, 0)).2 else 0) := by rw [take_next hi]; simp [negZ]
theorem posZ_le {L : List It} (h : InI L) : 0 ≤ posZ L ∧ posZ L ≤ L.length * 9223372036854775808 := by
  induction L with
  | nil => simp [posZ]
  | cons x L ih =>
    have h1 := (h x (by simp)).2
    have h2 := ih (fun y hy => h y (by simp [hy]))
    unfold In at h1
    simp only [posZ, List.map_cons, List.sum_cons, List.length_cons] at *
    split <;> omega
theorem negZ_le {L : List It} (h : InI L) : 0 ≤ negZ L ∧ negZ L ≤ L.length * 9223372036854775808 := by
  induction L with
  | nil => simp [negZ]
  | cons x L ih =>
    have h1 := (h x (by simp)).2
    have h2 := ih (fun y hy => h y (by simp [hy]))
    unfold In at h1
    simp only [negZ, List.map_cons, List.sum_cons, List.length_cons] at *
    split <;> omega
theorem InI.take {L : List It} (h : InI L) (i : Nat) : InI (L.take i) := fun x hx => h x (List.mem_of_mem_take hx)
/-- What the walk of total holds. -/
structure Tt (w wr : World) (p q : Int) : Prop where
  up : Up w wr
  r0 : wr.cell? ⟨w.heap.size, 0, none⟩ = some (.int .u64 0)
  r1 : wr.cell? ⟨w.heap.size, 1, none⟩ = some (.int .u64 0)
  a0 : wr.cell? ⟨w.heap.size + 1, 0, none⟩ = some (.int .u64 (hiZ p))
  a1 : wr.cell? ⟨w.heap.size + 1, 1, none⟩ = some (.int .u64 (loZ p))
  b0 : wr.cell? ⟨w.heap.size + 1 + 1, 0, none⟩ = some (.int .u64 (hiZ q))
  b1 : wr.cell? ⟨w.heap.size + 1 + 1, 1, none⟩ = some (.int .u64 (loZ q))
theorem Tt.keep {w w1 w2 : World} {p q : Int} (h : Tt w w1 p q) (hu : Up w1 w2) : Tt w w2 p q :=
  ⟨h.up.trans hu, hu.keep _ _ _ h.r0, hu.keep _ _ _ h.r1, hu.keep _ _ _ h.a0, hu.keep _ _ _ h.a1, hu.keep _ _ _ h.b0, hu.keep _ _ _ h.b1⟩
end Go.Proofs.Ytafkoddgefcpnab

namespace Go.Proofs.Ytafkoddgefcpnab
open Go.RowKit

/-- What the walks of sums hold: the result's cells, and the sum so far in block g. -/
structure Sm (w wr : World) (g : Nat) (s : Int) : Prop where
  up : Up w wr
  r0 : wr.cell? ⟨w.heap.size, 0, none⟩ = some (.int .u64 0)
  r1 : wr.cell? ⟨w.heap.size, 1, none⟩ = some (.int .u64 0)
  s0 : wr.cell? ⟨g, 0, none⟩ = some (.int .u64 (hiZ s))
  s1 : wr.cell? ⟨g, 1, none⟩ = some (.int .u64 (loZ s))
theorem Sm.keep {w w1 w2 : World} {g : Nat} {s : Int} (h : Sm w w1 g s) (hu : Up w1 w2) : Sm w w2 g s :=
  ⟨h.up.trans hu, hu.keep _ _ _ h.r0, hu.keep _ _ _ h.r1, hu.keep _ _ _ h.s0, hu.keep _ _ _ h.s1⟩
end Go.Proofs.Ytafkoddgefcpnab
