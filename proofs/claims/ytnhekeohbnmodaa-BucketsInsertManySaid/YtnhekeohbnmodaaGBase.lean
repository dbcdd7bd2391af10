/- The base of the walks over slices of items: what a call leaves of the world, a slice that reads as a list, a block that is known whole. -/
import Derived.Test.YtnhekeohbnmodaaWide
import Derived.Test.YtnhekeohbnmodaaWFormat
import Derived.Test.YtnhekeohbnmodaaBKeep
import Derived.Test.YtnhekeohbnmodaaRows
import Derived.WalkKit
import Derived.WalkSpells
import Derived.Lib.Hide
import Derived.Below
import Derived.Deep.QuietTactic
import Derived.BigQuiet
import Derived.Deep.Draws
import Derived.Deep.AppendLies
import Derived.Deep.RegionLaw
import Derived.Deep.RegionHeld3
import Derived.Deep.LoopGhost
import Derived.Deep.Cut
import Derived.Laws.OwnMore
import Derived.Laws.CopyOwn
import Derived.Laws.Rows
import Derived.Maps.AppendAt
import Derived.RegionTactic
import Derived.OwnWalk
import Derived.Great.BuildSlice
namespace Go.Proofs.Ytnhekeohbnmodaa
open Go.RowKit

/-- Pairs of int64, and their cells. -/
abbrev It := Int × Int
def fl : List It → List Value
  | [] => []
  | p :: L => .int .i64 p.1 :: .int .i64 p.2 :: fl L
theorem fl_length (L : List It) : (fl L).length = L.length * 2 := by
  induction L with
  | nil => rfl
  | cons p L ih => simp [fl, ih]; omega
theorem fl_append (L M : List It) : fl (L ++ M) = fl L ++ fl M := by
  induction L with
  | nil => rfl
  | cons p L ih => simp [fl, ih]
theorem fl_get0 (L : List It) (k : Nat) (h : k < L.length) : (fl L)[k * 2]? = some (.int .i64 (L[k]).1) := by
  induction L generalizing k with
  | nil => simp at h
  | cons p L ih =>
    cases k with
    | zero => rfl
    | succ k => rw [show (k + 1) * 2 = k * 2 + 1 + 1 by omega]; simpa [fl] using ih k (by simpa using h)
theorem fl_get1 (L : List It) (k : Nat) (h : k < L.length) : (fl L)[k * 2 + 1]? = some (.int .i64 (L[k]).2) := by
  induction L generalizing k with
  | nil => simp at h
  | cons p L ih =>
    cases k with
    | zero => rfl
    | succ k => rw [show (k + 1) * 2 + 1 = k * 2 + 1 + 1 + 1 by omega]; simpa [fl] using ih k (by simpa using h)
theorem fl_one (L : List It) : ∀ u ∈ fl L, u.oneCell' = true := by
  induction L with
  | nil => intro u hu; cases hu
  | cons p L ih =>
    intro u hu
    simp only [fl, List.mem_cons] at hu
    rcases hu with rfl | rfl | hu
    · rfl
    · rfl
    · exact ih u hu
theorem fl_drop (L : List It) (k : Nat) : (fl L).drop (k * 2) = fl (L.drop k) := by
  induction L generalizing k with
  | nil => simp [fl]
  | cons p L ih =>
    cases k with
    | zero => rfl
    | succ k => rw [show (k + 1) * 2 = k * 2 + 1 + 1 by omega]; simpa [fl] using ih k
theorem fl_take (L : List It) (k : Nat) : (fl L).take (k * 2) = fl (L.take k) := by
  induction L generalizing k with
  | nil => simp [fl]
  | cons p L ih =>
    cases k with
    | zero => rfl
    | succ k => rw [show (k + 1) * 2 = k * 2 + 1 + 1 by omega]; simpa [fl] using ih k
theorem fl_set (L : List It) (k : Nat) (p : It) : ((fl L).set (k * 2) (.int .i64 p.1)).set (k * 2 + 1) (.int .i64 p.2) = fl (L.set k p) := by
  induction L generalizing k with
  | nil => simp [fl]
  | cons q L ih =>
    cases k with
    | zero => rfl
    | succ k => rw [show (k + 1) * 2 = k * 2 + 1 + 1 by omega]; simpa [fl] using ih k

/-- A slice that reads as the list L. -/
def Sl (w : World) (A : Option Addr) (n : Nat) (L : List It) : Prop :=
  L.length = n ∧ (0 < n → ∃ b o, A = some ⟨b, o, none⟩ ∧ ∀ j u, (fl L)[j]? = some u → w.cell? ⟨b, o + j, none⟩ = some u)
theorem Sl.none_ {w : World} {A : Option Addr} : Sl w A 0 [] := ⟨rfl, fun h => absurd h (by omega)⟩
theorem Sl.at_ {w : World} {A : Option Addr} {n : Nat} {L : List It} (h : Sl w A n L) {k : Nat} (hk : k < n) :
    ∃ b o, A = some ⟨b, o, none⟩ ∧ w.cell? ⟨b, o + k * 2, none⟩ = some (.int .i64 (L.getD k (0, 0)).1) ∧ w.cell? ⟨b, o + k * 2 + 1, none⟩ = some (.int .i64 (L.getD k (0, 0)).2) := by
  obtain ⟨b, o, e, hc⟩ := h.2 (by omega)
  have hl : k < L.length := by rw [h.1]; exact hk
  refine ⟨b, o, e, ?_, ?_⟩
  · rw [hc _ _ (fl_get0 L k hl)]; simp [List.getD, hl]
  · rw [Nat.add_assoc, hc _ _ (fl_get1 L k hl)]; simp [List.getD, hl]
theorem Sl.up {w w' : World} {A : Option Addr} {n : Nat} {L : List It} (h : Sl w A n L) (hu : Up w w') : Sl w' A n L :=
  ⟨h.1, fun hn => by
    obtain ⟨b, o, e, hc⟩ := h.2 hn
    exact ⟨b, o, e, fun j u hj => hu.keep _ _ _ (hc j u hj)⟩⟩
/-- The cells s[k:], where A' is what the model makes of the address. -/
theorem Sl.cut {w : World} {A : Option Addr} {n : Nat} {L : List It} (h : Sl w A n L) {k cap : Nat} (hk : k ≤ n) (hc : n ≤ cap) :
    Sl w (if cap = k then A else A.map (·.add (k * 2))) (n - k) (L.drop k) := by
  refine ⟨by rw [List.length_drop, h.1], fun hn => ?_⟩
  obtain ⟨b, o, rfl, hcell⟩ := h.2 (by omega)
  rw [if_neg (by omega)]
  refine ⟨b, o + k * 2, by simp [add_at], fun j u hu => ?_⟩
  rw [Nat.add_assoc]
  exact hcell _ u (by rw [← fl_drop, List.getElem?_drop] at hu; exact hu)
theorem Sl.first {w : World} {A : Option Addr} {n : Nat} {L : List It} (h : Sl w A n L) {k : Nat} (hk : k ≤ n) : Sl w A k (L.take k) := by
  refine ⟨by rw [List.length_take, h.1]; omega, fun hn => ?_⟩
  obtain ⟨b, o, rfl, hcell⟩ := h.2 (by omega)
  refine ⟨b, o, rfl, fun j u hu => hcell j u ?_⟩
  rw [← fl_take, List.getElem?_take] at hu
  split at hu
  · exact hu
  · cases hu

/-- Block g is just the cells cs of element type t. -/
def Blk (w : World) (g : Nat) (t : TypeId) (cs : Array Value) : Prop := w.heap[g]? = some (.cells cs t (0, 0))
section
variable {w w' : World} {g : Nat} {t : TypeId} {cs : Array Value}
theorem Blk.lt (h : Blk w g t cs) : g < w.heap.size := by
  rcases Nat.lt_or_ge g w.heap.size with hlt | hge
  · exact hlt
  · unfold Blk at h; rw [Array.getElem?_eq_none hge] at h; cases h
theorem Blk.cell (h : Blk w g t cs) (i : Nat) : w.cell? ⟨g, i, none⟩ = cs[i]? := cell_of_row w g i cs t (0, 0) h
theorem Blk.frozen (h : Blk w g t cs) (i : Nat) : w.frozen? ⟨g, i, none⟩ = false := by
  unfold Blk at h
  simp [World.frozen?, h]
theorem Blk.new (w : World) (t : TypeId) (cs : Array Value) : Blk (w.alloc (.cells cs t)) w.heap.size t cs := heap_alloc_new w _
theorem Blk.drew (h : Blk w g t cs) : Blk w.drew g t cs := h
theorem Blk.drewN (h : Blk w g t cs) (n : Nat) : Blk (w.drewN n) g t cs := h
theorem Blk.alloc (h : Blk w g t cs) (o : Obj) : Blk (w.alloc o) g t cs := (Below.heap_alloc w o g h.lt).trans h
theorem Blk.set_ (h : Blk w g t cs) (i : Nat) (u : Value) : Blk (w.setCell ⟨g, i, none⟩ u) g t (cs.setIfInBounds i u) := by
  unfold Blk at h ⊢
  simp [World.setCell, Array.getElem?_modify, h]
theorem Blk.far (h : Blk w g t cs) {p : Addr} (hp : g ≠ p.block) (u : Value) : Blk (w.setCell p u) g t cs := (Below.heap_setCell w p u g hp).trans h
theorem Blk.up (h : Blk w g t cs) (hu : Up w w') : Blk w' g t cs := (hu.below.block g h.lt).trans h
end
/-- An append: what it leaves. -/
theorem Up.grownBy {w w1 w2 : World} (h : Up w w1) {row : Option Nat} (hg : w1.grownBy w2 row) (hr : ∀ k, row = some k → w.heap.size ≤ k) (hf : ∀ a, w2.frozen? a = w1.frozen? a) : Up w w2 := by
  have hb : Below w.heap.size w w2 := h.below.grown hg h.below.size hr
  refine ⟨⟨?_, fun a => (hf a).trans (h.grown.2.1 a), hb.size⟩, hb⟩
  refine ⟨hb.os, hb.output, fun i hi => ?_⟩
  rw [hb.block i hi]
  cases hw : w.heap[i]? with
  | none => rfl
  | some o => cases o with
    | cells c t fr => exact ⟨rfl, rfl, rfl, fun _ _ => rfl⟩
    | map es cl => exact Or.inr ⟨rfl, rfl⟩
    | _ => rfl

end Go.Proofs.Ytnhekeohbnmodaa
