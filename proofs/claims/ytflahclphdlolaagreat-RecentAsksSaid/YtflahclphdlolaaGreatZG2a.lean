/- Texts of this claim, one after the other. -/
import Derived.Test.YtflahclphdlolaaGreatRows
import Derived.Below
import Derived.BigQuiet
import Derived.Carry
import Derived.ChangeSlices
import Derived.Deep.AppendLies
import Derived.Deep.Cut
import Derived.Deep.Draws
import Derived.Deep.LoopGhost
import Derived.Deep.QuietTactic
import Derived.Deep.RegionHeld3
import Derived.Deep.RegionLaw
import Derived.Deep.SlicePairs
import Derived.Great.BuildSlice
import Derived.Laws.CopyOwn
import Derived.Laws.IdiomStrings
import Derived.Laws.MakeOwn
import Derived.Laws.OwnMore
import Derived.Laws.Rows
import Derived.Lib.Hide
import Derived.Lib.Mul64
import Derived.Lib.SmallJoins
import Derived.Maps.AppendAt
import Derived.OpenShut
import Derived.OwnWalk
import Derived.ProofKit
import Derived.RegionTactic
import Derived.SizedLaws
import Derived.WalkKit
import Derived.WalkSpells
import Derived.Test.YtflahclphdlolaaGreatZG0a
import Derived.Test.YtflahclphdlolaaGreatZG1a
import Derived.Test.YtflahclphdlolaaGreatZWAdd
import Derived.Test.YtflahclphdlolaaGreatZWCmp
/- What wide.Format returns, and that the example of the chapter holds. -/
namespace Go.Proofs.YtflahclphdlolaaGreat
open Go.RowKit

theorem divShort10 (a : Int) (ha : In2 a) (w : World) :
    Calls Tryz.prog 90 #[.agg #[.int .u64 (hiZ a), .int .u64 (loZ a)], .int .u64 10] w fun e w' =>
      e = .returned (.tuple #[.agg #[.int .u64 (hiZ (a / 10)), .int .u64 (loZ (a / 10))], .int .u64 (a % 10)]) ∧ Up w w' := by
  have h := divShort_up (hiZ a) (loZ a) 10 (hiZ_word ha) (loZ_word a) word_10 (by decide) w
  rw [val_hilo] at h
  exact h
theorem isZero_v (a : Int) (ha : In2 a) (w : World) :
    Calls Tryz.prog 89 #[.agg #[.int .u64 (hiZ a), .int .u64 (loZ a)]] w fun e w' => e = .returned (.bool (zB a)) ∧ Up w w' := by
  have h := isZero_up (hiZ a) (loZ a) (hiZ_word ha) (loZ_word a) w
  rw [val_hilo] at h
  exact h

theorem frozen_new (w : World) (b o : Nat) : w.frozen? ⟨w.heap.size + b, o, none⟩ = false := by
  simp [World.frozen?]
theorem Up.keep {w w' : World} (h : Up w w') : ∀ b o v, w.cell? ⟨b, o, none⟩ = some v → w'.cell? ⟨b, o, none⟩ = some v := fun b o _ hv =>
  (h.cells.1 b o (World.block_lt_of_cell? w ⟨b, o, none⟩ hv)).trans hv
theorem Up.thru {w w' : World} (h : Up w w') : ∀ A, Up A w → Up A w' := fun _ k => k.trans h

theorem cell_far {w : World} {p : Addr} {v : Value} {b o : Nat} (h : p.block ≠ b) : (w.setCell p v).cell? ⟨b, o, none⟩ = w.cell? ⟨b, o, none⟩ :=
  World.cell?_setCell_other _ _ _ _ (fun e => h (by rw [e]))
theorem keep4 {w w1 w2 : World} {b0 o0 b1 o1 b2 o2 b3 o3 : Nat} {x0 x1 x2 x3 : Value} (hu : Hid (Up w1 w2))
    (h : Up w w1 ∧ w1.cell? ⟨b0, o0, none⟩ = some x0 ∧ w1.cell? ⟨b1, o1, none⟩ = some x1 ∧ w1.cell? ⟨b2, o2, none⟩ = some x2 ∧ w1.cell? ⟨b3, o3, none⟩ = some x3) :
    Up w w2 ∧ w2.cell? ⟨b0, o0, none⟩ = some x0 ∧ w2.cell? ⟨b1, o1, none⟩ = some x1 ∧ w2.cell? ⟨b2, o2, none⟩ = some x2 ∧ w2.cell? ⟨b3, o3, none⟩ = some x3 :=
  ⟨h.1.trans hu.out, hu.out.keep _ _ _ h.2.1, hu.out.keep _ _ _ h.2.2.1, hu.out.keep _ _ _ h.2.2.2.1, hu.out.keep _ _ _ h.2.2.2.2⟩

theorem keep6 {w w1 w2 : World} {b0 o0 b1 o1 b2 o2 b3 o3 b4 o4 b5 o5 : Nat} {x0 x1 x2 x3 x4 x5 : Value} (hu : Hid (Up w1 w2))
    (h : Up w w1 ∧ w1.cell? ⟨b0, o0, none⟩ = some x0 ∧ w1.cell? ⟨b1, o1, none⟩ = some x1 ∧ w1.cell? ⟨b2, o2, none⟩ = some x2 ∧ w1.cell? ⟨b3, o3, none⟩ = some x3 ∧ w1.cell? ⟨b4, o4, none⟩ = some x4 ∧ w1.cell? ⟨b5, o5, none⟩ = some x5) :
    Up w w2 ∧ w2.cell? ⟨b0, o0, none⟩ = some x0 ∧ w2.cell? ⟨b1, o1, none⟩ = some x1 ∧ w2.cell? ⟨b2, o2, none⟩ = some x2 ∧ w2.cell? ⟨b3, o3, none⟩ = some x3 ∧ w2.cell? ⟨b4, o4, none⟩ = some x4 ∧ w2.cell? ⟨b5, o5, none⟩ = some x5 :=
  ⟨h.1.trans hu.out, hu.out.keep _ _ _ h.2.1, hu.out.keep _ _ _ h.2.2.1, hu.out.keep _ _ _ h.2.2.2.1, hu.out.keep _ _ _ h.2.2.2.2.1, hu.out.keep _ _ _ h.2.2.2.2.2.1, hu.out.keep _ _ _ h.2.2.2.2.2.2⟩
theorem Up.less {w w' : World} (h : Up w w') : ∀ k, k < w.heap.size → k < w'.heap.size := fun _ k => Nat.lt_of_lt_of_le k h.size
theorem Up.own {w w' : World} (h : Up w w') (b o : Nat) : w'.frozen? ⟨w.heap.size + b, o, none⟩ = false := (h.cells.2 _).trans (frozen_new w b o)

theorem alloc6 {w w1 : World} {b0 o0 b1 o1 b2 o2 b3 o3 b4 o4 b5 o5 : Nat} {x0 x1 x2 x3 x4 x5 : Value} {c : Array Value} {t : TypeId}
    (h : Up w w1 ∧ w1.cell? ⟨b0, o0, none⟩ = some x0 ∧ w1.cell? ⟨b1, o1, none⟩ = some x1 ∧ w1.cell? ⟨b2, o2, none⟩ = some x2 ∧ w1.cell? ⟨b3, o3, none⟩ = some x3 ∧ w1.cell? ⟨b4, o4, none⟩ = some x4 ∧ w1.cell? ⟨b5, o5, none⟩ = some x5) :
    Up w (w1.alloc (.cells c t)) ∧ (w1.alloc (.cells c t)).cell? ⟨b0, o0, none⟩ = some x0 ∧ (w1.alloc (.cells c t)).cell? ⟨b1, o1, none⟩ = some x1 ∧ (w1.alloc (.cells c t)).cell? ⟨b2, o2, none⟩ = some x2 ∧ (w1.alloc (.cells c t)).cell? ⟨b3, o3, none⟩ = some x3 ∧ (w1.alloc (.cells c t)).cell? ⟨b4, o4, none⟩ = some x4 ∧ (w1.alloc (.cells c t)).cell? ⟨b5, o5, none⟩ = some x5 :=
  keep6 (Lib.hid ((Up.refl _).alloc _ _)) h
theorem set6 {w w1 : World} {b0 o0 b1 o1 b2 o2 b3 o3 b4 o4 b5 o5 : Nat} {x0 x1 x2 x3 x4 x5 : Value} {b o : Nat} {v : Value}
    (h : Up w w1 ∧ w1.cell? ⟨b0, o0, none⟩ = some x0 ∧ w1.cell? ⟨b1, o1, none⟩ = some x1 ∧ w1.cell? ⟨b2, o2, none⟩ = some x2 ∧ w1.cell? ⟨b3, o3, none⟩ = some x3 ∧ w1.cell? ⟨b4, o4, none⟩ = some x4 ∧ w1.cell? ⟨b5, o5, none⟩ = some x5)
    (hb : w.heap.size ≤ b) (n0 : b ≠ b0) (n1 : b ≠ b1) (n2 : b ≠ b2) (n3 : b ≠ b3) (n4 : b ≠ b4) (n5 : b ≠ b5) :
    Up w (w1.setCell ⟨b, o, none⟩ v) ∧ (w1.setCell ⟨b, o, none⟩ v).cell? ⟨b0, o0, none⟩ = some x0 ∧ (w1.setCell ⟨b, o, none⟩ v).cell? ⟨b1, o1, none⟩ = some x1 ∧ (w1.setCell ⟨b, o, none⟩ v).cell? ⟨b2, o2, none⟩ = some x2 ∧ (w1.setCell ⟨b, o, none⟩ v).cell? ⟨b3, o3, none⟩ = some x3 ∧ (w1.setCell ⟨b, o, none⟩ v).cell? ⟨b4, o4, none⟩ = some x4 ∧ (w1.setCell ⟨b, o, none⟩ v).cell? ⟨b5, o5, none⟩ = some x5 :=
  ⟨h.1.setCell hb v, (cell_far n0).trans h.2.1, (cell_far n1).trans h.2.2.1, (cell_far n2).trans h.2.2.2.1, (cell_far n3).trans h.2.2.2.2.1, (cell_far n4).trans h.2.2.2.2.2.1, (cell_far n5).trans h.2.2.2.2.2.2⟩
theorem base3n (w : World) (x0 x1 x2 x3 x4 x5 : Value) (t1 t2 t3 : TypeId) :
    Up w (((w.alloc (.cells #[x0, x1] t1)).alloc (.cells #[x2, x3] t2)).alloc (.cells #[x4, x5] t3)) ∧
    (((w.alloc (.cells #[x0, x1] t1)).alloc (.cells #[x2, x3] t2)).alloc (.cells #[x4, x5] t3)).cell? ⟨w.heap.size, 0, none⟩ = some x0 ∧ (((w.alloc (.cells #[x0, x1] t1)).alloc (.cells #[x2, x3] t2)).alloc (.cells #[x4, x5] t3)).cell? ⟨w.heap.size, 1, none⟩ = some x1 ∧
    (((w.alloc (.cells #[x0, x1] t1)).alloc (.cells #[x2, x3] t2)).alloc (.cells #[x4, x5] t3)).cell? ⟨w.heap.size + 1, 0, none⟩ = some x2 ∧ (((w.alloc (.cells #[x0, x1] t1)).alloc (.cells #[x2, x3] t2)).alloc (.cells #[x4, x5] t3)).cell? ⟨w.heap.size + 1, 1, none⟩ = some x3 ∧
    (((w.alloc (.cells #[x0, x1] t1)).alloc (.cells #[x2, x3] t2)).alloc (.cells #[x4, x5] t3)).cell? ⟨w.heap.size + 1 + 1, 0, none⟩ = some x4 ∧ (((w.alloc (.cells #[x0, x1] t1)).alloc (.cells #[x2, x3] t2)).alloc (.cells #[x4, x5] t3)).cell? ⟨w.heap.size + 1 + 1, 1, none⟩ = some x5 := by
  have k1 : ∀ o, (((w.alloc (.cells #[x0, x1] t1)).alloc (.cells #[x2, x3] t2)).alloc (.cells #[x4, x5] t3)).cell? ⟨w.heap.size, o, none⟩ = #[x0, x1][o]? := fun o => by
    rw [World.cell?_alloc_past _ _ _ (by rw [size_alloc, size_alloc]; omega), World.cell?_alloc_past _ _ _ (by rw [size_alloc]; omega), World.cell?_alloc_at _ _ _ _ rfl]
  have k2 : ∀ o, (((w.alloc (.cells #[x0, x1] t1)).alloc (.cells #[x2, x3] t2)).alloc (.cells #[x4, x5] t3)).cell? ⟨w.heap.size + 1, o, none⟩ = #[x2, x3][o]? := fun o => by
    rw [World.cell?_alloc_past _ _ _ (by rw [size_alloc, size_alloc]; omega), World.cell?_alloc_at _ _ _ _ (by rw [size_alloc])]
  have k3 : ∀ o, (((w.alloc (.cells #[x0, x1] t1)).alloc (.cells #[x2, x3] t2)).alloc (.cells #[x4, x5] t3)).cell? ⟨w.heap.size + 1 + 1, o, none⟩ = #[x4, x5][o]? := fun o => by
    rw [World.cell?_alloc_at _ _ _ _ (by rw [size_alloc, size_alloc])]
  exact ⟨((((Up.refl w).alloc _ _).alloc _ _).alloc _ _), k1 0, k1 1, k2 0, k2 1, k3 0, k3 1⟩

theorem drew6 {w w1 : World} {b0 o0 b1 o1 b2 o2 b3 o3 b4 o4 b5 o5 : Nat} {x0 x1 x2 x3 x4 x5 : Value}
    (h : Up w w1 ∧ w1.cell? ⟨b0, o0, none⟩ = some x0 ∧ w1.cell? ⟨b1, o1, none⟩ = some x1 ∧ w1.cell? ⟨b2, o2, none⟩ = some x2 ∧ w1.cell? ⟨b3, o3, none⟩ = some x3 ∧ w1.cell? ⟨b4, o4, none⟩ = some x4 ∧ w1.cell? ⟨b5, o5, none⟩ = some x5) :
    Up w w1.drew ∧ w1.drew.cell? ⟨b0, o0, none⟩ = some x0 ∧ w1.drew.cell? ⟨b1, o1, none⟩ = some x1 ∧ w1.drew.cell? ⟨b2, o2, none⟩ = some x2 ∧ w1.drew.cell? ⟨b3, o3, none⟩ = some x3 ∧ w1.drew.cell? ⟨b4, o4, none⟩ = some x4 ∧ w1.drew.cell? ⟨b5, o5, none⟩ = some x5 :=
  keep6 (Lib.hid (Up.refl _).drew) h

/-- Where the walk of Format is: m places are left, the rest of the number is a, the digits behind the places are l. -/
structure Fm (w wr : World) (m : Nat) (a : Int) (l : List UInt8) : Prop where
  up : Up w wr
  size : w.heap.size + 2 ≤ wr.heap.size
  hi : wr.cell? ⟨w.heap.size, 0, none⟩ = some (.int .u64 (hiZ a))
  lo : wr.cell? ⟨w.heap.size, 1, none⟩ = some (.int .u64 (loZ a))
  row : ∀ i, i < 39 → ∃ x : Int, wr.cell? ⟨w.heap.size + 1, i, none⟩ = some (.int .u8 x)
  len : l.length + m = 39
  dig : ∀ j (hj : j < l.length), wr.cell? ⟨w.heap.size + 1, m + j, none⟩ = some (.int .u8 (l[j].toNat : Int))
  fr : ∀ b o, wr.frozen? ⟨w.heap.size + b, o, none⟩ = false

theorem add_at (b o j : Nat) : (⟨b, o, none⟩ : Addr).add j = ⟨b, o + j, none⟩ := by
  unfold Addr.add
  by_cases h : j = 0
  · rw [if_pos h, h]; rfl
  · rw [if_neg h]
theorem cell_new {w : World} {c : Array Value} {t : TypeId} {o : Nat} : (w.alloc (.cells c t)).cell? ⟨w.heap.size, o, none⟩ = c[o]? := World.cell?_alloc_at c t _ _ rfl
theorem cell_set {w : World} {b o o' : Nat} {v u : Value} (h : w.cell? ⟨b, o', none⟩ = some u) :
    (w.setCell ⟨b, o, none⟩ v).cell? ⟨b, o', none⟩ = some (if o = o' then v else u) := by
  by_cases e : o = o'
  · subst e; rw [if_pos rfl]; exact World.cell?_setCell_same _ _ _ h
  · rw [if_neg e, World.cell?_setCell_other _ _ _ _ (by intro he; injection he; contradiction)]; exact h
theorem digit_toNat (n : Nat) (h : n < 10) : (UInt8.ofNat (48 + n)).toNat = 48 + n := by
  simp [UInt8.toNat_ofNat']; omega

theorem Fm.next {w wr w1 w2 : World} {m : Nat} {a : Int} {l : List UInt8} (hF : Fm w wr m a l) (hm : 1 ≤ m) (ha : 0 ≤ a) (hu1 : Up wr w1) {c : Array Value} {t : TypeId}
    (hu2 : Up ((w1.setCell ⟨w.heap.size + 1, m - 1, none⟩ (.int .u8 (48 + a % 10))).alloc (.cells c t)) w2) : Fm w w2 (m - 1) a (UInt8.ofNat (48 + a.toNat % 10) :: l) := by
  have s0 := hF.size
  have s1 := hu1.size
  have s2 := hu2.size
  rw [size_alloc, size_set] at s2
  have old : ∀ b o, b < w.heap.size + 2 → w2.cell? ⟨b, o, none⟩ = (w1.setCell ⟨w.heap.size + 1, m - 1, none⟩ (.int .u8 (48 + a % 10))).cell? ⟨b, o, none⟩ := fun b o hb => by
    rw [hu2.cells.1 b o (by rw [size_alloc, size_set]; omega)]
    exact World.cell?_alloc_past _ _ _ (by rw [size_set]; omega)
  have up1 : Up w (w1.setCell ⟨w.heap.size + 1, m - 1, none⟩ (.int .u8 (48 + a % 10))) := (hF.up.trans hu1).setCell (by show w.heap.size ≤ w.heap.size + 1; omega) _
  refine ⟨(up1.alloc c t).trans hu2, by omega, ?_, ?_, ?_, ?_, ?_, ?_⟩
  · rw [old _ _ (by omega), cell_far (by show w.heap.size + 1 ≠ w.heap.size; omega), hu1.cells.1 _ _ (by omega)]; exact hF.hi
  · rw [old _ _ (by omega), cell_far (by show w.heap.size + 1 ≠ w.heap.size; omega), hu1.cells.1 _ _ (by omega)]; exact hF.lo
  · intro i hi
    obtain ⟨x, hx⟩ := hF.row i hi
    have hx1 : w1.cell? ⟨w.heap.size + 1, i, none⟩ = some (.int .u8 x) := (hu1.cells.1 _ _ (by omega)).trans hx
    refine ⟨if m - 1 = i then 48 + a % 10 else x, ?_⟩
    rw [old _ _ (by omega), cell_set hx1]
    split <;> rfl
  · have := hF.len; simp; omega
  · intro j hj
    cases j with
    | zero =>
      obtain ⟨x, hx⟩ := hF.row (m - 1) (by have := hF.len; omega)
      have hx1 : w1.cell? ⟨w.heap.size + 1, m - 1, none⟩ = some (.int .u8 x) := (hu1.cells.1 _ _ (by omega)).trans hx
      rw [old _ _ (by omega), show m - 1 + 0 = m - 1 by omega, cell_set hx1, if_pos rfl]
      show some (Value.int .u8 (48 + a % 10)) = some (Value.int .u8 ((UInt8.ofNat (48 + a.toNat % 10)).toNat : Int))
      rw [digit_toNat _ (by omega)]
      congr 2
      omega
    | succ j =>
      have hj' : j < l.length := by simpa using hj
      have hd := hF.dig j hj'
      have hx1 : w1.cell? ⟨w.heap.size + 1, m + j, none⟩ = some (.int .u8 (l[j].toNat : Int)) := (hu1.cells.1 _ _ (by omega)).trans hd
      rw [show m - 1 + (j + 1) = m + j by omega, old _ _ (by omega), cell_set hx1, if_neg (by omega)]
      rfl
  · intro b o
    rw [hu2.cells.2, frozen?_alloc_cells, World.frozen?_setCell, hu1.cells.2]; exact hF.fr b o
theorem Fm.put {w w2 : World} {m : Nat} {a a' : Int} {l : List UInt8} (hF : Fm w w2 m a l) : Fm w ((w2.setCell ⟨w.heap.size, 0, none⟩ (.int .u64 (hiZ a'))).setCell ⟨w.heap.size, 1, none⟩ (.int .u64 (loZ a'))) m a' l := by
  have far : ∀ o, ((w2.setCell ⟨w.heap.size, 0, none⟩ (.int .u64 (hiZ a'))).setCell ⟨w.heap.size, 1, none⟩ (.int .u64 (loZ a'))).cell? ⟨w.heap.size + 1, o, none⟩ = w2.cell? ⟨w.heap.size + 1, o, none⟩ := fun o => by
    rw [cell_far (by show w.heap.size ≠ w.heap.size + 1; omega), cell_far (by show w.heap.size ≠ w.heap.size + 1; omega)]
  refine ⟨(hF.up.setCell (Nat.le_refl _) _).setCell (Nat.le_refl _) _, by rw [size_set, size_set]; exact hF.size, ?_, ?_, ?_, hF.len, ?_, ?_⟩
  · rw [cell_set (u := .int .u64 (hiZ a')) (by rw [cell_set hF.hi, if_pos rfl]), if_neg (by omega)]
  · rw [cell_set (u := .int .u64 (loZ a)) (by rw [cell_set hF.lo, if_neg (by omega)]), if_pos rfl]
  · intro i hi; rw [far]; exact hF.row i hi
  · intro j hj; rw [far]; exact hF.dig j hj
  · intro b o; rw [World.frozen?_setCell, World.frozen?_setCell]; exact hF.fr b o

theorem dec_awake : decs 18446744073709551616 = [49, 56, 52, 52, 54, 55, 52, 52, 48, 55, 51, 55, 48, 57, 53, 53, 49, 54, 49, 54] := by decide +kernel

end Go.Proofs.YtflahclphdlolaaGreat

/- The base of the walks over slices of items: what a call leaves of the world, a slice that reads as a list, a block that is known whole. -/
namespace Go.Proofs.YtflahclphdlolaaGreat
open Go.RowKit

theorem Up.ownGe {w w' : World} (h : Up w w') {g : Nat} (hg : w.heap.size ≤ g) (o : Nat) : w'.frozen? ⟨g, o, none⟩ = false := by
  obtain ⟨b, rfl⟩ := Nat.le.dest hg
  exact h.own b o
/-- Pairs of int64, and their cells. -/
abbrev It := Int × Int
def fl : List It → List Value
  | [] => []
  | p :: L => .int .i64 p.1 :: .int .i64 p.2 :: fl L
theorem fl_length (L : List It) : (fl L).length = L.length * 2 := by
  induction L with
  | nil => rfl
  | cons p L ih => simp [fl, ih]; omega
theorem fl_append (L M : List It) : fl (L ++ M) = fl L ++ fl M := by
  induction L with
  | nil => rfl
  | cons p L ih => simp [fl, ih]
theorem fl_get0 (L : List It) (k : Nat) (h : k < L.length) : (fl L)[k * 2]? = some (.int .i64 (L[k]).1) := by
  induction L generalizing k with
  | nil => simp at h
  | cons p L ih =>
    cases k with
    | zero => rfl
    | succ k => rw [show (k + 1) * 2 = k * 2 + 1 + 1 by omega]; simpa [fl] using ih k (by simpa using h)
theorem fl_get1 (L : List It) (k : Nat) (h : k < L.length) : (fl L)[k * 2 + 1]? = some (.int .i64 (L[k]).2) := by
  induction L generalizing k with
  | nil => simp at h
  | cons p L ih =>
    cases k with
    | zero => rfl
    | succ k => rw [show (k + 1) * 2 + 1 = k * 2 + 1 + 1 + 1 by omega]; simpa [fl] using ih k (by simpa using h)
theorem fl_one (L : List It) : ∀ u ∈ fl L, u.oneCell' = true := by
  induction L with
  | nil => intro u hu; cases hu
  | cons p L ih =>
    intro u hu
    simp only [fl, List.mem_cons] at hu
    rcases hu with rfl | rfl | hu
    · rfl
    · rfl
    · exact ih u hu
theorem fl_drop (L : List It) (k : Nat) : (fl L).drop (k * 2) = fl (L.drop k) := by
  induction L generalizing k with
  | nil => simp [fl]
  | cons p L ih =>
    cases k with
    | zero => rfl
    | succ k => rw [show (k + 1) * 2 = k * 2 + 1 + 1 by omega]; simpa [fl] using ih k
theorem fl_take (L : List It) (k : Nat) : (fl L).take (k * 2) = fl (L.take k) := by
  induction L generalizing k with
  | nil => simp [fl]
  | cons p L ih =>
    cases k with
    | zero => rfl
    | succ k => rw [show (k + 1) * 2 = k * 2 + 1 + 1 by omega]; simpa [fl] using ih k
theorem fl_set (L : List It) (k : Nat) (p : It) : ((fl L).set (k * 2) (.int .i64 p.1)).set (k * 2 + 1) (.int .i64 p.2) = fl (L.set k p) := by
  induction L generalizing k with
  | nil => simp [fl]
  | cons q L ih =>
    cases k with
    | zero => rfl
    | succ k => rw [show (k + 1) * 2 = k * 2 + 1 + 1 by omega]; simpa [fl] using ih k

/-- A slice that reads as the list L. -/
def Sl (w : World) (A : Option Addr) (n : Nat) (L : List It) : Prop :=
  L.length = n ∧ (0 < n → ∃ b o, A = some ⟨b, o, none⟩ ∧ ∀ j u, (fl L)[j]? = some u → w.cell? ⟨b, o + j, none⟩ = some u)
theorem Sl.none_ {w : World} {A : Option Addr} : Sl w A 0 [] := ⟨rfl, fun h => absurd h (by omega)⟩
theorem Sl.at_ {w : World} {A : Option Addr} {n : Nat} {L : List It} (h : Sl w A n L) {k : Nat} (hk : k < n) :
    ∃ b o, A = some ⟨b, o, none⟩ ∧ w.cell? ⟨b, o + k * 2, none⟩ = some (.int .i64 (L.getD k (0, 0)).1) ∧ w.cell? ⟨b, o + k * 2 + 1, none⟩ = some (.int .i64 (L.getD k (0, 0)).2) := by
  obtain ⟨b, o, e, hc⟩ := h.2 (by omega)
  have hl : k < L.length := by rw [h.1]; exact hk
  refine ⟨b, o, e, ?_, ?_⟩
  · rw [hc _ _ (fl_get0 L k hl)]; simp [List.getD, hl]
  · rw [Nat.add_assoc, hc _ _ (fl_get1 L k hl)]; simp [List.getD, hl]
theorem Sl.up {w w' : World} {A : Option Addr} {n : Nat} {L : List It} (h : Sl w A n L) (hu : Up w w') : Sl w' A n L :=
  ⟨h.1, fun hn => by
    obtain ⟨b, o, e, hc⟩ := h.2 hn
    exact ⟨b, o, e, fun j u hj => hu.keep _ _ _ (hc j u hj)⟩⟩
/-- The cells s[k:], where A' is what the model makes of the address. -/
theorem Sl.cut {w : World} {A : Option Addr} {n : Nat} {L : List It} (h : Sl w A n L) {k cap : Nat} (hk : k ≤ n) (hc : n ≤ cap) :
    Sl w (if cap = k then A else A.map (·.add (k * 2))) (n - k) (L.drop k) := by
  refine ⟨by rw [List.length_drop, h.1], fun hn => ?_⟩
  obtain ⟨b, o, rfl, hcell⟩ := h.2 (by omega)
  rw [if_neg (by omega)]
  refine ⟨b, o + k * 2, by simp [add_at], fun j u hu => ?_⟩
  rw [Nat.add_assoc]
  exact hcell _ u (by rw [← fl_drop, List.getElem?_drop] at hu; exact hu)
theorem Sl.first {w : World} {A : Option Addr} {n : Nat} {L : List It} (h : Sl w A n L) {k : Nat} (hk : k ≤ n) : Sl w A k (L.take k) := by
  refine ⟨by rw [List.length_take, h.1]; omega, fun hn => ?_⟩
  obtain ⟨b, o, rfl, hcell⟩ := h.2 (by omega)
  refine ⟨b, o, rfl, fun j u hu => hcell j u ?_⟩
  rw [← fl_take, List.getElem?_take] at hu
  split at hu
  · exact hu
  · cases hu

/-- Block g is just the cells cs of element type t. -/
def Blk (w : World) (g : Nat) (t : TypeId) (cs : Array Value) : Prop := w.heap[g]? = some (.cells cs t (0, 0))
section
variable {w w' : World} {g : Nat} {t : TypeId} {cs : Array Value}
theorem Blk.lt (h : Blk w g t cs) : g < w.heap.size := by
  rcases Nat.lt_or_ge g w.heap.size with hlt | hge
  · exact hlt
  · unfold Blk at h; rw [Array.getElem?_eq_none hge] at h; cases h
theorem Blk.cell (h : Blk w g t cs) (i : Nat) : w.cell? ⟨g, i, none⟩ = cs[i]? := cell_of_row w g i cs t (0, 0) h
theorem Blk.frozen (h : Blk w g t cs) (i : Nat) : w.frozen? ⟨g, i, none⟩ = false := by
  unfold Blk at h
  simp [World.frozen?, h]
theorem Blk.new (w : World) (t : TypeId) (cs : Array Value) : Blk (w.alloc (.cells cs t)) w.heap.size t cs := heap_alloc_new w _
theorem Blk.drew (h : Blk w g t cs) : Blk w.drew g t cs := h
theorem Blk.drewN (h : Blk w g t cs) (n : Nat) : Blk (w.drewN n) g t cs := h
theorem Blk.alloc (h : Blk w g t cs) (o : Obj) : Blk (w.alloc o) g t cs := (Below.heap_alloc w o g h.lt).trans h
theorem Blk.set_ (h : Blk w g t cs) (i : Nat) (u : Value) : Blk (w.setCell ⟨g, i, none⟩ u) g t (cs.setIfInBounds i u) := by
  unfold Blk at h ⊢
  simp [World.setCell, Array.getElem?_modify, h]
theorem Blk.far (h : Blk w g t cs) {p : Addr} (hp : g ≠ p.block) (u : Value) : Blk (w.setCell p u) g t cs := (Below.heap_setCell w p u g hp).trans h
theorem Blk.up (h : Blk w g t cs) (hu : Up w w') : Blk w' g t cs := (hu.below.block g h.lt).trans h
end
/-- A block of items. -/
def Bi (w : World) (g : Nat) (L : List It) : Prop := Blk w g 70 (fl L).toArray
theorem Bi.blk {w : World} {g : Nat} {L : List It} (h : Bi w g L) : Blk w g 70 (fl L).toArray := h
theorem Bi.sl {w : World} {g n : Nat} {L : List It} (h : Bi w g L) (hn : L.length = n) : Sl w (some ⟨g, 0, none⟩) n L :=
  ⟨hn, fun _ => ⟨g, 0, rfl, fun j u hj => by rw [Nat.zero_add, Blk.cell h j]; simpa using hj⟩⟩
theorem Bi.up {w w' : World} {g : Nat} {L : List It} (h : Bi w g L) (hu : Up w w') : Bi w' g L := Blk.up h hu
theorem Bi.at_ {w : World} {g : Nat} {L : List It} (h : Bi w g L) {k : Nat} (hk : k < L.length) :
    w.cell? ⟨g, k * 2, none⟩ = some (.int .i64 (L.getD k (0, 0)).1) ∧ w.cell? ⟨g, k * 2 + 1, none⟩ = some (.int .i64 (L.getD k (0, 0)).2) := by
  refine ⟨?_, ?_⟩
  · rw [Blk.cell h]; simp [fl_get0 L k hk, List.getD, hk]
  · rw [Blk.cell h]; simp [fl_get1 L k hk, List.getD, hk]
theorem Bi.set_ {w : World} {g : Nat} {L : List It} (h : Bi w g L) (k : Nat) (a b : Int) :
    Bi ((w.setCell ⟨g, k * 2, none⟩ (.int .i64 a)).setCell ⟨g, k * 2 + 1, none⟩ (.int .i64 b)) g (L.set k (a, b)) := by
  have h1 := Blk.set_ (Blk.set_ h (k * 2) (.int .i64 a)) (k * 2 + 1) (.int .i64 b)
  unfold Bi
  rw [← fl_set]
  simpa using h1

/-- An append: what it leaves. -/
theorem Up.grownBy {w w1 w2 : World} (h : Up w w1) {row : Option Nat} (hg : w1.grownBy w2 row) (hr : ∀ k, row = some k → w.heap.size ≤ k) (hf : ∀ a, w2.frozen? a = w1.frozen? a) : Up w w2 := by
  have hb : Below w.heap.size w w2 := h.below.grown hg h.below.size hr
  refine ⟨⟨?_, fun a => (hf a).trans (h.grown.2.1 a), hb.size⟩, hb⟩
  refine ⟨hb.os, hb.output, fun i hi => ?_⟩
  rw [hb.block i hi]
  cases hw : w.heap[i]? with
  | none => rfl
  | some o => cases o with
    | cells c t fr => exact ⟨rfl, rfl, rfl, fun _ _ => rfl⟩
    | map es cl => exact Or.inr ⟨rfl, rfl⟩
    | _ => rfl

end Go.Proofs.YtflahclphdlolaaGreat

/- How an argument that is a buffer, an item or a list of items is opened, and read again behind a call. -/
namespace Go.Proofs.YtflahclphdlolaaGreat
open Go.ChangeShapes Go.WideShapes Go.ChangeAt Go.RowKit Go.Joins Go.Deep

theorem item_cells : Tryz.prog.cellsOf 70 = 2 := by kernel_rfl
theorem int64_cells : Tryz.prog.cellsOf 2 = 1 := by kernel_rfl
theorem laid_out : laidOutB Tryz.prog = true := by kernel_rfl
section
variable {H : Type} {enc : TypeId × Value → H} {w : World} {base : Nat} {spare : Nat → Bool} {held : Bool}
theorem stay {t : TypeId} (hr : Tryz.prog.readableRec t = true) (hrow : t < Tryz.prog.types.size) {W W' : World} {v : Value} {d : DataW H} {ps before : List MemPlace} {sp : Nat → Bool}
    (h : DataW.Trod enc Tryz.prog W 0 (fun _ => true) true t v d ps) (hu : Up W W') (hlt : ∀ x ∈ before, x.block < W.heap.size) (hsub : ∀ x ∈ ps, x ∈ before) (hsp : ∀ x ∈ before, sp x.block = true) :
    DataW.Trod enc Tryz.prog W' 0 sp true t v d ps :=
  WideElems.Trod_stays laid_out hr hrow h (fun x hx => hu.below.same (hlt x (hsub x hx))) (fun x hx => hsp x (hsub x hx))
set_option maxRecDepth 100000 in
theorem cells_items {n : Nat} {cs : List Value} {x : DataW H × List MemPlace} (h : DataW.trod enc Tryz.prog w 0 (fun _ => true) held n 22 cs = some x) :
    ∃ (A : Option Addr) (len cap : Nat) (L : List It), cs = [.slice A len cap] ∧ len ≤ cap ∧ Sl w A len L := by
  rcases open_slice_pairs Tryz.underlying22 Tryz.underlying70 item_cells rfl rfl int64_cells int64_cells h with ⟨hc, hx⟩ | ⟨a, len, cap, m, k, V0, V1, D0, D1, P0, P1, hc, _, hl, hm, hmm, hx, hall⟩
  · exact ⟨none, 0, 0, [], hc, Nat.le_refl _, Sl.none_⟩
  · simp only [if_true] at hmm
    subst hmm
    have each : ∀ i, i < m → ∃ z : It, w.cell? (a.add (i * 2)) = some (.int .i64 z.1) ∧ w.cell? (a.add (i * 2 + 1)) = some (.int .i64 z.2) := fun i hi => by
      obtain ⟨h1, h2, h3, h4⟩ := hall i hi
      obtain ⟨z0, e0, _, _⟩ := DataW.trod_int Tryz.underlying2 h3
      obtain ⟨z1, e1, _, _⟩ := DataW.trod_int Tryz.underlying2 h4
      simp at e0 e1
      exact ⟨(z0, z1), by rw [h1, e0], by rw [h2, e1]⟩
    obtain ⟨z, hz⟩ := choose_lt each
    refine ⟨some a, len, m, (List.range len).map z, hc, hl, by simp, fun hn => ?_⟩
    have hsp : a.spot = none := by
      have := World.cell?_spot (hz 0 (by omega)).1
      simpa [Addr.add] using this
    obtain ⟨b, o, s⟩ := a
    simp at hsp
    subst hsp
    refine ⟨b, o, rfl, fun j u hj => ?_⟩
    have hjl : j < len * 2 := by
      rcases Nat.lt_or_ge j (len * 2) with g | g
      · exact g
      · rw [List.getElem?_eq_none (by rw [fl_length]; simp; omega)] at hj; cases hj
    have hk : j / 2 < ((List.range len).map z).length := by simp; omega
    obtain ⟨c0, c1⟩ := hz (j / 2) (by omega)
    rw [add_at] at c0 c1
    rcases (by omega : j = j / 2 * 2 ∨ j = j / 2 * 2 + 1) with e | e
    · have := fl_get0 _ _ hk
      rw [← e, hj] at this
      rw [← e] at c0
      rw [c0, this]; simp
    · have := fl_get1 _ _ hk
      rw [← e, hj] at this
      rw [← e] at c1
      rw [c1, this]; simp
set_option maxRecDepth 100000 in
theorem open_item {r : Reach} {b0 : Nat} {v : Value} {d : DataW H} {p : List MemPlace} (hv : Value.okWide Tryz.prog w r b0 70 v) (h : DataW.Trod enc Tryz.prog w 0 (fun _ => true) held 70 v d p) :
    ∃ (x0 x1 : Int), v = .agg #[.int .i64 x0, .int .i64 x1] := by
  obtain ⟨v0, v1, y0, y1, n, rfl, _, _, h0, h1⟩ := open_agg2 Tryz.underlying70 (by kernel_rfl) item_cells hv h
  obtain ⟨c, ec, _, _⟩ := DataW.trod_int Tryz.underlying2 h0
  obtain ⟨h', eh, _, _⟩ := DataW.trod_int Tryz.underlying2 h1
  simp at ec eh
  subst ec eh
  exact ⟨c, h', rfl⟩
set_option maxRecDepth 100000 in
theorem open_items {r : Reach} {b0 : Nat} {v : Value} {d : DataW H} {p : List MemPlace} (hv : Value.okWide Tryz.prog w r b0 22 v) (h : DataW.Trod enc Tryz.prog w 0 (fun _ => true) held 22 v d p) :
    ∃ (n k : Nat) (A : Option Addr) (L : List It), v = .slice A n k ∧ n ≤ k ∧ Sl w A n L := by
  obtain ⟨fuel, hf⟩ := h
  obtain ⟨A, len, cap, L, es, hl, hS⟩ := cells_items hf
  obtain ⟨a, n, c, rfl⟩ := okWide_slice Tryz.underlying22 hv
  simp [Value.cells] at es
  obtain ⟨rfl, rfl, rfl⟩ := es
  exact ⟨_, _, _, L, rfl, hl, hS⟩
end
end Go.Proofs.YtflahclphdlolaaGreat

/- Cells that stay as they were. -/
namespace Go.Proofs.YtflahclphdlolaaGreat
open Go.RowKit

theorem keep2 {w w1 w2 : World} {b0 o0 b1 o1 : Nat} {x0 x1 : Value} (hu : Hid (Up w1 w2)) (h : Up w w1 ∧ w1.cell? ⟨b0, o0, none⟩ = some x0 ∧ w1.cell? ⟨b1, o1, none⟩ = some x1) :
    Up w w2 ∧ w2.cell? ⟨b0, o0, none⟩ = some x0 ∧ w2.cell? ⟨b1, o1, none⟩ = some x1 :=
  ⟨h.1.trans hu.out, hu.out.keep _ _ _ h.2.1, hu.out.keep _ _ _ h.2.2⟩
theorem keep3 {w w1 w2 : World} {b0 o0 b1 o1 b2 o2 : Nat} {x0 x1 x2 : Value} (hu : Hid (Up w1 w2)) (h : Up w w1 ∧ w1.cell? ⟨b0, o0, none⟩ = some x0 ∧ w1.cell? ⟨b1, o1, none⟩ = some x1 ∧ w1.cell? ⟨b2, o2, none⟩ = some x2) :
    Up w w2 ∧ w2.cell? ⟨b0, o0, none⟩ = some x0 ∧ w2.cell? ⟨b1, o1, none⟩ = some x1 ∧ w2.cell? ⟨b2, o2, none⟩ = some x2 :=
  ⟨h.1.trans hu.out, hu.out.keep _ _ _ h.2.1, hu.out.keep _ _ _ h.2.2.1, hu.out.keep _ _ _ h.2.2.2⟩
theorem keep5 {w w1 w2 : World} {b0 o0 b1 o1 b2 o2 b3 o3 b4 o4 : Nat} {x0 x1 x2 x3 x4 : Value} (hu : Hid (Up w1 w2)) (h : Up w w1 ∧ w1.cell? ⟨b0, o0, none⟩ = some x0 ∧ w1.cell? ⟨b1, o1, none⟩ = some x1 ∧ w1.cell? ⟨b2, o2, none⟩ = some x2 ∧ w1.cell? ⟨b3, o3, none⟩ = some x3 ∧ w1.cell? ⟨b4, o4, none⟩ = some x4) :
    Up w w2 ∧ w2.cell? ⟨b0, o0, none⟩ = some x0 ∧ w2.cell? ⟨b1, o1, none⟩ = some x1 ∧ w2.cell? ⟨b2, o2, none⟩ = some x2 ∧ w2.cell? ⟨b3, o3, none⟩ = some x3 ∧ w2.cell? ⟨b4, o4, none⟩ = some x4 :=
  ⟨h.1.trans hu.out, hu.out.keep _ _ _ h.2.1, hu.out.keep _ _ _ h.2.2.1, hu.out.keep _ _ _ h.2.2.2.1, hu.out.keep _ _ _ h.2.2.2.2.1, hu.out.keep _ _ _ h.2.2.2.2.2⟩
theorem keep7 {w w1 w2 : World} {b0 o0 b1 o1 b2 o2 b3 o3 b4 o4 b5 o5 b6 o6 : Nat} {x0 x1 x2 x3 x4 x5 x6 : Value} (hu : Hid (Up w1 w2)) (h : Up w w1 ∧ w1.cell? ⟨b0, o0, none⟩ = some x0 ∧ w1.cell? ⟨b1, o1, none⟩ = some x1 ∧ w1.cell? ⟨b2, o2, none⟩ = some x2 ∧ w1.cell? ⟨b3, o3, none⟩ = some x3 ∧ w1.cell? ⟨b4, o4, none⟩ = some x4 ∧ w1.cell? ⟨b5, o5, none⟩ = some x5 ∧ w1.cell? ⟨b6, o6, none⟩ = some x6) :
    Up w w2 ∧ w2.cell? ⟨b0, o0, none⟩ = some x0 ∧ w2.cell? ⟨b1, o1, none⟩ = some x1 ∧ w2.cell? ⟨b2, o2, none⟩ = some x2 ∧ w2.cell? ⟨b3, o3, none⟩ = some x3 ∧ w2.cell? ⟨b4, o4, none⟩ = some x4 ∧ w2.cell? ⟨b5, o5, none⟩ = some x5 ∧ w2.cell? ⟨b6, o6, none⟩ = some x6 :=
  ⟨h.1.trans hu.out, hu.out.keep _ _ _ h.2.1, hu.out.keep _ _ _ h.2.2.1, hu.out.keep _ _ _ h.2.2.2.1, hu.out.keep _ _ _ h.2.2.2.2.1, hu.out.keep _ _ _ h.2.2.2.2.2.1, hu.out.keep _ _ _ h.2.2.2.2.2.2.1, hu.out.keep _ _ _ h.2.2.2.2.2.2.2⟩
theorem keep8 {w w1 w2 : World} {b0 o0 b1 o1 b2 o2 b3 o3 b4 o4 b5 o5 b6 o6 b7 o7 : Nat} {x0 x1 x2 x3 x4 x5 x6 x7 : Value} (hu : Hid (Up w1 w2)) (h : Up w w1 ∧ w1.cell? ⟨b0, o0, none⟩ = some x0 ∧ w1.cell? ⟨b1, o1, none⟩ = some x1 ∧ w1.cell? ⟨b2, o2, none⟩ = some x2 ∧ w1.cell? ⟨b3, o3, none⟩ = some x3 ∧ w1.cell? ⟨b4, o4, none⟩ = some x4 ∧ w1.cell? ⟨b5, o5, none⟩ = some x5 ∧ w1.cell? ⟨b6, o6, none⟩ = some x6 ∧ w1.cell? ⟨b7, o7, none⟩ = some x7) :
    Up w w2 ∧ w2.cell? ⟨b0, o0, none⟩ = some x0 ∧ w2.cell? ⟨b1, o1, none⟩ = some x1 ∧ w2.cell? ⟨b2, o2, none⟩ = some x2 ∧ w2.cell? ⟨b3, o3, none⟩ = some x3 ∧ w2.cell? ⟨b4, o4, none⟩ = some x4 ∧ w2.cell? ⟨b5, o5, none⟩ = some x5 ∧ w2.cell? ⟨b6, o6, none⟩ = some x6 ∧ w2.cell? ⟨b7, o7, none⟩ = some x7 :=
  ⟨h.1.trans hu.out, hu.out.keep _ _ _ h.2.1, hu.out.keep _ _ _ h.2.2.1, hu.out.keep _ _ _ h.2.2.2.1, hu.out.keep _ _ _ h.2.2.2.2.1, hu.out.keep _ _ _ h.2.2.2.2.2.1, hu.out.keep _ _ _ h.2.2.2.2.2.2.1, hu.out.keep _ _ _ h.2.2.2.2.2.2.2.1, hu.out.keep _ _ _ h.2.2.2.2.2.2.2.2⟩
theorem set2 {w w1 : World} {b0 o0 b1 o1 : Nat} {x0 x1 : Value} {b o : Nat} {v : Value} (h : Up w w1 ∧ w1.cell? ⟨b0, o0, none⟩ = some x0 ∧ w1.cell? ⟨b1, o1, none⟩ = some x1) (hb : w.heap.size ≤ b) (n0 : b ≠ b0) (n1 : b ≠ b1) :
    Up w (w1.setCell ⟨b, o, none⟩ v) ∧ (w1.setCell ⟨b, o, none⟩ v).cell? ⟨b0, o0, none⟩ = some x0 ∧ (w1.setCell ⟨b, o, none⟩ v).cell? ⟨b1, o1, none⟩ = some x1 :=
  ⟨h.1.setCell hb v, (cell_far n0).trans h.2.1, (cell_far n1).trans h.2.2⟩
theorem set3 {w w1 : World} {b0 o0 b1 o1 b2 o2 : Nat} {x0 x1 x2 : Value} {b o : Nat} {v : Value} (h : Up w w1 ∧ w1.cell? ⟨b0, o0, none⟩ = some x0 ∧ w1.cell? ⟨b1, o1, none⟩ = some x1 ∧ w1.cell? ⟨b2, o2, none⟩ = some x2) (hb : w.heap.size ≤ b) (n0 : b ≠ b0) (n1 : b ≠ b1) (n2 : b ≠ b2) :
    Up w (w1.setCell ⟨b, o, none⟩ v) ∧ (w1.setCell ⟨b, o, none⟩ v).cell? ⟨b0, o0, none⟩ = some x0 ∧ (w1.setCell ⟨b, o, none⟩ v).cell? ⟨b1, o1, none⟩ = some x1 ∧ (w1.setCell ⟨b, o, none⟩ v).cell? ⟨b2, o2, none⟩ = some x2 :=
  ⟨h.1.setCell hb v, (cell_far n0).trans h.2.1, (cell_far n1).trans h.2.2.1, (cell_far n2).trans h.2.2.2⟩
theorem set5 {w w1 : World} {b0 o0 b1 o1 b2 o2 b3 o3 b4 o4 : Nat} {x0 x1 x2 x3 x4 : Value} {b o : Nat} {v : Value} (h : Up w w1 ∧ w1.cell? ⟨b0, o0, none⟩ = some x0 ∧ w1.cell? ⟨b1, o1, none⟩ = some x1 ∧ w1.cell? ⟨b2, o2, none⟩ = some x2 ∧ w1.cell? ⟨b3, o3, none⟩ = some x3 ∧ w1.cell? ⟨b4, o4, none⟩ = some x4) (hb : w.heap.size ≤ b) (n0 : b ≠ b0) (n1 : b ≠ b1) (n2 : b ≠ b2) (n3 : b ≠ b3) (n4 : b ≠ b4) :
    Up w (w1.setCell ⟨b, o, none⟩ v) ∧ (w1.setCell ⟨b, o, none⟩ v).cell? ⟨b0, o0, none⟩ = some x0 ∧ (w1.setCell ⟨b, o, none⟩ v).cell? ⟨b1, o1, none⟩ = some x1 ∧ (w1.setCell ⟨b, o, none⟩ v).cell? ⟨b2, o2, none⟩ = some x2 ∧ (w1.setCell ⟨b, o, none⟩ v).cell? ⟨b3, o3, none⟩ = some x3 ∧ (w1.setCell ⟨b, o, none⟩ v).cell? ⟨b4, o4, none⟩ = some x4 :=
  ⟨h.1.setCell hb v, (cell_far n0).trans h.2.1, (cell_far n1).trans h.2.2.1, (cell_far n2).trans h.2.2.2.1, (cell_far n3).trans h.2.2.2.2.1, (cell_far n4).trans h.2.2.2.2.2⟩

end Go.Proofs.YtflahclphdlolaaGreat

/- What math/bits.Mul64 and the products of package wide, and of its reference, return; magnitudes, signs and the comparison of two products. -/
namespace Go.Proofs.YtflahclphdlolaaGreat
open Go.RowKit

theorem low32n (a : Nat) (ha : a < 18446744073709551616) : bits .and .u64 (a : Int) 4294967295 = ((a % 4294967296 : Nat) : Int) := by
  have h := bits_and_u64_nat a 4294967295 ha (by omega)
  rw [show a &&& 4294967295 = a % 4294967296 from Nat.and_two_pow_sub_one_eq_mod a 32] at h
  exact h
theorem high32 (a : Nat) : (a : Int) / 4294967296 = ((a / 4294967296 : Nat) : Int) := by omega
theorem upMul (a b : Nat) : (a : Int) * (b : Int) = ((a * b : Nat) : Int) := (Int.natCast_mul a b).symm
theorem upAdd (a b : Nat) : (a : Int) + (b : Int) = ((a + b : Nat) : Int) := (Int.natCast_add a b).symm
theorem keep64 (a : Nat) (ha : a < 18446744073709551616) : IntKind.u64.wrap (a : Int) = (a : Int) := by rw [IntKind.wrap_u64]; omega
theorem cut64 (a : Nat) : IntKind.u64.wrap (a : Int) = ((a % 18446744073709551616 : Nat) : Int) := by rw [IntKind.wrap_u64]; omega

set_option maxHeartbeats 1000000 in
theorem mul64_any (x y : Nat) (hx : x < 18446744073709551616) (hy : y < 18446744073709551616) (w : World) :
    Calls Tryz.prog 88 #[.int .u64 (x : Int), .int .u64 (y : Int)] w fun e w' =>
      e = .returned (.tuple #[.int .u64 ((x * y / 18446744073709551616 : Nat) : Int), .int .u64 ((x * y % 18446744073709551616 : Nat) : Int)]) ∧ w = w' := by
  obtain ⟨bd, bt, bw, hhi⟩ := Go.Lib.mul64_hi x y hx hy
  have ba := Go.Lib.half_mul_le (a := x / 4294967296) (b := y / 4294967296) (by omega) (by omega)
  have bb := Go.Lib.half_mul_le (a := x / 4294967296) (b := y % 4294967296) (by omega) (by omega)
  have bc := Go.Lib.half_mul_le (a := x % 4294967296) (b := y / 4294967296) (by omega) (by omega)
  have ba' : x / 4294967296 * (y / 4294967296) < 18446744073709551616 := by omega
  have bb' : x / 4294967296 * (y % 4294967296) < 18446744073709551616 := by omega
  have bc' : x % 4294967296 * (y / 4294967296) < 18446744073709551616 := by omega
  have bh1 : x / 4294967296 * (y / 4294967296) + (x / 4294967296 * (y % 4294967296) + x % 4294967296 * (y % 4294967296) / 4294967296) / 4294967296 < 18446744073709551616 := by omega
  have bh : x / 4294967296 * (y / 4294967296) + (x / 4294967296 * (y % 4294967296) + x % 4294967296 * (y % 4294967296) / 4294967296) / 4294967296 + ((x / 4294967296 * (y % 4294967296) + x % 4294967296 * (y % 4294967296) / 4294967296) % 4294967296 + x % 4294967296 * (y / 4294967296)) / 4294967296 < 18446744073709551616 := by omega
  have HH := Lib.hid hhi
  clear hhi
  go_enter Tryz.func88, Tryz.ntmps88
  go_wp2
  simp only [low32n x hx, low32n y hy, high32, upMul, upAdd, keep64 _ bd, keep64 _ bb', keep64 _ bt, low32n _ bt, keep64 _ bc', keep64 _ bw, keep64 _ ba', keep64 _ bh1, keep64 _ bh, cut64 (x * y)]
  rw [HH.out]
  go_ret2
  exact ⟨rfl, rfl⟩

theorem mul64z (x y : Int) (hx : Word x) (hy : Word y) (w : World) :
    Calls Tryz.prog 88 #[.int .u64 x, .int .u64 y] w fun e w' => e = .returned (.tuple #[.int .u64 (hiZ (x * y)), .int .u64 (loZ (x * y))]) ∧ w = w' := by
  obtain ⟨a1, a2⟩ := hx; obtain ⟨b1, b2⟩ := hy
  obtain ⟨n, rfl⟩ := Int.eq_ofNat_of_zero_le a1
  obtain ⟨m, rfl⟩ := Int.eq_ofNat_of_zero_le b1
  refine (mul64_any n m (by omega) (by omega) w).mono ?_
  rintro e w' ⟨rfl, rfl⟩
  refine ⟨?_, rfl⟩
  unfold hiZ loZ
  rw [← Int.natCast_mul]
  generalize n * m = p
  congr 5 <;> omega
theorem mul_word {x y : Int} (hx : Word x) (hy : Word y) : In2 (x * y) := by
  obtain ⟨a1, a2⟩ := hx; obtain ⟨b1, b2⟩ := hy
  have h1 := Int.mul_nonneg a1 b1
  have h2 : x * y ≤ 18446744073709551615 * 18446744073709551615 := Int.mul_le_mul (by omega) (by omega) b1 (by omega)
  exact ⟨h1, by omega⟩

theorem product_up (x y : Int) (hx : Word x) (hy : Word y) (w : World) :
    Calls Tryz.prog 71 #[.int .u64 x, .int .u64 y] w fun e w' => e = .returned (.agg #[.int .u64 (hiZ (x * y)), .int .u64 (loZ (x * y))]) ∧ Up w w' := by
  go_enter Tryz.func71, Tryz.ntmps71
  go_wp2_with fail
  refine (mul64z x y hx hy _).mono ?_
  rintro e w' ⟨rfl, rfl⟩
  go_wp2
  refine bodyPost_ret (v := .agg #[.int .u64 (hiZ (x * y)), .int .u64 (loZ (x * y))]) (by simp [results, Tryz.results71, go_sem]) rfl ⟨?_, ?_⟩
  · rfl
  · repeat (first | exact Up.refl _ | refine Up.alloc ?_ _ _ | refine Up.setCell ?_ (by first | (simp; done) | (simp; omega) | omega) _ | refine Up.drewN ?_ _ | refine Up.drew ?_)

theorem rproduct_up (x y : Int) (hx : Word x) (hy : Word y) (w : World) :
    Calls Tryz.prog 82 #[.int .u64 x, .int .u64 y] w fun e w' => e = .returned (.agg #[.int .u64 (hiZ (x * y)), .int .u64 (loZ (x * y))]) ∧ Up w w' := by
  go_enter Tryz.func82, Tryz.ntmps82
  go_wp2_with fail
  refine (mul64z x y hx hy _).mono ?_
  rintro e w' ⟨rfl, rfl⟩
  go_wp2
  refine bodyPost_ret (v := .agg #[.int .u64 (hiZ (x * y)), .int .u64 (loZ (x * y))]) (by simp [results, Tryz.results82, go_sem]) rfl ⟨?_, ?_⟩
  · rfl
  · repeat (first | exact Up.refl _ | refine Up.alloc ?_ _ _ | refine Up.setCell ?_ (by first | (simp; done) | (simp; omega) | omega) _ | refine Up.drewN ?_ _ | refine Up.drew ?_)

/-! ### The comparison of two products -/
theorem rabs_any (a : Int) (ha : In a) (w : World) :
    Calls Tryz.prog 56 #[.int .i64 a] w fun e w' => e = .returned (.int .u64 (a.natAbs : Int)) ∧ w = w' := by
  obtain ⟨a1, a2⟩ := ha
  by_cases hn : a < 0
  · have H := Lib.hid (show -(a + 1) + 1 = (a.natAbs : Int) by omega)
    go_enter Tryz.func56, Tryz.ntmps56
    go_wp2
    go_ret
    exact ⟨by rw [← H.out]; rfl, rfl⟩
  · have H := Lib.hid (show a = (a.natAbs : Int) by omega)
    go_enter Tryz.func56, Tryz.ntmps56
    go_wp2
    go_ret
    exact ⟨by rw [← H.out]; rfl, rfl⟩

/-- -1, 0 or 1, as the product of a and b is to that of c and d. -/
def crossZ (a b c d : Int) : Int :=
  if cmpZ a 0 * cmpZ b 0 = cmpZ c 0 * cmpZ d 0 then cmpZ a 0 * cmpZ b 0 * cmpZ ((a.natAbs : Int) * (b.natAbs : Int)) ((c.natAbs : Int) * (d.natAbs : Int))
  else cmpZ (cmpZ a 0 * cmpZ b 0) (cmpZ c 0 * cmpZ d 0)
theorem unit_mul {x y : Int} (hx : -1 ≤ x ∧ x ≤ 1) (hy : -1 ≤ y ∧ y ≤ 1) : -1 ≤ x * y ∧ x * y ≤ 1 := by
  rcases (by omega : x = -1 ∨ x = 0 ∨ x = 1) with h | h | h <;> subst h <;> omega
theorem crossZ_bound (a b c d : Int) : -1 ≤ crossZ a b c d ∧ crossZ a b c d ≤ 1 := by
  unfold crossZ
  split
  · exact unit_mul (unit_mul (cmpZ_bound _ _) (cmpZ_bound _ _)) (cmpZ_bound _ _)
  · exact cmpZ_bound _ _
theorem crossZ_anti (a b c d : Int) : crossZ c d a b = -crossZ a b c d := by
  unfold crossZ
  by_cases h : cmpZ a 0 * cmpZ b 0 = cmpZ c 0 * cmpZ d 0
  · rw [if_pos h, if_pos h.symm, ← h, cmpZ_anti ((a.natAbs : Int) * (b.natAbs : Int)), Int.mul_neg]
  · rw [if_neg h, if_neg (fun e => h e.symm), cmpZ_anti (cmpZ a 0 * cmpZ b 0)]
theorem abs_word {a : Int} (ha : In a) : Word (a.natAbs : Int) := by obtain ⟨a1, a2⟩ := ha; exact ⟨by omega, by omega⟩

theorem rcompare_v (x y : Int) (hx : In2 x) (hy : In2 y) (w : World) :
    Calls Tryz.prog 96 #[.agg #[.int .u64 (hiZ x), .int .u64 (loZ x)], .agg #[.int .u64 (hiZ y), .int .u64 (loZ y)]] w fun e w' => e = .returned (.int .i64 (cmpZ x y)) ∧ Up w w' := by
  have h := rcompare_up (hiZ x) (loZ x) (hiZ y) (loZ y) (hiZ_word hx) (loZ_word x) (hiZ_word hy) (loZ_word y) w
  rw [val_hilo, val_hilo] at h
  exact h

end Go.Proofs.YtflahclphdlolaaGreat

/- Plain facts on the cells of ring buffers. -/
namespace Go.Proofs.YtflahclphdlolaaGreat

/-- The cells of a buffer with c cells, head h and the elements M. -/
def ofL (c h : Nat) (M : List It) : List It := (List.range c).map fun j => M.getD ((j + c - h) % c) (0, 0)
theorem ofL_length (c h : Nat) (M : List It) : (ofL c h M).length = c := by simp [ofL]
theorem ofL_at (c h : Nat) (M : List It) (j : Nat) (hj : j < c) : (ofL c h M)[j]? = some (M.getD ((j + c - h) % c) (0, 0)) := by
  simp [ofL, hj]
theorem ofL_getD (c h : Nat) (M : List It) (j : Nat) (hj : j < c) : (ofL c h M).getD j (0, 0) = M.getD ((j + c - h) % c) (0, 0) := by
  simp [List.getD, ofL_at c h M j hj]
theorem ix_of {c h j : Nat} (hh : h < c) (hj : j < c) : (j + c - h) % c = if h ≤ j then j - h else j + c - h := by
  split
  · rw [show j + c - h = (j - h) + c by omega, Nat.add_mod_right, Nat.mod_eq_of_lt (by omega)]
  · exact Nat.mod_eq_of_lt (by omega)
theorem pl_of {c h i : Nat} (hh : h < c) (hi : i ≤ c) : (h + i) % c = if h + i < c then h + i else h + i - c := by
  split
  · exact Nat.mod_eq_of_lt (by assumption)
  · rw [show h + i = (h + i - c) + c by omega, Nat.add_mod_right, Nat.mod_eq_of_lt (by omega)]; omega
/-- Element i lies at its place. -/
theorem ofL_place (c h : Nat) (M : List It) (i : Nat) (hh : h < c) (hi : i < c) : (ofL c h M).getD ((h + i) % c) (0, 0) = M.getD i (0, 0) := by
  have hm : (h + i) % c < c := Nat.mod_lt _ (by omega)
  rw [ofL_getD c h M _ hm, ix_of hh hm, pl_of hh (by omega)]
  congr 1
  split <;> split <;> omega
theorem getD_out {M : List It} {i : Nat} (h : M.length ≤ i) : M.getD i (0, 0) = (0, 0) := by simp [List.getD, h]
theorem set_of {c h h' p : Nat} {M M' : List It} {x : It} (hp : p < c) (H : ∀ j, j < c → (if p = j then x else M.getD ((j + c - h) % c) (0, 0)) = M'.getD ((j + c - h') % c) (0, 0)) :
    (ofL c h M).set p x = ofL c h' M' := by
  apply List.ext_getElem?
  intro j
  by_cases hj : j < c
  · rw [ofL_at c h' M' j hj, ← H j hj, List.getElem?_set]
    by_cases e : p = j
    · subst e; simp [ofL_length, hp]
    · rw [if_neg e, if_neg e, ofL_at c h M j hj]
  · rw [List.getElem?_eq_none (by rw [List.length_set, ofL_length]; omega), List.getElem?_eq_none (by rw [ofL_length]; omega)]
theorem getD_snoc (M : List It) (x : It) (i : Nat) : (M ++ [x]).getD i (0, 0) = if i = M.length then x else M.getD i (0, 0) := by
  simp only [List.getD, List.getElem?_append]
  by_cases h1 : i < M.length
  · rw [if_pos h1, if_neg (by omega)]
  · rw [if_neg h1]
    by_cases h2 : i = M.length
    · subst h2; simp
    · rw [if_neg h2, List.getElem?_eq_none (by simp; omega), List.getElem?_eq_none (by omega)]
theorem getD_cons (M : List It) (x : It) (i : Nat) : (x :: M).getD i (0, 0) = if i = 0 then x else M.getD (i - 1) (0, 0) := by
  cases i with
  | zero => rfl
  | succ i => simp [List.getD]
theorem push_back (c h : Nat) (M : List It) (x : It) (hh : h < c) (hl : M.length < c) : (ofL c h M).set ((h + M.length) % c) x = ofL c h (M ++ [x]) := by
  refine set_of (Nat.mod_lt _ (by omega)) fun j hj => ?_
  rw [getD_snoc, ix_of hh hj, pl_of hh (by omega)]
  by_cases e : (if h ≤ j then j - h else j + c - h) = M.length
  · rw [if_pos e, if_pos (by revert e; split <;> split <;> omega)]
  · rw [if_neg e, if_neg (by revert e; split <;> split <;> omega)]
theorem pop_back (c h : Nat) (M : List It) (x : It) (hh : h < c) (hl : M.length < c) : (ofL c h (M ++ [x])).set ((h + M.length) % c) (0, 0) = ofL c h M := by
  refine set_of (Nat.mod_lt _ (by omega)) fun j hj => ?_
  rw [getD_snoc, ix_of hh hj, pl_of hh (by omega)]
  by_cases e : (if h ≤ j then j - h else j + c - h) = M.length
  · rw [if_pos e, if_pos (by revert e; split <;> split <;> omega), e, getD_out (Nat.le_refl _)]
  · rw [if_neg e, if_neg (by revert e; split <;> split <;> omega)]
theorem push_front (c h : Nat) (M : List It) (x : It) (hh : h < c) (hl : M.length < c) : (ofL c h M).set ((h + (c - 1)) % c) x = ofL c ((h + (c - 1)) % c) (x :: M) := by
  rcases Nat.eq_zero_or_pos h with rfl | h0
  · rw [show (0 + (c - 1)) % c = c - 1 by rw [Nat.zero_add]; exact Nat.mod_eq_of_lt (by omega)]
    refine set_of (by omega) fun j hj => ?_
    rw [getD_cons, ix_of hh hj, ix_of (by omega) hj, if_pos (Nat.zero_le _), Nat.sub_zero]
    by_cases e : c - 1 = j
    · rw [if_pos e, if_pos (by split <;> omega)]
    · rw [if_neg e, if_neg (show ¬ c - 1 ≤ j by omega), if_neg (by omega), show j + c - (c - 1) - 1 = j by omega]
  · rw [show (h + (c - 1)) % c = h - 1 by rw [show h + (c - 1) = (h - 1) + c by omega, Nat.add_mod_right]; exact Nat.mod_eq_of_lt (by omega)]
    refine set_of (by omega) fun j hj => ?_
    rw [getD_cons, ix_of hh hj, ix_of (by omega) hj]
    by_cases e : h - 1 = j
    · rw [if_pos e, if_pos (by split <;> omega)]
    · rw [if_neg e]
      by_cases g : h ≤ j
      · rw [if_pos g, if_pos (show h - 1 ≤ j by omega), if_neg (by omega), show j - (h - 1) - 1 = j - h by omega]
      · rw [if_neg g, if_neg (show ¬ h - 1 ≤ j by omega), if_neg (by omega), show j + c - (h - 1) - 1 = j + c - h by omega]
theorem pop_front (c h : Nat) (M : List It) (x : It) (hh : h < c) (hl : M.length < c) : (ofL c h (x :: M)).set h (0, 0) = ofL c ((h + 1) % c) M := by
  have hm : (h + 1) % c < c := Nat.mod_lt _ (by omega)
  refine set_of hh fun j hj => ?_
  rw [getD_cons, ix_of hh hj, ix_of hm hj, pl_of hh (by omega)]
  by_cases e : h = j
  · rw [if_pos e, getD_out]; revert e; split <;> split <;> omega
  · rw [if_neg e, if_neg (by split <;> omega)]
    congr 1
    split <;> split <;> split <;> omega
theorem of_nil (c h : Nat) : ofL c h [] = List.replicate c (0, 0) := by
  apply List.ext_getElem?
  intro j
  by_cases hj : j < c
  · rw [ofL_at c h [] j hj]; simp [hj]
  · rw [List.getElem?_eq_none (by rw [ofL_length]; omega), List.getElem?_eq_none (by simp; omega)]
/-- The elements that the cells L hold. -/
def its (c h l : Nat) (L : List It) : List It := (List.range l).map fun i => L.getD ((h + i) % c) (0, 0)
theorem its_length (c h l : Nat) (L : List It) : (its c h l L).length = l := by simp [its]
theorem its_getD (c h l : Nat) (L : List It) (i : Nat) (hi : i < l) : (its c h l L).getD i (0, 0) = L.getD ((h + i) % c) (0, 0) := by
  simp [its, List.getD, hi]
theorem its_snoc (c h l : Nat) (L : List It) : its c h (l + 1) L = its c h l L ++ [L.getD ((h + l) % c) (0, 0)] := by
  simp [its, List.range_succ]
theorem its_of (c h : Nat) (M : List It) (l : Nat) (hh : h < c) (hl : l ≤ M.length) (hM : M.length ≤ c) : its c h l (ofL c h M) = M.take l := by
  apply List.ext_getElem?
  intro j
  by_cases hj : j < l
  · simp only [its, List.getElem?_map, List.getElem?_range hj, Option.map_some, List.getElem?_take, if_pos hj]
    rw [ofL_place c h M j hh (by omega)]
    simp [List.getD, List.getElem?_eq_getElem (show j < M.length by omega)]
  · rw [List.getElem?_eq_none (by rw [its_length]; omega), List.getElem?_eq_none (by simp; omega)]
/-- A valid buffer has the cells of its elements. -/
theorem of_its (c h l : Nat) (L : List It) (hh : h < c) (hL : L.length = c) (hz : ∀ k, k < c → l ≤ k → L.getD ((h + k) % c) (0, 0) = (0, 0)) : ofL c h (its c h l L) = L := by
  apply List.ext_getElem?
  intro j
  by_cases hj : j < c
  · rw [ofL_at _ _ _ j hj]
    have hi : (j + c - h) % c < c := Nat.mod_lt _ (by omega)
    have hback : (h + (j + c - h) % c) % c = j := by rw [pl_of hh (by omega), ix_of hh hj]; split <;> split <;> omega
    have hv : L[j]? = some (L.getD j (0, 0)) := by simp [List.getD, List.getElem?_eq_getElem (show j < L.length by omega)]
    rw [hv]
    congr 1
    by_cases hk : (j + c - h) % c < l
    · rw [its_getD _ _ _ _ _ hk, hback]
    · rw [getD_out (by rw [its_length]; omega)]
      have := hz _ hi (by omega)
      rw [hback] at this
      exact this.symm
  · rw [List.getElem?_eq_none (by rw [ofL_length]; omega), List.getElem?_eq_none (by omega)]
theorem getD_take (M : List It) (k i : Nat) (h : i < k) : (M.take k).getD i (0, 0) = M.getD i (0, 0) := by
  simp [List.getD, h]
theorem take_snoc (M : List It) (k : Nat) (h : k < M.length) : M.take (k + 1) = M.take k ++ [M.getD k (0, 0)] := by
  rw [List.take_succ_eq_append_getElem h]; simp [List.getD, h]
theorem of_step (c h : Nat) (M : List It) (i : Nat) (hh : h < c) (hi : i < M.length) (hM : M.length ≤ c) : (ofL c h (M.take i)).set ((h + i) % c) (M.getD i (0, 0)) = ofL c h (M.take (i + 1)) := by
  have hl : (M.take i).length = i := by rw [List.length_take]; omega
  have := push_back c h (M.take i) (M.getD i (0, 0)) hh (by omega)
  rw [hl] at this
  rw [this, take_snoc M i hi]
/-- Two copies: from the head to the end, and from the first cell on. -/
theorem two_parts (c h : Nat) (M : List It) (hh : h < c) (hM : M.length ≤ c) :
    ((ofL c h M).drop h).take (min (c - h) M.length) ++ (ofL c h M).take (M.length - min (c - h) M.length) = M := by
  apply List.ext_getElem?
  intro j
  have hlen1 : (((ofL c h M).drop h).take (min (c - h) M.length)).length = min (c - h) M.length := by simp [ofL_length]
  by_cases hj : j < min (c - h) M.length
  · rw [List.getElem?_append_left (by omega), List.getElem?_take, if_pos hj, List.getElem?_drop, ofL_at _ _ _ _ (by omega), ix_of hh (by omega), if_pos (by omega), show h + j - h = j by omega]
    simp [List.getD, List.getElem?_eq_getElem (show j < M.length by omega)]
  · rw [List.getElem?_append_right (by omega), hlen1]
    by_cases hj2 : j < M.length
    · rw [List.getElem?_take, if_pos (by omega), ofL_at _ _ _ _ (by omega), ix_of hh (by omega), if_neg (by omega), show j - min (c - h) M.length + c - h = j by omega]
      simp [List.getD, List.getElem?_eq_getElem hj2]
    · rw [List.getElem?_eq_none (by simp [ofL_length]; omega), List.getElem?_eq_none (by omega)]
theorem of_zero (c : Nat) (M : List It) (hM : M.length ≤ c) : ofL c 0 M = M ++ List.replicate (c - M.length) (0, 0) := by
  apply List.ext_getElem?
  intro j
  by_cases hj : j < c
  · rw [ofL_at _ _ _ j hj, show (j + c - 0) % c = j by rw [Nat.sub_zero, Nat.add_mod_right, Nat.mod_eq_of_lt hj], List.getElem?_append]
    by_cases h : j < M.length
    · rw [if_pos h]; simp [List.getD, h]
    · rw [if_neg h, getD_out (by omega), List.getElem?_replicate, if_pos (by omega)]
  · rw [List.getElem?_eq_none (by rw [ofL_length]; omega), List.getElem?_eq_none (by simp; omega)]
end Go.Proofs.YtflahclphdlolaaGreat

/- The arithmetic of the products of two wide numbers. -/
namespace Go.Proofs.YtflahclphdlolaaGreat
open Go.RowKit

theorem mul_far2 {ah al bh bl : Int} (h1 : Word ah) (h2 : Word al) (h3 : Word bh) (h4 : Word bl) (t1 : ah ≠ 0) (t2 : bh ≠ 0) : ¬ In2 (val ah al * val bh bl) := by
  obtain ⟨a1, _⟩ := h1; obtain ⟨b1, _⟩ := h2; obtain ⟨c1, _⟩ := h3; obtain ⟨d1, _⟩ := h4
  have : 18446744073709551616 * 18446744073709551616 ≤ val ah al * val bh bl := Int.mul_le_mul (by unfold val; omega) (by unfold val; omega) (by decide) (by unfold val; omega)
  unfold In2; omega
theorem mul_near2 {ah al bh bl : Int} (h1 : Word ah) (h2 : Word al) (h3 : Word bh) (h4 : Word bl) (h : ah = 0 ∨ bh = 0) :
    ((hiZ (ah * bl) ≠ 0 ∨ hiZ (al * bh) ≠ 0) → ¬ In2 (val ah al * val bh bl)) ∧
    (hiZ (ah * bl) = 0 → hiZ (al * bh) = 0 → 0 ≤ loZ (ah * bl) + loZ (al * bh) ∧ loZ (ah * bl) + loZ (al * bh) < 18446744073709551616 ∧ val (hiZ (al * bl)) (loZ (al * bl)) + val (loZ (ah * bl) + loZ (al * bh)) 0 = val ah al * val bh bl) := by
  have hz : ah * bh = 0 := by rcases h with h | h <;> subst h <;> simp
  have hlr : ah * bl = 0 ∨ al * bh = 0 := by rcases h with h | h <;> subst h <;> simp
  have p1 := (mul_word h1 h4).1
  have p2 := (mul_word h2 h3).1
  have p3 := (mul_word h2 h4).1
  have e : val ah al * val bh bl = (ah * bl + al * bh) * 18446744073709551616 + al * bl := by
    unfold val
    rw [Int.add_mul, Int.mul_add, Int.mul_add, Int.mul_right_comm ah 18446744073709551616 (bh * 18446744073709551616), ← Int.mul_assoc ah bh, hz, Int.mul_right_comm ah 18446744073709551616 bl, ← Int.mul_assoc al bh]
    omega
  rw [e, val_hilo]
  generalize ah * bl = L at *
  generalize al * bh = R at *
  generalize al * bl = P at *
  unfold hiZ loZ val In2
  refine ⟨fun hh => by omega, fun e1 e2 => ⟨by omega, by omega, by omega⟩⟩
theorem set4 {w w1 : World} {b0 o0 b1 o1 b2 o2 b3 o3 : Nat} {x0 x1 x2 x3 : Value} {b o : Nat} {v : Value}
    (h : Up w w1 ∧ w1.cell? ⟨b0, o0, none⟩ = some x0 ∧ w1.cell? ⟨b1, o1, none⟩ = some x1 ∧ w1.cell? ⟨b2, o2, none⟩ = some x2 ∧ w1.cell? ⟨b3, o3, none⟩ = some x3)
    (hb : w.heap.size ≤ b) (n0 : b ≠ b0) (n1 : b ≠ b1) (n2 : b ≠ b2) (n3 : b ≠ b3) :
    Up w (w1.setCell ⟨b, o, none⟩ v) ∧ (w1.setCell ⟨b, o, none⟩ v).cell? ⟨b0, o0, none⟩ = some x0 ∧ (w1.setCell ⟨b, o, none⟩ v).cell? ⟨b1, o1, none⟩ = some x1 ∧ (w1.setCell ⟨b, o, none⟩ v).cell? ⟨b2, o2, none⟩ = some x2 ∧ (w1.setCell ⟨b, o, none⟩ v).cell? ⟨b3, o3, none⟩ = some x3 :=
  ⟨h.1.setCell hb v, (cell_far n0).trans h.2.1, (cell_far n1).trans h.2.2.1, (cell_far n2).trans h.2.2.2.1, (cell_far n3).trans h.2.2.2.2⟩


end Go.Proofs.YtflahclphdlolaaGreat

/- How an argument that is a list of numbers is opened, and read again behind a call. -/
namespace Go.Proofs.YtflahclphdlolaaGreat
open Go.ChangeShapes Go.WideShapes Go.ChangeAt Go.RowKit Go.Joins Go.Deep

/-- A slice of int64 that reads as the list L. -/
def Sn (w : World) (A : Option Addr) (n : Nat) (L : List Int) : Prop :=
  L.length = n ∧ (0 < n → ∃ b o, A = some ⟨b, o, none⟩ ∧ ∀ j, j < n → w.cell? ⟨b, o + j, none⟩ = some (.int .i64 (L.getD j 0)))
theorem Sn.none_ {w : World} {A : Option Addr} : Sn w A 0 [] := ⟨rfl, fun h => absurd h (by omega)⟩
theorem Sn.up {w w' : World} {A : Option Addr} {n : Nat} {L : List Int} (h : Sn w A n L) (hu : Up w w') : Sn w' A n L :=
  ⟨h.1, fun hn => by
    obtain ⟨b, o, e, hc⟩ := h.2 hn
    exact ⟨b, o, e, fun j hj => hu.keep _ _ _ (hc j hj)⟩⟩
theorem bytes_int64 : Tryz.prog.bytesOf 2 = 8 := by kernel_rfl
section
variable {H : Type} {enc : TypeId × Value → H} {w : World} {base : Nat} {spare : Nat → Bool} {held : Bool}
set_option maxRecDepth 100000 in
theorem open_nums {r : Reach} {b0 : Nat} {v : Value} {d : DataW H} {p : List MemPlace} (hv : Value.okWide Tryz.prog w r b0 33 v) (h : DataW.Trod enc Tryz.prog w 0 (fun _ => true) held 33 v d p) :
    ∃ (n k : Nat) (A : Option Addr) (L : List Int), v = .slice A n k ∧ n ≤ k ∧ Sn w A n L ∧
      ((∀ es sp, d = .slice es sp → (es.length + sp.length) * Tryz.prog.bytesOf 2 ≤ reachBytes) → n * 8 ≤ 140737488351232) := by
  obtain ⟨fuel, hf⟩ := h
  obtain ⟨a0, n, c, rfl⟩ := okWide_slice Tryz.underlying33 hv
  rcases open_ints Tryz.underlying33 Tryz.underlying2 int64_cells hf with ⟨hc, hx⟩ | ⟨a, len, cap, zs, hc, _, hl, hm, hzl, hx, hcell, hwf⟩
  · simp [Value.cells] at hc
    obtain ⟨rfl, rfl, rfl⟩ := hc
    exact ⟨0, 0, none, [], rfl, Nat.le_refl _, Sn.none_, fun _ => by omega⟩
  · simp [Value.cells] at hc
    obtain ⟨rfl, rfl, rfl⟩ := hc
    simp only [if_true] at hzl
    refine ⟨n, c, some a, zs.take n, rfl, hl, ⟨by simp; omega, fun hn => ?_⟩, fun hz => ?_⟩
    · have hsp : a.spot = none := by
        have := World.cell?_spot (hcell 0 (by omega))
        simpa [Addr.add] using this
      obtain ⟨b, o, s⟩ := a
      simp at hsp
      subst hsp
      refine ⟨b, o, rfl, fun j hj => ?_⟩
      have := hcell j (by omega)
      rw [add_at] at this
      rw [this]
      simp [List.getD, hj]
    · have e := (Prod.mk.inj hx).1
      have := hz _ _ e
      rw [bytes_int64] at this
      simp only [lits, List.length_map, List.length_take, List.length_drop, reachBytes] at this
      omega
end
end Go.Proofs.YtflahclphdlolaaGreat

/- Lists of int64 numbers: how an argument is opened with the bounds of its elements, a block that is known whole, and make. -/
namespace Go.Proofs.YtflahclphdlolaaGreat
open Go.ChangeShapes Go.WideShapes Go.ChangeAt Go.RowKit Go.Joins Go.Deep

section
variable {H : Type} {enc : TypeId × Value → H} {w : World} {base : Nat} {spare : Nat → Bool} {held : Bool}
set_option maxRecDepth 100000 in
theorem open_nums2 {r : Reach} {b0 : Nat} {v : Value} {d : DataW H} {p : List MemPlace} (hv : Value.okWide Tryz.prog w r b0 33 v) (h : DataW.Trod enc Tryz.prog w 0 (fun _ => true) held 33 v d p) :
    ∃ (n k : Nat) (A : Option Addr) (L : List Int), v = .slice A n k ∧ n ≤ k ∧ Sn w A n L ∧ (∀ x ∈ L, In x) ∧
      ((∀ es sp, d = .slice es sp → (es.length + sp.length) * Tryz.prog.bytesOf 2 ≤ reachBytes) → n * 8 ≤ 140737488351232) := by
  obtain ⟨fuel, hf⟩ := h
  obtain ⟨a0, n, c, rfl⟩ := okWide_slice Tryz.underlying33 hv
  rcases open_ints Tryz.underlying33 Tryz.underlying2 int64_cells hf with ⟨hc, hx⟩ | ⟨a, len, cap, zs, hc, _, hl, hm, hzl, hx, hcell, hwf⟩
  · simp [Value.cells] at hc
    obtain ⟨rfl, rfl, rfl⟩ := hc
    exact ⟨0, 0, none, [], rfl, Nat.le_refl _, Sn.none_, fun x hx => (by cases hx), fun _ => by omega⟩
  · simp [Value.cells] at hc
    obtain ⟨rfl, rfl, rfl⟩ := hc
    simp only [if_true] at hzl
    refine ⟨n, c, some a, zs.take n, rfl, hl, ⟨by simp; omega, fun hn => ?_⟩, fun x hx => in_of_wf (hwf x (List.mem_of_mem_take hx)), fun hz => ?_⟩
    · have hsp : a.spot = none := by
        have := World.cell?_spot (hcell 0 (by omega))
        simpa [Addr.add] using this
      obtain ⟨b, o, s⟩ := a
      simp at hsp
      subst hsp
      refine ⟨b, o, rfl, fun j hj => ?_⟩
      have := hcell j (by omega)
      rw [add_at] at this
      rw [this]
      simp [List.getD, hj]
    · have e := (Prod.mk.inj hx).1
      have := hz _ _ e
      rw [bytes_int64] at this
      simp only [lits, List.length_map, List.length_take, List.length_drop, reachBytes] at this
      omega
end
theorem in_getD {L : List Int} (h : ∀ x ∈ L, In x) {j : Nat} (hj : j < L.length) : In (L.getD j 0) := h _ (by simp [List.getD, hj])

/-- A block of int64 numbers that is known whole. -/
def nl (L : List Int) : List Value := L.map (Value.int .i64)
def Bn (w : World) (g : Nat) (L : List Int) : Prop := Blk w g 2 (nl L).toArray
theorem Bn.sn {w : World} {g n : Nat} {L : List Int} (h : Bn w g L) (hn : L.length = n) : Sn w (some ⟨g, 0, none⟩) n L :=
  ⟨hn, fun _ => ⟨g, 0, rfl, fun j hj => by
    rw [Nat.zero_add, Blk.cell h j]
    have : j < L.length := by omega
    simp [nl, List.getD, this]⟩⟩
theorem Bn.up {w w' : World} {g : Nat} {L : List Int} (h : Bn w g L) (hu : Up w w') : Bn w' g L := Blk.up h hu
theorem Bn.set_ {w : World} {g : Nat} {L : List Int} (h : Bn w g L) (k : Nat) (a : Int) : Bn (w.setCell ⟨g, k, none⟩ (.int .i64 a)) g (L.set k a) := by
  have h1 := Blk.set_ h k (.int .i64 a)
  unfold Bn
  have e : (nl (L.set k a)).toArray = (nl L).toArray.setIfInBounds k (.int .i64 a) := by simp [nl, List.map_set]
  rw [e]
  exact h1
theorem Bn.at_ {w : World} {g : Nat} {L : List Int} (h : Bn w g L) {k : Nat} (hk : k < L.length) : w.cell? ⟨g, k, none⟩ = some (.int .i64 (L.getD k 0)) := by
  rw [Blk.cell h]; simp [nl, List.getD, hk]

theorem int64_info : (Tryz.prog.info? 2).map (fun i => (i.zero, i.size, i.bytes)) = some (some (.int .i64 0), 1, 8) := by kernel_rfl
theorem made1 (c : Nat) (z : Value) : madeCells #[z] (c * 1) = (List.replicate c z).toArray := by
  apply Array.ext'
  apply List.ext_getElem?
  intro j
  simp only [madeCells, Array.toList_map, Array.toList_range, List.getElem?_map, Nat.mul_one, List.getElem?_replicate]
  by_cases hj : j < c
  · rw [List.getElem?_range hj, if_pos hj]; simp [Nat.mod_one]
  · rw [List.getElem?_eq_none (by simp; omega), if_neg hj]; rfl
theorem makeN_run (c : Nat) (hc : c * 8 ≤ 140737488351232) (w : World) : (Instr.makeSlice 33 (.int .i64 (c : Int)) (.int .i64 (c : Int))).run Tryz.prog w =
    .ok (.slice (some ⟨w.heap.size, 0, none⟩) c c) (w.alloc (.cells (nl (List.replicate c 0)).toArray 2)) := by
  obtain ⟨i, hi, hz, hs, hb⟩ := info_parts int64_info
  have := run_make (P := Tryz.prog) w 33 2 i _ Tryz.underlying33 hi hz .i64 .i64 (c : Int) (c : Int) (by omega) (by omega) (by rw [hb]; omega) (by omega)
  rw [this, hs, Int.toNat_natCast]
  have e : nl (List.replicate c 0) = List.replicate c (.int .i64 0) := by simp [nl]
  rw [e, ← made1]
  rfl
theorem Bn.new (w : World) (L : List Int) (g : Nat) (hg : g = w.heap.size) : Bn (w.alloc (.cells (nl L).toArray 2)) g L := by rw [hg]; exact Blk.new w _ _
end Go.Proofs.YtflahclphdlolaaGreat
