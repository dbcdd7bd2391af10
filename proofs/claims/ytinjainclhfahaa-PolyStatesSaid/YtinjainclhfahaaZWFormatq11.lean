/- Texts of these claims, one after the other. -/
import Derived.Test.YtinjainclhfahaaRows
import Derived.Test.YtinjainclhfahaaZWAddq6
namespace Go.Proofs.Ytinjainclhfahaa
open Go.RowKit

theorem frozen_new (w : World) (b o : Nat) : w.frozen? ⟨w.heap.size + b, o, none⟩ = false := by
  simp [World.frozen?]
theorem Up.keep {w w' : World} (h : Up w w') : ∀ b o v, w.cell? ⟨b, o, none⟩ = some v → w'.cell? ⟨b, o, none⟩ = some v := fun b o _ hv =>
  (h.cells.1 b o (World.block_lt_of_cell? w ⟨b, o, none⟩ hv)).trans hv
theorem cell_far {w : World} {p : Addr} {v : Value} {b o : Nat} (h : p.block ≠ b) : (w.setCell p v).cell? ⟨b, o, none⟩ = w.cell? ⟨b, o, none⟩ :=
  World.cell?_setCell_other _ _ _ _ (fun e => h (by rw [e]))
theorem keep4 {w w1 w2 : World} {b0 o0 b1 o1 b2 o2 b3 o3 : Nat} {x0 x1 x2 x3 : Value} (hu : Hid (Up w1 w2))
    (h : Up w w1 ∧ w1.cell? ⟨b0, o0, none⟩ = some x0 ∧ w1.cell? ⟨b1, o1, none⟩ = some x1 ∧ w1.cell? ⟨b2, o2, none⟩ = some x2 ∧ w1.cell? ⟨b3, o3, none⟩ = some x3) :
    Up w w2 ∧ w2.cell? ⟨b0, o0, none⟩ = some x0 ∧ w2.cell? ⟨b1, o1, none⟩ = some x1 ∧ w2.cell? ⟨b2, o2, none⟩ = some x2 ∧ w2.cell? ⟨b3, o3, none⟩ = some x3 :=
  ⟨h.1.trans hu.out, hu.out.keep _ _ _ h.2.1, hu.out.keep _ _ _ h.2.2.1, hu.out.keep _ _ _ h.2.2.2.1, hu.out.keep _ _ _ h.2.2.2.2⟩

theorem keep6 {w w1 w2 : World} {b0 o0 b1 o1 b2 o2 b3 o3 b4 o4 b5 o5 : Nat} {x0 x1 x2 x3 x4 x5 : Value} (hu : Hid (Up w1 w2))
    (h : Up w w1 ∧ w1.cell? ⟨b0, o0, none⟩ = some x0 ∧ w1.cell? ⟨b1, o1, none⟩ = some x1 ∧ w1.cell? ⟨b2, o2, none⟩ = some x2 ∧ w1.cell? ⟨b3, o3, none⟩ = some x3 ∧ w1.cell? ⟨b4, o4, none⟩ = some x4 ∧ w1.cell? ⟨b5, o5, none⟩ = some x5) :
    Up w w2 ∧ w2.cell? ⟨b0, o0, none⟩ = some x0 ∧ w2.cell? ⟨b1, o1, none⟩ = some x1 ∧ w2.cell? ⟨b2, o2, none⟩ = some x2 ∧ w2.cell? ⟨b3, o3, none⟩ = some x3 ∧ w2.cell? ⟨b4, o4, none⟩ = some x4 ∧ w2.cell? ⟨b5, o5, none⟩ = some x5 :=
  ⟨h.1.trans hu.out, hu.out.keep _ _ _ h.2.1, hu.out.keep _ _ _ h.2.2.1, hu.out.keep _ _ _ h.2.2.2.1, hu.out.keep _ _ _ h.2.2.2.2.1, hu.out.keep _ _ _ h.2.2.2.2.2.1, hu.out.keep _ _ _ h.2.2.2.2.2.2⟩
theorem Up.own {w w' : World} (h : Up w w') (b o : Nat) : w'.frozen? ⟨w.heap.size + b, o, none⟩ = false := (h.cells.2 _).trans (frozen_new w b o)

theorem alloc6 {w w1 : World} {b0 o0 b1 o1 b2 o2 b3 o3 b4 o4 b5 o5 : Nat} {x0 x1 x2 x3 x4 x5 : Value} {c : Array Value} {t : TypeId}
    (h : Up w w1 ∧ w1.cell? ⟨b0, o0, none⟩ = some x0 ∧ w1.cell? ⟨b1, o1, none⟩ = some x1 ∧ w1.cell? ⟨b2, o2, none⟩ = some x2 ∧ w1.cell? ⟨b3, o3, none⟩ = some x3 ∧ w1.cell? ⟨b4, o4, none⟩ = some x4 ∧ w1.cell? ⟨b5, o5, none⟩ = some x5) :
    Up w (w1.alloc (.cells c t)) ∧ (w1.alloc (.cells c t)).cell? ⟨b0, o0, none⟩ = some x0 ∧ (w1.alloc (.cells c t)).cell? ⟨b1, o1, none⟩ = some x1 ∧ (w1.alloc (.cells c t)).cell? ⟨b2, o2, none⟩ = some x2 ∧ (w1.alloc (.cells c t)).cell? ⟨b3, o3, none⟩ = some x3 ∧ (w1.alloc (.cells c t)).cell? ⟨b4, o4, none⟩ = some x4 ∧ (w1.alloc (.cells c t)).cell? ⟨b5, o5, none⟩ = some x5 :=
  keep6 (Lib.hid ((Up.refl _).alloc _ _)) h
theorem set6 {w w1 : World} {b0 o0 b1 o1 b2 o2 b3 o3 b4 o4 b5 o5 : Nat} {x0 x1 x2 x3 x4 x5 : Value} {b o : Nat} {v : Value}
    (h : Up w w1 ∧ w1.cell? ⟨b0, o0, none⟩ = some x0 ∧ w1.cell? ⟨b1, o1, none⟩ = some x1 ∧ w1.cell? ⟨b2, o2, none⟩ = some x2 ∧ w1.cell? ⟨b3, o3, none⟩ = some x3 ∧ w1.cell? ⟨b4, o4, none⟩ = some x4 ∧ w1.cell? ⟨b5, o5, none⟩ = some x5)
    (hb : w.heap.size ≤ b) (n0 : b ≠ b0) (n1 : b ≠ b1) (n2 : b ≠ b2) (n3 : b ≠ b3) (n4 : b ≠ b4) (n5 : b ≠ b5) :
    Up w (w1.setCell ⟨b, o, none⟩ v) ∧ (w1.setCell ⟨b, o, none⟩ v).cell? ⟨b0, o0, none⟩ = some x0 ∧ (w1.setCell ⟨b, o, none⟩ v).cell? ⟨b1, o1, none⟩ = some x1 ∧ (w1.setCell ⟨b, o, none⟩ v).cell? ⟨b2, o2, none⟩ = some x2 ∧ (w1.setCell ⟨b, o, none⟩ v).cell? ⟨b3, o3, none⟩ = some x3 ∧ (w1.setCell ⟨b, o, none⟩ v).cell? ⟨b4, o4, none⟩ = some x4 ∧ (w1.setCell ⟨b, o, none⟩ v).cell? ⟨b5, o5, none⟩ = some x5 :=
  ⟨h.1.setCell hb v, (cell_far n0).trans h.2.1, (cell_far n1).trans h.2.2.1, (cell_far n2).trans h.2.2.2.1, (cell_far n3).trans h.2.2.2.2.1, (cell_far n4).trans h.2.2.2.2.2.1, (cell_far n5).trans h.2.2.2.2.2.2⟩
theorem base3n (w : World) (x0 x1 x2 x3 x4 x5 : Value) (t1 t2 t3 : TypeId) :
    Up w (((w.alloc (.cells #[x0, x1] t1)).alloc (.cells #[x2, x3] t2)).alloc (.cells #[x4, x5] t3)) ∧
    (((w.alloc (.cells #[x0, x1] t1)).alloc (.cells #[x2, x3] t2)).alloc (.cells #[x4, x5] t3)).cell? ⟨w.heap.size, 0, none⟩ = some x0 ∧ (((w.alloc (.cells #[x0, x1] t1)).alloc (.cells #[x2, x3] t2)).alloc (.cells #[x4, x5] t3)).cell? ⟨w.heap.size, 1, none⟩ = some x1 ∧
    (((w.alloc (.cells #[x0, x1] t1)).alloc (.cells #[x2, x3] t2)).alloc (.cells #[x4, x5] t3)).cell? ⟨w.heap.size + 1, 0, none⟩ = some x2 ∧ (((w.alloc (.cells #[x0, x1] t1)).alloc (.cells #[x2, x3] t2)).alloc (.cells #[x4, x5] t3)).cell? ⟨w.heap.size + 1, 1, none⟩ = some x3 ∧
    (((w.alloc (.cells #[x0, x1] t1)).alloc (.cells #[x2, x3] t2)).alloc (.cells #[x4, x5] t3)).cell? ⟨w.heap.size + 1 + 1, 0, none⟩ = some x4 ∧ (((w.alloc (.cells #[x0, x1] t1)).alloc (.cells #[x2, x3] t2)).alloc (.cells #[x4, x5] t3)).cell? ⟨w.heap.size + 1 + 1, 1, none⟩ = some x5 := by
  have k1 : ∀ o, (((w.alloc (.cells #[x0, x1] t1)).alloc (.cells #[x2, x3] t2)).alloc (.cells #[x4, x5] t3)).cell? ⟨w.heap.size, o, none⟩ = #[x0, x1][o]? := fun o => by
    rw [World.cell?_alloc_past _ _ _ (by rw [size_alloc, size_alloc]; omega), World.cell?_alloc_past _ _ _ (by rw [size_alloc]; omega), World.cell?_alloc_at _ _ _ _ rfl]
  have k2 : ∀ o, (((w.alloc (.cells #[x0, x1] t1)).alloc (.cells #[x2, x3] t2)).alloc (.cells #[x4, x5] t3)).cell? ⟨w.heap.size + 1, o, none⟩ = #[x2, x3][o]? := fun o => by
    rw [World.cell?_alloc_past _ _ _ (by rw [size_alloc, size_alloc]; omega), World.cell?_alloc_at _ _ _ _ (by rw [size_alloc])]
  have k3 : ∀ o, (((w.alloc (.cells #[x0, x1] t1)).alloc (.cells #[x2, x3] t2)).alloc (.cells #[x4, x5] t3)).cell? ⟨w.heap.size + 1 + 1, o, none⟩ = #[x4, x5][o]? := fun o => by
    rw [World.cell?_alloc_at _ _ _ _ (by rw [size_alloc, size_alloc])]
  exact ⟨((((Up.refl w).alloc _ _).alloc _ _).alloc _ _), k1 0, k1 1, k2 0, k2 1, k3 0, k3 1⟩

theorem drew6 {w w1 : World} {b0 o0 b1 o1 b2 o2 b3 o3 b4 o4 b5 o5 : Nat} {x0 x1 x2 x3 x4 x5 : Value}
    (h : Up w w1 ∧ w1.cell? ⟨b0, o0, none⟩ = some x0 ∧ w1.cell? ⟨b1, o1, none⟩ = some x1 ∧ w1.cell? ⟨b2, o2, none⟩ = some x2 ∧ w1.cell? ⟨b3, o3, none⟩ = some x3 ∧ w1.cell? ⟨b4, o4, none⟩ = some x4 ∧ w1.cell? ⟨b5, o5, none⟩ = some x5) :
    Up w w1.drew ∧ w1.drew.cell? ⟨b0, o0, none⟩ = some x0 ∧ w1.drew.cell? ⟨b1, o1, none⟩ = some x1 ∧ w1.drew.cell? ⟨b2, o2, none⟩ = some x2 ∧ w1.drew.cell? ⟨b3, o3, none⟩ = some x3 ∧ w1.drew.cell? ⟨b4, o4, none⟩ = some x4 ∧ w1.drew.cell? ⟨b5, o5, none⟩ = some x5 :=
  keep6 (Lib.hid (Up.refl _).drew) h

/-- Where the walk of Format is: m places are left, the rest of the number is a, the digits behind the places are l. -/
structure Fm (w wr : World) (m : Nat) (a : Int) (l : List UInt8) : Prop where
  up : Up w wr
  size : w.heap.size + 2 ≤ wr.heap.size
  hi : wr.cell? ⟨w.heap.size, 0, none⟩ = some (.int .u64 (hiZ a))
  lo : wr.cell? ⟨w.heap.size, 1, none⟩ = some (.int .u64 (loZ a))
  row : ∀ i, i < 39 → ∃ x : Int, wr.cell? ⟨w.heap.size + 1, i, none⟩ = some (.int .u8 x)
  len : l.length + m = 39
  dig : ∀ j (hj : j < l.length), wr.cell? ⟨w.heap.size + 1, m + j, none⟩ = some (.int .u8 (l[j].toNat : Int))
  fr : ∀ b o, wr.frozen? ⟨w.heap.size + b, o, none⟩ = false

theorem add_at (b o j : Nat) : (⟨b, o, none⟩ : Addr).add j = ⟨b, o + j, none⟩ := by
  unfold Addr.add
  by_cases h : j = 0
  · rw [if_pos h, h]; rfl
  · rw [if_neg h]
theorem cell_set {w : World} {b o o' : Nat} {v u : Value} (h : w.cell? ⟨b, o', none⟩ = some u) :
    (w.setCell ⟨b, o, none⟩ v).cell? ⟨b, o', none⟩ = some (if o = o' then v else u) := by
  by_cases e : o = o'
  · subst e; rw [if_pos rfl]; exact World.cell?_setCell_same _ _ _ h
  · rw [if_neg e, World.cell?_setCell_other _ _ _ _ (by intro he; injection he; contradiction)]; exact h
theorem digit_toNat (n : Nat) (h : n < 10) : (UInt8.ofNat (48 + n)).toNat = 48 + n := by
  simp [UInt8.toNat_ofNat']; omega

theorem Fm.next {w wr w1 w2 : World} {m : Nat} {a : Int} {l : List UInt8} (hF : Fm w wr m a l) (hm : 1 ≤ m) (ha : 0 ≤ a) (hu1 : Up wr w1) {c : Array Value} {t : TypeId}
    (hu2 : Up ((w1.setCell ⟨w.heap.size + 1, m - 1, none⟩ (.int .u8 (48 + a % 10))).alloc (.cells c t)) w2) : Fm w w2 (m - 1) a (UInt8.ofNat (48 + a.toNat % 10) :: l) := by
  have s0 := hF.size
  have s1 := hu1.size
  have s2 := hu2.size
  rw [size_alloc, size_set] at s2
  have old : ∀ b o, b < w.heap.size + 2 → w2.cell? ⟨b, o, none⟩ = (w1.setCell ⟨w.heap.size + 1, m - 1, none⟩ (.int .u8 (48 + a % 10))).cell? ⟨b, o, none⟩ := fun b o hb => by
    rw [hu2.cells.1 b o (by rw [size_alloc, size_set]; omega)]
    exact World.cell?_alloc_past _ _ _ (by rw [size_set]; omega)
  have up1 : Up w (w1.setCell ⟨w.heap.size + 1, m - 1, none⟩ (.int .u8 (48 + a % 10))) := (hF.up.trans hu1).setCell (by show w.heap.size ≤ w.heap.size + 1; omega) _
  refine ⟨(up1.alloc c t).trans hu2, by omega, ?_, ?_, ?_, ?_, ?_, ?_⟩
  · rw [old _ _ (by omega), cell_far (by show w.heap.size + 1 ≠ w.heap.size; omega), hu1.cells.1 _ _ (by omega)]; exact hF.hi
  · rw [old _ _ (by omega), cell_far (by show w.heap.size + 1 ≠ w.heap.size; omega), hu1.cells.1 _ _ (by omega)]; exact hF.lo
  · intro i hi
    obtain ⟨x, hx⟩ := hF.row i hi
    have hx1 : w1.cell? ⟨w.heap.size + 1, i, none⟩ = some (.int .u8 x) := (hu1.cells.1 _ _ (by omega)).trans hx
    refine ⟨if m - 1 = i then 48 + a % 10 else x, ?_⟩
    rw [old _ _ (by omega), cell_set hx1]
    split <;> rfl
  · have := hF.len; simp; omega
  · intro j hj
    cases j with
    | zero =>
      obtain ⟨x, hx⟩ := hF.row (m - 1) (by have := hF.len; omega)
      have hx1 : w1.cell? ⟨w.heap.size + 1, m - 1, none⟩ = some (.int .u8 x) := (hu1.cells.1 _ _ (by omega)).trans hx
      rw [old _ _ (by omega), show m - 1 + 0 = m - 1 by omega, cell_set hx1, if_pos rfl]
      show some (Value.int .u8 (48 + a % 10)) = some (Value.int .u8 ((UInt8.ofNat (48 + a.toNat % 10)).toNat : Int))
      rw [digit_toNat _ (by omega)]
      congr 2
      omega
    | succ j =>
      have hj' : j < l.length := by simpa using hj
      have hd := hF.dig j hj'
      have hx1 : w1.cell? ⟨w.heap.size + 1, m + j, none⟩ = some (.int .u8 (l[j].toNat : Int)) := (hu1.cells.1 _ _ (by omega)).trans hd
      rw [show m - 1 + (j + 1) = m + j by omega, old _ _ (by omega), cell_set hx1, if_neg (by omega)]
      rfl
  · intro b o
    rw [hu2.cells.2, frozen?_alloc_cells, World.frozen?_setCell, hu1.cells.2]; exact hF.fr b o
theorem Fm.put {w w2 : World} {m : Nat} {a a' : Int} {l : List UInt8} (hF : Fm w w2 m a l) : Fm w ((w2.setCell ⟨w.heap.size, 0, none⟩ (.int .u64 (hiZ a'))).setCell ⟨w.heap.size, 1, none⟩ (.int .u64 (loZ a'))) m a' l := by
  have far : ∀ o, ((w2.setCell ⟨w.heap.size, 0, none⟩ (.int .u64 (hiZ a'))).setCell ⟨w.heap.size, 1, none⟩ (.int .u64 (loZ a'))).cell? ⟨w.heap.size + 1, o, none⟩ = w2.cell? ⟨w.heap.size + 1, o, none⟩ := fun o => by
    rw [cell_far (by show w.heap.size ≠ w.heap.size + 1; omega), cell_far (by show w.heap.size ≠ w.heap.size + 1; omega)]
  refine ⟨(hF.up.setCell (Nat.le_refl _) _).setCell (Nat.le_refl _) _, by rw [size_set, size_set]; exact hF.size, ?_, ?_, ?_, hF.len, ?_, ?_⟩
  · rw [cell_set (u := .int .u64 (hiZ a')) (by rw [cell_set hF.hi, if_pos rfl]), if_neg (by omega)]
  · rw [cell_set (u := .int .u64 (loZ a)) (by rw [cell_set hF.lo, if_neg (by omega)]), if_pos rfl]
  · intro i hi; rw [far]; exact hF.row i hi
  · intro j hj; rw [far]; exact hF.dig j hj
  · intro b o; rw [World.frozen?_setCell, World.frozen?_setCell]; exact hF.fr b o

end Go.Proofs.Ytinjainclhfahaa

namespace Go.Proofs.Ytinjainclhfahaa
open Go.RowKit

theorem keep2 {w w1 w2 : World} {b0 o0 b1 o1 : Nat} {x0 x1 : Value} (hu : Hid (Up w1 w2)) (h : Up w w1 ∧ w1.cell? ⟨b0, o0, none⟩ = some x0 ∧ w1.cell? ⟨b1, o1, none⟩ = some x1) :
    Up w w2 ∧ w2.cell? ⟨b0, o0, none⟩ = some x0 ∧ w2.cell? ⟨b1, o1, none⟩ = some x1 :=
  ⟨h.1.trans hu.out, hu.out.keep _ _ _ h.2.1, hu.out.keep _ _ _ h.2.2⟩
theorem set2 {w w1 : World} {b0 o0 b1 o1 : Nat} {x0 x1 : Value} {b o : Nat} {v : Value} (h : Up w w1 ∧ w1.cell? ⟨b0, o0, none⟩ = some x0 ∧ w1.cell? ⟨b1, o1, none⟩ = some x1) (hb : w.heap.size ≤ b) (n0 : b ≠ b0) (n1 : b ≠ b1) :
    Up w (w1.setCell ⟨b, o, none⟩ v) ∧ (w1.setCell ⟨b, o, none⟩ v).cell? ⟨b0, o0, none⟩ = some x0 ∧ (w1.setCell ⟨b, o, none⟩ v).cell? ⟨b1, o1, none⟩ = some x1 :=
  ⟨h.1.setCell hb v, (cell_far n0).trans h.2.1, (cell_far n1).trans h.2.2⟩
end Go.Proofs.Ytinjainclhfahaa
