/- Texts of these claims, one after the other. -/
import Derived.Test.YtafkoddgefcpnabRows
import Derived.Test.YtafkoddgefcpnabZWMulq18
import Derived.Test.YtafkoddgefcpnabZWShortq4
namespace Go.Proofs.Ytafkoddgefcpnab
open Go.RowKit

theorem isZero_v (a : Int) (ha : In2 a) (w : World) :
    Calls Try.prog 68 #[.agg #[.int .u64 (hiZ a), .int .u64 (loZ a)]] w fun e w' => e = .returned (.bool (zB a)) ∧ Up w w' := by
  have h := isZero_up (hiZ a) (loZ a) (hiZ_word ha) (loZ_word a) w
  rw [val_hilo] at h
  exact h

theorem frozen_new (w : World) (b o : Nat) : w.frozen? ⟨w.heap.size + b, o, none⟩ = false := by
  simp [World.frozen?]
theorem Up.keep {w w' : World} (h : Up w w') : ∀ b o v, w.cell? ⟨b, o, none⟩ = some v → w'.cell? ⟨b, o, none⟩ = some v := fun b o _ hv =>
  (h.cells.1 b o (World.block_lt_of_cell? w ⟨b, o, none⟩ hv)).trans hv
theorem cell_far {w : World} {p : Addr} {v : Value} {b o : Nat} (h : p.block ≠ b) : (w.setCell p v).cell? ⟨b, o, none⟩ = w.cell? ⟨b, o, none⟩ :=
  World.cell?_setCell_other _ _ _ _ (fun e => h (by rw [e]))
theorem keep4 {w w1 w2 : World} {b0 o0 b1 o1 b2 o2 b3 o3 : Nat} {x0 x1 x2 x3 : Value} (hu : Hid (Up w1 w2))
    (h : Up w w1 ∧ w1.cell? ⟨b0, o0, none⟩ = some x0 ∧ w1.cell? ⟨b1, o1, none⟩ = some x1 ∧ w1.cell? ⟨b2, o2, none⟩ = some x2 ∧ w1.cell? ⟨b3, o3, none⟩ = some x3) :
    Up w w2 ∧ w2.cell? ⟨b0, o0, none⟩ = some x0 ∧ w2.cell? ⟨b1, o1, none⟩ = some x1 ∧ w2.cell? ⟨b2, o2, none⟩ = some x2 ∧ w2.cell? ⟨b3, o3, none⟩ = some x3 :=
  ⟨h.1.trans hu.out, hu.out.keep _ _ _ h.2.1, hu.out.keep _ _ _ h.2.2.1, hu.out.keep _ _ _ h.2.2.2.1, hu.out.keep _ _ _ h.2.2.2.2⟩

theorem keep6 {w w1 w2 : World} {b0 o0 b1 o1 b2 o2 b3 o3 b4 o4 b5 o5 : Nat} {x0 x1 x2 x3 x4 x5 : Value} (hu : Hid (Up w1 w2))
    (h : Up w w1 ∧ w1.cell? ⟨b0, o0, none⟩ = some x0 ∧ w1.cell? ⟨b1, o1, none⟩ = some x1 ∧ w1.cell? ⟨b2, o2, none⟩ = some x2 ∧ w1.cell? ⟨b3, o3, none⟩ = some x3 ∧ w1.cell? ⟨b4, o4, none⟩ = some x4 ∧ w1.cell? ⟨b5, o5, none⟩ = some x5) :
    Up w w2 ∧ w2.cell? ⟨b0, o0, none⟩ = some x0 ∧ w2.cell? ⟨b1, o1, none⟩ = some x1 ∧ w2.cell? ⟨b2, o2, none⟩ = some x2 ∧ w2.cell? ⟨b3, o3, none⟩ = some x3 ∧ w2.cell? ⟨b4, o4, none⟩ = some x4 ∧ w2.cell? ⟨b5, o5, none⟩ = some x5 :=
  ⟨h.1.trans hu.out, hu.out.keep _ _ _ h.2.1, hu.out.keep _ _ _ h.2.2.1, hu.out.keep _ _ _ h.2.2.2.1, hu.out.keep _ _ _ h.2.2.2.2.1, hu.out.keep _ _ _ h.2.2.2.2.2.1, hu.out.keep _ _ _ h.2.2.2.2.2.2⟩
theorem Up.own {w w' : World} (h : Up w w') (b o : Nat) : w'.frozen? ⟨w.heap.size + b, o, none⟩ = false := (h.cells.2 _).trans (frozen_new w b o)

theorem alloc6 {w w1 : World} {b0 o0 b1 o1 b2 o2 b3 o3 b4 o4 b5 o5 : Nat} {x0 x1 x2 x3 x4 x5 : Value} {c : Array Value} {t : TypeId}
    (h : Up w w1 ∧ w1.cell? ⟨b0, o0, none⟩ = some x0 ∧ w1.cell? ⟨b1, o1, none⟩ = some x1 ∧ w1.cell? ⟨b2, o2, none⟩ = some x2 ∧ w1.cell? ⟨b3, o3, none⟩ = some x3 ∧ w1.cell? ⟨b4, o4, none⟩ = some x4 ∧ w1.cell? ⟨b5, o5, none⟩ = some x5) :
    Up w (w1.alloc (.cells c t)) ∧ (w1.alloc (.cells c t)).cell? ⟨b0, o0, none⟩ = some x0 ∧ (w1.alloc (.cells c t)).cell? ⟨b1, o1, none⟩ = some x1 ∧ (w1.alloc (.cells c t)).cell? ⟨b2, o2, none⟩ = some x2 ∧ (w1.alloc (.cells c t)).cell? ⟨b3, o3, none⟩ = some x3 ∧ (w1.alloc (.cells c t)).cell? ⟨b4, o4, none⟩ = some x4 ∧ (w1.alloc (.cells c t)).cell? ⟨b5, o5, none⟩ = some x5 :=
  keep6 (Lib.hid ((Up.refl _).alloc _ _)) h
theorem set6 {w w1 : World} {b0 o0 b1 o1 b2 o2 b3 o3 b4 o4 b5 o5 : Nat} {x0 x1 x2 x3 x4 x5 : Value} {b o : Nat} {v : Value}
    (h : Up w w1 ∧ w1.cell? ⟨b0, o0, none⟩ = some x0 ∧ w1.cell? ⟨b1, o1, none⟩ = some x1 ∧ w1.cell? ⟨b2, o2, none⟩ = some x2 ∧ w1.cell? ⟨b3, o3, none⟩ = some x3 ∧ w1.cell? ⟨b4, o4, none⟩ = some x4 ∧ w1.cell? ⟨b5, o5, none⟩ = some x5)
    (hb : w.heap.size ≤ b) (n0 : b ≠ b0) (n1 : b ≠ b1) (n2 : b ≠ b2) (n3 : b ≠ b3) (n4 : b ≠ b4) (n5 : b ≠ b5) :
    Up w (w1.setCell ⟨b, o, none⟩ v) ∧ (w1.setCell ⟨b, o, none⟩ v).cell? ⟨b0, o0, none⟩ = some x0 ∧ (w1.setCell ⟨b, o, none⟩ v).cell? ⟨b1, o1, none⟩ = some x1 ∧ (w1.setCell ⟨b, o, none⟩ v).cell? ⟨b2, o2, none⟩ = some x2 ∧ (w1.setCell ⟨b, o, none⟩ v).cell? ⟨b3, o3, none⟩ = some x3 ∧ (w1.setCell ⟨b, o, none⟩ v).cell? ⟨b4, o4, none⟩ = some x4 ∧ (w1.setCell ⟨b, o, none⟩ v).cell? ⟨b5, o5, none⟩ = some x5 :=
  ⟨h.1.setCell hb v, (cell_far n0).trans h.2.1, (cell_far n1).trans h.2.2.1, (cell_far n2).trans h.2.2.2.1, (cell_far n3).trans h.2.2.2.2.1, (cell_far n4).trans h.2.2.2.2.2.1, (cell_far n5).trans h.2.2.2.2.2.2⟩
theorem base3n (w : World) (x0 x1 x2 x3 x4 x5 : Value) (t1 t2 t3 : TypeId) :
    Up w (((w.alloc (.cells #[x0, x1] t1)).alloc (.cells #[x2, x3] t2)).alloc (.cells #[x4, x5] t3)) ∧
    (((w.alloc (.cells #[x0, x1] t1)).alloc (.cells #[x2, x3] t2)).alloc (.cells #[x4, x5] t3)).cell? ⟨w.heap.size, 0, none⟩ = some x0 ∧ (((w.alloc (.cells #[x0, x1] t1)).alloc (.cells #[x2, x3] t2)).alloc (.cells #[x4, x5] t3)).cell? ⟨w.heap.size, 1, none⟩ = some x1 ∧
    (((w.alloc (.cells #[x0, x1] t1)).alloc (.cells #[x2, x3] t2)).alloc (.cells #[x4, x5] t3)).cell? ⟨w.heap.size + 1, 0, none⟩ = some x2 ∧ (((w.alloc (.cells #[x0, x1] t1)).alloc (.cells #[x2, x3] t2)).alloc (.cells #[x4, x5] t3)).cell? ⟨w.heap.size + 1, 1, none⟩ = some x3 ∧
    (((w.alloc (.cells #[x0, x1] t1)).alloc (.cells #[x2, x3] t2)).alloc (.cells #[x4, x5] t3)).cell? ⟨w.heap.size + 1 + 1, 0, none⟩ = some x4 ∧ (((w.alloc (.cells #[x0, x1] t1)).alloc (.cells #[x2, x3] t2)).alloc (.cells #[x4, x5] t3)).cell? ⟨w.heap.size + 1 + 1, 1, none⟩ = some x5 := by
  have k1 : ∀ o, (((w.alloc (.cells #[x0, x1] t1)).alloc (.cells #[x2, x3] t2)).alloc (.cells #[x4, x5] t3)).cell? ⟨w.heap.size, o, none⟩ = #[x0, x1][o]? := fun o => by
    rw [World.cell?_alloc_past _ _ _ (by rw [size_alloc, size_alloc]; omega), World.cell?_alloc_past _ _ _ (by rw [size_alloc]; omega), World.cell?_alloc_at _ _ _ _ rfl]
  have k2 : ∀ o, (((w.alloc (.cells #[x0, x1] t1)).alloc (.cells #[x2, x3] t2)).alloc (.cells #[x4, x5] t3)).cell? ⟨w.heap.size + 1, o, none⟩ = #[x2, x3][o]? := fun o => by
    rw [World.cell?_alloc_past _ _ _ (by rw [size_alloc, size_alloc]; omega), World.cell?_alloc_at _ _ _ _ (by rw [size_alloc])]
  have k3 : ∀ o, (((w.alloc (.cells #[x0, x1] t1)).alloc (.cells #[x2, x3] t2)).alloc (.cells #[x4, x5] t3)).cell? ⟨w.heap.size + 1 + 1, o, none⟩ = #[x4, x5][o]? := fun o => by
    rw [World.cell?_alloc_at _ _ _ _ (by rw [size_alloc, size_alloc])]
  exact ⟨((((Up.refl w).alloc _ _).alloc _ _).alloc _ _), k1 0, k1 1, k2 0, k2 1, k3 0, k3 1⟩

theorem drew6 {w w1 : World} {b0 o0 b1 o1 b2 o2 b3 o3 b4 o4 b5 o5 : Nat} {x0 x1 x2 x3 x4 x5 : Value}
    (h : Up w w1 ∧ w1.cell? ⟨b0, o0, none⟩ = some x0 ∧ w1.cell? ⟨b1, o1, none⟩ = some x1 ∧ w1.cell? ⟨b2, o2, none⟩ = some x2 ∧ w1.cell? ⟨b3, o3, none⟩ = some x3 ∧ w1.cell? ⟨b4, o4, none⟩ = some x4 ∧ w1.cell? ⟨b5, o5, none⟩ = some x5) :
    Up w w1.drew ∧ w1.drew.cell? ⟨b0, o0, none⟩ = some x0 ∧ w1.drew.cell? ⟨b1, o1, none⟩ = some x1 ∧ w1.drew.cell? ⟨b2, o2, none⟩ = some x2 ∧ w1.drew.cell? ⟨b3, o3, none⟩ = some x3 ∧ w1.drew.cell? ⟨b4, o4, none⟩ = some x4 ∧ w1.drew.cell? ⟨b5, o5, none⟩ = some x5 :=
  keep6 (Lib.hid (Up.refl _).drew) h

/-- Where the walk of Format is: m places are left, the rest of the number is a, the digits behind the places are l. -/
structure Fm (w wr : World) (m : Nat) (a : Int) (l : List UInt8) : Prop where
  up : Up w wr
  size : w.heap.size + 2 ≤ wr.heap.size
  hi : wr.cell? ⟨w.heap.size, 0, none⟩ = some (.int .u64 (hiZ a))
  lo : wr.cell? ⟨w.heap.size, 1, none⟩ = some (.int .u64 (loZ a))
  row : ∀ i, i < 39 → ∃ x : Int, wr.cell? ⟨w.heap.size + 1, i, none⟩ = some (.int .u8 x)
  len : l.length + m = 39
  dig : ∀ j (hj : j < l.length), wr.cell? ⟨w.heap.size + 1, m + j, none⟩ = some (.int .u8 (l[j].toNat : Int))
  fr : ∀ b o, wr.frozen? ⟨w.heap.size + b, o, none⟩ = false

theorem add_at (b o j : Nat) : (⟨b, o, none⟩ : Addr).add j = ⟨b, o + j, none⟩ := by
  unfold Addr.add
  by_cases h : j = 0
  · rw [if_pos h, h]; rfl
  · rw [if_neg h]
theorem cell_set {w : World} {b o o' : Nat} {v u : Value} (h : w.cell? ⟨b, o', none⟩ = some u) :
    (w.setCell ⟨b, o, none⟩ v).cell? ⟨b, o', none⟩ = some (if o = o' then v else u) := by
  by_cases e : o = o'
  · subst e; rw [if_pos rfl]; exact World.cell?_setCell_same _ _ _ h
  · rw [if_neg e, World.cell?_setCell_other _ _ _ _ (by intro he; injection he; contradiction)]; exact h
theorem Fm.put {w w2 : World} {m : Nat} {a a' : Int} {l : List UInt8} (hF : Fm w w2 m a l) : Fm w ((w2.setCell ⟨w.heap.size, 0, none⟩ (.int .u64 (hiZ a'))).setCell ⟨w.heap.size, 1, none⟩ (.int .u64 (loZ a'))) m a' l := by
  have far : ∀ o, ((w2.setCell ⟨w.heap.size, 0, none⟩ (.int .u64 (hiZ a'))).setCell ⟨w.heap.size, 1, none⟩ (.int .u64 (loZ a'))).cell? ⟨w.heap.size + 1, o, none⟩ = w2.cell? ⟨w.heap.size + 1, o, none⟩ := fun o => by
    rw [cell_far (by show w.heap.size ≠ w.heap.size + 1; omega), cell_far (by show w.heap.size ≠ w.heap.size + 1; omega)]
  refine ⟨(hF.up.setCell (Nat.le_refl _) _).setCell (Nat.le_refl _) _, by rw [size_set, size_set]; exact hF.size, ?_, ?_, ?_, hF.len, ?_, ?_⟩
  · rw [cell_set (u := .int .u64 (hiZ a')) (by rw [cell_set hF.hi, if_pos rfl]), if_neg (by omega)]
  · rw [cell_set (u := .int .u64 (loZ a)) (by rw [cell_set hF.lo, if_neg (by omega)]), if_pos rfl]
  · intro i hi; rw [far]; exact hF.row i hi
  · intro j hj; rw [far]; exact hF.dig j hj
  · intro b o; rw [World.frozen?_setCell, World.frozen?_setCell]; exact hF.fr b o

end Go.Proofs.Ytafkoddgefcpnab

namespace Go.Proofs.Ytafkoddgefcpnab
open Go.RowKit

theorem mul_far2 {ah al bh bl : Int} (h1 : Word ah) (h2 : Word al) (h3 : Word bh) (h4 : Word bl) (t1 : ah ≠ 0) (t2 : bh ≠ 0) : ¬ In2 (val ah al * val bh bl) := by
  obtain ⟨a1, _⟩ := h1; obtain ⟨b1, _⟩ := h2; obtain ⟨c1, _⟩ := h3; obtain ⟨d1, _⟩ := h4
  have : 18446744073709551616 * 18446744073709551616 ≤ val ah al * val bh bl := Int.mul_le_mul (by unfold val; omega) (by unfold val; omega) (by decide) (by unfold val; omega)
  unfold In2; omega
theorem mul_near2 {ah al bh bl : Int} (h1 : Word ah) (h2 : Word al) (h3 : Word bh) (h4 : Word bl) (h : ah = 0 ∨ bh = 0) :
    ((hiZ (ah * bl) ≠ 0 ∨ hiZ (al * bh) ≠ 0) → ¬ In2 (val ah al * val bh bl)) ∧
    (hiZ (ah * bl) = 0 → hiZ (al * bh) = 0 → 0 ≤ loZ (ah * bl) + loZ (al * bh) ∧ loZ (ah * bl) + loZ (al * bh) < 18446744073709551616 ∧ val (hiZ (al * bl)) (loZ (al * bl)) + val (loZ (ah * bl) + loZ (al * bh)) 0 = val ah al * val bh bl) := by
  have hz : ah * bh = 0 := by rcases h with h | h <;> subst h <;> simp
  have hlr : ah * bl = 0 ∨ al * bh = 0 := by rcases h with h | h <;> subst h <;> simp
  have p1 := (mul_word h1 h4).1
  have p2 := (mul_word h2 h3).1
  have p3 := (mul_word h2 h4).1
  have e : val ah al * val bh bl = (ah * bl + al * bh) * 18446744073709551616 + al * bl := by
    unfold val
    rw [Int.add_mul, Int.mul_add, Int.mul_add, Int.mul_right_comm ah 18446744073709551616 (bh * 18446744073709551616), ← Int.mul_assoc ah bh, hz, Int.mul_right_comm ah 18446744073709551616 bl, ← Int.mul_assoc al bh]
    omega
  rw [e, val_hilo]
  generalize ah * bl = L at *
  generalize al * bh = R at *
  generalize al * bl = P at *
  unfold hiZ loZ val In2
  refine ⟨fun hh => by omega, fun e1 e2 => ⟨by omega, by omega, by omega⟩⟩
theorem set4 {w w1 : World} {b0 o0 b1 o1 b2 o2 b3 o3 : Nat} {x0 x1 x2 x3 : Value} {b o : Nat} {v : Value}
    (h : Up w w1 ∧ w1.cell? ⟨b0, o0, none⟩ = some x0 ∧ w1.cell? ⟨b1, o1, none⟩ = some x1 ∧ w1.cell? ⟨b2, o2, none⟩ = some x2 ∧ w1.cell? ⟨b3, o3, none⟩ = some x3)
    (hb : w.heap.size ≤ b) (n0 : b ≠ b0) (n1 : b ≠ b1) (n2 : b ≠ b2) (n3 : b ≠ b3) :
    Up w (w1.setCell ⟨b, o, none⟩ v) ∧ (w1.setCell ⟨b, o, none⟩ v).cell? ⟨b0, o0, none⟩ = some x0 ∧ (w1.setCell ⟨b, o, none⟩ v).cell? ⟨b1, o1, none⟩ = some x1 ∧ (w1.setCell ⟨b, o, none⟩ v).cell? ⟨b2, o2, none⟩ = some x2 ∧ (w1.setCell ⟨b, o, none⟩ v).cell? ⟨b3, o3, none⟩ = some x3 :=
  ⟨h.1.setCell hb v, (cell_far n0).trans h.2.1, (cell_far n1).trans h.2.2.1, (cell_far n2).trans h.2.2.2.1, (cell_far n3).trans h.2.2.2.2⟩


end Go.Proofs.Ytafkoddgefcpnab
