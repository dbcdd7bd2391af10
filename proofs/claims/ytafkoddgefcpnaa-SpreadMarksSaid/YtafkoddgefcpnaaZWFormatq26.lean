/- Texts of these claims, one after the other. -/
import Derived.Test.YtafkoddgefcpnaaRows
import Derived.Test.YtafkoddgefcpnaaZGBaseq31
import Derived.Test.YtafkoddgefcpnaaZWCmpq22
import Derived.Test.YtafkoddgefcpnaaZWLenq10
namespace Go.Proofs.Ytafkoddgefcpnaa
open Go.RowKit

theorem isZero_v (a : Int) (ha : In2 a) (w : World) :
    Calls Try.prog 155 #[.agg #[.int .u64 (hiZ a), .int .u64 (loZ a)]] w fun e w' => e = .returned (.bool (zB a)) ∧ Up w w' := by
  have h := isZero_up (hiZ a) (loZ a) (hiZ_word ha) (loZ_word a) w
  rw [val_hilo] at h
  exact h

theorem keep4 {w w1 w2 : World} {b0 o0 b1 o1 b2 o2 b3 o3 : Nat} {x0 x1 x2 x3 : Value} (hu : Hid (Up w1 w2))
    (h : Up w w1 ∧ w1.cell? ⟨b0, o0, none⟩ = some x0 ∧ w1.cell? ⟨b1, o1, none⟩ = some x1 ∧ w1.cell? ⟨b2, o2, none⟩ = some x2 ∧ w1.cell? ⟨b3, o3, none⟩ = some x3) :
    Up w w2 ∧ w2.cell? ⟨b0, o0, none⟩ = some x0 ∧ w2.cell? ⟨b1, o1, none⟩ = some x1 ∧ w2.cell? ⟨b2, o2, none⟩ = some x2 ∧ w2.cell? ⟨b3, o3, none⟩ = some x3 :=
  ⟨h.1.trans hu.out, hu.out.keep _ _ _ h.2.1, hu.out.keep _ _ _ h.2.2.1, hu.out.keep _ _ _ h.2.2.2.1, hu.out.keep _ _ _ h.2.2.2.2⟩

theorem keep6 {w w1 w2 : World} {b0 o0 b1 o1 b2 o2 b3 o3 b4 o4 b5 o5 : Nat} {x0 x1 x2 x3 x4 x5 : Value} (hu : Hid (Up w1 w2))
    (h : Up w w1 ∧ w1.cell? ⟨b0, o0, none⟩ = some x0 ∧ w1.cell? ⟨b1, o1, none⟩ = some x1 ∧ w1.cell? ⟨b2, o2, none⟩ = some x2 ∧ w1.cell? ⟨b3, o3, none⟩ = some x3 ∧ w1.cell? ⟨b4, o4, none⟩ = some x4 ∧ w1.cell? ⟨b5, o5, none⟩ = some x5) :
    Up w w2 ∧ w2.cell? ⟨b0, o0, none⟩ = some x0 ∧ w2.cell? ⟨b1, o1, none⟩ = some x1 ∧ w2.cell? ⟨b2, o2, none⟩ = some x2 ∧ w2.cell? ⟨b3, o3, none⟩ = some x3 ∧ w2.cell? ⟨b4, o4, none⟩ = some x4 ∧ w2.cell? ⟨b5, o5, none⟩ = some x5 :=
  ⟨h.1.trans hu.out, hu.out.keep _ _ _ h.2.1, hu.out.keep _ _ _ h.2.2.1, hu.out.keep _ _ _ h.2.2.2.1, hu.out.keep _ _ _ h.2.2.2.2.1, hu.out.keep _ _ _ h.2.2.2.2.2.1, hu.out.keep _ _ _ h.2.2.2.2.2.2⟩
theorem alloc6 {w w1 : World} {b0 o0 b1 o1 b2 o2 b3 o3 b4 o4 b5 o5 : Nat} {x0 x1 x2 x3 x4 x5 : Value} {c : Array Value} {t : TypeId}
    (h : Up w w1 ∧ w1.cell? ⟨b0, o0, none⟩ = some x0 ∧ w1.cell? ⟨b1, o1, none⟩ = some x1 ∧ w1.cell? ⟨b2, o2, none⟩ = some x2 ∧ w1.cell? ⟨b3, o3, none⟩ = some x3 ∧ w1.cell? ⟨b4, o4, none⟩ = some x4 ∧ w1.cell? ⟨b5, o5, none⟩ = some x5) :
    Up w (w1.alloc (.cells c t)) ∧ (w1.alloc (.cells c t)).cell? ⟨b0, o0, none⟩ = some x0 ∧ (w1.alloc (.cells c t)).cell? ⟨b1, o1, none⟩ = some x1 ∧ (w1.alloc (.cells c t)).cell? ⟨b2, o2, none⟩ = some x2 ∧ (w1.alloc (.cells c t)).cell? ⟨b3, o3, none⟩ = some x3 ∧ (w1.alloc (.cells c t)).cell? ⟨b4, o4, none⟩ = some x4 ∧ (w1.alloc (.cells c t)).cell? ⟨b5, o5, none⟩ = some x5 :=
  keep6 (Lib.hid ((Up.refl _).alloc _ _)) h
theorem set6 {w w1 : World} {b0 o0 b1 o1 b2 o2 b3 o3 b4 o4 b5 o5 : Nat} {x0 x1 x2 x3 x4 x5 : Value} {b o : Nat} {v : Value}
    (h : Up w w1 ∧ w1.cell? ⟨b0, o0, none⟩ = some x0 ∧ w1.cell? ⟨b1, o1, none⟩ = some x1 ∧ w1.cell? ⟨b2, o2, none⟩ = some x2 ∧ w1.cell? ⟨b3, o3, none⟩ = some x3 ∧ w1.cell? ⟨b4, o4, none⟩ = some x4 ∧ w1.cell? ⟨b5, o5, none⟩ = some x5)
    (hb : w.heap.size ≤ b) (n0 : b ≠ b0) (n1 : b ≠ b1) (n2 : b ≠ b2) (n3 : b ≠ b3) (n4 : b ≠ b4) (n5 : b ≠ b5) :
    Up w (w1.setCell ⟨b, o, none⟩ v) ∧ (w1.setCell ⟨b, o, none⟩ v).cell? ⟨b0, o0, none⟩ = some x0 ∧ (w1.setCell ⟨b, o, none⟩ v).cell? ⟨b1, o1, none⟩ = some x1 ∧ (w1.setCell ⟨b, o, none⟩ v).cell? ⟨b2, o2, none⟩ = some x2 ∧ (w1.setCell ⟨b, o, none⟩ v).cell? ⟨b3, o3, none⟩ = some x3 ∧ (w1.setCell ⟨b, o, none⟩ v).cell? ⟨b4, o4, none⟩ = some x4 ∧ (w1.setCell ⟨b, o, none⟩ v).cell? ⟨b5, o5, none⟩ = some x5 :=
  ⟨h.1.setCell hb v, (cell_far n0).trans h.2.1, (cell_far n1).trans h.2.2.1, (cell_far n2).trans h.2.2.2.1, (cell_far n3).trans h.2.2.2.2.1, (cell_far n4).trans h.2.2.2.2.2.1, (cell_far n5).trans h.2.2.2.2.2.2⟩
theorem base3n (w : World) (x0 x1 x2 x3 x4 x5 : Value) (t1 t2 t3 : TypeId) :
    Up w (((w.alloc (.cells #[x0, x1] t1)).alloc (.cells #[x2, x3] t2)).alloc (.cells #[x4, x5] t3)) ∧
    (((w.alloc (.cells #[x0, x1] t1)).alloc (.cells #[x2, x3] t2)).alloc (.cells #[x4, x5] t3)).cell? ⟨w.heap.size, 0, none⟩ = some x0 ∧ (((w.alloc (.cells #[x0, x1] t1)).alloc (.cells #[x2, x3] t2)).alloc (.cells #[x4, x5] t3)).cell? ⟨w.heap.size, 1, none⟩ = some x1 ∧
    (((w.alloc (.cells #[x0, x1] t1)).alloc (.cells #[x2, x3] t2)).alloc (.cells #[x4, x5] t3)).cell? ⟨w.heap.size + 1, 0, none⟩ = some x2 ∧ (((w.alloc (.cells #[x0, x1] t1)).alloc (.cells #[x2, x3] t2)).alloc (.cells #[x4, x5] t3)).cell? ⟨w.heap.size + 1, 1, none⟩ = some x3 ∧
    (((w.alloc (.cells #[x0, x1] t1)).alloc (.cells #[x2, x3] t2)).alloc (.cells #[x4, x5] t3)).cell? ⟨w.heap.size + 1 + 1, 0, none⟩ = some x4 ∧ (((w.alloc (.cells #[x0, x1] t1)).alloc (.cells #[x2, x3] t2)).alloc (.cells #[x4, x5] t3)).cell? ⟨w.heap.size + 1 + 1, 1, none⟩ = some x5 := by
  have k1 : ∀ o, (((w.alloc (.cells #[x0, x1] t1)).alloc (.cells #[x2, x3] t2)).alloc (.cells #[x4, x5] t3)).cell? ⟨w.heap.size, o, none⟩ = #[x0, x1][o]? := fun o => by
    rw [World.cell?_alloc_past _ _ _ (by rw [size_alloc, size_alloc]; omega), World.cell?_alloc_past _ _ _ (by rw [size_alloc]; omega), World.cell?_alloc_at _ _ _ _ rfl]
  have k2 : ∀ o, (((w.alloc (.cells #[x0, x1] t1)).alloc (.cells #[x2, x3] t2)).alloc (.cells #[x4, x5] t3)).cell? ⟨w.heap.size + 1, o, none⟩ = #[x2, x3][o]? := fun o => by
    rw [World.cell?_alloc_past _ _ _ (by rw [size_alloc, size_alloc]; omega), World.cell?_alloc_at _ _ _ _ (by rw [size_alloc])]
  have k3 : ∀ o, (((w.alloc (.cells #[x0, x1] t1)).alloc (.cells #[x2, x3] t2)).alloc (.cells #[x4, x5] t3)).cell? ⟨w.heap.size + 1 + 1, o, none⟩ = #[x4, x5][o]? := fun o => by
    rw [World.cell?_alloc_at _ _ _ _ (by rw [size_alloc, size_alloc])]
  exact ⟨((((Up.refl w).alloc _ _).alloc _ _).alloc _ _), k1 0, k1 1, k2 0, k2 1, k3 0, k3 1⟩

theorem drew6 {w w1 : World} {b0 o0 b1 o1 b2 o2 b3 o3 b4 o4 b5 o5 : Nat} {x0 x1 x2 x3 x4 x5 : Value}
    (h : Up w w1 ∧ w1.cell? ⟨b0, o0, none⟩ = some x0 ∧ w1.cell? ⟨b1, o1, none⟩ = some x1 ∧ w1.cell? ⟨b2, o2, none⟩ = some x2 ∧ w1.cell? ⟨b3, o3, none⟩ = some x3 ∧ w1.cell? ⟨b4, o4, none⟩ = some x4 ∧ w1.cell? ⟨b5, o5, none⟩ = some x5) :
    Up w w1.drew ∧ w1.drew.cell? ⟨b0, o0, none⟩ = some x0 ∧ w1.drew.cell? ⟨b1, o1, none⟩ = some x1 ∧ w1.drew.cell? ⟨b2, o2, none⟩ = some x2 ∧ w1.drew.cell? ⟨b3, o3, none⟩ = some x3 ∧ w1.drew.cell? ⟨b4, o4, none⟩ = some x4 ∧ w1.drew.cell? ⟨b5, o5, none⟩ = some x5 :=
  keep6 (Lib.hid (Up.refl _).drew) h

end Go.Proofs.Ytafkoddgefcpnaa

namespace Go.Proofs.Ytafkoddgefcpnaa
open Go.RowKit

theorem set2 {w w1 : World} {b0 o0 b1 o1 : Nat} {x0 x1 : Value} {b o : Nat} {v : Value} (h : Up w w1 ∧ w1.cell? ⟨b0, o0, none⟩ = some x0 ∧ w1.cell? ⟨b1, o1, none⟩ = some x1) (hb : w.heap.size ≤ b) (n0 : b ≠ b0) (n1 : b ≠ b1) :
    Up w (w1.setCell ⟨b, o, none⟩ v) ∧ (w1.setCell ⟨b, o, none⟩ v).cell? ⟨b0, o0, none⟩ = some x0 ∧ (w1.setCell ⟨b, o, none⟩ v).cell? ⟨b1, o1, none⟩ = some x1 :=
  ⟨h.1.setCell hb v, (cell_far n0).trans h.2.1, (cell_far n1).trans h.2.2⟩
end Go.Proofs.Ytafkoddgefcpnaa

namespace Go.Proofs.Ytafkoddgefcpnaa
open Go.RowKit

/-- What the walk of total holds. -/
structure Tt (w wr : World) (p q : Int) : Prop where
  up : Up w wr
  r0 : wr.cell? ⟨w.heap.size, 0, none⟩ = some (.int .u64 0)
  r1 : wr.cell? ⟨w.heap.size, 1, none⟩ = some (.int .u64 0)
  a0 : wr.cell? ⟨w.heap.size + 1, 0, none⟩ = some (.int .u64 (hiZ p))
  a1 : wr.cell? ⟨w.heap.size + 1, 1, none⟩ = some (.int .u64 (loZ p))
  b0 : wr.cell? ⟨w.heap.size + 1 + 1, 0, none⟩ = some (.int .u64 (hiZ q))
  b1 : wr.cell? ⟨w.heap.size + 1 + 1, 1, none⟩ = some (.int .u64 (loZ q))
theorem Tt.keep {w w1 w2 : World} {p q : Int} (h : Tt w w1 p q) (hu : Up w1 w2) : Tt w w2 p q :=
  ⟨h.up.trans hu, hu.keep _ _ _ h.r0, hu.keep _ _ _ h.r1, hu.keep _ _ _ h.a0, hu.keep _ _ _ h.a1, hu.keep _ _ _ h.b0, hu.keep _ _ _ h.b1⟩
end Go.Proofs.Ytafkoddgefcpnaa
