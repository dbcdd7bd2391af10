/- What wide.Format returns, and that the example of the chapter holds. -/
import Derived.Test.YtbfbmdkgnecfaaaDoorWShort
import Derived.Test.YtbfbmdkgnecfaaaDoorWCmp
import Derived.Test.YtbfbmdkgnecfaaaDoorWDec
import Derived.Laws.IdiomStrings
namespace Go.Proofs.YtbfbmdkgnecfaaaDoor
open Go.RowKit

theorem divShort10 (a : Int) (ha : In2 a) (w : World) :
    Calls Tryd.prog 21 #[.agg #[.int .u64 (hiZ a), .int .u64 (loZ a)], .int .u64 10] w fun e w' =>
      e = .returned (.tuple #[.agg #[.int .u64 (hiZ (a / 10)), .int .u64 (loZ (a / 10))], .int .u64 (a % 10)]) ∧ Up w w' := by
  have h := divShort_up (hiZ a) (loZ a) 10 (hiZ_word ha) (loZ_word a) word_10 (by decide) w
  rw [val_hilo] at h
  exact h
theorem isZero_v (a : Int) (ha : In2 a) (w : World) :
    Calls Tryd.prog 14 #[.agg #[.int .u64 (hiZ a), .int .u64 (loZ a)]] w fun e w' => e = .returned (.bool (zB a)) ∧ Up w w' := by
  have h := isZero_up (hiZ a) (loZ a) (hiZ_word ha) (loZ_word a) w
  rw [val_hilo] at h
  exact h

theorem frozen_new (w : World) (b o : Nat) : w.frozen? ⟨w.heap.size + b, o, none⟩ = false := by
  simp [World.frozen?]
theorem Up.keep {w w' : World} (h : Up w w') : ∀ b o v, w.cell? ⟨b, o, none⟩ = some v → w'.cell? ⟨b, o, none⟩ = some v := fun b o _ hv =>
  (h.cells.1 b o (World.block_lt_of_cell? w ⟨b, o, none⟩ hv)).trans hv
theorem Up.thru {w w' : World} (h : Up w w') : ∀ A, Up A w → Up A w' := fun _ k => k.trans h

theorem cell_far {w : World} {p : Addr} {v : Value} {b o : Nat} (h : p.block ≠ b) : (w.setCell p v).cell? ⟨b, o, none⟩ = w.cell? ⟨b, o, none⟩ :=
  World.cell?_setCell_other _ _ _ _ (fun e => h (by rw [e]))
theorem keep4 {w w1 w2 : World} {b0 o0 b1 o1 b2 o2 b3 o3 : Nat} {x0 x1 x2 x3 : Value} (hu : Hid (Up w1 w2))
    (h : Up w w1 ∧ w1.cell? ⟨b0, o0, none⟩ = some x0 ∧ w1.cell? ⟨b1, o1, none⟩ = some x1 ∧ w1.cell? ⟨b2, o2, none⟩ = some x2 ∧ w1.cell? ⟨b3, o3, none⟩ = some x3) :
    Up w w2 ∧ w2.cell? ⟨b0, o0, none⟩ = some x0 ∧ w2.cell? ⟨b1, o1, none⟩ = some x1 ∧ w2.cell? ⟨b2, o2, none⟩ = some x2 ∧ w2.cell? ⟨b3, o3, none⟩ = some x3 :=
  ⟨h.1.trans hu.out, hu.out.keep _ _ _ h.2.1, hu.out.keep _ _ _ h.2.2.1, hu.out.keep _ _ _ h.2.2.2.1, hu.out.keep _ _ _ h.2.2.2.2⟩

theorem keep6 {w w1 w2 : World} {b0 o0 b1 o1 b2 o2 b3 o3 b4 o4 b5 o5 : Nat} {x0 x1 x2 x3 x4 x5 : Value} (hu : Hid (Up w1 w2))
    (h : Up w w1 ∧ w1.cell? ⟨b0, o0, none⟩ = some x0 ∧ w1.cell? ⟨b1, o1, none⟩ = some x1 ∧ w1.cell? ⟨b2, o2, none⟩ = some x2 ∧ w1.cell? ⟨b3, o3, none⟩ = some x3 ∧ w1.cell? ⟨b4, o4, none⟩ = some x4 ∧ w1.cell? ⟨b5, o5, none⟩ = some x5) :
    Up w w2 ∧ w2.cell? ⟨b0, o0, none⟩ = some x0 ∧ w2.cell? ⟨b1, o1, none⟩ = some x1 ∧ w2.cell? ⟨b2, o2, none⟩ = some x2 ∧ w2.cell? ⟨b3, o3, none⟩ = some x3 ∧ w2.cell? ⟨b4, o4, none⟩ = some x4 ∧ w2.cell? ⟨b5, o5, none⟩ = some x5 :=
  ⟨h.1.trans hu.out, hu.out.keep _ _ _ h.2.1, hu.out.keep _ _ _ h.2.2.1, hu.out.keep _ _ _ h.2.2.2.1, hu.out.keep _ _ _ h.2.2.2.2.1, hu.out.keep _ _ _ h.2.2.2.2.2.1, hu.out.keep _ _ _ h.2.2.2.2.2.2⟩
theorem Up.less {w w' : World} (h : Up w w') : ∀ k, k < w.heap.size → k < w'.heap.size := fun _ k => Nat.lt_of_lt_of_le k h.size
theorem Up.own {w w' : World} (h : Up w w') (b o : Nat) : w'.frozen? ⟨w.heap.size + b, o, none⟩ = false := (h.cells.2 _).trans (frozen_new w b o)

theorem alloc6 {w w1 : World} {b0 o0 b1 o1 b2 o2 b3 o3 b4 o4 b5 o5 : Nat} {x0 x1 x2 x3 x4 x5 : Value} {c : Array Value} {t : TypeId}
    (h : Up w w1 ∧ w1.cell? ⟨b0, o0, none⟩ = some x0 ∧ w1.cell? ⟨b1, o1, none⟩ = some x1 ∧ w1.cell? ⟨b2, o2, none⟩ = some x2 ∧ w1.cell? ⟨b3, o3, none⟩ = some x3 ∧ w1.cell? ⟨b4, o4, none⟩ = some x4 ∧ w1.cell? ⟨b5, o5, none⟩ = some x5) :
    Up w (w1.alloc (.cells c t)) ∧ (w1.alloc (.cells c t)).cell? ⟨b0, o0, none⟩ = some x0 ∧ (w1.alloc (.cells c t)).cell? ⟨b1, o1, none⟩ = some x1 ∧ (w1.alloc (.cells c t)).cell? ⟨b2, o2, none⟩ = some x2 ∧ (w1.alloc (.cells c t)).cell? ⟨b3, o3, none⟩ = some x3 ∧ (w1.alloc (.cells c t)).cell? ⟨b4, o4, none⟩ = some x4 ∧ (w1.alloc (.cells c t)).cell? ⟨b5, o5, none⟩ = some x5 :=
  keep6 (Lib.hid ((Up.refl _).alloc _ _)) h
theorem set6 {w w1 : World} {b0 o0 b1 o1 b2 o2 b3 o3 b4 o4 b5 o5 : Nat} {x0 x1 x2 x3 x4 x5 : Value} {b o : Nat} {v : Value}
    (h : Up w w1 ∧ w1.cell? ⟨b0, o0, none⟩ = some x0 ∧ w1.cell? ⟨b1, o1, none⟩ = some x1 ∧ w1.cell? ⟨b2, o2, none⟩ = some x2 ∧ w1.cell? ⟨b3, o3, none⟩ = some x3 ∧ w1.cell? ⟨b4, o4, none⟩ = some x4 ∧ w1.cell? ⟨b5, o5, none⟩ = some x5)
    (hb : w.heap.size ≤ b) (n0 : b ≠ b0) (n1 : b ≠ b1) (n2 : b ≠ b2) (n3 : b ≠ b3) (n4 : b ≠ b4) (n5 : b ≠ b5) :
    Up w (w1.setCell ⟨b, o, none⟩ v) ∧ (w1.setCell ⟨b, o, none⟩ v).cell? ⟨b0, o0, none⟩ = some x0 ∧ (w1.setCell ⟨b, o, none⟩ v).cell? ⟨b1, o1, none⟩ = some x1 ∧ (w1.setCell ⟨b, o, none⟩ v).cell? ⟨b2, o2, none⟩ = some x2 ∧ (w1.setCell ⟨b, o, none⟩ v).cell? ⟨b3, o3, none⟩ = some x3 ∧ (w1.setCell ⟨b, o, none⟩ v).cell? ⟨b4, o4, none⟩ = some x4 ∧ (w1.setCell ⟨b, o, none⟩ v).cell? ⟨b5, o5, none⟩ = some x5 :=
  ⟨h.1.setCell hb v, (cell_far n0).trans h.2.1, (cell_far n1).trans h.2.2.1, (cell_far n2).trans h.2.2.2.1, (cell_far n3).trans h.2.2.2.2.1, (cell_far n4).trans h.2.2.2.2.2.1, (cell_far n5).trans h.2.2.2.2.2.2⟩
theorem base3n (w : World) (x0 x1 x2 x3 x4 x5 : Value) (t1 t2 t3 : TypeId) :
    Up w (((w.alloc (.cells #[x0, x1] t1)).alloc (.cells #[x2, x3] t2)).alloc (.cells #[x4, x5] t3)) ∧
    (((w.alloc (.cells #[x0, x1] t1)).alloc (.cells #[x2, x3] t2)).alloc (.cells #[x4, x5] t3)).cell? ⟨w.heap.size, 0, none⟩ = some x0 ∧ (((w.alloc (.cells #[x0, x1] t1)).alloc (.cells #[x2, x3] t2)).alloc (.cells #[x4, x5] t3)).cell? ⟨w.heap.size, 1, none⟩ = some x1 ∧
    (((w.alloc (.cells #[x0, x1] t1)).alloc (.cells #[x2, x3] t2)).alloc (.cells #[x4, x5] t3)).cell? ⟨w.heap.size + 1, 0, none⟩ = some x2 ∧ (((w.alloc (.cells #[x0, x1] t1)).alloc (.cells #[x2, x3] t2)).alloc (.cells #[x4, x5] t3)).cell? ⟨w.heap.size + 1, 1, none⟩ = some x3 ∧
    (((w.alloc (.cells #[x0, x1] t1)).alloc (.cells #[x2, x3] t2)).alloc (.cells #[x4, x5] t3)).cell? ⟨w.heap.size + 1 + 1, 0, none⟩ = some x4 ∧ (((w.alloc (.cells #[x0, x1] t1)).alloc (.cells #[x2, x3] t2)).alloc (.cells #[x4, x5] t3)).cell? ⟨w.heap.size + 1 + 1, 1, none⟩ = some x5 := by
  have k1 : ∀ o, (((w.alloc (.cells #[x0, x1] t1)).alloc (.cells #[x2, x3] t2)).alloc (.cells #[x4, x5] t3)).cell? ⟨w.heap.size, o, none⟩ = #[x0, x1][o]? := fun o => by
    rw [World.cell?_alloc_past _ _ _ (by rw [size_alloc, size_alloc]; omega), World.cell?_alloc_past _ _ _ (by rw [size_alloc]; omega), World.cell?_alloc_at _ _ _ _ rfl]
  have k2 : ∀ o, (((w.alloc (.cells #[x0, x1] t1)).alloc (.cells #[x2, x3] t2)).alloc (.cells #[x4, x5] t3)).cell? ⟨w.heap.size + 1, o, none⟩ = #[x2, x3][o]? := fun o => by
    rw [World.cell?_alloc_past _ _ _ (by rw [size_alloc, size_alloc]; omega), World.cell?_alloc_at _ _ _ _ (by rw [size_alloc])]
  have k3 : ∀ o, (((w.alloc (.cells #[x0, x1] t1)).alloc (.cells #[x2, x3] t2)).alloc (.cells #[x4, x5] t3)).cell? ⟨w.heap.size + 1 + 1, o, none⟩ = #[x4, x5][o]? := fun o => by
    rw [World.cell?_alloc_at _ _ _ _ (by rw [size_alloc, size_alloc])]
  exact ⟨((((Up.refl w).alloc _ _).alloc _ _).alloc _ _), k1 0, k1 1, k2 0, k2 1, k3 0, k3 1⟩

theorem drew6 {w w1 : World} {b0 o0 b1 o1 b2 o2 b3 o3 b4 o4 b5 o5 : Nat} {x0 x1 x2 x3 x4 x5 : Value}
    (h : Up w w1 ∧ w1.cell? ⟨b0, o0, none⟩ = some x0 ∧ w1.cell? ⟨b1, o1, none⟩ = some x1 ∧ w1.cell? ⟨b2, o2, none⟩ = some x2 ∧ w1.cell? ⟨b3, o3, none⟩ = some x3 ∧ w1.cell? ⟨b4, o4, none⟩ = some x4 ∧ w1.cell? ⟨b5, o5, none⟩ = some x5) :
    Up w w1.drew ∧ w1.drew.cell? ⟨b0, o0, none⟩ = some x0 ∧ w1.drew.cell? ⟨b1, o1, none⟩ = some x1 ∧ w1.drew.cell? ⟨b2, o2, none⟩ = some x2 ∧ w1.drew.cell? ⟨b3, o3, none⟩ = some x3 ∧ w1.drew.cell? ⟨b4, o4, none⟩ = some x4 ∧ w1.drew.cell? ⟨b5, o5, none⟩ = some x5 :=
  keep6 (Lib.hid (Up.refl _).drew) h

/-- Where the walk of Format is: m places are left, the rest of the number is a, the digits behind the places are l. -/
structure Fm (w wr : World) (m : Nat) (a : Int) (l : List UInt8) : Prop where
  up : Up w wr
  size : w.heap.size + 2 ≤ wr.heap.size
  hi : wr.cell? ⟨w.heap.size, 0, none⟩ = some (.int .u64 (hiZ a))
  lo : wr.cell? ⟨w.heap.size, 1, none⟩ = some (.int .u64 (loZ a))
  row : ∀ i, i < 39 → ∃ x : Int, wr.cell? ⟨w.heap.size + 1, i, none⟩ = some (.int .u8 x)
  len : l.length + m = 39
  dig : ∀ j (hj : j < l.length), wr.cell? ⟨w.heap.size + 1, m + j, none⟩ = some (.int .u8 (l[j].toNat : Int))
  fr : ∀ b o, wr.frozen? ⟨w.heap.size + b, o, none⟩ = false

theorem add_at (b o j : Nat) : (⟨b, o, none⟩ : Addr).add j = ⟨b, o + j, none⟩ := by
  unfold Addr.add
  by_cases h : j = 0
  · rw [if_pos h, h]; rfl
  · rw [if_neg h]
theorem cell_new {w : World} {c : Array Value} {t : TypeId} {o : Nat} : (w.alloc (.cells c t)).cell? ⟨w.heap.size, o, none⟩ = c[o]? := World.cell?_alloc_at c t _ _ rfl
theorem cell_set {w : World} {b o o' : Nat} {v u : Value} (h : w.cell? ⟨b, o', none⟩ = some u) :
    (w.setCell ⟨b, o, none⟩ v).cell? ⟨b, o', none⟩ = some (if o = o' then v else u) := by
  by_cases e : o = o'
  · subst e; rw [if_pos rfl]; exact World.cell?_setCell_same _ _ _ h
  · rw [if_neg e, World.cell?_setCell_other _ _ _ _ (by intro he; injection he; contradiction)]; exact h
theorem digit_toNat (n : Nat) (h : n < 10) : (UInt8.ofNat (48 + n)).toNat = 48 + n := by
  simp [UInt8.toNat_ofNat']; omega

theorem Fm.next {w wr w1 w2 : World} {m : Nat} {a : Int} {l : List UInt8} (hF : Fm w wr m a l) (hm : 1 ≤ m) (ha : 0 ≤ a) (hu1 : Up wr w1) {c : Array Value} {t : TypeId}
    (hu2 : Up ((w1.setCell ⟨w.heap.size + 1, m - 1, none⟩ (.int .u8 (48 + a % 10))).alloc (.cells c t)) w2) : Fm w w2 (m - 1) a (UInt8.ofNat (48 + a.toNat % 10) :: l) := by
  have s0 := hF.size
  have s1 := hu1.size
  have s2 := hu2.size
  rw [size_alloc, size_set] at s2
  have old : ∀ b o, b < w.heap.size + 2 → w2.cell? ⟨b, o, none⟩ = (w1.setCell ⟨w.heap.size + 1, m - 1, none⟩ (.int .u8 (48 + a % 10))).cell? ⟨b, o, none⟩ := fun b o hb => by
    rw [hu2.cells.1 b o (by rw [size_alloc, size_set]; omega)]
    exact World.cell?_alloc_past _ _ _ (by rw [size_set]; omega)
  have up1 : Up w (w1.setCell ⟨w.heap.size + 1, m - 1, none⟩ (.int .u8 (48 + a % 10))) := (hF.up.trans hu1).setCell (by show w.heap.size ≤ w.heap.size + 1; omega) _
  refine ⟨(up1.alloc c t).trans hu2, by omega, ?_, ?_, ?_, ?_, ?_, ?_⟩
  · rw [old _ _ (by omega), cell_far (by show w.heap.size + 1 ≠ w.heap.size; omega), hu1.cells.1 _ _ (by omega)]; exact hF.hi
  · rw [old _ _ (by omega), cell_far (by show w.heap.size + 1 ≠ w.heap.size; omega), hu1.cells.1 _ _ (by omega)]; exact hF.lo
  · intro i hi
    obtain ⟨x, hx⟩ := hF.row i hi
    have hx1 : w1.cell? ⟨w.heap.size + 1, i, none⟩ = some (.int .u8 x) := (hu1.cells.1 _ _ (by omega)).trans hx
    refine ⟨if m - 1 = i then 48 + a % 10 else x, ?_⟩
    rw [old _ _ (by omega), cell_set hx1]
    split <;> rfl
  · have := hF.len; simp; omega
  · intro j hj
    cases j with
    | zero =>
      obtain ⟨x, hx⟩ := hF.row (m - 1) (by have := hF.len; omega)
      have hx1 : w1.cell? ⟨w.heap.size + 1, m - 1, none⟩ = some (.int .u8 x) := (hu1.cells.1 _ _ (by omega)).trans hx
      rw [old _ _ (by omega), show m - 1 + 0 = m - 1 by omega, cell_set hx1, if_pos rfl]
      show some (Value.int .u8 (48 + a % 10)) = some (Value.int .u8 ((UInt8.ofNat (48 + a.toNat % 10)).toNat : Int))
      rw [digit_toNat _ (by omega)]
      congr 2
      omega
    | succ j =>
      have hj' : j < l.length := by simpa using hj
      have hd := hF.dig j hj'
      have hx1 : w1.cell? ⟨w.heap.size + 1, m + j, none⟩ = some (.int .u8 (l[j].toNat : Int)) := (hu1.cells.1 _ _ (by omega)).trans hd
      rw [show m - 1 + (j + 1) = m + j by omega, old _ _ (by omega), cell_set hx1, if_neg (by omega)]
      rfl
  · intro b o
    rw [hu2.cells.2, frozen?_alloc_cells, World.frozen?_setCell, hu1.cells.2]; exact hF.fr b o
theorem Fm.put {w w2 : World} {m : Nat} {a a' : Int} {l : List UInt8} (hF : Fm w w2 m a l) : Fm w ((w2.setCell ⟨w.heap.size, 0, none⟩ (.int .u64 (hiZ a'))).setCell ⟨w.heap.size, 1, none⟩ (.int .u64 (loZ a'))) m a' l := by
  have far : ∀ o, ((w2.setCell ⟨w.heap.size, 0, none⟩ (.int .u64 (hiZ a'))).setCell ⟨w.heap.size, 1, none⟩ (.int .u64 (loZ a'))).cell? ⟨w.heap.size + 1, o, none⟩ = w2.cell? ⟨w.heap.size + 1, o, none⟩ := fun o => by
    rw [cell_far (by show w.heap.size ≠ w.heap.size + 1; omega), cell_far (by show w.heap.size ≠ w.heap.size + 1; omega)]
  refine ⟨(hF.up.setCell (Nat.le_refl _) _).setCell (Nat.le_refl _) _, by rw [size_set, size_set]; exact hF.size, ?_, ?_, ?_, hF.len, ?_, ?_⟩
  · rw [cell_set (u := .int .u64 (hiZ a')) (by rw [cell_set hF.hi, if_pos rfl]), if_neg (by omega)]
  · rw [cell_set (u := .int .u64 (loZ a)) (by rw [cell_set hF.lo, if_neg (by omega)]), if_pos rfl]
  · intro i hi; rw [far]; exact hF.row i hi
  · intro j hj; rw [far]; exact hF.dig j hj
  · intro b o; rw [World.frozen?_setCell, World.frozen?_setCell]; exact hF.fr b o

set_option maxHeartbeats 2000000 in
set_option maxRecDepth 100000 in
theorem format_up (v : Int) (hv : In2 v) (w : World) :
    Calls Tryd.prog 20 #[.agg #[.int .u64 (hiZ v), .int .u64 (loZ v)]] w fun e w' => e = .returned (.string ⟨(decs v).toArray⟩) ∧ Up w w' := by
  go_enter Tryd.func20, Tryd.ntmps20
  go_wp2
  go_loopw [4] (fun t wr => ∃ (m : Nat) (a : Int) (l : List UInt8), t = .int .i64 (m : Int) ∧ 1 ≤ m ∧ m ≤ 39 ∧ In2 a ∧ Hid (a.toNat < 10 ^ m) ∧ Hid (decs v = dec m a.toNat ++ l) ∧ Fm w wr m a l) (fun t _ => (intOf t).toNat)
  case atStart =>
    refine ⟨39, v, [], rfl, by omega, by omega, hv, Lib.hid ?_, Lib.hid ?_, ?_⟩
    · obtain ⟨p1, p2⟩ := hv
      have : (10 : Nat) ^ 39 = 1000000000000000000000000000000000000000 := by decide
      omega
    · simp [decs]
    · refine ⟨?_, by simp, ?_, ?_, ?_, rfl, ?_, ?_⟩
      · repeat (first | exact Up.refl _ | refine Up.alloc ?_ _ _ | refine Up.setCell ?_ (by first | (simp; done) | (simp; omega) | omega) _ | refine Up.drewN ?_ _ | refine Up.drew ?_)
      · simp [go_sem]
      · simp [go_sem]
      · intro i hi
        refine ⟨0, ?_⟩
        rw [World.cell?_alloc_at _ _ _ _ (size_alloc _ _).symm]
        show (Array.replicate 39 (Value.int .u8 0))[i]? = _
        simp [hi]
      · intro j hj; simp at hj
      · intro b o
        rw [frozen?_alloc_cells, frozen?_alloc_cells]
        exact frozen_new w b o
  case round =>
    obtain ⟨m, a, l, rfl, m1, m2, ha, HA, HD, hF⟩ := hrel
    have c0 := hF.hi
    have c1 := hF.lo
    have d0 : 0 ≤ a % 10 := by omega
    have d1 : a % 10 ≤ 9 := by omega
    go_wp2_with fail
    refine (divShort10 a ha _).mono ?_
    rintro e w1 ⟨rfl, hu1⟩
    have hs1 : w.heap.size + 2 ≤ w1.heap.size := Nat.le_trans hF.size hu1.size
    obtain ⟨x, hx0⟩ := hF.row (m - 1) (by omega)
    have hx : w1.cell? ⟨w.heap.size + 1, m - 1, none⟩ = some (.int .u8 x) := (hu1.cells.1 _ _ (by have := hF.size; omega)).trans hx0
    have c10 : w1.cell? ⟨w.heap.size, 0, none⟩ = some (.int .u64 (hiZ a)) := (hu1.cells.1 _ _ (by have := hF.size; omega)).trans c0
    have c11 : w1.cell? ⟨w.heap.size, 1, none⟩ = some (.int .u64 (loZ a)) := (hu1.cells.1 _ _ (by have := hF.size; omega)).trans c1
    have hz1 : w1.frozen? ⟨w.heap.size + 1, m - 1, none⟩ = false := (hu1.cells.2 _).trans (hF.fr 1 _)
    have k0 : w.heap.size < w1.heap.size := by omega
    have k1 : w.heap.size + 1 < w1.heap.size := by omega
    have k2 : ¬ w.heap.size + 1 = w1.heap.size := by omega
    have k3 : ¬ w1.heap.size = w.heap.size + 1 := by omega
    clear hx0
    go_wp2_with fail
    have ha' : In2 (a / 10) := by obtain ⟨p1, p2⟩ := ha; exact ⟨by omega, by omega⟩
    refine (isZero_v (a / 10) ha' _).mono ?_
    rintro e w2 ⟨rfl, hu2⟩
    have hN := hF.next m1 ha.1 hu1 hu2
    have s20 : w2.cell? ⟨w1.heap.size, 0, none⟩ = some (.int .u64 (hiZ (a / 10))) := (hu2.cells.1 _ _ (by rw [size_alloc, size_set]; omega)).trans (World.cell?_alloc_at _ _ _ _ (size_set _ _ _).symm)
    have s21 : w2.cell? ⟨w1.heap.size, 1, none⟩ = some (.int .u64 (loZ (a / 10))) := (hu2.cells.1 _ _ (by rw [size_alloc, size_set]; omega)).trans (World.cell?_alloc_at _ _ _ _ (size_set _ _ _).symm)
    clear hx c10 c11 hz1
    have c20 := hN.hi
    have c21 := hN.lo
    have z20 := hN.fr 0 0
    have z21 := hN.fr 0 1
    simp only [Nat.add_zero] at z20 z21
    by_cases hz : a / 10 = 0
    · have t1 := zB_yes hz
      have HZ := Lib.hid hz
      clear hz
      have e10 : (UInt8.ofNat (48 + a.toNat % 10) :: l).length = 40 - m := by have := hN.len; omega
      have hsl : (Instr.sliceAt 40 (.pointer (some ⟨w.heap.size + 1, 0, none⟩)) (some (.int .i64 ((m : Int) - 1))) none none).run Tryd.prog w2 = .ok (.slice (some ⟨w.heap.size + 1, m - 1, none⟩) (40 - m) (40 - m)) w2 := by
        have e1 : Tryd.prog.arrayLen 40 = 39 := by kernel_rfl
        rw [run_sliceAt_array_l (P := Tryd.prog) w2 40 ⟨w.heap.size + 1, 0, none⟩ (by kernel_rfl) .i64 ((m : Int) - 1) (by omega) (by rw [e1]; omega), e1]
        have e2 : (sizeOf (Tryd.prog.elem 40)).run Tryd.prog w2 = .ok 1 w2 := by kernel_rfl
        rw [e2]
        have e3 : ((m : Int) - 1).toNat = m - 1 := by omega
        simp only [Result.andThen, slicedAt, e3, Nat.mul_one, add_at, Nat.zero_add]
        rw [if_neg (by omega), show 39 - (m - 1) = 40 - m by omega]
      have hcv : (convert 41 9 (.slice (some ⟨w.heap.size + 1, m - 1, none⟩) (40 - m) (40 - m))).run Tryd.prog w2 = .ok (.string ⟨(UInt8.ofNat (48 + a.toNat % 10) :: l).toArray⟩) w2 := by
        have h := run_convert_bytes_back (P := Tryd.prog) w2 41 9 5 ⟨w.heap.size + 1, m - 1, none⟩ (40 - m) (UInt8.ofNat (48 + a.toNat % 10) :: l) (by kernel_rfl) (by kernel_rfl) (by kernel_rfl) (fun j hj => by rw [add_at]; exact hN.dig j hj)
        rw [e10] at h
        exact h
      clear e10
      generalize hl' : (UInt8.ofNat (48 + a.toNat % 10) :: l) = l' at hcv hN
      have HL := Lib.hid hl'
      clear hl'
      go_wp2
      go_ret
      refine ⟨?_, hN.up⟩
      have hD := HD.out
      obtain ⟨m', rfl⟩ : ∃ m', m = m' + 1 := ⟨m - 1, by omega⟩
      rw [dec_last (by have := HZ.out; omega)] at hD
      rw [hD, ← HL.out]
      rfl
    · have t1 := zB_no hz
      go_wp2
      go_roundw
      case rel =>
        have hD := HD.out
        have hA := HA.out
        obtain ⟨m', rfl⟩ : ∃ m', m = m' + 1 := ⟨m - 1, by omega⟩
        have e1 : (a / 10).toNat = a.toNat / 10 := by obtain ⟨p1, p2⟩ := ha; omega
        have m3 : m' ≠ 0 := fun e => by subst e; rw [Nat.pow_one] at hA; obtain ⟨p1, p2⟩ := ha; omega
        refine ⟨m', a / 10, _, by go_num, by omega, by omega, ha', Lib.hid (by rw [e1]; rw [Nat.pow_succ] at hA; omega), Lib.hid ?_, hN.put⟩
        rw [hD, dec_more (by obtain ⟨p1, p2⟩ := ha; omega), e1, List.append_assoc]
        rfl
      case measure => simp only [intOf]; omega

theorem dec_awake : decs 18446744073709551616 = [49, 56, 52, 52, 54, 55, 52, 52, 48, 55, 51, 55, 48, 57, 53, 53, 49, 54, 49, 54] := by decide +kernel

theorem awake_up (w : World) : Calls Tryd.prog 13 #[] w fun e w' => e = .returned (.bool true) ∧ Up w w' := by
  have h1 : hiZ 18446744073709551616 = 1 := by decide
  have h2 : loZ 18446744073709551616 = 0 := by decide
  have hf := fun w => format_up 18446744073709551616 ⟨by decide, by decide⟩ w
  rw [h1, h2, dec_awake] at hf
  have HF := Lib.hid hf
  clear h1 h2 hf
  go_enter Tryd.func13, Tryd.ntmps13
  go_wp2_with fail
  refine (HF.out _).mono ?_
  rintro e w1 ⟨rfl, hu⟩
  go_wp2
  go_ret
  exact ⟨by rfl, hu⟩

end Go.Proofs.YtbfbmdkgnecfaaaDoor
