/- Texts of these claims, one after the other. -/
import Derived.Test.YtfdjhahnggdklaaZWAdd
import Derived.Test.YtfdjhahnggdklaaZWMathm9
namespace Go.Proofs.Ytfdjhahnggdklaa
open Go.RowKit

theorem cmpZ_hi {ah al bh bl : Int} (h2 : Word al) (h4 : Word bl) (h : ah ≠ bh) : cmpZ (val ah al) (val bh bl) = cmpZ ah bh := by
  obtain ⟨b1, b2⟩ := h2; obtain ⟨d1, d2⟩ := h4
  by_cases hl : ah < bh
  · rw [cmpZ_lt hl, cmpZ_lt (by unfold val; omega)]
  · rw [cmpZ_gt (show bh < ah by omega), cmpZ_gt (by unfold val; omega)]
theorem cmpZ_lo {ah al bl : Int} : cmpZ (val ah al) (val ah bl) = cmpZ al bl := by
  by_cases hl : al < bl
  · rw [cmpZ_lt hl, cmpZ_lt (by unfold val; omega)]
  · by_cases he : al = bl
    · rw [cmpZ_eq he, cmpZ_eq (by unfold val; omega)]
    · rw [cmpZ_gt (show bl < al by omega), cmpZ_gt (by unfold val; omega)]

theorem of_up (n : Int) (w : World) : Calls Try.prog 61 #[.int .u64 n] w fun e w' => e = .returned (.agg #[.int .u64 0, .int .u64 n]) ∧ Up w w' := by
  go_enter Try.func61, Try.ntmps61
  go_wp2
  refine bodyPost_ret (v := .agg #[.int .u64 0, .int .u64 n]) (by simp [results, Try.results61, go_sem]) rfl ⟨?_, ?_⟩
  · rfl
  · repeat (first | exact Up.refl _ | refine Up.alloc ?_ _ _ | refine Up.setCell ?_ (by first | (simp; done) | (simp; omega) | omega) _ | refine Up.drewN ?_ _ | refine Up.drew ?_)

theorem rof_up (n : Int) (w : World) : Calls Try.prog 116 #[.int .u64 n] w fun e w' => e = .returned (.agg #[.int .u64 0, .int .u64 n]) ∧ Up w w' := by
  go_enter Try.func116, Try.ntmps116
  go_wp2
  refine bodyPost_ret (v := .agg #[.int .u64 0, .int .u64 n]) (by simp [results, Try.results116, go_sem]) rfl ⟨?_, ?_⟩
  · rfl
  · repeat (first | exact Up.refl _ | refine Up.alloc ?_ _ _ | refine Up.setCell ?_ (by first | (simp; done) | (simp; omega) | omega) _ | refine Up.drewN ?_ _ | refine Up.drew ?_)

theorem compare_up (ah al bh bl : Int) (_ : Word ah) (h2 : Word al) (_ : Word bh) (h4 : Word bl) (w : World) :
    Calls Try.prog 106 #[.agg #[.int .u64 ah, .int .u64 al], .agg #[.int .u64 bh, .int .u64 bl]] w fun e w' =>
      e = .returned (.int .i64 (cmpZ (val ah al) (val bh bl))) ∧ Up w w' := by
  by_cases ha : ah = bh
  · subst ha
    have H := Lib.hid (cmpZ_lo (ah := ah) (al := al) (bl := bl))
    by_cases hl : al = bl
    · subst hl
      have H2 := Lib.hid (cmpZ_eq (x := al) rfl)
      go_enter Try.func106, Try.ntmps106
      go_wp2
      go_ret
      refine ⟨by rw [H.out, H2.out]; rfl, ?_⟩
      repeat (first | exact Up.refl _ | refine Up.alloc ?_ _ _ | refine Up.setCell ?_ (by first | (simp; done) | (simp; omega) | omega) _ | refine Up.drewN ?_ _ | refine Up.drew ?_)
    · have t2 : (al == bl) = false := beq_eq_false_iff_ne.2 hl
      clear hl
      go_enter Try.func106, Try.ntmps106
      go_wp2_with (refine (cmp_u64 _ _ _).mono ?_; rintro e w' ⟨rfl, rfl⟩)
      go_ret
      refine ⟨by rw [H.out]; rfl, ?_⟩
      repeat (first | exact Up.refl _ | refine Up.alloc ?_ _ _ | refine Up.setCell ?_ (by first | (simp; done) | (simp; omega) | omega) _ | refine Up.drewN ?_ _ | refine Up.drew ?_)
  · have H := Lib.hid (cmpZ_hi h2 h4 ha)
    have t1 : (ah == bh) = false := beq_eq_false_iff_ne.2 ha
    have t2 : (ah != bh) = true := bne_iff_ne.2 ha
    clear ha
    go_enter Try.func106, Try.ntmps106
    go_wp2_with (refine (cmp_u64 _ _ _).mono ?_; rintro e w' ⟨rfl, rfl⟩)
    go_ret
    refine ⟨by rw [H.out]; rfl, ?_⟩
    repeat (first | exact Up.refl _ | refine Up.alloc ?_ _ _ | refine Up.setCell ?_ (by first | (simp; done) | (simp; omega) | omega) _ | refine Up.drewN ?_ _ | refine Up.drew ?_)

theorem rcompare_up (ah al bh bl : Int) (_ : Word ah) (h2 : Word al) (_ : Word bh) (h4 : Word bl) (w : World) :
    Calls Try.prog 123 #[.agg #[.int .u64 ah, .int .u64 al], .agg #[.int .u64 bh, .int .u64 bl]] w fun e w' =>
      e = .returned (.int .i64 (cmpZ (val ah al) (val bh bl))) ∧ Up w w' := by
  by_cases ha : ah = bh
  · subst ha
    have H := Lib.hid (cmpZ_lo (ah := ah) (al := al) (bl := bl))
    by_cases hl : al < bl
    · have H2 := Lib.hid (cmpZ_lt hl)
      have t1 : decide (al < bl) = true := decide_eq_true hl
      clear hl
      go_enter Try.func123, Try.ntmps123
      go_wp2
      go_ret
      refine ⟨by rw [H.out, H2.out]; rfl, ?_⟩
      repeat (first | exact Up.refl _ | refine Up.alloc ?_ _ _ | refine Up.setCell ?_ (by first | (simp; done) | (simp; omega) | omega) _ | refine Up.drewN ?_ _ | refine Up.drew ?_)
    · by_cases he : al = bl
      · subst he
        have H2 := Lib.hid (cmpZ_eq (x := al) rfl)
        clear hl
        go_enter Try.func123, Try.ntmps123
        go_wp2
        go_ret
        refine ⟨by rw [H.out, H2.out]; rfl, ?_⟩
        repeat (first | exact Up.refl _ | refine Up.alloc ?_ _ _ | refine Up.setCell ?_ (by first | (simp; done) | (simp; omega) | omega) _ | refine Up.drewN ?_ _ | refine Up.drew ?_)
      · have H2 := Lib.hid (cmpZ_gt (show bl < al by omega))
        have t1 : decide (al < bl) = false := decide_eq_false hl
        have t2 : (al == bl) = false := beq_eq_false_iff_ne.2 he
        clear hl he
        go_enter Try.func123, Try.ntmps123
        go_wp2
        go_ret
        refine ⟨by rw [H.out, H2.out]; rfl, ?_⟩
        repeat (first | exact Up.refl _ | refine Up.alloc ?_ _ _ | refine Up.setCell ?_ (by first | (simp; done) | (simp; omega) | omega) _ | refine Up.drewN ?_ _ | refine Up.drew ?_)
  · have H := Lib.hid (cmpZ_hi h2 h4 ha)
    have t0 : (ah == bh) = false := beq_eq_false_iff_ne.2 ha
    by_cases hl : ah < bh
    · have H2 := Lib.hid (cmpZ_lt hl)
      have t1 : decide (ah < bh) = true := decide_eq_true hl
      clear hl ha
      go_enter Try.func123, Try.ntmps123
      go_wp2
      go_ret
      refine ⟨by rw [H.out, H2.out]; rfl, ?_⟩
      repeat (first | exact Up.refl _ | refine Up.alloc ?_ _ _ | refine Up.setCell ?_ (by first | (simp; done) | (simp; omega) | omega) _ | refine Up.drewN ?_ _ | refine Up.drew ?_)
    · have H2 := Lib.hid (cmpZ_gt (show bh < ah by omega))
      have t1 : decide (ah < bh) = false := decide_eq_false hl
      clear hl ha
      go_enter Try.func123, Try.ntmps123
      go_wp2
      go_ret
      refine ⟨by rw [H.out, H2.out]; rfl, ?_⟩
      repeat (first | exact Up.refl _ | refine Up.alloc ?_ _ _ | refine Up.setCell ?_ (by first | (simp; done) | (simp; omega) | omega) _ | refine Up.drewN ?_ _ | refine Up.drew ?_)

end Go.Proofs.Ytfdjhahnggdklaa

namespace Go.Proofs.Ytfdjhahnggdklaa
open Go.RowKit

theorem frozen_new (w : World) (b o : Nat) : w.frozen? ⟨w.heap.size + b, o, none⟩ = false := by
  simp [World.frozen?]
theorem Up.keep {w w' : World} (h : Up w w') : ∀ b o v, w.cell? ⟨b, o, none⟩ = some v → w'.cell? ⟨b, o, none⟩ = some v := fun b o _ hv =>
  (h.cells.1 b o (World.block_lt_of_cell? w ⟨b, o, none⟩ hv)).trans hv
theorem cell_far {w : World} {p : Addr} {v : Value} {b o : Nat} (h : p.block ≠ b) : (w.setCell p v).cell? ⟨b, o, none⟩ = w.cell? ⟨b, o, none⟩ :=
  World.cell?_setCell_other _ _ _ _ (fun e => h (by rw [e]))
theorem Up.own {w w' : World} (h : Up w w') (b o : Nat) : w'.frozen? ⟨w.heap.size + b, o, none⟩ = false := (h.cells.2 _).trans (frozen_new w b o)

/-- Where the walk of Format is: m places are left, the rest of the number is a, the digits behind the places are l. -/
structure Fm (w wr : World) (m : Nat) (a : Int) (l : List UInt8) : Prop where
  up : Up w wr
  size : w.heap.size + 2 ≤ wr.heap.size
  hi : wr.cell? ⟨w.heap.size, 0, none⟩ = some (.int .u64 (hiZ a))
  lo : wr.cell? ⟨w.heap.size, 1, none⟩ = some (.int .u64 (loZ a))
  row : ∀ i, i < 39 → ∃ x : Int, wr.cell? ⟨w.heap.size + 1, i, none⟩ = some (.int .u8 x)
  len : l.length + m = 39
  dig : ∀ j (hj : j < l.length), wr.cell? ⟨w.heap.size + 1, m + j, none⟩ = some (.int .u8 (l[j].toNat : Int))
  fr : ∀ b o, wr.frozen? ⟨w.heap.size + b, o, none⟩ = false

theorem add_at (b o j : Nat) : (⟨b, o, none⟩ : Addr).add j = ⟨b, o + j, none⟩ := by
  unfold Addr.add
  by_cases h : j = 0
  · rw [if_pos h, h]; rfl
  · rw [if_neg h]
theorem cell_set {w : World} {b o o' : Nat} {v u : Value} (h : w.cell? ⟨b, o', none⟩ = some u) :
    (w.setCell ⟨b, o, none⟩ v).cell? ⟨b, o', none⟩ = some (if o = o' then v else u) := by
  by_cases e : o = o'
  · subst e; rw [if_pos rfl]; exact World.cell?_setCell_same _ _ _ h
  · rw [if_neg e, World.cell?_setCell_other _ _ _ _ (by intro he; injection he; contradiction)]; exact h
theorem digit_toNat (n : Nat) (h : n < 10) : (UInt8.ofNat (48 + n)).toNat = 48 + n := by
  simp [UInt8.toNat_ofNat']; omega

theorem Fm.next {w wr w1 w2 : World} {m : Nat} {a : Int} {l : List UInt8} (hF : Fm w wr m a l) (hm : 1 ≤ m) (ha : 0 ≤ a) (hu1 : Up wr w1) {c : Array Value} {t : TypeId}
    (hu2 : Up ((w1.setCell ⟨w.heap.size + 1, m - 1, none⟩ (.int .u8 (48 + a % 10))).alloc (.cells c t)) w2) : Fm w w2 (m - 1) a (UInt8.ofNat (48 + a.toNat % 10) :: l) := by
  have s0 := hF.size
  have s1 := hu1.size
  have s2 := hu2.size
  rw [size_alloc, size_set] at s2
  have old : ∀ b o, b < w.heap.size + 2 → w2.cell? ⟨b, o, none⟩ = (w1.setCell ⟨w.heap.size + 1, m - 1, none⟩ (.int .u8 (48 + a % 10))).cell? ⟨b, o, none⟩ := fun b o hb => by
    rw [hu2.cells.1 b o (by rw [size_alloc, size_set]; omega)]
    exact World.cell?_alloc_past _ _ _ (by rw [size_set]; omega)
  have up1 : Up w (w1.setCell ⟨w.heap.size + 1, m - 1, none⟩ (.int .u8 (48 + a % 10))) := (hF.up.trans hu1).setCell (by show w.heap.size ≤ w.heap.size + 1; omega) _
  refine ⟨(up1.alloc c t).trans hu2, by omega, ?_, ?_, ?_, ?_, ?_, ?_⟩
  · rw [old _ _ (by omega), cell_far (by show w.heap.size + 1 ≠ w.heap.size; omega), hu1.cells.1 _ _ (by omega)]; exact hF.hi
  · rw [old _ _ (by omega), cell_far (by show w.heap.size + 1 ≠ w.heap.size; omega), hu1.cells.1 _ _ (by omega)]; exact hF.lo
  · intro i hi
    obtain ⟨x, hx⟩ := hF.row i hi
    have hx1 : w1.cell? ⟨w.heap.size + 1, i, none⟩ = some (.int .u8 x) := (hu1.cells.1 _ _ (by omega)).trans hx
    refine ⟨if m - 1 = i then 48 + a % 10 else x, ?_⟩
    rw [old _ _ (by omega), cell_set hx1]
    split <;> rfl
  · have := hF.len; simp; omega
  · intro j hj
    cases j with
    | zero =>
      obtain ⟨x, hx⟩ := hF.row (m - 1) (by have := hF.len; omega)
      have hx1 : w1.cell? ⟨w.heap.size + 1, m - 1, none⟩ = some (.int .u8 x) := (hu1.cells.1 _ _ (by omega)).trans hx
      rw [old _ _ (by omega), show m - 1 + 0 = m - 1 by omega, cell_set hx1, if_pos rfl]
      show some (Value.int .u8 (48 + a % 10)) = some (Value.int .u8 ((UInt8.ofNat (48 + a.toNat % 10)).toNat : Int))
      rw [digit_toNat _ (by omega)]
      congr 2
      omega
    | succ j =>
      have hj' : j < l.length := by simpa using hj
      have hd := hF.dig j hj'
      have hx1 : w1.cell? ⟨w.heap.size + 1, m + j, none⟩ = some (.int .u8 (l[j].toNat : Int)) := (hu1.cells.1 _ _ (by omega)).trans hd
      rw [show m - 1 + (j + 1) = m + j by omega, old _ _ (by omega), cell_set hx1, if_neg (by omega)]
      rfl
  · intro b o
    rw [hu2.cells.2, frozen?_alloc_cells, World.frozen?_setCell, hu1.cells.2]; exact hF.fr b o
theorem Fm.put {w w2 : World} {m : Nat} {a a' : Int} {l : List UInt8} (hF : Fm w w2 m a l) : Fm w ((w2.setCell ⟨w.heap.size, 0, none⟩ (.int .u64 (hiZ a'))).setCell ⟨w.heap.size, 1, none⟩ (.int .u64 (loZ a'))) m a' l := by
  have far : ∀ o, ((w2.setCell ⟨w.heap.size, 0, none⟩ (.int .u64 (hiZ a'))).setCell ⟨w.heap.size, 1, none⟩ (.int .u64 (loZ a'))).cell? ⟨w.heap.size + 1, o, none⟩ = w2.cell? ⟨w.heap.size + 1, o, none⟩ := fun o => by
    rw [cell_far (by show w.heap.size ≠ w.heap.size + 1; omega), cell_far (by show w.heap.size ≠ w.heap.size + 1; omega)]
  refine ⟨(hF.up.setCell (Nat.le_refl _) _).setCell (Nat.le_refl _) _, by rw [size_set, size_set]; exact hF.size, ?_, ?_, ?_, hF.len, ?_, ?_⟩
  · rw [cell_set (u := .int .u64 (hiZ a')) (by rw [cell_set hF.hi, if_pos rfl]), if_neg (by omega)]
  · rw [cell_set (u := .int .u64 (loZ a)) (by rw [cell_set hF.lo, if_neg (by omega)]), if_pos rfl]
  · intro i hi; rw [far]; exact hF.row i hi
  · intro j hj; rw [far]; exact hF.dig j hj
  · intro b o; rw [World.frozen?_setCell, World.frozen?_setCell]; exact hF.fr b o

end Go.Proofs.Ytfdjhahnggdklaa

namespace Go.Proofs.Ytfdjhahnggdklaa
open Go.RowKit

theorem keep2 {w w1 w2 : World} {b0 o0 b1 o1 : Nat} {x0 x1 : Value} (hu : Hid (Up w1 w2)) (h : Up w w1 ∧ w1.cell? ⟨b0, o0, none⟩ = some x0 ∧ w1.cell? ⟨b1, o1, none⟩ = some x1) :
    Up w w2 ∧ w2.cell? ⟨b0, o0, none⟩ = some x0 ∧ w2.cell? ⟨b1, o1, none⟩ = some x1 :=
  ⟨h.1.trans hu.out, hu.out.keep _ _ _ h.2.1, hu.out.keep _ _ _ h.2.2⟩
end Go.Proofs.Ytfdjhahnggdklaa

namespace Go.Proofs.Ytfdjhahnggdklaa
open Go.RowKit

/-- A block of the call's own is not frozen. -/
theorem Up.ownGe {w w' : World} (h : Up w w') {g : Nat} (hg : w.heap.size ≤ g) (o : Nat) : w'.frozen? ⟨g, o, none⟩ = false := by
  obtain ⟨b, rfl⟩ := Nat.le.dest hg
  exact h.own b o
theorem keep12 {w w1 w2 : World} {b0 o0 b1 o1 b2 o2 b3 o3 b4 o4 b5 o5 b6 o6 b7 o7 b8 o8 b9 o9 b10 o10 b11 o11 : Nat} {x0 x1 x2 x3 x4 x5 x6 x7 x8 x9 x10 x11 : Value} (hu : Hid (Up w1 w2)) (h : Up w w1 ∧ w1.cell? ⟨b0, o0, none⟩ = some x0 ∧ w1.cell? ⟨b1, o1, none⟩ = some x1 ∧ w1.cell? ⟨b2, o2, none⟩ = some x2 ∧ w1.cell? ⟨b3, o3, none⟩ = some x3 ∧ w1.cell? ⟨b4, o4, none⟩ = some x4 ∧ w1.cell? ⟨b5, o5, none⟩ = some x5 ∧ w1.cell? ⟨b6, o6, none⟩ = some x6 ∧ w1.cell? ⟨b7, o7, none⟩ = some x7 ∧ w1.cell? ⟨b8, o8, none⟩ = some x8 ∧ w1.cell? ⟨b9, o9, none⟩ = some x9 ∧ w1.cell? ⟨b10, o10, none⟩ = some x10 ∧ w1.cell? ⟨b11, o11, none⟩ = some x11) : Up w w2 ∧ w2.cell? ⟨b0, o0, none⟩ = some x0 ∧ w2.cell? ⟨b1, o1, none⟩ = some x1 ∧ w2.cell? ⟨b2, o2, none⟩ = some x2 ∧ w2.cell? ⟨b3, o3, none⟩ = some x3 ∧ w2.cell? ⟨b4, o4, none⟩ = some x4 ∧ w2.cell? ⟨b5, o5, none⟩ = some x5 ∧ w2.cell? ⟨b6, o6, none⟩ = some x6 ∧ w2.cell? ⟨b7, o7, none⟩ = some x7 ∧ w2.cell? ⟨b8, o8, none⟩ = some x8 ∧ w2.cell? ⟨b9, o9, none⟩ = some x9 ∧ w2.cell? ⟨b10, o10, none⟩ = some x10 ∧ w2.cell? ⟨b11, o11, none⟩ = some x11 :=
  ⟨h.1.trans hu.out, hu.out.keep _ _ _ h.2.1, hu.out.keep _ _ _ h.2.2.1, hu.out.keep _ _ _ h.2.2.2.1, hu.out.keep _ _ _ h.2.2.2.2.1, hu.out.keep _ _ _ h.2.2.2.2.2.1, hu.out.keep _ _ _ h.2.2.2.2.2.2.1, hu.out.keep _ _ _ h.2.2.2.2.2.2.2.1, hu.out.keep _ _ _ h.2.2.2.2.2.2.2.2.1, hu.out.keep _ _ _ h.2.2.2.2.2.2.2.2.2.1, hu.out.keep _ _ _ h.2.2.2.2.2.2.2.2.2.2.1, hu.out.keep _ _ _ h.2.2.2.2.2.2.2.2.2.2.2.1, hu.out.keep _ _ _ h.2.2.2.2.2.2.2.2.2.2.2.2⟩
end Go.Proofs.Ytfdjhahnggdklaa

namespace Go.Proofs.Ytfdjhahnggdklaa
open Go.RowKit

/-- Cells that stay as they were, all of them in the first blocks. -/
structure Bd (w : World) (m : Nat) (L : List (Nat × Nat × Value)) (wr : World) : Prop where
  up : Up w wr
  kp : ∀ x ∈ L, wr.cell? ⟨x.1, x.2.1, none⟩ = some x.2.2
  lt : ∀ x ∈ L, x.1 ≤ w.heap.size + m
theorem Bd.keep {w w1 w2 : World} {m : Nat} {L : List (Nat × Nat × Value)} (h : Bd w m L w1) (hu : Up w1 w2) : Bd w m L w2 :=
  ⟨h.up.trans hu, fun x hx => hu.keep _ _ _ (h.kp x hx), h.lt⟩
theorem Bd.far {w w1 : World} {m g q : Nat} {v : Value} {L : List (Nat × Nat × Value)} (h : Bd w m L w1) (hg : w.heap.size + m < g) : Bd w m L (w1.setCell ⟨g, q, none⟩ v) :=
  ⟨h.up.setCell (by show w.heap.size ≤ g; omega) _, fun x hx => (cell_far (by have := h.lt x hx; show g ≠ x.1; omega)).trans (h.kp x hx), h.lt⟩
theorem bkeep2 {w w1 w2 : World} {m : Nat} {L : List (Nat × Nat × Value)} {b0 o0 b1 o1 : Nat} {x0 x1 : Value} (hu : Hid (Up w1 w2)) (h : Bd w m L w1 ∧ w1.cell? ⟨b0, o0, none⟩ = some x0 ∧ w1.cell? ⟨b1, o1, none⟩ = some x1) : Bd w m L w2 ∧ w2.cell? ⟨b0, o0, none⟩ = some x0 ∧ w2.cell? ⟨b1, o1, none⟩ = some x1 :=
  ⟨h.1.keep hu.out, hu.out.keep _ _ _ h.2.1, hu.out.keep _ _ _ h.2.2⟩
theorem bset2 {w w1 : World} {m : Nat} {L : List (Nat × Nat × Value)} {b0 o0 b1 o1 : Nat} {x0 x1 : Value} {g q : Nat} {v : Value} (h : Bd w m L w1 ∧ w1.cell? ⟨b0, o0, none⟩ = some x0 ∧ w1.cell? ⟨b1, o1, none⟩ = some x1) (hg : w.heap.size + m < g) (n0 : g ≠ b0) (n1 : g ≠ b1) : Bd w m L (w1.setCell ⟨g, q, none⟩ v) ∧ (w1.setCell ⟨g, q, none⟩ v).cell? ⟨b0, o0, none⟩ = some x0 ∧ (w1.setCell ⟨g, q, none⟩ v).cell? ⟨b1, o1, none⟩ = some x1 :=
  ⟨h.1.far hg, (cell_far n0).trans h.2.1, (cell_far n1).trans h.2.2⟩
end Go.Proofs.Ytfdjhahnggdklaa
