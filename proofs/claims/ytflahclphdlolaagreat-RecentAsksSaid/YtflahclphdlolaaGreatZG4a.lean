/- Texts of this claim, one after the other. -/
import Derived.Test.YtflahclphdlolaaGreatZG0a
import Derived.Test.YtflahclphdlolaaGreatZG2a
import Derived.Test.YtflahclphdlolaaGreatZGLaw
/- A region that writes one item at its end. -/
namespace Go.Proofs.YtflahclphdlolaaGreat
open Go.RowKit

/-- A region that writes one item of block g at its end: what holds at every time. -/
structure Ph (w W : World) (p g m : Nat) (L : List It) : Prop where
  wr : Wr w W p g
  bi : ∃ y, Bi W g (L.set m y)
theorem Ph.start {w : World} {p g m : Nat} {L : List It} (hb : Bi w g L) (hm : m < L.length) : Ph w w p g m L :=
  ⟨Wr.refl _ _ _, L.getD m (0, 0), by rw [show L.set m (L.getD m (0, 0)) = L by simp [List.getD, hm]]; exact hb⟩
theorem Ph.keep {w W W' : World} {p g m : Nat} {L : List It} (h : Ph w W p g m L) (hu : Up W W') : Ph w W' p g m L :=
  ⟨h.wr.then hu, h.bi.choose, h.bi.choose_spec.up hu⟩
theorem Ph.at_ {w W : World} {p g m : Nat} {L : List It} (h : Ph w W p g m L) (hm : m < L.length) : ∃ q0 q1, W.cell? ⟨g, m * 2, none⟩ = some (.int .i64 q0) ∧ W.cell? ⟨g, m * 2 + 1, none⟩ = some (.int .i64 q1) := by
  obtain ⟨y, hy⟩ := h.bi
  obtain ⟨h1, h2⟩ := hy.at_ (k := m) (by simpa using hm)
  exact ⟨_, _, h1, h2⟩
theorem Ph.put {w W : World} {p g m : Nat} {L : List It} (h : Ph w W p g m L) (a b : Int) : Bi ((W.setCell ⟨g, m * 2, none⟩ (.int .i64 a)).setCell ⟨g, m * 2 + 1, none⟩ (.int .i64 b)) g (L.set m (a, b)) := by
  obtain ⟨y, hy⟩ := h.bi
  have := hy.set_ m a b
  rwa [List.set_set] at this
theorem Ph.set {w W : World} {p g m : Nat} {L : List It} (h : Ph w W p g m L) (a b : Int) : Ph w ((W.setCell ⟨g, m * 2, none⟩ (.int .i64 a)).setCell ⟨g, m * 2 + 1, none⟩ (.int .i64 b)) p g m L :=
  ⟨(h.wr.setG _ _).setG _ _, (a, b), h.put a b⟩
theorem pkeep2 {w w1 w2 : World} {p g m : Nat} {L : List It} {b0 o0 b1 o1 : Nat} {x0 x1 : Value} (hu : Hid (Up w1 w2)) (h : Ph w w1 p g m L ∧ w1.cell? ⟨b0, o0, none⟩ = some x0 ∧ w1.cell? ⟨b1, o1, none⟩ = some x1) : Ph w w2 p g m L ∧ w2.cell? ⟨b0, o0, none⟩ = some x0 ∧ w2.cell? ⟨b1, o1, none⟩ = some x1 :=
  ⟨h.1.keep hu.out, hu.out.keep _ _ _ h.2.1, hu.out.keep _ _ _ h.2.2⟩
theorem pset2 {w w1 : World} {p g m : Nat} {L : List It} {a b : Int} {b0 o0 b1 o1 : Nat} {x0 x1 : Value} (h : Ph w w1 p g m L ∧ w1.cell? ⟨b0, o0, none⟩ = some x0 ∧ w1.cell? ⟨b1, o1, none⟩ = some x1) (n0 : g ≠ b0) (n1 : g ≠ b1) : Ph w ((w1.setCell ⟨g, m * 2, none⟩ (.int .i64 a)).setCell ⟨g, m * 2 + 1, none⟩ (.int .i64 b)) p g m L ∧ ((w1.setCell ⟨g, m * 2, none⟩ (.int .i64 a)).setCell ⟨g, m * 2 + 1, none⟩ (.int .i64 b)).cell? ⟨b0, o0, none⟩ = some x0 ∧ ((w1.setCell ⟨g, m * 2, none⟩ (.int .i64 a)).setCell ⟨g, m * 2 + 1, none⟩ (.int .i64 b)).cell? ⟨b1, o1, none⟩ = some x1 :=
  ⟨h.1.set a b, ((cell_far n0).trans (cell_far n0)).trans h.2.1, ((cell_far n1).trans (cell_far n1)).trans h.2.2⟩
theorem pkeep4 {w w1 w2 : World} {p g m : Nat} {L : List It} {b0 o0 b1 o1 b2 o2 b3 o3 : Nat} {x0 x1 x2 x3 : Value} (hu : Hid (Up w1 w2)) (h : Ph w w1 p g m L ∧ w1.cell? ⟨b0, o0, none⟩ = some x0 ∧ w1.cell? ⟨b1, o1, none⟩ = some x1 ∧ w1.cell? ⟨b2, o2, none⟩ = some x2 ∧ w1.cell? ⟨b3, o3, none⟩ = some x3) : Ph w w2 p g m L ∧ w2.cell? ⟨b0, o0, none⟩ = some x0 ∧ w2.cell? ⟨b1, o1, none⟩ = some x1 ∧ w2.cell? ⟨b2, o2, none⟩ = some x2 ∧ w2.cell? ⟨b3, o3, none⟩ = some x3 :=
  ⟨h.1.keep hu.out, hu.out.keep _ _ _ h.2.1, hu.out.keep _ _ _ h.2.2.1, hu.out.keep _ _ _ h.2.2.2.1, hu.out.keep _ _ _ h.2.2.2.2⟩
theorem pset4 {w w1 : World} {p g m : Nat} {L : List It} {a b : Int} {b0 o0 b1 o1 b2 o2 b3 o3 : Nat} {x0 x1 x2 x3 : Value} (h : Ph w w1 p g m L ∧ w1.cell? ⟨b0, o0, none⟩ = some x0 ∧ w1.cell? ⟨b1, o1, none⟩ = some x1 ∧ w1.cell? ⟨b2, o2, none⟩ = some x2 ∧ w1.cell? ⟨b3, o3, none⟩ = some x3) (n0 : g ≠ b0) (n1 : g ≠ b1) (n2 : g ≠ b2) (n3 : g ≠ b3) : Ph w ((w1.setCell ⟨g, m * 2, none⟩ (.int .i64 a)).setCell ⟨g, m * 2 + 1, none⟩ (.int .i64 b)) p g m L ∧ ((w1.setCell ⟨g, m * 2, none⟩ (.int .i64 a)).setCell ⟨g, m * 2 + 1, none⟩ (.int .i64 b)).cell? ⟨b0, o0, none⟩ = some x0 ∧ ((w1.setCell ⟨g, m * 2, none⟩ (.int .i64 a)).setCell ⟨g, m * 2 + 1, none⟩ (.int .i64 b)).cell? ⟨b1, o1, none⟩ = some x1 ∧ ((w1.setCell ⟨g, m * 2, none⟩ (.int .i64 a)).setCell ⟨g, m * 2 + 1, none⟩ (.int .i64 b)).cell? ⟨b2, o2, none⟩ = some x2 ∧ ((w1.setCell ⟨g, m * 2, none⟩ (.int .i64 a)).setCell ⟨g, m * 2 + 1, none⟩ (.int .i64 b)).cell? ⟨b3, o3, none⟩ = some x3 :=
  ⟨h.1.set a b, ((cell_far n0).trans (cell_far n0)).trans h.2.1, ((cell_far n1).trans (cell_far n1)).trans h.2.2.1, ((cell_far n2).trans (cell_far n2)).trans h.2.2.2.1, ((cell_far n3).trans (cell_far n3)).trans h.2.2.2.2⟩
theorem pkeep6 {w w1 w2 : World} {p g m : Nat} {L : List It} {b0 o0 b1 o1 b2 o2 b3 o3 b4 o4 b5 o5 : Nat} {x0 x1 x2 x3 x4 x5 : Value} (hu : Hid (Up w1 w2)) (h : Ph w w1 p g m L ∧ w1.cell? ⟨b0, o0, none⟩ = some x0 ∧ w1.cell? ⟨b1, o1, none⟩ = some x1 ∧ w1.cell? ⟨b2, o2, none⟩ = some x2 ∧ w1.cell? ⟨b3, o3, none⟩ = some x3 ∧ w1.cell? ⟨b4, o4, none⟩ = some x4 ∧ w1.cell? ⟨b5, o5, none⟩ = some x5) : Ph w w2 p g m L ∧ w2.cell? ⟨b0, o0, none⟩ = some x0 ∧ w2.cell? ⟨b1, o1, none⟩ = some x1 ∧ w2.cell? ⟨b2, o2, none⟩ = some x2 ∧ w2.cell? ⟨b3, o3, none⟩ = some x3 ∧ w2.cell? ⟨b4, o4, none⟩ = some x4 ∧ w2.cell? ⟨b5, o5, none⟩ = some x5 :=
  ⟨h.1.keep hu.out, hu.out.keep _ _ _ h.2.1, hu.out.keep _ _ _ h.2.2.1, hu.out.keep _ _ _ h.2.2.2.1, hu.out.keep _ _ _ h.2.2.2.2.1, hu.out.keep _ _ _ h.2.2.2.2.2.1, hu.out.keep _ _ _ h.2.2.2.2.2.2⟩
theorem pset6 {w w1 : World} {p g m : Nat} {L : List It} {a b : Int} {b0 o0 b1 o1 b2 o2 b3 o3 b4 o4 b5 o5 : Nat} {x0 x1 x2 x3 x4 x5 : Value} (h : Ph w w1 p g m L ∧ w1.cell? ⟨b0, o0, none⟩ = some x0 ∧ w1.cell? ⟨b1, o1, none⟩ = some x1 ∧ w1.cell? ⟨b2, o2, none⟩ = some x2 ∧ w1.cell? ⟨b3, o3, none⟩ = some x3 ∧ w1.cell? ⟨b4, o4, none⟩ = some x4 ∧ w1.cell? ⟨b5, o5, none⟩ = some x5) (n0 : g ≠ b0) (n1 : g ≠ b1) (n2 : g ≠ b2) (n3 : g ≠ b3) (n4 : g ≠ b4) (n5 : g ≠ b5) : Ph w ((w1.setCell ⟨g, m * 2, none⟩ (.int .i64 a)).setCell ⟨g, m * 2 + 1, none⟩ (.int .i64 b)) p g m L ∧ ((w1.setCell ⟨g, m * 2, none⟩ (.int .i64 a)).setCell ⟨g, m * 2 + 1, none⟩ (.int .i64 b)).cell? ⟨b0, o0, none⟩ = some x0 ∧ ((w1.setCell ⟨g, m * 2, none⟩ (.int .i64 a)).setCell ⟨g, m * 2 + 1, none⟩ (.int .i64 b)).cell? ⟨b1, o1, none⟩ = some x1 ∧ ((w1.setCell ⟨g, m * 2, none⟩ (.int .i64 a)).setCell ⟨g, m * 2 + 1, none⟩ (.int .i64 b)).cell? ⟨b2, o2, none⟩ = some x2 ∧ ((w1.setCell ⟨g, m * 2, none⟩ (.int .i64 a)).setCell ⟨g, m * 2 + 1, none⟩ (.int .i64 b)).cell? ⟨b3, o3, none⟩ = some x3 ∧ ((w1.setCell ⟨g, m * 2, none⟩ (.int .i64 a)).setCell ⟨g, m * 2 + 1, none⟩ (.int .i64 b)).cell? ⟨b4, o4, none⟩ = some x4 ∧ ((w1.setCell ⟨g, m * 2, none⟩ (.int .i64 a)).setCell ⟨g, m * 2 + 1, none⟩ (.int .i64 b)).cell? ⟨b5, o5, none⟩ = some x5 :=
  ⟨h.1.set a b, ((cell_far n0).trans (cell_far n0)).trans h.2.1, ((cell_far n1).trans (cell_far n1)).trans h.2.2.1, ((cell_far n2).trans (cell_far n2)).trans h.2.2.2.1, ((cell_far n3).trans (cell_far n3)).trans h.2.2.2.2.1, ((cell_far n4).trans (cell_far n4)).trans h.2.2.2.2.2.1, ((cell_far n5).trans (cell_far n5)).trans h.2.2.2.2.2.2⟩
theorem own_empty {w0 w : World} (h : w0.heap.size ≤ w.heap.size) : Own w0 (w.alloc (.cells #[] 70)).drew (.slice (some ⟨w.heap.size, 0, none⟩) 0 0) 0 [] :=
  ⟨rfl, Or.inr ⟨w.heap.size, 0, #[], rfl, h, Blk.new w _ _, Nat.le_refl _, Nat.zero_le _, rfl, rfl⟩⟩
theorem Bi.far2 {w : World} {p g : Nat} {L : List It} {v0 v1 : Value} (h : Bi w g L) (hn : g ≠ p) : Bi ((w.setCell ⟨p, 0, none⟩ v0).setCell ⟨p, 1, none⟩ v1) g L :=
  Blk.far (Blk.far h hn _) hn _
theorem Bi.drew {w : World} {g : Nat} {L : List It} (h : Bi w g L) : Bi w.drew g L := h
end Go.Proofs.YtflahclphdlolaaGreat

/- append onto an empty row: nothing that was there changes; and where a walk over RingQueue is. -/
namespace Go.Proofs.YtflahclphdlolaaGreat
open Go.RowKit

theorem append0_run (ty : TypeId) (w0 w : World) (g : Nat) (hO : Own w0 w (.slice (some ⟨g, 0, none⟩) 0 0) 0 []) (hu : Up w0 w) (A : Option Addr) (m c : Nat) (M : List It) (hS : Sl w A m M) (hlen : m ≤ 1000000) :
    ∃ v' w', (Builtin.append_ #[22, 22] ty #[.slice (some ⟨g, 0, none⟩) 0 0, .slice A m c]).run Tryz.prog w = .ok v' w' ∧ Own w0 w' v' m M ∧ Up w w' := by
  by_cases h0 : m = 0
  · subst h0
    obtain ⟨i, hi, hz, hs, hb⟩ := info_parts item_info
    have ht := Tryz.underlying22
    have hM : M = [] := List.eq_nil_of_length_eq_zero hS.1
    subst hM
    refine ⟨_, w, ?_, hO, Up.refl _⟩
    have hl : ∀ (x : Addr), (loadCells x 0).run Tryz.prog w = .ok #[] w := fun x => by simpa using run_loadCells_list (P := Tryz.prog) w x [] (by simp)
    cases A <;> simp [Builtin.append_, run_underlying ht, sizeOf, typeInfo, hi, Builtin.lenOf, Builtin.firstCells, storeCells, hl]
  · obtain ⟨i, hi, hz, hs, hb⟩ := info_parts item_info
    have ht := Tryz.underlying22
    have hm : M.length = m := hS.1
    obtain ⟨b, o, rfl, hc⟩ := hS.2 (by omega)
    have hnews : ∀ j u, (fl M)[j]? = some u → w.cell? ((⟨b, o, none⟩ : Addr).add j) = some u := fun j u hj => by rw [add_at]; exact hc j u hj
    have hl : (fl M).length = m * i.size := by rw [fl_length, hm, hs]
    have h63 : 0 + m ≤ maxLen := by simp only [maxLen]; omega
    have hr := run_append_grow (P := Tryz.prog) w 22 ty 70 i _ ht hi hz ⟨g, 0, none⟩ 0 0 [] (by simp) (by intro j u hj; simp at hj) ⟨b, o, none⟩ m c (fl M) hl hnews (by omega) (by omega) (growslice_fits (by omega) (by rw [hb]; omega))
    refine ⟨_, _, hr, ?_, (Up.refl w).drew.alloc _ _⟩
    have hge := grownCap_ge w (0 + m) 0 70
    have hcm : grownCap w (0 + m) 0 70 ≤ maxLen := grownCap_le_maxLen w (0 + m) 0 _ h63
    simp only [Nat.zero_add] at hge hcm ⊢
    refine ⟨by rw [fl_length, hm], .inr ⟨w.heap.size, _, _, rfl, hu.size, heap_alloc_new w.drew _, hge, hcm, ?_, ?_⟩⟩
    · simp only [Array.size_append, List.size_toArray, size_zeroCells, hl, hs, show (Value.agg #[Value.int .i64 0, Value.int .i64 0]).cells.size = 2 from rfl]
      simp only [List.length_nil]
      omega
    · simp only [Array.toList_append, List.append_assoc]
      have : (fl M).length = m * 2 := by rw [fl_length, hm]
      rw [← this]
      exact List.take_left

/-- Two orders of an empty row and a row of one item. -/
theorem own_empty' {w0 w : World} {g : Nat} (hg : g = w.heap.size) (h : w0.heap.size ≤ w.heap.size) : Own w0 (w.alloc (.cells #[] 70)) (.slice (some ⟨g, 0, none⟩) 0 0) 0 [] := by
  subst hg
  exact ⟨rfl, Or.inr ⟨w.heap.size, 0, #[], rfl, h, Blk.new w _ _, Nat.le_refl _, Nat.zero_le _, rfl, rfl⟩⟩
theorem one_new' (w : World) (p0 p1 : Int) {g : Nat} (hg : g = w.heap.size) : Sl (w.alloc (.cells #[.int .i64 p0, .int .i64 p1] 70)) (some ⟨g, 0, none⟩) 1 [(p0, p1)] := by
  subst hg; exact one_new w p0 p1
theorem own_one {w0 w : World} (p0 p1 : Int) {g : Nat} (hg : g = w.heap.size) (h : w0.heap.size ≤ w.heap.size) : Own w0 (w.alloc (.cells #[.int .i64 p0, .int .i64 p1] 70)) (.slice (some ⟨g, 0, none⟩) 1 1) 1 [(p0, p1)] := by
  subst hg
  exact ⟨rfl, Or.inr ⟨w.heap.size, 1, #[.int .i64 p0, .int .i64 p1], rfl, h, Blk.new w _ _, Nat.le_refl _, by simp only [maxLen]; omega, rfl, rfl⟩⟩

/-- Where RingQueue is: the buffer behind its variable in block p, and the plain list. -/
def Qr (w wr : World) (p c : Nat) (v : Value) : Prop :=
  ∃ (h g kk : Nat) (M : List It) (B : Option Addr), v = .slice B M.length kk ∧ M.length ≤ kk ∧ Sl wr B M.length M ∧ Rt wr p g c h M.length (ofL c h M) ∧ h < c ∧ M.length ≤ c ∧ Up w wr ∧ w.heap.size ≤ p ∧ w.heap.size ≤ g ∧ (∀ b o, B = some ⟨b, o, none⟩ → b ≠ p)
theorem Rt.far4 {w : World} {p g c h l : Nat} {L : List It} (H : Rt w p g c h l L) {q : Nat} (hp : q ≠ p) (hg : q ≠ g) (v0 v1 v2 v3 : Value) :
    Rt ((((w.setCell ⟨q, 0, none⟩ v0).setCell ⟨q, 1, none⟩ v1).setCell ⟨q, 2, none⟩ v2).setCell ⟨q, 3, none⟩ v3) p g c h l L :=
  (((H.far hp hg 0 v0).far hp hg 1 v1).far hp hg 2 v2).far hp hg 3 v3
theorem Sl.far4 {w0 w : World} {A : Option Addr} {n : Nat} {M : List It} (h : Sl w0 A n M) (hu : Up w0 w) {q : Nat} (hq : w0.heap.size ≤ q) (v0 v1 v2 v3 : Value) :
    Sl ((((w.setCell ⟨q, 0, none⟩ v0).setCell ⟨q, 1, none⟩ v1).setCell ⟨q, 2, none⟩ v2).setCell ⟨q, 3, none⟩ v3) A n M :=
  h.up (hu.set4 hq)
theorem Sl.off4 {w : World} {A : Option Addr} {n p : Nat} {M : List It} (h : Sl w A n M) (hn : ∀ b o, A = some ⟨b, o, none⟩ → b ≠ p) (v0 v1 v2 v3 : Value) :
    Sl ((((w.setCell ⟨p, 0, none⟩ v0).setCell ⟨p, 1, none⟩ v1).setCell ⟨p, 2, none⟩ v2).setCell ⟨p, 3, none⟩ v3) A n M := by
  refine ⟨h.1, fun h0 => ?_⟩
  obtain ⟨b, o, e, hc⟩ := h.2 h0
  exact ⟨b, o, e, fun j u hj => _root_.Go.Proofs.YtflahclphdlolaaGreat.far4 (hc j u hj) (Ne.symm (hn b o e))⟩
theorem Own.off {w0 w : World} {A : Option Addr} {n c p : Nat} {L : List It} (h : Own w0 w (.slice A n c) n L) (hp : p < w0.heap.size) : ∀ b o, A = some ⟨b, o, none⟩ → b ≠ p := by
  intro b o e
  rcases h.2 with ⟨h1, _⟩ | ⟨g, cap, cur, h1, h2, _⟩
  · injection h1 with h1; rw [h1] at e; cases e
  · injection h1 with h1
    rw [h1] at e
    injection e with e
    injection e with e1 e2
    omega
end Go.Proofs.YtflahclphdlolaaGreat
