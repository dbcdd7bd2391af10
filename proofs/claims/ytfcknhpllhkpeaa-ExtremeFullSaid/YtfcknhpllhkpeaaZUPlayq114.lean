/- Package extreme: deques of items, and variables with such a state. -/
import Derived.Test.YtfcknhpllhkpeaaRows
import Derived.Test.YtfcknhpllhkpeaaZIMadeq111
import Derived.Test.YtfcknhpllhkpeaaZUKeptq80
import Derived.Test.YtfcknhpllhkpeaaZUMrgq74
import Derived.Test.YtfcknhpllhkpeaaZUSameq84
namespace Go.Proofs.Ytfcknhpllhkpeaa
open Go.RowKit
set_option linter.unusedVariables false

theorem may17 {v c now : Int} (hv : 1 ≤ v ∧ v ≤ 1048576) (hc : 1 ≤ c ∧ c ≤ 65536) (hn : 0 ≤ now ∧ now ≤ 16777216) : mayB v c now = true := by
  unfold mayB; rw [tickB_yes hn.1 hn.2, winB_yes hv.1 hv.2, decide_eq_true hc]; rfl
set_option maxHeartbeats 4000000 in
set_option maxRecDepth 100000 in
theorem dqN_up (mx : Bool) (v c : Int) (hv : 1 ≤ v ∧ v ≤ 25) (hc : 1 ≤ c ∧ c ≤ 65536) (w : World) : Calls Try.prog 9 #[.bool mx, .int .i64 v, .int .i64 c, .int .i64 0] w fun e w' => e = .returned (.tuple #[.agg #[.bool mx, .int .i64 v, .int .i64 c, .int .i64 0, .slice none 0 0], .int .i64 0]) ∧ Up w w' := by
  have KM := Lib.hid (sizes17_any v c 0)
  rw [may17 ⟨hv.1, by omega⟩ hc (by omega)] at KM
  clear hv hc
  go_enter Try.func9, Try.ntmps9
  go_wp2_with (go_at_call 31; (with_reducible refine (KM.out _).mono ?_); rintro e w' ⟨rfl, rfl⟩)
  refine bodyPost_ret (v := .tuple #[.agg #[.bool mx, .int .i64 v, .int .i64 c, .int .i64 0, .slice none 0 0], .int .i64 0]) (by simp [results, Try.results9, go_sem]) rfl ⟨?_, ?_⟩
  · rfl
  · repeat (first | exact Up.refl _ | refine Up.alloc ?_ _ _ | refine Up.setCell ?_ (by first | (simp; done) | (simp; omega) | omega) _ | refine Up.drewN ?_ _ | refine Up.drew ?_)
/-- A variable with a state. -/
structure Vx (W : World) (p : Nat) (mx : Bool) (v c now : Int) (X : List It) (A : Option Addr) (k : Nat) : Prop where
  c0 : W.cell? ⟨p, 0, none⟩ = some (.bool mx)
  c1 : W.cell? ⟨p, 1, none⟩ = some (.int .i64 v)
  c2 : W.cell? ⟨p, 2, none⟩ = some (.int .i64 c)
  c3 : W.cell? ⟨p, 3, none⟩ = some (.int .i64 now)
  c4 : W.cell? ⟨p, 4, none⟩ = some (.slice A X.length k)
  sl : Sl W A X.length X
  off : ∀ b o, A = some ⟨b, o, none⟩ → b ≠ p
  cap : X.length ≤ k
abbrev w5X (W : World) (p : Nat) (mx : Bool) (v c now : Int) (A : Option Addr) (n k : Nat) : World := ((((W.setCell ⟨p, 0, none⟩ (.bool mx)).setCell ⟨p, 1, none⟩ (.int .i64 v)).setCell ⟨p, 2, none⟩ (.int .i64 c)).setCell ⟨p, 3, none⟩ (.int .i64 now)).setCell ⟨p, 4, none⟩ (.slice A n k)
section
variable {w W W' : World} {p q : Nat} {mx mx' : Bool} {v c now v' c' now' : Int} {X Y : List It} {A B : Option Addr} {k j n m : Nat}
theorem Vx.up (h : Vx W p mx v c now X A k) (hu : Up W W') : Vx W' p mx v c now X A k :=
  ⟨hu.keep _ _ _ h.c0, hu.keep _ _ _ h.c1, hu.keep _ _ _ h.c2, hu.keep _ _ _ h.c3, hu.keep _ _ _ h.c4, h.sl.up hu, h.off, h.cap⟩
theorem Vx.lt (h : Vx W p mx v c now X A k) : p < W.heap.size := World.block_lt_of_cell? _ _ h.c0
theorem cell_w5 {b o : Nat} {x : Value} (h : W.cell? ⟨b, o, none⟩ = some x) (hb : p ≠ b) : (w5X W p mx v c now A n k).cell? ⟨b, o, none⟩ = some x :=
  (cell_far hb).trans ((cell_far hb).trans ((cell_far hb).trans ((cell_far hb).trans ((cell_far hb).trans h))))
theorem Sl.w5 (h : Sl W B m Y) (hB : ∀ b o, B = some ⟨b, o, none⟩ → b ≠ p) : Sl (w5X W p mx v c now A n k) B m Y :=
  ((((h.off hB _).off hB _).off hB _).off hB _).off hB _
theorem Up.w5 (h : Up w W) (hp : w.heap.size ≤ p) : Up w (w5X W p mx v c now A n k) :=
  ((((h.setCell hp _).setCell hp _).setCell hp _).setCell hp _).setCell hp _
theorem Vx.put {y0 y1 y2 y3 y4 : Value} (h0 : W.cell? ⟨p, 0, none⟩ = some y0) (h1 : W.cell? ⟨p, 1, none⟩ = some y1) (h2 : W.cell? ⟨p, 2, none⟩ = some y2) (h3 : W.cell? ⟨p, 3, none⟩ = some y3) (h4 : W.cell? ⟨p, 4, none⟩ = some y4) (hs : Sl W A X.length X) (ho : ∀ b o, A = some ⟨b, o, none⟩ → b ≠ p) (hk : X.length ≤ k) :
    Vx (w5X W p mx v c now A X.length k) p mx v c now X A k := by
  have far : ∀ {V : World} {a b : Nat} {u x : Value}, a ≠ b → V.cell? ⟨p, b, none⟩ = some x → (V.setCell ⟨p, a, none⟩ u).cell? ⟨p, b, none⟩ = some x := fun hab hx => (World.cell?_setCell_other _ _ _ _ (by intro e; injection e with e1 e2; exact hab e2)).trans hx
  have same : ∀ {V : World} {a : Nat} {u x : Value}, V.cell? ⟨p, a, none⟩ = some x → (V.setCell ⟨p, a, none⟩ u).cell? ⟨p, a, none⟩ = some u := fun hx => World.cell?_setCell_same _ _ _ hx
  refine ⟨?_, ?_, ?_, ?_, ?_, hs.w5 ho, ho, hk⟩
  · exact far (by decide) (far (by decide) (far (by decide) (far (by decide) (same h0))))
  · exact far (by decide) (far (by decide) (far (by decide) (same (far (by decide) h1))))
  · exact far (by decide) (far (by decide) (same (far (by decide) (far (by decide) h2))))
  · exact far (by decide) (same (far (by decide) (far (by decide) (far (by decide) h3))))
  · exact same (far (by decide) (far (by decide) (far (by decide) (far (by decide) h4))))
theorem Vx.w5 (h : Vx W q mx' v' c' now' X A k) (hq : p ≠ q) (hA : ∀ b o, A = some ⟨b, o, none⟩ → b ≠ p) : Vx (w5X W p mx v c now B n j) q mx' v' c' now' X A k :=
  ⟨cell_w5 h.c0 hq, cell_w5 h.c1 hq, cell_w5 h.c2 hq, cell_w5 h.c3 hq, cell_w5 h.c4 hq, h.sl.w5 hA, h.off, h.cap⟩
/-- A new variable. -/
theorem Vx.new (hs : Sl W A X.length X) (hp : p = W.heap.size) (ho : ∀ b o, A = some ⟨b, o, none⟩ → b ≠ p) (hk : X.length ≤ k) : Vx (W.alloc (.cells #[.bool mx, .int .i64 v, .int .i64 c, .int .i64 now, .slice A X.length k] 24)) p mx v c now X A k := by
  subst hp
  have e := fun i => Blk.cell (Blk.new W 24 #[.bool mx, .int .i64 v, .int .i64 c, .int .i64 now, .slice A X.length k]) i
  exact ⟨(e 0).trans rfl, (e 1).trans rfl, (e 2).trans rfl, (e 3).trans rfl, (e 4).trans rfl, hs.up ((Up.refl _).alloc _ _), ho, hk⟩
end
end Go.Proofs.Ytfcknhpllhkpeaa
