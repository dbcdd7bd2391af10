/- Results of package extreme with a row of items; rows that are cut; an empty row with room; a copy of a row. -/
import Derived.Test.YtfcknhpllhkpeaaRows
import Derived.Test.YtfcknhpllhkpeaaZFBaseq41
namespace Go.Proofs.Ytfcknhpllhkpeaa
open Go.RowKit
set_option linter.unusedVariables false

/-- A state and an error are returned; the row of the items is new. -/
def RsX (q : QX) (w : World) (e : Ending) (w' : World) : Prop := ∃ (A : Option Addr) (k : Nat), e = .returned (.tuple #[.agg #[.bool q.1, .int .i64 q.2.1, .int .i64 q.2.2.1, .int .i64 q.2.2.2.1, .slice A q.2.2.2.2.1.length k], .int .i64 q.2.2.2.2.2]) ∧ (q.2.2.2.2.1.length ≤ k ∧ Nw w A) ∧ Sl w' A q.2.2.2.2.1.length q.2.2.2.2.1 ∧ Up w w'
/-- The same without a word on the row's place. -/
def RsXO (q : QX) (w : World) (e : Ending) (w' : World) : Prop := ∃ (A : Option Addr) (k : Nat), e = .returned (.tuple #[.agg #[.bool q.1, .int .i64 q.2.1, .int .i64 q.2.2.1, .int .i64 q.2.2.2.1, .slice A q.2.2.2.2.1.length k], .int .i64 q.2.2.2.2.2]) ∧ Sl w' A q.2.2.2.2.1.length q.2.2.2.2.1 ∧ Up w w'
theorem RsX.no {e : Int} {w w' : World} {v : Ending} (h : v = .returned (.tuple #[.agg #[.bool false, .int .i64 0, .int .i64 0, .int .i64 0, .slice none 0 0], .int .i64 e])) (hu : Up w w') : RsX (noX e) w v w' := ⟨none, 0, h, ⟨Nat.le_refl _, fun _ _ q => (by cases q)⟩, Sl.none_, hu⟩
theorem RsX.yes {mx : Bool} {v c now e : Int} {X : List It} {A : Option Addr} {n k : Nat} {w w' : World} {u : Ending} (h : u = .returned (.tuple #[.agg #[.bool mx, .int .i64 v, .int .i64 c, .int .i64 now, .slice A n k], .int .i64 e])) (hN : n ≤ k ∧ Nw w A) (hS : Sl w' A n X) (hu : Up w w') : RsX (mx, v, c, now, X, e) w u w' := by
  have hl : X.length = n := hS.1
  subst hl
  exact ⟨A, k, h, hN, hS, hu⟩
theorem RsX.of {mx : Bool} {v c now e : Int} {X : List It} {w w' : World} {u : Ending} (h : RsX (mx, v, c, now, X, e) w u w') : ∃ (A : Option Addr) (k : Nat), u = .returned (.tuple #[.agg #[.bool mx, .int .i64 v, .int .i64 c, .int .i64 now, .slice A X.length k], .int .i64 e]) ∧ (X.length ≤ k ∧ Nw w A) ∧ Sl w' A X.length X ∧ Up w w' := h
theorem RsXO.of {mx : Bool} {v c now e : Int} {X : List It} {w w' : World} {u : Ending} (h : RsXO (mx, v, c, now, X, e) w u w') : ∃ (A : Option Addr) (k : Nat), u = .returned (.tuple #[.agg #[.bool mx, .int .i64 v, .int .i64 c, .int .i64 now, .slice A X.length k], .int .i64 e]) ∧ Sl w' A X.length X ∧ Up w w' := h
theorem Own.all17 {w0 w : World} {A : Option Addr} {n k : Nat} {L : List It} (h : Own w0 w (.slice A n k) n L) : (n ≤ k ∧ Nw w0 A) ∧ Sl w A n L := by
  obtain ⟨A2, c2, e, h1, h2⟩ := h.sl
  cases e
  exact ⟨⟨h1, h.nw⟩, h2⟩
theorem Own.first17 {w0 w : World} {A : Option Addr} {n k m : Nat} {L : List It} (h : Own w0 w (.slice A n k) n L) (hm : m ≤ n) : Own w0 w (.slice A m k) m (L.take m) := by
  have hl : L.length = n := by have := h.1; rw [fl_length] at this; omega
  refine ⟨by rw [fl_length, List.length_take]; rw [hl, Nat.min_eq_left hm], ?_⟩
  rcases h.2 with ⟨h1, h2⟩ | ⟨g, cap, cur, h1, h2, h3, h4, h5, h6, h7⟩
  · injection h1 with h3 h4 h5
    subst h3 h5
    obtain rfl : m = 0 := by omega
    exact Or.inl ⟨rfl, rfl⟩
  · injection h1 with e1 e2 e3
    subst e1 e3
    refine Or.inr ⟨g, k, cur, rfl, h2, h3, by omega, h5, h6, ?_⟩
    rw [← fl_take, ← h7, List.take_take, Nat.min_eq_left (Nat.mul_le_mul_right 2 hm)]
set_option maxHeartbeats 4000000 in
set_option maxRecDepth 100000 in
theorem cloneI_up (n k : Nat) (A : Option Addr) (L : List It) (hn : n ≤ 100000) (w : World) (hS : Sl w A n L) :
    Calls Try.prog 39 #[.slice A n k] w fun e w' => ∃ A' k', e = .returned (.slice A' n k') ∧ Own w w' (.slice A' n k') n L ∧ Up w w' := by
  cases A with
  | none =>
    have h0 : n = 0 := by
      rcases Nat.eq_zero_or_pos n with h | h
      · exact h
      · obtain ⟨b, o, e, _⟩ := hS.2 h; cases e
    subst h0
    have e : L = [] := List.eq_nil_of_length_eq_zero hS.1
    subst e
    have hq := fun W => Lib.run_eql_slice_nil (P := Try.prog) W 22 41 none 0 k 0 0 Try.underlying22
    go_enter Try.func39, Try.ntmps39
    go_wp2_with fail
    go_ret
    exact ⟨_, _, rfl, Own.nil _ _, Up.refl _⟩
  | some a =>
    obtain ⟨v', w', hr, h1, h2⟩ := append_run 22 w (w.alloc (.cells #[] 41)) _ 0 [] (own_empty' (w := w) rfl (Nat.le_refl _)) ((Up.refl w).alloc _ _) (some a) n k L (hS.up ((Up.refl w).alloc _ _)) (by omega)
    simp only [Nat.zero_add, List.nil_append] at hr h1
    obtain ⟨A', k', rfl, _, _⟩ := h1.sl
    have hq := fun W => Lib.run_eql_slice_nil (P := Try.prog) W 22 41 (some a) n k 0 0 Try.underlying22
    go_enter Try.func39, Try.ntmps39
    go_wp2_with (refine wpList_append_run (o := ⟨some 7, _, _, _, _, _⟩) rfl (.tmp 5) (.tmp 6) _ rfl _ _ rfl rfl _ _ hr ?_)
    go_ret
    exact ⟨_, _, rfl, h1, h2⟩
end Go.Proofs.Ytfcknhpllhkpeaa
