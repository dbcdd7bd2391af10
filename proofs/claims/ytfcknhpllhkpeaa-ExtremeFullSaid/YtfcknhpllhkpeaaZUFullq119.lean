/- Package extreme: states of any capacity, one call after the other. -/
import Derived.Test.YtfcknhpllhkpeaaRows
import Derived.Test.YtfcknhpllhkpeaaZGModq97
import Derived.Test.YtfcknhpllhkpeaaZMathq9
import Derived.Test.YtfcknhpllhkpeaaZUMrgq75
import Derived.Test.YtfcknhpllhkpeaaZUPlayq114
import Derived.Test.YtfcknhpllhkpeaaZURefq81
import Derived.Test.YtfcknhpllhkpeaaZUStq50
namespace Go.Proofs.Ytfcknhpllhkpeaa
open Go.RowKit
set_option linter.unusedVariables false

theorem adv_st17 {mx : Bool} {v c now t : Int} {X : List It} (h : stX mx v c now X = true) (h1 : now ≤ t) (h2 : t ≤ 16777216) : stX mx v c t (livL X t v) = true := by
  obtain ⟨a1, a2, a3, a4⟩ := stX_is h
  obtain ⟨b1, b2, b3, b4⟩ := mayB_true a1
  have hn := tickB_true b1
  have hv := winB_true b2
  refine stX_of (may17 hv ⟨b3, b4⟩ ⟨by omega, h2⟩) (by have := livL_len X t v; omega) (fun x hx => ?_) (a4.filter _)
  unfold livL at hx
  obtain ⟨h3, h4⟩ := List.mem_filter.1 hx
  exact ⟨h4, (a3 x h3).2⟩
theorem add_st17 {mx : Bool} {v c now x : Int} {X : List It} (h : stX mx v c now X = true) (hx : valueB x = true) (hl : ((adE mx now x X).length : Int) ≤ c) : stX mx v c now (adE mx now x X) = true := by
  obtain ⟨a1, a2, a3, a4⟩ := stX_is h
  obtain ⟨b1, b2, b3, b4⟩ := mayB_true a1
  have hn := tickB_true b1
  have hv := winB_true b2
  have hle : ∀ y ∈ X, y.1 ≤ now := fun y hy => ((liveB_iff b1 b2).1 (a3 y hy).1).2.2
  refine stX_of a1 hl (fun y hy => ?_) (adE_desc17 a4 hle)
  rcases adE_mem17 hy with g | rfl
  · exact a3 y g
  · exact ⟨(liveB_iff b1 b2).2 ⟨hn.1, by omega, Int.le_refl _⟩, hx⟩
theorem new_st17 {mx : Bool} {v c : Int} (hv : 1 ≤ v ∧ v ≤ 1048576) (hc : 1 ≤ c ∧ c ≤ 65536) : stX mx v c 0 [] = true :=
  stX_of (may17 hv hc (by omega)) (by simp only [List.length_nil]; omega) (fun x hx => by cases hx) List.Pairwise.nil
/-- Calls on states of any capacity. -/
def DqC (mx : Bool) (v c now : Int) (X : List It) (w : World) (e : Ending) (w' : World) : Prop := ∃ (A : Option Addr) (k : Nat), e = .returned (.tuple #[.agg #[.bool mx, .int .i64 v, .int .i64 c, .int .i64 now, .slice A X.length k], .int .i64 0]) ∧ (X.length ≤ k ∧ Nw w A) ∧ Sl w' A X.length X ∧ Up w w'
theorem stA_up (mx : Bool) (v c now t : Int) (X : List It) (h : stX mx v c now X = true) (h1 : now ≤ t) (h2 : t ≤ 16777216) (hc : c ≤ 1000) (W : World) (A : Option Addr) (k : Nat) (hk : X.length ≤ k) (hS : Sl W A X.length X) :
    Calls Try.prog 14 #[.agg #[.bool mx, .int .i64 v, .int .i64 c, .int .i64 now, .slice A X.length k], .int .i64 t] W fun e W' => DqC mx v c t (livL X t v) W e W' :=
  (advance17_up mx v c now _ k A X t (by have := (stX_is h).2.1; omega) hk W hS).mono (fun e w' g => by
    rw [show avX mx v c now X t = (mx, v, c, t, livL X t v, 0) from by unfold avX; rw [if_pos h, if_neg (by omega)]] at g
    exact g)
theorem stB_up (mx : Bool) (v c now x : Int) (X : List It) (h : stX mx v c now X = true) (hx : valueB x = true) (hc : c ≤ 1000) (hl : ((adE mx now x X).length : Int) ≤ c) (W : World) (A : Option Addr) (k : Nat) (hk : X.length ≤ k) (hS : Sl W A X.length X) :
    Calls Try.prog 16 #[.agg #[.bool mx, .int .i64 v, .int .i64 c, .int .i64 now, .slice A X.length k], .int .i64 x] W fun e W' => DqC mx v c now (adE mx now x X) W e W' :=
  (add17_up mx v c now _ k A X x (by have := (stX_is h).2.1; omega) hk W hS).mono (fun e w' g => by
    rw [show anX mx v c now X x = (mx, v, c, now, adE mx now x X, 0) from by unfold anX; rw [if_pos h, if_pos hx, if_pos hl]] at g
    exact g)
theorem stF_up (mx : Bool) (v c now x : Int) (X : List It) (h : stX mx v c now X = true) (hx : valueB x = true) (hc : c ≤ 1000) (hl : ¬ ((adE mx now x X).length : Int) ≤ c) (W : World) (A : Option Addr) (k : Nat) (hk : X.length ≤ k) (hS : Sl W A X.length X) :
    Calls Try.prog 16 #[.agg #[.bool mx, .int .i64 v, .int .i64 c, .int .i64 now, .slice A X.length k], .int .i64 x] W fun e W' => ∃ (A' : Option Addr) (k' : Nat), e = .returned (.tuple #[.agg #[.bool false, .int .i64 0, .int .i64 0, .int .i64 0, .slice A' 0 k'], .int .i64 5]) ∧ Up W W' :=
  (add17_up mx v c now _ k A X x (by have := (stX_is h).2.1; omega) hk W hS).mono (fun e w' g => by
    rw [show anX mx v c now X x = noX 5 from by unfold anX; rw [if_pos h, if_pos hx, if_neg hl]] at g
    obtain ⟨A', k', g1, g2, g3, g4⟩ := g
    exact ⟨A', k', g1, g4⟩)
end Go.Proofs.Ytfcknhpllhkpeaa
