/- Package extreme: deques of items, and variables with such a state. -/
import Derived.Test.YtfcknhpllhkpeaaRows
import Derived.Test.YtfcknhpllhkpeaaZIMadeq112
import Derived.Test.YtfcknhpllhkpeaaZUPlayq114
import Derived.Test.YtfcknhpllhkpeaaZUStq49
namespace Go.Proofs.Ytfcknhpllhkpeaa
open Go.RowKit
set_option linter.unusedVariables false

theorem takeX_getD {M : List It} {i : Nat} (h : i < M.length) : M.take (i + 1) = M.take i ++ [((M.getD i (0, 0)).1, (M.getD i (0, 0)).2)] := by
  have e : M.getD i (0, 0) = M[i] := by simp [List.getD, h]
  rw [e]
  exact (List.take_append_getElem h).symm
theorem mlL_livX {M : List It} {now v : Int} (hn : tickB now = true) (hv : winB v = true) (h : ∀ x ∈ M, 0 ≤ x.1) : mlL M now v = livL M now v := by
  unfold mlL livL
  refine List.filter_congr (fun x hx => ?_)
  rw [Bool.eq_iff_iff, liveB_iff hn hv, Bool.and_eq_true, decide_eq_true_iff, decide_eq_true_iff]
  exact ⟨fun q => ⟨h x hx, q.1, q.2⟩, fun q => ⟨q.2.1, q.2.2⟩⟩
theorem dq_len17 {mx : Bool} {v now : Int} {M : List It} (hv : 1 ≤ v ∧ v ≤ 25) (hn : 0 ≤ now ∧ now ≤ 16777216) : ((dqX mx v now M).length : Int) ≤ v := dqX_len (tickB_yes hn.1 hn.2) (winB_yes hv.1 (by omega))
theorem dq_st17 {mx : Bool} {v now : Int} {M : List It} (hv : 1 ≤ v ∧ v ≤ 25) (hn : 0 ≤ now ∧ now ≤ 16777216) (ho : okQ now M) : stX mx v 200 now (dqX mx v now M) = true := dqX_st (may17 ⟨hv.1, by omega⟩ (by omega) hn) ho (by have := dq_len17 (mx := mx) (M := M) hv hn; omega)
theorem dq_adv {mx : Bool} {v now t : Int} {M : List It} (hv : 1 ≤ v ∧ v ≤ 25) (hn : 0 ≤ now) (h1 : now ≤ t) (h2 : t ≤ 16777216) (ho : okQ now M) : avX mx v 200 now (dqX mx v now M) t = (mx, v, 200, t, dqX mx v t M, 0) := by
  unfold avX
  rw [if_pos (dq_st17 hv ⟨hn, by omega⟩ ho), if_neg (by omega), dqX_adv (tickB_yes hn (by omega)) (tickB_yes (by omega) h2) (winB_yes hv.1 (by omega)) h1 ho]
theorem dq_add {mx : Bool} {v now x : Int} {M : List It} (hv : 1 ≤ v ∧ v ≤ 25) (hn : 0 ≤ now ∧ now ≤ 16777216) (hx : valueB x = true) (ho : okQ now M) : anX mx v 200 now (dqX mx v now M) x = (mx, v, 200, now, dqX mx v now (M ++ [(now, x)]), 0) := by
  unfold anX
  have e : adE mx now x (dqX mx v now M) = dqX mx v now (M ++ [(now, x)]) := dqX_add (tickB_yes hn.1 hn.2) (winB_yes hv.1 (by omega)) ho
  have := dq_len17 (mx := mx) (M := M ++ [(now, x)]) hv hn
  rw [if_pos (dq_st17 hv hn ho), if_pos hx, e, if_pos (by omega)]
/-- Calls on deques of items. -/
def DqR (mx : Bool) (v now : Int) (X : List It) (w : World) (e : Ending) (w' : World) : Prop := ∃ (A : Option Addr) (k : Nat), e = .returned (.tuple #[.agg #[.bool mx, .int .i64 v, .int .i64 200, .int .i64 now, .slice A X.length k], .int .i64 0]) ∧ (X.length ≤ k ∧ Nw w A) ∧ Sl w' A X.length X ∧ Up w w'
theorem dqA_up (mx : Bool) (v now t : Int) (M : List It) (hv : 1 ≤ v ∧ v ≤ 25) (hn : 0 ≤ now) (h1 : now ≤ t) (h2 : t ≤ 16777216) (ho : okQ now M) (W : World) (A : Option Addr) (k : Nat) (hk : (dqX mx v now M).length ≤ k) (hS : Sl W A (dqX mx v now M).length (dqX mx v now M)) :
    Calls Try.prog 14 #[.agg #[.bool mx, .int .i64 v, .int .i64 200, .int .i64 now, .slice A (dqX mx v now M).length k], .int .i64 t] W fun e W' => DqR mx v t (dqX mx v t M) W e W' :=
  (advance17_up mx v 200 now _ k A _ t (by have := dq_len17 (mx := mx) (M := M) hv ⟨hn, by omega⟩; omega) hk W hS).mono (fun e w' h => by rw [dq_adv hv hn h1 h2 ho] at h; exact h)
theorem dqB_up (mx : Bool) (v now x : Int) (M : List It) (hv : 1 ≤ v ∧ v ≤ 25) (hn : 0 ≤ now ∧ now ≤ 16777216) (hx : valueB x = true) (ho : okQ now M) (W : World) (A : Option Addr) (k : Nat) (hk : (dqX mx v now M).length ≤ k) (hS : Sl W A (dqX mx v now M).length (dqX mx v now M)) :
    Calls Try.prog 16 #[.agg #[.bool mx, .int .i64 v, .int .i64 200, .int .i64 now, .slice A (dqX mx v now M).length k], .int .i64 x] W fun e W' => DqR mx v now (dqX mx v now (M ++ [(now, x)])) W e W' :=
  (add17_up mx v 200 now _ k A _ x (by have := dq_len17 (mx := mx) (M := M) hv hn; omega) hk W hS).mono (fun e w' h => by rw [dq_add hv hn hx ho] at h; exact h)
section
variable {w W W' : World} {p q : Nat} {mx mx' : Bool} {v c now v' c' now' : Int} {X Y : List It} {A B : Option Addr} {k j n m : Nat}
end
end Go.Proofs.Ytfcknhpllhkpeaa
