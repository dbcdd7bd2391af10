/- What Gap, Value, Items and Live of the verifier's package made return. -/
import Derived.Test.YtfdjhahnggdklaaZGBasem8
import Derived.Test.YtfdjhahnggdklaaZGLawm3
import Derived.Test.YtfdjhahnggdklaaZHSmallm7
namespace Go.Proofs.Ytfdjhahnggdklaa
open Go.RowKit

theorem mod_in (a n : Int) (hn : 1 ≤ n) (hn' : n ≤ 10000) (w : World) :
    Calls Try.prog 24 #[.int .i64 a, .int .i64 n] w fun e w' => ∃ r, e = .returned (.int .i64 r) ∧ 0 ≤ r ∧ r ≤ n - 1 ∧ w = w' :=
  (modm_any a n hn hn' w).mono (fun _ _ ⟨h1, h2⟩ => ⟨_, h1, Int.emod_nonneg _ (by omega), by have := Int.emod_lt_of_pos a (show 0 < n by omega); omega, h2⟩)

theorem mvalue_any (a : Int) (w : World) :
    Calls Try.prog 66 #[.int .i64 a] w fun e w' => ∃ g, e = .returned (.int .i64 g) ∧ valueB g = true ∧ w = w' := by
  have KM := Lib.hid (fun W => modm_any a 8 (by omega) (by omega) W)
  have KB := Lib.hid (fun b W => mod_in b 8193 (by omega) (by omega) W)
  have KC := Lib.hid (fun b W => mod_in b 2 (by omega) (by omega) W)
  have KD := Lib.hid (fun b W => mod_in b 13 (by omega) (by omega) W)
  generalize a % 8 = m at KM
  by_cases m0 : m = 0
  · subst m0
    clear KC KD
    go_enter Try.func66, Try.ntmps66
    go_wp2_with (first
      | (go_at_call 24; (with_reducible refine (KM.out _).mono ?_); rintro e w' ⟨rfl, rfl⟩)
      | (go_at_call 24; (with_reducible refine (KB.out _ _).mono ?_); rintro e w' ⟨r, rfl, hr1, hr2, rfl⟩))
    go_ret
    exact ⟨_, rfl, decide_eq_true (by omega), rfl⟩
  have t0 : (m == 0) = false := by simp [m0]
  by_cases m1 : m = 1
  · subst m1
    clear KB KD
    go_enter Try.func66, Try.ntmps66
    go_wp2_with (first
      | (go_at_call 24; (with_reducible refine (KM.out _).mono ?_); rintro e w' ⟨rfl, rfl⟩)
      | (go_at_call 24; (with_reducible refine (KC.out _ _).mono ?_); rintro e w' ⟨r, rfl, hr1, hr2, rfl⟩))
    go_ret
    exact ⟨_, rfl, decide_eq_true (by omega), rfl⟩
  · have t1 : (m == 1) = false := by simp; omega
    clear KB KC m0 m1
    go_enter Try.func66, Try.ntmps66
    go_wp2_with (first
      | (go_at_call 24; (with_reducible refine (KM.out _).mono ?_); rintro e w' ⟨rfl, rfl⟩)
      | (go_at_call 24; (with_reducible refine (KD.out _ _).mono ?_); rintro e w' ⟨r, rfl, hr1, hr2, rfl⟩))
    go_ret
    exact ⟨_, rfl, decide_eq_true (by omega), rfl⟩

theorem snoc_lt {M : List It} {x : It} {j : Nat} (h : j < M.length) : (M ++ [x]).getD j (0, 0) = M.getD j (0, 0) := by
  simp [List.getD, List.getElem?_append_left h]
theorem snoc_at {M : List It} {x : It} : (M ++ [x]).getD M.length (0, 0) = x := by
  simp [List.getD]
/-- The items in the window, by the verifier's own function. -/
def mlL (L : List It) (now v : Int) : List It := L.filter (fun x => decide (now - v < x.1) && decide (x.1 ≤ now))
theorem mlL_take {L : List It} {i : Nat} (hi : i < L.length) (now v : Int) : mlL (L.take (i + 1)) now v = mlL (L.take i) now v ++ (if (decide (now - v < (L.getD i (0, 0)).1) && decide ((L.getD i (0, 0)).1 ≤ now)) = true then [L.getD i (0, 0)] else []) := by
  unfold mlL; rw [take_next hi, List.filter_append]
  by_cases h : (decide (now - v < (L.getD i (0, 0)).1) && decide ((L.getD i (0, 0)).1 ≤ now)) = true
  · rw [if_pos h, List.filter_cons, if_pos h]; rfl
  · rw [if_neg h, List.filter_cons, if_neg h]; rfl

end Go.Proofs.Ytfdjhahnggdklaa
