/- What Gap, Value, Items and Live of the verifier's package made return. -/
import Derived.Test.YtfcknhpllhkpeaaRows
import Derived.Test.YtfcknhpllhkpeaaZFBaseq41
import Derived.Test.YtfcknhpllhkpeaaZGAppendq54
import Derived.Test.YtfcknhpllhkpeaaZHMathq11
import Derived.Test.YtfcknhpllhkpeaaZNumq19
namespace Go.Proofs.Ytfcknhpllhkpeaa
open Go.RowKit

theorem mod_in (a n : Int) (hn : 1 ≤ n) (hn' : n ≤ 1000000) (w : World) :
    Calls Try.prog 24 #[.int .i64 a, .int .i64 n] w fun e w' => ∃ r, e = .returned (.int .i64 r) ∧ 0 ≤ r ∧ r ≤ n - 1 ∧ w = w' :=
  (modm_any a n hn hn' w).mono (fun _ _ ⟨h1, h2⟩ => ⟨_, h1, Int.emod_nonneg _ (by omega), by have := Int.emod_lt_of_pos a (show 0 < n by omega); omega, h2⟩)

theorem mvalue_any (a : Int) (w : World) :
    Calls Try.prog 48 #[.int .i64 a] w fun e w' => ∃ g, e = .returned (.int .i64 g) ∧ valueB g = true ∧ w = w' := by
  have KM := Lib.hid (fun W => modm_any a 8 (by omega) (by omega) W)
  have KB := Lib.hid (fun b W => mod_in b 8193 (by omega) (by omega) W)
  have KC := Lib.hid (fun b W => mod_in b 2 (by omega) (by omega) W)
  have KD := Lib.hid (fun b W => mod_in b 13 (by omega) (by omega) W)
  generalize a % 8 = m at KM
  by_cases m0 : m = 0
  · subst m0
    clear KC KD
    go_enter Try.func48, Try.ntmps48
    go_wp2_with (first
      | (go_at_call 24; (with_reducible refine (KM.out _).mono ?_); rintro e w' ⟨rfl, rfl⟩)
      | (go_at_call 24; (with_reducible refine (KB.out _ _).mono ?_); rintro e w' ⟨r, rfl, hr1, hr2, rfl⟩))
    go_ret
    exact ⟨_, rfl, decide_eq_true (by omega), rfl⟩
  have t0 : (m == 0) = false := by simp [m0]
  by_cases m1 : m = 1
  · subst m1
    clear KB KD
    go_enter Try.func48, Try.ntmps48
    go_wp2_with (first
      | (go_at_call 24; (with_reducible refine (KM.out _).mono ?_); rintro e w' ⟨rfl, rfl⟩)
      | (go_at_call 24; (with_reducible refine (KC.out _ _).mono ?_); rintro e w' ⟨r, rfl, hr1, hr2, rfl⟩))
    go_ret
    exact ⟨_, rfl, decide_eq_true (by omega), rfl⟩
  · have t1 : (m == 1) = false := by simp; omega
    clear KB KC m0 m1
    go_enter Try.func48, Try.ntmps48
    go_wp2_with (first
      | (go_at_call 24; (with_reducible refine (KM.out _).mono ?_); rintro e w' ⟨rfl, rfl⟩)
      | (go_at_call 24; (with_reducible refine (KD.out _ _).mono ?_); rintro e w' ⟨r, rfl, hr1, hr2, rfl⟩))
    go_ret
    exact ⟨_, rfl, decide_eq_true (by omega), rfl⟩

theorem snoc_lt {M : List It} {x : It} {j : Nat} (h : j < M.length) : (M ++ [x]).getD j (0, 0) = M.getD j (0, 0) := by
  simp [List.getD, List.getElem?_append_left h]
theorem snoc_at {M : List It} {x : It} : (M ++ [x]).getD M.length (0, 0) = x := by
  simp [List.getD]
end Go.Proofs.Ytfcknhpllhkpeaa
