/- The numbers of package recent: which parameters, values and states are valid; what the functions on numbers return. -/
import Derived.Test.YtfcknhpllhkpeaaRows
import Derived.Test.YtfcknhpllhkpeaaZCClockq30
import Derived.Test.YtfcknhpllhkpeaaZFBaseq41
namespace Go.Proofs.Ytfcknhpllhkpeaa
open Go.RowKit

theorem rmay_any (v c now : Int) (w : World) :
    Calls Try.prog 32 #[.int .i64 v, .int .i64 c, .int .i64 now] w fun e w' => e = .returned (.bool (mayB v c now)) ∧ w = w' := by
  have KT := Lib.hid (rtick_any now)
  have KW := Lib.hid (rwin_any v)
  cases hv : winB v with
  | false =>
    have e0 : mayB v c now = false := by unfold mayB; rw [hv, Bool.and_false]; rfl
    rw [e0]
    rw [hv] at KW
    clear hv e0
    go_enter Try.func32, Try.ntmps32
    go_wp2_with (go_at_call 50; (with_reducible refine (KW.out _).mono ?_); rintro e w' ⟨rfl, rfl⟩)
    go_ret
    exact ⟨rfl, rfl⟩
  | true =>
    rw [hv] at KW
    have e0 : mayB v c now = (tickB now && decide (1 ≤ c ∧ c ≤ 65536)) := by unfold mayB; rw [hv, Bool.and_true]
    rw [e0]
    clear hv e0
    generalize tickB now = t at *
    by_cases h1 : 1 ≤ c
    · by_cases h2 : c ≤ 65536
      · rw [decide_eq_true (p := 1 ≤ c ∧ c ≤ 65536) ⟨h1, h2⟩]
        go_enter Try.func32, Try.ntmps32
        go_wp2_with (first | (go_at_call 51; (with_reducible refine (KT.out _).mono ?_); rintro e w' ⟨rfl, rfl⟩) | (go_at_call 50; (with_reducible refine (KW.out _).mono ?_); rintro e w' ⟨rfl, rfl⟩))
        go_ret
        exact ⟨by cases t <;> rfl, rfl⟩
      · rw [decide_eq_false (p := 1 ≤ c ∧ c ≤ 65536) (fun h => h2 h.2), Bool.and_false]
        have t2 : decide (c ≤ 65536) = false := decide_eq_false h2
        go_enter Try.func32, Try.ntmps32
        go_wp2_with (first | (go_at_call 51; (with_reducible refine (KT.out _).mono ?_); rintro e w' ⟨rfl, rfl⟩) | (go_at_call 50; (with_reducible refine (KW.out _).mono ?_); rintro e w' ⟨rfl, rfl⟩))
        go_ret
        exact ⟨rfl, rfl⟩
    · rw [decide_eq_false (p := 1 ≤ c ∧ c ≤ 65536) (fun h => h1 h.1), Bool.and_false]
      go_enter Try.func32, Try.ntmps32
      go_wp2_with (first | (go_at_call 51; (with_reducible refine (KT.out _).mono ?_); rintro e w' ⟨rfl, rfl⟩) | (go_at_call 50; (with_reducible refine (KW.out _).mono ?_); rintro e w' ⟨rfl, rfl⟩))
      go_ret
      exact ⟨rfl, rfl⟩

end Go.Proofs.Ytfcknhpllhkpeaa
