/- The functions of package clock that take no list, and those of its reference: what each returns, as one plain function. -/
import Derived.Test.YtfcknhpllhkpeaaRows
import Derived.Test.YtfcknhpllhkpeaaZCClockq28
namespace Go.Proofs.Ytfcknhpllhkpeaa
open Go.RowKit

theorem advance_any (now td x e : Int) (hx : (if tickB now = true then (if td < now ∨ 16777216 < td then (0, 3) else (td, 0)) else (0, 1)) = (x, e)) (w : World) :
    Calls Try.prog 33 #[.int .i64 now, .int .i64 td] w fun r w' => r = .returned (.tuple #[.int .i64 x, .int .i64 e]) ∧ w = w' := by
  have KT := Lib.hid (isTick_any now)
  cases ht : tickB now with
  | false =>
    rw [ht] at KT hx
    simp only [Bool.false_eq_true, if_false, Prod.mk.injEq] at hx
    obtain ⟨rfl, rfl⟩ := hx
    clear ht
    go_enter Try.func33, Try.ntmps33
    go_wp2_with (go_at_call 52; (with_reducible refine (KT.out _).mono ?_); rintro e w' ⟨rfl, rfl⟩)
    go_ret2
    exact ⟨rfl, rfl⟩
  | true =>
    rw [ht] at KT hx
    clear ht
    rw [if_pos rfl] at hx
    by_cases h : td < now
    · rw [if_pos (Or.inl h), Prod.mk.injEq] at hx
      obtain ⟨rfl, rfl⟩ := hx
      go_enter Try.func33, Try.ntmps33
      go_wp2_with (go_at_call 52; (with_reducible refine (KT.out _).mono ?_); rintro e w' ⟨rfl, rfl⟩)
      go_ret2
      exact ⟨rfl, rfl⟩
    · by_cases k : 16777216 < td
      · rw [if_pos (Or.inr k), Prod.mk.injEq] at hx
        obtain ⟨rfl, rfl⟩ := hx
        go_enter Try.func33, Try.ntmps33
        go_wp2_with (go_at_call 52; (with_reducible refine (KT.out _).mono ?_); rintro e w' ⟨rfl, rfl⟩)
        go_ret2
        exact ⟨rfl, rfl⟩
      · rw [if_neg (by omega), Prod.mk.injEq] at hx
        obtain ⟨rfl, rfl⟩ := hx
        go_enter Try.func33, Try.ntmps33
        go_wp2_with (go_at_call 52; (with_reducible refine (KT.out _).mono ?_); rintro e w' ⟨rfl, rfl⟩)
        go_ret2
        exact ⟨rfl, rfl⟩

end Go.Proofs.Ytfcknhpllhkpeaa
