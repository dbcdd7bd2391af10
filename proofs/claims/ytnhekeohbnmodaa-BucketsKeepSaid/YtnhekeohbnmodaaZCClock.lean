/- The functions of package clock that take no list, and those of its reference: what each returns, as one plain function. -/
import Derived.Test.YtnhekeohbnmodaaZGBase
namespace Go.Proofs.Ytnhekeohbnmodaa
open Go.RowKit

/-- A tick; the width of a window; the first tick of a window, or -1; whether a tick is live. -/
def tickB (t : Int) : Bool := decide (0 ≤ t ∧ t ≤ 16777216)
def winB (v : Int) : Bool := decide (1 ≤ v ∧ v ≤ 1048576)
def firZ (now v : Int) : Int := if (tickB now && winB v) = true then max 0 (now - v + 1) else -1
def liveB (now v t : Int) : Bool := tickB now && winB v && decide (firZ now v ≤ t) && decide (t ≤ now)
/-- What Back returns, and what Advance does. -/
def backE (now to : Int) : Int := if to < now ∨ 16777216 < to then 3 else 0
theorem tickB_yes {t : Int} (h : 0 ≤ t) (k : t ≤ 16777216) : tickB t = true := decide_eq_true ⟨h, k⟩
theorem tickB_low {t : Int} (h : t < 0) : tickB t = false := decide_eq_false (by omega)
theorem tickB_high {t : Int} (h : 16777216 < t) : tickB t = false := decide_eq_false (by omega)
theorem tickB_true {t : Int} (h : tickB t = true) : 0 ≤ t ∧ t ≤ 16777216 := of_decide_eq_true h
theorem tickB_false {t : Int} (h : tickB t = false) : t < 0 ∨ 16777216 < t := by have := of_decide_eq_false h; omega
theorem winB_yes {t : Int} (h : 1 ≤ t) (k : t ≤ 1048576) : winB t = true := decide_eq_true ⟨h, k⟩
theorem winB_low {t : Int} (h : t < 1) : winB t = false := decide_eq_false (by omega)
theorem winB_high {t : Int} (h : 1048576 < t) : winB t = false := decide_eq_false (by omega)
theorem winB_true {t : Int} (h : winB t = true) : 1 ≤ t ∧ t ≤ 1048576 := of_decide_eq_true h
theorem winB_false {t : Int} (h : winB t = false) : t < 1 ∨ 1048576 < t := by have := of_decide_eq_false h; omega
theorem firZ_no {now v : Int} (h : (tickB now && winB v) = false) : firZ now v = -1 := by unfold firZ; rw [h]; rfl
theorem firZ_yes {now v : Int} (h : (tickB now && winB v) = true) : firZ now v = max 0 (now - v + 1) := by unfold firZ; rw [if_pos h]
theorem firZ_low {now v : Int} (h : (tickB now && winB v) = true) : 0 ≤ firZ now v := by rw [firZ_yes h]; omega
theorem firZ_high {now v : Int} (h : (tickB now && winB v) = true) : firZ now v ≤ now := by
  rw [firZ_yes h]
  rw [Bool.and_eq_true] at h
  have := tickB_true h.1; have := winB_true h.2; omega

theorem rtick_any (t : Int) (w : World) :
    Calls Try.prog 42 #[.int .i64 t] w fun e w' => e = .returned (.bool (tickB t)) ∧ w = w' := by
  by_cases h : 0 ≤ t
  · by_cases k : t ≤ 16777216
    · rw [tickB_yes h k]
      go_enter Try.func42, Try.ntmps42
      go_wp2
      go_ret
      exact ⟨rfl, rfl⟩
    · rw [tickB_high (by omega)]
      go_enter Try.func42, Try.ntmps42
      go_wp2
      go_ret
      exact ⟨rfl, rfl⟩
  · rw [tickB_low (by omega)]
    go_enter Try.func42, Try.ntmps42
    go_wp2
    go_ret
    exact ⟨rfl, rfl⟩
theorem liveB_no {now v t : Int} (h : (tickB now && winB v) = false) : liveB now v t = false := by unfold liveB; rw [h]; rfl
theorem liveB_yes {now v t : Int} (h : (tickB now && winB v) = true) : liveB now v t = (decide (firZ now v ≤ t) && decide (t ≤ now)) := by unfold liveB; rw [h]; rfl
end Go.Proofs.Ytnhekeohbnmodaa
