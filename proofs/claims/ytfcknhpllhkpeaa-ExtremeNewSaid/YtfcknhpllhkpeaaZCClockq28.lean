/- The functions of package clock that take no list, and those of its reference: what each returns, as one plain function. -/
import Derived.Test.YtfcknhpllhkpeaaRows
import Derived.Test.YtfcknhpllhkpeaaZGBaseq3
namespace Go.Proofs.Ytfcknhpllhkpeaa
open Go.RowKit

/-- A tick; the width of a window; the first tick of a window, or -1; whether a tick is live. -/
def tickB (t : Int) : Bool := decide (0 ≤ t ∧ t ≤ 16777216)
def winB (v : Int) : Bool := decide (1 ≤ v ∧ v ≤ 1048576)
def firZ (now v : Int) : Int := if (tickB now && winB v) = true then max 0 (now - v + 1) else -1
def liveB (now v t : Int) : Bool := tickB now && winB v && decide (firZ now v ≤ t) && decide (t ≤ now)
theorem tickB_yes {t : Int} (h : 0 ≤ t) (k : t ≤ 16777216) : tickB t = true := decide_eq_true ⟨h, k⟩
theorem tickB_low {t : Int} (h : t < 0) : tickB t = false := decide_eq_false (by omega)
theorem tickB_high {t : Int} (h : 16777216 < t) : tickB t = false := decide_eq_false (by omega)
theorem tickB_true {t : Int} (h : tickB t = true) : 0 ≤ t ∧ t ≤ 16777216 := of_decide_eq_true h
theorem winB_yes {t : Int} (h : 1 ≤ t) (k : t ≤ 1048576) : winB t = true := decide_eq_true ⟨h, k⟩
theorem winB_true {t : Int} (h : winB t = true) : 1 ≤ t ∧ t ≤ 1048576 := of_decide_eq_true h
theorem winB_false {t : Int} (h : winB t = false) : t < 1 ∨ 1048576 < t := by have := of_decide_eq_false h; omega
theorem firZ_no {now v : Int} (h : (tickB now && winB v) = false) : firZ now v = -1 := by unfold firZ; rw [h]; rfl
theorem firZ_yes {now v : Int} (h : (tickB now && winB v) = true) : firZ now v = max 0 (now - v + 1) := by unfold firZ; rw [if_pos h]
theorem firZ_low {now v : Int} (h : (tickB now && winB v) = true) : 0 ≤ firZ now v := by rw [firZ_yes h]; omega
theorem isTick_any (t : Int) (w : World) :
    Calls Try.prog 52 #[.int .i64 t] w fun e w' => e = .returned (.bool (tickB t)) ∧ w = w' := by
  by_cases h : 0 ≤ t
  · by_cases k : t ≤ 16777216
    · rw [tickB_yes h k]
      go_enter Try.func52, Try.ntmps52
      go_wp2
      go_ret
      exact ⟨rfl, rfl⟩
    · rw [tickB_high (by omega)]
      go_enter Try.func52, Try.ntmps52
      go_wp2
      go_ret
      exact ⟨rfl, rfl⟩
  · rw [tickB_low (by omega)]
    go_enter Try.func52, Try.ntmps52
    go_wp2
    go_ret
    exact ⟨rfl, rfl⟩
theorem first_any (now v : Int) (w : World) :
    Calls Try.prog 49 #[.int .i64 now, .int .i64 v] w fun e w' => e = .returned (.int .i64 (firZ now v)) ∧ w = w' := by
  have KT := Lib.hid (isTick_any now)
  cases ht : tickB now with
  | false =>
    have HF := Lib.hid (firZ_no (now := now) (v := v) (by rw [ht]; rfl))
    rw [ht] at KT
    rw [HF.out]
    clear ht HF
    go_enter Try.func49, Try.ntmps49
    go_wp2_with (go_at_call 52; (with_reducible refine (KT.out _).mono ?_); rintro e w' ⟨rfl, rfl⟩)
    go_ret
    exact ⟨rfl, rfl⟩
  | true =>
    rw [ht] at KT
    cases hv : winB v with
    | false =>
      have HF := Lib.hid (firZ_no (now := now) (v := v) (by rw [ht, hv]; rfl))
      rw [HF.out]
      clear ht HF
      rcases winB_false hv with h | h
      · clear hv
        go_enter Try.func49, Try.ntmps49
        go_wp2_with (go_at_call 52; (with_reducible refine (KT.out _).mono ?_); rintro e w' ⟨rfl, rfl⟩)
        go_ret
        exact ⟨rfl, rfl⟩
      · clear hv
        have h1 : 1 ≤ v := by omega
        go_enter Try.func49, Try.ntmps49
        go_wp2_with (go_at_call 52; (with_reducible refine (KT.out _).mono ?_); rintro e w' ⟨rfl, rfl⟩)
        go_ret
        exact ⟨rfl, rfl⟩
    | true =>
      have HF := Lib.hid (firZ_yes (now := now) (v := v) (by rw [ht, hv]; rfl))
      obtain ⟨n1, n2⟩ := tickB_true ht
      obtain ⟨v1, v2⟩ := winB_true hv
      clear ht hv
      rw [HF.out]
      clear HF
      generalize hx : max 0 (now - v + 1) = x
      have HX := Lib.hid hx
      clear hx
      go_enter Try.func49, Try.ntmps49
      go_wp2_with (go_at_call 52; (with_reducible refine (KT.out _).mono ?_); rintro e w' ⟨rfl, rfl⟩)
      all_goals go_ret
      all_goals exact ⟨by have hx := HX.out; first | (rw [show x = 0 by omega]; rfl) | (rw [show x = now - v + 1 by omega]; rfl), rfl⟩

theorem liveB_no {now v t : Int} (h : (tickB now && winB v) = false) : liveB now v t = false := by unfold liveB; rw [h]; rfl
theorem liveB_yes {now v t : Int} (h : (tickB now && winB v) = true) : liveB now v t = (decide (firZ now v ≤ t) && decide (t ≤ now)) := by unfold liveB; rw [h]; rfl
theorem live_any (now v t : Int) (w : World) :
    Calls Try.prog 42 #[.int .i64 now, .int .i64 v, .int .i64 t] w fun e w' => e = .returned (.bool (liveB now v t)) ∧ w = w' := by
  have KF := Lib.hid (first_any now v)
  cases hb : (tickB now && winB v) with
  | false =>
    rw [liveB_no hb]
    rw [firZ_no hb] at KF
    clear hb
    go_enter Try.func42, Try.ntmps42
    go_wp2_with (go_at_call 49; (with_reducible refine (KF.out _).mono ?_); rintro e w' ⟨rfl, rfl⟩)
    go_ret
    exact ⟨by first | rfl | (simp; done) | (simp; omega), rfl⟩
  | true =>
    rw [liveB_yes hb]
    have h0 := firZ_low hb
    clear hb
    generalize firZ now v = x at *
    by_cases h1 : x ≤ t
    · by_cases h2 : t ≤ now
      · rw [decide_eq_true h1, decide_eq_true h2]
        go_enter Try.func42, Try.ntmps42
        go_wp2_with (go_at_call 49; (with_reducible refine (KF.out _).mono ?_); rintro e w' ⟨rfl, rfl⟩)
        go_ret
        exact ⟨by first | rfl | (simp; done) | (simp; omega), rfl⟩
      · rw [decide_eq_true h1, decide_eq_false h2]
        go_enter Try.func42, Try.ntmps42
        go_wp2_with (go_at_call 49; (with_reducible refine (KF.out _).mono ?_); rintro e w' ⟨rfl, rfl⟩)
        go_ret
        exact ⟨by first | rfl | (simp; done) | (simp; omega), rfl⟩
    · rw [decide_eq_false h1]
      go_enter Try.func42, Try.ntmps42
      go_wp2_with (go_at_call 49; (with_reducible refine (KF.out _).mono ?_); rintro e w' ⟨rfl, rfl⟩)
      go_ret
      exact ⟨by first | rfl | (simp; done) | (simp; omega), rfl⟩
end Go.Proofs.Ytfcknhpllhkpeaa
