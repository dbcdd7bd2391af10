/- The functions of package clock that take no list, and those of its reference: what each returns, as one plain function. -/
import Derived.Test.YtfdjhahnggdklaaZGBasem8
namespace Go.Proofs.Ytfdjhahnggdklaa
open Go.RowKit

/-- A tick; the width of a window; the first tick of a window, or -1; whether a tick is live. -/
def tickB (t : Int) : Bool := decide (0 ≤ t ∧ t ≤ 16777216)
def winB (v : Int) : Bool := decide (1 ≤ v ∧ v ≤ 1048576)
def firZ (now v : Int) : Int := if (tickB now && winB v) = true then max 0 (now - v + 1) else -1
def liveB (now v t : Int) : Bool := tickB now && winB v && decide (firZ now v ≤ t) && decide (t ≤ now)
/-- What Back returns, and what Advance does. -/
def backE (now td : Int) : Int := if td < now ∨ 16777216 < td then 3 else 0
theorem tickB_yes {t : Int} (h : 0 ≤ t) (k : t ≤ 16777216) : tickB t = true := decide_eq_true ⟨h, k⟩
theorem tickB_low {t : Int} (h : t < 0) : tickB t = false := decide_eq_false (by omega)
theorem tickB_high {t : Int} (h : 16777216 < t) : tickB t = false := decide_eq_false (by omega)
theorem tickB_true {t : Int} (h : tickB t = true) : 0 ≤ t ∧ t ≤ 16777216 := of_decide_eq_true h
theorem tickB_false {t : Int} (h : tickB t = false) : t < 0 ∨ 16777216 < t := by have := of_decide_eq_false h; omega
theorem winB_yes {t : Int} (h : 1 ≤ t) (k : t ≤ 1048576) : winB t = true := decide_eq_true ⟨h, k⟩
theorem winB_low {t : Int} (h : t < 1) : winB t = false := decide_eq_false (by omega)
theorem winB_high {t : Int} (h : 1048576 < t) : winB t = false := decide_eq_false (by omega)
theorem winB_true {t : Int} (h : winB t = true) : 1 ≤ t ∧ t ≤ 1048576 := of_decide_eq_true h
theorem winB_false {t : Int} (h : winB t = false) : t < 1 ∨ 1048576 < t := by have := of_decide_eq_false h; omega
theorem firZ_no {now v : Int} (h : (tickB now && winB v) = false) : firZ now v = -1 := by unfold firZ; rw [h]; rfl
theorem firZ_yes {now v : Int} (h : (tickB now && winB v) = true) : firZ now v = max 0 (now - v + 1) := by unfold firZ; rw [if_pos h]
theorem firZ_low {now v : Int} (h : (tickB now && winB v) = true) : 0 ≤ firZ now v := by rw [firZ_yes h]; omega
theorem isTick_any (t : Int) (w : World) :
    Calls Try.prog 71 #[.int .i64 t] w fun e w' => e = .returned (.bool (tickB t)) ∧ w = w' := by
  by_cases h : 0 ≤ t
  · by_cases k : t ≤ 16777216
    · rw [tickB_yes h k]
      go_enter Try.func71, Try.ntmps71
      go_wp2
      go_ret
      exact ⟨rfl, rfl⟩
    · rw [tickB_high (by omega)]
      go_enter Try.func71, Try.ntmps71
      go_wp2
      go_ret
      exact ⟨rfl, rfl⟩
  · rw [tickB_low (by omega)]
    go_enter Try.func71, Try.ntmps71
    go_wp2
    go_ret
    exact ⟨rfl, rfl⟩
theorem rtick_any (t : Int) (w : World) :
    Calls Try.prog 70 #[.int .i64 t] w fun e w' => e = .returned (.bool (tickB t)) ∧ w = w' := by
  by_cases h : 0 ≤ t
  · by_cases k : t ≤ 16777216
    · rw [tickB_yes h k]
      go_enter Try.func70, Try.ntmps70
      go_wp2
      go_ret
      exact ⟨rfl, rfl⟩
    · rw [tickB_high (by omega)]
      go_enter Try.func70, Try.ntmps70
      go_wp2
      go_ret
      exact ⟨rfl, rfl⟩
  · rw [tickB_low (by omega)]
    go_enter Try.func70, Try.ntmps70
    go_wp2
    go_ret
    exact ⟨rfl, rfl⟩
theorem rwin_any (t : Int) (w : World) :
    Calls Try.prog 69 #[.int .i64 t] w fun e w' => e = .returned (.bool (winB t)) ∧ w = w' := by
  by_cases h : 1 ≤ t
  · by_cases k : t ≤ 1048576
    · rw [winB_yes h k]
      go_enter Try.func69, Try.ntmps69
      go_wp2
      go_ret
      exact ⟨rfl, rfl⟩
    · rw [winB_high (by omega)]
      go_enter Try.func69, Try.ntmps69
      go_wp2
      go_ret
      exact ⟨rfl, rfl⟩
  · rw [winB_low (by omega)]
    go_enter Try.func69, Try.ntmps69
    go_wp2
    go_ret
    exact ⟨rfl, rfl⟩
theorem rback_any (now td : Int) (w : World) :
    Calls Try.prog 42 #[.int .i64 now, .int .i64 td] w fun e w' => e = .returned (.int .i64 (backE now td)) ∧ w = w' := by
  by_cases h : td < now
  · have e1 : backE now td = 3 := if_pos (Or.inl h)
    rw [e1]; clear e1
    go_enter Try.func42, Try.ntmps42
    go_wp2
    go_ret
    exact ⟨rfl, rfl⟩
  · by_cases k : 16777216 < td
    · have e1 : backE now td = 3 := if_pos (Or.inr k)
      rw [e1]; clear e1
      go_enter Try.func42, Try.ntmps42
      go_wp2
      go_ret
      exact ⟨rfl, rfl⟩
    · have e1 : backE now td = 0 := if_neg (by omega)
      rw [e1]; clear e1
      go_enter Try.func42, Try.ntmps42
      go_wp2
      go_ret
      exact ⟨rfl, rfl⟩

theorem first_any (now v : Int) (w : World) :
    Calls Try.prog 41 #[.int .i64 now, .int .i64 v] w fun e w' => e = .returned (.int .i64 (firZ now v)) ∧ w = w' := by
  have KT := Lib.hid (isTick_any now)
  cases ht : tickB now with
  | false =>
    have HF := Lib.hid (firZ_no (now := now) (v := v) (by rw [ht]; rfl))
    rw [ht] at KT
    rw [HF.out]
    clear ht HF
    go_enter Try.func41, Try.ntmps41
    go_wp2_with (go_at_call 71; (with_reducible refine (KT.out _).mono ?_); rintro e w' ⟨rfl, rfl⟩)
    go_ret
    exact ⟨rfl, rfl⟩
  | true =>
    rw [ht] at KT
    cases hv : winB v with
    | false =>
      have HF := Lib.hid (firZ_no (now := now) (v := v) (by rw [ht, hv]; rfl))
      rw [HF.out]
      clear ht HF
      rcases winB_false hv with h | h
      · clear hv
        go_enter Try.func41, Try.ntmps41
        go_wp2_with (go_at_call 71; (with_reducible refine (KT.out _).mono ?_); rintro e w' ⟨rfl, rfl⟩)
        go_ret
        exact ⟨rfl, rfl⟩
      · clear hv
        have h1 : 1 ≤ v := by omega
        go_enter Try.func41, Try.ntmps41
        go_wp2_with (go_at_call 71; (with_reducible refine (KT.out _).mono ?_); rintro e w' ⟨rfl, rfl⟩)
        go_ret
        exact ⟨rfl, rfl⟩
    | true =>
      have HF := Lib.hid (firZ_yes (now := now) (v := v) (by rw [ht, hv]; rfl))
      obtain ⟨n1, n2⟩ := tickB_true ht
      obtain ⟨v1, v2⟩ := winB_true hv
      clear ht hv
      rw [HF.out]
      clear HF
      generalize hx : max 0 (now - v + 1) = x
      have HX := Lib.hid hx
      clear hx
      go_enter Try.func41, Try.ntmps41
      go_wp2_with (go_at_call 71; (with_reducible refine (KT.out _).mono ?_); rintro e w' ⟨rfl, rfl⟩)
      all_goals go_ret
      all_goals exact ⟨by have hx := HX.out; first | (rw [show x = 0 by omega]; rfl) | (rw [show x = now - v + 1 by omega]; rfl), rfl⟩

theorem rfirst_any (now v : Int) (w : World) :
    Calls Try.prog 44 #[.int .i64 now, .int .i64 v] w fun e w' => e = .returned (.int .i64 (firZ now v)) ∧ w = w' := by
  have KT := Lib.hid (rtick_any now)
  have KW := Lib.hid (rwin_any v)
  cases ht : tickB now with
  | false =>
    have HF := Lib.hid (firZ_no (now := now) (v := v) (by rw [ht]; rfl))
    rw [ht] at KT
    rw [HF.out]
    clear ht HF KW
    go_enter Try.func44, Try.ntmps44
    go_wp2_with (go_at_call 70; (with_reducible refine (KT.out _).mono ?_); rintro e w' ⟨rfl, rfl⟩)
    go_ret
    exact ⟨rfl, rfl⟩
  | true =>
    rw [ht] at KT
    cases hv : winB v with
    | false =>
      have HF := Lib.hid (firZ_no (now := now) (v := v) (by rw [ht, hv]; rfl))
      rw [hv] at KW
      rw [HF.out]
      clear ht HF hv
      go_enter Try.func44, Try.ntmps44
      go_wp2_with (first | (go_at_call 70; (with_reducible refine (KT.out _).mono ?_); rintro e w' ⟨rfl, rfl⟩) | (go_at_call 69; (with_reducible refine (KW.out _).mono ?_); rintro e w' ⟨rfl, rfl⟩))
      go_ret
      exact ⟨rfl, rfl⟩
    | true =>
      have HF := Lib.hid (firZ_yes (now := now) (v := v) (by rw [ht, hv]; rfl))
      obtain ⟨n1, n2⟩ := tickB_true ht
      obtain ⟨v1, v2⟩ := winB_true hv
      rw [hv] at KW
      clear ht hv
      rw [HF.out]
      clear HF
      generalize hx : max 0 (now - v + 1) = x
      have HX := Lib.hid hx
      clear hx
      go_enter Try.func44, Try.ntmps44
      go_wp2_with (first | (go_at_call 70; (with_reducible refine (KT.out _).mono ?_); rintro e w' ⟨rfl, rfl⟩) | (go_at_call 69; (with_reducible refine (KW.out _).mono ?_); rintro e w' ⟨rfl, rfl⟩))
      all_goals go_ret
      all_goals exact ⟨by have hx := HX.out; first | (rw [show x = 0 by omega]; rfl) | (rw [show x = now - v + 1 by omega]; rfl), rfl⟩

theorem advance_any (now td x e : Int) (hx : (if tickB now = true then (if td < now ∨ 16777216 < td then (0, 3) else (td, 0)) else (0, 1)) = (x, e)) (w : World) :
    Calls Try.prog 39 #[.int .i64 now, .int .i64 td] w fun r w' => r = .returned (.tuple #[.int .i64 x, .int .i64 e]) ∧ w = w' := by
  have KT := Lib.hid (isTick_any now)
  cases ht : tickB now with
  | false =>
    rw [ht] at KT hx
    simp only [Bool.false_eq_true, if_false, Prod.mk.injEq] at hx
    obtain ⟨rfl, rfl⟩ := hx
    clear ht
    go_enter Try.func39, Try.ntmps39
    go_wp2_with (go_at_call 71; (with_reducible refine (KT.out _).mono ?_); rintro e w' ⟨rfl, rfl⟩)
    go_ret2
    exact ⟨rfl, rfl⟩
  | true =>
    rw [ht] at KT hx
    clear ht
    rw [if_pos rfl] at hx
    by_cases h : td < now
    · rw [if_pos (Or.inl h), Prod.mk.injEq] at hx
      obtain ⟨rfl, rfl⟩ := hx
      go_enter Try.func39, Try.ntmps39
      go_wp2_with (go_at_call 71; (with_reducible refine (KT.out _).mono ?_); rintro e w' ⟨rfl, rfl⟩)
      go_ret2
      exact ⟨rfl, rfl⟩
    · by_cases k : 16777216 < td
      · rw [if_pos (Or.inr k), Prod.mk.injEq] at hx
        obtain ⟨rfl, rfl⟩ := hx
        go_enter Try.func39, Try.ntmps39
        go_wp2_with (go_at_call 71; (with_reducible refine (KT.out _).mono ?_); rintro e w' ⟨rfl, rfl⟩)
        go_ret2
        exact ⟨rfl, rfl⟩
      · rw [if_neg (by omega), Prod.mk.injEq] at hx
        obtain ⟨rfl, rfl⟩ := hx
        go_enter Try.func39, Try.ntmps39
        go_wp2_with (go_at_call 71; (with_reducible refine (KT.out _).mono ?_); rintro e w' ⟨rfl, rfl⟩)
        go_ret2
        exact ⟨rfl, rfl⟩

theorem liveB_no {now v t : Int} (h : (tickB now && winB v) = false) : liveB now v t = false := by unfold liveB; rw [h]; rfl
theorem liveB_yes {now v t : Int} (h : (tickB now && winB v) = true) : liveB now v t = (decide (firZ now v ≤ t) && decide (t ≤ now)) := by unfold liveB; rw [h]; rfl
theorem live_any (now v t : Int) (w : World) :
    Calls Try.prog 88 #[.int .i64 now, .int .i64 v, .int .i64 t] w fun e w' => e = .returned (.bool (liveB now v t)) ∧ w = w' := by
  have KF := Lib.hid (first_any now v)
  cases hb : (tickB now && winB v) with
  | false =>
    rw [liveB_no hb]
    rw [firZ_no hb] at KF
    clear hb
    go_enter Try.func88, Try.ntmps88
    go_wp2_with (go_at_call 41; (with_reducible refine (KF.out _).mono ?_); rintro e w' ⟨rfl, rfl⟩)
    go_ret
    exact ⟨by first | rfl | (simp; done) | (simp; omega), rfl⟩
  | true =>
    rw [liveB_yes hb]
    have h0 := firZ_low hb
    clear hb
    generalize firZ now v = x at *
    by_cases h1 : x ≤ t
    · by_cases h2 : t ≤ now
      · rw [decide_eq_true h1, decide_eq_true h2]
        go_enter Try.func88, Try.ntmps88
        go_wp2_with (go_at_call 41; (with_reducible refine (KF.out _).mono ?_); rintro e w' ⟨rfl, rfl⟩)
        go_ret
        exact ⟨by first | rfl | (simp; done) | (simp; omega), rfl⟩
      · rw [decide_eq_true h1, decide_eq_false h2]
        go_enter Try.func88, Try.ntmps88
        go_wp2_with (go_at_call 41; (with_reducible refine (KF.out _).mono ?_); rintro e w' ⟨rfl, rfl⟩)
        go_ret
        exact ⟨by first | rfl | (simp; done) | (simp; omega), rfl⟩
    · rw [decide_eq_false h1]
      go_enter Try.func88, Try.ntmps88
      go_wp2_with (go_at_call 41; (with_reducible refine (KF.out _).mono ?_); rintro e w' ⟨rfl, rfl⟩)
      go_ret
      exact ⟨by first | rfl | (simp; done) | (simp; omega), rfl⟩
theorem rlive_any (now v t : Int) (w : World) :
    Calls Try.prog 89 #[.int .i64 now, .int .i64 v, .int .i64 t] w fun e w' => e = .returned (.bool (liveB now v t)) ∧ w = w' := by
  have KT := Lib.hid (rtick_any now)
  have KW := Lib.hid (rwin_any v)
  have KU := Lib.hid (rtick_any t)
  cases ht : tickB now with
  | false =>
    rw [liveB_no (by rw [ht]; rfl)]
    rw [ht] at KT
    clear ht
    go_enter Try.func89, Try.ntmps89
    go_wp2_with (go_at_call 70; (with_reducible refine (KT.out _).mono ?_); rintro e w' ⟨rfl, rfl⟩)
    go_ret
    exact ⟨by first | rfl | (simp; done) | (simp; omega), rfl⟩
  | true =>
    rw [ht] at KT
    cases hv : winB v with
    | false =>
      rw [liveB_no (by rw [hv, Bool.and_false])]
      rw [hv] at KW
      clear ht hv
      go_enter Try.func89, Try.ntmps89
      go_wp2_with (first | (go_at_call 70; (with_reducible refine (KT.out _).mono ?_); rintro e w' ⟨rfl, rfl⟩) | (go_at_call 69; (with_reducible refine (KW.out _).mono ?_); rintro e w' ⟨rfl, rfl⟩))
      go_ret
      exact ⟨by first | rfl | (simp; done) | (simp; omega), rfl⟩
    | true =>
      have hb : (tickB now && winB v) = true := by rw [ht, hv]; rfl
      rw [liveB_yes hb, firZ_yes hb]
      obtain ⟨n1, n2⟩ := tickB_true ht
      obtain ⟨v1, v2⟩ := winB_true hv
      rw [hv] at KW
      clear hb hv ht
      cases hu : tickB t with
      | false =>
        rw [hu] at KU
        have e1 : (decide (max 0 (now - v + 1) ≤ t) && decide (t ≤ now)) = false := by
          rcases tickB_false hu with h | h
          · rw [decide_eq_false (by omega)]; rfl
          · rw [decide_eq_false (p := t ≤ now) (by omega), Bool.and_false]
        rw [e1]
        clear e1 hu
        go_enter Try.func89, Try.ntmps89
        go_wp2_with fail
        refine (KT.out _).mono ?_
        rintro e w' ⟨rfl, rfl⟩
        go_wp2_with fail
        refine (KW.out _).mono ?_
        rintro e w' ⟨rfl, rfl⟩
        go_wp2_with fail
        refine (KU.out _).mono ?_
        rintro e w' ⟨rfl, rfl⟩
        go_wp2_with fail
        go_ret
        exact ⟨by first | rfl | (simp; done) | (simp; omega), rfl⟩
      | true =>
        rw [hu] at KU
        obtain ⟨t1, t2⟩ := tickB_true hu
        clear hu
        by_cases h1 : now - v < t
        · by_cases h2 : t ≤ now
          · rw [decide_eq_true (p := max 0 (now - v + 1) ≤ t) (by omega), decide_eq_true h2]
            go_enter Try.func89, Try.ntmps89
            go_wp2_with fail
            refine (KT.out _).mono ?_
            rintro e w' ⟨rfl, rfl⟩
            go_wp2_with fail
            refine (KW.out _).mono ?_
            rintro e w' ⟨rfl, rfl⟩
            go_wp2_with fail
            refine (KU.out _).mono ?_
            rintro e w' ⟨rfl, rfl⟩
            go_wp2_with fail
            go_ret
            exact ⟨by first | rfl | (simp; done) | (simp; omega), rfl⟩
          · rw [decide_eq_false h2, Bool.and_false]
            go_enter Try.func89, Try.ntmps89
            go_wp2_with fail
            refine (KT.out _).mono ?_
            rintro e w' ⟨rfl, rfl⟩
            go_wp2_with fail
            refine (KW.out _).mono ?_
            rintro e w' ⟨rfl, rfl⟩
            go_wp2_with fail
            refine (KU.out _).mono ?_
            rintro e w' ⟨rfl, rfl⟩
            go_wp2_with fail
            go_ret
            exact ⟨by first | rfl | (simp; done) | (simp; omega), rfl⟩
        · rw [decide_eq_false (p := max 0 (now - v + 1) ≤ t) (by omega)]
          go_enter Try.func89, Try.ntmps89
          go_wp2_with fail
          refine (KT.out _).mono ?_
          rintro e w' ⟨rfl, rfl⟩
          go_wp2_with fail
          refine (KW.out _).mono ?_
          rintro e w' ⟨rfl, rfl⟩
          go_wp2_with fail
          refine (KU.out _).mono ?_
          rintro e w' ⟨rfl, rfl⟩
          go_wp2_with fail
          go_ret
          exact ⟨by first | rfl | (simp; done) | (simp; omega), rfl⟩
end Go.Proofs.Ytfdjhahnggdklaa
