/- The functions of package clock that take no list, and those of its reference: what each returns, as one plain function. -/
import Derived.Test.YtfcknhpllhkpeaaRows
import Derived.Test.YtfcknhpllhkpeaaZCClockq30
namespace Go.Proofs.Ytfcknhpllhkpeaa
open Go.RowKit

theorem tickB_false {t : Int} (h : tickB t = false) : t < 0 ∨ 16777216 < t := by have := of_decide_eq_false h; omega
theorem rlive_any (now v t : Int) (w : World) :
    Calls Try.prog 44 #[.int .i64 now, .int .i64 v, .int .i64 t] w fun e w' => e = .returned (.bool (liveB now v t)) ∧ w = w' := by
  have KT := Lib.hid (rtick_any now)
  have KW := Lib.hid (rwin_any v)
  have KU := Lib.hid (rtick_any t)
  cases ht : tickB now with
  | false =>
    rw [liveB_no (by rw [ht]; rfl)]
    rw [ht] at KT
    clear ht
    go_enter Try.func44, Try.ntmps44
    go_wp2_with (go_at_call 51; (with_reducible refine (KT.out _).mono ?_); rintro e w' ⟨rfl, rfl⟩)
    go_ret
    exact ⟨by first | rfl | (simp; done) | (simp; omega), rfl⟩
  | true =>
    rw [ht] at KT
    cases hv : winB v with
    | false =>
      rw [liveB_no (by rw [hv, Bool.and_false])]
      rw [hv] at KW
      clear ht hv
      go_enter Try.func44, Try.ntmps44
      go_wp2_with (first | (go_at_call 51; (with_reducible refine (KT.out _).mono ?_); rintro e w' ⟨rfl, rfl⟩) | (go_at_call 50; (with_reducible refine (KW.out _).mono ?_); rintro e w' ⟨rfl, rfl⟩))
      go_ret
      exact ⟨by first | rfl | (simp; done) | (simp; omega), rfl⟩
    | true =>
      have hb : (tickB now && winB v) = true := by rw [ht, hv]; rfl
      rw [liveB_yes hb, firZ_yes hb]
      obtain ⟨n1, n2⟩ := tickB_true ht
      obtain ⟨v1, v2⟩ := winB_true hv
      rw [hv] at KW
      clear hb hv ht
      cases hu : tickB t with
      | false =>
        rw [hu] at KU
        have e1 : (decide (max 0 (now - v + 1) ≤ t) && decide (t ≤ now)) = false := by
          rcases tickB_false hu with h | h
          · rw [decide_eq_false (by omega)]; rfl
          · rw [decide_eq_false (p := t ≤ now) (by omega), Bool.and_false]
        rw [e1]
        clear e1 hu
        go_enter Try.func44, Try.ntmps44
        go_wp2_with fail
        refine (KT.out _).mono ?_
        rintro e w' ⟨rfl, rfl⟩
        go_wp2_with fail
        refine (KW.out _).mono ?_
        rintro e w' ⟨rfl, rfl⟩
        go_wp2_with fail
        refine (KU.out _).mono ?_
        rintro e w' ⟨rfl, rfl⟩
        go_wp2_with fail
        go_ret
        exact ⟨by first | rfl | (simp; done) | (simp; omega), rfl⟩
      | true =>
        rw [hu] at KU
        obtain ⟨t1, t2⟩ := tickB_true hu
        clear hu
        by_cases h1 : now - v < t
        · by_cases h2 : t ≤ now
          · rw [decide_eq_true (p := max 0 (now - v + 1) ≤ t) (by omega), decide_eq_true h2]
            go_enter Try.func44, Try.ntmps44
            go_wp2_with fail
            refine (KT.out _).mono ?_
            rintro e w' ⟨rfl, rfl⟩
            go_wp2_with fail
            refine (KW.out _).mono ?_
            rintro e w' ⟨rfl, rfl⟩
            go_wp2_with fail
            refine (KU.out _).mono ?_
            rintro e w' ⟨rfl, rfl⟩
            go_wp2_with fail
            go_ret
            exact ⟨by first | rfl | (simp; done) | (simp; omega), rfl⟩
          · rw [decide_eq_false h2, Bool.and_false]
            go_enter Try.func44, Try.ntmps44
            go_wp2_with fail
            refine (KT.out _).mono ?_
            rintro e w' ⟨rfl, rfl⟩
            go_wp2_with fail
            refine (KW.out _).mono ?_
            rintro e w' ⟨rfl, rfl⟩
            go_wp2_with fail
            refine (KU.out _).mono ?_
            rintro e w' ⟨rfl, rfl⟩
            go_wp2_with fail
            go_ret
            exact ⟨by first | rfl | (simp; done) | (simp; omega), rfl⟩
        · rw [decide_eq_false (p := max 0 (now - v + 1) ≤ t) (by omega)]
          go_enter Try.func44, Try.ntmps44
          go_wp2_with fail
          refine (KT.out _).mono ?_
          rintro e w' ⟨rfl, rfl⟩
          go_wp2_with fail
          refine (KW.out _).mono ?_
          rintro e w' ⟨rfl, rfl⟩
          go_wp2_with fail
          refine (KU.out _).mono ?_
          rintro e w' ⟨rfl, rfl⟩
          go_wp2_with fail
          go_ret
          exact ⟨by first | rfl | (simp; done) | (simp; omega), rfl⟩
end Go.Proofs.Ytfcknhpllhkpeaa
