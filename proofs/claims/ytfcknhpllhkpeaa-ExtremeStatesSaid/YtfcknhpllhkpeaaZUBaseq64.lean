/- Package extreme: functions without a loop; New of both. -/
import Derived.Test.YtfcknhpllhkpeaaRows
import Derived.Test.YtfcknhpllhkpeaaZGCallq61
import Derived.Test.YtfcknhpllhkpeaaZUMemq57
namespace Go.Proofs.Ytfcknhpllhkpeaa
open Go.RowKit
set_option linter.unusedVariables false

theorem value17_any (v : Int) (w : World) : Calls Try.prog 37 #[.int .i64 v] w fun e w' => e = .returned (.bool (valueB v)) ∧ w = w' := by
  by_cases h1 : -4096 ≤ v
  · by_cases h2 : v ≤ 4096
    · rw [show valueB v = true from decide_eq_true ⟨h1, h2⟩]
      go_enter Try.func37, Try.ntmps37
      go_wp2
      go_ret
      exact ⟨rfl, rfl⟩
    · rw [show valueB v = false from decide_eq_false (fun h => h2 h.2)]
      go_enter Try.func37, Try.ntmps37
      go_wp2
      go_ret
      exact ⟨rfl, rfl⟩
  · rw [show valueB v = false from decide_eq_false (fun h => h1 h.1)]
    go_enter Try.func37, Try.ntmps37
    go_wp2
    go_ret
    exact ⟨rfl, rfl⟩
theorem sizes17_any (v c now : Int) (w : World) :
    Calls Try.prog 31 #[.int .i64 v, .int .i64 c, .int .i64 now] w fun e w' => e = .returned (.bool (mayB v c now)) ∧ w = w' := by
  have KF := Lib.hid (first_any now v)
  cases hb : (tickB now && winB v) with
  | false =>
    have e0 : mayB v c now = false := by unfold mayB; rw [hb]; rfl
    rw [e0]
    rw [firZ_no hb] at KF
    clear hb e0
    go_enter Try.func31, Try.ntmps31
    go_wp2_with (go_at_call 49; (with_reducible refine (KF.out _).mono ?_); rintro e w' ⟨rfl, rfl⟩)
    go_ret
    exact ⟨rfl, rfl⟩
  | true =>
    have h0 := firZ_low hb
    have e0 : mayB v c now = decide (1 ≤ c ∧ c ≤ 65536) := by unfold mayB; rw [hb]; rfl
    rw [e0]
    clear hb e0
    generalize firZ now v = x at *
    by_cases h1 : 1 ≤ c
    · by_cases h2 : c ≤ 65536
      · rw [decide_eq_true (p := 1 ≤ c ∧ c ≤ 65536) ⟨h1, h2⟩]
        go_enter Try.func31, Try.ntmps31
        go_wp2_with (go_at_call 49; (with_reducible refine (KF.out _).mono ?_); rintro e w' ⟨rfl, rfl⟩)
        go_ret
        exact ⟨rfl, rfl⟩
      · rw [decide_eq_false (p := 1 ≤ c ∧ c ≤ 65536) (fun h => h2 h.2)]
        have t2 : decide (c ≤ 65536) = false := decide_eq_false h2
        go_enter Try.func31, Try.ntmps31
        go_wp2_with (go_at_call 49; (with_reducible refine (KF.out _).mono ?_); rintro e w' ⟨rfl, rfl⟩)
        go_ret
        exact ⟨rfl, rfl⟩
    · rw [decide_eq_false (p := 1 ≤ c ∧ c ≤ 65536) (fun h => h1 h.1)]
      go_enter Try.func31, Try.ntmps31
      go_wp2_with (go_at_call 49; (with_reducible refine (KF.out _).mono ?_); rintro e w' ⟨rfl, rfl⟩)
      go_ret
      exact ⟨rfl, rfl⟩
theorem sg_yes (a b : Int) : decide (sgE true a ≤ sgE true b) = decide (a ≤ b) := rfl
theorem sg_no (a b : Int) : decide (sgE false a ≤ sgE false b) = decide (b ≤ a) := decide_eq_decide.2 (show -a ≤ -b ↔ b ≤ a by omega)
theorem reaches17_any (mx : Bool) (a b : Int) (w : World) :
    Calls Try.prog 54 #[.bool mx, .int .i64 a, .int .i64 b] w fun e w' => e = .returned (.bool (decide (sgE mx b ≤ sgE mx a))) ∧ w = w' := by
  cases mx
  · rw [sg_no]
    by_cases h : a ≤ b
    · rw [decide_eq_true h]
      have f : decide (a ≤ b) = true := decide_eq_true h
      go_enter Try.func54, Try.ntmps54
      go_wp2_with fail
      go_ret
      exact ⟨rfl, rfl⟩
    · rw [decide_eq_false h]
      have f : decide (a ≤ b) = false := decide_eq_false h
      go_enter Try.func54, Try.ntmps54
      go_wp2_with fail
      go_ret
      exact ⟨rfl, rfl⟩
  · rw [sg_yes]
    by_cases h : b ≤ a
    · rw [decide_eq_true h]
      have f : decide (b ≤ a) = true := decide_eq_true h
      go_enter Try.func54, Try.ntmps54
      go_wp2_with fail
      go_ret
      exact ⟨rfl, rfl⟩
    · rw [decide_eq_false h]
      have f : decide (b ≤ a) = false := decide_eq_false h
      go_enter Try.func54, Try.ntmps54
      go_wp2_with fail
      go_ret
      exact ⟨rfl, rfl⟩
set_option maxHeartbeats 4000000 in
set_option maxRecDepth 100000 in
theorem succeeds17_up (mx : Bool) (p0 p1 q0 q1 : Int) (w : World) :
    Calls Try.prog 43 #[.bool mx, .agg #[.int .i64 p0, .int .i64 p1], .agg #[.int .i64 q0, .int .i64 q1]] w fun e w' => e = .returned (.bool (prX mx (q0, q1) (p0, p1))) ∧ Up w w' := by
  have KR := Lib.hid (reaches17_any mx p1 q1)
  by_cases h : q0 < p0
  · have f : decide (q0 < p0) = true := decide_eq_true h
    have e : prX mx (q0, q1) (p0, p1) = !decide (sgE mx q1 ≤ sgE mx p1) := by
      unfold prX
      rw [← decide_not]
      exact decide_eq_decide.2 ⟨fun g => by have := g.2; simp only at this; omega, fun g => ⟨h, by simp only; omega⟩⟩
    rw [e]
    generalize decide (sgE mx q1 ≤ sgE mx p1) = r at *
    clear e h
    go_enter Try.func43, Try.ntmps43
    go_wp2_with (go_at_call 54; (with_reducible refine (KR.out _).mono ?_); rintro e w' ⟨rfl, rfl⟩)
    go_ret
    exact ⟨rfl, ((Up.refl w).alloc _ _).alloc _ _⟩
  · have f : decide (q0 < p0) = false := decide_eq_false h
    rw [show prX mx (q0, q1) (p0, p1) = false from decide_eq_false (fun g => h g.1)]
    clear h
    go_enter Try.func43, Try.ntmps43
    go_wp2_with fail
    go_ret
    exact ⟨rfl, ((Up.refl w).alloc _ _).alloc _ _⟩
set_option maxHeartbeats 4000000 in
set_option maxRecDepth 100000 in
theorem holding17_up (mx : Bool) (v c now : Int) (n k : Nat) (A : Option Addr) (n' k' : Nat) (B : Option Addr) (w : World) :
    Calls Try.prog 40 #[.agg #[.bool mx, .int .i64 v, .int .i64 c, .int .i64 now, .slice A n k], .slice B n' k'] w fun e w' => e = .returned (if (n' : Int) ≤ c then .tuple #[.agg #[.bool mx, .int .i64 v, .int .i64 c, .int .i64 now, .slice B n' k'], .int .i64 0] else .tuple #[.agg #[.bool false, .int .i64 0, .int .i64 0, .int .i64 0, .slice none 0 0], .int .i64 5]) ∧ Up w w' := by
  by_cases h : (n' : Int) ≤ c
  · rw [if_pos h]
    have f : decide (c < (n' : Int)) = false := decide_eq_false (by omega)
    go_enter Try.func40, Try.ntmps40
    go_wp2_with fail
    refine bodyPost_ret (v := .tuple #[.agg #[.bool mx, .int .i64 v, .int .i64 c, .int .i64 now, .slice B n' k'], .int .i64 0]) (by simp [results, Try.results40, go_sem]) rfl ⟨?_, ?_⟩
    · rfl
    · repeat (first | exact Up.refl _ | refine Up.alloc ?_ _ _ | refine Up.setCell ?_ (by first | (simp; done) | (simp; omega) | omega) _ | refine Up.drewN ?_ _ | refine Up.drew ?_)
  · rw [if_neg h]
    have f : decide (c < (n' : Int)) = true := decide_eq_true (by omega)
    go_enter Try.func40, Try.ntmps40
    go_wp2_with fail
    refine bodyPost_ret (v := .tuple #[.agg #[.bool false, .int .i64 0, .int .i64 0, .int .i64 0, .slice none 0 0], .int .i64 5]) (by simp [results, Try.results40, go_sem]) rfl ⟨?_, ?_⟩
    · rfl
    · repeat (first | exact Up.refl _ | refine Up.alloc ?_ _ _ | refine Up.setCell ?_ (by first | (simp; done) | (simp; omega) | omega) _ | refine Up.drewN ?_ _ | refine Up.drew ?_)
set_option maxHeartbeats 4000000 in
set_option maxRecDepth 100000 in
theorem new17_up (mx : Bool) (v c now : Int) (w : World) :
    Calls Try.prog 9 #[.bool mx, .int .i64 v, .int .i64 c, .int .i64 now] w fun e w' => RsX (nwX mx v c now) w e w' := by
  have KM := Lib.hid (sizes17_any v c now)
  unfold nwX
  cases h : mayB v c now
  · rw [h] at KM
    rw [if_neg (by decide)]
    clear h
    go_enter Try.func9, Try.ntmps9
    go_wp2_with (go_at_call 31; (with_reducible refine (KM.out _).mono ?_); rintro e w' ⟨rfl, rfl⟩)
    refine bodyPost_ret (v := .tuple #[.agg #[.bool false, .int .i64 0, .int .i64 0, .int .i64 0, .slice none 0 0], .int .i64 1]) (by simp [results, Try.results9, go_sem]) rfl (RsX.no rfl ?_)
    repeat (first | exact Up.refl _ | refine Up.alloc ?_ _ _ | refine Up.setCell ?_ (by first | (simp; done) | (simp; omega) | omega) _ | refine Up.drewN ?_ _ | refine Up.drew ?_)
  · rw [h] at KM
    rw [if_pos rfl]
    clear h
    go_enter Try.func9, Try.ntmps9
    go_wp2_with (go_at_call 31; (with_reducible refine (KM.out _).mono ?_); rintro e w' ⟨rfl, rfl⟩)
    refine bodyPost_ret (v := .tuple #[.agg #[.bool mx, .int .i64 v, .int .i64 c, .int .i64 now, .slice none 0 0], .int .i64 0]) (by simp [results, Try.results9, go_sem]) rfl (RsX.yes rfl ⟨Nat.le_refl _, fun _ _ q => (by cases q)⟩ Sl.none_ ?_)
    repeat (first | exact Up.refl _ | refine Up.alloc ?_ _ _ | refine Up.setCell ?_ (by first | (simp; done) | (simp; omega) | omega) _ | refine Up.drewN ?_ _ | refine Up.drew ?_)
end Go.Proofs.Ytfcknhpllhkpeaa
