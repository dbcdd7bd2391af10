/- Texts of these claims, one after the other. -/
import Derived.Test.YtjbgogajnjefmaaGreatZCClock
import Derived.Test.YtjbgogajnjefmaaGreatZGLawm3
import Derived.Test.YtjbgogajnjefmaaGreatZWKeepm7
import Derived.Test.YtjbgogajnjefmaaGreatZWMathm8
import Derived.Test.YtjbgogajnjefmaaGreatZWShortm3
namespace Go.Proofs.YtjbgogajnjefmaaGreat
open Go.RowKit

def kB (k : Int) : Bool := decide (1 ≤ k ∧ k ≤ 128)
def levB (l : Int) : Bool := decide (0 ≤ l ∧ l ≤ 30)
theorem kB_true {k : Int} (h : kB k = true) : 1 ≤ k ∧ k ≤ 128 := of_decide_eq_true h
theorem levB_true {k : Int} (h : levB k = true) : 0 ≤ k ∧ k ≤ 30 := of_decide_eq_true h
theorem isK_any (k : Int) (w : World) : Calls Tryz.prog 51 #[.int .i64 k] w fun e w' => e = .returned (.bool (kB k)) ∧ w = w' := by
  by_cases h1 : 1 ≤ k
  · by_cases h2 : k ≤ 128
    · rw [show kB k = true from decide_eq_true ⟨h1, h2⟩]
      go_enter Tryz.func51, Tryz.ntmps51
      go_wp2
      go_ret
      exact ⟨rfl, rfl⟩
    · rw [show kB k = false from decide_eq_false (fun h => h2 h.2)]
      go_enter Tryz.func51, Tryz.ntmps51
      go_wp2
      go_ret
      exact ⟨rfl, rfl⟩
  · rw [show kB k = false from decide_eq_false (fun h => h1 h.1)]
    go_enter Tryz.func51, Tryz.ntmps51
    go_wp2
    go_ret
    exact ⟨rfl, rfl⟩
theorem mayK_any (k : Int) (w : World) : Calls Tryz.prog 96 #[.int .i64 k] w fun e w' => e = .returned (.bool (kB k)) ∧ w = w' := by
  by_cases h1 : 1 ≤ k
  · by_cases h2 : k ≤ 128
    · rw [show kB k = true from decide_eq_true ⟨h1, h2⟩]
      go_enter Tryz.func96, Tryz.ntmps96
      go_wp2
      go_ret
      exact ⟨rfl, rfl⟩
    · rw [show kB k = false from decide_eq_false (fun h => h2 h.2)]
      go_enter Tryz.func96, Tryz.ntmps96
      go_wp2
      go_ret
      exact ⟨rfl, rfl⟩
  · rw [show kB k = false from decide_eq_false (fun h => h1 h.1)]
    go_enter Tryz.func96, Tryz.ntmps96
    go_wp2
    go_ret
    exact ⟨rfl, rfl⟩
theorem isTick10_any (k : Int) (w : World) : Calls Tryz.prog 84 #[.int .i64 k] w fun e w' => e = .returned (.bool (tickB k)) ∧ w = w' := by
  by_cases h1 : 0 ≤ k
  · by_cases h2 : k ≤ 16777216
    · rw [show tickB k = true from decide_eq_true ⟨h1, h2⟩]
      go_enter Tryz.func84, Tryz.ntmps84
      go_wp2
      go_ret
      exact ⟨rfl, rfl⟩
    · rw [show tickB k = false from decide_eq_false (fun h => h2 h.2)]
      go_enter Tryz.func84, Tryz.ntmps84
      go_wp2
      go_ret
      exact ⟨rfl, rfl⟩
  · rw [show tickB k = false from decide_eq_false (fun h => h1 h.1)]
    go_enter Tryz.func84, Tryz.ntmps84
    go_wp2
    go_ret
    exact ⟨rfl, rfl⟩
theorem isLevel_any (k : Int) (w : World) : Calls Tryz.prog 55 #[.int .i64 k] w fun e w' => e = .returned (.bool (levB k)) ∧ w = w' := by
  by_cases h1 : 0 ≤ k
  · by_cases h2 : k ≤ 30
    · rw [show levB k = true from decide_eq_true ⟨h1, h2⟩]
      go_enter Tryz.func55, Tryz.ntmps55
      go_wp2
      go_ret
      exact ⟨rfl, rfl⟩
    · rw [show levB k = false from decide_eq_false (fun h => h2 h.2)]
      go_enter Tryz.func55, Tryz.ntmps55
      go_wp2
      go_ret
      exact ⟨rfl, rfl⟩
  · rw [show levB k = false from decide_eq_false (fun h => h1 h.1)]
    go_enter Tryz.func55, Tryz.ntmps55
    go_wp2
    go_ret
    exact ⟨rfl, rfl⟩
theorem size_up (t l : Int) (w : World) :
    Calls Tryz.prog 28 #[.agg #[.int .i64 t, .int .i64 l]] w fun e w' => e = .returned (.int .i64 (szB l)) ∧ Up w w' := by
  have KL := Lib.hid (isLevel_any l)
  by_cases h : 0 ≤ l ∧ l ≤ 30
  · have e0 : szB l = 2 ^ l.toNat := by unfold szB; rw [if_pos h]
    have hl : levB l = true := decide_eq_true h
    rw [hl] at KL
    rw [e0]
    obtain ⟨h1, h2⟩ := h
    have HW : Hid (2 ^ l.toNat = wrap64 (2 ^ l.toNat)) := Lib.hid (by
      have p1 := pow_le30 (a := l.toNat) (by omega)
      have p2 := pwB1 l.toNat
      generalize (2 : Int) ^ l.toNat = z at *
      unfold wrap64; omega)
    clear hl
    go_enter Tryz.func28, Tryz.ntmps28
    go_wp2_with (go_at_call 55; (with_reducible refine (KL.out _).mono ?_); rintro e w' ⟨rfl, rfl⟩)
    go_ret
    refine ⟨?_, ?_⟩
    · simp [HW.out.symm]
    · repeat (first | exact Up.refl _ | refine Up.alloc ?_ _ _ | refine Up.setCell ?_ (by first | (simp; done) | (simp; omega) | omega) _ | refine Up.drewN ?_ _ | refine Up.drew ?_)
  · have e0 : szB l = 0 := by unfold szB; rw [if_neg h]
    have hl : levB l = false := decide_eq_false h
    rw [hl] at KL
    rw [e0]
    clear hl e0
    go_enter Tryz.func28, Tryz.ntmps28
    go_wp2_with (go_at_call 55; (with_reducible refine (KL.out _).mono ?_); rintro e w' ⟨rfl, rfl⟩)
    go_ret
    refine ⟨rfl, ?_⟩
    repeat (first | exact Up.refl _ | refine Up.alloc ?_ _ _ | refine Up.setCell ?_ (by first | (simp; done) | (simp; omega) | omega) _ | refine Up.drewN ?_ _ | refine Up.drew ?_)

/-- The tick of the last bucket. -/
def lstZ (L : List It) : Int := (L.getD (L.length - 1) (0, 0)).1
def folB (L : List It) (t : Int) : Bool := tickB t && (decide (L.length = 0) || decide (lstZ L ≤ t))
theorem follows_any (n k : Nat) (A : Option Addr) (L : List It) (t : Int) (hn : n ≤ 1000000) (w : World) (hS : Sl w A n L) :
    Calls Tryz.prog 56 #[.slice A n k, .int .i64 t] w fun e w' => e = .returned (.bool (folB L t)) ∧ w = w' := by
  have KT := Lib.hid (isTick10_any t)
  cases ht : tickB t with
  | false =>
    rw [ht] at KT
    rw [show folB L t = false by unfold folB; rw [ht]; rfl]
    clear ht hS
    go_enter Tryz.func56, Tryz.ntmps56
    go_wp2_with (go_at_call 84; (with_reducible refine (KT.out _).mono ?_); rintro e w' ⟨rfl, rfl⟩)
    go_ret
    exact ⟨rfl, rfl⟩
  | true =>
  rw [ht] at KT
  cases n with
  | zero =>
    rw [show folB L t = true by unfold folB; rw [ht, hS.1]; rfl]
    clear ht hS
    go_enter Tryz.func56, Tryz.ntmps56
    go_wp2_with (go_at_call 84; (with_reducible refine (KT.out _).mono ?_); rintro e w' ⟨rfl, rfl⟩)
    go_ret
    exact ⟨rfl, rfl⟩
  | succ m =>
    have e0 : folB L t = decide ((L.getD m (0, 0)).1 ≤ t) := by
      unfold folB lstZ
      rw [ht, hS.1, decide_eq_false (p := m + 1 = 0) (by omega)]
      rfl
    obtain ⟨b, o, rfl, d0, d1⟩ := hS.at_ (show m < m + 1 by omega)
    rw [e0]
    clear e0 d1 hS ht
    generalize (L.getD m (0, 0)).1 = p0 at *
    have t1 : (((m : Int) + 1) == 0) = false := by simp; omega
    have t3 : (m : Int) < (m : Int) + 1 := by omega
    have t4 : (m : Int) + 1 - 1 = m := by omega
    go_enter Tryz.func56, Tryz.ntmps56
    go_wp2_with (go_at_call 84; (with_reducible refine (KT.out _).mono ?_); rintro e w' ⟨rfl, rfl⟩)
    go_ret
    exact ⟨rfl, rfl⟩
end Go.Proofs.YtjbgogajnjefmaaGreat

namespace Go.Proofs.YtjbgogajnjefmaaGreat
open Go.RowKit

def mayB (v c now : Int) : Bool := (tickB now && winB v) && decide (1 ≤ c ∧ c ≤ 65536)
theorem mayB_true {v c now : Int} (h : mayB v c now = true) : tickB now = true ∧ winB v = true ∧ 1 ≤ c ∧ c ≤ 65536 := by
  unfold mayB at h
  simp only [Bool.and_eq_true, decide_eq_true_eq] at h
  exact ⟨h.1.1, h.1.2, h.2⟩
theorem rmay_any (v c now : Int) (w : World) :
    Calls Tryz.prog 70 #[.int .i64 v, .int .i64 c, .int .i64 now] w fun e w' => e = .returned (.bool (mayB v c now)) ∧ w = w' := by
  have KT := Lib.hid (rtick_any now)
  have KW := Lib.hid (rwin_any v)
  cases hv : winB v with
  | false =>
    have e0 : mayB v c now = false := by unfold mayB; rw [hv, Bool.and_false]; rfl
    rw [e0]
    rw [hv] at KW
    clear hv e0
    go_enter Tryz.func70, Tryz.ntmps70
    go_wp2_with (go_at_call 94; (with_reducible refine (KW.out _).mono ?_); rintro e w' ⟨rfl, rfl⟩)
    go_ret
    exact ⟨rfl, rfl⟩
  | true =>
    rw [hv] at KW
    have e0 : mayB v c now = (tickB now && decide (1 ≤ c ∧ c ≤ 65536)) := by unfold mayB; rw [hv, Bool.and_true]
    rw [e0]
    clear hv e0
    generalize tickB now = t at *
    by_cases h1 : 1 ≤ c
    · by_cases h2 : c ≤ 65536
      · rw [decide_eq_true (p := 1 ≤ c ∧ c ≤ 65536) ⟨h1, h2⟩]
        go_enter Tryz.func70, Tryz.ntmps70
        go_wp2_with (first | (go_at_call 95; (with_reducible refine (KT.out _).mono ?_); rintro e w' ⟨rfl, rfl⟩) | (go_at_call 94; (with_reducible refine (KW.out _).mono ?_); rintro e w' ⟨rfl, rfl⟩))
        go_ret
        exact ⟨by cases t <;> rfl, rfl⟩
      · rw [decide_eq_false (p := 1 ≤ c ∧ c ≤ 65536) (fun h => h2 h.2), Bool.and_false]
        have t2 : decide (c ≤ 65536) = false := decide_eq_false h2
        go_enter Tryz.func70, Tryz.ntmps70
        go_wp2_with (first | (go_at_call 95; (with_reducible refine (KT.out _).mono ?_); rintro e w' ⟨rfl, rfl⟩) | (go_at_call 94; (with_reducible refine (KW.out _).mono ?_); rintro e w' ⟨rfl, rfl⟩))
        go_ret
        exact ⟨rfl, rfl⟩
    · rw [decide_eq_false (p := 1 ≤ c ∧ c ≤ 65536) (fun h => h1 h.1), Bool.and_false]
      go_enter Tryz.func70, Tryz.ntmps70
      go_wp2_with (first | (go_at_call 95; (with_reducible refine (KT.out _).mono ?_); rintro e w' ⟨rfl, rfl⟩) | (go_at_call 94; (with_reducible refine (KW.out _).mono ?_); rintro e w' ⟨rfl, rfl⟩))
      go_ret
      exact ⟨rfl, rfl⟩

end Go.Proofs.YtjbgogajnjefmaaGreat
