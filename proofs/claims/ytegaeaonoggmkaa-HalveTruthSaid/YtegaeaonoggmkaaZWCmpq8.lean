/- Texts of these claims, one after the other. -/
import Derived.Test.YtegaeaonoggmkaaRows
import Derived.Test.YtegaeaonoggmkaaZWAddq6
import Derived.Test.YtegaeaonoggmkaaZWFormatq9
namespace Go.Proofs.Ytegaeaonoggmkaa
open Go.RowKit

theorem rof_up (n : Int) (w : World) : Calls Try.prog 43 #[.int .u64 n] w fun e w' => e = .returned (.agg #[.int .u64 0, .int .u64 n]) ∧ Up w w' := by
  go_enter Try.func43, Try.ntmps43
  go_wp2
  refine bodyPost_ret (v := .agg #[.int .u64 0, .int .u64 n]) (by simp [results, Try.results43, go_sem]) rfl ⟨?_, ?_⟩
  · rfl
  · repeat (first | exact Up.refl _ | refine Up.alloc ?_ _ _ | refine Up.setCell ?_ (by first | (simp; done) | (simp; omega) | omega) _ | refine Up.drewN ?_ _ | refine Up.drew ?_)

end Go.Proofs.Ytegaeaonoggmkaa

namespace Go.Proofs.Ytegaeaonoggmkaa

theorem term_bd {a e : Nat} {s : Int} (ha : a ≤ 64) (h0 : 0 ≤ s) (h1 : s ≤ 1099511627776) : 0 ≤ s * 2 ^ (a - 1 - e) ∧ s * 2 ^ (a - 1 - e) ≤ 10141204801825835211973625643008 := by
  have h2 := two_pow_le (show a - 1 - e ≤ 63 by omega)
  have h3 := two_pow_nn (a - 1 - e)
  have h4 := Int.mul_le_mul h1 h2 (by omega) (by omega)
  refine ⟨Int.mul_nonneg h0 (by omega), Int.le_trans h4 (by decide)⟩
end Go.Proofs.Ytegaeaonoggmkaa

namespace Go.Proofs.Ytegaeaonoggmkaa
open Go.RowKit

/-- A tick; the width of a window; the first tick of a window, or -1; whether a tick is live. -/
def tickB (t : Int) : Bool := decide (0 ≤ t ∧ t ≤ 16777216)
def winB (v : Int) : Bool := decide (1 ≤ v ∧ v ≤ 1048576)
def firZ (now v : Int) : Int := if (tickB now && winB v) = true then max 0 (now - v + 1) else -1
def liveB (now v t : Int) : Bool := tickB now && winB v && decide (firZ now v ≤ t) && decide (t ≤ now)
theorem tickB_yes {t : Int} (h : 0 ≤ t) (k : t ≤ 16777216) : tickB t = true := decide_eq_true ⟨h, k⟩
theorem tickB_low {t : Int} (h : t < 0) : tickB t = false := decide_eq_false (by omega)
theorem tickB_high {t : Int} (h : 16777216 < t) : tickB t = false := decide_eq_false (by omega)
theorem tickB_true {t : Int} (h : tickB t = true) : 0 ≤ t ∧ t ≤ 16777216 := of_decide_eq_true h
theorem winB_true {t : Int} (h : winB t = true) : 1 ≤ t ∧ t ≤ 1048576 := of_decide_eq_true h
theorem firZ_yes {now v : Int} (h : (tickB now && winB v) = true) : firZ now v = max 0 (now - v + 1) := by unfold firZ; rw [if_pos h]
theorem isTick_any (t : Int) (w : World) :
    Calls Try.prog 47 #[.int .i64 t] w fun e w' => e = .returned (.bool (tickB t)) ∧ w = w' := by
  by_cases h : 0 ≤ t
  · by_cases k : t ≤ 16777216
    · rw [tickB_yes h k]
      go_enter Try.func47, Try.ntmps47
      go_wp2
      go_ret
      exact ⟨rfl, rfl⟩
    · rw [tickB_high (by omega)]
      go_enter Try.func47, Try.ntmps47
      go_wp2
      go_ret
      exact ⟨rfl, rfl⟩
  · rw [tickB_low (by omega)]
    go_enter Try.func47, Try.ntmps47
    go_wp2
    go_ret
    exact ⟨rfl, rfl⟩
theorem rtick_any (t : Int) (w : World) :
    Calls Try.prog 31 #[.int .i64 t] w fun e w' => e = .returned (.bool (tickB t)) ∧ w = w' := by
  by_cases h : 0 ≤ t
  · by_cases k : t ≤ 16777216
    · rw [tickB_yes h k]
      go_enter Try.func31, Try.ntmps31
      go_wp2
      go_ret
      exact ⟨rfl, rfl⟩
    · rw [tickB_high (by omega)]
      go_enter Try.func31, Try.ntmps31
      go_wp2
      go_ret
      exact ⟨rfl, rfl⟩
  · rw [tickB_low (by omega)]
    go_enter Try.func31, Try.ntmps31
    go_wp2
    go_ret
    exact ⟨rfl, rfl⟩
theorem advance_any (now td x e : Int) (hx : (if tickB now = true then (if td < now ∨ 16777216 < td then (0, 3) else (td, 0)) else (0, 1)) = (x, e)) (w : World) :
    Calls Try.prog 33 #[.int .i64 now, .int .i64 td] w fun r w' => r = .returned (.tuple #[.int .i64 x, .int .i64 e]) ∧ w = w' := by
  have KT := Lib.hid (isTick_any now)
  cases ht : tickB now with
  | false =>
    rw [ht] at KT hx
    simp only [Bool.false_eq_true, if_false, Prod.mk.injEq] at hx
    obtain ⟨rfl, rfl⟩ := hx
    clear ht
    go_enter Try.func33, Try.ntmps33
    go_wp2_with (go_at_call 47; (with_reducible refine (KT.out _).mono ?_); rintro e w' ⟨rfl, rfl⟩)
    go_ret2
    exact ⟨rfl, rfl⟩
  | true =>
    rw [ht] at KT hx
    clear ht
    rw [if_pos rfl] at hx
    by_cases h : td < now
    · rw [if_pos (Or.inl h), Prod.mk.injEq] at hx
      obtain ⟨rfl, rfl⟩ := hx
      go_enter Try.func33, Try.ntmps33
      go_wp2_with (go_at_call 47; (with_reducible refine (KT.out _).mono ?_); rintro e w' ⟨rfl, rfl⟩)
      go_ret2
      exact ⟨rfl, rfl⟩
    · by_cases k : 16777216 < td
      · rw [if_pos (Or.inr k), Prod.mk.injEq] at hx
        obtain ⟨rfl, rfl⟩ := hx
        go_enter Try.func33, Try.ntmps33
        go_wp2_with (go_at_call 47; (with_reducible refine (KT.out _).mono ?_); rintro e w' ⟨rfl, rfl⟩)
        go_ret2
        exact ⟨rfl, rfl⟩
      · rw [if_neg (by omega), Prod.mk.injEq] at hx
        obtain ⟨rfl, rfl⟩ := hx
        go_enter Try.func33, Try.ntmps33
        go_wp2_with (go_at_call 47; (with_reducible refine (KT.out _).mono ?_); rintro e w' ⟨rfl, rfl⟩)
        go_ret2
        exact ⟨rfl, rfl⟩

theorem liveB_yes {now v t : Int} (h : (tickB now && winB v) = true) : liveB now v t = (decide (firZ now v ≤ t) && decide (t ≤ now)) := by unfold liveB; rw [h]; rfl
end Go.Proofs.Ytegaeaonoggmkaa
