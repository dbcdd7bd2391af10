/- What Validate of package halve and of its reference returns. -/
import Derived.Test.YtegaeaonoggmkaaRows
import Derived.Test.YtegaeaonoggmkaaZOValq93
namespace Go.Proofs.Ytegaeaonoggmkaa
open Go.RowKit
set_option linter.unusedVariables false

set_option maxHeartbeats 4000000 in
set_option maxRecDepth 100000 in
theorem rvalidate16_up (now : Int) (n k : Nat) (A : Option Addr) (S : List Int) (hn : n ≤ 100000) (hI : ∀ x ∈ S, In x) (hc : In now) (w : World) (hS : Sn w A n S) :
    Calls Try.prog 21 #[.agg #[.int .i64 now, .slice A n k]] w fun e w' => e = .returned (.int .i64 (stHE now S)) ∧ Up w w' := by
  have KT := Lib.hid (rtick_any now)
  have hX := hS.1
  by_cases hl : 1 ≤ (n : Int) ∧ (n : Int) ≤ 64
  case neg =>
    rw [stHE_len (by rw [hX]; omega)]
    rcases (show (n : Int) < 1 ∨ (1 ≤ (n : Int) ∧ 64 < (n : Int)) by omega) with h | ⟨h0, h⟩
    all_goals
      clear hl hS hI
      try (have f1 : decide ((n : Int) < 1) = true := decide_eq_true (by omega); have f2 : decide (n < 1) = true := decide_eq_true (by omega))
      try (have f1 : decide ((n : Int) < 1) = false := decide_eq_false (by omega); have f2 : decide (n < 1) = false := decide_eq_false (by omega); have f3 : decide (64 < (n : Int)) = true := decide_eq_true (by omega); have f4 : decide (64 < n) = true := decide_eq_true (by omega))
      go_enter Try.func21, Try.ntmps21
      go_wp2_with fail
      go_ret
      exact ⟨rfl, (Up.refl w).alloc _ _⟩
  have f1 : decide ((n : Int) < 1) = false := decide_eq_false (by omega)
  have f2 : decide (n < 1) = false := decide_eq_false (by omega)
  have f3 : decide (64 < (n : Int)) = false := decide_eq_false (by omega)
  have f4 : decide (64 < n) = false := decide_eq_false (by omega)
  by_cases ht : 0 ≤ now ∧ now ≤ 16777216
  case neg =>
    rw [stHE_now ht]
    rw [show tickB now = false from decide_eq_false ht] at KT
    clear hl ht hS hI
    go_enter Try.func21, Try.ntmps21
    go_wp2_with (go_at_call 31; (with_reducible refine (KT.out _).mono ?_); rintro e w' ⟨rfl, rfl⟩)
    go_ret
    exact ⟨rfl, (Up.refl w).alloc _ _⟩
  rw [show tickB now = true from decide_eq_true ht] at KT
  have HL := Lib.hid hX
  have HS := Lib.hid hS
  have HI := Lib.hid hI
  have HB := Lib.hid (fun i (hi : i < S.length) h => stHE_bad (now := now) (S := S) hi h)
  have HT := Lib.hid (fun h => stHE_good (now := now) (S := S) ⟨by omega, by omega⟩ ht h)
  have hn6 : n ≤ 64 := by omega
  generalize stHE now S = r at HB HT ⊢
  clear hS hI hX hl ht
  go_enter Try.func21, Try.ntmps21
  go_wp2_with (go_at_call 31; (with_reducible refine (KT.out _).mono ?_); rintro e w' ⟨rfl, rfl⟩)
  go_loopw [24] (fun t wr => ∃ i : Nat, t = .int .i64 i ∧ i ≤ n ∧ Hid (∀ j, j < i → okE now j (S.getD j 0) = true) ∧ Hid (Up (w.alloc (.cells #[.int .i64 now, .slice A n k] 24)) wr)) (fun t _ => n - (intOf t).toNat)
  case atStart => exact ⟨0, rfl, Nat.zero_le _, Lib.hid (fun j hj => absurd hj (Nat.not_lt_zero _)), Lib.hid (Up.refl _)⟩
  case round =>
    obtain ⟨i, rfl, hin, HP, HW⟩ := hrel
    obtain ⟨Ur, Er⟩ := call1 w HW.out
    by_cases hi : i < n
    case neg =>
      obtain rfl : r = 0 := HT.out (fun j hj => HP.out j (by have := HL.out; omega))
      obtain rfl : i = n := by omega
      have g1 : decide ((i : Int) < i) = false := decide_eq_false (by omega)
      clear HT HB HP
      go_wp2_with fail
      go_ret
      exact ⟨rfl, Ur.out⟩
    obtain ⟨b, o, rfl, x0⟩ := (HS.out.up Ur.out).one hi
    have hb : b < wr.heap.size := World.block_lt_of_cell? _ _ x0
    have HX : Hid (okE now i (S.getD i 0) = false → r = 2) := Lib.hid (HB.out i (by have := HL.out; omega))
    have HA : Hid (okE now i (S.getD i 0) = true → ∀ j, j < i + 1 → okE now j (S.getD j 0) = true) := Lib.hid (fun h j hj => by
      rcases Nat.lt_or_ge j i with y | y
      · exact HP.out j y
      · obtain rfl : j = i := by omega
        exact h)
    generalize S.getD i 0 = a at *
    have g2 : (i : Int) < n := by omega
    have g3 : (0 : Int) ≤ i := by omega
    clear HB HT HP
    by_cases h1 : a < 0
    case pos =>
      have f9 : okE now i a = false := decide_eq_false (fun g => by omega)
      obtain rfl : r = 2 := HX.out f9
      go_wp2_with fail
      go_ret
      exact ⟨rfl, Ur.out⟩
    by_cases h2 : 1099511627776 < a
    case pos =>
      have t1 : decide (a < 0) = false := decide_eq_false h1
      have f9 : okE now i a = false := decide_eq_false (fun g => by omega)
      obtain rfl : r = 2 := HX.out f9
      go_wp2_with fail
      go_ret
      exact ⟨rfl, Ur.out⟩
    have t1 : decide (a < 0) = false := decide_eq_false h1
    have t2 : decide (1099511627776 < a) = false := decide_eq_false h2
    by_cases h3 : now < (i : Int)
    case neg =>
      have t3 : decide (now < (i : Int)) = false := decide_eq_false h3
      have f9 : okE now i a = true := decide_eq_true (by omega)
      go_wp2_with fail
      go_roundw
      case rel => exact ⟨i + 1, by go_num, by omega, Lib.hid (HA.out f9), HW⟩
      case measure => simp [intOf]; omega
    have t3 : decide (now < (i : Int)) = true := decide_eq_true h3
    by_cases h4 : a = 0
    case neg =>
      have t4 : (a != 0) = true := by simp [h4]
      have f9 : okE now i a = false := decide_eq_false (fun g => by omega)
      obtain rfl : r = 2 := HX.out f9
      go_wp2_with fail
      go_ret
      exact ⟨rfl, Ur.out⟩
    subst h4
    have t4 : ((0 : Int) != 0) = false := by decide
    have f9 : okE now i 0 = true := decide_eq_true (by omega)
    go_wp2_with fail
    go_roundw
    case rel => exact ⟨i + 1, by go_num, by omega, Lib.hid (HA.out f9), HW⟩
    case measure => simp [intOf]; omega
end Go.Proofs.Ytegaeaonoggmkaa
