/- What Validate of package halve and of its reference returns. -/
import Derived.Test.YtegaeaonoggmkaaRows
import Derived.Test.YtegaeaonoggmkaaZOBaseq91
namespace Go.Proofs.Ytegaeaonoggmkaa
open Go.RowKit
set_option linter.unusedVariables false

/-- One sum of a valid state. -/
def okE (now : Int) (i : Nat) (x : Int) : Bool := decide (0 ≤ x ∧ x ≤ 1099511627776 ∧ (now < (i : Int) → x = 0))
theorem stHE_bad {now : Int} {S : List Int} {i : Nat} (hi : i < S.length) (h : okE now i (S.getD i 0) = false) : stHE now S = 2 := by
  unfold stHE
  rw [if_neg]
  intro g
  have := (stH_iff.1 g).2.2 i hi
  rw [show okE now i (S.getD i 0) = true from decide_eq_true this] at h
  cases h
theorem stHE_good {now : Int} {S : List Int} (h1 : 1 ≤ S.length ∧ S.length ≤ 64) (h2 : 0 ≤ now ∧ now ≤ 16777216) (h : ∀ i, i < S.length → okE now i (S.getD i 0) = true) : stHE now S = 0 := by
  unfold stHE
  rw [if_pos]
  exact stH_iff.2 ⟨h1, h2, fun e he => of_decide_eq_true (h e he)⟩
theorem stHE_len {now : Int} {S : List Int} (h : ¬ (1 ≤ S.length ∧ S.length ≤ 64)) : stHE now S = 2 := by
  unfold stHE; rw [if_neg (fun g => h (stH_iff.1 g).1)]
theorem stHE_now {now : Int} {S : List Int} (h : ¬ (0 ≤ now ∧ now ≤ 16777216)) : stHE now S = 2 := by
  unfold stHE; rw [if_neg (fun g => h (stH_iff.1 g).2.1)]
set_option maxHeartbeats 4000000 in
set_option maxRecDepth 100000 in
theorem validate16_up (now : Int) (n k : Nat) (A : Option Addr) (S : List Int) (hn : n ≤ 100000) (hI : ∀ x ∈ S, In x) (hc : In now) (w : World) (hS : Sn w A n S) :
    Calls Try.prog 20 #[.agg #[.int .i64 now, .slice A n k]] w fun e w' => e = .returned (.int .i64 (stHE now S)) ∧ Up w w' := by
  have KT := Lib.hid (isTick16_any now)
  have hX := hS.1
  have KL := Lib.hid (isLength16_any n)
  by_cases hl : 1 ≤ (n : Int) ∧ (n : Int) ≤ 64
  case neg =>
    rw [stHE_len (by rw [hX]; omega)]
    rw [show decide (1 ≤ (n : Int) ∧ (n : Int) ≤ 64) = false from decide_eq_false hl] at KL
    clear hl hS hI
    go_enter Try.func20, Try.ntmps20
    go_wp2_with (first  | (go_at_call 29; (with_reducible refine (KL.out _).mono ?_); rintro e w' ⟨rfl, rfl⟩)  | (go_at_call 30; (with_reducible refine (KT.out _).mono ?_); rintro e w' ⟨rfl, rfl⟩))
    go_ret
    exact ⟨rfl, (Up.refl w).alloc _ _⟩
  rw [show decide (1 ≤ (n : Int) ∧ (n : Int) ≤ 64) = true from decide_eq_true hl] at KL
  by_cases ht : 0 ≤ now ∧ now ≤ 16777216
  case neg =>
    rw [stHE_now ht]
    rw [show decide (0 ≤ now ∧ now ≤ 16777216) = false from decide_eq_false ht] at KT
    clear hl ht hS hI
    go_enter Try.func20, Try.ntmps20
    go_wp2_with (first  | (go_at_call 29; (with_reducible refine (KL.out _).mono ?_); rintro e w' ⟨rfl, rfl⟩)  | (go_at_call 30; (with_reducible refine (KT.out _).mono ?_); rintro e w' ⟨rfl, rfl⟩))
    go_ret
    exact ⟨rfl, (Up.refl w).alloc _ _⟩
  rw [show decide (0 ≤ now ∧ now ≤ 16777216) = true from decide_eq_true ht] at KT
  have HL := Lib.hid hX
  have HS := Lib.hid hS
  have HI := Lib.hid hI
  have HB := Lib.hid (fun i (hi : i < S.length) h => stHE_bad (now := now) (S := S) hi h)
  have HT := Lib.hid (fun h => stHE_good (now := now) (S := S) ⟨by omega, by omega⟩ ht h)
  have hn6 : n ≤ 64 := by omega
  generalize stHE now S = r at HB HT ⊢
  clear hS hI hX hl ht
  go_enter Try.func20, Try.ntmps20
  go_wp2_with (first  | (go_at_call 29; (with_reducible refine (KL.out _).mono ?_); rintro e w' ⟨rfl, rfl⟩)  | (go_at_call 30; (with_reducible refine (KT.out _).mono ?_); rintro e w' ⟨rfl, rfl⟩))
  go_loopw [19] (fun t wr => ∃ i : Nat, t = .int .i64 i ∧ i ≤ n ∧ Hid (∀ j, j < i → okE now j (S.getD j 0) = true) ∧ Hid (Up (w.alloc (.cells #[.int .i64 now, .slice A n k] 24)) wr)) (fun t _ => n - (intOf t).toNat)
  case atStart => exact ⟨0, rfl, Nat.zero_le _, Lib.hid (fun j hj => absurd hj (Nat.not_lt_zero _)), Lib.hid (Up.refl _)⟩
  case round =>
    obtain ⟨i, rfl, hin, HP, HW⟩ := hrel
    obtain ⟨Ur, Er⟩ := call1 w HW.out
    by_cases hi : i < n
    case neg =>
      obtain rfl : r = 0 := HT.out (fun j hj => HP.out j (by have := HL.out; omega))
      obtain rfl : i = n := by omega
      have g1 : decide ((i : Int) < i) = false := decide_eq_false (by omega)
      clear HT HB HP
      go_wp2_with fail
      go_ret
      exact ⟨rfl, Ur.out⟩
    obtain ⟨b, o, rfl, x0⟩ := (HS.out.up Ur.out).one hi
    have hb : b < wr.heap.size := World.block_lt_of_cell? _ _ x0
    have HX : Hid (okE now i (S.getD i 0) = false → r = 2) := Lib.hid (HB.out i (by have := HL.out; omega))
    have HA : Hid (okE now i (S.getD i 0) = true → ∀ j, j < i + 1 → okE now j (S.getD j 0) = true) := Lib.hid (fun h j hj => by
      rcases Nat.lt_or_ge j i with y | y
      · exact HP.out j y
      · obtain rfl : j = i := by omega
        exact h)
    generalize S.getD i 0 = a at *
    have g2 : (i : Int) < n := by omega
    have g3 : (0 : Int) ≤ i := by omega
    clear HB HT HP
    have KU := Lib.hid (isTotal16_any a)
    by_cases h1 : 0 ≤ a ∧ a ≤ 1099511627776
    case neg =>
      rw [show decide (0 ≤ a ∧ a ≤ 1099511627776) = false from decide_eq_false h1] at KU
      have f9 : okE now i a = false := decide_eq_false (fun g => by omega)
      obtain rfl : r = 2 := HX.out f9
      go_wp2_with (go_at_call 45; (with_reducible refine (KU.out _).mono ?_); rintro e w' ⟨rfl, rfl⟩)
      go_ret
      exact ⟨rfl, Ur.out⟩
    rw [show decide (0 ≤ a ∧ a ≤ 1099511627776) = true from decide_eq_true h1] at KU
    by_cases h3 : now < (i : Int)
    case neg =>
      have t3 : decide (now < (i : Int)) = false := decide_eq_false h3
      have f9 : okE now i a = true := decide_eq_true (by omega)
      go_wp2_with (go_at_call 45; (with_reducible refine (KU.out _).mono ?_); rintro e w' ⟨rfl, rfl⟩)
      go_roundw
      case rel => exact ⟨i + 1, by go_num, by omega, Lib.hid (HA.out f9), HW⟩
      case measure => simp [intOf]; omega
    have t3 : decide (now < (i : Int)) = true := decide_eq_true h3
    by_cases h4 : a = 0
    case neg =>
      have t4 : (a != 0) = true := by simp [h4]
      have f9 : okE now i a = false := decide_eq_false (fun g => by omega)
      obtain rfl : r = 2 := HX.out f9
      go_wp2_with (go_at_call 45; (with_reducible refine (KU.out _).mono ?_); rintro e w' ⟨rfl, rfl⟩)
      go_ret
      exact ⟨rfl, Ur.out⟩
    subst h4
    have t4 : ((0 : Int) != 0) = false := by decide
    have f9 : okE now i 0 = true := decide_eq_true (by omega)
    go_wp2_with (go_at_call 45; (with_reducible refine (KU.out _).mono ?_); rintro e w' ⟨rfl, rfl⟩)
    go_roundw
    case rel => exact ⟨i + 1, by go_num, by omega, Lib.hid (HA.out f9), HW⟩
    case measure => simp [intOf]; omega
end Go.Proofs.Ytegaeaonoggmkaa
