/- The small functions of package buckets and of its reference. -/
import Derived.Test.YtnhekeohbnmodaaHMath
import Derived.Test.YtnhekeohbnmodaaCClock
namespace Go.Proofs.Ytnhekeohbnmodaa
open Go.RowKit

def kB (k : Int) : Bool := decide (1 ≤ k ∧ k ≤ 128)
def levB (l : Int) : Bool := decide (0 ≤ l ∧ l ≤ 30)
theorem kB_true {k : Int} (h : kB k = true) : 1 ≤ k ∧ k ≤ 128 := of_decide_eq_true h
theorem levB_true {k : Int} (h : levB k = true) : 0 ≤ k ∧ k ≤ 30 := of_decide_eq_true h
theorem kB_false {k : Int} (h : kB k = false) : ¬ (1 ≤ k ∧ k ≤ 128) := of_decide_eq_false h
theorem levB_false {k : Int} (h : levB k = false) : ¬ (0 ≤ k ∧ k ≤ 30) := of_decide_eq_false h
theorem isK_any (k : Int) (w : World) : Calls Try.prog 38 #[.int .i64 k] w fun e w' => e = .returned (.bool (kB k)) ∧ w = w' := by
  by_cases h1 : 1 ≤ k
  · by_cases h2 : k ≤ 128
    · rw [show kB k = true from decide_eq_true ⟨h1, h2⟩]
      go_enter Try.func38, Try.ntmps38
      go_wp2
      go_ret
      exact ⟨rfl, rfl⟩
    · rw [show kB k = false from decide_eq_false (fun h => h2 h.2)]
      go_enter Try.func38, Try.ntmps38
      go_wp2
      go_ret
      exact ⟨rfl, rfl⟩
  · rw [show kB k = false from decide_eq_false (fun h => h1 h.1)]
    go_enter Try.func38, Try.ntmps38
    go_wp2
    go_ret
    exact ⟨rfl, rfl⟩
theorem mayK_any (k : Int) (w : World) : Calls Try.prog 41 #[.int .i64 k] w fun e w' => e = .returned (.bool (kB k)) ∧ w = w' := by
  by_cases h1 : 1 ≤ k
  · by_cases h2 : k ≤ 128
    · rw [show kB k = true from decide_eq_true ⟨h1, h2⟩]
      go_enter Try.func41, Try.ntmps41
      go_wp2
      go_ret
      exact ⟨rfl, rfl⟩
    · rw [show kB k = false from decide_eq_false (fun h => h2 h.2)]
      go_enter Try.func41, Try.ntmps41
      go_wp2
      go_ret
      exact ⟨rfl, rfl⟩
  · rw [show kB k = false from decide_eq_false (fun h => h1 h.1)]
    go_enter Try.func41, Try.ntmps41
    go_wp2
    go_ret
    exact ⟨rfl, rfl⟩
theorem isTick10_any (k : Int) (w : World) : Calls Try.prog 64 #[.int .i64 k] w fun e w' => e = .returned (.bool (tickB k)) ∧ w = w' := by
  by_cases h1 : 0 ≤ k
  · by_cases h2 : k ≤ 16777216
    · rw [show tickB k = true from decide_eq_true ⟨h1, h2⟩]
      go_enter Try.func64, Try.ntmps64
      go_wp2
      go_ret
      exact ⟨rfl, rfl⟩
    · rw [show tickB k = false from decide_eq_false (fun h => h2 h.2)]
      go_enter Try.func64, Try.ntmps64
      go_wp2
      go_ret
      exact ⟨rfl, rfl⟩
  · rw [show tickB k = false from decide_eq_false (fun h => h1 h.1)]
    go_enter Try.func64, Try.ntmps64
    go_wp2
    go_ret
    exact ⟨rfl, rfl⟩
theorem isLevel_any (k : Int) (w : World) : Calls Try.prog 65 #[.int .i64 k] w fun e w' => e = .returned (.bool (levB k)) ∧ w = w' := by
  by_cases h1 : 0 ≤ k
  · by_cases h2 : k ≤ 30
    · rw [show levB k = true from decide_eq_true ⟨h1, h2⟩]
      go_enter Try.func65, Try.ntmps65
      go_wp2
      go_ret
      exact ⟨rfl, rfl⟩
    · rw [show levB k = false from decide_eq_false (fun h => h2 h.2)]
      go_enter Try.func65, Try.ntmps65
      go_wp2
      go_ret
      exact ⟨rfl, rfl⟩
  · rw [show levB k = false from decide_eq_false (fun h => h1 h.1)]
    go_enter Try.func65, Try.ntmps65
    go_wp2
    go_ret
    exact ⟨rfl, rfl⟩
theorem few10_any (n k : Nat) (A : Option Addr) (w : World) :
    Calls Try.prog 12 #[.slice A n k] w fun e w' => e = .returned (.bool (decide ((n : Int) ≤ 300))) ∧ w = w' := by
  go_enter Try.func12, Try.ntmps12
  go_wp2
  go_ret
  exact ⟨rfl, rfl⟩
theorem size_up (t l : Int) (w : World) :
    Calls Try.prog 43 #[.agg #[.int .i64 t, .int .i64 l]] w fun e w' => e = .returned (.int .i64 (szB l)) ∧ Up w w' := by
  have KL := Lib.hid (isLevel_any l)
  by_cases h : 0 ≤ l ∧ l ≤ 30
  · have e0 : szB l = 2 ^ l.toNat := by unfold szB; rw [if_pos h]
    have hl : levB l = true := decide_eq_true h
    rw [hl] at KL
    rw [e0]
    obtain ⟨h1, h2⟩ := h
    have HW : Hid (2 ^ l.toNat = wrap64 (2 ^ l.toNat)) := Lib.hid (by
      have p1 := pow_le30 (a := l.toNat) (by omega)
      have p2 := pwB1 l.toNat
      generalize (2 : Int) ^ l.toNat = z at *
      unfold wrap64; omega)
    clear hl
    go_enter Try.func43, Try.ntmps43
    go_wp2_with (go_at_call 65; (with_reducible refine (KL.out _).mono ?_); rintro e w' ⟨rfl, rfl⟩)
    go_ret
    refine ⟨?_, ?_⟩
    · simp [HW.out.symm]
    · repeat (first | exact Up.refl _ | refine Up.alloc ?_ _ _ | refine Up.setCell ?_ (by first | (simp; done) | (simp; omega) | omega) _ | refine Up.drewN ?_ _ | refine Up.drew ?_)
  · have e0 : szB l = 0 := by unfold szB; rw [if_neg h]
    have hl : levB l = false := decide_eq_false h
    rw [hl] at KL
    rw [e0]
    clear hl e0
    go_enter Try.func43, Try.ntmps43
    go_wp2_with (go_at_call 65; (with_reducible refine (KL.out _).mono ?_); rintro e w' ⟨rfl, rfl⟩)
    go_ret
    refine ⟨rfl, ?_⟩
    repeat (first | exact Up.refl _ | refine Up.alloc ?_ _ _ | refine Up.setCell ?_ (by first | (simp; done) | (simp; omega) | omega) _ | refine Up.drewN ?_ _ | refine Up.drew ?_)

/-- The tick of the last bucket. -/
def lstZ (L : List It) : Int := (L.getD (L.length - 1) (0, 0)).1
def folB (L : List It) (t : Int) : Bool := tickB t && (decide (L.length = 0) || decide (lstZ L ≤ t))
theorem rlast_any (n k : Nat) (A : Option Addr) (L : List It) (hn : n ≤ 1000000) (w : World) (hS : Sl w A n L) :
    Calls Try.prog 44 #[.slice A n k] w fun e w' => e = .returned (.int .i64 (lstZ L)) ∧ w = w' := by
  cases n with
  | zero =>
    have e : L = [] := List.eq_nil_of_length_eq_zero hS.1
    subst e
    rw [show lstZ [] = 0 from rfl]
    go_enter Try.func44, Try.ntmps44
    go_wp2
    go_ret
    exact ⟨rfl, rfl⟩
  | succ m =>
    have e0 : lstZ L = (L.getD m (0, 0)).1 := by unfold lstZ; rw [hS.1]; rfl
    obtain ⟨b, o, rfl, d0, d1⟩ := hS.at_ (show m < m + 1 by omega)
    rw [e0]
    clear e0 d1 hS
    generalize (L.getD m (0, 0)).1 = p0 at *
    have t1 : (((m : Int) + 1) == 0) = false := by simp; omega
    have t3 : (m : Int) < (m : Int) + 1 := by omega
    have t4 : (m : Int) + 1 - 1 = m := by omega
    go_enter Try.func44, Try.ntmps44
    go_wp2
    go_ret
    exact ⟨rfl, rfl⟩
theorem follows_any (n k : Nat) (A : Option Addr) (L : List It) (t : Int) (hn : n ≤ 1000000) (w : World) (hS : Sl w A n L) :
    Calls Try.prog 46 #[.slice A n k, .int .i64 t] w fun e w' => e = .returned (.bool (folB L t)) ∧ w = w' := by
  have KT := Lib.hid (isTick10_any t)
  cases ht : tickB t with
  | false =>
    rw [ht] at KT
    rw [show folB L t = false by unfold folB; rw [ht]; rfl]
    clear ht hS
    go_enter Try.func46, Try.ntmps46
    go_wp2_with (go_at_call 64; (with_reducible refine (KT.out _).mono ?_); rintro e w' ⟨rfl, rfl⟩)
    go_ret
    exact ⟨rfl, rfl⟩
  | true =>
  rw [ht] at KT
  cases n with
  | zero =>
    rw [show folB L t = true by unfold folB; rw [ht, hS.1]; rfl]
    clear ht hS
    go_enter Try.func46, Try.ntmps46
    go_wp2_with (go_at_call 64; (with_reducible refine (KT.out _).mono ?_); rintro e w' ⟨rfl, rfl⟩)
    go_ret
    exact ⟨rfl, rfl⟩
  | succ m =>
    have e0 : folB L t = decide ((L.getD m (0, 0)).1 ≤ t) := by
      unfold folB lstZ
      rw [ht, hS.1, decide_eq_false (p := m + 1 = 0) (by omega)]
      rfl
    obtain ⟨b, o, rfl, d0, d1⟩ := hS.at_ (show m < m + 1 by omega)
    rw [e0]
    clear e0 d1 hS ht
    generalize (L.getD m (0, 0)).1 = p0 at *
    have t1 : (((m : Int) + 1) == 0) = false := by simp; omega
    have t3 : (m : Int) < (m : Int) + 1 := by omega
    have t4 : (m : Int) + 1 - 1 = m := by omega
    go_enter Try.func46, Try.ntmps46
    go_wp2_with (go_at_call 64; (with_reducible refine (KT.out _).mono ?_); rintro e w' ⟨rfl, rfl⟩)
    go_ret
    exact ⟨rfl, rfl⟩
end Go.Proofs.Ytnhekeohbnmodaa
