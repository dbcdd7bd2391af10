/- What Valid and Live of package exact and of its reference return. -/
import Derived.Test.YtfcknhpllhkpeaaRows
import Derived.Test.YtfcknhpllhkpeaaZCClockq32
import Derived.Test.YtfcknhpllhkpeaaZESqq26
namespace Go.Proofs.Ytfcknhpllhkpeaa
open Go.RowKit

/-- What is asked of the item at place j. -/
def goodI (L : List It) (now : Int) (j : Nat) : Prop := 0 ≤ (L.getD j (0, 0)).1 ∧ (L.getD j (0, 0)).1 ≤ now ∧ (0 < j → (L.getD (j - 1) (0, 0)).1 ≤ (L.getD j (0, 0)).1)
instance (L : List It) (now : Int) (j : Nat) : Decidable (goodI L now j) := by unfold goodI; infer_instance
def valB (L : List It) (now : Int) : Bool := tickB now && decide (∀ j, j < L.length → goodI L now j)
theorem valB_no {L : List It} {now : Int} (h : tickB now = false) : valB L now = false := by unfold valB; rw [h]; rfl
theorem valB_bad {L : List It} {now : Int} {j : Nat} (hj : j < L.length) (h : ¬ goodI L now j) : valB L now = false := by
  unfold valB; rw [decide_eq_false (fun hp => h (hp j hj)), Bool.and_false]
theorem valB_good {L : List It} {now : Int} (ht : tickB now = true) (h : ∀ j, j < L.length → goodI L now j) : valB L now = true := by
  unfold valB; rw [ht, decide_eq_true h]; rfl
set_option maxHeartbeats 4000000 in
set_option maxRecDepth 100000 in
theorem rvalid8_up (n k : Nat) (A : Option Addr) (L : List It) (now : Int) (hn : n ≤ 1000000) (w : World) (hS : Sl w A n L) :
    Calls Try.prog 53 #[.slice A n k, .int .i64 now] w fun e w' => e = .returned (.bool (valB L now)) ∧ Up w w' := by
  have KT := Lib.hid (rtick_any now)
  cases ht : tickB now with
  | false =>
    rw [valB_no ht]
    rw [ht] at KT
    clear ht hS
    go_enter Try.func53, Try.ntmps53
    go_wp2_with fail
    refine (KT.out _).mono ?_
    rintro e w' ⟨rfl, rfl⟩
    go_wp2_with fail
    go_ret
    exact ⟨rfl, Up.refl _⟩
  | true =>
  rw [ht] at KT
  have HT := Lib.hid ht
  have HL := Lib.hid hS.1
  have HS := Lib.hid hS
  clear hS ht
  generalize hr : valB L now = r
  have HR := Lib.hid hr
  clear hr
  go_enter Try.func53, Try.ntmps53
  go_wp2_with fail
  refine (KT.out _).mono ?_
  rintro e w' ⟨rfl, rfl⟩
  go_wp2_with fail
  go_loopw [12] (fun t wr => ∃ i : Nat, t = .int .i64 i ∧ i ≤ n ∧ Hid (∀ j, j < i → goodI L now j) ∧ Up w wr) (fun t _ => n - (intOf t).toNat)
  case atStart => exact ⟨0, rfl, Nat.zero_le _, Lib.hid (fun j hj => absurd hj (Nat.not_lt_zero _)), Up.refl _⟩
  case round =>
    obtain ⟨i, rfl, hin, HG, hU⟩ := hrel
    have HU := Lib.hid hU
    clear hU
    by_cases hi : i < n
    · obtain ⟨b, o, rfl, d0, d1⟩ := (HS.out.up HU.out).at_ hi
      have hil : i < L.length := by rw [HL.out]; exact hi
      have f2 : (i : Int) < n := by omega
      have f3 : (0 : Int) ≤ i := by omega
      by_cases h1 : (L.getD i (0, 0)).1 < 0
      · obtain rfl : r = false := by rw [← HR.out]; exact valB_bad hil (fun h => by have := h.1; omega)
        have t1 : decide ((L.getD i (0, 0)).1 < 0) = true := decide_eq_true h1
        generalize (L.getD i (0, 0)).1 = p0 at *
        generalize (L.getD i (0, 0)).2 = p1 at *
        clear HR HG
        go_wp2_with fail
        go_quiet (fail)
        go_wp2_with fail
        go_ret
        exact ⟨rfl, (HU.out.alloc _ _).drewN _⟩
      by_cases h2 : now < (L.getD i (0, 0)).1
      · obtain rfl : r = false := by rw [← HR.out]; exact valB_bad hil (fun h => by have := h.2.1; omega)
        have t1 : decide ((L.getD i (0, 0)).1 < 0) = false := decide_eq_false h1
        have t2 : decide (now < (L.getD i (0, 0)).1) = true := decide_eq_true h2
        generalize (L.getD i (0, 0)).1 = p0 at *
        generalize (L.getD i (0, 0)).2 = p1 at *
        clear HR HG
        go_wp2_with fail
        go_quiet (fail)
        go_wp2_with fail
        go_ret
        exact ⟨rfl, (HU.out.alloc _ _).drewN _⟩
      have t1 : decide ((L.getD i (0, 0)).1 < 0) = false := decide_eq_false h1
      have t2 : decide (now < (L.getD i (0, 0)).1) = false := decide_eq_false h2
      cases i with
      | zero =>
        have HG1 : Hid (∀ j, j < 0 + 1 → goodI L now j) := Lib.hid (fun j hj => by
          obtain rfl : j = 0 := by omega
          exact ⟨by omega, by omega, fun h => absurd h (by omega)⟩)
        simp only [Nat.zero_mul, Nat.add_zero] at d0 d1
        generalize (L.getD 0 (0, 0)).1 = p0 at *
        generalize (L.getD 0 (0, 0)).2 = p1 at *
        clear HR HG
        go_wp2_with fail
        go_quiet (fail)
        go_wp2_with fail
        go_roundw
        case rel => exact ⟨0 + 1, by go_num, by omega, HG1, (HU.out.alloc _ _).drewN _⟩
        case measure => simp [intOf]; omega
      | succ t =>
        obtain ⟨b2, o2, hbo, d2, d3⟩ := (HS.out.up HU.out).at_ (show t < n by omega)
        cases hbo
        have eq1 : ((t + 1 : Nat) : Int) = (t : Int) + 1 := by omega
        rw [eq1]
        have p1_ : (0 : Int) < (t : Int) + 1 := by omega
        have p2_ : (0 : Int) ≤ (t : Int) + 1 := by omega
        have p3_ : (t : Int) + 1 < (n : Int) := by omega
        have p4_ : (t : Int) < (n : Int) := by omega
        have p5_ : ((t : Int) + 1).toNat = t + 1 := by omega
        have lb : b < wr.heap.size := World.block_lt_of_cell? _ _ d2
        have e2 := ((Up.refl wr).alloc #[.int .i64 (L.getD (t + 1) (0, 0)).1, .int .i64 (L.getD (t + 1) (0, 0)).2] 41).keep _ _ _ d2
        by_cases h3 : (L.getD (t + 1) (0, 0)).1 < (L.getD t (0, 0)).1
        · obtain rfl : r = false := by rw [← HR.out]; exact valB_bad hil (fun h => by have := h.2.2 (by omega); simp only [Nat.add_sub_cancel] at this; omega)
          have t3 : decide ((L.getD (t + 1) (0, 0)).1 < (L.getD t (0, 0)).1) = true := decide_eq_true h3
          generalize (L.getD (t + 1) (0, 0)).1 = p0 at *
          generalize (L.getD (t + 1) (0, 0)).2 = p1 at *
          generalize (L.getD t (0, 0)).1 = q0 at *
          generalize (L.getD t (0, 0)).2 = q1 at *
          clear HR HG
          go_wp2_with fail
          go_quiet (fail)
          go_wp2_with fail
          go_ret
          exact ⟨rfl, (HU.out.alloc _ _).drewN _⟩
        · have t3 : decide ((L.getD (t + 1) (0, 0)).1 < (L.getD t (0, 0)).1) = false := decide_eq_false h3
          have HG1 : Hid (∀ j, j < t + 1 + 1 → goodI L now j) := Lib.hid (fun j hj => by
            rcases Nat.lt_or_ge j (t + 1) with h | h
            · exact HG.out j h
            · obtain rfl : j = t + 1 := by omega
              exact ⟨by omega, by omega, fun _ => by simp only [Nat.add_sub_cancel]; omega⟩)
          generalize (L.getD (t + 1) (0, 0)).1 = p0 at *
          generalize (L.getD (t + 1) (0, 0)).2 = p1 at *
          generalize (L.getD t (0, 0)).1 = q0 at *
          generalize (L.getD t (0, 0)).2 = q1 at *
          clear HR HG
          go_wp2_with fail
          go_quiet (fail)
          go_wp2_with fail
          go_roundw
          case rel => exact ⟨t + 1 + 1, by go_num, by omega, HG1, (HU.out.alloc _ _).drewN _⟩
          case measure => simp [intOf]; omega
    · obtain rfl : i = n := by omega
      obtain rfl : r = true := by rw [← HR.out]; exact valB_good HT.out (by rw [HL.out]; exact HG.out)
      clear HR HG
      go_wp2_with fail
      go_ret
      exact ⟨rfl, HU.out⟩
end Go.Proofs.Ytfcknhpllhkpeaa
