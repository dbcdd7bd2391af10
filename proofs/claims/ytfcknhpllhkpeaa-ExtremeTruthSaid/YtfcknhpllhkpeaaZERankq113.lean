/- What Rank, Below, Least, Greatest, Extreme and Few return. -/
import Derived.Test.YtfcknhpllhkpeaaRows
import Derived.Test.YtfcknhpllhkpeaaZESqq26
import Derived.Test.YtfcknhpllhkpeaaZNumq20
namespace Go.Proofs.Ytfcknhpllhkpeaa
open Go.RowKit

/-- The least and the greatest value so far, from x on. -/
def leZ (x : Int) (L : List It) : Int := L.foldl (fun a y => min a y.2) x
def grZ (x : Int) (L : List It) : Int := L.foldl (fun a y => max a y.2) x
theorem leZ_take {L : List It} {i : Nat} (hi : i < L.length) (x : Int) : leZ x (L.take (i + 1)) = min (leZ x (L.take i)) (L.getD i (0, 0)).2 := by
  unfold leZ; rw [take_next hi, List.foldl_append]; rfl
theorem grZ_take {L : List It} {i : Nat} (hi : i < L.length) (x : Int) : grZ x (L.take (i + 1)) = max (grZ x (L.take i)) (L.getD i (0, 0)).2 := by
  unfold grZ; rw [take_next hi, List.foldl_append]; rfl
/-- What Least and Greatest return. -/
def leE (L : List It) : Ending := if L = [] then got 0 false else got (leZ (L.getD 0 (0, 0)).2 L) true
def grE (L : List It) : Ending := if L = [] then got 0 false else got (grZ (L.getD 0 (0, 0)).2 L) true

set_option maxHeartbeats 4000000 in
theorem rleast_up (n k : Nat) (A : Option Addr) (L : List It) (hn : n ≤ 1000000) (w : World) (hS : Sl w A n L) :
    Calls Try.prog 29 #[.slice A n k, .bool false] w fun e w' => e = leE L ∧ Up w w' := by
  by_cases h0 : n = 0
  · subst h0
    have : L = [] := List.length_eq_zero_iff.1 hS.1
    unfold leE
    rw [if_pos this]
    clear hS this
    go_enter Try.func29, Try.ntmps29
    go_wp2_with fail
    go_ret2
    exact ⟨rfl, Up.refl _⟩
  have e : leE L = got (leZ (L.getD 0 (0, 0)).2 L) true := by unfold leE; rw [if_neg (fun h => h0 (by rw [← hS.1, h]; rfl))]
  rw [e]
  clear e
  obtain ⟨b, o, rfl, d0, d1⟩ := hS.at_ (show 0 < n by omega)
  have HL := Lib.hid hS.1
  have HS := Lib.hid hS
  have t0 : ((n : Int) == 0) = false := by simp; omega
  have t1 : (0 : Int) < n := by omega
  generalize (L.getD 0 (0, 0)).2 = x at *
  generalize (L.getD 0 (0, 0)).1 = x' at *
  simp only [Nat.zero_mul, Nat.add_zero] at d0 d1
  clear hS
  generalize hr : leZ x L = r
  have HR := Lib.hid hr
  clear hr h0
  go_enter Try.func29, Try.ntmps29
  go_wp2_with fail
  go_loopw [6, 18] (fun s t wr => ∃ (i : Nat) (c : Int), s = .int .i64 c ∧ t = .int .i64 i ∧ i ≤ n ∧ Hid (c = leZ x (L.take i)) ∧ Up w wr) (fun _ t _ => n - (intOf t).toNat)
  case atStart => exact ⟨0, x, rfl, rfl, Nat.zero_le _, Lib.hid (by simp [leZ]), Up.refl _⟩
  case round =>
    obtain ⟨i, c, rfl, rfl, hin, HN, hU⟩ := hrel
    have HU := Lib.hid hU
    clear hU
    by_cases hi : i < n
    · obtain ⟨b2, o2, hbo, d2, d3⟩ := (HS.out.up HU.out).at_ hi
      cases hbo
      have HN1 := Lib.hid (leZ_take (L := L) (i := i) (by rw [HL.out]; exact hi) x)
      generalize (L.getD i (0, 0)).1 = p0 at *
      generalize (L.getD i (0, 0)).2 = p1 at *
      have f2 : (i : Int) < n := by omega
      have f3 : (0 : Int) ≤ i := by omega
      clear d0 d1
      by_cases hx : p1 < c
      · have HM : Hid (p1 = leZ x (L.take (i + 1))) := Lib.hid (by rw [HN1.out, ← HN.out]; omega)
        clear HN1 HN
        go_wp2_with fail
        go_roundw
        case rel => exact ⟨i + 1, p1, rfl, by go_num, by omega, HM, HU.out.alloc _ _⟩
        case measure => simp [intOf]; omega
      · have HM : Hid (c = leZ x (L.take (i + 1))) := Lib.hid (by rw [HN1.out, ← HN.out]; omega)
        clear HN1 HN
        go_wp2_with fail
        go_roundw
        case rel => exact ⟨i + 1, c, rfl, by go_num, by omega, HM, HU.out.alloc _ _⟩
        case measure => simp [intOf]; omega
    · obtain rfl : i = n := by omega
      obtain rfl : r = c := by rw [← HR.out, HN.out, List.take_of_length_le (by rw [HL.out]; exact Nat.le_refl _)]
      clear HR
      go_wp2_with fail
      go_ret2
      exact ⟨rfl, HU.out⟩
set_option maxHeartbeats 4000000 in
theorem rgreatest_up (n k : Nat) (A : Option Addr) (L : List It) (hn : n ≤ 1000000) (w : World) (hS : Sl w A n L) :
    Calls Try.prog 29 #[.slice A n k, .bool true] w fun e w' => e = grE L ∧ Up w w' := by
  by_cases h0 : n = 0
  · subst h0
    have : L = [] := List.length_eq_zero_iff.1 hS.1
    unfold grE
    rw [if_pos this]
    clear hS this
    go_enter Try.func29, Try.ntmps29
    go_wp2_with fail
    go_ret2
    exact ⟨rfl, Up.refl _⟩
  have e : grE L = got (grZ (L.getD 0 (0, 0)).2 L) true := by unfold grE; rw [if_neg (fun h => h0 (by rw [← hS.1, h]; rfl))]
  rw [e]
  clear e
  obtain ⟨b, o, rfl, d0, d1⟩ := hS.at_ (show 0 < n by omega)
  have HL := Lib.hid hS.1
  have HS := Lib.hid hS
  have t0 : ((n : Int) == 0) = false := by simp; omega
  have t1 : (0 : Int) < n := by omega
  generalize (L.getD 0 (0, 0)).2 = x at *
  generalize (L.getD 0 (0, 0)).1 = x' at *
  simp only [Nat.zero_mul, Nat.add_zero] at d0 d1
  clear hS
  generalize hr : grZ x L = r
  have HR := Lib.hid hr
  clear hr h0
  go_enter Try.func29, Try.ntmps29
  go_wp2_with fail
  go_loopw [6, 18] (fun s t wr => ∃ (i : Nat) (c : Int), s = .int .i64 c ∧ t = .int .i64 i ∧ i ≤ n ∧ Hid (c = grZ x (L.take i)) ∧ Up w wr) (fun _ t _ => n - (intOf t).toNat)
  case atStart => exact ⟨0, x, rfl, rfl, Nat.zero_le _, Lib.hid (by simp [grZ]), Up.refl _⟩
  case round =>
    obtain ⟨i, c, rfl, rfl, hin, HN, hU⟩ := hrel
    have HU := Lib.hid hU
    clear hU
    by_cases hi : i < n
    · obtain ⟨b2, o2, hbo, d2, d3⟩ := (HS.out.up HU.out).at_ hi
      cases hbo
      have HN1 := Lib.hid (grZ_take (L := L) (i := i) (by rw [HL.out]; exact hi) x)
      generalize (L.getD i (0, 0)).1 = p0 at *
      generalize (L.getD i (0, 0)).2 = p1 at *
      have f2 : (i : Int) < n := by omega
      have f3 : (0 : Int) ≤ i := by omega
      clear d0 d1
      by_cases hx : c < p1
      · have HM : Hid (p1 = grZ x (L.take (i + 1))) := Lib.hid (by rw [HN1.out, ← HN.out]; omega)
        clear HN1 HN
        go_wp2_with fail
        go_roundw
        case rel => exact ⟨i + 1, p1, rfl, by go_num, by omega, HM, HU.out.alloc _ _⟩
        case measure => simp [intOf]; omega
      · have HM : Hid (c = grZ x (L.take (i + 1))) := Lib.hid (by rw [HN1.out, ← HN.out]; omega)
        clear HN1 HN
        go_wp2_with fail
        go_roundw
        case rel => exact ⟨i + 1, c, rfl, by go_num, by omega, HM, HU.out.alloc _ _⟩
        case measure => simp [intOf]; omega
    · obtain rfl : i = n := by omega
      obtain rfl : r = c := by rw [← HR.out, HN.out, List.take_of_length_le (by rw [HL.out]; exact Nat.le_refl _)]
      clear HR
      go_wp2_with fail
      go_ret2
      exact ⟨rfl, HU.out⟩
end Go.Proofs.Ytfcknhpllhkpeaa
