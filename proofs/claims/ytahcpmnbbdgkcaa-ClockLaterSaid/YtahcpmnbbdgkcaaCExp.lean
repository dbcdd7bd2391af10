/- isPast and Expired of package clock, with the function that Expired hands to sort.Search. -/
import Derived.Test.YtahcpmnbbdgkcaaCSearch
import Derived.Test.YtahcpmnbbdgkcaaCSorted
namespace Go.Proofs.Ytahcpmnbbdgkcaa
open Go.RowKit

set_option maxHeartbeats 2000000 in
theorem expired1_q (ba bf b o n k : Nat) (f y : Int) (i : Nat) (r : Bool) (hr : decide (f ≤ y) = r) (W : World) (hi : i < n)
    (ha : W.cell? ⟨ba, 0, none⟩ = some (.slice (some ⟨b, o, none⟩) n k)) (hf : W.cell? ⟨bf, 0, none⟩ = some (.int .i64 f)) (hc : W.cell? ⟨b, o + i, none⟩ = some (.int .i64 y)) :
    Calls Try.prog 22 (#[.int .i64 i] ++ #[.pointer (some ⟨ba, 0, none⟩), .pointer (some ⟨bf, 0, none⟩)]) W fun e w' => e = .returned (.bool r) ∧ ∃ q, w' = W.drewN q := by
  have hiz : (i : Int) < (n : Int) := by omega
  have HR := Lib.hid hr
  clear hr
  go_enter Try.func22, Try.ntmps22
  go_wp2
  go_region
  all_goals go_wp2
  all_goals go_ret
  all_goals exact ⟨by rw [← HR.out]; first | rfl | simp, 1, rfl⟩

set_option maxHeartbeats 4000000 in
theorem isPast_q (n k : Nat) (A : Option Addr) (L : List Int) (now : Int) (hz : n * 8 ≤ 140737488351232) (w : World) (hS : Sn w A n L) :
    Calls Try.prog 20 #[.slice A n k, .int .i64 now] w fun e w' => e = .returned (.bool (pastB L now)) ∧ ∃ q, w' = w.drewN q := by
  cases n with
  | zero =>
    have e1 : L = [] := List.length_eq_zero_iff.1 hS.1
    subst e1
    rw [pastB_nil]
    clear hS
    go_enter Try.func20, Try.ntmps20
    go_wp2
    go_ret
    exact ⟨rfl, 0, rfl⟩
  | succ m =>
    have K := Lib.hid (fun q : Nat => isSorted_q (m + 1) k A L hz (w.drewN q) (hS.up (Up.drewN (Up.refl _) _)))
    have hp := pastB_ends hS.1 now
    obtain ⟨hl, hb⟩ := hS
    obtain ⟨b, o, rfl, hc⟩ := hb (by omega)
    have c0 : w.cell? ⟨b, o, none⟩ = some (.int .i64 (L.getD 0 0)) := by simpa using hc 0 (by omega)
    have c1 : w.cell? ⟨b, o + m, none⟩ = some (.int .i64 (L.getD m 0)) := hc m (by omega)
    clear hc hb hl
    generalize L.getD 0 0 = x at *
    generalize L.getD m 0 = y at *
    generalize ascB L = s at *
    generalize pastB L now = r at *
    have HP := Lib.hid hp
    clear hp
    have z0 : ((m : Int) + 1 == 0) = false := by simp; omega
    have z1 : (0 : Int) < (m : Int) + 1 := by omega
    have z2 : (m : Int) < (m : Int) + 1 := by omega
    have z3 : (0 : Int) ≤ (m : Int) := by omega
    cases s with
    | false =>
      obtain rfl : r = false := by rw [HP.out]; rfl
      clear HP
      go_enter Try.func20, Try.ntmps20
      go_wp2_with fail
      refine (K.out 0).mono ?_
      rintro e w' ⟨rfl, hq⟩
      obtain ⟨q, rfl⟩ := hq
      go_wp2
      go_ret
      exact ⟨by first | rfl | (simp; done) | (simp; omega), _, rfl⟩
    | true =>
      by_cases h1 : 0 ≤ x
      · by_cases h2 : y ≤ now
        · obtain rfl : r = true := by rw [HP.out]; rw [decide_eq_true h1, decide_eq_true h2]; rfl
          clear HP
          go_enter Try.func20, Try.ntmps20
          go_wp2_with fail
          refine (K.out 0).mono ?_
          rintro e w' ⟨rfl, hq⟩
          obtain ⟨q, rfl⟩ := hq
          go_wp2
          go_ret
          exact ⟨by first | rfl | (simp; done) | (simp; omega), _, rfl⟩
        · obtain rfl : r = false := by rw [HP.out]; rw [decide_eq_true h1, decide_eq_false h2]; rfl
          clear HP
          go_enter Try.func20, Try.ntmps20
          go_wp2_with fail
          refine (K.out 0).mono ?_
          rintro e w' ⟨rfl, hq⟩
          obtain ⟨q, rfl⟩ := hq
          go_wp2
          go_ret
          exact ⟨by first | rfl | (simp; done) | (simp; omega), _, rfl⟩
      · obtain rfl : r = false := by rw [HP.out]; rw [decide_eq_false h1]; rfl
        clear HP
        go_enter Try.func20, Try.ntmps20
        go_wp2_with fail
        refine (K.out 0).mono ?_
        rintro e w' ⟨rfl, hq⟩
        obtain ⟨q, rfl⟩ := hq
        go_wp2
        go_ret
        exact ⟨by first | rfl | (simp; done) | (simp; omega), _, rfl⟩
end Go.Proofs.Ytahcpmnbbdgkcaa
