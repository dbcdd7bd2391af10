/- Texts of these claims, one after the other. -/
import Derived.Test.YtafkoddgefcpnaaRows
import Derived.Test.YtafkoddgefcpnaaZMathq45
import Derived.Test.YtafkoddgefcpnaaZRQuoq225
import Derived.Test.YtafkoddgefcpnaaZWGcdq218
namespace Go.Proofs.Ytafkoddgefcpnaa
open Go.RowKit

theorem gcdZ_abs (n d : Int) (hd : 1 ≤ d) : gcdZ (val 0 (n.natAbs : Int)) (val 0 d) = (Nat.gcd n.natAbs d.natAbs : Nat) := by
  have e1 : val 0 (n.natAbs : Int) = (n.natAbs : Int) := by unfold val; omega
  have e2 : val 0 d = d := by unfold val; omega
  have e3 : d.toNat = d.natAbs := by omega
  rw [e1, e2]; unfold gcdZ; rw [Int.toNat_natCast, e3]
theorem gcd_small (n d : Int) (hd : 1 ≤ d) (hi : In d) : 0 ≤ ((Nat.gcd n.natAbs d.natAbs : Nat) : Int) ∧ ((Nat.gcd n.natAbs d.natAbs : Nat) : Int) ≤ 9223372036854775807 := by
  obtain ⟨_, d2⟩ := hi
  have := Nat.gcd_le_right n.natAbs (show 0 < d.natAbs by omega)
  omega
set_option maxHeartbeats 2000000 in
theorem rvalid_up (n d : Int) (hn : In n) (hd : In d) (w : World) :
    Calls Try.prog 141 #[.agg #[.int .i64 n, .int .i64 d]] w fun e w' => e = .returned (.bool (validB n d)) ∧ Up w w' := by
  by_cases h : 1 ≤ d
  · have t : decide (1 ≤ d) = true := decide_eq_true h
    have hw : IntKind.u64.wrap d = d := by rw [IntKind.wrap_u64]; obtain ⟨_, d2⟩ := hd; omega
    have HG := Lib.hid (fun W => rgcd_up 0 (n.natAbs : Int) 0 d word_0 (abs_word hn) word_0 (word_int h hd) W)
    rw [gcdZ_abs n d h] at HG
    have HA := Lib.hid (fun W => rabs_any n hn W)
    obtain ⟨g0, g1⟩ := gcd_small n d h hd
    have HV := Lib.hid (validB_eq (n := n) h)
    have hx : (((Nat.gcd n.natAbs d.natAbs : Nat) : Int) = 1 ∧ validB n d = true) ∨ (((Nat.gcd n.natAbs d.natAbs : Nat) : Int) ≠ 1 ∧ validB n d = false) := by
      rw [HV.out]
      by_cases e : Nat.gcd n.natAbs d.natAbs = 1
      · exact Or.inl ⟨by omega, decide_eq_true e⟩
      · exact Or.inr ⟨by omega, decide_eq_false e⟩
    clear HV
    generalize ((Nat.gcd n.natAbs d.natAbs : Nat) : Int) = g at *
    have hi : hiZ g = 0 := by unfold hiZ; omega
    have hl : loZ g = g := by unfold loZ; omega
    rw [hi, hl] at HG
    clear h hi hl g0 g1 hn hd
    rcases hx with ⟨e1, e2⟩ | ⟨e1, e2⟩
    · subst e1
      have H := Lib.hid e2
      clear e2
      go_enter Try.func141, Try.ntmps141
      go_wp2_with fail
      go_region_held3 (fun w' => Up w w' ∧ w'.cell? ⟨w.heap.size, 0, none⟩ = some (.int .i64 n) ∧ w'.cell? ⟨w.heap.size, 1, none⟩ = some (.int .i64 d))
        (first | (exact keep2 (by assumption) (by assumption)) | (refine ⟨?_, by simp [go_sem], by simp [go_sem]⟩; repeat (first | exact Up.refl _ | refine Up.alloc ?_ _ _ | refine Up.setCell ?_ (by first | (simp; done) | (simp; omega) | omega) _ | refine Up.drewN ?_ _ | refine Up.drew ?_)))
        (first
          | (go_at_call 130; (with_reducible refine (HA.out _).mono ?_); rintro e w' ⟨rfl, rfl⟩)
          | (go_at_call 129; (with_reducible refine (rof_up _ _).mono ?_); rintro e w' ⟨rfl, hu⟩; have HU := Lib.hid hu; clear hu)
          | (go_at_call 149; (with_reducible refine (HG.out _).mono ?_); rintro e w' ⟨rfl, hu⟩; have HU := Lib.hid hu; clear hu))
      all_goals
        go_wp2
        go_ret
        exact ⟨by rw [H.out]; rfl, And.left (by assumption)⟩
    · have t1 : (g == 1) = false := beq_eq_false_iff_ne.2 e1
      have H := Lib.hid e2
      clear e1 e2
      go_enter Try.func141, Try.ntmps141
      go_wp2_with fail
      go_region_held3 (fun w' => Up w w' ∧ w'.cell? ⟨w.heap.size, 0, none⟩ = some (.int .i64 n) ∧ w'.cell? ⟨w.heap.size, 1, none⟩ = some (.int .i64 d))
        (first | (exact keep2 (by assumption) (by assumption)) | (refine ⟨?_, by simp [go_sem], by simp [go_sem]⟩; repeat (first | exact Up.refl _ | refine Up.alloc ?_ _ _ | refine Up.setCell ?_ (by first | (simp; done) | (simp; omega) | omega) _ | refine Up.drewN ?_ _ | refine Up.drew ?_)))
        (first
          | (go_at_call 130; (with_reducible refine (HA.out _).mono ?_); rintro e w' ⟨rfl, rfl⟩)
          | (go_at_call 129; (with_reducible refine (rof_up _ _).mono ?_); rintro e w' ⟨rfl, hu⟩; have HU := Lib.hid hu; clear hu)
          | (go_at_call 149; (with_reducible refine (HG.out _).mono ?_); rintro e w' ⟨rfl, hu⟩; have HU := Lib.hid hu; clear hu))
      all_goals
        go_wp2
        go_ret
        exact ⟨by rw [H.out]; rfl, And.left (by assumption)⟩
  · have t : decide (1 ≤ d) = false := decide_eq_false h
    have H := Lib.hid (validB_low (n := n) (show d < 1 by omega))
    clear h
    go_enter Try.func141, Try.ntmps141
    go_wp2_with fail
    go_quiet (fail)
    all_goals
      go_wp2
      go_ret
      refine ⟨by rw [H.out]; rfl, ?_⟩
      repeat (first | exact Up.refl _ | refine Up.alloc ?_ _ _ | refine Up.setCell ?_ (by first | (simp; done) | (simp; omega) | omega) _ | refine Up.drewN ?_ _ | refine Up.drew ?_)

end Go.Proofs.Ytafkoddgefcpnaa

namespace Go.Proofs.Ytafkoddgefcpnaa

theorem oz_yes (n : Int) : oz true n = n := rfl
theorem oz_no (n : Int) : oz false n = 0 := rfl
end Go.Proofs.Ytafkoddgefcpnaa
