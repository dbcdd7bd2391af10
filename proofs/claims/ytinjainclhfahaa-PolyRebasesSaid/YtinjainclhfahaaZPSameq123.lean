/- Same of the reference of layer 15; few and awake of the laws. -/
import Derived.Test.YtinjainclhfahaaRows
import Derived.Test.YtinjainclhfahaaZPSameq121
namespace Go.Proofs.Ytinjainclhfahaa
open Go.RowKit
set_option linter.unusedVariables false

set_option maxHeartbeats 4000000 in
set_option maxRecDepth 100000 in
theorem sameW15 (n k q : Nat) (A B : Option Addr) (L : List Int) (hn : n ≤ 1000000) (w : World) (hA : SG cW w A n L) (hB : SG cW w B n L) :
    Calls Try.prog 34 #[.slice A n k, .slice B n q] w fun e w' => e = .returned (.bool true) ∧ Up w w' := by
  have HA := Lib.hid hA
  have HB := Lib.hid hB
  clear hA hB
  have t1 : ((n : Int) != (n : Int)) = false := by simp
  go_enter Try.func34, Try.ntmps34
  go_wp2_with fail
  go_loopw [13] (fun t wr => ∃ i : Nat, t = .int .i64 i ∧ i ≤ n ∧ Hid (Up w wr)) (fun t _ => n - (intOf t).toNat)
  case atStart => exact ⟨0, rfl, Nat.zero_le _, Lib.hid (Up.refl _)⟩
  case round =>
    obtain ⟨i, rfl, i2, HU⟩ := hrel
    by_cases hlt : i < n
    · obtain ⟨b, o, rfl, d0, d1⟩ := wide_at (HA.out.up HU.out) hlt
      obtain ⟨b', o', rfl, d2, d3⟩ := wide_at (HB.out.up HU.out) hlt
      generalize L.getD i 0 = x at *
      have f2 : (i : Int) < n := by omega
      have f3 : (0 : Int) ≤ i := by omega
      have qe := eqW15 (hiZ x) (loZ x)
      go_wp2_with fail
      go_quiet (fail)
      go_wp2_with fail
      go_roundw
      case rel => exact ⟨i + 1, by go_num, by omega, Lib.hid (HU.out.drewN _)⟩
      case measure => simp [intOf]; omega
    · have f1 : decide ((i : Int) < n) = false := decide_eq_false (by omega)
      have f2 : decide (i < n) = false := decide_eq_false hlt
      go_wp2_with fail
      go_ret
      exact ⟨rfl, HU.out⟩
set_option maxHeartbeats 4000000 in
set_option maxRecDepth 100000 in
theorem same15_t (p l c : Int) (n k q : Nat) (A B : Option Addr) (L : List Int) (hn : n ≤ 1000000) (w : World) (hA : SG cW w A n L) (hB : SG cW w B n L) :
    Calls Try.prog 11 #[.agg #[.int .i64 p, .int .i64 l, .int .i64 c, .slice A n k], .agg #[.int .i64 p, .int .i64 l, .int .i64 c, .slice B n q]] w fun e w' => e = .returned (.bool true) ∧ Up w w' := by
  have KS := Lib.hid (fun W (hu : Up w W) => sameW15 n k q A B L hn W (hA.up hu) (hB.up hu))
  have t1 : (p == p) = true := by simp
  have t2 : (l == l) = true := by simp
  have t3 : (c == c) = true := by simp
  clear hA hB
  go_enter Try.func11, Try.ntmps11
  go_wp2_with (go_at_call 34; (with_reducible refine (KS.out _ (((Up.refl w).alloc _ _).alloc _ _)).mono ?_); rintro e w1 ⟨rfl, hu⟩; have HU := Lib.hid ((((Up.refl w).alloc _ _).alloc _ _).trans hu); clear hu)
  go_ret
  exact ⟨rfl, HU.out⟩
end Go.Proofs.Ytinjainclhfahaa
