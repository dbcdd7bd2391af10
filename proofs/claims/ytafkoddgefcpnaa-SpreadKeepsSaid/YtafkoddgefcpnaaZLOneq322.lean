/- Package spread and its reference: Close; closeness as a rule. -/
import Derived.Test.YtafkoddgefcpnaaRows
import Derived.Test.YtafkoddgefcpnaaZKMcq189
import Derived.Test.YtafkoddgefcpnaaZLOneq321
import Derived.Test.YtafkoddgefcpnaaZLRatq316
namespace Go.Proofs.Ytafkoddgefcpnaa
open Go.RowKit
set_option linter.unusedVariables false

set_option maxHeartbeats 4000000 in
set_option maxRecDepth 100000 in
theorem closeC_up (b1 : Nat) (sq1 t1 nn1 s1 qq1 lo1 hi1 sq2 t2 nn2 s2 qq2 lo2 hi2 k : Int) (w : World) (hb : w.cell? ⟨b1, 0, none⟩ = some (.int .i64 k)) :
    Calls Try.prog 135 #[.agg #[.int .i64 sq1, .int .i64 t1, .int .i64 nn1, .int .i64 s1, .int .i64 qq1, .int .i64 lo1, .int .i64 hi1], .agg #[.int .i64 sq2, .int .i64 t2, .int .i64 nn2, .int .i64 s2, .int .i64 qq2, .int .i64 lo2, .int .i64 hi2], .pointer (some ⟨b1, 0, none⟩)] w fun e w' => e = .returned (.bool (clQ k ⟨sq1, t1, nn1, s1, qq1, lo1, hi1⟩ ⟨sq2, t2, nn2, s2, qq2, lo2, hi2⟩)) ∧ Up w w' := by
  have KC := Lib.hid (close14_up sq1 t1 nn1 s1 qq1 lo1 hi1 sq2 t2 nn2 s2 qq2 lo2 hi2 k)
  generalize clQ k ⟨sq1, t1, nn1, s1, qq1, lo1, hi1⟩ ⟨sq2, t2, nn2, s2, qq2, lo2, hi2⟩ = r at *
  have hb1 := (Up.refl w).alloc #[.int .i64 sq1, .int .i64 t1, .int .i64 nn1, .int .i64 s1, .int .i64 qq1, .int .i64 lo1, .int .i64 hi1] 23
  have hb2 := (((Up.refl w).alloc #[.int .i64 sq1, .int .i64 t1, .int .i64 nn1, .int .i64 s1, .int .i64 qq1, .int .i64 lo1, .int .i64 hi1] 23).alloc #[.int .i64 sq2, .int .i64 t2, .int .i64 nn2, .int .i64 s2, .int .i64 qq2, .int .i64 lo2, .int .i64 hi2] 23).keep _ _ _ hb
  clear hb hb1
  go_enter Try.func135, Try.ntmps135
  go_wp2_with (go_at_call 47; (with_reducible refine (KC.out _).mono ?_); rintro e w1 ⟨rfl, hu⟩; have HU1 := Lib.hid ((((Up.refl w).alloc _ _).alloc _ _).trans hu); clear hu)
  go_ret
  exact ⟨rfl, HU1.out⟩
theorem closeness_up (k : Int) (w : World) :
    Calls Try.prog 102 #[.int .i64 k] w fun e w' => ∃ b1 : Nat, e = .returned (.func (.func 135) #[] #[.pointer (some ⟨b1, 0, none⟩)]) ∧ Up w w' ∧ w'.cell? ⟨b1, 0, none⟩ = some (.int .i64 k) := by
  have hmf : ∀ (fn : Fn) (first cap : Array Value) (w : World), (Instr.makeFunc fn first cap).run Try.prog w = .ok (.func fn first cap) w := fun _ _ _ _ => rfl
  go_enter Try.func102, Try.ntmps102
  go_wp2_with fail
  go_ret
  exact ⟨w.heap.size, rfl, (Up.refl w).alloc _ _, by simp [go_sem]⟩
theorem close_rule (b1 : Nat) (k : Int) (w : World) (hb : w.cell? ⟨b1, 0, none⟩ = some (.int .i64 k)) :
    ∀ P M : Mrk, True → True → ∀ W, Up w W → Calls Try.prog 135 #[.agg #[.int .i64 P.sq, .int .i64 P.t, .int .i64 P.n, .int .i64 P.s, .int .i64 P.q, .int .i64 P.lo, .int .i64 P.hi], .agg #[.int .i64 M.sq, .int .i64 M.t, .int .i64 M.n, .int .i64 M.s, .int .i64 M.q, .int .i64 M.lo, .int .i64 M.hi], .pointer (some ⟨b1, 0, none⟩)] W fun e w' => e = .returned (.bool (clQ k P M)) ∧ Up W w' :=
  fun P M _ _ W h => closeC_up b1 P.sq P.t P.n P.s P.q P.lo P.hi M.sq M.t M.n M.s M.q M.lo M.hi k W (h.keep _ _ _ hb)
end Go.Proofs.Ytafkoddgefcpnaa
