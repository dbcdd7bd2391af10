/- Texts of these claims, one after the other. -/
import Derived.Test.YtafkoddgefcpnaaRows
import Derived.Test.YtafkoddgefcpnaaZWAddq17
import Derived.Test.YtafkoddgefcpnaaZWCmpq20
import Derived.Test.YtafkoddgefcpnaaZWMulMq102
namespace Go.Proofs.Ytafkoddgefcpnaa
open Go.RowKit

theorem rproduct_up (x y : Int) (hx : Word x) (hy : Word y) (w : World) :
    Calls Try.prog 98 #[.int .u64 x, .int .u64 y] w fun e w' => e = .returned (.agg #[.int .u64 (hiZ (x * y)), .int .u64 (loZ (x * y))]) ∧ Up w w' := by
  go_enter Try.func98, Try.ntmps98
  go_wp2_with fail
  refine (mul64z x y hx hy _).mono ?_
  rintro e w' ⟨rfl, rfl⟩
  go_wp2
  refine bodyPost_ret (v := .agg #[.int .u64 (hiZ (x * y)), .int .u64 (loZ (x * y))]) (by simp [results, Try.results98, go_sem]) rfl ⟨?_, ?_⟩
  · rfl
  · repeat (first | exact Up.refl _ | refine Up.alloc ?_ _ _ | refine Up.setCell ?_ (by first | (simp; done) | (simp; omega) | omega) _ | refine Up.drewN ?_ _ | refine Up.drew ?_)

/-! ### The comparison of two products -/
theorem rcompare_v (x y : Int) (hx : In2 x) (hy : In2 y) (w : World) :
    Calls Try.prog 97 #[.agg #[.int .u64 (hiZ x), .int .u64 (loZ x)], .agg #[.int .u64 (hiZ y), .int .u64 (loZ y)]] w fun e w' => e = .returned (.int .i64 (cmpZ x y)) ∧ Up w w' := by
  have h := rcompare_up (hiZ x) (loZ x) (hiZ y) (loZ y) (hiZ_word hx) (loZ_word x) (hiZ_word hy) (loZ_word y) w
  rw [val_hilo, val_hilo] at h
  exact h

end Go.Proofs.Ytafkoddgefcpnaa

namespace Go.Proofs.Ytafkoddgefcpnaa

def clQ (k : Int) (a b : Mrk) : Bool := (myM a && myM b) && (decide (1 ≤ k ∧ k ≤ 64) && (decide ((6 * k - 1) * a.n ≤ 6 * k * b.n) && decide (spM a * ((6 * k - 1) * b.n) ≤ spM b * (6 * k * a.n))))
theorem clQ_no {k : Int} {a b : Mrk} (h : ¬ (myM a = true ∧ myM b = true ∧ 1 ≤ k ∧ k ≤ 64)) : clQ k a b = false := by
  unfold clQ
  by_cases h1 : myM a = true
  · by_cases h2 : myM b = true
    · rw [decide_eq_false (p := 1 ≤ k ∧ k ≤ 64) (fun hk => h ⟨h1, h2, hk⟩), Bool.false_and, Bool.and_false]
    · rw [Bool.not_eq_true] at h2; rw [h2, Bool.and_false, Bool.false_and]
  · rw [Bool.not_eq_true] at h1; rw [h1, Bool.false_and, Bool.false_and]
theorem clQ_form {k : Int} {a b : Mrk} (h1 : myM a = true) (h2 : myM b = true) (hk : 1 ≤ k ∧ k ≤ 64) : clQ k a b = (decide ((6 * k - 1) * a.n ≤ 6 * k * b.n) && decide (spM a * ((6 * k - 1) * b.n) ≤ spM b * (6 * k * a.n))) := by
  unfold clQ; rw [h1, h2, decide_eq_true hk]; rfl
section
variable {nr : List It → Nat → Nat → Prop} {cl : List It → Nat → Nat → Bool} {g w k c now : Int} {P : List Nat} {I : List It}
end
section
variable {w k c now : Int} {P : List Nat} {I : List It}
end
end Go.Proofs.Ytafkoddgefcpnaa
