/- Texts of these claims, one after the other. -/
import Derived.Test.YtafkoddgefcpnaaRows
import Derived.Test.YtafkoddgefcpnaaZWCmpq20
namespace Go.Proofs.Ytafkoddgefcpnaa
open Go.RowKit

theorem rof_up (n : Int) (w : World) : Calls Try.prog 129 #[.int .u64 n] w fun e w' => e = .returned (.agg #[.int .u64 0, .int .u64 n]) ∧ Up w w' := by
  go_enter Try.func129, Try.ntmps129
  go_wp2
  refine bodyPost_ret (v := .agg #[.int .u64 0, .int .u64 n]) (by simp [results, Try.results129, go_sem]) rfl ⟨?_, ?_⟩
  · rfl
  · repeat (first | exact Up.refl _ | refine Up.alloc ?_ _ _ | refine Up.setCell ?_ (by first | (simp; done) | (simp; omega) | omega) _ | refine Up.drewN ?_ _ | refine Up.drew ?_)

end Go.Proofs.Ytafkoddgefcpnaa

namespace Go.Proofs.Ytafkoddgefcpnaa
open Go.RowKit

/-! ### The comparison of two products -/
theorem rabs_any (a : Int) (ha : In a) (w : World) :
    Calls Try.prog 130 #[.int .i64 a] w fun e w' => e = .returned (.int .u64 (a.natAbs : Int)) ∧ w = w' := by
  obtain ⟨a1, a2⟩ := ha
  by_cases hn : a < 0
  · have H := Lib.hid (show -(a + 1) + 1 = (a.natAbs : Int) by omega)
    go_enter Try.func130, Try.ntmps130
    go_wp2
    go_ret
    exact ⟨by rw [← H.out]; rfl, rfl⟩
  · have H := Lib.hid (show a = (a.natAbs : Int) by omega)
    go_enter Try.func130, Try.ntmps130
    go_wp2
    go_ret
    exact ⟨by rw [← H.out]; rfl, rfl⟩

end Go.Proofs.Ytafkoddgefcpnaa
