/- sort.Search with any function that says from where on; slices.IsSorted of numbers. -/
import Derived.Test.YtahcpmnbbdgkcaaCFrame
namespace Go.Proofs.Ytahcpmnbbdgkcaa
open Go.RowKit

set_option maxHeartbeats 4000000 in
set_option maxRecDepth 1000000 in
theorem search_up (g : Nat) (cb : Array Value) (n c : Nat) (w : World) (eg : ∀ args w, (callFunc g args).run Try.prog w = .ok (.enter g args) w) (hsz : n ≤ 17592186044416) (hc : c ≤ n)
    (hf : ∀ W, Up w W → ∀ i : Nat, i < n → Calls Try.prog g (#[.int .i64 i] ++ cb) W fun e W' => e = .returned (.bool (decide (c ≤ i))) ∧ Up W W') :
    Calls Try.prog 21 #[.int .i64 n, .func (.func g) #[] cb] w fun e w' => e = .returned (.int .i64 c) ∧ Up w w' := by
  have HF := Lib.hid hf
  clear hf
  go_enter Try.func21, Try.ntmps21
  go_wp2
  go_loopg [5, 6] n (fun kx s5 s6 wr => ∃ (lo hi : Nat), s5 = .int .i64 lo ∧ s6 = .int .i64 hi ∧ lo ≤ hi ∧ hi ≤ n ∧ hi - lo ≤ kx ∧ Hid (Up w wr) ∧ Hid (lo ≤ c ∧ c ≤ hi))
  case atStart => exact ⟨0, n, rfl, rfl, Nat.zero_le _, Nat.le_refl _, by omega, Lib.hid (Up.refl _), Lib.hid ⟨Nat.zero_le _, hc⟩⟩
  case round =>
    obtain ⟨lo, hi, rfl, rfl, hlh, hin, hg, HU, HI⟩ := hrel
    by_cases hlt : lo < hi
    · have hcall := HF.out _ HU.out ((lo + hi) / 2) (by omega)
      rw [show (((lo + hi) / 2 : Nat) : Int) = ((lo : Int) + (hi : Int)) / 2 by omega] at hcall
      by_cases hp : c ≤ (lo + hi) / 2
      · rw [decide_eq_true hp] at hcall
        have HP := Lib.hid hp
        clear hp hc
        go_wp2_with fail
        refine hcall.mono ?_
        rintro e w' ⟨rfl, hu⟩
        have HU2 := Lib.hid (HU.out.trans hu)
        clear hu hcall
        go_wp2_with fail
        go_roundg ((lo + hi) / 2 - lo)
        case measure => omega
        case rel => exact ⟨lo, (lo + hi) / 2, rfl, by rw [show ((lo : Int) + (hi : Int)) / 2 = (((lo + hi) / 2 : Nat) : Int) by omega], by omega, by omega, Nat.le_refl _, HU2, Lib.hid ⟨HI.out.1, HP.out⟩⟩
      · rw [decide_eq_false hp] at hcall
        have HP := Lib.hid hp
        clear hp hc
        go_wp2_with fail
        refine hcall.mono ?_
        rintro e w' ⟨rfl, hu⟩
        have HU2 := Lib.hid (HU.out.trans hu)
        clear hu hcall
        go_wp2_with fail
        go_roundg (hi - ((lo + hi) / 2 + 1))
        case measure => omega
        case rel => exact ⟨(lo + hi) / 2 + 1, hi, by rw [show ((lo : Int) + (hi : Int)) / 2 + 1 = (((lo + hi) / 2 + 1 : Nat) : Int) by omega], rfl, by omega, hin, Nat.le_refl _, HU2, Lib.hid ⟨by have := HP.out; omega, HI.out.2⟩⟩
    · obtain rfl : hi = lo := by omega
      obtain rfl : c = hi := by have := HI.out; omega
      go_wp2
      go_ret
      exact ⟨rfl, HU.out⟩
end Go.Proofs.Ytahcpmnbbdgkcaa
