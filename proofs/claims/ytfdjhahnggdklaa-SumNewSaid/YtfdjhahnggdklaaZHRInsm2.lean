/- Texts of these claims, one after the other. -/
import Derived.Test.YtfdjhahnggdklaaZGBasem8
import Derived.Test.YtfdjhahnggdklaaZGLawm3
import Derived.Test.YtfdjhahnggdklaaZHOrdm2
import Derived.Test.YtfdjhahnggdklaaZHPut
import Derived.Test.YtfdjhahnggdklaaZHRVal
import Derived.Test.YtfdjhahnggdklaaZHRowm3
import Derived.Test.YtfdjhahnggdklaaZHSmallm7
import Derived.Test.YtfdjhahnggdklaaZWCmpm5
import Derived.Test.YtfdjhahnggdklaaZWMathm9
namespace Go.Proofs.Ytfdjhahnggdklaa
open Go.RowKit

theorem roo_yes {L : List It} {m : Int} (h0 : 0 ≤ m) (h1 : m ≤ 1024) (h2 : 0 < m → totB L + m ≤ 1073741824) : rooB L m = true := by
  unfold rooB
  rw [decide_eq_true (p := 0 ≤ m ∧ m ≤ 1024) ⟨h0, h1⟩]
  by_cases h : m = 0
  · rw [decide_eq_true h]; rfl
  · rw [decide_eq_true (p := totB L + m ≤ 1073741824) (h2 (by omega))]; simp

end Go.Proofs.Ytfdjhahnggdklaa

namespace Go.Proofs.Ytfdjhahnggdklaa
open Go.RowKit
set_option linter.unusedVariables false

set_option maxHeartbeats 4000000 in
set_option maxRecDepth 100000 in
theorem rexpire_in (n k : Nat) (A : Option Addr) (L : List It) (f : Int) (_hn : n ≤ 50000) (hk : n ≤ k) (w0 w : World) (hS : Sl w0 A n L) (hu0 : Up w0 w) :
    Calls Try.prog 43 #[.slice A n k, .int .i64 f] w fun e w' => ∃ A' n' k', e = .returned (.slice A' n' k') ∧ n' ≤ n ∧ Sl w0 A' n' (exL L f) ∧ Up w w' := by
  have HP : Hid (exL L f = exL L f) := Lib.hid rfl
  have HS := Lib.hid hS
  have HU0 := Lib.hid hu0
  generalize hz : exL L f = Z at *
  have HZ := Lib.hid hz
  clear hS hz hu0
  go_enter Try.func43, Try.ntmps43
  go_wp2_with fail
  go_loopw [0] (fun t wr => ∃ (m c : Nat) (B : Option Addr) (M : List It), t = .slice B m c ∧ m ≤ c ∧ m ≤ n ∧ Hid (Sl w0 B m M) ∧ Hid (exL M f = Z) ∧ Hid (Up w wr)) (fun t _ => match t with | .slice _ m _ => m | _ => 0)
  case atStart => exact ⟨n, k, A, L, rfl, hk, Nat.le_refl _, HS, HZ, Lib.hid (Up.refl _)⟩
  case round =>
    obtain ⟨m, c, B, M, rfl, hmc, hmn, HM, HE, HU⟩ := hrel
    cases m with
    | zero =>
      have e : M = [] := List.eq_nil_of_length_eq_zero HM.out.1
      obtain rfl : Z = [] := by rw [← HE.out, e]; rfl
      clear HE HP HZ
      go_wp2_with fail
      go_ret
      exact ⟨_, _, _, rfl, by omega, Sl.none_, HU.out⟩
    | succ m =>
      obtain ⟨b, o, rfl, d0, _⟩ := (HM.out.up (HU0.out.trans HU.out)).at_ (show 0 < m + 1 by omega)
      simp only [Nat.zero_mul, Nat.add_zero] at d0
      have hl : 0 < M.length := by rw [HM.out.1]; omega
      have HX := Lib.hid (fun h2 => exL_step (L := M) (f := f) (i := 0) hl h2)
      have HY := Lib.hid (fun h2 => exL_stop (L := M) (f := f) (i := 0) hl h2)
      rw [List.drop_zero] at HX HY
      have HN : Hid (Sl w0 (if c = 1 then some ⟨b, o, none⟩ else some ⟨b, o + 2, none⟩) m (M.drop 1)) := Lib.hid (by
        have := HM.out.cut (k := 1) (cap := c) (by omega) hmc
        rw [Option.map_some, add_at, Nat.one_mul, Nat.add_sub_cancel] at this
        exact this)
      generalize (M.getD 0 (0, 0)).1 = p0 at *
      have f2 : (0 : Int) < (m : Int) + 1 := by omega
      by_cases hx : p0 < f
      · have HE1 : Hid (exL (M.drop 1) f = Z) := Lib.hid ((HX.out hx).symm.trans HE.out)
        clear HX HY HE hl
        go_wp2_with fail
        go_roundw
        case rel => exact ⟨m, c - 1, _, M.drop 1, rfl, by omega, by omega, HN, HE1, HU⟩
        case measure => simp
      · obtain rfl : Z = M := by rw [← HE.out]; exact HY.out hx
        clear HX HY HE HP HZ hl
        go_wp2_with fail
        go_ret
        exact ⟨_, _, ⟨_, rfl⟩, hmn, HM.out, HU.out⟩

end Go.Proofs.Ytfdjhahnggdklaa
