/- Rows of marks: Include and Drop of the reference. -/
import Derived.Test.YtafkoddgefcpnaaRows
import Derived.Test.YtafkoddgefcpnaaZKFnq249
import Derived.Test.YtafkoddgefcpnaaZKMcq192
namespace Go.Proofs.Ytafkoddgefcpnaa
open Go.RowKit
set_option linter.unusedVariables false

set_option maxHeartbeats 4000000 in
set_option maxRecDepth 100000 in
theorem rdrop_up (n k : Nat) (A : Option Addr) (X : List Mrk) (td v : Int) (hn : n ≤ 50000) (hk : n ≤ k) (w0 w : World) (hS : SG cM w0 A n X) (hu0 : Up w0 w) :
    Calls Try.prog 71 #[.slice A n k, .int .i64 td, .int .i64 v] w fun e w' => ∃ A' n' k', e = .returned (.slice A' n' k') ∧ n' ≤ n ∧ n' ≤ k' ∧ Up w w' ∧ SG cM w0 A' n' (drM td v X) := by
  have HU0 := Lib.hid hu0
  have HZ0 : Hid (drL (fun m => liveB td v m.t) X = drM td v X) := Lib.hid rfl
  generalize drM td v X = Z at *
  have HS := Lib.hid hS
  have KL := Lib.hid (rlive_any td v)
  clear hS hu0
  go_enter Try.func71, Try.ntmps71
  go_wp2_with fail
  go_loopw [0] (fun t0 wr => ∃ (m kk : Nat) (B : Option Addr) (R : List Mrk), t0 = .slice B m kk ∧ m ≤ kk ∧ m ≤ n ∧ Hid (SG cM w0 B m R) ∧ Hid (drL (fun m => liveB td v m.t) R = Z) ∧ Hid (Up w wr)) (fun t0 _ => lnS t0)
  case atStart => exact ⟨n, k, A, X, rfl, hk, Nat.le_refl _, HS, HZ0, Lib.hid (Up.refl w)⟩
  case round =>
    obtain ⟨m, kk, B, R, rfl, hmk, hmn, HR, HZ, HW⟩ := hrel
    by_cases h1 : 1 < m
    · obtain ⟨a, T, e1, e2⟩ := list_two HR.out.1 h1
      have hc := HR.out.cut cM_len (k := 1) (cap := kk) (by omega) hmk
      obtain ⟨b, o, rfl, d0, d1, d2, d3, d4, d5, d6⟩ := mrk_at (HR.out.up (HU0.out.trans HW.out)) mk0 h1
      have HC : Hid (SG cM w0 (some ⟨b, o + 7, none⟩) (m - 1) (R.drop 1)) := Lib.hid (by
        rw [if_neg (show ¬ kk = 1 by omega)] at hc
        simpa [add_at] using hc)
      have hrun := sliceM_run (some ⟨b, o, none⟩) m kk (by omega)
      have HE : Hid (liveB td v (R.getD 1 mk0).t = false → drL (fun m => liveB td v m.t) (R.drop 1) = Z) := Lib.hid (fun h => by
        rw [← HZ.out, e2]; conv => rhs; rw [e1]
        exact (drL_two h).symm)
      have HE2 : Hid (liveB td v (R.getD 1 mk0).t = true → R = Z) := Lib.hid (fun h => by
        rw [← HZ.out]; conv => rhs; rw [e1]
        rw [drL_stop h]; exact e1)
      clear e1 e2 hc
      generalize (R.getD 1 mk0).t = t1 at *
      have z1 : (1 : Int) < m := by omega
      have z2 : ¬ ((m : Int) = 1) := by omega
      have z3 : ((m : Int) == 1) = false := beq_eq_false_iff_ne.2 z2
      simp only [Nat.one_mul] at d0 d1 d2 d3 d4 d5 d6
      have KJ := Lib.hid (KL.out t1)
      cases hl : liveB td v t1 with
      | false =>
        have HE := Lib.hid (HE.out hl)
        rw [hl] at KJ
        clear hl HE2
        go_wp2_with (go_at_call 78; (with_reducible refine (KJ.out _).mono ?_); rintro e w' ⟨rfl, rfl⟩)
        go_roundw
        case rel => exact ⟨m - 1, kk - 1, some ⟨b, o + 7, none⟩, R.drop 1, rfl, by omega, by omega, HC, HE, HW⟩
        case measure => simp [lnS]; omega
      | true =>
        obtain rfl : R = Z := HE2.out hl
        rw [hl] at KJ
        clear hl HE
        go_wp2_with (go_at_call 78; (with_reducible refine (KJ.out _).mono ?_); rintro e w' ⟨rfl, rfl⟩)
        go_ret
        exact ⟨_, _, _, rfl, hmn, hmk, HW.out, HR.out⟩
    · by_cases h2 : m = 1
      · subst h2
        obtain ⟨b, o, rfl, d0, d1, d2, d3, d4, d5, d6⟩ := mrk_at (HR.out.up (HU0.out.trans HW.out)) mk0 Nat.zero_lt_one
        have HE : Hid (drL (fun m => liveB td v m.t) [R.getD 0 mk0] = Z) := Lib.hid (by rw [← list_one HR.out.1]; exact HZ.out)
        have HE2 : Hid (R = [R.getD 0 mk0]) := Lib.hid (list_one HR.out.1)
        have HE3 : Hid (liveB td v (R.getD 0 mk0).t = false → Z = []) := Lib.hid (fun h => by rw [← HE.out, drL_one, h]; rfl)
        have HE4 : Hid (liveB td v (R.getD 0 mk0).t = true → Z = R) := Lib.hid (fun h => by rw [← HE.out, drL_one, h, if_pos rfl]; exact HE2.out.symm)
        generalize (R.getD 0 mk0).t = t1 at *
        simp only [Nat.zero_mul, Nat.add_zero] at d0 d1 d2 d3 d4 d5 d6
        have KJ := Lib.hid (KL.out t1)
        cases hl : liveB td v t1 with
        | false =>
          obtain rfl : Z = [] := HE3.out hl
          rw [hl] at KJ
          clear hl HE HE2 HE3 HE4
          go_wp2_with (go_at_call 78; (with_reducible refine (KJ.out _).mono ?_); rintro e w' ⟨rfl, rfl⟩)
          go_ret
          exact ⟨_, _, _, rfl, Nat.zero_le _, Nat.le_refl _, HW.out, SG.none_⟩
        | true =>
          obtain rfl : Z = R := HE4.out hl
          rw [hl] at KJ
          clear hl HE HE2 HE3 HE4
          go_wp2_with (go_at_call 78; (with_reducible refine (KJ.out _).mono ?_); rintro e w' ⟨rfl, rfl⟩)
          go_ret
          exact ⟨_, _, _, rfl, hmn, hmk, HW.out, HR.out⟩
      · obtain rfl : m = 0 := by omega
        have e : R = [] := List.eq_nil_of_length_eq_zero HR.out.1
        have hz := HZ.out
        rw [e] at hz
        have hz2 : Z = [] := hz.symm
        subst hz2
        clear e hz
        go_wp2_with fail
        go_ret
        exact ⟨_, _, _, rfl, Nat.zero_le _, hmk, HW.out, SG.none_⟩
end Go.Proofs.Ytafkoddgefcpnaa
