/- Expire of package buckets and of its reference. -/
import Derived.Test.YtnhekeohbnmodaaZGBase
import Derived.Test.YtnhekeohbnmodaaZHRow
import Derived.Test.YtnhekeohbnmodaaZJHSmall
import Derived.Test.YtnhekeohbnmodaaZMath
import Derived.Test.YtnhekeohbnmodaaZWFormat
import Derived.Test.YtnhekeohbnmodaaZWide
namespace Go.Proofs.Ytnhekeohbnmodaa
open Go.RowKit

/-- What a tick leaves. -/
def exL (L : List It) (f : Int) : List It := L.dropWhile (fun x => decide (x.1 < f))
theorem exL_nil (f : Int) : exL [] f = [] := rfl
theorem exL_step {L : List It} {f : Int} {i : Nat} (h : i < L.length) (hx : (L.getD i (0, 0)).1 < f) : exL (L.drop i) f = exL (L.drop (i + 1)) f := by
  unfold exL
  rw [List.drop_eq_getElem_cons h, List.dropWhile_cons, if_pos]
  rw [gD_at h] at hx
  simpa using hx
theorem exL_stop {L : List It} {f : Int} {i : Nat} (h : i < L.length) (hx : ¬ (L.getD i (0, 0)).1 < f) : exL (L.drop i) f = L.drop i := by
  unfold exL
  rw [List.drop_eq_getElem_cons h, List.dropWhile_cons, if_neg]
  rw [gD_at h] at hx
  simpa using hx
theorem exL_end {L : List It} {f : Int} {i : Nat} (h : L.length ≤ i) : exL (L.drop i) f = L.drop i := by
  rw [List.drop_eq_nil_of_le h]; rfl
theorem exL_suffix (L : List It) (f : Int) : ∃ P, P ++ exL L f = L := ⟨L.takeWhile (fun x => decide (x.1 < f)), List.takeWhile_append_dropWhile⟩

set_option maxHeartbeats 4000000 in
set_option maxRecDepth 100000 in
theorem expire_up (n k : Nat) (A : Option Addr) (L : List It) (f : Int) (hn : n ≤ 50000) (hk : n ≤ k) (w : World) (hS : Sl w A n L) :
    Calls Try.prog 24 #[.slice A n k, .int .i64 f] w fun e w' => ∃ A' n' k', e = .returned (.slice A' n' k') ∧ n' ≤ n ∧ OwB w w' (.slice A' n' k') n' (exL L f) ∧ Up w w' := by
  have HL := Lib.hid hS.1
  have HS := Lib.hid hS
  have HP : Hid (exL (L.drop 0) f = exL L f) := Lib.hid rfl
  generalize exL L f = Z at *
  clear hS
  go_enter Try.func24, Try.ntmps24
  go_wp2_with fail
  go_loopw [5] (fun t wr => ∃ i : Nat, t = .int .i64 i ∧ i ≤ n ∧ Hid (exL (L.drop i) f = Z) ∧ Hid (Up w wr)) (fun t _ => n - (intOf t).toNat)
  case atStart => exact ⟨0, rfl, Nat.zero_le _, HP, Lib.hid (Up.refl _)⟩
  case round =>
    obtain ⟨i, rfl, hi, HE, HU⟩ := hrel
    have f3 : (0 : Int) ≤ i := by omega
    have hsl := fun W => sliceFrom_run A n k i hi W
    have HC := Lib.hid (fun W (hW : Up w W) => clone_up (n - i) (k - i) _ (L.drop i) (by omega) W ((HS.out.up hW).cut hi hk))
    by_cases h : i < n
    · obtain ⟨b, o, rfl, d0, _⟩ := (HS.out.up HU.out).at_ h
      have f2 : (i : Int) < n := by omega
      have HX := Lib.hid (fun h2 => exL_step (L := L) (f := f) (i := i) (by rw [HL.out]; exact h) h2)
      have HY := Lib.hid (fun h2 => exL_stop (L := L) (f := f) (i := i) (by rw [HL.out]; exact h) h2)
      generalize (L.getD i (0, 0)).1 = p0 at *
      by_cases hx : p0 < f
      · have HE1 : Hid (exL (L.drop (i + 1)) f = Z) := Lib.hid ((HX.out hx).symm.trans HE.out)
        clear HX HY HE HC hsl
        go_wp2_with fail
        go_roundw
        case rel => exact ⟨i + 1, by go_num, by omega, HE1, HU⟩
        case measure => simp [intOf]; omega
      · obtain rfl : Z = L.drop i := by rw [← HE.out]; exact HY.out hx
        clear HX HY HE HP
        generalize hA : (if k = i then some (⟨b, o, none⟩ : Addr) else (some (⟨b, o, none⟩ : Addr)).map (·.add (i * 2))) = A2 at hsl HC
        clear hA
        go_wp2_with (go_at_call 48; (with_reducible refine (HC.out _ HU.out).mono ?_); rintro e w3 ⟨A3, k3, rfl, ho3, hu3⟩)
        go_ret
        exact ⟨_, _, _, rfl, by omega, ho3.weak HU.out.size, HU.out.trans hu3⟩
    · obtain rfl : i = n := by omega
      obtain rfl : Z = L.drop i := by rw [← HE.out]; exact exL_end (by rw [HL.out]; exact Nat.le_refl _)
      clear HE HP
      generalize hA : (if k = i then A else A.map (·.add (i * 2))) = A2 at hsl HC
      clear hA
      rw [Nat.sub_self] at hsl HC
      go_wp2_with (go_at_call 48; (with_reducible refine (HC.out _ HU.out).mono ?_); rintro e w3 ⟨A3, k3, rfl, ho3, hu3⟩)
      go_ret
      exact ⟨_, _, _, rfl, by omega, ho3.weak HU.out.size, HU.out.trans hu3⟩
set_option maxHeartbeats 4000000 in
set_option maxRecDepth 100000 in
theorem rexpire_up (n k : Nat) (A : Option Addr) (L : List It) (f : Int) (_hn : n ≤ 50000) (hk : n ≤ k) (w : World) (hS : Sl w A n L) :
    Calls Try.prog 25 #[.slice A n k, .int .i64 f] w fun e w' => ∃ A' n' k', e = .returned (.slice A' n' k') ∧ n' ≤ n ∧ Sl w' A' n' (exL L f) ∧ Up w w' := by
  have HP : Hid (exL L f = exL L f) := Lib.hid rfl
  have HS := Lib.hid hS
  generalize hz : exL L f = Z at *
  have HZ := Lib.hid hz
  clear hS hz
  go_enter Try.func25, Try.ntmps25
  go_wp2_with fail
  go_loopw [0] (fun t wr => ∃ (m c : Nat) (B : Option Addr) (M : List It), t = .slice B m c ∧ m ≤ c ∧ m ≤ n ∧ Hid (Sl w B m M) ∧ Hid (exL M f = Z) ∧ Hid (Up w wr)) (fun t _ => match t with | .slice _ m _ => m | _ => 0)
  case atStart => exact ⟨n, k, A, L, rfl, hk, Nat.le_refl _, HS, HZ, Lib.hid (Up.refl _)⟩
  case round =>
    obtain ⟨m, c, B, M, rfl, hmc, hmn, HM, HE, HU⟩ := hrel
    cases m with
    | zero =>
      have e : M = [] := List.eq_nil_of_length_eq_zero HM.out.1
      obtain rfl : Z = [] := by rw [← HE.out, e]; rfl
      clear HE HP HZ
      go_wp2_with fail
      go_ret
      exact ⟨_, _, _, rfl, by omega, Sl.none_, HU.out⟩
    | succ m =>
      obtain ⟨b, o, rfl, d0, _⟩ := (HM.out.up HU.out).at_ (show 0 < m + 1 by omega)
      simp only [Nat.zero_mul, Nat.add_zero] at d0
      have hl : 0 < M.length := by rw [HM.out.1]; omega
      have HX := Lib.hid (fun h2 => exL_step (L := M) (f := f) (i := 0) hl h2)
      have HY := Lib.hid (fun h2 => exL_stop (L := M) (f := f) (i := 0) hl h2)
      rw [List.drop_zero] at HX HY
      have HN : Hid (Sl w (if c = 1 then some ⟨b, o, none⟩ else some ⟨b, o + 2, none⟩) m (M.drop 1)) := Lib.hid (by
        have := HM.out.cut (k := 1) (cap := c) (by omega) hmc
        rw [Option.map_some, add_at, Nat.one_mul, Nat.add_sub_cancel] at this
        exact this)
      generalize (M.getD 0 (0, 0)).1 = p0 at *
      have f2 : (0 : Int) < (m : Int) + 1 := by omega
      by_cases hx : p0 < f
      · have HE1 : Hid (exL (M.drop 1) f = Z) := Lib.hid ((HX.out hx).symm.trans HE.out)
        clear HX HY HE hl
        go_wp2_with fail
        go_roundw
        case rel => exact ⟨m, c - 1, _, M.drop 1, rfl, by omega, by omega, HN, HE1, HU⟩
        case measure => simp
      · obtain rfl : Z = M := by rw [← HE.out]; exact HY.out hx
        clear HX HY HE HP HZ hl
        go_wp2_with fail
        go_ret
        exact ⟨_, _, ⟨_, rfl⟩, hmn, HM.out.up HU.out, HU.out⟩
end Go.Proofs.Ytnhekeohbnmodaa
