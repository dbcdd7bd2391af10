/- Canonical and Most of package buckets and of its reference; the example of the chapter. -/
import Derived.Test.YtnhekeohbnmodaaZAwake
import Derived.Test.YtnhekeohbnmodaaZCFrame
import Derived.Test.YtnhekeohbnmodaaZGBase
import Derived.Test.YtnhekeohbnmodaaZGLaw
import Derived.Test.YtnhekeohbnmodaaZHMath
import Derived.Test.YtnhekeohbnmodaaZHRow
import Derived.Test.YtnhekeohbnmodaaZJHSame
import Derived.Test.YtnhekeohbnmodaaZJHSmall
import Derived.Test.YtnhekeohbnmodaaZMath
import Derived.Test.YtnhekeohbnmodaaZWide
namespace Go.Proofs.Ytnhekeohbnmodaa
open Go.RowKit

def caB (n k : Int) : Bool := decide (0 ≤ n ∧ n ≤ 1073741824) && kB k
def caR (n k : Int) : List Int := if caB n k = true then caL k 31 n else []
theorem caR_no {n k : Int} (h : caB n k = false) : caR n k = [] := by unfold caR; rw [h]; rfl
theorem caR_yes {n k : Int} (h : caB n k = true) : caR n k = caL k 31 n := by unfold caR; rw [if_pos h]
theorem ca_low {n k : Int} (h : n < 0) : caB n k = false := by unfold caB; rw [decide_eq_false (p := 0 ≤ n ∧ n ≤ 1073741824) (by omega)]; rfl
theorem ca_high {n k : Int} (h : 1073741824 < n) : caB n k = false := by unfold caB; rw [decide_eq_false (p := 0 ≤ n ∧ n ≤ 1073741824) (by omega)]; rfl
theorem ca_k {n k : Int} (h : kB k = false) : caB n k = false := by unfold caB; rw [h]; simp
theorem ca_true {n k : Int} (h : caB n k = true) : (0 ≤ n ∧ n ≤ 1073741824) ∧ 1 ≤ k ∧ k ≤ 128 := by
  unfold caB at h
  rw [Bool.and_eq_true, decide_eq_true_eq] at h
  exact ⟨h.1, kB_true h.2⟩
theorem pow31 : (2 : Int) ^ 31 = 2147483648 := by decide

set_option maxHeartbeats 4000000 in
set_option maxRecDepth 100000 in
theorem canonical_up (n k : Int) (w : World) :
    Calls Try.prog 31 #[.int .i64 n, .int .i64 k] w fun e w' => ∃ A' c' k', e = .returned (.slice A' c' k') ∧ c' ≤ 31 ∧ OwI w w' (.slice A' c' k') c' (caR n k) ∧ Up w w' := by
  have KK := Lib.hid (isK_any k)
  by_cases h1 : n < 0
  · rw [caR_no (ca_low h1)]
    go_enter Try.func31, Try.ntmps31
    go_wp2_with fail
    go_ret
    exact ⟨_, _, _, rfl, by omega, OwI.nil _ _, Up.refl _⟩
  by_cases h2 : 1073741824 < n
  · rw [caR_no (ca_high h2)]
    go_enter Try.func31, Try.ntmps31
    go_wp2_with fail
    go_ret
    exact ⟨_, _, _, rfl, by omega, OwI.nil _ _, Up.refl _⟩
  cases hk : kB k with
  | false =>
    rw [caR_no (ca_k hk)]
    rw [hk] at KK
    clear hk
    go_enter Try.func31, Try.ntmps31
    go_wp2_with (go_at_call 38; (with_reducible refine (KK.out _).mono ?_); rintro e w' ⟨rfl, rfl⟩)
    go_ret
    exact ⟨_, _, _, rfl, by omega, OwI.nil _ _, Up.refl _⟩
  | true =>
  rw [hk] at KK
  have hq := kB_true hk
  have e0 : caR n k = caL k 31 n := caR_yes (by unfold caB; rw [decide_eq_true (p := 0 ≤ n ∧ n ≤ 1073741824) (by omega), hk]; rfl)
  have HZ := Lib.hid e0.symm
  generalize caR n k = Z at *
  have HP : Hid (n < 2 ^ 31) := Lib.hid (by rw [pow31]; omega)
  clear hk e0
  go_enter Try.func31, Try.ntmps31
  go_wp2_with (go_at_call 38; (with_reducible refine (KK.out _).mono ?_); rintro e w' ⟨rfl, rfl⟩)
  go_loopw [0, 5] (fun s0 s5 wr => ∃ (f c k' : Nat) (A' : Option Addr) (u : Int) (P : List Int), s0 = .int .i64 u ∧ s5 = .slice A' c k' ∧ c + f = 31 ∧ 0 ≤ u ∧ u ≤ 1073741824 ∧ Hid (u < 2 ^ f) ∧ Hid (P ++ caL k f u = Z) ∧ Hid (OwI w wr (.slice A' c k') c P) ∧ Hid (Up w wr)) (fun s0 s5 _ => (intOf s0).toNat)
  case atStart => exact ⟨31, 0, _, _, n, [], rfl, rfl, rfl, by omega, by omega, HP, HZ, Lib.hid (OwI.nil _ _), Lib.hid (Up.refl _)⟩
  case round =>
    clear HP HZ
    obtain ⟨f, c, k', A', u, P, rfl, rfl, hcf, hu0, hu1, HF, HZ, HO, HU⟩ := hrel
    by_cases hu : 0 < u
    · cases f with
      | zero =>
        exfalso
        have := HF.out
        rw [Int.pow_zero] at this
        omega
      | succ f =>
        have HZ1 : Hid (P ++ [u - 2 * mdB u k] ++ caL k f (mdB u k) = Z) := Lib.hid (by rw [← HZ.out, caL_step hu, List.append_assoc]; rfl)
        have HF1 : Hid (mdB u k < 2 ^ f) := Lib.hid (by
          have := HF.out
          rw [pow_succ2] at this
          have := mdB_half hq.1 hu0
          omega)
        have hm0 := mdB_low (u := u) (k := k)
        have hm1 := mdB_half hq.1 hu0
        have hmd : mdB u k = if u ≤ k + 1 then 0 else (u - k) / 2 := rfl
        have hm2 : 0 < u - 2 * mdB u k := mdB_pos hq.1 hu
        generalize mdB u k = m at *
        obtain ⟨A2, k2, w2, hr, o2, u2⟩ := append1J 36 w wr A' c k' P (u - 2 * m) HO.out HU.out (by omega)
        have HR := Lib.hid hr
        have HO2 := Lib.hid o2
        have HU2 := Lib.hid u2
        clear HZ HF HO HU hr o2 u2
        by_cases hb : u ≤ k + 0
        · obtain rfl : m = 0 := by
            by_cases g : u ≤ k + 1
            · rw [if_pos g] at hmd; exact hmd
            · rw [if_neg g] at hmd; omega
          rw [Int.mul_zero, Int.sub_zero] at HR HZ1 HO2
          have hmax : max 0 (u - k) / 2 = 0 := by omega
          clear hmd
          have hx : max 0 (u - k) = 0 := by omega
          go_wp2_with (refine wpList_append_run (o := ⟨some 31, _, _, _, _, _⟩) rfl (.tmp 25) (.tmp 30) _ rfl _ _ rfl rfl _ _ HR.out ?_)
          go_roundw
          case rel => exact ⟨f, c + 1, k2, A2, 0, _, rfl, rfl, by omega, by omega, by omega, HF1, HZ1, HO2, HU2⟩
          case measure => simp [intOf]; omega
        · have htd : (u - k).tdiv 2 = m := by
            rw [Int.tdiv_eq_ediv_of_nonneg (by omega), hmd]
            by_cases g : u ≤ k + 1
            · rw [if_pos g]; omega
            · rw [if_neg g]
          have hx : max 0 (u - k) = u - k := by omega
          clear hmd
          go_wp2_with (refine wpList_append_run (o := ⟨some 31, _, _, _, _, _⟩) rfl (.tmp 25) (.tmp 30) _ rfl _ _ rfl rfl _ _ HR.out ?_)
          go_roundw
          case rel => exact ⟨f, c + 1, k2, A2, m, _, rfl, rfl, by omega, by omega, by omega, HF1, HZ1, HO2, HU2⟩
          case measure => simp [intOf]; omega
    · obtain rfl : u = 0 := by omega
      obtain rfl : Z = P := by rw [← HZ.out, caL_at (Int.le_refl _), List.append_nil]
      clear HZ HF
      go_wp2_with fail
      go_ret
      exact ⟨_, _, _, rfl, by omega, HO.out, HU.out⟩
set_option maxHeartbeats 4000000 in
set_option maxRecDepth 100000 in
theorem rcanonical_up (n k : Int) (w : World) :
    Calls Try.prog 32 #[.int .i64 n, .int .i64 k] w fun e w' => ∃ A' c' k', e = .returned (.slice A' c' k') ∧ c' ≤ 31 ∧ OwI w w' (.slice A' c' k') c' (caR n k) ∧ Up w w' := by
  have KK := Lib.hid (mayK_any k)
  by_cases h1 : n < 0
  · rw [caR_no (ca_low h1)]
    go_enter Try.func32, Try.ntmps32
    go_wp2_with fail
    go_ret
    exact ⟨_, _, _, rfl, by omega, OwI.nil _ _, Up.refl _⟩
  by_cases h2 : 1073741824 < n
  · rw [caR_no (ca_high h2)]
    go_enter Try.func32, Try.ntmps32
    go_wp2_with fail
    go_ret
    exact ⟨_, _, _, rfl, by omega, OwI.nil _ _, Up.refl _⟩
  cases hk : kB k with
  | false =>
    rw [caR_no (ca_k hk)]
    rw [hk] at KK
    clear hk
    go_enter Try.func32, Try.ntmps32
    go_wp2_with (go_at_call 41; (with_reducible refine (KK.out _).mono ?_); rintro e w' ⟨rfl, rfl⟩)
    go_ret
    exact ⟨_, _, _, rfl, by omega, OwI.nil _ _, Up.refl _⟩
  | true =>
  rw [hk] at KK
  have hq := kB_true hk
  have e0 : caR n k = caL k 31 n := caR_yes (by unfold caB; rw [decide_eq_true (p := 0 ≤ n ∧ n ≤ 1073741824) (by omega), hk]; rfl)
  have HZ := Lib.hid e0.symm
  generalize caR n k = Z at *
  have HP : Hid (n < 2 ^ 31) := Lib.hid (by rw [pow31]; omega)
  clear hk e0
  go_enter Try.func32, Try.ntmps32
  go_wp2_with (go_at_call 41; (with_reducible refine (KK.out _).mono ?_); rintro e w' ⟨rfl, rfl⟩)
  go_loopw [5, 6] (fun s5 s0 wr => ∃ (f c k' : Nat) (A' : Option Addr) (u : Int) (P : List Int), s0 = .int .i64 u ∧ s5 = .slice A' c k' ∧ c + f = 31 ∧ 0 ≤ u ∧ u ≤ 1073741824 ∧ Hid (u < 2 ^ f) ∧ Hid (P ++ caL k f u = Z) ∧ Hid (OwI w wr (.slice A' c k') c P) ∧ Hid (Up w wr)) (fun s5 s0 _ => (intOf s0).toNat)
  case atStart => exact ⟨31, 0, _, _, n, [], rfl, rfl, rfl, by omega, by omega, HP, HZ, Lib.hid (OwI.nil _ _), Lib.hid (Up.refl _)⟩
  case round =>
    clear HP HZ
    obtain ⟨f, c, k', A', u, P, rfl, rfl, hcf, hu0, hu1, HF, HZ, HO, HU⟩ := hrel
    by_cases hu : 0 < u
    · cases f with
      | zero =>
        exfalso
        have := HF.out
        rw [Int.pow_zero] at this
        omega
      | succ f =>
        have HZ1 : Hid (P ++ [u - 2 * mdB u k] ++ caL k f (mdB u k) = Z) := Lib.hid (by rw [← HZ.out, caL_step hu, List.append_assoc]; rfl)
        have HF1 : Hid (mdB u k < 2 ^ f) := Lib.hid (by
          have := HF.out
          rw [pow_succ2] at this
          have := mdB_half hq.1 hu0
          omega)
        have hm0 := mdB_low (u := u) (k := k)
        have hm1 := mdB_half hq.1 hu0
        have hmd : mdB u k = if u ≤ k + 1 then 0 else (u - k) / 2 := rfl
        have hm2 : 0 < u - 2 * mdB u k := mdB_pos hq.1 hu
        generalize mdB u k = m at *
        obtain ⟨A2, k2, w2, hr, o2, u2⟩ := append1J 36 w wr A' c k' P (u - 2 * m) HO.out HU.out (by omega)
        have HR := Lib.hid hr
        have HO2 := Lib.hid o2
        have HU2 := Lib.hid u2
        clear HZ HF HO HU hr o2 u2
        by_cases hb : u ≤ k + 1
        · obtain rfl : m = 0 := by
            by_cases g : u ≤ k + 1
            · rw [if_pos g] at hmd; exact hmd
            · rw [if_neg g] at hmd; omega
          rw [Int.mul_zero, Int.sub_zero] at HR HZ1 HO2
          have hmax : max 0 (u - k) / 2 = 0 := by omega
          clear hmd
          have hx : u ≤ k + 1 := hb
          go_wp2_with (refine wpList_append_run (o := ⟨some 36, _, _, _, _, _⟩) rfl (.tmp 30) (.tmp 35) _ rfl _ _ rfl rfl _ _ HR.out ?_)
          go_roundw
          case rel => exact ⟨f, c + 1, k2, A2, 0, _, rfl, rfl, by omega, by omega, by omega, HF1, HZ1, HO2, HU2⟩
          case measure => simp [intOf]; omega
        · have htd : (u - k).tdiv 2 = m := by
            rw [Int.tdiv_eq_ediv_of_nonneg (by omega), hmd]
            by_cases g : u ≤ k + 1
            · rw [if_pos g]; omega
            · rw [if_neg g]
          have hx : k + 1 < u := by omega
          clear hmd
          go_wp2_with (refine wpList_append_run (o := ⟨some 36, _, _, _, _, _⟩) rfl (.tmp 30) (.tmp 35) _ rfl _ _ rfl rfl _ _ HR.out ?_)
          go_roundw
          case rel => exact ⟨f, c + 1, k2, A2, m, _, rfl, rfl, by omega, by omega, by omega, HF1, HZ1, HO2, HU2⟩
          case measure => simp [intOf]; omega
    · obtain rfl : u = 0 := by omega
      obtain rfl : Z = P := by rw [← HZ.out, caL_at (Int.le_refl _), List.append_nil]
      clear HZ HF
      go_wp2_with fail
      go_ret
      exact ⟨_, _, _, rfl, by omega, HO.out, HU.out⟩

theorem bitsZ_le : ∀ (m : Nat) (n : Int), n < 2 ^ m → bitsZ n ≤ m := by
  intro m
  induction m with
  | zero => intro n h; rw [Int.pow_zero] at h; rw [bitsZ_low n (by omega)]; exact Int.le_refl _
  | succ m ih =>
    intro n h
    by_cases h0 : n ≤ 0
    · rw [bitsZ_low n h0]; omega
    · rw [pow_succ2] at h
      have := ih (n / 2) (by omega)
      rw [bitsZ_step n (by omega)]
      omega
theorem pow63 : (2 : Int) ^ 63 = 9223372036854775808 := by decide
def moZ (k c : Int) : Int := if kB k = true then (k + 1) * bitsZ c else 0
theorem mo_bound {k c : Int} (hk : kB k = true) (hc : In c) : (0 ≤ bitsZ c ∧ bitsZ c ≤ 63) ∧ 0 ≤ (k + 1) * bitsZ c ∧ (k + 1) * bitsZ c ≤ 8127 := by
  have h := kB_true hk
  have b0 := (bitsZ_bound c).1
  have b1 := bitsZ_le 63 c (by rw [pow63]; have := hc.2; omega)
  refine ⟨⟨b0, by omega⟩, Int.mul_nonneg (by omega) b0, ?_⟩
  have : (k + 1) * bitsZ c ≤ 129 * 63 := Int.mul_le_mul (by omega) (by omega) b0 (by omega)
  omega
theorem most_any (k c : Int) (hc : In c) (w : World) :
    Calls Try.prog 33 #[.int .i64 k, .int .i64 c] w fun e w' => e = .returned (.int .i64 (moZ k c)) ∧ w = w' := by
  have KK := Lib.hid (isK_any k)
  cases hk : kB k with
  | false =>
    rw [hk] at KK
    rw [show moZ k c = 0 by unfold moZ; rw [hk]; rfl]
    clear hk
    go_enter Try.func33, Try.ntmps33
    go_wp2_with (go_at_call 38; (with_reducible refine (KK.out _).mono ?_); rintro e w' ⟨rfl, rfl⟩)
    go_ret
    exact ⟨rfl, rfl⟩
  | true =>
    obtain ⟨⟨b1, b2⟩, b3, b4⟩ := mo_bound hk hc
    have h := kB_true hk
    rw [show moZ k c = (k + 1) * bitsZ c by unfold moZ; rw [if_pos hk]]
    rw [hk] at KK
    have KB := Lib.hid (bits_any c hc)
    generalize bitsZ c = z at *
    have e1 : IntKind.i64.wrap ((k + 1) * z) = (k + 1) * z := by rw [IntKind.wrap_i64]; omega
    clear hk
    go_enter Try.func33, Try.ntmps33
    go_wp2_with (first | (go_at_call 38; (with_reducible refine (KK.out _).mono ?_); rintro e w' ⟨rfl, rfl⟩) | (go_at_call 55; (with_reducible refine (KB.out _).mono ?_); rintro e w' ⟨rfl, rfl⟩))
    go_ret
    exact ⟨rfl, rfl⟩
theorem rmost_any (k c : Int) (hc : In c) (w : World) :
    Calls Try.prog 34 #[.int .i64 k, .int .i64 c] w fun e w' => e = .returned (.int .i64 (moZ k c)) ∧ w = w' := by
  have KK := Lib.hid (mayK_any k)
  cases hk : kB k with
  | false =>
    rw [hk] at KK
    rw [show moZ k c = 0 by unfold moZ; rw [hk]; rfl]
    clear hk
    go_enter Try.func34, Try.ntmps34
    go_wp2_with (go_at_call 41; (with_reducible refine (KK.out _).mono ?_); rintro e w' ⟨rfl, rfl⟩)
    go_ret
    exact ⟨rfl, rfl⟩
  | true =>
    by_cases hneg : c < 0
    · rw [show moZ k c = 0 by unfold moZ; rw [if_pos hk, bitsZ_low c (by omega), Int.mul_zero]]
      rw [hk] at KK
      clear hk
      go_enter Try.func34, Try.ntmps34
      go_wp2_with (go_at_call 41; (with_reducible refine (KK.out _).mono ?_); rintro e w' ⟨rfl, rfl⟩)
      go_ret
      exact ⟨rfl, rfl⟩
    obtain ⟨⟨b1, b2⟩, b3, b4⟩ := mo_bound hk hc
    have h := kB_true hk
    rw [show moZ k c = (k + 1) * bitsZ c by unfold moZ; rw [if_pos hk]]
    rw [hk] at KK
    have KB := Lib.hid (rbits_any c hc)
    generalize bitsZ c = z at *
    have e1 : IntKind.i64.wrap ((k + 1) * z) = (k + 1) * z := by rw [IntKind.wrap_i64]; omega
    clear hk
    go_enter Try.func34, Try.ntmps34
    go_wp2_with (first | (go_at_call 41; (with_reducible refine (KK.out _).mono ?_); rintro e w' ⟨rfl, rfl⟩) | (go_at_call 56; (with_reducible refine (KB.out _).mono ?_); rintro e w' ⟨rfl, rfl⟩))
    go_ret
    exact ⟨rfl, rfl⟩
theorem two_new (w : World) : Sn (w.alloc (.cells #[.int .i64 2, .int .i64 1] 3)) (some ⟨w.heap.size, 0, none⟩) 2 [2, 1] := by
  refine ⟨rfl, fun _ => ⟨w.heap.size, 0, rfl, fun j hj => ?_⟩⟩
  rw [Nat.zero_add, Blk.cell (Blk.new w _ _)]
  rcases (by omega : j = 0 ∨ j = 1) with rfl | rfl <;> rfl
theorem awake10_up (w : World) : Calls Try.prog 13 #[] w fun e w' => e = .returned (.bool true) ∧ Up w w' := by
  have e0 : caR 4 1 = [2, 1] := by decide
  have KC := Lib.hid (canonical_up 4 1 w)
  rw [e0] at KC
  go_enter Try.func13, Try.ntmps13
  go_wp2_with (first | (go_at_call 31; (with_reducible refine KC.out.mono ?_); rintro e w1 ⟨A1, c1, k1, rfl, _, ho, hu⟩; obtain ⟨A2, k2, e2, _, hs⟩ := ho.sl; cases e2; have hl := hs.1; obtain rfl : c1 = 2 := hl.symm; have HS := Lib.hid hs; have HU := Lib.hid hu; clear hs hu ho) | (go_at_call 26; (with_reducible refine (sameI_t 2 k1 2 A1 (some ⟨w1.heap.size, 0, none⟩) [2, 1] (by omega) _ (HS.out.up ((Up.refl _).alloc _ _)) (two_new w1)).mono ?_); rintro e w2 ⟨rfl, hu2⟩))
  go_ret
  exact ⟨rfl, (HU.out.alloc _ _).trans hu2⟩
end Go.Proofs.Ytnhekeohbnmodaa
