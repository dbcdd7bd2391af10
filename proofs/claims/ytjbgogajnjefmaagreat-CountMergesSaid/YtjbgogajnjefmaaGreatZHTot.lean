/- What Total of package buckets and of its reference returns; hasRoom. -/
import Derived.Test.YtjbgogajnjefmaaGreatZHSmallm2
import Derived.Test.YtjbgogajnjefmaaGreatZWKeepm7
import Derived.Test.YtjbgogajnjefmaaGreatZWMathm8
namespace Go.Proofs.YtjbgogajnjefmaaGreat
open Go.RowKit

theorem take_nx {L : List It} {i : Nat} (h : i < L.length) : L.take (i + 1) = L.take i ++ [L.getD i (0, 0)] := by
  rw [List.take_add_one]
  simp [List.getD, h]
theorem totB_take {L : List It} {i : Nat} (h : i < L.length) : totB (L.take (i + 1)) = totB (L.take i) + szB (L.getD i (0, 0)).2 := by
  rw [take_nx h, totB_app]; simp [totB]
theorem totB_take_high (L : List It) (i : Nat) : totB (L.take i) ≤ 1073741824 * (i : Int) := by
  have := totB_high (L.take i)
  rw [List.length_take] at this
  omega
theorem take_all {L : List It} {n : Nat} (h : L.length = n) : L.take n = L := List.take_of_length_le (by omega)
set_option maxHeartbeats 4000000 in
theorem total10_up (n k : Nat) (A : Option Addr) (L : List It) (hn : n ≤ 100000) (w : World) (hS : Sl w A n L) :
    Calls Tryz.prog 16 #[.slice A n k] w fun e w' => e = .returned (.int .i64 (totB L)) ∧ Up w w' := by
  have HL := Lib.hid hS.1
  have HS := Lib.hid hS
  have KZ := Lib.hid size_up
  clear hS
  go_enter Tryz.func16, Tryz.ntmps16
  go_wp2_with fail
  go_loopw [3, 8] (fun s t wr => ∃ i : Nat, s = .int .i64 (totB (L.take i)) ∧ t = .int .i64 i ∧ i ≤ n ∧ Up w wr) (fun _ t _ => n - (intOf t).toNat)
  case atStart => exact ⟨0, rfl, rfl, Nat.zero_le _, Up.refl _⟩
  case round =>
    obtain ⟨i, rfl, rfl, hin, hU⟩ := hrel
    have HU := Lib.hid hU
    clear hU
    by_cases hi : i < n
    · obtain ⟨b, o, rfl, d0, d1⟩ := (HS.out.up HU.out).at_ hi
      have HN1 := Lib.hid (totB_take (L := L) (i := i) (by rw [HL.out]; exact hi))
      have q1 := totB_low (L.take i)
      have q2 := totB_take_high L i
      generalize totB (L.take i) = s at *
      generalize (L.getD i (0, 0)).1 = p0 at *
      generalize (L.getD i (0, 0)).2 = p1 at *
      have q3 := szB_low p1
      have q4 := szB_high p1
      have f2 : (i : Int) < n := by omega
      have f3 : (0 : Int) ≤ i := by omega
      have K1 := Lib.hid (KZ.out p0 p1)
      generalize szB p1 = z at *
      go_wp2_with (go_at_call 28; (with_reducible refine (K1.out _).mono ?_); rintro e w2 ⟨rfl, hu2⟩; have HU2 := Lib.hid hu2; clear hu2)
      go_roundw
      case rel => exact ⟨i + 1, by rw [HN1.out], by go_num, by omega, (HU.out.alloc _ _).trans HU2.out⟩
      case measure => simp [intOf]; omega
    · obtain rfl : i = n := by omega
      rw [take_all HL.out]
      go_wp2_with fail
      go_ret
      exact ⟨rfl, HU.out⟩
set_option maxHeartbeats 4000000 in
theorem rtotal10_up (n k : Nat) (A : Option Addr) (L : List It) (hn : n ≤ 100000) (w : World) (hS : Sl w A n L) :
    Calls Tryz.prog 40 #[.slice A n k] w fun e w' => e = .returned (.int .i64 (totB L)) ∧ Up w w' := by
  have HL := Lib.hid hS.1
  have HS := Lib.hid hS
  clear hS
  go_enter Tryz.func40, Tryz.ntmps40
  go_wp2_with fail
  go_loopw [3, 8] (fun s t wr => ∃ i : Nat, s = .int .i64 (totB (L.take i)) ∧ t = .int .i64 i ∧ i ≤ n ∧ Up w wr) (fun _ t _ => n - (intOf t).toNat)
  case atStart => exact ⟨0, rfl, rfl, Nat.zero_le _, Up.refl _⟩
  case round =>
    obtain ⟨i, rfl, rfl, hin, hU⟩ := hrel
    have HU := Lib.hid hU
    clear hU
    by_cases hi : i < n
    · obtain ⟨b, o, rfl, d0, d1⟩ := (HS.out.up HU.out).at_ hi
      have HN1 := Lib.hid (totB_take (L := L) (i := i) (by rw [HL.out]; exact hi))
      have q1 := totB_low (L.take i)
      have q2 := totB_take_high L i
      generalize totB (L.take i) = s at *
      generalize (L.getD i (0, 0)).1 = p0 at *
      generalize (L.getD i (0, 0)).2 = p1 at *
      have f2 : (i : Int) < n := by omega
      have f3 : (0 : Int) ≤ i := by omega
      by_cases h1 : 0 ≤ p1
      · by_cases h2 : p1 ≤ 30
        · have e0 : Hid (totB (L.take (i + 1)) = wrap64 (s + wrap64 (2 ^ p1.toNat))) := Lib.hid (by
            rw [HN1.out]
            have q3 := szB_low p1
            have q4 := szB_high p1
            have e : szB p1 = 2 ^ p1.toNat := by unfold szB; rw [if_pos ⟨h1, h2⟩]
            rw [← e]
            unfold wrap64; omega)
          have hz : (IntKind.u64.wrap p1) = p1 := by rw [IntKind.wrap_u64]; omega
          clear HN1
          go_wp2_with fail
          go_roundw
          case rel => exact ⟨i + 1, by rw [e0.out], by go_num, by omega, HU.out.alloc _ _⟩
          case measure => simp [intOf]; omega
        · have e0 : Hid (totB (L.take (i + 1)) = s) := Lib.hid (by
            rw [HN1.out, show szB p1 = 0 by unfold szB; rw [if_neg (fun h => h2 h.2)]]; omega)
          clear HN1
          go_wp2_with fail
          go_roundw
          case rel => exact ⟨i + 1, by rw [e0.out], by go_num, by omega, HU.out.alloc _ _⟩
          case measure => simp [intOf]; omega
      · have e0 : Hid (totB (L.take (i + 1)) = s) := Lib.hid (by
          rw [HN1.out, show szB p1 = 0 by unfold szB; rw [if_neg (fun h => h1 h.1)]]; omega)
        clear HN1
        go_wp2_with fail
        go_roundw
        case rel => exact ⟨i + 1, by rw [e0.out], by go_num, by omega, HU.out.alloc _ _⟩
        case measure => simp [intOf]; omega
    · obtain rfl : i = n := by omega
      rw [take_all HL.out]
      go_wp2_with fail
      go_ret
      exact ⟨rfl, HU.out⟩

def rooB (L : List It) (n : Int) : Bool := decide (0 ≤ n ∧ n ≤ 1024) && (decide (n = 0) || decide (totB L + n ≤ 1073741824))
set_option maxHeartbeats 4000000 in
theorem hasRoom_up (n k : Nat) (A : Option Addr) (L : List It) (m : Int) (hn : n ≤ 100000) (w : World) (hS : Sl w A n L) :
    Calls Tryz.prog 57 #[.slice A n k, .int .i64 m] w fun e w' => e = .returned (.bool (rooB L m)) ∧ Up w w' := by
  have KT := Lib.hid (total10_up n k A L hn w hS)
  by_cases h1 : m < 0
  · rw [show rooB L m = false by unfold rooB; rw [decide_eq_false (p := 0 ≤ m ∧ m ≤ 1024) (by omega)]; rfl]
    go_enter Tryz.func57, Tryz.ntmps57
    go_wp2
    go_ret
    exact ⟨rfl, Up.refl _⟩
  by_cases h2 : 1024 < m
  · rw [show rooB L m = false by unfold rooB; rw [decide_eq_false (p := 0 ≤ m ∧ m ≤ 1024) (by omega)]; rfl]
    go_enter Tryz.func57, Tryz.ntmps57
    go_wp2
    go_ret
    exact ⟨rfl, Up.refl _⟩
  by_cases h3 : m = 0
  · subst h3
    rw [show rooB L 0 = true by unfold rooB; rfl]
    go_enter Tryz.func57, Tryz.ntmps57
    go_wp2
    go_ret
    exact ⟨rfl, Up.refl _⟩
  rw [show rooB L m = decide (totB L + m ≤ 1073741824) by unfold rooB; rw [decide_eq_true (p := 0 ≤ m ∧ m ≤ 1024) (by omega), decide_eq_false h3]; rfl]
  have t1 : (m == 0) = false := by simp [h3]
  have q1 := totB_low L
  have q2 := totB_high L
  rw [hS.1] at q2
  generalize totB L = z at *
  clear hS
  go_enter Tryz.func57, Tryz.ntmps57
  go_wp2_with (go_at_call 16; (with_reducible refine KT.out.mono ?_); rintro e w2 ⟨rfl, hu2⟩)
  go_ret
  exact ⟨by simp, hu2⟩
end Go.Proofs.YtjbgogajnjefmaaGreat
