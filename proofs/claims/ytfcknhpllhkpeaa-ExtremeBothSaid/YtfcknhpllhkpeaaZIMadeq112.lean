/- What Gap, Items, Live and Window of the verifier's package made return, for windows up to 25 ticks. -/
import Derived.Test.YtfcknhpllhkpeaaRows
import Derived.Test.YtfcknhpllhkpeaaZFMadeq99
import Derived.Test.YtfcknhpllhkpeaaZIMadeq111
namespace Go.Proofs.Ytfcknhpllhkpeaa
open Go.RowKit
set_option linter.unusedVariables false

set_option maxHeartbeats 4000000 in
set_option maxRecDepth 100000 in
theorem mliveI_up (n k : Nat) (A : Option Addr) (L : List It) (now v : Int) (hn : n ≤ 100000) (h0 : 0 ≤ now) (h1 : now ≤ 100000) (h2 : 1 ≤ v) (h3 : v ≤ 25) (w : World) (hS : Sl w A n L) :
    Calls Try.prog 26 #[.slice A n k, .int .i64 now, .int .i64 v] w fun e w' => ∃ A' n' k', e = .returned (.slice A' n' k') ∧ n' ≤ n ∧ Own w w' (.slice A' n' k') n' (mlL L now v) ∧ Up w w' := by
  have HL := Lib.hid hS.1
  have HS := Lib.hid hS
  clear hS
  have k2 : IntKind.i64.wrap (now - v) = now - v := IntWalk.i64_in _ (by omega)
  go_enter Try.func26, Try.ntmps26
  go_wp2_with fail
  go_loopw [7, 12] (fun s t wr => ∃ (i c : Nat) (A1 : Option Addr) (k1 : Nat), s = .slice A1 c k1 ∧ t = .int .i64 i ∧ i ≤ n ∧ c ≤ i ∧ Own w wr (.slice A1 c k1) c (mlL (L.take i) now v) ∧ Up w wr) (fun _ t _ => n - (intOf t).toNat)
  case atStart => exact ⟨0, 0, none, 0, rfl, rfl, Nat.zero_le _, Nat.le_refl _, Own.nil _ _, Up.refl _⟩
  case round =>
    obtain ⟨i, c, A1, k1, rfl, rfl, hin, hci, hO, hU⟩ := hrel
    have HU := Lib.hid hU
    have HO := Lib.hid hO
    clear hU hO
    by_cases hi : i < n
    · obtain ⟨b, o, rfl, d0, d1⟩ := (HS.out.up HU.out).at_ hi
      have HN1 := Lib.hid (mlL_take (L := L) (i := i) (by rw [HL.out]; exact hi) now v)
      have hp : L.getD i (0, 0) = ((L.getD i (0, 0)).1, (L.getD i (0, 0)).2) := rfl
      rw [hp] at HN1
      generalize (L.getD i (0, 0)).1 = p0 at *
      generalize (L.getD i (0, 0)).2 = p1 at *
      have f2 : (i : Int) < n := by omega
      have f3 : (0 : Int) ≤ i := by omega
      clear hp
      by_cases hx : now - v < p0 ∧ p0 ≤ now
      · have HM : Hid (mlL (L.take (i + 1)) now v = mlL (L.take i) now v ++ [(p0, p1)]) := Lib.hid (by rw [HN1.out, if_pos (by simp only [Bool.and_eq_true, decide_eq_true_eq]; exact hx)])
        have t1 : decide (now - v < p0) = true := decide_eq_true hx.1
        have t2 : decide (p0 ≤ now) = true := decide_eq_true hx.2
        clear HN1 hx
        obtain ⟨A2, k2, w2, hr, ho, hu⟩ := append1I_run 22 w (wr.alloc (.cells #[.int .i64 p0, .int .i64 p1] 41)) A1 c k1 _ p0 p1 (HO.out.of_up ((Up.refl _).alloc _ _)) (HU.out.alloc _ _) (by omega)
        rw [← HM.out] at ho
        rw [size_alloc] at hr
        have HO2 := Lib.hid ho
        have HU2 := Lib.hid hu
        clear ho hu HM
        go_wp2_with (refine wpList_append_run (o := ⟨some 31, _, _, _, _, _⟩) rfl (.tmp 28) (.tmp 30) _ rfl _ _ rfl rfl _ _ hr ?_)
        go_roundw
        case rel => exact ⟨i + 1, c + 1, _, _, rfl, by go_num, by omega, by omega, HO2.out, HU2.out⟩
        case measure => simp [intOf]; omega
      · have HM : Hid (mlL (L.take (i + 1)) now v = mlL (L.take i) now v) := Lib.hid (by rw [HN1.out, if_neg (by simp only [Bool.and_eq_true, decide_eq_true_eq]; exact hx), List.append_nil])
        clear HN1
        by_cases h1 : now - v < p0
        · have t1 : decide (now - v < p0) = true := decide_eq_true h1
          have t2 : decide (p0 ≤ now) = false := decide_eq_false (fun h => hx ⟨h1, h⟩)
          clear hx h1
          go_wp2_with fail
          go_roundw
          case rel => exact ⟨i + 1, c, _, _, rfl, by go_num, by omega, by omega, by rw [HM.out]; exact HO.out.of_up ((Up.refl _).alloc _ _), HU.out.alloc _ _⟩
          case measure => simp [intOf]; omega
        · have t1 : decide (now - v < p0) = false := decide_eq_false h1
          clear hx h1
          go_wp2_with fail
          go_roundw
          case rel => exact ⟨i + 1, c, _, _, rfl, by go_num, by omega, by omega, by rw [HM.out]; exact HO.out.of_up ((Up.refl _).alloc _ _), HU.out.alloc _ _⟩
          case measure => simp [intOf]; omega
    · obtain rfl : i = n := by omega
      have ht : L.take i = L := List.take_of_length_le (by rw [HL.out]; exact Nat.le_refl _)
      rw [ht] at HO
      clear ht
      go_wp2_with fail
      go_ret
      exact ⟨_, _, _, rfl, hci, HO.out, HU.out⟩


end Go.Proofs.Ytfcknhpllhkpeaa
