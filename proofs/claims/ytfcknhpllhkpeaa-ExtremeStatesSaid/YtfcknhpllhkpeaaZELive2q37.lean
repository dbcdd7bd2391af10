/- What Live of package exact and of its reference return. -/
import Derived.Test.YtfcknhpllhkpeaaRows
import Derived.Test.YtfcknhpllhkpeaaZELive2q36
import Derived.Test.YtfcknhpllhkpeaaZELiveq33
namespace Go.Proofs.Ytfcknhpllhkpeaa
open Go.RowKit

def livE (L : List It) (now v : Int) : List It := if (valB L now && winB v) = true then livL L now v else []
theorem livL_take {L : List It} {i : Nat} (hi : i < L.length) (now v : Int) : livL (L.take (i + 1)) now v = livL (L.take i) now v ++ (if liveB now v (L.getD i (0, 0)).1 = true then [L.getD i (0, 0)] else []) := by
  unfold livL; rw [take_next hi, List.filter_append]
  by_cases h : liveB now v (L.getD i (0, 0)).1 = true
  · rw [if_pos h, List.filter_cons, if_pos h]; rfl
  · rw [if_neg h, List.filter_cons, if_neg h]; rfl
set_option maxHeartbeats 4000000 in
set_option maxRecDepth 100000 in
theorem rlive8_up_own (n k : Nat) (A : Option Addr) (L : List It) (now v : Int) (hn : n ≤ 100000) (hv : (valB L now && winB v) = true) (w : World) (hS : Sl w A n L) :
    Calls Try.prog 36 #[.slice A n k, .int .i64 now, .int .i64 v] w fun e w' => ∃ A' n' k', e = .returned (.slice A' n' k') ∧ n' ≤ n ∧ Own w w' (.slice A' n' k') n' (livE L now v) ∧ Up w w' := by
  have KV := Lib.hid (rvalid8_up n k A L now (by omega) w hS)
  have KL := Lib.hid (fun x W => rlive_any now v x W)
  have KW := Lib.hid (rwin_any v)
  have e : livE L now v = livL L now v := by unfold livE; rw [hv]; rfl
  rw [e]
  rw [Bool.and_eq_true] at hv
  rw [hv.1] at KV
  rw [hv.2] at KW
  have HL := Lib.hid hS.1
  have HS := Lib.hid hS
  clear hS e hv
  go_enter Try.func36, Try.ntmps36
  go_wp2_with fail
  refine KV.out.mono ?_
  rintro e w1 ⟨rfl, hu1⟩
  have HU1 := Lib.hid hu1
  clear hu1
  go_wp2_with fail
  (try (refine (KW.out _).mono ?_; rintro e w' ⟨rfl, rfl⟩; go_wp2_with fail))
  go_loopw [7, 21] (fun s t wr => ∃ (i c : Nat) (A1 : Option Addr) (k1 : Nat), s = .slice A1 c k1 ∧ t = .int .i64 i ∧ i ≤ n ∧ c ≤ i ∧ Own w wr (.slice A1 c k1) c (livL (L.take i) now v) ∧ Up w wr) (fun _ t _ => n - (intOf t).toNat)
  case atStart => exact ⟨0, 0, none, 0, rfl, rfl, Nat.zero_le _, Nat.le_refl _, Own.nil _ _, HU1.out⟩
  case round =>
    obtain ⟨i, c, A1, k1, rfl, rfl, hin, hci, hO, hU⟩ := hrel
    have HU := Lib.hid hU
    have HO := Lib.hid hO
    clear hU hO
    by_cases hi : i < n
    · obtain ⟨b, o, rfl, d0, d1⟩ := (HS.out.up HU.out).at_ hi
      have HN1 := Lib.hid (livL_take (L := L) (i := i) (by rw [HL.out]; exact hi) now v)
      have hp : L.getD i (0, 0) = ((L.getD i (0, 0)).1, (L.getD i (0, 0)).2) := rfl
      rw [hp] at HN1
      generalize (L.getD i (0, 0)).1 = p0 at *
      generalize (L.getD i (0, 0)).2 = p1 at *
      have K1 := Lib.hid (KL.out p0)
      have f2 : (i : Int) < n := by omega
      have f3 : (0 : Int) ≤ i := by omega
      clear hp
      cases hx : liveB now v p0 with
      | false =>
        rw [hx] at K1
        have HM : Hid (livL (L.take (i + 1)) now v = livL (L.take i) now v) := Lib.hid (by rw [HN1.out, hx]; simp)
        clear HN1 hx
        go_wp2_with fail
        refine (K1.out _).mono ?_
        rintro e w' ⟨rfl, rfl⟩
        go_wp2_with fail
        go_roundw
        case rel => exact ⟨i + 1, c, _, _, rfl, by go_num, by omega, by omega, by rw [HM.out]; exact HO.out.of_up ((Up.refl _).alloc _ _), HU.out.alloc _ _⟩
        case measure => simp [intOf]; omega
      | true =>
        rw [hx] at K1
        have HM : Hid (livL (L.take (i + 1)) now v = livL (L.take i) now v ++ [(p0, p1)]) := Lib.hid (by rw [HN1.out, hx]; simp)
        clear HN1 hx
        obtain ⟨A2, k2, w2, hr, ho, hu⟩ := append1I_run 22 w (wr.alloc (.cells #[.int .i64 p0, .int .i64 p1] 41)) A1 c k1 _ p0 p1 (HO.out.of_up ((Up.refl _).alloc _ _)) (HU.out.alloc _ _) (by omega)
        rw [← HM.out] at ho
        rw [size_alloc] at hr
        have HO2 := Lib.hid ho
        have HU2 := Lib.hid hu
        clear ho hu HM
        go_wp2_with fail
        refine (K1.out _).mono ?_
        rintro e w' ⟨rfl, rfl⟩
        go_wp2_with (refine wpList_append_run (o := ⟨some 33, _, _, _, _, _⟩) rfl (.tmp 30) (.tmp 32) _ rfl _ _ rfl rfl _ _ hr ?_)
        go_roundw
        case rel => exact ⟨i + 1, c + 1, _, _, rfl, by go_num, by omega, by omega, HO2.out, HU2.out⟩
        case measure => simp [intOf]; omega
    · obtain rfl : i = n := by omega
      have ht : L.take i = L := List.take_of_length_le (by rw [HL.out]; exact Nat.le_refl _)
      rw [ht] at HO
      clear ht
      go_wp2_with fail
      go_ret
      exact ⟨_, _, _, rfl, hci, HO.out, HU.out⟩
end Go.Proofs.Ytfcknhpllhkpeaa
