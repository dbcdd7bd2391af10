/- What Live of package exact and of its reference return. -/
import Derived.Test.YtflahclphdlolaaZCClock
import Derived.Test.YtflahclphdlolaaZELive
import Derived.Test.YtflahclphdlolaaZESq
import Derived.Test.YtflahclphdlolaaZG0a
import Derived.Test.YtflahclphdlolaaZG2a
import Derived.Test.YtflahclphdlolaaZGLaw
namespace Go.Proofs.Ytflahclphdlolaa
open Go.RowKit

/-- The items in the window. -/
def livL (L : List It) (now v : Int) : List It := L.filter (fun x => liveB now v x.1)
def livE (L : List It) (now v : Int) : List It := if (valB L now && winB v) = true then livL L now v else []
theorem livL_take {L : List It} {i : Nat} (hi : i < L.length) (now v : Int) : livL (L.take (i + 1)) now v = livL (L.take i) now v ++ (if liveB now v (L.getD i (0, 0)).1 = true then [L.getD i (0, 0)] else []) := by
  unfold livL; rw [take_next hi, List.filter_append]
  by_cases h : liveB now v (L.getD i (0, 0)).1 = true
  · rw [if_pos h, List.filter_cons, if_pos h]; rfl
  · rw [if_neg h, List.filter_cons, if_neg h]; rfl
theorem livL_no {L : List It} {now v : Int} (h : winB v = false) : livL L now v = [] := by
  unfold livL; rw [List.filter_eq_nil_iff]; intro x _; unfold liveB; rw [h]; simp
theorem livL_len (L : List It) (now v : Int) : (livL L now v).length ≤ L.length := List.length_filter_le _ _
/-- append of one item, in the world that stands behind its own row of one item. -/
theorem append1I_run (ty : TypeId) (w0 w : World) (A : Option Addr) (n k : Nat) (L : List It) (p0 p1 : Int) (hO : Own w0 w (.slice A n k) n L) (hu : Up w0 w) (hlen : n + 1 ≤ 1000000) :
    ∃ A' k' w', (Builtin.append_ #[22, 22] ty #[.slice A n k, .slice (some ⟨w.heap.size, 0, none⟩) 1 1]).run Try.prog (w.alloc (.cells #[.int .i64 p0, .int .i64 p1] 39)) = .ok (.slice A' (n + 1) k') w' ∧ Own w0 w' (.slice A' (n + 1) k') (n + 1) (L ++ [(p0, p1)]) ∧ Up w0 w' := by
  obtain ⟨v', w', hr, h1, h2⟩ := append_run ty w0 (w.alloc (.cells #[.int .i64 p0, .int .i64 p1] 39)) (.slice A n k) n L (hO.of_up ((Up.refl _).alloc _ _)) (hu.alloc _ _) (some ⟨w.heap.size, 0, none⟩) 1 1 [(p0, p1)] (one_new w p0 p1) hlen
  obtain ⟨A', k', rfl, _, _⟩ := h1.sl
  exact ⟨A', k', w', hr, h1, h2⟩

set_option maxHeartbeats 4000000 in
set_option maxRecDepth 100000 in
theorem live8_up_own (n k : Nat) (A : Option Addr) (L : List It) (now v : Int) (hn : n ≤ 100000) (hv : (valB L now && winB v) = true) (w : World) (hS : Sl w A n L) :
    Calls Try.prog 33 #[.slice A n k, .int .i64 now, .int .i64 v] w fun e w' => ∃ A' n' k', e = .returned (.slice A' n' k') ∧ n' ≤ n ∧ Own w w' (.slice A' n' k') n' (livE L now v) ∧ Up w w' := by
  have KV := Lib.hid (valid8_up n k A L now (by omega) w hS)
  have KL := Lib.hid (fun x W => live_any now v x W)
  have KW := Lib.hid (rwin_any v)
  have e : livE L now v = livL L now v := by unfold livE; rw [hv]; rfl
  rw [e]
  rw [Bool.and_eq_true] at hv
  rw [hv.1] at KV
  rw [hv.2] at KW
  have HL := Lib.hid hS.1
  have HS := Lib.hid hS
  clear hS e hv
  go_enter Try.func33, Try.ntmps33
  go_wp2_with fail
  refine KV.out.mono ?_
  rintro e w1 ⟨rfl, hu1⟩
  have HU1 := Lib.hid hu1
  clear hu1
  go_wp2_with fail
  (try (refine (KW.out _).mono ?_; rintro e w' ⟨rfl, rfl⟩; go_wp2_with fail))
  go_loopw [7, 16] (fun s t wr => ∃ (i c : Nat) (A1 : Option Addr) (k1 : Nat), s = .slice A1 c k1 ∧ t = .int .i64 i ∧ i ≤ n ∧ c ≤ i ∧ Own w wr (.slice A1 c k1) c (livL (L.take i) now v) ∧ Up w wr) (fun _ t _ => n - (intOf t).toNat)
  case atStart => exact ⟨0, 0, none, 0, rfl, rfl, Nat.zero_le _, Nat.le_refl _, Own.nil _ _, HU1.out⟩
  case round =>
    obtain ⟨i, c, A1, k1, rfl, rfl, hin, hci, hO, hU⟩ := hrel
    have HU := Lib.hid hU
    have HO := Lib.hid hO
    clear hU hO
    by_cases hi : i < n
    · obtain ⟨b, o, rfl, d0, d1⟩ := (HS.out.up HU.out).at_ hi
      have HN1 := Lib.hid (livL_take (L := L) (i := i) (by rw [HL.out]; exact hi) now v)
      have hp : L.getD i (0, 0) = ((L.getD i (0, 0)).1, (L.getD i (0, 0)).2) := rfl
      rw [hp] at HN1
      generalize (L.getD i (0, 0)).1 = p0 at *
      generalize (L.getD i (0, 0)).2 = p1 at *
      have K1 := Lib.hid (KL.out p0)
      have f2 : (i : Int) < n := by omega
      have f3 : (0 : Int) ≤ i := by omega
      clear hp
      cases hx : liveB now v p0 with
      | false =>
        rw [hx] at K1
        have HM : Hid (livL (L.take (i + 1)) now v = livL (L.take i) now v) := Lib.hid (by rw [HN1.out, hx]; simp)
        clear HN1 hx
        go_wp2_with fail
        refine (K1.out _).mono ?_
        rintro e w' ⟨rfl, rfl⟩
        go_wp2_with fail
        go_roundw
        case rel => exact ⟨i + 1, c, _, _, rfl, by go_num, by omega, by omega, by rw [HM.out]; exact HO.out.of_up ((Up.refl _).alloc _ _), HU.out.alloc _ _⟩
        case measure => simp [intOf]; omega
      | true =>
        rw [hx] at K1
        have HM : Hid (livL (L.take (i + 1)) now v = livL (L.take i) now v ++ [(p0, p1)]) := Lib.hid (by rw [HN1.out, hx]; simp)
        clear HN1 hx
        obtain ⟨A2, k2, w2, hr, ho, hu⟩ := append1I_run 22 w (wr.alloc (.cells #[.int .i64 p0, .int .i64 p1] 39)) A1 c k1 _ p0 p1 (HO.out.of_up ((Up.refl _).alloc _ _)) (HU.out.alloc _ _) (by omega)
        rw [← HM.out] at ho
        rw [size_alloc] at hr
        have HO2 := Lib.hid ho
        have HU2 := Lib.hid hu
        clear ho hu HM
        go_wp2_with fail
        refine (K1.out _).mono ?_
        rintro e w' ⟨rfl, rfl⟩
        go_wp2_with (refine wpList_append_run (o := ⟨some 28, _, _, _, _, _⟩) rfl (.tmp 25) (.tmp 27) _ rfl _ _ rfl rfl _ _ hr ?_)
        go_roundw
        case rel => exact ⟨i + 1, c + 1, _, _, rfl, by go_num, by omega, by omega, HO2.out, HU2.out⟩
        case measure => simp [intOf]; omega
    · obtain rfl : i = n := by omega
      have ht : L.take i = L := List.take_of_length_le (by rw [HL.out]; exact Nat.le_refl _)
      rw [ht] at HO
      clear ht
      go_wp2_with fail
      go_ret
      exact ⟨_, _, _, rfl, hci, HO.out, HU.out⟩
theorem live8_up_yes (n k : Nat) (A : Option Addr) (L : List It) (now v : Int) (hn : n ≤ 100000) (hv : (valB L now && winB v) = true) (w : World) (hS : Sl w A n L) :
    Calls Try.prog 33 #[.slice A n k, .int .i64 now, .int .i64 v] w fun e w' => ∃ A' n' k', e = .returned (.slice A' n' k') ∧ n' ≤ n ∧ Sl w' A' n' (livE L now v) ∧ Up w w' := by
  refine (live8_up_own n k A L now v hn hv w hS).mono ?_
  rintro e w' ⟨A', n', k', rfl, h1, h2, h3⟩
  obtain ⟨A2, c2, e, _, h⟩ := h2.sl
  cases e
  exact ⟨_, _, _, rfl, h1, h, h3⟩
set_option maxHeartbeats 4000000 in
set_option maxRecDepth 100000 in
theorem rlive8_up_own (n k : Nat) (A : Option Addr) (L : List It) (now v : Int) (hn : n ≤ 100000) (hv : (valB L now && winB v) = true) (w : World) (hS : Sl w A n L) :
    Calls Try.prog 35 #[.slice A n k, .int .i64 now, .int .i64 v] w fun e w' => ∃ A' n' k', e = .returned (.slice A' n' k') ∧ n' ≤ n ∧ Own w w' (.slice A' n' k') n' (livE L now v) ∧ Up w w' := by
  have KV := Lib.hid (rvalid8_up n k A L now (by omega) w hS)
  have KL := Lib.hid (fun x W => rlive_any now v x W)
  have KW := Lib.hid (rwin_any v)
  have e : livE L now v = livL L now v := by unfold livE; rw [hv]; rfl
  rw [e]
  rw [Bool.and_eq_true] at hv
  rw [hv.1] at KV
  rw [hv.2] at KW
  have HL := Lib.hid hS.1
  have HS := Lib.hid hS
  clear hS e hv
  go_enter Try.func35, Try.ntmps35
  go_wp2_with fail
  refine KV.out.mono ?_
  rintro e w1 ⟨rfl, hu1⟩
  have HU1 := Lib.hid hu1
  clear hu1
  go_wp2_with fail
  (try (refine (KW.out _).mono ?_; rintro e w' ⟨rfl, rfl⟩; go_wp2_with fail))
  go_loopw [7, 21] (fun s t wr => ∃ (i c : Nat) (A1 : Option Addr) (k1 : Nat), s = .slice A1 c k1 ∧ t = .int .i64 i ∧ i ≤ n ∧ c ≤ i ∧ Own w wr (.slice A1 c k1) c (livL (L.take i) now v) ∧ Up w wr) (fun _ t _ => n - (intOf t).toNat)
  case atStart => exact ⟨0, 0, none, 0, rfl, rfl, Nat.zero_le _, Nat.le_refl _, Own.nil _ _, HU1.out⟩
  case round =>
    obtain ⟨i, c, A1, k1, rfl, rfl, hin, hci, hO, hU⟩ := hrel
    have HU := Lib.hid hU
    have HO := Lib.hid hO
    clear hU hO
    by_cases hi : i < n
    · obtain ⟨b, o, rfl, d0, d1⟩ := (HS.out.up HU.out).at_ hi
      have HN1 := Lib.hid (livL_take (L := L) (i := i) (by rw [HL.out]; exact hi) now v)
      have hp : L.getD i (0, 0) = ((L.getD i (0, 0)).1, (L.getD i (0, 0)).2) := rfl
      rw [hp] at HN1
      generalize (L.getD i (0, 0)).1 = p0 at *
      generalize (L.getD i (0, 0)).2 = p1 at *
      have K1 := Lib.hid (KL.out p0)
      have f2 : (i : Int) < n := by omega
      have f3 : (0 : Int) ≤ i := by omega
      clear hp
      cases hx : liveB now v p0 with
      | false =>
        rw [hx] at K1
        have HM : Hid (livL (L.take (i + 1)) now v = livL (L.take i) now v) := Lib.hid (by rw [HN1.out, hx]; simp)
        clear HN1 hx
        go_wp2_with fail
        refine (K1.out _).mono ?_
        rintro e w' ⟨rfl, rfl⟩
        go_wp2_with fail
        go_roundw
        case rel => exact ⟨i + 1, c, _, _, rfl, by go_num, by omega, by omega, by rw [HM.out]; exact HO.out.of_up ((Up.refl _).alloc _ _), HU.out.alloc _ _⟩
        case measure => simp [intOf]; omega
      | true =>
        rw [hx] at K1
        have HM : Hid (livL (L.take (i + 1)) now v = livL (L.take i) now v ++ [(p0, p1)]) := Lib.hid (by rw [HN1.out, hx]; simp)
        clear HN1 hx
        obtain ⟨A2, k2, w2, hr, ho, hu⟩ := append1I_run 22 w (wr.alloc (.cells #[.int .i64 p0, .int .i64 p1] 39)) A1 c k1 _ p0 p1 (HO.out.of_up ((Up.refl _).alloc _ _)) (HU.out.alloc _ _) (by omega)
        rw [← HM.out] at ho
        rw [size_alloc] at hr
        have HO2 := Lib.hid ho
        have HU2 := Lib.hid hu
        clear ho hu HM
        go_wp2_with fail
        refine (K1.out _).mono ?_
        rintro e w' ⟨rfl, rfl⟩
        go_wp2_with (refine wpList_append_run (o := ⟨some 33, _, _, _, _, _⟩) rfl (.tmp 30) (.tmp 32) _ rfl _ _ rfl rfl _ _ hr ?_)
        go_roundw
        case rel => exact ⟨i + 1, c + 1, _, _, rfl, by go_num, by omega, by omega, HO2.out, HU2.out⟩
        case measure => simp [intOf]; omega
    · obtain rfl : i = n := by omega
      have ht : L.take i = L := List.take_of_length_le (by rw [HL.out]; exact Nat.le_refl _)
      rw [ht] at HO
      clear ht
      go_wp2_with fail
      go_ret
      exact ⟨_, _, _, rfl, hci, HO.out, HU.out⟩
theorem rlive8_up_yes (n k : Nat) (A : Option Addr) (L : List It) (now v : Int) (hn : n ≤ 100000) (hv : (valB L now && winB v) = true) (w : World) (hS : Sl w A n L) :
    Calls Try.prog 35 #[.slice A n k, .int .i64 now, .int .i64 v] w fun e w' => ∃ A' n' k', e = .returned (.slice A' n' k') ∧ n' ≤ n ∧ Sl w' A' n' (livE L now v) ∧ Up w w' := by
  refine (rlive8_up_own n k A L now v hn hv w hS).mono ?_
  rintro e w' ⟨A', n', k', rfl, h1, h2, h3⟩
  obtain ⟨A2, c2, e, _, h⟩ := h2.sl
  cases e
  exact ⟨_, _, _, rfl, h1, h, h3⟩

/-- Without a window there is nothing live; package exact walks the list all the same. -/
theorem live8_none (n k : Nat) (A : Option Addr) (L : List It) (now v : Int) (hn : n ≤ 100000) (hv : valB L now = false) (w : World) (hS : Sl w A n L) :
    Calls Try.prog 33 #[.slice A n k, .int .i64 now, .int .i64 v] w fun e w' => ∃ A' n' k', e = .returned (.slice A' n' k') ∧ n' ≤ n ∧ Sl w' A' n' (livE L now v) ∧ Up w w' := by
  have KV := Lib.hid (valid8_up n k A L now (by omega) w hS)
  have e : livE L now v = [] := by unfold livE; rw [hv]; rfl
  rw [e]
  rw [hv] at KV
  clear hS e hv
  go_enter Try.func33, Try.ntmps33
  go_wp2_with fail
  refine KV.out.mono ?_
  rintro e w1 ⟨rfl, hu1⟩
  go_wp2_with fail
  go_ret
  exact ⟨_, _, _, rfl, Nat.zero_le _, Sl.none_, hu1⟩
set_option maxHeartbeats 4000000 in
set_option maxRecDepth 100000 in
theorem live8_nowin (n k : Nat) (A : Option Addr) (L : List It) (now v : Int) (hn : n ≤ 100000) (hv : valB L now = true) (hw : winB v = false) (w : World) (hS : Sl w A n L) :
    Calls Try.prog 33 #[.slice A n k, .int .i64 now, .int .i64 v] w fun e w' => ∃ A' n' k', e = .returned (.slice A' n' k') ∧ n' ≤ n ∧ Sl w' A' n' (livE L now v) ∧ Up w w' := by
  have KV := Lib.hid (valid8_up n k A L now (by omega) w hS)
  have KL : Hid (∀ x W, Calls Try.prog 39 #[.int .i64 now, .int .i64 v, .int .i64 x] W fun e w' => e = .returned (.bool false) ∧ W = w') := Lib.hid (fun x W => by
    have h := live_any now v x W
    have e : liveB now v x = false := by unfold liveB; rw [hw]; simp
    rw [e] at h
    exact h)
  have e : livE L now v = [] := by unfold livE; rw [hw, Bool.and_false]; rfl
  rw [e]
  rw [hv] at KV
  have HS := Lib.hid hS
  clear hS e hv hw
  go_enter Try.func33, Try.ntmps33
  go_wp2_with fail
  refine KV.out.mono ?_
  rintro e w1 ⟨rfl, hu1⟩
  have HU1 := Lib.hid hu1
  clear hu1
  go_wp2_with fail
  go_loopw [7, 16] (fun s t wr => ∃ i : Nat, s = .slice none 0 0 ∧ t = .int .i64 i ∧ i ≤ n ∧ Up w wr) (fun _ t _ => n - (intOf t).toNat)
  case atStart => exact ⟨0, rfl, rfl, Nat.zero_le _, HU1.out⟩
  case round =>
    obtain ⟨i, rfl, rfl, hin, hU⟩ := hrel
    have HU := Lib.hid hU
    clear hU
    by_cases hi : i < n
    · obtain ⟨b, o, rfl, d0, d1⟩ := (HS.out.up HU.out).at_ hi
      generalize (L.getD i (0, 0)).1 = p0 at *
      generalize (L.getD i (0, 0)).2 = p1 at *
      have K1 := Lib.hid (KL.out p0)
      have f2 : (i : Int) < n := by omega
      have f3 : (0 : Int) ≤ i := by omega
      go_wp2_with fail
      refine (K1.out _).mono ?_
      rintro e w' ⟨rfl, rfl⟩
      go_wp2_with fail
      go_roundw
      case rel => exact ⟨i + 1, rfl, by go_num, by omega, HU.out.alloc _ _⟩
      case measure => simp [intOf]; omega
    · obtain rfl : i = n := by omega
      go_wp2_with fail
      go_ret
      exact ⟨_, _, _, rfl, Nat.zero_le _, Sl.none_, HU.out⟩
theorem live8_up (n k : Nat) (A : Option Addr) (L : List It) (now v : Int) (hn : n ≤ 100000) (w : World) (hS : Sl w A n L) :
    Calls Try.prog 33 #[.slice A n k, .int .i64 now, .int .i64 v] w fun e w' => ∃ A' n' k', e = .returned (.slice A' n' k') ∧ n' ≤ n ∧ Sl w' A' n' (livE L now v) ∧ Up w w' := by
  cases hv : valB L now with
  | false => exact live8_none n k A L now v hn hv w hS
  | true =>
    cases hw : winB v with
    | false => exact live8_nowin n k A L now v hn hv hw w hS
    | true => exact live8_up_yes n k A L now v hn (by rw [hv, hw]; rfl) w hS
theorem rlive8_up (n k : Nat) (A : Option Addr) (L : List It) (now v : Int) (hn : n ≤ 100000) (w : World) (hS : Sl w A n L) :
    Calls Try.prog 35 #[.slice A n k, .int .i64 now, .int .i64 v] w fun e w' => ∃ A' n' k', e = .returned (.slice A' n' k') ∧ n' ≤ n ∧ Sl w' A' n' (livE L now v) ∧ Up w w' := by
  cases hv : valB L now with
  | false =>
    have KV := Lib.hid (rvalid8_up n k A L now (by omega) w hS)
    have e : livE L now v = [] := by unfold livE; rw [hv]; rfl
    rw [e]
    rw [hv] at KV
    clear hS e hv
    go_enter Try.func35, Try.ntmps35
    go_wp2_with fail
    refine KV.out.mono ?_
    rintro e w1 ⟨rfl, hu1⟩
    go_wp2_with fail
    go_ret
    exact ⟨_, _, _, rfl, Nat.zero_le _, Sl.none_, hu1⟩
  | true =>
    cases hw : winB v with
    | false =>
      have KV := Lib.hid (rvalid8_up n k A L now (by omega) w hS)
      have KW := Lib.hid (rwin_any v)
      have e : livE L now v = [] := by unfold livE; rw [hw, Bool.and_false]; rfl
      rw [e]
      rw [hv] at KV
      rw [hw] at KW
      clear hS e hv hw
      go_enter Try.func35, Try.ntmps35
      go_wp2_with fail
      refine KV.out.mono ?_
      rintro e w1 ⟨rfl, hu1⟩
      go_wp2_with fail
      refine (KW.out _).mono ?_
      rintro e w' ⟨rfl, rfl⟩
      go_wp2_with fail
      go_ret
      exact ⟨_, _, _, rfl, Nat.zero_le _, Sl.none_, hu1⟩
    | true => exact rlive8_up_yes n k A L now v hn (by rw [hv, hw]; rfl) w hS
end Go.Proofs.Ytflahclphdlolaa
