/- Texts of these claims, one after the other. -/
import Derived.Test.YtjbgogajnjefmaaZGBasem10
import Derived.Test.YtjbgogajnjefmaaZGLawm6
import Derived.Test.YtjbgogajnjefmaaZWMathm11
import Derived.Test.YtjbgogajnjefmaaZWShortm6
namespace Go.Proofs.Ytjbgogajnjefmaa
open Go.RowKit

def kB (k : Int) : Bool := decide (1 ≤ k ∧ k ≤ 128)
def levB (l : Int) : Bool := decide (0 ≤ l ∧ l ≤ 30)
theorem kB_true {k : Int} (h : kB k = true) : 1 ≤ k ∧ k ≤ 128 := of_decide_eq_true h
theorem levB_true {k : Int} (h : levB k = true) : 0 ≤ k ∧ k ≤ 30 := of_decide_eq_true h
theorem isK_any (k : Int) (w : World) : Calls Try.prog 78 #[.int .i64 k] w fun e w' => e = .returned (.bool (kB k)) ∧ w = w' := by
  by_cases h1 : 1 ≤ k
  · by_cases h2 : k ≤ 128
    · rw [show kB k = true from decide_eq_true ⟨h1, h2⟩]
      go_enter Try.func78, Try.ntmps78
      go_wp2
      go_ret
      exact ⟨rfl, rfl⟩
    · rw [show kB k = false from decide_eq_false (fun h => h2 h.2)]
      go_enter Try.func78, Try.ntmps78
      go_wp2
      go_ret
      exact ⟨rfl, rfl⟩
  · rw [show kB k = false from decide_eq_false (fun h => h1 h.1)]
    go_enter Try.func78, Try.ntmps78
    go_wp2
    go_ret
    exact ⟨rfl, rfl⟩
theorem mayK_any (k : Int) (w : World) : Calls Try.prog 61 #[.int .i64 k] w fun e w' => e = .returned (.bool (kB k)) ∧ w = w' := by
  by_cases h1 : 1 ≤ k
  · by_cases h2 : k ≤ 128
    · rw [show kB k = true from decide_eq_true ⟨h1, h2⟩]
      go_enter Try.func61, Try.ntmps61
      go_wp2
      go_ret
      exact ⟨rfl, rfl⟩
    · rw [show kB k = false from decide_eq_false (fun h => h2 h.2)]
      go_enter Try.func61, Try.ntmps61
      go_wp2
      go_ret
      exact ⟨rfl, rfl⟩
  · rw [show kB k = false from decide_eq_false (fun h => h1 h.1)]
    go_enter Try.func61, Try.ntmps61
    go_wp2
    go_ret
    exact ⟨rfl, rfl⟩
theorem isTick10_any (k : Int) (w : World) : Calls Try.prog 99 #[.int .i64 k] w fun e w' => e = .returned (.bool (tickB k)) ∧ w = w' := by
  by_cases h1 : 0 ≤ k
  · by_cases h2 : k ≤ 16777216
    · rw [show tickB k = true from decide_eq_true ⟨h1, h2⟩]
      go_enter Try.func99, Try.ntmps99
      go_wp2
      go_ret
      exact ⟨rfl, rfl⟩
    · rw [show tickB k = false from decide_eq_false (fun h => h2 h.2)]
      go_enter Try.func99, Try.ntmps99
      go_wp2
      go_ret
      exact ⟨rfl, rfl⟩
  · rw [show tickB k = false from decide_eq_false (fun h => h1 h.1)]
    go_enter Try.func99, Try.ntmps99
    go_wp2
    go_ret
    exact ⟨rfl, rfl⟩
theorem isLevel_any (k : Int) (w : World) : Calls Try.prog 93 #[.int .i64 k] w fun e w' => e = .returned (.bool (levB k)) ∧ w = w' := by
  by_cases h1 : 0 ≤ k
  · by_cases h2 : k ≤ 30
    · rw [show levB k = true from decide_eq_true ⟨h1, h2⟩]
      go_enter Try.func93, Try.ntmps93
      go_wp2
      go_ret
      exact ⟨rfl, rfl⟩
    · rw [show levB k = false from decide_eq_false (fun h => h2 h.2)]
      go_enter Try.func93, Try.ntmps93
      go_wp2
      go_ret
      exact ⟨rfl, rfl⟩
  · rw [show levB k = false from decide_eq_false (fun h => h1 h.1)]
    go_enter Try.func93, Try.ntmps93
    go_wp2
    go_ret
    exact ⟨rfl, rfl⟩
theorem size_up (t l : Int) (w : World) :
    Calls Try.prog 68 #[.agg #[.int .i64 t, .int .i64 l]] w fun e w' => e = .returned (.int .i64 (szB l)) ∧ Up w w' := by
  have KL := Lib.hid (isLevel_any l)
  by_cases h : 0 ≤ l ∧ l ≤ 30
  · have e0 : szB l = 2 ^ l.toNat := by unfold szB; rw [if_pos h]
    have hl : levB l = true := decide_eq_true h
    rw [hl] at KL
    rw [e0]
    obtain ⟨h1, h2⟩ := h
    have HW : Hid (2 ^ l.toNat = wrap64 (2 ^ l.toNat)) := Lib.hid (by
      have p1 := pow_le30 (a := l.toNat) (by omega)
      have p2 := pwB1 l.toNat
      generalize (2 : Int) ^ l.toNat = z at *
      unfold wrap64; omega)
    clear hl
    go_enter Try.func68, Try.ntmps68
    go_wp2_with (go_at_call 93; (with_reducible refine (KL.out _).mono ?_); rintro e w' ⟨rfl, rfl⟩)
    go_ret
    refine ⟨?_, ?_⟩
    · simp [HW.out.symm]
    · repeat (first | exact Up.refl _ | refine Up.alloc ?_ _ _ | refine Up.setCell ?_ (by first | (simp; done) | (simp; omega) | omega) _ | refine Up.drewN ?_ _ | refine Up.drew ?_)
  · have e0 : szB l = 0 := by unfold szB; rw [if_neg h]
    have hl : levB l = false := decide_eq_false h
    rw [hl] at KL
    rw [e0]
    clear hl e0
    go_enter Try.func68, Try.ntmps68
    go_wp2_with (go_at_call 93; (with_reducible refine (KL.out _).mono ?_); rintro e w' ⟨rfl, rfl⟩)
    go_ret
    refine ⟨rfl, ?_⟩
    repeat (first | exact Up.refl _ | refine Up.alloc ?_ _ _ | refine Up.setCell ?_ (by first | (simp; done) | (simp; omega) | omega) _ | refine Up.drewN ?_ _ | refine Up.drew ?_)

/-- The tick of the last bucket. -/
def lstZ (L : List It) : Int := (L.getD (L.length - 1) (0, 0)).1
def folB (L : List It) (t : Int) : Bool := tickB t && (decide (L.length = 0) || decide (lstZ L ≤ t))
theorem rlast_any (n k : Nat) (A : Option Addr) (L : List It) (hn : n ≤ 1000000) (w : World) (hS : Sl w A n L) :
    Calls Try.prog 71 #[.slice A n k] w fun e w' => e = .returned (.int .i64 (lstZ L)) ∧ w = w' := by
  cases n with
  | zero =>
    have e : L = [] := List.eq_nil_of_length_eq_zero hS.1
    subst e
    rw [show lstZ [] = 0 from rfl]
    go_enter Try.func71, Try.ntmps71
    go_wp2
    go_ret
    exact ⟨rfl, rfl⟩
  | succ m =>
    have e0 : lstZ L = (L.getD m (0, 0)).1 := by unfold lstZ; rw [hS.1]; rfl
    obtain ⟨b, o, rfl, d0, d1⟩ := hS.at_ (show m < m + 1 by omega)
    rw [e0]
    clear e0 d1 hS
    generalize (L.getD m (0, 0)).1 = p0 at *
    have t1 : (((m : Int) + 1) == 0) = false := by simp; omega
    have t3 : (m : Int) < (m : Int) + 1 := by omega
    have t4 : (m : Int) + 1 - 1 = m := by omega
    go_enter Try.func71, Try.ntmps71
    go_wp2
    go_ret
    exact ⟨rfl, rfl⟩
theorem follows_any (n k : Nat) (A : Option Addr) (L : List It) (t : Int) (hn : n ≤ 1000000) (w : World) (hS : Sl w A n L) :
    Calls Try.prog 94 #[.slice A n k, .int .i64 t] w fun e w' => e = .returned (.bool (folB L t)) ∧ w = w' := by
  have KT := Lib.hid (isTick10_any t)
  cases ht : tickB t with
  | false =>
    rw [ht] at KT
    rw [show folB L t = false by unfold folB; rw [ht]; rfl]
    clear ht hS
    go_enter Try.func94, Try.ntmps94
    go_wp2_with (go_at_call 99; (with_reducible refine (KT.out _).mono ?_); rintro e w' ⟨rfl, rfl⟩)
    go_ret
    exact ⟨rfl, rfl⟩
  | true =>
  rw [ht] at KT
  cases n with
  | zero =>
    rw [show folB L t = true by unfold folB; rw [ht, hS.1]; rfl]
    clear ht hS
    go_enter Try.func94, Try.ntmps94
    go_wp2_with (go_at_call 99; (with_reducible refine (KT.out _).mono ?_); rintro e w' ⟨rfl, rfl⟩)
    go_ret
    exact ⟨rfl, rfl⟩
  | succ m =>
    have e0 : folB L t = decide ((L.getD m (0, 0)).1 ≤ t) := by
      unfold folB lstZ
      rw [ht, hS.1, decide_eq_false (p := m + 1 = 0) (by omega)]
      rfl
    obtain ⟨b, o, rfl, d0, d1⟩ := hS.at_ (show m < m + 1 by omega)
    rw [e0]
    clear e0 d1 hS ht
    generalize (L.getD m (0, 0)).1 = p0 at *
    have t1 : (((m : Int) + 1) == 0) = false := by simp; omega
    have t3 : (m : Int) < (m : Int) + 1 := by omega
    have t4 : (m : Int) + 1 - 1 = m := by omega
    go_enter Try.func94, Try.ntmps94
    go_wp2_with (go_at_call 99; (with_reducible refine (KT.out _).mono ?_); rintro e w' ⟨rfl, rfl⟩)
    go_ret
    exact ⟨rfl, rfl⟩
end Go.Proofs.Ytjbgogajnjefmaa

namespace Go.Proofs.Ytjbgogajnjefmaa
open Go.RowKit

theorem take_nx {L : List It} {i : Nat} (h : i < L.length) : L.take (i + 1) = L.take i ++ [L.getD i (0, 0)] := by
  rw [List.take_add_one]
  simp [List.getD, h]
theorem totB_take {L : List It} {i : Nat} (h : i < L.length) : totB (L.take (i + 1)) = totB (L.take i) + szB (L.getD i (0, 0)).2 := by
  rw [take_nx h, totB_app]; simp [totB]
theorem totB_take_high (L : List It) (i : Nat) : totB (L.take i) ≤ 1073741824 * (i : Int) := by
  have := totB_high (L.take i)
  rw [List.length_take] at this
  omega
theorem take_all {L : List It} {n : Nat} (h : L.length = n) : L.take n = L := List.take_of_length_le (by omega)
set_option maxHeartbeats 4000000 in
theorem total10_up (n k : Nat) (A : Option Addr) (L : List It) (hn : n ≤ 100000) (w : World) (hS : Sl w A n L) :
    Calls Try.prog 42 #[.slice A n k] w fun e w' => e = .returned (.int .i64 (totB L)) ∧ Up w w' := by
  have HL := Lib.hid hS.1
  have HS := Lib.hid hS
  have KZ := Lib.hid size_up
  clear hS
  go_enter Try.func42, Try.ntmps42
  go_wp2_with fail
  go_loopw [3, 8] (fun s t wr => ∃ i : Nat, s = .int .i64 (totB (L.take i)) ∧ t = .int .i64 i ∧ i ≤ n ∧ Up w wr) (fun _ t _ => n - (intOf t).toNat)
  case atStart => exact ⟨0, rfl, rfl, Nat.zero_le _, Up.refl _⟩
  case round =>
    obtain ⟨i, rfl, rfl, hin, hU⟩ := hrel
    have HU := Lib.hid hU
    clear hU
    by_cases hi : i < n
    · obtain ⟨b, o, rfl, d0, d1⟩ := (HS.out.up HU.out).at_ hi
      have HN1 := Lib.hid (totB_take (L := L) (i := i) (by rw [HL.out]; exact hi))
      have q1 := totB_low (L.take i)
      have q2 := totB_take_high L i
      generalize totB (L.take i) = s at *
      generalize (L.getD i (0, 0)).1 = p0 at *
      generalize (L.getD i (0, 0)).2 = p1 at *
      have q3 := szB_low p1
      have q4 := szB_high p1
      have f2 : (i : Int) < n := by omega
      have f3 : (0 : Int) ≤ i := by omega
      have K1 := Lib.hid (KZ.out p0 p1)
      generalize szB p1 = z at *
      go_wp2_with (go_at_call 68; (with_reducible refine (K1.out _).mono ?_); rintro e w2 ⟨rfl, hu2⟩; have HU2 := Lib.hid hu2; clear hu2)
      go_roundw
      case rel => exact ⟨i + 1, by rw [HN1.out], by go_num, by omega, (HU.out.alloc _ _).trans HU2.out⟩
      case measure => simp [intOf]; omega
    · obtain rfl : i = n := by omega
      rw [take_all HL.out]
      go_wp2_with fail
      go_ret
      exact ⟨rfl, HU.out⟩
set_option maxHeartbeats 4000000 in
theorem rtotal10_up (n k : Nat) (A : Option Addr) (L : List It) (hn : n ≤ 100000) (w : World) (hS : Sl w A n L) :
    Calls Try.prog 44 #[.slice A n k] w fun e w' => e = .returned (.int .i64 (totB L)) ∧ Up w w' := by
  have HL := Lib.hid hS.1
  have HS := Lib.hid hS
  clear hS
  go_enter Try.func44, Try.ntmps44
  go_wp2_with fail
  go_loopw [3, 8] (fun s t wr => ∃ i : Nat, s = .int .i64 (totB (L.take i)) ∧ t = .int .i64 i ∧ i ≤ n ∧ Up w wr) (fun _ t _ => n - (intOf t).toNat)
  case atStart => exact ⟨0, rfl, rfl, Nat.zero_le _, Up.refl _⟩
  case round =>
    obtain ⟨i, rfl, rfl, hin, hU⟩ := hrel
    have HU := Lib.hid hU
    clear hU
    by_cases hi : i < n
    · obtain ⟨b, o, rfl, d0, d1⟩ := (HS.out.up HU.out).at_ hi
      have HN1 := Lib.hid (totB_take (L := L) (i := i) (by rw [HL.out]; exact hi))
      have q1 := totB_low (L.take i)
      have q2 := totB_take_high L i
      generalize totB (L.take i) = s at *
      generalize (L.getD i (0, 0)).1 = p0 at *
      generalize (L.getD i (0, 0)).2 = p1 at *
      have f2 : (i : Int) < n := by omega
      have f3 : (0 : Int) ≤ i := by omega
      by_cases h1 : 0 ≤ p1
      · by_cases h2 : p1 ≤ 30
        · have e0 : Hid (totB (L.take (i + 1)) = wrap64 (s + wrap64 (2 ^ p1.toNat))) := Lib.hid (by
            rw [HN1.out]
            have q3 := szB_low p1
            have q4 := szB_high p1
            have e : szB p1 = 2 ^ p1.toNat := by unfold szB; rw [if_pos ⟨h1, h2⟩]
            rw [← e]
            unfold wrap64; omega)
          have hz : (IntKind.u64.wrap p1) = p1 := by rw [IntKind.wrap_u64]; omega
          clear HN1
          go_wp2_with fail
          go_roundw
          case rel => exact ⟨i + 1, by rw [e0.out], by go_num, by omega, HU.out.alloc _ _⟩
          case measure => simp [intOf]; omega
        · have e0 : Hid (totB (L.take (i + 1)) = s) := Lib.hid (by
            rw [HN1.out, show szB p1 = 0 by unfold szB; rw [if_neg (fun h => h2 h.2)]]; omega)
          clear HN1
          go_wp2_with fail
          go_roundw
          case rel => exact ⟨i + 1, by rw [e0.out], by go_num, by omega, HU.out.alloc _ _⟩
          case measure => simp [intOf]; omega
      · have e0 : Hid (totB (L.take (i + 1)) = s) := Lib.hid (by
          rw [HN1.out, show szB p1 = 0 by unfold szB; rw [if_neg (fun h => h1 h.1)]]; omega)
        clear HN1
        go_wp2_with fail
        go_roundw
        case rel => exact ⟨i + 1, by rw [e0.out], by go_num, by omega, HU.out.alloc _ _⟩
        case measure => simp [intOf]; omega
    · obtain rfl : i = n := by omega
      rw [take_all HL.out]
      go_wp2_with fail
      go_ret
      exact ⟨rfl, HU.out⟩

def rooB (L : List It) (n : Int) : Bool := decide (0 ≤ n ∧ n ≤ 1024) && (decide (n = 0) || decide (totB L + n ≤ 1073741824))
set_option maxHeartbeats 4000000 in
theorem hasRoom_up (n k : Nat) (A : Option Addr) (L : List It) (m : Int) (hn : n ≤ 100000) (w : World) (hS : Sl w A n L) :
    Calls Try.prog 95 #[.slice A n k, .int .i64 m] w fun e w' => e = .returned (.bool (rooB L m)) ∧ Up w w' := by
  have KT := Lib.hid (total10_up n k A L hn w hS)
  by_cases h1 : m < 0
  · rw [show rooB L m = false by unfold rooB; rw [decide_eq_false (p := 0 ≤ m ∧ m ≤ 1024) (by omega)]; rfl]
    go_enter Try.func95, Try.ntmps95
    go_wp2
    go_ret
    exact ⟨rfl, Up.refl _⟩
  by_cases h2 : 1024 < m
  · rw [show rooB L m = false by unfold rooB; rw [decide_eq_false (p := 0 ≤ m ∧ m ≤ 1024) (by omega)]; rfl]
    go_enter Try.func95, Try.ntmps95
    go_wp2
    go_ret
    exact ⟨rfl, Up.refl _⟩
  by_cases h3 : m = 0
  · subst h3
    rw [show rooB L 0 = true by unfold rooB; rfl]
    go_enter Try.func95, Try.ntmps95
    go_wp2
    go_ret
    exact ⟨rfl, Up.refl _⟩
  rw [show rooB L m = decide (totB L + m ≤ 1073741824) by unfold rooB; rw [decide_eq_true (p := 0 ≤ m ∧ m ≤ 1024) (by omega), decide_eq_false h3]; rfl]
  have t1 : (m == 0) = false := by simp [h3]
  have q1 := totB_low L
  have q2 := totB_high L
  rw [hS.1] at q2
  generalize totB L = z at *
  clear hS
  go_enter Try.func95, Try.ntmps95
  go_wp2_with (go_at_call 42; (with_reducible refine KT.out.mono ?_); rintro e w2 ⟨rfl, hu2⟩)
  go_ret
  exact ⟨by simp, hu2⟩
end Go.Proofs.Ytjbgogajnjefmaa

namespace Go.Proofs.Ytjbgogajnjefmaa
open Go.RowKit

/-- append of one item, in the world that stands behind its own row of one item. -/
theorem append1I_run (ty : TypeId) (w0 w : World) (A : Option Addr) (n k : Nat) (L : List It) (p0 p1 : Int) (hO : Own w0 w (.slice A n k) n L) (hu : Up w0 w) (hlen : n + 1 ≤ 1000000) :
    ∃ A' k' w', (Builtin.append_ #[42, 42] ty #[.slice A n k, .slice (some ⟨w.heap.size, 0, none⟩) 1 1]).run Try.prog (w.alloc (.cells #[.int .i64 p0, .int .i64 p1] 72)) = .ok (.slice A' (n + 1) k') w' ∧ Own w0 w' (.slice A' (n + 1) k') (n + 1) (L ++ [(p0, p1)]) ∧ Up w0 w' := by
  obtain ⟨v', w', hr, h1, h2⟩ := append_run ty w0 (w.alloc (.cells #[.int .i64 p0, .int .i64 p1] 72)) (.slice A n k) n L (hO.of_up ((Up.refl _).alloc _ _)) (hu.alloc _ _) (some ⟨w.heap.size, 0, none⟩) 1 1 [(p0, p1)] (one_new w p0 p1) hlen
  obtain ⟨A', k', rfl, _, _⟩ := h1.sl
  exact ⟨A', k', w', hr, h1, h2⟩

end Go.Proofs.Ytjbgogajnjefmaa

namespace Go.Proofs.Ytjbgogajnjefmaa
open Go.RowKit

def valueB (v : Int) : Bool := decide (-4096 ≤ v ∧ v ≤ 4096)
def mayB (v c now : Int) : Bool := (tickB now && winB v) && decide (1 ≤ c ∧ c ≤ 65536)
theorem mayB_true {v c now : Int} (h : mayB v c now = true) : tickB now = true ∧ winB v = true ∧ 1 ≤ c ∧ c ≤ 65536 := by
  unfold mayB at h
  simp only [Bool.and_eq_true, decide_eq_true_eq] at h
  exact ⟨h.1.1, h.1.2, h.2⟩
theorem rmay_any (v c now : Int) (w : World) :
    Calls Try.prog 33 #[.int .i64 v, .int .i64 c, .int .i64 now] w fun e w' => e = .returned (.bool (mayB v c now)) ∧ w = w' := by
  have KT := Lib.hid (rtick_any now)
  have KW := Lib.hid (rwin_any v)
  cases hv : winB v with
  | false =>
    have e0 : mayB v c now = false := by unfold mayB; rw [hv, Bool.and_false]; rfl
    rw [e0]
    rw [hv] at KW
    clear hv e0
    go_enter Try.func33, Try.ntmps33
    go_wp2_with (go_at_call 64; (with_reducible refine (KW.out _).mono ?_); rintro e w' ⟨rfl, rfl⟩)
    go_ret
    exact ⟨rfl, rfl⟩
  | true =>
    rw [hv] at KW
    have e0 : mayB v c now = (tickB now && decide (1 ≤ c ∧ c ≤ 65536)) := by unfold mayB; rw [hv, Bool.and_true]
    rw [e0]
    clear hv e0
    generalize tickB now = t at *
    by_cases h1 : 1 ≤ c
    · by_cases h2 : c ≤ 65536
      · rw [decide_eq_true (p := 1 ≤ c ∧ c ≤ 65536) ⟨h1, h2⟩]
        go_enter Try.func33, Try.ntmps33
        go_wp2_with (first | (go_at_call 65; (with_reducible refine (KT.out _).mono ?_); rintro e w' ⟨rfl, rfl⟩) | (go_at_call 64; (with_reducible refine (KW.out _).mono ?_); rintro e w' ⟨rfl, rfl⟩))
        go_ret
        exact ⟨by cases t <;> rfl, rfl⟩
      · rw [decide_eq_false (p := 1 ≤ c ∧ c ≤ 65536) (fun h => h2 h.2), Bool.and_false]
        have t2 : decide (c ≤ 65536) = false := decide_eq_false h2
        go_enter Try.func33, Try.ntmps33
        go_wp2_with (first | (go_at_call 65; (with_reducible refine (KT.out _).mono ?_); rintro e w' ⟨rfl, rfl⟩) | (go_at_call 64; (with_reducible refine (KW.out _).mono ?_); rintro e w' ⟨rfl, rfl⟩))
        go_ret
        exact ⟨rfl, rfl⟩
    · rw [decide_eq_false (p := 1 ≤ c ∧ c ≤ 65536) (fun h => h1 h.1), Bool.and_false]
      go_enter Try.func33, Try.ntmps33
      go_wp2_with (first | (go_at_call 65; (with_reducible refine (KT.out _).mono ?_); rintro e w' ⟨rfl, rfl⟩) | (go_at_call 64; (with_reducible refine (KW.out _).mono ?_); rintro e w' ⟨rfl, rfl⟩))
      go_ret
      exact ⟨rfl, rfl⟩

end Go.Proofs.Ytjbgogajnjefmaa
