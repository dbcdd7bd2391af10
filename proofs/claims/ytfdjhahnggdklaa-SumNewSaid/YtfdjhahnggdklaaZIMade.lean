/- What Gap, Items, Live and Window of the verifier's package made return, for windows up to 25 ticks. -/
import Derived.Test.YtfdjhahnggdklaaZFMade
import Derived.Test.YtfdjhahnggdklaaZGBasem8
import Derived.Test.YtfdjhahnggdklaaZGLawm3
import Derived.Test.YtfdjhahnggdklaaZHOrdm2
import Derived.Test.YtfdjhahnggdklaaZHRVal
import Derived.Test.YtfdjhahnggdklaaZHRowm3
import Derived.Test.YtfdjhahnggdklaaZHSamem5
import Derived.Test.YtfdjhahnggdklaaZHSmallm7
import Derived.Test.YtfdjhahnggdklaaZWMathm9
namespace Go.Proofs.Ytfdjhahnggdklaa
open Go.RowKit
set_option linter.unusedVariables false

theorem gapI_any (a v : Int) (h1 : 1 ≤ v) (h2 : v ≤ 25) (w : World) :
    Calls Try.prog 65 #[.int .i64 a, .int .i64 v] w fun e w' => ∃ g, e = .returned (.int .i64 g) ∧ 0 ≤ g ∧ g ≤ 51 ∧ w = w' := by
  have KM := Lib.hid (fun W => modm_any a 8 (by omega) (by omega) W)
  have KB := Lib.hid (fun b W => mod_in b (2 * v + 2) (by omega) (by omega) W)
  have KC := Lib.hid (fun b W => mod_in b 3 (by omega) (by omega) W)
  generalize a % 8 = m at KM
  by_cases m0 : m = 0
  · subst m0
    clear KC
    go_enter Try.func65, Try.ntmps65
    go_wp2_with (first
      | (go_at_call 24; (with_reducible refine (KM.out _).mono ?_); rintro e w' ⟨rfl, rfl⟩)
      | (go_at_call 24; (with_reducible refine (KB.out _ _).mono ?_); rintro e w' ⟨r, rfl, hr1, hr2, rfl⟩))
    go_ret
    exact ⟨_, rfl, by omega, by omega, rfl⟩
  have t0 : (m == 0) = false := by simp [m0]
  by_cases m1 : m = 1 ∨ m = 2
  · clear KB
    rcases m1 with rfl | rfl
    all_goals
      go_enter Try.func65, Try.ntmps65
      go_wp2_with (first
        | (go_at_call 24; (with_reducible refine (KM.out _).mono ?_); rintro e w' ⟨rfl, rfl⟩)
        | (go_at_call 24; (with_reducible refine (KC.out _ _).mono ?_); rintro e w' ⟨r, rfl, hr1, hr2, rfl⟩))
      go_ret
      exact ⟨_, rfl, by omega, by omega, rfl⟩
  · have t1 : (m == 1) = false := by simp; omega
    have t2 : (m == 2) = false := by simp; omega
    clear KB KC m0 m1
    go_enter Try.func65, Try.ntmps65
    go_wp2_with (go_at_call 24; (with_reducible refine (KM.out _).mono ?_); rintro e w' ⟨rfl, rfl⟩)
    go_ret
    exact ⟨_, rfl, by omega, by omega, rfl⟩

/-- Items whose ticks ascend from 0 on up to z, with values. -/
def mdQ (M : List It) (z : Int) : Prop :=
  0 ≤ z ∧ z ≤ 51 * M.length ∧ ∀ j, j < M.length → 0 ≤ (M.getD j (0, 0)).1 ∧ (M.getD j (0, 0)).1 ≤ z ∧ (0 < j → (M.getD (j - 1) (0, 0)).1 ≤ (M.getD j (0, 0)).1) ∧ valueB (M.getD j (0, 0)).2 = true
theorem mdQ_nil : mdQ [] 0 := ⟨by omega, by simp, fun j hj => absurd hj (Nat.not_lt_zero _)⟩
theorem mdQ_next {M : List It} {z g x : Int} (h : mdQ M z) (h1 : 0 ≤ g) (h2 : g ≤ 51) (hx : valueB x = true) : mdQ (M ++ [(z + g, x)]) (z + g) := by
  obtain ⟨a, b, c⟩ := h
  refine ⟨by omega, by rw [List.length_append]; simp only [List.length_cons, List.length_nil]; omega, fun j hj => ?_⟩
  rw [List.length_append] at hj
  simp only [List.length_cons, List.length_nil] at hj
  rcases Nat.lt_or_ge j M.length with hl | hl
  · rw [snoc_lt hl]
    have := c j hl
    refine ⟨this.1, by omega, fun h0 => ?_, this.2.2.2⟩
    rw [snoc_lt (show j - 1 < M.length by omega)]
    exact this.2.2.1 h0
  · obtain rfl : j = M.length := by omega
    rw [snoc_at]
    refine ⟨by omega, Int.le_refl _, fun h0 => ?_, hx⟩
    rw [snoc_lt (show M.length - 1 < M.length by omega)]
    have := c (M.length - 1) (by omega)
    show _ ≤ z + g
    omega

set_option maxHeartbeats 4000000 in
set_option maxRecDepth 100000 in
theorem itemsI_up (n k : Nat) (A : Option Addr) (L : List It) (v : Int) (h1 : 1 ≤ v) (h2 : v ≤ 25) (mx : Nat) (hmx : mx ≤ 200) (w : World) (hS : Sl w A n L) :
    Calls Try.prog 31 #[.slice A n k, .int .i64 v, .int .i64 mx] w fun e w' => ∃ A' n' k' M z, e = .returned (.slice A' n' k') ∧ n' ≤ mx ∧ mdQ M z ∧ Own w w' (.slice A' n' k') n' M ∧ Up w w' := by
  have KG := Lib.hid (fun a W => gapI_any a v h1 h2 W)
  have KV := Lib.hid mvalue_any
  have HS := Lib.hid hS
  clear hS
  go_enter Try.func31, Try.ntmps31
  go_wp2_with fail
  go_loopw [7, 8, 9] (fun s t u wr => ∃ (i : Nat) (z : Int) (A1 : Option Addr) (k1 : Nat) (M : List It), s = .slice A1 i k1 ∧ t = .int .i64 z ∧ u = .int .i64 i ∧ i ≤ mx ∧ 0 ≤ z ∧ z ≤ 10200 ∧ Hid (M.length = i) ∧ Hid (mdQ M z) ∧ Hid (Own w wr (.slice A1 i k1) i M) ∧ Hid (Up w wr)) (fun _ _ u _ => mx - (intOf u).toNat)
  case atStart => exact ⟨0, 0, none, 0, [], rfl, rfl, rfl, Nat.zero_le _, by omega, by omega, Lib.hid rfl, Lib.hid mdQ_nil, Lib.hid (Own.nil _ _), Lib.hid (Up.refl _)⟩
  case round =>
    obtain ⟨i, z, A1, k1, M, rfl, rfl, rfl, hi, z0, z1, HN, HP, HO, HU⟩ := hrel
    by_cases hlt : i < n
    case neg =>
      have t1 : decide (i < n) = false := decide_eq_false hlt
      go_wp2_with fail
      go_ret
      exact ⟨_, _, _, M, z, rfl, hi, HP.out, HO.out, HU.out⟩
    have t1 : decide (i < n) = true := decide_eq_true hlt
    by_cases hl2 : i < mx
    case neg =>
      have t2 : decide ((i : Int) < mx) = false := decide_eq_false (by omega)
      go_wp2_with fail
      go_ret
      exact ⟨_, _, _, M, z, rfl, hi, HP.out, HO.out, HU.out⟩
    have t2 : decide ((i : Int) < mx) = true := decide_eq_true (by omega)
    obtain ⟨b, o, rfl, d0, d1⟩ := (HS.out.up HU.out).at_ hlt
    generalize (L.getD i (0, 0)).1 = p0 at *
    generalize (L.getD i (0, 0)).2 = p1 at *
    have f2 : (i : Int) < n := by omega
    have f3 : (0 : Int) ≤ i := by omega
    have hz2 : z ≤ 51 * i := by have := HP.out.2.1; rw [HN.out] at this; exact this
    go_upto_region 7 with (go_at_call 65; (with_reducible refine (KG.out _ _).mono ?_); rintro e w' ⟨g, rfl, g0, g1, rfl⟩)
    have HR : Hid (∀ x : Int, ∃ A2 k2 w2, (Builtin.append_ #[41, 41] 41 #[.slice A1 i k1, .slice (some ⟨wr.heap.size, 0, none⟩) 1 1]).run Try.prog (wr.alloc (.cells #[.int .i64 (z + g), .int .i64 x] 47)) = .ok (.slice A2 (i + 1) k2) w2 ∧ Own w w2 (.slice A2 (i + 1) k2) (i + 1) (M ++ [(z + g, x)]) ∧ Up w w2) :=
      Lib.hid (fun x => append1I_run 41 w wr A1 i k1 M (z + g) x HO.out HU.out (by omega))
    have k3 : IntKind.i64.wrap (z + g) = z + g := IntWalk.i64_in _ (by omega)
    go_wp2_with (first
      | (go_at_call 66; (with_reducible refine (KV.out _ _).mono ?_); rintro e w' ⟨y, rfl, hy, rfl⟩; have HY := Lib.hid hy; clear hy; obtain ⟨A2, k2, w2, hr, hO2, hU2⟩ := HR.out y; have HO2 := Lib.hid hO2; have HU2 := Lib.hid hU2; clear hO2 hU2)
      | (refine wpList_append_run (o := ⟨some 40, _, _, _, _, _⟩) rfl (.tmp 30) (.tmp 39) _ rfl _ _ rfl rfl _ _ hr ?_))
    go_roundw
    case rel => exact ⟨i + 1, z + g, A2, k2, M ++ [(z + g, y)], rfl, rfl, by go_num, by omega, by omega, by omega, Lib.hid (by rw [List.length_append, HN.out]; rfl), Lib.hid (mdQ_next HP.out g0 g1 HY.out), HO2, HU2⟩
    case measure => simp [intOf]; omega

set_option maxHeartbeats 4000000 in
set_option maxRecDepth 100000 in
theorem mliveI_up (n k : Nat) (A : Option Addr) (L : List It) (now v : Int) (hn : n ≤ 100000) (h0 : 0 ≤ now) (h1 : now ≤ 100000) (h2 : 1 ≤ v) (h3 : v ≤ 25) (w : World) (hS : Sl w A n L) :
    Calls Try.prog 25 #[.slice A n k, .int .i64 now, .int .i64 v] w fun e w' => ∃ A' n' k', e = .returned (.slice A' n' k') ∧ n' ≤ n ∧ Own w w' (.slice A' n' k') n' (mlL L now v) ∧ Up w w' := by
  have HL := Lib.hid hS.1
  have HS := Lib.hid hS
  clear hS
  have k2 : IntKind.i64.wrap (now - v) = now - v := IntWalk.i64_in _ (by omega)
  go_enter Try.func25, Try.ntmps25
  go_wp2_with fail
  go_loopw [7, 12] (fun s t wr => ∃ (i c : Nat) (A1 : Option Addr) (k1 : Nat), s = .slice A1 c k1 ∧ t = .int .i64 i ∧ i ≤ n ∧ c ≤ i ∧ Own w wr (.slice A1 c k1) c (mlL (L.take i) now v) ∧ Up w wr) (fun _ t _ => n - (intOf t).toNat)
  case atStart => exact ⟨0, 0, none, 0, rfl, rfl, Nat.zero_le _, Nat.le_refl _, Own.nil _ _, Up.refl _⟩
  case round =>
    obtain ⟨i, c, A1, k1, rfl, rfl, hin, hci, hO, hU⟩ := hrel
    have HU := Lib.hid hU
    have HO := Lib.hid hO
    clear hU hO
    by_cases hi : i < n
    · obtain ⟨b, o, rfl, d0, d1⟩ := (HS.out.up HU.out).at_ hi
      have HN1 := Lib.hid (mlL_take (L := L) (i := i) (by rw [HL.out]; exact hi) now v)
      have hp : L.getD i (0, 0) = ((L.getD i (0, 0)).1, (L.getD i (0, 0)).2) := rfl
      rw [hp] at HN1
      generalize (L.getD i (0, 0)).1 = p0 at *
      generalize (L.getD i (0, 0)).2 = p1 at *
      have f2 : (i : Int) < n := by omega
      have f3 : (0 : Int) ≤ i := by omega
      clear hp
      by_cases hx : now - v < p0 ∧ p0 ≤ now
      · have HM : Hid (mlL (L.take (i + 1)) now v = mlL (L.take i) now v ++ [(p0, p1)]) := Lib.hid (by rw [HN1.out, if_pos (by simp only [Bool.and_eq_true, decide_eq_true_eq]; exact hx)])
        have t1 : decide (now - v < p0) = true := decide_eq_true hx.1
        have t2 : decide (p0 ≤ now) = true := decide_eq_true hx.2
        clear HN1 hx
        obtain ⟨A2, k2, w2, hr, ho, hu⟩ := append1I_run 41 w (wr.alloc (.cells #[.int .i64 p0, .int .i64 p1] 47)) A1 c k1 _ p0 p1 (HO.out.of_up ((Up.refl _).alloc _ _)) (HU.out.alloc _ _) (by omega)
        rw [← HM.out] at ho
        rw [size_alloc] at hr
        have HO2 := Lib.hid ho
        have HU2 := Lib.hid hu
        clear ho hu HM
        go_wp2_with (refine wpList_append_run (o := ⟨some 31, _, _, _, _, _⟩) rfl (.tmp 28) (.tmp 30) _ rfl _ _ rfl rfl _ _ hr ?_)
        go_roundw
        case rel => exact ⟨i + 1, c + 1, _, _, rfl, by go_num, by omega, by omega, HO2.out, HU2.out⟩
        case measure => simp [intOf]; omega
      · have HM : Hid (mlL (L.take (i + 1)) now v = mlL (L.take i) now v) := Lib.hid (by rw [HN1.out, if_neg (by simp only [Bool.and_eq_true, decide_eq_true_eq]; exact hx), List.append_nil])
        clear HN1
        by_cases h1 : now - v < p0
        · have t1 : decide (now - v < p0) = true := decide_eq_true h1
          have t2 : decide (p0 ≤ now) = false := decide_eq_false (fun h => hx ⟨h1, h⟩)
          clear hx h1
          go_wp2_with fail
          go_roundw
          case rel => exact ⟨i + 1, c, _, _, rfl, by go_num, by omega, by omega, by rw [HM.out]; exact HO.out.of_up ((Up.refl _).alloc _ _), HU.out.alloc _ _⟩
          case measure => simp [intOf]; omega
        · have t1 : decide (now - v < p0) = false := decide_eq_false h1
          clear hx h1
          go_wp2_with fail
          go_roundw
          case rel => exact ⟨i + 1, c, _, _, rfl, by go_num, by omega, by omega, by rw [HM.out]; exact HO.out.of_up ((Up.refl _).alloc _ _), HU.out.alloc _ _⟩
          case measure => simp [intOf]; omega
    · obtain rfl : i = n := by omega
      have ht : L.take i = L := List.take_of_length_le (by rw [HL.out]; exact Nat.le_refl _)
      rw [ht] at HO
      clear ht
      go_wp2_with fail
      go_ret
      exact ⟨_, _, _, rfl, hci, HO.out, HU.out⟩


theorem int_in (a n : Int) (hn : 1 ≤ n) (hn' : n ≤ 10000) (w : World) :
    Calls Try.prog 22 #[.int .i64 a, .int .i64 n] w fun e w' => ∃ r, e = .returned (.int .i64 r) ∧ 0 ≤ r ∧ r ≤ n - 1 ∧ w = w' := by
  have KM := Lib.hid (fun W => mod_in a n hn hn' W)
  go_enter Try.func22, Try.ntmps22
  go_wp2_with (go_at_call 24; (with_reducible refine (KM.out _).mono ?_); rintro e w' ⟨r, rfl, hr1, hr2, rfl⟩)
  go_ret
  exact ⟨_, rfl, hr1, hr2, rfl⟩
set_option maxHeartbeats 8000000 in
set_option maxRecDepth 100000 in
theorem window_any (a b c : Int) (w : World) :
    Calls Try.prog 21 #[.int .i64 a, .int .i64 b, .int .i64 c] w fun e w' => ∃ v q d, e = .returned (.tuple #[.int .i64 v, .int .i64 q, .int .i64 d]) ∧ (1 ≤ v ∧ v ≤ 25) ∧ (1 ≤ q ∧ q ≤ 4) ∧ (1 ≤ d ∧ d ≤ 65536) ∧ w = w' := by
  have K1 := Lib.hid (fun W => mod_in c 40 (by omega) (by omega) W)
  have K2 := Lib.hid (fun W => modm_any c 4 (by omega) (by omega) W)
  have K3 := Lib.hid (fun W => mod_in a 25 (by omega) (by omega) W)
  have K4 := Lib.hid (fun W => int_in b 4 (by omega) (by omega) W)
  have m0 : 0 ≤ c % 4 := Int.emod_nonneg _ (by omega)
  have m1 : c % 4 < 4 := Int.emod_lt_of_pos _ (by omega)
  generalize c % 4 = m at *
  have hm : m = 0 ∨ m = 1 ∨ m = 2 ∨ m = 3 := by omega
  rcases hm with rfl | rfl | rfl | rfl
  · go_enter Try.func21, Try.ntmps21
    go_wp2_with (first
      | (go_at_call 24; (with_reducible refine (K2.out _).mono ?_); rintro e w' ⟨rfl, rfl⟩)
      | (go_at_call 24; (with_reducible refine (K1.out _).mono ?_); rintro e w' ⟨r1, rfl, hr1, hr2, rfl⟩)
      | (go_at_call 24; (with_reducible refine (K3.out _).mono ?_); rintro e w' ⟨r3, rfl, hr5, hr6, rfl⟩)
      | (go_at_call 22; (with_reducible refine (K4.out _).mono ?_); rintro e w' ⟨r4, rfl, hr7, hr8, rfl⟩))
    exact bodyPost_ret (v := .tuple #[.int .i64 (1 + r3), .int .i64 (1 + r4), .int .i64 65536]) (by simp [results, Try.results21, go_sem]) rfl ⟨_, _, _, rfl, ⟨by omega, by omega⟩, ⟨by omega, by omega⟩, ⟨by omega, by omega⟩, rfl⟩
  · go_enter Try.func21, Try.ntmps21
    go_wp2_with (first
      | (go_at_call 24; (with_reducible refine (K2.out _).mono ?_); rintro e w' ⟨rfl, rfl⟩)
      | (go_at_call 24; (with_reducible refine (K1.out _).mono ?_); rintro e w' ⟨r1, rfl, hr1, hr2, rfl⟩)
      | (go_at_call 24; (with_reducible refine (K3.out _).mono ?_); rintro e w' ⟨r3, rfl, hr5, hr6, rfl⟩)
      | (go_at_call 22; (with_reducible refine (K4.out _).mono ?_); rintro e w' ⟨r4, rfl, hr7, hr8, rfl⟩))
    exact bodyPost_ret (v := .tuple #[.int .i64 (1 + r3), .int .i64 (1 + r4), .int .i64 200]) (by simp [results, Try.results21, go_sem]) rfl ⟨_, _, _, rfl, ⟨by omega, by omega⟩, ⟨by omega, by omega⟩, ⟨by omega, by omega⟩, rfl⟩
  · go_enter Try.func21, Try.ntmps21
    go_wp2_with (first
      | (go_at_call 24; (with_reducible refine (K2.out _).mono ?_); rintro e w' ⟨rfl, rfl⟩)
      | (go_at_call 24; (with_reducible refine (K1.out _).mono ?_); rintro e w' ⟨r1, rfl, hr1, hr2, rfl⟩)
      | (go_at_call 24; (with_reducible refine (K3.out _).mono ?_); rintro e w' ⟨r3, rfl, hr5, hr6, rfl⟩)
      | (go_at_call 22; (with_reducible refine (K4.out _).mono ?_); rintro e w' ⟨r4, rfl, hr7, hr8, rfl⟩))
    exact bodyPost_ret (v := .tuple #[.int .i64 (1 + r3), .int .i64 (1 + r4), .int .i64 (1 + r1)]) (by simp [results, Try.results21, go_sem]) rfl ⟨_, _, _, rfl, ⟨by omega, by omega⟩, ⟨by omega, by omega⟩, ⟨by omega, by omega⟩, rfl⟩
  · go_enter Try.func21, Try.ntmps21
    go_wp2_with (first
      | (go_at_call 24; (with_reducible refine (K2.out _).mono ?_); rintro e w' ⟨rfl, rfl⟩)
      | (go_at_call 24; (with_reducible refine (K1.out _).mono ?_); rintro e w' ⟨r1, rfl, hr1, hr2, rfl⟩)
      | (go_at_call 24; (with_reducible refine (K3.out _).mono ?_); rintro e w' ⟨r3, rfl, hr5, hr6, rfl⟩)
      | (go_at_call 22; (with_reducible refine (K4.out _).mono ?_); rintro e w' ⟨r4, rfl, hr7, hr8, rfl⟩))
    exact bodyPost_ret (v := .tuple #[.int .i64 (1 + r3), .int .i64 (1 + r4), .int .i64 (1 + r1)]) (by simp [results, Try.results21, go_sem]) rfl ⟨_, _, _, rfl, ⟨by omega, by omega⟩, ⟨by omega, by omega⟩, ⟨by omega, by omega⟩, rfl⟩
end Go.Proofs.Ytfdjhahnggdklaa
