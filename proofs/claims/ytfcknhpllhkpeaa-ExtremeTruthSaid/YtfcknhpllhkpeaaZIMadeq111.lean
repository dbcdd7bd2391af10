/- What Gap, Items, Live and Window of the verifier's package made return, for windows up to 25 ticks. -/
import Derived.Test.YtfcknhpllhkpeaaRows
import Derived.Test.YtfcknhpllhkpeaaZFMadeq98
import Derived.Test.YtfcknhpllhkpeaaZUStq47
namespace Go.Proofs.Ytfcknhpllhkpeaa
open Go.RowKit
set_option linter.unusedVariables false

theorem gapI_any (a v : Int) (h1 : 1 ≤ v) (h2 : v ≤ 25) (w : World) :
    Calls Try.prog 47 #[.int .i64 a, .int .i64 v] w fun e w' => ∃ g, e = .returned (.int .i64 g) ∧ 0 ≤ g ∧ g ≤ 51 ∧ w = w' := by
  have KM := Lib.hid (fun W => modm_any a 8 (by omega) (by omega) W)
  have KB := Lib.hid (fun b W => mod_in b (2 * v + 2) (by omega) (by omega) W)
  have KC := Lib.hid (fun b W => mod_in b 3 (by omega) (by omega) W)
  generalize a % 8 = m at KM
  by_cases m0 : m = 0
  · subst m0
    clear KC
    go_enter Try.func47, Try.ntmps47
    go_wp2_with (first
      | (go_at_call 24; (with_reducible refine (KM.out _).mono ?_); rintro e w' ⟨rfl, rfl⟩)
      | (go_at_call 24; (with_reducible refine (KB.out _ _).mono ?_); rintro e w' ⟨r, rfl, hr1, hr2, rfl⟩))
    go_ret
    exact ⟨_, rfl, by omega, by omega, rfl⟩
  have t0 : (m == 0) = false := by simp [m0]
  by_cases m1 : m = 1 ∨ m = 2
  · clear KB
    rcases m1 with rfl | rfl
    all_goals
      go_enter Try.func47, Try.ntmps47
      go_wp2_with (first
        | (go_at_call 24; (with_reducible refine (KM.out _).mono ?_); rintro e w' ⟨rfl, rfl⟩)
        | (go_at_call 24; (with_reducible refine (KC.out _ _).mono ?_); rintro e w' ⟨r, rfl, hr1, hr2, rfl⟩))
      go_ret
      exact ⟨_, rfl, by omega, by omega, rfl⟩
  · have t1 : (m == 1) = false := by simp; omega
    have t2 : (m == 2) = false := by simp; omega
    clear KB KC m0 m1
    go_enter Try.func47, Try.ntmps47
    go_wp2_with (go_at_call 24; (with_reducible refine (KM.out _).mono ?_); rintro e w' ⟨rfl, rfl⟩)
    go_ret
    exact ⟨_, rfl, by omega, by omega, rfl⟩

/-- Items whose ticks ascend from 0 on up to z, with values. -/
def mdQ (M : List It) (z : Int) : Prop :=
  0 ≤ z ∧ z ≤ 51 * M.length ∧ ∀ j, j < M.length → 0 ≤ (M.getD j (0, 0)).1 ∧ (M.getD j (0, 0)).1 ≤ z ∧ (0 < j → (M.getD (j - 1) (0, 0)).1 ≤ (M.getD j (0, 0)).1) ∧ valueB (M.getD j (0, 0)).2 = true
theorem mdQ_nil : mdQ [] 0 := ⟨by omega, by simp, fun j hj => absurd hj (Nat.not_lt_zero _)⟩
theorem mdQ_next {M : List It} {z g x : Int} (h : mdQ M z) (h1 : 0 ≤ g) (h2 : g ≤ 51) (hx : valueB x = true) : mdQ (M ++ [(z + g, x)]) (z + g) := by
  obtain ⟨a, b, c⟩ := h
  refine ⟨by omega, by rw [List.length_append]; simp only [List.length_cons, List.length_nil]; omega, fun j hj => ?_⟩
  rw [List.length_append] at hj
  simp only [List.length_cons, List.length_nil] at hj
  rcases Nat.lt_or_ge j M.length with hl | hl
  · rw [snoc_lt hl]
    have := c j hl
    refine ⟨this.1, by omega, fun h0 => ?_, this.2.2.2⟩
    rw [snoc_lt (show j - 1 < M.length by omega)]
    exact this.2.2.1 h0
  · obtain rfl : j = M.length := by omega
    rw [snoc_at]
    refine ⟨by omega, Int.le_refl _, fun h0 => ?_, hx⟩
    rw [snoc_lt (show M.length - 1 < M.length by omega)]
    have := c (M.length - 1) (by omega)
    show _ ≤ z + g
    omega

set_option maxHeartbeats 4000000 in
set_option maxRecDepth 100000 in
theorem itemsI_up (n k : Nat) (A : Option Addr) (L : List It) (v : Int) (h1 : 1 ≤ v) (h2 : v ≤ 25) (mx : Nat) (hmx : mx ≤ 200) (w : World) (hS : Sl w A n L) :
    Calls Try.prog 25 #[.slice A n k, .int .i64 v, .int .i64 mx] w fun e w' => ∃ A' n' k' M z, e = .returned (.slice A' n' k') ∧ n' ≤ mx ∧ mdQ M z ∧ Own w w' (.slice A' n' k') n' M ∧ Up w w' := by
  have KG := Lib.hid (fun a W => gapI_any a v h1 h2 W)
  have KV := Lib.hid mvalue_any
  have HS := Lib.hid hS
  clear hS
  go_enter Try.func25, Try.ntmps25
  go_wp2_with fail
  go_loopw [7, 8, 9] (fun s t u wr => ∃ (i : Nat) (z : Int) (A1 : Option Addr) (k1 : Nat) (M : List It), s = .slice A1 i k1 ∧ t = .int .i64 z ∧ u = .int .i64 i ∧ i ≤ mx ∧ 0 ≤ z ∧ z ≤ 10200 ∧ Hid (M.length = i) ∧ Hid (mdQ M z) ∧ Hid (Own w wr (.slice A1 i k1) i M) ∧ Hid (Up w wr)) (fun _ _ u _ => mx - (intOf u).toNat)
  case atStart => exact ⟨0, 0, none, 0, [], rfl, rfl, rfl, Nat.zero_le _, by omega, by omega, Lib.hid rfl, Lib.hid mdQ_nil, Lib.hid (Own.nil _ _), Lib.hid (Up.refl _)⟩
  case round =>
    obtain ⟨i, z, A1, k1, M, rfl, rfl, rfl, hi, z0, z1, HN, HP, HO, HU⟩ := hrel
    by_cases hlt : i < n
    case neg =>
      have t1 : decide (i < n) = false := decide_eq_false hlt
      go_wp2_with fail
      go_ret
      exact ⟨_, _, _, M, z, rfl, hi, HP.out, HO.out, HU.out⟩
    have t1 : decide (i < n) = true := decide_eq_true hlt
    by_cases hl2 : i < mx
    case neg =>
      have t2 : decide ((i : Int) < mx) = false := decide_eq_false (by omega)
      go_wp2_with fail
      go_ret
      exact ⟨_, _, _, M, z, rfl, hi, HP.out, HO.out, HU.out⟩
    have t2 : decide ((i : Int) < mx) = true := decide_eq_true (by omega)
    obtain ⟨b, o, rfl, d0, d1⟩ := (HS.out.up HU.out).at_ hlt
    generalize (L.getD i (0, 0)).1 = p0 at *
    generalize (L.getD i (0, 0)).2 = p1 at *
    have f2 : (i : Int) < n := by omega
    have f3 : (0 : Int) ≤ i := by omega
    have hz2 : z ≤ 51 * i := by have := HP.out.2.1; rw [HN.out] at this; exact this
    go_upto_region 7 with (go_at_call 47; (with_reducible refine (KG.out _ _).mono ?_); rintro e w' ⟨g, rfl, g0, g1, rfl⟩)
    have HR : Hid (∀ x : Int, ∃ A2 k2 w2, (Builtin.append_ #[22, 22] 22 #[.slice A1 i k1, .slice (some ⟨wr.heap.size, 0, none⟩) 1 1]).run Try.prog (wr.alloc (.cells #[.int .i64 (z + g), .int .i64 x] 41)) = .ok (.slice A2 (i + 1) k2) w2 ∧ Own w w2 (.slice A2 (i + 1) k2) (i + 1) (M ++ [(z + g, x)]) ∧ Up w w2) :=
      Lib.hid (fun x => append1I_run 22 w wr A1 i k1 M (z + g) x HO.out HU.out (by omega))
    have k3 : IntKind.i64.wrap (z + g) = z + g := IntWalk.i64_in _ (by omega)
    go_wp2_with (first
      | (go_at_call 48; (with_reducible refine (KV.out _ _).mono ?_); rintro e w' ⟨y, rfl, hy, rfl⟩; have HY := Lib.hid hy; clear hy; obtain ⟨A2, k2, w2, hr, hO2, hU2⟩ := HR.out y; have HO2 := Lib.hid hO2; have HU2 := Lib.hid hU2; clear hO2 hU2)
      | (refine wpList_append_run (o := ⟨some 40, _, _, _, _, _⟩) rfl (.tmp 30) (.tmp 39) _ rfl _ _ rfl rfl _ _ hr ?_))
    go_roundw
    case rel => exact ⟨i + 1, z + g, A2, k2, M ++ [(z + g, y)], rfl, rfl, by go_num, by omega, by omega, by omega, Lib.hid (by rw [List.length_append, HN.out]; rfl), Lib.hid (mdQ_next HP.out g0 g1 HY.out), HO2, HU2⟩
    case measure => simp [intOf]; omega

end Go.Proofs.Ytfcknhpllhkpeaa
