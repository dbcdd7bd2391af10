/- PositiveItems of the verifier's package made: items whose ticks ascend, with values from 0 to a bound. -/
import Derived.Test.YtegaeaonoggmkaaRows
import Derived.Test.YtegaeaonoggmkaaZIMadeq123
namespace Go.Proofs.Ytegaeaonoggmkaa
open Go.RowKit
set_option linter.unusedVariables false

theorem Own.nw {w0 w : World} {A : Option Addr} {n c : Nat} {L : List It} (h : Own w0 w (.slice A n c) n L) : Nw w0 A := by
  intro b o e
  rcases h.2 with ⟨h1, _⟩ | ⟨g, cap, cur, h1, h2, _⟩
  · injection h1 with h1; rw [h1] at e; cases e
  · injection h1 with h1
    rw [h1] at e
    injection e with e
    injection e with e1 e2
    omega
/-- Items whose ticks ascend from 0 on up to z. -/
def mdT (M : List It) (z : Int) : Prop :=
  0 ≤ z ∧ z ≤ 51 * M.length ∧ ∀ j, j < M.length → 0 ≤ (M.getD j (0, 0)).1 ∧ (M.getD j (0, 0)).1 ≤ z ∧ (0 < j → (M.getD (j - 1) (0, 0)).1 ≤ (M.getD j (0, 0)).1)
theorem mdQ.t {M : List It} {z : Int} (h : mdQ M z) : mdT M z :=
  ⟨h.1, h.2.1, fun j hj => ⟨(h.2.2 j hj).1, (h.2.2 j hj).2.1, (h.2.2 j hj).2.2.1⟩⟩
theorem getD_set (M : List It) (i j : Nat) (x : It) (hi : i < M.length) : (M.set i x).getD j (0, 0) = if i = j then x else M.getD j (0, 0) := by
  simp only [List.getD, List.getElem?_set]
  by_cases e : i = j
  · subst e; simp [hi]
  · simp [e]
theorem set_tick (M : List It) (i j : Nat) (y : Int) (hi : i < M.length) : ((M.set i ((M.getD i (0, 0)).1, y)).getD j (0, 0)).1 = (M.getD j (0, 0)).1 := by
  rw [getD_set M i j _ hi]
  by_cases e : i = j
  · subst e; rw [if_pos rfl]
  · rw [if_neg e]
theorem mdT.set_ {M : List It} {z : Int} (h : mdT M z) {i : Nat} (hi : i < M.length) (y : Int) : mdT (M.set i ((M.getD i (0, 0)).1, y)) z := by
  obtain ⟨a, b, c⟩ := h
  refine ⟨a, by rw [List.length_set]; exact b, fun j hj => ?_⟩
  rw [List.length_set] at hj
  rw [set_tick M i j y hi, set_tick M i (j - 1) y hi]
  exact c j hj
theorem Sl.setV {w : World} {b o n i : Nat} {L : List It} {y : Int} (h : Sl w (some ⟨b, o, none⟩) n L) (hi : i < n) :
    Sl (w.setCell ⟨b, o + i * 2 + 1, none⟩ (.int .i64 y)) (some ⟨b, o, none⟩) n (L.set i ((L.getD i (0, 0)).1, y)) := by
  have hl : i < L.length := by rw [h.1]; exact hi
  refine ⟨by rw [List.length_set]; exact h.1, fun h0 => ⟨b, o, rfl, fun j u hj => ?_⟩⟩
  obtain ⟨b', o', e, hc⟩ := h.2 h0
  injection e with e
  injection e with e1 e2
  subst e1 e2
  rw [← fl_set, List.getElem?_set] at hj
  by_cases e : i * 2 + 1 = j
  · subst e
    have h1 := hc _ _ (fl_get1 L i hl)
    rw [if_pos rfl] at hj
    split at hj
    · injection hj with hj
      subst hj
      rw [← Nat.add_assoc] at h1 ⊢
      exact World.cell?_setCell_same _ _ _ h1
    · cases hj
  · rw [if_neg e, List.getElem?_set] at hj
    have hx : (fl L)[j]? = some u := by
      by_cases e2 : i * 2 = j
      · subst e2
        rw [if_pos rfl] at hj
        rw [fl_get0 L i hl]
        split at hj
        · rw [← hj]; simp [List.getD, hl]
        · cases hj
      · rw [if_neg e2] at hj; exact hj
    rw [World.cell?_setCell_other _ _ _ _ (by intro e3; injection e3 with e4 e5; omega)]
    exact hc j u hx

set_option maxHeartbeats 4000000 in
set_option maxRecDepth 100000 in
theorem positive_up (n k : Nat) (A : Option Addr) (L : List It) (v : Int) (h1 : 1 ≤ v) (h2 : v ≤ 25) (mx : Nat) (mi : Int) (e : (mx : Int) = mi) (hmx : mx ≤ 200) (y : Int) (y0 : 0 ≤ y) (y1 : y ≤ 9999) (w : World) (hS : Sl w A n L) :
    Calls Try.prog 25 #[.slice A n k, .int .i64 v, .int .i64 mi, .int .i64 y] w fun e w' => ∃ A' n' k' M z, e = .returned (.slice A' n' k') ∧ n' ≤ mx ∧ mdT M z ∧ (∀ j, j < n' → 0 ≤ (M.getD j (0, 0)).2 ∧ (M.getD j (0, 0)).2 ≤ y) ∧ Nw w A' ∧ Sl w' A' n' M ∧ Up w w' := by
  subst e
  have KI := Lib.hid (fun W (h : Sl W A n L) => itemsI_up n k A L v h1 h2 mx hmx W h)
  have KM := Lib.hid (fun b W => mod_in b (y + 1) (by omega) (by omega) W)
  have k1 : IntKind.i64.wrap (y + 1) = y + 1 := IntWalk.i64_in _ (by omega)
  have HS := Lib.hid hS
  clear hS
  go_enter Try.func25, Try.ntmps25
  go_wp2_with (go_at_call 46; (with_reducible refine (KI.out _ HS.out).mono ?_); rintro e w1 ⟨A1, n1, k1_, M0, z, rfl, hn1, hP, hO, hu⟩; have HU1 := Lib.hid hu; have HT := Lib.hid hP.t; have HN := Lib.hid hO.nw; have HS1 : Hid (Sl w1 A1 n1 M0) := Lib.hid (by obtain ⟨A9, k9, e9, _, h9⟩ := hO.sl; cases e9; exact h9); clear hu hP hO)
  go_loopw [17] (fun t wr => ∃ (i : Nat) (M : List It), t = .int .i64 i ∧ i ≤ n1 ∧ Hid (mdT M z) ∧ Hid (∀ j, j < i → 0 ≤ (M.getD j (0, 0)).2 ∧ (M.getD j (0, 0)).2 ≤ y) ∧ Hid (Sl wr A1 n1 M) ∧ Hid (Up w wr)) (fun t _ => n1 - (intOf t).toNat)
  case atStart => exact ⟨0, M0, rfl, Nat.zero_le _, HT, Lib.hid (fun j hj => absurd hj (Nat.not_lt_zero _)), HS1, HU1⟩
  case round =>
    obtain ⟨i, M, rfl, hi, HTM, HV, HSM, HU⟩ := hrel
    by_cases hlt : i < n1
    case neg =>
      obtain rfl : i = n1 := by omega
      go_wp2_with fail
      go_ret
      exact ⟨_, _, _, M, z, rfl, hn1, HTM.out, HV.out, HN.out, HSM.out, HU.out⟩
    obtain ⟨b, o, rfl, d0, d1⟩ := HSM.out.at_ hlt
    have hz0 := HU.out.ownGe (HN.out b o rfl) (o + i * 2 + 1)
    have hml : i < M.length := by rw [HSM.out.1]; exact hlt
    have HN2 : Hid (∀ r : Int, 0 ≤ r → r ≤ y → mdT (M.set i ((M.getD i (0, 0)).1, r)) z ∧ (∀ j, j < i + 1 → 0 ≤ ((M.set i ((M.getD i (0, 0)).1, r)).getD j (0, 0)).2 ∧ ((M.set i ((M.getD i (0, 0)).1, r)).getD j (0, 0)).2 ≤ y) ∧ Sl (wr.setCell ⟨b, o + i * 2 + 1, none⟩ (.int .i64 r)) (some ⟨b, o, none⟩) n1 (M.set i ((M.getD i (0, 0)).1, r)) ∧ Up w (wr.setCell ⟨b, o + i * 2 + 1, none⟩ (.int .i64 r))) := Lib.hid (fun r r0 r1 => by
      refine ⟨HTM.out.set_ hml r, fun j hj => ?_, HSM.out.setV hlt, HU.out.setCell (HN.out b o rfl) _⟩
      rw [getD_set M i j _ hml]
      by_cases e : i = j
      · rw [if_pos e]; exact ⟨r0, r1⟩
      · rw [if_neg e]; exact HV.out j (by omega))
    generalize (M.getD i (0, 0)).2 = p1 at *
    generalize (M.getD i (0, 0)).1 = p0 at *
    have f2 : (i : Int) < n1 := by omega
    have f3 : (0 : Int) ≤ i := by omega
    clear d0 hml
    go_wp2_with (go_at_call 27; (with_reducible refine (KM.out _ _).mono ?_); rintro e w' ⟨r, rfl, hr1, hr2, rfl⟩)
    go_roundw
    case rel =>
      obtain ⟨g1, g2, g3, g4⟩ := HN2.out r hr1 (by omega)
      exact ⟨i + 1, _, by go_num, by omega, Lib.hid g1, Lib.hid g2, Lib.hid g3, Lib.hid g4⟩
    case measure => simp [intOf]; omega
end Go.Proofs.Ytegaeaonoggmkaa
