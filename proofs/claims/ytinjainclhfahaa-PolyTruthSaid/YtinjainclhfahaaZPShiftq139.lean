/- shifted of the laws of layer 15: items from a tick on. -/
import Derived.Test.YtinjainclhfahaaRows
import Derived.Test.YtinjainclhfahaaZEPolyq71
import Derived.Test.YtinjainclhfahaaZPBaseq96
import Derived.Test.YtinjainclhfahaaZPMadeq138
namespace Go.Proofs.Ytinjainclhfahaa
open Go.RowKit
set_option linter.unusedVariables false

theorem Sl.setT {w : World} {b o n i : Nat} {L : List It} {y : Int} (h : Sl w (some ⟨b, o, none⟩) n L) (hi : i < n) :
    Sl (w.setCell ⟨b, o + i * 2, none⟩ (.int .i64 y)) (some ⟨b, o, none⟩) n (L.set i (y, (L.getD i (0, 0)).2)) := by
  have hl : i < L.length := by rw [h.1]; exact hi
  refine ⟨by rw [List.length_set]; exact h.1, fun h0 => ⟨b, o, rfl, fun j u hj => ?_⟩⟩
  obtain ⟨b', o', e, hc⟩ := h.2 h0
  injection e with e
  injection e with e1 e2
  subst e1 e2
  rw [← fl_set, List.getElem?_set] at hj
  by_cases e : i * 2 + 1 = j
  · subst e
    have h1 := hc _ _ (fl_get1 L i hl)
    rw [if_pos rfl] at hj
    split at hj
    · injection hj with hj
      subst hj
      rw [World.cell?_setCell_other _ _ _ _ (by intro e3; injection e3 with e4 e5; omega), h1]
      simp [List.getD, hl]
    · cases hj
  · rw [if_neg e, List.getElem?_set] at hj
    by_cases e2 : i * 2 = j
    · subst e2
      have h1 := hc _ _ (fl_get0 L i hl)
      rw [if_pos rfl] at hj
      split at hj
      · injection hj with hj
        subst hj
        exact World.cell?_setCell_same _ _ _ h1
      · cases hj
    rw [if_neg e2] at hj
    have hx : (fl L)[j]? = some u := hj
    rw [World.cell?_setCell_other _ _ _ _ (by intro e3; injection e3 with e4 e5; omega)]
    exact hc j u hx

/-- Items from a tick on. -/
def sdM (land z : Int) (M : List It) : Prop := (0 ≤ z ∧ z ≤ 48060) ∧ ∀ j, j < M.length → land ≤ (M.getD j (0, 0)).1 ∧ (M.getD j (0, 0)).1 ≤ z + land ∧ (0 < j → (M.getD (j - 1) (0, 0)).1 ≤ (M.getD j (0, 0)).1) ∧ 0 ≤ (M.getD j (0, 0)).2 ∧ (M.getD j (0, 0)).2 ≤ 4096
def ShR (land : Int) (w : World) (e : Ending) (w' : World) : Prop := ∃ (A' : Option Addr) (n' k' : Nat) (M : List It) (z : Int), e = .returned (.slice A' n' k') ∧ n' ≤ 60 ∧ sdM land z M ∧ Sl w' A' n' M ∧ Up w w'
set_option maxHeartbeats 4000000 in
set_option maxRecDepth 100000 in
theorem shifted_up (n k : Nat) (A : Option Addr) (L : List It) (land : Int) (h0 : 0 ≤ land) (h1 : land ≤ 999999) (w : World) (hS : Sl w A n L) :
    Calls Try.prog 28 #[.slice A n k, .int .i64 land] w fun e w' => ShR land w e w' := by
  have KI := Lib.hid (fun W (h : Sl W A n L) => positiveP_up n k A L 400 (by decide) (by decide) 60 60 rfl (by decide) 4096 (by decide) (by decide) W h)
  have HS := Lib.hid hS
  clear hS
  go_enter Try.func28, Try.ntmps28
  go_wp2_with (go_at_call 53; (with_reducible refine (KI.out _ HS.out).mono ?_); rintro e w1 ⟨A1, n1, k1_, M0, z, rfl, hn1, hP, hV, hN, hO, hu⟩; have HU1 := Lib.hid hu; have HT := Lib.hid hP; have HV := Lib.hid hV; have HN := Lib.hid hN; have HS1 := Lib.hid hO; clear hu hP hO hV hN)
  go_loopw [11] (fun t wr => ∃ (i : Nat) (M : List It), t = .int .i64 i ∧ i ≤ n1 ∧ Hid (∀ j, j < i → M.getD j (0, 0) = ((M0.getD j (0, 0)).1 + land, (M0.getD j (0, 0)).2)) ∧ Hid (∀ j, i ≤ j → M.getD j (0, 0) = M0.getD j (0, 0)) ∧ Hid (Sl wr A1 n1 M) ∧ Hid (Up w wr)) (fun t _ => n1 - (intOf t).toNat)
  case atStart => exact ⟨0, M0, rfl, Nat.zero_le _, Lib.hid (fun j hj => absurd hj (Nat.not_lt_zero _)), Lib.hid (fun _ _ => rfl), HS1, HU1⟩
  case round =>
    obtain ⟨i, M, rfl, hi, HA, HB, HSM, HU⟩ := hrel
    by_cases hlt : i < n1
    case neg =>
      obtain rfl : i = n1 := by omega
      have f1 : decide ((i : Int) < i) = false := decide_eq_false (by omega)
      go_wp2_with fail
      go_ret
      refine ⟨_, _, _, M, z, rfl, hn1, ⟨⟨HT.out.1, by have q1 := HT.out.2.1; have q2 := HS1.out.1; omega⟩, fun j hj => ?_⟩, HSM.out, HU.out⟩
      rw [HSM.out.1] at hj
      have q := HT.out.2.2 j (by rw [HS1.out.1]; exact hj)
      have v := HV.out j hj
      rw [HA.out j hj]
      refine ⟨by have := q.1; show land ≤ _ + land; omega, by have := q.2.1; show _ + land ≤ z + land; omega, fun hj0 => ?_, v.1, v.2⟩
      rw [HA.out (j - 1) (by omega)]
      have := q.2.2 hj0
      show _ + land ≤ _ + land
      omega
    obtain ⟨b, o, rfl, d0, d1⟩ := HSM.out.at_ hlt
    have hz0 := HU.out.ownGe (HN.out b o rfl) (o + i * 2)
    have hml : i < M.length := by rw [HSM.out.1]; exact hlt
    have e0 := HB.out i (Nat.le_refl _)
    have q := HT.out.2.2 i (by rw [HS1.out.1]; exact hlt)
    have qz := HT.out.2.1
    have ql := HS1.out.1
    have kw : IntKind.i64.wrap ((M.getD i (0, 0)).1 + land) = (M.getD i (0, 0)).1 + land := IntWalk.i64_in _ (by rw [e0]; omega)
    have HR : Hid (Sl (wr.setCell ⟨b, o + i * 2, none⟩ (.int .i64 ((M.getD i (0, 0)).1 + land))) (some ⟨b, o, none⟩) n1 (M.set i ((M.getD i (0, 0)).1 + land, (M.getD i (0, 0)).2)) ∧ Up w (wr.setCell ⟨b, o + i * 2, none⟩ (.int .i64 ((M.getD i (0, 0)).1 + land)))) := Lib.hid ⟨HSM.out.setT hlt, HU.out.setCell (HN.out b o rfl) _⟩
    have HA2 : Hid (∀ j, j < i + 1 → (M.set i ((M.getD i (0, 0)).1 + land, (M.getD i (0, 0)).2)).getD j (0, 0) = ((M0.getD j (0, 0)).1 + land, (M0.getD j (0, 0)).2)) := Lib.hid (fun j hj => by
      rw [getD_set M i j _ hml]
      by_cases e : i = j
      · subst e; rw [if_pos rfl, e0]
      · rw [if_neg e]; exact HA.out j (by omega))
    have HB2 : Hid (∀ j, i + 1 ≤ j → (M.set i ((M.getD i (0, 0)).1 + land, (M.getD i (0, 0)).2)).getD j (0, 0) = M0.getD j (0, 0)) := Lib.hid (fun j hj => by
      rw [getD_set M i j _ hml, if_neg (by omega)]; exact HB.out j (by omega))
    clear HA HB q qz ql e0
    generalize M.set i ((M.getD i (0, 0)).1 + land, (M.getD i (0, 0)).2) = M2 at *
    generalize (M.getD i (0, 0)).2 = p1 at *
    generalize (M.getD i (0, 0)).1 = p0 at *
    have f2 : (i : Int) < n1 := by omega
    have f3 : (0 : Int) ≤ i := by omega
    clear d1 hml
    go_wp2_with fail
    go_roundw
    case rel => exact ⟨i + 1, M2, by go_num, by omega, HA2, HB2, Lib.hid HR.out.1, Lib.hid HR.out.2⟩
    case measure => simp [intOf]; omega
end Go.Proofs.Ytinjainclhfahaa
