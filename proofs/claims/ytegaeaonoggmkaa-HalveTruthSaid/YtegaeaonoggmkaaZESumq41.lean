/- Texts of these claims, one after the other. -/
import Derived.Test.YtegaeaonoggmkaaRows
import Derived.Test.YtegaeaonoggmkaaZESqq38
import Derived.Test.YtegaeaonoggmkaaZETotalq39
import Derived.Test.YtegaeaonoggmkaaZHTallyq56
import Derived.Test.YtegaeaonoggmkaaZPMathq17
namespace Go.Proofs.Ytegaeaonoggmkaa
open Go.RowKit

/-- The sum of terms, as long as each has one and all sums fit. -/
def accO (f : It → Int) (b : It → Bool) : Int → List It → Option Int
  | s, [] => some s
  | s, x :: L => if (b x && fits2 (s + f x)) = true then accO f b (s + f x) L else none
theorem drop_consI {L : List It} {i : Nat} (h : i < L.length) : L.drop i = L.getD i (0, 0) :: L.drop (i + 1) := by
  rw [List.drop_eq_getElem_cons h]; simp [List.getD, h]
theorem accO_end {f : It → Int} {b : It → Bool} {L : List It} {i : Nat} {s : Int} (h : L.length ≤ i) : accO f b s (L.drop i) = some s := by rw [List.drop_eq_nil_of_le h]; rfl
theorem accO_next {f : It → Int} {b : It → Bool} {L : List It} {i : Nat} {s : Int} (h : i < L.length) (hb : b (L.getD i (0, 0)) = true) (hf : fits2 (s + f (L.getD i (0, 0))) = true) : accO f b s (L.drop i) = accO f b (s + f (L.getD i (0, 0))) (L.drop (i + 1)) := by
  rw [drop_consI h, accO, hb, hf]; rfl
theorem accO_no {f : It → Int} {b : It → Bool} {L : List It} {i : Nat} {s : Int} (h : i < L.length) (hb : b (L.getD i (0, 0)) = false) : accO f b s (L.drop i) = none := by
  rw [drop_consI h, accO, hb]; rfl
theorem accO_big {f : It → Int} {b : It → Bool} {L : List It} {i : Nat} {s : Int} (h : i < L.length) (hf : fits2 (s + f (L.getD i (0, 0))) = false) : accO f b s (L.drop i) = none := by
  rw [drop_consI h, accO, hf, Bool.and_false]; rfl

end Go.Proofs.Ytegaeaonoggmkaa

namespace Go.Proofs.Ytegaeaonoggmkaa
open Go.RowKit

theorem byL_zero (n : Nat) : byL n (fun _ => 0) = List.replicate n 0 := by
  apply List.ext_getElem
  · rw [byL_len, List.length_replicate]
  · intro i h1 h2
    rw [List.getElem_replicate]
    exact (List.getElem_map ..)
end Go.Proofs.Ytegaeaonoggmkaa

namespace Go.Proofs.Ytegaeaonoggmkaa
open Go.RowKit
set_option linter.unusedVariables false

/-- The counters of items. -/
theorem hv_make {a : Nat} {t : Int} (ha : 1 ≤ a ∧ a ≤ 64) (h0 : 0 ≤ t) (h1 : t ≤ 16777216) : nwH a t = (t, hvS t a [], 0) := by
  unfold nwH
  rw [if_pos ⟨by omega, by omega⟩, hvS_nil, byL_zero, Int.toNat_natCast]
theorem hv_adv {a : Nat} {now t : Int} {M : List It} (ha : 1 ≤ a ∧ a ≤ 64) (hn : 0 ≤ now) (hnt : now ≤ t) (ht : t ≤ 16777216) (ho : okH now M) (hl : M.length ≤ 1000) : avR now (hvS now a M) t = (t, hvS t a M, 0) := by
  unfold avR
  rw [if_pos (hvS_st ho ha ⟨hn, by omega⟩ hl), if_neg (by omega), hvS_av _ _ ho, show now + ((t - now).toNat : Int) = t by omega]
theorem hv_add {a : Nat} {now v : Int} {M : List It} (ha : 1 ≤ a ∧ a ≤ 64) (hn : 0 ≤ now ∧ now ≤ 16777216) (hv : 0 ≤ v ∧ v ≤ 4096) (ho : okH now M) (hl : M.length ≤ 1000) : anR now (hvS now a M) v = (now, hvS now a (M ++ [(now, v)]), 0) := by
  have e : (hvS now a M).getD 0 0 = buH now 0 M := by unfold hvS; rw [byL_at (by omega)]
  have hb := (buH_bd 0 ho).2
  unfold anR
  rw [if_pos (hvS_st ho ha hn hl), if_neg (by omega), if_neg (by rw [e]; omega), hvS_an]
theorem hv_ask {a : Nat} {now : Int} {M : List It} (ha : 1 ≤ a ∧ a ≤ 64) (hn : 0 ≤ now ∧ now ≤ 16777216) (ho : okH now M) (hl : M.length ≤ 1000) : akR now (hvS now a M) = (sumH now a M, 2 ^ (a - 1), 0) := by
  unfold akR
  rw [if_pos (hvS_st ho ha hn hl), asH_hvS a ho, hvS_len]
end Go.Proofs.Ytegaeaonoggmkaa

namespace Go.Proofs.Ytegaeaonoggmkaa
open Go.RowKit

theorem tyL_len (f : Nat → Int) : (tyL f).length = 31 := by simp [tyL]
theorem tyL_at (f : Nat → Int) {j : Nat} (h : j < 31) : (tyL f)[j]? = some (.int .i64 (f j)) := by simp [tyL, h]
theorem tyL_set (f : Nat → Int) (m : Nat) (x : Int) : (tyL f).set m (.int .i64 x) = tyL (fun j => if j = m then x else f j) := by
  apply List.ext_getElem?
  intro j
  rw [List.getElem?_set]
  by_cases hj : j < 31
  · rw [tyL_at _ hj, tyL_at _ hj]
    by_cases e : m = j
    · subst e; simp [tyL_len, hj]
    · rw [if_neg e, if_neg (fun h => e h.symm)]
  · rw [List.getElem?_eq_none (by rw [tyL_len]; omega), List.getElem?_eq_none (by rw [tyL_len]; omega)]
    by_cases e : m = j
    · rw [if_pos e, if_neg (by rw [tyL_len]; omega)]
    · rw [if_neg e]
end Go.Proofs.Ytegaeaonoggmkaa

namespace Go.Proofs.Ytegaeaonoggmkaa
open Go.RowKit

theorem Mk.at_ {w : World} {g : Nat} {f : Nat → Int} (h : Mk w g f) {j : Nat} (hj : j < 31) : w.cell? ⟨g, j, none⟩ = some (.int .i64 (f j)) := by
  rw [Blk.cell h]; simp [tyL_at f hj]
theorem Mk.set_ {w : World} {g : Nat} {f : Nat → Int} (h : Mk w g f) (m : Nat) (x : Int) : Mk (w.setCell ⟨g, m, none⟩ (.int .i64 x)) g (fun j => if j = m then x else f j) := by
  have h1 := Blk.set_ h m (.int .i64 x)
  unfold Mk
  rw [← tyL_set]
  simpa using h1
end Go.Proofs.Ytegaeaonoggmkaa

namespace Go.Proofs.Ytegaeaonoggmkaa
open Go.RowKit

theorem il_len (L : List Int) : (il L).length = L.length := by simp [il]
theorem il_at {L : List Int} {j : Nat} (h : j < L.length) : (il L)[j]? = some (.int .i64 (L.getD j 0)) := by simp [il, List.getD, h]
theorem OwI.sl {w0 w : World} {v : Value} {n : Nat} {L : List Int} (h : OwI w0 w v n L) : ∃ A c, v = .slice A n c ∧ n ≤ c ∧ Sn w A n L := by
  have hn : L.length = n := by have := h.1; rw [il_len] at this; omega
  rcases h.2 with ⟨rfl, rfl⟩ | ⟨g, cap, cur, rfl, _, hh, hc, _, hs, ht⟩
  · exact ⟨none, 0, rfl, Nat.le_refl _, hn, fun hx => absurd hx (by omega)⟩
  · refine ⟨some ⟨g, 0, none⟩, cap, rfl, hc, hn, fun _ => ⟨g, 0, rfl, fun j hj => ?_⟩⟩
    rw [Nat.zero_add, cell_of_row w g j cur _ (0, 0) hh]
    have e := il_at (L := L) (j := j) (by omega)
    rw [← ht, List.getElem?_take] at e
    split at e
    · simpa using e
    · cases e
end Go.Proofs.Ytegaeaonoggmkaa
