/- Next of package draw, and of its reference. -/
import Derived.Test.YtfandjmfkmdofaaDWeight
namespace Go.Proofs.Ytfandjmfkmdofaa
open Go.RowKit

/-- What Next returns: a draw, the next index, a code. -/
def nxT (L : List Int) (at_ m : Int) : Int × Int × Int :=
  if m < 1 ∨ at_ < 0 then (0, 0, 1) else if (L.length : Int) ≤ at_ ∨ ¬ (0 ≤ L.getD at_.toNat 0 ∧ L.getD at_.toNat 0 < m) then (0, 0, 8) else (L.getD at_.toNat 0, at_ + 1, 0)
abbrev gotN (x : Int × Int × Int) : Ending := .returned (.tuple #[.int .i64 x.1, .int .i64 x.2.1, .int .i64 x.2.2])
theorem nxT_arg {L : List Int} {i m : Int} (h : m < 1 ∨ i < 0) : nxT L i m = (0, 0, 1) := by unfold nxT; rw [if_pos h]
theorem nxT_far {L : List Int} {i m : Int} (h : ¬ (m < 1 ∨ i < 0)) (k : (L.length : Int) ≤ i) : nxT L i m = (0, 0, 8) := by unfold nxT; rw [if_neg h, if_pos (Or.inl k)]
theorem nxT_no {L : List Int} {j : Nat} {m : Int} (h : ¬ m < 1) (k : ¬ (0 ≤ L.getD j 0 ∧ L.getD j 0 < m)) : nxT L j m = (0, 0, 8) := by unfold nxT; rw [if_neg (by omega), if_pos (Or.inr (by simpa using k))]
theorem nxT_yes {L : List Int} {j : Nat} {m : Int} (h : ¬ m < 1) (hj : j < L.length) (k : 0 ≤ L.getD j 0 ∧ L.getD j 0 < m) : nxT L j m = (L.getD j 0, (j : Int) + 1, 0) := by
  unfold nxT
  rw [if_neg (by omega), if_neg (by rintro (h | h); omega; exact h (by simpa using k))]
  rfl

set_option maxHeartbeats 4000000 in
theorem next_any (n k : Nat) (A : Option Addr) (L : List Int) (i m : Int) (hz : n * 8 ≤ 140737488351232) (w : World) (hS : Sn w A n L) :
    Calls Try.prog 9 #[.slice A n k, .int .i64 i, .int .i64 m] w fun e w' => e = gotN (nxT L i m) ∧ w = w' := by
  by_cases h1 : m < 1
  · rw [nxT_arg (Or.inl h1)]
    clear hS
    go_enter Try.func9, Try.ntmps9
    go_wp2
    go_ret3
    exact ⟨rfl, rfl⟩
  by_cases h2 : i < 0
  · rw [nxT_arg (Or.inr h2)]
    clear hS
    go_enter Try.func9, Try.ntmps9
    go_wp2
    go_ret3
    exact ⟨rfl, rfl⟩
  by_cases h3 : (n : Int) ≤ i
  · rw [nxT_far (by omega) (by rw [hS.1]; exact h3)]
    clear hS
    go_enter Try.func9, Try.ntmps9
    go_wp2
    go_ret3
    exact ⟨rfl, rfl⟩
  obtain ⟨j, rfl⟩ : ∃ j : Nat, i = j := ⟨i.toNat, by omega⟩
  have hj : j < n := by omega
  obtain ⟨hl, hcell⟩ := hS
  obtain ⟨b, o, rfl, hc⟩ := hcell (by omega)
  have c1 : w.cell? ⟨b, o + j, none⟩ = some (.int .i64 (L.getD j 0)) := hc j hj
  by_cases hd : 0 ≤ L.getD j 0 ∧ L.getD j 0 < m
  · rw [nxT_yes h1 (by omega) hd]
    have K := Lib.hid (isDraw_any (L.getD j 0) m true (decide_eq_true hd))
    generalize L.getD j 0 = x at *
    clear hcell hc hd h2 h3
    go_enter Try.func9, Try.ntmps9
    go_wp2_with fail
    refine (K.out _).mono ?_
    rintro e w' ⟨rfl, rfl⟩
    go_wp2_with fail
    go_ret3
    exact ⟨rfl, rfl⟩
  · rw [nxT_no h1 hd]
    have K := Lib.hid (isDraw_any (L.getD j 0) m false (decide_eq_false hd))
    generalize L.getD j 0 = x at *
    clear hcell hc hd h2 h3
    go_enter Try.func9, Try.ntmps9
    go_wp2_with fail
    refine (K.out _).mono ?_
    rintro e w' ⟨rfl, rfl⟩
    go_wp2_with fail
    go_ret3
    exact ⟨rfl, rfl⟩
set_option maxHeartbeats 4000000 in
theorem rnext_any (n k : Nat) (A : Option Addr) (L : List Int) (i m : Int) (hz : n * 8 ≤ 140737488351232) (w : World) (hS : Sn w A n L) :
    Calls Try.prog 10 #[.slice A n k, .int .i64 i, .int .i64 m] w fun e w' => e = gotN (nxT L i m) ∧ w = w' := by
  by_cases h1 : m < 1
  · rw [nxT_arg (Or.inl h1)]
    clear hS
    go_enter Try.func10, Try.ntmps10
    go_wp2
    go_ret3
    exact ⟨rfl, rfl⟩
  by_cases h2 : i < 0
  · rw [nxT_arg (Or.inr h2)]
    clear hS
    go_enter Try.func10, Try.ntmps10
    go_wp2
    go_ret3
    exact ⟨rfl, rfl⟩
  by_cases h3 : (n : Int) ≤ i
  · rw [nxT_far (by omega) (by rw [hS.1]; exact h3)]
    clear hS
    go_enter Try.func10, Try.ntmps10
    go_wp2
    go_ret3
    exact ⟨rfl, rfl⟩
  obtain ⟨j, rfl⟩ : ∃ j : Nat, i = j := ⟨i.toNat, by omega⟩
  have hj : j < n := by omega
  obtain ⟨hl, hcell⟩ := hS
  obtain ⟨b, o, rfl, hc⟩ := hcell (by omega)
  have c1 : w.cell? ⟨b, o + j, none⟩ = some (.int .i64 (L.getD j 0)) := hc j hj
  by_cases d0 : 0 ≤ L.getD j 0
  · by_cases d1 : L.getD j 0 < m
    · rw [nxT_yes h1 (by omega) ⟨d0, d1⟩]
      generalize L.getD j 0 = x at *
      clear hcell hc h2 h3
      go_enter Try.func10, Try.ntmps10
      go_wp2
      go_ret3
      exact ⟨rfl, rfl⟩
    · rw [nxT_no h1 (fun h => d1 h.2)]
      generalize L.getD j 0 = x at *
      clear hcell hc h2 h3
      go_enter Try.func10, Try.ntmps10
      go_wp2
      go_ret3
      exact ⟨rfl, rfl⟩
  · rw [nxT_no h1 (fun h => d0 h.1)]
    generalize L.getD j 0 = x at *
    clear hcell hc h2 h3
    go_enter Try.func10, Try.ntmps10
    go_wp2
    go_ret3
    exact ⟨rfl, rfl⟩
end Go.Proofs.Ytfandjmfkmdofaa
