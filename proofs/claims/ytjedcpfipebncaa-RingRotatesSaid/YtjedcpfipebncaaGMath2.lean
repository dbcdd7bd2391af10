/- More plain facts on the cells of ring buffers. -/
import Derived.Test.YtjedcpfipebncaaGMath
namespace Go.Proofs.Ytjedcpfipebncaa

theorem ofL_head (c h : Nat) (M : List It) (hh : h < c) : (ofL c h M).getD h (0, 0) = M.getD 0 (0, 0) := by
  rw [ofL_getD c h M h hh, ix_of hh hh, if_pos (Nat.le_refl _), Nat.sub_self]
theorem pop_front' (c h : Nat) (M : List It) (hh : h < c) (hl : 0 < M.length) (hM : M.length ≤ c) : (ofL c h M).set h (0, 0) = ofL c ((h + 1) % c) M.tail := by
  cases M with
  | nil => simp at hl
  | cons x M => exact pop_front c h M x hh (by simp at hM; omega)
theorem pop_back' (c h : Nat) (M : List It) (hh : h < c) (hl : 0 < M.length) (hM : M.length ≤ c) : (ofL c h M).set ((h + (M.length - 1)) % c) (0, 0) = ofL c h (M.take (M.length - 1)) := by
  have e : M = M.take (M.length - 1) ++ [M.getD (M.length - 1) (0, 0)] := by
    rw [← take_snoc M (M.length - 1) (by omega), show M.length - 1 + 1 = M.length by omega, List.take_length]
  have hl' : (M.take (M.length - 1)).length = M.length - 1 := by rw [List.length_take]; omega
  have := pop_back c h (M.take (M.length - 1)) (M.getD (M.length - 1) (0, 0)) hh (by omega)
  rw [← e, hl'] at this
  exact this
/-- The elements after k moves from the front to the back. -/
def rotL (M : List It) (k : Nat) : List It := M.drop (k % M.length) ++ M.take (k % M.length)
theorem rotL_zero (M : List It) : rotL M 0 = M := by simp [rotL]
theorem rotL_length (M : List It) (k : Nat) : (rotL M k).length = M.length := by
  by_cases h : M.length = 0
  · simp [rotL, h]
  · have := Nat.mod_lt k (show 0 < M.length by omega)
    simp [rotL]; omega
theorem rotL_step (M : List It) (k : Nat) (h : 0 < M.length) : rotL M (k + 1) = (rotL M k).tail ++ [(rotL M k).getD 0 (0, 0)] := by
  have hj := Nat.mod_lt k h
  unfold rotL
  obtain ⟨j, hj'⟩ : ∃ j, j = k % M.length := ⟨_, rfl⟩
  rw [← hj'] at hj ⊢
  have e : M.drop j = M.getD j (0, 0) :: M.drop (j + 1) := by rw [List.drop_eq_getElem_cons hj]; simp [List.getD, hj]
  have hg : (M.drop j ++ M.take j).getD 0 (0, 0) = M.getD j (0, 0) := by rw [e]; rfl
  rw [hg, e, List.cons_append, List.tail_cons, List.append_assoc, ← take_snoc M j hj]
  by_cases hl : j + 1 < M.length
  · have : (k + 1) % M.length = j + 1 := by rw [Nat.add_mod, ← hj', Nat.mod_eq_of_lt (show 1 < M.length by omega), Nat.mod_eq_of_lt hl]
    rw [this]
  · have hl' : j + 1 = M.length := by omega
    have : (k + 1) % M.length = 0 := by
      by_cases h1 : M.length = 1
      · rw [h1]; exact Nat.mod_one _
      · rw [Nat.add_mod, ← hj', Nat.mod_eq_of_lt (show 1 < M.length by omega), hl', Nat.mod_self]
    rw [this, hl']
    simp
theorem head_step (c h k : Nat) : ((h + k) % c + 1) % c = (h + (k + 1)) % c := by
  rw [Nat.mod_add_mod]; congr 1
/-- One turn of a buffer: the first element goes to the end. -/
theorem turn_step (c h : Nat) (M : List It) (hh : h < c) (hl : 0 < M.length) (hM : M.length ≤ c) :
    ((ofL c h M).set h (0, 0)).set (((h + 1) % c + (M.length - 1)) % c) (M.getD 0 (0, 0)) = ofL c ((h + 1) % c) (M.tail ++ [M.getD 0 (0, 0)]) := by
  rw [pop_front' c h M hh hl hM]
  have := push_back c ((h + 1) % c) M.tail (M.getD 0 (0, 0)) (Nat.mod_lt _ (by omega)) (by rw [List.length_tail]; omega)
  rwa [List.length_tail] at this
end Go.Proofs.Ytjedcpfipebncaa
