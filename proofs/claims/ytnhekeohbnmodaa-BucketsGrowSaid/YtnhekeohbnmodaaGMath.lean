/- Plain facts on the cells of ring buffers. -/
import Derived.Test.YtnhekeohbnmodaaGBase
namespace Go.Proofs.Ytnhekeohbnmodaa

/-- The cells of a buffer with c cells, head h and the elements M. -/
def ofL (c h : Nat) (M : List It) : List It := (List.range c).map fun j => M.getD ((j + c - h) % c) (0, 0)
theorem ofL_length (c h : Nat) (M : List It) : (ofL c h M).length = c := by simp [ofL]
theorem ofL_at (c h : Nat) (M : List It) (j : Nat) (hj : j < c) : (ofL c h M)[j]? = some (M.getD ((j + c - h) % c) (0, 0)) := by
  simp [ofL, hj]
theorem ofL_getD (c h : Nat) (M : List It) (j : Nat) (hj : j < c) : (ofL c h M).getD j (0, 0) = M.getD ((j + c - h) % c) (0, 0) := by
  simp [List.getD, ofL_at c h M j hj]
theorem ix_of {c h j : Nat} (hh : h < c) (hj : j < c) : (j + c - h) % c = if h ≤ j then j - h else j + c - h := by
  split
  · rw [show j + c - h = (j - h) + c by omega, Nat.add_mod_right, Nat.mod_eq_of_lt (by omega)]
  · exact Nat.mod_eq_of_lt (by omega)
theorem pl_of {c h i : Nat} (hh : h < c) (hi : i ≤ c) : (h + i) % c = if h + i < c then h + i else h + i - c := by
  split
  · exact Nat.mod_eq_of_lt (by assumption)
  · rw [show h + i = (h + i - c) + c by omega, Nat.add_mod_right, Nat.mod_eq_of_lt (by omega)]; omega
/-- Element i lies at its place. -/
theorem ofL_place (c h : Nat) (M : List It) (i : Nat) (hh : h < c) (hi : i < c) : (ofL c h M).getD ((h + i) % c) (0, 0) = M.getD i (0, 0) := by
  have hm : (h + i) % c < c := Nat.mod_lt _ (by omega)
  rw [ofL_getD c h M _ hm, ix_of hh hm, pl_of hh (by omega)]
  congr 1
  split <;> split <;> omega
theorem getD_out {M : List It} {i : Nat} (h : M.length ≤ i) : M.getD i (0, 0) = (0, 0) := by simp [List.getD, h]
theorem set_of {c h h' p : Nat} {M M' : List It} {x : It} (hp : p < c) (H : ∀ j, j < c → (if p = j then x else M.getD ((j + c - h) % c) (0, 0)) = M'.getD ((j + c - h') % c) (0, 0)) :
    (ofL c h M).set p x = ofL c h' M' := by
  apply List.ext_getElem?
  intro j
  by_cases hj : j < c
  · rw [ofL_at c h' M' j hj, ← H j hj, List.getElem?_set]
    by_cases e : p = j
    · subst e; simp [ofL_length, hp]
    · rw [if_neg e, if_neg e, ofL_at c h M j hj]
  · rw [List.getElem?_eq_none (by rw [List.length_set, ofL_length]; omega), List.getElem?_eq_none (by rw [ofL_length]; omega)]
theorem getD_snoc (M : List It) (x : It) (i : Nat) : (M ++ [x]).getD i (0, 0) = if i = M.length then x else M.getD i (0, 0) := by
  simp only [List.getD, List.getElem?_append]
  by_cases h1 : i < M.length
  · rw [if_pos h1, if_neg (by omega)]
  · rw [if_neg h1]
    by_cases h2 : i = M.length
    · subst h2; simp
    · rw [if_neg h2, List.getElem?_eq_none (by simp; omega), List.getElem?_eq_none (by omega)]
theorem getD_cons (M : List It) (x : It) (i : Nat) : (x :: M).getD i (0, 0) = if i = 0 then x else M.getD (i - 1) (0, 0) := by
  cases i with
  | zero => rfl
  | succ i => simp [List.getD]
theorem push_back (c h : Nat) (M : List It) (x : It) (hh : h < c) (hl : M.length < c) : (ofL c h M).set ((h + M.length) % c) x = ofL c h (M ++ [x]) := by
  refine set_of (Nat.mod_lt _ (by omega)) fun j hj => ?_
  rw [getD_snoc, ix_of hh hj, pl_of hh (by omega)]
  by_cases e : (if h ≤ j then j - h else j + c - h) = M.length
  · rw [if_pos e, if_pos (by revert e; split <;> split <;> omega)]
  · rw [if_neg e, if_neg (by revert e; split <;> split <;> omega)]
theorem pop_back (c h : Nat) (M : List It) (x : It) (hh : h < c) (hl : M.length < c) : (ofL c h (M ++ [x])).set ((h + M.length) % c) (0, 0) = ofL c h M := by
  refine set_of (Nat.mod_lt _ (by omega)) fun j hj => ?_
  rw [getD_snoc, ix_of hh hj, pl_of hh (by omega)]
  by_cases e : (if h ≤ j then j - h else j + c - h) = M.length
  · rw [if_pos e, if_pos (by revert e; split <;> split <;> omega), e, getD_out (Nat.le_refl _)]
  · rw [if_neg e, if_neg (by revert e; split <;> split <;> omega)]
theorem push_front (c h : Nat) (M : List It) (x : It) (hh : h < c) (hl : M.length < c) : (ofL c h M).set ((h + (c - 1)) % c) x = ofL c ((h + (c - 1)) % c) (x :: M) := by
  rcases Nat.eq_zero_or_pos h with rfl | h0
  · rw [show (0 + (c - 1)) % c = c - 1 by rw [Nat.zero_add]; exact Nat.mod_eq_of_lt (by omega)]
    refine set_of (by omega) fun j hj => ?_
    rw [getD_cons, ix_of hh hj, ix_of (by omega) hj, if_pos (Nat.zero_le _), Nat.sub_zero]
    by_cases e : c - 1 = j
    · rw [if_pos e, if_pos (by split <;> omega)]
    · rw [if_neg e, if_neg (show ¬ c - 1 ≤ j by omega), if_neg (by omega), show j + c - (c - 1) - 1 = j by omega]
  · rw [show (h + (c - 1)) % c = h - 1 by rw [show h + (c - 1) = (h - 1) + c by omega, Nat.add_mod_right]; exact Nat.mod_eq_of_lt (by omega)]
    refine set_of (by omega) fun j hj => ?_
    rw [getD_cons, ix_of hh hj, ix_of (by omega) hj]
    by_cases e : h - 1 = j
    · rw [if_pos e, if_pos (by split <;> omega)]
    · rw [if_neg e]
      by_cases g : h ≤ j
      · rw [if_pos g, if_pos (show h - 1 ≤ j by omega), if_neg (by omega), show j - (h - 1) - 1 = j - h by omega]
      · rw [if_neg g, if_neg (show ¬ h - 1 ≤ j by omega), if_neg (by omega), show j + c - (h - 1) - 1 = j + c - h by omega]
theorem pop_front (c h : Nat) (M : List It) (x : It) (hh : h < c) (hl : M.length < c) : (ofL c h (x :: M)).set h (0, 0) = ofL c ((h + 1) % c) M := by
  have hm : (h + 1) % c < c := Nat.mod_lt _ (by omega)
  refine set_of hh fun j hj => ?_
  rw [getD_cons, ix_of hh hj, ix_of hm hj, pl_of hh (by omega)]
  by_cases e : h = j
  · rw [if_pos e, getD_out]; revert e; split <;> split <;> omega
  · rw [if_neg e, if_neg (by split <;> omega)]
    congr 1
    split <;> split <;> split <;> omega
theorem of_nil (c h : Nat) : ofL c h [] = List.replicate c (0, 0) := by
  apply List.ext_getElem?
  intro j
  by_cases hj : j < c
  · rw [ofL_at c h [] j hj]; simp [hj]
  · rw [List.getElem?_eq_none (by rw [ofL_length]; omega), List.getElem?_eq_none (by simp; omega)]
/-- The elements that the cells L hold. -/
def its (c h l : Nat) (L : List It) : List It := (List.range l).map fun i => L.getD ((h + i) % c) (0, 0)
theorem its_length (c h l : Nat) (L : List It) : (its c h l L).length = l := by simp [its]
theorem its_getD (c h l : Nat) (L : List It) (i : Nat) (hi : i < l) : (its c h l L).getD i (0, 0) = L.getD ((h + i) % c) (0, 0) := by
  simp [its, List.getD, hi]
theorem its_snoc (c h l : Nat) (L : List It) : its c h (l + 1) L = its c h l L ++ [L.getD ((h + l) % c) (0, 0)] := by
  simp [its, List.range_succ]
theorem its_of (c h : Nat) (M : List It) (l : Nat) (hh : h < c) (hl : l ≤ M.length) (hM : M.length ≤ c) : its c h l (ofL c h M) = M.take l := by
  apply List.ext_getElem?
  intro j
  by_cases hj : j < l
  · simp only [its, List.getElem?_map, List.getElem?_range hj, Option.map_some, List.getElem?_take, if_pos hj]
    rw [ofL_place c h M j hh (by omega)]
    simp [List.getD, List.getElem?_eq_getElem (show j < M.length by omega)]
  · rw [List.getElem?_eq_none (by rw [its_length]; omega), List.getElem?_eq_none (by simp; omega)]
/-- A valid buffer has the cells of its elements. -/
theorem of_its (c h l : Nat) (L : List It) (hh : h < c) (hL : L.length = c) (hz : ∀ k, k < c → l ≤ k → L.getD ((h + k) % c) (0, 0) = (0, 0)) : ofL c h (its c h l L) = L := by
  apply List.ext_getElem?
  intro j
  by_cases hj : j < c
  · rw [ofL_at _ _ _ j hj]
    have hi : (j + c - h) % c < c := Nat.mod_lt _ (by omega)
    have hback : (h + (j + c - h) % c) % c = j := by rw [pl_of hh (by omega), ix_of hh hj]; split <;> split <;> omega
    have hv : L[j]? = some (L.getD j (0, 0)) := by simp [List.getD, List.getElem?_eq_getElem (show j < L.length by omega)]
    rw [hv]
    congr 1
    by_cases hk : (j + c - h) % c < l
    · rw [its_getD _ _ _ _ _ hk, hback]
    · rw [getD_out (by rw [its_length]; omega)]
      have := hz _ hi (by omega)
      rw [hback] at this
      exact this.symm
  · rw [List.getElem?_eq_none (by rw [ofL_length]; omega), List.getElem?_eq_none (by omega)]
theorem getD_take (M : List It) (k i : Nat) (h : i < k) : (M.take k).getD i (0, 0) = M.getD i (0, 0) := by
  simp [List.getD, h]
theorem take_snoc (M : List It) (k : Nat) (h : k < M.length) : M.take (k + 1) = M.take k ++ [M.getD k (0, 0)] := by
  rw [List.take_succ_eq_append_getElem h]; simp [List.getD, h]
theorem of_step (c h : Nat) (M : List It) (i : Nat) (hh : h < c) (hi : i < M.length) (hM : M.length ≤ c) : (ofL c h (M.take i)).set ((h + i) % c) (M.getD i (0, 0)) = ofL c h (M.take (i + 1)) := by
  have hl : (M.take i).length = i := by rw [List.length_take]; omega
  have := push_back c h (M.take i) (M.getD i (0, 0)) hh (by omega)
  rw [hl] at this
  rw [this, take_snoc M i hi]
/-- Two copies: from the head to the end, and from the first cell on. -/
theorem two_parts (c h : Nat) (M : List It) (hh : h < c) (hM : M.length ≤ c) :
    ((ofL c h M).drop h).take (min (c - h) M.length) ++ (ofL c h M).take (M.length - min (c - h) M.length) = M := by
  apply List.ext_getElem?
  intro j
  have hlen1 : (((ofL c h M).drop h).take (min (c - h) M.length)).length = min (c - h) M.length := by simp [ofL_length]
  by_cases hj : j < min (c - h) M.length
  · rw [List.getElem?_append_left (by omega), List.getElem?_take, if_pos hj, List.getElem?_drop, ofL_at _ _ _ _ (by omega), ix_of hh (by omega), if_pos (by omega), show h + j - h = j by omega]
    simp [List.getD, List.getElem?_eq_getElem (show j < M.length by omega)]
  · rw [List.getElem?_append_right (by omega), hlen1]
    by_cases hj2 : j < M.length
    · rw [List.getElem?_take, if_pos (by omega), ofL_at _ _ _ _ (by omega), ix_of hh (by omega), if_neg (by omega), show j - min (c - h) M.length + c - h = j by omega]
      simp [List.getD, List.getElem?_eq_getElem hj2]
    · rw [List.getElem?_eq_none (by simp [ofL_length]; omega), List.getElem?_eq_none (by omega)]
theorem of_zero (c : Nat) (M : List It) (hM : M.length ≤ c) : ofL c 0 M = M ++ List.replicate (c - M.length) (0, 0) := by
  apply List.ext_getElem?
  intro j
  by_cases hj : j < c
  · rw [ofL_at _ _ _ j hj, show (j + c - 0) % c = j by rw [Nat.sub_zero, Nat.add_mod_right, Nat.mod_eq_of_lt hj], List.getElem?_append]
    by_cases h : j < M.length
    · rw [if_pos h]; simp [List.getD, h]
    · rw [if_neg h, getD_out (by omega), List.getElem?_replicate, if_pos (by omega)]
  · rw [List.getElem?_eq_none (by rw [ofL_length]; omega), List.getElem?_eq_none (by simp; omega)]
end Go.Proofs.Ytnhekeohbnmodaa
