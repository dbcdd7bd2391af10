/- Same of the reference of layer 17; few and awake of the laws. -/
import Derived.Test.YtfcknhpllhkpeaaRows
import Derived.Test.YtfcknhpllhkpeaaZURefq82
import Derived.Test.YtfcknhpllhkpeaaZUSameq86
namespace Go.Proofs.Ytfcknhpllhkpeaa
open Go.RowKit
set_option linter.unusedVariables false

theorem keS_len (mx : Bool) (L : List It) (n : Nat) : (keS mx L n).length ≤ n := by
  induction n with
  | zero => exact Nat.le_refl _
  | succ n ih =>
    show (if keI mx L n = true then insE (L.getD n (0, 0)) (keS mx L n) else keS mx L n).length ≤ n + 1
    split
    · unfold insE
      rw [List.length_append, List.length_cons]
      generalize (L.getD n (0, 0)).1 = z
      have : ∀ K : List It, (K.filter (fun y => decide (y.1 ≤ z))).length + (K.filter (fun y => decide (z < y.1))).length = K.length := by
        intro K
        induction K with
        | nil => rfl
        | cons x K ihK =>
          by_cases h : x.1 ≤ z
          · rw [List.filter_cons_of_pos (by simpa using h), List.filter_cons_of_neg (by simp; omega)]; simp only [List.length_cons]; omega
          · rw [List.filter_cons_of_neg (by simpa using h), List.filter_cons_of_pos (by simp; omega)]; simp only [List.length_cons]; omega
      have := this (keS mx L n)
      omega
    · omega
theorem kpX_len (mx : Bool) (L : List It) : (kpX mx L).length ≤ L.length := keS_len mx L L.length
theorem mgX_len (mx : Bool) (v c now : Int) (K : List It) (mx' : Bool) (v' c' now' : Int) (K' : List It) : (mgX mx v c now K mx' v' c' now' K').2.2.2.2.1.length ≤ K.length + K'.length := by
  unfold mgX
  split
  · split
    · split
      · split
        · have := kpX_len mx (K ++ K'); rwa [List.length_append] at this
        · exact Nat.zero_le _
      · exact Nat.zero_le _
    · exact Nat.zero_le _
  · exact Nat.zero_le _
end Go.Proofs.Ytfcknhpllhkpeaa
