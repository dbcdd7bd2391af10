/- Package extreme: live and merged. -/
import Derived.Test.YtfcknhpllhkpeaaRows
import Derived.Test.YtfcknhpllhkpeaaZUPushq70
namespace Go.Proofs.Ytfcknhpllhkpeaa
open Go.RowKit
set_option linter.unusedVariables false

theorem adE_mem17 {mx : Bool} {t v : Int} {X : List It} {x : It} (h : x ∈ adE mx t v X) : x ∈ X ∨ x = (t, v) := by
  unfold adE poE at h
  split at h
  · exact Or.inl (List.mem_filter.1 h).1
  · rcases List.mem_append.1 h with h | h
    · exact Or.inl (List.mem_filter.1 h).1
    · exact Or.inr (List.mem_singleton.1 h)
theorem adE_desc17 {mx : Bool} {t v : Int} {X : List It} (hX : X.Pairwise (fun x y => x.1 < y.1 ∧ sgE mx y.2 < sgE mx x.2)) (hle : ∀ x ∈ X, x.1 ≤ t) : (adE mx t v X).Pairwise (fun x y => x.1 < y.1 ∧ sgE mx y.2 < sgE mx x.2) := ((KdE.self hX).add (v := v) hle).desc
end Go.Proofs.Ytfcknhpllhkpeaa
