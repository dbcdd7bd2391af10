/- Texts of these claims, one after the other. -/
import Derived.Test.YtegaeaonoggmkaaRows
import Derived.Test.YtegaeaonoggmkaaZOMathq24
import Derived.Test.YtegaeaonoggmkaaZPMathq17
namespace Go.Proofs.Ytegaeaonoggmkaa

theorem okM.app {land now : Int} {A B : List It} (h : okM land now A) (h2 : okM land now B) : okM land now (A ++ B) := fun x hx => (List.mem_append.1 hx).elim (h x) (h2 x)
end Go.Proofs.Ytegaeaonoggmkaa

namespace Go.Proofs.Ytegaeaonoggmkaa

theorem okH.app {now : Int} {A B : List It} (h : okH now A) (g : okH now B) : okH now (A ++ B) := fun x hx => (List.mem_append.1 hx).elim (h x) (g x)
theorem hvS_mg (now : Int) (a : Nat) (A B : List It) : mgH (hvS now a A) (hvS now a B) = hvS now a (A ++ B) := by
  unfold mgH
  rw [hvS_len]
  refine byL_ext (fun e he => ?_)
  rw [buH_app]
  unfold hvS
  rw [byL_at he, byL_at he]
end Go.Proofs.Ytegaeaonoggmkaa
