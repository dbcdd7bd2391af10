/- run of the laws of layer 16: the counter of the items. -/
import Derived.Test.YtegaeaonoggmkaaRows
import Derived.Test.YtegaeaonoggmkaaZGModq120
import Derived.Test.YtegaeaonoggmkaaZOSameq112
namespace Go.Proofs.Ytegaeaonoggmkaa
open Go.RowKit
set_option linter.unusedVariables false

/-- A state of sums and its row. -/
def StH (c : Int) (n : Nat) (X : List Int) (w : World) (e : Ending) (w' : World) : Prop := ∃ (A : Option Addr) (k : Nat), e = .returned (.tuple #[.agg #[.int .i64 c, .slice A n k], .int .i64 0]) ∧ Nw w A ∧ Sn w' A n X ∧ Up w w'
theorem RsH.st {c : Int} {n : Nat} {X : List Int} {w w' : World} {v : Ending} (h : RsH (c, X, 0) w v w') (hn : X.length = n) : StH c n X w v w' := by
  subst hn
  obtain ⟨A, k, h1, h2, h3, h4⟩ := h
  exact ⟨A, k, h1, h2.2, h3, h4⟩
theorem st_in {now : Int} {S : List Int} (h : stH now S = true) : (∀ x ∈ S, In x) ∧ In now := by
  obtain ⟨h1, h2, h3⟩ := stH_is rfl h
  exact ⟨fun x hx => by have := h3 x hx; exact ⟨by omega, by omega⟩, ⟨by omega, by omega⟩⟩
end Go.Proofs.Ytegaeaonoggmkaa
