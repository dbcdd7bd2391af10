/- Texts of these claims, one after the other. -/
import Derived.Test.YtchikndofpkjmaaRows
import Derived.Test.YtchikndofpkjmaaZESqq43
import Derived.Test.YtchikndofpkjmaaZIBaseq77
namespace Go.Proofs.Ytchikndofpkjmaa
open Go.RowKit
set_option linter.unusedVariables false

theorem far7 {w : World} {p g o : Nat} {v0 v1 v2 v3 v4 v5 v6 : Value} {u : Value} (h : w.cell? ⟨g, o, none⟩ = some u) (hp : p ≠ g) : (((((((w.setCell ⟨p, 0, none⟩ v0).setCell ⟨p, 1, none⟩ v1).setCell ⟨p, 2, none⟩ v2).setCell ⟨p, 3, none⟩ v3).setCell ⟨p, 4, none⟩ v4).setCell ⟨p, 5, none⟩ v5).setCell ⟨p, 6, none⟩ v6).cell? ⟨g, o, none⟩ = some u :=
  (cell_far hp).trans ((cell_far hp).trans ((cell_far hp).trans ((cell_far hp).trans ((cell_far hp).trans ((cell_far hp).trans ((cell_far hp).trans h))))))
end Go.Proofs.Ytchikndofpkjmaa

namespace Go.Proofs.Ytchikndofpkjmaa

/-- What a tick leaves; whether one mark is close to another; the marks with one more item. -/
def drM (td w : Int) (X : List Mrk) : List Mrk := drL (fun m => liveB td w m.t) X
section
variable {g w k c now : Int} {P : List Nat} {I : List It}
end
end Go.Proofs.Ytchikndofpkjmaa

namespace Go.Proofs.Ytchikndofpkjmaa
open Go.RowKit
set_option linter.unusedVariables false

theorem adv_yes {now td : Int} (ht : tickB now = true) (h : now ≤ td) (k : td ≤ 16777216) : (if tickB now = true then (if td < now ∨ 16777216 < td then ((0 : Int), (3 : Int)) else (td, 0)) else (0, 1)) = (td, 0) := by rw [if_pos ht, if_neg (by omega)]
end Go.Proofs.Ytchikndofpkjmaa
