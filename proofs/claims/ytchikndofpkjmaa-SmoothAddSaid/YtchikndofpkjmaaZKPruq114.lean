/- Smooth histograms: aggregates of valid marks never rise from mark to mark, also behind one more item; the removal as the program's loop does it. No program is named here. -/
import Derived.Test.YtchikndofpkjmaaRows
import Derived.Test.YtchikndofpkjmaaZFBaseq71
import Derived.Test.YtchikndofpkjmaaZGBaseq21
import Derived.Test.YtchikndofpkjmaaZIBaseq77
namespace Go.Proofs.Ytchikndofpkjmaa

theorem inM_len (s t v : Int) (X : List Mrk) : (inM s t v X).length = X.length + 1 := by unfold inM; simp
end Go.Proofs.Ytchikndofpkjmaa
