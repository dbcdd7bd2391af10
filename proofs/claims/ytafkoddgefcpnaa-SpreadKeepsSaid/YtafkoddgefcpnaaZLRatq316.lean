/- The answers of histograms of the spread, as rational numbers: they hold the spread of the live items, and are narrow. No program is named here. -/
import Derived.Test.YtafkoddgefcpnaaRows
import Derived.Test.YtafkoddgefcpnaaZKBaseq174
import Derived.Test.YtafkoddgefcpnaaZLInvq308
import Derived.Test.YtafkoddgefcpnaaZRQuoq224
namespace Go.Proofs.Ytafkoddgefcpnaa

/-- The marks X are those that the items M have left. -/
def Sp (v q c now : Int) (X : List Mrk) (M : List It) : Prop := mayC v q c now = true ∧ M.length ≤ 1000 ∧ ∃ P, X = P.map (mrkA M) ∧ Ss v q c now P M
theorem Sp.start {v q c : Int} (hm : mayC v q c 0 = true) : Sp v q c 0 [] [] :=
  ⟨hm, Nat.zero_le _, [], rfl, SnM.start (by omega) (mayC_facts hm).2.1.1 (mayC_facts hm).2.2.1.1⟩
section
variable {v q c now : Int} {X : List Mrk} {M : List It}
theorem Sp.st (h : Sp v q c now X M) : stP v q c now M.length X = true := by
  obtain ⟨hm, hl, P, rfl, hs⟩ := h
  exact Ss.st hs hm (by omega)
theorem Sp.len (h : Sp v q c now X M) : X.length ≤ M.length := by
  obtain ⟨hm, hl, P, rfl, hs⟩ := h
  rw [List.length_map]
  exact SnM.len hs
theorem Sp.adv (h : Sp v q c now X M) {td : Int} (h1 : now ≤ td) (h2 : td ≤ 16777216) : Sp v q c td (drM td v X) M := by
  obtain ⟨hm, hl, P, rfl, hs⟩ := h
  obtain ⟨f1, f2, f3, f4⟩ := mayC_facts hm
  have hk := (mayC_true hm).2
  exact ⟨mayC_ok (by omega) h2 f2.1 f2.2 f3.1 f3.2 hk.1 hk.2, hl, _, SnM.dr_map hs hm h1 h2, hs.adv h1⟩
theorem Sp.add (h : Sp v q c now X M) {d : Int} (hd : valG 4 d) (hf : fuM c M.length X = false) (hl : M.length + 1 ≤ 1000) : Sp v q c now (adS q M.length now d X) (M ++ [(now, d)]) := by
  obtain ⟨hm, _, P, rfl, hs⟩ := h
  have h0 := (mayC_facts hm).1.1
  have hc : ∀ p, P.head? = some p → (M.length : Int) - p < c := by
    rcases SnM.fu_no hs hf with e | e
    · exact e.1
    · omega
  exact ⟨hm, by rw [List.length_append]; simpa using hl, _, Ss.ad_map hs hm hd hc, Ss.add hs h0 hd hc (Nat.le_refl _)⟩
end
end Go.Proofs.Ytafkoddgefcpnaa
