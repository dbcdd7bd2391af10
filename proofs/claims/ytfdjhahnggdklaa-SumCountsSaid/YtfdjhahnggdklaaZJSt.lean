/- Histograms of sums: parameters, valid states, the state after values. No program is named here. -/
import Derived.Test.YtfdjhahnggdklaaZGBasem8
import Derived.Test.YtfdjhahnggdklaaZHGrowm2
import Derived.Test.YtfdjhahnggdklaaZHRInsm2
import Derived.Test.YtfdjhahnggdklaaZHSamem5
import Derived.Test.YtfdjhahnggdklaaZHVal
import Derived.Test.YtfdjhahnggdklaaZJMath
namespace Go.Proofs.Ytfdjhahnggdklaa

/-- Parameters; valid states; what Validate returns. -/
def mxB (mx : Int) : Bool := decide (1 ≤ mx ∧ mx ≤ 1024)
def mayS (v q c mx now : Int) : Bool := mayC v q c now && mxB mx
def stS (v q c mx now : Int) (X : List It) : Bool := stC v q c now X && mxB mx
def stSE (v q c mx now : Int) (X : List It) : Int := if stS v q c mx now X = true then 0 else 2
theorem mxB_true {mx : Int} (h : mxB mx = true) : 1 ≤ mx ∧ mx ≤ 1024 := of_decide_eq_true h
theorem mayS_yes {v q c mx now : Int} (h : mayC v q c now = true) (h1 : 1 ≤ mx) (h2 : mx ≤ 1024) : mayS v q c mx now = true := by
  unfold mayS mxB
  rw [h, decide_eq_true (p := 1 ≤ mx ∧ mx ≤ 1024) ⟨h1, h2⟩]
  rfl
theorem stS_true {v q c mx now : Int} {X : List It} (h : stS v q c mx now X = true) : stC v q c now X = true ∧ 1 ≤ mx ∧ mx ≤ 1024 := by
  unfold stS at h
  rw [Bool.and_eq_true] at h
  exact ⟨h.1, mxB_true h.2⟩
theorem stS_yes {v q c mx now : Int} {X : List It} (h : stC v q c now X = true) (h1 : 1 ≤ mx) (h2 : mx ≤ 1024) : stS v q c mx now X = true := by
  unfold stS mxB
  rw [h, decide_eq_true (p := 1 ≤ mx ∧ mx ≤ 1024) ⟨h1, h2⟩]
  rfl
theorem stSE_yes {v q c mx now : Int} {X : List It} (h : stS v q c mx now X = true) : stSE v q c mx now X = 0 := if_pos h
theorem stSE_no {v q c mx now : Int} {X : List It} (h : stS v q c mx now X = false) : stSE v q c mx now X = 2 := if_neg (by rw [h]; exact Bool.false_ne_true)
/-- The forms in which the program and the reference ask. -/
theorem stS_form {v q c mx now : Int} {X : List It} : stS v q c mx now X = (mayS v q c mx now && (vaB X q && (lvX now v X && decide (totB X ≤ c)))) := by
  unfold stS stC mayS
  cases mayC v q c now <;> cases mxB mx <;> cases vaB X q <;> cases lvX now v X <;> simp
/-- So many unit items of the tick now. -/
theorem stC_many {v k c now : Int} {X : List It} (h : stC v k c now X = true) : ∀ n : Nat, totB X + n ≤ c → stC v k c now (itB k now n X) = true ∧ totB (itB k now n X) = totB X + n := by
  intro n
  induction n with
  | zero => intro _; exact ⟨h, by simp [itB]⟩
  | succ n ih =>
    intro hn
    obtain ⟨h1, h2⟩ := ih (by omega)
    obtain ⟨a1, a2, a3, a4⟩ := stC_true h1
    obtain ⟨b1, b2, b3, b4⟩ := stC_add h1 (by omega)
    refine ⟨b1, ?_⟩
    show totB (puB k now (itB k now n X)) = _
    rw [(puB_va a2 b2.1 b2.2 b3 b4).2.1, h2]
    omega
theorem stC_facts {v k c now : Int} {X : List It} (h : stC v k c now X = true) : (0 ≤ now ∧ now ≤ 16777216) ∧ (∀ x ∈ X, x.1 ≤ now) ∧ c ≤ 65536 := by
  obtain ⟨a1, a2, a3, a4⟩ := stC_true h
  obtain ⟨g1, g2, g3, g4⟩ := mayC_facts a1
  have hl := lvX_iff.1 a3
  exact ⟨g1, fun x hx => ((live_iff g4 (a2.rg x hx).1.1).1 (hl x hx)).2, g3.2⟩
theorem in_many {v k c now m : Int} {X : List It} (h : stC v k c now X = true) (h0 : 0 ≤ m) (h1 : m ≤ 1024) (hc : totB X + m ≤ c) : inB X k now m = true := by
  obtain ⟨g1, g2, g3⟩ := stC_facts h
  unfold inB
  rw [vaB_iff.2 (stC_true h).2.1, fol_of g1.1 g1.2 g2, roo_yes h0 h1 (fun _ => by omega)]
  rfl
theorem imL_many {v k c now m : Int} {X : List It} (h : stC v k c now X = true) (h0 : 0 ≤ m) (h1 : m ≤ 1024) (hc : totB X + m ≤ c) : imL X k now m = itB k now m.toNat X := imL_yes (in_many h h0 h1 hc)
theorem itB_none (k t : Int) (X : List It) : itB k t (0 : Int).toNat X = X := rfl
end Go.Proofs.Ytfdjhahnggdklaa
