/- What Ask of the reference of package recent returns: a part. -/
import Derived.Test.YtflahclphdlolaaGreatZFBase
import Derived.Test.YtflahclphdlolaaGreatZFRAsk1
import Derived.Test.YtflahclphdlolaaGreatZFRAsk2
import Derived.Test.YtflahclphdlolaaGreatZFRAsk3
import Derived.Test.YtflahclphdlolaaGreatZFRAsk4
import Derived.Test.YtflahclphdlolaaGreatZFRAsk5
import Derived.Test.YtflahclphdlolaaGreatZFRVal
import Derived.Test.YtflahclphdlolaaGreatZG0a
import Derived.Test.YtflahclphdlolaaGreatZG11a
import Derived.Test.YtflahclphdlolaaGreatZG2a
namespace Go.Proofs.YtflahclphdlolaaGreat
open Go.RowKit

theorem rask9_all (v c now o a b : Int) (n k : Nat) (A : Option Addr) (L : List It) (hb : b ≤ 9223372036854775807) {N D e0 : Int} {Vs : List Int} (h : askR v c now L o a b = (N, D, Vs, e0)) (w : World) (hS : Sl w A n L) :
    Calls Tryz.prog 7 #[.agg #[.int .i64 v, .int .i64 c, .int .i64 now, .slice A n k], .agg #[.int .i64 o, .int .i64 a, .int .i64 b]] w fun e w' => ∃ A' k', e = .returned (.tuple #[.agg #[.int .i64 N, .int .i64 D, .int .i64 N, .int .i64 D, .int .i64 N, .int .i64 D, .slice A' Vs.length k', .int .u64 0, .int .u64 0, .int .u64 0, .int .u64 0], .int .i64 e0]) ∧ Sn w' A' Vs.length Vs ∧ Up w w' := by
  unfold askR at h
  by_cases hst : stB v c now L = false
  · rw [if_pos hst] at h
    cases h
    exact (rask9_bad v c now o a b n k A L hst w hS).mono (fun _ _ ⟨h1, h2⟩ => ⟨none, 0, h1, Sn.none_, h2⟩)
  rw [if_neg hst] at h
  rw [Bool.not_eq_false] at hst
  by_cases h1 : o = 1
  · rw [if_pos h1] at h
    subst h1
    cases h
    exact (rask9_1 v c now a b n k A L hst w hS).mono (fun _ _ ⟨h1, h2⟩ => ⟨none, 0, h1, Sn.none_, h2⟩)
  rw [if_neg h1] at h
  by_cases h2 : o = 2
  · rw [if_pos h2] at h
    subst h2
    cases h
    exact (rask9_2 v c now a b n k A L hst w hS).mono (fun _ _ ⟨h1, h2⟩ => ⟨none, 0, h1, Sn.none_, h2⟩)
  rw [if_neg h2] at h
  by_cases h3 : o = 3
  · rw [if_pos h3] at h
    subst h3
    cases h
    exact (rask9_3 v c now a b n k A L hst w hS).mono (fun _ _ ⟨h1, h2⟩ => ⟨none, 0, h1, Sn.none_, h2⟩)
  rw [if_neg h3] at h
  by_cases h4 : o = 4
  · rw [if_pos h4] at h
    subst h4
    cases h
    exact (rask9_4 v c now a b n k A L hst w hS).mono (fun _ _ ⟨h1, h2⟩ => ⟨none, 0, h1, Sn.none_, h2⟩)
  rw [if_neg h4] at h
  by_cases h5 : o = 5
  · rw [if_pos h5] at h
    subst h5
    cases h
    exact (rask9_5 v c now a b n k A L hst w hS).mono (fun _ _ ⟨h1, h2⟩ => ⟨none, 0, h1, Sn.none_, h2⟩)
  rw [if_neg h5] at h
  by_cases h6 : o = 6
  · rw [if_pos h6] at h
    subst h6
    exact rask9_6 v c now a b n k A L hst h w hS
  rw [if_neg h6] at h
  by_cases h7 : o = 7
  · rw [if_pos h7] at h
    subst h7
    cases h
    exact (rask9_7 v c now a b n k A L hst w hS).mono (fun _ _ ⟨h1, h2⟩ => ⟨none, 0, h1, Sn.none_, h2⟩)
  rw [if_neg h7] at h
  by_cases h8 : o = 8
  · rw [if_pos h8] at h
    subst h8
    exact rask9_8 v c now a b n k A L hst hb h w hS
  rw [if_neg h8] at h
  cases h
  exact (rask9_other v c now o a b n k A L hst (by omega) w hS).mono (fun _ _ ⟨h1, h2⟩ => ⟨none, 0, h1, Sn.none_, h2⟩)
end Go.Proofs.YtflahclphdlolaaGreat
