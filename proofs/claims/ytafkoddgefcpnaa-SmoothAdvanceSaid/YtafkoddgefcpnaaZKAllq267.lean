/- Advance and Add of package smooth and of its reference: one contract for all cases. New: both. -/
import Derived.Test.YtafkoddgefcpnaaRows
import Derived.Test.YtafkoddgefcpnaaZKAdvq254
import Derived.Test.YtafkoddgefcpnaaZKSameq248
namespace Go.Proofs.Ytafkoddgefcpnaa
open Go.RowKit
set_option linter.unusedVariables false

/-- What Advance and Add return: the numbers of the state, its marks, the error. -/
def advM (g v q c now seq td : Int) (X : List Mrk) : Int × Int × Int × Int × Int × Int × List Mrk × Int :=
  if stM g v q c now seq X = false then (0, 0, 0, 0, 0, 0, [], 2) else if td < now ∨ 16777216 < td then (0, 0, 0, 0, 0, 0, [], 3) else (g, v, q, c, td, seq, drM td v X, 0)
theorem adv13_all (g v q c now seq td : Int) (n k : Nat) (A : Option Addr) (X : List Mrk) (hn : n ≤ 50000) (hk : n ≤ k) {a0 a1 a2 a3 a4 a5 e0 : Int} {M : List Mrk} (h : advM g v q c now seq td X = (a0, a1, a2, a3, a4, a5, M, e0)) (w : World) (hS : SG cM w A n X) :
    Calls Try.prog 24 #[.agg #[.int .i64 g, .int .i64 v, .int .i64 q, .int .i64 c, .int .i64 now, .int .i64 seq, .slice A n k], .int .i64 td] w fun e w' => ∃ A' k', e = .returned (.tuple #[.agg #[.int .i64 a0, .int .i64 a1, .int .i64 a2, .int .i64 a3, .int .i64 a4, .int .i64 a5, .slice A' M.length k'], .int .i64 e0]) ∧ M.length ≤ n + 1 ∧ SG cM w' A' M.length M ∧ Up w w' := by
  unfold advM at h
  split at h
  · rename_i hv
    cases h
    exact (adv13_bad g v q c now seq td n k A X hn hk hv w hS).mono (fun _ _ ⟨h1, h2⟩ => ⟨none, 0, h1, Nat.zero_le _, SG.none_, h2⟩)
  · rename_i hv
    rw [Bool.not_eq_false] at hv
    split at h
    · rename_i ht
      cases h
      exact (adv13_time g v q c now seq td n k A X hn hk hv ht w hS).mono (fun _ _ ⟨h1, h2⟩ => ⟨none, 0, h1, Nat.zero_le _, SG.none_, h2⟩)
    · rename_i ht
      cases h
      refine (adv13_good g v q c now seq td n k A X hn hk hv (by omega) (by omega) w hS).mono ?_
      rintro e w' ⟨A', n', k', rfl, hn', _, _, h3, h2⟩
      obtain rfl : (drM td v X).length = n' := h2.1
      exact ⟨A', k', rfl, by omega, h2, h3⟩
theorem radv13_all (g v q c now seq td : Int) (n k : Nat) (A : Option Addr) (X : List Mrk) (hn : n ≤ 50000) (hk : n ≤ k) {a0 a1 a2 a3 a4 a5 e0 : Int} {M : List Mrk} (h : advM g v q c now seq td X = (a0, a1, a2, a3, a4, a5, M, e0)) (w : World) (hS : SG cM w A n X) :
    Calls Try.prog 25 #[.agg #[.int .i64 g, .int .i64 v, .int .i64 q, .int .i64 c, .int .i64 now, .int .i64 seq, .slice A n k], .int .i64 td] w fun e w' => ∃ A' k', e = .returned (.tuple #[.agg #[.int .i64 a0, .int .i64 a1, .int .i64 a2, .int .i64 a3, .int .i64 a4, .int .i64 a5, .slice A' M.length k'], .int .i64 e0]) ∧ M.length ≤ n + 1 ∧ SG cM w' A' M.length M ∧ Up w w' := by
  unfold advM at h
  split at h
  · rename_i hv
    cases h
    exact (radv13_bad g v q c now seq td n k A X hn hk hv w hS).mono (fun _ _ ⟨h1, h2⟩ => ⟨none, 0, h1, Nat.zero_le _, SG.none_, h2⟩)
  · rename_i hv
    rw [Bool.not_eq_false] at hv
    split at h
    · rename_i ht
      cases h
      exact (radv13_time g v q c now seq td n k A X hn hk hv ht w hS).mono (fun _ _ ⟨h1, h2⟩ => ⟨none, 0, h1, Nat.zero_le _, SG.none_, h2⟩)
    · rename_i ht
      cases h
      refine (radv13_good g v q c now seq td n k A X hn hk hv (by omega) (by omega) w hS).mono ?_
      rintro e w' ⟨A', n', k', rfl, hn', _, h3, h2⟩
      obtain rfl : (drM td v X).length = n' := h2.1
      exact ⟨A', k', rfl, by omega, h2, h3⟩
end Go.Proofs.Ytafkoddgefcpnaa
