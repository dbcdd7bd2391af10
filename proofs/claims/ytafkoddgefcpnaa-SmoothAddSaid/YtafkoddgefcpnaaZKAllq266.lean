/- Advance and Add of package smooth and of its reference: one contract for all cases. New: both. -/
import Derived.Test.YtafkoddgefcpnaaRows
import Derived.Test.YtafkoddgefcpnaaZKRAdq264
import Derived.Test.YtafkoddgefcpnaaZKSameq248
namespace Go.Proofs.Ytafkoddgefcpnaa
open Go.RowKit
set_option linter.unusedVariables false

def addM (g v q c now seq d : Int) (X : List Mrk) : Int × Int × Int × Int × Int × Int × List Mrk × Int :=
  if stM g v q c now seq X = false then (0, 0, 0, 0, 0, 0, [], 2) else if ¬ valG g d then (0, 0, 0, 0, 0, 0, [], 4) else if fuM c seq X = true then (0, 0, 0, 0, 0, 0, [], 5) else (g, v, q, c, now, seq + 1, adM g q seq now d X, 0)
theorem add13_all (g v q c now seq d : Int) (n k : Nat) (A : Option Addr) (X : List Mrk) (hn : n ≤ 50000) (hk : n ≤ k) {a0 a1 a2 a3 a4 a5 e0 : Int} {M : List Mrk} (h : addM g v q c now seq d X = (a0, a1, a2, a3, a4, a5, M, e0)) (w : World) (hS : SG cM w A n X) :
    Calls Try.prog 26 #[.agg #[.int .i64 g, .int .i64 v, .int .i64 q, .int .i64 c, .int .i64 now, .int .i64 seq, .slice A n k], .int .i64 d] w fun e w' => ∃ A' k', e = .returned (.tuple #[.agg #[.int .i64 a0, .int .i64 a1, .int .i64 a2, .int .i64 a3, .int .i64 a4, .int .i64 a5, .slice A' M.length k'], .int .i64 e0]) ∧ M.length ≤ n + 1 ∧ SG cM w' A' M.length M ∧ Up w w' := by
  unfold addM at h
  split at h
  · rename_i hv
    cases h
    exact (add13_bad g v q c now seq d n k A X hn hk hv w hS).mono (fun _ _ ⟨h1, h2⟩ => ⟨none, 0, h1, Nat.zero_le _, SG.none_, h2⟩)
  · rename_i hv
    rw [Bool.not_eq_false] at hv
    split at h
    · rename_i hd
      cases h
      exact (add13_range g v q c now seq d n k A X hn hk hv hd w hS).mono (fun _ _ ⟨h1, h2⟩ => ⟨none, 0, h1, Nat.zero_le _, SG.none_, h2⟩)
    · rename_i hd
      have hd := Classical.not_not.1 hd
      split at h
      · rename_i hf
        cases h
        exact (add13_full g v q c now seq d n k A X hn hk hv hd hf w hS).mono (fun _ _ ⟨h1, h2⟩ => ⟨none, 0, h1, Nat.zero_le _, SG.none_, h2⟩)
      · rename_i hf
        rw [Bool.not_eq_true] at hf
        cases h
        refine (add13_good g v q c now seq d n k A X hn hk hv hd hf w hS).mono ?_
        rintro e w' ⟨A', n', k', rfl, hn', _, _, h3, h2⟩
        obtain rfl : (adM g q seq now d X).length = n' := h2.1
        exact ⟨A', k', rfl, by omega, h2, h3⟩
theorem radd13_all (g v q c now seq d : Int) (n k : Nat) (A : Option Addr) (X : List Mrk) (hn : n ≤ 50000) (hk : n ≤ k) {a0 a1 a2 a3 a4 a5 e0 : Int} {M : List Mrk} (h : addM g v q c now seq d X = (a0, a1, a2, a3, a4, a5, M, e0)) (w : World) (hS : SG cM w A n X) :
    Calls Try.prog 27 #[.agg #[.int .i64 g, .int .i64 v, .int .i64 q, .int .i64 c, .int .i64 now, .int .i64 seq, .slice A n k], .int .i64 d] w fun e w' => ∃ A' k', e = .returned (.tuple #[.agg #[.int .i64 a0, .int .i64 a1, .int .i64 a2, .int .i64 a3, .int .i64 a4, .int .i64 a5, .slice A' M.length k'], .int .i64 e0]) ∧ M.length ≤ n + 1 ∧ SG cM w' A' M.length M ∧ Up w w' := by
  unfold addM at h
  split at h
  · rename_i hv
    cases h
    exact (radd13_bad g v q c now seq d n k A X hn hk hv w hS).mono (fun _ _ ⟨h1, h2⟩ => ⟨none, 0, h1, Nat.zero_le _, SG.none_, h2⟩)
  · rename_i hv
    rw [Bool.not_eq_false] at hv
    split at h
    · rename_i hd
      cases h
      exact (radd13_range g v q c now seq d n k A X hn hk hv hd w hS).mono (fun _ _ ⟨h1, h2⟩ => ⟨none, 0, h1, Nat.zero_le _, SG.none_, h2⟩)
    · rename_i hd
      have hd := Classical.not_not.1 hd
      split at h
      · rename_i hf
        cases h
        exact (radd13_full g v q c now seq d n k A X hn hk hv hd hf w hS).mono (fun _ _ ⟨h1, h2⟩ => ⟨none, 0, h1, Nat.zero_le _, SG.none_, h2⟩)
      · rename_i hf
        rw [Bool.not_eq_true] at hf
        cases h
        refine (radd13_good g v q c now seq d n k A X hn hk hv hd hf w hS).mono ?_
        rintro e w' ⟨A', n', k', rfl, hn', _, h3, h2⟩
        obtain rfl : (adM g q seq now d X).length = n' := h2.1
        exact ⟨A', k', rfl, by omega, h2, h3⟩
end Go.Proofs.Ytafkoddgefcpnaa
