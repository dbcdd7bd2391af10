/- Advance and Add of package recent and of its reference: one contract for all cases. -/
import Derived.Test.YtflahclphdlolaaFAdd
import Derived.Test.YtflahclphdlolaaFRAdd
namespace Go.Proofs.Ytflahclphdlolaa
open Go.RowKit

/-- What Advance and Add return: the parts of the state, its items, the error. -/
def advR (v c now tk : Int) (L : List It) : Int × Int × Int × List It × Int :=
  if stB v c now L = false then (0, 0, 0, [], 2) else if tk < now ∨ 16777216 < tk then (0, 0, 0, [], 3) else (v, c, tk, livE L tk v, 0)
def addR (v c now x : Int) (L : List It) : Int × Int × Int × List It × Int :=
  if stB v c now L = false then (0, 0, 0, [], 2) else if valueB x = false then (0, 0, 0, [], 4) else if (L.length : Int) = c then (0, 0, 0, [], 5) else (v, c, now, L ++ [(now, x)], 0)
theorem livE_len (L : List It) (now v : Int) : (livE L now v).length ≤ L.length := by
  unfold livE
  split
  · exact livL_len _ _ _
  · exact Nat.zero_le _
theorem advR_len {v c now tk a b d e0 : Int} {L M : List It} (h : advR v c now tk L = (a, b, d, M, e0)) : M.length ≤ L.length := by
  unfold advR at h
  split at h
  · cases h; exact Nat.zero_le _
  · split at h
    · cases h; exact Nat.zero_le _
    · cases h; exact livE_len _ _ _
theorem addR_len {v c now x a b d e0 : Int} {L M : List It} (h : addR v c now x L = (a, b, d, M, e0)) : M.length ≤ L.length + 1 := by
  unfold addR at h
  split at h
  · cases h; exact Nat.zero_le _
  · split at h
    · cases h; exact Nat.zero_le _
    · split at h
      · cases h; exact Nat.zero_le _
      · cases h; simp

theorem adv9_all (v c now tk : Int) (n k : Nat) (A : Option Addr) (L : List It) {a b d e0 : Int} {M : List It} (h : advR v c now tk L = (a, b, d, M, e0)) (w : World) (hS : Sl w A n L) :
    Calls Try.prog 12 #[.agg #[.int .i64 v, .int .i64 c, .int .i64 now, .slice A n k], .int .i64 tk] w fun e w' => ∃ A' k', e = .returned (.tuple #[.agg #[.int .i64 a, .int .i64 b, .int .i64 d, .slice A' M.length k'], .int .i64 e0]) ∧ Sl w' A' M.length M ∧ Up w w' := by
  unfold advR at h
  split at h
  · rename_i hv
    cases h
    exact (adv9_bad v c now tk n k A L hv w hS).mono (fun _ _ ⟨h1, h2⟩ => ⟨none, 0, h1, Sl.none_, h2⟩)
  · rename_i hv
    rw [Bool.not_eq_false] at hv
    split at h
    · rename_i ht
      cases h
      exact (adv9_time v c now tk n k A L hv ht w hS).mono (fun _ _ ⟨h1, h2⟩ => ⟨none, 0, h1, Sl.none_, h2⟩)
    · rename_i ht
      cases h
      refine (adv9_good v c now tk n k A L hv (by omega) (by omega) w hS).mono ?_
      rintro e w' ⟨A', n', k', rfl, _, _, _, h2, h3⟩
      obtain rfl : (livE L tk v).length = n' := h2.1
      exact ⟨A', k', rfl, h2, h3⟩

theorem radv9_all (v c now tk : Int) (n k : Nat) (A : Option Addr) (L : List It) {a b d e0 : Int} {M : List It} (h : advR v c now tk L = (a, b, d, M, e0)) (w : World) (hS : Sl w A n L) :
    Calls Try.prog 13 #[.agg #[.int .i64 v, .int .i64 c, .int .i64 now, .slice A n k], .int .i64 tk] w fun e w' => ∃ A' k', e = .returned (.tuple #[.agg #[.int .i64 a, .int .i64 b, .int .i64 d, .slice A' M.length k'], .int .i64 e0]) ∧ Sl w' A' M.length M ∧ Up w w' := by
  unfold advR at h
  split at h
  · rename_i hv
    cases h
    exact (radv9_bad v c now tk n k A L hv w hS).mono (fun _ _ ⟨h1, h2⟩ => ⟨none, 0, h1, Sl.none_, h2⟩)
  · rename_i hv
    rw [Bool.not_eq_false] at hv
    split at h
    · rename_i ht
      cases h
      exact (radv9_time v c now tk n k A L hv ht w hS).mono (fun _ _ ⟨h1, h2⟩ => ⟨none, 0, h1, Sl.none_, h2⟩)
    · rename_i ht
      cases h
      refine (radv9_good v c now tk n k A L hv (by omega) (by omega) w hS).mono ?_
      rintro e w' ⟨A', n', k', rfl, _, _, _, h2, h3⟩
      obtain rfl : (livE L tk v).length = n' := h2.1
      exact ⟨A', k', rfl, h2, h3⟩

theorem add9_all (v c now x : Int) (n k : Nat) (A : Option Addr) (L : List It) (hk : n ≤ k) {a b d e0 : Int} {M : List It} (h : addR v c now x L = (a, b, d, M, e0)) (w : World) (hS : Sl w A n L) :
    Calls Try.prog 14 #[.agg #[.int .i64 v, .int .i64 c, .int .i64 now, .slice A n k], .int .i64 x] w fun e w' => ∃ A' k', e = .returned (.tuple #[.agg #[.int .i64 a, .int .i64 b, .int .i64 d, .slice A' M.length k'], .int .i64 e0]) ∧ Sl w' A' M.length M ∧ Up w w' := by
  unfold addR at h
  split at h
  · rename_i hv
    cases h
    exact (add9_bad v c now x n k A L hv w hS).mono (fun _ _ ⟨h1, h2⟩ => ⟨none, 0, h1, Sl.none_, h2⟩)
  · rename_i hv
    rw [Bool.not_eq_false] at hv
    split at h
    · rename_i hx
      cases h
      exact (add9_range v c now x n k A L hv hx w hS).mono (fun _ _ ⟨h1, h2⟩ => ⟨none, 0, h1, Sl.none_, h2⟩)
    · rename_i hx
      rw [Bool.not_eq_false] at hx
      split at h
      · rename_i hf
        cases h
        exact (add9_full v c now x n k A L hv hx (by rw [← hS.1]; exact hf) w hS).mono (fun _ _ ⟨h1, h2⟩ => ⟨none, 0, h1, Sl.none_, h2⟩)
      rename_i hf
      cases h
      refine (add9_good v c now x n k A L hk hv hx (by rw [← hS.1]; exact hf) w hS).mono ?_
      rintro e w' ⟨g', k', rfl, _, _, h2, h3⟩
      have e1 : (L ++ [(now, x)]).length = n + 1 := by rw [List.length_append, hS.1]; rfl
      rw [e1]
      exact ⟨_, k', rfl, h2, h3⟩

theorem radd9_all (v c now x : Int) (n k : Nat) (A : Option Addr) (L : List It) {a b d e0 : Int} {M : List It} (h : addR v c now x L = (a, b, d, M, e0)) (w : World) (hS : Sl w A n L) :
    Calls Try.prog 15 #[.agg #[.int .i64 v, .int .i64 c, .int .i64 now, .slice A n k], .int .i64 x] w fun e w' => ∃ A' k', e = .returned (.tuple #[.agg #[.int .i64 a, .int .i64 b, .int .i64 d, .slice A' M.length k'], .int .i64 e0]) ∧ Sl w' A' M.length M ∧ Up w w' := by
  unfold addR at h
  split at h
  · rename_i hv
    cases h
    exact (radd9_bad v c now x n k A L hv w hS).mono (fun _ _ ⟨h1, h2⟩ => ⟨none, 0, h1, Sl.none_, h2⟩)
  · rename_i hv
    rw [Bool.not_eq_false] at hv
    split at h
    · rename_i hx
      cases h
      exact (radd9_range v c now x n k A L hv hx w hS).mono (fun _ _ ⟨h1, h2⟩ => ⟨none, 0, h1, Sl.none_, h2⟩)
    · rename_i hx
      rw [Bool.not_eq_false] at hx
      split at h
      · rename_i hf
        cases h
        exact (radd9_full v c now x n k A L hv hx (by rw [← hS.1]; exact hf) w hS).mono (fun _ _ ⟨h1, h2⟩ => ⟨none, 0, h1, Sl.none_, h2⟩)
      rename_i hf
      cases h
      refine (radd9_good v c now x n k A L hv hx (by rw [← hS.1]; exact hf) w hS).mono ?_
      rintro e w' ⟨A', k', rfl, h2, h3⟩
      have e1 : (L ++ [(now, x)]).length = n + 1 := by rw [List.length_append, hS.1]; rfl
      rw [e1]
      exact ⟨_, k', rfl, h2, h3⟩

theorem keep20 {w w1 w2 : World} {b0 o0 b1 o1 b2 o2 b3 o3 b4 o4 b5 o5 b6 o6 b7 o7 b8 o8 b9 o9 b10 o10 b11 o11 b12 o12 b13 o13 b14 o14 b15 o15 b16 o16 b17 o17 b18 o18 b19 o19 : Nat} {x0 x1 x2 x3 x4 x5 x6 x7 x8 x9 x10 x11 x12 x13 x14 x15 x16 x17 x18 x19 : Value} (hu : Hid (Up w1 w2)) (h : Up w w1 ∧ w1.cell? ⟨b0, o0, none⟩ = some x0 ∧ w1.cell? ⟨b1, o1, none⟩ = some x1 ∧ w1.cell? ⟨b2, o2, none⟩ = some x2 ∧ w1.cell? ⟨b3, o3, none⟩ = some x3 ∧ w1.cell? ⟨b4, o4, none⟩ = some x4 ∧ w1.cell? ⟨b5, o5, none⟩ = some x5 ∧ w1.cell? ⟨b6, o6, none⟩ = some x6 ∧ w1.cell? ⟨b7, o7, none⟩ = some x7 ∧ w1.cell? ⟨b8, o8, none⟩ = some x8 ∧ w1.cell? ⟨b9, o9, none⟩ = some x9 ∧ w1.cell? ⟨b10, o10, none⟩ = some x10 ∧ w1.cell? ⟨b11, o11, none⟩ = some x11 ∧ w1.cell? ⟨b12, o12, none⟩ = some x12 ∧ w1.cell? ⟨b13, o13, none⟩ = some x13 ∧ w1.cell? ⟨b14, o14, none⟩ = some x14 ∧ w1.cell? ⟨b15, o15, none⟩ = some x15 ∧ w1.cell? ⟨b16, o16, none⟩ = some x16 ∧ w1.cell? ⟨b17, o17, none⟩ = some x17 ∧ w1.cell? ⟨b18, o18, none⟩ = some x18 ∧ w1.cell? ⟨b19, o19, none⟩ = some x19) : Up w w2 ∧ w2.cell? ⟨b0, o0, none⟩ = some x0 ∧ w2.cell? ⟨b1, o1, none⟩ = some x1 ∧ w2.cell? ⟨b2, o2, none⟩ = some x2 ∧ w2.cell? ⟨b3, o3, none⟩ = some x3 ∧ w2.cell? ⟨b4, o4, none⟩ = some x4 ∧ w2.cell? ⟨b5, o5, none⟩ = some x5 ∧ w2.cell? ⟨b6, o6, none⟩ = some x6 ∧ w2.cell? ⟨b7, o7, none⟩ = some x7 ∧ w2.cell? ⟨b8, o8, none⟩ = some x8 ∧ w2.cell? ⟨b9, o9, none⟩ = some x9 ∧ w2.cell? ⟨b10, o10, none⟩ = some x10 ∧ w2.cell? ⟨b11, o11, none⟩ = some x11 ∧ w2.cell? ⟨b12, o12, none⟩ = some x12 ∧ w2.cell? ⟨b13, o13, none⟩ = some x13 ∧ w2.cell? ⟨b14, o14, none⟩ = some x14 ∧ w2.cell? ⟨b15, o15, none⟩ = some x15 ∧ w2.cell? ⟨b16, o16, none⟩ = some x16 ∧ w2.cell? ⟨b17, o17, none⟩ = some x17 ∧ w2.cell? ⟨b18, o18, none⟩ = some x18 ∧ w2.cell? ⟨b19, o19, none⟩ = some x19 :=
  ⟨h.1.trans hu.out, hu.out.keep _ _ _ h.2.1, hu.out.keep _ _ _ h.2.2.1, hu.out.keep _ _ _ h.2.2.2.1, hu.out.keep _ _ _ h.2.2.2.2.1, hu.out.keep _ _ _ h.2.2.2.2.2.1, hu.out.keep _ _ _ h.2.2.2.2.2.2.1, hu.out.keep _ _ _ h.2.2.2.2.2.2.2.1, hu.out.keep _ _ _ h.2.2.2.2.2.2.2.2.1, hu.out.keep _ _ _ h.2.2.2.2.2.2.2.2.2.1, hu.out.keep _ _ _ h.2.2.2.2.2.2.2.2.2.2.1, hu.out.keep _ _ _ h.2.2.2.2.2.2.2.2.2.2.2.1, hu.out.keep _ _ _ h.2.2.2.2.2.2.2.2.2.2.2.2.1, hu.out.keep _ _ _ h.2.2.2.2.2.2.2.2.2.2.2.2.2.1, hu.out.keep _ _ _ h.2.2.2.2.2.2.2.2.2.2.2.2.2.2.1, hu.out.keep _ _ _ h.2.2.2.2.2.2.2.2.2.2.2.2.2.2.2.1, hu.out.keep _ _ _ h.2.2.2.2.2.2.2.2.2.2.2.2.2.2.2.2.1, hu.out.keep _ _ _ h.2.2.2.2.2.2.2.2.2.2.2.2.2.2.2.2.2.1, hu.out.keep _ _ _ h.2.2.2.2.2.2.2.2.2.2.2.2.2.2.2.2.2.2.1, hu.out.keep _ _ _ h.2.2.2.2.2.2.2.2.2.2.2.2.2.2.2.2.2.2.2.1, hu.out.keep _ _ _ h.2.2.2.2.2.2.2.2.2.2.2.2.2.2.2.2.2.2.2.2⟩
end Go.Proofs.Ytflahclphdlolaa
