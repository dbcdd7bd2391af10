/- Advance and Add of package sum and of its reference: one contract for all cases. -/
import Derived.Test.YtfdjhahnggdklaaZCClock
import Derived.Test.YtfdjhahnggdklaaZGBasem8
import Derived.Test.YtfdjhahnggdklaaZGLawm3
import Derived.Test.YtfdjhahnggdklaaZHEqm5
import Derived.Test.YtfdjhahnggdklaaZHGrowm2
import Derived.Test.YtfdjhahnggdklaaZHRowm3
import Derived.Test.YtfdjhahnggdklaaZHSmallm7
import Derived.Test.YtfdjhahnggdklaaZJAdd
import Derived.Test.YtfdjhahnggdklaaZJAdv
import Derived.Test.YtfdjhahnggdklaaZJAsk
import Derived.Test.YtfdjhahnggdklaaZJSt
import Derived.Test.YtfdjhahnggdklaaZREasym4
import Derived.Test.YtfdjhahnggdklaaZWCmpm5
import Derived.Test.YtfdjhahnggdklaaZWGcd
import Derived.Test.YtfdjhahnggdklaaZWMathm9
import Derived.Test.YtfdjhahnggdklaaZWRDiv2
namespace Go.Proofs.Ytfdjhahnggdklaa
open Go.RowKit
set_option linter.unusedVariables false

/-- What Advance and Add return: the numbers of the state, its buckets, the error. -/
def advS (v q c mx now td : Int) (L : List It) : Int × Int × Int × Int × Int × List It × Int :=
  if stS v q c mx now L = false then (0, 0, 0, 0, 0, [], 2) else if td < now ∨ 16777216 < td then (0, 0, 0, 0, 0, [], 3) else (v, q, c, mx, td, exL L (firZ td v), 0)
def addS (v q c mx now d : Int) (L : List It) : Int × Int × Int × Int × Int × List It × Int :=
  if stS v q c mx now L = false then (0, 0, 0, 0, 0, [], 2) else if d < 0 ∨ mx < d then (0, 0, 0, 0, 0, [], 4) else if c < totB L + d then (0, 0, 0, 0, 0, [], 5) else (v, q, c, mx, now, itB q now d.toNat L, 0)
theorem adv12_all (v q c mx now td : Int) (n k : Nat) (A : Option Addr) (L : List It) (hn : n ≤ 50000) (hk : n ≤ k) {a b f g i e0 : Int} {M : List It} (h : advS v q c mx now td L = (a, b, f, g, i, M, e0)) (w : World) (hS : Sl w A n L) :
    Calls Try.prog 13 #[.agg #[.int .i64 v, .int .i64 q, .int .i64 c, .int .i64 mx, .int .i64 now, .slice A n k], .int .i64 td] w fun e w' => ∃ A' k', e = .returned (.tuple #[.agg #[.int .i64 a, .int .i64 b, .int .i64 f, .int .i64 g, .int .i64 i, .slice A' M.length k'], .int .i64 e0]) ∧ M.length ≤ n + 1024 ∧ Sl w' A' M.length M ∧ Up w w' := by
  unfold advS at h
  split at h
  · rename_i hv
    cases h
    exact (adv12_bad v q c mx now td n k A L hn hk hv w hS).mono (fun _ _ ⟨h1, h2⟩ => ⟨none, 0, h1, Nat.zero_le _, Sl.none_, h2⟩)
  · rename_i hv
    rw [Bool.not_eq_false] at hv
    split at h
    · rename_i ht
      cases h
      exact (adv12_time v q c mx now td n k A L hn hk hv ht w hS).mono (fun _ _ ⟨h1, h2⟩ => ⟨none, 0, h1, Nat.zero_le _, Sl.none_, h2⟩)
    · rename_i ht
      cases h
      refine (adv12_good v q c mx now td n k A L hn hk hv (by omega) (by omega) w hS).mono ?_
      rintro e w' ⟨A', n', k', rfl, hn', _, _, h2, h3⟩
      obtain rfl : (exL L (firZ td v)).length = n' := h2.1
      exact ⟨A', k', rfl, by omega, h2, h3⟩
theorem add12_all (v q c mx now d : Int) (n k : Nat) (A : Option Addr) (L : List It) (hn : n ≤ 50000) (hk : n ≤ k) {a b f g i e0 : Int} {M : List It} (h : addS v q c mx now d L = (a, b, f, g, i, M, e0)) (w : World) (hS : Sl w A n L) :
    Calls Try.prog 15 #[.agg #[.int .i64 v, .int .i64 q, .int .i64 c, .int .i64 mx, .int .i64 now, .slice A n k], .int .i64 d] w fun e w' => ∃ A' k', e = .returned (.tuple #[.agg #[.int .i64 a, .int .i64 b, .int .i64 f, .int .i64 g, .int .i64 i, .slice A' M.length k'], .int .i64 e0]) ∧ M.length ≤ n + 1024 ∧ Sl w' A' M.length M ∧ Up w w' := by
  unfold addS at h
  split at h
  · rename_i hv
    cases h
    exact (add12_bad v q c mx now d n k A L hn hk hv w hS).mono (fun _ _ ⟨h1, h2⟩ => ⟨none, 0, h1, Nat.zero_le _, Sl.none_, h2⟩)
  · rename_i hv
    rw [Bool.not_eq_false] at hv
    split at h
    · rename_i ht
      cases h
      exact (add12_range v q c mx now d n k A L hn hk hv ht w hS).mono (fun _ _ ⟨h1, h2⟩ => ⟨none, 0, h1, Nat.zero_le _, Sl.none_, h2⟩)
    · rename_i ht
      split at h
      · rename_i hf
        cases h
        exact (add12_full v q c mx now d n k A L hn hk hv (by omega) (by omega) hf w hS).mono (fun _ _ ⟨h1, h2⟩ => ⟨none, 0, h1, Nat.zero_le _, Sl.none_, h2⟩)
      · rename_i hf
        cases h
        refine (add12_good v q c mx now d n k A L hn hk hv (by omega) (by omega) (by omega) w hS).mono ?_
        rintro e w' ⟨A', n', k', rfl, hn', _, _, h2, h3⟩
        obtain rfl : (itB q now d.toNat L).length = n' := h2.1
        exact ⟨A', k', rfl, by omega, h2, h3⟩
theorem radv12_all (v q c mx now td : Int) (n k : Nat) (A : Option Addr) (L : List It) (hn : n ≤ 50000) (hk : n ≤ k) {a b f g i e0 : Int} {M : List It} (h : advS v q c mx now td L = (a, b, f, g, i, M, e0)) (w : World) (hS : Sl w A n L) :
    Calls Try.prog 14 #[.agg #[.int .i64 v, .int .i64 q, .int .i64 c, .int .i64 mx, .int .i64 now, .slice A n k], .int .i64 td] w fun e w' => ∃ A' k', e = .returned (.tuple #[.agg #[.int .i64 a, .int .i64 b, .int .i64 f, .int .i64 g, .int .i64 i, .slice A' M.length k'], .int .i64 e0]) ∧ M.length ≤ n + 1024 ∧ Sl w' A' M.length M ∧ Up w w' := by
  unfold advS at h
  split at h
  · rename_i hv
    cases h
    exact (radv12_bad v q c mx now td n k A L hn hk hv w hS).mono (fun _ _ ⟨h1, h2⟩ => ⟨none, 0, h1, Nat.zero_le _, Sl.none_, h2⟩)
  · rename_i hv
    rw [Bool.not_eq_false] at hv
    split at h
    · rename_i ht
      cases h
      exact (radv12_time v q c mx now td n k A L hn hk hv ht w hS).mono (fun _ _ ⟨h1, h2⟩ => ⟨none, 0, h1, Nat.zero_le _, Sl.none_, h2⟩)
    · rename_i ht
      cases h
      refine (radv12_good v q c mx now td n k A L hn hk hv (by omega) (by omega) w hS).mono ?_
      rintro e w' ⟨A', n', k', rfl, hn', h2, h3⟩
      obtain rfl : (exL L (firZ td v)).length = n' := h2.1
      exact ⟨A', k', rfl, by omega, h2, h3⟩
theorem radd12_all (v q c mx now d : Int) (n k : Nat) (A : Option Addr) (L : List It) (hn : n ≤ 50000) (hk : n ≤ k) {a b f g i e0 : Int} {M : List It} (h : addS v q c mx now d L = (a, b, f, g, i, M, e0)) (w : World) (hS : Sl w A n L) :
    Calls Try.prog 16 #[.agg #[.int .i64 v, .int .i64 q, .int .i64 c, .int .i64 mx, .int .i64 now, .slice A n k], .int .i64 d] w fun e w' => ∃ A' k', e = .returned (.tuple #[.agg #[.int .i64 a, .int .i64 b, .int .i64 f, .int .i64 g, .int .i64 i, .slice A' M.length k'], .int .i64 e0]) ∧ M.length ≤ n + 1024 ∧ Sl w' A' M.length M ∧ Up w w' := by
  unfold addS at h
  split at h
  · rename_i hv
    cases h
    exact (radd12_bad v q c mx now d n k A L hn hk hv w hS).mono (fun _ _ ⟨h1, h2⟩ => ⟨none, 0, h1, Nat.zero_le _, Sl.none_, h2⟩)
  · rename_i hv
    rw [Bool.not_eq_false] at hv
    split at h
    · rename_i ht
      cases h
      exact (radd12_range v q c mx now d n k A L hn hk hv ht w hS).mono (fun _ _ ⟨h1, h2⟩ => ⟨none, 0, h1, Nat.zero_le _, Sl.none_, h2⟩)
    · rename_i ht
      split at h
      · rename_i hf
        cases h
        exact (radd12_full v q c mx now d n k A L hn hk hv (by omega) (by omega) hf w hS).mono (fun _ _ ⟨h1, h2⟩ => ⟨none, 0, h1, Nat.zero_le _, Sl.none_, h2⟩)
      · rename_i hf
        cases h
        by_cases hz : d = 0
        · refine (radd12_zero v q c mx now d n k A L hn hk hv (by omega) hz (by omega) (by omega) w hS).mono ?_
          rintro e w' ⟨A', n', k', rfl, hn', h2, h3⟩
          obtain rfl : (itB q now d.toNat L).length = n' := h2.1
          exact ⟨A', k', rfl, by omega, h2, h3⟩
        · refine (radd12_pos v q c mx now d n k A L hn hk hv (by omega) (by omega) (by omega) (by omega) w hS).mono ?_
          rintro e w' ⟨A', n', k', rfl, hn', h2, h3⟩
          obtain rfl : (itB q now d.toNat L).length = n' := h2.1
          exact ⟨A', k', rfl, by omega, h2, h3⟩
theorem akVS_agg (b : Bool) (L : List It) : ∃ x0 x1 x2 x3 x4 x5 e0, akV b L = .tuple #[.agg #[.int .i64 x0, .int .i64 x1, .int .i64 x2, .int .i64 x3, .int .i64 x4, .int .i64 x5], .int .i64 e0] := by
  unfold akV
  cases b
  · exact ⟨_, _, _, _, _, _, _, rfl⟩
  · obtain ⟨x0, x1, x2, x3, x4, x5, eq⟩ := quV_agg L
    exact ⟨x0, x1, x2, x3, x4, x5, 0, by rw [eq]; rfl⟩
theorem keepS12 {w w1 w2 : World} {b0 o0 b1 o1 b2 o2 b3 o3 b4 o4 b5 o5 b6 o6 b7 o7 b8 o8 b9 o9 b10 o10 b11 o11 b12 o12 b13 o13 b14 o14 b15 o15 b16 o16 b17 o17 b18 o18 b19 o19 b20 o20 b21 o21 b22 o22 b23 o23 b24 o24 b25 o25 b26 o26 b27 o27 b28 o28 b29 o29 b30 o30 b31 o31 b32 o32 b33 o33 b34 o34 b35 o35 b36 o36 b37 o37 b38 o38 b39 o39 b40 o40 b41 o41 : Nat} {x0 x1 x2 x3 x4 x5 x6 x7 x8 x9 x10 x11 x12 x13 x14 x15 x16 x17 x18 x19 x20 x21 x22 x23 x24 x25 x26 x27 x28 x29 x30 x31 x32 x33 x34 x35 x36 x37 x38 x39 x40 x41 : Value} (hu : Hid (Up w1 w2)) (h : Up w w1 ∧ w1.cell? ⟨b0, o0, none⟩ = some x0 ∧ w1.cell? ⟨b1, o1, none⟩ = some x1 ∧ w1.cell? ⟨b2, o2, none⟩ = some x2 ∧ w1.cell? ⟨b3, o3, none⟩ = some x3 ∧ w1.cell? ⟨b4, o4, none⟩ = some x4 ∧ w1.cell? ⟨b5, o5, none⟩ = some x5 ∧ w1.cell? ⟨b6, o6, none⟩ = some x6 ∧ w1.cell? ⟨b7, o7, none⟩ = some x7 ∧ w1.cell? ⟨b8, o8, none⟩ = some x8 ∧ w1.cell? ⟨b9, o9, none⟩ = some x9 ∧ w1.cell? ⟨b10, o10, none⟩ = some x10 ∧ w1.cell? ⟨b11, o11, none⟩ = some x11 ∧ w1.cell? ⟨b12, o12, none⟩ = some x12 ∧ w1.cell? ⟨b13, o13, none⟩ = some x13 ∧ w1.cell? ⟨b14, o14, none⟩ = some x14 ∧ w1.cell? ⟨b15, o15, none⟩ = some x15 ∧ w1.cell? ⟨b16, o16, none⟩ = some x16 ∧ w1.cell? ⟨b17, o17, none⟩ = some x17 ∧ w1.cell? ⟨b18, o18, none⟩ = some x18 ∧ w1.cell? ⟨b19, o19, none⟩ = some x19 ∧ w1.cell? ⟨b20, o20, none⟩ = some x20 ∧ w1.cell? ⟨b21, o21, none⟩ = some x21 ∧ w1.cell? ⟨b22, o22, none⟩ = some x22 ∧ w1.cell? ⟨b23, o23, none⟩ = some x23 ∧ w1.cell? ⟨b24, o24, none⟩ = some x24 ∧ w1.cell? ⟨b25, o25, none⟩ = some x25 ∧ w1.cell? ⟨b26, o26, none⟩ = some x26 ∧ w1.cell? ⟨b27, o27, none⟩ = some x27 ∧ w1.cell? ⟨b28, o28, none⟩ = some x28 ∧ w1.cell? ⟨b29, o29, none⟩ = some x29 ∧ w1.cell? ⟨b30, o30, none⟩ = some x30 ∧ w1.cell? ⟨b31, o31, none⟩ = some x31 ∧ w1.cell? ⟨b32, o32, none⟩ = some x32 ∧ w1.cell? ⟨b33, o33, none⟩ = some x33 ∧ w1.cell? ⟨b34, o34, none⟩ = some x34 ∧ w1.cell? ⟨b35, o35, none⟩ = some x35 ∧ w1.cell? ⟨b36, o36, none⟩ = some x36 ∧ w1.cell? ⟨b37, o37, none⟩ = some x37 ∧ w1.cell? ⟨b38, o38, none⟩ = some x38 ∧ w1.cell? ⟨b39, o39, none⟩ = some x39 ∧ w1.cell? ⟨b40, o40, none⟩ = some x40 ∧ w1.cell? ⟨b41, o41, none⟩ = some x41) : Up w w2 ∧ w2.cell? ⟨b0, o0, none⟩ = some x0 ∧ w2.cell? ⟨b1, o1, none⟩ = some x1 ∧ w2.cell? ⟨b2, o2, none⟩ = some x2 ∧ w2.cell? ⟨b3, o3, none⟩ = some x3 ∧ w2.cell? ⟨b4, o4, none⟩ = some x4 ∧ w2.cell? ⟨b5, o5, none⟩ = some x5 ∧ w2.cell? ⟨b6, o6, none⟩ = some x6 ∧ w2.cell? ⟨b7, o7, none⟩ = some x7 ∧ w2.cell? ⟨b8, o8, none⟩ = some x8 ∧ w2.cell? ⟨b9, o9, none⟩ = some x9 ∧ w2.cell? ⟨b10, o10, none⟩ = some x10 ∧ w2.cell? ⟨b11, o11, none⟩ = some x11 ∧ w2.cell? ⟨b12, o12, none⟩ = some x12 ∧ w2.cell? ⟨b13, o13, none⟩ = some x13 ∧ w2.cell? ⟨b14, o14, none⟩ = some x14 ∧ w2.cell? ⟨b15, o15, none⟩ = some x15 ∧ w2.cell? ⟨b16, o16, none⟩ = some x16 ∧ w2.cell? ⟨b17, o17, none⟩ = some x17 ∧ w2.cell? ⟨b18, o18, none⟩ = some x18 ∧ w2.cell? ⟨b19, o19, none⟩ = some x19 ∧ w2.cell? ⟨b20, o20, none⟩ = some x20 ∧ w2.cell? ⟨b21, o21, none⟩ = some x21 ∧ w2.cell? ⟨b22, o22, none⟩ = some x22 ∧ w2.cell? ⟨b23, o23, none⟩ = some x23 ∧ w2.cell? ⟨b24, o24, none⟩ = some x24 ∧ w2.cell? ⟨b25, o25, none⟩ = some x25 ∧ w2.cell? ⟨b26, o26, none⟩ = some x26 ∧ w2.cell? ⟨b27, o27, none⟩ = some x27 ∧ w2.cell? ⟨b28, o28, none⟩ = some x28 ∧ w2.cell? ⟨b29, o29, none⟩ = some x29 ∧ w2.cell? ⟨b30, o30, none⟩ = some x30 ∧ w2.cell? ⟨b31, o31, none⟩ = some x31 ∧ w2.cell? ⟨b32, o32, none⟩ = some x32 ∧ w2.cell? ⟨b33, o33, none⟩ = some x33 ∧ w2.cell? ⟨b34, o34, none⟩ = some x34 ∧ w2.cell? ⟨b35, o35, none⟩ = some x35 ∧ w2.cell? ⟨b36, o36, none⟩ = some x36 ∧ w2.cell? ⟨b37, o37, none⟩ = some x37 ∧ w2.cell? ⟨b38, o38, none⟩ = some x38 ∧ w2.cell? ⟨b39, o39, none⟩ = some x39 ∧ w2.cell? ⟨b40, o40, none⟩ = some x40 ∧ w2.cell? ⟨b41, o41, none⟩ = some x41 :=
  ⟨h.1.trans hu.out, hu.out.keep _ _ _ h.2.1, hu.out.keep _ _ _ h.2.2.1, hu.out.keep _ _ _ h.2.2.2.1, hu.out.keep _ _ _ h.2.2.2.2.1, hu.out.keep _ _ _ h.2.2.2.2.2.1, hu.out.keep _ _ _ h.2.2.2.2.2.2.1, hu.out.keep _ _ _ h.2.2.2.2.2.2.2.1, hu.out.keep _ _ _ h.2.2.2.2.2.2.2.2.1, hu.out.keep _ _ _ h.2.2.2.2.2.2.2.2.2.1, hu.out.keep _ _ _ h.2.2.2.2.2.2.2.2.2.2.1, hu.out.keep _ _ _ h.2.2.2.2.2.2.2.2.2.2.2.1, hu.out.keep _ _ _ h.2.2.2.2.2.2.2.2.2.2.2.2.1, hu.out.keep _ _ _ h.2.2.2.2.2.2.2.2.2.2.2.2.2.1, hu.out.keep _ _ _ h.2.2.2.2.2.2.2.2.2.2.2.2.2.2.1, hu.out.keep _ _ _ h.2.2.2.2.2.2.2.2.2.2.2.2.2.2.2.1, hu.out.keep _ _ _ h.2.2.2.2.2.2.2.2.2.2.2.2.2.2.2.2.1, hu.out.keep _ _ _ h.2.2.2.2.2.2.2.2.2.2.2.2.2.2.2.2.2.1, hu.out.keep _ _ _ h.2.2.2.2.2.2.2.2.2.2.2.2.2.2.2.2.2.2.1, hu.out.keep _ _ _ h.2.2.2.2.2.2.2.2.2.2.2.2.2.2.2.2.2.2.2.1, hu.out.keep _ _ _ h.2.2.2.2.2.2.2.2.2.2.2.2.2.2.2.2.2.2.2.2.1, hu.out.keep _ _ _ h.2.2.2.2.2.2.2.2.2.2.2.2.2.2.2.2.2.2.2.2.2.1, hu.out.keep _ _ _ h.2.2.2.2.2.2.2.2.2.2.2.2.2.2.2.2.2.2.2.2.2.2.1, hu.out.keep _ _ _ h.2.2.2.2.2.2.2.2.2.2.2.2.2.2.2.2.2.2.2.2.2.2.2.1, hu.out.keep _ _ _ h.2.2.2.2.2.2.2.2.2.2.2.2.2.2.2.2.2.2.2.2.2.2.2.2.1, hu.out.keep _ _ _ h.2.2.2.2.2.2.2.2.2.2.2.2.2.2.2.2.2.2.2.2.2.2.2.2.2.1, hu.out.keep _ _ _ h.2.2.2.2.2.2.2.2.2.2.2.2.2.2.2.2.2.2.2.2.2.2.2.2.2.2.1, hu.out.keep _ _ _ h.2.2.2.2.2.2.2.2.2.2.2.2.2.2.2.2.2.2.2.2.2.2.2.2.2.2.2.1, hu.out.keep _ _ _ h.2.2.2.2.2.2.2.2.2.2.2.2.2.2.2.2.2.2.2.2.2.2.2.2.2.2.2.2.1, hu.out.keep _ _ _ h.2.2.2.2.2.2.2.2.2.2.2.2.2.2.2.2.2.2.2.2.2.2.2.2.2.2.2.2.2.1, hu.out.keep _ _ _ h.2.2.2.2.2.2.2.2.2.2.2.2.2.2.2.2.2.2.2.2.2.2.2.2.2.2.2.2.2.2.1, hu.out.keep _ _ _ h.2.2.2.2.2.2.2.2.2.2.2.2.2.2.2.2.2.2.2.2.2.2.2.2.2.2.2.2.2.2.2.1, hu.out.keep _ _ _ h.2.2.2.2.2.2.2.2.2.2.2.2.2.2.2.2.2.2.2.2.2.2.2.2.2.2.2.2.2.2.2.2.1, hu.out.keep _ _ _ h.2.2.2.2.2.2.2.2.2.2.2.2.2.2.2.2.2.2.2.2.2.2.2.2.2.2.2.2.2.2.2.2.2.1, hu.out.keep _ _ _ h.2.2.2.2.2.2.2.2.2.2.2.2.2.2.2.2.2.2.2.2.2.2.2.2.2.2.2.2.2.2.2.2.2.2.1, hu.out.keep _ _ _ h.2.2.2.2.2.2.2.2.2.2.2.2.2.2.2.2.2.2.2.2.2.2.2.2.2.2.2.2.2.2.2.2.2.2.2.1, hu.out.keep _ _ _ h.2.2.2.2.2.2.2.2.2.2.2.2.2.2.2.2.2.2.2.2.2.2.2.2.2.2.2.2.2.2.2.2.2.2.2.2.1, hu.out.keep _ _ _ h.2.2.2.2.2.2.2.2.2.2.2.2.2.2.2.2.2.2.2.2.2.2.2.2.2.2.2.2.2.2.2.2.2.2.2.2.2.1, hu.out.keep _ _ _ h.2.2.2.2.2.2.2.2.2.2.2.2.2.2.2.2.2.2.2.2.2.2.2.2.2.2.2.2.2.2.2.2.2.2.2.2.2.2.1, hu.out.keep _ _ _ h.2.2.2.2.2.2.2.2.2.2.2.2.2.2.2.2.2.2.2.2.2.2.2.2.2.2.2.2.2.2.2.2.2.2.2.2.2.2.2.1, hu.out.keep _ _ _ h.2.2.2.2.2.2.2.2.2.2.2.2.2.2.2.2.2.2.2.2.2.2.2.2.2.2.2.2.2.2.2.2.2.2.2.2.2.2.2.2.1, hu.out.keep _ _ _ h.2.2.2.2.2.2.2.2.2.2.2.2.2.2.2.2.2.2.2.2.2.2.2.2.2.2.2.2.2.2.2.2.2.2.2.2.2.2.2.2.2.1, hu.out.keep _ _ _ h.2.2.2.2.2.2.2.2.2.2.2.2.2.2.2.2.2.2.2.2.2.2.2.2.2.2.2.2.2.2.2.2.2.2.2.2.2.2.2.2.2.2⟩
end Go.Proofs.Ytfdjhahnggdklaa
