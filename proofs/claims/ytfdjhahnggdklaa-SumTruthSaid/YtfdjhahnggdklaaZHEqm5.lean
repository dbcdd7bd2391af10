/- Texts of these claims, one after the other. -/
import Derived.Test.YtfdjhahnggdklaaZBAtMost
import Derived.Test.YtfdjhahnggdklaaZBHolds
import Derived.Test.YtfdjhahnggdklaaZBProduct
import Derived.Test.YtfdjhahnggdklaaZBSmallm2
import Derived.Test.YtfdjhahnggdklaaZBWhole
import Derived.Test.YtfdjhahnggdklaaZBWidth
import Derived.Test.YtfdjhahnggdklaaZBWithin
import Derived.Test.YtfdjhahnggdklaaZCClock
import Derived.Test.YtfdjhahnggdklaaZGBasem8
import Derived.Test.YtfdjhahnggdklaaZGLawm3
import Derived.Test.YtfdjhahnggdklaaZHOrdm2
import Derived.Test.YtfdjhahnggdklaaZHQry
import Derived.Test.YtfdjhahnggdklaaZHRVal
import Derived.Test.YtfdjhahnggdklaaZHRowm3
import Derived.Test.YtfdjhahnggdklaaZHSamem5
import Derived.Test.YtfdjhahnggdklaaZHSmallm7
import Derived.Test.YtfdjhahnggdklaaZIAdvm2
import Derived.Test.YtfdjhahnggdklaaZIBasem2
import Derived.Test.YtfdjhahnggdklaaZIMade
import Derived.Test.YtfdjhahnggdklaaZIVal
import Derived.Test.YtfdjhahnggdklaaZREasym4
import Derived.Test.YtfdjhahnggdklaaZWCmpm5
import Derived.Test.YtfdjhahnggdklaaZWGcd
import Derived.Test.YtfdjhahnggdklaaZWMathm9
import Derived.Test.YtfdjhahnggdklaaZWRDiv2
namespace Go.Proofs.Ytfdjhahnggdklaa
open Go.RowKit

theorem quV_agg (L : List It) : ∃ x0 x1 x2 x3 x4 x5, quV L = .agg #[.int .i64 x0, .int .i64 x1, .int .i64 x2, .int .i64 x3, .int .i64 x4, .int .i64 x5] := by
  unfold quV
  split
  · exact ⟨_, _, _, _, _, _, rfl⟩
  · exact ⟨_, _, _, _, _, _, rfl⟩
theorem eqB6 (x0 x1 x2 x3 x4 x5 : Int) (w : World) : (Op.equalIn 10000 36 (.agg #[.int .i64 x0, .int .i64 x1, .int .i64 x2, .int .i64 x3, .int .i64 x4, .int .i64 x5]) (.agg #[.int .i64 x0, .int .i64 x1, .int .i64 x2, .int .i64 x3, .int .i64 x4, .int .i64 x5])).run Try.prog w = .ok true w := by
  have qu := Try.underlying2
  have qa := Try.isAgg2
  have qz := Try.sizeOf2
  have ru := Try.underlying34
  have ra := Try.isAgg34
  have rz := Try.sizeOf34
  have e : ∀ a b w, (Op.equalIn 9999 34 (.agg #[.int .i64 a, .int .i64 b]) (.agg #[.int .i64 a, .int .i64 b])).run Try.prog w = .ok true w := fun a b w => by
    rw [show (9999 : Nat) = 9998 + 1 from rfl, Op.equalIn]
    simp only [Sem.run_bind, run_underlying Try.underlying34, Result.andThen_ok]
    go_simp
  rw [show (10000 : Nat) = 9999 + 1 from rfl, Op.equalIn]
  simp only [Sem.run_bind, run_underlying Try.underlying36, Result.andThen_ok]
  go_simp
end Go.Proofs.Ytfdjhahnggdklaa

namespace Go.Proofs.Ytfdjhahnggdklaa
open Go.RowKit
set_option linter.unusedVariables false

/-- What Ask returns. -/
def akV (b : Bool) (L : List It) : Value := if b = true then .tuple #[quV L, .int .i64 0] else .tuple #[.agg #[.int .i64 0, .int .i64 0, .int .i64 0, .int .i64 0, .int .i64 0, .int .i64 0], .int .i64 2]

end Go.Proofs.Ytfdjhahnggdklaa

namespace Go.Proofs.Ytfdjhahnggdklaa
open Go.RowKit

theorem Va.query {X : List It} {k : Int} (h : Va X k) (hT : totB X ≤ 1073741824) : ∃ a m b, quV X = .agg #[.int .i64 a, .int .i64 1, .int .i64 m, .int .i64 1, .int .i64 b, .int .i64 1] ∧ In a ∧ In m ∧ In b ∧ bvB a 1 m 1 b 1 = true ∧ wiB a 1 m 1 b 1 k a 1 = true := by
  have fin : ∀ a b : Int, 0 ≤ a → a ≤ b → b ≤ 1073741824 → k * (b - a) ≤ a → In a ∧ In (mid a b) ∧ In b ∧ bvB a 1 (mid a b) 1 b 1 = true ∧ wiB a 1 (mid a b) 1 b 1 k a 1 = true := by
    intro a b h0 h1 h2 h3
    have hm : a ≤ mid a b ∧ mid a b ≤ b := by unfold mid; omega
    have hv : bvB a 1 (mid a b) 1 b 1 = true := bvB_mk (valid_one _) (valid_one _) (valid_one _) ((le_of_cmpR (valid_one _) (valid_one _)).2 (by omega)) ((le_of_cmpR (valid_one _) (valid_one _)).2 (by omega))
    refine ⟨⟨by omega, by omega⟩, ⟨by omega, by omega⟩, ⟨by omega, by omega⟩, hv, ?_⟩
    rw [wiB_main hv h.k1 (valid_one _) h0]
    refine decide_eq_true ?_
    unfold wdZ
    rw [Int.mul_one, Int.mul_one, Int.mul_one, Int.mul_one, Int.one_mul, Int.mul_comm]
    exact h3
  by_cases hX : X = []
  · subst hX
    refine ⟨0, 0, 0, rfl, ?_⟩
    have := fin 0 0 (by omega) (by omega) (by omega) (by simp)
    exact this
  · obtain ⟨h1, h2, h3⟩ := h.narrow hX
    refine ⟨qlo X, mid (qlo X) (totB X), totB X, by unfold quV; rw [if_neg hX], fin _ _ ?_ ?_ hT ?_⟩
    · unfold qlo; omega
    · unfold qlo; omega
    · unfold qlo
      rw [show totB X - (totB X - szB (X.getD 0 (0, 0)).2 + 1) = szB (X.getD 0 (0, 0)).2 - 1 by omega]
      omega
end Go.Proofs.Ytfdjhahnggdklaa

namespace Go.Proofs.Ytfdjhahnggdklaa
open Go.RowKit
set_option linter.unusedVariables false

theorem quV_form (X : List It) : quV X = .agg #[.int .i64 (qlo0 X), .int .i64 1, .int .i64 (mid (qlo0 X) (totB X)), .int .i64 1, .int .i64 (totB X), .int .i64 1] := by
  unfold quV qlo0
  by_cases h : X = []
  · subst h; rfl
  · rw [if_neg h, if_neg h]; rfl
/-- The bounds of a valid state's list. -/
theorem qu_facts {v q c now : Int} {X : List It} (h : stC v q c now X = true) : 0 ≤ qlo0 X ∧ qlo0 X ≤ mid (qlo0 X) (totB X) ∧ mid (qlo0 X) (totB X) ≤ totB X ∧ totB X ≤ 65536 ∧ bvB (qlo0 X) 1 (mid (qlo0 X) (totB X)) 1 (totB X) 1 = true := by
  obtain ⟨a1, a2, a3, a4⟩ := stC_true h
  have g3 := (mayC_facts a1).2.2.1
  obtain ⟨x, m, y, e, _, _, _, hb, _⟩ := a2.query (by omega)
  rw [quV_form] at e
  have e0 : qlo0 X = x ∧ mid (qlo0 X) (totB X) = m ∧ totB X = y := by simpa using e
  have hq : 0 ≤ qlo0 X ∧ qlo0 X ≤ totB X := by
    unfold qlo0
    split
    · rename_i h; subst h; exact ⟨Int.le_refl _, Int.le_refl _⟩
    · rename_i h
      obtain ⟨n1, n2, n3⟩ := a2.narrow h
      exact ⟨by omega, by omega⟩
  have hm : qlo0 X ≤ mid (qlo0 X) (totB X) ∧ mid (qlo0 X) (totB X) ≤ totB X := by unfold mid; omega
  refine ⟨hq.1, hm.1, hm.2, by omega, ?_⟩
  rw [e0.1, ← e0.1, e0.2.1] at *
  obtain ⟨e1, e2, e3⟩ := e0
  rw [e1, e3]
  exact hb
theorem akV_yes (L : List It) : akV true L = .tuple #[quV L, .int .i64 0] := rfl
end Go.Proofs.Ytfdjhahnggdklaa

namespace Go.Proofs.Ytfdjhahnggdklaa
open Go.RowKit
set_option linter.unusedVariables false

/-- The variable in block p holds a state that stands for the items M. -/
structure Vc (W : World) (p : Nat) (v q c now : Int) (X M : List It) (A : Option Addr) (k : Nat) : Prop where
  c0 : W.cell? ⟨p, 0, none⟩ = some (.int .i64 v)
  c1 : W.cell? ⟨p, 1, none⟩ = some (.int .i64 q)
  c2 : W.cell? ⟨p, 2, none⟩ = some (.int .i64 c)
  c3 : W.cell? ⟨p, 3, none⟩ = some (.int .i64 now)
  c4 : W.cell? ⟨p, 4, none⟩ = some (.slice A X.length k)
  hs : Hs v q c now X M
  sl : Sl W A X.length X
  off : ∀ b o, A = some ⟨b, o, none⟩ → b ≠ p
  cap : X.length ≤ k
theorem Vc.up {W W2 : World} {p : Nat} {v q c now : Int} {X M : List It} {A : Option Addr} {k : Nat} (h : Vc W p v q c now X M A k) (hu : Up W W2) : Vc W2 p v q c now X M A k :=
  ⟨hu.keep _ _ _ h.c0, hu.keep _ _ _ h.c1, hu.keep _ _ _ h.c2, hu.keep _ _ _ h.c3, hu.keep _ _ _ h.c4, h.hs, h.sl.up hu, h.off, h.cap⟩
theorem Vc.lt {W : World} {p : Nat} {v q c now : Int} {X M : List It} {A : Option Addr} {k : Nat} (h : Vc W p v q c now X M A k) : p < W.heap.size := World.block_lt_of_cell? _ _ h.c0
theorem Vc.few {W : World} {p : Nat} {v q c now : Int} {X M : List It} {A : Option Addr} {k : Nat} (h : Vc W p v q c now X M A k) : X.length ≤ 50000 := by have := stC_few h.hs.st; omega
/-- A store of a new state into the variable. -/
theorem Vc.put {W : World} {p : Nat} {x0 x1 x2 x3 x4 : Value} {v q c now : Int} {X M : List It} {A : Option Addr} {k : Nat} (e0 : W.cell? ⟨p, 0, none⟩ = some x0) (e1 : W.cell? ⟨p, 1, none⟩ = some x1) (e2 : W.cell? ⟨p, 2, none⟩ = some x2) (e3 : W.cell? ⟨p, 3, none⟩ = some x3) (e4 : W.cell? ⟨p, 4, none⟩ = some x4)
    (hs : Hs v q c now X M) (sl : Sl W A X.length X) (off : ∀ b o, A = some ⟨b, o, none⟩ → b ≠ p) (cap : X.length ≤ k) :
    Vc (((((W.setCell ⟨p, 0, none⟩ (.int .i64 v)).setCell ⟨p, 1, none⟩ (.int .i64 q)).setCell ⟨p, 2, none⟩ (.int .i64 c)).setCell ⟨p, 3, none⟩ (.int .i64 now)).setCell ⟨p, 4, none⟩ (.slice A X.length k)) p v q c now X M A k := by
  obtain ⟨a0, a1, a2, a3, a4⟩ := cells5 (v0 := .int .i64 v) (v1 := .int .i64 q) (v2 := .int .i64 c) (v3 := .int .i64 now) (v4 := .slice A X.length k) e0 e1 e2 e3 e4
  exact ⟨a0, a1, a2, a3, a4, hs, sl.off5 off _ _ _ _ _, off, cap⟩
/-- A store into another variable. -/
theorem Vc.far {W : World} {p g : Nat} {v q c now : Int} {X M : List It} {A : Option Addr} {k : Nat} (h : Vc W p v q c now X M A k) (hg : g ≠ p) (ho : ∀ b o, A = some ⟨b, o, none⟩ → b ≠ g) (y0 y1 y2 y3 y4 : Value) :
    Vc (((((W.setCell ⟨g, 0, none⟩ y0).setCell ⟨g, 1, none⟩ y1).setCell ⟨g, 2, none⟩ y2).setCell ⟨g, 3, none⟩ y3).setCell ⟨g, 4, none⟩ y4) p v q c now X M A k :=
  ⟨far5 h.c0 hg, far5 h.c1 hg, far5 h.c2 hg, far5 h.c3 hg, far5 h.c4 hg, h.hs, h.sl.off5 ho _ _ _ _ _, h.off, h.cap⟩
/-- A new variable. -/
theorem Vc.new {W : World} {v q c now : Int} {X M : List It} {A : Option Addr} {k : Nat} (hs : Hs v q c now X M) (sl : Sl W A X.length X) (cap : X.length ≤ k) (off : ∀ b o, A = some ⟨b, o, none⟩ → b ≠ W.heap.size) :
    Vc (W.alloc (.cells #[.int .i64 v, .int .i64 q, .int .i64 c, .int .i64 now, .slice A X.length k] 56)) W.heap.size v q c now X M A k :=
  ⟨by simp [go_sem], by simp [go_sem], by simp [go_sem], by simp [go_sem], by simp [go_sem], hs, sl.up ((Up.refl _).alloc _ _), off, cap⟩
theorem Sl.out {W : World} {A : Option Addr} {n : Nat} {M : List It} (h : Sl W A n M) (hn : 0 < n) : ∃ b o, A = some ⟨b, o, none⟩ ∧ b < W.heap.size := by
  obtain ⟨b, o, e, d0, _⟩ := h.at_ hn
  exact ⟨b, o, e, World.block_lt_of_cell? _ _ d0⟩
/-- Advance of what a variable holds. -/
theorem advV {W0 W : World} {v q c now td : Int} {X M : List It} {A : Option Addr} {k : Nat} (hs : Hs v q c now X M) (sl : Sl W0 A X.length X) (cap : X.length ≤ k) (hu : Up W0 W) (h1 : now ≤ td) (h2 : td ≤ 16777216) :
    Calls Try.prog 32 #[.agg #[.int .i64 v, .int .i64 q, .int .i64 c, .int .i64 now, .slice A X.length k], .int .i64 td] W fun e W' => ∃ A' k', e = .returned (.tuple #[.agg #[.int .i64 v, .int .i64 q, .int .i64 c, .int .i64 td, .slice A' (exL X (firZ td v)).length k'], .int .i64 0]) ∧ (exL X (firZ td v)).length ≤ k' ∧ Nw W A' ∧ Sl W' A' (exL X (firZ td v)).length (exL X (firZ td v)) ∧ Hs v q c td (exL X (firZ td v)) M ∧ Up W W' := by
  have hf : X.length ≤ 50000 := by have := stC_few hs.st; omega
  refine (adv11_good v q c now td X.length k A X hf cap hs.st h1 h2 W (sl.up hu)).mono ?_
  rintro e W' ⟨A', n', k', rfl, _, hk, hn, hS, hU⟩
  obtain rfl : (exL X (firZ td v)).length = n' := hS.1
  exact ⟨A', k', rfl, hk, hn, hS, hs.adv h1 h2, hU⟩
/-- Items of made, with its greatest number as a number. -/
theorem itemsJ_up (n k : Nat) (A : Option Addr) (L : List It) (v : Int) (h1 : 1 ≤ v) (h2 : v ≤ 25) (mx : Nat) (mi : Int) (e : (mx : Int) = mi) (hmx : mx ≤ 200) (w : World) (hS : Sl w A n L) :
    Calls Try.prog 31 #[.slice A n k, .int .i64 v, .int .i64 mi] w fun e w' => ∃ A' n' k' M z, e = .returned (.slice A' n' k') ∧ n' ≤ mx ∧ mdQ M z ∧ Own w w' (.slice A' n' k') n' M ∧ Up w w' := by
  subst e
  exact itemsI_up n k A L v h1 h2 mx hmx w hS
theorem ho_one {a m b n : Int} (h : bvB a 1 m 1 b 1 = true) (h1 : a ≤ n) (h2 : n ≤ b) : hoB a 1 m 1 b 1 n 1 = true := by
  unfold hoB
  rw [h, valid_one, decide_eq_true ((le_of_cmpR (valid_one a) (valid_one n)).2 (by omega)), decide_eq_true ((le_of_cmpR (valid_one n) (valid_one b)).2 (by omega))]
  rfl
theorem wi_one {a m b n q : Int} (h : bvB a 1 m 1 b 1 = true) (h1 : 1 ≤ q) (h2 : 0 ≤ n) (h3 : q * (b - a) ≤ n) : wiB a 1 m 1 b 1 q n 1 = true := by
  rw [wiB_main h h1 (valid_one _) h2]
  refine decide_eq_true ?_
  unfold wdZ
  rw [Int.mul_one, Int.mul_one, Int.mul_one, Int.mul_one, Int.one_mul, Int.mul_comm]
  exact h3
theorem few_most {v q c now : Int} {X : List It} (h : stC v q c now X = true) : (X.length : Int) ≤ moZ q c := by
  obtain ⟨h1, h2, h3, h4⟩ := stC_true h
  obtain ⟨g1, g2, g3, g4⟩ := mayC_facts h1
  have hk := (mayC_true h1).2
  have e := h2.few (by omega)
  unfold moZ
  rw [if_pos (show kB q = true from decide_eq_true ⟨hk.1, by omega⟩)]
  exact Int.le_trans e (Int.mul_le_mul_of_nonneg_left (bitsZ_mono h4) (by omega))
end Go.Proofs.Ytfdjhahnggdklaa
