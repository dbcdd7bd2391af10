/- Texts of these claims, one after the other. -/
import Derived.Below
import Derived.BigQuiet
import Derived.Carry
import Derived.ChangeSlices
import Derived.Deep.AppendLies
import Derived.Deep.Cut
import Derived.Deep.DeepCutAuto
import Derived.Deep.Draws
import Derived.Deep.LoopGhost
import Derived.Deep.QuietTactic
import Derived.Deep.RegionHeld3
import Derived.Deep.RegionLaw
import Derived.Deep.RegionWith
import Derived.Deep.SlicePairs
import Derived.Deep.Slices
import Derived.Great.BuildSlice
import Derived.IntWalk
import Derived.Laws.CopyOwn
import Derived.Laws.Externs
import Derived.Laws.IdiomStrings
import Derived.Laws.MakeOwn
import Derived.Laws.OwnMore
import Derived.Laws.Rows
import Derived.Lib.BitFns
import Derived.Lib.Hide
import Derived.Lib.Mul64
import Derived.Lib.SliceRun
import Derived.Lib.SmallJoins
import Derived.Maps.AppendAt
import Derived.OpenShut
import Derived.OwnWalk
import Derived.ProofKit
import Derived.RegionTactic
import Derived.RowKit3
import Derived.Shelf.Abstract
import Derived.SizedLaws
import Derived.WalkKit
import Derived.WalkSmall
import Derived.WalkSpells
namespace Go.Proofs.Ytinjainclhfahaa

/-- A word of 64 bits. -/
def Word (x : Int) : Prop := 0 ≤ x ∧ x < 18446744073709551616
/-- The number of two words. -/
def val (h l : Int) : Int := h * 18446744073709551616 + l
/-- The two words of a number. -/
def hiZ (v : Int) : Int := v / 18446744073709551616
def loZ (v : Int) : Int := v % 18446744073709551616
/-- A number of two words. -/
def In2 (v : Int) : Prop := 0 ≤ v ∧ v < 340282366920938463463374607431768211456
def fits2 (v : Int) : Bool := decide (0 ≤ v ∧ v < 340282366920938463463374607431768211456)
def fit2 (v : Int) : Int := if fits2 v = true then v else 0

theorem fits2_yes {v : Int} (h : In2 v) : fits2 v = true := by unfold fits2; exact decide_eq_true h
theorem fits2_no {v : Int} (h : ¬ In2 v) : fits2 v = false := by unfold fits2; exact decide_eq_false h
theorem fit2_yes {v : Int} (h : In2 v) : fit2 v = v := by unfold fit2; rw [if_pos (fits2_yes h)]
theorem fit2_no {v : Int} (h : ¬ In2 v) : fit2 v = 0 := by unfold fit2; rw [fits2_no h]; rfl
theorem hiZ_word {v : Int} (h : In2 v) : Word (hiZ v) := by obtain ⟨h1, h2⟩ := h; unfold hiZ; exact ⟨by omega, by omega⟩
theorem loZ_word (v : Int) : Word (loZ v) := by unfold loZ; exact ⟨by omega, by omega⟩
theorem val_hilo (v : Int) : val (hiZ v) (loZ v) = v := by unfold val hiZ loZ; omega
theorem word_0 : Word 0 := ⟨by decide, by decide⟩
/-! ### The next half of a quotient -/
end Go.Proofs.Ytinjainclhfahaa

namespace Go.Proofs.Ytinjainclhfahaa

theorem fit2_in (v : Int) : In2 (fit2 v) := by
  by_cases h : In2 v
  · rw [fit2_yes h]; exact h
  · rw [fit2_no h]; exact ⟨by decide, by decide⟩
/-! ### The next half of a quotient -/
end Go.Proofs.Ytinjainclhfahaa

namespace Go.Proofs.Ytinjainclhfahaa

theorem val_in {h l : Int} (hh : Word h) (hl : Word l) : In2 (val h l) := by
  obtain ⟨h1, h2⟩ := hh; obtain ⟨h3, h4⟩ := hl; unfold val; exact ⟨by omega, by omega⟩
theorem hiZ_val {h l : Int} (hl : Word l) : hiZ (val h l) = h := by obtain ⟨h3, h4⟩ := hl; unfold hiZ val; omega
theorem loZ_val {h l : Int} (hl : Word l) : loZ (val h l) = l := by obtain ⟨h3, h4⟩ := hl; unfold loZ val; omega
/-! ### The next half of a quotient -/
end Go.Proofs.Ytinjainclhfahaa

namespace Go.Proofs.Ytinjainclhfahaa

/-- An int64 number. -/
def In (x : Int) : Prop := -9223372036854775808 ≤ x ∧ x ≤ 9223372036854775807
/-! ### Quotients -/
/-! ### The quotients rounded down and up, and the remainder -/
def rest (a b : Int) : Int := if a.tmod b ≠ 0 ∧ ¬ (a < 0 ↔ b < 0) then a.tmod b + b else a.tmod b
/-! ### Products -/
/-- What stays of x in 64 bits with a sign. -/
def wr (x : Int) : Int := (x + 9223372036854775808) % 18446744073709551616 - 9223372036854775808
/-! ### The greatest common divisor -/
/-! ### Powers -/
/-! ### Square roots -/
/-! ### Binary digits -/
end Go.Proofs.Ytinjainclhfahaa

namespace Go.Proofs.Ytinjainclhfahaa

/-- The i-th word of a number. -/
def dg3 (v : Int) (i : Nat) : Int := v / 18446744073709551616 ^ i % 18446744073709551616
def updz (z : Nat → Int) (i : Nat) (t : Int) : Nat → Int := fun j => if j = i then t else z j
end Go.Proofs.Ytinjainclhfahaa
