/- Texts of these claims, one after the other. -/
import Derived.Test.YtchikndofpkjmaaRows
import Derived.Below
import Derived.BigQuiet
import Derived.Carry
import Derived.ChangeSlices
import Derived.Deep.AppendLies
import Derived.Deep.Cut
import Derived.Deep.DeepCutAuto
import Derived.Deep.Draws
import Derived.Deep.LoopGhost
import Derived.Deep.QuietTactic
import Derived.Deep.RegionHeld3
import Derived.Deep.RegionLaw
import Derived.Deep.RegionWith
import Derived.Deep.SlicePairs
import Derived.Deep.Slices
import Derived.Great.BuildSlice
import Derived.IntWalk
import Derived.Laws.CopyOwn
import Derived.Laws.Externs
import Derived.Laws.IdiomStrings
import Derived.Laws.OwnMore
import Derived.Laws.Rows
import Derived.Lib.BitFns
import Derived.Lib.Hide
import Derived.Lib.Mul64
import Derived.Lib.SliceRun
import Derived.Lib.SmallJoins
import Derived.Maps.AppendAt
import Derived.OpenShut
import Derived.OwnWalk
import Derived.ProofKit
import Derived.RegionTactic
import Derived.RowKit3
import Derived.SizedLaws
import Derived.WalkKit
import Derived.WalkSmall
import Derived.WalkSpells
namespace Go.Proofs.Ytchikndofpkjmaa

/-- The two words of a number. -/
def hiZ (v : Int) : Int := v / 18446744073709551616
def loZ (v : Int) : Int := v % 18446744073709551616
/-! ### The next half of a quotient -/
end Go.Proofs.Ytchikndofpkjmaa

namespace Go.Proofs.Ytchikndofpkjmaa

/-- A word of 64 bits. -/
def Word (x : Int) : Prop := 0 ≤ x ∧ x < 18446744073709551616
/-- The number of two words. -/
def val (h l : Int) : Int := h * 18446744073709551616 + l
/-- A number of two words. -/
def In2 (v : Int) : Prop := 0 ≤ v ∧ v < 340282366920938463463374607431768211456
theorem hiZ_word {v : Int} (h : In2 v) : Word (hiZ v) := by obtain ⟨h1, h2⟩ := h; unfold hiZ; exact ⟨by omega, by omega⟩
theorem loZ_word (v : Int) : Word (loZ v) := by unfold loZ; exact ⟨by omega, by omega⟩
theorem val_hilo (v : Int) : val (hiZ v) (loZ v) = v := by unfold val hiZ loZ; omega
theorem word_0 : Word 0 := ⟨by decide, by decide⟩
/-! ### The next half of a quotient -/
end Go.Proofs.Ytchikndofpkjmaa

namespace Go.Proofs.Ytchikndofpkjmaa
open Go.RowKit

/-- What was there is as it was; blocks may have come. -/
structure Up (w w' : World) : Prop where
  grown : Grown w w'
  below : Below w.heap.size w w'

theorem Up.refl (w : World) : Up w w := ⟨Grown.refl _, Below.refl _ _⟩
theorem Up.alloc {w w' : World} (h : Up w w') (c : Array Value) (t : TypeId) : Up w (w'.alloc (.cells c t)) :=
  ⟨h.grown.alloc c t, h.below.alloc h.below.size _⟩
theorem Up.setCell {w w' : World} (h : Up w w') {a : Addr} (ha : w.heap.size ≤ a.block) (v : Value) : Up w (w'.setCell a v) :=
  ⟨h.grown.setCell ha v, h.below.setCell ha v⟩
theorem Up.drew {w w' : World} (h : Up w w') : Up w w'.drew := ⟨h.grown.drew, h.below.drew⟩
theorem Up.drewN {w w' : World} (h : Up w w') (n : Nat) : Up w (w'.drewN n) :=
  ⟨h.grown, ⟨h.below.os, h.below.tape, h.below.output, h.below.size, h.below.block⟩⟩
theorem Up.trans {a b c : World} (h : Up a b) (k : Up b c) : Up a c :=
  ⟨⟨World.keptBut_trans h.grown.1 k.grown.1, fun x => (k.grown.2.1 x).trans (h.grown.2.1 x), Nat.le_trans h.grown.2.2 k.grown.2.2⟩,
    h.below.trans (k.below.mono h.below.size)⟩
theorem Up.cells {w w' : World} (h : Up w w') : (∀ b o, b < w.heap.size → w'.cell? ⟨b, o, none⟩ = w.cell? ⟨b, o, none⟩) ∧ (∀ a, w'.frozen? a = w.frozen? a) :=
  ⟨fun b o hb => h.below.cell (p := ⟨b, o, none⟩) hb, h.grown.2.1⟩
theorem Up.size {w w' : World} (h : Up w w') : w.heap.size ≤ w'.heap.size := h.below.size

theorem size_set (w : World) (p : Addr) (v : Value) : (w.setCell p v).heap.size = w.heap.size := by simp [World.setCell]
theorem size_alloc (w : World) (o : Obj) : (w.alloc o).heap.size = w.heap.size + 1 := by simp
end Go.Proofs.Ytchikndofpkjmaa

namespace Go.Proofs.Ytchikndofpkjmaa
open Go.RowKit

def got2 (v : Int) (b : Bool) : Ending := .returned (.tuple #[.agg #[.int .u64 (hiZ v), .int .u64 (loZ v)], .bool b])

/-- The model's entry for math/bits.Sub64. -/
def subEntry : Array Value → Sem Value := fun args => do
  let (x, y, b) ← Extern.MathBitsCarry.three "Sub64" args
  pure (Extern.MathBitsCarry.pair ((x + Extern.MathBitsCarry.m64 - y - b) % Extern.MathBitsCarry.m64) (if x < y + b then 1 else 0))
theorem run_subEntry {P : Program} (x y b : Nat) (hb : b ≤ 1) (w : World) :
    (subEntry #[.int .u64 x, .int .u64 y, .int .u64 b]).run P w =
      .ok (.tuple #[.int .u64 (((x + 18446744073709551616 - y - b) % 18446744073709551616 : Nat) : Int), .int .u64 ((if x < y + b then 1 else 0 : Nat) : Int)]) w := by
  have : b = 0 ∨ b = 1 := by omega
  rcases this with rfl | rfl <;> rfl
/-- The borrow, under a name. -/
def bor (x y : Int) : Int := if x < y then 1 else 0
theorem bor_01 (x y : Int) : 0 ≤ bor x y ∧ bor x y ≤ 1 := by unfold bor; split <;> decide
theorem sub64 (x y b : Int) (hx : 0 ≤ x) (hy : 0 ≤ y) (hy' : y < 18446744073709551616) (hb0 : 0 ≤ b) (hb : b ≤ 1) (w : World) : (callFunc 107 #[.int .u64 x, .int .u64 y, .int .u64 b]).run Try.prog w =
    .ok (.value (.tuple #[.int .u64 ((x - y - b) % 18446744073709551616), .int .u64 (bor x (y + b))])) w := by
  obtain ⟨x, rfl⟩ := Int.eq_ofNat_of_zero_le hx
  obtain ⟨y, rfl⟩ := Int.eq_ofNat_of_zero_le hy
  obtain ⟨b, rfl⟩ := Int.eq_ofNat_of_zero_le hb0
  have e1 : (((x + 18446744073709551616 - y - b) % 18446744073709551616 : Nat) : Int) = ((x : Int) - y - b) % 18446744073709551616 := by omega
  have e2 : ((if x < y + b then 1 else 0 : Nat) : Int) = bor (x : Int) (y + b) := by unfold bor; split <;> split <;> omega
  rw [run_callFunc_extern Try.func107 (by kernel_rfl) (by kernel_rfl) (by kernel_rfl) (e := subEntry) (by kernel_rfl), run_subEntry x y b (by omega), e1, e2]
  rfl
theorem sub64_0 (x y : Int) (hx : 0 ≤ x) (hy : 0 ≤ y) (hy' : y < 18446744073709551616) (w : World) : (callFunc 107 #[.int .u64 x, .int .u64 y, .int .u64 0]).run Try.prog w =
    .ok (.value (.tuple #[.int .u64 ((x - y) % 18446744073709551616), .int .u64 (bor x y)])) w := by
  simpa using sub64 x y 0 hx hy hy' (Int.le_refl 0) (by decide) w

end Go.Proofs.Ytchikndofpkjmaa

namespace Go.Proofs.Ytchikndofpkjmaa
open Go.RowKit

/-! ### Comparisons -/
/-- -1, 0 or 1. -/
def cmpZ (x y : Int) : Int := if x < y then -1 else if x = y then 0 else 1
theorem cmpZ_lt {x y : Int} (h : x < y) : cmpZ x y = -1 := by unfold cmpZ; rw [if_pos h]
theorem cmpZ_eq {x y : Int} (h : x = y) : cmpZ x y = 0 := by unfold cmpZ; rw [if_neg (by omega), if_pos h]
theorem cmpZ_gt {x y : Int} (h : y < x) : cmpZ x y = 1 := by unfold cmpZ; rw [if_neg (by omega), if_neg (by omega)]
end Go.Proofs.Ytchikndofpkjmaa

namespace Go.Proofs.Ytchikndofpkjmaa
open Go.RowKit

theorem frozen_new (w : World) (b o : Nat) : w.frozen? ⟨w.heap.size + b, o, none⟩ = false := by
  simp [World.frozen?]
theorem Up.keep {w w' : World} (h : Up w w') : ∀ b o v, w.cell? ⟨b, o, none⟩ = some v → w'.cell? ⟨b, o, none⟩ = some v := fun b o _ hv =>
  (h.cells.1 b o (World.block_lt_of_cell? w ⟨b, o, none⟩ hv)).trans hv
theorem cell_far {w : World} {p : Addr} {v : Value} {b o : Nat} (h : p.block ≠ b) : (w.setCell p v).cell? ⟨b, o, none⟩ = w.cell? ⟨b, o, none⟩ :=
  World.cell?_setCell_other _ _ _ _ (fun e => h (by rw [e]))
theorem Up.own {w w' : World} (h : Up w w') (b o : Nat) : w'.frozen? ⟨w.heap.size + b, o, none⟩ = false := (h.cells.2 _).trans (frozen_new w b o)

/-- Where the walk of Format is: m places are left, the rest of the number is a, the digits behind the places are l. -/
structure Fm (w wr : World) (m : Nat) (a : Int) (l : List UInt8) : Prop where
  up : Up w wr
  size : w.heap.size + 2 ≤ wr.heap.size
  hi : wr.cell? ⟨w.heap.size, 0, none⟩ = some (.int .u64 (hiZ a))
  lo : wr.cell? ⟨w.heap.size, 1, none⟩ = some (.int .u64 (loZ a))
  row : ∀ i, i < 39 → ∃ x : Int, wr.cell? ⟨w.heap.size + 1, i, none⟩ = some (.int .u8 x)
  len : l.length + m = 39
  dig : ∀ j (hj : j < l.length), wr.cell? ⟨w.heap.size + 1, m + j, none⟩ = some (.int .u8 (l[j].toNat : Int))
  fr : ∀ b o, wr.frozen? ⟨w.heap.size + b, o, none⟩ = false

theorem add_at (b o j : Nat) : (⟨b, o, none⟩ : Addr).add j = ⟨b, o + j, none⟩ := by
  unfold Addr.add
  by_cases h : j = 0
  · rw [if_pos h, h]; rfl
  · rw [if_neg h]
theorem cell_set {w : World} {b o o' : Nat} {v u : Value} (h : w.cell? ⟨b, o', none⟩ = some u) :
    (w.setCell ⟨b, o, none⟩ v).cell? ⟨b, o', none⟩ = some (if o = o' then v else u) := by
  by_cases e : o = o'
  · subst e; rw [if_pos rfl]; exact World.cell?_setCell_same _ _ _ h
  · rw [if_neg e, World.cell?_setCell_other _ _ _ _ (by intro he; injection he; contradiction)]; exact h
theorem digit_toNat (n : Nat) (h : n < 10) : (UInt8.ofNat (48 + n)).toNat = 48 + n := by
  simp [UInt8.toNat_ofNat']; omega

theorem Fm.next {w wr w1 w2 : World} {m : Nat} {a : Int} {l : List UInt8} (hF : Fm w wr m a l) (hm : 1 ≤ m) (ha : 0 ≤ a) (hu1 : Up wr w1) {c : Array Value} {t : TypeId}
    (hu2 : Up ((w1.setCell ⟨w.heap.size + 1, m - 1, none⟩ (.int .u8 (48 + a % 10))).alloc (.cells c t)) w2) : Fm w w2 (m - 1) a (UInt8.ofNat (48 + a.toNat % 10) :: l) := by
  have s0 := hF.size
  have s1 := hu1.size
  have s2 := hu2.size
  rw [size_alloc, size_set] at s2
  have old : ∀ b o, b < w.heap.size + 2 → w2.cell? ⟨b, o, none⟩ = (w1.setCell ⟨w.heap.size + 1, m - 1, none⟩ (.int .u8 (48 + a % 10))).cell? ⟨b, o, none⟩ := fun b o hb => by
    rw [hu2.cells.1 b o (by rw [size_alloc, size_set]; omega)]
    exact World.cell?_alloc_past _ _ _ (by rw [size_set]; omega)
  have up1 : Up w (w1.setCell ⟨w.heap.size + 1, m - 1, none⟩ (.int .u8 (48 + a % 10))) := (hF.up.trans hu1).setCell (by show w.heap.size ≤ w.heap.size + 1; omega) _
  refine ⟨(up1.alloc c t).trans hu2, by omega, ?_, ?_, ?_, ?_, ?_, ?_⟩
  · rw [old _ _ (by omega), cell_far (by show w.heap.size + 1 ≠ w.heap.size; omega), hu1.cells.1 _ _ (by omega)]; exact hF.hi
  · rw [old _ _ (by omega), cell_far (by show w.heap.size + 1 ≠ w.heap.size; omega), hu1.cells.1 _ _ (by omega)]; exact hF.lo
  · intro i hi
    obtain ⟨x, hx⟩ := hF.row i hi
    have hx1 : w1.cell? ⟨w.heap.size + 1, i, none⟩ = some (.int .u8 x) := (hu1.cells.1 _ _ (by omega)).trans hx
    refine ⟨if m - 1 = i then 48 + a % 10 else x, ?_⟩
    rw [old _ _ (by omega), cell_set hx1]
    split <;> rfl
  · have := hF.len; simp; omega
  · intro j hj
    cases j with
    | zero =>
      obtain ⟨x, hx⟩ := hF.row (m - 1) (by have := hF.len; omega)
      have hx1 : w1.cell? ⟨w.heap.size + 1, m - 1, none⟩ = some (.int .u8 x) := (hu1.cells.1 _ _ (by omega)).trans hx
      rw [old _ _ (by omega), show m - 1 + 0 = m - 1 by omega, cell_set hx1, if_pos rfl]
      show some (Value.int .u8 (48 + a % 10)) = some (Value.int .u8 ((UInt8.ofNat (48 + a.toNat % 10)).toNat : Int))
      rw [digit_toNat _ (by omega)]
      congr 2
      omega
    | succ j =>
      have hj' : j < l.length := by simpa using hj
      have hd := hF.dig j hj'
      have hx1 : w1.cell? ⟨w.heap.size + 1, m + j, none⟩ = some (.int .u8 (l[j].toNat : Int)) := (hu1.cells.1 _ _ (by omega)).trans hd
      rw [show m - 1 + (j + 1) = m + j by omega, old _ _ (by omega), cell_set hx1, if_neg (by omega)]
      rfl
  · intro b o
    rw [hu2.cells.2, frozen?_alloc_cells, World.frozen?_setCell, hu1.cells.2]; exact hF.fr b o
theorem Fm.put {w w2 : World} {m : Nat} {a a' : Int} {l : List UInt8} (hF : Fm w w2 m a l) : Fm w ((w2.setCell ⟨w.heap.size, 0, none⟩ (.int .u64 (hiZ a'))).setCell ⟨w.heap.size, 1, none⟩ (.int .u64 (loZ a'))) m a' l := by
  have far : ∀ o, ((w2.setCell ⟨w.heap.size, 0, none⟩ (.int .u64 (hiZ a'))).setCell ⟨w.heap.size, 1, none⟩ (.int .u64 (loZ a'))).cell? ⟨w.heap.size + 1, o, none⟩ = w2.cell? ⟨w.heap.size + 1, o, none⟩ := fun o => by
    rw [cell_far (by show w.heap.size ≠ w.heap.size + 1; omega), cell_far (by show w.heap.size ≠ w.heap.size + 1; omega)]
  refine ⟨(hF.up.setCell (Nat.le_refl _) _).setCell (Nat.le_refl _) _, by rw [size_set, size_set]; exact hF.size, ?_, ?_, ?_, hF.len, ?_, ?_⟩
  · rw [cell_set (u := .int .u64 (hiZ a')) (by rw [cell_set hF.hi, if_pos rfl]), if_neg (by omega)]
  · rw [cell_set (u := .int .u64 (loZ a)) (by rw [cell_set hF.lo, if_neg (by omega)]), if_pos rfl]
  · intro i hi; rw [far]; exact hF.row i hi
  · intro j hj; rw [far]; exact hF.dig j hj
  · intro b o; rw [World.frozen?_setCell, World.frozen?_setCell]; exact hF.fr b o

end Go.Proofs.Ytchikndofpkjmaa

namespace Go.Proofs.Ytchikndofpkjmaa
open Go.RowKit

/-- A block of the call's own is not frozen. -/
theorem Up.ownGe {w w' : World} (h : Up w w') {g : Nat} (hg : w.heap.size ≤ g) (o : Nat) : w'.frozen? ⟨g, o, none⟩ = false := by
  obtain ⟨b, rfl⟩ := Nat.le.dest hg
  exact h.own b o
end Go.Proofs.Ytchikndofpkjmaa

namespace Go.Proofs.Ytchikndofpkjmaa

/-- An int64 number. -/
def In (x : Int) : Prop := -9223372036854775808 ≤ x ∧ x ≤ 9223372036854775807
def fits (x : Int) : Bool := decide (-9223372036854775808 ≤ x ∧ x ≤ 9223372036854775807)
def fit (x : Int) : Int := if fits x = true then x else 0

theorem fits_yes {x : Int} (h : In x) : fits x = true := by unfold fits; exact decide_eq_true h
theorem fits_no {x : Int} (h : ¬ In x) : fits x = false := by unfold fits; exact decide_eq_false h
theorem fit_yes {x : Int} (h : In x) : fit x = x := by unfold fit; rw [if_pos (fits_yes h)]
theorem fit_no {x : Int} (h : ¬ In x) : fit x = 0 := by unfold fit; rw [fits_no h]; rfl
/-! ### Quotients -/
/-! ### The quotients rounded down and up, and the remainder -/
/-! ### Products -/
/-- What stays of x in 64 bits with a sign. -/
def wr (x : Int) : Int := (x + 9223372036854775808) % 18446744073709551616 - 9223372036854775808
/-! ### The greatest common divisor -/
/-! ### Powers -/
/-! ### Square roots -/
/-! ### Binary digits -/
def bitsN : Nat → Nat → Nat
  | 0, _ => 0
  | f + 1, n => if n = 0 then 0 else bitsN f (n / 2) + 1
/-- The number of binary digits of n; 0 if n is negative. -/
def bitsZ (n : Int) : Int := (bitsN n.toNat n.toNat : Nat)
theorem bitsN_fuel (f g n : Nat) (hf : n ≤ f) (hg : n ≤ g) : bitsN f n = bitsN g n := by
  induction f generalizing g n with
  | zero => have : n = 0 := by omega
            subst this; cases g <;> simp [bitsN]
  | succ f ih =>
    cases g with
    | zero => have : n = 0 := by omega
              subst this; simp [bitsN]
    | succ g =>
      by_cases h : n = 0
      · simp [bitsN, h]
      · simp only [bitsN, if_neg h]
        rw [ih g (n / 2) (by omega) (by omega)]
theorem bitsZ_step (n : Int) (h : 0 < n) : bitsZ n = bitsZ (n / 2) + 1 := by
  obtain ⟨m, rfl⟩ := Int.eq_ofNat_of_zero_le (Int.le_of_lt h)
  have hm : 0 < m := by omega
  have e : ((m : Int) / 2).toNat = m / 2 := by omega
  unfold bitsZ
  rw [e, Int.toNat_natCast]
  cases m with
  | zero => omega
  | succ k =>
    rw [show bitsN (k + 1) (k + 1) = bitsN k ((k + 1) / 2) + 1 from by simp [bitsN]]
    rw [bitsN_fuel k ((k + 1) / 2) ((k + 1) / 2) (by omega) (by omega)]
    omega
theorem bitsZ_low (n : Int) (h : n ≤ 0) : bitsZ n = 0 := by
  unfold bitsZ
  rw [show n.toNat = 0 from by omega]; rfl
theorem bitsN_le (f n : Nat) : bitsN f n ≤ n := by
  induction f generalizing n with
  | zero => simp [bitsN]
  | succ f ih =>
    unfold bitsN
    split
    · omega
    · have := ih (n / 2); omega
theorem bitsZ_bound (n : Int) : 0 ≤ bitsZ n ∧ (0 ≤ n → bitsZ n ≤ n) ∧ (n < 0 → bitsZ n = 0) := by
  unfold bitsZ
  have := bitsN_le n.toNat n.toNat
  omega
end Go.Proofs.Ytchikndofpkjmaa

namespace Go.Proofs.Ytchikndofpkjmaa

/-! ### Quotients -/
/-! ### The quotients rounded down and up, and the remainder -/
def rest (a b : Int) : Int := if a.tmod b ≠ 0 ∧ ¬ (a < 0 ↔ b < 0) then a.tmod b + b else a.tmod b
/-! ### Products -/
/-! ### The greatest common divisor -/
/-! ### Powers -/
/-! ### Square roots -/
/-! ### Binary digits -/
end Go.Proofs.Ytchikndofpkjmaa

namespace Go.Proofs.Ytchikndofpkjmaa

/-! ### Quotients -/
theorem tmod_lt (a b : Int) (hb : b ≠ 0) : -(b.natAbs : Int) < a.tmod b ∧ a.tmod b < b.natAbs := by
  have h : (a.tmod b).natAbs < b.natAbs := by
    rw [Int.natAbs_tmod]; exact Nat.mod_lt _ (by omega)
  omega
theorem tmod_sign (a b : Int) : (0 ≤ a → 0 ≤ a.tmod b) ∧ (a ≤ 0 → a.tmod b ≤ 0) := by
  refine ⟨fun h => Int.tmod_nonneg b h, fun h => ?_⟩
  have h2 := Int.tmod_nonneg b (a := -a) (by omega)
  rw [Int.neg_tmod] at h2; omega
theorem tdiv_tmod (a b : Int) : a.tdiv b * b + a.tmod b = a := by
  have := Int.tdiv_mul_add_tmod a b; omega
/-! ### The quotients rounded down and up, and the remainder -/
def flo (a b : Int) : Int := if a.tmod b ≠ 0 ∧ ¬ (a < 0 ↔ b < 0) then a.tdiv b - 1 else a.tdiv b
def rests (a b : Int) : Int := if b = 0 then 0 else rest a b

/-- There is a remainder. -/
def hasr (b : Int) : Bool := decide (b ≠ 0)
theorem hasr_yes {b : Int} (h : b ≠ 0) : hasr b = true := by unfold hasr; exact decide_eq_true h
theorem hasr_no {b : Int} (h : b = 0) : hasr b = false := by unfold hasr; exact decide_eq_false (by omega)
theorem rests_yes {a b : Int} (h : b ≠ 0) : rests a b = rest a b := by unfold rests; rw [if_neg h]
theorem rests_no {a b : Int} (h : b = 0) : rests a b = 0 := by unfold rests; rw [if_pos h]
theorem tmod_neg_iff {a b : Int} (h : a.tmod b ≠ 0) : a.tmod b < 0 ↔ a < 0 := by
  have := tmod_sign a b
  omega
theorem tmod_in {a b : Int} (hb : In b) (h0 : b ≠ 0) : In (a.tmod b) := by
  obtain ⟨h1, h2⟩ := hb
  have := tmod_lt a b h0
  exact ⟨by omega, by omega⟩
theorem rest_in {a b : Int} (hb : In b) (h0 : b ≠ 0) : In (rest a b) := by
  obtain ⟨h1, h2⟩ := hb
  have := tmod_lt a b h0
  have := tmod_sign a b
  unfold rest
  split
  · exact ⟨by omega, by omega⟩
  · exact ⟨by omega, by omega⟩

theorem flo_rest (a b : Int) : flo a b * b + rest a b = a := by
  have h := tdiv_tmod a b
  unfold flo rest
  split
  · rw [Int.sub_mul, Int.one_mul]; omega
  · exact h
theorem rest_pos (a b : Int) (h : 0 < b) : 0 ≤ rest a b ∧ rest a b < b := by
  have h1 := tmod_lt a b (by omega)
  have h2 := tmod_sign a b
  unfold rest
  split <;> omega
/-! ### Products -/
/-! ### The greatest common divisor -/
def gcdZ (x y : Int) : Int := (Nat.gcd x.toNat y.toNat : Nat)
/-- What Gcd returns: 0 if a number is negative. -/
def gcds (x y : Int) : Int := if x < 0 ∨ y < 0 then 0 else gcdZ x y
theorem gcdZ_step (x y : Int) (hx : 0 ≤ x) (hy : 0 < y) : gcdZ y (x % y) = gcdZ x y := by
  obtain ⟨m, rfl⟩ := Int.eq_ofNat_of_zero_le hx
  obtain ⟨n, rfl⟩ := Int.eq_ofNat_of_zero_le (Int.le_of_lt hy)
  unfold gcdZ
  rw [show ((m : Int) % (n : Int)) = ((m % n : Nat) : Int) from rfl, Int.toNat_natCast, Int.toNat_natCast, Int.toNat_natCast, Nat.gcd_comm m n, Nat.gcd_rec n m, Nat.gcd_comm n (m % n)]
theorem gcdZ_zero (x : Int) (hx : 0 ≤ x) : gcdZ x 0 = x := by
  unfold gcdZ
  simp
  omega
theorem gcds_neg {x y : Int} (h : x < 0 ∨ y < 0) : gcds x y = 0 := by unfold gcds; rw [if_pos h]
theorem gcds_pos {x y : Int} (hx : 0 ≤ x) (hy : 0 ≤ y) : gcds x y = gcdZ x y := by unfold gcds; rw [if_neg (by omega)]

/-! ### Powers -/
/-! ### Square roots -/
/-! ### Binary digits -/
end Go.Proofs.Ytchikndofpkjmaa

namespace Go.Proofs.Ytchikndofpkjmaa

/-- The i-th word of a number. -/
def dg3 (v : Int) (i : Nat) : Int := v / 18446744073709551616 ^ i % 18446744073709551616
def updz (z : Nat → Int) (i : Nat) (t : Int) : Nat → Int := fun j => if j = i then t else z j
end Go.Proofs.Ytchikndofpkjmaa

namespace Go.Proofs.Ytchikndofpkjmaa

/-- In lowest terms. -/
def validB (n d : Int) : Bool := decide (1 ≤ d ∧ Nat.gcd n.natAbs d.natAbs = 1)
theorem validB_low {n d : Int} (h : d < 1) : validB n d = false := by unfold validB; exact decide_eq_false (by omega)
theorem validB_eq {n d : Int} (h : 1 ≤ d) : validB n d = decide (Nat.gcd n.natAbs d.natAbs = 1) := by
  unfold validB; by_cases g : Nat.gcd n.natAbs d.natAbs = 1
  · rw [decide_eq_true g, decide_eq_true ⟨h, g⟩]
  · rw [decide_eq_false g, decide_eq_false (fun x => g x.2)]

/-- The rest has the same common divisors with the divisor. -/
theorem gcd_rest (n d : Int) (h : 1 ≤ d) : gcdZ (rest n d) d = (Nat.gcd n.natAbs d.natAbs : Nat) := by
  have e := flo_rest n d
  obtain ⟨r0, _⟩ := rest_pos n d (by omega)
  unfold gcdZ
  congr 1
  have hn : n.natAbs = (rest n d + d * flo n d).natAbs := by rw [Int.mul_comm, Int.add_comm, e]
  have e1 : (rest n d).toNat = (rest n d).natAbs := by omega
  have e2 : d.toNat = d.natAbs := by omega
  rw [e1, e2, hn]
  show Int.gcd (rest n d) d = Int.gcd (rest n d + d * flo n d) d
  rw [Int.gcd_add_mul_left_left]

end Go.Proofs.Ytchikndofpkjmaa

namespace Go.Proofs.Ytchikndofpkjmaa
open Go.RowKit

/-- Cells that stay as they were, all of them in the first blocks. -/
structure Bd (w : World) (m : Nat) (L : List (Nat × Nat × Value)) (wr : World) : Prop where
  up : Up w wr
  kp : ∀ x ∈ L, wr.cell? ⟨x.1, x.2.1, none⟩ = some x.2.2
  lt : ∀ x ∈ L, x.1 ≤ w.heap.size + m
theorem Bd.keep {w w1 w2 : World} {m : Nat} {L : List (Nat × Nat × Value)} (h : Bd w m L w1) (hu : Up w1 w2) : Bd w m L w2 :=
  ⟨h.up.trans hu, fun x hx => hu.keep _ _ _ (h.kp x hx), h.lt⟩
end Go.Proofs.Ytchikndofpkjmaa

namespace Go.Proofs.Ytchikndofpkjmaa
open Go.RowKit

/-- The cells that the walk of atMost holds. -/
structure Am (w wr : World) (a0 a1 a2 a3 b0 b1 b2 b3 : Int) : Prop where
  up : Up w wr
  x0 : wr.cell? ⟨w.heap.size, 0, none⟩ = some (.int .u64 a0)
  x1 : wr.cell? ⟨w.heap.size, 1, none⟩ = some (.int .u64 a1)
  x2 : wr.cell? ⟨w.heap.size, 2, none⟩ = some (.int .u64 a2)
  x3 : wr.cell? ⟨w.heap.size, 3, none⟩ = some (.int .u64 a3)
  y0 : wr.cell? ⟨w.heap.size + 1, 0, none⟩ = some (.int .u64 b0)
  y1 : wr.cell? ⟨w.heap.size + 1, 1, none⟩ = some (.int .u64 b1)
  y2 : wr.cell? ⟨w.heap.size + 1, 2, none⟩ = some (.int .u64 b2)
  y3 : wr.cell? ⟨w.heap.size + 1, 3, none⟩ = some (.int .u64 b3)
theorem Am.keep {w w1 w2 : World} {a0 a1 a2 a3 b0 b1 b2 b3 : Int} (h : Am w w1 a0 a1 a2 a3 b0 b1 b2 b3) (hu : Up w1 w2) : Am w w2 a0 a1 a2 a3 b0 b1 b2 b3 :=
  ⟨h.up.trans hu, hu.keep _ _ _ h.x0, hu.keep _ _ _ h.x1, hu.keep _ _ _ h.x2, hu.keep _ _ _ h.x3, hu.keep _ _ _ h.y0, hu.keep _ _ _ h.y1, hu.keep _ _ _ h.y2, hu.keep _ _ _ h.y3⟩

end Go.Proofs.Ytchikndofpkjmaa
