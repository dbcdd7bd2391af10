/- Texts of these claims, one after the other. -/
import Derived.Test.YtafkoddgefcpnaaRows
import Derived.Below
import Derived.BigQuiet
import Derived.Carry
import Derived.ChangeSlices
import Derived.Deep.AppendLies
import Derived.Deep.Cut
import Derived.Deep.DeepCutAuto
import Derived.Deep.Draws
import Derived.Deep.LoopGhost
import Derived.Deep.QuietTactic
import Derived.Deep.RegionHeld3
import Derived.Deep.RegionLaw
import Derived.Deep.RegionWith
import Derived.Deep.SlicePairs
import Derived.Deep.Slices
import Derived.Great.BuildSlice
import Derived.IntWalk
import Derived.Laws.CopyOwn
import Derived.Laws.Externs
import Derived.Laws.IdiomStrings
import Derived.Laws.OwnMore
import Derived.Laws.Rows
import Derived.Lib.BitFns
import Derived.Lib.Hide
import Derived.Lib.Mul64
import Derived.Lib.SliceRun
import Derived.Lib.SmallJoins
import Derived.Maps.AppendAt
import Derived.OpenShut
import Derived.OwnWalk
import Derived.ProofKit
import Derived.RegionTactic
import Derived.RowKit3
import Derived.SizedLaws
import Derived.WalkKit
import Derived.WalkSmall
import Derived.WalkSpells
namespace Go.Proofs.Ytafkoddgefcpnaa

/-- The two words of a number. -/
def hiZ (v : Int) : Int := v / 18446744073709551616
def loZ (v : Int) : Int := v % 18446744073709551616
/-! ### The next half of a quotient -/
end Go.Proofs.Ytafkoddgefcpnaa

namespace Go.Proofs.Ytafkoddgefcpnaa
open Go.RowKit

/-- What was there is as it was; blocks may have come. -/
structure Up (w w' : World) : Prop where
  grown : Grown w w'
  below : Below w.heap.size w w'

theorem Up.refl (w : World) : Up w w := ⟨Grown.refl _, Below.refl _ _⟩
theorem Up.alloc {w w' : World} (h : Up w w') (c : Array Value) (t : TypeId) : Up w (w'.alloc (.cells c t)) :=
  ⟨h.grown.alloc c t, h.below.alloc h.below.size _⟩
theorem Up.setCell {w w' : World} (h : Up w w') {a : Addr} (ha : w.heap.size ≤ a.block) (v : Value) : Up w (w'.setCell a v) :=
  ⟨h.grown.setCell ha v, h.below.setCell ha v⟩
theorem Up.drew {w w' : World} (h : Up w w') : Up w w'.drew := ⟨h.grown.drew, h.below.drew⟩
theorem Up.drewN {w w' : World} (h : Up w w') (n : Nat) : Up w (w'.drewN n) :=
  ⟨h.grown, ⟨h.below.os, h.below.tape, h.below.output, h.below.size, h.below.block⟩⟩
theorem Up.trans {a b c : World} (h : Up a b) (k : Up b c) : Up a c :=
  ⟨⟨World.keptBut_trans h.grown.1 k.grown.1, fun x => (k.grown.2.1 x).trans (h.grown.2.1 x), Nat.le_trans h.grown.2.2 k.grown.2.2⟩,
    h.below.trans (k.below.mono h.below.size)⟩
theorem Up.cells {w w' : World} (h : Up w w') : (∀ b o, b < w.heap.size → w'.cell? ⟨b, o, none⟩ = w.cell? ⟨b, o, none⟩) ∧ (∀ a, w'.frozen? a = w.frozen? a) :=
  ⟨fun b o hb => h.below.cell (p := ⟨b, o, none⟩) hb, h.grown.2.1⟩
theorem Up.size {w w' : World} (h : Up w w') : w.heap.size ≤ w'.heap.size := h.below.size

theorem size_set (w : World) (p : Addr) (v : Value) : (w.setCell p v).heap.size = w.heap.size := by simp [World.setCell]
theorem size_alloc (w : World) (o : Obj) : (w.alloc o).heap.size = w.heap.size + 1 := by simp
end Go.Proofs.Ytafkoddgefcpnaa

namespace Go.Proofs.Ytafkoddgefcpnaa
open Go.RowKit

theorem frozen_new (w : World) (b o : Nat) : w.frozen? ⟨w.heap.size + b, o, none⟩ = false := by
  simp [World.frozen?]
theorem Up.keep {w w' : World} (h : Up w w') : ∀ b o v, w.cell? ⟨b, o, none⟩ = some v → w'.cell? ⟨b, o, none⟩ = some v := fun b o _ hv =>
  (h.cells.1 b o (World.block_lt_of_cell? w ⟨b, o, none⟩ hv)).trans hv
theorem cell_far {w : World} {p : Addr} {v : Value} {b o : Nat} (h : p.block ≠ b) : (w.setCell p v).cell? ⟨b, o, none⟩ = w.cell? ⟨b, o, none⟩ :=
  World.cell?_setCell_other _ _ _ _ (fun e => h (by rw [e]))
theorem Up.own {w w' : World} (h : Up w w') (b o : Nat) : w'.frozen? ⟨w.heap.size + b, o, none⟩ = false := (h.cells.2 _).trans (frozen_new w b o)

/-- Where the walk of Format is: m places are left, the rest of the number is a, the digits behind the places are l. -/
structure Fm (w wr : World) (m : Nat) (a : Int) (l : List UInt8) : Prop where
  up : Up w wr
  size : w.heap.size + 2 ≤ wr.heap.size
  hi : wr.cell? ⟨w.heap.size, 0, none⟩ = some (.int .u64 (hiZ a))
  lo : wr.cell? ⟨w.heap.size, 1, none⟩ = some (.int .u64 (loZ a))
  row : ∀ i, i < 39 → ∃ x : Int, wr.cell? ⟨w.heap.size + 1, i, none⟩ = some (.int .u8 x)
  len : l.length + m = 39
  dig : ∀ j (hj : j < l.length), wr.cell? ⟨w.heap.size + 1, m + j, none⟩ = some (.int .u8 (l[j].toNat : Int))
  fr : ∀ b o, wr.frozen? ⟨w.heap.size + b, o, none⟩ = false

theorem cell_set {w : World} {b o o' : Nat} {v u : Value} (h : w.cell? ⟨b, o', none⟩ = some u) :
    (w.setCell ⟨b, o, none⟩ v).cell? ⟨b, o', none⟩ = some (if o = o' then v else u) := by
  by_cases e : o = o'
  · subst e; rw [if_pos rfl]; exact World.cell?_setCell_same _ _ _ h
  · rw [if_neg e, World.cell?_setCell_other _ _ _ _ (by intro he; injection he; contradiction)]; exact h
theorem Fm.put {w w2 : World} {m : Nat} {a a' : Int} {l : List UInt8} (hF : Fm w w2 m a l) : Fm w ((w2.setCell ⟨w.heap.size, 0, none⟩ (.int .u64 (hiZ a'))).setCell ⟨w.heap.size, 1, none⟩ (.int .u64 (loZ a'))) m a' l := by
  have far : ∀ o, ((w2.setCell ⟨w.heap.size, 0, none⟩ (.int .u64 (hiZ a'))).setCell ⟨w.heap.size, 1, none⟩ (.int .u64 (loZ a'))).cell? ⟨w.heap.size + 1, o, none⟩ = w2.cell? ⟨w.heap.size + 1, o, none⟩ := fun o => by
    rw [cell_far (by show w.heap.size ≠ w.heap.size + 1; omega), cell_far (by show w.heap.size ≠ w.heap.size + 1; omega)]
  refine ⟨(hF.up.setCell (Nat.le_refl _) _).setCell (Nat.le_refl _) _, by rw [size_set, size_set]; exact hF.size, ?_, ?_, ?_, hF.len, ?_, ?_⟩
  · rw [cell_set (u := .int .u64 (hiZ a')) (by rw [cell_set hF.hi, if_pos rfl]), if_neg (by omega)]
  · rw [cell_set (u := .int .u64 (loZ a)) (by rw [cell_set hF.lo, if_neg (by omega)]), if_pos rfl]
  · intro i hi; rw [far]; exact hF.row i hi
  · intro j hj; rw [far]; exact hF.dig j hj
  · intro b o; rw [World.frozen?_setCell, World.frozen?_setCell]; exact hF.fr b o

end Go.Proofs.Ytafkoddgefcpnaa

namespace Go.Proofs.Ytafkoddgefcpnaa
open Go.RowKit

theorem add_at (b o j : Nat) : (⟨b, o, none⟩ : Addr).add j = ⟨b, o + j, none⟩ := by
  unfold Addr.add
  by_cases h : j = 0
  · rw [if_pos h, h]; rfl
  · rw [if_neg h]
theorem digit_toNat (n : Nat) (h : n < 10) : (UInt8.ofNat (48 + n)).toNat = 48 + n := by
  simp [UInt8.toNat_ofNat']; omega

theorem Fm.next {w wr w1 w2 : World} {m : Nat} {a : Int} {l : List UInt8} (hF : Fm w wr m a l) (hm : 1 ≤ m) (ha : 0 ≤ a) (hu1 : Up wr w1) {c : Array Value} {t : TypeId}
    (hu2 : Up ((w1.setCell ⟨w.heap.size + 1, m - 1, none⟩ (.int .u8 (48 + a % 10))).alloc (.cells c t)) w2) : Fm w w2 (m - 1) a (UInt8.ofNat (48 + a.toNat % 10) :: l) := by
  have s0 := hF.size
  have s1 := hu1.size
  have s2 := hu2.size
  rw [size_alloc, size_set] at s2
  have old : ∀ b o, b < w.heap.size + 2 → w2.cell? ⟨b, o, none⟩ = (w1.setCell ⟨w.heap.size + 1, m - 1, none⟩ (.int .u8 (48 + a % 10))).cell? ⟨b, o, none⟩ := fun b o hb => by
    rw [hu2.cells.1 b o (by rw [size_alloc, size_set]; omega)]
    exact World.cell?_alloc_past _ _ _ (by rw [size_set]; omega)
  have up1 : Up w (w1.setCell ⟨w.heap.size + 1, m - 1, none⟩ (.int .u8 (48 + a % 10))) := (hF.up.trans hu1).setCell (by show w.heap.size ≤ w.heap.size + 1; omega) _
  refine ⟨(up1.alloc c t).trans hu2, by omega, ?_, ?_, ?_, ?_, ?_, ?_⟩
  · rw [old _ _ (by omega), cell_far (by show w.heap.size + 1 ≠ w.heap.size; omega), hu1.cells.1 _ _ (by omega)]; exact hF.hi
  · rw [old _ _ (by omega), cell_far (by show w.heap.size + 1 ≠ w.heap.size; omega), hu1.cells.1 _ _ (by omega)]; exact hF.lo
  · intro i hi
    obtain ⟨x, hx⟩ := hF.row i hi
    have hx1 : w1.cell? ⟨w.heap.size + 1, i, none⟩ = some (.int .u8 x) := (hu1.cells.1 _ _ (by omega)).trans hx
    refine ⟨if m - 1 = i then 48 + a % 10 else x, ?_⟩
    rw [old _ _ (by omega), cell_set hx1]
    split <;> rfl
  · have := hF.len; simp; omega
  · intro j hj
    cases j with
    | zero =>
      obtain ⟨x, hx⟩ := hF.row (m - 1) (by have := hF.len; omega)
      have hx1 : w1.cell? ⟨w.heap.size + 1, m - 1, none⟩ = some (.int .u8 x) := (hu1.cells.1 _ _ (by omega)).trans hx
      rw [old _ _ (by omega), show m - 1 + 0 = m - 1 by omega, cell_set hx1, if_pos rfl]
      show some (Value.int .u8 (48 + a % 10)) = some (Value.int .u8 ((UInt8.ofNat (48 + a.toNat % 10)).toNat : Int))
      rw [digit_toNat _ (by omega)]
      congr 2
      omega
    | succ j =>
      have hj' : j < l.length := by simpa using hj
      have hd := hF.dig j hj'
      have hx1 : w1.cell? ⟨w.heap.size + 1, m + j, none⟩ = some (.int .u8 (l[j].toNat : Int)) := (hu1.cells.1 _ _ (by omega)).trans hd
      rw [show m - 1 + (j + 1) = m + j by omega, old _ _ (by omega), cell_set hx1, if_neg (by omega)]
      rfl
  · intro b o
    rw [hu2.cells.2, frozen?_alloc_cells, World.frozen?_setCell, hu1.cells.2]; exact hF.fr b o
end Go.Proofs.Ytafkoddgefcpnaa

namespace Go.Proofs.Ytafkoddgefcpnaa
open Go.RowKit

/-- A block of the call's own is not frozen. -/
theorem Up.ownGe {w w' : World} (h : Up w w') {g : Nat} (hg : w.heap.size ≤ g) (o : Nat) : w'.frozen? ⟨g, o, none⟩ = false := by
  obtain ⟨b, rfl⟩ := Nat.le.dest hg
  exact h.own b o
end Go.Proofs.Ytafkoddgefcpnaa

namespace Go.Proofs.Ytafkoddgefcpnaa

/-- An int64 number. -/
def In (x : Int) : Prop := -9223372036854775808 ≤ x ∧ x ≤ 9223372036854775807
def fits (x : Int) : Bool := decide (-9223372036854775808 ≤ x ∧ x ≤ 9223372036854775807)
def fit (x : Int) : Int := if fits x = true then x else 0

theorem fits_yes {x : Int} (h : In x) : fits x = true := by unfold fits; exact decide_eq_true h
theorem fits_no {x : Int} (h : ¬ In x) : fits x = false := by unfold fits; exact decide_eq_false h
theorem fit_yes {x : Int} (h : In x) : fit x = x := by unfold fit; rw [if_pos (fits_yes h)]
theorem fit_no {x : Int} (h : ¬ In x) : fit x = 0 := by unfold fit; rw [fits_no h]; rfl
/-! ### Quotients -/
/-! ### The quotients rounded down and up, and the remainder -/
/-! ### Products -/
/-- What stays of x in 64 bits with a sign. -/
def wr (x : Int) : Int := (x + 9223372036854775808) % 18446744073709551616 - 9223372036854775808
/-! ### The greatest common divisor -/
/-! ### Powers -/
/-! ### Square roots -/
/-! ### Binary digits -/
end Go.Proofs.Ytafkoddgefcpnaa

namespace Go.Proofs.Ytafkoddgefcpnaa

/-! ### Quotients -/
/-! ### The quotients rounded down and up, and the remainder -/
/-! ### Products -/
/-! ### The greatest common divisor -/
/-! ### Powers -/
/-! ### Square roots -/
/-! ### Binary digits -/
def bitsN : Nat → Nat → Nat
  | 0, _ => 0
  | f + 1, n => if n = 0 then 0 else bitsN f (n / 2) + 1
/-- The number of binary digits of n; 0 if n is negative. -/
def bitsZ (n : Int) : Int := (bitsN n.toNat n.toNat : Nat)
theorem bitsN_fuel (f g n : Nat) (hf : n ≤ f) (hg : n ≤ g) : bitsN f n = bitsN g n := by
  induction f generalizing g n with
  | zero => have : n = 0 := by omega
            subst this; cases g <;> simp [bitsN]
  | succ f ih =>
    cases g with
    | zero => have : n = 0 := by omega
              subst this; simp [bitsN]
    | succ g =>
      by_cases h : n = 0
      · simp [bitsN, h]
      · simp only [bitsN, if_neg h]
        rw [ih g (n / 2) (by omega) (by omega)]
theorem bitsZ_step (n : Int) (h : 0 < n) : bitsZ n = bitsZ (n / 2) + 1 := by
  obtain ⟨m, rfl⟩ := Int.eq_ofNat_of_zero_le (Int.le_of_lt h)
  have hm : 0 < m := by omega
  have e : ((m : Int) / 2).toNat = m / 2 := by omega
  unfold bitsZ
  rw [e, Int.toNat_natCast]
  cases m with
  | zero => omega
  | succ k =>
    rw [show bitsN (k + 1) (k + 1) = bitsN k ((k + 1) / 2) + 1 from by simp [bitsN]]
    rw [bitsN_fuel k ((k + 1) / 2) ((k + 1) / 2) (by omega) (by omega)]
    omega
theorem bitsZ_low (n : Int) (h : n ≤ 0) : bitsZ n = 0 := by
  unfold bitsZ
  rw [show n.toNat = 0 from by omega]; rfl
theorem bitsN_le (f n : Nat) : bitsN f n ≤ n := by
  induction f generalizing n with
  | zero => simp [bitsN]
  | succ f ih =>
    unfold bitsN
    split
    · omega
    · have := ih (n / 2); omega
theorem bitsZ_bound (n : Int) : 0 ≤ bitsZ n ∧ (0 ≤ n → bitsZ n ≤ n) ∧ (n < 0 → bitsZ n = 0) := by
  unfold bitsZ
  have := bitsN_le n.toNat n.toNat
  omega
end Go.Proofs.Ytafkoddgefcpnaa

namespace Go.Proofs.Ytafkoddgefcpnaa

/-! ### Quotients -/
/-! ### The quotients rounded down and up, and the remainder -/
def rest (a b : Int) : Int := if a.tmod b ≠ 0 ∧ ¬ (a < 0 ↔ b < 0) then a.tmod b + b else a.tmod b
/-! ### Products -/
/-! ### The greatest common divisor -/
/-! ### Powers -/
/-! ### Square roots -/
/-! ### Binary digits -/
end Go.Proofs.Ytafkoddgefcpnaa

namespace Go.Proofs.Ytafkoddgefcpnaa

/-- The i-th word of a number. -/
def dg3 (v : Int) (i : Nat) : Int := v / 18446744073709551616 ^ i % 18446744073709551616
end Go.Proofs.Ytafkoddgefcpnaa

namespace Go.Proofs.Ytafkoddgefcpnaa

def updz (z : Nat → Int) (i : Nat) (t : Int) : Nat → Int := fun j => if j = i then t else z j
end Go.Proofs.Ytafkoddgefcpnaa

namespace Go.Proofs.Ytafkoddgefcpnaa
open Go.RowKit

/-- A checked result: the number and true, or 0 and false. -/
abbrev got (x : Int) (ok : Bool) : Ending := .returned (.tuple #[.int .i64 x, .bool ok])

/-! ### The reference's sums -/
end Go.Proofs.Ytafkoddgefcpnaa

namespace Go.Proofs.Ytafkoddgefcpnaa
open Go.RowKit

theorem sub_any (a b : Int) (ha : In a) (hb : In b) (w : World) :
    Calls Try.prog 59 #[.int .i64 a, .int .i64 b] w fun e w' => e = got (fit (a - b)) (fits (a - b)) ∧ w = w' := by
  obtain ⟨a1, a2⟩ := ha; obtain ⟨b1, b2⟩ := hb
  by_cases h : In (a - b)
  · have H1 := Lib.hid (fit_yes h)
    have H2 := Lib.hid (fits_yes h)
    obtain ⟨h1, h2⟩ := h
    by_cases hp : 0 < b
    · have t1 : decide (a - b < a) = true := decide_eq_true (by omega)
      go_enter Try.func59, Try.ntmps59
      go_wp2
      go_ret2
      exact ⟨by rw [H1.out, H2.out]; rfl, rfl⟩
    · have t1 : decide (a - b < a) = false := decide_eq_false (by omega)
      go_enter Try.func59, Try.ntmps59
      go_wp2
      go_ret2
      exact ⟨by rw [H1.out, H2.out]; rfl, rfl⟩
  · have H1 := Lib.hid (fit_no h)
    have H2 := Lib.hid (fits_no h)
    by_cases hp : 0 < b
    · have hs : a - b < -9223372036854775808 := by unfold In at h; omega
      have t1 : decide (wrap64 (a - b) < a) = false := decide_eq_false (by unfold wrap64; omega)
      clear h
      go_enter Try.func59, Try.ntmps59
      go_wp2
      go_ret2
      exact ⟨by rw [H1.out, H2.out]; rfl, rfl⟩
    · have hs : 9223372036854775807 < a - b := by unfold In at h; omega
      have t1 : decide (wrap64 (a - b) < a) = true := decide_eq_true (by unfold wrap64; omega)
      clear h
      go_enter Try.func59, Try.ntmps59
      go_wp2
      go_ret2
      exact ⟨by rw [H1.out, H2.out]; rfl, rfl⟩

/-! ### The reference's sums -/
end Go.Proofs.Ytafkoddgefcpnaa

namespace Go.Proofs.Ytafkoddgefcpnaa
open Go.RowKit

/-! ### The reference's sums -/
theorem rsub_any (a b : Int) (ha : In a) (hb : In b) (w : World) :
    Calls Try.prog 60 #[.int .i64 a, .int .i64 b] w fun e w' => e = got (fit (a - b)) (fits (a - b)) ∧ w = w' := by
  obtain ⟨a1, a2⟩ := ha; obtain ⟨b1, b2⟩ := hb
  by_cases h : In (a - b)
  · have H1 := Lib.hid (fit_yes h)
    have H2 := Lib.hid (fits_yes h)
    obtain ⟨h1, h2⟩ := h
    by_cases hp : 0 < b
    · go_enter Try.func60, Try.ntmps60
      go_wp2
      go_ret2
      exact ⟨by rw [H1.out, H2.out]; rfl, rfl⟩
    · by_cases hn : b < 0
      · go_enter Try.func60, Try.ntmps60
        go_wp2
        go_ret2
        exact ⟨by rw [H1.out, H2.out]; rfl, rfl⟩
      · go_enter Try.func60, Try.ntmps60
        go_wp2
        go_ret2
        exact ⟨by rw [H1.out, H2.out]; rfl, rfl⟩
  · have H1 := Lib.hid (fit_no h)
    have H2 := Lib.hid (fits_no h)
    by_cases hp : 0 < b
    · have hs : a - b < -9223372036854775808 := by unfold In at h; omega
      clear h
      go_enter Try.func60, Try.ntmps60
      go_wp2
      go_ret2
      exact ⟨by rw [H1.out, H2.out]; rfl, rfl⟩
    · have hs : 9223372036854775807 < a - b := by unfold In at h; omega
      have hn : b < 0 := by omega
      clear h
      go_enter Try.func60, Try.ntmps60
      go_wp2
      go_ret2
      exact ⟨by rw [H1.out, H2.out]; rfl, rfl⟩

end Go.Proofs.Ytafkoddgefcpnaa

namespace Go.Proofs.Ytafkoddgefcpnaa
open Go.RowKit

/-- What the form says of an int64 argument. -/
theorem in_of_wf {x : Int} (h : (Lit.int .i64 x).wf = true) : In x := by
  simp [Lit.wf, IntKind.min, IntKind.max, IntKind.signed, IntKind.bits] at h
  exact ⟨by omega, by omega⟩

/-! ### The reference's sums -/
end Go.Proofs.Ytafkoddgefcpnaa

namespace Go.Proofs.Ytafkoddgefcpnaa
open Go.RowKit

theorem rbits_any (n : Int) (hn : In n) (w : World) :
    Calls Try.prog 64 #[.int .i64 n] w fun e w' => e = .returned (.int .i64 (bitsZ n)) ∧ w = w' := by
  obtain ⟨n1, n2⟩ := hn
  have hb := bitsZ_bound n
  have HB := Lib.hid hb
  clear hb
  go_enter Try.func64, Try.ntmps64
  go_wp2
  go_loop [0, 3] (fun t k => ∃ m c : Int, t = .int .i64 m ∧ k = .int .i64 c ∧ m ≤ 9223372036854775807 ∧ -9223372036854775808 ≤ m ∧ 0 ≤ c ∧ Hid (c + bitsZ m = bitsZ n)) (fun t _ => (intOf t).toNat)
  case atStart => exact ⟨n, 0, rfl, rfl, n2, n1, by omega, Lib.hid (by omega)⟩
  case round =>
    obtain ⟨m, c, rfl, rfl, m2, m1, hc, HR⟩ := hrel
    by_cases hm : 0 < m
    · have hs := bitsZ_step m hm
      have hcu : c ≤ 9223372036854775806 := by
        have := HR.out; have := HB.out; have := bitsZ_bound (m / 2); omega
      have HS := Lib.hid hs
      clear hs
      go_wp2
      go_round
      case rel => exact ⟨m / 2, c + 1, rfl, rfl, by omega, by omega, by omega, Lib.hid (by have := HS.out; have := HR.out; omega)⟩
      case measure => simp only [intOf]; omega
    · go_wp2
      go_ret
      have e1 := bitsZ_low m (by omega)
      exact ⟨by rw [← HR.out, e1, Int.add_zero]; rfl, rfl⟩


end Go.Proofs.Ytafkoddgefcpnaa

namespace Go.Proofs.Ytafkoddgefcpnaa
open Go.RowKit

/-- The cells of the six numbers that the walk of the reference's Div holds. -/
structure Dv (w wr : World) (ah al bh bl q r : Int) : Prop where
  up : Up w wr
  a0 : wr.cell? ⟨w.heap.size, 0, none⟩ = some (.int .u64 ah)
  a1 : wr.cell? ⟨w.heap.size, 1, none⟩ = some (.int .u64 al)
  b0 : wr.cell? ⟨w.heap.size + 1, 0, none⟩ = some (.int .u64 bh)
  b1 : wr.cell? ⟨w.heap.size + 1, 1, none⟩ = some (.int .u64 bl)
  s0 : wr.cell? ⟨w.heap.size + 1 + 1, 0, none⟩ = some (.int .u64 0)
  s1 : wr.cell? ⟨w.heap.size + 1 + 1, 1, none⟩ = some (.int .u64 0)
  t0 : wr.cell? ⟨w.heap.size + 1 + 1 + 1, 0, none⟩ = some (.int .u64 0)
  t1 : wr.cell? ⟨w.heap.size + 1 + 1 + 1, 1, none⟩ = some (.int .u64 0)
  q0 : wr.cell? ⟨w.heap.size + 1 + 1 + 1 + 1, 0, none⟩ = some (.int .u64 (hiZ q))
  q1 : wr.cell? ⟨w.heap.size + 1 + 1 + 1 + 1, 1, none⟩ = some (.int .u64 (loZ q))
  r0 : wr.cell? ⟨w.heap.size + 1 + 1 + 1 + 1 + 1, 0, none⟩ = some (.int .u64 (hiZ r))
  r1 : wr.cell? ⟨w.heap.size + 1 + 1 + 1 + 1 + 1, 1, none⟩ = some (.int .u64 (loZ r))
theorem Dv.keep {w w1 w2 : World} {ah al bh bl q r : Int} (h : Dv w w1 ah al bh bl q r) (hu : Up w1 w2) : Dv w w2 ah al bh bl q r :=
  ⟨h.up.trans hu, hu.keep _ _ _ h.a0, hu.keep _ _ _ h.a1, hu.keep _ _ _ h.b0, hu.keep _ _ _ h.b1, hu.keep _ _ _ h.s0, hu.keep _ _ _ h.s1, hu.keep _ _ _ h.t0, hu.keep _ _ _ h.t1, hu.keep _ _ _ h.q0, hu.keep _ _ _ h.q1, hu.keep _ _ _ h.r0, hu.keep _ _ _ h.r1⟩
end Go.Proofs.Ytafkoddgefcpnaa

namespace Go.Proofs.Ytafkoddgefcpnaa
open Go.RowKit

theorem Dv.drew {w w1 : World} {ah al bh bl q r : Int} (h : Dv w w1 ah al bh bl q r) : Dv w w1.drew ah al bh bl q r := h.keep (Up.refl _).drew

end Go.Proofs.Ytafkoddgefcpnaa
