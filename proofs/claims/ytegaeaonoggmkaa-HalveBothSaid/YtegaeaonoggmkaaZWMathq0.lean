/- Texts of these claims, one after the other. -/
import Derived.Test.YtegaeaonoggmkaaRows
import Derived.Below
import Derived.BigQuiet
import Derived.Carry
import Derived.ChangeSlices
import Derived.Deep.AppendLies
import Derived.Deep.Cut
import Derived.Deep.DeepCutAuto
import Derived.Deep.Draws
import Derived.Deep.LoopGhost
import Derived.Deep.QuietTactic
import Derived.Deep.RegionHeld3
import Derived.Deep.RegionLaw
import Derived.Deep.SlicePairs
import Derived.Deep.Slices
import Derived.Great.BuildSlice
import Derived.IntWalk
import Derived.Laws.CopyOwn
import Derived.Laws.Externs
import Derived.Laws.IdiomStrings
import Derived.Laws.MakeOwn
import Derived.Laws.OwnMore
import Derived.Laws.Rows
import Derived.Lib.BitFns
import Derived.Lib.EndianBits
import Derived.Lib.Hide
import Derived.Lib.Mul64
import Derived.Lib.SliceRun
import Derived.Lib.SmallJoins
import Derived.Lib.TrailingZeros
import Derived.Maps.AppendAt
import Derived.OpenShut
import Derived.OwnWalk
import Derived.ProofKit
import Derived.RegionTactic
import Derived.RowKit3
import Derived.Shelf.Abstract
import Derived.SizedLaws
import Derived.WalkKit
import Derived.WalkSmall
import Derived.WalkSpells
namespace Go.Proofs.Ytegaeaonoggmkaa

/-- A word of 64 bits. -/
def Word (x : Int) : Prop := 0 ≤ x ∧ x < 18446744073709551616
/-- The number of two words. -/
def val (h l : Int) : Int := h * 18446744073709551616 + l
/-- The two words of a number. -/
def hiZ (v : Int) : Int := v / 18446744073709551616
def loZ (v : Int) : Int := v % 18446744073709551616
/-- A number of two words. -/
def In2 (v : Int) : Prop := 0 ≤ v ∧ v < 340282366920938463463374607431768211456
def fits2 (v : Int) : Bool := decide (0 ≤ v ∧ v < 340282366920938463463374607431768211456)
def fit2 (v : Int) : Int := if fits2 v = true then v else 0

theorem fits2_yes {v : Int} (h : In2 v) : fits2 v = true := by unfold fits2; exact decide_eq_true h
theorem fits2_no {v : Int} (h : ¬ In2 v) : fits2 v = false := by unfold fits2; exact decide_eq_false h
theorem fit2_yes {v : Int} (h : In2 v) : fit2 v = v := by unfold fit2; rw [if_pos (fits2_yes h)]
theorem fit2_no {v : Int} (h : ¬ In2 v) : fit2 v = 0 := by unfold fit2; rw [fits2_no h]; rfl
theorem hiZ_word {v : Int} (h : In2 v) : Word (hiZ v) := by obtain ⟨h1, h2⟩ := h; unfold hiZ; exact ⟨by omega, by omega⟩
theorem loZ_word (v : Int) : Word (loZ v) := by unfold loZ; exact ⟨by omega, by omega⟩
theorem val_in {h l : Int} (hh : Word h) (hl : Word l) : In2 (val h l) := by
  obtain ⟨h1, h2⟩ := hh; obtain ⟨h3, h4⟩ := hl; unfold val; exact ⟨by omega, by omega⟩
theorem val_hilo (v : Int) : val (hiZ v) (loZ v) = v := by unfold val hiZ loZ; omega
/-! ### The next half of a quotient -/
end Go.Proofs.Ytegaeaonoggmkaa

namespace Go.Proofs.Ytegaeaonoggmkaa

theorem hiZ_val {h l : Int} (hl : Word l) : hiZ (val h l) = h := by obtain ⟨h3, h4⟩ := hl; unfold hiZ val; omega
theorem loZ_val {h l : Int} (hl : Word l) : loZ (val h l) = l := by obtain ⟨h3, h4⟩ := hl; unfold loZ val; omega
/-! ### The next half of a quotient -/
end Go.Proofs.Ytegaeaonoggmkaa

namespace Go.Proofs.Ytegaeaonoggmkaa
open Go.RowKit

/-- What was there is as it was; blocks may have come. -/
structure Up (w w' : World) : Prop where
  grown : Grown w w'
  below : Below w.heap.size w w'

theorem Up.refl (w : World) : Up w w := ⟨Grown.refl _, Below.refl _ _⟩
theorem Up.alloc {w w' : World} (h : Up w w') (c : Array Value) (t : TypeId) : Up w (w'.alloc (.cells c t)) :=
  ⟨h.grown.alloc c t, h.below.alloc h.below.size _⟩
theorem Up.setCell {w w' : World} (h : Up w w') {a : Addr} (ha : w.heap.size ≤ a.block) (v : Value) : Up w (w'.setCell a v) :=
  ⟨h.grown.setCell ha v, h.below.setCell ha v⟩
theorem Up.drew {w w' : World} (h : Up w w') : Up w w'.drew := ⟨h.grown.drew, h.below.drew⟩
theorem Up.drewN {w w' : World} (h : Up w w') (n : Nat) : Up w (w'.drewN n) :=
  ⟨h.grown, ⟨h.below.os, h.below.tape, h.below.output, h.below.size, h.below.block⟩⟩
theorem Up.trans {a b c : World} (h : Up a b) (k : Up b c) : Up a c :=
  ⟨⟨World.keptBut_trans h.grown.1 k.grown.1, fun x => (k.grown.2.1 x).trans (h.grown.2.1 x), Nat.le_trans h.grown.2.2 k.grown.2.2⟩,
    h.below.trans (k.below.mono h.below.size)⟩
theorem Up.cells {w w' : World} (h : Up w w') : (∀ b o, b < w.heap.size → w'.cell? ⟨b, o, none⟩ = w.cell? ⟨b, o, none⟩) ∧ (∀ a, w'.frozen? a = w.frozen? a) :=
  ⟨fun b o hb => h.below.cell (p := ⟨b, o, none⟩) hb, h.grown.2.1⟩
theorem Up.size {w w' : World} (h : Up w w') : w.heap.size ≤ w'.heap.size := h.below.size

theorem size_set (w : World) (p : Addr) (v : Value) : (w.setCell p v).heap.size = w.heap.size := by simp [World.setCell]
theorem size_alloc (w : World) (o : Obj) : (w.alloc o).heap.size = w.heap.size + 1 := by simp
def got2 (v : Int) (b : Bool) : Ending := .returned (.tuple #[.agg #[.int .u64 (hiZ v), .int .u64 (loZ v)], .bool b])

theorem add64 (x y c : Int) (hx : 0 ≤ x) (hy : 0 ≤ y) (hc0 : 0 ≤ c) (hc : c ≤ 1) (w : World) : (callFunc 51 #[.int .u64 x, .int .u64 y, .int .u64 c]).run Try.prog w =
    .ok (.value (.tuple #[.int .u64 ((x + y + c) % 18446744073709551616), .int .u64 ((x + y + c) / 18446744073709551616)])) w := by
  rw [run_callFunc_extern Try.func51 (by kernel_rfl) (by kernel_rfl) (by kernel_rfl) (e := add64Entry) (by kernel_rfl), run_add64 x y c hx hy hc0 hc]
  rfl
theorem add64_0 (x y : Int) (hx : 0 ≤ x) (hy : 0 ≤ y) (w : World) : (callFunc 51 #[.int .u64 x, .int .u64 y, .int .u64 0]).run Try.prog w =
    .ok (.value (.tuple #[.int .u64 ((x + y) % 18446744073709551616), .int .u64 ((x + y) / 18446744073709551616)])) w := by
  simpa using add64 x y 0 hx hy (Int.le_refl 0) (by decide) w

end Go.Proofs.Ytegaeaonoggmkaa

namespace Go.Proofs.Ytegaeaonoggmkaa

/-- The i-th word of a number. -/
def dg3 (v : Int) (i : Nat) : Int := v / 18446744073709551616 ^ i % 18446744073709551616
def updz (z : Nat → Int) (i : Nat) (t : Int) : Nat → Int := fun j => if j = i then t else z j
end Go.Proofs.Ytegaeaonoggmkaa

namespace Go.Proofs.Ytegaeaonoggmkaa

/-- The number of binary digits. -/
def blZ (v : Int) : Int := if v = 0 then 0 else ((Nat.log2 v.toNat + 1 : Nat) : Int)
theorem blZ_0 : blZ 0 = 0 := rfl
theorem blZ_uniq {v : Int} {k : Nat} (h0 : 2 ^ k ≤ v.toNat) (h1 : v.toNat < 2 ^ (k + 1)) : blZ v = (k : Int) + 1 := by
  have hp : 0 < 2 ^ k := Nat.pow_pos (by decide)
  have hv : v ≠ 0 := fun h => by rw [h] at h0; simp at h0
  have hn : v.toNat ≠ 0 := by omega
  unfold blZ
  rw [if_neg hv]
  have a := (Nat.log2_lt hn (k := k + 1)).2 h1
  have b : ¬ v.toNat.log2 < k := fun h => by have := (Nat.log2_lt hn).1 h; omega
  omega
theorem blZ_spec {v : Int} (h : 0 < v) : ∃ k : Nat, blZ v = (k : Int) + 1 ∧ 2 ^ k ≤ v.toNat ∧ v.toNat < 2 ^ (k + 1) := by
  have hn : v.toNat ≠ 0 := by omega
  refine ⟨v.toNat.log2, ?_, Nat.log2_self_le hn, Nat.lt_log2_self⟩
  unfold blZ; rw [if_neg (by omega)]; omega
theorem blZ_nonneg (v : Int) : 0 ≤ blZ v := by unfold blZ; split <;> omega
theorem blZ_le {v : Int} (h : In2 v) : blZ v ≤ 128 := by
  by_cases h0 : v = 0
  · rw [h0, blZ_0]; decide
  · obtain ⟨k, e, k0, k1⟩ := blZ_spec (v := v) (by unfold In2 at h; omega)
    rw [e]
    have : k < 128 := by
      apply Nat.lt_of_not_le; intro hk
      have := Nat.pow_le_pow_right (show 0 < 2 by decide) hk
      have e128 : (2 : Nat) ^ 128 = 340282366920938463463374607431768211456 := by decide
      unfold In2 at h; omega
    omega
theorem p64 : (2 : Nat) ^ 64 = 18446744073709551616 := by decide
theorem p128 : (2 : Nat) ^ 128 = 340282366920938463463374607431768211456 := by decide
theorem pow64 (k : Nat) : (2 : Nat) ^ (64 + k) = 2 ^ k * 18446744073709551616 := by rw [Nat.add_comm, Nat.pow_add, p64]
theorem val_nat {h l : Int} (hh : Word h) (hl : Word l) : (val h l).toNat = h.toNat * 18446744073709551616 + l.toNat := by
  obtain ⟨a1, a2⟩ := hh; obtain ⟨b1, b2⟩ := hl; unfold val; omega
theorem blZ_hi {h l : Int} (hh : Word h) (hl : Word l) (h0 : h ≠ 0) : blZ (val h l) = 64 + blZ h := by
  have g := hh
  obtain ⟨a1, a2⟩ := g
  obtain ⟨k, e, k0, k1⟩ := blZ_spec (v := h) (by omega)
  have ev := val_nat hh hl
  have hl' : l.toNat < 18446744073709551616 := by obtain ⟨b1, b2⟩ := hl; omega
  have e1 := pow64 k
  have e2 := pow64 (k + 1)
  have c0 : 2 ^ (64 + k) ≤ (val h l).toNat := by rw [ev, e1]; omega
  have c1 : (val h l).toNat < 2 ^ (64 + k + 1) := by rw [show 64 + k + 1 = 64 + (k + 1) by omega, ev, e2]; omega
  rw [blZ_uniq c0 c1, e]
  omega
/-- Products with powers of two. -/
def leftB (v n : Int) : Bool := decide (0 ≤ n) && fits2 (v * 2 ^ n.toNat)
def leftV (v n : Int) : Int := if leftB v n = true then v * 2 ^ n.toNat else 0
theorem toNat_pow (v : Int) (n : Nat) (hv : 0 ≤ v) : (v * 2 ^ n).toNat = v.toNat * 2 ^ n := by
  obtain ⟨m, rfl⟩ := Int.eq_ofNat_of_zero_le hv
  rw [show ((2 : Int) ^ n) = ((2 ^ n : Nat) : Int) by rw [Int.natCast_pow]; rfl, ← Int.natCast_mul, Int.toNat_natCast, Int.toNat_natCast]
theorem pow_nonneg2 (n : Nat) : (0 : Int) < 2 ^ n := by
  rw [show ((2 : Int) ^ n) = ((2 ^ n : Nat) : Int) by rw [Int.natCast_pow]; rfl]
  have : 0 < 2 ^ n := Nat.pow_pos (by decide)
  omega
theorem left_yes {v n : Int} (hv : 0 < v) (h0 : 0 ≤ n) (h : n ≤ 128 - blZ v) : In2 (v * 2 ^ n.toNat) := by
  obtain ⟨k, e, k0, k1⟩ := blZ_spec hv
  have hp := pow_nonneg2 n.toNat
  have hm := Int.mul_nonneg (Int.le_of_lt hv) (Int.le_of_lt hp)
  have h1 : v.toNat * 2 ^ n.toNat < 2 ^ (k + 1) * 2 ^ n.toNat := Nat.mul_lt_mul_of_pos_right k1 (Nat.pow_pos (by decide))
  rw [← Nat.pow_add] at h1
  have h2 : (2 : Nat) ^ (k + 1 + n.toNat) ≤ 2 ^ 128 := Nat.pow_le_pow_right (by decide) (by omega)
  rw [p128] at h2
  have h3 := toNat_pow v n.toNat (by omega)
  exact ⟨hm, by omega⟩
theorem left_no {v n : Int} (hv : 0 < v) (h0 : 0 ≤ n) (h : ¬ n ≤ 128 - blZ v) : ¬ In2 (v * 2 ^ n.toNat) := by
  obtain ⟨k, e, k0, k1⟩ := blZ_spec hv
  have h1 : 2 ^ k * 2 ^ n.toNat ≤ v.toNat * 2 ^ n.toNat := Nat.mul_le_mul_right _ k0
  rw [← Nat.pow_add] at h1
  have h2 : (2 : Nat) ^ 128 ≤ 2 ^ (k + n.toNat) := Nat.pow_le_pow_right (by decide) (by omega)
  rw [p128] at h2
  have h3 := toNat_pow v n.toNat (by omega)
  unfold In2; omega
theorem leftB_yes {v n : Int} (h0 : 0 ≤ n) (h : In2 (v * 2 ^ n.toNat)) : leftB v n = true ∧ leftV v n = v * 2 ^ n.toNat := by
  have : leftB v n = true := by unfold leftB; rw [decide_eq_true h0, fits2_yes h]; rfl
  exact ⟨this, by unfold leftV; rw [if_pos this]⟩
theorem leftB_no {v n : Int} (h : ¬ In2 (v * 2 ^ n.toNat)) : leftB v n = false ∧ leftV v n = 0 := by
  have : leftB v n = false := by unfold leftB; rw [fits2_no h, Bool.and_false]
  exact ⟨this, by unfold leftV; rw [this]; rfl⟩
theorem leftB_neg {v n : Int} (h : n < 0) : leftB v n = false ∧ leftV v n = 0 := by
  have : leftB v n = false := by unfold leftB; rw [decide_eq_false (by omega)]; rfl
  exact ⟨this, by unfold leftV; rw [this]; rfl⟩

end Go.Proofs.Ytegaeaonoggmkaa
