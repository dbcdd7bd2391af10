/- Texts of these claims, one after the other. -/
import Derived.Test.YtfdjhahnggdklaaRows
import Derived.Below
import Derived.BigQuiet
import Derived.Carry
import Derived.ChangeSlices
import Derived.Deep.AppendLies
import Derived.Deep.Cut
import Derived.Deep.DeepCutAuto
import Derived.Deep.Draws
import Derived.Deep.LoopGhost
import Derived.Deep.QuietTactic
import Derived.Deep.RegionHeld3
import Derived.Deep.RegionLaw
import Derived.Deep.RegionWith
import Derived.Deep.SlicePairs
import Derived.Great.BuildSlice
import Derived.IntWalk
import Derived.Laws.CopyOwn
import Derived.Laws.Externs
import Derived.Laws.IdiomStrings
import Derived.Laws.OwnMore
import Derived.Laws.Rows
import Derived.Lib.BitFns
import Derived.Lib.Hide
import Derived.Lib.Mul64
import Derived.Lib.SliceRun
import Derived.Lib.SmallJoins
import Derived.Maps.AppendAt
import Derived.OpenShut
import Derived.OwnWalk
import Derived.ProofKit
import Derived.RegionTactic
import Derived.RowKit3
import Derived.SizedLaws
import Derived.WalkKit
import Derived.WalkSmall
import Derived.WalkSpells
namespace Go.Proofs.Ytfdjhahnggdklaa

/-- A word of 64 bits. -/
def Word (x : Int) : Prop := 0 ≤ x ∧ x < 18446744073709551616
/-- The number of two words. -/
def val (h l : Int) : Int := h * 18446744073709551616 + l
/-- The two words of a number. -/
def hiZ (v : Int) : Int := v / 18446744073709551616
def loZ (v : Int) : Int := v % 18446744073709551616
/-- A number of two words. -/
def In2 (v : Int) : Prop := 0 ≤ v ∧ v < 340282366920938463463374607431768211456
def fits2 (v : Int) : Bool := decide (0 ≤ v ∧ v < 340282366920938463463374607431768211456)
def fit2 (v : Int) : Int := if fits2 v = true then v else 0

theorem fits2_yes {v : Int} (h : In2 v) : fits2 v = true := by unfold fits2; exact decide_eq_true h
theorem fits2_no {v : Int} (h : ¬ In2 v) : fits2 v = false := by unfold fits2; exact decide_eq_false h
theorem fit2_yes {v : Int} (h : In2 v) : fit2 v = v := by unfold fit2; rw [if_pos (fits2_yes h)]
theorem fit2_no {v : Int} (h : ¬ In2 v) : fit2 v = 0 := by unfold fit2; rw [fits2_no h]; rfl
theorem hiZ_word {v : Int} (h : In2 v) : Word (hiZ v) := by obtain ⟨h1, h2⟩ := h; unfold hiZ; exact ⟨by omega, by omega⟩
theorem loZ_word (v : Int) : Word (loZ v) := by unfold loZ; exact ⟨by omega, by omega⟩
theorem hiZ_0 : hiZ 0 = 0 := by decide
theorem loZ_0 : loZ 0 = 0 := by decide
theorem val_in {h l : Int} (hh : Word h) (hl : Word l) : In2 (val h l) := by
  obtain ⟨h1, h2⟩ := hh; obtain ⟨h3, h4⟩ := hl; unfold val; exact ⟨by omega, by omega⟩
theorem hiZ_val {h l : Int} (hl : Word l) : hiZ (val h l) = h := by obtain ⟨h3, h4⟩ := hl; unfold hiZ val; omega
theorem loZ_val {h l : Int} (hl : Word l) : loZ (val h l) = l := by obtain ⟨h3, h4⟩ := hl; unfold loZ val; omega
theorem val_hilo (v : Int) : val (hiZ v) (loZ v) = v := by unfold val hiZ loZ; omega
theorem word_0 : Word 0 := ⟨by decide, by decide⟩
/-! ### The next half of a quotient -/
end Go.Proofs.Ytfdjhahnggdklaa

namespace Go.Proofs.Ytfdjhahnggdklaa
open Go.RowKit

/-- What was there is as it was; blocks may have come. -/
structure Up (w w' : World) : Prop where
  grown : Grown w w'
  below : Below w.heap.size w w'

theorem Up.refl (w : World) : Up w w := ⟨Grown.refl _, Below.refl _ _⟩
theorem Up.alloc {w w' : World} (h : Up w w') (c : Array Value) (t : TypeId) : Up w (w'.alloc (.cells c t)) :=
  ⟨h.grown.alloc c t, h.below.alloc h.below.size _⟩
theorem Up.setCell {w w' : World} (h : Up w w') {a : Addr} (ha : w.heap.size ≤ a.block) (v : Value) : Up w (w'.setCell a v) :=
  ⟨h.grown.setCell ha v, h.below.setCell ha v⟩
theorem Up.drew {w w' : World} (h : Up w w') : Up w w'.drew := ⟨h.grown.drew, h.below.drew⟩
theorem Up.drewN {w w' : World} (h : Up w w') (n : Nat) : Up w (w'.drewN n) :=
  ⟨h.grown, ⟨h.below.os, h.below.tape, h.below.output, h.below.size, h.below.block⟩⟩
theorem Up.trans {a b c : World} (h : Up a b) (k : Up b c) : Up a c :=
  ⟨⟨World.keptBut_trans h.grown.1 k.grown.1, fun x => (k.grown.2.1 x).trans (h.grown.2.1 x), Nat.le_trans h.grown.2.2 k.grown.2.2⟩,
    h.below.trans (k.below.mono h.below.size)⟩
theorem Up.cells {w w' : World} (h : Up w w') : (∀ b o, b < w.heap.size → w'.cell? ⟨b, o, none⟩ = w.cell? ⟨b, o, none⟩) ∧ (∀ a, w'.frozen? a = w.frozen? a) :=
  ⟨fun b o hb => h.below.cell (p := ⟨b, o, none⟩) hb, h.grown.2.1⟩
theorem Up.size {w w' : World} (h : Up w w') : w.heap.size ≤ w'.heap.size := h.below.size

theorem size_set (w : World) (p : Addr) (v : Value) : (w.setCell p v).heap.size = w.heap.size := by simp [World.setCell]
theorem size_alloc (w : World) (o : Obj) : (w.alloc o).heap.size = w.heap.size + 1 := by simp
/-- A number of two words as a value, and a pair of it and a bool. -/
def wd (v : Int) : Value := .agg #[.int .u64 (hiZ v), .int .u64 (loZ v)]
def got2 (v : Int) (b : Bool) : Ending := .returned (.tuple #[.agg #[.int .u64 (hiZ v), .int .u64 (loZ v)], .bool b])

theorem add64 (x y c : Int) (hx : 0 ≤ x) (hy : 0 ≤ y) (hc0 : 0 ≤ c) (hc : c ≤ 1) (w : World) : (callFunc 108 #[.int .u64 x, .int .u64 y, .int .u64 c]).run Try.prog w =
    .ok (.value (.tuple #[.int .u64 ((x + y + c) % 18446744073709551616), .int .u64 ((x + y + c) / 18446744073709551616)])) w := by
  rw [run_callFunc_extern Try.func108 (by kernel_rfl) (by kernel_rfl) (by kernel_rfl) (e := add64Entry) (by kernel_rfl), run_add64 x y c hx hy hc0 hc]
  rfl
theorem add64_0 (x y : Int) (hx : 0 ≤ x) (hy : 0 ≤ y) (w : World) : (callFunc 108 #[.int .u64 x, .int .u64 y, .int .u64 0]).run Try.prog w =
    .ok (.value (.tuple #[.int .u64 ((x + y) % 18446744073709551616), .int .u64 ((x + y) / 18446744073709551616)])) w := by
  simpa using add64 x y 0 hx hy (Int.le_refl 0) (by decide) w

/-- The model's entry for math/bits.Sub64. -/
def subEntry : Array Value → Sem Value := fun args => do
  let (x, y, b) ← Extern.MathBitsCarry.three "Sub64" args
  pure (Extern.MathBitsCarry.pair ((x + Extern.MathBitsCarry.m64 - y - b) % Extern.MathBitsCarry.m64) (if x < y + b then 1 else 0))
theorem run_subEntry {P : Program} (x y b : Nat) (hb : b ≤ 1) (w : World) :
    (subEntry #[.int .u64 x, .int .u64 y, .int .u64 b]).run P w =
      .ok (.tuple #[.int .u64 (((x + 18446744073709551616 - y - b) % 18446744073709551616 : Nat) : Int), .int .u64 ((if x < y + b then 1 else 0 : Nat) : Int)]) w := by
  have : b = 0 ∨ b = 1 := by omega
  rcases this with rfl | rfl <;> rfl
/-- The borrow, under a name. -/
def bor (x y : Int) : Int := if x < y then 1 else 0
theorem bor_01 (x y : Int) : 0 ≤ bor x y ∧ bor x y ≤ 1 := by unfold bor; split <;> decide
theorem sub64 (x y b : Int) (hx : 0 ≤ x) (hy : 0 ≤ y) (hy' : y < 18446744073709551616) (hb0 : 0 ≤ b) (hb : b ≤ 1) (w : World) : (callFunc 109 #[.int .u64 x, .int .u64 y, .int .u64 b]).run Try.prog w =
    .ok (.value (.tuple #[.int .u64 ((x - y - b) % 18446744073709551616), .int .u64 (bor x (y + b))])) w := by
  obtain ⟨x, rfl⟩ := Int.eq_ofNat_of_zero_le hx
  obtain ⟨y, rfl⟩ := Int.eq_ofNat_of_zero_le hy
  obtain ⟨b, rfl⟩ := Int.eq_ofNat_of_zero_le hb0
  have e1 : (((x + 18446744073709551616 - y - b) % 18446744073709551616 : Nat) : Int) = ((x : Int) - y - b) % 18446744073709551616 := by omega
  have e2 : ((if x < y + b then 1 else 0 : Nat) : Int) = bor (x : Int) (y + b) := by unfold bor; split <;> split <;> omega
  rw [run_callFunc_extern Try.func109 (by kernel_rfl) (by kernel_rfl) (by kernel_rfl) (e := subEntry) (by kernel_rfl), run_subEntry x y b (by omega), e1, e2]
  rfl
theorem sub64_0 (x y : Int) (hx : 0 ≤ x) (hy : 0 ≤ y) (hy' : y < 18446744073709551616) (w : World) : (callFunc 109 #[.int .u64 x, .int .u64 y, .int .u64 0]).run Try.prog w =
    .ok (.value (.tuple #[.int .u64 ((x - y) % 18446744073709551616), .int .u64 (bor x y)])) w := by
  simpa using sub64 x y 0 hx hy hy' (Int.le_refl 0) (by decide) w

end Go.Proofs.Ytfdjhahnggdklaa

namespace Go.Proofs.Ytfdjhahnggdklaa
open Go.RowKit

theorem pow_cast (n : Nat) : ((2 ^ n : Nat) : Int) = (2 : Int) ^ n := by simp
theorem keep64z (a : Int) (h0 : 0 ≤ a) (h1 : a < 18446744073709551616) : IntKind.u64.wrap a = a := by rw [IntKind.wrap_u64]; omega
theorem or_join (n : Nat) (x y : Int) (hx0 : 0 ≤ x) (hx : x % 2 ^ n = 0) (hx1 : x < 18446744073709551616) (hy0 : 0 ≤ y) (hy : y < 2 ^ n) (hy1 : y < 18446744073709551616) : bits .or .u64 x y = x + y :=
  bits_join .u64 64 (by decide) (fun m h0 h1 => keep64z m h0 (by simpa using h1)) n x y hx0 hx (by simpa using hx1) hy0 hy (by simpa using hy1)

end Go.Proofs.Ytfdjhahnggdklaa

namespace Go.Proofs.Ytfdjhahnggdklaa

/-- An int64 number. -/
def In (x : Int) : Prop := -9223372036854775808 ≤ x ∧ x ≤ 9223372036854775807
/-! ### Quotients -/
theorem tdiv_bound (a b : Int) : -(a.natAbs : Int) ≤ a.tdiv b ∧ a.tdiv b ≤ a.natAbs := by
  have h := Int.natAbs_tdiv_le_natAbs a b
  omega
theorem tmod_lt (a b : Int) (hb : b ≠ 0) : -(b.natAbs : Int) < a.tmod b ∧ a.tmod b < b.natAbs := by
  have h : (a.tmod b).natAbs < b.natAbs := by
    rw [Int.natAbs_tmod]; exact Nat.mod_lt _ (by omega)
  omega
theorem tmod_sign (a b : Int) : (0 ≤ a → 0 ≤ a.tmod b) ∧ (a ≤ 0 → a.tmod b ≤ 0) := by
  refine ⟨fun h => Int.tmod_nonneg b h, fun h => ?_⟩
  have h2 := Int.tmod_nonneg b (a := -a) (by omega)
  rw [Int.neg_tmod] at h2; omega
theorem tdiv_tmod (a b : Int) : a.tdiv b * b + a.tmod b = a := by
  have := Int.tdiv_mul_add_tmod a b; omega
/-- A quotient of two int64 numbers is one, but for the one case. -/
theorem tdiv_in (a b : Int) (ha : In a) (hb : b ≠ 0) (hc : ¬ (a = -9223372036854775808 ∧ b = -1)) : In (a.tdiv b) := by
  obtain ⟨h1, h2⟩ := ha
  have h := tdiv_bound a b
  by_cases he : b = -1
  · subst he
    have : a.tdiv (-1) = -a := by rw [Int.tdiv_neg, Int.tdiv_one]
    rw [this]; exact ⟨by omega, by omega⟩
  · by_cases hm : a = -9223372036854775808
    · -- the quotient 2^63 would need the divisor -1
      refine ⟨by omega, ?_⟩
      by_cases hb0 : 0 < b
      · have h0 : 0 ≤ (-a).tdiv b := Int.tdiv_nonneg (by omega) (by omega)
        rw [Int.neg_tdiv] at h0
        omega
      · have hb2 : b ≤ -2 := by omega
        have hle : (a.tdiv b).natAbs ≤ 4611686018427387904 := by
          rw [Int.natAbs_tdiv]
          have : a.natAbs = 9223372036854775808 := by subst hm; rfl
          rw [this]
          have : 2 ≤ b.natAbs := by omega
          have h3 : 9223372036854775808 / b.natAbs ≤ 9223372036854775808 / 2 := Nat.div_le_div_left this (by decide)
          omega
        omega
    · exact ⟨by omega, by omega⟩

/-! ### The quotients rounded down and up, and the remainder -/
/-- There is a quotient, and it is an int64 number. -/
def hasq (a b : Int) : Bool := decide (b ≠ 0 ∧ ¬ (a = -9223372036854775808 ∧ b = -1))
def flo (a b : Int) : Int := if a.tmod b ≠ 0 ∧ ¬ (a < 0 ↔ b < 0) then a.tdiv b - 1 else a.tdiv b
def rest (a b : Int) : Int := if a.tmod b ≠ 0 ∧ ¬ (a < 0 ↔ b < 0) then a.tmod b + b else a.tmod b
def flos (a b : Int) : Int := if hasq a b = true then flo a b else 0
def rests (a b : Int) : Int := if b = 0 then 0 else rest a b

theorem hasq_yes {a b : Int} (h : b ≠ 0 ∧ ¬ (a = -9223372036854775808 ∧ b = -1)) : hasq a b = true := by unfold hasq; exact decide_eq_true h
theorem hasq_of {a b : Int} (h : hasq a b = true) : b ≠ 0 ∧ ¬ (a = -9223372036854775808 ∧ b = -1) := by unfold hasq at h; exact of_decide_eq_true h
theorem flos_no {a b : Int} (h : hasq a b = false) : flos a b = 0 := by unfold flos; rw [h]; rfl
theorem flos_yes {a b : Int} (h : hasq a b = true) : flos a b = flo a b := by unfold flos; rw [if_pos h]
/-- There is a remainder. -/
def hasr (b : Int) : Bool := decide (b ≠ 0)
theorem hasr_yes {b : Int} (h : b ≠ 0) : hasr b = true := by unfold hasr; exact decide_eq_true h
theorem hasr_no {b : Int} (h : b = 0) : hasr b = false := by unfold hasr; exact decide_eq_false (by omega)
theorem rests_yes {a b : Int} (h : b ≠ 0) : rests a b = rest a b := by unfold rests; rw [if_neg h]
theorem rests_no {a b : Int} (h : b = 0) : rests a b = 0 := by unfold rests; rw [if_pos h]
theorem tmod_neg_iff {a b : Int} (h : a.tmod b ≠ 0) : a.tmod b < 0 ↔ a < 0 := by
  have := tmod_sign a b
  omega
theorem tmod_in {a b : Int} (hb : In b) (h0 : b ≠ 0) : In (a.tmod b) := by
  obtain ⟨h1, h2⟩ := hb
  have := tmod_lt a b h0
  exact ⟨by omega, by omega⟩
theorem rest_in {a b : Int} (hb : In b) (h0 : b ≠ 0) : In (rest a b) := by
  obtain ⟨h1, h2⟩ := hb
  have := tmod_lt a b h0
  have := tmod_sign a b
  unfold rest
  split
  · exact ⟨by omega, by omega⟩
  · exact ⟨by omega, by omega⟩

/-- A quotient that is rounded is no smaller than the least int64 number, because it has a rest. -/
theorem tdiv_room (a b : Int) (ha : In a) (hb : In b) (h0 : b ≠ 0) (hr : a.tmod b ≠ 0) : -9223372036854775808 < a.tdiv b ∧ a.tdiv b < 9223372036854775807 := by
  obtain ⟨a1, a2⟩ := ha; obtain ⟨b1, b2⟩ := hb
  have h1 : b ≠ 1 := fun h => hr (by rw [h]; exact Int.tmod_one a)
  have h2 : b ≠ -1 := fun h => hr (by rw [h, Int.tmod_neg]; exact Int.tmod_one a)
  have h3 : 2 ≤ b.natAbs := by omega
  have h4 : (a.tdiv b).natAbs ≤ 4611686018427387904 := by
    rw [Int.natAbs_tdiv]
    show a.natAbs / b.natAbs ≤ _
    have h5 : a.natAbs ≤ 9223372036854775808 := by omega
    have h6 : a.natAbs / b.natAbs ≤ a.natAbs / 2 := Nat.div_le_div_left h3 (by decide)
    omega
  omega

theorem flo_rest (a b : Int) : flo a b * b + rest a b = a := by
  have h := tdiv_tmod a b
  unfold flo rest
  split
  · rw [Int.sub_mul, Int.one_mul]; omega
  · exact h
theorem rest_pos (a b : Int) (h : 0 < b) : 0 ≤ rest a b ∧ rest a b < b := by
  have h1 := tmod_lt a b (by omega)
  have h2 := tmod_sign a b
  unfold rest
  split <;> omega
/-! ### Products -/
/-- What stays of x in 64 bits with a sign. -/
def wr (x : Int) : Int := (x + 9223372036854775808) % 18446744073709551616 - 9223372036854775808
/-! ### The greatest common divisor -/
def gcdZ (x y : Int) : Int := (Nat.gcd x.toNat y.toNat : Nat)
/-- What Gcd returns: 0 if a number is negative. -/
def gcds (x y : Int) : Int := if x < 0 ∨ y < 0 then 0 else gcdZ x y
theorem gcdZ_step (x y : Int) (hx : 0 ≤ x) (hy : 0 < y) : gcdZ y (x % y) = gcdZ x y := by
  obtain ⟨m, rfl⟩ := Int.eq_ofNat_of_zero_le hx
  obtain ⟨n, rfl⟩ := Int.eq_ofNat_of_zero_le (Int.le_of_lt hy)
  unfold gcdZ
  rw [show ((m : Int) % (n : Int)) = ((m % n : Nat) : Int) from rfl, Int.toNat_natCast, Int.toNat_natCast, Int.toNat_natCast, Nat.gcd_comm m n, Nat.gcd_rec n m, Nat.gcd_comm n (m % n)]
theorem gcdZ_zero (x : Int) (hx : 0 ≤ x) : gcdZ x 0 = x := by
  unfold gcdZ
  simp
  omega
theorem gcds_neg {x y : Int} (h : x < 0 ∨ y < 0) : gcds x y = 0 := by unfold gcds; rw [if_pos h]
theorem gcds_pos {x y : Int} (hx : 0 ≤ x) (hy : 0 ≤ y) : gcds x y = gcdZ x y := by unfold gcds; rw [if_neg (by omega)]

/-! ### Powers -/
/-! ### Square roots -/
/-! ### Binary digits -/
def bitsN : Nat → Nat → Nat
  | 0, _ => 0
  | f + 1, n => if n = 0 then 0 else bitsN f (n / 2) + 1
/-- The number of binary digits of n; 0 if n is negative. -/
def bitsZ (n : Int) : Int := (bitsN n.toNat n.toNat : Nat)
theorem bitsN_fuel (f g n : Nat) (hf : n ≤ f) (hg : n ≤ g) : bitsN f n = bitsN g n := by
  induction f generalizing g n with
  | zero => have : n = 0 := by omega
            subst this; cases g <;> simp [bitsN]
  | succ f ih =>
    cases g with
    | zero => have : n = 0 := by omega
              subst this; simp [bitsN]
    | succ g =>
      by_cases h : n = 0
      · simp [bitsN, h]
      · simp only [bitsN, if_neg h]
        rw [ih g (n / 2) (by omega) (by omega)]
theorem bitsZ_step (n : Int) (h : 0 < n) : bitsZ n = bitsZ (n / 2) + 1 := by
  obtain ⟨m, rfl⟩ := Int.eq_ofNat_of_zero_le (Int.le_of_lt h)
  have hm : 0 < m := by omega
  have e : ((m : Int) / 2).toNat = m / 2 := by omega
  unfold bitsZ
  rw [e, Int.toNat_natCast]
  cases m with
  | zero => omega
  | succ k =>
    rw [show bitsN (k + 1) (k + 1) = bitsN k ((k + 1) / 2) + 1 from by simp [bitsN]]
    rw [bitsN_fuel k ((k + 1) / 2) ((k + 1) / 2) (by omega) (by omega)]
    omega
theorem bitsZ_low (n : Int) (h : n ≤ 0) : bitsZ n = 0 := by
  unfold bitsZ
  rw [show n.toNat = 0 from by omega]; rfl
theorem bitsN_le (f n : Nat) : bitsN f n ≤ n := by
  induction f generalizing n with
  | zero => simp [bitsN]
  | succ f ih =>
    unfold bitsN
    split
    · omega
    · have := ih (n / 2); omega
theorem bitsZ_bound (n : Int) : 0 ≤ bitsZ n ∧ (0 ≤ n → bitsZ n ≤ n) ∧ (n < 0 → bitsZ n = 0) := by
  unfold bitsZ
  have := bitsN_le n.toNat n.toNat
  omega
end Go.Proofs.Ytfdjhahnggdklaa

namespace Go.Proofs.Ytfdjhahnggdklaa
open Go.RowKit

/-- A checked result: the number and true, or 0 and false. -/
abbrev got (x : Int) (ok : Bool) : Ending := .returned (.tuple #[.int .i64 x, .bool ok])

/-- What the form says of an int64 argument. -/
theorem in_of_wf {x : Int} (h : (Lit.int .i64 x).wf = true) : In x := by
  simp [Lit.wf, IntKind.min, IntKind.max, IntKind.signed, IntKind.bits] at h
  exact ⟨by omega, by omega⟩

/-! ### The reference's sums -/
end Go.Proofs.Ytfdjhahnggdklaa

namespace Go.Proofs.Ytfdjhahnggdklaa

/-- The i-th word of a number. -/
def dg3 (v : Int) (i : Nat) : Int := v / 18446744073709551616 ^ i % 18446744073709551616
def updz (z : Nat → Int) (i : Nat) (t : Int) : Nat → Int := fun j => if j = i then t else z j
end Go.Proofs.Ytfdjhahnggdklaa

namespace Go.Proofs.Ytfdjhahnggdklaa

/-- In lowest terms. -/
def validB (n d : Int) : Bool := decide (1 ≤ d ∧ Nat.gcd n.natAbs d.natAbs = 1)
theorem validB_of {n d : Int} (h : validB n d = true) : 1 ≤ d ∧ Nat.gcd n.natAbs d.natAbs = 1 := by unfold validB at h; exact of_decide_eq_true h
theorem validB_low {n d : Int} (h : d < 1) : validB n d = false := by unfold validB; exact decide_eq_false (by omega)
theorem validB_eq {n d : Int} (h : 1 ≤ d) : validB n d = decide (Nat.gcd n.natAbs d.natAbs = 1) := by
  unfold validB; by_cases g : Nat.gcd n.natAbs d.natAbs = 1
  · rw [decide_eq_true g, decide_eq_true ⟨h, g⟩]
  · rw [decide_eq_false g, decide_eq_false (fun x => g x.2)]

/-- The rest has the same common divisors with the divisor. -/
theorem gcd_rest (n d : Int) (h : 1 ≤ d) : gcdZ (rest n d) d = (Nat.gcd n.natAbs d.natAbs : Nat) := by
  have e := flo_rest n d
  obtain ⟨r0, _⟩ := rest_pos n d (by omega)
  unfold gcdZ
  congr 1
  have hn : n.natAbs = (rest n d + d * flo n d).natAbs := by rw [Int.mul_comm, Int.add_comm, e]
  have e1 : (rest n d).toNat = (rest n d).natAbs := by omega
  have e2 : d.toNat = d.natAbs := by omega
  rw [e1, e2, hn]
  show Int.gcd (rest n d) d = Int.gcd (rest n d + d * flo n d) d
  rw [Int.gcd_add_mul_left_left]

end Go.Proofs.Ytfdjhahnggdklaa

namespace Go.Proofs.Ytfdjhahnggdklaa
open Go.RowKit

theorem gcd_any (a b : Int) (ha : In a) (hb : In b) (w : World) :
    Calls Try.prog 91 #[.int .i64 a, .int .i64 b] w fun e w' => e = .returned (.int .i64 (gcds a b)) ∧ ∃ n, w' = w.drewN n := by
  obtain ⟨a1, a2⟩ := ha; obtain ⟨b1, b2⟩ := hb
  by_cases hna : a < 0
  · have H := Lib.hid (gcds_neg (x := a) (y := b) (Or.inl hna))
    go_enter Try.func91, Try.ntmps91
    go_wp2
    go_ret
    exact ⟨by rw [H.out]; rfl, 0, rfl⟩
  by_cases hnb : b < 0
  · have H := Lib.hid (gcds_neg (x := a) (y := b) (Or.inr hnb))
    go_enter Try.func91, Try.ntmps91
    go_wp2
    go_ret
    exact ⟨by rw [H.out]; rfl, 0, rfl⟩
  have H := Lib.hid (gcds_pos (x := a) (y := b) (by omega) (by omega))
  have tA : decide (a < 0) = false := decide_eq_false hna
  have tB : decide (b < 0) = false := decide_eq_false hnb
  go_enter Try.func91, Try.ntmps91
  go_wp2
  go_loopw [0, 1] (fun t u wr => ∃ x y : Int, t = .int .i64 x ∧ u = .int .i64 y ∧ 0 ≤ x ∧ x ≤ 9223372036854775807 ∧ 0 ≤ y ∧ y ≤ 9223372036854775807 ∧ Hid (gcdZ x y = gcdZ a b) ∧ ∃ n, wr = w.drewN n) (fun _ u _ => (intOf u).toNat)
  case atStart => exact ⟨a, b, rfl, rfl, by omega, by omega, by omega, by omega, Lib.hid rfl, 0, rfl⟩
  case round =>
    obtain ⟨x, y, rfl, rfl, x1, x2, y1, y2, HR, n, rfl⟩ := hrel
    clear tA tB
    by_cases hy : y = 0
    · have t1 : (y != 0) = false := bne_eq_false_iff_eq.2 hy
      have HY := Lib.hid hy
      clear hy
      go_wp2
      go_ret
      refine ⟨?_, n, rfl⟩
      have h2 := HR.out
      rw [HY.out, gcdZ_zero x x1] at h2
      rw [H.out, ← h2]; rfl
    · have t1 : (y != 0) = true := bne_iff_ne.2 hy
      have y3 : 0 < y := by omega
      have HS := Lib.hid (gcdZ_step x y x1 y3)
      have m1 : 0 ≤ x % y := Int.emod_nonneg _ hy
      have m2 : x % y < y := Int.emod_lt_of_pos _ y3
      go_wp2
      go_quiet (fail)
      go_wp2
      go_roundw
      case rel => exact ⟨y, x % y, rfl, rfl, by omega, by omega, by omega, by omega, Lib.hid (HS.out.trans HR.out), n + nq, by simp [World.drewN, Nat.add_assoc]⟩
      case measure => simp only [intOf]; omega

end Go.Proofs.Ytfdjhahnggdklaa

namespace Go.Proofs.Ytfdjhahnggdklaa

/-- The number of four words, the least first. -/
def W4 (a b c d : Int) : Int := a + b * 18446744073709551616 + c * 340282366920938463463374607431768211456 + d * 6277101735386680763835789423207666416102355444464034512896
/-- The words of a number. -/
def g0 (v : Int) : Int := v % 18446744073709551616
def g1 (v : Int) : Int := v / 18446744073709551616 % 18446744073709551616
def g2 (v : Int) : Int := v / 340282366920938463463374607431768211456 % 18446744073709551616
def g3 (v : Int) : Int := v / 6277101735386680763835789423207666416102355444464034512896 % 18446744073709551616
def In4 (v : Int) : Prop := 0 ≤ v ∧ v < 115792089237316195423570985008687907853269984665640564039457584007913129639936
theorem g0_word (v : Int) : Word (g0 v) := by unfold g0 Word; omega
theorem g1_word (v : Int) : Word (g1 v) := by unfold g1 Word; omega
theorem g2_word (v : Int) : Word (g2 v) := by unfold g2 Word; omega
theorem g3_word (v : Int) : Word (g3 v) := by unfold g3 Word; omega
theorem W4_g {v : Int} (h : In4 v) : W4 (g0 v) (g1 v) (g2 v) (g3 v) = v := by
  unfold In4 at h; unfold W4 g0 g1 g2 g3; omega
theorem g_W4 {a b c d v : Int} (ha : Word a) (hb : Word b) (hc : Word c) (hd : Word d) (e : W4 a b c d = v) : a = g0 v ∧ b = g1 v ∧ c = g2 v ∧ d = g3 v := by
  unfold Word at *; unfold W4 at e; unfold g0 g1 g2 g3; omega
theorem mul_in4 {x y : Int} (hx : In2 x) (hy : In2 y) : In4 (x * y) := by
  obtain ⟨x0, x1⟩ := hx; obtain ⟨y0, y1⟩ := hy
  refine ⟨Int.mul_nonneg x0 y0, ?_⟩
  have h1 : x * y ≤ 340282366920938463463374607431768211455 * y := Int.mul_le_mul_of_nonneg_right (by omega) y0
  omega
/-- One step of a product by words: no overflow. -/
theorem step_in {x y : Int} (hx : Word x) (hy : Word y) : 0 ≤ x * y ∧ x * y ≤ 340282366920938463426481119284349108225 := by
  obtain ⟨x0, x1⟩ := hx; obtain ⟨y0, y1⟩ := hy
  refine ⟨Int.mul_nonneg x0 y0, ?_⟩
  have h1 : x * y ≤ 18446744073709551615 * y := Int.mul_le_mul_of_nonneg_right (by omega) y0
  omega
theorem step_fits {x y p c : Int} (hx : Word x) (hy : Word y) (hp : Word p) (hc : Word c) : In2 (x * y) ∧ In2 (x * y + p) ∧ In2 (x * y + p + c) := by
  have h := step_in hx hy
  unfold Word at *; unfold In2; omega
theorem hi_lo_sum (t : Int) : loZ t + hiZ t * 18446744073709551616 = t := by unfold loZ hiZ; omega
/-- The product's steps. -/
theorem prod_rows {x0 x1 y0 y1 t00 t01 t10 t11 : Int} (e1 : t00 = x0 * y0 + 0 + 0) (e2 : t01 = x0 * y1 + 0 + hiZ t00) (e3 : t10 = x1 * y0 + loZ t01 + 0) (e4 : t11 = x1 * y1 + hiZ t01 + hiZ t10) :
    W4 (loZ t00) (loZ t10) (loZ t11) (hiZ t11) = val x1 x0 * val y1 y0 := by
  have s1 := hi_lo_sum t00
  have s2 := hi_lo_sum t01
  have s3 := hi_lo_sum t10
  have s4 := hi_lo_sum t11
  have ex : val x1 x0 * val y1 y0 = x0 * y0 + x0 * y1 * 18446744073709551616 + x1 * y0 * 18446744073709551616 + x1 * y1 * 340282366920938463463374607431768211456 := by
    unfold val
    have t1 : x1 * 18446744073709551616 * (y1 * 18446744073709551616) = x1 * y1 * 340282366920938463463374607431768211456 := by
      rw [show x1 * 18446744073709551616 * (y1 * 18446744073709551616) = x1 * y1 * (18446744073709551616 * 18446744073709551616) by ac_rfl]; rfl
    have t2 : x1 * 18446744073709551616 * y0 = x1 * y0 * 18446744073709551616 := by ac_rfl
    have t3 : x0 * (y1 * 18446744073709551616) = x0 * y1 * 18446744073709551616 := by ac_rfl
    rw [Int.add_mul, Int.mul_add, Int.mul_add, t1, t2, t3]; omega
  rw [ex]
  generalize x0 * y0 = a at *
  generalize x0 * y1 = b at *
  generalize x1 * y0 = c at *
  generalize x1 * y1 = d at *
  unfold W4
  generalize loZ t00 = l0 at *
  generalize loZ t10 = l1 at *
  generalize loZ t11 = l2 at *
  generalize loZ t01 = l3 at *
  generalize hiZ t00 = h0 at *
  generalize hiZ t10 = h1 at *
  generalize hiZ t11 = h2 at *
  generalize hiZ t01 = h3 at *
  omega
/-- The order of numbers of four words. -/
theorem W4_le {a0 a1 a2 a3 b0 b1 b2 b3 : Int} (p0 : Word a0) (p1 : Word a1) (p2 : Word a2) (_ : Word a3) (q0 : Word b0) (q1 : Word b1) (q2 : Word b2) (_ : Word b3) :
    (a3 ≠ b3 → decide (W4 a0 a1 a2 a3 ≤ W4 b0 b1 b2 b3) = decide (a3 < b3)) ∧ (a3 = b3 → a2 ≠ b2 → decide (W4 a0 a1 a2 a3 ≤ W4 b0 b1 b2 b3) = decide (a2 < b2)) ∧
    (a3 = b3 → a2 = b2 → a1 ≠ b1 → decide (W4 a0 a1 a2 a3 ≤ W4 b0 b1 b2 b3) = decide (a1 < b1)) ∧ (a3 = b3 → a2 = b2 → a1 = b1 → a0 ≠ b0 → decide (W4 a0 a1 a2 a3 ≤ W4 b0 b1 b2 b3) = decide (a0 < b0)) := by
  unfold Word at *
  refine ⟨fun h => ?_, fun h h' => ?_, fun h h' h'' => ?_, fun h h' h'' h''' => ?_⟩ <;> rw [decide_eq_decide] <;> unfold W4 <;> omega
theorem W4_eq {a0 a1 a2 a3 : Int} : decide (W4 a0 a1 a2 a3 ≤ W4 a0 a1 a2 a3) = true := decide_eq_true (Int.le_refl _)
end Go.Proofs.Ytfdjhahnggdklaa
