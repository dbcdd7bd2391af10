/- Texts of these claims, one after the other. -/
import Derived.Test.YtegaeaonoggmkaaRows
import Derived.Test.YtegaeaonoggmkaaZWMathq0
namespace Go.Proofs.Ytegaeaonoggmkaa
open Go.RowKit

theorem len8_at (x y : Int) (k : Nat) (h0 : 0 ≤ x) (h1 : x < 18446744073709551616) (hy : y = x / ((2 ^ k : Nat) : Int)) (hy1 : y < 256) (hk : k = 0 ∨ 2 ^ k ≤ x.toNat) :
    Lib.len8 y + (k : Int) = (Lib.bitLen x.toNat : Int) ∧ 0 ≤ Lib.len8 y ∧ Lib.len8 y ≤ 8 ∧ 0 ≤ y ∧ y ≤ 255 := by
  have hp : 0 < 2 ^ k := Nat.pow_pos (by decide)
  have hy0 : 0 ≤ y := by rw [hy]; exact Int.ediv_nonneg h0 (by omega)
  have l := Lib.bitLen_le8' y hy0 (by omega)
  rw [Lib.len8_of y hy0 (by omega)]
  have ey : y.toNat = x.toNat / 2 ^ k := by
    obtain ⟨n, rfl⟩ := Int.eq_ofNat_of_zero_le h0
    rw [hy, show ((n : Int) / ((2 ^ k : Nat) : Int)) = ((n / 2 ^ k : Nat) : Int) from rfl, Int.toNat_natCast, Int.toNat_natCast]
  rw [ey] at l ⊢
  rcases hk with rfl | hk
  · simp at l ⊢; omega
  · have s := Lib.bitLen_shift k x.toNat hk (by omega)
    omega

set_option maxHeartbeats 4000000 in
set_option maxRecDepth 100000 in
theorem len64_any (x : Int) (hx : Word x) (w : World) :
    Calls Try.prog 55 #[.int .u64 x] w fun e w' => e = .returned (.int .i64 (Lib.bitLen x.toNat : Int)) ∧ w = w' := by
  obtain ⟨h0, h1⟩ := hx
  by_cases c1 : 4294967296 ≤ x
  · by_cases c2 : 65536 ≤ x / 4294967296
    · by_cases c3 : 256 ≤ x / 4294967296 / 65536
      · obtain ⟨e, l0, l1, y0, y1⟩ := len8_at x (x / 4294967296 / 65536 / 256) 56 h0 h1 (by omega) (by omega) (Or.inr (by omega))
        replace e := Lib.hid e
        go_enter Try.func55, Try.ntmps55
        go_wp2
        go_ret
        exact ⟨congrArg Ending.returned (congrArg (Value.int IntKind.i64) (by have := e.out; omega)), rfl⟩
      · obtain ⟨e, l0, l1, y0, y1⟩ := len8_at x (x / 4294967296 / 65536) 48 h0 h1 (by omega) (by omega) (Or.inr (by omega))
        replace e := Lib.hid e
        go_enter Try.func55, Try.ntmps55
        go_wp2
        go_ret
        exact ⟨congrArg Ending.returned (congrArg (Value.int IntKind.i64) (by have := e.out; omega)), rfl⟩
    · by_cases c3 : 256 ≤ x / 4294967296
      · obtain ⟨e, l0, l1, y0, y1⟩ := len8_at x (x / 4294967296 / 256) 40 h0 h1 (by omega) (by omega) (Or.inr (by omega))
        replace e := Lib.hid e
        go_enter Try.func55, Try.ntmps55
        go_wp2
        go_ret
        exact ⟨congrArg Ending.returned (congrArg (Value.int IntKind.i64) (by have := e.out; omega)), rfl⟩
      · obtain ⟨e, l0, l1, y0, y1⟩ := len8_at x (x / 4294967296) 32 h0 h1 (by omega) (by omega) (Or.inr (by omega))
        replace e := Lib.hid e
        go_enter Try.func55, Try.ntmps55
        go_wp2
        go_ret
        exact ⟨congrArg Ending.returned (congrArg (Value.int IntKind.i64) (by have := e.out; omega)), rfl⟩
  · by_cases c2 : 65536 ≤ x
    · by_cases c3 : 256 ≤ x / 65536
      · obtain ⟨e, l0, l1, y0, y1⟩ := len8_at x (x / 65536 / 256) 24 h0 h1 (by omega) (by omega) (Or.inr (by omega))
        replace e := Lib.hid e
        go_enter Try.func55, Try.ntmps55
        go_wp2
        go_ret
        exact ⟨congrArg Ending.returned (congrArg (Value.int IntKind.i64) (by have := e.out; omega)), rfl⟩
      · obtain ⟨e, l0, l1, y0, y1⟩ := len8_at x (x / 65536) 16 h0 h1 (by omega) (by omega) (Or.inr (by omega))
        replace e := Lib.hid e
        go_enter Try.func55, Try.ntmps55
        go_wp2
        go_ret
        exact ⟨congrArg Ending.returned (congrArg (Value.int IntKind.i64) (by have := e.out; omega)), rfl⟩
    · by_cases c3 : 256 ≤ x
      · obtain ⟨e, l0, l1, y0, y1⟩ := len8_at x (x / 256) 8 h0 h1 (by omega) (by omega) (Or.inr (by omega))
        replace e := Lib.hid e
        go_enter Try.func55, Try.ntmps55
        go_wp2
        go_ret
        exact ⟨congrArg Ending.returned (congrArg (Value.int IntKind.i64) (by have := e.out; omega)), rfl⟩
      · obtain ⟨e, l0, l1, y0, y1⟩ := len8_at x x 0 h0 h1 (by omega) (by omega) (Or.inl rfl)
        replace e := Lib.hid e
        go_enter Try.func55, Try.ntmps55
        go_wp2
        go_ret
        exact ⟨congrArg Ending.returned (congrArg (Value.int IntKind.i64) (by have := e.out; omega)), rfl⟩

/-- The zeros at the front of a word. -/
def lz (x : Int) : Int := 64 - (Lib.bitLen x.toNat : Int)
theorem bitLen_spec : ∀ (f x : Nat), x < 2 ^ f → x < 2 ^ Lib.bitLenAux f x ∧ (x ≠ 0 → 2 ^ Lib.bitLenAux f x ≤ 2 * x)
  | 0, x, h => by
    have : x = 0 := by simpa using h
    subst this; simp [Lib.bitLenAux]
  | f + 1, x, h => by
    rw [Lib.bitLenAux]
    by_cases hx : x = 0
    · rw [if_pos hx]; subst hx; simp
    · rw [if_neg hx]
      have i := bitLen_spec f (x / 2) (by rw [Nat.pow_succ] at h; omega)
      rw [Nat.add_comm, Nat.pow_succ]
      refine ⟨by omega, fun _ => ?_⟩
      by_cases h2 : x / 2 = 0
      · have : x = 1 := by omega
        subst this
        have : Lib.bitLenAux f (1 / 2) = 0 := by cases f <;> simp [Lib.bitLenAux]
        rw [this]; decide
      · have := i.2 h2; omega
theorem lz_bound {x : Int} (hx : Word x) : 0 ≤ lz x ∧ lz x ≤ 64 := by
  obtain ⟨h0, h1⟩ := hx
  have := Lib.bitLen_le x.toNat 64 (by decide) (by omega)
  unfold lz; omega
end Go.Proofs.Ytegaeaonoggmkaa

namespace Go.Proofs.Ytegaeaonoggmkaa
open Go.RowKit

theorem pow_cast (n : Nat) : ((2 ^ n : Nat) : Int) = (2 : Int) ^ n := by simp
theorem keep64z (a : Int) (h0 : 0 ≤ a) (h1 : a < 18446744073709551616) : IntKind.u64.wrap a = a := by rw [IntKind.wrap_u64]; omega
theorem or_join (n : Nat) (x y : Int) (hx0 : 0 ≤ x) (hx : x % 2 ^ n = 0) (hx1 : x < 18446744073709551616) (hy0 : 0 ≤ y) (hy : y < 2 ^ n) (hy1 : y < 18446744073709551616) : bits .or .u64 x y = x + y :=
  bits_join .u64 64 (by decide) (fun m h0 h1 => keep64z m h0 (by simpa using h1)) n x y hx0 hx (by simpa using hx1) hy0 hy (by simpa using hy1)

end Go.Proofs.Ytegaeaonoggmkaa
