/- What math/bits.Len64 and LeadingZeros64 return. -/
import Derived.Test.YtafkoddgefcpnabRows
import Derived.Test.YtafkoddgefcpnabZWideq1
namespace Go.Proofs.Ytafkoddgefcpnab
open Go.RowKit

theorem len8_at (x y : Int) (k : Nat) (h0 : 0 ≤ x) (h1 : x < 18446744073709551616) (hy : y = x / ((2 ^ k : Nat) : Int)) (hy1 : y < 256) (hk : k = 0 ∨ 2 ^ k ≤ x.toNat) :
    Lib.len8 y + (k : Int) = (Lib.bitLen x.toNat : Int) ∧ 0 ≤ Lib.len8 y ∧ Lib.len8 y ≤ 8 ∧ 0 ≤ y ∧ y ≤ 255 := by
  have hp : 0 < 2 ^ k := Nat.pow_pos (by decide)
  have hy0 : 0 ≤ y := by rw [hy]; exact Int.ediv_nonneg h0 (by omega)
  have l := Lib.bitLen_le8' y hy0 (by omega)
  rw [Lib.len8_of y hy0 (by omega)]
  have ey : y.toNat = x.toNat / 2 ^ k := by
    obtain ⟨n, rfl⟩ := Int.eq_ofNat_of_zero_le h0
    rw [hy, show ((n : Int) / ((2 ^ k : Nat) : Int)) = ((n / 2 ^ k : Nat) : Int) from rfl, Int.toNat_natCast, Int.toNat_natCast]
  rw [ey] at l ⊢
  rcases hk with rfl | hk
  · simp at l ⊢; omega
  · have s := Lib.bitLen_shift k x.toNat hk (by omega)
    omega

set_option maxHeartbeats 4000000 in
set_option maxRecDepth 100000 in
theorem len64_any (x : Int) (hx : Word x) (w : World) :
    Calls Try.prog 76 #[.int .u64 x] w fun e w' => e = .returned (.int .i64 (Lib.bitLen x.toNat : Int)) ∧ w = w' := by
  obtain ⟨h0, h1⟩ := hx
  by_cases c1 : 4294967296 ≤ x
  · by_cases c2 : 65536 ≤ x / 4294967296
    · by_cases c3 : 256 ≤ x / 4294967296 / 65536
      · obtain ⟨e, l0, l1, y0, y1⟩ := len8_at x (x / 4294967296 / 65536 / 256) 56 h0 h1 (by omega) (by omega) (Or.inr (by omega))
        replace e := Lib.hid e
        go_enter Try.func76, Try.ntmps76
        go_wp2
        go_ret
        exact ⟨congrArg Ending.returned (congrArg (Value.int IntKind.i64) (by have := e.out; omega)), rfl⟩
      · obtain ⟨e, l0, l1, y0, y1⟩ := len8_at x (x / 4294967296 / 65536) 48 h0 h1 (by omega) (by omega) (Or.inr (by omega))
        replace e := Lib.hid e
        go_enter Try.func76, Try.ntmps76
        go_wp2
        go_ret
        exact ⟨congrArg Ending.returned (congrArg (Value.int IntKind.i64) (by have := e.out; omega)), rfl⟩
    · by_cases c3 : 256 ≤ x / 4294967296
      · obtain ⟨e, l0, l1, y0, y1⟩ := len8_at x (x / 4294967296 / 256) 40 h0 h1 (by omega) (by omega) (Or.inr (by omega))
        replace e := Lib.hid e
        go_enter Try.func76, Try.ntmps76
        go_wp2
        go_ret
        exact ⟨congrArg Ending.returned (congrArg (Value.int IntKind.i64) (by have := e.out; omega)), rfl⟩
      · obtain ⟨e, l0, l1, y0, y1⟩ := len8_at x (x / 4294967296) 32 h0 h1 (by omega) (by omega) (Or.inr (by omega))
        replace e := Lib.hid e
        go_enter Try.func76, Try.ntmps76
        go_wp2
        go_ret
        exact ⟨congrArg Ending.returned (congrArg (Value.int IntKind.i64) (by have := e.out; omega)), rfl⟩
  · by_cases c2 : 65536 ≤ x
    · by_cases c3 : 256 ≤ x / 65536
      · obtain ⟨e, l0, l1, y0, y1⟩ := len8_at x (x / 65536 / 256) 24 h0 h1 (by omega) (by omega) (Or.inr (by omega))
        replace e := Lib.hid e
        go_enter Try.func76, Try.ntmps76
        go_wp2
        go_ret
        exact ⟨congrArg Ending.returned (congrArg (Value.int IntKind.i64) (by have := e.out; omega)), rfl⟩
      · obtain ⟨e, l0, l1, y0, y1⟩ := len8_at x (x / 65536) 16 h0 h1 (by omega) (by omega) (Or.inr (by omega))
        replace e := Lib.hid e
        go_enter Try.func76, Try.ntmps76
        go_wp2
        go_ret
        exact ⟨congrArg Ending.returned (congrArg (Value.int IntKind.i64) (by have := e.out; omega)), rfl⟩
    · by_cases c3 : 256 ≤ x
      · obtain ⟨e, l0, l1, y0, y1⟩ := len8_at x (x / 256) 8 h0 h1 (by omega) (by omega) (Or.inr (by omega))
        replace e := Lib.hid e
        go_enter Try.func76, Try.ntmps76
        go_wp2
        go_ret
        exact ⟨congrArg Ending.returned (congrArg (Value.int IntKind.i64) (by have := e.out; omega)), rfl⟩
      · obtain ⟨e, l0, l1, y0, y1⟩ := len8_at x x 0 h0 h1 (by omega) (by omega) (Or.inl rfl)
        replace e := Lib.hid e
        go_enter Try.func76, Try.ntmps76
        go_wp2
        go_ret
        exact ⟨congrArg Ending.returned (congrArg (Value.int IntKind.i64) (by have := e.out; omega)), rfl⟩

/-- The zeros at the front of a word. -/
def lz (x : Int) : Int := 64 - (Lib.bitLen x.toNat : Int)
theorem bitLen_spec : ∀ (f x : Nat), x < 2 ^ f → x < 2 ^ Lib.bitLenAux f x ∧ (x ≠ 0 → 2 ^ Lib.bitLenAux f x ≤ 2 * x)
  | 0, x, h => by
    have : x = 0 := by simpa using h
    subst this; simp [Lib.bitLenAux]
  | f + 1, x, h => by
    rw [Lib.bitLenAux]
    by_cases hx : x = 0
    · rw [if_pos hx]; subst hx; simp
    · rw [if_neg hx]
      have i := bitLen_spec f (x / 2) (by rw [Nat.pow_succ] at h; omega)
      rw [Nat.add_comm, Nat.pow_succ]
      refine ⟨by omega, fun _ => ?_⟩
      by_cases h2 : x / 2 = 0
      · have : x = 1 := by omega
        subst this
        have : Lib.bitLenAux f (1 / 2) = 0 := by cases f <;> simp [Lib.bitLenAux]
        rw [this]; decide
      · have := i.2 h2; omega
theorem lz_bound {x : Int} (hx : Word x) : 0 ≤ lz x ∧ lz x ≤ 64 := by
  obtain ⟨h0, h1⟩ := hx
  have := Lib.bitLen_le x.toNat 64 (by decide) (by omega)
  unfold lz; omega
theorem lz_pos {x : Int} (hx : Word x) (h : x ≠ 0) : lz x ≤ 63 := by
  obtain ⟨h0, h1⟩ := hx
  have hs := (bitLen_spec 64 x.toNat (by omega)).1
  have : Lib.bitLen x.toNat ≠ 0 := fun e => by
    unfold Lib.bitLen at e; rw [e] at hs; simp at hs; omega
  unfold lz; omega
/-- Shifted by its zeros a word has its first bit set. -/
theorem lz_spec {x : Int} (hx : Word x) (h : x ≠ 0) : 9223372036854775808 ≤ x * ((2 ^ (lz x).toNat : Nat) : Int) ∧ x * ((2 ^ (lz x).toNat : Nat) : Int) < 18446744073709551616 := by
  have hl := lz_bound hx
  have hp := lz_pos hx h
  obtain ⟨h0, h1⟩ := hx
  obtain ⟨s1, s2⟩ := bitLen_spec 64 x.toNat (by omega)
  have s3 := s2 (by omega)
  have e : (lz x).toNat = 64 - Lib.bitLen x.toNat := by unfold lz; omega
  have hb : Lib.bitLen x.toNat ≤ 64 := by unfold lz at hl; omega
  have eb : Lib.bitLenAux 64 x.toNat = Lib.bitLen x.toNat := rfl
  rw [eb] at s1 s3
  rw [e]
  generalize Lib.bitLen x.toNat = b at *
  have ep : 2 ^ b * 2 ^ (64 - b) = 18446744073709551616 := by rw [← Nat.pow_add, show b + (64 - b) = 64 by omega]
  obtain ⟨n, rfl⟩ := Int.eq_ofNat_of_zero_le h0
  rw [Int.toNat_natCast] at s1 s3
  have p : 0 < 2 ^ (64 - b) := Nat.pow_pos (by decide)
  have m1 : n * 2 ^ (64 - b) < 2 ^ b * 2 ^ (64 - b) := Nat.mul_lt_mul_of_pos_right s1 p
  have m2 : 2 ^ b * 2 ^ (64 - b) ≤ 2 * n * 2 ^ (64 - b) := Nat.mul_le_mul_right _ s3
  rw [Nat.mul_assoc] at m2
  rw [ep] at m1 m2
  rw [← Int.natCast_mul]
  omega

theorem lead_any (x : Int) (hx : Word x) (w : World) :
    Calls Try.prog 72 #[.int .u64 x] w fun e w' => e = .returned (.int .i64 (lz x)) ∧ w = w' := by
  obtain ⟨l0, l1⟩ := lz_bound hx
  have H := Lib.hid (show lz x = 64 - (Lib.bitLen x.toNat : Int) from rfl)
  have k0 : 0 ≤ (Lib.bitLen x.toNat : Int) := by omega
  have k1 : (Lib.bitLen x.toNat : Int) ≤ 64 := by have := H.out; omega
  clear l0 l1
  generalize hb : (Lib.bitLen x.toNat : Int) = b at k0 k1
  have HB := Lib.hid hb
  clear hb
  go_enter Try.func72, Try.ntmps72
  go_wp2_with fail
  refine (len64_any x hx _).mono ?_
  rintro e w' ⟨rfl, rfl⟩
  rw [HB.out]
  go_wp2
  go_ret
  exact ⟨by rw [H.out, HB.out]; rfl, rfl⟩

end Go.Proofs.Ytafkoddgefcpnab
