/- What math/bits.TrailingZeros64, wide.Zeros and wide.Bits return. -/
import Derived.Test.YtjmfliljiffekaaSMath
import Derived.Test.YtjmfliljiffekaaWShift
namespace Go.Proofs.Ytjmfliljiffekaa
open Go.RowKit

theorem and_low {x : Int} (hx : Word x) (h0 : x ≠ 0) : bits .and .u64 x (IntKind.u64.wrap (-x)) = ((2 ^ Lib.ctz 64 x.toNat : Nat) : Int) ∧ Lib.ctz 64 x.toNat < 64 := by
  obtain ⟨a1, a2⟩ := hx
  obtain ⟨n, rfl⟩ := Int.eq_ofNat_of_zero_le a1
  obtain ⟨e, hk⟩ := Lib.lowest_bit 64 n (by omega) (by rw [p64]; omega)
  refine ⟨?_, hk⟩
  have e1 : IntKind.u64.wrap (-(n : Int)) = ((18446744073709551616 - n : Nat) : Int) := by rw [IntKind.wrap_u64]; omega
  rw [e1, bits_and_u64_nat n (18446744073709551616 - n) (by omega) (by omega), Int.toNat_natCast]
  rw [p64] at e
  rw [e]

theorem blZ_bitLen {x : Int} (hx : Word x) : blZ x = (Lib.bitLen x.toNat : Int) := by
  obtain ⟨a1, a2⟩ := hx
  by_cases h0 : x = 0
  · rw [h0]; rfl
  · obtain ⟨s1, s2⟩ := bitLen_spec 64 x.toNat (by rw [p64]; omega)
    have s3 := s2 (by omega)
    unfold Lib.bitLen
    generalize Lib.bitLenAux 64 x.toNat = b at *
    cases b with
    | zero => simp at s1; omega
    | succ k =>
      rw [blZ_uniq (k := k) (by rw [Nat.pow_succ] at s3; omega) s1]
      omega
theorem bits_up (h l : Int) (hh : Word h) (hl : Word l) (w : World) :
    Calls Try.prog 98 #[.agg #[.int .u64 h, .int .u64 l]] w fun e w' => e = .returned (.int .i64 (blZ (val h l))) ∧ Up w w' := by
  by_cases h0 : h = 0
  · have t : (h != 0) = false := bne_eq_false_iff_eq.2 h0
    have HZ := Lib.hid (show blZ (val h l) = (Lib.bitLen l.toNat : Int) by rw [← blZ_bitLen hl, h0]; congr 1; unfold val; omega)
    clear h0
    go_enter Try.func98, Try.ntmps98
    go_wp2_with fail
    refine (len64_any l hl _).mono ?_
    rintro e w' ⟨rfl, rfl⟩
    go_wp2
    go_ret
    refine ⟨by rw [HZ.out]; rfl, ?_⟩
    repeat (first | exact Up.refl _ | refine Up.alloc ?_ _ _ | refine Up.setCell ?_ (by first | (simp; done) | (simp; omega) | omega) _ | refine Up.drewN ?_ _ | refine Up.drew ?_)
  · have hb := bits_hi h l hh h0 w
    rw [show blZ (val h l) = 128 - lz h by rw [blZ_hi hh hl h0, blZ_bitLen hh]; unfold lz; omega]
    exact hb

end Go.Proofs.Ytjmfliljiffekaa
