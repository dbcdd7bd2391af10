/- Texts of these claims, one after the other. -/
import Derived.Test.YtegaeaonoggmkaaRows
import Derived.Test.YtegaeaonoggmkaaZWFormatq9
namespace Go.Proofs.Ytegaeaonoggmkaa
open Go.RowKit

/-- The words of a number that is shifted to the left. -/
theorem shl_words (h l s : Int) (hh : Word h) (hl : Word l) (s0 : 0 ≤ s) (s1 : s ≤ 63) (hk : h * 2 ^ s.toNat < 18446744073709551616) :
    bits BinOp.or IntKind.u64 (IntKind.u64.wrap (h * 2 ^ s.toNat)) (l / 2 ^ (64 - s).toNat) = hiZ (val h l * 2 ^ s.toNat) ∧ IntKind.u64.wrap (l * 2 ^ s.toNat) = loZ (val h l * 2 ^ s.toNat) ∧ In2 (val h l * 2 ^ s.toNat) := by
  obtain ⟨a1, a2⟩ := hh; obtain ⟨b1, b2⟩ := hl
  have en : (64 - s).toNat = 64 - s.toNat := by omega
  have hn : s.toNat ≤ 63 := by omega
  rw [en]
  generalize s.toNat = n at *
  have kp : (0 : Int) < 2 ^ n := by rw [← pow_cast]; have : 0 < 2 ^ n := Nat.pow_pos (by decide); omega
  have Kp : (0 : Int) < 2 ^ (64 - n) := by rw [← pow_cast]; have : 0 < 2 ^ (64 - n) := Nat.pow_pos (by decide); omega
  have kK : (2 : Int) ^ n * 2 ^ (64 - n) = 18446744073709551616 := by
    rw [← pow_cast, ← pow_cast, ← Int.natCast_mul, ← Nat.pow_add, show n + (64 - n) = 64 by omega]; rfl
  have hh1 : h < 2 ^ (64 - n) := by
    apply Int.lt_of_mul_lt_mul_right (a := (2 : Int) ^ n) _ (by omega)
    rw [Int.mul_comm (2 ^ (64 - n))]; rw [kK]; exact hk
  have hh2 : h * (2 : Int) ^ n + 2 ^ n ≤ 18446744073709551616 := by
    have : (h + 1) * (2 : Int) ^ n ≤ 2 ^ (64 - n) * 2 ^ n := Int.mul_le_mul_of_nonneg_right (by omega) (by omega)
    rw [Int.add_mul, Int.one_mul, Int.mul_comm (2 ^ (64 - n)), kK] at this; exact this
  have mh : h * (2 : Int) ^ n % 2 ^ n = 0 := Int.mul_emod_left _ _
  have hik : 0 ≤ h * (2 : Int) ^ n := Int.mul_nonneg a1 (by omega)
  have lq0 : 0 ≤ l / (2 : Int) ^ (64 - n) := Int.ediv_nonneg b1 (by omega)
  have lq1 : l / (2 : Int) ^ (64 - n) < 2 ^ n := Int.ediv_lt_of_lt_mul Kp (by rw [kK]; exact b2)
  have ediv : l * (2 : Int) ^ n / 18446744073709551616 = l / 2 ^ (64 - n) := by
    rw [← kK, Int.mul_comm l]; exact Int.mul_ediv_mul_of_pos _ _ kp
  have em := Int.mul_ediv_add_emod (l * (2 : Int) ^ n) 18446744073709551616
  have em0 := Int.emod_nonneg (l * (2 : Int) ^ n) (show (18446744073709551616 : Int) ≠ 0 by decide)
  have em1 := Int.emod_lt_of_pos (l * (2 : Int) ^ n) (show (0 : Int) < 18446744073709551616 by decide)
  rw [ediv] at em
  have ev : val h l * 2 ^ n = (h * 2 ^ n + l / 2 ^ (64 - n)) * 18446744073709551616 + l * 2 ^ n % 18446744073709551616 := by
    unfold val
    rw [Int.add_mul, Int.mul_right_comm]
    generalize h * (2 : Int) ^ n = A at *
    generalize l * (2 : Int) ^ n = L at *
    generalize l / (2 : Int) ^ (64 - n) = Q at *
    omega
  rw [keep64z _ hik hk, or_join n _ _ hik mh hk lq0 lq1 (by omega), IntKind.wrap_u64]
  unfold hiZ loZ In2
  rw [ev]
  generalize h * (2 : Int) ^ n = A at *
  generalize l * (2 : Int) ^ n % 18446744073709551616 = L at *
  generalize l / (2 : Int) ^ (64 - n) = Q at *
  exact ⟨by omega, by omega, by omega, by omega⟩
theorem bits_hi (h l : Int) (hh : Word h) (h0 : h ≠ 0) (w : World) :
    Calls Try.prog 50 #[.agg #[.int .u64 h, .int .u64 l]] w fun e w' => e = .returned (.int .i64 (128 - lz h)) ∧ Up w w' := by
  have t : (h != 0) = true := bne_iff_ne.2 h0
  have hb := lz_bound hh
  have HE := Lib.hid (show 64 + (Lib.bitLen h.toNat : Int) = 128 - lz h by unfold lz; omega)
  have k0 : 0 ≤ (Lib.bitLen h.toNat : Int) := by omega
  have k1 : (Lib.bitLen h.toNat : Int) ≤ 64 := by unfold lz at hb; omega
  clear h0 hb
  generalize hg : (Lib.bitLen h.toNat : Int) = g at k0 k1
  have HG := Lib.hid hg
  clear hg
  go_enter Try.func50, Try.ntmps50
  go_wp2_with fail
  refine (len64_any h hh _).mono ?_
  rintro e w' ⟨rfl, rfl⟩
  rw [HG.out]
  go_wp2
  go_ret
  refine ⟨by rw [← HE.out, HG.out]; rfl, ?_⟩
  repeat (first | exact Up.refl _ | refine Up.alloc ?_ _ _ | refine Up.setCell ?_ (by first | (simp; done) | (simp; omega) | omega) _ | refine Up.drewN ?_ _ | refine Up.drew ?_)

end Go.Proofs.Ytegaeaonoggmkaa

namespace Go.Proofs.Ytegaeaonoggmkaa
open Go.RowKit

theorem blZ_bitLen {x : Int} (hx : Word x) : blZ x = (Lib.bitLen x.toNat : Int) := by
  obtain ⟨a1, a2⟩ := hx
  by_cases h0 : x = 0
  · rw [h0]; rfl
  · obtain ⟨s1, s2⟩ := bitLen_spec 64 x.toNat (by rw [p64]; omega)
    have s3 := s2 (by omega)
    unfold Lib.bitLen
    generalize Lib.bitLenAux 64 x.toNat = b at *
    cases b with
    | zero => simp at s1; omega
    | succ k =>
      rw [blZ_uniq (k := k) (by rw [Nat.pow_succ] at s3; omega) s1]
      omega
theorem bits_up (h l : Int) (hh : Word h) (hl : Word l) (w : World) :
    Calls Try.prog 50 #[.agg #[.int .u64 h, .int .u64 l]] w fun e w' => e = .returned (.int .i64 (blZ (val h l))) ∧ Up w w' := by
  by_cases h0 : h = 0
  · have t : (h != 0) = false := bne_eq_false_iff_eq.2 h0
    have HZ := Lib.hid (show blZ (val h l) = (Lib.bitLen l.toNat : Int) by rw [← blZ_bitLen hl, h0]; congr 1; unfold val; omega)
    clear h0
    go_enter Try.func50, Try.ntmps50
    go_wp2_with fail
    refine (len64_any l hl _).mono ?_
    rintro e w' ⟨rfl, rfl⟩
    go_wp2
    go_ret
    refine ⟨by rw [HZ.out]; rfl, ?_⟩
    repeat (first | exact Up.refl _ | refine Up.alloc ?_ _ _ | refine Up.setCell ?_ (by first | (simp; done) | (simp; omega) | omega) _ | refine Up.drewN ?_ _ | refine Up.drew ?_)
  · have hb := bits_hi h l hh h0 w
    rw [show blZ (val h l) = 128 - lz h by rw [blZ_hi hh hl h0, blZ_bitLen hh]; unfold lz; omega]
    exact hb

end Go.Proofs.Ytegaeaonoggmkaa
