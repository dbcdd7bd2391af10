/- Texts of these claims, one after the other. -/
import Derived.Test.YtafkoddgefcpnaaRows
import Derived.Test.YtafkoddgefcpnaaZWMathq1
namespace Go.Proofs.Ytafkoddgefcpnaa
open Go.RowKit

theorem add_up (ah al bh bl : Int) (h1 : Word ah) (h2 : Word al) (h3 : Word bh) (h4 : Word bl) (w : World) :
    Calls Try.prog 123 #[.agg #[.int .u64 ah, .int .u64 al], .agg #[.int .u64 bh, .int .u64 bl]] w fun e w' =>
      e = got2 (fit2 (val ah al + val bh bl)) (fits2 (val ah al + val bh bl)) ∧ Up w w' := by
  obtain ⟨a1, a2⟩ := h1; obtain ⟨b1, b2⟩ := h2; obtain ⟨c1, c2⟩ := h3; obtain ⟨d1, d2⟩ := h4
  have k0 : 0 ≤ (al + bl) / 18446744073709551616 := by omega
  have k1 : (al + bl) / 18446744073709551616 ≤ 1 := by omega
  by_cases hf : (ah + bh + (al + bl) / 18446744073709551616) / 18446744073709551616 = 0
  · have t : ((ah + bh + (al + bl) / 18446744073709551616) / 18446744073709551616 != 0) = false := by rw [hf]; rfl
    have hi : In2 (val ah al + val bh bl) := by unfold val; exact ⟨by omega, by omega⟩
    have H1 := Lib.hid (fit2_yes hi)
    have H2 := Lib.hid (fits2_yes hi)
    have H3 := Lib.hid (show hiZ (val ah al + val bh bl) = (ah + bh + (al + bl) / 18446744073709551616) % 18446744073709551616 by unfold hiZ val; omega)
    have H4 := Lib.hid (show loZ (val ah al + val bh bl) = (al + bl) % 18446744073709551616 by unfold loZ val; omega)
    clear hi hf
    go_enter Try.func123, Try.ntmps123
    go_wp2_with (first | simp only [add64_0 al bl b1 d1] | simp only [add64 ah bh _ a1 c1 k0 k1])
    refine bodyPost_ret (v := .tuple #[.agg #[.int .u64 ((ah + bh + (al + bl) / 18446744073709551616) % 18446744073709551616), .int .u64 ((al + bl) % 18446744073709551616)], .bool true]) (by simp [results, Try.results123, go_sem]) rfl ⟨?_, ?_⟩
    · rw [H1.out, H2.out]; unfold got2; rw [H3.out, H4.out]
    · repeat (first | exact Up.refl _ | refine Up.alloc ?_ _ _ | refine Up.setCell ?_ (by first | (simp; done) | (simp; omega) | omega) _ | refine Up.drewN ?_ _ | refine Up.drew ?_)
  · have t : ((ah + bh + (al + bl) / 18446744073709551616) / 18446744073709551616 != 0) = true := bne_iff_ne.2 hf
    have hi : ¬ In2 (val ah al + val bh bl) := by unfold In2 val; omega
    have H1 := Lib.hid (fit2_no hi)
    have H2 := Lib.hid (fits2_no hi)
    clear hi hf
    go_enter Try.func123, Try.ntmps123
    go_wp2_with (first | simp only [add64_0 al bl b1 d1] | simp only [add64 ah bh _ a1 c1 k0 k1])
    refine bodyPost_ret (v := .tuple #[.agg #[.int .u64 0, .int .u64 0], .bool false]) (by simp [results, Try.results123, go_sem]) rfl ⟨?_, ?_⟩
    · rw [H1.out, H2.out]; rfl
    · repeat (first | exact Up.refl _ | refine Up.alloc ?_ _ _ | refine Up.setCell ?_ (by first | (simp; done) | (simp; omega) | omega) _ | refine Up.drewN ?_ _ | refine Up.drew ?_)

theorem sub_up (ah al bh bl : Int) (h1 : Word ah) (h2 : Word al) (h3 : Word bh) (h4 : Word bl) (w : World) :
    Calls Try.prog 125 #[.agg #[.int .u64 ah, .int .u64 al], .agg #[.int .u64 bh, .int .u64 bl]] w fun e w' =>
      e = got2 (fit2 (val ah al - val bh bl)) (fits2 (val ah al - val bh bl)) ∧ Up w w' := by
  obtain ⟨a1, a2⟩ := h1; obtain ⟨b1, b2⟩ := h2; obtain ⟨c1, c2⟩ := h3; obtain ⟨d1, d2⟩ := h4
  obtain ⟨k0, k1⟩ := bor_01 al bl
  by_cases hf : ah < bh + bor al bl
  · have t : (bor ah (bh + bor al bl) != 0) = true := by unfold bor; rw [if_pos (by unfold bor at hf; exact hf)]; rfl
    have hi : ¬ In2 (val ah al - val bh bl) := by
      unfold In2 val; unfold bor at hf; split at hf <;> omega
    have H1 := Lib.hid (fit2_no hi)
    have H2 := Lib.hid (fits2_no hi)
    clear hi hf
    go_enter Try.func125, Try.ntmps125
    go_wp2_with (first | simp only [sub64_0 al bl b1 d1 d2] | simp only [sub64 ah bh _ a1 c1 c2 k0 k1])
    refine bodyPost_ret (v := .tuple #[.agg #[.int .u64 0, .int .u64 0], .bool false]) (by simp [results, Try.results125, go_sem]) rfl ⟨?_, ?_⟩
    · rw [H1.out, H2.out]; rfl
    · repeat (first | exact Up.refl _ | refine Up.alloc ?_ _ _ | refine Up.setCell ?_ (by first | (simp; done) | (simp; omega) | omega) _ | refine Up.drewN ?_ _ | refine Up.drew ?_)
  · have t : (bor ah (bh + bor al bl) != 0) = false := by unfold bor; rw [if_neg (by unfold bor at hf; exact hf)]; rfl
    have hi : In2 (val ah al - val bh bl) := by
      unfold In2 val; unfold bor at hf; split at hf <;> omega
    have H1 := Lib.hid (fit2_yes hi)
    have H2 := Lib.hid (fits2_yes hi)
    have H3 := Lib.hid (show hiZ (val ah al - val bh bl) = (ah - bh - bor al bl) % 18446744073709551616 by
      have hh : (al < bl ∧ bor al bl = 1) ∨ (¬ al < bl ∧ bor al bl = 0) := by
        unfold bor; by_cases h : al < bl
        · exact Or.inl ⟨h, if_pos h⟩
        · exact Or.inr ⟨h, if_neg h⟩
      unfold hiZ val; omega)
    have H4 := Lib.hid (show loZ (val ah al - val bh bl) = (al - bl) % 18446744073709551616 by unfold loZ val; omega)
    clear hi hf
    go_enter Try.func125, Try.ntmps125
    go_wp2_with (first | simp only [sub64_0 al bl b1 d1 d2] | simp only [sub64 ah bh _ a1 c1 c2 k0 k1])
    refine bodyPost_ret (v := .tuple #[.agg #[.int .u64 ((ah - bh - bor al bl) % 18446744073709551616), .int .u64 ((al - bl) % 18446744073709551616)], .bool true]) (by simp [results, Try.results125, go_sem]) rfl ⟨?_, ?_⟩
    · rw [H1.out, H2.out]; unfold got2; rw [H3.out, H4.out]
    · repeat (first | exact Up.refl _ | refine Up.alloc ?_ _ _ | refine Up.setCell ?_ (by first | (simp; done) | (simp; omega) | omega) _ | refine Up.drewN ?_ _ | refine Up.drew ?_)

/-! ### Comparisons -/
end Go.Proofs.Ytafkoddgefcpnaa

namespace Go.Proofs.Ytafkoddgefcpnaa
open Go.RowKit

theorem of_up (n : Int) (w : World) : Calls Try.prog 89 #[.int .u64 n] w fun e w' => e = .returned (.agg #[.int .u64 0, .int .u64 n]) ∧ Up w w' := by
  go_enter Try.func89, Try.ntmps89
  go_wp2
  refine bodyPost_ret (v := .agg #[.int .u64 0, .int .u64 n]) (by simp [results, Try.results89, go_sem]) rfl ⟨?_, ?_⟩
  · rfl
  · repeat (first | exact Up.refl _ | refine Up.alloc ?_ _ _ | refine Up.setCell ?_ (by first | (simp; done) | (simp; omega) | omega) _ | refine Up.drewN ?_ _ | refine Up.drew ?_)

end Go.Proofs.Ytafkoddgefcpnaa

namespace Go.Proofs.Ytafkoddgefcpnaa
open Go.RowKit

theorem low32n (a : Nat) (ha : a < 18446744073709551616) : bits .and .u64 (a : Int) 4294967295 = ((a % 4294967296 : Nat) : Int) := by
  have h := bits_and_u64_nat a 4294967295 ha (by omega)
  rw [show a &&& 4294967295 = a % 4294967296 from Nat.and_two_pow_sub_one_eq_mod a 32] at h
  exact h
theorem high32 (a : Nat) : (a : Int) / 4294967296 = ((a / 4294967296 : Nat) : Int) := by omega
theorem upMul (a b : Nat) : (a : Int) * (b : Int) = ((a * b : Nat) : Int) := (Int.natCast_mul a b).symm
theorem upAdd (a b : Nat) : (a : Int) + (b : Int) = ((a + b : Nat) : Int) := (Int.natCast_add a b).symm
theorem keep64 (a : Nat) (ha : a < 18446744073709551616) : IntKind.u64.wrap (a : Int) = (a : Int) := by rw [IntKind.wrap_u64]; omega
theorem cut64 (a : Nat) : IntKind.u64.wrap (a : Int) = ((a % 18446744073709551616 : Nat) : Int) := by rw [IntKind.wrap_u64]; omega

set_option maxHeartbeats 1000000 in
theorem mul64_any (x y : Nat) (hx : x < 18446744073709551616) (hy : y < 18446744073709551616) (w : World) :
    Calls Try.prog 122 #[.int .u64 (x : Int), .int .u64 (y : Int)] w fun e w' =>
      e = .returned (.tuple #[.int .u64 ((x * y / 18446744073709551616 : Nat) : Int), .int .u64 ((x * y % 18446744073709551616 : Nat) : Int)]) ∧ w = w' := by
  obtain ⟨bd, bt, bw, hhi⟩ := Go.Lib.mul64_hi x y hx hy
  have ba := Go.Lib.half_mul_le (a := x / 4294967296) (b := y / 4294967296) (by omega) (by omega)
  have bb := Go.Lib.half_mul_le (a := x / 4294967296) (b := y % 4294967296) (by omega) (by omega)
  have bc := Go.Lib.half_mul_le (a := x % 4294967296) (b := y / 4294967296) (by omega) (by omega)
  have ba' : x / 4294967296 * (y / 4294967296) < 18446744073709551616 := by omega
  have bb' : x / 4294967296 * (y % 4294967296) < 18446744073709551616 := by omega
  have bc' : x % 4294967296 * (y / 4294967296) < 18446744073709551616 := by omega
  have bh1 : x / 4294967296 * (y / 4294967296) + (x / 4294967296 * (y % 4294967296) + x % 4294967296 * (y % 4294967296) / 4294967296) / 4294967296 < 18446744073709551616 := by omega
  have bh : x / 4294967296 * (y / 4294967296) + (x / 4294967296 * (y % 4294967296) + x % 4294967296 * (y % 4294967296) / 4294967296) / 4294967296 + ((x / 4294967296 * (y % 4294967296) + x % 4294967296 * (y % 4294967296) / 4294967296) % 4294967296 + x % 4294967296 * (y / 4294967296)) / 4294967296 < 18446744073709551616 := by omega
  have HH := Lib.hid hhi
  clear hhi
  go_enter Try.func122, Try.ntmps122
  go_wp2
  simp only [low32n x hx, low32n y hy, high32, upMul, upAdd, keep64 _ bd, keep64 _ bb', keep64 _ bt, low32n _ bt, keep64 _ bc', keep64 _ bw, keep64 _ ba', keep64 _ bh1, keep64 _ bh, cut64 (x * y)]
  rw [HH.out]
  go_ret2
  exact ⟨rfl, rfl⟩

theorem mul64z (x y : Int) (hx : Word x) (hy : Word y) (w : World) :
    Calls Try.prog 122 #[.int .u64 x, .int .u64 y] w fun e w' => e = .returned (.tuple #[.int .u64 (hiZ (x * y)), .int .u64 (loZ (x * y))]) ∧ w = w' := by
  obtain ⟨a1, a2⟩ := hx; obtain ⟨b1, b2⟩ := hy
  obtain ⟨n, rfl⟩ := Int.eq_ofNat_of_zero_le a1
  obtain ⟨m, rfl⟩ := Int.eq_ofNat_of_zero_le b1
  refine (mul64_any n m (by omega) (by omega) w).mono ?_
  rintro e w' ⟨rfl, rfl⟩
  refine ⟨?_, rfl⟩
  unfold hiZ loZ
  rw [← Int.natCast_mul]
  generalize n * m = p
  congr 5 <;> omega
theorem mul_word {x y : Int} (hx : Word x) (hy : Word y) : In2 (x * y) := by
  obtain ⟨a1, a2⟩ := hx; obtain ⟨b1, b2⟩ := hy
  have h1 := Int.mul_nonneg a1 b1
  have h2 : x * y ≤ 18446744073709551615 * 18446744073709551615 := Int.mul_le_mul (by omega) (by omega) b1 (by omega)
  exact ⟨h1, by omega⟩

theorem product_up (x y : Int) (hx : Word x) (hy : Word y) (w : World) :
    Calls Try.prog 85 #[.int .u64 x, .int .u64 y] w fun e w' => e = .returned (.agg #[.int .u64 (hiZ (x * y)), .int .u64 (loZ (x * y))]) ∧ Up w w' := by
  go_enter Try.func85, Try.ntmps85
  go_wp2_with fail
  refine (mul64z x y hx hy _).mono ?_
  rintro e w' ⟨rfl, rfl⟩
  go_wp2
  refine bodyPost_ret (v := .agg #[.int .u64 (hiZ (x * y)), .int .u64 (loZ (x * y))]) (by simp [results, Try.results85, go_sem]) rfl ⟨?_, ?_⟩
  · rfl
  · repeat (first | exact Up.refl _ | refine Up.alloc ?_ _ _ | refine Up.setCell ?_ (by first | (simp; done) | (simp; omega) | omega) _ | refine Up.drewN ?_ _ | refine Up.drew ?_)

/-! ### The comparison of two products -/
end Go.Proofs.Ytafkoddgefcpnaa
