/- What the sums, differences and comparisons of package wide, and of its reference, return. -/
import Derived.Test.YtegaeaonoggmkaaRows
import Derived.Test.YtegaeaonoggmkaaZWAddq5
namespace Go.Proofs.Ytegaeaonoggmkaa
open Go.RowKit

theorem radd_up (ah al bh bl : Int) (h1 : Word ah) (h2 : Word al) (h3 : Word bh) (h4 : Word bl) (w : World) :
    Calls Try.prog 44 #[.agg #[.int .u64 ah, .int .u64 al], .agg #[.int .u64 bh, .int .u64 bl]] w fun e w' =>
      e = got2 (fit2 (val ah al + val bh bl)) (fits2 (val ah al + val bh bl)) ∧ Up w w' := by
  obtain ⟨a1, a2⟩ := h1; obtain ⟨b1, b2⟩ := h2; obtain ⟨c1, c2⟩ := h3; obtain ⟨d1, d2⟩ := h4
  have k0 : 0 ≤ (al + bl) / 18446744073709551616 := by omega
  have k1 : (al + bl) / 18446744073709551616 ≤ 1 := by omega
  by_cases hf : (ah + bh + (al + bl) / 18446744073709551616) / 18446744073709551616 = 0
  · have t : ((ah + bh + (al + bl) / 18446744073709551616) / 18446744073709551616 != 0) = false := by rw [hf]; rfl
    have hi : In2 (val ah al + val bh bl) := by unfold val; exact ⟨by omega, by omega⟩
    have H1 := Lib.hid (fit2_yes hi)
    have H2 := Lib.hid (fits2_yes hi)
    have H3 := Lib.hid (show hiZ (val ah al + val bh bl) = (ah + bh + (al + bl) / 18446744073709551616) % 18446744073709551616 by unfold hiZ val; omega)
    have H4 := Lib.hid (show loZ (val ah al + val bh bl) = (al + bl) % 18446744073709551616 by unfold loZ val; omega)
    clear hi hf
    go_enter Try.func44, Try.ntmps44
    go_wp2_with (first | simp only [add64_0 al bl b1 d1] | simp only [add64 ah bh _ a1 c1 k0 k1])
    refine bodyPost_ret (v := .tuple #[.agg #[.int .u64 ((ah + bh + (al + bl) / 18446744073709551616) % 18446744073709551616), .int .u64 ((al + bl) % 18446744073709551616)], .bool true]) (by simp [results, Try.results44, go_sem]) rfl ⟨?_, ?_⟩
    · rw [H1.out, H2.out]; unfold got2; rw [H3.out, H4.out]
    · repeat (first | exact Up.refl _ | refine Up.alloc ?_ _ _ | refine Up.setCell ?_ (by first | (simp; done) | (simp; omega) | omega) _ | refine Up.drewN ?_ _ | refine Up.drew ?_)
  · have t : ((ah + bh + (al + bl) / 18446744073709551616) / 18446744073709551616 != 0) = true := bne_iff_ne.2 hf
    have hi : ¬ In2 (val ah al + val bh bl) := by unfold In2 val; omega
    have H1 := Lib.hid (fit2_no hi)
    have H2 := Lib.hid (fits2_no hi)
    clear hi hf
    go_enter Try.func44, Try.ntmps44
    go_wp2_with (first | simp only [add64_0 al bl b1 d1] | simp only [add64 ah bh _ a1 c1 k0 k1])
    refine bodyPost_ret (v := .tuple #[.agg #[.int .u64 0, .int .u64 0], .bool false]) (by simp [results, Try.results44, go_sem]) rfl ⟨?_, ?_⟩
    · rw [H1.out, H2.out]; rfl
    · repeat (first | exact Up.refl _ | refine Up.alloc ?_ _ _ | refine Up.setCell ?_ (by first | (simp; done) | (simp; omega) | omega) _ | refine Up.drewN ?_ _ | refine Up.drew ?_)

/-! ### Comparisons -/
end Go.Proofs.Ytegaeaonoggmkaa
