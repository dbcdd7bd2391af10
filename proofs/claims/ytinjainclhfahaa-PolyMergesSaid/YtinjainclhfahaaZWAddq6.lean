/- Texts of these claims, one after the other. -/
import Derived.Test.YtinjainclhfahaaRows
import Derived.Test.YtinjainclhfahaaZWideq3
namespace Go.Proofs.Ytinjainclhfahaa
open Go.RowKit

theorem add_up (ah al bh bl : Int) (h1 : Word ah) (h2 : Word al) (h3 : Word bh) (h4 : Word bl) (w : World) :
    Calls Try.prog 55 #[.agg #[.int .u64 ah, .int .u64 al], .agg #[.int .u64 bh, .int .u64 bl]] w fun e w' =>
      e = got2 (fit2 (val ah al + val bh bl)) (fits2 (val ah al + val bh bl)) ∧ Up w w' := by
  obtain ⟨a1, a2⟩ := h1; obtain ⟨b1, b2⟩ := h2; obtain ⟨c1, c2⟩ := h3; obtain ⟨d1, d2⟩ := h4
  have k0 : 0 ≤ (al + bl) / 18446744073709551616 := by omega
  have k1 : (al + bl) / 18446744073709551616 ≤ 1 := by omega
  by_cases hf : (ah + bh + (al + bl) / 18446744073709551616) / 18446744073709551616 = 0
  · have t : ((ah + bh + (al + bl) / 18446744073709551616) / 18446744073709551616 != 0) = false := by rw [hf]; rfl
    have hi : In2 (val ah al + val bh bl) := by unfold val; exact ⟨by omega, by omega⟩
    have H1 := Lib.hid (fit2_yes hi)
    have H2 := Lib.hid (fits2_yes hi)
    have H3 := Lib.hid (show hiZ (val ah al + val bh bl) = (ah + bh + (al + bl) / 18446744073709551616) % 18446744073709551616 by unfold hiZ val; omega)
    have H4 := Lib.hid (show loZ (val ah al + val bh bl) = (al + bl) % 18446744073709551616 by unfold loZ val; omega)
    clear hi hf
    go_enter Try.func55, Try.ntmps55
    go_wp2_with (first | simp only [add64_0 al bl b1 d1] | simp only [add64 ah bh _ a1 c1 k0 k1])
    refine bodyPost_ret (v := .tuple #[.agg #[.int .u64 ((ah + bh + (al + bl) / 18446744073709551616) % 18446744073709551616), .int .u64 ((al + bl) % 18446744073709551616)], .bool true]) (by simp [results, Try.results55, go_sem]) rfl ⟨?_, ?_⟩
    · rw [H1.out, H2.out]; unfold got2; rw [H3.out, H4.out]
    · repeat (first | exact Up.refl _ | refine Up.alloc ?_ _ _ | refine Up.setCell ?_ (by first | (simp; done) | (simp; omega) | omega) _ | refine Up.drewN ?_ _ | refine Up.drew ?_)
  · have t : ((ah + bh + (al + bl) / 18446744073709551616) / 18446744073709551616 != 0) = true := bne_iff_ne.2 hf
    have hi : ¬ In2 (val ah al + val bh bl) := by unfold In2 val; omega
    have H1 := Lib.hid (fit2_no hi)
    have H2 := Lib.hid (fits2_no hi)
    clear hi hf
    go_enter Try.func55, Try.ntmps55
    go_wp2_with (first | simp only [add64_0 al bl b1 d1] | simp only [add64 ah bh _ a1 c1 k0 k1])
    refine bodyPost_ret (v := .tuple #[.agg #[.int .u64 0, .int .u64 0], .bool false]) (by simp [results, Try.results55, go_sem]) rfl ⟨?_, ?_⟩
    · rw [H1.out, H2.out]; rfl
    · repeat (first | exact Up.refl _ | refine Up.alloc ?_ _ _ | refine Up.setCell ?_ (by first | (simp; done) | (simp; omega) | omega) _ | refine Up.drewN ?_ _ | refine Up.drew ?_)

/-! ### Comparisons -/
/-- -1, 0 or 1. -/
def cmpZ (x y : Int) : Int := if x < y then -1 else if x = y then 0 else 1
theorem cmpZ_lt {x y : Int} (h : x < y) : cmpZ x y = -1 := by unfold cmpZ; rw [if_pos h]
theorem cmpZ_eq {x y : Int} (h : x = y) : cmpZ x y = 0 := by unfold cmpZ; rw [if_neg (by omega), if_pos h]
theorem cmpZ_gt {x y : Int} (h : y < x) : cmpZ x y = 1 := by unfold cmpZ; rw [if_neg (by omega), if_neg (by omega)]
theorem nan_u64 (x : Int) (w : World) : Calls Try.prog 69 #[.int .u64 x] w fun e w' => e = .returned (.bool false) ∧ w = w' := by
  go_enter Try.func69, Try.ntmps69
  go_wp2
  go_ret
  exact ⟨by simp, rfl⟩
theorem cmp_u64 (x y : Int) (w : World) : Calls Try.prog 65 #[.int .u64 x, .int .u64 y] w fun e w' => e = .returned (.int .i64 (cmpZ x y)) ∧ w = w' := by
  by_cases hl : x < y
  · have t1 : decide (x < y) = true := decide_eq_true hl
    have H := Lib.hid (cmpZ_lt hl)
    clear hl
    go_enter Try.func65, Try.ntmps65
    go_wp2_with (refine (nan_u64 _ _).mono ?_; rintro e w' ⟨rfl, rfl⟩)
    go_ret
    exact ⟨by rw [H.out]; rfl, rfl⟩
  · have t1 : decide (x < y) = false := decide_eq_false hl
    by_cases hg : y < x
    · have t2 : decide (y < x) = true := decide_eq_true hg
      have H := Lib.hid (cmpZ_gt hg)
      clear hl hg
      go_enter Try.func65, Try.ntmps65
      go_wp2_with (refine (nan_u64 _ _).mono ?_; rintro e w' ⟨rfl, rfl⟩)
      go_ret
      exact ⟨by rw [H.out]; rfl, rfl⟩
    · have t2 : decide (y < x) = false := decide_eq_false hg
      have H := Lib.hid (cmpZ_eq (show x = y by omega))
      clear hl hg
      go_enter Try.func65, Try.ntmps65
      go_wp2_with (refine (nan_u64 _ _).mono ?_; rintro e w' ⟨rfl, rfl⟩)
      go_ret
      exact ⟨by rw [H.out]; rfl, rfl⟩

end Go.Proofs.Ytinjainclhfahaa

namespace Go.Proofs.Ytinjainclhfahaa
open Go.RowKit

theorem radd_up (ah al bh bl : Int) (h1 : Word ah) (h2 : Word al) (h3 : Word bh) (h4 : Word bl) (w : World) :
    Calls Try.prog 52 #[.agg #[.int .u64 ah, .int .u64 al], .agg #[.int .u64 bh, .int .u64 bl]] w fun e w' =>
      e = got2 (fit2 (val ah al + val bh bl)) (fits2 (val ah al + val bh bl)) ∧ Up w w' := by
  obtain ⟨a1, a2⟩ := h1; obtain ⟨b1, b2⟩ := h2; obtain ⟨c1, c2⟩ := h3; obtain ⟨d1, d2⟩ := h4
  have k0 : 0 ≤ (al + bl) / 18446744073709551616 := by omega
  have k1 : (al + bl) / 18446744073709551616 ≤ 1 := by omega
  by_cases hf : (ah + bh + (al + bl) / 18446744073709551616) / 18446744073709551616 = 0
  · have t : ((ah + bh + (al + bl) / 18446744073709551616) / 18446744073709551616 != 0) = false := by rw [hf]; rfl
    have hi : In2 (val ah al + val bh bl) := by unfold val; exact ⟨by omega, by omega⟩
    have H1 := Lib.hid (fit2_yes hi)
    have H2 := Lib.hid (fits2_yes hi)
    have H3 := Lib.hid (show hiZ (val ah al + val bh bl) = (ah + bh + (al + bl) / 18446744073709551616) % 18446744073709551616 by unfold hiZ val; omega)
    have H4 := Lib.hid (show loZ (val ah al + val bh bl) = (al + bl) % 18446744073709551616 by unfold loZ val; omega)
    clear hi hf
    go_enter Try.func52, Try.ntmps52
    go_wp2_with (first | simp only [add64_0 al bl b1 d1] | simp only [add64 ah bh _ a1 c1 k0 k1])
    refine bodyPost_ret (v := .tuple #[.agg #[.int .u64 ((ah + bh + (al + bl) / 18446744073709551616) % 18446744073709551616), .int .u64 ((al + bl) % 18446744073709551616)], .bool true]) (by simp [results, Try.results52, go_sem]) rfl ⟨?_, ?_⟩
    · rw [H1.out, H2.out]; unfold got2; rw [H3.out, H4.out]
    · repeat (first | exact Up.refl _ | refine Up.alloc ?_ _ _ | refine Up.setCell ?_ (by first | (simp; done) | (simp; omega) | omega) _ | refine Up.drewN ?_ _ | refine Up.drew ?_)
  · have t : ((ah + bh + (al + bl) / 18446744073709551616) / 18446744073709551616 != 0) = true := bne_iff_ne.2 hf
    have hi : ¬ In2 (val ah al + val bh bl) := by unfold In2 val; omega
    have H1 := Lib.hid (fit2_no hi)
    have H2 := Lib.hid (fits2_no hi)
    clear hi hf
    go_enter Try.func52, Try.ntmps52
    go_wp2_with (first | simp only [add64_0 al bl b1 d1] | simp only [add64 ah bh _ a1 c1 k0 k1])
    refine bodyPost_ret (v := .tuple #[.agg #[.int .u64 0, .int .u64 0], .bool false]) (by simp [results, Try.results52, go_sem]) rfl ⟨?_, ?_⟩
    · rw [H1.out, H2.out]; rfl
    · repeat (first | exact Up.refl _ | refine Up.alloc ?_ _ _ | refine Up.setCell ?_ (by first | (simp; done) | (simp; omega) | omega) _ | refine Up.drewN ?_ _ | refine Up.drew ?_)

/-! ### Comparisons -/
end Go.Proofs.Ytinjainclhfahaa

namespace Go.Proofs.Ytinjainclhfahaa
open Go.RowKit

theorem cmpZ_hi {ah al bh bl : Int} (h2 : Word al) (h4 : Word bl) (h : ah ≠ bh) : cmpZ (val ah al) (val bh bl) = cmpZ ah bh := by
  obtain ⟨b1, b2⟩ := h2; obtain ⟨d1, d2⟩ := h4
  by_cases hl : ah < bh
  · rw [cmpZ_lt hl, cmpZ_lt (by unfold val; omega)]
  · rw [cmpZ_gt (show bh < ah by omega), cmpZ_gt (by unfold val; omega)]
theorem cmpZ_lo {ah al bl : Int} : cmpZ (val ah al) (val ah bl) = cmpZ al bl := by
  by_cases hl : al < bl
  · rw [cmpZ_lt hl, cmpZ_lt (by unfold val; omega)]
  · by_cases he : al = bl
    · rw [cmpZ_eq he, cmpZ_eq (by unfold val; omega)]
    · rw [cmpZ_gt (show bl < al by omega), cmpZ_gt (by unfold val; omega)]

theorem of_up (n : Int) (w : World) : Calls Try.prog 57 #[.int .u64 n] w fun e w' => e = .returned (.agg #[.int .u64 0, .int .u64 n]) ∧ Up w w' := by
  go_enter Try.func57, Try.ntmps57
  go_wp2
  refine bodyPost_ret (v := .agg #[.int .u64 0, .int .u64 n]) (by simp [results, Try.results57, go_sem]) rfl ⟨?_, ?_⟩
  · rfl
  · repeat (first | exact Up.refl _ | refine Up.alloc ?_ _ _ | refine Up.setCell ?_ (by first | (simp; done) | (simp; omega) | omega) _ | refine Up.drewN ?_ _ | refine Up.drew ?_)

theorem compare_up (ah al bh bl : Int) (_ : Word ah) (h2 : Word al) (_ : Word bh) (h4 : Word bl) (w : World) :
    Calls Try.prog 59 #[.agg #[.int .u64 ah, .int .u64 al], .agg #[.int .u64 bh, .int .u64 bl]] w fun e w' =>
      e = .returned (.int .i64 (cmpZ (val ah al) (val bh bl))) ∧ Up w w' := by
  by_cases ha : ah = bh
  · subst ha
    have H := Lib.hid (cmpZ_lo (ah := ah) (al := al) (bl := bl))
    by_cases hl : al = bl
    · subst hl
      have H2 := Lib.hid (cmpZ_eq (x := al) rfl)
      go_enter Try.func59, Try.ntmps59
      go_wp2
      go_ret
      refine ⟨by rw [H.out, H2.out]; rfl, ?_⟩
      repeat (first | exact Up.refl _ | refine Up.alloc ?_ _ _ | refine Up.setCell ?_ (by first | (simp; done) | (simp; omega) | omega) _ | refine Up.drewN ?_ _ | refine Up.drew ?_)
    · have t2 : (al == bl) = false := beq_eq_false_iff_ne.2 hl
      clear hl
      go_enter Try.func59, Try.ntmps59
      go_wp2_with (refine (cmp_u64 _ _ _).mono ?_; rintro e w' ⟨rfl, rfl⟩)
      go_ret
      refine ⟨by rw [H.out]; rfl, ?_⟩
      repeat (first | exact Up.refl _ | refine Up.alloc ?_ _ _ | refine Up.setCell ?_ (by first | (simp; done) | (simp; omega) | omega) _ | refine Up.drewN ?_ _ | refine Up.drew ?_)
  · have H := Lib.hid (cmpZ_hi h2 h4 ha)
    have t1 : (ah == bh) = false := beq_eq_false_iff_ne.2 ha
    have t2 : (ah != bh) = true := bne_iff_ne.2 ha
    clear ha
    go_enter Try.func59, Try.ntmps59
    go_wp2_with (refine (cmp_u64 _ _ _).mono ?_; rintro e w' ⟨rfl, rfl⟩)
    go_ret
    refine ⟨by rw [H.out]; rfl, ?_⟩
    repeat (first | exact Up.refl _ | refine Up.alloc ?_ _ _ | refine Up.setCell ?_ (by first | (simp; done) | (simp; omega) | omega) _ | refine Up.drewN ?_ _ | refine Up.drew ?_)

end Go.Proofs.Ytinjainclhfahaa

namespace Go.Proofs.Ytinjainclhfahaa
open Go.RowKit

theorem rof_up (n : Int) (w : World) : Calls Try.prog 45 #[.int .u64 n] w fun e w' => e = .returned (.agg #[.int .u64 0, .int .u64 n]) ∧ Up w w' := by
  go_enter Try.func45, Try.ntmps45
  go_wp2
  refine bodyPost_ret (v := .agg #[.int .u64 0, .int .u64 n]) (by simp [results, Try.results45, go_sem]) rfl ⟨?_, ?_⟩
  · rfl
  · repeat (first | exact Up.refl _ | refine Up.alloc ?_ _ _ | refine Up.setCell ?_ (by first | (simp; done) | (simp; omega) | omega) _ | refine Up.drewN ?_ _ | refine Up.drew ?_)

end Go.Proofs.Ytinjainclhfahaa

namespace Go.Proofs.Ytinjainclhfahaa
open Go.RowKit

theorem rcompare_up (ah al bh bl : Int) (_ : Word ah) (h2 : Word al) (_ : Word bh) (h4 : Word bl) (w : World) :
    Calls Try.prog 49 #[.agg #[.int .u64 ah, .int .u64 al], .agg #[.int .u64 bh, .int .u64 bl]] w fun e w' =>
      e = .returned (.int .i64 (cmpZ (val ah al) (val bh bl))) ∧ Up w w' := by
  by_cases ha : ah = bh
  · subst ha
    have H := Lib.hid (cmpZ_lo (ah := ah) (al := al) (bl := bl))
    by_cases hl : al < bl
    · have H2 := Lib.hid (cmpZ_lt hl)
      have t1 : decide (al < bl) = true := decide_eq_true hl
      clear hl
      go_enter Try.func49, Try.ntmps49
      go_wp2
      go_ret
      refine ⟨by rw [H.out, H2.out]; rfl, ?_⟩
      repeat (first | exact Up.refl _ | refine Up.alloc ?_ _ _ | refine Up.setCell ?_ (by first | (simp; done) | (simp; omega) | omega) _ | refine Up.drewN ?_ _ | refine Up.drew ?_)
    · by_cases he : al = bl
      · subst he
        have H2 := Lib.hid (cmpZ_eq (x := al) rfl)
        clear hl
        go_enter Try.func49, Try.ntmps49
        go_wp2
        go_ret
        refine ⟨by rw [H.out, H2.out]; rfl, ?_⟩
        repeat (first | exact Up.refl _ | refine Up.alloc ?_ _ _ | refine Up.setCell ?_ (by first | (simp; done) | (simp; omega) | omega) _ | refine Up.drewN ?_ _ | refine Up.drew ?_)
      · have H2 := Lib.hid (cmpZ_gt (show bl < al by omega))
        have t1 : decide (al < bl) = false := decide_eq_false hl
        have t2 : (al == bl) = false := beq_eq_false_iff_ne.2 he
        clear hl he
        go_enter Try.func49, Try.ntmps49
        go_wp2
        go_ret
        refine ⟨by rw [H.out, H2.out]; rfl, ?_⟩
        repeat (first | exact Up.refl _ | refine Up.alloc ?_ _ _ | refine Up.setCell ?_ (by first | (simp; done) | (simp; omega) | omega) _ | refine Up.drewN ?_ _ | refine Up.drew ?_)
  · have H := Lib.hid (cmpZ_hi h2 h4 ha)
    have t0 : (ah == bh) = false := beq_eq_false_iff_ne.2 ha
    by_cases hl : ah < bh
    · have H2 := Lib.hid (cmpZ_lt hl)
      have t1 : decide (ah < bh) = true := decide_eq_true hl
      clear hl ha
      go_enter Try.func49, Try.ntmps49
      go_wp2
      go_ret
      refine ⟨by rw [H.out, H2.out]; rfl, ?_⟩
      repeat (first | exact Up.refl _ | refine Up.alloc ?_ _ _ | refine Up.setCell ?_ (by first | (simp; done) | (simp; omega) | omega) _ | refine Up.drewN ?_ _ | refine Up.drew ?_)
    · have H2 := Lib.hid (cmpZ_gt (show bh < ah by omega))
      have t1 : decide (ah < bh) = false := decide_eq_false hl
      clear hl ha
      go_enter Try.func49, Try.ntmps49
      go_wp2
      go_ret
      refine ⟨by rw [H.out, H2.out]; rfl, ?_⟩
      repeat (first | exact Up.refl _ | refine Up.alloc ?_ _ _ | refine Up.setCell ?_ (by first | (simp; done) | (simp; omega) | omega) _ | refine Up.drewN ?_ _ | refine Up.drew ?_)

end Go.Proofs.Ytinjainclhfahaa
