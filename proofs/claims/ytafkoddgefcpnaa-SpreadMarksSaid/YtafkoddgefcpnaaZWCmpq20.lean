/- What the comparisons of package wide, and of its reference, return; isZero, Of, and the reference's difference. -/
import Derived.Test.YtafkoddgefcpnaaRows
import Derived.Test.YtafkoddgefcpnaaZWMathq1
namespace Go.Proofs.Ytafkoddgefcpnaa
open Go.RowKit

theorem rcompare_up (ah al bh bl : Int) (_ : Word ah) (h2 : Word al) (_ : Word bh) (h4 : Word bl) (w : World) :
    Calls Try.prog 97 #[.agg #[.int .u64 ah, .int .u64 al], .agg #[.int .u64 bh, .int .u64 bl]] w fun e w' =>
      e = .returned (.int .i64 (cmpZ (val ah al) (val bh bl))) ∧ Up w w' := by
  by_cases ha : ah = bh
  · subst ha
    have H := Lib.hid (cmpZ_lo (ah := ah) (al := al) (bl := bl))
    by_cases hl : al < bl
    · have H2 := Lib.hid (cmpZ_lt hl)
      have t1 : decide (al < bl) = true := decide_eq_true hl
      clear hl
      go_enter Try.func97, Try.ntmps97
      go_wp2
      go_ret
      refine ⟨by rw [H.out, H2.out]; rfl, ?_⟩
      repeat (first | exact Up.refl _ | refine Up.alloc ?_ _ _ | refine Up.setCell ?_ (by first | (simp; done) | (simp; omega) | omega) _ | refine Up.drewN ?_ _ | refine Up.drew ?_)
    · by_cases he : al = bl
      · subst he
        have H2 := Lib.hid (cmpZ_eq (x := al) rfl)
        clear hl
        go_enter Try.func97, Try.ntmps97
        go_wp2
        go_ret
        refine ⟨by rw [H.out, H2.out]; rfl, ?_⟩
        repeat (first | exact Up.refl _ | refine Up.alloc ?_ _ _ | refine Up.setCell ?_ (by first | (simp; done) | (simp; omega) | omega) _ | refine Up.drewN ?_ _ | refine Up.drew ?_)
      · have H2 := Lib.hid (cmpZ_gt (show bl < al by omega))
        have t1 : decide (al < bl) = false := decide_eq_false hl
        have t2 : (al == bl) = false := beq_eq_false_iff_ne.2 he
        clear hl he
        go_enter Try.func97, Try.ntmps97
        go_wp2
        go_ret
        refine ⟨by rw [H.out, H2.out]; rfl, ?_⟩
        repeat (first | exact Up.refl _ | refine Up.alloc ?_ _ _ | refine Up.setCell ?_ (by first | (simp; done) | (simp; omega) | omega) _ | refine Up.drewN ?_ _ | refine Up.drew ?_)
  · have H := Lib.hid (cmpZ_hi h2 h4 ha)
    have t0 : (ah == bh) = false := beq_eq_false_iff_ne.2 ha
    by_cases hl : ah < bh
    · have H2 := Lib.hid (cmpZ_lt hl)
      have t1 : decide (ah < bh) = true := decide_eq_true hl
      clear hl ha
      go_enter Try.func97, Try.ntmps97
      go_wp2
      go_ret
      refine ⟨by rw [H.out, H2.out]; rfl, ?_⟩
      repeat (first | exact Up.refl _ | refine Up.alloc ?_ _ _ | refine Up.setCell ?_ (by first | (simp; done) | (simp; omega) | omega) _ | refine Up.drewN ?_ _ | refine Up.drew ?_)
    · have H2 := Lib.hid (cmpZ_gt (show bh < ah by omega))
      have t1 : decide (ah < bh) = false := decide_eq_false hl
      clear hl ha
      go_enter Try.func97, Try.ntmps97
      go_wp2
      go_ret
      refine ⟨by rw [H.out, H2.out]; rfl, ?_⟩
      repeat (first | exact Up.refl _ | refine Up.alloc ?_ _ _ | refine Up.setCell ?_ (by first | (simp; done) | (simp; omega) | omega) _ | refine Up.drewN ?_ _ | refine Up.drew ?_)

end Go.Proofs.Ytafkoddgefcpnaa
