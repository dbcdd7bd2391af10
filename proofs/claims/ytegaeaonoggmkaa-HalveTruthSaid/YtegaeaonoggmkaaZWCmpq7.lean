/- What the comparisons of package wide, and of its reference, return; isZero, Of, and the reference's difference. -/
import Derived.Test.YtegaeaonoggmkaaRows
import Derived.Test.YtegaeaonoggmkaaZWAddq5
namespace Go.Proofs.Ytegaeaonoggmkaa
open Go.RowKit

/-- A number is 0. -/
def zB (v : Int) : Bool := decide (v = 0)
theorem zB_yes {v : Int} (h : v = 0) : zB v = true := by unfold zB; exact decide_eq_true h
theorem zB_no {v : Int} (h : v ≠ 0) : zB v = false := by unfold zB; exact decide_eq_false h

theorem of_up (n : Int) (w : World) : Calls Try.prog 41 #[.int .u64 n] w fun e w' => e = .returned (.agg #[.int .u64 0, .int .u64 n]) ∧ Up w w' := by
  go_enter Try.func41, Try.ntmps41
  go_wp2
  refine bodyPost_ret (v := .agg #[.int .u64 0, .int .u64 n]) (by simp [results, Try.results41, go_sem]) rfl ⟨?_, ?_⟩
  · rfl
  · repeat (first | exact Up.refl _ | refine Up.alloc ?_ _ _ | refine Up.setCell ?_ (by first | (simp; done) | (simp; omega) | omega) _ | refine Up.drewN ?_ _ | refine Up.drew ?_)

theorem isZero_up (ah al : Int) (h1 : Word ah) (h2 : Word al) (w : World) :
    Calls Try.prog 49 #[.agg #[.int .u64 ah, .int .u64 al]] w fun e w' => e = .returned (.bool (zB (val ah al))) ∧ Up w w' := by
  obtain ⟨a1, a2⟩ := h1; obtain ⟨b1, b2⟩ := h2
  by_cases ha : ah = 0
  · by_cases hl : al = 0
    · have t1 : (ah == 0) = true := beq_iff_eq.2 ha
      have t2 : (al == 0) = true := beq_iff_eq.2 hl
      have H := Lib.hid (zB_yes (show val ah al = 0 by unfold val; omega))
      clear ha hl
      go_enter Try.func49, Try.ntmps49
      go_wp2
      go_ret
      refine ⟨by rw [H.out]; rfl, ?_⟩
      repeat (first | exact Up.refl _ | refine Up.alloc ?_ _ _ | refine Up.setCell ?_ (by first | (simp; done) | (simp; omega) | omega) _ | refine Up.drewN ?_ _ | refine Up.drew ?_)
    · have t1 : (ah == 0) = true := beq_iff_eq.2 ha
      have t2 : (al == 0) = false := beq_eq_false_iff_ne.2 hl
      have H := Lib.hid (zB_no (show val ah al ≠ 0 by unfold val; omega))
      clear ha hl
      go_enter Try.func49, Try.ntmps49
      go_wp2
      go_ret
      refine ⟨by rw [H.out]; rfl, ?_⟩
      repeat (first | exact Up.refl _ | refine Up.alloc ?_ _ _ | refine Up.setCell ?_ (by first | (simp; done) | (simp; omega) | omega) _ | refine Up.drewN ?_ _ | refine Up.drew ?_)
  · have t1 : (ah == 0) = false := beq_eq_false_iff_ne.2 ha
    have H := Lib.hid (zB_no (show val ah al ≠ 0 by unfold val; omega))
    clear ha
    go_enter Try.func49, Try.ntmps49
    go_wp2
    go_ret
    refine ⟨by rw [H.out]; rfl, ?_⟩
    repeat (first | exact Up.refl _ | refine Up.alloc ?_ _ _ | refine Up.setCell ?_ (by first | (simp; done) | (simp; omega) | omega) _ | refine Up.drewN ?_ _ | refine Up.drew ?_)

end Go.Proofs.Ytegaeaonoggmkaa
