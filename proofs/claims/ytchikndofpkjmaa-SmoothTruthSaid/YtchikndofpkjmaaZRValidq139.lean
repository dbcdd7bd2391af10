/- Texts of these claims, one after the other. -/
import Derived.Test.YtchikndofpkjmaaRows
import Derived.Test.YtchikndofpkjmaaZNumGcdq132
import Derived.Test.YtchikndofpkjmaaZWGcdq137
namespace Go.Proofs.Ytchikndofpkjmaa
open Go.RowKit

theorem valid_up (n d : Int) (_ : In n) (hd : In d) (w : World) :
    Calls Try.prog 70 #[.agg #[.int .i64 n, .int .i64 d]] w fun e w' => e = .returned (.bool (validB n d)) ∧ Up w w' := by
  by_cases h : d < 1
  · have t : decide (d < 1) = true := decide_eq_true h
    have H := Lib.hid (validB_low (n := n) h)
    clear h
    go_enter Try.func70, Try.ntmps70
    go_wp2
    go_ret
    refine ⟨by rw [H.out]; rfl, ?_⟩
    repeat (first | exact Up.refl _ | refine Up.alloc ?_ _ _ | refine Up.setCell ?_ (by first | (simp; done) | (simp; omega) | omega) _ | refine Up.drewN ?_ _ | refine Up.drew ?_)
  · have t : decide (d < 1) = false := decide_eq_false h
    have e1 : rests n d = rest n d := rests_yes (by omega)
    have hr := rest_in (a := n) hd (show d ≠ 0 by omega)
    have rp := rest_pos n d (by omega)
    have HM := Lib.hid (fun W => mod_any n d hd W)
    have H : (gcds (rest n d) d == 1) = validB n d := by
      rw [gcds_pos (by omega) (by omega), gcd_rest n d (by omega), validB_eq (by omega)]
      rw [Bool.eq_iff_iff]; simp; omega
    have H := Lib.hid H
    have HG := Lib.hid (fun W => gcd_any (rest n d) d hr hd W)
    rw [e1] at HM
    clear h hr rp e1
    generalize rest n d = r at *
    go_enter Try.func70, Try.ntmps70
    go_wp2_with fail
    refine (HM.out _).mono ?_
    rintro e w' ⟨rfl, rfl⟩
    go_wp2_with fail
    refine (HG.out _).mono ?_
    rintro e w1 ⟨rfl, k, rfl⟩
    go_wp2
    go_ret
    refine ⟨by rw [← H.out]; rfl, ?_⟩
    repeat (first | exact Up.refl _ | refine Up.alloc ?_ _ _ | refine Up.setCell ?_ (by first | (simp; done) | (simp; omega) | omega) _ | refine Up.drewN ?_ _ | refine Up.drew ?_)

theorem word_int {d : Int} (h : 1 ≤ d) (hd : In d) : Word d := by obtain ⟨_, d2⟩ := hd; exact ⟨by omega, by omega⟩

end Go.Proofs.Ytchikndofpkjmaa

namespace Go.Proofs.Ytchikndofpkjmaa
open Go.RowKit

theorem own1 {w w' : World} (h : Up w w') (o : Nat) : w'.frozen? ⟨w.heap.size + 1, o, none⟩ = false := h.own 1 o
theorem own0 {w w' : World} (h : Up w w') (o : Nat) : w'.frozen? ⟨w.heap.size, o, none⟩ = false := h.own 0 o

end Go.Proofs.Ytchikndofpkjmaa

namespace Go.Proofs.Ytchikndofpkjmaa
open Go.RowKit

theorem ofr_up (n : Int) (w : World) : Calls Try.prog 61 #[.int .i64 n] w fun e w' => e = .returned (.agg #[.int .i64 n, .int .i64 1]) ∧ Up w w' := by
  go_enter Try.func61, Try.ntmps61
  go_wp2
  refine bodyPost_ret (v := .agg #[.int .i64 n, .int .i64 1]) (by simp [results, Try.results61, go_sem]) rfl ⟨?_, ?_⟩
  · rfl
  · repeat (first | exact Up.refl _ | refine Up.alloc ?_ _ _ | refine Up.setCell ?_ (by first | (simp; done) | (simp; omega) | omega) _ | refine Up.drewN ?_ _ | refine Up.drew ?_)

theorem rofr_up (n : Int) (w : World) : Calls Try.prog 31 #[.int .i64 n] w fun e w' => e = .returned (.agg #[.int .i64 n, .int .i64 1]) ∧ Up w w' := by
  go_enter Try.func31, Try.ntmps31
  go_wp2
  refine bodyPost_ret (v := .agg #[.int .i64 n, .int .i64 1]) (by simp [results, Try.results31, go_sem]) rfl ⟨?_, ?_⟩
  · rfl
  · repeat (first | exact Up.refl _ | refine Up.alloc ?_ _ _ | refine Up.setCell ?_ (by first | (simp; done) | (simp; omega) | omega) _ | refine Up.drewN ?_ _ | refine Up.drew ?_)

end Go.Proofs.Ytchikndofpkjmaa

namespace Go.Proofs.Ytchikndofpkjmaa

/-- A number, or zero; one of two numbers. -/
def oz (v : Bool) (n : Int) : Int := if v = true then n else 0
theorem oz_yes (n : Int) : oz true n = n := rfl
theorem oz_no (n : Int) : oz false n = 0 := rfl
/-- An answer of three numbers, with a bool. -/
def gotB (a b c d e f : Int) (ok : Bool) : Ending := .returned (.tuple #[.agg #[.int .i64 a, .int .i64 b, .int .i64 c, .int .i64 d, .int .i64 e, .int .i64 f], .bool ok])

end Go.Proofs.Ytchikndofpkjmaa
