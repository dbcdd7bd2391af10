/- Valid buffers: what Validate of package ring and of the reference returns for any buffer. -/
import Derived.Test.YtjedcpfipebncaaGVal
import Derived.Test.YtjedcpfipebncaaGMath
namespace Go.Proofs.Ytjedcpfipebncaa
open Go.RowKit

def vB (c h l : Int) (L : List It) : Bool := shB c h l L.length && zf c.toNat h.toNat L l.toNat
theorem zf_of (c h : Nat) (M : List It) (hh : h < c) : zf c h (ofL c h M) M.length = true :=
  decide_eq_true fun k h1 h2 => by rw [ofL_place c h M k hh h1]; exact getD_out h2
/-- A valid buffer, by its elements. -/
theorem vB_true {c h l : Int} {L : List It} (hv : vB c h l L = true) : ∃ (c' h' : Nat) (M : List It), c = c' ∧ h = h' ∧ l = M.length ∧ L = ofL c' h' M ∧ 1 ≤ c' ∧ c' ≤ 65536 ∧ h' < c' ∧ M.length ≤ c' := by
  unfold vB at hv
  rw [Bool.and_eq_true] at hv
  obtain ⟨h1, h2⟩ := hv
  have h1 := of_decide_eq_true h1
  have h2 := of_decide_eq_true h2
  obtain ⟨c', rfl⟩ := Int.eq_ofNat_of_zero_le (show 0 ≤ c by omega)
  obtain ⟨h', rfl⟩ := Int.eq_ofNat_of_zero_le h1.2.2.2.1
  obtain ⟨l', rfl⟩ := Int.eq_ofNat_of_zero_le h1.2.2.2.2.2.1
  simp only [Int.toNat_natCast] at h2
  refine ⟨c', h', its c' h' l' L, rfl, rfl, by rw [its_length], (of_its c' h' l' L (by omega) (by omega) h2).symm, by omega, by omega, by omega, by rw [its_length]; omega⟩

theorem val_bad (c h l : Int) (n k : Nat) (A : Option Addr) (L : List It) (hv : vB c h l L = false) (w : World) (hS : Sl w A n L) :
    Calls Try.prog 13 #[.agg #[.int .i64 c, .int .i64 h, .int .i64 l, .slice A n k]] w fun e w' => e = .returned (.int .i64 2) ∧ Up w w' := by
  cases hs : shB c h l n with
  | false => exact val_no c h l n k A hs w
  | true =>
    have h1 := of_decide_eq_true hs
    obtain ⟨c', rfl⟩ := Int.eq_ofNat_of_zero_le (show 0 ≤ c by omega)
    obtain ⟨h', rfl⟩ := Int.eq_ofNat_of_zero_le h1.2.2.2.1
    obtain ⟨l', rfl⟩ := Int.eq_ofNat_of_zero_le h1.2.2.2.2.2.1
    obtain rfl : n = c' := by omega
    unfold vB at hv
    rw [hS.1, hs, Bool.true_and] at hv
    simp only [Int.toNat_natCast] at hv
    have := val_yes n h' l' k A L (by omega) (by omega) (by omega) (by omega) w hS
    rw [hv] at this
    exact this
theorem val_good (c h k : Nat) (A : Option Addr) (M : List It) (hc : 1 ≤ c) (hc' : c ≤ 65536) (hh : h < c) (hM : M.length ≤ c) (w : World) (hS : Sl w A c (ofL c h M)) :
    Calls Try.prog 13 #[.agg #[.int .i64 c, .int .i64 h, .int .i64 M.length, .slice A c k]] w fun e w' => e = .returned (.int .i64 0) ∧ Up w w' := by
  have := val_yes c h M.length k A _ hc hc' hh hM w hS
  rw [zf_of c h M hh] at this
  exact this
theorem rval_bad (c h l : Int) (n k : Nat) (A : Option Addr) (L : List It) (hv : vB c h l L = false) (w : World) (hS : Sl w A n L) :
    Calls Try.prog 15 #[.agg #[.int .i64 c, .int .i64 h, .int .i64 l, .slice A n k]] w fun e w' => e = .returned (.int .i64 2) ∧ Up w w' := by
  cases hs : shB c h l n with
  | false => exact rval_no c h l n k A hs w
  | true =>
    have h1 := of_decide_eq_true hs
    obtain ⟨c', rfl⟩ := Int.eq_ofNat_of_zero_le (show 0 ≤ c by omega)
    obtain ⟨h', rfl⟩ := Int.eq_ofNat_of_zero_le h1.2.2.2.1
    obtain ⟨l', rfl⟩ := Int.eq_ofNat_of_zero_le h1.2.2.2.2.2.1
    obtain rfl : n = c' := by omega
    unfold vB at hv
    rw [hS.1, hs, Bool.true_and] at hv
    simp only [Int.toNat_natCast] at hv
    have := rval_yes n h' l' k A L (by omega) (by omega) (by omega) (by omega) w hS
    rw [hv] at this
    exact this
theorem rval_good (c h k : Nat) (A : Option Addr) (M : List It) (hc : 1 ≤ c) (hc' : c ≤ 65536) (hh : h < c) (hM : M.length ≤ c) (w : World) (hS : Sl w A c (ofL c h M)) :
    Calls Try.prog 15 #[.agg #[.int .i64 c, .int .i64 h, .int .i64 M.length, .slice A c k]] w fun e w' => e = .returned (.int .i64 0) ∧ Up w w' := by
  have := rval_yes c h M.length k A _ hc hc' hh hM w hS
  rw [zf_of c h M hh] at this
  exact this
end Go.Proofs.Ytjedcpfipebncaa
