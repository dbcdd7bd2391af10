/- What math/bits.TrailingZeros64, wide.Zeros and wide.Bits return. -/
import Derived.Test.YtbfbmdkgnecfaaaDoorSMath
import Derived.Test.YtbfbmdkgnecfaaaDoorWShift
namespace Go.Proofs.YtbfbmdkgnecfaaaDoor
open Go.RowKit

/-- The table of math/bits.TrailingZeros64. -/
def Tab (w : World) : Prop := ∀ i : Nat, i < 64 → w.cell? ⟨0, i, none⟩ = some (.int .u8 ((Lib.deBruijn64tab.getD i 0 : Nat) : Int))
theorem Tab.keep {w w' : World} (h : Tab w) (hu : Up w w') : Tab w' := fun i hi => hu.keep _ _ _ (h i hi)

theorem and_low {x : Int} (hx : Word x) (h0 : x ≠ 0) : bits .and .u64 x (IntKind.u64.wrap (-x)) = ((2 ^ Lib.ctz 64 x.toNat : Nat) : Int) ∧ Lib.ctz 64 x.toNat < 64 := by
  obtain ⟨a1, a2⟩ := hx
  obtain ⟨n, rfl⟩ := Int.eq_ofNat_of_zero_le a1
  obtain ⟨e, hk⟩ := Lib.lowest_bit 64 n (by omega) (by rw [p64]; omega)
  refine ⟨?_, hk⟩
  have e1 : IntKind.u64.wrap (-(n : Int)) = ((18446744073709551616 - n : Nat) : Int) := by rw [IntKind.wrap_u64]; omega
  rw [e1, bits_and_u64_nat n (18446744073709551616 - n) (by omega) (by omega), Int.toNat_natCast]
  rw [p64] at e
  rw [e]

theorem tz_any (x : Int) (hx : Word x) (h0 : x ≠ 0) (w : World) (hT : Tab w) :
    Calls Tryd.prog 19 #[.int .u64 x] w fun e w' => e = .returned (.int .i64 (zeZ x)) ∧ w = w' := by
  have t0 : (x == 0) = false := beq_eq_false_iff_ne.2 h0
  obtain ⟨e1, hk⟩ := and_low hx h0
  have HZ := Lib.hid (zeZ_ctz hx h0)
  obtain ⟨i0, ei⟩ := Lib.deBruijn64_at _ hk
  have b0 : (0 : Int) ≤ (Lib.ctz 64 x.toNat : Int) := by omega
  have b1 : (Lib.ctz 64 x.toNat : Int) ≤ 63 := by omega
  generalize Lib.ctz 64 x.toNat = k at *
  generalize 2 ^ k = p at *
  have hc := hT _ i0
  rw [ei] at hc
  clear ei
  obtain ⟨M, hM⟩ : ∃ M : Nat, p * 285870213051353865 % 18446744073709551616 = M := ⟨_, rfl⟩
  rw [hM] at hc i0
  obtain ⟨i, hi⟩ : ∃ i : Nat, M / 288230376151711744 = i := ⟨_, rfl⟩
  rw [hi] at hc i0
  have e2 : IntKind.u64.wrap ((p : Int) * 285870213051353865) = (M : Int) := by rw [IntKind.wrap_u64, ← hM]; omega
  have e3 : (M : Int) / 288230376151711744 = (i : Int) := by rw [← hi]; omega
  clear hM hi
  generalize (p : Int) = P at *
  have i1 : (i : Int) < 64 := by omega
  clear h0 hT hk
  go_enter Tryd.func19, Tryd.ntmps19
  go_wp2
  go_ret
  exact ⟨by rw [HZ.out]; rfl, rfl⟩

theorem zeros_up (h l : Int) (hh : Word h) (hl : Word l) (w : World) (hT : Tab w) :
    Calls Tryd.prog 11 #[.agg #[.int .u64 h, .int .u64 l]] w fun e w' => e = .returned (.int .i64 (zeZ (val h l))) ∧ Up w w' := by
  by_cases hz : val h l = 0
  · have t := zB_yes hz
    have HZ := Lib.hid (show zeZ (val h l) = 0 by unfold zeZ; rw [if_pos hz])
    clear hz hT
    go_enter Tryd.func11, Tryd.ntmps11
    go_wp2_with fail
    refine (isZero_up h l hh hl _).mono ?_
    rintro e w1 ⟨rfl, hu1⟩
    try unfold got2
    have HU1 : Hid (Up w w1) := Lib.hid (by ((repeat (first | (with_reducible exact Up.refl _) | (with_reducible refine Up.trans ?_ hu1) | (with_reducible refine Up.alloc ?_ _ _) | (with_reducible refine Up.setCell ?_ ?_ _) | (with_reducible refine Up.drewN ?_ _) | (with_reducible refine Up.drew ?_))); all_goals (first | (simp; done) | (simp; omega) | omega)))
    clear hu1
    go_wp2_with fail
    go_ret
    exact ⟨by rw [HZ.out]; rfl, HU1.out⟩
  · have t := zB_no hz
    have HT := Lib.hid hT
    by_cases hl0 : l = 0
    · have tl : (l == 0) = true := beq_iff_eq.2 hl0
      have hh0 : h ≠ 0 := fun e => hz (by rw [e, hl0]; rfl)
      have HZ := Lib.hid (show zeZ (val h l) = 64 + zeZ h by rw [hl0]; exact zeZ_hi hh hh0)
      obtain ⟨b0, b1⟩ := zeZ_bound (word_in2 hh)
      have HH := Lib.hid hh0
      have HI := Lib.hid (fun W (hW : Tab W) => tz_any h hh hh0 W hW)
      clear hz hl0 hh0 hT
      generalize zeZ h = z at *
      go_enter Tryd.func11, Tryd.ntmps11
      go_wp2_with fail
      refine (isZero_up h l hh hl _).mono ?_
      rintro e w1 ⟨rfl, hu1⟩
      have HT1 := Lib.hid ((HT.out.keep ((Up.refl _).alloc _ _)).keep hu1)
      have c0 := hu1.keep w.heap.size 0 (.int .u64 h) (by simp [go_sem, *])
      have c1 := hu1.keep w.heap.size 1 (.int .u64 l) (by simp [go_sem, *])
      have HU1 : Hid (Up w w1) := Lib.hid (by ((repeat (first | (with_reducible exact Up.refl _) | (with_reducible refine Up.trans ?_ hu1) | (with_reducible refine Up.alloc ?_ _ _) | (with_reducible refine Up.setCell ?_ ?_ _) | (with_reducible refine Up.drewN ?_ _) | (with_reducible refine Up.drew ?_))); all_goals (first | (simp; done) | (simp; omega) | omega)))
      clear hu1
      go_wp2_with fail
      refine (HI.out _ HT1.out).mono ?_
      rintro e w' ⟨rfl, rfl⟩
      go_wp2_with fail
      go_ret
      exact ⟨by rw [HZ.out]; rfl, HU1.out⟩
    · have tl : (l == 0) = false := beq_eq_false_iff_ne.2 hl0
      have HZ := Lib.hid (zeZ_lo hh hl hl0)
      have HI := Lib.hid (fun W (hW : Tab W) => tz_any l hl hl0 W hW)
      clear hz hl0 hT
      go_enter Tryd.func11, Tryd.ntmps11
      go_wp2_with fail
      refine (isZero_up h l hh hl _).mono ?_
      rintro e w1 ⟨rfl, hu1⟩
      have HT1 := Lib.hid ((HT.out.keep ((Up.refl _).alloc _ _)).keep hu1)
      have c0 := hu1.keep w.heap.size 0 (.int .u64 h) (by simp [go_sem, *])
      have c1 := hu1.keep w.heap.size 1 (.int .u64 l) (by simp [go_sem, *])
      have HU1 : Hid (Up w w1) := Lib.hid (by ((repeat (first | (with_reducible exact Up.refl _) | (with_reducible refine Up.trans ?_ hu1) | (with_reducible refine Up.alloc ?_ _ _) | (with_reducible refine Up.setCell ?_ ?_ _) | (with_reducible refine Up.drewN ?_ _) | (with_reducible refine Up.drew ?_))); all_goals (first | (simp; done) | (simp; omega) | omega)))
      clear hu1
      go_wp2_with fail
      refine (HI.out _ HT1.out).mono ?_
      rintro e w' ⟨rfl, rfl⟩
      go_wp2_with fail
      go_ret
      exact ⟨by rw [HZ.out]; rfl, HU1.out⟩

theorem blZ_bitLen {x : Int} (hx : Word x) : blZ x = (Lib.bitLen x.toNat : Int) := by
  obtain ⟨a1, a2⟩ := hx
  by_cases h0 : x = 0
  · rw [h0]; rfl
  · obtain ⟨s1, s2⟩ := bitLen_spec 64 x.toNat (by rw [p64]; omega)
    have s3 := s2 (by omega)
    unfold Lib.bitLen
    generalize Lib.bitLenAux 64 x.toNat = b at *
    cases b with
    | zero => simp at s1; omega
    | succ k =>
      rw [blZ_uniq (k := k) (by rw [Nat.pow_succ] at s3; omega) s1]
      omega
theorem bits_up (h l : Int) (hh : Word h) (hl : Word l) (w : World) :
    Calls Tryd.prog 9 #[.agg #[.int .u64 h, .int .u64 l]] w fun e w' => e = .returned (.int .i64 (blZ (val h l))) ∧ Up w w' := by
  by_cases h0 : h = 0
  · have t : (h != 0) = false := bne_eq_false_iff_eq.2 h0
    have HZ := Lib.hid (show blZ (val h l) = (Lib.bitLen l.toNat : Int) by rw [← blZ_bitLen hl, h0]; congr 1; unfold val; omega)
    clear h0
    go_enter Tryd.func9, Tryd.ntmps9
    go_wp2_with fail
    refine (len64_any l hl _).mono ?_
    rintro e w' ⟨rfl, rfl⟩
    go_wp2
    go_ret
    refine ⟨by rw [HZ.out]; rfl, ?_⟩
    repeat (first | exact Up.refl _ | refine Up.alloc ?_ _ _ | refine Up.setCell ?_ (by first | (simp; done) | (simp; omega) | omega) _ | refine Up.drewN ?_ _ | refine Up.drew ?_)
  · have hb := bits_hi h l hh h0 w
    rw [show blZ (val h l) = 128 - lz h by rw [blZ_hi hh hl h0, blZ_bitLen hh]; unfold lz; omega]
    exact hb

end Go.Proofs.YtbfbmdkgnecfaaaDoor
