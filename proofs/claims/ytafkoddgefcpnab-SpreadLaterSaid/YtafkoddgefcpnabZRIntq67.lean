/- What ratio.toInt, magnitude and negate return. -/
import Derived.Test.YtafkoddgefcpnabRows
import Derived.Test.YtafkoddgefcpnabZBWordq57
import Derived.Test.YtafkoddgefcpnabZWKeepq8
namespace Go.Proofs.Ytafkoddgefcpnab
open Go.RowKit

theorem toInt_up (s : Bool) (v : Int) (hv : In2 v) (w : World) :
    Calls Try.prog 64 #[.agg #[.bool s, .int .u64 (hiZ v), .int .u64 (loZ v)]] w fun e w' => e = got (fit (sz s v)) (fits (sz s v)) ∧ Up w w' := by
  obtain ⟨v0, v1⟩ := hv
  have l0 : 0 ≤ loZ v := (loZ_word v).1
  have l1 : loZ v ≤ 18446744073709551615 := by have := (loZ_word v).2; omega
  by_cases hh : hiZ v = 0
  · have t1 : (hiZ v != 0) = false := bne_eq_false_iff_eq.2 hh
    have ev : v = loZ v := by unfold hiZ at hh; unfold loZ; omega
    cases s
    · by_cases hl : loZ v ≤ 9223372036854775807
      · have t2 : decide (9223372036854775807 < loZ v) = false := decide_eq_false (by omega)
        have hi : In (sz false v) := by rw [sz_false]; exact ⟨by omega, by omega⟩
        have H1 := Lib.hid (show fit (sz false v) = loZ v by rw [fit_yes hi, sz_false]; exact ev)
        have H2 := Lib.hid (fits_yes hi)
        clear hi ev hh v0 v1
        go_enter Try.func64, Try.ntmps64
        go_wp2
        go_ret2
        refine ⟨by rw [H1.out, H2.out]; rfl, ?_⟩
        repeat (first | exact Up.refl _ | refine Up.alloc ?_ _ _ | refine Up.setCell ?_ (by first | (simp; done) | (simp; omega) | omega) _ | refine Up.drewN ?_ _ | refine Up.drew ?_)
      · have t2 : decide (9223372036854775807 < loZ v) = true := decide_eq_true (by omega)
        have hi : ¬ In (sz false v) := by rw [sz_false]; unfold In; omega
        have H1 := Lib.hid (fit_no hi)
        have H2 := Lib.hid (fits_no hi)
        clear hi ev hh v0 v1 hl
        go_enter Try.func64, Try.ntmps64
        go_wp2
        go_ret2
        refine ⟨by rw [H1.out, H2.out]; rfl, ?_⟩
        repeat (first | exact Up.refl _ | refine Up.alloc ?_ _ _ | refine Up.setCell ?_ (by first | (simp; done) | (simp; omega) | omega) _ | refine Up.drewN ?_ _ | refine Up.drew ?_)
    · by_cases hl : loZ v ≤ 9223372036854775808
      · have t2 : decide (9223372036854775808 < loZ v) = false := decide_eq_false (by omega)
        have hi : In (sz true v) := by rw [sz_true]; exact ⟨by omega, by omega⟩
        have H2 := Lib.hid (fits_yes hi)
        by_cases hm : loZ v = 9223372036854775808
        · have H1 := Lib.hid (show fit (sz true v) = wrap64 (-wrap64 9223372036854775808) by rw [fit_yes hi, sz_true]; unfold wrap64; omega)
          clear hi ev hh v0 v1 hl t2 l0 l1
          generalize loZ v = lo at *
          subst hm
          go_enter Try.func64, Try.ntmps64
          go_wp2
          go_ret2
          refine ⟨by rw [H1.out, H2.out]; rfl, ?_⟩
          repeat (first | exact Up.refl _ | refine Up.alloc ?_ _ _ | refine Up.setCell ?_ (by first | (simp; done) | (simp; omega) | omega) _ | refine Up.drewN ?_ _ | refine Up.drew ?_)
        · have H1 := Lib.hid (show fit (sz true v) = -loZ v by rw [fit_yes hi, sz_true]; omega)
          have hl2 : loZ v ≤ 9223372036854775807 := by omega
          clear hi ev hh v0 v1 hl hm
          go_enter Try.func64, Try.ntmps64
          go_wp2
          go_ret2
          refine ⟨by rw [H1.out, H2.out]; rfl, ?_⟩
          repeat (first | exact Up.refl _ | refine Up.alloc ?_ _ _ | refine Up.setCell ?_ (by first | (simp; done) | (simp; omega) | omega) _ | refine Up.drewN ?_ _ | refine Up.drew ?_)
      · have t2 : decide (9223372036854775808 < loZ v) = true := decide_eq_true (by omega)
        have hi : ¬ In (sz true v) := by rw [sz_true]; unfold In; omega
        have H1 := Lib.hid (fit_no hi)
        have H2 := Lib.hid (fits_no hi)
        clear hi ev hh v0 v1 hl
        go_enter Try.func64, Try.ntmps64
        go_wp2
        go_ret2
        refine ⟨by rw [H1.out, H2.out]; rfl, ?_⟩
        repeat (first | exact Up.refl _ | refine Up.alloc ?_ _ _ | refine Up.setCell ?_ (by first | (simp; done) | (simp; omega) | omega) _ | refine Up.drewN ?_ _ | refine Up.drew ?_)
  · have t1 : (hiZ v != 0) = true := bne_iff_ne.2 hh
    have hi : ¬ In (sz s v) := by
      have hb : 18446744073709551616 ≤ v := by unfold hiZ at hh; omega
      cases s
      · rw [sz_false]; unfold In; omega
      · rw [sz_true]; unfold In; omega
    have H1 := Lib.hid (fit_no hi)
    have H2 := Lib.hid (fits_no hi)
    clear hi hh v0 v1
    cases s
    all_goals
      go_enter Try.func64, Try.ntmps64
      go_wp2
      go_ret2
      refine ⟨by rw [H1.out, H2.out]; rfl, ?_⟩
      repeat (first | exact Up.refl _ | refine Up.alloc ?_ _ _ | refine Up.setCell ?_ (by first | (simp; done) | (simp; omega) | omega) _ | refine Up.drewN ?_ _ | refine Up.drew ?_)

theorem rmag_any (a : Int) (ha : In a) (w : World) :
    Calls Try.prog 65 #[.int .i64 a] w fun e w' => e = .returned (.int .u64 (a.natAbs : Int)) ∧ w = w' := by
  obtain ⟨a1, a2⟩ := ha
  by_cases hn : a < 0
  · have H : IntKind.u64.wrap (-IntKind.u64.wrap a) = (a.natAbs : Int) := by simp only [IntKind.wrap_u64]; omega
    go_enter Try.func65, Try.ntmps65
    go_wp2
    go_ret
    exact ⟨rfl, rfl⟩
  · have H : IntKind.u64.wrap a = (a.natAbs : Int) := by simp only [IntKind.wrap_u64]; omega
    go_enter Try.func65, Try.ntmps65
    go_wp2
    go_ret
    exact ⟨rfl, rfl⟩

theorem prod_up (a b : Int) (ha : In a) (hb : In b) (w : World) :
    Calls Try.prog 53 #[.int .i64 a, .int .i64 b] w fun e w' => e = .returned (.agg #[.bool (decide (a < 0) != decide (b < 0)), .int .u64 (hiZ ((a.natAbs : Int) * (b.natAbs : Int))), .int .u64 (loZ ((a.natAbs : Int) * (b.natAbs : Int)))]) ∧ Up w w' := by
  have hA := abs_word ha
  have hB := abs_word hb
  have HA := Lib.hid ha
  have HB := Lib.hid hb
  clear ha hb
  generalize e1 : decide (a < 0) = sa at *
  generalize e2 : decide (b < 0) = sb at *
  go_enter Try.func53, Try.ntmps53
  go_wp2_with fail
  refine (rmag_any a HA.out _).mono ?_
  rintro e w' ⟨rfl, rfl⟩
  go_wp2_with fail
  refine (rmag_any b HB.out _).mono ?_
  rintro e w' ⟨rfl, rfl⟩
  go_wp2_with fail
  refine (product_up _ _ hA hB _).mono ?_
  rintro e w1 ⟨rfl, hu1⟩
  obtain ⟨hc1, hz1⟩ := hu1.cells
  have hs1 := hu1.size
  try simp at hs1
  try unfold got2
  have p1_0 : w.heap.size < w1.heap.size := by omega
  go_wp2_with fail
  refine bodyPost_ret (v := .agg #[.bool (sa != sb), .int .u64 (hiZ ((a.natAbs : Int) * (b.natAbs : Int))), .int .u64 (loZ ((a.natAbs : Int) * (b.natAbs : Int)))]) (by simp [results, Try.results53, go_sem, hc1]; cases sa <;> cases sb <;> rfl) rfl ⟨?_, ?_⟩
  · rfl
  · repeat (first | exact Up.refl _ | refine Up.trans ?_ hu1 | refine Up.alloc ?_ _ _ | refine Up.setCell ?_ (by first | (simp; done) | (simp; omega) | omega) _ | refine Up.drewN ?_ _ | refine Up.drew ?_)

end Go.Proofs.Ytafkoddgefcpnab
