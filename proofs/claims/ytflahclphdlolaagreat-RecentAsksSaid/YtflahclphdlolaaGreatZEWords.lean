/- What wordsOf, plus, minus, toWide, toInt and magnitude of package exact return. -/
import Derived.Deep.Cut
import Derived.Deep.LoopGhost
import Derived.Deep.RegionHeld3
import Derived.IntWalk
import Derived.Test.YtflahclphdlolaaGreatZG0a
import Derived.Test.YtflahclphdlolaaGreatZG2a
namespace Go.Proofs.YtflahclphdlolaaGreat
open Go.RowKit

/-- A number of three words as a value. -/
def w3 (v : Int) : Value := .agg #[.int .u64 (dg3 v 0), .int .u64 (dg3 v 1), .int .u64 (dg3 v 2)]

theorem emag_any (a : Int) (ha : In a) (w : World) :
    Calls Tryz.prog 68 #[.int .i64 a] w fun e w' => e = .returned (.int .u64 (a.natAbs : Int)) ∧ w = w' := by
  unfold In at ha
  by_cases hn : a < 0
  · have k1 : IntKind.u64.wrap a = a + 18446744073709551616 := by rw [IntKind.wrap_u64]; omega
    have k2 : IntKind.u64.wrap (-(a + 18446744073709551616)) = (a.natAbs : Int) := by rw [IntKind.wrap_u64]; omega
    go_enter Tryz.func68, Tryz.ntmps68
    go_wp2
    go_ret
    exact ⟨by first | rfl | simp [k2], rfl⟩
  · have k1 : IntKind.u64.wrap a = (a.natAbs : Int) := by rw [IntKind.wrap_u64]; omega
    go_enter Tryz.func68, Tryz.ntmps68
    go_wp2
    go_ret
    exact ⟨by first | rfl | simp [k1], rfl⟩

theorem wordsOf_up (h l : Int) (w : World) :
    Calls Tryz.prog 44 #[.agg #[.int .u64 h, .int .u64 l]] w fun e w' => e = .returned (.agg #[.int .u64 l, .int .u64 h, .int .u64 0]) ∧ Up w w' := by
  go_enter Tryz.func44, Tryz.ntmps44
  go_wp2
  refine bodyPost_ret (v := .agg #[.int .u64 l, .int .u64 h, .int .u64 0]) (by simp [results, Tryz.results44, go_sem]) rfl ⟨?_, ?_⟩
  · rfl
  · repeat (first | exact Up.refl _ | refine Up.alloc ?_ _ _ | refine Up.setCell ?_ (by first | (simp; done) | (simp; omega) | omega) _ | refine Up.drewN ?_ _ | refine Up.drew ?_)
theorem wordsOf_v (v : Int) (hv : In2 v) (w : World) :
    Calls Tryz.prog 44 #[.agg #[.int .u64 (hiZ v), .int .u64 (loZ v)]] w fun e w' => e = .returned (w3 v) ∧ Up w w' := by
  obtain ⟨e0, e1, e2⟩ := dg3_small hv
  unfold w3
  rw [e0, e1, e2]
  exact wordsOf_up _ _ w

theorem toWide_no (a b c : Int) (hc : (c != 0) = true) (w : World) :
    Calls Tryz.prog 40 #[.agg #[.int .u64 a, .int .u64 b, .int .u64 c]] w fun e w' => e = got2 0 false ∧ Up w w' := by
  go_enter Tryz.func40, Tryz.ntmps40
  go_wp2
  refine bodyPost_ret (v := .tuple #[.agg #[.int .u64 0, .int .u64 0], .bool false]) (by simp [results, Tryz.results40, go_sem]) rfl ⟨?_, ?_⟩
  · rfl
  · repeat (first | exact Up.refl _ | refine Up.alloc ?_ _ _ | refine Up.setCell ?_ (by first | (simp; done) | (simp; omega) | omega) _ | refine Up.drewN ?_ _ | refine Up.drew ?_)
theorem toWide_yes (a b : Int) (w : World) :
    Calls Tryz.prog 40 #[.agg #[.int .u64 a, .int .u64 b, .int .u64 0]] w fun e w' => e = .returned (.tuple #[.agg #[.int .u64 b, .int .u64 a], .bool true]) ∧ Up w w' := by
  go_enter Tryz.func40, Tryz.ntmps40
  go_wp2
  refine bodyPost_ret (v := .tuple #[.agg #[.int .u64 b, .int .u64 a], .bool true]) (by simp [results, Tryz.results40, go_sem]) rfl ⟨?_, ?_⟩
  · rfl
  · repeat (first | exact Up.refl _ | refine Up.alloc ?_ _ _ | refine Up.setCell ?_ (by first | (simp; done) | (simp; omega) | omega) _ | refine Up.drewN ?_ _ | refine Up.drew ?_)
theorem toWide_v (v : Int) (h0 : 0 ≤ v) (h1 : v < 6277101735386680763835789423207666416102355444464034512896) (w : World) :
    Calls Tryz.prog 40 #[w3 v] w fun e w' => e = got2 (fit2 v) (fits2 v) ∧ Up w w' := by
  by_cases h : In2 v
  · obtain ⟨e0, e1, e2⟩ := dg3_small h
    unfold w3
    rw [e0, e1, e2, fit2_yes h, fits2_yes h]
    exact toWide_yes _ _ w
  · have e := dg3_great h0 h1 h
    rw [show fits2 v = false from decide_eq_false h, show fit2 v = 0 by unfold fit2; rw [show fits2 v = false from decide_eq_false h]; rfl]
    exact toWide_no _ _ _ (bne_iff_ne.2 e) w

/-- What toInt makes of a magnitude and a sign. -/
def sgZ (s : Bool) (v : Int) : Int := if s = true then -v else v
theorem etoInt_v (v : Int) (s : Bool) (hv : In2 v) (w : World) :
    Calls Tryz.prog 38 #[.agg #[.int .u64 (hiZ v), .int .u64 (loZ v)], .bool s] w fun e w' => e = got (fit (sgZ s v)) (fits (sgZ s v)) ∧ Up w w' := by
  have hl := loZ_word v
  have hh := hiZ_word hv
  unfold Word at hl hh
  unfold In2 at hv
  have hvv : v = hiZ v * 18446744073709551616 + loZ v := by unfold hiZ loZ; omega
  generalize hiZ v = h at *
  generalize loZ v = l at *
  have HVV := Lib.hid hvv
  cases s with
  | false =>
    have es : sgZ false v = v := rfl
    rw [es]
    by_cases h0 : h = 0
    · have t0 : (h != 0) = false := by simp [h0]
      by_cases hb : 9223372036854775807 < l
      · have ef : fits v = false := by unfold fits; apply decide_eq_false; omega
        rw [show fit v = 0 by unfold fit; rw [ef]; rfl, ef]
        clear hvv h0 hv ef
        go_enter Tryz.func38, Tryz.ntmps38
        go_wp2
        go_ret2
        refine ⟨rfl, ?_⟩
        repeat (first | exact Up.refl _ | refine Up.alloc ?_ _ _ | refine Up.setCell ?_ (by first | (simp; done) | (simp; omega) | omega) _ | refine Up.drewN ?_ _ | refine Up.drew ?_)
      · have ef : fits v = true := by unfold fits; apply decide_eq_true; omega
        obtain rfl : v = l := by omega
        rw [show fit v = v by unfold fit; rw [ef]; rfl, ef]
        have k1 : IntKind.i64.wrap v = v := IntWalk.i64_in _ (by omega)
        clear hvv h0 hv ef HVV
        go_enter Tryz.func38, Tryz.ntmps38
        go_wp2
        go_ret2
        refine ⟨rfl, ?_⟩
        repeat (first | exact Up.refl _ | refine Up.alloc ?_ _ _ | refine Up.setCell ?_ (by first | (simp; done) | (simp; omega) | omega) _ | refine Up.drewN ?_ _ | refine Up.drew ?_)
    · have t0 : (h != 0) = true := bne_iff_ne.2 h0
      have ef : fits v = false := by unfold fits; apply decide_eq_false; omega
      rw [show fit v = 0 by unfold fit; rw [ef]; rfl, ef]
      clear hvv h0 hv ef
      go_enter Tryz.func38, Tryz.ntmps38
      go_wp2
      go_ret2
      refine ⟨rfl, ?_⟩
      repeat (first | exact Up.refl _ | refine Up.alloc ?_ _ _ | refine Up.setCell ?_ (by first | (simp; done) | (simp; omega) | omega) _ | refine Up.drewN ?_ _ | refine Up.drew ?_)
  | true =>
    have es : sgZ true v = -v := rfl
    rw [es]
    by_cases h0 : h = 0
    · have t0 : (h != 0) = false := by simp [h0]
      by_cases hb : 9223372036854775808 < l
      · have ef : fits (-v) = false := by unfold fits; apply decide_eq_false; omega
        rw [show fit (-v) = 0 by unfold fit; rw [ef]; rfl, ef]
        clear hvv h0 hv ef
        go_enter Tryz.func38, Tryz.ntmps38
        go_wp2
        go_ret2
        refine ⟨rfl, ?_⟩
        repeat (first | exact Up.refl _ | refine Up.alloc ?_ _ _ | refine Up.setCell ?_ (by first | (simp; done) | (simp; omega) | omega) _ | refine Up.drewN ?_ _ | refine Up.drew ?_)
      · have ef : fits (-v) = true := by unfold fits; apply decide_eq_true; omega
        obtain rfl : v = l := by omega
        rw [show fit (-v) = -v by unfold fit; rw [ef]; rfl, ef]
        have HK : Hid (-v = wrap64 (-(wrap64 v))) := Lib.hid (by unfold wrap64; omega)
        clear hvv h0 hv ef HVV
        generalize hv' : -v = r at *
        clear hv'
        have hl2 : v ≤ 9223372036854775808 := by omega
        clear hb
        go_enter Tryz.func38, Tryz.ntmps38
        go_wp2
        go_ret2
        refine ⟨by rw [HK.out]; rfl, ?_⟩
        repeat (first | exact Up.refl _ | refine Up.alloc ?_ _ _ | refine Up.setCell ?_ (by first | (simp; done) | (simp; omega) | omega) _ | refine Up.drewN ?_ _ | refine Up.drew ?_)
    · have t0 : (h != 0) = true := bne_iff_ne.2 h0
      have ef : fits (-v) = false := by unfold fits; apply decide_eq_false; omega
      rw [show fit (-v) = 0 by unfold fit; rw [ef]; rfl, ef]
      clear hvv h0 hv ef
      go_enter Tryz.func38, Tryz.ntmps38
      go_wp2
      go_ret2
      refine ⟨rfl, ?_⟩
      repeat (first | exact Up.refl _ | refine Up.alloc ?_ _ _ | refine Up.setCell ?_ (by first | (simp; done) | (simp; omega) | omega) _ | refine Up.drewN ?_ _ | refine Up.drew ?_)
end Go.Proofs.YtflahclphdlolaaGreat
