/- What Validate of the reference of package recent returns. -/
import Derived.Test.YtflahclphdlolaaZCClock
import Derived.Test.YtflahclphdlolaaZELive
import Derived.Test.YtflahclphdlolaaZFBase
import Derived.Test.YtflahclphdlolaaZG0a
import Derived.Test.YtflahclphdlolaaZG2a
namespace Go.Proofs.Ytflahclphdlolaa
open Go.RowKit

set_option maxHeartbeats 4000000 in
set_option maxRecDepth 100000 in
theorem rvalidate9_up (v c now : Int) (n k : Nat) (A : Option Addr) (L : List It) (w : World) (hS : Sl w A n L) :
    Calls Try.prog 17 #[.agg #[.int .i64 v, .int .i64 c, .int .i64 now, .slice A n k]] w fun e w' => e = .returned (.int .i64 (stE v c now L)) ∧ Up w w' := by
  have KM := Lib.hid (rmay_any v c now)
  cases hm : mayB v c now with
  | false =>
    rw [stE_no (stB_may hm)]
    rw [hm] at KM
    clear hm hS
    go_enter Try.func17, Try.ntmps17
    go_wp2_with (go_at_call 31; (with_reducible refine (KM.out _).mono ?_); rintro e w' ⟨rfl, rfl⟩)
    go_ret
    refine ⟨rfl, ?_⟩
    repeat (first | exact Up.refl _ | refine Up.alloc ?_ _ _ | refine Up.setCell ?_ (by first | (simp; done) | (simp; omega) | omega) _ | refine Up.drewN ?_ _ | refine Up.drew ?_)
  | true =>
  rw [hm] at KM
  obtain ⟨hm1, hm2, hm3, hm4⟩ := mayB_true hm
  by_cases hl : c < (n : Int)
  · rw [stE_no (stB_len (by rw [hS.1]; exact hl))]
    clear hm hS hm1 hm2 hm3 hm4
    have t1 : decide (c < (n : Int)) = true := decide_eq_true hl
    go_enter Try.func17, Try.ntmps17
    go_wp2_with (go_at_call 31; (with_reducible refine (KM.out _).mono ?_); rintro e w' ⟨rfl, rfl⟩)
    go_ret
    refine ⟨rfl, ?_⟩
    repeat (first | exact Up.refl _ | refine Up.alloc ?_ _ _ | refine Up.setCell ?_ (by first | (simp; done) | (simp; omega) | omega) _ | refine Up.drewN ?_ _ | refine Up.drew ?_)
  have t1 : decide (c < (n : Int)) = false := decide_eq_false hl
  have hn9 : n ≤ 65536 := by omega
  have KV := Lib.hid (fun W (h : Sl W A n L) => rvalid8_up n k A L now (by omega) W h)
  cases hv : valB L now with
  | false =>
    rw [stE_no (stB_val hv)]
    rw [hv] at KV
    have HS := Lib.hid hS
    clear hm hS hm1 hm2 hm3 hm4 hv
    go_enter Try.func17, Try.ntmps17
    go_wp2_with (first | (go_at_call 31; (with_reducible refine (KM.out _).mono ?_); rintro e w' ⟨rfl, rfl⟩) | (go_at_call 40; (with_reducible refine (KV.out _ (HS.out.up ((Up.refl w).alloc _ _))).mono ?_); rintro e w' ⟨rfl, hu⟩; have HU := Lib.hid hu; clear hu))
    go_ret
    exact ⟨rfl, ((Up.refl w).alloc _ _).trans HU.out⟩
  | true =>
  rw [hv] at KV
  have HL := Lib.hid hS.1
  have HS := Lib.hid hS
  have HM := Lib.hid (show ∀ x : Bool, okB now v L = x → stE v c now L = if x = true then 0 else 2 from fun x hx => by
    cases x with
    | true => rw [stE_yes (stB_yes hm (by rw [hS.1]; omega) hv hx)]; rfl
    | false => rw [stE_no (stB_ok hx)]; rfl)
  generalize hr : stE v c now L = r at HM ⊢
  have KJ := Lib.hid (rlive_any now v)
  have KI := Lib.hid rvalue_any
  clear hr hS hv hm hm1 hm2 hl
  go_enter Try.func17, Try.ntmps17
  go_wp2_with (first | (go_at_call 31; (with_reducible refine (KM.out _).mono ?_); rintro e w' ⟨rfl, rfl⟩) | (go_at_call 40; (with_reducible refine (KV.out _ (HS.out.up ((Up.refl w).alloc _ _))).mono ?_); rintro e w1 ⟨rfl, hu⟩; have c0 := hu.keep w.heap.size 0 (.int .i64 v) (by simp [go_sem]); have c2 := hu.keep w.heap.size 2 (.int .i64 now) (by simp [go_sem]); have c3 := hu.keep w.heap.size 3 (.slice A n k) (by simp [go_sem]); have HU := Lib.hid (((Up.refl w).alloc #[.int .i64 v, .int .i64 c, .int .i64 now, .slice A n k] 24).trans hu); clear hu))
  have HC0 := Lib.hid c0
  have HC2 := Lib.hid c2
  clear c0 c2 c3
  go_loopw [32] (fun t wr => ∃ i : Nat, t = .int .i64 i ∧ i ≤ n ∧ Hid (∀ j, j < i → okI now v L j) ∧ Hid (Up w1 wr)) (fun t _ => n - (intOf t).toNat)
  case atStart => exact ⟨0, rfl, Nat.zero_le _, Lib.hid (fun j hj => absurd hj (Nat.not_lt_zero _)), Lib.hid (Up.refl _)⟩
  case round =>
    obtain ⟨i, rfl, hin, HG, HW⟩ := hrel
    by_cases hi : i < n
    · obtain ⟨b', o', rfl, d0, d1⟩ := (HS.out.up (HU.out.trans HW.out)).at_ hi
      have hil : i < L.length := by rw [HL.out]; exact hi
      have c0 := HW.out.keep _ _ _ HC0.out
      have c2 := HW.out.keep _ _ _ HC2.out
      have hb0 : w.heap.size < wr.heap.size := World.block_lt_of_cell? _ _ c0
      have HB : Hid (¬ okI now v L i → r = 2) := Lib.hid (fun h => HM.out false (okB_bad hil h))
      have HY : Hid (okI now v L i → ∀ j, j < i + 1 → okI now v L j) := Lib.hid (fun h j hj => by
        rcases Nat.lt_or_ge j i with g | g
        · exact HG.out j g
        · obtain rfl : j = i := by omega
          exact h)
      have HO : Hid (okI now v L i ↔ liveB now v (L.getD i (0, 0)).1 = true ∧ valueB (L.getD i (0, 0)).2 = true) := Lib.hid Iff.rfl
      generalize okI now v L i = oi at HB HY HO
      generalize (L.getD i (0, 0)).1 = p0 at d0 HO
      generalize (L.getD i (0, 0)).2 = p1 at d1 HO
      have f2 : (i : Int) < n := by omega
      have f3 : (0 : Int) ≤ i := by omega
      have KA := Lib.hid (KJ.out p0)
      have KB := Lib.hid (KI.out p1)
      generalize liveB now v p0 = x at KA HO
      generalize valueB p1 = y at KB HO
      cases x with
      | false =>
        obtain rfl : r = 2 := HB.out (fun h => by have := (HO.out.1 h).1; cases this)
        clear HM HG HB HY HO KB
        go_wp2_with (go_at_call 41; (with_reducible refine (KA.out _).mono ?_); rintro e w' ⟨rfl, rfl⟩)
        go_ret
        exact ⟨rfl, (HU.out.trans HW.out).alloc _ _⟩
      | true =>
        cases y with
        | false =>
          obtain rfl : r = 2 := HB.out (fun h => by have := (HO.out.1 h).2; cases this)
          clear HM HG HB HY HO
          go_wp2_with (first | (go_at_call 41; (with_reducible refine (KA.out _).mono ?_); rintro e w' ⟨rfl, rfl⟩) | (go_at_call 37; (with_reducible refine (KB.out _).mono ?_); rintro e w' ⟨rfl, rfl⟩))
          go_ret
          exact ⟨rfl, (HU.out.trans HW.out).alloc _ _⟩
        | true =>
          have HG1 := Lib.hid (HY.out (HO.out.2 ⟨rfl, rfl⟩))
          clear HG HB HY HO
          go_wp2_with (first | (go_at_call 41; (with_reducible refine (KA.out _).mono ?_); rintro e w' ⟨rfl, rfl⟩) | (go_at_call 37; (with_reducible refine (KB.out _).mono ?_); rintro e w' ⟨rfl, rfl⟩))
          go_roundw
          case rel => exact ⟨i + 1, by go_num, by omega, HG1, Lib.hid (HW.out.alloc _ _)⟩
          case measure => simp [intOf]; omega
    · obtain rfl : i = n := by omega
      obtain rfl : r = 0 := HM.out true (decide_eq_true (fun j hj => HG.out j (by rw [HL.out] at hj; exact hj)))
      clear HM HG
      go_wp2_with fail
      go_ret
      exact ⟨rfl, HU.out.trans HW.out⟩
end Go.Proofs.Ytflahclphdlolaa
