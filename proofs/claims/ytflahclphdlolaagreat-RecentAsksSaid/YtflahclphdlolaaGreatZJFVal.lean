/- Texts of this claim, one after the other. -/
import Derived.Test.YtflahclphdlolaaGreatZCClock
import Derived.Test.YtflahclphdlolaaGreatZELive
import Derived.Test.YtflahclphdlolaaGreatZFBase
import Derived.Test.YtflahclphdlolaaGreatZG0a
import Derived.Test.YtflahclphdlolaaGreatZG2a
/- What Validate of package recent and of its reference returns. -/
namespace Go.Proofs.YtflahclphdlolaaGreat
open Go.RowKit

set_option maxHeartbeats 4000000 in
set_option maxRecDepth 100000 in
theorem validate9_up (v c now : Int) (n k : Nat) (A : Option Addr) (L : List It) (w : World) (hS : Sl w A n L) :
    Calls Tryz.prog 11 #[.agg #[.int .i64 v, .int .i64 c, .int .i64 now, .slice A n k]] w fun e w' => e = .returned (.int .i64 (stE v c now L)) ∧ Up w w' := by
  have KM := Lib.hid (validSizes_any v c now)
  cases hm : mayB v c now with
  | false =>
    rw [stE_no (stB_may hm)]
    rw [hm] at KM
    clear hm hS
    go_enter Tryz.func11, Tryz.ntmps11
    go_wp2_with (go_at_call 33; (with_reducible refine (KM.out _).mono ?_); rintro e w' ⟨rfl, rfl⟩)
    go_ret
    refine ⟨rfl, ?_⟩
    repeat (first | exact Up.refl _ | refine Up.alloc ?_ _ _ | refine Up.setCell ?_ (by first | (simp; done) | (simp; omega) | omega) _ | refine Up.drewN ?_ _ | refine Up.drew ?_)
  | true =>
  rw [hm] at KM
  obtain ⟨hm1, hm2, hm3, hm4⟩ := mayB_true hm
  by_cases hl : c < (n : Int)
  · rw [stE_no (stB_len (by rw [hS.1]; exact hl))]
    clear hm hS hm1 hm2 hm3 hm4
    have t1 : decide (c < (n : Int)) = true := decide_eq_true hl
    go_enter Tryz.func11, Tryz.ntmps11
    go_wp2_with (go_at_call 33; (with_reducible refine (KM.out _).mono ?_); rintro e w' ⟨rfl, rfl⟩)
    go_ret
    refine ⟨rfl, ?_⟩
    repeat (first | exact Up.refl _ | refine Up.alloc ?_ _ _ | refine Up.setCell ?_ (by first | (simp; done) | (simp; omega) | omega) _ | refine Up.drewN ?_ _ | refine Up.drew ?_)
  have t1 : decide (c < (n : Int)) = false := decide_eq_false hl
  have hn9 : n ≤ 65536 := by omega
  have KV := Lib.hid (fun W (h : Sl W A n L) => valid8_up n k A L now (by omega) W h)
  cases hv : valB L now with
  | false =>
    rw [stE_no (stB_val hv)]
    rw [hv] at KV
    have HS := Lib.hid hS
    clear hm hS hm1 hm2 hm3 hm4 hv
    go_enter Tryz.func11, Tryz.ntmps11
    go_wp2_with (first | (go_at_call 33; (with_reducible refine (KM.out _).mono ?_); rintro e w' ⟨rfl, rfl⟩) | (go_at_call 35; (with_reducible refine (KV.out _ (HS.out.up ((Up.refl w).alloc _ _))).mono ?_); rintro e w' ⟨rfl, hu⟩; have HU := Lib.hid hu; clear hu))
    go_ret
    exact ⟨rfl, ((Up.refl w).alloc _ _).trans HU.out⟩
  | true =>
  rw [hv] at KV
  have HL := Lib.hid hS.1
  have HS := Lib.hid hS
  have HV := Lib.hid hv
  have HM := Lib.hid (show ∀ x : Bool, okB now v L = x → stE v c now L = if x = true then 0 else 2 from fun x hx => by
    cases x with
    | true => rw [stE_yes (stB_yes hm (by rw [hS.1]; omega) hv hx)]; rfl
    | false => rw [stE_no (stB_ok hx)]; rfl)
  generalize hr : stE v c now L = r at HM ⊢
  clear hr hS hv hm hm1 hm2 hl
  cases n with
  | zero =>
    obtain rfl : r = 0 := by
      have e1 : L = [] := List.length_eq_zero_iff.1 HL.out
      exact HM.out true (by subst e1; exact decide_eq_true (fun j hj => absurd hj (Nat.not_lt_zero _)))
    clear HM
    go_enter Tryz.func11, Tryz.ntmps11
    go_wp2_with (first | (go_at_call 33; (with_reducible refine (KM.out _).mono ?_); rintro e w' ⟨rfl, rfl⟩) | (go_at_call 35; (with_reducible refine (KV.out _ (HS.out.up ((Up.refl w).alloc _ _))).mono ?_); rintro e w1 ⟨rfl, hu⟩; have c0 := hu.keep w.heap.size 0 (.int .i64 v) (by simp [go_sem]); have c2 := hu.keep w.heap.size 2 (.int .i64 now) (by simp [go_sem]); have c3 := hu.keep w.heap.size 3 (.slice A 0 k) (by simp [go_sem]); have HU := Lib.hid hu; clear hu))
    go_quiet (fail)
    go_wp2_with fail
    go_loopw [49] (fun t wr => t = .int .i64 0 ∧ Hid (Up w1 wr)) (fun _ _ => 0)
    case atStart => exact ⟨rfl, Lib.hid ((Up.refl w1).drewN _)⟩
    case round =>
      obtain ⟨rfl, HW⟩ := hrel
      go_wp2_with fail
      go_ret
      exact ⟨rfl, (((Up.refl w).alloc _ _).trans HU.out).trans HW.out⟩
  | succ m =>
  obtain ⟨b, o, rfl, d0, _⟩ := HS.out.at_ (Nat.succ_pos m)
  simp only [Nat.zero_mul, Nat.add_zero] at d0
  have KL := Lib.hid (fun w => (live_any now v (L.getD 0 (0, 0)).1 w).mono (fun _ _ h => And.intro h.1 h.2.symm))
  have HQ := Lib.hid (asc_live (v := v) HV.out)
  have HB := Lib.hid (fun h => HM.out false (okB_bad (now := now) (v := v) (L := L) (j := 0) (by rw [HL.out]; exact Nat.succ_pos m) h))
  have HB : Hid (liveB now v (L.getD 0 (0, 0)).1 = false → r = 2) := Lib.hid (fun h => HB.out (fun hk => by rw [hk.1] at h; cases h))
  generalize hx : liveB now v (L.getD 0 (0, 0)).1 = x at HQ HB KL
  clear hx
  generalize (L.getD 0 (0, 0)).1 = p0 at d0 KL
  have z1 : (0 : Int) < (m : Int) + 1 := by omega
  have t2 : decide (c < (m : Int) + 1) = false := decide_eq_false (by have := of_decide_eq_false t1; omega)
  clear t1
  cases x with
  | false =>
    obtain rfl : r = 2 := HB.out rfl
    clear HM HB HQ
    go_enter Tryz.func11, Tryz.ntmps11
    go_wp2_with (first | (go_at_call 33; (with_reducible refine (KM.out _).mono ?_); rintro e w' ⟨rfl, rfl⟩) | (go_at_call 35; (with_reducible refine (KV.out _ (HS.out.up ((Up.refl w).alloc _ _))).mono ?_); rintro e w1 ⟨rfl, hu⟩; have c0 := hu.keep w.heap.size 0 (.int .i64 v) (by simp [go_sem]); have c2 := hu.keep w.heap.size 2 (.int .i64 now) (by simp [go_sem]); have c3 := hu.keep w.heap.size 3 (.slice (some ⟨b, o, none⟩) (m + 1) k) (by simp [go_sem]); have d1 := (((Up.refl w).alloc #[.int .i64 v, .int .i64 c, .int .i64 now, .slice (some ⟨b, o, none⟩) (m + 1) k] 24).trans hu).keep _ _ _ d0; have HU := Lib.hid hu; clear hu))
    go_quiet (first | (go_at_call 36; refine Calls.quiet_of_same (KL.out _)))
    go_wp2_with fail
    go_ret
    exact ⟨rfl, (((Up.refl w).alloc _ _).trans HU.out).drewN _⟩
  | true =>
    have HQ1 : Hid (∀ j, j < L.length → liveB now v (L.getD j (0, 0)).1 = true) := Lib.hid (HQ.out rfl)
    clear HB HQ
    have KI := Lib.hid value_any
    go_enter Tryz.func11, Tryz.ntmps11
    go_wp2_with (first | (go_at_call 33; (with_reducible refine (KM.out _).mono ?_); rintro e w' ⟨rfl, rfl⟩) | (go_at_call 35; (with_reducible refine (KV.out _ (HS.out.up ((Up.refl w).alloc _ _))).mono ?_); rintro e w1 ⟨rfl, hu⟩; have c0 := hu.keep w.heap.size 0 (.int .i64 v) (by simp [go_sem]); have c2 := hu.keep w.heap.size 2 (.int .i64 now) (by simp [go_sem]); have c3 := hu.keep w.heap.size 3 (.slice (some ⟨b, o, none⟩) (m + 1) k) (by simp [go_sem]); have d1 := (((Up.refl w).alloc #[.int .i64 v, .int .i64 c, .int .i64 now, .slice (some ⟨b, o, none⟩) (m + 1) k] 24).trans hu).keep _ _ _ d0; have HU := Lib.hid (((Up.refl w).alloc #[.int .i64 v, .int .i64 c, .int .i64 now, .slice (some ⟨b, o, none⟩) (m + 1) k] 24).trans hu); clear hu))
    go_quiet (first | (go_at_call 36; refine Calls.quiet_of_same (KL.out _)))
    go_wp2_with fail
    clear c0 c2 d0 d1
    go_loopw [49] (fun t wr => ∃ i : Nat, t = .int .i64 i ∧ i ≤ m + 1 ∧ Hid (∀ j, j < i → valueB (L.getD j (0, 0)).2 = true) ∧ Hid (Up w wr)) (fun t _ => m + 1 - (intOf t).toNat)
    case atStart => exact ⟨0, rfl, Nat.zero_le _, Lib.hid (fun j hj => absurd hj (Nat.not_lt_zero _)), Lib.hid (HU.out.drewN _)⟩
    case round =>
      obtain ⟨i, rfl, hin, HG, HW⟩ := hrel
      by_cases hi : i < m + 1
      · obtain ⟨b', o', hbo, d0, d1⟩ := (HS.out.up HW.out).at_ hi
        cases hbo
        have hil : i < L.length := by rw [HL.out]; exact hi
        have HB : Hid (valueB (L.getD i (0, 0)).2 = false → r = 2) := Lib.hid (fun h => HM.out false (okB_bad hil (fun hk => by rw [hk.2] at h; cases h)))
        have HY : Hid (valueB (L.getD i (0, 0)).2 = true → ∀ j, j < i + 1 → valueB (L.getD j (0, 0)).2 = true) := Lib.hid (fun h j hj => by
          rcases Nat.lt_or_ge j i with g | g
          · exact HG.out j g
          · obtain rfl : j = i := by omega
            exact h)
        generalize (L.getD i (0, 0)).1 = p0 at d0
        generalize (L.getD i (0, 0)).2 = p1 at d1 HB HY
        have f2 : (i : Int) < (m : Int) + 1 := by omega
        have f3 : (0 : Int) ≤ i := by omega
        have KJ := Lib.hid (KI.out p1)
        cases hp : valueB p1 with
        | false =>
          obtain rfl : r = 2 := HB.out hp
          rw [hp] at KJ
          clear hp HM HG HB HY
          go_wp2_with (go_at_call 34; (with_reducible refine (KJ.out _).mono ?_); rintro e w' ⟨rfl, rfl⟩)
          go_ret
          exact ⟨rfl, HW.out.alloc _ _⟩
        | true =>
          have HG1 := Lib.hid (HY.out hp)
          rw [hp] at KJ
          clear hp HG HB HY
          go_wp2_with (go_at_call 34; (with_reducible refine (KJ.out _).mono ?_); rintro e w' ⟨rfl, rfl⟩)
          go_roundw
          case rel => exact ⟨i + 1, by go_num, by omega, HG1, Lib.hid (HW.out.alloc _ _)⟩
          case measure => simp [intOf]; omega
      · obtain rfl : i = m + 1 := by omega
        obtain rfl : r = 0 := HM.out true (decide_eq_true (fun j hj => ⟨HQ1.out j hj, HG.out j (by rw [HL.out] at hj; exact hj)⟩))
        clear HM HG
        go_wp2_with fail
        go_ret
        exact ⟨rfl, HW.out⟩
end Go.Proofs.YtflahclphdlolaaGreat

/- What Validate of the reference of package recent returns. -/
namespace Go.Proofs.YtflahclphdlolaaGreat
open Go.RowKit

set_option maxHeartbeats 4000000 in
set_option maxRecDepth 100000 in
theorem rvalidate9_up (v c now : Int) (n k : Nat) (A : Option Addr) (L : List It) (w : World) (hS : Sl w A n L) :
    Calls Tryz.prog 22 #[.agg #[.int .i64 v, .int .i64 c, .int .i64 now, .slice A n k]] w fun e w' => e = .returned (.int .i64 (stE v c now L)) ∧ Up w w' := by
  have KM := Lib.hid (rmay_any v c now)
  cases hm : mayB v c now with
  | false =>
    rw [stE_no (stB_may hm)]
    rw [hm] at KM
    clear hm hS
    go_enter Tryz.func22, Tryz.ntmps22
    go_wp2_with (go_at_call 51; (with_reducible refine (KM.out _).mono ?_); rintro e w' ⟨rfl, rfl⟩)
    go_ret
    refine ⟨rfl, ?_⟩
    repeat (first | exact Up.refl _ | refine Up.alloc ?_ _ _ | refine Up.setCell ?_ (by first | (simp; done) | (simp; omega) | omega) _ | refine Up.drewN ?_ _ | refine Up.drew ?_)
  | true =>
  rw [hm] at KM
  obtain ⟨hm1, hm2, hm3, hm4⟩ := mayB_true hm
  by_cases hl : c < (n : Int)
  · rw [stE_no (stB_len (by rw [hS.1]; exact hl))]
    clear hm hS hm1 hm2 hm3 hm4
    have t1 : decide (c < (n : Int)) = true := decide_eq_true hl
    go_enter Tryz.func22, Tryz.ntmps22
    go_wp2_with (go_at_call 51; (with_reducible refine (KM.out _).mono ?_); rintro e w' ⟨rfl, rfl⟩)
    go_ret
    refine ⟨rfl, ?_⟩
    repeat (first | exact Up.refl _ | refine Up.alloc ?_ _ _ | refine Up.setCell ?_ (by first | (simp; done) | (simp; omega) | omega) _ | refine Up.drewN ?_ _ | refine Up.drew ?_)
  have t1 : decide (c < (n : Int)) = false := decide_eq_false hl
  have hn9 : n ≤ 65536 := by omega
  have KV := Lib.hid (fun W (h : Sl W A n L) => rvalid8_up n k A L now (by omega) W h)
  cases hv : valB L now with
  | false =>
    rw [stE_no (stB_val hv)]
    rw [hv] at KV
    have HS := Lib.hid hS
    clear hm hS hm1 hm2 hm3 hm4 hv
    go_enter Tryz.func22, Tryz.ntmps22
    go_wp2_with (first | (go_at_call 51; (with_reducible refine (KM.out _).mono ?_); rintro e w' ⟨rfl, rfl⟩) | (go_at_call 52; (with_reducible refine (KV.out _ (HS.out.up ((Up.refl w).alloc _ _))).mono ?_); rintro e w' ⟨rfl, hu⟩; have HU := Lib.hid hu; clear hu))
    go_ret
    exact ⟨rfl, ((Up.refl w).alloc _ _).trans HU.out⟩
  | true =>
  rw [hv] at KV
  have HL := Lib.hid hS.1
  have HS := Lib.hid hS
  have HM := Lib.hid (show ∀ x : Bool, okB now v L = x → stE v c now L = if x = true then 0 else 2 from fun x hx => by
    cases x with
    | true => rw [stE_yes (stB_yes hm (by rw [hS.1]; omega) hv hx)]; rfl
    | false => rw [stE_no (stB_ok hx)]; rfl)
  generalize hr : stE v c now L = r at HM ⊢
  have KJ := Lib.hid (rlive_any now v)
  have KI := Lib.hid rvalue_any
  clear hr hS hv hm hm1 hm2 hl
  go_enter Tryz.func22, Tryz.ntmps22
  go_wp2_with (first | (go_at_call 51; (with_reducible refine (KM.out _).mono ?_); rintro e w' ⟨rfl, rfl⟩) | (go_at_call 52; (with_reducible refine (KV.out _ (HS.out.up ((Up.refl w).alloc _ _))).mono ?_); rintro e w1 ⟨rfl, hu⟩; have c0 := hu.keep w.heap.size 0 (.int .i64 v) (by simp [go_sem]); have c2 := hu.keep w.heap.size 2 (.int .i64 now) (by simp [go_sem]); have c3 := hu.keep w.heap.size 3 (.slice A n k) (by simp [go_sem]); have HU := Lib.hid (((Up.refl w).alloc #[.int .i64 v, .int .i64 c, .int .i64 now, .slice A n k] 24).trans hu); clear hu))
  have HC0 := Lib.hid c0
  have HC2 := Lib.hid c2
  clear c0 c2 c3
  go_loopw [32] (fun t wr => ∃ i : Nat, t = .int .i64 i ∧ i ≤ n ∧ Hid (∀ j, j < i → okI now v L j) ∧ Hid (Up w1 wr)) (fun t _ => n - (intOf t).toNat)
  case atStart => exact ⟨0, rfl, Nat.zero_le _, Lib.hid (fun j hj => absurd hj (Nat.not_lt_zero _)), Lib.hid (Up.refl _)⟩
  case round =>
    obtain ⟨i, rfl, hin, HG, HW⟩ := hrel
    by_cases hi : i < n
    · obtain ⟨b', o', rfl, d0, d1⟩ := (HS.out.up (HU.out.trans HW.out)).at_ hi
      have hil : i < L.length := by rw [HL.out]; exact hi
      have c0 := HW.out.keep _ _ _ HC0.out
      have c2 := HW.out.keep _ _ _ HC2.out
      have hb0 : w.heap.size < wr.heap.size := World.block_lt_of_cell? _ _ c0
      have HB : Hid (¬ okI now v L i → r = 2) := Lib.hid (fun h => HM.out false (okB_bad hil h))
      have HY : Hid (okI now v L i → ∀ j, j < i + 1 → okI now v L j) := Lib.hid (fun h j hj => by
        rcases Nat.lt_or_ge j i with g | g
        · exact HG.out j g
        · obtain rfl : j = i := by omega
          exact h)
      have HO : Hid (okI now v L i ↔ liveB now v (L.getD i (0, 0)).1 = true ∧ valueB (L.getD i (0, 0)).2 = true) := Lib.hid Iff.rfl
      generalize okI now v L i = oi at HB HY HO
      generalize (L.getD i (0, 0)).1 = p0 at d0 HO
      generalize (L.getD i (0, 0)).2 = p1 at d1 HO
      have f2 : (i : Int) < n := by omega
      have f3 : (0 : Int) ≤ i := by omega
      have KA := Lib.hid (KJ.out p0)
      have KB := Lib.hid (KI.out p1)
      generalize liveB now v p0 = x at KA HO
      generalize valueB p1 = y at KB HO
      cases x with
      | false =>
        obtain rfl : r = 2 := HB.out (fun h => by have := (HO.out.1 h).1; cases this)
        clear HM HG HB HY HO KB
        go_wp2_with (go_at_call 53; (with_reducible refine (KA.out _).mono ?_); rintro e w' ⟨rfl, rfl⟩)
        go_ret
        exact ⟨rfl, (HU.out.trans HW.out).alloc _ _⟩
      | true =>
        cases y with
        | false =>
          obtain rfl : r = 2 := HB.out (fun h => by have := (HO.out.1 h).2; cases this)
          clear HM HG HB HY HO
          go_wp2_with (first | (go_at_call 53; (with_reducible refine (KA.out _).mono ?_); rintro e w' ⟨rfl, rfl⟩) | (go_at_call 54; (with_reducible refine (KB.out _).mono ?_); rintro e w' ⟨rfl, rfl⟩))
          go_ret
          exact ⟨rfl, (HU.out.trans HW.out).alloc _ _⟩
        | true =>
          have HG1 := Lib.hid (HY.out (HO.out.2 ⟨rfl, rfl⟩))
          clear HG HB HY HO
          go_wp2_with (first | (go_at_call 53; (with_reducible refine (KA.out _).mono ?_); rintro e w' ⟨rfl, rfl⟩) | (go_at_call 54; (with_reducible refine (KB.out _).mono ?_); rintro e w' ⟨rfl, rfl⟩))
          go_roundw
          case rel => exact ⟨i + 1, by go_num, by omega, HG1, Lib.hid (HW.out.alloc _ _)⟩
          case measure => simp [intOf]; omega
    · obtain rfl : i = n := by omega
      obtain rfl : r = 0 := HM.out true (decide_eq_true (fun j hj => HG.out j (by rw [HL.out] at hj; exact hj)))
      clear HM HG
      go_wp2_with fail
      go_ret
      exact ⟨rfl, HU.out.trans HW.out⟩
end Go.Proofs.YtflahclphdlolaaGreat
