/- Proved: for any list of numbers and any number the law BucketsKeep returns true: a list stays in order by any insertions and expiries, with few buckets and narrow bounds. Conditions: none. -/
import Derived.Test.YtnhekeohbnmodaaRows
import Derived.Lib.SmallJoins
import Derived.OpenShut
import Derived.ProofKit
import Derived.SizedLaws
import Derived.WalkKit
import Derived.Test.YtnhekeohbnmodaaZBValid
import Derived.Test.YtnhekeohbnmodaaZBWithin
import Derived.Test.YtnhekeohbnmodaaZCFrame
import Derived.Test.YtnhekeohbnmodaaZDBase
import Derived.Test.YtnhekeohbnmodaaZGBase
import Derived.Test.YtnhekeohbnmodaaZGFrame
import Derived.Test.YtnhekeohbnmodaaZGMod
import Derived.Test.YtnhekeohbnmodaaZHCan
import Derived.Test.YtnhekeohbnmodaaZHExp
import Derived.Test.YtnhekeohbnmodaaZHLaws
import Derived.Test.YtnhekeohbnmodaaZHMath
import Derived.Test.YtnhekeohbnmodaaZHNarrow
import Derived.Test.YtnhekeohbnmodaaZHRVal
import Derived.Test.YtnhekeohbnmodaaZHRow
import Derived.Test.YtnhekeohbnmodaaZHVal
import Derived.Test.YtnhekeohbnmodaaZJBWord
import Derived.Test.YtnhekeohbnmodaaZJHDel
import Derived.Test.YtnhekeohbnmodaaZJHNum
import Derived.Test.YtnhekeohbnmodaaZJHSmall
import Derived.Test.YtnhekeohbnmodaaZMath
import Derived.Test.YtnhekeohbnmodaaZWFormat
import Derived.Test.YtnhekeohbnmodaaZWide
namespace Go.Proofs.Ytnhekeohbnmodaa
open Go.ChangeShapes Go.WideShapes Go.ChangeAt Go.RowKit Go.Joins
set_option linter.unusedVariables false

theorem bucketsKeep_own : ownKnob Try.prog.godebug = none := by kernel_rfl

set_option maxHeartbeats 8000000 in
set_option maxRecDepth 100000 in
theorem bucketsKeep_walk (n k1 : Nat) (A : Option Addr) (L : List Int) (hk1 : n ≤ k1) (hsz : n * 8 ≤ 140737488351232) (hin : ∀ x ∈ L, In x) (k0 : Int) (_ : (Lit.int .i64 k0).wf = true) (w : World) (hS : Sn w A n L) :
    Calls Try.prog 11 #[.slice A n k1, .int .i64 k0] w fun e w' => e = .returned (.bool true) ∧ Up w w' := by
  have KA := Lib.hid awake10_up
  have K1 := Lib.hid (fun W => int_any k0 5 (by omega) (by omega) W)
  have b3 : 0 ≤ k0 % 5 := Int.emod_nonneg _ (by omega)
  have b4 : k0 % 5 < 5 := Int.emod_lt_of_pos _ (by omega)
  generalize k0 % 5 = k at *
  have HS := Lib.hid hS
  have HL := Lib.hid hS.1
  have HI := Lib.hid hin
  have KM := Lib.hid (fun a b h1 h2 W => modm_any a b h1 h2 W)
  clear hS hin
  go_enter Try.func11, Try.ntmps11
  go_wp2_with (go_at_call 35; (with_reducible refine (K1.out _).mono ?_); rintro e w' ⟨rfl, rfl⟩)
  go_loopw [5, 6, 7] (fun s5 s6 s7 wr => ∃ (i n' k' : Nat) (A' : Option Addr) (X : List It) (t : Int), s5 = .slice A' n' k' ∧ s6 = .int .i64 t ∧ s7 = .int .i64 i ∧ i ≤ 120 ∧ i ≤ n ∧ n' ≤ k' ∧ 0 ≤ t ∧ t ≤ 2 * (i : Int) ∧ Hid (Sl wr A' n' X) ∧ Hid (Va X (1 + k)) ∧ Hid (totB X ≤ i) ∧ Hid (∀ x ∈ X, x.1 ≤ t) ∧ Hid (Up w wr)) (fun _ _ s7 _ => n - (intOf s7).toNat)
  case atStart => exact ⟨0, 0, 0, none, [], 0, rfl, rfl, rfl, by omega, by omega, by omega, by omega, by omega, Lib.hid Sl.none_, Lib.hid (Va.nil (by omega) (by omega)), Lib.hid (by simp [totB]), Lib.hid (fun x hx => by cases hx), Lib.hid (Up.refl _)⟩
  case round =>
    obtain ⟨i, n', k', A', X, t, rfl, rfl, rfl, hi, hin, hnk, ht0, ht1, HX, HV, HT, HQ, HU⟩ := hrel
    by_cases hc : i < n ∧ i < 120
    · obtain ⟨hc1, hc2⟩ := hc
      have hX1 := HX.out.1
      have hsh := HV.out.short
      have htt := HT.out
      have htl := totB_low X
      have hn' : n' ≤ 120 := by omega
      obtain ⟨b, o, rfl, d0⟩ := (HS.out.up HU.out).2 (by omega)
      have d0 := d0 i hc1
      have ha : In (L.getD i 0) := HI.out _ (by rw [show L.getD i 0 = L[i]'(by rw [HL.out]; exact hc1) by simp [List.getD, HL.out, hc1]]; exact List.getElem_mem _)
      have HD := Lib.hid d0
      generalize L.getD i 0 = a at *
      obtain ⟨a6, h6⟩ : ∃ a6, a.tdiv 6 = a6 := ⟨_, rfl⟩
      have hw6 : wrap64 (a.tdiv 6) = a6 := by
        obtain ⟨q1, q2⟩ := ha
        rw [← h6]
        have h := wrap_i64_tdiv a 6 q1 q2 (by omega)
        rw [IntKind.wrap_i64] at h
        unfold wrap64
        omega
      clear h6
      have f1 : (i : Int) < n := by omega
      have f2 : (i : Int) < 120 := by omega
      have f3 : (0 : Int) ≤ i := by omega
      have KT1 := Lib.hid (fun W h => total10_up n' k' A' X (by omega) W h)
      have M6 := Lib.hid (KM.out a 6 (by omega) (by omega))
      by_cases h5 : a % 6 = 5
      · rw [h5] at M6
        have M5 := Lib.hid (KM.out a6 5 (by omega) (by omega))
        have c1 : 0 ≤ a6 % 5 := Int.emod_nonneg _ (by omega)
        have c2 : a6 % 5 < 5 := Int.emod_lt_of_pos _ (by omega)
        generalize a6 % 5 = c at *
        have KE := Lib.hid (fun W h => expire_up n' k' A' X (t - c) (by omega) hnk W h)
        have KT2 := Lib.hid (fun n2 k2 A2 (h2 : n2 ≤ 1000) W h => total10_up n2 k2 A2 (exL X (t - c)) (by omega) W h)
        obtain ⟨hvx, hlx⟩ := exL_va (f := t - c) HV.out HQ.out
        have htx := exL_tot X (t - c)
        generalize exL X (t - c) = Y at *
        have HVY := Lib.hid hvx
        have HLY := Lib.hid hlx
        have hty := totB_low Y
        have hshY := hvx.short
        have HTY := Lib.hid (show totB Y ≤ i by omega)
        obtain ⟨ty, hty2⟩ : ∃ ty, totB Y = ty := ⟨_, rfl⟩
        obtain ⟨tx, htx2⟩ : ∃ tx, totB X = tx := ⟨_, rfl⟩
        rw [hty2] at KT2 htx hty hshY
        rw [htx2] at KT1 htx htt htl hsh
        have HTYE := Lib.hid hty2
        clear hvx hlx hty2 htx2 hX1 ha h5
        go_wp2_with (first | (go_at_call 16; (with_reducible refine (KT1.out _ HX.out).mono ?_); rintro e w1 ⟨rfl, hu⟩; have HU1 := Lib.hid (HU.out.trans hu); have HX1 := Lib.hid (HX.out.up hu); have e0 := hu.keep _ _ _ HD.out; clear hu) | (go_at_call 23; (with_reducible refine (M6.out _).mono ?_); rintro e w' ⟨rfl, rfl⟩) | (go_at_call 23; (with_reducible refine (M5.out _).mono ?_); rintro e w' ⟨rfl, rfl⟩) | (go_at_call 24; (with_reducible refine (KE.out _ HX1.out).mono ?_); rintro e w2 ⟨A2, n2, k2, rfl, hn2, ho2, hu⟩; obtain ⟨A2', k2', e2, hk2, hs2⟩ := ho2.sl; cases e2; have HU2 := Lib.hid (HU1.out.trans hu); have HX2 := Lib.hid hs2; have h9 : ¬ (n' : Int) < n2 := (by omega); clear hu ho2 hs2) | (go_at_call 16; (with_reducible refine (KT2.out n2 k2 A2 (by omega) _ HX2.out).mono ?_); rintro e w3 ⟨rfl, hu⟩; have HU3 := Lib.hid (HU2.out.trans hu); have HX3 := Lib.hid (HX2.out.up hu); clear hu) | (go_at_call 29; fail))
        have hvx := HVY.out
        have hlx := HLY.out
        have htx9 := HTY.out
        have hT30 : totB Y ≤ 1073741824 := by omega
        have hn2 : n2 ≤ 1000 := by omega
        have htx := HTY.out
        have htl9 := totB_low Y
        obtain ⟨qa, qm, qb, hq, ia, im, ib, hbv, hwi⟩ := hvx.query hT30
        have KQ := Lib.hid (fun W (h : Sl W A2 n2 Y) => query10_up n2 k2 A2 Y (by omega) hvx.lv W h)
        rw [hq] at KQ
        have KV := Lib.hid (fun W (h : Sl W A2 n2 Y) => rvalid10_up n2 k2 A2 Y (1 + k) (by omega) W h)
        rw [vaB_iff.2 hvx] at KV
        have KT := Lib.hid (fun W (h : Sl W A2 n2 Y) => rtotal10_up n2 k2 A2 Y (by omega) W h)
        have KO := Lib.hid (fun W => rmost_any (1 + k) (totB Y) ⟨by omega, by omega⟩ W)
        have hmo := hvx.most hT30
        have KB := Lib.hid (fun W => bvalid_up qa 1 qm 1 qb 1 ia ⟨by omega, by omega⟩ im ⟨by omega, by omega⟩ ib ⟨by omega, by omega⟩ W)
        rw [hbv] at KB
        have KW := Lib.hid (fun W => within_up qa 1 qm 1 qb 1 (1 + k) qa 1 ia ⟨by omega, by omega⟩ im ⟨by omega, by omega⟩ ib ⟨by omega, by omega⟩ ⟨by omega, by omega⟩ ia ⟨by omega, by omega⟩ W)
        rw [hwi] at KW
        have HVX := Lib.hid hvx
        have HLX := Lib.hid hlx
        have HTX := Lib.hid htx
        have hmo2 : (n2 : Int) ≤ moZ (1 + k) (totB Y) := by rw [← HX3.out.1]; exact hmo
        generalize moZ (1 + k) (totB Y) = mo at *
        generalize hty : totB Y = ty at *
        have HTY := Lib.hid hty
        clear hq ia im ib hbv hwi hvx hmo hlx htx hty
        go_wp2_with (first | (go_at_call 29; (with_reducible refine (KQ.out _ HX3.out).mono ?_); rintro e w5 ⟨rfl, hu5⟩; have HU5 := Lib.hid (HU3.out.trans hu5); have HS5 := Lib.hid (HX3.out.up (hu5.alloc #[.int .i64 qa, .int .i64 1, .int .i64 qm, .int .i64 1, .int .i64 qb, .int .i64 1] 43)); clear hu5) | (go_at_call 15; (with_reducible refine (KV.out _ HS5.out).mono ?_); rintro e w6 ⟨rfl, hu6⟩; have c0 := hu6.keep w5.heap.size 0 (.int .i64 qa) (by simp [go_sem]); have c1 := hu6.keep w5.heap.size 1 (.int .i64 1) (by simp [go_sem]); have c2 := hu6.keep w5.heap.size 2 (.int .i64 qm) (by simp [go_sem]); have c3 := hu6.keep w5.heap.size 3 (.int .i64 1) (by simp [go_sem]); have c4 := hu6.keep w5.heap.size 4 (.int .i64 qb) (by simp [go_sem]); have c5 := hu6.keep w5.heap.size 5 (.int .i64 1) (by simp [go_sem]); have HV6 := Lib.hid hu6; have HU6 := Lib.hid ((HU5.out.alloc #[.int .i64 qa, .int .i64 1, .int .i64 qm, .int .i64 1, .int .i64 qb, .int .i64 1] 43).trans hu6); have HS6 := Lib.hid (HS5.out.up hu6); clear hu6) | (go_at_call 17; (with_reducible refine (KT.out _ HS6.out).mono ?_); rintro e w7 ⟨rfl, hu7⟩; have d0 := hu7.keep _ _ _ c0; have d1 := hu7.keep _ _ _ c1; have d2 := hu7.keep _ _ _ c2; have d3 := hu7.keep _ _ _ c3; have d4 := hu7.keep _ _ _ c4; have d5 := hu7.keep _ _ _ c5; have HV7 := Lib.hid (HV6.out.trans hu7); have HU7 := Lib.hid (HU6.out.trans hu7); have HS7 := Lib.hid (HS6.out.up hu7); clear hu7) | (go_at_call 34; (with_reducible refine (KO.out _).mono ?_); rintro e w' ⟨rfl, rfl⟩) | (go_at_call 36; (with_reducible refine (KB.out _).mono ?_); rintro e w8 ⟨rfl, hu8⟩; have g0 := hu8.keep _ _ _ d0; have g1 := hu8.keep _ _ _ d1; have g2 := hu8.keep _ _ _ d2; have g3 := hu8.keep _ _ _ d3; have g4 := hu8.keep _ _ _ d4; have g5 := hu8.keep _ _ _ d5; have HU8 := Lib.hid (HU7.out.trans hu8); have HS8 := Lib.hid (HS7.out.up hu8); clear hu8) | (go_at_call 37; (with_reducible refine (KW.out _).mono ?_); rintro e w9 ⟨rfl, hu9⟩; have HU9 := Lib.hid (HU8.out.trans hu9); have HS9 := Lib.hid (HS8.out.up hu9); clear hu9))
        go_roundw
        case rel => exact ⟨i + 1, n2, k2, A2, Y, t, rfl, rfl, by go_num, by omega, by omega, by omega, by omega, by omega, HS9, HVX, Lib.hid (by have := HTX.out; have := HTY.out; omega), HLX, HU9⟩
        case measure => simp [intOf]; omega
      · have M5 := Lib.hid (KM.out a6 3 (by omega) (by omega))
        have c1 : 0 ≤ a6 % 3 := Int.emod_nonneg _ (by omega)
        have c2 : a6 % 3 < 3 := Int.emod_lt_of_pos _ (by omega)
        generalize a6 % 3 = c at *
        have t5 : (a % 6 == 5) = false := by simp [h5]
        have hl9 : ∀ x ∈ X, x.1 ≤ t + c := fun x hx => by have := HQ.out x hx; omega
        have KE := Lib.hid (fun W h => insert_up n' k' A' X (1 + k) (t + c) (by omega) W h)
        rw [imL_one HV.out (by omega) (by omega) hl9 (by omega)] at KE
        obtain ⟨hvx, htx, hlx⟩ := puB_va HV.out (by omega) (by omega) hl9 (by omega)
        generalize puB (1 + k) (t + c) X = Y at *
        have KT2 := Lib.hid (fun n2 k2 A2 (h2 : n2 ≤ 2000) W h => total10_up n2 k2 A2 Y (by omega) W h)
        have HVY := Lib.hid hvx
        have HLY := Lib.hid hlx
        have HTY := Lib.hid (show totB Y ≤ (i : Int) + 1 by omega)
        have hshY := hvx.short
        obtain ⟨tx, htx2⟩ : ∃ tx, totB X = tx := ⟨_, rfl⟩
        rw [htx2] at htx KT1 htt htl hsh
        rw [htx] at KT2 hshY
        have HTYE := Lib.hid htx
        have t6 : ((tx + 1) != (tx + 1)) = false := by simp
        clear hvx hlx htx htx2 hX1 ha hl9
        go_wp2_with (first | (go_at_call 16; (with_reducible refine (KT1.out _ HX.out).mono ?_); rintro e w1 ⟨rfl, hu⟩; have HU1 := Lib.hid (HU.out.trans hu); have HX1 := Lib.hid (HX.out.up hu); have e0 := hu.keep _ _ _ HD.out; clear hu) | (go_at_call 23; (with_reducible refine (M6.out _).mono ?_); rintro e w' ⟨rfl, rfl⟩) | (go_at_call 23; (with_reducible refine (M5.out _).mono ?_); rintro e w' ⟨rfl, rfl⟩) | (go_at_call 19; (with_reducible refine (KE.out _ HX1.out).mono ?_); rintro e w2 ⟨A2, n2, k2, rfl, hn2, ho2, hu⟩; obtain ⟨A2', k2', e2, hk2, hs2⟩ := ho2.sl; cases e2; have HU2 := Lib.hid (HU1.out.trans hu); have HX2 := Lib.hid hs2; clear hu ho2 hs2) | (go_at_call 16; (with_reducible refine (KT2.out n2 k2 A2 (by omega) _ HX2.out).mono ?_); rintro e w3 ⟨rfl, hu⟩; have HU3 := Lib.hid (HU2.out.trans hu); have HX3 := Lib.hid (HX2.out.up hu); clear hu) | (go_at_call 29; fail))
        have hvx := HVY.out
        have hlx := HLY.out
        have hT30 : totB Y ≤ 1073741824 := by have := HTY.out; omega
        have htx := HTY.out
        have htl9 := totB_low Y
        obtain ⟨qa, qm, qb, hq, ia, im, ib, hbv, hwi⟩ := hvx.query hT30
        have KQ := Lib.hid (fun W (h : Sl W A2 n2 Y) => query10_up n2 k2 A2 Y (by omega) hvx.lv W h)
        rw [hq] at KQ
        have KV := Lib.hid (fun W (h : Sl W A2 n2 Y) => rvalid10_up n2 k2 A2 Y (1 + k) (by omega) W h)
        rw [vaB_iff.2 hvx] at KV
        have KT := Lib.hid (fun W (h : Sl W A2 n2 Y) => rtotal10_up n2 k2 A2 Y (by omega) W h)
        have KO := Lib.hid (fun W => rmost_any (1 + k) (totB Y) ⟨by omega, by omega⟩ W)
        have hmo := hvx.most hT30
        have KB := Lib.hid (fun W => bvalid_up qa 1 qm 1 qb 1 ia ⟨by omega, by omega⟩ im ⟨by omega, by omega⟩ ib ⟨by omega, by omega⟩ W)
        rw [hbv] at KB
        have KW := Lib.hid (fun W => within_up qa 1 qm 1 qb 1 (1 + k) qa 1 ia ⟨by omega, by omega⟩ im ⟨by omega, by omega⟩ ib ⟨by omega, by omega⟩ ⟨by omega, by omega⟩ ia ⟨by omega, by omega⟩ W)
        rw [hwi] at KW
        have HVX := Lib.hid hvx
        have HLX := Lib.hid hlx
        have HTX := Lib.hid htx
        have hmo2 : (n2 : Int) ≤ moZ (1 + k) (totB Y) := by rw [← HX3.out.1]; exact hmo
        generalize moZ (1 + k) (totB Y) = mo at *
        generalize hty : totB Y = ty at *
        have HTY := Lib.hid hty
        clear hq ia im ib hbv hwi hvx hmo hlx htx hty
        go_wp2_with (first | (go_at_call 29; (with_reducible refine (KQ.out _ HX3.out).mono ?_); rintro e w5 ⟨rfl, hu5⟩; have HU5 := Lib.hid (HU3.out.trans hu5); have HS5 := Lib.hid (HX3.out.up (hu5.alloc #[.int .i64 qa, .int .i64 1, .int .i64 qm, .int .i64 1, .int .i64 qb, .int .i64 1] 43)); clear hu5) | (go_at_call 15; (with_reducible refine (KV.out _ HS5.out).mono ?_); rintro e w6 ⟨rfl, hu6⟩; have c0 := hu6.keep w5.heap.size 0 (.int .i64 qa) (by simp [go_sem]); have c1 := hu6.keep w5.heap.size 1 (.int .i64 1) (by simp [go_sem]); have c2 := hu6.keep w5.heap.size 2 (.int .i64 qm) (by simp [go_sem]); have c3 := hu6.keep w5.heap.size 3 (.int .i64 1) (by simp [go_sem]); have c4 := hu6.keep w5.heap.size 4 (.int .i64 qb) (by simp [go_sem]); have c5 := hu6.keep w5.heap.size 5 (.int .i64 1) (by simp [go_sem]); have HV6 := Lib.hid hu6; have HU6 := Lib.hid ((HU5.out.alloc #[.int .i64 qa, .int .i64 1, .int .i64 qm, .int .i64 1, .int .i64 qb, .int .i64 1] 43).trans hu6); have HS6 := Lib.hid (HS5.out.up hu6); clear hu6) | (go_at_call 17; (with_reducible refine (KT.out _ HS6.out).mono ?_); rintro e w7 ⟨rfl, hu7⟩; have d0 := hu7.keep _ _ _ c0; have d1 := hu7.keep _ _ _ c1; have d2 := hu7.keep _ _ _ c2; have d3 := hu7.keep _ _ _ c3; have d4 := hu7.keep _ _ _ c4; have d5 := hu7.keep _ _ _ c5; have HV7 := Lib.hid (HV6.out.trans hu7); have HU7 := Lib.hid (HU6.out.trans hu7); have HS7 := Lib.hid (HS6.out.up hu7); clear hu7) | (go_at_call 34; (with_reducible refine (KO.out _).mono ?_); rintro e w' ⟨rfl, rfl⟩) | (go_at_call 36; (with_reducible refine (KB.out _).mono ?_); rintro e w8 ⟨rfl, hu8⟩; have g0 := hu8.keep _ _ _ d0; have g1 := hu8.keep _ _ _ d1; have g2 := hu8.keep _ _ _ d2; have g3 := hu8.keep _ _ _ d3; have g4 := hu8.keep _ _ _ d4; have g5 := hu8.keep _ _ _ d5; have HU8 := Lib.hid (HU7.out.trans hu8); have HS8 := Lib.hid (HS7.out.up hu8); clear hu8) | (go_at_call 37; (with_reducible refine (KW.out _).mono ?_); rintro e w9 ⟨rfl, hu9⟩; have HU9 := Lib.hid (HU8.out.trans hu9); have HS9 := Lib.hid (HS8.out.up hu9); clear hu9))
        go_roundw
        case rel => exact ⟨i + 1, n2, k2, A2, Y, t + c, rfl, rfl, by go_num, by omega, by omega, by omega, by omega, by omega, HS9, HVX, Lib.hid (by have := HTX.out; have := HTY.out; omega), HLX, HU9⟩
        case measure => simp [intOf]; omega
    · have hf : ¬ ((i : Int) < n ∧ (i : Int) < 120) := by omega
      by_cases h1 : i < n
      · obtain rfl : i = 120 := by omega
        have f1 : ((120 : Nat) : Int) < n := by omega
        go_wp2_with (go_at_call 13; (with_reducible refine (KA.out _).mono ?_); rintro e w5 ⟨rfl, hu⟩)
        go_ret
        exact ⟨rfl, HU.out.trans hu⟩
      · have f1 : ¬ (i : Int) < n := by omega
        go_wp2_with (go_at_call 13; (with_reducible refine (KA.out _).mono ?_); rintro e w5 ⟨rfl, hu⟩)
        go_ret
        exact ⟨rfl, HU.out.trans hu⟩

set_option maxRecDepth 100000 in
theorem bucketsKeep_lifted (os : Os) (started : os.Started) (H : Type) (enc : TypeId × Value → H) :
    ReturnsInHanded {} Try.checked os 11 .any (Rows.bucketsKeepSpec.pre6 enc Try.prog Try.f11 Rows.bucketsKeepRow.domain false) (Rows.bucketsKeepSpec.post enc Try.prog Try.f11 false true false false) := by
  refine returnsInHanded_of_change_sized (C := Try.checked) bucketsKeep_own started (by kernel_rfl) Try.func11
    (ChangeSpec.witness6 (enc := enc) (C := Try.checked) false ⟨#[], #[.slice none 0 0, .int .i64 0], []⟩ 8 (by kernel_rfl) (by kernel_rfl) (by kernel_rfl) (by kernel_rfl)) ?_
  intro W base args ds gs before hval0 hW hcnd hsz0 _
  have hval : ∀ (j : Nat) t v, Try.f11.params[j]? = some t → args[j]? = some v → Value.okWide Try.prog W .any base t v := hval0
  have hW' := hW
  obtain ⟨p, q, hA0, hV, rfl, hfz, hnd⟩ := hW'
  have hA : DataW.TrodAll enc Try.prog W 0 (fun _ => true) true Try.f11.params.toList args.toList ds p := hA0
  have hsz : (DataW.weightsEach Try.prog (Try.f11.params.toList ++ Rows.bucketsKeepSpec.plain.varTypes Try.prog) (ds ++ gs)).all (· ≤ reachBytes) = true := hsz0
  rw [Try.params11] at hA hval hsz
  obtain ⟨v0, vs0, d0, ds0, p0, q0, hargs, rfl, rfl, h0, r0⟩ := trodAll_cons hA
  obtain ⟨v1, vs1, d1, ds1, p1, q1, rfl, rfl, rfl, h1, r1⟩ := trodAll_cons r0
  obtain ⟨rfl, rfl, rfl⟩ := trodAll_nil r1
  obtain rfl : args = #[v0, v1] := by cases args; simp_all
  obtain ⟨rfl, rfl⟩ := trodVars_none hV
  have hlt := fun x hx => hW.lt x hx
  have k0 := h0
  obtain ⟨n0, m0, A0, L0, rfl, hk0, hS0, hI0, hz0⟩ := open_nums2 (hval 0 51 v0 rfl rfl) h0
  have k1 := h1
  obtain ⟨a1, rfl, rfl, rfl, w1⟩ := open_int Try.underlying3 (hval 1 3 v1 rfl rfl) h1
  refine (bucketsKeep_walk n0 m0 A0 L0 hk0 (hz0 (fun es sp e => by subst e; exact sized_slice hsz (j := 0) (t := 51) (e := 2) rfl rfl Try.underlying51)) hI0 a1 w1 W hS0).mono fun e W' ⟨he, hg⟩ => ?_
  subst he
  exact ⟨_, rfl, post_of_same (pv := []) hW (fun _ _ _ => (trodAll_cons_mk (shut_bool Try.underlying4 _) trodAll_mk0)) (fun sp hsp => (trodAll_cons_mk (stay (by kernel_rfl) (of_decide_eq_true (by kernel_rfl)) k0 hg hlt (fun x hx => by first | (simp at hx; done) | simp [hx]) hsp) (trodAll_cons_mk (stay (by kernel_rfl) (of_decide_eq_true (by kernel_rfl)) k1 hg hlt (fun x hx => by first | (simp at hx; done) | simp [hx]) hsp) trodAll_mk0))) (fun _ _ => rfl) rfl
    (hg.grown.frame _) hg.grown.2.1 (ok_one (by kernel_rfl) rfl (okWide_bool_mk Try.underlying4 _))⟩

theorem bucketsKeep_over : Rows.bucketsKeepRow.holds Try.pinned (OpenSpec.ofChange Rows.bucketsKeepSpec) :=
  OpenClaim.holds_of_wide 11 Try.f11 rfl rfl rfl rfl rfl rfl rfl ⟨rfl, rfl, rfl, rfl, rfl⟩ rfl rfl rfl rfl rfl (by kernel_rfl) Try.func11 (by kernel_rfl)
    (of_decide_eq_true (by kernel_rfl)) (by unfold Func.isWrapper; first | (rw [if_pos (by decide +kernel)]; kernel_rfl) | (rw [if_neg (by decide +kernel)]; exact ⟨rfl, rfl⟩))
    (fun os started H enc _ => bucketsKeep_lifted os started H enc)

theorem bucketsKeep_holds : Rows.BucketsKeepSaid :=
  bucketsKeep_over
#print axioms bucketsKeep_holds
end Go.Proofs.Ytnhekeohbnmodaa
