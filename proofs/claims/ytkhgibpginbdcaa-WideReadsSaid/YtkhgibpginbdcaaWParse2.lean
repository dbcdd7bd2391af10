/- What the reference's Parse returns. -/
import Derived.Test.YtkhgibpginbdcaaWParse
import Derived.Test.YtkhgibpginbdcaaWPow2
namespace Go.Proofs.Ytkhgibpginbdcaa
open Go.RowKit

set_option maxHeartbeats 4000000 in
set_option maxRecDepth 100000 in
theorem rparse_up (s : ByteArray) (hs : s.size ≤ 140737488351232) (w : World) :
    Calls Try.prog 35 #[.string s] w fun e w' => e = got2 (pv s.data.toList) (pb s.data.toList) ∧ Up w w' := by
  have hlen : s.data.toList.length = s.size := rfl
  have HLEN := Lib.hid hlen
  clear hlen
  go_enter Try.func35, Try.ntmps35
  go_upto_region 1 with fail
  go_cut [24] (fun t wx => t = .bool (!okHead s.data.toList) ∧ wx = w.alloc (.cells #[.int .u64 0, .int .u64 0] 24))
  case first =>
    have HTL := Lib.hid (ByteArray.toList_eq s)
    have HEM := Lib.hid (empty_iff s)
    by_cases c0 : s.size = 0
    · have te : s.toList.isEmpty = true := by rw [HTL.out, HEM.out]; exact decide_eq_true c0
      have hk : okHead s.data.toList = false := by unfold okHead; rw [HEM.out, decide_eq_true c0]; rfl
      have HK := Lib.hid hk
      have te' : s.toList = [] := by simpa using te
      clear c0 hk
      go_wp2_with fail
      go_meet
      exact ⟨by rw [HK.out]; rfl, rfl⟩
    have te : s.toList.isEmpty = false := by rw [HTL.out, HEM.out]; exact decide_eq_false c0
    have te' : ¬ s.toList = [] := fun h => by rw [h] at te; exact absurd te (by decide)
    have hp : 0 < s.size := by omega
    by_cases c1 : 39 < s.size
    · have tl : decide (39 < (s.size : Int)) = true := decide_eq_true (by omega)
      have HK := Lib.hid (show okHead s.data.toList = false by unfold okHead; rw [HLEN.out, decide_eq_false (by omega), Bool.and_false]; rfl)
      go_wp2_with fail
      go_meet
      exact ⟨by rw [HK.out]; rfl, rfl⟩
    have tl : decide (39 < (s.size : Int)) = false := decide_eq_false (by omega)
    by_cases c4 : 1 < s.size
    · have t1 : decide (1 < (s.size : Int)) = true := decide_eq_true (by omega)
      by_cases c2 : s[0] = 48
      · have t0 : ((s[0].toNat : Int) == 48) = true := by rw [c2]; decide
        have HK := Lib.hid (show okHead s.data.toList = false by
          have c3 : s.data.toList ≠ [48] := fun h => by have := HLEN.out; rw [h] at this; simp at this; omega
          unfold okHead
          rw [head_of s hp, c2, beq_eq_false_iff_ne.2 c3]
          simp)
        go_wp2_with fail
        all_goals
          go_meet
          exact ⟨by rw [HK.out]; simp [*], rfl⟩
      · have hne : (s[0].toNat : Int) ≠ 48 := fun h => c2 (UInt8.toNat_inj.1 (show s[0].toNat = 48 by omega))
        have t0 : ((s[0].toNat : Int) == 48) = false := beq_eq_false_iff_ne.2 hne
        have HK := Lib.hid (show okHead s.data.toList = true by
          unfold okHead
          rw [head_of s hp, HEM.out, HLEN.out, decide_eq_false c0, decide_eq_true (by omega)]
          simp [c2])
        clear hne
        go_wp2_with fail
        all_goals
          go_meet
          exact ⟨by rw [HK.out]; simp [*], rfl⟩
    · have t1 : decide (1 < (s.size : Int)) = false := decide_eq_false (by omega)
      have HK := Lib.hid (show okHead s.data.toList = true by
        have hl : s.data.toList.length = 1 := by rw [HLEN.out]; omega
        obtain ⟨x, hx⟩ := List.length_eq_one_iff.1 hl
        unfold okHead
        rw [hx]
        by_cases hxx : x = 48
        · subst hxx; decide
        · simp [hxx])
      go_wp2_with fail
      all_goals
        go_meet
        exact ⟨by rw [HK.out]; simp [*], rfl⟩
  obtain ⟨rfl, rfl⟩ := hcut
  by_cases hk : okHead s.data.toList = true
  case neg =>
    have hk' : okHead s.data.toList = false := by simpa using hk
    have H := Lib.hid (pv_no hk')
    have HK := Lib.hid hk'
    clear hk hk'
    rw [HK.out]
    go_wp2_with fail
    refine bodyPost_ret (v := .tuple #[.agg #[.int .u64 0, .int .u64 0], .bool false]) (by simp [results, Try.results35, go_sem]) rfl ⟨?_, ?_⟩
    · rw [H.out.1, H.out.2]; rfl
    · repeat (first | exact Up.refl _ | refine Up.alloc ?_ _ _ | refine Up.setCell ?_ (by first | (simp; done) | (simp; omega) | omega) _ | refine Up.drewN ?_ _ | refine Up.drew ?_)
  have HK := Lib.hid hk
  clear hk
  rw [HK.out]
  go_wp2_with fail
  go_loopw [5] (fun u wr => ∃ (n : Int) (i : Nat), u = .int .i64 (i : Int) ∧ i ≤ s.size ∧ In2 n ∧ Hid (pfold (s.data.toList.take i) = some n) ∧ Up w wr ∧ wr.cell? ⟨w.heap.size + 1, 0, none⟩ = some (.int .u64 (hiZ n)) ∧ wr.cell? ⟨w.heap.size + 1, 1, none⟩ = some (.int .u64 (loZ n)) ∧ wr.cell? ⟨w.heap.size, 0, none⟩ = some (.int .u64 0) ∧ wr.cell? ⟨w.heap.size, 1, none⟩ = some (.int .u64 0)) (fun u _ => s.size - (intOf u).toNat)
  case atStart =>
    refine ⟨0, 0, rfl, by omega, ⟨by decide, by decide⟩, Lib.hid rfl, ?_, ?_, ?_, ?_, ?_⟩
    · repeat (first | exact Up.refl _ | refine Up.alloc ?_ _ _ | refine Up.setCell ?_ (by first | (simp; done) | (simp; omega) | omega) _ | refine Up.drewN ?_ _ | refine Up.drew ?_)
    all_goals simp [go_sem, hiZ_0, loZ_0]
  case round =>
    obtain ⟨n, i, rfl, hin, hn, HP, hup, q0, q1, r0, r1⟩ := hrel
    have HUP := Lib.hid hup
    have z0 := hup.own 0 0
    have z1 := hup.own 0 1
    have zq0 := hup.own 1 0
    have zq1 := hup.own 1 1
    simp only [Nat.add_zero] at z0 z1
    have lq : w.heap.size + 1 < wr.heap.size := World.block_lt_of_cell? _ _ q0
    have lr : w.heap.size < wr.heap.size := by omega
    clear hup
    by_cases hlt : i < s.size
    · have HS := Lib.hid (pfold_snoc s i hlt n HP.out)
      have b0 : 0 ≤ (s[i].toNat : Int) := by omega
      by_cases hd : 48 ≤ (s[i].toNat : Int) ∧ (s[i].toNat : Int) ≤ 57
      case neg =>
        have H := Lib.hid (pv_fall (pfold_far _ _ (HS.out.trans (by rw [(apV_no hd).2]; rfl))))
        by_cases hl : (s[i].toNat : Int) < 48
        · have t1 : decide ((s[i].toNat : Int) < 48) = true := decide_eq_true hl
          clear hd hl
          go_wp2_with fail
          refine bodyPost_ret (v := .tuple #[.agg #[.int .u64 0, .int .u64 0], .bool false]) (by simp [results, Try.results35, go_sem, r0, r1]) rfl ⟨?_, ?_⟩
          · rw [H.out.1, H.out.2]; rfl
          · repeat (first | exact Up.refl _ | (refine Up.trans ?_ (HUP.out); skip) | refine Up.alloc ?_ _ _ | refine Up.setCell ?_ (by first | (simp; done) | (simp; omega) | omega) _ | refine Up.drewN ?_ _ | refine Up.drew ?_)
        · have t1 : decide ((s[i].toNat : Int) < 48) = false := decide_eq_false hl
          have t2 : decide (57 < (s[i].toNat : Int)) = true := decide_eq_true (by omega)
          clear hd hl
          go_wp2_with fail
          refine bodyPost_ret (v := .tuple #[.agg #[.int .u64 0, .int .u64 0], .bool false]) (by simp [results, Try.results35, go_sem, r0, r1]) rfl ⟨?_, ?_⟩
          · rw [H.out.1, H.out.2]; rfl
          · repeat (first | exact Up.refl _ | (refine Up.trans ?_ (HUP.out); skip) | refine Up.alloc ?_ _ _ | refine Up.setCell ?_ (by first | (simp; done) | (simp; omega) | omega) _ | refine Up.drewN ?_ _ | refine Up.drew ?_)
      obtain ⟨hv, hb⟩ := apV_yes (n := n) hd
      have HV := Lib.hid hv
      have HB := Lib.hid hb
      have t1 : decide ((s[i].toNat : Int) < 48) = false := decide_eq_false (by omega)
      have t2 : decide (57 < (s[i].toNat : Int)) = false := decide_eq_false (by omega)
      have d0 : 0 ≤ (s[i].toNat : Int) - 48 := by omega
      have d1 : (s[i].toNat : Int) - 48 ≤ 9 := by omega
      have hwd : Word ((s[i].toNat : Int) - 48) := ⟨by omega, by omega⟩
      clear hv hb hd
      go_upto_region 9 with fail
      go_cut [6, 7] (fun t6 t7 wx => ∃ g : Nat, t6 = .pointer (some ⟨g, 0, none⟩) ∧ t7 = .bool (fits2 (n * 10)) ∧ wr.heap.size ≤ g ∧ wx.cell? ⟨g, 0, none⟩ = some (.int .u64 (hiZ (fit2 (n * 10)))) ∧ wx.cell? ⟨g, 1, none⟩ = some (.int .u64 (loZ (fit2 (n * 10)))) ∧
        Up wr wx ∧ wx.cell? ⟨w.heap.size + 1, 0, none⟩ = some (.int .u64 (hiZ n)) ∧ wx.cell? ⟨w.heap.size + 1, 1, none⟩ = some (.int .u64 (loZ n)))
      case first =>
        go_region_held3 (fun w' => Up wr w' ∧ w'.cell? ⟨w.heap.size + 1, 0, none⟩ = some (.int .u64 (hiZ n)) ∧ w'.cell? ⟨w.heap.size + 1, 1, none⟩ = some (.int .u64 (loZ n)))
          (first | (exact keep2 (by assumption) (by assumption)) | (repeat (first | assumption | (exact Hid.out (by assumption)) | (exact ⟨Up.refl _, q0, q1⟩) | (refine keep2 (Lib.hid ((Up.refl _).alloc _ _)) ?_) | (refine keep2 (Lib.hid (Up.refl _).drew) ?_) | (refine set2 ?_ (by omega) (by omega) (by omega)))))
          (first
            | (go_at_call 23; (with_reducible refine (rof_up 10 _).mono ?_); rintro e w2 ⟨rfl, hu2⟩; have HU2 := Lib.hid hu2; have HS2 := Lib.hid (keep2 HU2 (by assumption)); obtain ⟨hc2, hz2⟩ := hu2.cells; have hs2 := hu2.size; (try simp at hs2); clear hu2; (try unfold got2); (try (have p2_0 : wr.heap.size < w2.heap.size := by omega)))
            | (go_at_call 19; (with_reducible refine (rmul_of n 10 hn word_10 _).mono ?_); rintro e w3 ⟨rfl, hu3⟩; have HU3 := Lib.hid hu3; have HS3 := Lib.hid (keep2 HU3 (by assumption)); obtain ⟨hc3, hz3⟩ := hu3.cells; have hs3 := hu3.size; (try simp at hs3); clear hu3; (try unfold got2); (try (have p3_0 : wr.heap.size < w3.heap.size := by omega)); (try (have p3_1 : w2.heap.size < w3.heap.size := by omega)))
            )
        all_goals
          go_wp2_with fail
          go_meet
          refine ⟨_, rfl, rfl, ?_, ?_, ?_, by assumption⟩
          · omega
          all_goals simp [go_sem, *]
      obtain ⟨g, rfl, rfl, lg, g0, g1, hup', q0', q1'⟩ := hcut
      have r0' := hup'.keep _ _ _ r0
      have r1' := hup'.keep _ _ _ r1
      have z0' := (hup'.cells.2 ⟨w.heap.size, 0, none⟩).trans z0
      have z1' := (hup'.cells.2 ⟨w.heap.size, 1, none⟩).trans z1
      have zq0' := (hup'.cells.2 ⟨w.heap.size + 1, 0, none⟩).trans zq0
      have zq1' := (hup'.cells.2 ⟨w.heap.size + 1, 1, none⟩).trans zq1
      have HUP2 := Lib.hid (HUP.out.trans hup')
      have lq' : w.heap.size + 1 < wc.heap.size := World.block_lt_of_cell? _ _ q0'
      have lr' : w.heap.size < wc.heap.size := by omega
      have kg1 : ¬ g = w.heap.size + 1 := by omega
      have kg2 : ¬ g = w.heap.size := by omega
      clear hup' q0 q1 r0 r1 z0 z1 zq0 zq1 lq lr
      by_cases hi : In2 (n * 10)
      case neg =>
        have t3 := fits2_no hi
        have hf : ¬ In2 (n * 10 + ((s[i].toNat : Int) - 48)) := by unfold In2 at *; omega
        have H := Lib.hid (pv_fall (pfold_far _ _ (HS.out.trans (by rw [HB.out, fits2_no hf]; rfl))))
        clear hi hf
        go_wp2_with fail
        refine bodyPost_ret (v := .tuple #[.agg #[.int .u64 0, .int .u64 0], .bool false]) (by simp [results, Try.results35, go_sem, r0', r1']) rfl ⟨?_, ?_⟩
        · rw [H.out.1, H.out.2]; rfl
        · repeat (first | exact Up.refl _ | (refine Up.trans ?_ (HUP2.out); skip) | refine Up.alloc ?_ _ _ | refine Up.setCell ?_ (by first | (simp; done) | (simp; omega) | omega) _ | refine Up.drewN ?_ _ | refine Up.drew ?_)
      have t3 := fits2_yes hi
      rw [fit2_yes hi] at g0 g1
      have HA := Lib.hid (show ∀ W, Calls Try.prog 14 #[.agg #[.int .u64 (hiZ (n * 10)), .int .u64 (loZ (n * 10))], .agg #[.int .u64 0, .int .u64 ((s[i].toNat : Int) - 48)]] W fun e w' => e = got2 (fit2 (n * 10 + ((s[i].toNat : Int) - 48))) (fits2 (n * 10 + ((s[i].toNat : Int) - 48))) ∧ Up W w' from fun W => by
        have h := radd_up (hiZ (n * 10)) (loZ (n * 10)) 0 ((s[i].toNat : Int) - 48) (hiZ_word hi) (loZ_word _) word_0 hwd W
        rw [val_hilo, show val 0 ((s[i].toNat : Int) - 48) = (s[i].toNat : Int) - 48 by unfold val; omega] at h
        exact h)
      clear hi
      have hw8 : IntKind.u8.wrap ((s[i].toNat : Int) - 48) = (s[i].toNat : Int) - 48 := by rw [IntKind.wrap_u8]; omega
      have hw64 : IntKind.u64.wrap ((s[i].toNat : Int) - 48) = (s[i].toNat : Int) - 48 := keep64z _ d0 (by omega)
      go_upto_region 12 with fail
      go_cut [7] (fun t7 wx => t7 = .bool (apB n (s[i].toNat : Int)) ∧ Up w wx ∧ wx.cell? ⟨w.heap.size, 0, none⟩ = some (.int .u64 0) ∧ wx.cell? ⟨w.heap.size, 1, none⟩ = some (.int .u64 0) ∧ wx.cell? ⟨w.heap.size + 1, 0, none⟩ = some (.int .u64 (hiZ (apV n (s[i].toNat : Int)))) ∧ wx.cell? ⟨w.heap.size + 1, 1, none⟩ = some (.int .u64 (loZ (apV n (s[i].toNat : Int)))))
      case first =>
        go_region_held3 (fun w' => Up w w' ∧ w'.cell? ⟨g, 0, none⟩ = some (.int .u64 (hiZ (n * 10))) ∧ w'.cell? ⟨g, 1, none⟩ = some (.int .u64 (loZ (n * 10))) ∧ w'.cell? ⟨w.heap.size, 0, none⟩ = some (.int .u64 0) ∧ w'.cell? ⟨w.heap.size, 1, none⟩ = some (.int .u64 0))
          (first | (exact keep4 (by assumption) (by assumption)) | (repeat (first | assumption | (exact Hid.out (by assumption)) | (exact ⟨HUP2.out, g0, g1, r0', r1'⟩) | (refine keep4 (Lib.hid ((Up.refl _).alloc _ _)) ?_) | (refine keep4 (Lib.hid (Up.refl _).drew) ?_) | (refine set4 ?_ (by omega) (by omega) (by omega) (by omega) (by omega)))))
          (first
            | (go_at_call 23; (with_reducible refine (rof_up ((s[i].toNat : Int) - 48) _).mono ?_); rintro e w5 ⟨rfl, hu5⟩; have HU5 := Lib.hid hu5; have HS5 := Lib.hid (keep4 HU5 (by assumption)); obtain ⟨hc5, hz5⟩ := hu5.cells; have hs5 := hu5.size; (try simp at hs5); clear hu5; (try unfold got2); (try (have p5_0 : w.heap.size + 1 < w5.heap.size := by omega)); have R0 : w5.cell? ⟨w.heap.size + 1, 0, none⟩ = some (.int .u64 (hiZ n)) := (hc5 _ _ lq').trans q0'; have R1 : w5.cell? ⟨w.heap.size + 1, 1, none⟩ = some (.int .u64 (loZ n)) := (hc5 _ _ lq').trans q1'; have Z0 : w5.frozen? ⟨w.heap.size + 1, 0, none⟩ = false := (hz5 _).trans zq0'; have Z1 : w5.frozen? ⟨w.heap.size + 1, 1, none⟩ = false := (hz5 _).trans zq1'; clear hc5 hz5)
            | (go_at_call 14; (with_reducible refine (HA.out _).mono ?_); rintro e w6 ⟨rfl, hu6⟩; have HU6 := Lib.hid hu6; have HS6 := Lib.hid (keep4 HU6 (by assumption)); obtain ⟨hc6, hz6⟩ := hu6.cells; have hs6 := hu6.size; (try simp at hs6); clear hu6; (try unfold got2); (try (have p6_0 : w.heap.size + 1 < w6.heap.size := by omega)); have R0' : w6.cell? ⟨w.heap.size + 1, 0, none⟩ = some (.int .u64 (hiZ n)) := (hc6 _ _ p5_0).trans R0; have R1' : w6.cell? ⟨w.heap.size + 1, 1, none⟩ = some (.int .u64 (loZ n)) := (hc6 _ _ p5_0).trans R1; have Z0' : w6.frozen? ⟨w.heap.size + 1, 0, none⟩ = false := (hz6 _).trans Z0; have Z1' : w6.frozen? ⟨w.heap.size + 1, 1, none⟩ = false := (hz6 _).trans Z1; clear hc6 hz6)
            )
        all_goals
          go_wp2_with fail
          go_meet
          refine ⟨by rw [HB.out], And.left (by assumption), And.left (And.right (And.right (And.right (by assumption)))), And.right (And.right (And.right (And.right (by assumption)))), ?_, ?_⟩
          all_goals (rw [HV.out]; simp [go_sem, *])
      obtain ⟨rfl, hup3, r0, r1, q0, q1⟩ := hcut
      have HUP3 := Lib.hid hup3
      have z0 := hup3.own 0 0
      have z1 := hup3.own 0 1
      simp only [Nat.add_zero] at z0 z1
      clear hup3 g0 g1 r0' r1' q0' q1' z0' z1' zq0' zq1' hw8 hw64
      by_cases hb : apB n (s[i].toNat : Int) = true
      · have HF := Lib.hid (HS.out.trans (if_pos hb))
        have hin2 := apV_in n (s[i].toNat : Int)
        go_wp2_with fail
        go_roundw
        case rel => exact ⟨apV n (s[i].toNat : Int), i + 1, by go_num, by omega, hin2, HF, HUP3.out, q0, q1, r0, r1⟩
        case measure => simp only [intOf]; omega
      · have hb' : apB n (s[i].toNat : Int) = false := by simpa using hb
        have H := Lib.hid (pv_fall (pfold_far _ _ (HS.out.trans (if_neg hb))))
        clear hb
        go_wp2_with fail
        refine bodyPost_ret (v := .tuple #[.agg #[.int .u64 0, .int .u64 0], .bool false]) (by simp [results, Try.results35, go_sem, r0, r1]) rfl ⟨?_, ?_⟩
        · rw [H.out.1, H.out.2]; rfl
        · repeat (first | exact Up.refl _ | (refine Up.trans ?_ (HUP3.out); skip) | refine Up.alloc ?_ _ _ | refine Up.setCell ?_ (by first | (simp; done) | (simp; omega) | omega) _ | refine Up.drewN ?_ _ | refine Up.drew ?_)
    · have hfull : s.data.toList.take i = s.data.toList := List.take_of_length_le (by rw [HLEN.out]; omega)
      have H := Lib.hid (pv_yes HK.out (show pfold s.data.toList = some n by rw [← hfull]; exact HP.out))
      clear hfull
      go_wp2_with fail
      refine bodyPost_ret (v := .tuple #[.agg #[.int .u64 (hiZ n), .int .u64 (loZ n)], .bool true]) (by simp [results, Try.results35, go_sem, r0, r1]) rfl ⟨?_, ?_⟩
      · rw [H.out.1, H.out.2]; rfl
      · repeat (first | exact Up.refl _ | (refine Up.trans ?_ (HUP.out); skip) | refine Up.alloc ?_ _ _ | refine Up.setCell ?_ (by first | (simp; done) | (simp; omega) | omega) _ | refine Up.drewN ?_ _ | refine Up.drew ?_)

end Go.Proofs.Ytkhgibpginbdcaa
