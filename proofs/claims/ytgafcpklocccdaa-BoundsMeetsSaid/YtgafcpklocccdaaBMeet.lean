/- What Meet of package bounds returns. -/
import Derived.Test.YtgafcpklocccdaaBSmall
import Derived.Test.YtgafcpklocccdaaBMeetM
import Derived.Test.YtgafcpklocccdaaBBd
import Derived.Deep.RegionHeld3
import Derived.Deep.DeepCutAuto
namespace Go.Proofs.Ytgafcpklocccdaa
open Go.RowKit

set_option maxHeartbeats 16000000 in
set_option maxRecDepth 100000 in
theorem bmeet_up (n1 d1 n2 d2 n3 d3 m1 c1 m2 c2 m3 c3 : Int) (in1 : In n1) (id1 : In d1) (in2 : In n2) (id2 : In d2) (in3 : In n3) (id3 : In d3) (im1 : In m1) (ic1 : In c1) (im2 : In m2) (ic2 : In c2) (im3 : In m3) (ic3 : In c3) (w : World) :
    Calls Try.prog 27 #[.agg #[.int .i64 n1, .int .i64 d1, .int .i64 n2, .int .i64 d2, .int .i64 n3, .int .i64 d3], .agg #[.int .i64 m1, .int .i64 c1, .int .i64 m2, .int .i64 c2, .int .i64 m3, .int .i64 c3]] w fun e w' => e = meetE n1 d1 n2 d2 n3 d3 m1 c1 m2 c2 m3 c3 ∧ Up w w' := by
  have HV := Lib.hid (fun W => bboth_up n1 d1 n2 d2 n3 d3 m1 c1 m2 c2 m3 c3 in1 id1 in2 id2 in3 id3 im1 ic1 im2 ic2 im3 ic3 W)
  by_cases hv : (bvB n1 d1 n2 d2 n3 d3 && bvB m1 c1 m2 c2 m3 c3) = true
  case neg =>
    have hv' := Bool.eq_false_iff.2 hv
    have HE : meetE n1 d1 n2 d2 n3 d3 m1 c1 m2 c2 m3 c3 = gotB 0 0 0 0 0 0 false := by unfold meetE; rw [hv']; rfl
    rw [HE]
    rw [hv'] at HV
    clear hv hv' HE in1 id1 in2 id2 in3 id3 im1 ic1 im2 ic2 im3 ic3
    go_enter Try.func27, Try.ntmps27
    go_wp2_with fail
    refine (HV.out _).mono ?_
    rintro e w1 ⟨rfl, hu1⟩
    try unfold got2
    have c1_0 := hu1.keep (w.heap.size) (0) (.int .i64 n1) (by simp [go_sem, *])
    have c1_1 := hu1.keep (w.heap.size) (1) (.int .i64 d1) (by simp [go_sem, *])
    have c1_2 := hu1.keep (w.heap.size) (2) (.int .i64 n2) (by simp [go_sem, *])
    have c1_3 := hu1.keep (w.heap.size) (3) (.int .i64 d2) (by simp [go_sem, *])
    have c1_4 := hu1.keep (w.heap.size) (4) (.int .i64 n3) (by simp [go_sem, *])
    have c1_5 := hu1.keep (w.heap.size) (5) (.int .i64 d3) (by simp [go_sem, *])
    have c1_6 := hu1.keep (w.heap.size + 1) (0) (.int .i64 m1) (by simp [go_sem, *])
    have c1_7 := hu1.keep (w.heap.size + 1) (1) (.int .i64 c1) (by simp [go_sem, *])
    have c1_8 := hu1.keep (w.heap.size + 1) (2) (.int .i64 m2) (by simp [go_sem, *])
    have c1_9 := hu1.keep (w.heap.size + 1) (3) (.int .i64 c2) (by simp [go_sem, *])
    have c1_10 := hu1.keep (w.heap.size + 1) (4) (.int .i64 m3) (by simp [go_sem, *])
    have c1_11 := hu1.keep (w.heap.size + 1) (5) (.int .i64 c3) (by simp [go_sem, *])
    have c1_12 := hu1.keep (w.heap.size + 1 + 1) (0) (.int .i64 0) (by simp [go_sem, *])
    have c1_13 := hu1.keep (w.heap.size + 1 + 1) (1) (.int .i64 0) (by simp [go_sem, *])
    have c1_14 := hu1.keep (w.heap.size + 1 + 1) (2) (.int .i64 0) (by simp [go_sem, *])
    have c1_15 := hu1.keep (w.heap.size + 1 + 1) (3) (.int .i64 0) (by simp [go_sem, *])
    have c1_16 := hu1.keep (w.heap.size + 1 + 1) (4) (.int .i64 0) (by simp [go_sem, *])
    have c1_17 := hu1.keep (w.heap.size + 1 + 1) (5) (.int .i64 0) (by simp [go_sem, *])
    have l1_0 : w.heap.size < w1.heap.size := World.block_lt_of_cell? _ _ c1_0
    have m1_0 : w.heap.size < w1.heap.size + 1 := by omega
    have n1_0 : w.heap.size < w1.heap.size + 1 + 1 := by omega
    have x1_0 : ¬ w1.heap.size = w.heap.size := by omega
    have y1_0 : ¬ w1.heap.size + 1 = w.heap.size := by omega
    have l1_1 : w.heap.size + 1 < w1.heap.size := World.block_lt_of_cell? _ _ c1_6
    have m1_1 : w.heap.size + 1 < w1.heap.size + 1 := by omega
    have n1_1 : w.heap.size + 1 < w1.heap.size + 1 + 1 := by omega
    have x1_1 : ¬ w1.heap.size = w.heap.size + 1 := by omega
    have y1_1 : ¬ w1.heap.size + 1 = w.heap.size + 1 := by omega
    have l1_2 : w.heap.size + 1 + 1 < w1.heap.size := World.block_lt_of_cell? _ _ c1_12
    have m1_2 : w.heap.size + 1 + 1 < w1.heap.size + 1 := by omega
    have n1_2 : w.heap.size + 1 + 1 < w1.heap.size + 1 + 1 := by omega
    have x1_2 : ¬ w1.heap.size = w.heap.size + 1 + 1 := by omega
    have y1_2 : ¬ w1.heap.size + 1 = w.heap.size + 1 + 1 := by omega
    have HU1 : Hid (Up w w1) := Lib.hid (by ((repeat (first | (with_reducible exact Up.refl _) | (with_reducible refine Up.trans ?_ hu1) | (with_reducible refine Up.alloc ?_ _ _) | (with_reducible refine Up.setCell ?_ ?_ _) | (with_reducible refine Up.drewN ?_ _) | (with_reducible refine Up.drew ?_))); all_goals (first | (simp; done) | (simp; omega) | omega)))
    clear hu1
    have z0 := own2 HU1.out 0
    have z1 := own2 HU1.out 1
    have z2 := own2 HU1.out 2
    have z3 := own2 HU1.out 3
    have z4 := own2 HU1.out 4
    have z5 := own2 HU1.out 5
    go_wp2_with fail
    refine bodyPost_ret (v := .tuple #[.agg #[.int .i64 0, .int .i64 0, .int .i64 0, .int .i64 0, .int .i64 0, .int .i64 0], .bool false]) (by simp [results, Try.results27, go_sem, c1_12, c1_13, c1_14, c1_15, c1_16, c1_17]) rfl ⟨?_, ?_⟩
    · rfl
    · ((repeat (first | (with_reducible exact Up.refl _) | (with_reducible exact HU1.out) | (with_reducible refine Up.alloc ?_ _ _) | (with_reducible refine Up.setCell ?_ ?_ _) | (with_reducible refine Up.drewN ?_ _) | (with_reducible refine Up.drew ?_))); all_goals (first | (simp; done) | (simp; omega) | omega))
  have HE : meetE n1 d1 n2 d2 n3 d3 m1 c1 m2 c2 m3 c3 = meet2 (pk (decide (cmpR n1 d1 m1 c1 < 0)) n1 m1) (pk (decide (cmpR n1 d1 m1 c1 < 0)) d1 c1) n2 d2 (pk (decide (0 < cmpR n3 d3 m3 c3)) n3 m3) (pk (decide (0 < cmpR n3 d3 m3 c3)) d3 c3) := by unfold meetE; rw [hv]; rfl
  rw [HE]
  rw [hv] at HV
  have HG := Lib.hid (fun W => greater_up n1 d1 m1 c1 in1 id1 im1 ic1 W)
  have HL := Lib.hid (fun W => lesser_up n3 d3 m3 c3 in3 id3 im3 ic3 W)
  have iL := pk_in (s := decide (cmpR n1 d1 m1 c1 < 0)) in1 im1
  have jL := pk_in (s := decide (cmpR n1 d1 m1 c1 < 0)) id1 ic1
  have iK := pk_in (s := decide (0 < cmpR n3 d3 m3 c3)) in3 im3
  have jK := pk_in (s := decide (0 < cmpR n3 d3 m3 c3)) id3 ic3
  generalize pk (decide (cmpR n1 d1 m1 c1 < 0)) n1 m1 = L at *
  generalize pk (decide (cmpR n1 d1 m1 c1 < 0)) d1 c1 = L' at *
  generalize pk (decide (0 < cmpR n3 d3 m3 c3)) n3 m3 = K at *
  generalize pk (decide (0 < cmpR n3 d3 m3 c3)) d3 c3 = K' at *
  have HC := Lib.hid (fun W => comparer_up L L' K K' iL jL iK jK W)
  have HP := Lib.hid (fun W => greater_up n2 d2 L L' in2 id2 iL jL W)
  have iG := pk_in (s := decide (cmpR n2 d2 L L' < 0)) in2 iL
  have jG := pk_in (s := decide (cmpR n2 d2 L L' < 0)) id2 jL
  have HM2 := Lib.hid (fun t => meet2_no (l := L) (lD := L') (e := n2) (eD := d2) (h := K) (hD := K') t)
  have HM1 := Lib.hid (fun t => meet2_yes (l := L) (lD := L') (e := n2) (eD := d2) (h := K) (hD := K') t)
  generalize pk (decide (cmpR n2 d2 L L' < 0)) n2 L = G at *
  generalize pk (decide (cmpR n2 d2 L L' < 0)) d2 L' = G' at *
  have HQ := Lib.hid (fun W => lesser_up G G' K K' iG jG iK jK W)
  unfold meet3 at HM2
  generalize pk (decide (0 < cmpR G G' K K')) G K = E at *
  generalize pk (decide (0 < cmpR G G' K K')) G' K' = E' at *
  generalize meet2 L L' n2 d2 K K' = res at *
  generalize cmpR L L' K K' = x at *
  clear hv HE iL jL iK jK iG jG in1 id1 in2 id2 in3 id3 im1 ic1 im2 ic2 im3 ic3
  go_enter Try.func27, Try.ntmps27
  go_wp2_with fail
  refine (HV.out _).mono ?_
  rintro e w1 ⟨rfl, hu1⟩
  try unfold got2
  have c1_0 := hu1.keep (w.heap.size) (0) (.int .i64 n1) (by simp [go_sem, *])
  have c1_1 := hu1.keep (w.heap.size) (1) (.int .i64 d1) (by simp [go_sem, *])
  have c1_2 := hu1.keep (w.heap.size) (2) (.int .i64 n2) (by simp [go_sem, *])
  have c1_3 := hu1.keep (w.heap.size) (3) (.int .i64 d2) (by simp [go_sem, *])
  have c1_4 := hu1.keep (w.heap.size) (4) (.int .i64 n3) (by simp [go_sem, *])
  have c1_5 := hu1.keep (w.heap.size) (5) (.int .i64 d3) (by simp [go_sem, *])
  have c1_6 := hu1.keep (w.heap.size + 1) (0) (.int .i64 m1) (by simp [go_sem, *])
  have c1_7 := hu1.keep (w.heap.size + 1) (1) (.int .i64 c1) (by simp [go_sem, *])
  have c1_8 := hu1.keep (w.heap.size + 1) (2) (.int .i64 m2) (by simp [go_sem, *])
  have c1_9 := hu1.keep (w.heap.size + 1) (3) (.int .i64 c2) (by simp [go_sem, *])
  have c1_10 := hu1.keep (w.heap.size + 1) (4) (.int .i64 m3) (by simp [go_sem, *])
  have c1_11 := hu1.keep (w.heap.size + 1) (5) (.int .i64 c3) (by simp [go_sem, *])
  have c1_12 := hu1.keep (w.heap.size + 1 + 1) (0) (.int .i64 0) (by simp [go_sem, *])
  have c1_13 := hu1.keep (w.heap.size + 1 + 1) (1) (.int .i64 0) (by simp [go_sem, *])
  have c1_14 := hu1.keep (w.heap.size + 1 + 1) (2) (.int .i64 0) (by simp [go_sem, *])
  have c1_15 := hu1.keep (w.heap.size + 1 + 1) (3) (.int .i64 0) (by simp [go_sem, *])
  have c1_16 := hu1.keep (w.heap.size + 1 + 1) (4) (.int .i64 0) (by simp [go_sem, *])
  have c1_17 := hu1.keep (w.heap.size + 1 + 1) (5) (.int .i64 0) (by simp [go_sem, *])
  have l1_0 : w.heap.size < w1.heap.size := World.block_lt_of_cell? _ _ c1_0
  have m1_0 : w.heap.size < w1.heap.size + 1 := by omega
  have n1_0 : w.heap.size < w1.heap.size + 1 + 1 := by omega
  have x1_0 : ¬ w1.heap.size = w.heap.size := by omega
  have y1_0 : ¬ w1.heap.size + 1 = w.heap.size := by omega
  have l1_1 : w.heap.size + 1 < w1.heap.size := World.block_lt_of_cell? _ _ c1_6
  have m1_1 : w.heap.size + 1 < w1.heap.size + 1 := by omega
  have n1_1 : w.heap.size + 1 < w1.heap.size + 1 + 1 := by omega
  have x1_1 : ¬ w1.heap.size = w.heap.size + 1 := by omega
  have y1_1 : ¬ w1.heap.size + 1 = w.heap.size + 1 := by omega
  have l1_2 : w.heap.size + 1 + 1 < w1.heap.size := World.block_lt_of_cell? _ _ c1_12
  have m1_2 : w.heap.size + 1 + 1 < w1.heap.size + 1 := by omega
  have n1_2 : w.heap.size + 1 + 1 < w1.heap.size + 1 + 1 := by omega
  have x1_2 : ¬ w1.heap.size = w.heap.size + 1 + 1 := by omega
  have y1_2 : ¬ w1.heap.size + 1 = w.heap.size + 1 + 1 := by omega
  have HU1 : Hid (Up w w1) := Lib.hid (by ((repeat (first | (with_reducible exact Up.refl _) | (with_reducible refine Up.trans ?_ hu1) | (with_reducible refine Up.alloc ?_ _ _) | (with_reducible refine Up.setCell ?_ ?_ _) | (with_reducible refine Up.drewN ?_ _) | (with_reducible refine Up.drew ?_))); all_goals (first | (simp; done) | (simp; omega) | omega)))
  clear hu1
  have hL : Bd w 2 [(w.heap.size, 0, .int .i64 n1), (w.heap.size, 1, .int .i64 d1), (w.heap.size, 2, .int .i64 n2), (w.heap.size, 3, .int .i64 d2), (w.heap.size, 4, .int .i64 n3), (w.heap.size, 5, .int .i64 d3), (w.heap.size + 1, 0, .int .i64 m1), (w.heap.size + 1, 1, .int .i64 c1), (w.heap.size + 1, 2, .int .i64 m2), (w.heap.size + 1, 3, .int .i64 c2), (w.heap.size + 1, 4, .int .i64 m3), (w.heap.size + 1, 5, .int .i64 c3), (w.heap.size + 1 + 1, 0, .int .i64 0), (w.heap.size + 1 + 1, 1, .int .i64 0), (w.heap.size + 1 + 1, 2, .int .i64 0), (w.heap.size + 1 + 1, 3, .int .i64 0), (w.heap.size + 1 + 1, 4, .int .i64 0), (w.heap.size + 1 + 1, 5, .int .i64 0)] w1 := ⟨HU1.out, by simp [go_sem, *], by simp⟩
  have HB := Lib.hid hL
  clear hL
  obtain ⟨LL, hLL⟩ : ∃ X : List (Nat × Nat × Value), X = [(w.heap.size, 0, .int .i64 n1), (w.heap.size, 1, .int .i64 d1), (w.heap.size, 2, .int .i64 n2), (w.heap.size, 3, .int .i64 d2), (w.heap.size, 4, .int .i64 n3), (w.heap.size, 5, .int .i64 d3), (w.heap.size + 1, 0, .int .i64 m1), (w.heap.size + 1, 1, .int .i64 c1), (w.heap.size + 1, 2, .int .i64 m2), (w.heap.size + 1, 3, .int .i64 c2), (w.heap.size + 1, 4, .int .i64 m3), (w.heap.size + 1, 5, .int .i64 c3), (w.heap.size + 1 + 1, 0, .int .i64 0), (w.heap.size + 1 + 1, 1, .int .i64 0), (w.heap.size + 1 + 1, 2, .int .i64 0), (w.heap.size + 1 + 1, 3, .int .i64 0), (w.heap.size + 1 + 1, 4, .int .i64 0), (w.heap.size + 1 + 1, 5, .int .i64 0)] := ⟨_, rfl⟩
  rw [← hLL] at HB
  have HLL := Lib.hid hLL
  clear hLL
  go_upto_region 3 with fail
  go_cut [6, 7] (fun t6 t7 wx => ∃ g k : Nat, w.heap.size + 2 < g ∧ w.heap.size + 2 < k ∧ t6 = .pointer (some ⟨g, 0, none⟩) ∧ t7 = .pointer (some ⟨k, 0, none⟩) ∧ wx.cell? ⟨g, 0, none⟩ = some (.int .i64 L) ∧ wx.cell? ⟨g, 1, none⟩ = some (.int .i64 L') ∧ wx.cell? ⟨k, 0, none⟩ = some (.int .i64 K) ∧ wx.cell? ⟨k, 1, none⟩ = some (.int .i64 K') ∧ Bd w 2 LL wx)
  case first =>
    go_region_held3 (fun w' => Bd w 2 LL w' ∧ w'.cell? ⟨w.heap.size, 0, none⟩ = some (.int .i64 n1) ∧ w'.cell? ⟨w.heap.size, 1, none⟩ = some (.int .i64 d1) ∧ w'.cell? ⟨w.heap.size, 4, none⟩ = some (.int .i64 n3) ∧ w'.cell? ⟨w.heap.size, 5, none⟩ = some (.int .i64 d3) ∧ w'.cell? ⟨w.heap.size + 1, 0, none⟩ = some (.int .i64 m1) ∧ w'.cell? ⟨w.heap.size + 1, 1, none⟩ = some (.int .i64 c1) ∧ w'.cell? ⟨w.heap.size + 1, 4, none⟩ = some (.int .i64 m3) ∧ w'.cell? ⟨w.heap.size + 1, 5, none⟩ = some (.int .i64 c3))
      (first | (with_reducible exact bkeep8 (by assumption) (by assumption)) | (repeat (first | (with_reducible assumption) | (with_reducible exact Hid.out (by assumption)) | (with_reducible exact ⟨HB.out, c1_0, c1_1, c1_4, c1_5, c1_6, c1_7, c1_10, c1_11⟩) | (with_reducible refine bkeep8 (Lib.hid ((Up.refl _).alloc _ _)) ?_) | (with_reducible refine bkeep8 (Lib.hid (Up.refl _).drew) ?_) | (with_reducible refine bset8 ?_ (by omega) (by omega) (by omega) (by omega) (by omega) (by omega) (by omega) (by omega) (by omega)))))
      (first
        | (go_at_call 52; (with_reducible refine (HG.out _).mono ?_); rintro e w2 ⟨rfl, hu2⟩; have HU2 := Lib.hid hu2; have HS2 := Lib.hid (bkeep8 HU2 (by assumption)); obtain ⟨hc2, hz2⟩ := hu2.cells; have hs2 := hu2.size; (try simp at hs2); clear hu2; (try (have q2_0_0 : w1.heap.size < w2.heap.size := by omega)); (try (have q2_0_1 : w1.heap.size < w2.heap.size + 1 := by omega)); (try (have q2_0_2 : w1.heap.size < w2.heap.size + 1 + 1 := by omega)); (try (have y2_0 : ¬ w2.heap.size = w1.heap.size := by omega)); (try (have yz2_0 : ¬ w2.heap.size + 1 = w1.heap.size := by omega)); (try (have q2_1_0 : w1.heap.size + 1 < w2.heap.size := by omega)); (try (have q2_1_1 : w1.heap.size + 1 < w2.heap.size + 1 := by omega)); (try (have q2_1_2 : w1.heap.size + 1 < w2.heap.size + 1 + 1 := by omega)); (try (have y2_1 : ¬ w2.heap.size = w1.heap.size + 1 := by omega)); (try (have yz2_1 : ¬ w2.heap.size + 1 = w1.heap.size + 1 := by omega)))
        | (go_at_call 53; (with_reducible refine (HL.out _).mono ?_); rintro e w3 ⟨rfl, hu3⟩; have HU3 := Lib.hid hu3; have HS3 := Lib.hid (bkeep8 HU3 (by assumption)); obtain ⟨hc3, hz3⟩ := hu3.cells; have hs3 := hu3.size; (try simp at hs3); clear hu3; (try (have q3_0_0 : w1.heap.size < w3.heap.size := by omega)); (try (have q3_0_1 : w1.heap.size < w3.heap.size + 1 := by omega)); (try (have q3_0_2 : w1.heap.size < w3.heap.size + 1 + 1 := by omega)); (try (have y3_0 : ¬ w3.heap.size = w1.heap.size := by omega)); (try (have yz3_0 : ¬ w3.heap.size + 1 = w1.heap.size := by omega)); (try (have q3_1_0 : w1.heap.size + 1 < w3.heap.size := by omega)); (try (have q3_1_1 : w1.heap.size + 1 < w3.heap.size + 1 := by omega)); (try (have q3_1_2 : w1.heap.size + 1 < w3.heap.size + 1 + 1 := by omega)); (try (have y3_1 : ¬ w3.heap.size = w1.heap.size + 1 := by omega)); (try (have yz3_1 : ¬ w3.heap.size + 1 = w1.heap.size + 1 := by omega)); (try (have q3_2_0 : w2.heap.size < w3.heap.size := by omega)); (try (have q3_2_1 : w2.heap.size < w3.heap.size + 1 := by omega)); (try (have q3_2_2 : w2.heap.size < w3.heap.size + 1 + 1 := by omega)); (try (have y3_2 : ¬ w3.heap.size = w2.heap.size := by omega)); (try (have yz3_2 : ¬ w3.heap.size + 1 = w2.heap.size := by omega)); (try (have q3_3_0 : w2.heap.size + 1 < w3.heap.size := by omega)); (try (have q3_3_1 : w2.heap.size + 1 < w3.heap.size + 1 := by omega)); (try (have q3_3_2 : w2.heap.size + 1 < w3.heap.size + 1 + 1 := by omega)); (try (have y3_3 : ¬ w3.heap.size = w2.heap.size + 1 := by omega)); (try (have yz3_3 : ¬ w3.heap.size + 1 = w2.heap.size + 1 := by omega))))
    all_goals
      go_wp2_with fail
      go_meet
      refine ⟨_, _, ?_, ?_, rfl, rfl, ?_, ?_, ?_, ?_, And.left (by assumption)⟩
      · omega
      · omega
      all_goals (first | (simp [go_sem, *]; done) | ((have qa : w1.heap.size < w1.heap.size + 1 + 1 := by omega); (have qb : w2.heap.size < w2.heap.size + 1 + 1 := by omega); (have qc : w3.heap.size < w3.heap.size + 1 + 1 := by omega); simp [go_sem, *]; done))
  obtain ⟨g, k, lg, lk, rfl, rfl, e0, e1, f0, f1, hB⟩ := hcut
  have HUc := Lib.hid hB.up
  have hB' : Bd w 2 [(w.heap.size, 0, .int .i64 n1), (w.heap.size, 1, .int .i64 d1), (w.heap.size, 2, .int .i64 n2), (w.heap.size, 3, .int .i64 d2), (w.heap.size, 4, .int .i64 n3), (w.heap.size, 5, .int .i64 d3), (w.heap.size + 1, 0, .int .i64 m1), (w.heap.size + 1, 1, .int .i64 c1), (w.heap.size + 1, 2, .int .i64 m2), (w.heap.size + 1, 3, .int .i64 c2), (w.heap.size + 1, 4, .int .i64 m3), (w.heap.size + 1, 5, .int .i64 c3), (w.heap.size + 1 + 1, 0, .int .i64 0), (w.heap.size + 1 + 1, 1, .int .i64 0), (w.heap.size + 1 + 1, 2, .int .i64 0), (w.heap.size + 1 + 1, 3, .int .i64 0), (w.heap.size + 1 + 1, 4, .int .i64 0), (w.heap.size + 1 + 1, 5, .int .i64 0)] wc := by rw [← HLL.out]; exact hB
  have hK := hB'.kp
  have a2 := hK (w.heap.size, 2, .int .i64 n2) (by simp)
  have a3 := hK (w.heap.size, 3, .int .i64 d2) (by simp)
  have r0 := hK (w.heap.size + 1 + 1, 0, .int .i64 0) (by simp)
  have r1 := hK (w.heap.size + 1 + 1, 1, .int .i64 0) (by simp)
  have r2 := hK (w.heap.size + 1 + 1, 2, .int .i64 0) (by simp)
  have r3 := hK (w.heap.size + 1 + 1, 3, .int .i64 0) (by simp)
  have r4 := hK (w.heap.size + 1 + 1, 4, .int .i64 0) (by simp)
  have r5 := hK (w.heap.size + 1 + 1, 5, .int .i64 0) (by simp)
  clear hB hB' hK HB HLL LL
  clear c1_0 c1_1 c1_2 c1_3 c1_4 c1_5 c1_6 c1_7 c1_8 c1_9 c1_10 c1_11 c1_12 c1_13 c1_14 c1_15 c1_16 c1_17
  have lg' : g < wc.heap.size := World.block_lt_of_cell? _ _ e0
  have lk' : k < wc.heap.size := World.block_lt_of_cell? _ _ f0
  have lr : w.heap.size + 1 + 1 < wc.heap.size := World.block_lt_of_cell? _ _ r0
  go_wp2_with fail
  refine (HC.out _).mono ?_
  rintro e w4 ⟨rfl, hu4⟩
  have HU4 : Hid (Up w w4) := Lib.hid (HUc.out.trans hu4)
  have e0' := hu4.keep _ _ _ e0
  have e1' := hu4.keep _ _ _ e1
  have f0' := hu4.keep _ _ _ f0
  have f1' := hu4.keep _ _ _ f1
  have a2' := hu4.keep _ _ _ a2
  have a3' := hu4.keep _ _ _ a3
  have r0' := hu4.keep _ _ _ r0
  have r1' := hu4.keep _ _ _ r1
  have r2' := hu4.keep _ _ _ r2
  have r3' := hu4.keep _ _ _ r3
  have r4' := hu4.keep _ _ _ r4
  have r5' := hu4.keep _ _ _ r5
  have z0 := own2 HU4.out 0
  have z1 := own2 HU4.out 1
  have z2 := own2 HU4.out 2
  have z3 := own2 HU4.out 3
  have z4 := own2 HU4.out 4
  have z5 := own2 HU4.out 5
  have l4 : w.heap.size + 1 + 1 < w4.heap.size := World.block_lt_of_cell? _ _ r0'
  clear hu4 e0 e1 f0 f1 a2 a3 r0 r1 r2 r3 r4 r5
  by_cases hx : 0 < x
  · have t := decide_eq_true hx
    have hr := HM1.out t
    clear HM1 HM2
    subst hr
    clear hx
    go_wp2_with fail
    refine bodyPost_ret (v := .tuple #[.agg #[.int .i64 0, .int .i64 0, .int .i64 0, .int .i64 0, .int .i64 0, .int .i64 0], .bool false]) (by simp [results, Try.results27, go_sem, r0', r1', r2', r3', r4', r5']) rfl ⟨?_, ?_⟩
    · rfl
    · ((repeat (first | (with_reducible exact Up.refl _) | (with_reducible exact HU4.out) | (with_reducible refine Up.alloc ?_ _ _) | (with_reducible refine Up.setCell ?_ ?_ _) | (with_reducible refine Up.drewN ?_ _) | (with_reducible refine Up.drew ?_))); all_goals (first | (simp; done) | (simp; omega) | omega))
  · have t := decide_eq_false hx
    have hr := HM2.out t
    clear HM1 HM2
    subst hr
    clear hx
    go_wp2_with fail
    go_region_held3 (fun w' => Up w w' ∧ w'.cell? ⟨g, 0, none⟩ = some (.int .i64 L) ∧ w'.cell? ⟨g, 1, none⟩ = some (.int .i64 L') ∧ w'.cell? ⟨k, 0, none⟩ = some (.int .i64 K) ∧ w'.cell? ⟨k, 1, none⟩ = some (.int .i64 K') ∧ w'.cell? ⟨w.heap.size, 2, none⟩ = some (.int .i64 n2) ∧ w'.cell? ⟨w.heap.size, 3, none⟩ = some (.int .i64 d2))
      (first | (with_reducible exact keep6 (by assumption) (by assumption)) | (exact ⟨HU4.out.drew, e0', e1', f0', f1', a2', a3'⟩) | (repeat (first | (with_reducible assumption) | (with_reducible refine set6 ?_ (by omega) (by omega) (by omega) (by omega) (by omega) (by omega) (by omega)))))
      (first
        | (go_at_call 52; (with_reducible refine (HP.out _).mono ?_); rintro e w5 ⟨rfl, hu5⟩; have HU5 := Lib.hid hu5; have r5_0 := hu5.keep _ _ _ (show w4.drew.cell? _ = _ from r0'); have z5_0 := (hu5.cells.2 _).trans (show w4.drew.frozen? _ = _ from z0); have r5_1 := hu5.keep _ _ _ (show w4.drew.cell? _ = _ from r1'); have z5_1 := (hu5.cells.2 _).trans (show w4.drew.frozen? _ = _ from z1); have r5_2 := hu5.keep _ _ _ (show w4.drew.cell? _ = _ from r2'); have z5_2 := (hu5.cells.2 _).trans (show w4.drew.frozen? _ = _ from z2); have r5_3 := hu5.keep _ _ _ (show w4.drew.cell? _ = _ from r3'); have z5_3 := (hu5.cells.2 _).trans (show w4.drew.frozen? _ = _ from z3); have r5_4 := hu5.keep _ _ _ (show w4.drew.cell? _ = _ from r4'); have z5_4 := (hu5.cells.2 _).trans (show w4.drew.frozen? _ = _ from z4); have r5_5 := hu5.keep _ _ _ (show w4.drew.cell? _ = _ from r5'); have z5_5 := (hu5.cells.2 _).trans (show w4.drew.frozen? _ = _ from z5); clear hu5)
        | (go_at_call 53; (with_reducible refine (HQ.out _).mono ?_); rintro e w6 ⟨rfl, hu6⟩; have HU6 := Lib.hid hu6; have r6_0 := hu6.keep _ _ _ r5_0; have z6_0 := (hu6.cells.2 _).trans z5_0; have r6_1 := hu6.keep _ _ _ r5_1; have z6_1 := (hu6.cells.2 _).trans z5_1; have r6_2 := hu6.keep _ _ _ r5_2; have z6_2 := (hu6.cells.2 _).trans z5_2; have r6_3 := hu6.keep _ _ _ r5_3; have z6_3 := (hu6.cells.2 _).trans z5_3; have r6_4 := hu6.keep _ _ _ r5_4; have z6_4 := (hu6.cells.2 _).trans z5_4; have r6_5 := hu6.keep _ _ _ r5_5; have z6_5 := (hu6.cells.2 _).trans z5_5; clear hu6))
    all_goals
      go_wp2_with fail
      refine bodyPost_ret (v := .tuple #[.agg #[.int .i64 L, .int .i64 L', .int .i64 E, .int .i64 E', .int .i64 K, .int .i64 K'], .bool true]) (by simp [results, Try.results27, go_sem, r6_0, r6_1, r6_2, r6_3, r6_4, r6_5]) rfl ⟨?_, ?_⟩
      · rfl
      · exact And.left (by assumption)

end Go.Proofs.Ytgafcpklocccdaa
