/- Proved: for every two marks and every K the law SpreadMarks returns true: Of and Close of package spread answer as the reference does. Conditions: none. -/
import Derived.Test.YtafkoddgefcpnaaRows
import Derived.Test.YtafkoddgefcpnaaZKFrameq147
import Derived.Test.YtafkoddgefcpnaaZLAllq333
namespace Go.Proofs.Ytafkoddgefcpnaa
open Go.ChangeShapes Go.WideShapes Go.ChangeAt Go.RowKit Go.Joins
set_option linter.unusedVariables false

theorem spreadMarks_own : ownKnob Try.prog.godebug = none := by kernel_rfl

set_option maxHeartbeats 16000000 in
set_option maxRecDepth 100000 in
theorem spreadMarks_walk (sq1 t1 nn1 s1 qq1 lo1 hi1 : Int) (i10 : In sq1) (i11 : In t1) (i12 : In nn1) (i13 : In s1) (i14 : In qq1) (i15 : In lo1) (i16 : In hi1) (sq2 t2 nn2 s2 qq2 lo2 hi2 : Int) (i20 : In sq2) (i21 : In t2) (i22 : In nn2) (i23 : In s2) (i24 : In qq2) (i25 : In lo2) (i26 : In hi2) (k : Int) (_ : (Lit.int .i64 k).wf = true) (w : World) :
    Calls Try.prog 11 #[.agg #[.int .i64 sq1, .int .i64 t1, .int .i64 nn1, .int .i64 s1, .int .i64 qq1, .int .i64 lo1, .int .i64 hi1], .agg #[.int .i64 sq2, .int .i64 t2, .int .i64 nn2, .int .i64 s2, .int .i64 qq2, .int .i64 lo2, .int .i64 hi2], .int .i64 k] w fun e w' => e = .returned (.bool true) ∧ Up w w' := by
  have KA := Lib.hid awake14_up
  have K1 := Lib.hid (of14_up ⟨sq1, t1, nn1, s1, qq1, lo1, hi1⟩)
  have K2 := Lib.hid (rof14_up ⟨sq1, t1, nn1, s1, qq1, lo1, hi1⟩)
  obtain ⟨x, y, b, hx⟩ := ofS_got ⟨sq1, t1, nn1, s1, qq1, lo1, hi1⟩
  rw [hx] at K1 K2
  simp only [gotR] at K1 K2
  have K3 := Lib.hid (close14_up sq1 t1 nn1 s1 qq1 lo1 hi1 sq2 t2 nn2 s2 qq2 lo2 hi2 k)
  have K4 := Lib.hid (rclose14_up sq1 t1 nn1 s1 qq1 lo1 hi1 sq2 t2 nn2 s2 qq2 lo2 hi2 k)
  generalize clQ k ⟨sq1, t1, nn1, s1, qq1, lo1, hi1⟩ ⟨sq2, t2, nn2, s2, qq2, lo2, hi2⟩ = r at *
  clear hx i10 i11 i12 i13 i14 i15 i16 i20 i21 i22 i23 i24 i25 i26
  have tt1 : (b == b) = true := by simp
  have tt2 : (r == r) = true := by simp
  have qe := eqR14 x y
  go_enter Try.func11, Try.ntmps11
  go_upto_region 3 with (first
    | (go_at_call 45; (with_reducible refine (K1.out _).mono ?_); rintro e w1 ⟨rfl, hu⟩; have hv := (((Up.refl w).alloc #[.int .i64 sq1, .int .i64 t1, .int .i64 nn1, .int .i64 s1, .int .i64 qq1, .int .i64 lo1, .int .i64 hi1] 23).alloc #[.int .i64 sq2, .int .i64 t2, .int .i64 nn2, .int .i64 s2, .int .i64 qq2, .int .i64 lo2, .int .i64 hi2] 23).trans hu; have HV1 := Lib.hid hv; have HU1 := Lib.hid ((Up.refl w).trans hv); have a_1_0 := hu.keep (w.heap.size) 0 (.int .i64 sq1) (by simp [go_sem]); have a_1_1 := hu.keep (w.heap.size) 1 (.int .i64 t1) (by simp [go_sem]); have a_1_2 := hu.keep (w.heap.size) 2 (.int .i64 nn1) (by simp [go_sem]); have a_1_3 := hu.keep (w.heap.size) 3 (.int .i64 s1) (by simp [go_sem]); have a_1_4 := hu.keep (w.heap.size) 4 (.int .i64 qq1) (by simp [go_sem]); have a_1_5 := hu.keep (w.heap.size) 5 (.int .i64 lo1) (by simp [go_sem]); have a_1_6 := hu.keep (w.heap.size) 6 (.int .i64 hi1) (by simp [go_sem]); have b_1_0 := hu.keep (w.heap.size + 1) 0 (.int .i64 sq2) (by simp [go_sem]); have b_1_1 := hu.keep (w.heap.size + 1) 1 (.int .i64 t2) (by simp [go_sem]); have b_1_2 := hu.keep (w.heap.size + 1) 2 (.int .i64 nn2) (by simp [go_sem]); have b_1_3 := hu.keep (w.heap.size + 1) 3 (.int .i64 s2) (by simp [go_sem]); have b_1_4 := hu.keep (w.heap.size + 1) 4 (.int .i64 qq2) (by simp [go_sem]); have b_1_5 := hu.keep (w.heap.size + 1) 5 (.int .i64 lo2) (by simp [go_sem]); have b_1_6 := hu.keep (w.heap.size + 1) 6 (.int .i64 hi2) (by simp [go_sem]); have la1 := World.block_lt_of_cell? _ _ a_1_0; have lb1 := World.block_lt_of_cell? _ _ b_1_0; clear hu hv )
    | (go_at_call 46; (with_reducible refine (K2.out _).mono ?_); rintro e w2 ⟨rfl, hu⟩; have hv := ((Up.refl w1).alloc #[.int .i64 x, .int .i64 y] 40).trans hu; have HV2 := Lib.hid hv; have HU2 := Lib.hid (HU1.out.trans hv); have a_2_0 := hv.keep _ _ _ a_1_0; have a_2_1 := hv.keep _ _ _ a_1_1; have a_2_2 := hv.keep _ _ _ a_1_2; have a_2_3 := hv.keep _ _ _ a_1_3; have a_2_4 := hv.keep _ _ _ a_1_4; have a_2_5 := hv.keep _ _ _ a_1_5; have a_2_6 := hv.keep _ _ _ a_1_6; have b_2_0 := hv.keep _ _ _ b_1_0; have b_2_1 := hv.keep _ _ _ b_1_1; have b_2_2 := hv.keep _ _ _ b_1_2; have b_2_3 := hv.keep _ _ _ b_1_3; have b_2_4 := hv.keep _ _ _ b_1_4; have b_2_5 := hv.keep _ _ _ b_1_5; have b_2_6 := hv.keep _ _ _ b_1_6; have r_2_0 := hu.keep (w1.heap.size) 0 (.int .i64 x) (by simp [go_sem]); have r_2_1 := hu.keep (w1.heap.size) 1 (.int .i64 y) (by simp [go_sem]); have la2 := World.block_lt_of_cell? _ _ a_2_0; have lb2 := World.block_lt_of_cell? _ _ b_2_0; have lr2 := World.block_lt_of_cell? _ _ r_2_0; clear hu hv la1 a_1_0 a_1_1 a_1_2 a_1_3 a_1_4 a_1_5 a_1_6 lb1 b_1_0 b_1_1 b_1_2 b_1_3 b_1_4 b_1_5 b_1_6))
  obtain ⟨w3, hw3⟩ : ∃ z, z = w2.alloc (.cells #[.int .i64 x, .int .i64 y] 40) := ⟨_, rfl⟩
  rw [← hw3]
  have hv : Up w2 w3 := by rw [hw3]; exact (Up.refl _).alloc _ _
  have e0_ : w3.cell? ⟨w2.heap.size, 0, none⟩ = some (.int .i64 x) := by rw [hw3]; simp [go_sem]
  have e1_ : w3.cell? ⟨w2.heap.size, 1, none⟩ = some (.int .i64 y) := by rw [hw3]; simp [go_sem]
  have HU3 := Lib.hid (HU2.out.trans hv)
  have a_2_0 := hv.keep _ _ _ a_2_0
  have a_2_1 := hv.keep _ _ _ a_2_1
  have a_2_2 := hv.keep _ _ _ a_2_2
  have a_2_3 := hv.keep _ _ _ a_2_3
  have a_2_4 := hv.keep _ _ _ a_2_4
  have a_2_5 := hv.keep _ _ _ a_2_5
  have a_2_6 := hv.keep _ _ _ a_2_6
  have b_2_0 := hv.keep _ _ _ b_2_0
  have b_2_1 := hv.keep _ _ _ b_2_1
  have b_2_2 := hv.keep _ _ _ b_2_2
  have b_2_3 := hv.keep _ _ _ b_2_3
  have b_2_4 := hv.keep _ _ _ b_2_4
  have b_2_5 := hv.keep _ _ _ b_2_5
  have b_2_6 := hv.keep _ _ _ b_2_6
  have r_2_0 := hv.keep _ _ _ r_2_0
  have r_2_1 := hv.keep _ _ _ r_2_1
  clear hv hw3
  generalize w1.heap.size = p1 at *
  generalize w2.heap.size = p2 at *
  have HSS : Hid (Up w w3 ∧ w3.cell? ⟨w.heap.size, 0, none⟩ = some (.int .i64 sq1) ∧ w3.cell? ⟨w.heap.size, 1, none⟩ = some (.int .i64 t1) ∧ w3.cell? ⟨w.heap.size, 2, none⟩ = some (.int .i64 nn1) ∧ w3.cell? ⟨w.heap.size, 3, none⟩ = some (.int .i64 s1) ∧ w3.cell? ⟨w.heap.size, 4, none⟩ = some (.int .i64 qq1) ∧ w3.cell? ⟨w.heap.size, 5, none⟩ = some (.int .i64 lo1) ∧ w3.cell? ⟨w.heap.size, 6, none⟩ = some (.int .i64 hi1) ∧ w3.cell? ⟨(w.heap.size + 1), 0, none⟩ = some (.int .i64 sq2) ∧ w3.cell? ⟨(w.heap.size + 1), 1, none⟩ = some (.int .i64 t2) ∧ w3.cell? ⟨(w.heap.size + 1), 2, none⟩ = some (.int .i64 nn2) ∧ w3.cell? ⟨(w.heap.size + 1), 3, none⟩ = some (.int .i64 s2) ∧ w3.cell? ⟨(w.heap.size + 1), 4, none⟩ = some (.int .i64 qq2) ∧ w3.cell? ⟨(w.heap.size + 1), 5, none⟩ = some (.int .i64 lo2) ∧ w3.cell? ⟨(w.heap.size + 1), 6, none⟩ = some (.int .i64 hi2) ∧ w3.cell? ⟨p1, 0, none⟩ = some (.int .i64 x) ∧ w3.cell? ⟨p1, 1, none⟩ = some (.int .i64 y) ∧ w3.cell? ⟨p2, 0, none⟩ = some (.int .i64 x) ∧ w3.cell? ⟨p2, 1, none⟩ = some (.int .i64 y)) := Lib.hid ⟨HU3.out, a_2_0, a_2_1, a_2_2, a_2_3, a_2_4, a_2_5, a_2_6, b_2_0, b_2_1, b_2_2, b_2_3, b_2_4, b_2_5, b_2_6, r_2_0, r_2_1, e0_, e1_⟩
  clear e0_ e1_ a_2_0 a_2_1 a_2_2 a_2_3 a_2_4 a_2_5 a_2_6 b_2_0 b_2_1 b_2_2 b_2_3 b_2_4 b_2_5 b_2_6 r_2_0 r_2_1
  go_wp2_with fail
  refine wp_region_held_drew (S := fun w' => Up w w' ∧ w'.cell? ⟨w.heap.size, 0, none⟩ = some (.int .i64 sq1) ∧ w'.cell? ⟨w.heap.size, 1, none⟩ = some (.int .i64 t1) ∧ w'.cell? ⟨w.heap.size, 2, none⟩ = some (.int .i64 nn1) ∧ w'.cell? ⟨w.heap.size, 3, none⟩ = some (.int .i64 s1) ∧ w'.cell? ⟨w.heap.size, 4, none⟩ = some (.int .i64 qq1) ∧ w'.cell? ⟨w.heap.size, 5, none⟩ = some (.int .i64 lo1) ∧ w'.cell? ⟨w.heap.size, 6, none⟩ = some (.int .i64 hi1) ∧ w'.cell? ⟨(w.heap.size + 1), 0, none⟩ = some (.int .i64 sq2) ∧ w'.cell? ⟨(w.heap.size + 1), 1, none⟩ = some (.int .i64 t2) ∧ w'.cell? ⟨(w.heap.size + 1), 2, none⟩ = some (.int .i64 nn2) ∧ w'.cell? ⟨(w.heap.size + 1), 3, none⟩ = some (.int .i64 s2) ∧ w'.cell? ⟨(w.heap.size + 1), 4, none⟩ = some (.int .i64 qq2) ∧ w'.cell? ⟨(w.heap.size + 1), 5, none⟩ = some (.int .i64 lo2) ∧ w'.cell? ⟨(w.heap.size + 1), 6, none⟩ = some (.int .i64 hi2) ∧ w'.cell? ⟨p1, 0, none⟩ = some (.int .i64 x) ∧ w'.cell? ⟨p1, 1, none⟩ = some (.int .i64 y) ∧ w'.cell? ⟨p2, 0, none⟩ = some (.int .i64 x) ∧ w'.cell? ⟨p2, 1, none⟩ = some (.int .i64 y)) (by kernel_rfl) ?hB1 (fun hHeld => ?_)
  case hB1 => (first | (with_reducible assumption) | (with_reducible exact keepL18 (Lib.hid (Up.refl _).drew) HSS.out) | (with_reducible exact HX4.out) | (with_reducible exact HX5.out) | (with_reducible exact HX6.out))
  refine wpAnyH_take (i := 0) (oi := ⟨_, _, _, _, _, _⟩) (v := ?v2) rfl (by kernel_rfl) (by kernel_rfl) (by kernel_rfl) (fun _ _ _ h => h) (Or.inl ⟨by rfl, ?hy2⟩) (by assumption) ?_
  case hy2 => (intro w hSw; (try dsimp only at hSw); go_simp; (try (with_reducible rfl)))
  (try simp only [Act.put, List.setIfInBounds_toArray, List.set_cons_zero, List.set_cons_succ])
  refine wpAnyH_take (i := 1) (oi := ⟨_, _, _, _, _, _⟩) (v := ?v3) rfl (by kernel_rfl) (by kernel_rfl) (by kernel_rfl) (fun _ _ _ h => h) (Or.inl ⟨by rfl, ?hy3⟩) (by assumption) ?_
  case hy3 => (intro w hSw; (try dsimp only at hSw); go_simp; (try (with_reducible rfl)))
  (try simp only [Act.put, List.setIfInBounds_toArray, List.set_cons_zero, List.set_cons_succ])
  refine wpAnyH_take (i := 2) (oi := ⟨_, _, _, _, _, _⟩) (v := ?v4) rfl (by kernel_rfl) (by kernel_rfl) (by kernel_rfl) (fun _ _ _ h => h) (Or.inl ⟨by rfl, ?hy4⟩) (by assumption) ?_
  case hy4 => (intro w hSw; (try dsimp only at hSw); go_simp; (try (with_reducible rfl)))
  (try simp only [Act.put, List.setIfInBounds_toArray, List.set_cons_zero, List.set_cons_succ])
  refine wpAnyH_take (i := 3) (oi := ⟨_, _, _, _, _, _⟩) (v := ?v5) rfl (by kernel_rfl) (by kernel_rfl) (by kernel_rfl) (fun _ _ _ h => h) (Or.inl ⟨by rfl, ?hy5⟩) (by assumption) ?_
  case hy5 => (intro w hSw; (try dsimp only at hSw); go_simp; (try (with_reducible rfl)))
  (try simp only [Act.put, List.setIfInBounds_toArray, List.set_cons_zero, List.set_cons_succ])
  refine wpAnyH_take (i := 4) (oi := ⟨_, _, _, _, _, _⟩) (v := ?v6) rfl (by kernel_rfl) (by kernel_rfl) (by kernel_rfl) (fun _ _ _ h => h) (Or.inl ⟨by rfl, ?hy6⟩) (by assumption) ?_
  case hy6 => (intro w hSw; (try dsimp only at hSw); go_simp; (try (with_reducible rfl)))
  (try simp only [Act.put, List.setIfInBounds_toArray, List.set_cons_zero, List.set_cons_succ])
  refine wpAnyH_take (i := 5) (oi := ⟨_, _, _, _, _, _⟩) (v := ?v7) rfl (by kernel_rfl) (by kernel_rfl) (by kernel_rfl) (fun _ _ _ h => h) (Or.inl ⟨by rfl, ?hy7⟩) (by assumption) ?_
  case hy7 => (intro w hSw; (try dsimp only at hSw); go_simp; (try (with_reducible rfl)))
  (try simp only [Act.put, List.setIfInBounds_toArray, List.set_cons_zero, List.set_cons_succ])
  refine wpAnyH_take (i := 6) (oi := ⟨_, _, _, _, _, _⟩) (v := ?v8) rfl (by kernel_rfl) (by kernel_rfl) (by kernel_rfl) (fun _ _ _ h => h) (Or.inl ⟨by rfl, ?hy8⟩) (by assumption) ?_
  case hy8 => (intro w hSw; (try dsimp only at hSw); go_simp; (try (with_reducible rfl)))
  (try simp only [Act.put, List.setIfInBounds_toArray, List.set_cons_zero, List.set_cons_succ])
  refine wpAnyH_take (i := 7) (oi := ⟨_, _, _, _, _, _⟩) (v := ?v9) rfl (by kernel_rfl) (by kernel_rfl) (by kernel_rfl) (fun _ _ _ h => h) (Or.inl ⟨by rfl, ?hy9⟩) (by assumption) ?_
  case hy9 => (intro w hSw; (try dsimp only at hSw); go_simp; (try (with_reducible rfl)))
  (try simp only [Act.put, List.setIfInBounds_toArray, List.set_cons_zero, List.set_cons_succ])
  refine wpAnyH_take (i := 8) (oi := ⟨_, _, _, _, _, _⟩) (v := ?v10) rfl (by kernel_rfl) (by kernel_rfl) (by kernel_rfl) (fun _ _ _ h => h) (Or.inl ⟨by rfl, ?hy10⟩) (by assumption) ?_
  case hy10 => (intro w hSw; (try dsimp only at hSw); go_simp; (try (with_reducible rfl)))
  (try simp only [Act.put, List.setIfInBounds_toArray, List.set_cons_zero, List.set_cons_succ])
  refine wpAnyH_take (i := 9) (oi := ⟨_, _, _, _, _, _⟩) (v := ?v11) rfl (by kernel_rfl) (by kernel_rfl) (by kernel_rfl) (fun _ _ _ h => h) (Or.inl ⟨by rfl, ?hy11⟩) (by assumption) ?_
  case hy11 => (intro w hSw; (try dsimp only at hSw); go_simp; (try (with_reducible rfl)))
  (try simp only [Act.put, List.setIfInBounds_toArray, List.set_cons_zero, List.set_cons_succ])
  refine wpAnyH_take (i := 10) (oi := ⟨_, _, _, _, _, _⟩) (v := ?v12) rfl (by kernel_rfl) (by kernel_rfl) (by kernel_rfl) (fun _ _ _ h => h) (Or.inl ⟨by rfl, ?hy12⟩) (by assumption) ?_
  case hy12 => (intro w hSw; (try dsimp only at hSw); go_simp; (try (with_reducible rfl)))
  (try simp only [Act.put, List.setIfInBounds_toArray, List.set_cons_zero, List.set_cons_succ])
  refine wpAnyH_take (i := 11) (oi := ⟨_, _, _, _, _, _⟩) (v := ?v13) rfl (by kernel_rfl) (by kernel_rfl) (by kernel_rfl) (fun _ _ _ h => h) (Or.inl ⟨by rfl, ?hy13⟩) (by assumption) ?_
  case hy13 => (intro w hSw; (try dsimp only at hSw); go_simp; (try (with_reducible rfl)))
  (try simp only [Act.put, List.setIfInBounds_toArray, List.set_cons_zero, List.set_cons_succ])
  refine wpAnyH_take (i := 13) (oi := ⟨_, _, _, _, _, _⟩) (v := ?v14) rfl (by kernel_rfl) (by kernel_rfl) (by kernel_rfl) (fun _ _ _ h => h) (Or.inl ⟨by rfl, ?hy14⟩) (by assumption) ?_
  case hy14 => (intro w hSw; (try dsimp only at hSw); go_simp; (try (with_reducible rfl)))
  (try simp only [Act.put, List.setIfInBounds_toArray, List.set_cons_zero, List.set_cons_succ])
  refine wpAnyH_take (i := 14) (oi := ⟨_, _, _, _, _, _⟩) (v := ?v15) rfl (by kernel_rfl) (by kernel_rfl) (by kernel_rfl) (fun _ _ _ h => h) (Or.inl ⟨by rfl, ?hy15⟩) (by assumption) ?_
  case hy15 => (intro w hSw; (try dsimp only at hSw); go_simp; (try (with_reducible rfl)))
  (try simp only [Act.put, List.setIfInBounds_toArray, List.set_cons_zero, List.set_cons_succ])
  refine wpAnyH_take (i := 15) (oi := ⟨_, _, _, _, _, _⟩) (v := ?v16) rfl (by kernel_rfl) (by kernel_rfl) (by kernel_rfl) (fun _ _ _ h => h) (Or.inl ⟨by rfl, ?hy16⟩) (by assumption) ?_
  case hy16 => (intro w hSw; (try dsimp only at hSw); go_simp; (try (with_reducible rfl)))
  (try simp only [Act.put, List.setIfInBounds_toArray, List.set_cons_zero, List.set_cons_succ])
  refine wpAnyH_ready (rs := [12]) (by kernel_rfl) (by simp) ?_
  refine AllReadyH.cons (o := ⟨_, _, _, _, _, _⟩) rfl (fun K hK => ?_) AllReadyH.nil
  go_simp
  (go_at_call 47; (with_reducible refine (K3.out _).mono ?_); rintro e w4 ⟨rfl, hu⟩; have HU4 := Lib.hid hu; have HX4 := Lib.hid (keepL18 HU4 hHeld); clear hu)
  (try go_wp2_with fail)
  refine hK.out _ _ ?hB17 (fun hHeld => ?_)
  case hB17 => (first | (with_reducible assumption) | (with_reducible exact keepL18 (Lib.hid (Up.refl _).drew) HSS.out) | (with_reducible exact HX4.out) | (with_reducible exact HX5.out) | (with_reducible exact HX6.out))
  clear hK K
  (try simp only [Act.put, List.setIfInBounds_toArray, List.set_cons_zero, List.set_cons_succ])
  refine wpAnyH_ready (rs := [16]) (by kernel_rfl) (by simp) ?_
  refine AllReadyH.cons (o := ⟨_, _, _, _, _, _⟩) rfl (fun K hK => ?_) AllReadyH.nil
  go_simp
  (go_at_call 48; (with_reducible refine (K4.out _).mono ?_); rintro e w5 ⟨rfl, hu⟩; have HU5 := Lib.hid hu; have HX5 := Lib.hid (keepL18 HU5 hHeld); clear hu)
  (try go_wp2_with fail)
  refine hK.out _ _ ?hB18 (fun hHeld => ?_)
  case hB18 => (first | (with_reducible assumption) | (with_reducible exact keepL18 (Lib.hid (Up.refl _).drew) HSS.out) | (with_reducible exact HX4.out) | (with_reducible exact HX5.out) | (with_reducible exact HX6.out))
  clear hK K
  (try simp only [Act.put, List.setIfInBounds_toArray, List.set_cons_zero, List.set_cons_succ])
  refine wpAnyH_take (i := 17) (oi := ⟨_, _, _, _, _, _⟩) (v := ?v19) rfl (by kernel_rfl) (by kernel_rfl) (by kernel_rfl) (fun _ _ _ h => h) (Or.inl ⟨by rfl, ?hy19⟩) (by assumption) ?_
  case hy19 => (intro w hSw; (try dsimp only at hSw); go_simp; (try (with_reducible rfl)))
  (try simp only [Act.put, List.setIfInBounds_toArray, List.set_cons_zero, List.set_cons_succ])
  refine wpAnyH_take (i := 18) (oi := ⟨_, _, _, _, _, _⟩) (v := ?v20) rfl (by kernel_rfl) (by kernel_rfl) (by kernel_rfl) (fun _ _ _ h => h) (Or.inl ⟨by rfl, ?hy20⟩) (by assumption) ?_
  case hy20 => (intro w hSw; (try dsimp only at hSw); go_simp; (try (with_reducible rfl)))
  (try simp only [Act.put, List.setIfInBounds_toArray, List.set_cons_zero, List.set_cons_succ])
  refine wpAnyH_take (i := 19) (oi := ⟨_, _, _, _, _, _⟩) (v := ?v21) rfl (by kernel_rfl) (by kernel_rfl) (by kernel_rfl) (fun _ _ _ h => h) (Or.inl ⟨by rfl, ?hy21⟩) (by assumption) ?_
  case hy21 => (intro w hSw; (try dsimp only at hSw); go_simp; (try (with_reducible rfl)))
  (try simp only [Act.put, List.setIfInBounds_toArray, List.set_cons_zero, List.set_cons_succ])
  refine wpAnyH_ready (rs := [20]) (by kernel_rfl) (by simp) ?_
  refine AllReadyH.cons (o := ⟨_, _, _, _, _, _⟩) rfl (fun K hK => ?_) AllReadyH.nil
  go_simp
  (go_at_call 44; (with_reducible refine (KA.out _).mono ?_); rintro e w6 ⟨rfl, hu⟩; have HU6 := Lib.hid hu; have HX6 := Lib.hid (keepL18 HU6 hHeld); clear hu)
  (try go_wp2_with fail)
  refine hK.out _ _ ?hB22 (fun hHeld => ?_)
  case hB22 => (first | (with_reducible assumption) | (with_reducible exact keepL18 (Lib.hid (Up.refl _).drew) HSS.out) | (with_reducible exact HX4.out) | (with_reducible exact HX5.out) | (with_reducible exact HX6.out))
  clear hK K
  (try simp only [Act.put, List.setIfInBounds_toArray, List.set_cons_zero, List.set_cons_succ])
  refine wpAnyH_take (i := 21) (oi := ⟨_, _, _, _, _, _⟩) (v := ?v23) rfl (by kernel_rfl) (by kernel_rfl) (by kernel_rfl) (fun _ _ _ h => h) (Or.inl ⟨by rfl, ?hy23⟩) (by assumption) ?_
  case hy23 => (intro w hSw; (try dsimp only at hSw); go_simp; (try (with_reducible rfl)))
  (try simp only [Act.put, List.setIfInBounds_toArray, List.set_cons_zero, List.set_cons_succ])
  refine wpAnyH_take (i := 22) (oi := ⟨_, _, _, _, _, _⟩) (v := ?v24) rfl (by kernel_rfl) (by kernel_rfl) (by kernel_rfl) (fun _ _ _ h => h) (Or.inl ⟨by rfl, ?hy24⟩) (by assumption) ?_
  case hy24 => (intro w hSw; (try dsimp only at hSw); go_simp; (try (with_reducible rfl)))
  (try simp only [Act.put, List.setIfInBounds_toArray, List.set_cons_zero, List.set_cons_succ])
  refine wpAnyH_done (by kernel_rfl) ?_ _
  go_wp2_with fail
  go_ret
  exact ⟨rfl, HX6.out.1⟩

set_option maxRecDepth 100000 in
theorem spreadMarks_lifted (os : Os) (started : os.Started) (H : Type) (enc : TypeId × Value → H) :
    ReturnsInHanded {} Try.checked os 11 .any (Rows.spreadMarksSpec.pre6 enc Try.prog Try.f11 Rows.spreadMarksRow.domain false) (Rows.spreadMarksSpec.post enc Try.prog Try.f11 false true false false) := by
  refine returnsInHanded_of_change_sized (C := Try.checked) spreadMarks_own started (by kernel_rfl) Try.func11
    (ChangeSpec.witness6 (enc := enc) (C := Try.checked) false ⟨#[], #[.agg #[.int .i64 0, .int .i64 0, .int .i64 0, .int .i64 0, .int .i64 0, .int .i64 0, .int .i64 0], .agg #[.int .i64 0, .int .i64 0, .int .i64 0, .int .i64 0, .int .i64 0, .int .i64 0, .int .i64 0], .int .i64 0], []⟩ 8 (by kernel_rfl) (by kernel_rfl) (by kernel_rfl) (by kernel_rfl)) ?_
  intro W base args ds gs before hval0 hW hcnd hsz0 _
  have hval : ∀ (j : Nat) t v, Try.f11.params[j]? = some t → args[j]? = some v → Value.okWide Try.prog W .any base t v := hval0
  have hW' := hW
  obtain ⟨p, q, hA0, hV, rfl, hfz, hnd⟩ := hW'
  have hA : DataW.TrodAll enc Try.prog W 0 (fun _ => true) true Try.f11.params.toList args.toList ds p := hA0
  rw [Try.params11] at hA hval
  obtain ⟨v0, vs0, d0, ds0, p0, q0, hargs, rfl, rfl, h0, r0⟩ := trodAll_cons hA
  obtain ⟨v1, vs1, d1, ds1, p1, q1, rfl, rfl, rfl, h1, r1⟩ := trodAll_cons r0
  obtain ⟨v2, vs2, d2, ds2, p2, q2, rfl, rfl, rfl, h2, r2⟩ := trodAll_cons r1
  obtain ⟨rfl, rfl, rfl⟩ := trodAll_nil r2
  obtain rfl : args = #[v0, v1, v2] := by cases args; simp_all
  obtain ⟨rfl, rfl⟩ := trodVars_none hV
  have hlt := fun x hx => hW.lt x hx
  have k0 := h0
  obtain ⟨z0_0, z0_1, z0_2, z0_3, z0_4, z0_5, z0_6, rfl, i0_0, i0_1, i0_2, i0_3, i0_4, i0_5, i0_6⟩ := open_mark (hval 0 23 v0 rfl rfl) h0
  have k1 := h1
  obtain ⟨z1_0, z1_1, z1_2, z1_3, z1_4, z1_5, z1_6, rfl, i1_0, i1_1, i1_2, i1_3, i1_4, i1_5, i1_6⟩ := open_mark (hval 1 23 v1 rfl rfl) h1
  have k2 := h2
  obtain ⟨a2, rfl, rfl, rfl, w2⟩ := open_int Try.underlying3 (hval 2 3 v2 rfl rfl) h2
  refine (spreadMarks_walk z0_0 z0_1 z0_2 z0_3 z0_4 z0_5 z0_6 i0_0 i0_1 i0_2 i0_3 i0_4 i0_5 i0_6 z1_0 z1_1 z1_2 z1_3 z1_4 z1_5 z1_6 i1_0 i1_1 i1_2 i1_3 i1_4 i1_5 i1_6 a2 w2 W).mono fun e W' ⟨he, hg⟩ => ?_
  subst he
  exact ⟨_, rfl, post_of_same (pv := []) hW (fun _ _ _ => (trodAll_cons_mk (shut_bool Try.underlying4 _) trodAll_mk0)) (fun sp hsp => (trodAll_cons_mk (stay (by kernel_rfl) (of_decide_eq_true (by kernel_rfl)) k0 hg hlt (fun x hx => by first | (simp at hx; done) | simp [hx]) hsp) (trodAll_cons_mk (stay (by kernel_rfl) (of_decide_eq_true (by kernel_rfl)) k1 hg hlt (fun x hx => by first | (simp at hx; done) | simp [hx]) hsp) (trodAll_cons_mk (stay (by kernel_rfl) (of_decide_eq_true (by kernel_rfl)) k2 hg hlt (fun x hx => by first | (simp at hx; done) | simp [hx]) hsp) trodAll_mk0)))) (fun _ _ => rfl) rfl
    (hg.grown.frame _) hg.grown.2.1 (ok_one (by kernel_rfl) rfl (okWide_bool_mk Try.underlying4 _))⟩

theorem spreadMarks_over : Rows.spreadMarksRow.holds Try.pinned (OpenSpec.ofChange Rows.spreadMarksSpec) :=
  OpenClaim.holds_of_wide 11 Try.f11 rfl rfl rfl rfl rfl rfl rfl ⟨rfl, rfl, rfl, rfl, rfl⟩ rfl rfl rfl rfl rfl (by kernel_rfl) Try.func11 (by kernel_rfl)
    (of_decide_eq_true (by kernel_rfl)) (by unfold Func.isWrapper; first | (rw [if_pos (by decide +kernel)]; kernel_rfl) | (rw [if_neg (by decide +kernel)]; exact ⟨rfl, rfl⟩))
    (fun os started H enc _ => spreadMarks_lifted os started H enc)

theorem spreadMarks_holds : Rows.SpreadMarksSaid :=
  spreadMarks_over
end Go.Proofs.Ytafkoddgefcpnaa
