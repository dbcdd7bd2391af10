/- Package spread and its reference: the spread of a mark. -/
import Derived.Test.YtafkoddgefcpnabRows
import Derived.Test.YtafkoddgefcpnabZBWithinq85
namespace Go.Proofs.Ytafkoddgefcpnab
open Go.RowKit
set_option linter.unusedVariables false

set_option maxHeartbeats 4000000 in
set_option maxRecDepth 100000 in
theorem hasSpread_up (sq t nn s qq lo hi : Int) (w : World) :
    Calls Try.prog 13 #[.agg #[.int .i64 sq, .int .i64 t, .int .i64 nn, .int .i64 s, .int .i64 qq, .int .i64 lo, .int .i64 hi]] w fun e w' => e = .returned (.bool (myM ⟨sq, t, nn, s, qq, lo, hi⟩)) ∧ Up w w' := by
  have HB : Hid (∀ _ : ¬ (1 ≤ nn ∧ nn ≤ 65536 ∧ -(nn * 4096) ≤ s ∧ s ≤ nn * 4096 ∧ 0 ≤ qq ∧ qq ≤ nn * 16777216 ∧ s * s ≤ nn * qq), myM ⟨sq, t, nn, s, qq, lo, hi⟩ = false) := Lib.hid (fun h => decide_eq_false h)
  have HT : Hid (1 ≤ nn ∧ nn ≤ 65536 ∧ -(nn * 4096) ≤ s ∧ s ≤ nn * 4096 ∧ 0 ≤ qq ∧ qq ≤ nn * 16777216 ∧ s * s ≤ nn * qq → myM ⟨sq, t, nn, s, qq, lo, hi⟩ = true) := Lib.hid (fun h => decide_eq_true h)
  generalize myM ⟨sq, t, nn, s, qq, lo, hi⟩ = r at *
  by_cases k0 : ¬ (1 ≤ nn)
  · obtain rfl : r = false := HB.out (fun h => k0 h.1)
    have u0 : nn < 1 := by omega
    clear HB HT
    go_enter Try.func13, Try.ntmps13
    go_wp2
    go_ret
    exact ⟨rfl, (Up.refl w).alloc _ _⟩
  have k0 := Classical.not_not.1 k0
  have u0 : ¬ (nn < 1) := by omega
  by_cases k1 : ¬ (nn ≤ 65536)
  · obtain rfl : r = false := HB.out (fun h => k1 h.2.1)
    have u1 : 65536 < nn := by omega
    clear HB HT
    go_enter Try.func13, Try.ntmps13
    go_wp2
    go_ret
    exact ⟨rfl, (Up.refl w).alloc _ _⟩
  have k1 := Classical.not_not.1 k1
  have u1 : ¬ (65536 < nn) := by omega
  by_cases k2 : ¬ (-(nn * 4096) ≤ s)
  · obtain rfl : r = false := HB.out (fun h => k2 h.2.2.1)
    have u2 : s < -nn * 4096 := by omega
    clear HB HT
    go_enter Try.func13, Try.ntmps13
    go_wp2
    go_ret
    exact ⟨rfl, (Up.refl w).alloc _ _⟩
  have k2 := Classical.not_not.1 k2
  have u2 : ¬ (s < -nn * 4096) := by omega
  by_cases k3 : ¬ (s ≤ nn * 4096)
  · obtain rfl : r = false := HB.out (fun h => k3 h.2.2.2.1)
    have u3 : nn * 4096 < s := by omega
    clear HB HT
    go_enter Try.func13, Try.ntmps13
    go_wp2
    go_ret
    exact ⟨rfl, (Up.refl w).alloc _ _⟩
  have k3 := Classical.not_not.1 k3
  have u3 : ¬ (nn * 4096 < s) := by omega
  by_cases k4 : ¬ (0 ≤ qq)
  · obtain rfl : r = false := HB.out (fun h => k4 h.2.2.2.2.1)
    have u4 : qq < 0 := by omega
    clear HB HT
    go_enter Try.func13, Try.ntmps13
    go_wp2
    go_ret
    exact ⟨rfl, (Up.refl w).alloc _ _⟩
  have k4 := Classical.not_not.1 k4
  have u4 : ¬ (qq < 0) := by omega
  by_cases k5 : ¬ (qq ≤ nn * 16777216)
  · obtain rfl : r = false := HB.out (fun h => k5 h.2.2.2.2.2.1)
    have u5 : nn * 4096 * 4096 < qq := by omega
    clear HB HT
    go_enter Try.func13, Try.ntmps13
    go_wp2
    go_ret
    exact ⟨rfl, (Up.refl w).alloc _ _⟩
  have k5 := Classical.not_not.1 k5
  have u5 : ¬ (nn * 4096 * 4096 < qq) := by omega
  have y1 := sq_bd (x := s) (m := 268435456) (by omega) (by omega)
  have y2 := sq_nn s
  have y3 : 0 ≤ nn * qq := Int.mul_nonneg (by omega) k4
  have y4 : nn * qq ≤ 65536 * qq := Int.mul_le_mul_of_nonneg_right k1 k4
  by_cases k6 : ¬ (s * s ≤ nn * qq)
  · obtain rfl : r = false := HB.out (fun h => k6 h.2.2.2.2.2.2)
    have u6 : nn * qq < s * s := by omega
    clear HB HT
    go_enter Try.func13, Try.ntmps13
    go_wp2
    go_ret
    exact ⟨rfl, (Up.refl w).alloc _ _⟩
  have k6 := Classical.not_not.1 k6
  have u6 : ¬ (nn * qq < s * s) := by omega
  obtain rfl : r = true := HT.out ⟨k0, k1, k2, k3, k4, k5, k6⟩
  clear HB HT
  go_enter Try.func13, Try.ntmps13
  go_wp2
  go_ret
  exact ⟨rfl, (Up.refl w).alloc _ _⟩

set_option maxHeartbeats 4000000 in
set_option maxRecDepth 100000 in
theorem scaled_up (sq t nn s qq lo hi : Int) (h : myM ⟨sq, t, nn, s, qq, lo, hi⟩ = true) (w : World) :
    Calls Try.prog 15 #[.agg #[.int .i64 sq, .int .i64 t, .int .i64 nn, .int .i64 s, .int .i64 qq, .int .i64 lo, .int .i64 hi]] w fun e w' => e = .returned (.int .i64 (spM ⟨sq, t, nn, s, qq, lo, hi⟩)) ∧ Up w w' := by
  obtain ⟨⟨a1, a2⟩, ⟨a3, a4⟩, ⟨a5, a6⟩, ⟨a7, a8⟩, ⟨a9, a10⟩, ⟨a11, a12⟩⟩ := myM_bd h
  simp only at a1 a2 a3 a4 a5 a6 a7 a8 a9 a10
  rw [show spM ⟨sq, t, nn, s, qq, lo, hi⟩ = nn * qq - s * s from rfl]
  clear h a11 a12
  go_enter Try.func15, Try.ntmps15
  go_wp2
  go_ret
  exact ⟨rfl, (Up.refl w).alloc _ _⟩

/-- What Of returns. -/
def ofS (m : Mrk) : Ending := if myM m = true then gotR (quoN (spM m) m.n) (quoD (spM m) m.n) true else gotR 0 0 false
theorem spM_in {m : Mrk} (h : myM m = true) : In (spM m) ∧ In m.n := by
  have := myM_bd h
  exact ⟨⟨by omega, by omega⟩, ⟨by omega, by omega⟩⟩
theorem Up.setP2 {w0 w : World} {p : Nat} {v0 v1 : Value} (h : Up w0 w) (hp : w0.heap.size ≤ p) : Up w0 ((w.setCell ⟨p, 0, none⟩ v0).setCell ⟨p, 1, none⟩ v1) :=
  (h.setCell hp _).setCell hp _
theorem farP2 {w : World} {p g o : Nat} {v0 v1 : Value} {u : Value} (h : w.cell? ⟨g, o, none⟩ = some u) (hp : p ≠ g) : ((w.setCell ⟨p, 0, none⟩ v0).setCell ⟨p, 1, none⟩ v1).cell? ⟨g, o, none⟩ = some u :=
  (cell_far hp).trans ((cell_far hp).trans h)
theorem set2K7 {w w1 : World} {p pa : Nat} {x0 x1 x2 x3 x4 x5 x6 v0 v1 : Value} (h : Up w w1 ∧ w1.cell? ⟨pa, 0, none⟩ = some x0 ∧ w1.cell? ⟨pa, 1, none⟩ = some x1 ∧ w1.cell? ⟨pa, 2, none⟩ = some x2 ∧ w1.cell? ⟨pa, 3, none⟩ = some x3 ∧ w1.cell? ⟨pa, 4, none⟩ = some x4 ∧ w1.cell? ⟨pa, 5, none⟩ = some x5 ∧ w1.cell? ⟨pa, 6, none⟩ = some x6) (hp : w.heap.size ≤ p) (ha : p ≠ pa) : Up w ((w1.setCell ⟨p, 0, none⟩ v0).setCell ⟨p, 1, none⟩ v1) ∧ ((w1.setCell ⟨p, 0, none⟩ v0).setCell ⟨p, 1, none⟩ v1).cell? ⟨pa, 0, none⟩ = some x0 ∧ ((w1.setCell ⟨p, 0, none⟩ v0).setCell ⟨p, 1, none⟩ v1).cell? ⟨pa, 1, none⟩ = some x1 ∧ ((w1.setCell ⟨p, 0, none⟩ v0).setCell ⟨p, 1, none⟩ v1).cell? ⟨pa, 2, none⟩ = some x2 ∧ ((w1.setCell ⟨p, 0, none⟩ v0).setCell ⟨p, 1, none⟩ v1).cell? ⟨pa, 3, none⟩ = some x3 ∧ ((w1.setCell ⟨p, 0, none⟩ v0).setCell ⟨p, 1, none⟩ v1).cell? ⟨pa, 4, none⟩ = some x4 ∧ ((w1.setCell ⟨p, 0, none⟩ v0).setCell ⟨p, 1, none⟩ v1).cell? ⟨pa, 5, none⟩ = some x5 ∧ ((w1.setCell ⟨p, 0, none⟩ v0).setCell ⟨p, 1, none⟩ v1).cell? ⟨pa, 6, none⟩ = some x6 :=
  ⟨(h.1.setCell hp _).setCell hp _, farP2 h.2.1 ha, farP2 h.2.2.1 ha, farP2 h.2.2.2.1 ha, farP2 h.2.2.2.2.1 ha, farP2 h.2.2.2.2.2.1 ha, farP2 h.2.2.2.2.2.2.1 ha, farP2 h.2.2.2.2.2.2.2 ha⟩

set_option maxHeartbeats 4000000 in
set_option maxRecDepth 100000 in
theorem of14_no (sq t nn s qq lo hi : Int) (h : myM ⟨sq, t, nn, s, qq, lo, hi⟩ = false) (w : World) :
    Calls Try.prog 19 #[.agg #[.int .i64 sq, .int .i64 t, .int .i64 nn, .int .i64 s, .int .i64 qq, .int .i64 lo, .int .i64 hi]] w fun e w' => e = gotR 0 0 false ∧ Up w w' := by
  have KH := Lib.hid (hasSpread_up sq t nn s qq lo hi)
  rw [h] at KH
  clear h
  go_enter Try.func19, Try.ntmps19
  go_wp2_with (go_at_call 13; (with_reducible refine (KH.out _).mono ?_); rintro e w1 ⟨rfl, hu⟩; have HU1 := Lib.hid ((((Up.refl w).alloc _ _).alloc _ _).trans hu); have a0 := hu.keep w.heap.size 0 (.int .i64 sq) (by simp [go_sem]); have a1 := hu.keep w.heap.size 1 (.int .i64 t) (by simp [go_sem]); have a2 := hu.keep w.heap.size 2 (.int .i64 nn) (by simp [go_sem]); have a3 := hu.keep w.heap.size 3 (.int .i64 s) (by simp [go_sem]); have a4 := hu.keep w.heap.size 4 (.int .i64 qq) (by simp [go_sem]); have a5 := hu.keep w.heap.size 5 (.int .i64 lo) (by simp [go_sem]); have a6 := hu.keep w.heap.size 6 (.int .i64 hi) (by simp [go_sem]); have r0 := hu.keep (w.heap.size + 1) 0 (.int .i64 0) (by simp [go_sem]); have r1 := hu.keep (w.heap.size + 1) 1 (.int .i64 0) (by simp [go_sem]); have z0 := HU1.out.ownGe (g := w.heap.size + 1) (by omega) 0; have z1 := HU1.out.ownGe (g := w.heap.size + 1) (by omega) 1; have hlt := World.block_lt_of_cell? _ _ r0; clear hu)
  refine bodyPost_ret (v := .tuple #[.agg #[.int .i64 0, .int .i64 0], .bool false]) (by simp [results, Try.results19, go_sem, r0, r1]) rfl ⟨rfl, ?_⟩
  exact HU1.out.setP2 (by omega)

set_option maxHeartbeats 4000000 in
set_option maxRecDepth 100000 in
theorem of14_yes (sq t nn s qq lo hi : Int) (h : myM ⟨sq, t, nn, s, qq, lo, hi⟩ = true) (w : World) :
    Calls Try.prog 19 #[.agg #[.int .i64 sq, .int .i64 t, .int .i64 nn, .int .i64 s, .int .i64 qq, .int .i64 lo, .int .i64 hi]] w fun e w' => e = gotR (quoN (spM ⟨sq, t, nn, s, qq, lo, hi⟩) nn) (quoD (spM ⟨sq, t, nn, s, qq, lo, hi⟩) nn) true ∧ Up w w' := by
  have KH := Lib.hid (hasSpread_up sq t nn s qq lo hi)
  rw [h] at KH
  have KS := Lib.hid (scaled_up sq t nn s qq lo hi h)
  have KM := Lib.hid (make_up (spM ⟨sq, t, nn, s, qq, lo, hi⟩) nn (spM_in h).1 (spM_in h).2)
  rw [show quoB (spM ⟨sq, t, nn, s, qq, lo, hi⟩) nn = true from spM_fit h] at KM
  clear h
  generalize quoN (spM ⟨sq, t, nn, s, qq, lo, hi⟩) nn = x at *
  generalize quoD (spM ⟨sq, t, nn, s, qq, lo, hi⟩) nn = y at *
  generalize spM ⟨sq, t, nn, s, qq, lo, hi⟩ = z at *
  unfold gotR at KM ⊢
  go_enter Try.func19, Try.ntmps19
  go_upto_region 3 with (go_at_call 13; (with_reducible refine (KH.out _).mono ?_); rintro e w1 ⟨rfl, hu⟩; have HU1 := Lib.hid ((((Up.refl w).alloc _ _).alloc _ _).trans hu); have a0 := hu.keep w.heap.size 0 (.int .i64 sq) (by simp [go_sem]); have a1 := hu.keep w.heap.size 1 (.int .i64 t) (by simp [go_sem]); have a2 := hu.keep w.heap.size 2 (.int .i64 nn) (by simp [go_sem]); have a3 := hu.keep w.heap.size 3 (.int .i64 s) (by simp [go_sem]); have a4 := hu.keep w.heap.size 4 (.int .i64 qq) (by simp [go_sem]); have a5 := hu.keep w.heap.size 5 (.int .i64 lo) (by simp [go_sem]); have a6 := hu.keep w.heap.size 6 (.int .i64 hi) (by simp [go_sem]); have r0 := hu.keep (w.heap.size + 1) 0 (.int .i64 0) (by simp [go_sem]); have r1 := hu.keep (w.heap.size + 1) 1 (.int .i64 0) (by simp [go_sem]); have z0 := HU1.out.ownGe (g := w.heap.size + 1) (by omega) 0; have z1 := HU1.out.ownGe (g := w.heap.size + 1) (by omega) 1; have hlt := World.block_lt_of_cell? _ _ r0; clear hu)
  have HSS : Hid (Up w w1 ∧ w1.cell? ⟨w.heap.size, 0, none⟩ = some (.int .i64 sq) ∧ w1.cell? ⟨w.heap.size, 1, none⟩ = some (.int .i64 t) ∧ w1.cell? ⟨w.heap.size, 2, none⟩ = some (.int .i64 nn) ∧ w1.cell? ⟨w.heap.size, 3, none⟩ = some (.int .i64 s) ∧ w1.cell? ⟨w.heap.size, 4, none⟩ = some (.int .i64 qq) ∧ w1.cell? ⟨w.heap.size, 5, none⟩ = some (.int .i64 lo) ∧ w1.cell? ⟨w.heap.size, 6, none⟩ = some (.int .i64 hi)) := Lib.hid ⟨HU1.out, a0, a1, a2, a3, a4, a5, a6⟩
  clear a0 a1 a2 a3 a4 a5 a6
  go_wp2_with fail
  refine wp_region_held_drew (S := fun w' => Up w w' ∧ w'.cell? ⟨w.heap.size, 0, none⟩ = some (.int .i64 sq) ∧ w'.cell? ⟨w.heap.size, 1, none⟩ = some (.int .i64 t) ∧ w'.cell? ⟨w.heap.size, 2, none⟩ = some (.int .i64 nn) ∧ w'.cell? ⟨w.heap.size, 3, none⟩ = some (.int .i64 s) ∧ w'.cell? ⟨w.heap.size, 4, none⟩ = some (.int .i64 qq) ∧ w'.cell? ⟨w.heap.size, 5, none⟩ = some (.int .i64 lo) ∧ w'.cell? ⟨w.heap.size, 6, none⟩ = some (.int .i64 hi)) (by kernel_rfl) ?hB1 (fun hHeld => ?_)
  case hB1 => (first | (with_reducible assumption) | (with_reducible exact keepK7 (Lib.hid (Up.refl _).drew) HSS.out) | (with_reducible exact HX2.out) | (with_reducible exact HX3.out) | (with_reducible exact set2K7 hHeld (by omega) (by omega)))
  refine wpAnyH_take (i := 0) (oi := ⟨_, _, _, _, _, _⟩) (v := ?v2) rfl (by kernel_rfl) (by kernel_rfl) (by kernel_rfl) (fun _ _ _ h => h) (Or.inl ⟨by rfl, ?hy2⟩) (by assumption) ?_
  case hy2 => (intro w hSw; (try dsimp only at hSw); go_simp; (try (with_reducible rfl)))
  (try simp only [Act.put, List.setIfInBounds_toArray, List.set_cons_zero, List.set_cons_succ])
  refine wpAnyH_take (i := 2) (oi := ⟨_, _, _, _, _, _⟩) (v := ?v3) rfl (by kernel_rfl) (by kernel_rfl) (by kernel_rfl) (fun _ _ _ h => h) (Or.inl ⟨by rfl, ?hy3⟩) (by assumption) ?_
  case hy3 => (intro w hSw; (try dsimp only at hSw); go_simp; (try (with_reducible rfl)))
  (try simp only [Act.put, List.setIfInBounds_toArray, List.set_cons_zero, List.set_cons_succ])
  refine wpAnyH_take (i := 3) (oi := ⟨_, _, _, _, _, _⟩) (v := ?v4) rfl (by kernel_rfl) (by kernel_rfl) (by kernel_rfl) (fun _ _ _ h => h) (Or.inl ⟨by rfl, ?hy4⟩) (by assumption) ?_
  case hy4 => (intro w hSw; (try dsimp only at hSw); go_simp; (try (with_reducible rfl)))
  (try simp only [Act.put, List.setIfInBounds_toArray, List.set_cons_zero, List.set_cons_succ])
  refine wpAnyH_ready (rs := [1]) (by kernel_rfl) (by simp) ?_
  refine AllReadyH.cons (o := ⟨_, _, _, _, _, _⟩) rfl (fun K hK => ?_) AllReadyH.nil
  go_simp
  (go_at_call 15; (with_reducible refine (KS.out _).mono ?_); rintro e w2 ⟨rfl, hu⟩; have HU2 := Lib.hid hu; have HX2 := Lib.hid (keepK7 HU2 hHeld); have r0 := hu.keep _ _ _ r0; have r1 := hu.keep _ _ _ r1; clear hu)
  (try go_wp2_with fail)
  refine hK.out _ _ ?hB5 (fun hHeld => ?_)
  case hB5 => (first | (with_reducible assumption) | (with_reducible exact keepK7 (Lib.hid (Up.refl _).drew) HSS.out) | (with_reducible exact HX2.out) | (with_reducible exact HX3.out) | (with_reducible exact set2K7 hHeld (by omega) (by omega)))
  clear hK K
  (try simp only [Act.put, List.setIfInBounds_toArray, List.set_cons_zero, List.set_cons_succ])
  refine wpAnyH_ready (rs := [4]) (by kernel_rfl) (by simp) ?_
  refine AllReadyH.cons (o := ⟨_, _, _, _, _, _⟩) rfl (fun K hK => ?_) AllReadyH.nil
  go_simp
  (go_at_call 37; (with_reducible refine (KM.out _).mono ?_); rintro e w3 ⟨rfl, hu⟩; have HU3 := Lib.hid hu; have HX3 := Lib.hid (keepK7 HU3 hHeld); have r0 := hu.keep _ _ _ r0; have r1 := hu.keep _ _ _ r1; have z0 := HX3.out.1.ownGe (g := w.heap.size + 1) (by omega) 0; have z1 := HX3.out.1.ownGe (g := w.heap.size + 1) (by omega) 1; clear hu)
  (try go_wp2_with fail)
  refine hK.out _ _ ?hB6 (fun hHeld => ?_)
  case hB6 => (first | (with_reducible assumption) | (with_reducible exact keepK7 (Lib.hid (Up.refl _).drew) HSS.out) | (with_reducible exact HX2.out) | (with_reducible exact HX3.out) | (with_reducible exact set2K7 hHeld (by omega) (by omega)))
  clear hK K
  (try simp only [Act.put, List.setIfInBounds_toArray, List.set_cons_zero, List.set_cons_succ])
  refine wpAnyH_take (i := 5) (oi := ⟨_, _, _, _, _, _⟩) (v := ?v7) rfl (by kernel_rfl) (by kernel_rfl) (by kernel_rfl) (fun _ _ _ h => h) (Or.inl ⟨by rfl, ?hy7⟩) (by assumption) ?_
  case hy7 => (intro w hSw; (try dsimp only at hSw); go_simp; (try (with_reducible rfl)))
  (try simp only [Act.put, List.setIfInBounds_toArray, List.set_cons_zero, List.set_cons_succ])
  refine wpAnyH_take (i := 6) (oi := ⟨_, _, _, _, _, _⟩) (v := ?v8) rfl (by kernel_rfl) (by kernel_rfl) (by kernel_rfl) (fun _ _ _ h => h) (Or.inl ⟨by rfl, ?hy8⟩) (by assumption) ?_
  case hy8 => (intro w hSw; (try dsimp only at hSw); go_simp; (try (with_reducible rfl)))
  (try simp only [Act.put, List.setIfInBounds_toArray, List.set_cons_zero, List.set_cons_succ])
  refine wpAnyH_ready (rs := [7]) (by kernel_rfl) (by simp) ?_
  refine AllReadyH.cons (o := ⟨_, _, _, _, _, _⟩) rfl (fun K hK => ?_) AllReadyH.nil
  go_simp
  refine hK.out _ _ ?hB9 (fun hHeld => ?_)
  case hB9 => (first | (with_reducible assumption) | (with_reducible exact keepK7 (Lib.hid (Up.refl _).drew) HSS.out) | (with_reducible exact HX2.out) | (with_reducible exact HX3.out) | (with_reducible exact set2K7 hHeld (by omega) (by omega)))
  clear hK K
  (try simp only [Act.put, List.setIfInBounds_toArray, List.set_cons_zero, List.set_cons_succ])
  refine wpAnyH_take (i := 8) (oi := ⟨_, _, _, _, _, _⟩) (v := ?v10) rfl (by kernel_rfl) (by kernel_rfl) (by kernel_rfl) (fun _ _ _ h => h) (Or.inl ⟨by rfl, ?hy10⟩) (by assumption) ?_
  case hy10 => (intro w hSw; (try dsimp only at hSw); go_simp; (try (with_reducible rfl)))
  (try simp only [Act.put, List.setIfInBounds_toArray, List.set_cons_zero, List.set_cons_succ])
  refine wpAnyH_done (by kernel_rfl) ?_ _
  clear hHeld
  go_wp2_with fail
  refine bodyPost_ret (v := .tuple #[.agg #[.int .i64 x, .int .i64 y], .bool true]) (by simp [results, Try.results19, go_sem, r0, r1]) rfl ⟨rfl, ?_⟩
  exact HX3.out.1.setP2 (by omega)

theorem of14_up (m : Mrk) (w : World) : Calls Try.prog 19 #[.agg #[.int .i64 m.sq, .int .i64 m.t, .int .i64 m.n, .int .i64 m.s, .int .i64 m.q, .int .i64 m.lo, .int .i64 m.hi]] w fun e w' => e = ofS m ∧ Up w w' := by
  unfold ofS
  cases h : myM m with
  | false => rw [if_neg Bool.false_ne_true]; exact of14_no m.sq m.t m.n m.s m.q m.lo m.hi h w
  | true => rw [if_pos rfl]; exact of14_yes m.sq m.t m.n m.s m.q m.lo m.hi h w

end Go.Proofs.Ytafkoddgefcpnab
