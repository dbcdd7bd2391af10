/- What Halve of package exact returns. -/
import Derived.Test.YtjmfliljiffekaaEPoly
import Derived.Test.YtjmfliljiffekaaSLeft
namespace Go.Proofs.Ytjmfliljiffekaa
open Go.RowKit

/-- The term of an item: its value times a power of two, nothing if it is too old. -/
def hvP (now : Int) (x : It) : Bool := decide (0 ≤ x.1 ∧ x.1 ≤ now ∧ 0 ≤ x.2)
def hvB (now a : Int) (x : It) : Bool := hvP now x && (decide (a ≤ now - x.1) || leftB x.2 (a - 1 - (now - x.1)))
def hvF (now a : Int) (x : It) : Int := if (hvP now x && decide (now - x.1 < a)) = true then leftV x.2 (a - 1 - (now - x.1)) else 0
theorem leftV_in2 (v n : Int) : In2 (leftV v n) := by
  unfold leftV
  by_cases h : leftB v n = true
  · rw [if_pos h]
    unfold leftB at h
    rw [Bool.and_eq_true] at h
    exact (of_decide_eq_true h.2 : _ ∧ _)
  · rw [if_neg h]; exact ⟨by decide, by decide⟩
theorem hvF_in2 (now a : Int) (x : It) : In2 (hvF now a x) := by
  unfold hvF
  split
  · exact leftV_in2 _ _
  · exact ⟨by decide, by decide⟩
theorem hv_no {now a : Int} {x : It} (h : hvP now x = false) : hvB now a x = false ∧ hvF now a x = 0 := by unfold hvB hvF; rw [h]; exact ⟨rfl, rfl⟩
theorem hv_old {now a : Int} {x : It} (h : hvP now x = true) (ha : a ≤ now - x.1) : hvB now a x = true ∧ hvF now a x = 0 := by
  unfold hvB hvF
  rw [h, decide_eq_true ha, decide_eq_false (by omega)]
  exact ⟨rfl, rfl⟩
theorem hv_new {now a : Int} {x : It} (h : hvP now x = true) (ha : now - x.1 < a) : hvB now a x = leftB x.2 (a - 1 - (now - x.1)) ∧ hvF now a x = leftV x.2 (a - 1 - (now - x.1)) := by
  unfold hvB hvF
  rw [h, decide_eq_true ha, decide_eq_false (by omega)]
  exact ⟨rfl, rfl⟩
/-- What Halve returns. -/
def hvO (L : List It) (now a : Int) : Option Int := if (tickB now && decide (1 ≤ a ∧ a ≤ 64)) = true then accO (hvF now a) (hvB now a) 0 L else none
def gotH (o : Option Int) (D : Int) : Ending := match o with
  | none => .returned (.tuple #[.agg #[.int .u64 0, .int .u64 0, .int .u64 0, .int .u64 0], .bool false])
  | some s => .returned (.tuple #[.agg #[.int .u64 (hiZ s), .int .u64 (loZ s), .int .u64 (hiZ D), .int .u64 (loZ D)], .bool true])

set_option maxHeartbeats 8000000 in
set_option maxRecDepth 100000 in
theorem halveT_up (now a : Int) (hn0 : 0 ≤ now) (hn1 : now ≤ 16777216) (ha0 : 1 ≤ a) (ha1 : a ≤ 64) (b1 b2 : Nat) (p0 p1 : Int) (i0 : In p0) (i1 : In p1) (w : World) (c1 : w.cell? ⟨b1, 0, none⟩ = some (.int .i64 now)) (c2 : w.cell? ⟨b2, 0, none⟩ = some (.int .i64 a)) :
    Calls Try.prog 75 #[.agg #[.int .i64 p0, .int .i64 p1], .pointer (some ⟨b1, 0, none⟩), .pointer (some ⟨b2, 0, none⟩)] w fun e w' => e = got2 (hvF now a (p0, p1)) (hvB now a (p0, p1)) ∧ Up w w' := by
  have lb1 : b1 < w.heap.size := World.block_lt_of_cell? _ _ c1
  have lb2 : b2 < w.heap.size := World.block_lt_of_cell? _ _ c2
  have nb1 : ¬ w.heap.size = b1 := by omega
  have nb2 : ¬ w.heap.size = b2 := by omega
  have mb1 : b1 < w.heap.size + 1 := by omega
  have mb2 : b2 < w.heap.size + 1 := by omega
  have mb3 : b1 < w.heap.size + 1 + 1 := by omega
  have mb4 : b2 < w.heap.size + 1 + 1 := by omega
  by_cases hv : 0 ≤ p0 ∧ p0 ≤ now ∧ 0 ≤ p1
  case neg =>
    obtain ⟨e1, e2⟩ := hv_no (a := a) (show hvP now (p0, p1) = false from decide_eq_false hv)
    rw [e1, e2]
    clear e1 e2
    by_cases h1 : p0 < 0
    · clear hv
      go_enter Try.func75, Try.ntmps75
      go_wp2_with fail
      refine bodyPost_ret (v := .tuple #[.agg #[.int .u64 0, .int .u64 0], .bool false]) (by simp [results, Try.results75, go_sem]) rfl ⟨?_, ?_⟩
      · rfl
      · repeat (first | exact Up.refl _ | refine Up.alloc ?_ _ _ | refine Up.setCell ?_ (by first | (simp; done) | (simp; omega) | omega) _ | refine Up.drewN ?_ _ | refine Up.drew ?_)
    by_cases h2 : now < p0
    · clear hv
      go_enter Try.func75, Try.ntmps75
      go_wp2_with fail
      refine bodyPost_ret (v := .tuple #[.agg #[.int .u64 0, .int .u64 0], .bool false]) (by simp [results, Try.results75, go_sem]) rfl ⟨?_, ?_⟩
      · rfl
      · repeat (first | exact Up.refl _ | refine Up.alloc ?_ _ _ | refine Up.setCell ?_ (by first | (simp; done) | (simp; omega) | omega) _ | refine Up.drewN ?_ _ | refine Up.drew ?_)
    have h3 : p1 < 0 := by omega
    clear hv
    go_enter Try.func75, Try.ntmps75
    go_wp2_with fail
    refine bodyPost_ret (v := .tuple #[.agg #[.int .u64 0, .int .u64 0], .bool false]) (by simp [results, Try.results75, go_sem]) rfl ⟨?_, ?_⟩
    · rfl
    · repeat (first | exact Up.refl _ | refine Up.alloc ?_ _ _ | refine Up.setCell ?_ (by first | (simp; done) | (simp; omega) | omega) _ | refine Up.drewN ?_ _ | refine Up.drew ?_)
  case pos =>
  have hP : hvP now (p0, p1) = true := decide_eq_true hv
  obtain ⟨v1, v2, v3⟩ := hv
  unfold In at i0 i1
  have k1 : IntKind.i64.wrap (now - p0) = now - p0 := IntWalk.i64_in _ (by omega)
  by_cases hold : a ≤ now - p0
  · obtain ⟨e1, e2⟩ := hv_old (x := (p0, p1)) hP hold
    rw [e1, e2]
    clear e1 e2 hP
    go_enter Try.func75, Try.ntmps75
    go_wp2_with fail
    refine bodyPost_ret (v := .tuple #[.agg #[.int .u64 0, .int .u64 0], .bool true]) (by simp [results, Try.results75, go_sem]) rfl ⟨?_, ?_⟩
    · rfl
    · repeat (first | exact Up.refl _ | refine Up.alloc ?_ _ _ | refine Up.setCell ?_ (by first | (simp; done) | (simp; omega) | omega) _ | refine Up.drewN ?_ _ | refine Up.drew ?_)
  obtain ⟨e1, e2⟩ := hv_new (x := (p0, p1)) hP (by show now - p0 < a; omega)
  rw [e1, e2]
  simp only
  clear e1 e2 hP
  have hw1 : Word p1 := ⟨by omega, by omega⟩
  have KO := Lib.hid (fun W => of_up p1 W)
  have KF := Lib.hid (fun W => left_up 0 p1 (a - 1 - (now - p0)) ⟨by decide, by decide⟩ hw1 ⟨by omega, by omega⟩ W)
  rw [show val 0 p1 = p1 by unfold val; omega] at KF
  generalize leftV p1 (a - 1 - (now - p0)) = lv at *
  generalize leftB p1 (a - 1 - (now - p0)) = lb at *
  have k2 : IntKind.i64.wrap (a - 1) = a - 1 := IntWalk.i64_in _ (by omega)
  have k3 : IntKind.i64.wrap (a - 1 - (now - p0)) = a - 1 - (now - p0) := IntWalk.i64_in _ (by omega)
  have k4 : IntKind.u64.wrap p1 = p1 := by rw [IntKind.wrap_u64]; omega
  clear hw1
  go_enter Try.func75, Try.ntmps75
  go_upto_region 6 with fail
  have HU : Hid (Up w ((w.alloc (.cells #[.int .i64 p0, .int .i64 p1] 39)).alloc (.cells #[.int .u64 0, .int .u64 0] 49))) := Lib.hid (((Up.refl w).alloc _ _).alloc _ _)
  have c0 : ((w.alloc (.cells #[.int .i64 p0, .int .i64 p1] 39)).alloc (.cells #[.int .u64 0, .int .u64 0] 49)).cell? ⟨w.heap.size, 1, none⟩ = some (.int .i64 p1) := by simp [go_sem]
  have c1 := HU.out.keep _ _ _ c2
  have r0_ : ((w.alloc (.cells #[.int .i64 p0, .int .i64 p1] 39)).alloc (.cells #[.int .u64 0, .int .u64 0] 49)).cell? ⟨w.heap.size + 1, 0, none⟩ = some (.int .u64 0) := by simp [go_sem]
  have r1_ : ((w.alloc (.cells #[.int .i64 p0, .int .i64 p1] 39)).alloc (.cells #[.int .u64 0, .int .u64 0] 49)).cell? ⟨w.heap.size + 1, 1, none⟩ = some (.int .u64 0) := by simp [go_sem]
  have z0_ := HU.out.ownGe (show w.heap.size ≤ w.heap.size + 1 by omega) 0
  have z1_ := HU.out.ownGe (show w.heap.size ≤ w.heap.size + 1 by omega) 1
  clear c2
  generalize (w.alloc (.cells #[.int .i64 p0, .int .i64 p1] 39)).alloc (.cells #[.int .u64 0, .int .u64 0] 49) = wi at *
  refine wp_region_held_drew (S := fun w' => Up w w' ∧ w'.cell? ⟨w.heap.size, 1, none⟩ = some (.int .i64 p1) ∧ w'.cell? ⟨b2, 0, none⟩ = some (.int .i64 a)) (by kernel_rfl) ?hB1 (fun hHeld => ?_)
  case hB1 => (first | (with_reducible assumption) | (exact keep2 (Lib.hid (Up.refl _).drew) ⟨HU.out, c0, c1⟩) | (exact set2 (set2 hHeld (by omega) (by omega) (by omega)) (by omega) (by omega) (by omega)))
  refine wpAnyH_take (i := 0) (oi := ⟨_, _, _, _, _, _⟩) (v := ?v2) rfl (by kernel_rfl) (by kernel_rfl) (by kernel_rfl) (fun _ _ _ h => h) (Or.inl ⟨by rfl, ?hy2⟩) (by assumption) ?_
  case hy2 => (intro w hSw; (try dsimp only at hSw); go_simp; (try (with_reducible rfl)))
  (try simp only [Act.put, List.setIfInBounds_toArray, List.set_cons_zero, List.set_cons_succ])
  refine wpAnyH_take (i := 1) (oi := ⟨_, _, _, _, _, _⟩) (v := ?v3) rfl (by kernel_rfl) (by kernel_rfl) (by kernel_rfl) (fun _ _ _ h => h) (Or.inl ⟨by rfl, ?hy3⟩) (by assumption) ?_
  case hy3 => (intro w hSw; (try dsimp only at hSw); go_simp; (try (with_reducible rfl)))
  (try simp only [Act.put, List.setIfInBounds_toArray, List.set_cons_zero, List.set_cons_succ])
  refine wpAnyH_take (i := 2) (oi := ⟨_, _, _, _, _, _⟩) (v := ?v4) rfl (by kernel_rfl) (by kernel_rfl) (by kernel_rfl) (fun _ _ _ h => h) (Or.inl ⟨by rfl, ?hy4⟩) (by assumption) ?_
  case hy4 => (intro w hSw; (try dsimp only at hSw); go_simp; (try (with_reducible rfl)))
  (try simp only [Act.put, List.setIfInBounds_toArray, List.set_cons_zero, List.set_cons_succ])
  refine wpAnyH_take (i := 4) (oi := ⟨_, _, _, _, _, _⟩) (v := ?v5) rfl (by kernel_rfl) (by kernel_rfl) (by kernel_rfl) (fun _ _ _ h => h) (Or.inl ⟨by rfl, ?hy5⟩) (by assumption) ?_
  case hy5 => (intro w hSw; (try dsimp only at hSw); go_simp; (try (with_reducible rfl)))
  (try simp only [Act.put, List.setIfInBounds_toArray, List.set_cons_zero, List.set_cons_succ])
  refine wpAnyH_take (i := 5) (oi := ⟨_, _, _, _, _, _⟩) (v := ?v6) rfl (by kernel_rfl) (by kernel_rfl) (by kernel_rfl) (fun _ _ _ h => h) (Or.inl ⟨by rfl, ?hy6⟩) (by assumption) ?_
  case hy6 => (intro w hSw; (try dsimp only at hSw); go_simp; (try (with_reducible rfl)))
  (try simp only [Act.put, List.setIfInBounds_toArray, List.set_cons_zero, List.set_cons_succ])
  refine wpAnyH_take (i := 6) (oi := ⟨_, _, _, _, _, _⟩) (v := ?v7) rfl (by kernel_rfl) (by kernel_rfl) (by kernel_rfl) (fun _ _ _ h => h) (Or.inl ⟨by rfl, ?hy7⟩) (by assumption) ?_
  case hy7 => (intro w hSw; (try dsimp only at hSw); go_simp; (try (with_reducible rfl)))
  (try simp only [Act.put, List.setIfInBounds_toArray, List.set_cons_zero, List.set_cons_succ])
  refine wpAnyH_take (i := 7) (oi := ⟨_, _, _, _, _, _⟩) (v := ?v8) rfl (by kernel_rfl) (by kernel_rfl) (by kernel_rfl) (fun _ _ _ h => h) (Or.inl ⟨by rfl, ?hy8⟩) (by assumption) ?_
  case hy8 => (intro w hSw; (try dsimp only at hSw); go_simp; (try (with_reducible rfl)))
  (try simp only [Act.put, List.setIfInBounds_toArray, List.set_cons_zero, List.set_cons_succ])
  refine wpAnyH_ready (rs := [3]) (by kernel_rfl) (by simp) ?_
  refine AllReadyH.cons (o := ⟨_, _, _, _, _, _⟩) rfl (fun K hK => ?_) AllReadyH.nil
  go_simp
  (go_at_call 60; (with_reducible refine (KO.out _).mono ?_); rintro e w1 ⟨rfl, hu1⟩; have HU1 := Lib.hid hu1; have hS1 := keep2 (Lib.hid hu1) hHeld; have r0_1 := hu1.keep _ _ _ r0_; have r1_1 := hu1.keep _ _ _ r1_; have z0_1 := (hu1.cells.2 _).trans z0_; have z1_1 := (hu1.cells.2 _).trans z1_; clear hu1; (try unfold got2))
  (try go_wp2_with fail)
  refine hK.out _ _ ?hB9 (fun hHeld => ?_)
  case hB9 => (first | (with_reducible assumption) | (exact keep2 (Lib.hid (Up.refl _).drew) ⟨HU.out, c0, c1⟩) | (exact set2 (set2 hHeld (by omega) (by omega) (by omega)) (by omega) (by omega) (by omega)))
  clear hK K
  (try simp only [Act.put, List.setIfInBounds_toArray, List.set_cons_zero, List.set_cons_succ])
  refine wpAnyH_ready (rs := [8]) (by kernel_rfl) (by simp) ?_
  refine AllReadyH.cons (o := ⟨_, _, _, _, _, _⟩) rfl (fun K hK => ?_) AllReadyH.nil
  go_simp
  (go_at_call 76; (with_reducible refine (KF.out _).mono ?_); rintro e w2 ⟨rfl, hu2⟩; have HU2 := Lib.hid hu2; have hS2 := keep2 (Lib.hid hu2) hHeld; have r0_2 := hu2.keep _ _ _ r0_1; have r1_2 := hu2.keep _ _ _ r1_1; have z0_2 := (hu2.cells.2 _).trans z0_1; have z1_2 := (hu2.cells.2 _).trans z1_1; clear hu2; (try unfold got2))
  (try go_wp2_with fail)
  refine hK.out _ _ ?hB10 (fun hHeld => ?_)
  case hB10 => (first | (with_reducible assumption) | (exact keep2 (Lib.hid (Up.refl _).drew) ⟨HU.out, c0, c1⟩) | (exact set2 (set2 hHeld (by omega) (by omega) (by omega)) (by omega) (by omega) (by omega)))
  clear hK K
  (try simp only [Act.put, List.setIfInBounds_toArray, List.set_cons_zero, List.set_cons_succ])
  refine wpAnyH_take (i := 9) (oi := ⟨_, _, _, _, _, _⟩) (v := ?v11) rfl (by kernel_rfl) (by kernel_rfl) (by kernel_rfl) (fun _ _ _ h => h) (Or.inl ⟨by rfl, ?hy11⟩) (by assumption) ?_
  case hy11 => (intro w hSw; (try dsimp only at hSw); go_simp; (try (with_reducible rfl)))
  (try simp only [Act.put, List.setIfInBounds_toArray, List.set_cons_zero, List.set_cons_succ])
  refine wpAnyH_take (i := 10) (oi := ⟨_, _, _, _, _, _⟩) (v := ?v12) rfl (by kernel_rfl) (by kernel_rfl) (by kernel_rfl) (fun _ _ _ h => h) (Or.inl ⟨by rfl, ?hy12⟩) (by assumption) ?_
  case hy12 => (intro w hSw; (try dsimp only at hSw); go_simp; (try (with_reducible rfl)))
  (try simp only [Act.put, List.setIfInBounds_toArray, List.set_cons_zero, List.set_cons_succ])
  refine wpAnyH_ready (rs := [11]) (by kernel_rfl) (by simp) ?_
  refine AllReadyH.cons (o := ⟨_, _, _, _, _, _⟩) rfl (fun K hK => ?_) AllReadyH.nil
  go_simp
  refine hK.out _ _ ?hB13 (fun hHeld => ?_)
  case hB13 => (first | (with_reducible assumption) | (exact keep2 (Lib.hid (Up.refl _).drew) ⟨HU.out, c0, c1⟩) | (exact set2 (set2 hHeld (by omega) (by omega) (by omega)) (by omega) (by omega) (by omega)))
  clear hK K
  (try simp only [Act.put, List.setIfInBounds_toArray, List.set_cons_zero, List.set_cons_succ])
  refine wpAnyH_take (i := 12) (oi := ⟨_, _, _, _, _, _⟩) (v := ?v14) rfl (by kernel_rfl) (by kernel_rfl) (by kernel_rfl) (fun _ _ _ h => h) (Or.inl ⟨by rfl, ?hy14⟩) (by assumption) ?_
  case hy14 => (intro w hSw; (try dsimp only at hSw); go_simp; (try (with_reducible rfl)))
  (try simp only [Act.put, List.setIfInBounds_toArray, List.set_cons_zero, List.set_cons_succ])
  refine wpAnyH_done (by kernel_rfl) ?_ _
  go_wp2_with fail
  refine bodyPost_ret (v := .tuple #[.agg #[.int .u64 (hiZ lv), .int .u64 (loZ lv)], .bool lb]) (by simp [results, Try.results75, go_sem, r0_2, r1_2]) rfl ⟨?_, ?_⟩
  · rfl
  · ((repeat (first | (with_reducible exact Up.refl _) | (with_reducible exact hS2.1) | (with_reducible refine Up.alloc ?_ _ _) | (with_reducible refine Up.setCell ?_ ?_ _) | (with_reducible refine Up.drewN ?_ _) | (with_reducible refine Up.drew ?_))); all_goals (first | (simp; done) | (simp; omega) | omega))

/-- What the end of Halve holds. -/
structure Fr (w wr : World) (q : Nat) (s : Int) : Prop where
  up : Up w wr
  r0 : wr.cell? ⟨w.heap.size + 1 + 1, 0, none⟩ = some (.int .u64 0)
  r1 : wr.cell? ⟨w.heap.size + 1 + 1, 1, none⟩ = some (.int .u64 0)
  r2 : wr.cell? ⟨w.heap.size + 1 + 1, 2, none⟩ = some (.int .u64 0)
  r3 : wr.cell? ⟨w.heap.size + 1 + 1, 3, none⟩ = some (.int .u64 0)
  s0 : wr.cell? ⟨q, 0, none⟩ = some (.int .u64 (hiZ s))
  s1 : wr.cell? ⟨q, 1, none⟩ = some (.int .u64 (loZ s))
theorem Fr.keep {w w1 w2 : World} {q : Nat} {s : Int} (h : Fr w w1 q s) (hu : Up w1 w2) : Fr w w2 q s :=
  ⟨h.up.trans hu, hu.keep _ _ _ h.r0, hu.keep _ _ _ h.r1, hu.keep _ _ _ h.r2, hu.keep _ _ _ h.r3, hu.keep _ _ _ h.s0, hu.keep _ _ _ h.s1⟩
theorem Fr.far {w w1 : World} {q b o : Nat} {s : Int} {v : Value} (h : Fr w w1 q s) (hb : w.heap.size + 1 + 1 < b) (hq : b ≠ q) : Fr w (w1.setCell ⟨b, o, none⟩ v) q s :=
  ⟨h.up.setCell (by show w.heap.size ≤ b; omega) _, (cell_far (by show b ≠ _; omega)).trans h.r0, (cell_far (by show b ≠ _; omega)).trans h.r1, (cell_far (by show b ≠ _; omega)).trans h.r2, (cell_far (by show b ≠ _; omega)).trans h.r3, (cell_far hq).trans h.s0, (cell_far hq).trans h.s1⟩
theorem fkeep {w w1 w2 : World} {q b0 : Nat} {s : Int} {x0 : Value} (hu : Hid (Up w1 w2)) (h : Fr w w1 q s ∧ w1.cell? ⟨b0, 0, none⟩ = some x0) : Fr w w2 q s ∧ w2.cell? ⟨b0, 0, none⟩ = some x0 := ⟨h.1.keep hu.out, hu.out.keep _ _ _ h.2⟩
theorem fset {w w1 : World} {q b o b0 : Nat} {s : Int} {v x0 : Value} (h : Fr w w1 q s ∧ w1.cell? ⟨b0, 0, none⟩ = some x0) (hb : w.heap.size + 1 + 1 < b) (hq : b ≠ q) (h0 : b ≠ b0) : Fr w (w1.setCell ⟨b, o, none⟩ v) q s ∧ (w1.setCell ⟨b, o, none⟩ v).cell? ⟨b0, 0, none⟩ = some x0 := ⟨h.1.far hb hq, (cell_far h0).trans h.2⟩

set_option maxHeartbeats 8000000 in
set_option maxRecDepth 100000 in
theorem halve_up (n k : Nat) (A : Option Addr) (L : List It) (now a : Int) (hn : n ≤ 1000000) (hI : InI L) (w : World) (hS : Sl w A n L) :
    Calls Try.prog 39 #[.slice A n k, .int .i64 now, .int .i64 a] w fun e w' => e = gotH (hvO L now a) (leftV 1 (a - 1)) ∧ Up w w' := by
  have KT := Lib.hid (eisTick_any now)
  unfold hvO
  cases ht : tickB now with
  | false =>
    rw [ht] at KT
    rw [show (false && decide (1 ≤ a ∧ a ≤ 64)) = false from rfl, if_neg (by decide)]
    unfold gotH
    clear hS hI ht
    go_enter Try.func39, Try.ntmps39
    go_wp2_with fail
    refine (KT.out _).mono ?_
    rintro e w' ⟨rfl, rfl⟩
    go_wp2_with fail
    refine bodyPost_ret (v := .tuple #[.agg #[.int .u64 0, .int .u64 0, .int .u64 0, .int .u64 0], .bool false]) (by simp [results, Try.results39, go_sem]) rfl ⟨?_, ?_⟩
    · rfl
    · repeat (first | exact Up.refl _ | refine Up.alloc ?_ _ _ | refine Up.setCell ?_ (by first | (simp; done) | (simp; omega) | omega) _ | refine Up.drewN ?_ _ | refine Up.drew ?_)
  | true =>
  rw [ht] at KT
  by_cases hp : 1 ≤ a ∧ a ≤ 64
  case neg =>
    rw [decide_eq_false hp, Bool.and_false, if_neg (by decide)]
    unfold gotH
    clear hS hI ht
    by_cases h0 : a < 1
    · clear hp
      go_enter Try.func39, Try.ntmps39
      go_wp2_with fail
      refine (KT.out _).mono ?_
      rintro e w' ⟨rfl, rfl⟩
      go_wp2_with fail
      refine bodyPost_ret (v := .tuple #[.agg #[.int .u64 0, .int .u64 0, .int .u64 0, .int .u64 0], .bool false]) (by simp [results, Try.results39, go_sem]) rfl ⟨?_, ?_⟩
      · rfl
      · repeat (first | exact Up.refl _ | refine Up.alloc ?_ _ _ | refine Up.setCell ?_ (by first | (simp; done) | (simp; omega) | omega) _ | refine Up.drewN ?_ _ | refine Up.drew ?_)
    · have h4 : 64 < a := by omega
      clear hp
      go_enter Try.func39, Try.ntmps39
      go_wp2_with fail
      refine (KT.out _).mono ?_
      rintro e w' ⟨rfl, rfl⟩
      go_wp2_with fail
      refine bodyPost_ret (v := .tuple #[.agg #[.int .u64 0, .int .u64 0, .int .u64 0, .int .u64 0], .bool false]) (by simp [results, Try.results39, go_sem]) rfl ⟨?_, ?_⟩
      · rfl
      · repeat (first | exact Up.refl _ | refine Up.alloc ?_ _ _ | refine Up.setCell ?_ (by first | (simp; done) | (simp; omega) | omega) _ | refine Up.drewN ?_ _ | refine Up.drew ?_)
  case pos =>
  rw [decide_eq_true hp, Bool.and_true, if_pos rfl]
  have hlt : 0 ≤ now ∧ now ≤ 16777216 := (of_decide_eq_true ht : 0 ≤ now ∧ now ≤ 16777216)
  obtain ⟨hl0, hl1⟩ := hlt
  obtain ⟨hp0, hp1⟩ := hp
  generalize hr : accO (hvF now a) (hvB now a) 0 L = r
  have KS : Hid (Calls Try.prog 68 #[.slice A n k, .func (.func 75) #[] #[.pointer (some ⟨w.heap.size, 0, none⟩), .pointer (some ⟨w.heap.size + 1, 0, none⟩)]] (((w.alloc (.cells #[.int .i64 now] 2)).alloc (.cells #[.int .i64 a] 3)).alloc (.cells #[.int .u64 0, .int .u64 0, .int .u64 0, .int .u64 0] 54)) fun e w' => e = gotW r ∧ Up (((w.alloc (.cells #[.int .i64 now] 2)).alloc (.cells #[.int .i64 a] 3)).alloc (.cells #[.int .u64 0, .int .u64 0, .int .u64 0, .int .u64 0] 54)) w') := Lib.hid (by
    rw [← hr]
    refine sumOf_up 75 _ n k A L _ _ _ (Go.Proofs.enters_of Try.func75 (by kernel_rfl) rfl) hn (hS.up (((((Up.refl w).alloc _ _).alloc _ _).alloc _ _))) (fun x _ => hvF_in2 now a x) (fun W hW q0 q1 hm => ?_)
    have hi := hI _ hm
    exact halveT_up now a hl0 hl1 hp0 hp1 _ _ q0 q1 hi.1 hi.2 W (hW.keep _ _ _ (by simp [go_sem])) (hW.keep _ _ _ (by simp [go_sem])))
  have KO := Lib.hid (fun W => of_up 1 W)
  have KF := Lib.hid (fun W => left_up 0 1 (a - 1) ⟨by decide, by decide⟩ ⟨by decide, by decide⟩ ⟨by omega, by omega⟩ W)
  rw [show val 0 1 = 1 by decide] at KF
  generalize leftV 1 (a - 1) = D at *
  generalize leftB 1 (a - 1) = db at *
  unfold gotW got2 at KS
  clear hr hS hI ht
  cases r with
  | none =>
    unfold gotH
    simp only [Option.getD_none, Option.isSome_none] at KS
    go_enter Try.func39, Try.ntmps39
    go_wp2_with fail
    refine (KT.out _).mono ?_
    rintro e w' ⟨rfl, rfl⟩
    go_wp2_with fail
    refine KS.out.mono ?_
    rintro e w1 ⟨rfl, hu1⟩
    have r0 := hu1.keep (w.heap.size + 1 + 1) 0 (.int .u64 0) (by simp [go_sem])
    have r1 := hu1.keep (w.heap.size + 1 + 1) 1 (.int .u64 0) (by simp [go_sem])
    have r2 := hu1.keep (w.heap.size + 1 + 1) 2 (.int .u64 0) (by simp [go_sem])
    have r3 := hu1.keep (w.heap.size + 1 + 1) 3 (.int .u64 0) (by simp [go_sem])
    have HU1 : Hid (Up w w1) := Lib.hid (by repeat (first | exact Up.refl _ | (refine Up.trans ?_ (hu1); skip) | refine Up.alloc ?_ _ _ | refine Up.setCell ?_ (by first | (simp; done) | (simp; omega) | omega) _ | refine Up.drewN ?_ _ | refine Up.drew ?_))
    have z0 := HU1.out.ownGe (show w.heap.size ≤ w.heap.size + 1 + 1 by omega) 0
    have z1 := HU1.out.ownGe (show w.heap.size ≤ w.heap.size + 1 + 1 by omega) 1
    have z2 := HU1.out.ownGe (show w.heap.size ≤ w.heap.size + 1 + 1 by omega) 2
    have z3 := HU1.out.ownGe (show w.heap.size ≤ w.heap.size + 1 + 1 by omega) 3
    have lw : w.heap.size + 1 + 1 < w1.heap.size := World.block_lt_of_cell? _ _ r0
    clear hu1
    go_wp2_with fail
    refine bodyPost_ret (v := .tuple #[.agg #[.int .u64 0, .int .u64 0, .int .u64 0, .int .u64 0], .bool false]) (by simp [results, Try.results39, go_sem, r0, r1, r2, r3, lw]) rfl ⟨?_, ?_⟩
    · rfl
    · ((repeat (first | (with_reducible exact Up.refl _) | (with_reducible exact HU1.out) | (with_reducible refine Up.alloc ?_ _ _) | (with_reducible refine Up.setCell ?_ ?_ _) | (with_reducible refine Up.drewN ?_ _) | (with_reducible refine Up.drew ?_))); all_goals (first | (simp; done) | (simp; omega) | omega))
  | some s =>
    unfold gotH
    simp only [Option.getD_some, Option.isSome_some] at KS
    have k1 : IntKind.i64.wrap (a - 1) = a - 1 := IntWalk.i64_in _ (by omega)
    go_enter Try.func39, Try.ntmps39
    go_wp2_with fail
    refine (KT.out _).mono ?_
    rintro e w' ⟨rfl, rfl⟩
    go_wp2_with fail
    refine KS.out.mono ?_
    rintro e w1 ⟨rfl, hu1⟩
    have r0 := hu1.keep (w.heap.size + 1 + 1) 0 (.int .u64 0) (by simp [go_sem])
    have r1 := hu1.keep (w.heap.size + 1 + 1) 1 (.int .u64 0) (by simp [go_sem])
    have r2 := hu1.keep (w.heap.size + 1 + 1) 2 (.int .u64 0) (by simp [go_sem])
    have r3 := hu1.keep (w.heap.size + 1 + 1) 3 (.int .u64 0) (by simp [go_sem])
    have ca := hu1.keep (w.heap.size + 1) 0 (.int .i64 a) (by simp [go_sem])
    have HU1 : Hid (Up w w1) := Lib.hid (by repeat (first | exact Up.refl _ | (refine Up.trans ?_ (hu1); skip) | refine Up.alloc ?_ _ _ | refine Up.setCell ?_ (by first | (simp; done) | (simp; omega) | omega) _ | refine Up.drewN ?_ _ | refine Up.drew ?_))
    have lw : w.heap.size + 1 + 1 < w1.heap.size := World.block_lt_of_cell? _ _ r0
    clear hu1
    go_upto_region 6 with fail
    have kp := ((Up.refl w1).alloc #[.int .u64 (hiZ s), .int .u64 (loZ s)] 49).keep
    have ca := kp _ _ _ ca
    have HF : Hid (Fr w (w1.alloc (.cells #[.int .u64 (hiZ s), .int .u64 (loZ s)] 49)) w1.heap.size s) := Lib.hid ⟨HU1.out.alloc _ _, kp _ _ _ r0, kp _ _ _ r1, kp _ _ _ r2, kp _ _ _ r3, by simp [go_sem], by simp [go_sem]⟩
    have la : w1.heap.size < (w1.alloc (.cells #[.int .u64 (hiZ s), .int .u64 (loZ s)] 49)).heap.size := by rw [size_alloc]; omega
    clear kp r0 r1 r2 r3 HU1
    generalize w1.alloc (.cells #[.int .u64 (hiZ s), .int .u64 (loZ s)] 49) = wi at *
    generalize w1.heap.size = q at *
    go_cut [10] (fun t10 wx => ∃ g : Nat, w.heap.size + 1 + 1 < g ∧ t10 = .pointer (some ⟨g, 0, none⟩) ∧ wx.cell? ⟨g, 0, none⟩ = some (.int .u64 (hiZ D)) ∧ wx.cell? ⟨g, 1, none⟩ = some (.int .u64 (loZ D)) ∧ Fr w wx q s)
    case first =>
      go_region_held3 (fun w' => Fr w w' q s ∧ w'.cell? ⟨w.heap.size + 1, 0, none⟩ = some (.int .i64 a))
        (first | (with_reducible exact fkeep (by assumption) (by assumption)) | (repeat (first | (with_reducible assumption) | (with_reducible exact Hid.out (by assumption)) | (with_reducible exact ⟨HF.out, ca⟩) | (with_reducible refine fset ?_ (by omega) (by omega) (by omega)) | (with_reducible refine fkeep (Lib.hid ((Up.refl _).alloc _ _)) ?_) | (with_reducible refine fkeep (Lib.hid (Up.refl _).drew) ?_))))
        (first
      | (go_at_call 60; (with_reducible refine (KO.out _).mono ?_); rintro e w5 ⟨rfl, hu5⟩; have HU5 := Lib.hid hu5; have HS5 := Lib.hid (fkeep HU5 (by assumption)); obtain ⟨hc5, hz5⟩ := hu5.cells; have hs5 := hu5.size; (try simp at hs5); clear hu5; (try unfold got2); (try (have p5_0 : wi.heap.size < w5.heap.size := by omega)); (try (have p5_1 : q < w5.heap.size := by omega)))
      | (go_at_call 76; (with_reducible refine (KF.out _).mono ?_); rintro e w6 ⟨rfl, hu6⟩; have HU6 := Lib.hid hu6; have HS6 := Lib.hid (fkeep HU6 (by assumption)); obtain ⟨hc6, hz6⟩ := hu6.cells; have hs6 := hu6.size; (try simp at hs6); clear hu6; (try unfold got2); (try (have p6_0 : wi.heap.size < w6.heap.size := by omega)); (try (have p6_1 : w5.heap.size < w6.heap.size := by omega)); (try (have p6_2 : q < w6.heap.size := by omega))))
      all_goals
        go_wp2_with fail
        go_meet
        refine ⟨_, ?_, rfl, ?_, ?_, And.left (by assumption)⟩
        · omega
        all_goals (first | (simp [go_sem, *]; done))
    obtain ⟨g, lg, rfl, e0, e1, hF⟩ := hcut
    have r0 := hF.r0
    have r1 := hF.r1
    have r2 := hF.r2
    have r3 := hF.r3
    have s0 := hF.s0
    have s1 := hF.s1
    have z0 := hF.up.ownGe (show w.heap.size ≤ w.heap.size + 1 + 1 by omega) 0
    have z1 := hF.up.ownGe (show w.heap.size ≤ w.heap.size + 1 + 1 by omega) 1
    have z2 := hF.up.ownGe (show w.heap.size ≤ w.heap.size + 1 + 1 by omega) 2
    have z3 := hF.up.ownGe (show w.heap.size ≤ w.heap.size + 1 + 1 by omega) 3
    have HF1 := Lib.hid hF
    clear hF HF ca
    go_wp2_with fail
    refine bodyPost_ret (v := .tuple #[.agg #[.int .u64 (hiZ s), .int .u64 (loZ s), .int .u64 (hiZ D), .int .u64 (loZ D)], .bool true]) (by simp [results, Try.results39, go_sem, r0, r1, r2, r3]) rfl ⟨?_, ?_⟩
    · rfl
    · ((repeat (first | (with_reducible exact Up.refl _) | (with_reducible exact HF1.out.up) | (with_reducible refine Up.alloc ?_ _ _) | (with_reducible refine Up.setCell ?_ ?_ _) | (with_reducible refine Up.drewN ?_ _) | (with_reducible refine Up.drew ?_))); all_goals (first | (simp; done) | (simp; omega) | omega))
end Go.Proofs.Ytjmfliljiffekaa
