/- What Halve of the reference of layer 8 returns. -/
import Derived.Test.YtegaeaonoggmkaaRows
import Derived.Test.YtegaeaonoggmkaaZEHalveq127
import Derived.Test.YtegaeaonoggmkaaZSRefq104
namespace Go.Proofs.Ytegaeaonoggmkaa
open Go.RowKit

/-- What the walk of Halve of the reference holds: the result's cells, and the fraction so far in block g. -/
structure Sh (w wr : World) (g : Nat) (s D : Int) : Prop where
  up : Up w wr
  r0 : wr.cell? ⟨w.heap.size, 0, none⟩ = some (.int .u64 0)
  r1 : wr.cell? ⟨w.heap.size, 1, none⟩ = some (.int .u64 0)
  r2 : wr.cell? ⟨w.heap.size, 2, none⟩ = some (.int .u64 0)
  r3 : wr.cell? ⟨w.heap.size, 3, none⟩ = some (.int .u64 0)
  s0 : wr.cell? ⟨g, 0, none⟩ = some (.int .u64 (hiZ s))
  s1 : wr.cell? ⟨g, 1, none⟩ = some (.int .u64 (loZ s))
  d0 : wr.cell? ⟨g, 2, none⟩ = some (.int .u64 (hiZ D))
  d1 : wr.cell? ⟨g, 3, none⟩ = some (.int .u64 (loZ D))
theorem Sh.keep {w w1 w2 : World} {g : Nat} {s D : Int} (h : Sh w w1 g s D) (hu : Up w1 w2) : Sh w w2 g s D :=
  ⟨h.up.trans hu, hu.keep _ _ _ h.r0, hu.keep _ _ _ h.r1, hu.keep _ _ _ h.r2, hu.keep _ _ _ h.r3, hu.keep _ _ _ h.s0, hu.keep _ _ _ h.s1, hu.keep _ _ _ h.d0, hu.keep _ _ _ h.d1⟩
theorem Sh.far {w w1 : World} {g b q : Nat} {s D : Int} {v : Value} (h : Sh w w1 g s D) (hb : w.heap.size < b) (hg : b ≠ g) : Sh w (w1.setCell ⟨b, q, none⟩ v) g s D :=
  ⟨h.up.setCell (by show w.heap.size ≤ b; omega) _, (cell_far (by show b ≠ _; omega)).trans h.r0, (cell_far (by show b ≠ _; omega)).trans h.r1, (cell_far (by show b ≠ _; omega)).trans h.r2, (cell_far (by show b ≠ _; omega)).trans h.r3, (cell_far hg).trans h.s0, (cell_far hg).trans h.s1, (cell_far hg).trans h.d0, (cell_far hg).trans h.d1⟩
theorem Sh.set {w w1 : World} {g : Nat} {s u D : Int} (h : Sh w w1 g s D) (hg : w.heap.size < g) : Sh w ((w1.setCell ⟨g, 0, none⟩ (.int .u64 (hiZ u))).setCell ⟨g, 1, none⟩ (.int .u64 (loZ u))) g u D := by
  have far : ∀ (W : World) (i : Nat) (x : Value) (o : Nat) (y : Value), W.cell? ⟨w.heap.size, o, none⟩ = some y → (W.setCell ⟨g, i, none⟩ x).cell? ⟨w.heap.size, o, none⟩ = some y := fun W i x o y hy => (cell_far (by show g ≠ w.heap.size; omega)).trans hy
  refine ⟨(h.up.setCell (by show w.heap.size ≤ g; omega) _).setCell (by show w.heap.size ≤ g; omega) _, far _ _ _ _ _ (far _ _ _ _ _ h.r0), far _ _ _ _ _ (far _ _ _ _ _ h.r1), far _ _ _ _ _ (far _ _ _ _ _ h.r2), far _ _ _ _ _ (far _ _ _ _ _ h.r3), ?_, ?_, ?_, ?_⟩
  · rw [cell_set (cell_set h.s0)]; rfl
  · rw [cell_set (cell_set h.s1)]; rfl
  · rw [cell_set (cell_set h.d0)]; rfl
  · rw [cell_set (cell_set h.d1)]; rfl
theorem hkeep {w w1 w2 : World} {g b0 o0 b1 o1 : Nat} {s D : Int} {x0 x1 : Value} (hu : Hid (Up w1 w2)) (h : Sh w w1 g s D ∧ w1.cell? ⟨b0, o0, none⟩ = some x0 ∧ w1.cell? ⟨b1, o1, none⟩ = some x1) : Sh w w2 g s D ∧ w2.cell? ⟨b0, o0, none⟩ = some x0 ∧ w2.cell? ⟨b1, o1, none⟩ = some x1 := ⟨h.1.keep hu.out, hu.out.keep _ _ _ h.2.1, hu.out.keep _ _ _ h.2.2⟩
theorem hset {w w1 : World} {g b q b0 o0 b1 o1 : Nat} {s D : Int} {v x0 x1 : Value} (h : Sh w w1 g s D ∧ w1.cell? ⟨b0, o0, none⟩ = some x0 ∧ w1.cell? ⟨b1, o1, none⟩ = some x1) (hb : w.heap.size < b) (hg : b ≠ g) (n0 : b ≠ b0) (n1 : b ≠ b1) :
    Sh w (w1.setCell ⟨b, q, none⟩ v) g s D ∧ (w1.setCell ⟨b, q, none⟩ v).cell? ⟨b0, o0, none⟩ = some x0 ∧ (w1.setCell ⟨b, q, none⟩ v).cell? ⟨b1, o1, none⟩ = some x1 := ⟨h.1.far hb hg, (cell_far n0).trans h.2.1, (cell_far n1).trans h.2.2⟩

set_option maxHeartbeats 8000000 in
set_option maxRecDepth 100000 in
theorem rhalve_up (n k : Nat) (A : Option Addr) (L : List It) (now a : Int) (hn : n ≤ 1000000) (hI : InI L) (w : World) (hS : Sl w A n L) :
    Calls Try.prog 28 #[.slice A n k, .int .i64 now, .int .i64 a] w fun e w' => e = gotH (hvO L now a) (leftV 1 (a - 1)) ∧ Up w w' := by
  have KT := Lib.hid (rtick_any now)
  unfold hvO
  cases ht : tickB now with
  | false =>
    rw [ht] at KT
    rw [show (false && decide (1 ≤ a ∧ a ≤ 64)) = false from rfl, if_neg (by decide)]
    unfold gotH
    clear hS hI ht
    go_enter Try.func28, Try.ntmps28
    go_wp2_with fail
    refine (KT.out _).mono ?_
    rintro e w' ⟨rfl, rfl⟩
    go_wp2_with fail
    refine bodyPost_ret (v := .tuple #[.agg #[.int .u64 0, .int .u64 0, .int .u64 0, .int .u64 0], .bool false]) (by simp [results, Try.results28, go_sem]) rfl ⟨?_, ?_⟩
    · rfl
    · repeat (first | exact Up.refl _ | refine Up.alloc ?_ _ _ | refine Up.setCell ?_ (by first | (simp; done) | (simp; omega) | omega) _ | refine Up.drewN ?_ _ | refine Up.drew ?_)
  | true =>
  rw [ht] at KT
  by_cases hp : 1 ≤ a ∧ a ≤ 64
  case neg =>
    rw [decide_eq_false hp, Bool.and_false, if_neg (by decide)]
    unfold gotH
    clear hS hI ht
    by_cases h0 : a < 1
    · clear hp
      go_enter Try.func28, Try.ntmps28
      go_wp2_with fail
      refine (KT.out _).mono ?_
      rintro e w' ⟨rfl, rfl⟩
      go_wp2_with fail
      refine bodyPost_ret (v := .tuple #[.agg #[.int .u64 0, .int .u64 0, .int .u64 0, .int .u64 0], .bool false]) (by simp [results, Try.results28, go_sem]) rfl ⟨?_, ?_⟩
      · rfl
      · repeat (first | exact Up.refl _ | refine Up.alloc ?_ _ _ | refine Up.setCell ?_ (by first | (simp; done) | (simp; omega) | omega) _ | refine Up.drewN ?_ _ | refine Up.drew ?_)
    · have h4 : 64 < a := by omega
      clear hp
      go_enter Try.func28, Try.ntmps28
      go_wp2_with fail
      refine (KT.out _).mono ?_
      rintro e w' ⟨rfl, rfl⟩
      go_wp2_with fail
      refine bodyPost_ret (v := .tuple #[.agg #[.int .u64 0, .int .u64 0, .int .u64 0, .int .u64 0], .bool false]) (by simp [results, Try.results28, go_sem]) rfl ⟨?_, ?_⟩
      · rfl
      · repeat (first | exact Up.refl _ | refine Up.alloc ?_ _ _ | refine Up.setCell ?_ (by first | (simp; done) | (simp; omega) | omega) _ | refine Up.drewN ?_ _ | refine Up.drew ?_)
  case pos =>
  rw [decide_eq_true hp, Bool.and_true, if_pos rfl]
  have hlt : 0 ≤ now ∧ now ≤ 16777216 := (of_decide_eq_true ht : 0 ≤ now ∧ now ≤ 16777216)
  obtain ⟨hl0, hl1⟩ := hlt
  obtain ⟨hp0, hp1⟩ := hp
  generalize hr : accO (hvF now a) (hvB now a) 0 L = r
  have KO1 := Lib.hid (fun W => rof_up 1 W)
  have KF1 := Lib.hid (fun W => rleft_up 0 1 (a - 1) ⟨by decide, by decide⟩ ⟨by decide, by decide⟩ ⟨by omega, by omega⟩ W)
  rw [show val 0 1 = 1 by decide] at KF1
  generalize leftV 1 (a - 1) = D at *
  generalize leftB 1 (a - 1) = db at *
  have k1 : IntKind.i64.wrap (a - 1) = a - 1 := IntWalk.i64_in _ (by omega)
  have HR := Lib.hid hr
  have HL := Lib.hid hS.1
  have HS := Lib.hid hS
  have HI := Lib.hid hI
  clear hr ht hS hI
  go_enter Try.func28, Try.ntmps28
  go_wp2_with fail
  refine (KT.out _).mono ?_
  rintro e w' ⟨rfl, rfl⟩
  go_wp2_with fail
  refine (KO1.out _).mono ?_
  rintro e w1 ⟨rfl, hu1⟩
  go_wp2_with fail
  refine (KF1.out _).mono ?_
  rintro e w2 ⟨rfl, hu2⟩
  have kp := (hu1.trans hu2).keep
  have r0 := kp w.heap.size 0 (.int .u64 0) (by simp [go_sem])
  have r1 := kp w.heap.size 1 (.int .u64 0) (by simp [go_sem])
  have r2 := kp w.heap.size 2 (.int .u64 0) (by simp [go_sem])
  have r3 := kp w.heap.size 3 (.int .u64 0) (by simp [go_sem])
  have HU2 : Hid (Up w w2) := Lib.hid (((Up.refl w).alloc _ _).trans (hu1.trans hu2))
  have lw : w.heap.size < w2.heap.size := World.block_lt_of_cell? _ _ r0
  clear hu1 hu2 kp
  unfold got2
  go_wp2_with fail
  have kp := (((Up.refl w2).alloc #[.int .u64 (hiZ D), .int .u64 (loZ D)] 35).alloc #[.int .u64 0, .int .u64 0, .int .u64 (hiZ D), .int .u64 (loZ D)] 37).keep
  have HG0 : Hid (Sh w ((w2.alloc (.cells #[.int .u64 (hiZ D), .int .u64 (loZ D)] 35)).alloc (.cells #[.int .u64 0, .int .u64 0, .int .u64 (hiZ D), .int .u64 (loZ D)] 37)) (w2.heap.size + 1) 0 D) := Lib.hid
    ⟨(HU2.out.alloc _ _).alloc _ _, kp _ _ _ r0, kp _ _ _ r1, kp _ _ _ r2, kp _ _ _ r3, by simp [go_sem, hiZ], by simp [go_sem, loZ], by simp [go_sem], by simp [go_sem]⟩
  clear kp r0 r1 r2 r3 HU2
  generalize (w2.alloc (.cells #[.int .u64 (hiZ D), .int .u64 (loZ D)] 35)).alloc (.cells #[.int .u64 0, .int .u64 0, .int .u64 (hiZ D), .int .u64 (loZ D)] 37) = wi at *
  have lg : w.heap.size < w2.heap.size + 1 := by omega
  generalize w2.heap.size + 1 = g at *
  go_loopw [38] (fun t wr => ∃ (i : Nat) (s : Int), t = .int .i64 i ∧ i ≤ n ∧ Hid (In2 s) ∧ Hid (accO (hvF now a) (hvB now a) s (L.drop i) = r) ∧ Sh w wr g s D) (fun t _ => n - (intOf t).toNat)
  case atStart => exact ⟨0, 0, rfl, Nat.zero_le _, Lib.hid (⟨by decide, by decide⟩ : In2 0), Lib.hid (by rw [List.drop_zero]; exact HR.out), HG0.out⟩
  case round =>
    clear HG0
    obtain ⟨i, s, rfl, hin, H2, HA, hM⟩ := hrel
    have lgr : g < wr.heap.size := World.block_lt_of_cell? _ _ hM.s0
    have lr : w.heap.size < wr.heap.size := World.block_lt_of_cell? _ _ hM.r0
    have HM := Lib.hid hM
    have r0 := hM.r0
    have r1 := hM.r1
    have r2 := hM.r2
    have r3 := hM.r3
    have z0 := hM.up.ownGe (Nat.le_refl w.heap.size) 0
    have z1 := hM.up.ownGe (Nat.le_refl w.heap.size) 1
    have z2 := hM.up.ownGe (Nat.le_refl w.heap.size) 2
    have z3 := hM.up.ownGe (Nat.le_refl w.heap.size) 3
    by_cases hi : i < n
    · obtain ⟨bb, o, rfl, d0, d1⟩ := (HS.out.up hM.up).at_ hi
      have hil : i < L.length := by rw [HL.out]; exact hi
      obtain ⟨i0, i1⟩ := HI.out.at_ hil
      have N1 := Lib.hid (accO_next (f := hvF now a) (b := hvB now a) (s := s) hil)
      have N2 := Lib.hid (accO_no (f := hvF now a) (b := hvB now a) (s := s) hil)
      have N3 := Lib.hid (accO_big (f := hvF now a) (b := hvB now a) (s := s) hil)
      have hp_ : L.getD i (0, 0) = ((L.getD i (0, 0)).1, (L.getD i (0, 0)).2) := rfl
      rw [hp_] at N1 N2 N3
      generalize (L.getD i (0, 0)).1 = p0 at *
      generalize (L.getD i (0, 0)).2 = p1 at *
      have f2 : (i : Int) < n := by omega
      have f3 : (0 : Int) ≤ i := by omega
      clear hM hp_
      by_cases hv : 0 ≤ p0 ∧ p0 ≤ now ∧ 0 ≤ p1
      case neg =>
        obtain ⟨e1, e2⟩ := hv_no (a := a) (show hvP now (p0, p1) = false from decide_eq_false hv)
        obtain rfl : r = none := by rw [← HA.out]; exact N2.out e1
        clear N1 N2 N3 HA HR e1 e2
        by_cases h3 : p1 < 0
        · clear hv
          go_wp2_with fail
          refine bodyPost_ret (v := .tuple #[.agg #[.int .u64 0, .int .u64 0, .int .u64 0, .int .u64 0], .bool false]) (by simp [results, Try.results28, go_sem, r0, r1, r2, r3, lr]) rfl ⟨?_, ?_⟩
          · rfl
          · ((repeat (first | (with_reducible exact Up.refl _) | (with_reducible exact HM.out.up) | (with_reducible refine Up.alloc ?_ _ _) | (with_reducible refine Up.setCell ?_ ?_ _) | (with_reducible refine Up.drewN ?_ _) | (with_reducible refine Up.drew ?_))); all_goals (first | (simp; done) | (simp; omega) | omega))
        by_cases h1 : p0 < 0
        · clear hv
          go_wp2_with fail
          refine bodyPost_ret (v := .tuple #[.agg #[.int .u64 0, .int .u64 0, .int .u64 0, .int .u64 0], .bool false]) (by simp [results, Try.results28, go_sem, r0, r1, r2, r3, lr]) rfl ⟨?_, ?_⟩
          · rfl
          · ((repeat (first | (with_reducible exact Up.refl _) | (with_reducible exact HM.out.up) | (with_reducible refine Up.alloc ?_ _ _) | (with_reducible refine Up.setCell ?_ ?_ _) | (with_reducible refine Up.drewN ?_ _) | (with_reducible refine Up.drew ?_))); all_goals (first | (simp; done) | (simp; omega) | omega))
        have h2 : now < p0 := by omega
        clear hv
        go_wp2_with fail
        refine bodyPost_ret (v := .tuple #[.agg #[.int .u64 0, .int .u64 0, .int .u64 0, .int .u64 0], .bool false]) (by simp [results, Try.results28, go_sem, r0, r1, r2, r3, lr]) rfl ⟨?_, ?_⟩
        · rfl
        · ((repeat (first | (with_reducible exact Up.refl _) | (with_reducible exact HM.out.up) | (with_reducible refine Up.alloc ?_ _ _) | (with_reducible refine Up.setCell ?_ ?_ _) | (with_reducible refine Up.drewN ?_ _) | (with_reducible refine Up.drew ?_))); all_goals (first | (simp; done) | (simp; omega) | omega))
      case pos =>
      have hP : hvP now (p0, p1) = true := decide_eq_true hv
      obtain ⟨v1, v2, v3⟩ := hv
      unfold In at i0 i1
      have k2 : IntKind.i64.wrap (now - p0) = now - p0 := IntWalk.i64_in _ (by omega)
      by_cases hold : a ≤ now - p0
      · obtain ⟨e1, e2⟩ := hv_old (x := (p0, p1)) hP hold
        have HA1 : Hid (accO (hvF now a) (hvB now a) s (L.drop (i + 1)) = r) := Lib.hid (by
          have h := N1.out e1 (by rw [e2, Int.add_zero]; exact decide_eq_true H2.out)
          rw [e2, Int.add_zero] at h
          rw [← h]; exact HA.out)
        clear N1 N2 N3 HA HR e1 e2 hP r0 r1 r2 r3 z0 z1 z2 z3
        go_wp2_with fail
        go_roundw
        case rel => exact ⟨i + 1, s, by go_num, by omega, H2, HA1, HM.out.keep ((Up.refl _).alloc _ _)⟩
        case measure => simp [intOf]; omega
      obtain ⟨eB, eF⟩ := hv_new (x := (p0, p1)) hP (by show now - p0 < a; omega)
      simp only at eB eF
      have hw1 : Word p1 := ⟨by omega, by omega⟩
      have KO := Lib.hid (fun W => rof_up p1 W)
      have KF := Lib.hid (fun W => rleft_up 0 p1 (a - 1 - (now - p0)) ⟨by decide, by decide⟩ hw1 ⟨by omega, by omega⟩ W)
      rw [show val 0 p1 = p1 by unfold val; omega, ← eB, ← eF] at KF
      have hfi := hvF_in2 now a (p0, p1)
      have KA := Lib.hid (fun W => radd_up (hiZ s) (loZ s) (hiZ (hvF now a (p0, p1))) (loZ (hvF now a (p0, p1))) (hiZ_word H2.out) (loZ_word s) (hiZ_word hfi) (loZ_word _) W)
      rw [val_hilo, val_hilo] at KA
      have k3 : IntKind.i64.wrap (a - 1 - (now - p0)) = a - 1 - (now - p0) := IntWalk.i64_in _ (by omega)
      have k4 : IntKind.u64.wrap p1 = p1 := by rw [IntKind.wrap_u64]; omega
      generalize hx : hvF now a (p0, p1) = x at *
      generalize hb : hvB now a (p0, p1) = b at *
      clear hw1 eB eF hfi hx hb hP r0 r1 r2 r3 z0 z1 z2 z3
      go_upto_region 11 with fail
      have cv : (wr.alloc (.cells #[.int .i64 p0, .int .i64 p1] 69)).cell? ⟨wr.heap.size, 1, none⟩ = some (.int .i64 p1) := by simp [go_sem]
      have ct : (wr.alloc (.cells #[.int .i64 p0, .int .i64 p1] 69)).cell? ⟨wr.heap.size, 0, none⟩ = some (.int .i64 p0) := by simp [go_sem]
      have HM2 := Lib.hid (HM.out.keep ((Up.refl wr).alloc #[.int .i64 p0, .int .i64 p1] 69))
      have la : wr.heap.size < (wr.alloc (.cells #[.int .i64 p0, .int .i64 p1] 69)).heap.size := by rw [size_alloc]; omega
      clear HM d0 d1
      generalize wr.alloc (.cells #[.int .i64 p0, .int .i64 p1] 69) = wi at *
      generalize wr.heap.size = q at *
      go_cut [13, 14] (fun t13 t14 wx => ∃ c : Nat, w.heap.size < c ∧ c ≠ g ∧ t13 = .pointer (some ⟨c, 0, none⟩) ∧ t14 = .bool b ∧ wx.cell? ⟨c, 0, none⟩ = some (.int .u64 (hiZ x)) ∧ wx.cell? ⟨c, 1, none⟩ = some (.int .u64 (loZ x)) ∧ Sh w wx g s D)
      case first =>
        go_region_held3 (fun w' => Sh w w' g s D ∧ w'.cell? ⟨q, 1, none⟩ = some (.int .i64 p1) ∧ w'.cell? ⟨q, 0, none⟩ = some (.int .i64 p0))
          (first | (with_reducible exact hkeep (by assumption) (by assumption)) | (repeat (first | (with_reducible assumption) | (with_reducible exact Hid.out (by assumption)) | (with_reducible exact ⟨HM2.out, cv, ct⟩) | (with_reducible refine hset ?_ (by omega) (by omega) (by omega) (by omega)) | (with_reducible refine hkeep (Lib.hid ((Up.refl _).alloc _ _)) ?_) | (with_reducible refine hkeep (Lib.hid (Up.refl _).drew) ?_))))
          (first
            | (go_at_call 43; (with_reducible refine (KO.out _).mono ?_); rintro e w5 ⟨rfl, hu5⟩; have HU5 := Lib.hid hu5; have HS5 := Lib.hid (hkeep HU5 (by assumption)); obtain ⟨hc5, hz5⟩ := hu5.cells; have hs5 := hu5.size; (try simp at hs5); clear hu5; (try unfold got2); (try (have p5_0 : wi.heap.size < w5.heap.size := by omega)); (try (have p5_1 : q < w5.heap.size := by omega)))
            | (go_at_call 42; (with_reducible refine (KF.out _).mono ?_); rintro e w6 ⟨rfl, hu6⟩; have HU6 := Lib.hid hu6; have HS6 := Lib.hid (hkeep HU6 (by assumption)); obtain ⟨hc6, hz6⟩ := hu6.cells; have hs6 := hu6.size; (try simp at hs6); clear hu6; (try unfold got2); (try (have p6_0 : wi.heap.size < w6.heap.size := by omega)); (try (have p6_1 : w5.heap.size < w6.heap.size := by omega)); (try (have p6_2 : q < w6.heap.size := by omega))))
        all_goals
          go_wp2_with fail
          go_meet
          refine ⟨_, ?_, ?_, rfl, rfl, ?_, ?_, And.left (by assumption)⟩
          · omega
          · omega
          all_goals (first | (simp [go_sem, *]; done))
      obtain ⟨c, lc, nc, rfl, rfl, e0, e1, hM⟩ := hcut
      have HM3 := Lib.hid hM
      have s0 := hM.s0
      have s1 := hM.s1
      have r0 := hM.r0
      have r1 := hM.r1
      have r2 := hM.r2
      have r3 := hM.r3
      have z0 := hM.up.ownGe (Nat.le_refl w.heap.size) 0
      have z1 := hM.up.ownGe (Nat.le_refl w.heap.size) 1
      have z2 := hM.up.ownGe (Nat.le_refl w.heap.size) 2
      have z3 := hM.up.ownGe (Nat.le_refl w.heap.size) 3
      have y0 := hM.up.ownGe (show w.heap.size ≤ g by omega) 0
      have y1 := hM.up.ownGe (show w.heap.size ≤ g by omega) 1
      clear hM HM2 cv ct
      cases b with
      | false =>
        obtain rfl : r = none := by rw [← HA.out]; exact N2.out rfl
        clear N1 N2 N3 HA HR
        go_wp2_with fail
        refine bodyPost_ret (v := .tuple #[.agg #[.int .u64 0, .int .u64 0, .int .u64 0, .int .u64 0], .bool false]) (by simp [results, Try.results28, go_sem, r0, r1, r2, r3]) rfl ⟨?_, ?_⟩
        · rfl
        · ((repeat (first | (with_reducible exact Up.refl _) | (with_reducible exact HM3.out.up) | (with_reducible refine Up.alloc ?_ _ _) | (with_reducible refine Up.setCell ?_ ?_ _) | (with_reducible refine Up.drewN ?_ _) | (with_reducible refine Up.drew ?_))); all_goals (first | (simp; done) | (simp; omega) | omega))
      | true =>
        cases hf : fits2 (s + x) with
        | false =>
          obtain rfl : r = none := by rw [← HA.out]; exact N3.out hf
          rw [hf] at KA
          generalize fit2 (s + x) = fx at *
          clear N1 N2 N3 HA HR hf
          go_wp2_with fail
          refine (KA.out _).mono ?_
          rintro e w2_ ⟨rfl, hu2⟩
          have HM4 := Lib.hid (HM3.out.keep hu2)
          have s0 := HM4.out.s0
          have s1 := HM4.out.s1
          have r0 := HM4.out.r0
          have r1 := HM4.out.r1
          have r2 := HM4.out.r2
          have r3 := HM4.out.r3
          have z0 := HM4.out.up.ownGe (Nat.le_refl w.heap.size) 0
          have z1 := HM4.out.up.ownGe (Nat.le_refl w.heap.size) 1
          have z2 := HM4.out.up.ownGe (Nat.le_refl w.heap.size) 2
          have z3 := HM4.out.up.ownGe (Nat.le_refl w.heap.size) 3
          have y0 := HM4.out.up.ownGe (show w.heap.size ≤ g by omega) 0
          have y1 := HM4.out.up.ownGe (show w.heap.size ≤ g by omega) 1
          have ng : ¬ g = w.heap.size := by omega
          clear hu2
          unfold got2
          go_wp2_with fail
          refine bodyPost_ret (v := .tuple #[.agg #[.int .u64 0, .int .u64 0, .int .u64 0, .int .u64 0], .bool false]) (by simp [results, Try.results28, go_sem, r0, r1, r2, r3]) rfl ⟨?_, ?_⟩
          · rfl
          · ((repeat (first | (with_reducible exact Up.refl _) | (with_reducible exact HM4.out.up) | (with_reducible refine Up.alloc ?_ _ _) | (with_reducible refine Up.setCell ?_ ?_ _) | (with_reducible refine Up.drewN ?_ _) | (with_reducible refine Up.drew ?_))); all_goals (first | (simp; done) | (simp; omega) | omega))
        | true =>
          have h2 : In2 (s + x) := (of_decide_eq_true hf : 0 ≤ s + x ∧ s + x < 340282366920938463463374607431768211456)
          rw [hf, fit2_yes h2] at KA
          have HA1 := Lib.hid ((N1.out rfl hf).symm.trans HA.out)
          have H21 := Lib.hid h2
          generalize s + x = u at *
          clear N1 N2 N3 HA HR hf h2 r0 r1 r2 r3 z0 z1 z2 z3
          go_wp2_with fail
          refine (KA.out _).mono ?_
          rintro e w2_ ⟨rfl, hu2⟩
          have HM4 := Lib.hid (HM3.out.keep hu2)
          have s0 := HM4.out.s0
          have s1 := HM4.out.s1
          have y0 := HM4.out.up.ownGe (show w.heap.size ≤ g by omega) 0
          have y1 := HM4.out.up.ownGe (show w.heap.size ≤ g by omega) 1
          clear hu2
          unfold got2
          go_wp2_with fail
          go_roundw
          case rel => exact ⟨i + 1, u, by go_num, by omega, H21, HA1, HM4.out.set (by omega)⟩
          case measure => simp [intOf]; omega
    · obtain rfl : i = n := by omega
      obtain rfl : r = some s := by rw [← HA.out]; exact accO_end (by rw [HL.out]; exact Nat.le_refl _)
      have s0 := hM.s0
      have s1 := hM.s1
      have e0 := hM.d0
      have e1 := hM.d1
      clear HA HR hM
      go_wp2_with fail
      refine bodyPost_ret (v := .tuple #[.agg #[.int .u64 (hiZ s), .int .u64 (loZ s), .int .u64 (hiZ D), .int .u64 (loZ D)], .bool true]) (by simp [results, Try.results28, go_sem, r0, r1, r2, r3]) rfl ⟨?_, ?_⟩
      · rfl
      · ((repeat (first | (with_reducible exact Up.refl _) | (with_reducible exact HM.out.up) | (with_reducible refine Up.alloc ?_ _ _) | (with_reducible refine Up.setCell ?_ ?_ _) | (with_reducible refine Up.drewN ?_ _) | (with_reducible refine Up.drew ?_))); all_goals (first | (simp; done) | (simp; omega) | omega))
end Go.Proofs.Ytegaeaonoggmkaa
