/- What squares and Squares of package exact return, and awake of the laws of layer 8. -/
import Derived.Test.YtflahclphdlolaaZEPlus
import Derived.Test.YtflahclphdlolaaZEWords
import Derived.Test.YtflahclphdlolaaZG0a
import Derived.Test.YtflahclphdlolaaZG2a
import Derived.Test.YtflahclphdlolaaZGLaw
namespace Go.Proofs.Ytflahclphdlolaa
open Go.RowKit

/-- The sum of the squares of the values. -/
def sqZ (L : List It) : Int := (L.map (fun x => x.2 * x.2)).sum
/-- Items whose ticks and values are int64. -/
def InI (L : List It) : Prop := ∀ x ∈ L, In x.1 ∧ In x.2
theorem InI.at_ {L : List It} (h : InI L) {i : Nat} (hi : i < L.length) : In (L.getD i (0, 0)).1 ∧ In (L.getD i (0, 0)).2 := h _ (by simp [List.getD, hi])
theorem take_next {L : List It} {i : Nat} (hi : i < L.length) : L.take (i + 1) = L.take i ++ [L.getD i (0, 0)] := by rw [List.take_add_one]; simp [List.getD, hi]
theorem sqZ_next {L : List It} {i : Nat} (hi : i < L.length) : sqZ (L.take (i + 1)) = sqZ (L.take i) + (L.getD i (0, 0)).2 * (L.getD i (0, 0)).2 := by
  rw [take_next hi]; simp [sqZ]
theorem sqZ_nonneg (L : List It) : 0 ≤ sqZ L := by
  induction L with
  | nil => simp [sqZ]
  | cons x L ih =>
    have : 0 ≤ x.2 * x.2 := by
      rcases Int.le_total 0 x.2 with h | h
      · exact Int.mul_nonneg h h
      · rw [← Int.neg_mul_neg]; exact Int.mul_nonneg (by omega) (by omega)
    simp only [sqZ, List.map_cons, List.sum_cons] at *
    omega
theorem sq_abs (v : Int) : (v.natAbs : Int) * (v.natAbs : Int) = v * v := by
  rcases Int.natAbs_eq v with h | h
  · rw [← h]
  · have e : (v.natAbs : Int) = -v := by omega
    rw [e, Int.neg_mul_neg]
theorem sq_in {v : Int} (h : In v) : 0 ≤ v * v ∧ v * v ≤ 85070591730234615865843651857942052864 := by
  unfold In at h
  rw [← sq_abs]
  have h1 : (v.natAbs : Int) ≤ 9223372036854775808 := by omega
  have h2 : 0 ≤ (v.natAbs : Int) := by omega
  generalize (v.natAbs : Int) = a at *
  have := Int.mul_le_mul h1 h1 h2 (by omega)
  exact ⟨Int.mul_nonneg h2 h2, by omega⟩
theorem sqZ_le {L : List It} (h : InI L) : sqZ L ≤ L.length * 85070591730234615865843651857942052864 := by
  induction L with
  | nil => simp [sqZ]
  | cons x L ih =>
    have h1 := (sq_in (h x (by simp)).2).2
    have h2 := ih (fun y hy => h y (by simp [hy]))
    simp only [sqZ, List.map_cons, List.sum_cons, List.length_cons] at *
    omega
theorem In2_of_le {v : Int} (h0 : 0 ≤ v) (h1 : v ≤ 85070591730234615865843651857942052864) : In2 v := ⟨h0, by omega⟩

/-- What the walk of squares holds. -/
structure Sq (w wr : World) (v : Int) : Prop where
  up : Up w wr
  r0 : wr.cell? ⟨w.heap.size, 0, none⟩ = some (.int .u64 0)
  r1 : wr.cell? ⟨w.heap.size, 1, none⟩ = some (.int .u64 0)
  r2 : wr.cell? ⟨w.heap.size, 2, none⟩ = some (.int .u64 0)
  s0 : wr.cell? ⟨w.heap.size + 1, 0, none⟩ = some (.int .u64 (dg3 v 0))
  s1 : wr.cell? ⟨w.heap.size + 1, 1, none⟩ = some (.int .u64 (dg3 v 1))
  s2 : wr.cell? ⟨w.heap.size + 1, 2, none⟩ = some (.int .u64 (dg3 v 2))
theorem Sq.keep {w w1 w2 : World} {v : Int} (h : Sq w w1 v) (hu : Up w1 w2) : Sq w w2 v :=
  ⟨h.up.trans hu, hu.keep _ _ _ h.r0, hu.keep _ _ _ h.r1, hu.keep _ _ _ h.r2, hu.keep _ _ _ h.s0, hu.keep _ _ _ h.s1, hu.keep _ _ _ h.s2⟩
theorem Sq.set {w w1 : World} {v u : Int} (h : Sq w w1 v) : Sq w (((w1.setCell ⟨w.heap.size + 1, 0, none⟩ (.int .u64 (dg3 u 0))).setCell ⟨w.heap.size + 1, 1, none⟩ (.int .u64 (dg3 u 1))).setCell ⟨w.heap.size + 1, 2, none⟩ (.int .u64 (dg3 u 2))) u := by
  have far : ∀ (W : World) (i : Nat) (x : Value) (q : Nat) (y : Value), W.cell? ⟨w.heap.size, q, none⟩ = some y → (W.setCell ⟨w.heap.size + 1, i, none⟩ x).cell? ⟨w.heap.size, q, none⟩ = some y := fun W i x q y hy => (cell_far (by show w.heap.size + 1 ≠ w.heap.size; omega)).trans hy
  refine ⟨((h.up.setCell (by show w.heap.size ≤ w.heap.size + 1; omega) _).setCell (by show w.heap.size ≤ w.heap.size + 1; omega) _).setCell (by show w.heap.size ≤ w.heap.size + 1; omega) _, far _ _ _ _ _ (far _ _ _ _ _ (far _ _ _ _ _ h.r0)), far _ _ _ _ _ (far _ _ _ _ _ (far _ _ _ _ _ h.r1)), far _ _ _ _ _ (far _ _ _ _ _ (far _ _ _ _ _ h.r2)), ?_, ?_, ?_⟩
  · rw [cell_set (cell_set (cell_set h.s0))]; rfl
  · rw [cell_set (cell_set (cell_set h.s1))]; rfl
  · rw [cell_set (cell_set (cell_set h.s2))]; rfl

set_option maxHeartbeats 4000000 in
set_option maxRecDepth 100000 in
theorem squares_up (n k : Nat) (A : Option Addr) (L : List It) (hn : n ≤ 1000000) (hI : InI L) (w : World) (hS : Sl w A n L) :
    Calls Try.prog 52 #[.slice A n k] w fun e w' => e = .returned (w3 (sqZ L)) ∧ Up w w' := by
  have HL := Lib.hid hS.1
  have HS := Lib.hid hS
  have HI := Lib.hid hI
  clear hS hI
  unfold w3
  go_enter Try.func52, Try.ntmps52
  go_wp2_with fail
  go_loopw [8] (fun t wr => ∃ i : Nat, t = .int .i64 i ∧ i ≤ n ∧ Sq w wr (sqZ (L.take i))) (fun t _ => n - (intOf t).toNat)
  case atStart =>
    refine ⟨0, rfl, Nat.zero_le _, ⟨?_, by simp [go_sem], by simp [go_sem], by simp [go_sem], ?_, ?_, ?_⟩⟩
    · repeat (first | exact Up.refl _ | refine Up.alloc ?_ _ _ | refine Up.setCell ?_ (by first | (simp; done) | (simp; omega) | omega) _ | refine Up.drewN ?_ _ | refine Up.drew ?_)
    all_goals (rw [show sqZ (L.take 0) = 0 by simp [sqZ]]; simp [go_sem, dg3_0, dg3_1, dg3_2])
  case round =>
    obtain ⟨i, rfl, hin, hQ⟩ := hrel
    by_cases hi : i < n
    · obtain ⟨b, o, rfl, d0, d1⟩ := (HS.out.up hQ.up).at_ hi
      have hil : i < L.length := by rw [HL.out]; exact hi
      obtain ⟨ip, iv⟩ := HI.out.at_ hil
      have HN := Lib.hid (sqZ_next hil)
      obtain ⟨u, hE⟩ : ∃ u, sqZ (L.take (i + 1)) = u := ⟨_, rfl⟩
      rw [hE] at HN
      have HE := Lib.hid hE
      clear hE
      generalize sqZ (L.take i) = q at hQ HN
      generalize (L.getD i (0, 0)).1 = p0 at *
      generalize (L.getD i (0, 0)).2 = p1 at *
      obtain ⟨q0, q1⟩ := sq_in iv
      have KM := Lib.hid (emag_any p1 iv)
      have hw : Word (p1.natAbs : Int) := by unfold Word; unfold In at iv; omega
      have KP := Lib.hid (fun W => product_up (p1.natAbs : Int) (p1.natAbs : Int) hw hw W)
      rw [sq_abs] at KP
      have KW := Lib.hid (fun W => wordsOf_v (p1 * p1) (In2_of_le q0 q1) W)
      have KA := Lib.hid (fun W => plus_v q (p1 * p1) W)
      rw [← HN.out] at KA
      unfold w3 at KW KA
      generalize p1 * p1 = pp at KP KW KA
      generalize (p1.natAbs : Int) = pa at *
      have f2 : (i : Int) < n := by omega
      have f3 : (0 : Int) ≤ i := by omega
      clear hw q0 q1 ip iv
      have HQ := Lib.hid hQ
      have a0 := hQ.s0
      have a1 := hQ.s1
      have a2 := hQ.s2
      have z0 := hQ.up.ownGe (show w.heap.size ≤ w.heap.size + 1 by omega) 0
      have z1 := hQ.up.ownGe (show w.heap.size ≤ w.heap.size + 1 by omega) 1
      have z2 := hQ.up.ownGe (show w.heap.size ≤ w.heap.size + 1 by omega) 2
      clear hQ
      go_upto_region 5 with fail
      have g0 := ((Up.refl wr).alloc #[.int .i64 p0, .int .i64 p1] 39).keep _ _ _ a0
      have g1 := ((Up.refl wr).alloc #[.int .i64 p0, .int .i64 p1] 39).keep _ _ _ a1
      have g2 := ((Up.refl wr).alloc #[.int .i64 p0, .int .i64 p1] 39).keep _ _ _ a2
      have y0 := (((Up.refl wr).alloc #[.int .i64 p0, .int .i64 p1] 39).cells.2 _).trans z0
      have y1 := (((Up.refl wr).alloc #[.int .i64 p0, .int .i64 p1] 39).cells.2 _).trans z1
      have y2 := (((Up.refl wr).alloc #[.int .i64 p0, .int .i64 p1] 39).cells.2 _).trans z2
      have HQ1 := Lib.hid (HQ.out.keep ((Up.refl wr).alloc #[.int .i64 p0, .int .i64 p1] 39))
      have lw : w.heap.size + 1 < wr.heap.size := World.block_lt_of_cell? _ _ a0
      have v1 : (wr.alloc (.cells #[.int .i64 p0, .int .i64 p1] 39)).cell? ⟨wr.heap.size, 1, none⟩ = some (.int .i64 p1) := by simp [go_sem]
      clear a0 a1 a2 z0 z1 z2 d0 d1 HQ
      generalize wr.alloc (.cells #[.int .i64 p0, .int .i64 p1] 39) = wi at *
      refine wp_region_held_drew (S := fun w' => w'.cell? ⟨wr.heap.size, 1, none⟩ = some (.int .i64 p1)) (by kernel_rfl) ?hB1 (fun hHeld => ?_)
      case hB1 => (first | (with_reducible assumption) | (exact v1) | (exact (cell_far (by show w.heap.size + 1 ≠ wr.heap.size; omega)).trans ((cell_far (by show w.heap.size + 1 ≠ wr.heap.size; omega)).trans ((cell_far (by show w.heap.size + 1 ≠ wr.heap.size; omega)).trans hHeld))))
      refine wpAnyH_take (i := 1) (oi := ⟨_, _, _, _, _, _⟩) (v := ?v2) rfl (by kernel_rfl) (by kernel_rfl) (by kernel_rfl) (fun _ _ _ h => h) (Or.inl ⟨by rfl, ?hy2⟩) (by assumption) ?_
      case hy2 => (intro w hSw; (try dsimp only at hSw); go_simp; (try (with_reducible rfl)))
      (try simp only [Act.put, List.setIfInBounds_toArray, List.set_cons_zero, List.set_cons_succ])
      refine wpAnyH_take (i := 2) (oi := ⟨_, _, _, _, _, _⟩) (v := ?v3) rfl (by kernel_rfl) (by kernel_rfl) (by kernel_rfl) (fun _ _ _ h => h) (Or.inl ⟨by rfl, ?hy3⟩) (by assumption) ?_
      case hy3 => (intro w hSw; (try dsimp only at hSw); go_simp; (try (with_reducible rfl)))
      (try simp only [Act.put, List.setIfInBounds_toArray, List.set_cons_zero, List.set_cons_succ])
      refine wpAnyH_take (i := 4) (oi := ⟨_, _, _, _, _, _⟩) (v := ?v4) rfl (by kernel_rfl) (by kernel_rfl) (by kernel_rfl) (fun _ _ _ h => h) (Or.inl ⟨by rfl, ?hy4⟩) (by assumption) ?_
      case hy4 => (intro w hSw; (try dsimp only at hSw); go_simp; (try (with_reducible rfl)))
      (try simp only [Act.put, List.setIfInBounds_toArray, List.set_cons_zero, List.set_cons_succ])
      refine wpAnyH_take (i := 5) (oi := ⟨_, _, _, _, _, _⟩) (v := ?v5) rfl (by kernel_rfl) (by kernel_rfl) (by kernel_rfl) (fun _ _ _ h => h) (Or.inl ⟨by rfl, ?hy5⟩) (by assumption) ?_
      case hy5 => (intro w hSw; (try dsimp only at hSw); go_simp; (try (with_reducible rfl)))
      (try simp only [Act.put, List.setIfInBounds_toArray, List.set_cons_zero, List.set_cons_succ])
      refine wpAnyH_ready (rs := [0, 3]) (by kernel_rfl) (by simp) ?_
      refine AllReadyH.cons (o := ⟨_, _, _, _, _, _⟩) rfl (fun K hK => ?_) (AllReadyH.cons (o := ⟨_, _, _, _, _, _⟩) rfl (fun K hK => ?_) AllReadyH.nil)
      · go_simp
        refine hK.out _ _ ?hB6 (fun hHeld => ?_)
        case hB6 => (first | (with_reducible assumption) | (exact v1) | (exact (cell_far (by show w.heap.size + 1 ≠ wr.heap.size; omega)).trans ((cell_far (by show w.heap.size + 1 ≠ wr.heap.size; omega)).trans ((cell_far (by show w.heap.size + 1 ≠ wr.heap.size; omega)).trans hHeld))))
        clear hK K
        (try simp only [Act.put, List.setIfInBounds_toArray, List.set_cons_zero, List.set_cons_succ])
        refine wpAnyH_ready (rs := [3]) (by kernel_rfl) (by simp) ?_
        refine AllReadyH.cons (o := ⟨_, _, _, _, _, _⟩) rfl (fun K hK => ?_) AllReadyH.nil
        go_simp
        (go_at_call 71; (with_reducible refine (KM.out _).mono ?_); rintro e w' ⟨rfl, rfl⟩)
        (try go_wp2_with fail)
        refine hK.out _ _ ?hB7 (fun hHeld => ?_)
        case hB7 => (first | (with_reducible assumption) | (exact v1) | (exact (cell_far (by show w.heap.size + 1 ≠ wr.heap.size; omega)).trans ((cell_far (by show w.heap.size + 1 ≠ wr.heap.size; omega)).trans ((cell_far (by show w.heap.size + 1 ≠ wr.heap.size; omega)).trans hHeld))))
        clear hK K
        (try simp only [Act.put, List.setIfInBounds_toArray, List.set_cons_zero, List.set_cons_succ])
        refine wpAnyH_ready (rs := [6]) (by kernel_rfl) (by simp) ?_
        refine AllReadyH.cons (o := ⟨_, _, _, _, _, _⟩) rfl (fun K hK => ?_) AllReadyH.nil
        go_simp
        (go_at_call 71; (with_reducible refine (KM.out _).mono ?_); rintro e w' ⟨rfl, rfl⟩)
        (try go_wp2_with fail)
        refine hK.out _ _ ?hB8 (fun hHeld => ?_)
        case hB8 => (first | (with_reducible assumption) | (exact v1) | (exact (cell_far (by show w.heap.size + 1 ≠ wr.heap.size; omega)).trans ((cell_far (by show w.heap.size + 1 ≠ wr.heap.size; omega)).trans ((cell_far (by show w.heap.size + 1 ≠ wr.heap.size; omega)).trans hHeld))))
        clear hK K
        (try simp only [Act.put, List.setIfInBounds_toArray, List.set_cons_zero, List.set_cons_succ])
        refine wpAnyH_ready (rs := [7]) (by kernel_rfl) (by simp) ?_
        refine AllReadyH.cons (o := ⟨_, _, _, _, _, _⟩) rfl (fun K hK => ?_) AllReadyH.nil
        go_simp
        (go_at_call 77; (with_reducible refine (KP.out _).mono ?_); rintro e w1 ⟨rfl, hu1⟩; have HU1 := Lib.hid hu1; have hS1 := hu1.keep _ _ _ hHeld; have ga0 := hu1.keep _ _ _ g0; have ga1 := hu1.keep _ _ _ g1; have ga2 := hu1.keep _ _ _ g2; have ya0 := (hu1.cells.2 _).trans y0; have ya1 := (hu1.cells.2 _).trans y1; have ya2 := (hu1.cells.2 _).trans y2; clear hu1)
        (try go_wp2_with fail)
        refine hK.out _ _ ?hB9 (fun hHeld => ?_)
        case hB9 => (first | (with_reducible assumption) | (exact v1) | (exact (cell_far (by show w.heap.size + 1 ≠ wr.heap.size; omega)).trans ((cell_far (by show w.heap.size + 1 ≠ wr.heap.size; omega)).trans ((cell_far (by show w.heap.size + 1 ≠ wr.heap.size; omega)).trans hHeld))))
        clear hK K
        (try simp only [Act.put, List.setIfInBounds_toArray, List.set_cons_zero, List.set_cons_succ])
        refine wpAnyH_ready (rs := [8]) (by kernel_rfl) (by simp) ?_
        refine AllReadyH.cons (o := ⟨_, _, _, _, _, _⟩) rfl (fun K hK => ?_) AllReadyH.nil
        go_simp
        (go_at_call 47; (with_reducible refine (KW.out _).mono ?_); rintro e w2 ⟨rfl, hu2⟩; have HU2 := Lib.hid hu2; have hS2 := hu2.keep _ _ _ hHeld; have gb0 := hu2.keep _ _ _ ga0; have gb1 := hu2.keep _ _ _ ga1; have gb2 := hu2.keep _ _ _ ga2; have yb0 := (hu2.cells.2 _).trans ya0; have yb1 := (hu2.cells.2 _).trans ya1; have yb2 := (hu2.cells.2 _).trans ya2; clear hu2)
        (try go_wp2_with fail)
        refine hK.out _ _ ?hB10 (fun hHeld => ?_)
        case hB10 => (first | (with_reducible assumption) | (exact v1) | (exact (cell_far (by show w.heap.size + 1 ≠ wr.heap.size; omega)).trans ((cell_far (by show w.heap.size + 1 ≠ wr.heap.size; omega)).trans ((cell_far (by show w.heap.size + 1 ≠ wr.heap.size; omega)).trans hHeld))))
        clear hK K
        (try simp only [Act.put, List.setIfInBounds_toArray, List.set_cons_zero, List.set_cons_succ])
        refine wpAnyH_ready (rs := [9]) (by kernel_rfl) (by simp) ?_
        refine AllReadyH.cons (o := ⟨_, _, _, _, _, _⟩) rfl (fun K hK => ?_) AllReadyH.nil
        go_simp
        (go_at_call 78; (with_reducible refine (KA.out _).mono ?_); rintro e w3 ⟨rfl, hu3⟩; have HU3 := Lib.hid hu3; have hS3 := hu3.keep _ _ _ hHeld; have gc0 := hu3.keep _ _ _ gb0; have gc1 := hu3.keep _ _ _ gb1; have gc2 := hu3.keep _ _ _ gb2; have yc0 := (hu3.cells.2 _).trans yb0; have yc1 := (hu3.cells.2 _).trans yb1; have yc2 := (hu3.cells.2 _).trans yb2; clear hu3)
        (try go_wp2_with fail)
        refine hK.out _ _ ?hB11 (fun hHeld => ?_)
        case hB11 => (first | (with_reducible assumption) | (exact v1) | (exact (cell_far (by show w.heap.size + 1 ≠ wr.heap.size; omega)).trans ((cell_far (by show w.heap.size + 1 ≠ wr.heap.size; omega)).trans ((cell_far (by show w.heap.size + 1 ≠ wr.heap.size; omega)).trans hHeld))))
        clear hK K
        (try simp only [Act.put, List.setIfInBounds_toArray, List.set_cons_zero, List.set_cons_succ])
        refine wpAnyH_ready (rs := [10]) (by kernel_rfl) (by simp) ?_
        refine AllReadyH.cons (o := ⟨_, _, _, _, _, _⟩) rfl (fun K hK => ?_) AllReadyH.nil
        go_simp
        refine hK.out _ _ ?hB12 (fun hHeld => ?_)
        case hB12 => (first | (with_reducible assumption) | (exact v1) | (exact (cell_far (by show w.heap.size + 1 ≠ wr.heap.size; omega)).trans ((cell_far (by show w.heap.size + 1 ≠ wr.heap.size; omega)).trans ((cell_far (by show w.heap.size + 1 ≠ wr.heap.size; omega)).trans hHeld))))
        clear hK K
        (try simp only [Act.put, List.setIfInBounds_toArray, List.set_cons_zero, List.set_cons_succ])
        refine wpAnyH_done (by kernel_rfl) ?_ _
        go_wp2_with fail
        go_roundw
        case rel => exact ⟨i + 1, by go_num, by omega, by rw [HE.out]; exact ((((HQ1.out.keep (Up.refl _).drew).keep HU1.out).keep HU2.out).keep HU3.out).set⟩
        case measure => simp [intOf]; omega
      · go_simp
        (go_at_call 71; (with_reducible refine (KM.out _).mono ?_); rintro e w' ⟨rfl, rfl⟩)
        (try go_wp2_with fail)
        refine hK.out _ _ ?hB13 (fun hHeld => ?_)
        case hB13 => (first | (with_reducible assumption) | (exact v1) | (exact (cell_far (by show w.heap.size + 1 ≠ wr.heap.size; omega)).trans ((cell_far (by show w.heap.size + 1 ≠ wr.heap.size; omega)).trans ((cell_far (by show w.heap.size + 1 ≠ wr.heap.size; omega)).trans hHeld))))
        clear hK K
        (try simp only [Act.put, List.setIfInBounds_toArray, List.set_cons_zero, List.set_cons_succ])
        refine wpAnyH_ready (rs := [0, 6]) (by kernel_rfl) (by simp) ?_
        refine AllReadyH.cons (o := ⟨_, _, _, _, _, _⟩) rfl (fun K hK => ?_) (AllReadyH.cons (o := ⟨_, _, _, _, _, _⟩) rfl (fun K hK => ?_) AllReadyH.nil)
        · go_simp
          refine hK.out _ _ ?hB14 (fun hHeld => ?_)
          case hB14 => (first | (with_reducible assumption) | (exact v1) | (exact (cell_far (by show w.heap.size + 1 ≠ wr.heap.size; omega)).trans ((cell_far (by show w.heap.size + 1 ≠ wr.heap.size; omega)).trans ((cell_far (by show w.heap.size + 1 ≠ wr.heap.size; omega)).trans hHeld))))
          clear hK K
          (try simp only [Act.put, List.setIfInBounds_toArray, List.set_cons_zero, List.set_cons_succ])
          refine wpAnyH_ready (rs := [6]) (by kernel_rfl) (by simp) ?_
          refine AllReadyH.cons (o := ⟨_, _, _, _, _, _⟩) rfl (fun K hK => ?_) AllReadyH.nil
          go_simp
          (go_at_call 71; (with_reducible refine (KM.out _).mono ?_); rintro e w' ⟨rfl, rfl⟩)
          (try go_wp2_with fail)
          refine hK.out _ _ ?hB15 (fun hHeld => ?_)
          case hB15 => (first | (with_reducible assumption) | (exact v1) | (exact (cell_far (by show w.heap.size + 1 ≠ wr.heap.size; omega)).trans ((cell_far (by show w.heap.size + 1 ≠ wr.heap.size; omega)).trans ((cell_far (by show w.heap.size + 1 ≠ wr.heap.size; omega)).trans hHeld))))
          clear hK K
          (try simp only [Act.put, List.setIfInBounds_toArray, List.set_cons_zero, List.set_cons_succ])
          refine wpAnyH_ready (rs := [7]) (by kernel_rfl) (by simp) ?_
          refine AllReadyH.cons (o := ⟨_, _, _, _, _, _⟩) rfl (fun K hK => ?_) AllReadyH.nil
          go_simp
          (go_at_call 77; (with_reducible refine (KP.out _).mono ?_); rintro e w1 ⟨rfl, hu1⟩; have HU1 := Lib.hid hu1; have hS1 := hu1.keep _ _ _ hHeld; have ga0 := hu1.keep _ _ _ g0; have ga1 := hu1.keep _ _ _ g1; have ga2 := hu1.keep _ _ _ g2; have ya0 := (hu1.cells.2 _).trans y0; have ya1 := (hu1.cells.2 _).trans y1; have ya2 := (hu1.cells.2 _).trans y2; clear hu1)
          (try go_wp2_with fail)
          refine hK.out _ _ ?hB16 (fun hHeld => ?_)
          case hB16 => (first | (with_reducible assumption) | (exact v1) | (exact (cell_far (by show w.heap.size + 1 ≠ wr.heap.size; omega)).trans ((cell_far (by show w.heap.size + 1 ≠ wr.heap.size; omega)).trans ((cell_far (by show w.heap.size + 1 ≠ wr.heap.size; omega)).trans hHeld))))
          clear hK K
          (try simp only [Act.put, List.setIfInBounds_toArray, List.set_cons_zero, List.set_cons_succ])
          refine wpAnyH_ready (rs := [8]) (by kernel_rfl) (by simp) ?_
          refine AllReadyH.cons (o := ⟨_, _, _, _, _, _⟩) rfl (fun K hK => ?_) AllReadyH.nil
          go_simp
          (go_at_call 47; (with_reducible refine (KW.out _).mono ?_); rintro e w2 ⟨rfl, hu2⟩; have HU2 := Lib.hid hu2; have hS2 := hu2.keep _ _ _ hHeld; have gb0 := hu2.keep _ _ _ ga0; have gb1 := hu2.keep _ _ _ ga1; have gb2 := hu2.keep _ _ _ ga2; have yb0 := (hu2.cells.2 _).trans ya0; have yb1 := (hu2.cells.2 _).trans ya1; have yb2 := (hu2.cells.2 _).trans ya2; clear hu2)
          (try go_wp2_with fail)
          refine hK.out _ _ ?hB17 (fun hHeld => ?_)
          case hB17 => (first | (with_reducible assumption) | (exact v1) | (exact (cell_far (by show w.heap.size + 1 ≠ wr.heap.size; omega)).trans ((cell_far (by show w.heap.size + 1 ≠ wr.heap.size; omega)).trans ((cell_far (by show w.heap.size + 1 ≠ wr.heap.size; omega)).trans hHeld))))
          clear hK K
          (try simp only [Act.put, List.setIfInBounds_toArray, List.set_cons_zero, List.set_cons_succ])
          refine wpAnyH_ready (rs := [9]) (by kernel_rfl) (by simp) ?_
          refine AllReadyH.cons (o := ⟨_, _, _, _, _, _⟩) rfl (fun K hK => ?_) AllReadyH.nil
          go_simp
          (go_at_call 78; (with_reducible refine (KA.out _).mono ?_); rintro e w3 ⟨rfl, hu3⟩; have HU3 := Lib.hid hu3; have hS3 := hu3.keep _ _ _ hHeld; have gc0 := hu3.keep _ _ _ gb0; have gc1 := hu3.keep _ _ _ gb1; have gc2 := hu3.keep _ _ _ gb2; have yc0 := (hu3.cells.2 _).trans yb0; have yc1 := (hu3.cells.2 _).trans yb1; have yc2 := (hu3.cells.2 _).trans yb2; clear hu3)
          (try go_wp2_with fail)
          refine hK.out _ _ ?hB18 (fun hHeld => ?_)
          case hB18 => (first | (with_reducible assumption) | (exact v1) | (exact (cell_far (by show w.heap.size + 1 ≠ wr.heap.size; omega)).trans ((cell_far (by show w.heap.size + 1 ≠ wr.heap.size; omega)).trans ((cell_far (by show w.heap.size + 1 ≠ wr.heap.size; omega)).trans hHeld))))
          clear hK K
          (try simp only [Act.put, List.setIfInBounds_toArray, List.set_cons_zero, List.set_cons_succ])
          refine wpAnyH_ready (rs := [10]) (by kernel_rfl) (by simp) ?_
          refine AllReadyH.cons (o := ⟨_, _, _, _, _, _⟩) rfl (fun K hK => ?_) AllReadyH.nil
          go_simp
          refine hK.out _ _ ?hB19 (fun hHeld => ?_)
          case hB19 => (first | (with_reducible assumption) | (exact v1) | (exact (cell_far (by show w.heap.size + 1 ≠ wr.heap.size; omega)).trans ((cell_far (by show w.heap.size + 1 ≠ wr.heap.size; omega)).trans ((cell_far (by show w.heap.size + 1 ≠ wr.heap.size; omega)).trans hHeld))))
          clear hK K
          (try simp only [Act.put, List.setIfInBounds_toArray, List.set_cons_zero, List.set_cons_succ])
          refine wpAnyH_done (by kernel_rfl) ?_ _
          go_wp2_with fail
          go_roundw
          case rel => exact ⟨i + 1, by go_num, by omega, by rw [HE.out]; exact ((((HQ1.out.keep (Up.refl _).drew).keep HU1.out).keep HU2.out).keep HU3.out).set⟩
          case measure => simp [intOf]; omega
        · go_simp
          (go_at_call 71; (with_reducible refine (KM.out _).mono ?_); rintro e w' ⟨rfl, rfl⟩)
          (try go_wp2_with fail)
          refine hK.out _ _ ?hB20 (fun hHeld => ?_)
          case hB20 => (first | (with_reducible assumption) | (exact v1) | (exact (cell_far (by show w.heap.size + 1 ≠ wr.heap.size; omega)).trans ((cell_far (by show w.heap.size + 1 ≠ wr.heap.size; omega)).trans ((cell_far (by show w.heap.size + 1 ≠ wr.heap.size; omega)).trans hHeld))))
          clear hK K
          (try simp only [Act.put, List.setIfInBounds_toArray, List.set_cons_zero, List.set_cons_succ])
          refine wpAnyH_ready (rs := [0, 7]) (by kernel_rfl) (by simp) ?_
          refine AllReadyH.cons (o := ⟨_, _, _, _, _, _⟩) rfl (fun K hK => ?_) (AllReadyH.cons (o := ⟨_, _, _, _, _, _⟩) rfl (fun K hK => ?_) AllReadyH.nil)
          · go_simp
            refine hK.out _ _ ?hB21 (fun hHeld => ?_)
            case hB21 => (first | (with_reducible assumption) | (exact v1) | (exact (cell_far (by show w.heap.size + 1 ≠ wr.heap.size; omega)).trans ((cell_far (by show w.heap.size + 1 ≠ wr.heap.size; omega)).trans ((cell_far (by show w.heap.size + 1 ≠ wr.heap.size; omega)).trans hHeld))))
            clear hK K
            (try simp only [Act.put, List.setIfInBounds_toArray, List.set_cons_zero, List.set_cons_succ])
            refine wpAnyH_ready (rs := [7]) (by kernel_rfl) (by simp) ?_
            refine AllReadyH.cons (o := ⟨_, _, _, _, _, _⟩) rfl (fun K hK => ?_) AllReadyH.nil
            go_simp
            (go_at_call 77; (with_reducible refine (KP.out _).mono ?_); rintro e w1 ⟨rfl, hu1⟩; have HU1 := Lib.hid hu1; have hS1 := hu1.keep _ _ _ hHeld; have ga0 := hu1.keep _ _ _ g0; have ga1 := hu1.keep _ _ _ g1; have ga2 := hu1.keep _ _ _ g2; have ya0 := (hu1.cells.2 _).trans y0; have ya1 := (hu1.cells.2 _).trans y1; have ya2 := (hu1.cells.2 _).trans y2; clear hu1)
            (try go_wp2_with fail)
            refine hK.out _ _ ?hB22 (fun hHeld => ?_)
            case hB22 => (first | (with_reducible assumption) | (exact v1) | (exact (cell_far (by show w.heap.size + 1 ≠ wr.heap.size; omega)).trans ((cell_far (by show w.heap.size + 1 ≠ wr.heap.size; omega)).trans ((cell_far (by show w.heap.size + 1 ≠ wr.heap.size; omega)).trans hHeld))))
            clear hK K
            (try simp only [Act.put, List.setIfInBounds_toArray, List.set_cons_zero, List.set_cons_succ])
            refine wpAnyH_ready (rs := [8]) (by kernel_rfl) (by simp) ?_
            refine AllReadyH.cons (o := ⟨_, _, _, _, _, _⟩) rfl (fun K hK => ?_) AllReadyH.nil
            go_simp
            (go_at_call 47; (with_reducible refine (KW.out _).mono ?_); rintro e w2 ⟨rfl, hu2⟩; have HU2 := Lib.hid hu2; have hS2 := hu2.keep _ _ _ hHeld; have gb0 := hu2.keep _ _ _ ga0; have gb1 := hu2.keep _ _ _ ga1; have gb2 := hu2.keep _ _ _ ga2; have yb0 := (hu2.cells.2 _).trans ya0; have yb1 := (hu2.cells.2 _).trans ya1; have yb2 := (hu2.cells.2 _).trans ya2; clear hu2)
            (try go_wp2_with fail)
            refine hK.out _ _ ?hB23 (fun hHeld => ?_)
            case hB23 => (first | (with_reducible assumption) | (exact v1) | (exact (cell_far (by show w.heap.size + 1 ≠ wr.heap.size; omega)).trans ((cell_far (by show w.heap.size + 1 ≠ wr.heap.size; omega)).trans ((cell_far (by show w.heap.size + 1 ≠ wr.heap.size; omega)).trans hHeld))))
            clear hK K
            (try simp only [Act.put, List.setIfInBounds_toArray, List.set_cons_zero, List.set_cons_succ])
            refine wpAnyH_ready (rs := [9]) (by kernel_rfl) (by simp) ?_
            refine AllReadyH.cons (o := ⟨_, _, _, _, _, _⟩) rfl (fun K hK => ?_) AllReadyH.nil
            go_simp
            (go_at_call 78; (with_reducible refine (KA.out _).mono ?_); rintro e w3 ⟨rfl, hu3⟩; have HU3 := Lib.hid hu3; have hS3 := hu3.keep _ _ _ hHeld; have gc0 := hu3.keep _ _ _ gb0; have gc1 := hu3.keep _ _ _ gb1; have gc2 := hu3.keep _ _ _ gb2; have yc0 := (hu3.cells.2 _).trans yb0; have yc1 := (hu3.cells.2 _).trans yb1; have yc2 := (hu3.cells.2 _).trans yb2; clear hu3)
            (try go_wp2_with fail)
            refine hK.out _ _ ?hB24 (fun hHeld => ?_)
            case hB24 => (first | (with_reducible assumption) | (exact v1) | (exact (cell_far (by show w.heap.size + 1 ≠ wr.heap.size; omega)).trans ((cell_far (by show w.heap.size + 1 ≠ wr.heap.size; omega)).trans ((cell_far (by show w.heap.size + 1 ≠ wr.heap.size; omega)).trans hHeld))))
            clear hK K
            (try simp only [Act.put, List.setIfInBounds_toArray, List.set_cons_zero, List.set_cons_succ])
            refine wpAnyH_ready (rs := [10]) (by kernel_rfl) (by simp) ?_
            refine AllReadyH.cons (o := ⟨_, _, _, _, _, _⟩) rfl (fun K hK => ?_) AllReadyH.nil
            go_simp
            refine hK.out _ _ ?hB25 (fun hHeld => ?_)
            case hB25 => (first | (with_reducible assumption) | (exact v1) | (exact (cell_far (by show w.heap.size + 1 ≠ wr.heap.size; omega)).trans ((cell_far (by show w.heap.size + 1 ≠ wr.heap.size; omega)).trans ((cell_far (by show w.heap.size + 1 ≠ wr.heap.size; omega)).trans hHeld))))
            clear hK K
            (try simp only [Act.put, List.setIfInBounds_toArray, List.set_cons_zero, List.set_cons_succ])
            refine wpAnyH_done (by kernel_rfl) ?_ _
            go_wp2_with fail
            go_roundw
            case rel => exact ⟨i + 1, by go_num, by omega, by rw [HE.out]; exact ((((HQ1.out.keep (Up.refl _).drew).keep HU1.out).keep HU2.out).keep HU3.out).set⟩
            case measure => simp [intOf]; omega
          · go_simp
            (go_at_call 77; (with_reducible refine (KP.out _).mono ?_); rintro e w1 ⟨rfl, hu1⟩; have HU1 := Lib.hid hu1; have hS1 := hu1.keep _ _ _ hHeld; have ga0 := hu1.keep _ _ _ g0; have ga1 := hu1.keep _ _ _ g1; have ga2 := hu1.keep _ _ _ g2; have ya0 := (hu1.cells.2 _).trans y0; have ya1 := (hu1.cells.2 _).trans y1; have ya2 := (hu1.cells.2 _).trans y2; clear hu1)
            (try go_wp2_with fail)
            refine hK.out _ _ ?hB26 (fun hHeld => ?_)
            case hB26 => (first | (with_reducible assumption) | (exact v1) | (exact (cell_far (by show w.heap.size + 1 ≠ wr.heap.size; omega)).trans ((cell_far (by show w.heap.size + 1 ≠ wr.heap.size; omega)).trans ((cell_far (by show w.heap.size + 1 ≠ wr.heap.size; omega)).trans hHeld))))
            clear hK K
            (try simp only [Act.put, List.setIfInBounds_toArray, List.set_cons_zero, List.set_cons_succ])
            refine wpAnyH_ready (rs := [0, 8]) (by kernel_rfl) (by simp) ?_
            refine AllReadyH.cons (o := ⟨_, _, _, _, _, _⟩) rfl (fun K hK => ?_) (AllReadyH.cons (o := ⟨_, _, _, _, _, _⟩) rfl (fun K hK => ?_) AllReadyH.nil)
            · go_simp
              refine hK.out _ _ ?hB27 (fun hHeld => ?_)
              case hB27 => (first | (with_reducible assumption) | (exact v1) | (exact (cell_far (by show w.heap.size + 1 ≠ wr.heap.size; omega)).trans ((cell_far (by show w.heap.size + 1 ≠ wr.heap.size; omega)).trans ((cell_far (by show w.heap.size + 1 ≠ wr.heap.size; omega)).trans hHeld))))
              clear hK K
              (try simp only [Act.put, List.setIfInBounds_toArray, List.set_cons_zero, List.set_cons_succ])
              refine wpAnyH_ready (rs := [8]) (by kernel_rfl) (by simp) ?_
              refine AllReadyH.cons (o := ⟨_, _, _, _, _, _⟩) rfl (fun K hK => ?_) AllReadyH.nil
              go_simp
              (go_at_call 47; (with_reducible refine (KW.out _).mono ?_); rintro e w2 ⟨rfl, hu2⟩; have HU2 := Lib.hid hu2; have hS2 := hu2.keep _ _ _ hHeld; have gb0 := hu2.keep _ _ _ ga0; have gb1 := hu2.keep _ _ _ ga1; have gb2 := hu2.keep _ _ _ ga2; have yb0 := (hu2.cells.2 _).trans ya0; have yb1 := (hu2.cells.2 _).trans ya1; have yb2 := (hu2.cells.2 _).trans ya2; clear hu2)
              (try go_wp2_with fail)
              refine hK.out _ _ ?hB28 (fun hHeld => ?_)
              case hB28 => (first | (with_reducible assumption) | (exact v1) | (exact (cell_far (by show w.heap.size + 1 ≠ wr.heap.size; omega)).trans ((cell_far (by show w.heap.size + 1 ≠ wr.heap.size; omega)).trans ((cell_far (by show w.heap.size + 1 ≠ wr.heap.size; omega)).trans hHeld))))
              clear hK K
              (try simp only [Act.put, List.setIfInBounds_toArray, List.set_cons_zero, List.set_cons_succ])
              refine wpAnyH_ready (rs := [9]) (by kernel_rfl) (by simp) ?_
              refine AllReadyH.cons (o := ⟨_, _, _, _, _, _⟩) rfl (fun K hK => ?_) AllReadyH.nil
              go_simp
              (go_at_call 78; (with_reducible refine (KA.out _).mono ?_); rintro e w3 ⟨rfl, hu3⟩; have HU3 := Lib.hid hu3; have hS3 := hu3.keep _ _ _ hHeld; have gc0 := hu3.keep _ _ _ gb0; have gc1 := hu3.keep _ _ _ gb1; have gc2 := hu3.keep _ _ _ gb2; have yc0 := (hu3.cells.2 _).trans yb0; have yc1 := (hu3.cells.2 _).trans yb1; have yc2 := (hu3.cells.2 _).trans yb2; clear hu3)
              (try go_wp2_with fail)
              refine hK.out _ _ ?hB29 (fun hHeld => ?_)
              case hB29 => (first | (with_reducible assumption) | (exact v1) | (exact (cell_far (by show w.heap.size + 1 ≠ wr.heap.size; omega)).trans ((cell_far (by show w.heap.size + 1 ≠ wr.heap.size; omega)).trans ((cell_far (by show w.heap.size + 1 ≠ wr.heap.size; omega)).trans hHeld))))
              clear hK K
              (try simp only [Act.put, List.setIfInBounds_toArray, List.set_cons_zero, List.set_cons_succ])
              refine wpAnyH_ready (rs := [10]) (by kernel_rfl) (by simp) ?_
              refine AllReadyH.cons (o := ⟨_, _, _, _, _, _⟩) rfl (fun K hK => ?_) AllReadyH.nil
              go_simp
              refine hK.out _ _ ?hB30 (fun hHeld => ?_)
              case hB30 => (first | (with_reducible assumption) | (exact v1) | (exact (cell_far (by show w.heap.size + 1 ≠ wr.heap.size; omega)).trans ((cell_far (by show w.heap.size + 1 ≠ wr.heap.size; omega)).trans ((cell_far (by show w.heap.size + 1 ≠ wr.heap.size; omega)).trans hHeld))))
              clear hK K
              (try simp only [Act.put, List.setIfInBounds_toArray, List.set_cons_zero, List.set_cons_succ])
              refine wpAnyH_done (by kernel_rfl) ?_ _
              go_wp2_with fail
              go_roundw
              case rel => exact ⟨i + 1, by go_num, by omega, by rw [HE.out]; exact ((((HQ1.out.keep (Up.refl _).drew).keep HU1.out).keep HU2.out).keep HU3.out).set⟩
              case measure => simp [intOf]; omega
            · go_simp
              (go_at_call 47; (with_reducible refine (KW.out _).mono ?_); rintro e w2 ⟨rfl, hu2⟩; have HU2 := Lib.hid hu2; have hS2 := hu2.keep _ _ _ hHeld; have gb0 := hu2.keep _ _ _ ga0; have gb1 := hu2.keep _ _ _ ga1; have gb2 := hu2.keep _ _ _ ga2; have yb0 := (hu2.cells.2 _).trans ya0; have yb1 := (hu2.cells.2 _).trans ya1; have yb2 := (hu2.cells.2 _).trans ya2; clear hu2)
              (try go_wp2_with fail)
              refine hK.out _ _ ?hB31 (fun hHeld => ?_)
              case hB31 => (first | (with_reducible assumption) | (exact v1) | (exact (cell_far (by show w.heap.size + 1 ≠ wr.heap.size; omega)).trans ((cell_far (by show w.heap.size + 1 ≠ wr.heap.size; omega)).trans ((cell_far (by show w.heap.size + 1 ≠ wr.heap.size; omega)).trans hHeld))))
              clear hK K
              (try simp only [Act.put, List.setIfInBounds_toArray, List.set_cons_zero, List.set_cons_succ])
              refine wpAnyH_ready (rs := [0]) (by kernel_rfl) (by simp) ?_
              refine AllReadyH.cons (o := ⟨_, _, _, _, _, _⟩) rfl (fun K hK => ?_) AllReadyH.nil
              go_simp
              refine hK.out _ _ ?hB32 (fun hHeld => ?_)
              case hB32 => (first | (with_reducible assumption) | (exact v1) | (exact (cell_far (by show w.heap.size + 1 ≠ wr.heap.size; omega)).trans ((cell_far (by show w.heap.size + 1 ≠ wr.heap.size; omega)).trans ((cell_far (by show w.heap.size + 1 ≠ wr.heap.size; omega)).trans hHeld))))
              clear hK K
              (try simp only [Act.put, List.setIfInBounds_toArray, List.set_cons_zero, List.set_cons_succ])
              refine wpAnyH_ready (rs := [9]) (by kernel_rfl) (by simp) ?_
              refine AllReadyH.cons (o := ⟨_, _, _, _, _, _⟩) rfl (fun K hK => ?_) AllReadyH.nil
              go_simp
              (go_at_call 78; (with_reducible refine (KA.out _).mono ?_); rintro e w3 ⟨rfl, hu3⟩; have HU3 := Lib.hid hu3; have hS3 := hu3.keep _ _ _ hHeld; have gc0 := hu3.keep _ _ _ gb0; have gc1 := hu3.keep _ _ _ gb1; have gc2 := hu3.keep _ _ _ gb2; have yc0 := (hu3.cells.2 _).trans yb0; have yc1 := (hu3.cells.2 _).trans yb1; have yc2 := (hu3.cells.2 _).trans yb2; clear hu3)
              (try go_wp2_with fail)
              refine hK.out _ _ ?hB33 (fun hHeld => ?_)
              case hB33 => (first | (with_reducible assumption) | (exact v1) | (exact (cell_far (by show w.heap.size + 1 ≠ wr.heap.size; omega)).trans ((cell_far (by show w.heap.size + 1 ≠ wr.heap.size; omega)).trans ((cell_far (by show w.heap.size + 1 ≠ wr.heap.size; omega)).trans hHeld))))
              clear hK K
              (try simp only [Act.put, List.setIfInBounds_toArray, List.set_cons_zero, List.set_cons_succ])
              refine wpAnyH_ready (rs := [10]) (by kernel_rfl) (by simp) ?_
              refine AllReadyH.cons (o := ⟨_, _, _, _, _, _⟩) rfl (fun K hK => ?_) AllReadyH.nil
              go_simp
              refine hK.out _ _ ?hB34 (fun hHeld => ?_)
              case hB34 => (first | (with_reducible assumption) | (exact v1) | (exact (cell_far (by show w.heap.size + 1 ≠ wr.heap.size; omega)).trans ((cell_far (by show w.heap.size + 1 ≠ wr.heap.size; omega)).trans ((cell_far (by show w.heap.size + 1 ≠ wr.heap.size; omega)).trans hHeld))))
              clear hK K
              (try simp only [Act.put, List.setIfInBounds_toArray, List.set_cons_zero, List.set_cons_succ])
              refine wpAnyH_done (by kernel_rfl) ?_ _
              go_wp2_with fail
              go_roundw
              case rel => exact ⟨i + 1, by go_num, by omega, by rw [HE.out]; exact ((((HQ1.out.keep (Up.refl _).drew).keep HU1.out).keep HU2.out).keep HU3.out).set⟩
              case measure => simp [intOf]; omega
    · obtain rfl : i = n := by omega
      have e : sqZ (L.take i) = sqZ L := by rw [List.take_of_length_le (by rw [HL.out]; exact Nat.le_refl _)]
      rw [e] at hQ
      clear e
      have a0 := hQ.s0
      have a1 := hQ.s1
      have a2 := hQ.s2
      have r0 := hQ.r0
      have r1 := hQ.r1
      have r2 := hQ.r2
      have z0 := hQ.up.ownGe (Nat.le_refl w.heap.size) 0
      have z1 := hQ.up.ownGe (Nat.le_refl w.heap.size) 1
      have z2 := hQ.up.ownGe (Nat.le_refl w.heap.size) 2
      have HU := Lib.hid hQ.up
      clear hQ
      go_wp2_with fail
      refine bodyPost_ret (v := .agg #[.int .u64 (dg3 (sqZ L) 0), .int .u64 (dg3 (sqZ L) 1), .int .u64 (dg3 (sqZ L) 2)]) (by simp [results, Try.results52, go_sem, r0, r1, r2]) rfl ⟨?_, ?_⟩
      · rfl
      · ((repeat (first | (with_reducible exact Up.refl _) | (with_reducible exact HU.out) | (with_reducible refine Up.alloc ?_ _ _) | (with_reducible refine Up.setCell ?_ ?_ _) | (with_reducible refine Up.drewN ?_ _) | (with_reducible refine Up.drew ?_))); all_goals (first | (simp; done) | (simp; omega) | omega))

theorem squaresE_up (n k : Nat) (A : Option Addr) (L : List It) (hn : n ≤ 1000000) (hI : InI L) (w : World) (hS : Sl w A n L) :
    Calls Try.prog 55 #[.slice A n k] w fun e w' => e = got (fit (sqZ L)) (fits (sqZ L)) ∧ Up w w' := by
  have h0 := sqZ_nonneg L
  have h1 := sqZ_le hI
  have hl := hS.1
  have KQ := Lib.hid (squares_up n k A L hn hI _ (hS.up (Up.refl _)))
  generalize sqZ L = v at *
  have KW := Lib.hid (fun W => toWide_v v h0 (by omega) W)
  by_cases hv : In2 v
  · have KT := Lib.hid (fun W => etoInt_v v false hv W)
    rw [show sgZ false v = v from rfl] at KT
    rw [fit2_yes hv, fits2_yes hv] at KW
    unfold w3 at KQ KW
    unfold got at KT
    unfold got
    generalize fit v = x at *
    generalize fits v = y at *
    clear hS hI h0 h1 hl hv
    go_enter Try.func55, Try.ntmps55
    go_wp2_with fail
    refine KQ.out.mono ?_
    rintro e w1 ⟨rfl, hu1⟩
    go_wp2_with fail
    refine (KW.out _).mono ?_
    rintro e w2 ⟨rfl, hu2⟩
    unfold got2
    go_wp2_with fail
    refine (KT.out _).mono ?_
    rintro e w3_ ⟨rfl, hu3⟩
    go_wp2_with fail
    go_ret2
    refine ⟨rfl, ?_⟩
    exact ((hu1.trans hu2).alloc _ _).trans hu3
  · rw [show fits2 v = false from decide_eq_false hv, show fit2 v = 0 by unfold fit2; rw [show fits2 v = false from decide_eq_false hv]; rfl] at KW
    have ef : fits v = false := by unfold fits; apply decide_eq_false; unfold In2 at hv; omega
    rw [show fit v = 0 by unfold fit; rw [ef]; rfl, ef]
    unfold w3 at KQ KW
    clear hS hI h0 h1 hl hv ef
    go_enter Try.func55, Try.ntmps55
    go_wp2_with fail
    refine KQ.out.mono ?_
    rintro e w1 ⟨rfl, hu1⟩
    go_wp2_with fail
    refine (KW.out _).mono ?_
    rintro e w2 ⟨rfl, hu2⟩
    unfold got2
    go_wp2_with fail
    go_ret2
    refine ⟨rfl, ?_⟩
    exact (hu1.trans hu2).alloc _ _

theorem count_any (n k : Nat) (A : Option Addr) (w : World) : Calls Try.prog 54 #[.slice A n k] w fun e w' => e = .returned (.int .i64 n) ∧ w = w' := by
  go_enter Try.func54, Try.ntmps54
  go_wp2
  go_ret
  exact ⟨rfl, rfl⟩

end Go.Proofs.Ytflahclphdlolaa
