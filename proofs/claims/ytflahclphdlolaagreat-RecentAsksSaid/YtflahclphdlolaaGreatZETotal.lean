/- What total and Sum of package exact return. -/
import Derived.Test.YtflahclphdlolaaGreatZESq
import Derived.Test.YtflahclphdlolaaGreatZEWords
import Derived.Test.YtflahclphdlolaaGreatZG0a
import Derived.Test.YtflahclphdlolaaGreatZG2a
import Derived.Test.YtflahclphdlolaaGreatZG4a
import Derived.Test.YtflahclphdlolaaGreatZWAdd
import Derived.Test.YtflahclphdlolaaGreatZWCmp
namespace Go.Proofs.YtflahclphdlolaaGreat
open Go.RowKit

/-- The sum of the values that are not negative, that of the magnitudes of the others, and the whole sum. -/
def posZ (L : List It) : Int := (L.map (fun x => if x.2 < 0 then 0 else x.2)).sum
def negZ (L : List It) : Int := (L.map (fun x => if x.2 < 0 then -x.2 else 0)).sum
def smZ (L : List It) : Int := (L.map (fun x => x.2)).sum
theorem smZ_eq (L : List It) : smZ L = posZ L - negZ L := by
  induction L with
  | nil => simp [smZ, posZ, negZ]
  | cons x L ih => simp only [smZ, posZ, negZ, List.map_cons, List.sum_cons] at *; split <;> omega
theorem posZ_next {L : List It} {i : Nat} (hi : i < L.length) : posZ (L.take (i + 1)) = posZ (L.take i) + (if (L.getD i (0, 0)).2 < 0 then 0 else (L.getD i (0, 0)).2) := by rw [take_next hi]; simp [posZ]
theorem negZ_next {L : List It} {i : Nat} (hi : i < L.length) : negZ (L.take (i + 1)) = negZ (L.take i) + (if (L.getD i (0, 0)).2 < 0 then -(L.getD i (0, 0)).2 else 0) := by rw [take_next hi]; simp [negZ]
theorem posZ_le {L : List It} (h : InI L) : 0 ≤ posZ L ∧ posZ L ≤ L.length * 9223372036854775808 := by
  induction L with
  | nil => simp [posZ]
  | cons x L ih =>
    have h1 := (h x (by simp)).2
    have h2 := ih (fun y hy => h y (by simp [hy]))
    unfold In at h1
    simp only [posZ, List.map_cons, List.sum_cons, List.length_cons] at *
    split <;> omega
theorem negZ_le {L : List It} (h : InI L) : 0 ≤ negZ L ∧ negZ L ≤ L.length * 9223372036854775808 := by
  induction L with
  | nil => simp [negZ]
  | cons x L ih =>
    have h1 := (h x (by simp)).2
    have h2 := ih (fun y hy => h y (by simp [hy]))
    unfold In at h1
    simp only [negZ, List.map_cons, List.sum_cons, List.length_cons] at *
    split <;> omega
theorem InI.take {L : List It} (h : InI L) (i : Nat) : InI (L.take i) := fun x hx => h x (List.mem_of_mem_take hx)
theorem eadd_w (v p : Int) (hv : In2 v) (hp : Word p) (h : In2 (v + p)) (w : World) :
    Calls Tryz.prog 67 #[.agg #[.int .u64 (hiZ v), .int .u64 (loZ v)], .agg #[.int .u64 0, .int .u64 p]] w fun e w' => e = got2 (v + p) true ∧ Up w w' := by
  have g := add_up (hiZ v) (loZ v) 0 p (hiZ_word hv) (loZ_word v) ⟨by decide, by decide⟩ hp w
  rw [val_hilo, show val 0 p = p by unfold val; omega, fit2_yes h, fits2_yes h] at g
  exact g

/-- What the walk of total holds. -/
structure Tt (w wr : World) (p q : Int) : Prop where
  up : Up w wr
  r0 : wr.cell? ⟨w.heap.size, 0, none⟩ = some (.int .u64 0)
  r1 : wr.cell? ⟨w.heap.size, 1, none⟩ = some (.int .u64 0)
  a0 : wr.cell? ⟨w.heap.size + 1, 0, none⟩ = some (.int .u64 (hiZ p))
  a1 : wr.cell? ⟨w.heap.size + 1, 1, none⟩ = some (.int .u64 (loZ p))
  b0 : wr.cell? ⟨w.heap.size + 1 + 1, 0, none⟩ = some (.int .u64 (hiZ q))
  b1 : wr.cell? ⟨w.heap.size + 1 + 1, 1, none⟩ = some (.int .u64 (loZ q))
theorem Tt.keep {w w1 w2 : World} {p q : Int} (h : Tt w w1 p q) (hu : Up w1 w2) : Tt w w2 p q :=
  ⟨h.up.trans hu, hu.keep _ _ _ h.r0, hu.keep _ _ _ h.r1, hu.keep _ _ _ h.a0, hu.keep _ _ _ h.a1, hu.keep _ _ _ h.b0, hu.keep _ _ _ h.b1⟩
theorem Tt.setA {w w1 : World} {p q u : Int} (h : Tt w w1 p q) : Tt w ((w1.setCell ⟨w.heap.size + 1, 0, none⟩ (.int .u64 (hiZ u))).setCell ⟨w.heap.size + 1, 1, none⟩ (.int .u64 (loZ u))) u q := by
  have far : ∀ (W : World) (i : Nat) (x : Value) (b o : Nat) (y : Value), b ≠ w.heap.size + 1 → W.cell? ⟨b, o, none⟩ = some y → (W.setCell ⟨w.heap.size + 1, i, none⟩ x).cell? ⟨b, o, none⟩ = some y := fun W i x b o y hb hy => (cell_far (by show w.heap.size + 1 ≠ b; omega)).trans hy
  refine ⟨(h.up.setCell (by show w.heap.size ≤ w.heap.size + 1; omega) _).setCell (by show w.heap.size ≤ w.heap.size + 1; omega) _, far _ _ _ _ _ _ (by omega) (far _ _ _ _ _ _ (by omega) h.r0), far _ _ _ _ _ _ (by omega) (far _ _ _ _ _ _ (by omega) h.r1), ?_, ?_, far _ _ _ _ _ _ (by omega) (far _ _ _ _ _ _ (by omega) h.b0), far _ _ _ _ _ _ (by omega) (far _ _ _ _ _ _ (by omega) h.b1)⟩
  · rw [cell_set (cell_set h.a0)]; rfl
  · rw [cell_set (cell_set h.a1)]; rfl
theorem Tt.setB {w w1 : World} {p q u : Int} (h : Tt w w1 p q) : Tt w ((w1.setCell ⟨w.heap.size + 1 + 1, 0, none⟩ (.int .u64 (hiZ u))).setCell ⟨w.heap.size + 1 + 1, 1, none⟩ (.int .u64 (loZ u))) p u := by
  have far : ∀ (W : World) (i : Nat) (x : Value) (b o : Nat) (y : Value), b ≠ w.heap.size + 1 + 1 → W.cell? ⟨b, o, none⟩ = some y → (W.setCell ⟨w.heap.size + 1 + 1, i, none⟩ x).cell? ⟨b, o, none⟩ = some y := fun W i x b o y hb hy => (cell_far (by show w.heap.size + 1 + 1 ≠ b; omega)).trans hy
  refine ⟨(h.up.setCell (by show w.heap.size ≤ w.heap.size + 1 + 1; omega) _).setCell (by show w.heap.size ≤ w.heap.size + 1 + 1; omega) _, far _ _ _ _ _ _ (by omega) (far _ _ _ _ _ _ (by omega) h.r0), far _ _ _ _ _ _ (by omega) (far _ _ _ _ _ _ (by omega) h.r1), far _ _ _ _ _ _ (by omega) (far _ _ _ _ _ _ (by omega) h.a0), far _ _ _ _ _ _ (by omega) (far _ _ _ _ _ _ (by omega) h.a1), ?_, ?_⟩
  · rw [cell_set (cell_set h.b0)]; rfl
  · rw [cell_set (cell_set h.b1)]; rfl

set_option maxHeartbeats 8000000 in
set_option maxRecDepth 100000 in
theorem total_up (n k : Nat) (A : Option Addr) (L : List It) (hn : n ≤ 1000000) (hI : InI L) (w : World) (hS : Sl w A n L) :
    Calls Tryz.prog 39 #[.slice A n k] w fun e w' => e = got2 ((smZ L).natAbs : Int) (decide (smZ L < 0)) ∧ Up w w' := by
  have HL := Lib.hid hS.1
  have HS := Lib.hid hS
  have HI := Lib.hid hI
  have hE := smZ_eq L
  have HE := Lib.hid hE
  have hP := posZ_le hI
  have hQ := negZ_le hI
  rw [hS.1] at hP hQ
  have HPP := Lib.hid hP
  have HQQ := Lib.hid hQ
  clear hS hI hE hP hQ
  generalize hx : ((smZ L).natAbs : Int) = u0
  generalize hy : decide (smZ L < 0) = bb
  have HX := Lib.hid hx
  have HY := Lib.hid hy
  clear hx hy
  go_enter Tryz.func39, Tryz.ntmps39
  go_wp2_with fail
  go_loopw [14] (fun t wr => ∃ i : Nat, t = .int .i64 i ∧ i ≤ n ∧ Tt w wr (posZ (L.take i)) (negZ (L.take i))) (fun t _ => n - (intOf t).toNat)
  case atStart =>
    refine ⟨0, rfl, Nat.zero_le _, ⟨?_, by simp [go_sem], by simp [go_sem], ?_, ?_, ?_, ?_⟩⟩
    · repeat (first | exact Up.refl _ | refine Up.alloc ?_ _ _ | refine Up.setCell ?_ (by first | (simp; done) | (simp; omega) | omega) _ | refine Up.drewN ?_ _ | refine Up.drew ?_)
    all_goals (first | rw [show posZ (L.take 0) = 0 by simp [posZ]] | rw [show negZ (L.take 0) = 0 by simp [negZ]]); simp [go_sem, hiZ, loZ]
  case round =>
    obtain ⟨i, rfl, hin, hT⟩ := hrel
    by_cases hi : i < n
    · obtain ⟨b, o, rfl, d0, d1⟩ := (HS.out.up hT.up).at_ hi
      have hil : i < L.length := by rw [HL.out]; exact hi
      obtain ⟨ip, iv⟩ := HI.out.at_ hil
      have hp0 := posZ_le (HI.out.take i)
      have hq0 := negZ_le (HI.out.take i)
      rw [List.length_take, Nat.min_eq_left (by omega)] at hp0 hq0
      have HNP := Lib.hid (posZ_next hil)
      have HNQ := Lib.hid (negZ_next hil)
      generalize posZ (L.take i) = p at hT hp0 HNP
      generalize negZ (L.take i) = q at hT hq0 HNQ
      generalize (L.getD i (0, 0)).1 = p0 at *
      generalize (L.getD i (0, 0)).2 = p1 at *
      have KM := Lib.hid (emag_any p1 iv)
      unfold In at iv
      have hw : Word (p1.natAbs : Int) := by unfold Word; omega
      have f2 : (i : Int) < n := by omega
      have f3 : (0 : Int) ≤ i := by omega
      have HT := Lib.hid hT
      have lw : w.heap.size + 1 + 1 < wr.heap.size := World.block_lt_of_cell? _ _ hT.b0
      by_cases hneg : p1 < 0
      · obtain ⟨u, hu⟩ : ∃ u, u = q + (p1.natAbs : Int) := ⟨_, rfl⟩
        have HA : Hid (posZ (L.take (i + 1)) = p) := Lib.hid (by rw [HNP.out, if_pos hneg]; omega)
        have HB : Hid (negZ (L.take (i + 1)) = u) := Lib.hid (by rw [HNQ.out, if_pos hneg]; omega)
        have KA := Lib.hid (fun W => eadd_w q (p1.natAbs : Int) ⟨by omega, by omega⟩ hw ⟨by omega, by omega⟩ W)
        rw [← hu] at KA
        clear hu
        have KO := Lib.hid (fun W => of_up (p1.natAbs : Int) W)
        generalize (p1.natAbs : Int) = pa at *
        have a0 := hT.b0
        have a1 := hT.b1
        have z0 := hT.up.ownGe (show w.heap.size ≤ w.heap.size + 1 + 1 by omega) 0
        have z1 := hT.up.ownGe (show w.heap.size ≤ w.heap.size + 1 + 1 by omega) 1
        clear hT hw ip iv hp0 hq0 HNP HNQ
        go_upto_region 6 with fail
        have g0 := ((Up.refl wr).alloc #[.int .i64 p0, .int .i64 p1] 70).keep _ _ _ a0
        have g1 := ((Up.refl wr).alloc #[.int .i64 p0, .int .i64 p1] 70).keep _ _ _ a1
        have y0 := (((Up.refl wr).alloc #[.int .i64 p0, .int .i64 p1] 70).cells.2 _).trans z0
        have y1 := (((Up.refl wr).alloc #[.int .i64 p0, .int .i64 p1] 70).cells.2 _).trans z1
        have HT1 := Lib.hid (HT.out.keep ((Up.refl wr).alloc #[.int .i64 p0, .int .i64 p1] 70))
        have v1 : (wr.alloc (.cells #[.int .i64 p0, .int .i64 p1] 70)).cell? ⟨wr.heap.size, 1, none⟩ = some (.int .i64 p1) := by simp [go_sem]
        clear a0 a1 z0 z1 d0 d1 HT
        generalize wr.alloc (.cells #[.int .i64 p0, .int .i64 p1] 70) = wi at *
        refine wp_region_held_drew (S := fun w' => w'.cell? ⟨wr.heap.size, 1, none⟩ = some (.int .i64 p1)) (by kernel_rfl) ?hB1 (fun hHeld => ?_)
        case hB1 => (first | (with_reducible assumption) | (exact v1) | (exact (cell_far (by show w.heap.size + 1 + 1 ≠ wr.heap.size; omega)).trans ((cell_far (by show w.heap.size + 1 + 1 ≠ wr.heap.size; omega)).trans hHeld)))
        refine wpAnyH_take (i := 1) (oi := ⟨_, _, _, _, _, _⟩) (v := ?v2) rfl (by kernel_rfl) (by kernel_rfl) (by kernel_rfl) (fun _ _ _ h => h) (Or.inl ⟨by rfl, ?hy2⟩) (by assumption) ?_
        case hy2 => (intro w hSw; (try dsimp only at hSw); go_simp; (try (with_reducible rfl)))
        (try simp only [Act.put, List.setIfInBounds_toArray, List.set_cons_zero, List.set_cons_succ])
        refine wpAnyH_take (i := 2) (oi := ⟨_, _, _, _, _, _⟩) (v := ?v3) rfl (by kernel_rfl) (by kernel_rfl) (by kernel_rfl) (fun _ _ _ h => h) (Or.inl ⟨by rfl, ?hy3⟩) (by assumption) ?_
        case hy3 => (intro w hSw; (try dsimp only at hSw); go_simp; (try (with_reducible rfl)))
        (try simp only [Act.put, List.setIfInBounds_toArray, List.set_cons_zero, List.set_cons_succ])
        refine wpAnyH_ready (rs := [0, 3]) (by kernel_rfl) (by simp) ?_
        refine AllReadyH.cons (o := ⟨_, _, _, _, _, _⟩) rfl (fun K hK => ?_) (AllReadyH.cons (o := ⟨_, _, _, _, _, _⟩) rfl (fun K hK => ?_) AllReadyH.nil)
        · go_simp
          refine hK.out _ _ ?hB4 (fun hHeld => ?_)
          case hB4 => (first | (with_reducible assumption) | (exact v1) | (exact (cell_far (by show w.heap.size + 1 + 1 ≠ wr.heap.size; omega)).trans ((cell_far (by show w.heap.size + 1 + 1 ≠ wr.heap.size; omega)).trans hHeld)))
          clear hK K
          (try simp only [Act.put, List.setIfInBounds_toArray, List.set_cons_zero, List.set_cons_succ])
          refine wpAnyH_ready (rs := [3]) (by kernel_rfl) (by simp) ?_
          refine AllReadyH.cons (o := ⟨_, _, _, _, _, _⟩) rfl (fun K hK => ?_) AllReadyH.nil
          go_simp
          (go_at_call 68; (with_reducible refine (KM.out _).mono ?_); rintro e w' ⟨rfl, rfl⟩)
          (try go_wp2_with fail)
          refine hK.out _ _ ?hB5 (fun hHeld => ?_)
          case hB5 => (first | (with_reducible assumption) | (exact v1) | (exact (cell_far (by show w.heap.size + 1 + 1 ≠ wr.heap.size; omega)).trans ((cell_far (by show w.heap.size + 1 + 1 ≠ wr.heap.size; omega)).trans hHeld)))
          clear hK K
          (try simp only [Act.put, List.setIfInBounds_toArray, List.set_cons_zero, List.set_cons_succ])
          refine wpAnyH_ready (rs := [4]) (by kernel_rfl) (by simp) ?_
          refine AllReadyH.cons (o := ⟨_, _, _, _, _, _⟩) rfl (fun K hK => ?_) AllReadyH.nil
          go_simp
          (go_at_call 48; (with_reducible refine (KO.out _).mono ?_); rintro e w1 ⟨rfl, hu1⟩; have HU1 := Lib.hid hu1; have hS1 := hu1.keep _ _ _ hHeld; have ga0 := hu1.keep _ _ _ g0; have ga1 := hu1.keep _ _ _ g1; have ya0 := (hu1.cells.2 _).trans y0; have ya1 := (hu1.cells.2 _).trans y1; clear hu1; (try unfold got2))
          (try go_wp2_with fail)
          refine hK.out _ _ ?hB6 (fun hHeld => ?_)
          case hB6 => (first | (with_reducible assumption) | (exact v1) | (exact (cell_far (by show w.heap.size + 1 + 1 ≠ wr.heap.size; omega)).trans ((cell_far (by show w.heap.size + 1 + 1 ≠ wr.heap.size; omega)).trans hHeld)))
          clear hK K
          (try simp only [Act.put, List.setIfInBounds_toArray, List.set_cons_zero, List.set_cons_succ])
          refine wpAnyH_ready (rs := [5]) (by kernel_rfl) (by simp) ?_
          refine AllReadyH.cons (o := ⟨_, _, _, _, _, _⟩) rfl (fun K hK => ?_) AllReadyH.nil
          go_simp
          (go_at_call 67; (with_reducible refine (KA.out _).mono ?_); rintro e w2 ⟨rfl, hu2⟩; have HU2 := Lib.hid hu2; have hS2 := hu2.keep _ _ _ hHeld; have gb0 := hu2.keep _ _ _ ga0; have gb1 := hu2.keep _ _ _ ga1; have yb0 := (hu2.cells.2 _).trans ya0; have yb1 := (hu2.cells.2 _).trans ya1; clear hu2; (try unfold got2))
          (try go_wp2_with fail)
          refine hK.out _ _ ?hB7 (fun hHeld => ?_)
          case hB7 => (first | (with_reducible assumption) | (exact v1) | (exact (cell_far (by show w.heap.size + 1 + 1 ≠ wr.heap.size; omega)).trans ((cell_far (by show w.heap.size + 1 + 1 ≠ wr.heap.size; omega)).trans hHeld)))
          clear hK K
          (try simp only [Act.put, List.setIfInBounds_toArray, List.set_cons_zero, List.set_cons_succ])
          refine wpAnyH_take (i := 6) (oi := ⟨_, _, _, _, _, _⟩) (v := ?v8) rfl (by kernel_rfl) (by kernel_rfl) (by kernel_rfl) (fun _ _ _ h => h) (Or.inl ⟨by rfl, ?hy8⟩) (by assumption) ?_
          case hy8 => (intro w hSw; (try dsimp only at hSw); go_simp; (try (with_reducible rfl)))
          (try simp only [Act.put, List.setIfInBounds_toArray, List.set_cons_zero, List.set_cons_succ])
          refine wpAnyH_take (i := 7) (oi := ⟨_, _, _, _, _, _⟩) (v := ?v9) rfl (by kernel_rfl) (by kernel_rfl) (by kernel_rfl) (fun _ _ _ h => h) (Or.inl ⟨by rfl, ?hy9⟩) (by assumption) ?_
          case hy9 => (intro w hSw; (try dsimp only at hSw); go_simp; (try (with_reducible rfl)))
          (try simp only [Act.put, List.setIfInBounds_toArray, List.set_cons_zero, List.set_cons_succ])
          refine wpAnyH_take (i := 8) (oi := ⟨_, _, _, _, _, _⟩) (v := ?v10) rfl (by kernel_rfl) (by kernel_rfl) (by kernel_rfl) (fun _ _ _ h => h) (Or.inl ⟨by rfl, ?hy10⟩) (by assumption) ?_
          case hy10 => (intro w hSw; (try dsimp only at hSw); go_simp; (try (with_reducible rfl)))
          (try simp only [Act.put, List.setIfInBounds_toArray, List.set_cons_zero, List.set_cons_succ])
          refine wpAnyH_ready (rs := [9]) (by kernel_rfl) (by simp) ?_
          refine AllReadyH.cons (o := ⟨_, _, _, _, _, _⟩) rfl (fun K hK => ?_) AllReadyH.nil
          go_simp
          refine hK.out _ _ ?hB11 (fun hHeld => ?_)
          case hB11 => (first | (with_reducible assumption) | (exact v1) | (exact (cell_far (by show w.heap.size + 1 + 1 ≠ wr.heap.size; omega)).trans ((cell_far (by show w.heap.size + 1 + 1 ≠ wr.heap.size; omega)).trans hHeld)))
          clear hK K
          (try simp only [Act.put, List.setIfInBounds_toArray, List.set_cons_zero, List.set_cons_succ])
          refine wpAnyH_done (by kernel_rfl) ?_ _
          go_wp2_with fail
          go_roundw
          case rel => exact ⟨i + 1, by go_num, by omega, by rw [HA.out, HB.out]; exact (((HT1.out.keep (Up.refl _).drew).keep HU1.out).keep HU2.out).setB⟩
          case measure => simp [intOf]; omega
        · go_simp
          (go_at_call 68; (with_reducible refine (KM.out _).mono ?_); rintro e w' ⟨rfl, rfl⟩)
          (try go_wp2_with fail)
          refine hK.out _ _ ?hB12 (fun hHeld => ?_)
          case hB12 => (first | (with_reducible assumption) | (exact v1) | (exact (cell_far (by show w.heap.size + 1 + 1 ≠ wr.heap.size; omega)).trans ((cell_far (by show w.heap.size + 1 + 1 ≠ wr.heap.size; omega)).trans hHeld)))
          clear hK K
          (try simp only [Act.put, List.setIfInBounds_toArray, List.set_cons_zero, List.set_cons_succ])
          refine wpAnyH_ready (rs := [0, 4]) (by kernel_rfl) (by simp) ?_
          refine AllReadyH.cons (o := ⟨_, _, _, _, _, _⟩) rfl (fun K hK => ?_) (AllReadyH.cons (o := ⟨_, _, _, _, _, _⟩) rfl (fun K hK => ?_) AllReadyH.nil)
          · go_simp
            refine hK.out _ _ ?hB13 (fun hHeld => ?_)
            case hB13 => (first | (with_reducible assumption) | (exact v1) | (exact (cell_far (by show w.heap.size + 1 + 1 ≠ wr.heap.size; omega)).trans ((cell_far (by show w.heap.size + 1 + 1 ≠ wr.heap.size; omega)).trans hHeld)))
            clear hK K
            (try simp only [Act.put, List.setIfInBounds_toArray, List.set_cons_zero, List.set_cons_succ])
            refine wpAnyH_ready (rs := [4]) (by kernel_rfl) (by simp) ?_
            refine AllReadyH.cons (o := ⟨_, _, _, _, _, _⟩) rfl (fun K hK => ?_) AllReadyH.nil
            go_simp
            (go_at_call 48; (with_reducible refine (KO.out _).mono ?_); rintro e w1 ⟨rfl, hu1⟩; have HU1 := Lib.hid hu1; have hS1 := hu1.keep _ _ _ hHeld; have ga0 := hu1.keep _ _ _ g0; have ga1 := hu1.keep _ _ _ g1; have ya0 := (hu1.cells.2 _).trans y0; have ya1 := (hu1.cells.2 _).trans y1; clear hu1; (try unfold got2))
            (try go_wp2_with fail)
            refine hK.out _ _ ?hB14 (fun hHeld => ?_)
            case hB14 => (first | (with_reducible assumption) | (exact v1) | (exact (cell_far (by show w.heap.size + 1 + 1 ≠ wr.heap.size; omega)).trans ((cell_far (by show w.heap.size + 1 + 1 ≠ wr.heap.size; omega)).trans hHeld)))
            clear hK K
            (try simp only [Act.put, List.setIfInBounds_toArray, List.set_cons_zero, List.set_cons_succ])
            refine wpAnyH_ready (rs := [5]) (by kernel_rfl) (by simp) ?_
            refine AllReadyH.cons (o := ⟨_, _, _, _, _, _⟩) rfl (fun K hK => ?_) AllReadyH.nil
            go_simp
            (go_at_call 67; (with_reducible refine (KA.out _).mono ?_); rintro e w2 ⟨rfl, hu2⟩; have HU2 := Lib.hid hu2; have hS2 := hu2.keep _ _ _ hHeld; have gb0 := hu2.keep _ _ _ ga0; have gb1 := hu2.keep _ _ _ ga1; have yb0 := (hu2.cells.2 _).trans ya0; have yb1 := (hu2.cells.2 _).trans ya1; clear hu2; (try unfold got2))
            (try go_wp2_with fail)
            refine hK.out _ _ ?hB15 (fun hHeld => ?_)
            case hB15 => (first | (with_reducible assumption) | (exact v1) | (exact (cell_far (by show w.heap.size + 1 + 1 ≠ wr.heap.size; omega)).trans ((cell_far (by show w.heap.size + 1 + 1 ≠ wr.heap.size; omega)).trans hHeld)))
            clear hK K
            (try simp only [Act.put, List.setIfInBounds_toArray, List.set_cons_zero, List.set_cons_succ])
            refine wpAnyH_take (i := 6) (oi := ⟨_, _, _, _, _, _⟩) (v := ?v16) rfl (by kernel_rfl) (by kernel_rfl) (by kernel_rfl) (fun _ _ _ h => h) (Or.inl ⟨by rfl, ?hy16⟩) (by assumption) ?_
            case hy16 => (intro w hSw; (try dsimp only at hSw); go_simp; (try (with_reducible rfl)))
            (try simp only [Act.put, List.setIfInBounds_toArray, List.set_cons_zero, List.set_cons_succ])
            refine wpAnyH_take (i := 7) (oi := ⟨_, _, _, _, _, _⟩) (v := ?v17) rfl (by kernel_rfl) (by kernel_rfl) (by kernel_rfl) (fun _ _ _ h => h) (Or.inl ⟨by rfl, ?hy17⟩) (by assumption) ?_
            case hy17 => (intro w hSw; (try dsimp only at hSw); go_simp; (try (with_reducible rfl)))
            (try simp only [Act.put, List.setIfInBounds_toArray, List.set_cons_zero, List.set_cons_succ])
            refine wpAnyH_take (i := 8) (oi := ⟨_, _, _, _, _, _⟩) (v := ?v18) rfl (by kernel_rfl) (by kernel_rfl) (by kernel_rfl) (fun _ _ _ h => h) (Or.inl ⟨by rfl, ?hy18⟩) (by assumption) ?_
            case hy18 => (intro w hSw; (try dsimp only at hSw); go_simp; (try (with_reducible rfl)))
            (try simp only [Act.put, List.setIfInBounds_toArray, List.set_cons_zero, List.set_cons_succ])
            refine wpAnyH_ready (rs := [9]) (by kernel_rfl) (by simp) ?_
            refine AllReadyH.cons (o := ⟨_, _, _, _, _, _⟩) rfl (fun K hK => ?_) AllReadyH.nil
            go_simp
            refine hK.out _ _ ?hB19 (fun hHeld => ?_)
            case hB19 => (first | (with_reducible assumption) | (exact v1) | (exact (cell_far (by show w.heap.size + 1 + 1 ≠ wr.heap.size; omega)).trans ((cell_far (by show w.heap.size + 1 + 1 ≠ wr.heap.size; omega)).trans hHeld)))
            clear hK K
            (try simp only [Act.put, List.setIfInBounds_toArray, List.set_cons_zero, List.set_cons_succ])
            refine wpAnyH_done (by kernel_rfl) ?_ _
            go_wp2_with fail
            go_roundw
            case rel => exact ⟨i + 1, by go_num, by omega, by rw [HA.out, HB.out]; exact (((HT1.out.keep (Up.refl _).drew).keep HU1.out).keep HU2.out).setB⟩
            case measure => simp [intOf]; omega
          · go_simp
            (go_at_call 48; (with_reducible refine (KO.out _).mono ?_); rintro e w1 ⟨rfl, hu1⟩; have HU1 := Lib.hid hu1; have hS1 := hu1.keep _ _ _ hHeld; have ga0 := hu1.keep _ _ _ g0; have ga1 := hu1.keep _ _ _ g1; have ya0 := (hu1.cells.2 _).trans y0; have ya1 := (hu1.cells.2 _).trans y1; clear hu1; (try unfold got2))
            (try go_wp2_with fail)
            refine hK.out _ _ ?hB20 (fun hHeld => ?_)
            case hB20 => (first | (with_reducible assumption) | (exact v1) | (exact (cell_far (by show w.heap.size + 1 + 1 ≠ wr.heap.size; omega)).trans ((cell_far (by show w.heap.size + 1 + 1 ≠ wr.heap.size; omega)).trans hHeld)))
            clear hK K
            (try simp only [Act.put, List.setIfInBounds_toArray, List.set_cons_zero, List.set_cons_succ])
            refine wpAnyH_ready (rs := [0]) (by kernel_rfl) (by simp) ?_
            refine AllReadyH.cons (o := ⟨_, _, _, _, _, _⟩) rfl (fun K hK => ?_) AllReadyH.nil
            go_simp
            refine hK.out _ _ ?hB21 (fun hHeld => ?_)
            case hB21 => (first | (with_reducible assumption) | (exact v1) | (exact (cell_far (by show w.heap.size + 1 + 1 ≠ wr.heap.size; omega)).trans ((cell_far (by show w.heap.size + 1 + 1 ≠ wr.heap.size; omega)).trans hHeld)))
            clear hK K
            (try simp only [Act.put, List.setIfInBounds_toArray, List.set_cons_zero, List.set_cons_succ])
            refine wpAnyH_ready (rs := [5]) (by kernel_rfl) (by simp) ?_
            refine AllReadyH.cons (o := ⟨_, _, _, _, _, _⟩) rfl (fun K hK => ?_) AllReadyH.nil
            go_simp
            (go_at_call 67; (with_reducible refine (KA.out _).mono ?_); rintro e w2 ⟨rfl, hu2⟩; have HU2 := Lib.hid hu2; have hS2 := hu2.keep _ _ _ hHeld; have gb0 := hu2.keep _ _ _ ga0; have gb1 := hu2.keep _ _ _ ga1; have yb0 := (hu2.cells.2 _).trans ya0; have yb1 := (hu2.cells.2 _).trans ya1; clear hu2; (try unfold got2))
            (try go_wp2_with fail)
            refine hK.out _ _ ?hB22 (fun hHeld => ?_)
            case hB22 => (first | (with_reducible assumption) | (exact v1) | (exact (cell_far (by show w.heap.size + 1 + 1 ≠ wr.heap.size; omega)).trans ((cell_far (by show w.heap.size + 1 + 1 ≠ wr.heap.size; omega)).trans hHeld)))
            clear hK K
            (try simp only [Act.put, List.setIfInBounds_toArray, List.set_cons_zero, List.set_cons_succ])
            refine wpAnyH_take (i := 6) (oi := ⟨_, _, _, _, _, _⟩) (v := ?v23) rfl (by kernel_rfl) (by kernel_rfl) (by kernel_rfl) (fun _ _ _ h => h) (Or.inl ⟨by rfl, ?hy23⟩) (by assumption) ?_
            case hy23 => (intro w hSw; (try dsimp only at hSw); go_simp; (try (with_reducible rfl)))
            (try simp only [Act.put, List.setIfInBounds_toArray, List.set_cons_zero, List.set_cons_succ])
            refine wpAnyH_take (i := 7) (oi := ⟨_, _, _, _, _, _⟩) (v := ?v24) rfl (by kernel_rfl) (by kernel_rfl) (by kernel_rfl) (fun _ _ _ h => h) (Or.inl ⟨by rfl, ?hy24⟩) (by assumption) ?_
            case hy24 => (intro w hSw; (try dsimp only at hSw); go_simp; (try (with_reducible rfl)))
            (try simp only [Act.put, List.setIfInBounds_toArray, List.set_cons_zero, List.set_cons_succ])
            refine wpAnyH_take (i := 8) (oi := ⟨_, _, _, _, _, _⟩) (v := ?v25) rfl (by kernel_rfl) (by kernel_rfl) (by kernel_rfl) (fun _ _ _ h => h) (Or.inl ⟨by rfl, ?hy25⟩) (by assumption) ?_
            case hy25 => (intro w hSw; (try dsimp only at hSw); go_simp; (try (with_reducible rfl)))
            (try simp only [Act.put, List.setIfInBounds_toArray, List.set_cons_zero, List.set_cons_succ])
            refine wpAnyH_ready (rs := [9]) (by kernel_rfl) (by simp) ?_
            refine AllReadyH.cons (o := ⟨_, _, _, _, _, _⟩) rfl (fun K hK => ?_) AllReadyH.nil
            go_simp
            refine hK.out _ _ ?hB26 (fun hHeld => ?_)
            case hB26 => (first | (with_reducible assumption) | (exact v1) | (exact (cell_far (by show w.heap.size + 1 + 1 ≠ wr.heap.size; omega)).trans ((cell_far (by show w.heap.size + 1 + 1 ≠ wr.heap.size; omega)).trans hHeld)))
            clear hK K
            (try simp only [Act.put, List.setIfInBounds_toArray, List.set_cons_zero, List.set_cons_succ])
            refine wpAnyH_done (by kernel_rfl) ?_ _
            go_wp2_with fail
            go_roundw
            case rel => exact ⟨i + 1, by go_num, by omega, by rw [HA.out, HB.out]; exact (((HT1.out.keep (Up.refl _).drew).keep HU1.out).keep HU2.out).setB⟩
            case measure => simp [intOf]; omega
      · obtain ⟨u, hu⟩ : ∃ u, u = p + (p1.natAbs : Int) := ⟨_, rfl⟩
        have HA : Hid (posZ (L.take (i + 1)) = u) := Lib.hid (by rw [HNP.out, if_neg hneg]; omega)
        have HB : Hid (negZ (L.take (i + 1)) = q) := Lib.hid (by rw [HNQ.out, if_neg hneg]; omega)
        have KA := Lib.hid (fun W => eadd_w p (p1.natAbs : Int) ⟨by omega, by omega⟩ hw ⟨by omega, by omega⟩ W)
        rw [← hu] at KA
        clear hu
        have KO := Lib.hid (fun W => of_up (p1.natAbs : Int) W)
        generalize (p1.natAbs : Int) = pa at *
        have a0 := hT.a0
        have a1 := hT.a1
        have z0 := hT.up.ownGe (show w.heap.size ≤ w.heap.size + 1 by omega) 0
        have z1 := hT.up.ownGe (show w.heap.size ≤ w.heap.size + 1 by omega) 1
        clear hT hw ip iv hp0 hq0 HNP HNQ
        go_upto_region 7 with fail
        have g0 := ((Up.refl wr).alloc #[.int .i64 p0, .int .i64 p1] 70).keep _ _ _ a0
        have g1 := ((Up.refl wr).alloc #[.int .i64 p0, .int .i64 p1] 70).keep _ _ _ a1
        have y0 := (((Up.refl wr).alloc #[.int .i64 p0, .int .i64 p1] 70).cells.2 _).trans z0
        have y1 := (((Up.refl wr).alloc #[.int .i64 p0, .int .i64 p1] 70).cells.2 _).trans z1
        have HT1 := Lib.hid (HT.out.keep ((Up.refl wr).alloc #[.int .i64 p0, .int .i64 p1] 70))
        have v1 : (wr.alloc (.cells #[.int .i64 p0, .int .i64 p1] 70)).cell? ⟨wr.heap.size, 1, none⟩ = some (.int .i64 p1) := by simp [go_sem]
        clear a0 a1 z0 z1 d0 d1 HT
        generalize wr.alloc (.cells #[.int .i64 p0, .int .i64 p1] 70) = wi at *
        refine wp_region_held_drew (S := fun w' => w'.cell? ⟨wr.heap.size, 1, none⟩ = some (.int .i64 p1)) (by kernel_rfl) ?hB27 (fun hHeld => ?_)
        case hB27 => (first | (with_reducible assumption) | (exact v1) | (exact (cell_far (by show w.heap.size + 1 ≠ wr.heap.size; omega)).trans ((cell_far (by show w.heap.size + 1 ≠ wr.heap.size; omega)).trans hHeld)))
        refine wpAnyH_take (i := 1) (oi := ⟨_, _, _, _, _, _⟩) (v := ?v28) rfl (by kernel_rfl) (by kernel_rfl) (by kernel_rfl) (fun _ _ _ h => h) (Or.inl ⟨by rfl, ?hy28⟩) (by assumption) ?_
        case hy28 => (intro w hSw; (try dsimp only at hSw); go_simp; (try (with_reducible rfl)))
        (try simp only [Act.put, List.setIfInBounds_toArray, List.set_cons_zero, List.set_cons_succ])
        refine wpAnyH_take (i := 2) (oi := ⟨_, _, _, _, _, _⟩) (v := ?v29) rfl (by kernel_rfl) (by kernel_rfl) (by kernel_rfl) (fun _ _ _ h => h) (Or.inl ⟨by rfl, ?hy29⟩) (by assumption) ?_
        case hy29 => (intro w hSw; (try dsimp only at hSw); go_simp; (try (with_reducible rfl)))
        (try simp only [Act.put, List.setIfInBounds_toArray, List.set_cons_zero, List.set_cons_succ])
        refine wpAnyH_ready (rs := [0, 3]) (by kernel_rfl) (by simp) ?_
        refine AllReadyH.cons (o := ⟨_, _, _, _, _, _⟩) rfl (fun K hK => ?_) (AllReadyH.cons (o := ⟨_, _, _, _, _, _⟩) rfl (fun K hK => ?_) AllReadyH.nil)
        · go_simp
          refine hK.out _ _ ?hB30 (fun hHeld => ?_)
          case hB30 => (first | (with_reducible assumption) | (exact v1) | (exact (cell_far (by show w.heap.size + 1 ≠ wr.heap.size; omega)).trans ((cell_far (by show w.heap.size + 1 ≠ wr.heap.size; omega)).trans hHeld)))
          clear hK K
          (try simp only [Act.put, List.setIfInBounds_toArray, List.set_cons_zero, List.set_cons_succ])
          refine wpAnyH_ready (rs := [3]) (by kernel_rfl) (by simp) ?_
          refine AllReadyH.cons (o := ⟨_, _, _, _, _, _⟩) rfl (fun K hK => ?_) AllReadyH.nil
          go_simp
          (go_at_call 68; (with_reducible refine (KM.out _).mono ?_); rintro e w' ⟨rfl, rfl⟩)
          (try go_wp2_with fail)
          refine hK.out _ _ ?hB31 (fun hHeld => ?_)
          case hB31 => (first | (with_reducible assumption) | (exact v1) | (exact (cell_far (by show w.heap.size + 1 ≠ wr.heap.size; omega)).trans ((cell_far (by show w.heap.size + 1 ≠ wr.heap.size; omega)).trans hHeld)))
          clear hK K
          (try simp only [Act.put, List.setIfInBounds_toArray, List.set_cons_zero, List.set_cons_succ])
          refine wpAnyH_ready (rs := [4]) (by kernel_rfl) (by simp) ?_
          refine AllReadyH.cons (o := ⟨_, _, _, _, _, _⟩) rfl (fun K hK => ?_) AllReadyH.nil
          go_simp
          (go_at_call 48; (with_reducible refine (KO.out _).mono ?_); rintro e w1 ⟨rfl, hu1⟩; have HU1 := Lib.hid hu1; have hS1 := hu1.keep _ _ _ hHeld; have ga0 := hu1.keep _ _ _ g0; have ga1 := hu1.keep _ _ _ g1; have ya0 := (hu1.cells.2 _).trans y0; have ya1 := (hu1.cells.2 _).trans y1; clear hu1; (try unfold got2))
          (try go_wp2_with fail)
          refine hK.out _ _ ?hB32 (fun hHeld => ?_)
          case hB32 => (first | (with_reducible assumption) | (exact v1) | (exact (cell_far (by show w.heap.size + 1 ≠ wr.heap.size; omega)).trans ((cell_far (by show w.heap.size + 1 ≠ wr.heap.size; omega)).trans hHeld)))
          clear hK K
          (try simp only [Act.put, List.setIfInBounds_toArray, List.set_cons_zero, List.set_cons_succ])
          refine wpAnyH_ready (rs := [5]) (by kernel_rfl) (by simp) ?_
          refine AllReadyH.cons (o := ⟨_, _, _, _, _, _⟩) rfl (fun K hK => ?_) AllReadyH.nil
          go_simp
          (go_at_call 67; (with_reducible refine (KA.out _).mono ?_); rintro e w2 ⟨rfl, hu2⟩; have HU2 := Lib.hid hu2; have hS2 := hu2.keep _ _ _ hHeld; have gb0 := hu2.keep _ _ _ ga0; have gb1 := hu2.keep _ _ _ ga1; have yb0 := (hu2.cells.2 _).trans ya0; have yb1 := (hu2.cells.2 _).trans ya1; clear hu2; (try unfold got2))
          (try go_wp2_with fail)
          refine hK.out _ _ ?hB33 (fun hHeld => ?_)
          case hB33 => (first | (with_reducible assumption) | (exact v1) | (exact (cell_far (by show w.heap.size + 1 ≠ wr.heap.size; omega)).trans ((cell_far (by show w.heap.size + 1 ≠ wr.heap.size; omega)).trans hHeld)))
          clear hK K
          (try simp only [Act.put, List.setIfInBounds_toArray, List.set_cons_zero, List.set_cons_succ])
          refine wpAnyH_take (i := 6) (oi := ⟨_, _, _, _, _, _⟩) (v := ?v34) rfl (by kernel_rfl) (by kernel_rfl) (by kernel_rfl) (fun _ _ _ h => h) (Or.inl ⟨by rfl, ?hy34⟩) (by assumption) ?_
          case hy34 => (intro w hSw; (try dsimp only at hSw); go_simp; (try (with_reducible rfl)))
          (try simp only [Act.put, List.setIfInBounds_toArray, List.set_cons_zero, List.set_cons_succ])
          refine wpAnyH_take (i := 7) (oi := ⟨_, _, _, _, _, _⟩) (v := ?v35) rfl (by kernel_rfl) (by kernel_rfl) (by kernel_rfl) (fun _ _ _ h => h) (Or.inl ⟨by rfl, ?hy35⟩) (by assumption) ?_
          case hy35 => (intro w hSw; (try dsimp only at hSw); go_simp; (try (with_reducible rfl)))
          (try simp only [Act.put, List.setIfInBounds_toArray, List.set_cons_zero, List.set_cons_succ])
          refine wpAnyH_take (i := 8) (oi := ⟨_, _, _, _, _, _⟩) (v := ?v36) rfl (by kernel_rfl) (by kernel_rfl) (by kernel_rfl) (fun _ _ _ h => h) (Or.inl ⟨by rfl, ?hy36⟩) (by assumption) ?_
          case hy36 => (intro w hSw; (try dsimp only at hSw); go_simp; (try (with_reducible rfl)))
          (try simp only [Act.put, List.setIfInBounds_toArray, List.set_cons_zero, List.set_cons_succ])
          refine wpAnyH_ready (rs := [9]) (by kernel_rfl) (by simp) ?_
          refine AllReadyH.cons (o := ⟨_, _, _, _, _, _⟩) rfl (fun K hK => ?_) AllReadyH.nil
          go_simp
          refine hK.out _ _ ?hB37 (fun hHeld => ?_)
          case hB37 => (first | (with_reducible assumption) | (exact v1) | (exact (cell_far (by show w.heap.size + 1 ≠ wr.heap.size; omega)).trans ((cell_far (by show w.heap.size + 1 ≠ wr.heap.size; omega)).trans hHeld)))
          clear hK K
          (try simp only [Act.put, List.setIfInBounds_toArray, List.set_cons_zero, List.set_cons_succ])
          refine wpAnyH_done (by kernel_rfl) ?_ _
          go_wp2_with fail
          go_roundw
          case rel => exact ⟨i + 1, by go_num, by omega, by rw [HA.out, HB.out]; exact (((HT1.out.keep (Up.refl _).drew).keep HU1.out).keep HU2.out).setA⟩
          case measure => simp [intOf]; omega
        · go_simp
          (go_at_call 68; (with_reducible refine (KM.out _).mono ?_); rintro e w' ⟨rfl, rfl⟩)
          (try go_wp2_with fail)
          refine hK.out _ _ ?hB38 (fun hHeld => ?_)
          case hB38 => (first | (with_reducible assumption) | (exact v1) | (exact (cell_far (by show w.heap.size + 1 ≠ wr.heap.size; omega)).trans ((cell_far (by show w.heap.size + 1 ≠ wr.heap.size; omega)).trans hHeld)))
          clear hK K
          (try simp only [Act.put, List.setIfInBounds_toArray, List.set_cons_zero, List.set_cons_succ])
          refine wpAnyH_ready (rs := [0, 4]) (by kernel_rfl) (by simp) ?_
          refine AllReadyH.cons (o := ⟨_, _, _, _, _, _⟩) rfl (fun K hK => ?_) (AllReadyH.cons (o := ⟨_, _, _, _, _, _⟩) rfl (fun K hK => ?_) AllReadyH.nil)
          · go_simp
            refine hK.out _ _ ?hB39 (fun hHeld => ?_)
            case hB39 => (first | (with_reducible assumption) | (exact v1) | (exact (cell_far (by show w.heap.size + 1 ≠ wr.heap.size; omega)).trans ((cell_far (by show w.heap.size + 1 ≠ wr.heap.size; omega)).trans hHeld)))
            clear hK K
            (try simp only [Act.put, List.setIfInBounds_toArray, List.set_cons_zero, List.set_cons_succ])
            refine wpAnyH_ready (rs := [4]) (by kernel_rfl) (by simp) ?_
            refine AllReadyH.cons (o := ⟨_, _, _, _, _, _⟩) rfl (fun K hK => ?_) AllReadyH.nil
            go_simp
            (go_at_call 48; (with_reducible refine (KO.out _).mono ?_); rintro e w1 ⟨rfl, hu1⟩; have HU1 := Lib.hid hu1; have hS1 := hu1.keep _ _ _ hHeld; have ga0 := hu1.keep _ _ _ g0; have ga1 := hu1.keep _ _ _ g1; have ya0 := (hu1.cells.2 _).trans y0; have ya1 := (hu1.cells.2 _).trans y1; clear hu1; (try unfold got2))
            (try go_wp2_with fail)
            refine hK.out _ _ ?hB40 (fun hHeld => ?_)
            case hB40 => (first | (with_reducible assumption) | (exact v1) | (exact (cell_far (by show w.heap.size + 1 ≠ wr.heap.size; omega)).trans ((cell_far (by show w.heap.size + 1 ≠ wr.heap.size; omega)).trans hHeld)))
            clear hK K
            (try simp only [Act.put, List.setIfInBounds_toArray, List.set_cons_zero, List.set_cons_succ])
            refine wpAnyH_ready (rs := [5]) (by kernel_rfl) (by simp) ?_
            refine AllReadyH.cons (o := ⟨_, _, _, _, _, _⟩) rfl (fun K hK => ?_) AllReadyH.nil
            go_simp
            (go_at_call 67; (with_reducible refine (KA.out _).mono ?_); rintro e w2 ⟨rfl, hu2⟩; have HU2 := Lib.hid hu2; have hS2 := hu2.keep _ _ _ hHeld; have gb0 := hu2.keep _ _ _ ga0; have gb1 := hu2.keep _ _ _ ga1; have yb0 := (hu2.cells.2 _).trans ya0; have yb1 := (hu2.cells.2 _).trans ya1; clear hu2; (try unfold got2))
            (try go_wp2_with fail)
            refine hK.out _ _ ?hB41 (fun hHeld => ?_)
            case hB41 => (first | (with_reducible assumption) | (exact v1) | (exact (cell_far (by show w.heap.size + 1 ≠ wr.heap.size; omega)).trans ((cell_far (by show w.heap.size + 1 ≠ wr.heap.size; omega)).trans hHeld)))
            clear hK K
            (try simp only [Act.put, List.setIfInBounds_toArray, List.set_cons_zero, List.set_cons_succ])
            refine wpAnyH_take (i := 6) (oi := ⟨_, _, _, _, _, _⟩) (v := ?v42) rfl (by kernel_rfl) (by kernel_rfl) (by kernel_rfl) (fun _ _ _ h => h) (Or.inl ⟨by rfl, ?hy42⟩) (by assumption) ?_
            case hy42 => (intro w hSw; (try dsimp only at hSw); go_simp; (try (with_reducible rfl)))
            (try simp only [Act.put, List.setIfInBounds_toArray, List.set_cons_zero, List.set_cons_succ])
            refine wpAnyH_take (i := 7) (oi := ⟨_, _, _, _, _, _⟩) (v := ?v43) rfl (by kernel_rfl) (by kernel_rfl) (by kernel_rfl) (fun _ _ _ h => h) (Or.inl ⟨by rfl, ?hy43⟩) (by assumption) ?_
            case hy43 => (intro w hSw; (try dsimp only at hSw); go_simp; (try (with_reducible rfl)))
            (try simp only [Act.put, List.setIfInBounds_toArray, List.set_cons_zero, List.set_cons_succ])
            refine wpAnyH_take (i := 8) (oi := ⟨_, _, _, _, _, _⟩) (v := ?v44) rfl (by kernel_rfl) (by kernel_rfl) (by kernel_rfl) (fun _ _ _ h => h) (Or.inl ⟨by rfl, ?hy44⟩) (by assumption) ?_
            case hy44 => (intro w hSw; (try dsimp only at hSw); go_simp; (try (with_reducible rfl)))
            (try simp only [Act.put, List.setIfInBounds_toArray, List.set_cons_zero, List.set_cons_succ])
            refine wpAnyH_ready (rs := [9]) (by kernel_rfl) (by simp) ?_
            refine AllReadyH.cons (o := ⟨_, _, _, _, _, _⟩) rfl (fun K hK => ?_) AllReadyH.nil
            go_simp
            refine hK.out _ _ ?hB45 (fun hHeld => ?_)
            case hB45 => (first | (with_reducible assumption) | (exact v1) | (exact (cell_far (by show w.heap.size + 1 ≠ wr.heap.size; omega)).trans ((cell_far (by show w.heap.size + 1 ≠ wr.heap.size; omega)).trans hHeld)))
            clear hK K
            (try simp only [Act.put, List.setIfInBounds_toArray, List.set_cons_zero, List.set_cons_succ])
            refine wpAnyH_done (by kernel_rfl) ?_ _
            go_wp2_with fail
            go_roundw
            case rel => exact ⟨i + 1, by go_num, by omega, by rw [HA.out, HB.out]; exact (((HT1.out.keep (Up.refl _).drew).keep HU1.out).keep HU2.out).setA⟩
            case measure => simp [intOf]; omega
          · go_simp
            (go_at_call 48; (with_reducible refine (KO.out _).mono ?_); rintro e w1 ⟨rfl, hu1⟩; have HU1 := Lib.hid hu1; have hS1 := hu1.keep _ _ _ hHeld; have ga0 := hu1.keep _ _ _ g0; have ga1 := hu1.keep _ _ _ g1; have ya0 := (hu1.cells.2 _).trans y0; have ya1 := (hu1.cells.2 _).trans y1; clear hu1; (try unfold got2))
            (try go_wp2_with fail)
            refine hK.out _ _ ?hB46 (fun hHeld => ?_)
            case hB46 => (first | (with_reducible assumption) | (exact v1) | (exact (cell_far (by show w.heap.size + 1 ≠ wr.heap.size; omega)).trans ((cell_far (by show w.heap.size + 1 ≠ wr.heap.size; omega)).trans hHeld)))
            clear hK K
            (try simp only [Act.put, List.setIfInBounds_toArray, List.set_cons_zero, List.set_cons_succ])
            refine wpAnyH_ready (rs := [0]) (by kernel_rfl) (by simp) ?_
            refine AllReadyH.cons (o := ⟨_, _, _, _, _, _⟩) rfl (fun K hK => ?_) AllReadyH.nil
            go_simp
            refine hK.out _ _ ?hB47 (fun hHeld => ?_)
            case hB47 => (first | (with_reducible assumption) | (exact v1) | (exact (cell_far (by show w.heap.size + 1 ≠ wr.heap.size; omega)).trans ((cell_far (by show w.heap.size + 1 ≠ wr.heap.size; omega)).trans hHeld)))
            clear hK K
            (try simp only [Act.put, List.setIfInBounds_toArray, List.set_cons_zero, List.set_cons_succ])
            refine wpAnyH_ready (rs := [5]) (by kernel_rfl) (by simp) ?_
            refine AllReadyH.cons (o := ⟨_, _, _, _, _, _⟩) rfl (fun K hK => ?_) AllReadyH.nil
            go_simp
            (go_at_call 67; (with_reducible refine (KA.out _).mono ?_); rintro e w2 ⟨rfl, hu2⟩; have HU2 := Lib.hid hu2; have hS2 := hu2.keep _ _ _ hHeld; have gb0 := hu2.keep _ _ _ ga0; have gb1 := hu2.keep _ _ _ ga1; have yb0 := (hu2.cells.2 _).trans ya0; have yb1 := (hu2.cells.2 _).trans ya1; clear hu2; (try unfold got2))
            (try go_wp2_with fail)
            refine hK.out _ _ ?hB48 (fun hHeld => ?_)
            case hB48 => (first | (with_reducible assumption) | (exact v1) | (exact (cell_far (by show w.heap.size + 1 ≠ wr.heap.size; omega)).trans ((cell_far (by show w.heap.size + 1 ≠ wr.heap.size; omega)).trans hHeld)))
            clear hK K
            (try simp only [Act.put, List.setIfInBounds_toArray, List.set_cons_zero, List.set_cons_succ])
            refine wpAnyH_take (i := 6) (oi := ⟨_, _, _, _, _, _⟩) (v := ?v49) rfl (by kernel_rfl) (by kernel_rfl) (by kernel_rfl) (fun _ _ _ h => h) (Or.inl ⟨by rfl, ?hy49⟩) (by assumption) ?_
            case hy49 => (intro w hSw; (try dsimp only at hSw); go_simp; (try (with_reducible rfl)))
            (try simp only [Act.put, List.setIfInBounds_toArray, List.set_cons_zero, List.set_cons_succ])
            refine wpAnyH_take (i := 7) (oi := ⟨_, _, _, _, _, _⟩) (v := ?v50) rfl (by kernel_rfl) (by kernel_rfl) (by kernel_rfl) (fun _ _ _ h => h) (Or.inl ⟨by rfl, ?hy50⟩) (by assumption) ?_
            case hy50 => (intro w hSw; (try dsimp only at hSw); go_simp; (try (with_reducible rfl)))
            (try simp only [Act.put, List.setIfInBounds_toArray, List.set_cons_zero, List.set_cons_succ])
            refine wpAnyH_take (i := 8) (oi := ⟨_, _, _, _, _, _⟩) (v := ?v51) rfl (by kernel_rfl) (by kernel_rfl) (by kernel_rfl) (fun _ _ _ h => h) (Or.inl ⟨by rfl, ?hy51⟩) (by assumption) ?_
            case hy51 => (intro w hSw; (try dsimp only at hSw); go_simp; (try (with_reducible rfl)))
            (try simp only [Act.put, List.setIfInBounds_toArray, List.set_cons_zero, List.set_cons_succ])
            refine wpAnyH_ready (rs := [9]) (by kernel_rfl) (by simp) ?_
            refine AllReadyH.cons (o := ⟨_, _, _, _, _, _⟩) rfl (fun K hK => ?_) AllReadyH.nil
            go_simp
            refine hK.out _ _ ?hB52 (fun hHeld => ?_)
            case hB52 => (first | (with_reducible assumption) | (exact v1) | (exact (cell_far (by show w.heap.size + 1 ≠ wr.heap.size; omega)).trans ((cell_far (by show w.heap.size + 1 ≠ wr.heap.size; omega)).trans hHeld)))
            clear hK K
            (try simp only [Act.put, List.setIfInBounds_toArray, List.set_cons_zero, List.set_cons_succ])
            refine wpAnyH_done (by kernel_rfl) ?_ _
            go_wp2_with fail
            go_roundw
            case rel => exact ⟨i + 1, by go_num, by omega, by rw [HA.out, HB.out]; exact (((HT1.out.keep (Up.refl _).drew).keep HU1.out).keep HU2.out).setA⟩
            case measure => simp [intOf]; omega
    · obtain rfl : i = n := by omega
      have ht : L.take i = L := List.take_of_length_le (by rw [HL.out]; exact Nat.le_refl _)
      rw [ht] at hT
      clear ht
      have e := HE.out
      have hp0 := HPP.out
      have hq0 := HQQ.out
      have hP2 : In2 (posZ L) := ⟨hp0.1, by omega⟩
      have hQ2 : In2 (negZ L) := ⟨hq0.1, by omega⟩
      have K1 := Lib.hid (fun W => sub_up (hiZ (posZ L)) (loZ (posZ L)) (hiZ (negZ L)) (loZ (negZ L)) (hiZ_word hP2) (loZ_word _) (hiZ_word hQ2) (loZ_word _) W)
      have K2 := Lib.hid (fun W => sub_up (hiZ (negZ L)) (loZ (negZ L)) (hiZ (posZ L)) (loZ (posZ L)) (hiZ_word hQ2) (loZ_word _) (hiZ_word hP2) (loZ_word _) W)
      rw [val_hilo, val_hilo] at K1 K2
      generalize posZ L = p at *
      generalize negZ L = q at *
      have hx := HX.out
      have hy := HY.out
      generalize smZ L = s at *
      clear HX HY
      have a0 := hT.a0
      have a1 := hT.a1
      have b0 := hT.b0
      have b1 := hT.b1
      have r0 := hT.r0
      have r1 := hT.r1
      have z0 := hT.up.ownGe (Nat.le_refl w.heap.size) 0
      have z1 := hT.up.ownGe (Nat.le_refl w.heap.size) 1
      have lw : w.heap.size < wr.heap.size := World.block_lt_of_cell? _ _ r0
      have HU := Lib.hid hT.up
      clear hT
      by_cases hs : q ≤ p
      · have h2 : In2 (p - q) := ⟨by omega, by omega⟩
        rw [fit2_yes h2, fits2_yes h2] at K1
        obtain rfl : bb = false := by rw [← hy]; exact decide_eq_false (by omega)
        obtain ⟨u, hu⟩ : ∃ u, u = p - q := ⟨_, rfl⟩
        rw [← hu] at K1
        obtain rfl : u0 = u := by omega
        clear h2 hP2 hQ2 hp0 hq0 e K2 HE HPP HQQ hx hy hu
        go_wp2_with fail
        refine (K1.out _).mono ?_
        rintro e w1 ⟨rfl, hu1⟩
        have r0' := hu1.keep _ _ _ r0
        have r1' := hu1.keep _ _ _ r1
        have z0' := (hu1.cells.2 _).trans z0
        have z1' := (hu1.cells.2 _).trans z1
        have lw1 : w.heap.size < w1.heap.size := World.block_lt_of_cell? _ _ r0'
        have lw2 : w.heap.size < w1.heap.size + 1 := by omega
        have lw3 : ¬ w1.heap.size = w.heap.size := by omega
        unfold got2
        go_wp2_with fail
        refine bodyPost_ret (v := .tuple #[.agg #[.int .u64 (hiZ u0), .int .u64 (loZ u0)], .bool false]) (by simp [results, Tryz.results39, go_sem, r0', r1', lw1]) rfl ⟨?_, ?_⟩
        · rfl
        · ((repeat (first | (with_reducible exact Up.refl _) | (with_reducible exact HU.out) | (with_reducible refine Up.trans ?_ hu1) | (with_reducible refine Up.alloc ?_ _ _) | (with_reducible refine Up.setCell ?_ ?_ _) | (with_reducible refine Up.drewN ?_ _) | (with_reducible refine Up.drew ?_))); all_goals (first | (simp; done) | (simp; omega) | omega))
      · have h2 : ¬ In2 (p - q) := fun h => by unfold In2 at h; omega
        have h3 : In2 (q - p) := ⟨by omega, by omega⟩
        rw [show fits2 (p - q) = false from decide_eq_false h2] at K1
        rw [fit2_yes h3, fits2_yes h3] at K2
        obtain rfl : bb = true := by rw [← hy]; exact decide_eq_true (by omega)
        obtain ⟨u, hu⟩ : ∃ u, u = q - p := ⟨_, rfl⟩
        rw [← hu] at K2
        obtain rfl : u0 = u := by omega
        generalize fit2 (p - q) = f at K1
        clear h2 h3 hP2 hQ2 hp0 hq0 e HE HPP HQQ hs hx hy hu
        go_wp2_with fail
        refine (K1.out _).mono ?_
        rintro e w1 ⟨rfl, hu1⟩
        have a0' := hu1.keep _ _ _ a0
        have a1' := hu1.keep _ _ _ a1
        have b0' := hu1.keep _ _ _ b0
        have b1' := hu1.keep _ _ _ b1
        have r0' := hu1.keep _ _ _ r0
        have r1' := hu1.keep _ _ _ r1
        have z0' := (hu1.cells.2 _).trans z0
        have z1' := (hu1.cells.2 _).trans z1
        have lb1 : w.heap.size + 1 + 1 < w1.heap.size := World.block_lt_of_cell? _ _ b0'
        have lb2 : w.heap.size + 1 < w1.heap.size := by omega
        have lb3 : w.heap.size < w1.heap.size := by omega
        have HV := Lib.hid (HU.out.trans hu1)
        clear hu1
        unfold got2
        go_wp2_with fail
        refine (K2.out _).mono ?_
        rintro e w2 ⟨rfl, hu2⟩
        have r0'' := hu2.keep _ _ _ ((((Up.refl w1).alloc _ _).keep _ _ _ r0'))
        have r1'' := hu2.keep _ _ _ ((((Up.refl w1).alloc _ _).keep _ _ _ r1'))
        have z0'' := (hu2.cells.2 _).trans ((((Up.refl w1).alloc _ _).cells.2 _).trans z0')
        have z1'' := (hu2.cells.2 _).trans ((((Up.refl w1).alloc _ _).cells.2 _).trans z1')
        have lw1 : w.heap.size < w2.heap.size := World.block_lt_of_cell? _ _ r0''
        have lw2 : w.heap.size < w2.heap.size + 1 := by omega
        have lw3 : ¬ w2.heap.size = w.heap.size := by omega
        unfold got2
        go_wp2_with fail
        refine bodyPost_ret (v := .tuple #[.agg #[.int .u64 (hiZ u0), .int .u64 (loZ u0)], .bool true]) (by simp [results, Tryz.results39, go_sem, r0'', r1'', lw1]) rfl ⟨?_, ?_⟩
        · rfl
        · ((repeat (first | (with_reducible exact Up.refl _) | (with_reducible exact HV.out) | (with_reducible refine Up.trans ?_ hu2) | (with_reducible refine Up.alloc ?_ _ _) | (with_reducible refine Up.setCell ?_ ?_ _) | (with_reducible refine Up.drewN ?_ _) | (with_reducible refine Up.drew ?_))); all_goals (first | (simp; done) | (simp; omega) | omega))

theorem sumE_up (n k : Nat) (A : Option Addr) (L : List It) (hn : n ≤ 1000000) (hI : InI L) (w : World) (hS : Sl w A n L) :
    Calls Tryz.prog 14 #[.slice A n k] w fun e w' => e = got (fit (smZ L)) (fits (smZ L)) ∧ Up w w' := by
  have K1 := Lib.hid (total_up n k A L hn hI w hS)
  have e := smZ_eq L
  have hp := posZ_le hI
  have hq := negZ_le hI
  have hl := hS.1
  have h2 : In2 ((smZ L).natAbs : Int) := ⟨by omega, by omega⟩
  have K2 := Lib.hid (fun W => etoInt_v _ (decide (smZ L < 0)) h2 W)
  have es : sgZ (decide (smZ L < 0)) ((smZ L).natAbs : Int) = smZ L := by
    unfold sgZ
    by_cases h : smZ L < 0
    · rw [decide_eq_true h, if_pos rfl]; omega
    · rw [decide_eq_false h, if_neg (by decide)]; omega
  rw [es] at K2
  unfold got at K2
  unfold got2 at K1
  unfold got
  generalize ((smZ L).natAbs : Int) = u at *
  generalize decide (smZ L < 0) = b at *
  generalize fit (smZ L) = x at *
  generalize fits (smZ L) = y at *
  clear e hp hq hl h2 es hS hI
  go_enter Tryz.func14, Tryz.ntmps14
  go_wp2_with fail
  refine K1.out.mono ?_
  rintro e w1 ⟨rfl, hu1⟩
  go_wp2_with fail
  refine (K2.out _).mono ?_
  rintro e w2 ⟨rfl, hu2⟩
  go_wp2_with fail
  go_ret2
  exact ⟨rfl, hu1.trans hu2⟩
end Go.Proofs.YtflahclphdlolaaGreat
