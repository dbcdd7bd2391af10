/- What sumOf of package exact returns, for any closure whose answers are known. -/
import Derived.Test.YtjmfliljiffekaaETotal
namespace Go.Proofs.Ytjmfliljiffekaa
open Go.RowKit

/-- The sum of terms, as long as each has one and all sums fit. -/
def accO (f : It → Int) (b : It → Bool) : Int → List It → Option Int
  | s, [] => some s
  | s, x :: L => if (b x && fits2 (s + f x)) = true then accO f b (s + f x) L else none
def gotW (o : Option Int) : Ending := got2 (o.getD 0) o.isSome
theorem drop_consI {L : List It} {i : Nat} (h : i < L.length) : L.drop i = L.getD i (0, 0) :: L.drop (i + 1) := by
  rw [List.drop_eq_getElem_cons h]; simp [List.getD, h]
theorem accO_end {f : It → Int} {b : It → Bool} {L : List It} {i : Nat} {s : Int} (h : L.length ≤ i) : accO f b s (L.drop i) = some s := by rw [List.drop_eq_nil_of_le h]; rfl
theorem accO_next {f : It → Int} {b : It → Bool} {L : List It} {i : Nat} {s : Int} (h : i < L.length) (hb : b (L.getD i (0, 0)) = true) (hf : fits2 (s + f (L.getD i (0, 0))) = true) : accO f b s (L.drop i) = accO f b (s + f (L.getD i (0, 0))) (L.drop (i + 1)) := by
  rw [drop_consI h, accO, hb, hf]; rfl
theorem accO_no {f : It → Int} {b : It → Bool} {L : List It} {i : Nat} {s : Int} (h : i < L.length) (hb : b (L.getD i (0, 0)) = false) : accO f b s (L.drop i) = none := by
  rw [drop_consI h, accO, hb]; rfl
theorem accO_big {f : It → Int} {b : It → Bool} {L : List It} {i : Nat} {s : Int} (h : i < L.length) (hf : fits2 (s + f (L.getD i (0, 0))) = false) : accO f b s (L.drop i) = none := by
  rw [drop_consI h, accO, hf, Bool.and_false]; rfl

/-- What the walks of sums hold: the result's cells, and the sum so far in block g. -/
structure Sm (w wr : World) (g : Nat) (s : Int) : Prop where
  up : Up w wr
  r0 : wr.cell? ⟨w.heap.size, 0, none⟩ = some (.int .u64 0)
  r1 : wr.cell? ⟨w.heap.size, 1, none⟩ = some (.int .u64 0)
  s0 : wr.cell? ⟨g, 0, none⟩ = some (.int .u64 (hiZ s))
  s1 : wr.cell? ⟨g, 1, none⟩ = some (.int .u64 (loZ s))
theorem Sm.keep {w w1 w2 : World} {g : Nat} {s : Int} (h : Sm w w1 g s) (hu : Up w1 w2) : Sm w w2 g s :=
  ⟨h.up.trans hu, hu.keep _ _ _ h.r0, hu.keep _ _ _ h.r1, hu.keep _ _ _ h.s0, hu.keep _ _ _ h.s1⟩
theorem Sm.set {w w1 : World} {g : Nat} {s u : Int} (h : Sm w w1 g s) (hg : w.heap.size < g) : Sm w ((w1.setCell ⟨g, 0, none⟩ (.int .u64 (hiZ u))).setCell ⟨g, 1, none⟩ (.int .u64 (loZ u))) g u := by
  have far : ∀ (W : World) (i : Nat) (x : Value) (o : Nat) (y : Value), W.cell? ⟨w.heap.size, o, none⟩ = some y → (W.setCell ⟨g, i, none⟩ x).cell? ⟨w.heap.size, o, none⟩ = some y := fun W i x o y hy => (cell_far (by show g ≠ w.heap.size; omega)).trans hy
  refine ⟨(h.up.setCell (by show w.heap.size ≤ g; omega) _).setCell (by show w.heap.size ≤ g; omega) _, far _ _ _ _ _ (far _ _ _ _ _ h.r0), far _ _ _ _ _ (far _ _ _ _ _ h.r1), ?_, ?_⟩
  · rw [cell_set (cell_set h.s0)]; rfl
  · rw [cell_set (cell_set h.s1)]; rfl

set_option maxHeartbeats 8000000 in
set_option maxRecDepth 1000000 in
theorem sumOf_up (g : Nat) (cb : Array Value) (n k : Nat) (A : Option Addr) (L : List It) (f : It → Int) (b : It → Bool) (w : World) (eg : ∀ args w, (callFunc g args).run Try.prog w = .ok (.enter g args) w) (hn : n ≤ 1000000) (hS : Sl w A n L) (hf2 : ∀ x ∈ L, In2 (f x))
    (hf : ∀ W, Up w W → ∀ p0 p1 : Int, (p0, p1) ∈ L → Calls Try.prog g (#[.agg #[.int .i64 p0, .int .i64 p1]] ++ cb) W fun e W' => e = got2 (f (p0, p1)) (b (p0, p1)) ∧ Up W W') :
    Calls Try.prog 68 #[.slice A n k, .func (.func g) #[] cb] w fun e w' => e = gotW (accO f b 0 L) ∧ Up w w' := by
  have HF := Lib.hid hf
  have HF2 := Lib.hid hf2
  have HL := Lib.hid hS.1
  have HS := Lib.hid hS
  clear hf hf2 hS
  generalize hr : accO f b 0 L = r
  have HR := Lib.hid hr
  clear hr
  go_enter Try.func68, Try.ntmps68
  go_wp2_with fail
  go_loopw [15] (fun t wr => ∃ (i : Nat) (s : Int), t = .int .i64 i ∧ i ≤ n ∧ Hid (In2 s) ∧ Hid (accO f b s (L.drop i) = r) ∧ Sm w wr (w.heap.size + 1) s) (fun t _ => n - (intOf t).toNat)
  case atStart =>
    refine ⟨0, 0, rfl, Nat.zero_le _, Lib.hid (⟨by decide, by decide⟩ : In2 0), Lib.hid (by rw [List.drop_zero]; exact HR.out), ⟨?_, by simp [go_sem], by simp [go_sem], by simp [go_sem, hiZ], by simp [go_sem, loZ]⟩⟩
    repeat (first | exact Up.refl _ | refine Up.alloc ?_ _ _ | refine Up.setCell ?_ (by first | (simp; done) | (simp; omega) | omega) _ | refine Up.drewN ?_ _ | refine Up.drew ?_)
  case round =>
    obtain ⟨i, s, rfl, hin, H2, HA, hM⟩ := hrel
    have z0 := hM.up.ownGe (Nat.le_refl w.heap.size) 0
    have z1 := hM.up.ownGe (Nat.le_refl w.heap.size) 1
    have y0 := hM.up.ownGe (show w.heap.size ≤ w.heap.size + 1 by omega) 0
    have y1 := hM.up.ownGe (show w.heap.size ≤ w.heap.size + 1 by omega) 1
    have lw : w.heap.size + 1 < wr.heap.size := World.block_lt_of_cell? _ _ hM.s0
    have HM := Lib.hid hM
    by_cases hi : i < n
    · obtain ⟨bb, o, rfl, d0, d1⟩ := (HS.out.up hM.up).at_ hi
      have hil : i < L.length := by rw [HL.out]; exact hi
      have hmem : ((L.getD i (0, 0)).1, (L.getD i (0, 0)).2) ∈ L := by show L.getD i (0, 0) ∈ L; simp [List.getD, hil]
      have KC := Lib.hid (fun W (h : Up w W) => HF.out W h _ _ hmem)
      have hf2 := HF2.out _ hmem
      have N1 := Lib.hid (accO_next (f := f) (b := b) (s := s) hil)
      have N2 := Lib.hid (accO_no (f := f) (b := b) (s := s) hil)
      have N3 := Lib.hid (accO_big (f := f) (b := b) (s := s) hil)
      have hp : L.getD i (0, 0) = ((L.getD i (0, 0)).1, (L.getD i (0, 0)).2) := rfl
      rw [hp] at N1 N2 N3
      generalize (L.getD i (0, 0)).1 = p0 at *
      generalize (L.getD i (0, 0)).2 = p1 at *
      have KA := Lib.hid (fun W => add_up (hiZ s) (loZ s) (hiZ (f (p0, p1))) (loZ (f (p0, p1))) (hiZ_word H2.out) (loZ_word s) (hiZ_word hf2) (loZ_word _) W)
      rw [val_hilo, val_hilo] at KA
      generalize f (p0, p1) = x at *
      have f2 : (i : Int) < n := by omega
      have f3 : (0 : Int) ≤ i := by omega
      clear hM hp hmem hf2
      have HUa := Lib.hid (HM.out.up.alloc #[.int .i64 p0, .int .i64 p1] 39)
      cases hb : b (p0, p1) with
      | false =>
        rw [hb] at KC
        obtain rfl : r = none := by rw [← HA.out]; exact N2.out hb
        clear N1 N2 N3 HA HR hb
        go_wp2_with fail
        refine (KC.out _ HUa.out).mono ?_
        rintro e w1 ⟨rfl, hu1⟩
        have HM1 := Lib.hid ((HM.out.keep ((Up.refl wr).alloc _ _)).keep hu1)
        have r0 := HM1.out.r0
        have r1 := HM1.out.r1
        have zz0 := HM1.out.up.ownGe (Nat.le_refl w.heap.size) 0
        have zz1 := HM1.out.up.ownGe (Nat.le_refl w.heap.size) 1
        have lw1 : w.heap.size < w1.heap.size := World.block_lt_of_cell? _ _ r0
        clear hu1
        unfold got2
        go_wp2_with fail
        refine bodyPost_ret (v := .tuple #[.agg #[.int .u64 0, .int .u64 0], .bool false]) (by simp [results, Try.results68, go_sem, r0, r1, lw1]) rfl ⟨?_, ?_⟩
        · rfl
        · ((repeat (first | (with_reducible exact Up.refl _) | (with_reducible exact HM1.out.up) | (with_reducible refine Up.alloc ?_ _ _) | (with_reducible refine Up.setCell ?_ ?_ _) | (with_reducible refine Up.drewN ?_ _) | (with_reducible refine Up.drew ?_))); all_goals (first | (simp; done) | (simp; omega) | omega))
      | true =>
        rw [hb] at KC
        cases hx : fits2 (s + x) with
        | false =>
          obtain rfl : r = none := by rw [← HA.out]; exact N3.out hx
          rw [hx] at KA
          generalize fit2 (s + x) = fx at *
          clear N1 N2 N3 HA HR hb hx
          go_wp2_with fail
          refine (KC.out _ HUa.out).mono ?_
          rintro e w1 ⟨rfl, hu1⟩
          have HM1 := Lib.hid ((HM.out.keep ((Up.refl wr).alloc _ _)).keep hu1)
          have s0 := HM1.out.s0
          have s1 := HM1.out.s1
          have lw1 : w.heap.size + 1 < w1.heap.size := World.block_lt_of_cell? _ _ s0
          clear hu1
          unfold got2
          go_wp2_with fail
          refine (KA.out _).mono ?_
          rintro e w2 ⟨rfl, hu2⟩
          have HM2 := Lib.hid ((HM1.out.keep ((Up.refl w1).alloc _ _)).keep hu2)
          have r0 := HM2.out.r0
          have r1 := HM2.out.r1
          have zz0 := HM2.out.up.ownGe (Nat.le_refl w.heap.size) 0
          have zz1 := HM2.out.up.ownGe (Nat.le_refl w.heap.size) 1
          have lw2 : w.heap.size < w2.heap.size := World.block_lt_of_cell? _ _ r0
          clear hu2
          unfold got2
          go_wp2_with fail
          refine bodyPost_ret (v := .tuple #[.agg #[.int .u64 0, .int .u64 0], .bool false]) (by simp [results, Try.results68, go_sem, r0, r1, lw2]) rfl ⟨?_, ?_⟩
          · rfl
          · ((repeat (first | (with_reducible exact Up.refl _) | (with_reducible exact HM2.out.up) | (with_reducible refine Up.alloc ?_ _ _) | (with_reducible refine Up.setCell ?_ ?_ _) | (with_reducible refine Up.drewN ?_ _) | (with_reducible refine Up.drew ?_))); all_goals (first | (simp; done) | (simp; omega) | omega))
        | true =>
          have h2 : In2 (s + x) := (of_decide_eq_true hx : 0 ≤ s + x ∧ s + x < 340282366920938463463374607431768211456)
          rw [hx, fit2_yes h2] at KA
          have HA1 := Lib.hid ((N1.out hb hx).symm.trans HA.out)
          have H21 := Lib.hid h2
          generalize s + x = u at *
          clear N1 N2 N3 HA HR hb hx h2
          go_wp2_with fail
          refine (KC.out _ HUa.out).mono ?_
          rintro e w1 ⟨rfl, hu1⟩
          have HM1 := Lib.hid ((HM.out.keep ((Up.refl wr).alloc _ _)).keep hu1)
          have s0 := HM1.out.s0
          have s1 := HM1.out.s1
          have lw1 : w.heap.size + 1 < w1.heap.size := World.block_lt_of_cell? _ _ s0
          clear hu1
          unfold got2
          go_wp2_with fail
          refine (KA.out _).mono ?_
          rintro e w2 ⟨rfl, hu2⟩
          have HM3 := Lib.hid ((HM1.out.keep ((Up.refl w1).alloc _ _)).keep hu2)
          have t0 := HM3.out.s0
          have t1 := HM3.out.s1
          have zz0 := HM3.out.up.ownGe (show w.heap.size ≤ w.heap.size + 1 by omega) 0
          have zz1 := HM3.out.up.ownGe (show w.heap.size ≤ w.heap.size + 1 by omega) 1
          have lw2 : w.heap.size + 1 < w2.heap.size := by have h := hu2.size; rw [size_alloc] at h; omega
          have lw3 : ¬ w2.heap.size = w.heap.size + 1 := by omega
          clear hu2
          unfold got2
          go_wp2_with fail
          go_roundw
          case rel => exact ⟨i + 1, u, by go_num, by omega, H21, HA1, (HM3.out.set (by omega)).keep ((Up.refl _).alloc _ _)⟩
          case measure => simp [intOf]; omega
    · obtain rfl : i = n := by omega
      obtain rfl : r = some s := by rw [← HA.out]; exact accO_end (by rw [HL.out]; exact Nat.le_refl _)
      have r0 := hM.r0
      have r1 := hM.r1
      have s0 := hM.s0
      have s1 := hM.s1
      clear HA HR hM
      go_wp2_with fail
      refine bodyPost_ret (v := .tuple #[.agg #[.int .u64 (hiZ s), .int .u64 (loZ s)], .bool true]) (by simp [results, Try.results68, go_sem, r0, r1]) rfl ⟨?_, ?_⟩
      · rfl
      · ((repeat (first | (with_reducible exact Up.refl _) | (with_reducible exact HM.out.up) | (with_reducible refine Up.alloc ?_ _ _) | (with_reducible refine Up.setCell ?_ ?_ _) | (with_reducible refine Up.drewN ?_ _) | (with_reducible refine Up.drew ?_))); all_goals (first | (simp; done) | (simp; omega) | omega))
end Go.Proofs.Ytjmfliljiffekaa
