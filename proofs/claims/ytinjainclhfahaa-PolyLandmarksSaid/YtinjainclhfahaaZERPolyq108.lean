/- What Poly of the reference of layer 8 returns. -/
import Derived.Test.YtinjainclhfahaaRows
import Derived.Test.YtinjainclhfahaaZEPolyq71
namespace Go.Proofs.Ytinjainclhfahaa
open Go.RowKit

theorem mkeep {w w1 w2 : World} {g b0 o0 b1 o1 b2 o2 : Nat} {s : Int} {x0 x1 x2 : Value} (hu : Hid (Up w1 w2)) (h : Sm w w1 g s ∧ w1.cell? ⟨b0, o0, none⟩ = some x0 ∧ w1.cell? ⟨b1, o1, none⟩ = some x1 ∧ w1.cell? ⟨b2, o2, none⟩ = some x2) :
    Sm w w2 g s ∧ w2.cell? ⟨b0, o0, none⟩ = some x0 ∧ w2.cell? ⟨b1, o1, none⟩ = some x1 ∧ w2.cell? ⟨b2, o2, none⟩ = some x2 := ⟨h.1.keep hu.out, hu.out.keep _ _ _ h.2.1, hu.out.keep _ _ _ h.2.2.1, hu.out.keep _ _ _ h.2.2.2⟩
theorem Sm.far {w w1 : World} {g b q : Nat} {s : Int} {v : Value} (h : Sm w w1 g s) (hb : w.heap.size < b) (hg : b ≠ g) : Sm w (w1.setCell ⟨b, q, none⟩ v) g s :=
  ⟨h.up.setCell (by show w.heap.size ≤ b; omega) _, (cell_far (by show b ≠ _; omega)).trans h.r0, (cell_far (by show b ≠ _; omega)).trans h.r1, (cell_far hg).trans h.s0, (cell_far hg).trans h.s1⟩
theorem mset {w w1 : World} {g b q b0 o0 b1 o1 b2 o2 : Nat} {s : Int} {v x0 x1 x2 : Value} (h : Sm w w1 g s ∧ w1.cell? ⟨b0, o0, none⟩ = some x0 ∧ w1.cell? ⟨b1, o1, none⟩ = some x1 ∧ w1.cell? ⟨b2, o2, none⟩ = some x2) (hb : w.heap.size < b) (hg : b ≠ g) (n0 : b ≠ b0) (n1 : b ≠ b1) (n2 : b ≠ b2) :
    Sm w (w1.setCell ⟨b, q, none⟩ v) g s ∧ (w1.setCell ⟨b, q, none⟩ v).cell? ⟨b0, o0, none⟩ = some x0 ∧ (w1.setCell ⟨b, q, none⟩ v).cell? ⟨b1, o1, none⟩ = some x1 ∧ (w1.setCell ⟨b, q, none⟩ v).cell? ⟨b2, o2, none⟩ = some x2 :=
  ⟨h.1.far hb hg, (cell_far n0).trans h.2.1, (cell_far n1).trans h.2.2.1, (cell_far n2).trans h.2.2.2⟩

set_option maxHeartbeats 8000000 in
set_option maxRecDepth 100000 in
theorem rpoly_up (n k : Nat) (A : Option Addr) (L : List It) (land p : Int) (hn : n ≤ 1000000) (hI : InI L) (w : World) (hS : Sl w A n L) :
    Calls Try.prog 30 #[.slice A n k, .int .i64 land, .int .i64 p] w fun e w' => e = gotW (plO L land p) ∧ Up w w' := by
  have KT := Lib.hid (rtick_any land)
  unfold plO
  by_cases hp : 0 ≤ p ∧ p ≤ 4
  case neg =>
    rw [decide_eq_false hp, Bool.and_false, if_neg (by decide)]
    clear hS hI
    by_cases h0 : p < 0
    · clear hp
      go_enter Try.func30, Try.ntmps30
      go_wp2_with fail
      refine bodyPost_ret (v := .tuple #[.agg #[.int .u64 0, .int .u64 0], .bool false]) (by simp [results, Try.results30, go_sem]) rfl ⟨?_, ?_⟩
      · rfl
      · repeat (first | exact Up.refl _ | refine Up.alloc ?_ _ _ | refine Up.setCell ?_ (by first | (simp; done) | (simp; omega) | omega) _ | refine Up.drewN ?_ _ | refine Up.drew ?_)
    · have h4 : 4 < p := by omega
      clear hp
      go_enter Try.func30, Try.ntmps30
      go_wp2_with fail
      refine bodyPost_ret (v := .tuple #[.agg #[.int .u64 0, .int .u64 0], .bool false]) (by simp [results, Try.results30, go_sem]) rfl ⟨?_, ?_⟩
      · rfl
      · repeat (first | exact Up.refl _ | refine Up.alloc ?_ _ _ | refine Up.setCell ?_ (by first | (simp; done) | (simp; omega) | omega) _ | refine Up.drewN ?_ _ | refine Up.drew ?_)
  case pos =>
  rw [decide_eq_true hp, Bool.and_true]
  obtain ⟨hp0, hp1⟩ := hp
  cases ht : tickB land with
  | false =>
    rw [ht] at KT
    rw [if_neg (by decide)]
    clear hS hI ht
    go_enter Try.func30, Try.ntmps30
    go_wp2_with fail
    refine (KT.out _).mono ?_
    rintro e w' ⟨rfl, rfl⟩
    go_wp2_with fail
    refine bodyPost_ret (v := .tuple #[.agg #[.int .u64 0, .int .u64 0], .bool false]) (by simp [results, Try.results30, go_sem]) rfl ⟨?_, ?_⟩
    · rfl
    · repeat (first | exact Up.refl _ | refine Up.alloc ?_ _ _ | refine Up.setCell ?_ (by first | (simp; done) | (simp; omega) | omega) _ | refine Up.drewN ?_ _ | refine Up.drew ?_)
  | true =>
  rw [ht] at KT
  rw [if_pos rfl]
  have hlt : 0 ≤ land ∧ land ≤ 16777216 := (of_decide_eq_true ht : 0 ≤ land ∧ land ≤ 16777216)
  obtain ⟨hl0, hl1⟩ := hlt
  generalize hr : accO (tmF land p) (tmB land p) 0 L = r
  have HR := Lib.hid hr
  have HL := Lib.hid hS.1
  have HS := Lib.hid hS
  have HI := Lib.hid hI
  clear hr ht hS hI
  go_enter Try.func30, Try.ntmps30
  go_wp2_with fail
  refine (KT.out _).mono ?_
  rintro e w' ⟨rfl, rfl⟩
  go_wp2_with fail
  go_loopw [29] (fun t wr => ∃ (i : Nat) (s : Int), t = .int .i64 i ∧ i ≤ n ∧ Hid (In2 s) ∧ Hid (accO (tmF land p) (tmB land p) s (L.drop i) = r) ∧ Sm w wr (w.heap.size + 1) s) (fun t _ => n - (intOf t).toNat)
  case atStart =>
    refine ⟨0, 0, rfl, Nat.zero_le _, Lib.hid (⟨by decide, by decide⟩ : In2 0), Lib.hid (by rw [List.drop_zero]; exact HR.out), ⟨?_, by simp [go_sem], by simp [go_sem], by simp [go_sem, hiZ], by simp [go_sem, loZ]⟩⟩
    repeat (first | exact Up.refl _ | refine Up.alloc ?_ _ _ | refine Up.setCell ?_ (by first | (simp; done) | (simp; omega) | omega) _ | refine Up.drewN ?_ _ | refine Up.drew ?_)
  case round =>
    obtain ⟨i, s, rfl, hin, H2, HA, hM⟩ := hrel
    have z0 := hM.up.ownGe (Nat.le_refl w.heap.size) 0
    have z1 := hM.up.ownGe (Nat.le_refl w.heap.size) 1
    have lw : w.heap.size + 1 < wr.heap.size := World.block_lt_of_cell? _ _ hM.s0
    have HM := Lib.hid hM
    by_cases hi : i < n
    · obtain ⟨bb, o, rfl, d0, d1⟩ := (HS.out.up hM.up).at_ hi
      have hil : i < L.length := by rw [HL.out]; exact hi
      obtain ⟨i0, i1⟩ := HI.out.at_ hil
      have N1 := Lib.hid (accO_next (f := tmF land p) (b := tmB land p) (s := s) hil)
      have N2 := Lib.hid (accO_no (f := tmF land p) (b := tmB land p) (s := s) hil)
      have N3 := Lib.hid (accO_big (f := tmF land p) (b := tmB land p) (s := s) hil)
      have hp_ : L.getD i (0, 0) = ((L.getD i (0, 0)).1, (L.getD i (0, 0)).2) := rfl
      rw [hp_] at N1 N2 N3
      generalize (L.getD i (0, 0)).1 = p0 at *
      generalize (L.getD i (0, 0)).2 = p1 at *
      have f2 : (i : Int) < n := by omega
      have f3 : (0 : Int) ≤ i := by omega
      have r0 := hM.r0
      have r1 := hM.r1
      clear hM hp_
      have lr1 : w.heap.size < wr.heap.size := by omega
      have lr2 : w.heap.size < wr.heap.size + 1 := by omega
      have KX := Lib.hid (rtick_any p0)
      by_cases hv : land ≤ p0 ∧ p0 ≤ 16777216 ∧ 0 ≤ p1
      case neg =>
        obtain ⟨e1, e2⟩ := tm_no (p := p) (show tmP land p (p0, p1) = false from decide_eq_false hv)
        obtain rfl : r = none := by rw [← HA.out]; exact N2.out e1
        clear N1 N2 N3 HA HR e1 e2
        by_cases h3 : p1 < 0
        · clear hv
          go_wp2_with fail
          refine bodyPost_ret (v := .tuple #[.agg #[.int .u64 0, .int .u64 0], .bool false]) (by simp [results, Try.results30, go_sem, r0, r1, lr1]) rfl ⟨?_, ?_⟩
          · rfl
          · ((repeat (first | (with_reducible exact Up.refl _) | (with_reducible exact HM.out.up) | (with_reducible refine Up.alloc ?_ _ _) | (with_reducible refine Up.setCell ?_ ?_ _) | (with_reducible refine Up.drewN ?_ _) | (with_reducible refine Up.drew ?_))); all_goals (first | (simp; done) | (simp; omega) | omega))
        cases htx : tickB p0 with
        | false =>
          rw [htx] at KX
          clear hv htx
          go_wp2_with fail
          refine (KX.out _).mono ?_
          rintro e w' ⟨rfl, rfl⟩
          go_wp2_with fail
          refine bodyPost_ret (v := .tuple #[.agg #[.int .u64 0, .int .u64 0], .bool false]) (by simp [results, Try.results30, go_sem, r0, r1, lr1]) rfl ⟨?_, ?_⟩
          · rfl
          · ((repeat (first | (with_reducible exact Up.refl _) | (with_reducible exact HM.out.up) | (with_reducible refine Up.alloc ?_ _ _) | (with_reducible refine Up.setCell ?_ ?_ _) | (with_reducible refine Up.drewN ?_ _) | (with_reducible refine Up.drew ?_))); all_goals (first | (simp; done) | (simp; omega) | omega))
        | true =>
          rw [htx] at KX
          have htt : 0 ≤ p0 ∧ p0 ≤ 16777216 := (of_decide_eq_true htx : 0 ≤ p0 ∧ p0 ≤ 16777216)
          have h1 : p0 < land := by omega
          clear hv htx htt
          go_wp2_with fail
          refine (KX.out _).mono ?_
          rintro e w' ⟨rfl, rfl⟩
          go_wp2_with fail
          refine bodyPost_ret (v := .tuple #[.agg #[.int .u64 0, .int .u64 0], .bool false]) (by simp [results, Try.results30, go_sem, r0, r1, lr1]) rfl ⟨?_, ?_⟩
          · rfl
          · ((repeat (first | (with_reducible exact Up.refl _) | (with_reducible exact HM.out.up) | (with_reducible refine Up.alloc ?_ _ _) | (with_reducible refine Up.setCell ?_ ?_ _) | (with_reducible refine Up.drewN ?_ _) | (with_reducible refine Up.drew ?_))); all_goals (first | (simp; done) | (simp; omega) | omega))
      case pos =>
      obtain ⟨eB, eF⟩ := tm_yes (p := p) (show tmP land p (p0, p1) = true from decide_eq_true hv)
      obtain ⟨v1, v2, v3⟩ := hv
      rw [show tickB p0 = true from decide_eq_true ⟨by omega, by omega⟩] at KX
      simp only at eB eF
      unfold In at i0 i1
      have ha : Word (p0 - land + 1) := ⟨by omega, by omega⟩
      have KP := Lib.hid (fun W => rpow_up (p0 - land + 1) p ha ⟨by omega, by omega⟩ W)
      have hpw := powV_in2 (p0 - land + 1) p
      generalize powB (p0 - land + 1) p = pb at *
      generalize powV (p0 - land + 1) p = pw at *
      have hw1 : Word p1 := ⟨by omega, by omega⟩
      have KO := Lib.hid (fun W => rof_up p1 W)
      have KM := Lib.hid (fun W => rmul_up 0 p1 (hiZ pw) (loZ pw) ⟨by decide, by decide⟩ hw1 (hiZ_word hpw) (loZ_word pw) W)
      rw [val_hilo, show val 0 p1 = p1 by unfold val; omega, Int.mul_comm p1 pw] at KM
      unfold got2 at KP
      have hfi := fit2_in2 (pw * p1)
      rw [← eF] at hfi
      have KA := Lib.hid (fun W => radd_up (hiZ s) (loZ s) (hiZ (tmF land p (p0, p1))) (loZ (tmF land p (p0, p1))) (hiZ_word H2.out) (loZ_word s) (hiZ_word hfi) (loZ_word _) W)
      rw [val_hilo, val_hilo] at KA
      rw [← eF, ← eB] at KM
      have k1 : IntKind.i64.wrap (p0 - land) = p0 - land := IntWalk.i64_in _ (by omega)
      have k2 : IntKind.i64.wrap (p0 - land + 1) = p0 - land + 1 := IntWalk.i64_in _ (by omega)
      have k3 : IntKind.u64.wrap (p0 - land + 1) = p0 - land + 1 := by rw [IntKind.wrap_u64]; omega
      have k4 : IntKind.u64.wrap p1 = p1 := by rw [IntKind.wrap_u64]; omega
      generalize hx : tmF land p (p0, p1) = x at *
      generalize hb : tmB land p (p0, p1) = b at *
      clear hpw hw1 ha eB eF hfi hx r0 r1
      go_wp2_with fail
      refine (KX.out _).mono ?_
      rintro e w' ⟨rfl, rfl⟩
      go_wp2_with fail
      refine (KP.out _).mono ?_
      rintro e w1 ⟨rfl, hu1⟩
      have HM1 := Lib.hid ((HM.out.keep ((Up.refl wr).alloc _ _)).keep hu1)
      have cv := hu1.keep wr.heap.size 1 (.int .i64 p1) (by simp [go_sem])
      have lw1 : wr.heap.size < w1.heap.size := World.block_lt_of_cell? _ _ cv
      clear hu1 d0 d1
      go_upto_region 10 with fail
      have cv := ((Up.refl w1).alloc #[.int .u64 (hiZ pw), .int .u64 (loZ pw)] 35).keep _ _ _ cv
      have HM2 := Lib.hid (HM1.out.keep ((Up.refl w1).alloc #[.int .u64 (hiZ pw), .int .u64 (loZ pw)] 35))
      have c1 : (w1.alloc (.cells #[.int .u64 (hiZ pw), .int .u64 (loZ pw)] 35)).cell? ⟨w1.heap.size, 0, none⟩ = some (.int .u64 (hiZ pw)) := by simp [go_sem]
      have c2 : (w1.alloc (.cells #[.int .u64 (hiZ pw), .int .u64 (loZ pw)] 35)).cell? ⟨w1.heap.size, 1, none⟩ = some (.int .u64 (loZ pw)) := by simp [go_sem]
      have la : w1.heap.size < (w1.alloc (.cells #[.int .u64 (hiZ pw), .int .u64 (loZ pw)] 35)).heap.size := by rw [size_alloc]; omega
      clear HM1
      generalize w1.alloc (.cells #[.int .u64 (hiZ pw), .int .u64 (loZ pw)] 35) = wi at *
      generalize w1.heap.size = a at *
      generalize hq : wr.heap.size = q at *
      go_cut [13, 14] (fun t13 t14 wx => ∃ g : Nat, w.heap.size + 1 < g ∧ t13 = .pointer (some ⟨g, 0, none⟩) ∧ t14 = .bool b ∧ wx.cell? ⟨g, 0, none⟩ = some (.int .u64 (hiZ x)) ∧ wx.cell? ⟨g, 1, none⟩ = some (.int .u64 (loZ x)) ∧ Sm w wx (w.heap.size + 1) s)
      case first =>
        go_region_held3 (fun w' => Sm w w' (w.heap.size + 1) s ∧ w'.cell? ⟨q, 1, none⟩ = some (.int .i64 p1) ∧ w'.cell? ⟨a, 0, none⟩ = some (.int .u64 (hiZ pw)) ∧ w'.cell? ⟨a, 1, none⟩ = some (.int .u64 (loZ pw)))
          (first | (with_reducible exact mkeep (by assumption) (by assumption)) | (repeat (first | (with_reducible assumption) | (with_reducible exact Hid.out (by assumption)) | (with_reducible exact ⟨HM2.out, cv, c1, c2⟩) | (with_reducible refine mset ?_ (by omega) (by omega) (by omega) (by omega) (by omega)) | (with_reducible refine mkeep (Lib.hid ((Up.refl _).alloc _ _)) ?_) | (with_reducible refine mkeep (Lib.hid (Up.refl _).drew) ?_))))
          (first
            | (go_at_call 45; (with_reducible refine (KO.out _).mono ?_); rintro e w5 ⟨rfl, hu5⟩; have HU5 := Lib.hid hu5; have HS5 := Lib.hid (mkeep HU5 (by assumption)); obtain ⟨hc5, hz5⟩ := hu5.cells; have hs5 := hu5.size; (try simp at hs5); clear hu5; (try unfold got2); (try (have p5_0 : wi.heap.size < w5.heap.size := by omega)); (try (have p5_1 : a < w5.heap.size := by omega)); (try (have p5_2 : q < w5.heap.size := by omega)))
            | (go_at_call 44; (with_reducible refine (KM.out _).mono ?_); rintro e w6 ⟨rfl, hu6⟩; have HU6 := Lib.hid hu6; have HS6 := Lib.hid (mkeep HU6 (by assumption)); obtain ⟨hc6, hz6⟩ := hu6.cells; have hs6 := hu6.size; (try simp at hs6); clear hu6; (try unfold got2); (try (have p6_0 : wi.heap.size < w6.heap.size := by omega)); (try (have p6_1 : w5.heap.size < w6.heap.size := by omega)); (try (have p6_2 : a < w6.heap.size := by omega)); (try (have p6_3 : q < w6.heap.size := by omega))))
        all_goals
          go_wp2_with fail
          go_meet
          refine ⟨_, ?_, rfl, rfl, ?_, ?_, And.left (by assumption)⟩
          · omega
          all_goals (first | (simp [go_sem, *]; done))
      obtain ⟨g, lg, rfl, rfl, e0, e1, hM⟩ := hcut
      have HM3 := Lib.hid hM
      have s0 := hM.s0
      have s1 := hM.s1
      have r0 := hM.r0
      have r1 := hM.r1
      have z0 := hM.up.ownGe (Nat.le_refl w.heap.size) 0
      have z1 := hM.up.ownGe (Nat.le_refl w.heap.size) 1
      have y0 := hM.up.ownGe (show w.heap.size ≤ w.heap.size + 1 by omega) 0
      have y1 := hM.up.ownGe (show w.heap.size ≤ w.heap.size + 1 by omega) 1
      clear hM HM HM2 cv c1 c2
      cases b with
      | false =>
        obtain rfl : r = none := by rw [← HA.out]; exact N2.out rfl
        clear N1 N2 N3 HA HR
        go_wp2_with fail
        refine bodyPost_ret (v := .tuple #[.agg #[.int .u64 0, .int .u64 0], .bool false]) (by simp [results, Try.results30, go_sem, r0, r1]) rfl ⟨?_, ?_⟩
        · rfl
        · ((repeat (first | (with_reducible exact Up.refl _) | (with_reducible exact HM3.out.up) | (with_reducible refine Up.alloc ?_ _ _) | (with_reducible refine Up.setCell ?_ ?_ _) | (with_reducible refine Up.drewN ?_ _) | (with_reducible refine Up.drew ?_))); all_goals (first | (simp; done) | (simp; omega) | omega))
      | true =>
        cases hf : fits2 (s + x) with
        | false =>
          obtain rfl : r = none := by rw [← HA.out]; exact N3.out hf
          rw [hf] at KA
          generalize fit2 (s + x) = fx at *
          clear N1 N2 N3 HA HR hf
          go_wp2_with fail
          refine (KA.out _).mono ?_
          rintro e w2 ⟨rfl, hu2⟩
          have HM4 := Lib.hid (HM3.out.keep hu2)
          have s0 := HM4.out.s0
          have s1 := HM4.out.s1
          have r0 := HM4.out.r0
          have r1 := HM4.out.r1
          have z0 := HM4.out.up.ownGe (Nat.le_refl w.heap.size) 0
          have z1 := HM4.out.up.ownGe (Nat.le_refl w.heap.size) 1
          have y0 := HM4.out.up.ownGe (show w.heap.size ≤ w.heap.size + 1 by omega) 0
          have y1 := HM4.out.up.ownGe (show w.heap.size ≤ w.heap.size + 1 by omega) 1
          clear hu2
          unfold got2
          go_wp2_with fail
          refine bodyPost_ret (v := .tuple #[.agg #[.int .u64 0, .int .u64 0], .bool false]) (by simp [results, Try.results30, go_sem, r0, r1]) rfl ⟨?_, ?_⟩
          · rfl
          · ((repeat (first | (with_reducible exact Up.refl _) | (with_reducible exact HM4.out.up) | (with_reducible refine Up.alloc ?_ _ _) | (with_reducible refine Up.setCell ?_ ?_ _) | (with_reducible refine Up.drewN ?_ _) | (with_reducible refine Up.drew ?_))); all_goals (first | (simp; done) | (simp; omega) | omega))
        | true =>
          have h2 : In2 (s + x) := (of_decide_eq_true hf : 0 ≤ s + x ∧ s + x < 340282366920938463463374607431768211456)
          rw [hf, fit2_yes h2] at KA
          have HA1 := Lib.hid ((N1.out rfl hf).symm.trans HA.out)
          have H21 := Lib.hid h2
          generalize s + x = u at *
          clear N1 N2 N3 HA HR hf h2
          go_wp2_with fail
          refine (KA.out _).mono ?_
          rintro e w2 ⟨rfl, hu2⟩
          have HM4 := Lib.hid (HM3.out.keep hu2)
          have s0 := HM4.out.s0
          have s1 := HM4.out.s1
          have y0 := HM4.out.up.ownGe (show w.heap.size ≤ w.heap.size + 1 by omega) 0
          have y1 := HM4.out.up.ownGe (show w.heap.size ≤ w.heap.size + 1 by omega) 1
          clear hu2
          unfold got2
          go_wp2_with fail
          go_roundw
          case rel => exact ⟨i + 1, u, by go_num, by omega, H21, HA1, HM4.out.set (by omega)⟩
          case measure => simp [intOf]; omega
    · obtain rfl : i = n := by omega
      obtain rfl : r = some s := by rw [← HA.out]; exact accO_end (by rw [HL.out]; exact Nat.le_refl _)
      have r0 := hM.r0
      have r1 := hM.r1
      have s0 := hM.s0
      have s1 := hM.s1
      clear HA HR hM
      go_wp2_with fail
      refine bodyPost_ret (v := .tuple #[.agg #[.int .u64 (hiZ s), .int .u64 (loZ s)], .bool true]) (by simp [results, Try.results30, go_sem, r0, r1]) rfl ⟨?_, ?_⟩
      · rfl
      · ((repeat (first | (with_reducible exact Up.refl _) | (with_reducible exact HM.out.up) | (with_reducible refine Up.alloc ?_ _ _) | (with_reducible refine Up.setCell ?_ ?_ _) | (with_reducible refine Up.drewN ?_ _) | (with_reducible refine Up.drew ?_))); all_goals (first | (simp; done) | (simp; omega) | omega))
end Go.Proofs.Ytinjainclhfahaa
