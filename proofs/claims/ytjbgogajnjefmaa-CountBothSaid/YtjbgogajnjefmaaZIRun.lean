/- run of the laws of package count: any items, one by one. -/
import Derived.Test.YtjbgogajnjefmaaZFMade
import Derived.Test.YtjbgogajnjefmaaZGBasem10
import Derived.Test.YtjbgogajnjefmaaZGLawm6
import Derived.Test.YtjbgogajnjefmaaZHOrdm3
import Derived.Test.YtjbgogajnjefmaaZHRVal
import Derived.Test.YtjbgogajnjefmaaZHRowm3
import Derived.Test.YtjbgogajnjefmaaZHSamem5
import Derived.Test.YtjbgogajnjefmaaZIAdd
import Derived.Test.YtjbgogajnjefmaaZIAdv
import Derived.Test.YtjbgogajnjefmaaZIBasem2
import Derived.Test.YtjbgogajnjefmaaZIMade
import Derived.Test.YtjbgogajnjefmaaZWMathm11
import Derived.Test.YtjbgogajnjefmaaZWShortm6
namespace Go.Proofs.Ytjbgogajnjefmaa
open Go.RowKit
set_option linter.unusedVariables false

/-- Where run is, ahead of the item at place i. -/
def RnC (w wr : World) (v q c : Int) (n : Nat) (M0 : List It) (z : Int) (i : Nat) (s : Value) : Prop :=
  ∃ (now : Int) (X M : List It) (A1 B : Option Addr) (k1 kb : Nat), s = .slice B M.length kb ∧ Own w wr (.slice B M.length kb) M.length M ∧ Ab (w.heap.size + 1) B ∧ Sl wr A1 X.length X ∧ Ab (w.heap.size + 1) A1 ∧ X.length ≤ k1 ∧ Hs v q c now X M ∧ M.length ≤ i ∧ (i < n → now ≤ (M0.getD i (0, 0)).1) ∧ now ≤ z ∧
    (wr.cell? ⟨w.heap.size, 0, none⟩ = some (.int .i64 v) ∧ wr.cell? ⟨w.heap.size, 1, none⟩ = some (.int .i64 q) ∧ wr.cell? ⟨w.heap.size, 2, none⟩ = some (.int .i64 c) ∧ wr.cell? ⟨w.heap.size, 3, none⟩ = some (.int .i64 now) ∧ wr.cell? ⟨w.heap.size, 4, none⟩ = some (.slice A1 X.length k1)) ∧ (wr.cell? ⟨w.heap.size + 1, 0, none⟩ = some (.int .i64 0) ∧ wr.cell? ⟨w.heap.size + 1, 1, none⟩ = some (.int .i64 0) ∧ wr.cell? ⟨w.heap.size + 1, 2, none⟩ = some (.int .i64 0) ∧ wr.cell? ⟨w.heap.size + 1, 3, none⟩ = some (.int .i64 0) ∧ wr.cell? ⟨w.heap.size + 1, 4, none⟩ = some (.slice none 0 0)) ∧ Up w wr
theorem mdQ_step {M : List It} {z : Int} (h : mdQ M z) {i : Nat} (hi : i < M.length) : 0 ≤ (M.getD i (0, 0)).1 ∧ (M.getD i (0, 0)).1 ≤ z ∧ (i + 1 < M.length → (M.getD i (0, 0)).1 ≤ (M.getD (i + 1) (0, 0)).1) := by
  obtain ⟨_, _, hp⟩ := h
  refine ⟨(hp i hi).1, (hp i hi).2.1, fun h2 => ?_⟩
  have := (hp (i + 1) h2).2.2.1 (by omega)
  rwa [Nat.add_sub_cancel] at this

set_option maxHeartbeats 8000000 in
set_option maxRecDepth 100000 in
theorem run11_up (v q c z : Int) (n k : Nat) (A : Option Addr) (M0 : List It) (hmay : mayC v q c 0 = true) (v25 : v ≤ 25) (hn : n ≤ 200) (hz : z ≤ 10200) (hP : mdQ M0 z) (w : World) (hS : Sl w A n M0) :
    Calls Try.prog 22 #[.agg #[.int .i64 v, .int .i64 q, .int .i64 c, .int .i64 0, .slice none 0 0], .slice A n k, .int .i64 v, .int .i64 q, .int .i64 c] w fun e w' => ∃ (now : Int) (X M : List It) (A' B : Option Addr) (k' kb : Nat), e = .returned (.tuple #[.agg #[.int .i64 v, .int .i64 q, .int .i64 c, .int .i64 now, .slice A' X.length k'], .slice B M.length kb, .bool true]) ∧ Hs v q c now X M ∧ now ≤ z ∧ M.length ≤ n ∧ X.length ≤ k' ∧ Ab (w.heap.size + 1) A' ∧ Ab (w.heap.size + 1) B ∧ Sl w' A' X.length X ∧ Sl w' B M.length M ∧ Up w w' := by
  obtain ⟨_, mv, mc, _⟩ := mayC_facts hmay
  have mq := (mayC_true hmay).2
  have HS := Lib.hid hS
  have HL := Lib.hid hS.1
  have HP := Lib.hid hP
  have HM := Lib.hid hmay
  have hz0 := hP.1
  clear hS hP hmay
  go_enter Try.func22, Try.ntmps22
  go_wp2_with fail
  go_loopw [13, 21] (fun s t wr => ∃ i : Nat, t = .int .i64 i ∧ i ≤ n ∧ Hid (RnC w wr v q c n M0 z i s)) (fun _ t _ => n - (intOf t).toNat)
  case atStart =>
    refine ⟨0, rfl, Nat.zero_le _, Lib.hid ⟨0, [], [], none, none, 0, 0, rfl, Own.nil _ _, Ab.none_ _, Sl.none_, Ab.none_ _, Nat.le_refl _, Hs.start HM.out, Nat.le_refl _, fun h => ?_, hz0, ⟨by simp [go_sem], by simp [go_sem], by simp [go_sem], by simp [go_sem], by simp [go_sem]⟩, ⟨by simp [go_sem], by simp [go_sem], by simp [go_sem], by simp [go_sem], by simp [go_sem]⟩, ((Up.refl w).alloc _ _).alloc _ _⟩⟩
    exact (mdQ_step HP.out (by rw [HL.out]; exact h)).1
  case round =>
    obtain ⟨i, rfl, hin, HQ⟩ := hrel
    obtain ⟨now, X, M, A1, B, k1, kb, rfl, hOB, hAB, hSA, hAA, hk1, hHs, hMi, hnow, hnz, ⟨e0, e1, e2, e3, e4⟩, ⟨r0, r1, r2, r3, r4⟩, hUp⟩ := HQ.out
    have hpr : w.heap.size + 1 < wr.heap.size := World.block_lt_of_cell? _ _ r0
    have hpr0 : w.heap.size < wr.heap.size := Nat.lt_of_succ_lt hpr
    have HU := Lib.hid hUp
    have HOB := Lib.hid hOB
    have HAB := Lib.hid hAB
    have HSA := Lib.hid hSA
    have HAA := Lib.hid hAA
    have HH := Lib.hid hHs
    have HBL := Lib.hid hOB.lt
    by_cases hlt : i < n
    case neg =>
      have f0 := HU.out.ownGe (g := w.heap.size + 1) (by omega) 0
      have f1 := HU.out.ownGe (g := w.heap.size + 1) (by omega) 1
      have f2 := HU.out.ownGe (g := w.heap.size + 1) (by omega) 2
      have f3 := HU.out.ownGe (g := w.heap.size + 1) (by omega) 3
      have f4 := HU.out.ownGe (g := w.heap.size + 1) (by omega) 4
      clear hUp hOB hAB hSA hAA hHs HQ
      go_wp2_with fail
      refine bodyPost_ret (v := .tuple #[.agg #[.int .i64 v, .int .i64 q, .int .i64 c, .int .i64 now, .slice A1 X.length k1], .slice B M.length kb, .bool true]) (by simp [results, Try.results22, go_sem, r0, r1, r2, r3, r4]) rfl ⟨now, X, M, A1, B, k1, kb, rfl, HH.out, hnz, by omega, hk1, HAA.out, HAB.out, ?_, ?_, ?_⟩
      · exact HSA.out.off5 (HAA.out.off (Nat.le_refl _)) _ _ _ _ _
      · obtain ⟨A9, k9, e9, _, hS9⟩ := HOB.out.sl
        cases e9
        exact hS9.off5 (HAB.out.off (Nat.le_refl _)) _ _ _ _ _
      · exact HU.out.set5 (by omega)
    obtain ⟨b', o', rfl, d0, d1⟩ := (HS.out.up hUp).at_ hlt
    have hml : i < M0.length := by rw [HL.out]; exact hlt
    obtain ⟨q1, q2, q4⟩ := mdQ_step HP.out hml
    have hn1 := hnow hlt
    have HX : Hid (i + 1 < n → (M0.getD i (0, 0)).1 ≤ (M0.getD (i + 1) (0, 0)).1) := Lib.hid (fun h => q4 (by rw [HL.out]; exact h))
    generalize (M0.getD i (0, 0)).1 = p0 at *
    generalize (M0.getD i (0, 0)).2 = p1 at *
    have hfew : X.length ≤ 50000 := by have := stC_few hHs.st; omega
    have KD := Lib.hid (fun W (h : Sl W A1 X.length X) => adv11_good v q c now p0 X.length k1 A1 X hfew hk1 hHs.st hn1 (by omega) W h)
    have HH1 := Lib.hid (hHs.adv hn1 (show p0 ≤ 16777216 by omega))
    generalize exL X (firZ p0 v) = X1 at *
    have hf1 : X1.length ≤ 50000 := by have := stC_few HH1.out.st; omega
    have f2 : (i : Int) < n := by omega
    have f3 : (0 : Int) ≤ i := by omega
    have KL := Lib.hid (fun W (h : Sl W B M.length M) => mliveI_up M.length kb B M p0 v (by omega) q1 (by omega) mv.1 v25 W h)
    have HF := Lib.hid HH1.out.full
    have hlvc := lvN_le (M.map (fun x => x.1)) p0 v
    rw [List.length_map] at hlvc
    have HLN := Lib.hid (lvN_ml M p0 v)
    generalize lvN (M.map (fun x => x.1)) p0 v = lv at *
    generalize mlL M p0 v = ML at *
    clear hUp hOB hAB hSA hAA hHs HQ hn1 hnow q4 hml
    go_wp2_with (go_at_call 13; (with_reducible refine (KD.out _ (HSA.out.up ((Up.refl _).alloc _ _))).mono ?_); rintro e w3 ⟨A2, n2, k2, rfl, hn2, hk2, hnw, hS2, hu⟩; have hv := ((Up.refl wr).alloc #[.int .i64 p0, .int .i64 p1] 72).trans hu; have x0 := hv.keep _ _ _ e0; have x1 := hv.keep _ _ _ e1; have x2 := hv.keep _ _ _ e2; have x3 := hv.keep _ _ _ e3; have x4 := hv.keep _ _ _ e4; have s0 := hv.keep _ _ _ r0; have s1 := hv.keep _ _ _ r1; have s2 := hv.keep _ _ _ r2; have s3 := hv.keep _ _ _ r3; have s4 := hv.keep _ _ _ r4; have y0 := hu.keep wr.heap.size 0 (.int .i64 p0) (by simp [go_sem]); have y1 := hu.keep wr.heap.size 1 (.int .i64 p1) (by simp [go_sem]); have HU3 := Lib.hid (HU.out.trans hv); have HV3 := Lib.hid hv; have HA2 := Lib.hid (hnw.ab (p := wr.heap.size) (by simp)); have HS2 := Lib.hid hS2; have hs3 : wr.heap.size < w3.heap.size := World.block_lt_of_cell? _ _ y0; have z0 := HU3.out.ownGe (g := w.heap.size) (Nat.le_refl _) 0; have z1 := HU3.out.ownGe (g := w.heap.size) (Nat.le_refl _) 1; have z2 := HU3.out.ownGe (g := w.heap.size) (Nat.le_refl _) 2; have z3 := HU3.out.ownGe (g := w.heap.size) (Nat.le_refl _) 3; have z4 := HU3.out.ownGe (g := w.heap.size) (Nat.le_refl _) 4; clear hu hv hS2 hnw e0 e1 e2 e3 e4 r0 r1 r2 r3 r4)
    obtain ⟨w4, hw4⟩ : ∃ y, y = (((((w3.setCell ⟨w.heap.size, 0, none⟩ (.int .i64 v)).setCell ⟨w.heap.size, 1, none⟩ (.int .i64 q)).setCell ⟨w.heap.size, 2, none⟩ (.int .i64 c)).setCell ⟨w.heap.size, 3, none⟩ (.int .i64 p0)).setCell ⟨w.heap.size, 4, none⟩ (.slice A2 n2 k2)) := ⟨_, rfl⟩
    rw [← hw4]
    have HU4 : Hid (Up w w4) := Lib.hid (by rw [hw4]; exact HU3.out.set5 (Nat.le_refl _))
    obtain ⟨c0, c1_, c2, c3, c4⟩ : w4.cell? ⟨w.heap.size, 0, none⟩ = some (.int .i64 v) ∧ w4.cell? ⟨w.heap.size, 1, none⟩ = some (.int .i64 q) ∧ w4.cell? ⟨w.heap.size, 2, none⟩ = some (.int .i64 c) ∧ w4.cell? ⟨w.heap.size, 3, none⟩ = some (.int .i64 p0) ∧ w4.cell? ⟨w.heap.size, 4, none⟩ = some (.slice A2 n2 k2) := by rw [hw4]; exact cells5 x0 x1 x2 x3 x4
    have y0' : w4.cell? ⟨wr.heap.size, 0, none⟩ = some (.int .i64 p0) := by rw [hw4]; exact far5 y0 (by omega)
    have y1' : w4.cell? ⟨wr.heap.size, 1, none⟩ = some (.int .i64 p1) := by rw [hw4]; exact far5 y1 (by omega)
    have g0 : w4.cell? ⟨w.heap.size + 1, 0, none⟩ = some (.int .i64 0) := by rw [hw4]; exact far5 s0 (by omega)
    have g1 : w4.cell? ⟨w.heap.size + 1, 1, none⟩ = some (.int .i64 0) := by rw [hw4]; exact far5 s1 (by omega)
    have g2 : w4.cell? ⟨w.heap.size + 1, 2, none⟩ = some (.int .i64 0) := by rw [hw4]; exact far5 s2 (by omega)
    have g3 : w4.cell? ⟨w.heap.size + 1, 3, none⟩ = some (.int .i64 0) := by rw [hw4]; exact far5 s3 (by omega)
    have g4 : w4.cell? ⟨w.heap.size + 1, 4, none⟩ = some (.slice none 0 0) := by rw [hw4]; exact far5 s4 (by omega)
    have HS4 : Hid (Sl w4 A2 n2 X1) := Lib.hid (by rw [hw4]; exact HS2.out.off5 (HA2.out.off (by omega)) _ _ _ _ _)
    have HOB4 : Hid (Own w w4 (.slice B M.length kb) M.length M) := Lib.hid (by
      have h3 := HOB.out.of_up HV3.out
      refine ⟨h3.1, ?_⟩
      rcases h3.2 with h | ⟨g, cap, cur, h5, h6, h7, h8⟩
      · exact Or.inl h
      · have hg : g ≠ w.heap.size := by
          have := HAB.out g 0 (by injection h5)
          omega
        refine Or.inr ⟨g, cap, cur, h5, h6, ?_, h8⟩
        rw [hw4]
        exact ((((Blk.far (t := 72) h7 hg _).far hg _).far hg _).far hg _).far hg _)
    have hs4 : w4.heap.size = w3.heap.size := by rw [hw4]; simp [World.setCell]
    have en2 : n2 = X1.length := HS2.out.1.symm
    subst en2
    clear hw4 x0 x1 x2 x3 x4 s0 s1 s2 s3 s4 z0 z1 z2 z3 z4 y0 y1 HS2 HOB HV3
    have HSB : Hid (Sl w4 B M.length M) := Lib.hid (by obtain ⟨A9, k9, e9, _, hS9⟩ := HOB4.out.sl; cases e9; exact hS9)
    have hp4 : w.heap.size + 1 < w4.heap.size := World.block_lt_of_cell? _ _ g0
    have hq4 : wr.heap.size < w4.heap.size := World.block_lt_of_cell? _ _ y0'
    have k3 : IntKind.i64.wrap (q + 1) = q + 1 := IntWalk.i64_in _ (by omega)
    have hq64 := mq.2
    have hq1 := mq.1
    have hm1 : 0 ≤ (lv : Int) * (q + 1) := Int.mul_nonneg (by omega) (by omega)
    have hm2 : (lv : Int) * (q + 1) ≤ 200 * 65 := Int.mul_le_mul (by omega) (by omega) (by omega) (by omega)
    have hm3 : 0 ≤ c * q := Int.mul_nonneg (by omega) (by omega)
    have hm4 : c * q ≤ 65536 * 64 := Int.mul_le_mul mc.2 hq64 (by omega) (by omega)
    have k4 : wrap64 ((lv : Int) * (q + 1)) = (lv : Int) * (q + 1) := by unfold wrap64; omega
    have k5 : wrap64 (c * q) = c * q := by unfold wrap64; omega
    clear hm1 hm2 hm3 hm4
    by_cases hfull : totB X1 = c
    case pos =>
      have KD2 := Lib.hid (fun W (h : Sl W A2 X1.length X1) => add11_full v q c p0 X1.length k2 A2 X1 hf1 hk2 HH1.out.st hfull W h)
      have hle := HF.out.1 hfull
      have t9 : decide ((lv : Int) * (q + 1) < c * q) = false := decide_eq_false (by omega)
      clear hfull hle
      go_wp2_with (first
        | (go_at_call 15; (with_reducible refine (KD2.out _ HS4.out).mono ?_); rintro e w5 ⟨rfl, hu⟩; have HB5 := Lib.hid (HSB.out.up hu); have HU5 := Lib.hid (HU4.out.trans hu); have HV5 := Lib.hid hu; have m0 := hu.keep _ _ _ c0; have m1 := hu.keep _ _ _ c1_; have m2 := hu.keep _ _ _ c2; have m3 := hu.keep _ _ _ c3; have m4 := hu.keep _ _ _ c4; have h0 := hu.keep _ _ _ g0; have h1 := hu.keep _ _ _ g1; have h2 := hu.keep _ _ _ g2; have h3 := hu.keep _ _ _ g3; have h4 := hu.keep _ _ _ g4; have u0 := hu.keep _ _ _ y0'; have u1 := hu.keep _ _ _ y1'; have hp5 : w.heap.size + 1 < w5.heap.size := World.block_lt_of_cell? _ _ h0; have hq5 : wr.heap.size < w5.heap.size := World.block_lt_of_cell? _ _ u0; clear hu c0 c1_ c2 c3 c4 g0 g1 g2 g3 g4 y0' y1')
        | (go_at_call 26; (with_reducible refine (KL.out _ ((HB5.out).up ((Up.refl _).alloc _ _))).mono ?_); rintro e w6 ⟨B2, n6, k6, rfl, hn6, hO6, hu⟩; obtain rfl : n6 = lv := (by obtain ⟨A9, k9, e9, _, hS9⟩ := hO6.sl; cases e9; rw [← hS9.1]; exact HLN.out); have hv6 := ((Up.refl w5).alloc #[.int .i64 0, .int .i64 0, .int .i64 0, .int .i64 0, .slice none 0 0] 24).trans hu; have HU6 := Lib.hid (HU5.out.trans hv6); have HV6 := Lib.hid hv6; have t0 := hv6.keep _ _ _ m0; have t1 := hv6.keep _ _ _ m1; have t2 := hv6.keep _ _ _ m2; have t3 := hv6.keep _ _ _ m3; have t4 := hv6.keep _ _ _ m4; have l0 := hv6.keep _ _ _ h0; have l1 := hv6.keep _ _ _ h1; have l2 := hv6.keep _ _ _ h2; have l3 := hv6.keep _ _ _ h3; have l4 := hv6.keep _ _ _ h4; have a0 := hv6.keep _ _ _ u0; have a1 := hv6.keep _ _ _ u1; have b0 := hu.keep w5.heap.size 0 (.int .i64 0) (by simp [go_sem]); have b1 := hu.keep w5.heap.size 1 (.int .i64 0) (by simp [go_sem]); have b2 := hu.keep w5.heap.size 2 (.int .i64 0) (by simp [go_sem]); have b3 := hu.keep w5.heap.size 3 (.int .i64 0) (by simp [go_sem]); have b4 := hu.keep w5.heap.size 4 (.slice none 0 0) (by simp [go_sem]); have hs6 : w5.heap.size < w6.heap.size := World.block_lt_of_cell? _ _ b0; clear hu hv6 hO6 m0 m1 m2 m3 m4 h0 h1 h2 h3 h4 u0 u1))
      go_roundw
      case rel =>
        have hv := HV5.out.trans HV6.out
        exact ⟨i + 1, by go_num, by omega, Lib.hid ⟨p0, X1, M, A2, B, k2, kb, rfl, HOB4.out.of_up hv, HAB.out, HS4.out.up hv, fun b o e => by have := HA2.out b o e; omega, hk2, HH1.out, by omega, HX.out, q2, ⟨t0, t1, t2, t3, t4⟩, ⟨l0, l1, l2, l3, l4⟩, HU6.out⟩⟩
      case measure => simp [intOf]; omega
    case neg =>
      have KD2 := Lib.hid (fun W (h : Sl W A2 X1.length X1) => add11_good v q c p0 X1.length k2 A2 X1 hf1 hk2 HH1.out.st hfull W h)
      have hle := HF.out.2 hfull
      have HH2 := Lib.hid (HH1.out.add (y := p1) hfull)
      have t9 : decide (c ≤ (lv : Int)) = false := decide_eq_false (by omega)
      generalize puB q p0 X1 = X2 at *
      clear hfull
      go_wp2_with (first
        | (go_at_call 15; (with_reducible refine (KD2.out _ HS4.out).mono ?_); rintro e w5 ⟨A5, n5, k5_, rfl, hn5, hk5, hnw5, hS5, hu⟩; have HS5 := Lib.hid hS5; have HA5 := Lib.hid hnw5; have HB5 := Lib.hid (HSB.out.up hu); have HU5 := Lib.hid (HU4.out.trans hu); have HV5 := Lib.hid hu; have m0 := hu.keep _ _ _ c0; have m1 := hu.keep _ _ _ c1_; have m2 := hu.keep _ _ _ c2; have m3 := hu.keep _ _ _ c3; have m4 := hu.keep _ _ _ c4; have h0 := hu.keep _ _ _ g0; have h1 := hu.keep _ _ _ g1; have h2 := hu.keep _ _ _ g2; have h3 := hu.keep _ _ _ g3; have h4 := hu.keep _ _ _ g4; have u0 := hu.keep _ _ _ y0'; have u1 := hu.keep _ _ _ y1'; have hp5 : w.heap.size + 1 < w5.heap.size := World.block_lt_of_cell? _ _ h0; have hq5 : wr.heap.size < w5.heap.size := World.block_lt_of_cell? _ _ u0; clear hu hS5 hnw5 c0 c1_ c2 c3 c4 g0 g1 g2 g3 g4 y0' y1')
        | (go_at_call 26; (with_reducible refine (KL.out _ ((HB5.out).up ((Up.refl _).alloc _ _))).mono ?_); rintro e w6 ⟨B2, n6, k6, rfl, hn6, hO6, hu⟩; obtain rfl : n6 = lv := (by obtain ⟨A9, k9, e9, _, hS9⟩ := hO6.sl; cases e9; rw [← hS9.1]; exact HLN.out); have hv6 := ((Up.refl w5).alloc #[.int .i64 v, .int .i64 q, .int .i64 c, .int .i64 p0, .slice A5 n5 k5_] 24).trans hu; have HU6 := Lib.hid (HU5.out.trans hv6); have HV6 := Lib.hid hv6; have t0 := hv6.keep _ _ _ m0; have t1 := hv6.keep _ _ _ m1; have t2 := hv6.keep _ _ _ m2; have t3 := hv6.keep _ _ _ m3; have t4 := hv6.keep _ _ _ m4; have l0 := hv6.keep _ _ _ h0; have l1 := hv6.keep _ _ _ h1; have l2 := hv6.keep _ _ _ h2; have l3 := hv6.keep _ _ _ h3; have l4 := hv6.keep _ _ _ h4; have a0 := hv6.keep _ _ _ u0; have a1 := hv6.keep _ _ _ u1; have b0 := hu.keep w5.heap.size 0 (.int .i64 v) (by simp [go_sem]); have b1 := hu.keep w5.heap.size 1 (.int .i64 q) (by simp [go_sem]); have b2 := hu.keep w5.heap.size 2 (.int .i64 c) (by simp [go_sem]); have b3 := hu.keep w5.heap.size 3 (.int .i64 p0) (by simp [go_sem]); have b4 := hu.keep w5.heap.size 4 (.slice A5 n5 k5_) (by simp [go_sem]); have hs6 : w5.heap.size < w6.heap.size := World.block_lt_of_cell? _ _ b0; clear hu hv6 hO6 m0 m1 m2 m3 m4 h0 h1 h2 h3 h4 u0 u1))
      have en5 : n5 = X2.length := HS5.out.1.symm
      subst en5
      have HO6 := Lib.hid (HOB4.out.of_up (HV5.out.trans HV6.out))
      have hq6 : wr.heap.size < w6.heap.size := by omega
      have hp6 : w.heap.size + 1 < w6.heap.size := by omega
      obtain ⟨g7, k7, w7, hr7, hO7, hU7, hg7, hst⟩ := appendI w ((w6.alloc (.cells #[.int .i64 p0, .int .i64 p1] 72)).drew) B M.length kb M p0 p1 (HO6.out.of_up ((Up.refl _).alloc _ _).drew) ((HU6.out.alloc _ _).drew) w6.heap.size (by simp [go_sem]) (by simp [go_sem]) (by omega)
      have HK7 : Hid (∀ x o u, x ≠ g7 → w6.cell? ⟨x, o, none⟩ = some u → w7.cell? ⟨x, o, none⟩ = some u) := Lib.hid (fun x o u hx hc => hst x o u hx (((Up.refl w6).alloc _ _).drew.keep _ _ _ hc))
      have HG7 : Hid ((g7 < wr.heap.size ∧ w.heap.size + 1 < g7) ∨ w6.heap.size < g7) := Lib.hid (by
        rcases hg7 with h | ⟨o, h⟩
        · right; have : w6.heap.size + 1 ≤ g7 := by simpa using h
          omega
        · exact Or.inl ⟨HBL.out g7 o h, HAB.out g7 o h⟩)
      have hw45 := HV5.out.size
      have hG := HG7.out
      have e5 : w5.heap.size ≠ g7 := by omega
      have er : wr.heap.size ≠ g7 := by omega
      have ep : w.heap.size ≠ g7 := by omega
      have ep1 : w.heap.size + 1 ≠ g7 := by omega
      have SS : Hid (Up w w6 ∧ w6.cell? ⟨w5.heap.size, 0, none⟩ = some (.int .i64 v) ∧ w6.cell? ⟨w5.heap.size, 1, none⟩ = some (.int .i64 q) ∧ w6.cell? ⟨w5.heap.size, 2, none⟩ = some (.int .i64 c) ∧ w6.cell? ⟨w5.heap.size, 3, none⟩ = some (.int .i64 p0) ∧ w6.cell? ⟨w5.heap.size, 4, none⟩ = some (.slice A5 X2.length k5_) ∧ w6.cell? ⟨wr.heap.size, 0, none⟩ = some (.int .i64 p0) ∧ w6.cell? ⟨wr.heap.size, 1, none⟩ = some (.int .i64 p1)) := Lib.hid ⟨HU6.out, b0, b1, b2, b3, b4, a0, a1⟩
      have T1 : Hid (Up w w7 ∧ w7.cell? ⟨w5.heap.size, 0, none⟩ = some (.int .i64 v) ∧ w7.cell? ⟨w5.heap.size, 1, none⟩ = some (.int .i64 q) ∧ w7.cell? ⟨w5.heap.size, 2, none⟩ = some (.int .i64 c) ∧ w7.cell? ⟨w5.heap.size, 3, none⟩ = some (.int .i64 p0) ∧ w7.cell? ⟨w5.heap.size, 4, none⟩ = some (.slice A5 X2.length k5_) ∧ w7.cell? ⟨wr.heap.size, 0, none⟩ = some (.int .i64 p0) ∧ w7.cell? ⟨wr.heap.size, 1, none⟩ = some (.int .i64 p1)) := Lib.hid ⟨hU7, hst _ _ _ e5 (((Up.refl w6).alloc _ _).drew.keep _ _ _ b0), hst _ _ _ e5 (((Up.refl w6).alloc _ _).drew.keep _ _ _ b1), hst _ _ _ e5 (((Up.refl w6).alloc _ _).drew.keep _ _ _ b2), hst _ _ _ e5 (((Up.refl w6).alloc _ _).drew.keep _ _ _ b3), hst _ _ _ e5 (((Up.refl w6).alloc _ _).drew.keep _ _ _ b4), hst _ _ _ er (((Up.refl w6).alloc _ _).drew.keep _ _ _ a0), hst _ _ _ er (((Up.refl w6).alloc _ _).drew.keep _ _ _ a1)⟩
      have v0_ := HK7.out _ _ _ ep t0
      have v1_ := HK7.out _ _ _ ep t1
      have v2_ := HK7.out _ _ _ ep t2
      have v3_ := HK7.out _ _ _ ep t3
      have v4_ := HK7.out _ _ _ ep t4
      have j0 := HK7.out _ _ _ ep1 l0
      have j1 := HK7.out _ _ _ ep1 l1
      have j2 := HK7.out _ _ _ ep1 l2
      have j3 := HK7.out _ _ _ ep1 l3
      have j4 := HK7.out _ _ _ ep1 l4
      have fz0 := hU7.ownGe (g := w.heap.size) (Nat.le_refl _) 0
      have fz1 := hU7.ownGe (g := w.heap.size) (Nat.le_refl _) 1
      have fz2 := hU7.ownGe (g := w.heap.size) (Nat.le_refl _) 2
      have fz3 := hU7.ownGe (g := w.heap.size) (Nat.le_refl _) 3
      have fz4 := hU7.ownGe (g := w.heap.size) (Nat.le_refl _) 4
      have HU7 := Lib.hid hU7
      have HO7 := Lib.hid hO7
      have H7 := Lib.hid hr7
      have n5_ : w.heap.size ≠ w5.heap.size := by omega
      have nr_ : w.heap.size ≠ wr.heap.size := by omega
      clear hst hr7 hO7 hU7 hg7 hG
      go_region_held3 (fun w' => Up w w' ∧ w'.cell? ⟨w5.heap.size, 0, none⟩ = some (.int .i64 v) ∧ w'.cell? ⟨w5.heap.size, 1, none⟩ = some (.int .i64 q) ∧ w'.cell? ⟨w5.heap.size, 2, none⟩ = some (.int .i64 c) ∧ w'.cell? ⟨w5.heap.size, 3, none⟩ = some (.int .i64 p0) ∧ w'.cell? ⟨w5.heap.size, 4, none⟩ = some (.slice A5 X2.length k5_) ∧ w'.cell? ⟨wr.heap.size, 0, none⟩ = some (.int .i64 p0) ∧ w'.cell? ⟨wr.heap.size, 1, none⟩ = some (.int .i64 p1))
        (repeat (first | (with_reducible refine setQ7 ?_ (Nat.le_refl _) n5_ n5_ n5_ n5_ n5_ nr_ nr_) | (with_reducible exact SS.out) | (with_reducible exact T1.out) | (with_reducible refine keepQ7 (Lib.hid ((Up.refl _).alloc _ _)) ?_) | (with_reducible refine keepQ7 (Lib.hid (Up.refl _).drew) ?_)))
        (first
          | ((with_reducible refine step_append_run rfl (.tmp 79) (.tmp 81) _ rfl _ _ ?_ ?_ _ _ H7.out ?_); rfl; rfl))
      (try clear ‹Up w _ ∧ _›)
      obtain ⟨w8, hw8⟩ : ∃ y, y = (((((w7.setCell ⟨w.heap.size, 0, none⟩ (.int .i64 v)).setCell ⟨w.heap.size, 1, none⟩ (.int .i64 q)).setCell ⟨w.heap.size, 2, none⟩ (.int .i64 c)).setCell ⟨w.heap.size, 3, none⟩ (.int .i64 p0)).setCell ⟨w.heap.size, 4, none⟩ (.slice A5 X2.length k5_)) := ⟨_, rfl⟩
      rw [← hw8]
      have hq : ∀ b o, A5 = some ⟨b, o, none⟩ → b < w6.heap.size → b ≠ g7 := fun b o e hb => by
        have h1 := HA5.out b o e
        have h2 := HG7.out
        omega
      have hS8 : Sl w8 A5 X2.length X2 := by
        rw [hw8]
        exact ((HS5.out.up HV6.out).stays HK7.out hq).off5 (HA5.out.off (by omega)) _ _ _ _ _
      have hO8 : Own w w8 (.slice (some ⟨g7, 0, none⟩) (M.length + 1) k7) (M.length + 1) (M ++ [(p0, p1)]) := by
        have h3 := HO7.out
        refine ⟨h3.1, ?_⟩
        rcases h3.2 with ⟨h, _⟩ | ⟨g, cap, cur, h5, h6, h7, h8⟩
        · cases h
        · have hg : g ≠ w.heap.size := by
            injection h5 with h5a
            injection h5a with h5b
            injection h5b with h5c
            omega
          refine Or.inr ⟨g, cap, cur, h5, h6, ?_, h8⟩
          rw [hw8]
          exact ((((Blk.far (t := 72) h7 hg _).far hg _).far hg _).far hg _).far hg _
      have hc8 : w8.cell? ⟨w.heap.size, 0, none⟩ = some (.int .i64 v) ∧ w8.cell? ⟨w.heap.size, 1, none⟩ = some (.int .i64 q) ∧ w8.cell? ⟨w.heap.size, 2, none⟩ = some (.int .i64 c) ∧ w8.cell? ⟨w.heap.size, 3, none⟩ = some (.int .i64 p0) ∧ w8.cell? ⟨w.heap.size, 4, none⟩ = some (.slice A5 X2.length k5_) := by rw [hw8]; exact cells5 v0_ v1_ v2_ v3_ v4_
      have hl8 : w8.cell? ⟨w.heap.size + 1, 0, none⟩ = some (.int .i64 0) ∧ w8.cell? ⟨w.heap.size + 1, 1, none⟩ = some (.int .i64 0) ∧ w8.cell? ⟨w.heap.size + 1, 2, none⟩ = some (.int .i64 0) ∧ w8.cell? ⟨w.heap.size + 1, 3, none⟩ = some (.int .i64 0) ∧ w8.cell? ⟨w.heap.size + 1, 4, none⟩ = some (.slice none 0 0) := by rw [hw8]; exact ⟨far5 j0 (by omega), far5 j1 (by omega), far5 j2 (by omega), far5 j3 (by omega), far5 j4 (by omega)⟩
      have hU8 : Up w w8 := by rw [hw8]; exact HU7.out.set5 (Nat.le_refl _)
      clear hw8
      have HR8 : Hid (RnC w w8 v q c n M0 z (i + 1) (.slice (some ⟨g7, 0, none⟩) (M.length + 1) k7)) := Lib.hid (by
        have hlen : (M ++ [(p0, p1)]).length = M.length + 1 := by rw [List.length_append]; rfl
        refine ⟨p0, X2, M ++ [(p0, p1)], A5, some ⟨g7, 0, none⟩, k5_, k7, by rw [hlen], by rw [hlen]; exact hO8, ?_, hS8, HA5.out.ab (by omega), hk5, HH2.out, by rw [hlen]; omega, HX.out, q2, hc8, hl8, hU8⟩
        intro b o e
        injection e with e
        injection e with e1 e2
        have := HG7.out
        omega)
      clear hS8 hO8 hc8 hl8 hU8
      go_wp2_with fail
      go_roundw
      case rel => exact ⟨i + 1, by go_num, by omega, HR8⟩
      case measure => simp [intOf]; omega
end Go.Proofs.Ytjbgogajnjefmaa
