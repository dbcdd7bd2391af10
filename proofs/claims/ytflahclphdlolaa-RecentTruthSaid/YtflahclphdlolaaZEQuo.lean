/- What quotient of package exact returns. -/
import Derived.Test.YtflahclphdlolaaZETimes
import Derived.Test.YtflahclphdlolaaZEWords
import Derived.Test.YtflahclphdlolaaZG0a
import Derived.Test.YtflahclphdlolaaZG2a
import Derived.Test.YtflahclphdlolaaZG4a
import Derived.Test.YtflahclphdlolaaZRQuo
import Derived.Test.YtflahclphdlolaaZWCmp
import Derived.Test.YtflahclphdlolaaZWGcd
namespace Go.Proofs.Ytflahclphdlolaa
open Go.RowKit

/-- What the walk of quotient holds: the result's cells, and the number t in block a. -/
structure Qo (w wr : World) (a : Nat) (t : Int) : Prop where
  up : Up w wr
  r0 : wr.cell? ⟨w.heap.size + 1, 0, none⟩ = some (.int .i64 0)
  r1 : wr.cell? ⟨w.heap.size + 1, 1, none⟩ = some (.int .i64 0)
  t0 : wr.cell? ⟨a, 0, none⟩ = some (.int .u64 (hiZ t))
  t1 : wr.cell? ⟨a, 1, none⟩ = some (.int .u64 (loZ t))
theorem Qo.keep {w w1 w2 : World} {a : Nat} {t : Int} (h : Qo w w1 a t) (hu : Up w1 w2) : Qo w w2 a t :=
  ⟨h.up.trans hu, hu.keep _ _ _ h.r0, hu.keep _ _ _ h.r1, hu.keep _ _ _ h.t0, hu.keep _ _ _ h.t1⟩
theorem Qo.far {w w1 : World} {a b q : Nat} {t : Int} {v : Value} (h : Qo w w1 a t) (hb : w.heap.size + 1 < b) (ha : b ≠ a) : Qo w (w1.setCell ⟨b, q, none⟩ v) a t :=
  ⟨h.up.setCell (by show w.heap.size ≤ b; omega) _, (cell_far (by show b ≠ _; omega)).trans h.r0, (cell_far (by show b ≠ _; omega)).trans h.r1, (cell_far ha).trans h.t0, (cell_far ha).trans h.t1⟩
theorem qkeep {w w1 w2 : World} {a : Nat} {t : Int} (hu : Hid (Up w1 w2)) (h : Qo w w1 a t ∧ w1.cell? ⟨a, 0, none⟩ = some (.int .u64 (hiZ t)) ∧ w1.cell? ⟨a, 1, none⟩ = some (.int .u64 (loZ t))) :
    Qo w w2 a t ∧ w2.cell? ⟨a, 0, none⟩ = some (.int .u64 (hiZ t)) ∧ w2.cell? ⟨a, 1, none⟩ = some (.int .u64 (loZ t)) := ⟨h.1.keep hu.out, (h.1.keep hu.out).t0, (h.1.keep hu.out).t1⟩
theorem qset {w w1 : World} {a b q : Nat} {t : Int} {v : Value} (h : Qo w w1 a t ∧ w1.cell? ⟨a, 0, none⟩ = some (.int .u64 (hiZ t)) ∧ w1.cell? ⟨a, 1, none⟩ = some (.int .u64 (loZ t))) (hb : w.heap.size + 1 < b) (ha : b ≠ a) :
    Qo w (w1.setCell ⟨b, q, none⟩ v) a t ∧ (w1.setCell ⟨b, q, none⟩ v).cell? ⟨a, 0, none⟩ = some (.int .u64 (hiZ t)) ∧ (w1.setCell ⟨b, q, none⟩ v).cell? ⟨a, 1, none⟩ = some (.int .u64 (loZ t)) :=
  ⟨h.1.far hb ha, (h.1.far hb ha).t0, (h.1.far hb ha).t1⟩

theorem quo_form {D n : Int} (hD : 0 ≤ D) (hn : 1 ≤ n) (hn' : n ≤ 1000000) :
    1 ≤ gcdZ D n ∧ gcdZ D n ≤ n ∧ quoB D n = fits (D / gcdZ D n) ∧ quoN D n = fit (D / gcdZ D n) ∧ quoD D n = if fits (D / gcdZ D n) = true then n / gcdZ D n else 0 := by
  have e1 : D.toNat = D.natAbs := by omega
  have e2 : n.toNat = n.natAbs := by omega
  have eg : quoG D n = gcdZ D n := by unfold quoG gcdZ; rw [e1, e2]
  have hg1 : 1 ≤ gcdZ D n := by
    unfold gcdZ
    have : 0 < Nat.gcd D.toNat n.toNat := Nat.gcd_pos_of_pos_right _ (by omega)
    omega
  have hg2 : gcdZ D n ≤ n := by
    unfold gcdZ
    have := Nat.gcd_le_right D.toNat (show 0 < n.toNat by omega)
    omega
  have ep : quoP D n = D / gcdZ D n := by unfold quoP; rw [if_neg (by omega), eg]
  have eq : quoQ D n = n / gcdZ D n := by unfold quoQ; rw [eg, show (n.natAbs : Int) = n by omega]
  have hq : 0 ≤ n / gcdZ D n ∧ n / gcdZ D n ≤ n := ⟨Int.ediv_nonneg (by omega) (by omega), Int.ediv_le_self _ (by omega)⟩
  have eb : quoB D n = fits (D / gcdZ D n) := by
    unfold quoB
    rw [ep, eq, decide_eq_true (show n ≠ 0 by omega), show fits (n / gcdZ D n) = true from decide_eq_true ⟨by omega, by omega⟩, Bool.and_true, Bool.true_and]
  refine ⟨hg1, hg2, eb, ?_, ?_⟩
  · unfold quoN fit; rw [eb, ep]
  · unfold quoD; rw [eb, eq]
theorem div_small {D g : Int} (hD : 0 ≤ D) (hg : 1 ≤ g) : 0 ≤ D / g ∧ D / g ≤ D := ⟨Int.ediv_nonneg hD (by omega), Int.ediv_le_self _ hD⟩
theorem div_great {D g : Int} (hD : 340282366920938463463374607431768211456 ≤ D) (hg : 1 ≤ g) (hg' : g ≤ 1000000) : fits (D / g) = false := by
  have h1 : (9223372036854775808 : Int) ≤ D / g := by
    rw [Int.le_ediv_iff_mul_le (by omega)]
    have := Int.mul_le_mul_of_nonneg_left hg' (show (0 : Int) ≤ 9223372036854775808 by decide)
    omega
  unfold fits
  exact decide_eq_false (fun h => by omega)

set_option maxHeartbeats 8000000 in
set_option maxRecDepth 100000 in
theorem equot_v (D n : Int) (hD : 0 ≤ D) (hD' : D < 6277101735386680763835789423207666416102355444464034512896) (hn : 1 ≤ n) (hn' : n ≤ 1000000) (w : World) :
    Calls Try.prog 48 #[w3 D, .int .u64 n] w fun e w' => e = gotR (quoN D n) (quoD D n) (quoB D n) ∧ Up w w' := by
  obtain ⟨g1, g2, eb, en, ed⟩ := quo_form hD hn hn'
  have KW := Lib.hid (fun W => toWide_v D hD hD' W)
  unfold w3 at KW
  unfold w3
  by_cases h2 : In2 D
  case neg =>
    have hf : fits (D / gcdZ D n) = false := div_great (by unfold In2 at h2; omega) g1 (by omega)
    rw [eb, en, ed, hf, show fit (D / gcdZ D n) = 0 by unfold fit; rw [hf]; rfl, if_neg (by decide)]
    rw [show fits2 D = false from decide_eq_false h2, show fit2 D = 0 by unfold fit2; rw [show fits2 D = false from decide_eq_false h2]; rfl] at KW
    unfold got2 at KW
    clear eb en ed hf h2 g1 g2
    generalize dg3 D 0 = d0 at *
    generalize dg3 D 1 = d1 at *
    generalize dg3 D 2 = d2 at *
    go_enter Try.func48, Try.ntmps48
    go_wp2_with fail
    refine (KW.out _).mono ?_
    rintro e w1 ⟨rfl, hu1⟩
    have r0 := hu1.keep (w.heap.size + 1) 0 (.int .i64 0) (by simp [go_sem])
    have r1 := hu1.keep (w.heap.size + 1) 1 (.int .i64 0) (by simp [go_sem])
    have lw : w.heap.size + 1 < w1.heap.size := World.block_lt_of_cell? _ _ r0
    have HU : Hid (Up w w1) := Lib.hid (by repeat (first | exact Up.refl _ | (refine Up.trans ?_ (hu1); skip) | refine Up.alloc ?_ _ _ | refine Up.setCell ?_ (by first | (simp; done) | (simp; omega) | omega) _ | refine Up.drewN ?_ _ | refine Up.drew ?_))
    have z0 := HU.out.ownGe (show w.heap.size ≤ w.heap.size + 1 by omega) 0
    have z1 := HU.out.ownGe (show w.heap.size ≤ w.heap.size + 1 by omega) 1
    clear hu1
    go_wp2_with fail
    refine bodyPost_ret (v := .tuple #[.agg #[.int .i64 0, .int .i64 0], .bool false]) (by simp [results, Try.results48, go_sem, r0, r1, lw]) rfl ⟨?_, ?_⟩
    · rfl
    · ((repeat (first | (with_reducible exact Up.refl _) | (with_reducible exact HU.out) | (with_reducible refine Up.alloc ?_ _ _) | (with_reducible refine Up.setCell ?_ ?_ _) | (with_reducible refine Up.drewN ?_ _) | (with_reducible refine Up.drew ?_))); all_goals (first | (simp; done) | (simp; omega) | omega))
  case pos =>
  rw [fit2_yes h2, fits2_yes h2] at KW
  unfold got2 at KW
  have hg : In2 (gcdZ D n) := ⟨by omega, by omega⟩
  have hwn : Word n := ⟨by omega, by omega⟩
  have KG := Lib.hid (fun W => gcd_up (hiZ D) (loZ D) 0 n (hiZ_word h2) (loZ_word D) ⟨by decide, by decide⟩ hwn W)
  rw [val_hilo, show val 0 n = n by unfold val; omega] at KG
  have KD := Lib.hid (fun W => div_v D (gcdZ D n) h2 hg (by omega) W)
  obtain ⟨q0, q1⟩ := div_small hD g1
  have hq : In2 (D / gcdZ D n) := ⟨q0, by unfold In2 at h2; omega⟩
  have KT := Lib.hid (fun W => etoInt_v (D / gcdZ D n) false hq W)
  rw [show sgZ false (D / gcdZ D n) = D / gcdZ D n from rfl] at KT
  unfold got at KT
  have KO := Lib.hid (fun W => of_up n W)
  have hlo : loZ (gcdZ D n) = gcdZ D n := by unfold loZ; omega
  have HLO := Lib.hid hlo
  clear hlo
  have hng : 0 ≤ n / gcdZ D n ∧ n / gcdZ D n ≤ n := ⟨Int.ediv_nonneg (by omega) (by omega), Int.ediv_le_self _ (by omega)⟩
  rw [eb, en, ed]
  clear eb en ed
  generalize gcdZ D n = gg at *
  generalize D / gg = t at *
  generalize D % gg = rem at KD
  clear hq hg h2 hwn q0 q1 hD hD'
  generalize dg3 D 0 = d0 at *
  generalize dg3 D 1 = d1 at *
  generalize dg3 D 2 = d2 at *
  have z0g : ¬ gg = 0 := by omega
  have tdg : n.tdiv gg = n / gg := Int.tdiv_eq_ediv_of_nonneg (by omega)
  generalize n / gg = ng at *
  have wng : IntKind.u64.wrap ng = ng := by rw [IntKind.wrap_u64]; omega
  have wni : IntKind.i64.wrap ng = ng := IntWalk.i64_in _ (by omega)
  cases hf : fits t with
  | false =>
    rw [if_neg (by decide)]
    rw [hf, show fit t = 0 by unfold fit; rw [hf]; rfl] at KT
    rw [show fit t = 0 by unfold fit; rw [hf]; rfl]
    clear hf
    go_enter Try.func48, Try.ntmps48
    go_wp2_with fail
    refine (KW.out _).mono ?_
    rintro e w1 ⟨rfl, hu1⟩
    have r0 := hu1.keep (w.heap.size + 1) 0 (.int .i64 0) (by simp [go_sem])
    have r1 := hu1.keep (w.heap.size + 1) 1 (.int .i64 0) (by simp [go_sem])
    have lw : w.heap.size + 1 < w1.heap.size := World.block_lt_of_cell? _ _ r0
    have HU1 : Hid (Up w w1) := Lib.hid (by repeat (first | exact Up.refl _ | (refine Up.trans ?_ (hu1); skip) | refine Up.alloc ?_ _ _ | refine Up.setCell ?_ (by first | (simp; done) | (simp; omega) | omega) _ | refine Up.drewN ?_ _ | refine Up.drew ?_))
    have HQ1 : Hid (Qo w (w1.alloc (.cells #[.int .u64 (hiZ D), .int .u64 (loZ D)] 54)) w1.heap.size D) := Lib.hid
      ⟨HU1.out.alloc _ _, ((Up.refl w1).alloc _ _).keep _ _ _ r0, ((Up.refl w1).alloc _ _).keep _ _ _ r1, by simp [go_sem], by simp [go_sem]⟩
    clear hu1 r0 r1
    go_upto_region 4 with fail
    have la : w1.heap.size < (w1.alloc (.cells #[.int .u64 (hiZ D), .int .u64 (loZ D)] 54)).heap.size := by rw [size_alloc]; omega
    generalize w1.alloc (.cells #[.int .u64 (hiZ D), .int .u64 (loZ D)] 54) = wi at *
    generalize w1.heap.size = a at *
    have t0 := HQ1.out.t0
    have t1 := HQ1.out.t1
    clear HU1
    go_cut [8] (fun t8 wx => ∃ b : Nat, w.heap.size + 1 < b ∧ b ≠ a ∧ t8 = .pointer (some ⟨b, 0, none⟩) ∧ wx.cell? ⟨b, 0, none⟩ = some (.int .u64 (hiZ gg)) ∧ wx.cell? ⟨b, 1, none⟩ = some (.int .u64 (loZ gg)) ∧ Qo w wx a D)
    case first =>
      go_region_held3 (fun w' => Qo w w' a D ∧ w'.cell? ⟨a, 0, none⟩ = some (.int .u64 (hiZ D)) ∧ w'.cell? ⟨a, 1, none⟩ = some (.int .u64 (loZ D)))
        (first | (with_reducible exact qkeep (by assumption) (by assumption)) | (repeat (first | (with_reducible assumption) | (with_reducible exact Hid.out (by assumption)) | (with_reducible exact ⟨HQ1.out, t0, t1⟩) | (with_reducible refine qset ?_ (by omega) (by omega)) | (with_reducible refine qkeep (Lib.hid ((Up.refl _).alloc _ _)) ?_) | (with_reducible refine qkeep (Lib.hid (Up.refl _).drew) ?_))))
        (first
          | (go_at_call 51; (with_reducible refine (KO.out _).mono ?_); rintro e w5 ⟨rfl, hu5⟩; have HU5 := Lib.hid hu5; have HS5 := Lib.hid (qkeep HU5 (by assumption)); obtain ⟨hc5, hz5⟩ := hu5.cells; have hs5 := hu5.size; (try simp at hs5); clear hu5; (try unfold got2); (try (have p5_0 : wi.heap.size < w5.heap.size := by omega)); (try (have p5_1 : a < w5.heap.size := by omega)))
          | (go_at_call 74; (with_reducible refine (KG.out _).mono ?_); rintro e w6 ⟨rfl, hu6⟩; have HU6 := Lib.hid hu6; have HS6 := Lib.hid (qkeep HU6 (by assumption)); obtain ⟨hc6, hz6⟩ := hu6.cells; have hs6 := hu6.size; (try simp at hs6); clear hu6; (try unfold got2); (try (have p6_0 : wi.heap.size < w6.heap.size := by omega)); (try (have p6_1 : w5.heap.size < w6.heap.size := by omega)); (try (have p6_2 : a < w6.heap.size := by omega))))
      all_goals
        go_wp2_with fail
        go_meet
        refine ⟨_, ?_, ?_, rfl, ?_, ?_, And.left (by assumption)⟩
        · omega
        · omega
        all_goals (first | (simp [go_sem, *]; done))
    obtain ⟨b, lb, nb, rfl, e0, e1, hQ⟩ := hcut
    have t0 := hQ.t0
    have t1 := hQ.t1
    have z0 := hQ.up.ownGe (show w.heap.size ≤ a by omega) 0
    have z1 := hQ.up.ownGe (show w.heap.size ≤ a by omega) 1
    have HQ2 := Lib.hid hQ
    clear hQ
    go_wp2_with fail
    refine (KD.out _).mono ?_
    rintro e w2 ⟨rfl, hu2⟩
    have s0 := hu2.keep _ _ _ t0
    have s1 := hu2.keep _ _ _ t1
    have y0 := (hu2.cells.2 _).trans z0
    have y1 := (hu2.cells.2 _).trans z1
    have f0 := hu2.keep _ _ _ e0
    have f1 := hu2.keep _ _ _ e1
    rw [HLO.out] at f1
    have HQ3 := Lib.hid (HQ2.out.keep hu2)
    clear hu2 t0 t1 z0 z1 e0 e1
    go_wp2_with fail
    refine (KT.out _).mono ?_
    rintro e w3_ ⟨rfl, hu3⟩
    have lq : w.heap.size + 1 ≠ a := by omega
    have r0 := hu3.keep _ _ _ ((cell_far (p := ⟨a, 1, none⟩) (v := .int .u64 (loZ t)) (show a ≠ w.heap.size + 1 by omega)).trans ((cell_far (p := ⟨a, 0, none⟩) (v := .int .u64 (hiZ t)) (show a ≠ w.heap.size + 1 by omega)).trans HQ3.out.r0))
    have r1 := hu3.keep _ _ _ ((cell_far (p := ⟨a, 1, none⟩) (v := .int .u64 (loZ t)) (show a ≠ w.heap.size + 1 by omega)).trans ((cell_far (p := ⟨a, 0, none⟩) (v := .int .u64 (hiZ t)) (show a ≠ w.heap.size + 1 by omega)).trans HQ3.out.r1))
    have b1 := hu3.keep _ _ _ ((cell_far (p := ⟨a, 1, none⟩) (v := .int .u64 (loZ t)) (show a ≠ b by omega)).trans ((cell_far (p := ⟨a, 0, none⟩) (v := .int .u64 (hiZ t)) (show a ≠ b by omega)).trans f1))
    have HU4 : Hid (Up w w3_) := Lib.hid (((HQ3.out.up.setCell (a := ⟨a, 0, none⟩) (by show w.heap.size ≤ a; omega) _).setCell (a := ⟨a, 1, none⟩) (by show w.heap.size ≤ a; omega) _).trans hu3)
    have z0 := HU4.out.ownGe (show w.heap.size ≤ w.heap.size + 1 by omega) 0
    have z1 := HU4.out.ownGe (show w.heap.size ≤ w.heap.size + 1 by omega) 1
    clear hu3 s0 s1 y0 y1 f0 f1
    go_wp2_with fail
    refine bodyPost_ret (v := .tuple #[.agg #[.int .i64 0, .int .i64 0], .bool false]) (by simp [results, Try.results48, go_sem, r0, r1]) rfl ⟨?_, ?_⟩
    · rfl
    · ((repeat (first | (with_reducible exact Up.refl _) | (with_reducible exact HU4.out) | (with_reducible refine Up.alloc ?_ _ _) | (with_reducible refine Up.setCell ?_ ?_ _) | (with_reducible refine Up.drewN ?_ _) | (with_reducible refine Up.drew ?_))); all_goals (first | (simp; done) | (simp; omega) | omega))
  | true =>
    rw [if_pos rfl]
    rw [hf] at KT
    generalize fit t = ft at *
    clear hf
    go_enter Try.func48, Try.ntmps48
    go_wp2_with fail
    refine (KW.out _).mono ?_
    rintro e w1 ⟨rfl, hu1⟩
    have r0 := hu1.keep (w.heap.size + 1) 0 (.int .i64 0) (by simp [go_sem])
    have r1 := hu1.keep (w.heap.size + 1) 1 (.int .i64 0) (by simp [go_sem])
    have lw : w.heap.size + 1 < w1.heap.size := World.block_lt_of_cell? _ _ r0
    have HU1 : Hid (Up w w1) := Lib.hid (by repeat (first | exact Up.refl _ | (refine Up.trans ?_ (hu1); skip) | refine Up.alloc ?_ _ _ | refine Up.setCell ?_ (by first | (simp; done) | (simp; omega) | omega) _ | refine Up.drewN ?_ _ | refine Up.drew ?_))
    have HQ1 : Hid (Qo w (w1.alloc (.cells #[.int .u64 (hiZ D), .int .u64 (loZ D)] 54)) w1.heap.size D) := Lib.hid
      ⟨HU1.out.alloc _ _, ((Up.refl w1).alloc _ _).keep _ _ _ r0, ((Up.refl w1).alloc _ _).keep _ _ _ r1, by simp [go_sem], by simp [go_sem]⟩
    clear hu1 r0 r1
    go_upto_region 4 with fail
    have la : w1.heap.size < (w1.alloc (.cells #[.int .u64 (hiZ D), .int .u64 (loZ D)] 54)).heap.size := by rw [size_alloc]; omega
    generalize w1.alloc (.cells #[.int .u64 (hiZ D), .int .u64 (loZ D)] 54) = wi at *
    generalize w1.heap.size = a at *
    have t0 := HQ1.out.t0
    have t1 := HQ1.out.t1
    clear HU1
    go_cut [8] (fun t8 wx => ∃ b : Nat, w.heap.size + 1 < b ∧ b ≠ a ∧ t8 = .pointer (some ⟨b, 0, none⟩) ∧ wx.cell? ⟨b, 0, none⟩ = some (.int .u64 (hiZ gg)) ∧ wx.cell? ⟨b, 1, none⟩ = some (.int .u64 (loZ gg)) ∧ Qo w wx a D)
    case first =>
      go_region_held3 (fun w' => Qo w w' a D ∧ w'.cell? ⟨a, 0, none⟩ = some (.int .u64 (hiZ D)) ∧ w'.cell? ⟨a, 1, none⟩ = some (.int .u64 (loZ D)))
        (first | (with_reducible exact qkeep (by assumption) (by assumption)) | (repeat (first | (with_reducible assumption) | (with_reducible exact Hid.out (by assumption)) | (with_reducible exact ⟨HQ1.out, t0, t1⟩) | (with_reducible refine qset ?_ (by omega) (by omega)) | (with_reducible refine qkeep (Lib.hid ((Up.refl _).alloc _ _)) ?_) | (with_reducible refine qkeep (Lib.hid (Up.refl _).drew) ?_))))
        (first
          | (go_at_call 51; (with_reducible refine (KO.out _).mono ?_); rintro e w5 ⟨rfl, hu5⟩; have HU5 := Lib.hid hu5; have HS5 := Lib.hid (qkeep HU5 (by assumption)); obtain ⟨hc5, hz5⟩ := hu5.cells; have hs5 := hu5.size; (try simp at hs5); clear hu5; (try unfold got2); (try (have p5_0 : wi.heap.size < w5.heap.size := by omega)); (try (have p5_1 : a < w5.heap.size := by omega)))
          | (go_at_call 74; (with_reducible refine (KG.out _).mono ?_); rintro e w6 ⟨rfl, hu6⟩; have HU6 := Lib.hid hu6; have HS6 := Lib.hid (qkeep HU6 (by assumption)); obtain ⟨hc6, hz6⟩ := hu6.cells; have hs6 := hu6.size; (try simp at hs6); clear hu6; (try unfold got2); (try (have p6_0 : wi.heap.size < w6.heap.size := by omega)); (try (have p6_1 : w5.heap.size < w6.heap.size := by omega)); (try (have p6_2 : a < w6.heap.size := by omega))))
      all_goals
        go_wp2_with fail
        go_meet
        refine ⟨_, ?_, ?_, rfl, ?_, ?_, And.left (by assumption)⟩
        · omega
        · omega
        all_goals (first | (simp [go_sem, *]; done))
    obtain ⟨b, lb, nb, rfl, e0, e1, hQ⟩ := hcut
    have t0 := hQ.t0
    have t1 := hQ.t1
    have z0 := hQ.up.ownGe (show w.heap.size ≤ a by omega) 0
    have z1 := hQ.up.ownGe (show w.heap.size ≤ a by omega) 1
    have HQ2 := Lib.hid hQ
    clear hQ
    go_wp2_with fail
    refine (KD.out _).mono ?_
    rintro e w2 ⟨rfl, hu2⟩
    have s0 := hu2.keep _ _ _ t0
    have s1 := hu2.keep _ _ _ t1
    have y0 := (hu2.cells.2 _).trans z0
    have y1 := (hu2.cells.2 _).trans z1
    have f0 := hu2.keep _ _ _ e0
    have f1 := hu2.keep _ _ _ e1
    rw [HLO.out] at f1
    have HQ3 := Lib.hid (HQ2.out.keep hu2)
    clear hu2 t0 t1 z0 z1 e0 e1
    go_wp2_with fail
    refine (KT.out _).mono ?_
    rintro e w3_ ⟨rfl, hu3⟩
    have lq : w.heap.size + 1 ≠ a := by omega
    have r0 := hu3.keep _ _ _ ((cell_far (p := ⟨a, 1, none⟩) (v := .int .u64 (loZ t)) (show a ≠ w.heap.size + 1 by omega)).trans ((cell_far (p := ⟨a, 0, none⟩) (v := .int .u64 (hiZ t)) (show a ≠ w.heap.size + 1 by omega)).trans HQ3.out.r0))
    have r1 := hu3.keep _ _ _ ((cell_far (p := ⟨a, 1, none⟩) (v := .int .u64 (loZ t)) (show a ≠ w.heap.size + 1 by omega)).trans ((cell_far (p := ⟨a, 0, none⟩) (v := .int .u64 (hiZ t)) (show a ≠ w.heap.size + 1 by omega)).trans HQ3.out.r1))
    have b1 := hu3.keep _ _ _ ((cell_far (p := ⟨a, 1, none⟩) (v := .int .u64 (loZ t)) (show a ≠ b by omega)).trans ((cell_far (p := ⟨a, 0, none⟩) (v := .int .u64 (hiZ t)) (show a ≠ b by omega)).trans f1))
    have HU4 : Hid (Up w w3_) := Lib.hid (((HQ3.out.up.setCell (a := ⟨a, 0, none⟩) (by show w.heap.size ≤ a; omega) _).setCell (a := ⟨a, 1, none⟩) (by show w.heap.size ≤ a; omega) _).trans hu3)
    have z0 := HU4.out.ownGe (show w.heap.size ≤ w.heap.size + 1 by omega) 0
    have z1 := HU4.out.ownGe (show w.heap.size ≤ w.heap.size + 1 by omega) 1
    clear hu3 s0 s1 y0 y1 f0 f1
    go_wp2_with fail
    refine bodyPost_ret (v := .tuple #[.agg #[.int .i64 ft, .int .i64 ng], .bool true]) (by simp [results, Try.results48, go_sem, r0, r1]) rfl ⟨?_, ?_⟩
    · rfl
    · ((repeat (first | (with_reducible exact Up.refl _) | (with_reducible exact HU4.out) | (with_reducible refine Up.alloc ?_ _ _) | (with_reducible refine Up.setCell ?_ ?_ _) | (with_reducible refine Up.drewN ?_ _) | (with_reducible refine Up.drew ?_))); all_goals (first | (simp; done) | (simp; omega) | omega))
end Go.Proofs.Ytflahclphdlolaa
