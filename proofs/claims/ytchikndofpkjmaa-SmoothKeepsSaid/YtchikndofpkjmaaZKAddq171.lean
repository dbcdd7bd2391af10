/- Add of package smooth. -/
import Derived.Test.YtchikndofpkjmaaRows
import Derived.Test.YtchikndofpkjmaaZKFnq161
namespace Go.Proofs.Ytchikndofpkjmaa
open Go.RowKit
set_option linter.unusedVariables false

theorem keepK13 {w w1 w2 : World} {b0 o0 b1 o1 b2 o2 b3 o3 b4 o4 b5 o5 b6 o6 b7 o7 b8 o8 b9 o9 b10 o10 b11 o11 b12 o12 : Nat} {x0 x1 x2 x3 x4 x5 x6 x7 x8 x9 x10 x11 x12 : Value} (hu : Hid (Up w1 w2)) (h : Up w w1 ∧ w1.cell? ⟨b0, o0, none⟩ = some x0 ∧ w1.cell? ⟨b1, o1, none⟩ = some x1 ∧ w1.cell? ⟨b2, o2, none⟩ = some x2 ∧ w1.cell? ⟨b3, o3, none⟩ = some x3 ∧ w1.cell? ⟨b4, o4, none⟩ = some x4 ∧ w1.cell? ⟨b5, o5, none⟩ = some x5 ∧ w1.cell? ⟨b6, o6, none⟩ = some x6 ∧ w1.cell? ⟨b7, o7, none⟩ = some x7 ∧ w1.cell? ⟨b8, o8, none⟩ = some x8 ∧ w1.cell? ⟨b9, o9, none⟩ = some x9 ∧ w1.cell? ⟨b10, o10, none⟩ = some x10 ∧ w1.cell? ⟨b11, o11, none⟩ = some x11 ∧ w1.cell? ⟨b12, o12, none⟩ = some x12) : Up w w2 ∧ w2.cell? ⟨b0, o0, none⟩ = some x0 ∧ w2.cell? ⟨b1, o1, none⟩ = some x1 ∧ w2.cell? ⟨b2, o2, none⟩ = some x2 ∧ w2.cell? ⟨b3, o3, none⟩ = some x3 ∧ w2.cell? ⟨b4, o4, none⟩ = some x4 ∧ w2.cell? ⟨b5, o5, none⟩ = some x5 ∧ w2.cell? ⟨b6, o6, none⟩ = some x6 ∧ w2.cell? ⟨b7, o7, none⟩ = some x7 ∧ w2.cell? ⟨b8, o8, none⟩ = some x8 ∧ w2.cell? ⟨b9, o9, none⟩ = some x9 ∧ w2.cell? ⟨b10, o10, none⟩ = some x10 ∧ w2.cell? ⟨b11, o11, none⟩ = some x11 ∧ w2.cell? ⟨b12, o12, none⟩ = some x12 :=
  ⟨h.1.trans hu.out, hu.out.keep _ _ _ h.2.1, hu.out.keep _ _ _ h.2.2.1, hu.out.keep _ _ _ h.2.2.2.1, hu.out.keep _ _ _ h.2.2.2.2.1, hu.out.keep _ _ _ h.2.2.2.2.2.1, hu.out.keep _ _ _ h.2.2.2.2.2.2.1, hu.out.keep _ _ _ h.2.2.2.2.2.2.2.1, hu.out.keep _ _ _ h.2.2.2.2.2.2.2.2.1, hu.out.keep _ _ _ h.2.2.2.2.2.2.2.2.2.1, hu.out.keep _ _ _ h.2.2.2.2.2.2.2.2.2.2.1, hu.out.keep _ _ _ h.2.2.2.2.2.2.2.2.2.2.2.1, hu.out.keep _ _ _ h.2.2.2.2.2.2.2.2.2.2.2.2.1, hu.out.keep _ _ _ h.2.2.2.2.2.2.2.2.2.2.2.2.2⟩
theorem setK13 {w w1 : World} {p : Nat} {x0 x1 x2 x3 x4 x5 y0 y1 y2 y3 y4 y5 y6 v : Value} (hp : w.heap.size ≤ p) (h : Up w w1 ∧ w1.cell? ⟨p, 0, none⟩ = some x0 ∧ w1.cell? ⟨p, 1, none⟩ = some x1 ∧ w1.cell? ⟨p, 2, none⟩ = some x2 ∧ w1.cell? ⟨p, 3, none⟩ = some x3 ∧ w1.cell? ⟨p, 4, none⟩ = some x4 ∧ w1.cell? ⟨p, 5, none⟩ = some x5 ∧ w1.cell? ⟨p + 1, 0, none⟩ = some y0 ∧ w1.cell? ⟨p + 1, 1, none⟩ = some y1 ∧ w1.cell? ⟨p + 1, 2, none⟩ = some y2 ∧ w1.cell? ⟨p + 1, 3, none⟩ = some y3 ∧ w1.cell? ⟨p + 1, 4, none⟩ = some y4 ∧ w1.cell? ⟨p + 1, 5, none⟩ = some y5 ∧ w1.cell? ⟨p + 1, 6, none⟩ = some y6) : Up w (w1.setCell ⟨p, 6, none⟩ v) ∧ (w1.setCell ⟨p, 6, none⟩ v).cell? ⟨p, 0, none⟩ = some x0 ∧ (w1.setCell ⟨p, 6, none⟩ v).cell? ⟨p, 1, none⟩ = some x1 ∧ (w1.setCell ⟨p, 6, none⟩ v).cell? ⟨p, 2, none⟩ = some x2 ∧ (w1.setCell ⟨p, 6, none⟩ v).cell? ⟨p, 3, none⟩ = some x3 ∧ (w1.setCell ⟨p, 6, none⟩ v).cell? ⟨p, 4, none⟩ = some x4 ∧ (w1.setCell ⟨p, 6, none⟩ v).cell? ⟨p, 5, none⟩ = some x5 ∧ (w1.setCell ⟨p, 6, none⟩ v).cell? ⟨p + 1, 0, none⟩ = some y0 ∧ (w1.setCell ⟨p, 6, none⟩ v).cell? ⟨p + 1, 1, none⟩ = some y1 ∧ (w1.setCell ⟨p, 6, none⟩ v).cell? ⟨p + 1, 2, none⟩ = some y2 ∧ (w1.setCell ⟨p, 6, none⟩ v).cell? ⟨p + 1, 3, none⟩ = some y3 ∧ (w1.setCell ⟨p, 6, none⟩ v).cell? ⟨p + 1, 4, none⟩ = some y4 ∧ (w1.setCell ⟨p, 6, none⟩ v).cell? ⟨p + 1, 5, none⟩ = some y5 ∧ (w1.setCell ⟨p, 6, none⟩ v).cell? ⟨p + 1, 6, none⟩ = some y6 :=
  ⟨h.1.setCell hp _, (World.cell?_setCell_other _ _ _ _ (by intro e; injection e with e1 e2; omega)).trans h.2.1, (World.cell?_setCell_other _ _ _ _ (by intro e; injection e with e1 e2; omega)).trans h.2.2.1, (World.cell?_setCell_other _ _ _ _ (by intro e; injection e with e1 e2; omega)).trans h.2.2.2.1, (World.cell?_setCell_other _ _ _ _ (by intro e; injection e with e1 e2; omega)).trans h.2.2.2.2.1, (World.cell?_setCell_other _ _ _ _ (by intro e; injection e with e1 e2; omega)).trans h.2.2.2.2.2.1, (World.cell?_setCell_other _ _ _ _ (by intro e; injection e with e1 e2; omega)).trans h.2.2.2.2.2.2.1, (World.cell?_setCell_other _ _ _ _ (by intro e; injection e with e1 e2; omega)).trans h.2.2.2.2.2.2.2.1, (World.cell?_setCell_other _ _ _ _ (by intro e; injection e with e1 e2; omega)).trans h.2.2.2.2.2.2.2.2.1, (World.cell?_setCell_other _ _ _ _ (by intro e; injection e with e1 e2; omega)).trans h.2.2.2.2.2.2.2.2.2.1, (World.cell?_setCell_other _ _ _ _ (by intro e; injection e with e1 e2; omega)).trans h.2.2.2.2.2.2.2.2.2.2.1, (World.cell?_setCell_other _ _ _ _ (by intro e; injection e with e1 e2; omega)).trans h.2.2.2.2.2.2.2.2.2.2.2.1, (World.cell?_setCell_other _ _ _ _ (by intro e; injection e with e1 e2; omega)).trans h.2.2.2.2.2.2.2.2.2.2.2.2.1, (World.cell?_setCell_other _ _ _ _ (by intro e; injection e with e1 e2; omega)).trans h.2.2.2.2.2.2.2.2.2.2.2.2.2⟩
set_option maxHeartbeats 4000000 in
set_option maxRecDepth 100000 in
theorem add13_good_pos (g v q c now seq d : Int) (n k : Nat) (A : Option Addr) (X : List Mrk) (hn : n ≤ 50000) (hk : n ≤ k) (h0 : 0 < n) (hv : stM g v q c now seq X = true) (hd : valG g d) (hf : fuM c seq X = false) (w : World) (hS : SG cM w A n X) :
    Calls Try.prog 23 #[.agg #[.int .i64 g, .int .i64 v, .int .i64 q, .int .i64 c, .int .i64 now, .int .i64 seq, .slice A n k], .int .i64 d] w fun e w' => ∃ A' n' k', e = .returned (.tuple #[.agg #[.int .i64 g, .int .i64 v, .int .i64 q, .int .i64 c, .int .i64 now, .int .i64 (seq + 1), .slice A' n' k'], .int .i64 0]) ∧ n' ≤ n + 1 ∧ n' ≤ k' ∧ Nw w A' ∧ Up w w' ∧ SG cM w' A' n' (adM g q seq now d X) := by
  have HL := Lib.hid hS.1
  have KV := Lib.hid (fun W (h : SG cM W A n X) => validate13_up g v q c now seq n k A X hn W h)
  rw [stME_yes hv] at KV
  have HS := Lib.hid hS
  have KI := Lib.hid (isValueG_any d g (mayM_true (stM_true hv).1).1)
  rw [decide_eq_true hd] at KI
  have HQ : Hid (1 ≤ q ∧ q ≤ 64) := Lib.hid (mayC_true (stM_may hv)).2
  have HD : Hid (∀ j, j < n → bdM (X.getD j mk0)) := Lib.hid (by
    obtain ⟨hm, hx, _⟩ := stM_true hv
    obtain ⟨g1, g2, hc, g4⟩ := mayC_facts (mayM_true hm).2
    obtain ⟨hs2, hok⟩ := mrkB_true hx
    exact fun j hj => (hok j (by rw [hS.1]; exact hj)).bd hc.2 hs2.2)
  have HI : Hid (∀ j, j < n + 1 → bdG g ((inM (seq + 1) now d X).getD j mk0)) := Lib.hid (by
    obtain ⟨hm, hx, _⟩ := stM_true hv
    obtain ⟨hg, hm2⟩ := mayM_true hm
    obtain ⟨g1, g2, hc, g4⟩ := mayC_facts hm2
    obtain ⟨hs2, hok⟩ := mrkB_true hx
    intro j hj
    refine ⟨inM_bd hg hc.2 hs2.2 hok hd (by rw [hS.1]; exact hj), ?_⟩
    by_cases hjn : j < n
    · rw [inM_get (by rw [hS.1]; exact hjn)]
      obtain ⟨_, _, _, ⟨l1, l2⟩, ⟨l3, l4⟩, _⟩ := HD.out j hjn
      obtain ⟨d1, d2, _⟩ := hd
      show In (min _ d) ∧ In (max _ d)
      have p1 := min_b l1 l2 d1 d2
      have p2 := min_b l3 l4 d1 d2
      exact ⟨⟨by omega, by omega⟩, ⟨by omega, by omega⟩⟩
    · obtain rfl : j = X.length := by rw [hS.1]; omega
      rw [inM_last]
      obtain ⟨d1, d2, _⟩ := hd
      exact ⟨⟨by show _ ≤ d; omega, by show d ≤ _; omega⟩, ⟨by show _ ≤ d; omega, by show d ≤ _; omega⟩⟩)
  have HAN : Hid (∀ i j, i ≤ j → j < n + 1 → ofZ g ((inM (seq + 1) now d X).getD j mk0) ≤ ofZ g ((inM (seq + 1) now d X).getD i mk0)) := Lib.hid (by
    obtain ⟨hm, hx, _⟩ := stM_true hv
    obtain ⟨hs2, hok⟩ := mrkB_true hx
    exact fun i j hij hj => inM_anti (mayM_true hm).1 hok hd hij (by rw [hS.1]; exact hj))
  have w5_ : IntKind.i64.wrap (seq + 1) = seq + 1 := by
    obtain ⟨_, hx, _⟩ := stM_true hv
    obtain ⟨hs2, _⟩ := mrkB_true hx
    rw [IntKind.wrap_i64]; omega
  have KE := Lib.hid (fun W (h : Up w W) => extended_up n k A X (seq + 1) now d hn HD.out hd.1 hd.2.1 W (hS.up h))
  have KN := Lib.hid (nearness_up g q)
  have KP := Lib.hid (fun (b1 a1 : Nat) (A3 : Option Addr) (k3 : Nat) W (h : SG cM W A3 (n + 1) (inM (seq + 1) now d X)) (hb : W.cell? ⟨b1, 0, none⟩ = some (.int .i64 q)) (ha : W.cell? ⟨a1, 0, none⟩ = some (.int .i64 g)) => pruned_up g q b1 a1 (n + 1) k3 A3 (inM (seq + 1) now d X) (by omega) HQ.out HI.out HAN.out W h hb ha)
  have HZ : Hid (prL (clM g q) (n + 1) (inM (seq + 1) now d X) = adM g q seq now d X) := Lib.hid (by rw [← HL.out]; rfl)
  rw [HZ.out] at KP
  clear HZ HD HI HAN HQ
  generalize adM g q seq now d X = Z at *
  generalize inM (seq + 1) now d X = M3 at *
  have HSn := Lib.hid hS
  clear hS hv hd
  obtain ⟨b, o, rfl, _⟩ := mrk_at HSn.out mk0 h0
  have HF : Hid ((X.getD 0 mk0).n ≠ c ∧ seq ≠ 1099511627776) := Lib.hid (by
    unfold fuM at hf
    rw [HSn.out.1, Bool.or_eq_false_iff, Bool.and_eq_false_iff, decide_eq_false_iff_not, decide_eq_false_iff_not, decide_eq_false_iff_not] at hf
    exact ⟨hf.1.elim (fun h2 => absurd h0 h2) id, hf.2⟩)
  clear hf
  have t2 : (seq == 1099511627776) = false := beq_eq_false_iff_ne.2 HF.out.2
  have t3 : ((X.getD 0 mk0).n == c) = false := beq_eq_false_iff_ne.2 HF.out.1
  have HT := Lib.hid (fun W (h : Up w W) => (mrk_prev (HSn.out.up h) h0).2.2.1)
  clear HF
  generalize (X.getD 0 mk0).n = x0 at *
  have f20 : (0 : Int) < n := by omega
  simp only [Nat.zero_mul, Nat.add_zero] at HT
  go_enter Try.func23, Try.ntmps23
  go_upto_region 6 with (first | (go_at_call 54; (with_reducible refine (KI.out _).mono ?_); rintro e w2 ⟨rfl, rfl⟩) | (go_at_call 19; (with_reducible refine (KV.out _ (HS.out.up (((Up.refl w).alloc _ _).alloc _ _))).mono ?_); rintro e w1 ⟨rfl, hu⟩; have HU1 := Lib.hid ((((Up.refl w).alloc #[.int .i64 g, .int .i64 v, .int .i64 q, .int .i64 c, .int .i64 now, .int .i64 seq, .slice (some ⟨b, o, none⟩) n k] 26).alloc #[.int .i64 0, .int .i64 0, .int .i64 0, .int .i64 0, .int .i64 0, .int .i64 0, .slice none 0 0] 26).trans hu); have c00 := hu.keep (w.heap.size) 0 (.int .i64 g) (by simp [go_sem]); have c01 := hu.keep (w.heap.size) 1 (.int .i64 v) (by simp [go_sem]); have c02 := hu.keep (w.heap.size) 2 (.int .i64 q) (by simp [go_sem]); have c03 := hu.keep (w.heap.size) 3 (.int .i64 c) (by simp [go_sem]); have c04 := hu.keep (w.heap.size) 4 (.int .i64 now) (by simp [go_sem]); have c05 := hu.keep (w.heap.size) 5 (.int .i64 seq) (by simp [go_sem]); have c06 := hu.keep (w.heap.size) 6 (.slice (some ⟨b, o, none⟩) n k) (by simp [go_sem]); have c10 := hu.keep (w.heap.size + 1) 0 (.int .i64 0) (by simp [go_sem]); have c11 := hu.keep (w.heap.size + 1) 1 (.int .i64 0) (by simp [go_sem]); have c12 := hu.keep (w.heap.size + 1) 2 (.int .i64 0) (by simp [go_sem]); have c13 := hu.keep (w.heap.size + 1) 3 (.int .i64 0) (by simp [go_sem]); have c14 := hu.keep (w.heap.size + 1) 4 (.int .i64 0) (by simp [go_sem]); have c15 := hu.keep (w.heap.size + 1) 5 (.int .i64 0) (by simp [go_sem]); have c16 := hu.keep (w.heap.size + 1) 6 (.slice none 0 0) (by simp [go_sem]); have z00 := HU1.out.ownGe (g := w.heap.size) (Nat.le_refl _) 0; have z01 := HU1.out.ownGe (g := w.heap.size) (Nat.le_refl _) 1; have z02 := HU1.out.ownGe (g := w.heap.size) (Nat.le_refl _) 2; have z03 := HU1.out.ownGe (g := w.heap.size) (Nat.le_refl _) 3; have z04 := HU1.out.ownGe (g := w.heap.size) (Nat.le_refl _) 4; have z05 := HU1.out.ownGe (g := w.heap.size) (Nat.le_refl _) 5; have z06 := HU1.out.ownGe (g := w.heap.size) (Nat.le_refl _) 6; have z10 := HU1.out.ownGe (g := w.heap.size + 1) (by omega) 0; have z11 := HU1.out.ownGe (g := w.heap.size + 1) (by omega) 1; have z12 := HU1.out.ownGe (g := w.heap.size + 1) (by omega) 2; have z13 := HU1.out.ownGe (g := w.heap.size + 1) (by omega) 3; have z14 := HU1.out.ownGe (g := w.heap.size + 1) (by omega) 4; have z15 := HU1.out.ownGe (g := w.heap.size + 1) (by omega) 5; have z16 := HU1.out.ownGe (g := w.heap.size + 1) (by omega) 6; have hlt : w.heap.size + 1 < w1.heap.size := World.block_lt_of_cell? _ _ c10; have hlt0 : w.heap.size < w1.heap.size := Nat.lt_of_succ_lt hlt; clear hu))
  have hd2 := HT.out _ HU1.out
  have HSS : Hid (Up w w1 ∧ w1.cell? ⟨w.heap.size, 0, none⟩ = some (.int .i64 g) ∧ w1.cell? ⟨w.heap.size, 1, none⟩ = some (.int .i64 v) ∧ w1.cell? ⟨w.heap.size, 2, none⟩ = some (.int .i64 q) ∧ w1.cell? ⟨w.heap.size, 3, none⟩ = some (.int .i64 c) ∧ w1.cell? ⟨w.heap.size, 4, none⟩ = some (.int .i64 now) ∧ w1.cell? ⟨w.heap.size, 5, none⟩ = some (.int .i64 seq) ∧ w1.cell? ⟨w.heap.size, 6, none⟩ = some (.slice (some ⟨b, o, none⟩) n k) ∧ w1.cell? ⟨(w.heap.size + 1), 0, none⟩ = some (.int .i64 0) ∧ w1.cell? ⟨(w.heap.size + 1), 1, none⟩ = some (.int .i64 0) ∧ w1.cell? ⟨(w.heap.size + 1), 2, none⟩ = some (.int .i64 0) ∧ w1.cell? ⟨(w.heap.size + 1), 3, none⟩ = some (.int .i64 0) ∧ w1.cell? ⟨(w.heap.size + 1), 4, none⟩ = some (.int .i64 0) ∧ w1.cell? ⟨(w.heap.size + 1), 5, none⟩ = some (.int .i64 0) ∧ w1.cell? ⟨(w.heap.size + 1), 6, none⟩ = some (.slice none 0 0) ∧ w1.cell? ⟨b, o + 2, none⟩ = some (.int .i64 x0)) := Lib.hid ⟨HU1.out, c00, c01, c02, c03, c04, c05, c06, c10, c11, c12, c13, c14, c15, c16, hd2⟩
  clear hd2 HT
  go_wp2_with fail
  refine wp_region_held_drew (S := fun w' => Up w w' ∧ w'.cell? ⟨w.heap.size, 0, none⟩ = some (.int .i64 g) ∧ w'.cell? ⟨w.heap.size, 1, none⟩ = some (.int .i64 v) ∧ w'.cell? ⟨w.heap.size, 2, none⟩ = some (.int .i64 q) ∧ w'.cell? ⟨w.heap.size, 3, none⟩ = some (.int .i64 c) ∧ w'.cell? ⟨w.heap.size, 4, none⟩ = some (.int .i64 now) ∧ w'.cell? ⟨w.heap.size, 5, none⟩ = some (.int .i64 seq) ∧ w'.cell? ⟨w.heap.size, 6, none⟩ = some (.slice (some ⟨b, o, none⟩) n k) ∧ w'.cell? ⟨(w.heap.size + 1), 0, none⟩ = some (.int .i64 0) ∧ w'.cell? ⟨(w.heap.size + 1), 1, none⟩ = some (.int .i64 0) ∧ w'.cell? ⟨(w.heap.size + 1), 2, none⟩ = some (.int .i64 0) ∧ w'.cell? ⟨(w.heap.size + 1), 3, none⟩ = some (.int .i64 0) ∧ w'.cell? ⟨(w.heap.size + 1), 4, none⟩ = some (.int .i64 0) ∧ w'.cell? ⟨(w.heap.size + 1), 5, none⟩ = some (.int .i64 0) ∧ w'.cell? ⟨(w.heap.size + 1), 6, none⟩ = some (.slice none 0 0) ∧ w'.cell? ⟨b, o + 2, none⟩ = some (.int .i64 x0)) (by kernel_rfl) ?hB737 (fun hHeld => ?_)
  case hB737 => (first | (with_reducible assumption) | (with_reducible exact keepK15 (Lib.hid (Up.refl _).drew) HSS.out))
  refine wpAnyH_take (i := 0) (oi := ⟨_, _, _, _, _, _⟩) (v := ?v738) rfl (by kernel_rfl) (by kernel_rfl) (by kernel_rfl) (fun _ _ _ h => h) (Or.inl ⟨by rfl, ?hy738⟩) (by assumption) ?_
  case hy738 => (intro w hSw; (try dsimp only at hSw); go_simp; (try (with_reducible rfl)))
  (try simp only [Act.put, List.setIfInBounds_toArray, List.set_cons_zero, List.set_cons_succ])
  refine wpAnyH_take (i := 1) (oi := ⟨_, _, _, _, _, _⟩) (v := ?v739) rfl (by kernel_rfl) (by kernel_rfl) (by kernel_rfl) (fun _ _ _ h => h) (Or.inl ⟨by rfl, ?hy739⟩) (by assumption) ?_
  case hy739 => (intro w hSw; (try dsimp only at hSw); go_simp; (try (with_reducible rfl)))
  (try simp only [Act.put, List.setIfInBounds_toArray, List.set_cons_zero, List.set_cons_succ])
  refine wpAnyH_take (i := 2) (oi := ⟨_, _, _, _, _, _⟩) (v := ?v740) rfl (by kernel_rfl) (by kernel_rfl) (by kernel_rfl) (fun _ _ _ h => h) (Or.inl ⟨by rfl, ?hy740⟩) (by assumption) ?_
  case hy740 => (intro w hSw; (try dsimp only at hSw); go_simp; (try (with_reducible rfl)))
  (try simp only [Act.put, List.setIfInBounds_toArray, List.set_cons_zero, List.set_cons_succ])
  refine wpAnyH_take (i := 3) (oi := ⟨_, _, _, _, _, _⟩) (v := ?v741) rfl (by kernel_rfl) (by kernel_rfl) (by kernel_rfl) (fun _ _ _ h => h) (Or.inl ⟨by rfl, ?hy741⟩) (by assumption) ?_
  case hy741 => (intro w hSw; (try dsimp only at hSw); go_simp; (try (with_reducible rfl)))
  (try simp only [Act.put, List.setIfInBounds_toArray, List.set_cons_zero, List.set_cons_succ])
  refine wpAnyH_take (i := 4) (oi := ⟨_, _, _, _, _, _⟩) (v := ?v742) rfl (by kernel_rfl) (by kernel_rfl) (by kernel_rfl) (fun _ _ _ h => h) (Or.inl ⟨by rfl, ?hy742⟩) (by assumption) ?_
  case hy742 => (intro w hSw; (try dsimp only at hSw); go_simp; (try (with_reducible rfl)))
  (try simp only [Act.put, List.setIfInBounds_toArray, List.set_cons_zero, List.set_cons_succ])
  refine wpAnyH_take (i := 5) (oi := ⟨_, _, _, _, _, _⟩) (v := ?v743) rfl (by kernel_rfl) (by kernel_rfl) (by kernel_rfl) (fun _ _ _ h => h) (Or.inl ⟨by rfl, ?hy743⟩) (by assumption) ?_
  case hy743 => (intro w hSw; (try dsimp only at hSw); go_simp; (try (with_reducible rfl)))
  (try simp only [Act.put, List.setIfInBounds_toArray, List.set_cons_zero, List.set_cons_succ])
  refine wpAnyH_take (i := 6) (oi := ⟨_, _, _, _, _, _⟩) (v := ?v744) rfl (by kernel_rfl) (by kernel_rfl) (by kernel_rfl) (fun _ _ _ h => h) (Or.inl ⟨by rfl, ?hy744⟩) (by assumption) ?_
  case hy744 => (intro w hSw; (try dsimp only at hSw); go_simp; (try (with_reducible rfl)))
  (try simp only [Act.put, List.setIfInBounds_toArray, List.set_cons_zero, List.set_cons_succ])
  refine wpAnyH_take (i := 7) (oi := ⟨_, _, _, _, _, _⟩) (v := ?v745) rfl (by kernel_rfl) (by kernel_rfl) (by kernel_rfl) (fun _ _ _ h => h) (Or.inl ⟨by rfl, ?hy745⟩) (by assumption) ?_
  case hy745 => (intro w hSw; (try dsimp only at hSw); go_simp; (try (with_reducible rfl)))
  (try simp only [Act.put, List.setIfInBounds_toArray, List.set_cons_zero, List.set_cons_succ])
  refine wpAnyH_take (i := 8) (oi := ⟨_, _, _, _, _, _⟩) (v := ?v746) rfl (by kernel_rfl) (by kernel_rfl) (by kernel_rfl) (fun _ _ _ h => h) (Or.inl ⟨by rfl, ?hy746⟩) (by assumption) ?_
  case hy746 => (intro w hSw; (try dsimp only at hSw); go_simp; (try (with_reducible rfl)))
  (try simp only [Act.put, List.setIfInBounds_toArray, List.set_cons_zero, List.set_cons_succ])
  refine wpAnyH_take (i := 9) (oi := ⟨_, _, _, _, _, _⟩) (v := ?v747) rfl (by kernel_rfl) (by kernel_rfl) (by kernel_rfl) (fun _ _ _ h => h) (Or.inl ⟨by rfl, ?hy747⟩) (by assumption) ?_
  case hy747 => (intro w hSw; (try dsimp only at hSw); go_simp; (try (with_reducible rfl)))
  (try simp only [Act.put, List.setIfInBounds_toArray, List.set_cons_zero, List.set_cons_succ])
  refine wpAnyH_take (i := 10) (oi := ⟨_, _, _, _, _, _⟩) (v := ?v748) rfl (by kernel_rfl) (by kernel_rfl) (by kernel_rfl) (fun _ _ _ h => h) (Or.inl ⟨by rfl, ?hy748⟩) (by assumption) ?_
  case hy748 => (intro w hSw; (try dsimp only at hSw); go_simp; (try (with_reducible rfl)))
  (try simp only [Act.put, List.setIfInBounds_toArray, List.set_cons_zero, List.set_cons_succ])
  refine wpAnyH_take (i := 11) (oi := ⟨_, _, _, _, _, _⟩) (v := ?v749) rfl (by kernel_rfl) (by kernel_rfl) (by kernel_rfl) (fun _ _ _ h => h) (Or.inl ⟨by rfl, ?hy749⟩) (by assumption) ?_
  case hy749 => (intro w hSw; (try dsimp only at hSw); go_simp; (try (with_reducible rfl)))
  (try simp only [Act.put, List.setIfInBounds_toArray, List.set_cons_zero, List.set_cons_succ])
  refine wpAnyH_take (i := 12) (oi := ⟨_, _, _, _, _, _⟩) (v := ?v750) rfl (by kernel_rfl) (by kernel_rfl) (by kernel_rfl) (fun _ _ _ h => h) (Or.inl ⟨by rfl, ?hy750⟩) (by assumption) ?_
  case hy750 => (intro w hSw; (try dsimp only at hSw); go_simp; (try (with_reducible rfl)))
  (try simp only [Act.put, List.setIfInBounds_toArray, List.set_cons_zero, List.set_cons_succ])
  refine wpAnyH_take (i := 13) (oi := ⟨_, _, _, _, _, _⟩) (v := ?v751) rfl (by kernel_rfl) (by kernel_rfl) (by kernel_rfl) (fun _ _ _ h => h) (Or.inl ⟨by rfl, ?hy751⟩) (by assumption) ?_
  case hy751 => (intro w hSw; (try dsimp only at hSw); go_simp; (try (with_reducible rfl)))
  (try simp only [Act.put, List.setIfInBounds_toArray, List.set_cons_zero, List.set_cons_succ])
  refine wpAnyH_take (i := 14) (oi := ⟨_, _, _, _, _, _⟩) (v := ?v752) rfl (by kernel_rfl) (by kernel_rfl) (by kernel_rfl) (fun _ _ _ h => h) (Or.inl ⟨by rfl, ?hy752⟩) (by assumption) ?_
  case hy752 => (intro w hSw; (try dsimp only at hSw); go_simp; (try (with_reducible rfl)))
  (try simp only [Act.put, List.setIfInBounds_toArray, List.set_cons_zero, List.set_cons_succ])
  refine wpAnyH_take (i := 15) (oi := ⟨_, _, _, _, _, _⟩) (v := ?v753) rfl (by kernel_rfl) (by kernel_rfl) (by kernel_rfl) (fun _ _ _ h => h) (Or.inl ⟨by rfl, ?hy753⟩) (by assumption) ?_
  case hy753 => (intro w hSw; (try dsimp only at hSw); go_simp; (try (with_reducible rfl)))
  (try simp only [Act.put, List.setIfInBounds_toArray, List.set_cons_zero, List.set_cons_succ])
  refine wpAnyH_take (i := 16) (oi := ⟨_, _, _, _, _, _⟩) (v := ?v754) rfl (by kernel_rfl) (by kernel_rfl) (by kernel_rfl) (fun _ _ _ h => h) (Or.inl ⟨by rfl, ?hy754⟩) (by assumption) ?_
  case hy754 => (intro w hSw; (try dsimp only at hSw); go_simp; (try (with_reducible rfl)))
  (try simp only [Act.put, List.setIfInBounds_toArray, List.set_cons_zero, List.set_cons_succ])
  refine wpAnyH_take (i := 17) (oi := ⟨_, _, _, _, _, _⟩) (v := ?v755) rfl (by kernel_rfl) (by kernel_rfl) (by kernel_rfl) (fun _ _ _ h => h) (Or.inl ⟨by rfl, ?hy755⟩) (by assumption) ?_
  case hy755 => (intro w hSw; (try dsimp only at hSw); go_simp; (try (with_reducible rfl)))
  (try simp only [Act.put, List.setIfInBounds_toArray, List.set_cons_zero, List.set_cons_succ])
  refine wpAnyH_take (i := 18) (oi := ⟨_, _, _, _, _, _⟩) (v := ?v756) rfl (by kernel_rfl) (by kernel_rfl) (by kernel_rfl) (fun _ _ _ h => h) (Or.inl ⟨by rfl, ?hy756⟩) (by assumption) ?_
  case hy756 => (intro w hSw; (try dsimp only at hSw); go_simp; (try (with_reducible rfl)))
  (try simp only [Act.put, List.setIfInBounds_toArray, List.set_cons_zero, List.set_cons_succ])
  refine wpAnyH_done (by kernel_rfl) ?_ _
  (try clear hHeld)
  (repeat clear ‹Up w _ ∧ _›)
  go_upto_region 9 with fail
  refine (show ∀ W2 : World, W2 = _ → Code.wp _ _ _ _ W2 from fun W2 hW2 => ?_) _ rfl
  have U2 := Lib.hid (show Up w W2 by rw [hW2]; exact (HU1.out.setCell (Nat.le_refl _) _).drew)
  have b0 : W2.cell? ⟨w.heap.size, 0, none⟩ = some (.int .i64 g) := by rw [hW2]; simp [go_sem, c00]
  have b1 : W2.cell? ⟨w.heap.size, 1, none⟩ = some (.int .i64 v) := by rw [hW2]; simp [go_sem, c01]
  have b2 : W2.cell? ⟨w.heap.size, 2, none⟩ = some (.int .i64 q) := by rw [hW2]; simp [go_sem, c02]
  have b3 : W2.cell? ⟨w.heap.size, 3, none⟩ = some (.int .i64 c) := by rw [hW2]; simp [go_sem, c03]
  have b4 : W2.cell? ⟨w.heap.size, 4, none⟩ = some (.int .i64 now) := by rw [hW2]; simp [go_sem, c04]
  have b5 : W2.cell? ⟨w.heap.size, 5, none⟩ = some (.int .i64 (seq + 1)) := by rw [hW2]; simp [go_sem, c05]
  have b6 : W2.cell? ⟨w.heap.size, 6, none⟩ = some (.slice (some ⟨b, o, none⟩) n k) := by rw [hW2]; simp [go_sem, c06]
  have r0 : W2.cell? ⟨w.heap.size + 1, 0, none⟩ = some (.int .i64 0) := by rw [hW2]; simp [go_sem, c10]
  have r1 : W2.cell? ⟨w.heap.size + 1, 1, none⟩ = some (.int .i64 0) := by rw [hW2]; simp [go_sem, c11]
  have r2 : W2.cell? ⟨w.heap.size + 1, 2, none⟩ = some (.int .i64 0) := by rw [hW2]; simp [go_sem, c12]
  have r3 : W2.cell? ⟨w.heap.size + 1, 3, none⟩ = some (.int .i64 0) := by rw [hW2]; simp [go_sem, c13]
  have r4 : W2.cell? ⟨w.heap.size + 1, 4, none⟩ = some (.int .i64 0) := by rw [hW2]; simp [go_sem, c14]
  have r5 : W2.cell? ⟨w.heap.size + 1, 5, none⟩ = some (.int .i64 0) := by rw [hW2]; simp [go_sem, c15]
  have r6 : W2.cell? ⟨w.heap.size + 1, 6, none⟩ = some (.slice none 0 0) := by rw [hW2]; simp [go_sem, c16]
  clear hW2 HU1
  (try clear KV KI)
  clear hlt hlt0 c00 c01 c02 c03 c04 c05 c06 c10 c11 c12 c13 c14 c15 c16 z00 z01 z02 z03 z04 z05 z06 z10 z11 z12 z13 z14 z15 z16
  have HSS : Hid (Up w W2 ∧ W2.cell? ⟨w.heap.size, 0, none⟩ = some (.int .i64 g) ∧ W2.cell? ⟨w.heap.size, 1, none⟩ = some (.int .i64 v) ∧ W2.cell? ⟨w.heap.size, 2, none⟩ = some (.int .i64 q) ∧ W2.cell? ⟨w.heap.size, 3, none⟩ = some (.int .i64 c) ∧ W2.cell? ⟨w.heap.size, 4, none⟩ = some (.int .i64 now) ∧ W2.cell? ⟨w.heap.size, 5, none⟩ = some (.int .i64 (seq + 1)) ∧ W2.cell? ⟨(w.heap.size + 1), 0, none⟩ = some (.int .i64 0) ∧ W2.cell? ⟨(w.heap.size + 1), 1, none⟩ = some (.int .i64 0) ∧ W2.cell? ⟨(w.heap.size + 1), 2, none⟩ = some (.int .i64 0) ∧ W2.cell? ⟨(w.heap.size + 1), 3, none⟩ = some (.int .i64 0) ∧ W2.cell? ⟨(w.heap.size + 1), 4, none⟩ = some (.int .i64 0) ∧ W2.cell? ⟨(w.heap.size + 1), 5, none⟩ = some (.int .i64 0) ∧ W2.cell? ⟨(w.heap.size + 1), 6, none⟩ = some (.slice none 0 0)) := Lib.hid ⟨U2.out, b0, b1, b2, b3, b4, b5, r0, r1, r2, r3, r4, r5, r6⟩
  go_wp2_with fail
  refine wp_region_held_drew (S := fun w' => Up w w' ∧ w'.cell? ⟨w.heap.size, 0, none⟩ = some (.int .i64 g) ∧ w'.cell? ⟨w.heap.size, 1, none⟩ = some (.int .i64 v) ∧ w'.cell? ⟨w.heap.size, 2, none⟩ = some (.int .i64 q) ∧ w'.cell? ⟨w.heap.size, 3, none⟩ = some (.int .i64 c) ∧ w'.cell? ⟨w.heap.size, 4, none⟩ = some (.int .i64 now) ∧ w'.cell? ⟨w.heap.size, 5, none⟩ = some (.int .i64 (seq + 1)) ∧ w'.cell? ⟨(w.heap.size + 1), 0, none⟩ = some (.int .i64 0) ∧ w'.cell? ⟨(w.heap.size + 1), 1, none⟩ = some (.int .i64 0) ∧ w'.cell? ⟨(w.heap.size + 1), 2, none⟩ = some (.int .i64 0) ∧ w'.cell? ⟨(w.heap.size + 1), 3, none⟩ = some (.int .i64 0) ∧ w'.cell? ⟨(w.heap.size + 1), 4, none⟩ = some (.int .i64 0) ∧ w'.cell? ⟨(w.heap.size + 1), 5, none⟩ = some (.int .i64 0) ∧ w'.cell? ⟨(w.heap.size + 1), 6, none⟩ = some (.slice none 0 0)) (by kernel_rfl) ?hB757 (fun hHeld => ?_)
  case hB757 => (first | (with_reducible assumption) | (with_reducible exact keepK13 (Lib.hid (Up.refl _).drew) HSS.out) | (with_reducible exact HX3.out) | (with_reducible exact HX4.out) | (with_reducible exact HX5.out) | (with_reducible exact setK13 (Nat.le_refl _) HX5.out))
  refine wpAnyH_take (i := 0) (oi := ⟨_, _, _, _, _, _⟩) (v := ?v758) rfl (by kernel_rfl) (by kernel_rfl) (by kernel_rfl) (fun _ _ _ h => h) (Or.inl ⟨by rfl, ?hy758⟩) (by assumption) ?_
  case hy758 => (intro w hSw; (try dsimp only at hSw); go_simp; (try (with_reducible rfl)))
  (try simp only [Act.put, List.setIfInBounds_toArray, List.set_cons_zero, List.set_cons_succ])
  refine wpAnyH_take (i := 2) (oi := ⟨_, _, _, _, _, _⟩) (v := ?v759) rfl (by kernel_rfl) (by kernel_rfl) (by kernel_rfl) (fun _ _ _ h => h) (Or.inl ⟨by rfl, ?hy759⟩) (by assumption) ?_
  case hy759 => (intro w hSw; (try dsimp only at hSw); go_simp; (try (with_reducible rfl)))
  (try simp only [Act.put, List.setIfInBounds_toArray, List.set_cons_zero, List.set_cons_succ])
  refine wpAnyH_take (i := 3) (oi := ⟨_, _, _, _, _, _⟩) (v := ?v760) rfl (by kernel_rfl) (by kernel_rfl) (by kernel_rfl) (fun _ _ _ h => h) (Or.inl ⟨by rfl, ?hy760⟩) (by assumption) ?_
  case hy760 => (intro w hSw; (try dsimp only at hSw); go_simp; (try (with_reducible rfl)))
  (try simp only [Act.put, List.setIfInBounds_toArray, List.set_cons_zero, List.set_cons_succ])
  refine wpAnyH_take (i := 4) (oi := ⟨_, _, _, _, _, _⟩) (v := ?v761) rfl (by kernel_rfl) (by kernel_rfl) (by kernel_rfl) (fun _ _ _ h => h) (Or.inl ⟨by rfl, ?hy761⟩) (by assumption) ?_
  case hy761 => (intro w hSw; (try dsimp only at hSw); go_simp; (try (with_reducible rfl)))
  (try simp only [Act.put, List.setIfInBounds_toArray, List.set_cons_zero, List.set_cons_succ])
  refine wpAnyH_take (i := 5) (oi := ⟨_, _, _, _, _, _⟩) (v := ?v762) rfl (by kernel_rfl) (by kernel_rfl) (by kernel_rfl) (fun _ _ _ h => h) (Or.inl ⟨by rfl, ?hy762⟩) (by assumption) ?_
  case hy762 => (intro w hSw; (try dsimp only at hSw); go_simp; (try (with_reducible rfl)))
  (try simp only [Act.put, List.setIfInBounds_toArray, List.set_cons_zero, List.set_cons_succ])
  refine wpAnyH_take (i := 6) (oi := ⟨_, _, _, _, _, _⟩) (v := ?v763) rfl (by kernel_rfl) (by kernel_rfl) (by kernel_rfl) (fun _ _ _ h => h) (Or.inl ⟨by rfl, ?hy763⟩) (by assumption) ?_
  case hy763 => (intro w hSw; (try dsimp only at hSw); go_simp; (try (with_reducible rfl)))
  (try simp only [Act.put, List.setIfInBounds_toArray, List.set_cons_zero, List.set_cons_succ])
  refine wpAnyH_take (i := 8) (oi := ⟨_, _, _, _, _, _⟩) (v := ?v764) rfl (by kernel_rfl) (by kernel_rfl) (by kernel_rfl) (fun _ _ _ h => h) (Or.inl ⟨by rfl, ?hy764⟩) (by assumption) ?_
  case hy764 => (intro w hSw; (try dsimp only at hSw); go_simp; (try (with_reducible rfl)))
  (try simp only [Act.put, List.setIfInBounds_toArray, List.set_cons_zero, List.set_cons_succ])
  refine wpAnyH_take (i := 9) (oi := ⟨_, _, _, _, _, _⟩) (v := ?v765) rfl (by kernel_rfl) (by kernel_rfl) (by kernel_rfl) (fun _ _ _ h => h) (Or.inl ⟨by rfl, ?hy765⟩) (by assumption) ?_
  case hy765 => (intro w hSw; (try dsimp only at hSw); go_simp; (try (with_reducible rfl)))
  (try simp only [Act.put, List.setIfInBounds_toArray, List.set_cons_zero, List.set_cons_succ])
  refine wpAnyH_take (i := 10) (oi := ⟨_, _, _, _, _, _⟩) (v := ?v766) rfl (by kernel_rfl) (by kernel_rfl) (by kernel_rfl) (fun _ _ _ h => h) (Or.inl ⟨by rfl, ?hy766⟩) (by assumption) ?_
  case hy766 => (intro w hSw; (try dsimp only at hSw); go_simp; (try (with_reducible rfl)))
  (try simp only [Act.put, List.setIfInBounds_toArray, List.set_cons_zero, List.set_cons_succ])
  refine wpAnyH_take (i := 11) (oi := ⟨_, _, _, _, _, _⟩) (v := ?v767) rfl (by kernel_rfl) (by kernel_rfl) (by kernel_rfl) (fun _ _ _ h => h) (Or.inl ⟨by rfl, ?hy767⟩) (by assumption) ?_
  case hy767 => (intro w hSw; (try dsimp only at hSw); go_simp; (try (with_reducible rfl)))
  (try simp only [Act.put, List.setIfInBounds_toArray, List.set_cons_zero, List.set_cons_succ])
  refine wpAnyH_ready (rs := [1]) (by kernel_rfl) (by simp) ?_
  refine AllReadyH.cons (o := ⟨_, _, _, _, _, _⟩) rfl (fun K hK => ?_) AllReadyH.nil
  go_simp
  refine hK.out _ _ ?hB768 (fun hHeld => ?_)
  case hB768 => (first | (with_reducible assumption) | (with_reducible exact keepK13 (Lib.hid (Up.refl _).drew) HSS.out) | (with_reducible exact HX3.out) | (with_reducible exact HX4.out) | (with_reducible exact HX5.out) | (with_reducible exact setK13 (Nat.le_refl _) HX5.out))
  clear hK K
  (try simp only [Act.put, List.setIfInBounds_toArray, List.set_cons_zero, List.set_cons_succ])
  refine wpAnyH_ready (rs := [7]) (by kernel_rfl) (by simp) ?_
  refine AllReadyH.cons (o := ⟨_, _, _, _, _, _⟩) rfl (fun K hK => ?_) AllReadyH.nil
  go_simp
  (go_at_call 56; (with_reducible refine (KE.out _ U2.out.drew).mono ?_); rintro e w3 ⟨A3, k3, rfl, hu, hM⟩; have HM3 := Lib.hid hM; have HU3 := Lib.hid hu; have HX3 := Lib.hid (keepK13 HU3 hHeld); clear hu hM)
  (try go_wp2_with fail)
  refine hK.out _ _ ?hB769 (fun hHeld => ?_)
  case hB769 => (first | (with_reducible assumption) | (with_reducible exact keepK13 (Lib.hid (Up.refl _).drew) HSS.out) | (with_reducible exact HX3.out) | (with_reducible exact HX4.out) | (with_reducible exact HX5.out) | (with_reducible exact setK13 (Nat.le_refl _) HX5.out))
  clear hK K
  (try simp only [Act.put, List.setIfInBounds_toArray, List.set_cons_zero, List.set_cons_succ])
  refine wpAnyH_ready (rs := [12]) (by kernel_rfl) (by simp) ?_
  refine AllReadyH.cons (o := ⟨_, _, _, _, _, _⟩) rfl (fun K hK => ?_) AllReadyH.nil
  go_simp
  (go_at_call 57; (with_reducible refine (KN.out _).mono ?_); rintro e w4 ⟨xa, xb, rfl, hu, cb, ca⟩; have HU4 := Lib.hid hu; have HX4 := Lib.hid (keepK13 HU4 hHeld); have CB := Lib.hid cb; have CA := Lib.hid ca; clear hu cb ca)
  (try go_wp2_with fail)
  refine hK.out _ _ ?hB770 (fun hHeld => ?_)
  case hB770 => (first | (with_reducible assumption) | (with_reducible exact keepK13 (Lib.hid (Up.refl _).drew) HSS.out) | (with_reducible exact HX3.out) | (with_reducible exact HX4.out) | (with_reducible exact HX5.out) | (with_reducible exact setK13 (Nat.le_refl _) HX5.out))
  clear hK K
  (try simp only [Act.put, List.setIfInBounds_toArray, List.set_cons_zero, List.set_cons_succ])
  refine wpAnyH_ready (rs := [13]) (by kernel_rfl) (by simp) ?_
  refine AllReadyH.cons (o := ⟨_, _, _, _, _, _⟩) rfl (fun K hK => ?_) AllReadyH.nil
  go_simp
  (go_at_call 55; (with_reducible refine (KP.out xb xa A3 k3 _ (HM3.out.up HU4.out) CB.out CA.out).mono ?_); rintro e w5 ⟨A5, n5, k5, rfl, hn5, hk5, hnw, hu, hM⟩; have HM5 := Lib.hid hM; have HNW := Lib.hid hnw; have HU5 := Lib.hid hu; have HX5 := Lib.hid (keepK13 HU5 hHeld); have c06 := (((Up.refl W2).drew.trans HU3.out).trans (HU4.out.trans hu)).keep _ _ _ b6; have z06 := HX5.out.1.ownGe (g := w.heap.size) (Nat.le_refl _) 6; clear hu hM hnw)
  (try go_wp2_with fail)
  refine hK.out _ _ ?hB771 (fun hHeld => ?_)
  case hB771 => (first | (with_reducible assumption) | (with_reducible exact keepK13 (Lib.hid (Up.refl _).drew) HSS.out) | (with_reducible exact HX3.out) | (with_reducible exact HX4.out) | (with_reducible exact HX5.out) | (with_reducible exact setK13 (Nat.le_refl _) HX5.out))
  clear hK K
  (try simp only [Act.put, List.setIfInBounds_toArray, List.set_cons_zero, List.set_cons_succ])
  refine wpAnyH_take (i := 14) (oi := ⟨_, _, _, _, _, _⟩) (v := ?v772) rfl (by kernel_rfl) (by kernel_rfl) (by kernel_rfl) (fun _ _ _ h => h) (Or.inl ⟨by rfl, ?hy772⟩) (by assumption) ?_
  case hy772 => (intro w hSw; (try dsimp only at hSw); go_simp; (try (with_reducible rfl)))
  (try simp only [Act.put, List.setIfInBounds_toArray, List.set_cons_zero, List.set_cons_succ])
  refine wpAnyH_ready (rs := [15]) (by kernel_rfl) (by simp) ?_
  refine AllReadyH.cons (o := ⟨_, _, _, _, _, _⟩) rfl (fun K hK => ?_) AllReadyH.nil
  go_simp
  refine hK.out _ _ ?hB773 (fun hHeld => ?_)
  case hB773 => (first | (with_reducible assumption) | (with_reducible exact keepK13 (Lib.hid (Up.refl _).drew) HSS.out) | (with_reducible exact HX3.out) | (with_reducible exact HX4.out) | (with_reducible exact HX5.out) | (with_reducible exact setK13 (Nat.le_refl _) HX5.out))
  clear hK K
  (try simp only [Act.put, List.setIfInBounds_toArray, List.set_cons_zero, List.set_cons_succ])
  refine wpAnyH_done (by kernel_rfl) ?_ _
  clear hHeld
  obtain ⟨UU, c00, c01, c02, c03, c04, c05, c10, c11, c12, c13, c14, c15, c16⟩ := HX5.out
  have z10 := UU.ownGe (g := w.heap.size + 1) (by omega) 0
  have z11 := UU.ownGe (g := w.heap.size + 1) (by omega) 1
  have z12 := UU.ownGe (g := w.heap.size + 1) (by omega) 2
  have z13 := UU.ownGe (g := w.heap.size + 1) (by omega) 3
  have z14 := UU.ownGe (g := w.heap.size + 1) (by omega) 4
  have z15 := UU.ownGe (g := w.heap.size + 1) (by omega) 5
  have z16 := UU.ownGe (g := w.heap.size + 1) (by omega) 6
  have UU := Lib.hid UU
  have hlt := World.block_lt_of_cell? _ _ c10
  have hlt4 := World.block_lt_of_cell? _ _ HX4.out.2.2.2.2.2.2.2.1
  clear HX3 HX4 HX5 HSS b0 b1 b2 b3 b4 b5 b6 r0 r1 r2 r3 r4 r5 r6
  go_wp2_with fail
  refine bodyPost_ret (v := .tuple #[.agg #[.int .i64 g, .int .i64 v, .int .i64 q, .int .i64 c, .int .i64 now, .int .i64 (seq + 1), .slice A5 n5 k5], .int .i64 0]) (by simp [results, Try.results23, go_sem, c10, c11, c12, c13, c14, c15, c16]) rfl ⟨A5, n5, k5, rfl, hn5, hk5, fun b_ o_ h_ => by have := HNW.out b_ o_ h_; omega, ?_, ?_⟩
  · exact (UU.out.setCell (Nat.le_refl _) _).set7 (by omega)
  · exact (HM5.out.off (fun b_ o_ h_ => by have := HNW.out b_ o_ h_; omega) _).off7 (fun b_ o_ h_ => by have := HNW.out b_ o_ h_; omega) _ _ _ _ _ _ _
set_option maxHeartbeats 4000000 in
set_option maxRecDepth 100000 in
theorem add13_good_zero (g v q c now seq d : Int) (n k : Nat) (A : Option Addr) (X : List Mrk) (hn : n ≤ 50000) (hk : n ≤ k) (h0 : ¬ 0 < n) (hv : stM g v q c now seq X = true) (hd : valG g d) (hf : fuM c seq X = false) (w : World) (hS : SG cM w A n X) :
    Calls Try.prog 23 #[.agg #[.int .i64 g, .int .i64 v, .int .i64 q, .int .i64 c, .int .i64 now, .int .i64 seq, .slice A n k], .int .i64 d] w fun e w' => ∃ A' n' k', e = .returned (.tuple #[.agg #[.int .i64 g, .int .i64 v, .int .i64 q, .int .i64 c, .int .i64 now, .int .i64 (seq + 1), .slice A' n' k'], .int .i64 0]) ∧ n' ≤ n + 1 ∧ n' ≤ k' ∧ Nw w A' ∧ Up w w' ∧ SG cM w' A' n' (adM g q seq now d X) := by
  have HL := Lib.hid hS.1
  have KV := Lib.hid (fun W (h : SG cM W A n X) => validate13_up g v q c now seq n k A X hn W h)
  rw [stME_yes hv] at KV
  have HS := Lib.hid hS
  have KI := Lib.hid (isValueG_any d g (mayM_true (stM_true hv).1).1)
  rw [decide_eq_true hd] at KI
  have HQ : Hid (1 ≤ q ∧ q ≤ 64) := Lib.hid (mayC_true (stM_may hv)).2
  have HD : Hid (∀ j, j < n → bdM (X.getD j mk0)) := Lib.hid (by
    obtain ⟨hm, hx, _⟩ := stM_true hv
    obtain ⟨g1, g2, hc, g4⟩ := mayC_facts (mayM_true hm).2
    obtain ⟨hs2, hok⟩ := mrkB_true hx
    exact fun j hj => (hok j (by rw [hS.1]; exact hj)).bd hc.2 hs2.2)
  have HI : Hid (∀ j, j < n + 1 → bdG g ((inM (seq + 1) now d X).getD j mk0)) := Lib.hid (by
    obtain ⟨hm, hx, _⟩ := stM_true hv
    obtain ⟨hg, hm2⟩ := mayM_true hm
    obtain ⟨g1, g2, hc, g4⟩ := mayC_facts hm2
    obtain ⟨hs2, hok⟩ := mrkB_true hx
    intro j hj
    refine ⟨inM_bd hg hc.2 hs2.2 hok hd (by rw [hS.1]; exact hj), ?_⟩
    by_cases hjn : j < n
    · rw [inM_get (by rw [hS.1]; exact hjn)]
      obtain ⟨_, _, _, ⟨l1, l2⟩, ⟨l3, l4⟩, _⟩ := HD.out j hjn
      obtain ⟨d1, d2, _⟩ := hd
      show In (min _ d) ∧ In (max _ d)
      have p1 := min_b l1 l2 d1 d2
      have p2 := min_b l3 l4 d1 d2
      exact ⟨⟨by omega, by omega⟩, ⟨by omega, by omega⟩⟩
    · obtain rfl : j = X.length := by rw [hS.1]; omega
      rw [inM_last]
      obtain ⟨d1, d2, _⟩ := hd
      exact ⟨⟨by show _ ≤ d; omega, by show d ≤ _; omega⟩, ⟨by show _ ≤ d; omega, by show d ≤ _; omega⟩⟩)
  have HAN : Hid (∀ i j, i ≤ j → j < n + 1 → ofZ g ((inM (seq + 1) now d X).getD j mk0) ≤ ofZ g ((inM (seq + 1) now d X).getD i mk0)) := Lib.hid (by
    obtain ⟨hm, hx, _⟩ := stM_true hv
    obtain ⟨hs2, hok⟩ := mrkB_true hx
    exact fun i j hij hj => inM_anti (mayM_true hm).1 hok hd hij (by rw [hS.1]; exact hj))
  have w5_ : IntKind.i64.wrap (seq + 1) = seq + 1 := by
    obtain ⟨_, hx, _⟩ := stM_true hv
    obtain ⟨hs2, _⟩ := mrkB_true hx
    rw [IntKind.wrap_i64]; omega
  have KE := Lib.hid (fun W (h : Up w W) => extended_up n k A X (seq + 1) now d hn HD.out hd.1 hd.2.1 W (hS.up h))
  have KN := Lib.hid (nearness_up g q)
  have KP := Lib.hid (fun (b1 a1 : Nat) (A3 : Option Addr) (k3 : Nat) W (h : SG cM W A3 (n + 1) (inM (seq + 1) now d X)) (hb : W.cell? ⟨b1, 0, none⟩ = some (.int .i64 q)) (ha : W.cell? ⟨a1, 0, none⟩ = some (.int .i64 g)) => pruned_up g q b1 a1 (n + 1) k3 A3 (inM (seq + 1) now d X) (by omega) HQ.out HI.out HAN.out W h hb ha)
  have HZ : Hid (prL (clM g q) (n + 1) (inM (seq + 1) now d X) = adM g q seq now d X) := Lib.hid (by rw [← HL.out]; rfl)
  rw [HZ.out] at KP
  clear HZ HD HI HAN HQ
  generalize adM g q seq now d X = Z at *
  generalize inM (seq + 1) now d X = M3 at *
  have HSn := Lib.hid hS
  clear hS hv hd
  have HF : Hid (seq ≠ 1099511627776) := Lib.hid (by
    unfold fuM at hf
    rw [HSn.out.1, Bool.or_eq_false_iff, Bool.and_eq_false_iff, decide_eq_false_iff_not, decide_eq_false_iff_not, decide_eq_false_iff_not] at hf
    exact hf.2)
  clear hf
  have t2 : (seq == 1099511627776) = false := beq_eq_false_iff_ne.2 HF.out
  have t1 : decide ((0 : Int) < n) = false := decide_eq_false (by omega)
  have t1n : decide (0 < n) = false := decide_eq_false h0
  have t1p : (0 < n) = False := eq_false h0
  clear HF h0
  go_enter Try.func23, Try.ntmps23
  go_upto_region 6 with (first | (go_at_call 54; (with_reducible refine (KI.out _).mono ?_); rintro e w2 ⟨rfl, rfl⟩) | (go_at_call 19; (with_reducible refine (KV.out _ (HS.out.up (((Up.refl w).alloc _ _).alloc _ _))).mono ?_); rintro e w1 ⟨rfl, hu⟩; have HU1 := Lib.hid ((((Up.refl w).alloc #[.int .i64 g, .int .i64 v, .int .i64 q, .int .i64 c, .int .i64 now, .int .i64 seq, .slice A n k] 26).alloc #[.int .i64 0, .int .i64 0, .int .i64 0, .int .i64 0, .int .i64 0, .int .i64 0, .slice none 0 0] 26).trans hu); have c00 := hu.keep (w.heap.size) 0 (.int .i64 g) (by simp [go_sem]); have c01 := hu.keep (w.heap.size) 1 (.int .i64 v) (by simp [go_sem]); have c02 := hu.keep (w.heap.size) 2 (.int .i64 q) (by simp [go_sem]); have c03 := hu.keep (w.heap.size) 3 (.int .i64 c) (by simp [go_sem]); have c04 := hu.keep (w.heap.size) 4 (.int .i64 now) (by simp [go_sem]); have c05 := hu.keep (w.heap.size) 5 (.int .i64 seq) (by simp [go_sem]); have c06 := hu.keep (w.heap.size) 6 (.slice A n k) (by simp [go_sem]); have c10 := hu.keep (w.heap.size + 1) 0 (.int .i64 0) (by simp [go_sem]); have c11 := hu.keep (w.heap.size + 1) 1 (.int .i64 0) (by simp [go_sem]); have c12 := hu.keep (w.heap.size + 1) 2 (.int .i64 0) (by simp [go_sem]); have c13 := hu.keep (w.heap.size + 1) 3 (.int .i64 0) (by simp [go_sem]); have c14 := hu.keep (w.heap.size + 1) 4 (.int .i64 0) (by simp [go_sem]); have c15 := hu.keep (w.heap.size + 1) 5 (.int .i64 0) (by simp [go_sem]); have c16 := hu.keep (w.heap.size + 1) 6 (.slice none 0 0) (by simp [go_sem]); have z00 := HU1.out.ownGe (g := w.heap.size) (Nat.le_refl _) 0; have z01 := HU1.out.ownGe (g := w.heap.size) (Nat.le_refl _) 1; have z02 := HU1.out.ownGe (g := w.heap.size) (Nat.le_refl _) 2; have z03 := HU1.out.ownGe (g := w.heap.size) (Nat.le_refl _) 3; have z04 := HU1.out.ownGe (g := w.heap.size) (Nat.le_refl _) 4; have z05 := HU1.out.ownGe (g := w.heap.size) (Nat.le_refl _) 5; have z06 := HU1.out.ownGe (g := w.heap.size) (Nat.le_refl _) 6; have z10 := HU1.out.ownGe (g := w.heap.size + 1) (by omega) 0; have z11 := HU1.out.ownGe (g := w.heap.size + 1) (by omega) 1; have z12 := HU1.out.ownGe (g := w.heap.size + 1) (by omega) 2; have z13 := HU1.out.ownGe (g := w.heap.size + 1) (by omega) 3; have z14 := HU1.out.ownGe (g := w.heap.size + 1) (by omega) 4; have z15 := HU1.out.ownGe (g := w.heap.size + 1) (by omega) 5; have z16 := HU1.out.ownGe (g := w.heap.size + 1) (by omega) 6; have hlt : w.heap.size + 1 < w1.heap.size := World.block_lt_of_cell? _ _ c10; have hlt0 : w.heap.size < w1.heap.size := Nat.lt_of_succ_lt hlt; clear hu))
  have HSS : Hid (Up w w1 ∧ w1.cell? ⟨w.heap.size, 0, none⟩ = some (.int .i64 g) ∧ w1.cell? ⟨w.heap.size, 1, none⟩ = some (.int .i64 v) ∧ w1.cell? ⟨w.heap.size, 2, none⟩ = some (.int .i64 q) ∧ w1.cell? ⟨w.heap.size, 3, none⟩ = some (.int .i64 c) ∧ w1.cell? ⟨w.heap.size, 4, none⟩ = some (.int .i64 now) ∧ w1.cell? ⟨w.heap.size, 5, none⟩ = some (.int .i64 seq) ∧ w1.cell? ⟨w.heap.size, 6, none⟩ = some (.slice A n k) ∧ w1.cell? ⟨(w.heap.size + 1), 0, none⟩ = some (.int .i64 0) ∧ w1.cell? ⟨(w.heap.size + 1), 1, none⟩ = some (.int .i64 0) ∧ w1.cell? ⟨(w.heap.size + 1), 2, none⟩ = some (.int .i64 0) ∧ w1.cell? ⟨(w.heap.size + 1), 3, none⟩ = some (.int .i64 0) ∧ w1.cell? ⟨(w.heap.size + 1), 4, none⟩ = some (.int .i64 0) ∧ w1.cell? ⟨(w.heap.size + 1), 5, none⟩ = some (.int .i64 0) ∧ w1.cell? ⟨(w.heap.size + 1), 6, none⟩ = some (.slice none 0 0)) := Lib.hid ⟨HU1.out, c00, c01, c02, c03, c04, c05, c06, c10, c11, c12, c13, c14, c15, c16⟩
  skip
  go_wp2_with fail
  refine wp_region_held_drew (S := fun w' => Up w w' ∧ w'.cell? ⟨w.heap.size, 0, none⟩ = some (.int .i64 g) ∧ w'.cell? ⟨w.heap.size, 1, none⟩ = some (.int .i64 v) ∧ w'.cell? ⟨w.heap.size, 2, none⟩ = some (.int .i64 q) ∧ w'.cell? ⟨w.heap.size, 3, none⟩ = some (.int .i64 c) ∧ w'.cell? ⟨w.heap.size, 4, none⟩ = some (.int .i64 now) ∧ w'.cell? ⟨w.heap.size, 5, none⟩ = some (.int .i64 seq) ∧ w'.cell? ⟨w.heap.size, 6, none⟩ = some (.slice A n k) ∧ w'.cell? ⟨(w.heap.size + 1), 0, none⟩ = some (.int .i64 0) ∧ w'.cell? ⟨(w.heap.size + 1), 1, none⟩ = some (.int .i64 0) ∧ w'.cell? ⟨(w.heap.size + 1), 2, none⟩ = some (.int .i64 0) ∧ w'.cell? ⟨(w.heap.size + 1), 3, none⟩ = some (.int .i64 0) ∧ w'.cell? ⟨(w.heap.size + 1), 4, none⟩ = some (.int .i64 0) ∧ w'.cell? ⟨(w.heap.size + 1), 5, none⟩ = some (.int .i64 0) ∧ w'.cell? ⟨(w.heap.size + 1), 6, none⟩ = some (.slice none 0 0)) (by kernel_rfl) ?hB774 (fun hHeld => ?_)
  case hB774 => (first | (with_reducible assumption) | (with_reducible exact keepK14 (Lib.hid (Up.refl _).drew) HSS.out))
  refine wpAnyH_take (i := 0) (oi := ⟨_, _, _, _, _, _⟩) (v := ?v775) rfl (by kernel_rfl) (by kernel_rfl) (by kernel_rfl) (fun _ _ _ h => h) (Or.inl ⟨by rfl, ?hy775⟩) (by assumption) ?_
  case hy775 => (intro w hSw; (try dsimp only at hSw); go_simp; (try (with_reducible rfl)))
  (try simp only [Act.put, List.setIfInBounds_toArray, List.set_cons_zero, List.set_cons_succ])
  refine wpAnyH_take (i := 1) (oi := ⟨_, _, _, _, _, _⟩) (v := ?v776) rfl (by kernel_rfl) (by kernel_rfl) (by kernel_rfl) (fun _ _ _ h => h) (Or.inl ⟨by rfl, ?hy776⟩) (by assumption) ?_
  case hy776 => (intro w hSw; (try dsimp only at hSw); go_simp; (try (with_reducible rfl)))
  (try simp only [Act.put, List.setIfInBounds_toArray, List.set_cons_zero, List.set_cons_succ])
  refine wpAnyH_take (i := 2) (oi := ⟨_, _, _, _, _, _⟩) (v := ?v777) rfl (by kernel_rfl) (by kernel_rfl) (by kernel_rfl) (fun _ _ _ h => h) (Or.inl ⟨by rfl, ?hy777⟩) (by assumption) ?_
  case hy777 => (intro w hSw; (try dsimp only at hSw); go_simp; (try (with_reducible rfl)))
  (try simp only [Act.put, List.setIfInBounds_toArray, List.set_cons_zero, List.set_cons_succ])
  refine wpAnyH_take (i := 3) (oi := ⟨_, _, _, _, _, _⟩) (v := ?v778) rfl (by kernel_rfl) (by kernel_rfl) (by kernel_rfl) (fun _ _ _ h => h) (Or.inl ⟨by rfl, ?hy778⟩) (by assumption) ?_
  case hy778 => (intro w hSw; (try dsimp only at hSw); go_simp; (try (with_reducible rfl)))
  (try simp only [Act.put, List.setIfInBounds_toArray, List.set_cons_zero, List.set_cons_succ])
  refine wpAnyH_take (i := 4) (oi := ⟨_, _, _, _, _, _⟩) (v := ?v779) rfl (by kernel_rfl) (by kernel_rfl) (by kernel_rfl) (fun _ _ _ h => h) (Or.inl ⟨by rfl, ?hy779⟩) (by assumption) ?_
  case hy779 => (intro w hSw; (try dsimp only at hSw); go_simp; (try (with_reducible rfl)))
  (try simp only [Act.put, List.setIfInBounds_toArray, List.set_cons_zero, List.set_cons_succ])
  refine wpAnyH_take (i := 5) (oi := ⟨_, _, _, _, _, _⟩) (v := undef) rfl (by kernel_rfl) (by kernel_rfl) (by kernel_rfl) (fun _ _ _ h => h) (Or.inr ⟨by rfl, rfl⟩) (by assumption) ?_
  (try simp only [Act.put, List.setIfInBounds_toArray, List.set_cons_zero, List.set_cons_succ])
  refine wpAnyH_take (i := 6) (oi := ⟨_, _, _, _, _, _⟩) (v := undef) rfl (by kernel_rfl) (by kernel_rfl) (by kernel_rfl) (fun _ _ _ h => h) (Or.inr ⟨by rfl, rfl⟩) (by assumption) ?_
  (try simp only [Act.put, List.setIfInBounds_toArray, List.set_cons_zero, List.set_cons_succ])
  refine wpAnyH_take (i := 7) (oi := ⟨_, _, _, _, _, _⟩) (v := undef) rfl (by kernel_rfl) (by kernel_rfl) (by kernel_rfl) (fun _ _ _ h => h) (Or.inr ⟨by rfl, rfl⟩) (by assumption) ?_
  (try simp only [Act.put, List.setIfInBounds_toArray, List.set_cons_zero, List.set_cons_succ])
  refine wpAnyH_take (i := 8) (oi := ⟨_, _, _, _, _, _⟩) (v := undef) rfl (by kernel_rfl) (by kernel_rfl) (by kernel_rfl) (fun _ _ _ h => h) (Or.inr ⟨by rfl, rfl⟩) (by assumption) ?_
  (try simp only [Act.put, List.setIfInBounds_toArray, List.set_cons_zero, List.set_cons_succ])
  refine wpAnyH_take (i := 9) (oi := ⟨_, _, _, _, _, _⟩) (v := undef) rfl (by kernel_rfl) (by kernel_rfl) (by kernel_rfl) (fun _ _ _ h => h) (Or.inr ⟨by rfl, rfl⟩) (by assumption) ?_
  (try simp only [Act.put, List.setIfInBounds_toArray, List.set_cons_zero, List.set_cons_succ])
  refine wpAnyH_take (i := 10) (oi := ⟨_, _, _, _, _, _⟩) (v := undef) rfl (by kernel_rfl) (by kernel_rfl) (by kernel_rfl) (fun _ _ _ h => h) (Or.inr ⟨by rfl, rfl⟩) (by assumption) ?_
  (try simp only [Act.put, List.setIfInBounds_toArray, List.set_cons_zero, List.set_cons_succ])
  refine wpAnyH_take (i := 11) (oi := ⟨_, _, _, _, _, _⟩) (v := undef) rfl (by kernel_rfl) (by kernel_rfl) (by kernel_rfl) (fun _ _ _ h => h) (Or.inr ⟨by rfl, rfl⟩) (by assumption) ?_
  (try simp only [Act.put, List.setIfInBounds_toArray, List.set_cons_zero, List.set_cons_succ])
  refine wpAnyH_take (i := 12) (oi := ⟨_, _, _, _, _, _⟩) (v := undef) rfl (by kernel_rfl) (by kernel_rfl) (by kernel_rfl) (fun _ _ _ h => h) (Or.inr ⟨by rfl, rfl⟩) (by assumption) ?_
  (try simp only [Act.put, List.setIfInBounds_toArray, List.set_cons_zero, List.set_cons_succ])
  refine wpAnyH_take (i := 13) (oi := ⟨_, _, _, _, _, _⟩) (v := ?v780) rfl (by kernel_rfl) (by kernel_rfl) (by kernel_rfl) (fun _ _ _ h => h) (Or.inl ⟨by rfl, ?hy780⟩) (by assumption) ?_
  case hy780 => (intro w hSw; (try dsimp only at hSw); go_simp; (try (with_reducible rfl)))
  (try simp only [Act.put, List.setIfInBounds_toArray, List.set_cons_zero, List.set_cons_succ])
  refine wpAnyH_take (i := 14) (oi := ⟨_, _, _, _, _, _⟩) (v := ?v781) rfl (by kernel_rfl) (by kernel_rfl) (by kernel_rfl) (fun _ _ _ h => h) (Or.inl ⟨by rfl, ?hy781⟩) (by assumption) ?_
  case hy781 => (intro w hSw; (try dsimp only at hSw); go_simp; (try (with_reducible rfl)))
  (try simp only [Act.put, List.setIfInBounds_toArray, List.set_cons_zero, List.set_cons_succ])
  refine wpAnyH_take (i := 15) (oi := ⟨_, _, _, _, _, _⟩) (v := ?v782) rfl (by kernel_rfl) (by kernel_rfl) (by kernel_rfl) (fun _ _ _ h => h) (Or.inl ⟨by rfl, ?hy782⟩) (by assumption) ?_
  case hy782 => (intro w hSw; (try dsimp only at hSw); go_simp; (try (with_reducible rfl)))
  (try simp only [Act.put, List.setIfInBounds_toArray, List.set_cons_zero, List.set_cons_succ])
  refine wpAnyH_take (i := 16) (oi := ⟨_, _, _, _, _, _⟩) (v := ?v783) rfl (by kernel_rfl) (by kernel_rfl) (by kernel_rfl) (fun _ _ _ h => h) (Or.inl ⟨by rfl, ?hy783⟩) (by assumption) ?_
  case hy783 => (intro w hSw; (try dsimp only at hSw); go_simp; (try (with_reducible rfl)))
  (try simp only [Act.put, List.setIfInBounds_toArray, List.set_cons_zero, List.set_cons_succ])
  refine wpAnyH_take (i := 17) (oi := ⟨_, _, _, _, _, _⟩) (v := ?v784) rfl (by kernel_rfl) (by kernel_rfl) (by kernel_rfl) (fun _ _ _ h => h) (Or.inl ⟨by rfl, ?hy784⟩) (by assumption) ?_
  case hy784 => (intro w hSw; (try dsimp only at hSw); go_simp; (try (with_reducible rfl)))
  (try simp only [Act.put, List.setIfInBounds_toArray, List.set_cons_zero, List.set_cons_succ])
  refine wpAnyH_take (i := 18) (oi := ⟨_, _, _, _, _, _⟩) (v := ?v785) rfl (by kernel_rfl) (by kernel_rfl) (by kernel_rfl) (fun _ _ _ h => h) (Or.inl ⟨by rfl, ?hy785⟩) (by assumption) ?_
  case hy785 => (intro w hSw; (try dsimp only at hSw); go_simp; (try (with_reducible rfl)))
  (try simp only [Act.put, List.setIfInBounds_toArray, List.set_cons_zero, List.set_cons_succ])
  refine wpAnyH_done (by kernel_rfl) ?_ _
  (try clear hHeld)
  (repeat clear ‹Up w _ ∧ _›)
  go_upto_region 9 with fail
  refine (show ∀ W2 : World, W2 = _ → Code.wp _ _ _ _ W2 from fun W2 hW2 => ?_) _ rfl
  have U2 := Lib.hid (show Up w W2 by rw [hW2]; exact (HU1.out.setCell (Nat.le_refl _) _).drew)
  have b0 : W2.cell? ⟨w.heap.size, 0, none⟩ = some (.int .i64 g) := by rw [hW2]; simp [go_sem, c00]
  have b1 : W2.cell? ⟨w.heap.size, 1, none⟩ = some (.int .i64 v) := by rw [hW2]; simp [go_sem, c01]
  have b2 : W2.cell? ⟨w.heap.size, 2, none⟩ = some (.int .i64 q) := by rw [hW2]; simp [go_sem, c02]
  have b3 : W2.cell? ⟨w.heap.size, 3, none⟩ = some (.int .i64 c) := by rw [hW2]; simp [go_sem, c03]
  have b4 : W2.cell? ⟨w.heap.size, 4, none⟩ = some (.int .i64 now) := by rw [hW2]; simp [go_sem, c04]
  have b5 : W2.cell? ⟨w.heap.size, 5, none⟩ = some (.int .i64 (seq + 1)) := by rw [hW2]; simp [go_sem, c05]
  have b6 : W2.cell? ⟨w.heap.size, 6, none⟩ = some (.slice A n k) := by rw [hW2]; simp [go_sem, c06]
  have r0 : W2.cell? ⟨w.heap.size + 1, 0, none⟩ = some (.int .i64 0) := by rw [hW2]; simp [go_sem, c10]
  have r1 : W2.cell? ⟨w.heap.size + 1, 1, none⟩ = some (.int .i64 0) := by rw [hW2]; simp [go_sem, c11]
  have r2 : W2.cell? ⟨w.heap.size + 1, 2, none⟩ = some (.int .i64 0) := by rw [hW2]; simp [go_sem, c12]
  have r3 : W2.cell? ⟨w.heap.size + 1, 3, none⟩ = some (.int .i64 0) := by rw [hW2]; simp [go_sem, c13]
  have r4 : W2.cell? ⟨w.heap.size + 1, 4, none⟩ = some (.int .i64 0) := by rw [hW2]; simp [go_sem, c14]
  have r5 : W2.cell? ⟨w.heap.size + 1, 5, none⟩ = some (.int .i64 0) := by rw [hW2]; simp [go_sem, c15]
  have r6 : W2.cell? ⟨w.heap.size + 1, 6, none⟩ = some (.slice none 0 0) := by rw [hW2]; simp [go_sem, c16]
  clear hW2 HU1
  (try clear KV KI)
  clear hlt hlt0 c00 c01 c02 c03 c04 c05 c06 c10 c11 c12 c13 c14 c15 c16 z00 z01 z02 z03 z04 z05 z06 z10 z11 z12 z13 z14 z15 z16
  have HSS : Hid (Up w W2 ∧ W2.cell? ⟨w.heap.size, 0, none⟩ = some (.int .i64 g) ∧ W2.cell? ⟨w.heap.size, 1, none⟩ = some (.int .i64 v) ∧ W2.cell? ⟨w.heap.size, 2, none⟩ = some (.int .i64 q) ∧ W2.cell? ⟨w.heap.size, 3, none⟩ = some (.int .i64 c) ∧ W2.cell? ⟨w.heap.size, 4, none⟩ = some (.int .i64 now) ∧ W2.cell? ⟨w.heap.size, 5, none⟩ = some (.int .i64 (seq + 1)) ∧ W2.cell? ⟨(w.heap.size + 1), 0, none⟩ = some (.int .i64 0) ∧ W2.cell? ⟨(w.heap.size + 1), 1, none⟩ = some (.int .i64 0) ∧ W2.cell? ⟨(w.heap.size + 1), 2, none⟩ = some (.int .i64 0) ∧ W2.cell? ⟨(w.heap.size + 1), 3, none⟩ = some (.int .i64 0) ∧ W2.cell? ⟨(w.heap.size + 1), 4, none⟩ = some (.int .i64 0) ∧ W2.cell? ⟨(w.heap.size + 1), 5, none⟩ = some (.int .i64 0) ∧ W2.cell? ⟨(w.heap.size + 1), 6, none⟩ = some (.slice none 0 0)) := Lib.hid ⟨U2.out, b0, b1, b2, b3, b4, b5, r0, r1, r2, r3, r4, r5, r6⟩
  go_wp2_with fail
  refine wp_region_held_drew (S := fun w' => Up w w' ∧ w'.cell? ⟨w.heap.size, 0, none⟩ = some (.int .i64 g) ∧ w'.cell? ⟨w.heap.size, 1, none⟩ = some (.int .i64 v) ∧ w'.cell? ⟨w.heap.size, 2, none⟩ = some (.int .i64 q) ∧ w'.cell? ⟨w.heap.size, 3, none⟩ = some (.int .i64 c) ∧ w'.cell? ⟨w.heap.size, 4, none⟩ = some (.int .i64 now) ∧ w'.cell? ⟨w.heap.size, 5, none⟩ = some (.int .i64 (seq + 1)) ∧ w'.cell? ⟨(w.heap.size + 1), 0, none⟩ = some (.int .i64 0) ∧ w'.cell? ⟨(w.heap.size + 1), 1, none⟩ = some (.int .i64 0) ∧ w'.cell? ⟨(w.heap.size + 1), 2, none⟩ = some (.int .i64 0) ∧ w'.cell? ⟨(w.heap.size + 1), 3, none⟩ = some (.int .i64 0) ∧ w'.cell? ⟨(w.heap.size + 1), 4, none⟩ = some (.int .i64 0) ∧ w'.cell? ⟨(w.heap.size + 1), 5, none⟩ = some (.int .i64 0) ∧ w'.cell? ⟨(w.heap.size + 1), 6, none⟩ = some (.slice none 0 0)) (by kernel_rfl) ?hB786 (fun hHeld => ?_)
  case hB786 => (first | (with_reducible assumption) | (with_reducible exact keepK13 (Lib.hid (Up.refl _).drew) HSS.out) | (with_reducible exact HX3.out) | (with_reducible exact HX4.out) | (with_reducible exact HX5.out) | (with_reducible exact setK13 (Nat.le_refl _) HX5.out))
  refine wpAnyH_take (i := 0) (oi := ⟨_, _, _, _, _, _⟩) (v := ?v787) rfl (by kernel_rfl) (by kernel_rfl) (by kernel_rfl) (fun _ _ _ h => h) (Or.inl ⟨by rfl, ?hy787⟩) (by assumption) ?_
  case hy787 => (intro w hSw; (try dsimp only at hSw); go_simp; (try (with_reducible rfl)))
  (try simp only [Act.put, List.setIfInBounds_toArray, List.set_cons_zero, List.set_cons_succ])
  refine wpAnyH_take (i := 2) (oi := ⟨_, _, _, _, _, _⟩) (v := ?v788) rfl (by kernel_rfl) (by kernel_rfl) (by kernel_rfl) (fun _ _ _ h => h) (Or.inl ⟨by rfl, ?hy788⟩) (by assumption) ?_
  case hy788 => (intro w hSw; (try dsimp only at hSw); go_simp; (try (with_reducible rfl)))
  (try simp only [Act.put, List.setIfInBounds_toArray, List.set_cons_zero, List.set_cons_succ])
  refine wpAnyH_take (i := 3) (oi := ⟨_, _, _, _, _, _⟩) (v := ?v789) rfl (by kernel_rfl) (by kernel_rfl) (by kernel_rfl) (fun _ _ _ h => h) (Or.inl ⟨by rfl, ?hy789⟩) (by assumption) ?_
  case hy789 => (intro w hSw; (try dsimp only at hSw); go_simp; (try (with_reducible rfl)))
  (try simp only [Act.put, List.setIfInBounds_toArray, List.set_cons_zero, List.set_cons_succ])
  refine wpAnyH_take (i := 4) (oi := ⟨_, _, _, _, _, _⟩) (v := ?v790) rfl (by kernel_rfl) (by kernel_rfl) (by kernel_rfl) (fun _ _ _ h => h) (Or.inl ⟨by rfl, ?hy790⟩) (by assumption) ?_
  case hy790 => (intro w hSw; (try dsimp only at hSw); go_simp; (try (with_reducible rfl)))
  (try simp only [Act.put, List.setIfInBounds_toArray, List.set_cons_zero, List.set_cons_succ])
  refine wpAnyH_take (i := 5) (oi := ⟨_, _, _, _, _, _⟩) (v := ?v791) rfl (by kernel_rfl) (by kernel_rfl) (by kernel_rfl) (fun _ _ _ h => h) (Or.inl ⟨by rfl, ?hy791⟩) (by assumption) ?_
  case hy791 => (intro w hSw; (try dsimp only at hSw); go_simp; (try (with_reducible rfl)))
  (try simp only [Act.put, List.setIfInBounds_toArray, List.set_cons_zero, List.set_cons_succ])
  refine wpAnyH_take (i := 6) (oi := ⟨_, _, _, _, _, _⟩) (v := ?v792) rfl (by kernel_rfl) (by kernel_rfl) (by kernel_rfl) (fun _ _ _ h => h) (Or.inl ⟨by rfl, ?hy792⟩) (by assumption) ?_
  case hy792 => (intro w hSw; (try dsimp only at hSw); go_simp; (try (with_reducible rfl)))
  (try simp only [Act.put, List.setIfInBounds_toArray, List.set_cons_zero, List.set_cons_succ])
  refine wpAnyH_take (i := 8) (oi := ⟨_, _, _, _, _, _⟩) (v := ?v793) rfl (by kernel_rfl) (by kernel_rfl) (by kernel_rfl) (fun _ _ _ h => h) (Or.inl ⟨by rfl, ?hy793⟩) (by assumption) ?_
  case hy793 => (intro w hSw; (try dsimp only at hSw); go_simp; (try (with_reducible rfl)))
  (try simp only [Act.put, List.setIfInBounds_toArray, List.set_cons_zero, List.set_cons_succ])
  refine wpAnyH_take (i := 9) (oi := ⟨_, _, _, _, _, _⟩) (v := ?v794) rfl (by kernel_rfl) (by kernel_rfl) (by kernel_rfl) (fun _ _ _ h => h) (Or.inl ⟨by rfl, ?hy794⟩) (by assumption) ?_
  case hy794 => (intro w hSw; (try dsimp only at hSw); go_simp; (try (with_reducible rfl)))
  (try simp only [Act.put, List.setIfInBounds_toArray, List.set_cons_zero, List.set_cons_succ])
  refine wpAnyH_take (i := 10) (oi := ⟨_, _, _, _, _, _⟩) (v := ?v795) rfl (by kernel_rfl) (by kernel_rfl) (by kernel_rfl) (fun _ _ _ h => h) (Or.inl ⟨by rfl, ?hy795⟩) (by assumption) ?_
  case hy795 => (intro w hSw; (try dsimp only at hSw); go_simp; (try (with_reducible rfl)))
  (try simp only [Act.put, List.setIfInBounds_toArray, List.set_cons_zero, List.set_cons_succ])
  refine wpAnyH_take (i := 11) (oi := ⟨_, _, _, _, _, _⟩) (v := ?v796) rfl (by kernel_rfl) (by kernel_rfl) (by kernel_rfl) (fun _ _ _ h => h) (Or.inl ⟨by rfl, ?hy796⟩) (by assumption) ?_
  case hy796 => (intro w hSw; (try dsimp only at hSw); go_simp; (try (with_reducible rfl)))
  (try simp only [Act.put, List.setIfInBounds_toArray, List.set_cons_zero, List.set_cons_succ])
  refine wpAnyH_ready (rs := [1]) (by kernel_rfl) (by simp) ?_
  refine AllReadyH.cons (o := ⟨_, _, _, _, _, _⟩) rfl (fun K hK => ?_) AllReadyH.nil
  go_simp
  refine hK.out _ _ ?hB797 (fun hHeld => ?_)
  case hB797 => (first | (with_reducible assumption) | (with_reducible exact keepK13 (Lib.hid (Up.refl _).drew) HSS.out) | (with_reducible exact HX3.out) | (with_reducible exact HX4.out) | (with_reducible exact HX5.out) | (with_reducible exact setK13 (Nat.le_refl _) HX5.out))
  clear hK K
  (try simp only [Act.put, List.setIfInBounds_toArray, List.set_cons_zero, List.set_cons_succ])
  refine wpAnyH_ready (rs := [7]) (by kernel_rfl) (by simp) ?_
  refine AllReadyH.cons (o := ⟨_, _, _, _, _, _⟩) rfl (fun K hK => ?_) AllReadyH.nil
  go_simp
  (go_at_call 56; (with_reducible refine (KE.out _ U2.out.drew).mono ?_); rintro e w3 ⟨A3, k3, rfl, hu, hM⟩; have HM3 := Lib.hid hM; have HU3 := Lib.hid hu; have HX3 := Lib.hid (keepK13 HU3 hHeld); clear hu hM)
  (try go_wp2_with fail)
  refine hK.out _ _ ?hB798 (fun hHeld => ?_)
  case hB798 => (first | (with_reducible assumption) | (with_reducible exact keepK13 (Lib.hid (Up.refl _).drew) HSS.out) | (with_reducible exact HX3.out) | (with_reducible exact HX4.out) | (with_reducible exact HX5.out) | (with_reducible exact setK13 (Nat.le_refl _) HX5.out))
  clear hK K
  (try simp only [Act.put, List.setIfInBounds_toArray, List.set_cons_zero, List.set_cons_succ])
  refine wpAnyH_ready (rs := [12]) (by kernel_rfl) (by simp) ?_
  refine AllReadyH.cons (o := ⟨_, _, _, _, _, _⟩) rfl (fun K hK => ?_) AllReadyH.nil
  go_simp
  (go_at_call 57; (with_reducible refine (KN.out _).mono ?_); rintro e w4 ⟨xa, xb, rfl, hu, cb, ca⟩; have HU4 := Lib.hid hu; have HX4 := Lib.hid (keepK13 HU4 hHeld); have CB := Lib.hid cb; have CA := Lib.hid ca; clear hu cb ca)
  (try go_wp2_with fail)
  refine hK.out _ _ ?hB799 (fun hHeld => ?_)
  case hB799 => (first | (with_reducible assumption) | (with_reducible exact keepK13 (Lib.hid (Up.refl _).drew) HSS.out) | (with_reducible exact HX3.out) | (with_reducible exact HX4.out) | (with_reducible exact HX5.out) | (with_reducible exact setK13 (Nat.le_refl _) HX5.out))
  clear hK K
  (try simp only [Act.put, List.setIfInBounds_toArray, List.set_cons_zero, List.set_cons_succ])
  refine wpAnyH_ready (rs := [13]) (by kernel_rfl) (by simp) ?_
  refine AllReadyH.cons (o := ⟨_, _, _, _, _, _⟩) rfl (fun K hK => ?_) AllReadyH.nil
  go_simp
  (go_at_call 55; (with_reducible refine (KP.out xb xa A3 k3 _ (HM3.out.up HU4.out) CB.out CA.out).mono ?_); rintro e w5 ⟨A5, n5, k5, rfl, hn5, hk5, hnw, hu, hM⟩; have HM5 := Lib.hid hM; have HNW := Lib.hid hnw; have HU5 := Lib.hid hu; have HX5 := Lib.hid (keepK13 HU5 hHeld); have c06 := (((Up.refl W2).drew.trans HU3.out).trans (HU4.out.trans hu)).keep _ _ _ b6; have z06 := HX5.out.1.ownGe (g := w.heap.size) (Nat.le_refl _) 6; clear hu hM hnw)
  (try go_wp2_with fail)
  refine hK.out _ _ ?hB800 (fun hHeld => ?_)
  case hB800 => (first | (with_reducible assumption) | (with_reducible exact keepK13 (Lib.hid (Up.refl _).drew) HSS.out) | (with_reducible exact HX3.out) | (with_reducible exact HX4.out) | (with_reducible exact HX5.out) | (with_reducible exact setK13 (Nat.le_refl _) HX5.out))
  clear hK K
  (try simp only [Act.put, List.setIfInBounds_toArray, List.set_cons_zero, List.set_cons_succ])
  refine wpAnyH_take (i := 14) (oi := ⟨_, _, _, _, _, _⟩) (v := ?v801) rfl (by kernel_rfl) (by kernel_rfl) (by kernel_rfl) (fun _ _ _ h => h) (Or.inl ⟨by rfl, ?hy801⟩) (by assumption) ?_
  case hy801 => (intro w hSw; (try dsimp only at hSw); go_simp; (try (with_reducible rfl)))
  (try simp only [Act.put, List.setIfInBounds_toArray, List.set_cons_zero, List.set_cons_succ])
  refine wpAnyH_ready (rs := [15]) (by kernel_rfl) (by simp) ?_
  refine AllReadyH.cons (o := ⟨_, _, _, _, _, _⟩) rfl (fun K hK => ?_) AllReadyH.nil
  go_simp
  refine hK.out _ _ ?hB802 (fun hHeld => ?_)
  case hB802 => (first | (with_reducible assumption) | (with_reducible exact keepK13 (Lib.hid (Up.refl _).drew) HSS.out) | (with_reducible exact HX3.out) | (with_reducible exact HX4.out) | (with_reducible exact HX5.out) | (with_reducible exact setK13 (Nat.le_refl _) HX5.out))
  clear hK K
  (try simp only [Act.put, List.setIfInBounds_toArray, List.set_cons_zero, List.set_cons_succ])
  refine wpAnyH_done (by kernel_rfl) ?_ _
  clear hHeld
  obtain ⟨UU, c00, c01, c02, c03, c04, c05, c10, c11, c12, c13, c14, c15, c16⟩ := HX5.out
  have z10 := UU.ownGe (g := w.heap.size + 1) (by omega) 0
  have z11 := UU.ownGe (g := w.heap.size + 1) (by omega) 1
  have z12 := UU.ownGe (g := w.heap.size + 1) (by omega) 2
  have z13 := UU.ownGe (g := w.heap.size + 1) (by omega) 3
  have z14 := UU.ownGe (g := w.heap.size + 1) (by omega) 4
  have z15 := UU.ownGe (g := w.heap.size + 1) (by omega) 5
  have z16 := UU.ownGe (g := w.heap.size + 1) (by omega) 6
  have UU := Lib.hid UU
  have hlt := World.block_lt_of_cell? _ _ c10
  have hlt4 := World.block_lt_of_cell? _ _ HX4.out.2.2.2.2.2.2.2.1
  clear HX3 HX4 HX5 HSS b0 b1 b2 b3 b4 b5 b6 r0 r1 r2 r3 r4 r5 r6
  go_wp2_with fail
  refine bodyPost_ret (v := .tuple #[.agg #[.int .i64 g, .int .i64 v, .int .i64 q, .int .i64 c, .int .i64 now, .int .i64 (seq + 1), .slice A5 n5 k5], .int .i64 0]) (by simp [results, Try.results23, go_sem, c10, c11, c12, c13, c14, c15, c16]) rfl ⟨A5, n5, k5, rfl, hn5, hk5, fun b_ o_ h_ => by have := HNW.out b_ o_ h_; omega, ?_, ?_⟩
  · exact (UU.out.setCell (Nat.le_refl _) _).set7 (by omega)
  · exact (HM5.out.off (fun b_ o_ h_ => by have := HNW.out b_ o_ h_; omega) _).off7 (fun b_ o_ h_ => by have := HNW.out b_ o_ h_; omega) _ _ _ _ _ _ _
theorem add13_good (g v q c now seq d : Int) (n k : Nat) (A : Option Addr) (X : List Mrk) (hn : n ≤ 50000) (hk : n ≤ k) (hv : stM g v q c now seq X = true) (hd : valG g d) (hf : fuM c seq X = false) (w : World) (hS : SG cM w A n X) :
    Calls Try.prog 23 #[.agg #[.int .i64 g, .int .i64 v, .int .i64 q, .int .i64 c, .int .i64 now, .int .i64 seq, .slice A n k], .int .i64 d] w fun e w' => ∃ A' n' k', e = .returned (.tuple #[.agg #[.int .i64 g, .int .i64 v, .int .i64 q, .int .i64 c, .int .i64 now, .int .i64 (seq + 1), .slice A' n' k'], .int .i64 0]) ∧ n' ≤ n + 1 ∧ n' ≤ k' ∧ Nw w A' ∧ Up w w' ∧ SG cM w' A' n' (adM g q seq now d X) := by
  by_cases h0 : 0 < n
  · exact add13_good_pos g v q c now seq d n k A X hn hk h0 hv hd hf w hS
  · exact add13_good_zero g v q c now seq d n k A X hn hk h0 hv hd hf w hS
end Go.Proofs.Ytchikndofpkjmaa
