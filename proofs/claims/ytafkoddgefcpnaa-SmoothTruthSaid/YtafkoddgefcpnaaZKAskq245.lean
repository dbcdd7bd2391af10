/- Ask of package smooth and of its reference. -/
import Derived.Test.YtafkoddgefcpnaaRows
import Derived.Test.YtafkoddgefcpnaaZKMeq200
import Derived.Test.YtafkoddgefcpnaaZKNewq195
import Derived.Test.YtafkoddgefcpnaaZRQuoq225
namespace Go.Proofs.Ytafkoddgefcpnaa
open Go.RowKit
set_option linter.unusedVariables false

theorem far6 {w : World} {p g o : Nat} {v0 v1 v2 v3 v4 v5 : Value} {u : Value} (h : w.cell? ⟨g, o, none⟩ = some u) (hp : p ≠ g) : ((((((w.setCell ⟨p, 0, none⟩ v0).setCell ⟨p, 1, none⟩ v1).setCell ⟨p, 2, none⟩ v2).setCell ⟨p, 3, none⟩ v3).setCell ⟨p, 4, none⟩ v4).setCell ⟨p, 5, none⟩ v5).cell? ⟨g, o, none⟩ = some u :=
  (cell_far hp).trans ((cell_far hp).trans ((cell_far hp).trans ((cell_far hp).trans ((cell_far hp).trans ((cell_far hp).trans h)))))
theorem set6cells {w : World} {p : Nat} {v0 v1 v2 v3 v4 v5 x0 x1 x2 x3 x4 x5 : Value} (e0 : w.cell? ⟨p, 0, none⟩ = some x0) (e1 : w.cell? ⟨p, 1, none⟩ = some x1) (e2 : w.cell? ⟨p, 2, none⟩ = some x2) (e3 : w.cell? ⟨p, 3, none⟩ = some x3) (e4 : w.cell? ⟨p, 4, none⟩ = some x4) (e5 : w.cell? ⟨p, 5, none⟩ = some x5) :
    let W := (((((w.setCell ⟨p, 0, none⟩ v0).setCell ⟨p, 1, none⟩ v1).setCell ⟨p, 2, none⟩ v2).setCell ⟨p, 3, none⟩ v3).setCell ⟨p, 4, none⟩ v4).setCell ⟨p, 5, none⟩ v5
    W.cell? ⟨p, 0, none⟩ = some v0 ∧ W.cell? ⟨p, 1, none⟩ = some v1 ∧ W.cell? ⟨p, 2, none⟩ = some v2 ∧ W.cell? ⟨p, 3, none⟩ = some v3 ∧ W.cell? ⟨p, 4, none⟩ = some v4 ∧ W.cell? ⟨p, 5, none⟩ = some v5 :=
  ⟨cell_set (cell_set (cell_set (cell_set (cell_set (cell_set e0))))), cell_set (cell_set (cell_set (cell_set (cell_set (cell_set e1))))), cell_set (cell_set (cell_set (cell_set (cell_set (cell_set e2))))), cell_set (cell_set (cell_set (cell_set (cell_set (cell_set e3))))), cell_set (cell_set (cell_set (cell_set (cell_set (cell_set e4))))), cell_set (cell_set (cell_set (cell_set (cell_set (cell_set e5)))))⟩
theorem set6K15 {w w1 : World} {p pa pb pc : Nat} {x0 x1 x2 x3 x4 x5 x6 x7 x8 x9 x10 x11 x12 x13 x14 v0 v1 v2 v3 v4 v5 : Value} (h : Up w w1 ∧ w1.cell? ⟨pa, 0, none⟩ = some x0 ∧ w1.cell? ⟨pb, 0, none⟩ = some x1 ∧ w1.cell? ⟨pb, 1, none⟩ = some x2 ∧ w1.cell? ⟨pb, 2, none⟩ = some x3 ∧ w1.cell? ⟨pb, 3, none⟩ = some x4 ∧ w1.cell? ⟨pb, 4, none⟩ = some x5 ∧ w1.cell? ⟨pb, 5, none⟩ = some x6 ∧ w1.cell? ⟨pb, 6, none⟩ = some x7 ∧ w1.cell? ⟨pc, 0, none⟩ = some x8 ∧ w1.cell? ⟨pc, 1, none⟩ = some x9 ∧ w1.cell? ⟨pc, 2, none⟩ = some x10 ∧ w1.cell? ⟨pc, 3, none⟩ = some x11 ∧ w1.cell? ⟨pc, 4, none⟩ = some x12 ∧ w1.cell? ⟨pc, 5, none⟩ = some x13 ∧ w1.cell? ⟨pc, 6, none⟩ = some x14) (hp : w.heap.size ≤ p) (ha : p ≠ pa) (hb : p ≠ pb) (hc : p ≠ pc) : Up w ((((((w1.setCell ⟨p, 0, none⟩ v0).setCell ⟨p, 1, none⟩ v1).setCell ⟨p, 2, none⟩ v2).setCell ⟨p, 3, none⟩ v3).setCell ⟨p, 4, none⟩ v4).setCell ⟨p, 5, none⟩ v5) ∧ ((((((w1.setCell ⟨p, 0, none⟩ v0).setCell ⟨p, 1, none⟩ v1).setCell ⟨p, 2, none⟩ v2).setCell ⟨p, 3, none⟩ v3).setCell ⟨p, 4, none⟩ v4).setCell ⟨p, 5, none⟩ v5).cell? ⟨pa, 0, none⟩ = some x0 ∧ ((((((w1.setCell ⟨p, 0, none⟩ v0).setCell ⟨p, 1, none⟩ v1).setCell ⟨p, 2, none⟩ v2).setCell ⟨p, 3, none⟩ v3).setCell ⟨p, 4, none⟩ v4).setCell ⟨p, 5, none⟩ v5).cell? ⟨pb, 0, none⟩ = some x1 ∧ ((((((w1.setCell ⟨p, 0, none⟩ v0).setCell ⟨p, 1, none⟩ v1).setCell ⟨p, 2, none⟩ v2).setCell ⟨p, 3, none⟩ v3).setCell ⟨p, 4, none⟩ v4).setCell ⟨p, 5, none⟩ v5).cell? ⟨pb, 1, none⟩ = some x2 ∧ ((((((w1.setCell ⟨p, 0, none⟩ v0).setCell ⟨p, 1, none⟩ v1).setCell ⟨p, 2, none⟩ v2).setCell ⟨p, 3, none⟩ v3).setCell ⟨p, 4, none⟩ v4).setCell ⟨p, 5, none⟩ v5).cell? ⟨pb, 2, none⟩ = some x3 ∧ ((((((w1.setCell ⟨p, 0, none⟩ v0).setCell ⟨p, 1, none⟩ v1).setCell ⟨p, 2, none⟩ v2).setCell ⟨p, 3, none⟩ v3).setCell ⟨p, 4, none⟩ v4).setCell ⟨p, 5, none⟩ v5).cell? ⟨pb, 3, none⟩ = some x4 ∧ ((((((w1.setCell ⟨p, 0, none⟩ v0).setCell ⟨p, 1, none⟩ v1).setCell ⟨p, 2, none⟩ v2).setCell ⟨p, 3, none⟩ v3).setCell ⟨p, 4, none⟩ v4).setCell ⟨p, 5, none⟩ v5).cell? ⟨pb, 4, none⟩ = some x5 ∧ ((((((w1.setCell ⟨p, 0, none⟩ v0).setCell ⟨p, 1, none⟩ v1).setCell ⟨p, 2, none⟩ v2).setCell ⟨p, 3, none⟩ v3).setCell ⟨p, 4, none⟩ v4).setCell ⟨p, 5, none⟩ v5).cell? ⟨pb, 5, none⟩ = some x6 ∧ ((((((w1.setCell ⟨p, 0, none⟩ v0).setCell ⟨p, 1, none⟩ v1).setCell ⟨p, 2, none⟩ v2).setCell ⟨p, 3, none⟩ v3).setCell ⟨p, 4, none⟩ v4).setCell ⟨p, 5, none⟩ v5).cell? ⟨pb, 6, none⟩ = some x7 ∧ ((((((w1.setCell ⟨p, 0, none⟩ v0).setCell ⟨p, 1, none⟩ v1).setCell ⟨p, 2, none⟩ v2).setCell ⟨p, 3, none⟩ v3).setCell ⟨p, 4, none⟩ v4).setCell ⟨p, 5, none⟩ v5).cell? ⟨pc, 0, none⟩ = some x8 ∧ ((((((w1.setCell ⟨p, 0, none⟩ v0).setCell ⟨p, 1, none⟩ v1).setCell ⟨p, 2, none⟩ v2).setCell ⟨p, 3, none⟩ v3).setCell ⟨p, 4, none⟩ v4).setCell ⟨p, 5, none⟩ v5).cell? ⟨pc, 1, none⟩ = some x9 ∧ ((((((w1.setCell ⟨p, 0, none⟩ v0).setCell ⟨p, 1, none⟩ v1).setCell ⟨p, 2, none⟩ v2).setCell ⟨p, 3, none⟩ v3).setCell ⟨p, 4, none⟩ v4).setCell ⟨p, 5, none⟩ v5).cell? ⟨pc, 2, none⟩ = some x10 ∧ ((((((w1.setCell ⟨p, 0, none⟩ v0).setCell ⟨p, 1, none⟩ v1).setCell ⟨p, 2, none⟩ v2).setCell ⟨p, 3, none⟩ v3).setCell ⟨p, 4, none⟩ v4).setCell ⟨p, 5, none⟩ v5).cell? ⟨pc, 3, none⟩ = some x11 ∧ ((((((w1.setCell ⟨p, 0, none⟩ v0).setCell ⟨p, 1, none⟩ v1).setCell ⟨p, 2, none⟩ v2).setCell ⟨p, 3, none⟩ v3).setCell ⟨p, 4, none⟩ v4).setCell ⟨p, 5, none⟩ v5).cell? ⟨pc, 4, none⟩ = some x12 ∧ ((((((w1.setCell ⟨p, 0, none⟩ v0).setCell ⟨p, 1, none⟩ v1).setCell ⟨p, 2, none⟩ v2).setCell ⟨p, 3, none⟩ v3).setCell ⟨p, 4, none⟩ v4).setCell ⟨p, 5, none⟩ v5).cell? ⟨pc, 5, none⟩ = some x13 ∧ ((((((w1.setCell ⟨p, 0, none⟩ v0).setCell ⟨p, 1, none⟩ v1).setCell ⟨p, 2, none⟩ v2).setCell ⟨p, 3, none⟩ v3).setCell ⟨p, 4, none⟩ v4).setCell ⟨p, 5, none⟩ v5).cell? ⟨pc, 6, none⟩ = some x14 :=
  ⟨h.1.set6 hp, far6 h.2.1 ha, far6 h.2.2.1 hb, far6 h.2.2.2.1 hb, far6 h.2.2.2.2.1 hb, far6 h.2.2.2.2.2.1 hb, far6 h.2.2.2.2.2.2.1 hb, far6 h.2.2.2.2.2.2.2.1 hb, far6 h.2.2.2.2.2.2.2.2.1 hb, far6 h.2.2.2.2.2.2.2.2.2.1 hc, far6 h.2.2.2.2.2.2.2.2.2.2.1 hc, far6 h.2.2.2.2.2.2.2.2.2.2.2.1 hc, far6 h.2.2.2.2.2.2.2.2.2.2.2.2.1 hc, far6 h.2.2.2.2.2.2.2.2.2.2.2.2.2.1 hc, far6 h.2.2.2.2.2.2.2.2.2.2.2.2.2.2.1 hc, far6 h.2.2.2.2.2.2.2.2.2.2.2.2.2.2.2 hc⟩
/-- Bounds between two whole numbers. -/
def bV (lo hi : Int) : Value := .agg #[.int .i64 (oz (decide (lo ≤ hi)) lo), .int .i64 (oz (decide (lo ≤ hi)) 1), .int .i64 (oz (decide (lo ≤ hi)) (mid lo hi)), .int .i64 (oz (decide (lo ≤ hi)) 1), .int .i64 (oz (decide (lo ≤ hi)) hi), .int .i64 (oz (decide (lo ≤ hi)) 1)]
def akM (ok : Bool) (p : Int × Int) : Value := if ok = true then .tuple #[bV p.1 p.2, .int .i64 0] else .tuple #[.agg #[.int .i64 0, .int .i64 0, .int .i64 0, .int .i64 0, .int .i64 0, .int .i64 0], .int .i64 2]
/-- A valid state's first mark is live if it is the only one. -/
theorem one_live {g v q c now seq : Int} {X : List Mrk} (h : stM g v q c now seq X = true) (h1 : X.length = 1) : liveB now v (X.getD 0 mk0).t = true := by
  obtain ⟨hm, hx, _⟩ := stM_true h
  have hp := ((okB_pk hm).1 ((mrkB_true hx).2 0 (by omega))).1
  exact hp.2.2 (Or.inr h1)
theorem ofZ_in {g : Int} {m : Mrk} (h : bdM m) : In (ofZ g m) := by
  have := (bdM_of (g := g) h).1
  unfold In; omega

theorem enM_ok {P : Mrk → Prop} {now v : Int} {X : List Mrk} (h0 : P mk0) (h : ∀ j, j < X.length → P (X.getD j mk0)) : P (enM now v X).1 ∧ P (enM now v X).2 := by
  match X, h with
  | [], _ => exact ⟨h0, h0⟩
  | [a], h => exact ⟨h 0 (by simp), h 0 (by simp)⟩
  | a :: b :: R, h =>
    have ha : P a := h 0 (by simp)
    have hb : P b := h 1 (by simp)
    simp only [enM]
    split
    · exact ⟨ha, ha⟩
    · split
      · exact ⟨hb, hb⟩
      · exact ⟨hb, ha⟩
theorem ofZ_0 (g : Int) : ofZ g mk0 = 0 := by
  unfold ofZ mk0
  repeat' split
  all_goals rfl
theorem enM_asM (g : Int) {now v : Int} {X : List Mrk} (h1 : X.length = 1 → liveB now v (X.getD 0 mk0).t = true) : asM g now v X = (ofZ g (enM now v X).1, ofZ g (enM now v X).2) := by
  match X, h1 with
  | [], _ => simp [asM, enM, ofZ_0]
  | [a], h1 =>
    have h : liveB now v a.t = true := h1 rfl
    simp only [asM, enM, if_pos h]
  | a :: b :: R, _ =>
    simp only [asM, enM]
    split
    · rfl
    · split <;> rfl

set_option maxHeartbeats 4000000 in
set_option maxRecDepth 100000 in
theorem ask13_bad (g v q c now seq : Int) (n k : Nat) (A : Option Addr) (X : List Mrk) (hn : n ≤ 50000) (hv : stM g v q c now seq X = false) (w : World) (hS : SG cM w A n X) :
    Calls Try.prog 28 #[.agg #[.int .i64 g, .int .i64 v, .int .i64 q, .int .i64 c, .int .i64 now, .int .i64 seq, .slice A n k]] w fun e w' => e = .returned (.tuple #[.agg #[.int .i64 0, .int .i64 0, .int .i64 0, .int .i64 0, .int .i64 0, .int .i64 0], .int .i64 2]) ∧ Up w w' := by
  have KV := Lib.hid (fun W (h : SG cM W A n X) => validate13_up g v q c now seq n k A X hn W h)
  rw [stME_no hv] at KV
  have HS := Lib.hid hS
  clear hS hv
  go_enter Try.func28, Try.ntmps28
  go_wp2_with (go_at_call 22; (with_reducible refine (KV.out _ (HS.out.up (((Up.refl w).alloc _ _).alloc _ _))).mono ?_); rintro e w1 ⟨rfl, hu⟩; have HW := Lib.hid ((((Up.refl w).alloc #[.int .i64 g, .int .i64 v, .int .i64 q, .int .i64 c, .int .i64 now, .int .i64 seq, .slice A n k] 26).alloc #[.int .i64 0, .int .i64 0, .int .i64 0, .int .i64 0, .int .i64 0, .int .i64 0] 42).trans hu); have a0 := hu.keep (w.heap.size) 0 (.int .i64 g) (by simp [go_sem]); have a1 := hu.keep (w.heap.size) 1 (.int .i64 v) (by simp [go_sem]); have a2 := hu.keep (w.heap.size) 2 (.int .i64 q) (by simp [go_sem]); have a3 := hu.keep (w.heap.size) 3 (.int .i64 c) (by simp [go_sem]); have a4 := hu.keep (w.heap.size) 4 (.int .i64 now) (by simp [go_sem]); have a5 := hu.keep (w.heap.size) 5 (.int .i64 seq) (by simp [go_sem]); have a6 := hu.keep (w.heap.size) 6 (.slice A n k) (by simp [go_sem]); have r0 := hu.keep (w.heap.size + 1) 0 (.int .i64 0) (by simp [go_sem]); have r1 := hu.keep (w.heap.size + 1) 1 (.int .i64 0) (by simp [go_sem]); have r2 := hu.keep (w.heap.size + 1) 2 (.int .i64 0) (by simp [go_sem]); have r3 := hu.keep (w.heap.size + 1) 3 (.int .i64 0) (by simp [go_sem]); have r4 := hu.keep (w.heap.size + 1) 4 (.int .i64 0) (by simp [go_sem]); have r5 := hu.keep (w.heap.size + 1) 5 (.int .i64 0) (by simp [go_sem]); have z0 := HW.out.ownGe (g := w.heap.size + 1) (by omega) 0; have z1 := HW.out.ownGe (g := w.heap.size + 1) (by omega) 1; have z2 := HW.out.ownGe (g := w.heap.size + 1) (by omega) 2; have z3 := HW.out.ownGe (g := w.heap.size + 1) (by omega) 3; have z4 := HW.out.ownGe (g := w.heap.size + 1) (by omega) 4; have z5 := HW.out.ownGe (g := w.heap.size + 1) (by omega) 5; clear hu)
  refine bodyPost_ret (v := .tuple #[.agg #[.int .i64 0, .int .i64 0, .int .i64 0, .int .i64 0, .int .i64 0, .int .i64 0], .int .i64 2]) (by simp [results, Try.results28, go_sem, r0, r1, r2, r3, r4, r5]) rfl ⟨rfl, ?_⟩
  exact HW.out.set6 (by omega)

set_option maxHeartbeats 4000000 in
set_option maxRecDepth 100000 in
theorem ask13_good (g v q c now seq : Int) (n k : Nat) (A : Option Addr) (X : List Mrk) (hn : n ≤ 50000) (hv : stM g v q c now seq X = true) (w : World) (hS : SG cM w A n X) :
    Calls Try.prog 28 #[.agg #[.int .i64 g, .int .i64 v, .int .i64 q, .int .i64 c, .int .i64 now, .int .i64 seq, .slice A n k]] w fun e w' => e = .returned (.tuple #[bV (ofZ g (enM now v X).1) (ofZ g (enM now v X).2), .int .i64 0]) ∧ Up w w' := by
  have KV := Lib.hid (fun W (h : SG cM W A n X) => validate13_up g v q c now seq n k A X hn W h)
  rw [stME_yes hv] at KV
  have HS := Lib.hid hS
  have hbd : ∀ j, j < n → bdM (X.getD j mk0) := mrk_bds hS.1 (stM_true hv).1 (stM_true hv).2.1
  have KE := Lib.hid (fun W (hu : Up w W) => mends_up g v q c now seq n k A X hn (fun e => one_live hv (by rw [hS.1]; exact e)) hbd W (hS.up hu))
  obtain ⟨q1, q2⟩ := enM_ok (P := fun m => In (ofZ g m) ∧ In m.lo ∧ In m.hi) (now := now) (v := v) (X := X) ⟨by rw [ofZ_0]; exact ⟨by omega, by omega⟩, ⟨by decide, by decide⟩, ⟨by decide, by decide⟩⟩ (fun j hj => ⟨ofZ_in (hbd j (by rw [← hS.1]; exact hj)), (bdM_of (g := g) (hbd j (by rw [← hS.1]; exact hj))).2⟩)
  clear hS hv hbd
  generalize (enM now v X).1 = Ma at *
  generalize (enM now v X).2 = Mb at *
  obtain ⟨sq1, t1, nn1, s1, qq1, lo1, hi1⟩ := Ma
  obtain ⟨sq2, t2, nn2, s2, qq2, lo2, hi2⟩ := Mb
  simp only [mg] at KE
  obtain ⟨i1, l1, h1⟩ := q1
  obtain ⟨i2, l2, h2⟩ := q2
  have K1 := Lib.hid (of13_up g sq1 t1 nn1 s1 qq1 lo1 hi1 l1 h1)
  have K2 := Lib.hid (of13_up g sq2 t2 nn2 s2 qq2 lo2 hi2 l2 h2)
  generalize ofZ g ⟨sq1, t1, nn1, s1, qq1, lo1, hi1⟩ = x1 at *
  generalize ofZ g ⟨sq2, t2, nn2, s2, qq2, lo2, hi2⟩ = x2 at *
  obtain ⟨y0, y1, y2, y3, y4, y5, bb, ey, KW⟩ : ∃ y0 y1 y2 y3 y4 y5 bb, bV x1 x2 = .agg #[.int .i64 y0, .int .i64 y1, .int .i64 y2, .int .i64 y3, .int .i64 y4, .int .i64 y5] ∧ Hid (∀ W, Calls Try.prog 76 #[.int .i64 x1, .int .i64 x2] W fun e w' => e = .returned (.tuple #[.agg #[.int .i64 y0, .int .i64 y1, .int .i64 y2, .int .i64 y3, .int .i64 y4, .int .i64 y5], .bool bb]) ∧ Up W w') := ⟨_, _, _, _, _, _, _, rfl, Lib.hid (fun W => whole_up x1 x2 i1 i2 W)⟩
  rw [ey]
  clear ey i1 i2 l1 l2 h1 h2
  go_enter Try.func28, Try.ntmps28
  go_upto_region 5 with (first | (go_at_call 22; (with_reducible refine (KV.out _ (HS.out.up (((Up.refl w).alloc _ _).alloc _ _))).mono ?_); rintro e w1 ⟨rfl, hu⟩; have HW := Lib.hid ((((Up.refl w).alloc #[.int .i64 g, .int .i64 v, .int .i64 q, .int .i64 c, .int .i64 now, .int .i64 seq, .slice A n k] 26).alloc #[.int .i64 0, .int .i64 0, .int .i64 0, .int .i64 0, .int .i64 0, .int .i64 0] 42).trans hu); have a0 := hu.keep (w.heap.size) 0 (.int .i64 g) (by simp [go_sem]); have a1 := hu.keep (w.heap.size) 1 (.int .i64 v) (by simp [go_sem]); have a2 := hu.keep (w.heap.size) 2 (.int .i64 q) (by simp [go_sem]); have a3 := hu.keep (w.heap.size) 3 (.int .i64 c) (by simp [go_sem]); have a4 := hu.keep (w.heap.size) 4 (.int .i64 now) (by simp [go_sem]); have a5 := hu.keep (w.heap.size) 5 (.int .i64 seq) (by simp [go_sem]); have a6 := hu.keep (w.heap.size) 6 (.slice A n k) (by simp [go_sem]); have r0 := hu.keep (w.heap.size + 1) 0 (.int .i64 0) (by simp [go_sem]); have r1 := hu.keep (w.heap.size + 1) 1 (.int .i64 0) (by simp [go_sem]); have r2 := hu.keep (w.heap.size + 1) 2 (.int .i64 0) (by simp [go_sem]); have r3 := hu.keep (w.heap.size + 1) 3 (.int .i64 0) (by simp [go_sem]); have r4 := hu.keep (w.heap.size + 1) 4 (.int .i64 0) (by simp [go_sem]); have r5 := hu.keep (w.heap.size + 1) 5 (.int .i64 0) (by simp [go_sem]); have z0 := HW.out.ownGe (g := w.heap.size + 1) (by omega) 0; have z1 := HW.out.ownGe (g := w.heap.size + 1) (by omega) 1; have z2 := HW.out.ownGe (g := w.heap.size + 1) (by omega) 2; have z3 := HW.out.ownGe (g := w.heap.size + 1) (by omega) 3; have z4 := HW.out.ownGe (g := w.heap.size + 1) (by omega) 4; have z5 := HW.out.ownGe (g := w.heap.size + 1) (by omega) 5; clear hu) | (go_at_call 75; (with_reducible refine (KE.out _ HW.out).mono ?_); rintro e w3 ⟨rfl, hu⟩; have HW := Lib.hid (HW.out.trans hu); have a0 := hu.keep _ _ _ a0; have r0 := hu.keep _ _ _ r0; have r1 := hu.keep _ _ _ r1; have r2 := hu.keep _ _ _ r2; have r3 := hu.keep _ _ _ r3; have r4 := hu.keep _ _ _ r4; have r5 := hu.keep _ _ _ r5; have z0 := HW.out.ownGe (g := w.heap.size + 1) (by omega) 0; have z1 := HW.out.ownGe (g := w.heap.size + 1) (by omega) 1; have z2 := HW.out.ownGe (g := w.heap.size + 1) (by omega) 2; have z3 := HW.out.ownGe (g := w.heap.size + 1) (by omega) 3; have z4 := HW.out.ownGe (g := w.heap.size + 1) (by omega) 4; have z5 := HW.out.ownGe (g := w.heap.size + 1) (by omega) 5; clear hu))
  refine (show ∀ W5 : World, W5 = _ → Code.wp _ _ _ _ W5 from fun W5 hW5 => ?_) _ rfl
  have hv : Up w3 W5 := by rw [hW5]; exact ((Up.refl _).alloc _ _).alloc _ _
  have hl3 : w.heap.size + 1 < w3.heap.size := World.block_lt_of_cell? _ _ r0
  have m0 : W5.cell? ⟨w3.heap.size, 0, none⟩ = some (.int .i64 sq1) := by rw [hW5]; simp [go_sem]
  have m1 : W5.cell? ⟨w3.heap.size, 1, none⟩ = some (.int .i64 t1) := by rw [hW5]; simp [go_sem]
  have m2 : W5.cell? ⟨w3.heap.size, 2, none⟩ = some (.int .i64 nn1) := by rw [hW5]; simp [go_sem]
  have m3 : W5.cell? ⟨w3.heap.size, 3, none⟩ = some (.int .i64 s1) := by rw [hW5]; simp [go_sem]
  have m4 : W5.cell? ⟨w3.heap.size, 4, none⟩ = some (.int .i64 qq1) := by rw [hW5]; simp [go_sem]
  have m5 : W5.cell? ⟨w3.heap.size, 5, none⟩ = some (.int .i64 lo1) := by rw [hW5]; simp [go_sem]
  have m6 : W5.cell? ⟨w3.heap.size, 6, none⟩ = some (.int .i64 hi1) := by rw [hW5]; simp [go_sem]
  have e0 : W5.cell? ⟨w3.heap.size + 1, 0, none⟩ = some (.int .i64 sq2) := by rw [hW5]; simp [go_sem]
  have e1 : W5.cell? ⟨w3.heap.size + 1, 1, none⟩ = some (.int .i64 t2) := by rw [hW5]; simp [go_sem]
  have e2 : W5.cell? ⟨w3.heap.size + 1, 2, none⟩ = some (.int .i64 nn2) := by rw [hW5]; simp [go_sem]
  have e3 : W5.cell? ⟨w3.heap.size + 1, 3, none⟩ = some (.int .i64 s2) := by rw [hW5]; simp [go_sem]
  have e4 : W5.cell? ⟨w3.heap.size + 1, 4, none⟩ = some (.int .i64 qq2) := by rw [hW5]; simp [go_sem]
  have e5 : W5.cell? ⟨w3.heap.size + 1, 5, none⟩ = some (.int .i64 lo2) := by rw [hW5]; simp [go_sem]
  have e6 : W5.cell? ⟨w3.heap.size + 1, 6, none⟩ = some (.int .i64 hi2) := by rw [hW5]; simp [go_sem]
  have a0 := hv.keep _ _ _ a0
  have r0 := hv.keep _ _ _ r0
  have r1 := hv.keep _ _ _ r1
  have r2 := hv.keep _ _ _ r2
  have r3 := hv.keep _ _ _ r3
  have r4 := hv.keep _ _ _ r4
  have r5 := hv.keep _ _ _ r5
  have HW := Lib.hid (HW.out.trans hv)
  clear hv hW5 z0 z1 z2 z3 z4 z5
  obtain ⟨p1, hp1⟩ : ∃ p, w3.heap.size = p := ⟨_, rfl⟩
  obtain ⟨p2, hp2⟩ : ∃ p, w3.heap.size + 1 = p := ⟨_, rfl⟩
  rw [hp1] at m0 m1 m2 m3 m4 m5 m6 hl3
  rw [hp2] at e0 e1 e2 e3 e4 e5 e6
  have hp2l : w.heap.size + 1 < p2 := by omega
  have z0 := HW.out.ownGe (g := w.heap.size + 1) (by omega) 0
  have z1 := HW.out.ownGe (g := w.heap.size + 1) (by omega) 1
  have z2 := HW.out.ownGe (g := w.heap.size + 1) (by omega) 2
  have z3 := HW.out.ownGe (g := w.heap.size + 1) (by omega) 3
  have z4 := HW.out.ownGe (g := w.heap.size + 1) (by omega) 4
  have z5 := HW.out.ownGe (g := w.heap.size + 1) (by omega) 5
  (try rw [hp2])
  (try rw [hp1])
  have HSS : Hid (Up w W5 ∧ W5.cell? ⟨w.heap.size, 0, none⟩ = some (.int .i64 g) ∧ W5.cell? ⟨p1, 0, none⟩ = some (.int .i64 sq1) ∧ W5.cell? ⟨p1, 1, none⟩ = some (.int .i64 t1) ∧ W5.cell? ⟨p1, 2, none⟩ = some (.int .i64 nn1) ∧ W5.cell? ⟨p1, 3, none⟩ = some (.int .i64 s1) ∧ W5.cell? ⟨p1, 4, none⟩ = some (.int .i64 qq1) ∧ W5.cell? ⟨p1, 5, none⟩ = some (.int .i64 lo1) ∧ W5.cell? ⟨p1, 6, none⟩ = some (.int .i64 hi1) ∧ W5.cell? ⟨p2, 0, none⟩ = some (.int .i64 sq2) ∧ W5.cell? ⟨p2, 1, none⟩ = some (.int .i64 t2) ∧ W5.cell? ⟨p2, 2, none⟩ = some (.int .i64 nn2) ∧ W5.cell? ⟨p2, 3, none⟩ = some (.int .i64 s2) ∧ W5.cell? ⟨p2, 4, none⟩ = some (.int .i64 qq2) ∧ W5.cell? ⟨p2, 5, none⟩ = some (.int .i64 lo2) ∧ W5.cell? ⟨p2, 6, none⟩ = some (.int .i64 hi2)) := Lib.hid ⟨HW.out, a0, m0, m1, m2, m3, m4, m5, m6, e0, e1, e2, e3, e4, e5, e6⟩
  have hls : w.heap.size + 1 < W5.heap.size := World.block_lt_of_cell? _ _ r0
  have HW := Lib.hid HW.out.drew
  clear a0 hp1 hp2 m0 m1 m2 m3 m4 m5 m6 e0 e1 e2 e3 e4 e5 e6
  go_wp2_with fail
  refine wp_region_held_drew (S := fun w' => Up w w' ∧ w'.cell? ⟨w.heap.size, 0, none⟩ = some (.int .i64 g) ∧ w'.cell? ⟨p1, 0, none⟩ = some (.int .i64 sq1) ∧ w'.cell? ⟨p1, 1, none⟩ = some (.int .i64 t1) ∧ w'.cell? ⟨p1, 2, none⟩ = some (.int .i64 nn1) ∧ w'.cell? ⟨p1, 3, none⟩ = some (.int .i64 s1) ∧ w'.cell? ⟨p1, 4, none⟩ = some (.int .i64 qq1) ∧ w'.cell? ⟨p1, 5, none⟩ = some (.int .i64 lo1) ∧ w'.cell? ⟨p1, 6, none⟩ = some (.int .i64 hi1) ∧ w'.cell? ⟨p2, 0, none⟩ = some (.int .i64 sq2) ∧ w'.cell? ⟨p2, 1, none⟩ = some (.int .i64 t2) ∧ w'.cell? ⟨p2, 2, none⟩ = some (.int .i64 nn2) ∧ w'.cell? ⟨p2, 3, none⟩ = some (.int .i64 s2) ∧ w'.cell? ⟨p2, 4, none⟩ = some (.int .i64 qq2) ∧ w'.cell? ⟨p2, 5, none⟩ = some (.int .i64 lo2) ∧ w'.cell? ⟨p2, 6, none⟩ = some (.int .i64 hi2)) (by kernel_rfl) ?hB703 (fun hHeld => ?_)
  case hB703 => (first | (with_reducible assumption) | (with_reducible exact keepK15 (Lib.hid (Up.refl _).drew) HSS.out) | (with_reducible exact HX.out) | (with_reducible exact keepK15 (Lib.hid ((Up.refl _).alloc _ _)) hHeld) | (with_reducible exact set6K15 hHeld (by omega) (by omega) (by omega) (by omega)))
  refine wpAnyH_take (i := 0) (oi := ⟨_, _, _, _, _, _⟩) (v := ?v704) rfl (by kernel_rfl) (by kernel_rfl) (by kernel_rfl) (fun _ _ _ h => h) (Or.inl ⟨by rfl, ?hy704⟩) (by assumption) ?_
  case hy704 => (intro w hSw; (try dsimp only at hSw); go_simp; (try (with_reducible rfl)))
  (try simp only [Act.put, List.setIfInBounds_toArray, List.set_cons_zero, List.set_cons_succ])
  refine wpAnyH_take (i := 1) (oi := ⟨_, _, _, _, _, _⟩) (v := ?v705) rfl (by kernel_rfl) (by kernel_rfl) (by kernel_rfl) (fun _ _ _ h => h) (Or.inl ⟨by rfl, ?hy705⟩) (by assumption) ?_
  case hy705 => (intro w hSw; (try dsimp only at hSw); go_simp; (try (with_reducible rfl)))
  (try simp only [Act.put, List.setIfInBounds_toArray, List.set_cons_zero, List.set_cons_succ])
  refine wpAnyH_take (i := 2) (oi := ⟨_, _, _, _, _, _⟩) (v := ?v706) rfl (by kernel_rfl) (by kernel_rfl) (by kernel_rfl) (fun _ _ _ h => h) (Or.inl ⟨by rfl, ?hy706⟩) (by assumption) ?_
  case hy706 => (intro w hSw; (try dsimp only at hSw); go_simp; (try (with_reducible rfl)))
  (try simp only [Act.put, List.setIfInBounds_toArray, List.set_cons_zero, List.set_cons_succ])
  refine wpAnyH_take (i := 4) (oi := ⟨_, _, _, _, _, _⟩) (v := ?v707) rfl (by kernel_rfl) (by kernel_rfl) (by kernel_rfl) (fun _ _ _ h => h) (Or.inl ⟨by rfl, ?hy707⟩) (by assumption) ?_
  case hy707 => (intro w hSw; (try dsimp only at hSw); go_simp; (try (with_reducible rfl)))
  (try simp only [Act.put, List.setIfInBounds_toArray, List.set_cons_zero, List.set_cons_succ])
  refine wpAnyH_take (i := 5) (oi := ⟨_, _, _, _, _, _⟩) (v := ?v708) rfl (by kernel_rfl) (by kernel_rfl) (by kernel_rfl) (fun _ _ _ h => h) (Or.inl ⟨by rfl, ?hy708⟩) (by assumption) ?_
  case hy708 => (intro w hSw; (try dsimp only at hSw); go_simp; (try (with_reducible rfl)))
  (try simp only [Act.put, List.setIfInBounds_toArray, List.set_cons_zero, List.set_cons_succ])
  refine wpAnyH_take (i := 6) (oi := ⟨_, _, _, _, _, _⟩) (v := ?v709) rfl (by kernel_rfl) (by kernel_rfl) (by kernel_rfl) (fun _ _ _ h => h) (Or.inl ⟨by rfl, ?hy709⟩) (by assumption) ?_
  case hy709 => (intro w hSw; (try dsimp only at hSw); go_simp; (try (with_reducible rfl)))
  (try simp only [Act.put, List.setIfInBounds_toArray, List.set_cons_zero, List.set_cons_succ])
  refine wpAnyH_ready (rs := [3, 12]) (by kernel_rfl) (by simp) ?_
  refine AllReadyH.cons (o := ⟨_, _, _, _, _, _⟩) rfl (fun K hK => ?_) (AllReadyH.cons (o := ⟨_, _, _, _, _, _⟩) rfl (fun K hK => ?_) (AllReadyH.nil))
  · go_simp
    (go_at_call 16; (with_reducible refine (K1.out _).mono ?_); rintro e w6 ⟨rfl, hu⟩; have HW := Lib.hid (HW.out.trans hu); have HX := Lib.hid (keepK15 (Lib.hid hu) hHeld); have r0 := hu.keep _ _ _ r0; have r1 := hu.keep _ _ _ r1; have r2 := hu.keep _ _ _ r2; have r3 := hu.keep _ _ _ r3; have r4 := hu.keep _ _ _ r4; have r5 := hu.keep _ _ _ r5; have z0 := HW.out.ownGe (g := w.heap.size + 1) (by omega) 0; have z1 := HW.out.ownGe (g := w.heap.size + 1) (by omega) 1; have z2 := HW.out.ownGe (g := w.heap.size + 1) (by omega) 2; have z3 := HW.out.ownGe (g := w.heap.size + 1) (by omega) 3; have z4 := HW.out.ownGe (g := w.heap.size + 1) (by omega) 4; have z5 := HW.out.ownGe (g := w.heap.size + 1) (by omega) 5; clear hu)
    (try go_wp2_with fail)
    refine hK.out _ _ ?hB710 (fun hHeld => ?_)
    case hB710 => (with_reducible exact HX.out)
    clear hK K
    (try simp only [Act.put, List.setIfInBounds_toArray, List.set_cons_zero, List.set_cons_succ])
    refine wpAnyH_ready (rs := [7, 12]) (by kernel_rfl) (by simp) ?_
    refine AllReadyH.cons (o := ⟨_, _, _, _, _, _⟩) rfl (fun K hK => ?_) (AllReadyH.cons (o := ⟨_, _, _, _, _, _⟩) rfl (fun K hK => ?_) (AllReadyH.nil))
    · go_simp
      (go_at_call 16; (with_reducible refine (K2.out _).mono ?_); rintro e w7 ⟨rfl, hu⟩; have HW := Lib.hid (HW.out.trans hu); have HX := Lib.hid (keepK15 (Lib.hid hu) hHeld); have r0 := hu.keep _ _ _ r0; have r1 := hu.keep _ _ _ r1; have r2 := hu.keep _ _ _ r2; have r3 := hu.keep _ _ _ r3; have r4 := hu.keep _ _ _ r4; have r5 := hu.keep _ _ _ r5; have z0 := HW.out.ownGe (g := w.heap.size + 1) (by omega) 0; have z1 := HW.out.ownGe (g := w.heap.size + 1) (by omega) 1; have z2 := HW.out.ownGe (g := w.heap.size + 1) (by omega) 2; have z3 := HW.out.ownGe (g := w.heap.size + 1) (by omega) 3; have z4 := HW.out.ownGe (g := w.heap.size + 1) (by omega) 4; have z5 := HW.out.ownGe (g := w.heap.size + 1) (by omega) 5; clear hu)
      (try go_wp2_with fail)
      refine hK.out _ _ ?hB711 (fun hHeld => ?_)
      case hB711 => (with_reducible exact HX.out)
      clear hK K
      (try simp only [Act.put, List.setIfInBounds_toArray, List.set_cons_zero, List.set_cons_succ])
      refine wpAnyH_ready (rs := [8, 12]) (by kernel_rfl) (by simp) ?_
      refine AllReadyH.cons (o := ⟨_, _, _, _, _, _⟩) rfl (fun K hK => ?_) (AllReadyH.cons (o := ⟨_, _, _, _, _, _⟩) rfl (fun K hK => ?_) (AllReadyH.nil))
      · go_simp
        (go_at_call 76; (with_reducible refine (KW.out _).mono ?_); rintro e w9 ⟨rfl, hu⟩; have HW := Lib.hid (HW.out.trans hu); have HX := Lib.hid (keepK15 (Lib.hid hu) hHeld); have r0 := hu.keep _ _ _ r0; have r1 := hu.keep _ _ _ r1; have r2 := hu.keep _ _ _ r2; have r3 := hu.keep _ _ _ r3; have r4 := hu.keep _ _ _ r4; have r5 := hu.keep _ _ _ r5; have z0 := HW.out.ownGe (g := w.heap.size + 1) (by omega) 0; have z1 := HW.out.ownGe (g := w.heap.size + 1) (by omega) 1; have z2 := HW.out.ownGe (g := w.heap.size + 1) (by omega) 2; have z3 := HW.out.ownGe (g := w.heap.size + 1) (by omega) 3; have z4 := HW.out.ownGe (g := w.heap.size + 1) (by omega) 4; have z5 := HW.out.ownGe (g := w.heap.size + 1) (by omega) 5; clear hu)
        (try go_wp2_with fail)
        refine hK.out _ _ ?hB712 (fun hHeld => ?_)
        case hB712 => (with_reducible exact HX.out)
        clear hK K
        (try simp only [Act.put, List.setIfInBounds_toArray, List.set_cons_zero, List.set_cons_succ])
        refine wpAnyH_take (i := 9) (oi := ⟨_, _, _, _, _, _⟩) (v := ?v715) rfl (by kernel_rfl) (by kernel_rfl) (by kernel_rfl) (fun _ _ _ h => h) (Or.inl ⟨by rfl, ?hy715⟩) (by assumption) ?_
        case hy715 => (intro w hSw; (try dsimp only at hSw); go_simp; (try (with_reducible rfl)))
        (try simp only [Act.put, List.setIfInBounds_toArray, List.set_cons_zero, List.set_cons_succ])
        refine wpAnyH_take (i := 10) (oi := ⟨_, _, _, _, _, _⟩) (v := ?v716) rfl (by kernel_rfl) (by kernel_rfl) (by kernel_rfl) (fun _ _ _ h => h) (Or.inl ⟨by rfl, ?hy716⟩) (by assumption) ?_
        case hy716 => (intro w hSw; (try dsimp only at hSw); go_simp; (try (with_reducible rfl)))
        (try simp only [Act.put, List.setIfInBounds_toArray, List.set_cons_zero, List.set_cons_succ])
        refine wpAnyH_take (i := 11) (oi := ⟨_, _, _, _, _, _⟩) (v := ?v717) rfl (by kernel_rfl) (by kernel_rfl) (by kernel_rfl) (fun _ _ _ h => h) (Or.inl ⟨by rfl, ?hy717⟩) (by assumption) ?_
        case hy717 => (intro w hSw; (try dsimp only at hSw); go_simp; (try (with_reducible rfl)))
        (try simp only [Act.put, List.setIfInBounds_toArray, List.set_cons_zero, List.set_cons_succ])
        refine wpAnyH_ready (rs := [12]) (by kernel_rfl) (by simp) ?_
        refine AllReadyH.cons (o := ⟨_, _, _, _, _, _⟩) rfl (fun K hK => ?_) (AllReadyH.nil)
        have hlt_ : w.heap.size + 1 < w9.heap.size := World.block_lt_of_cell? _ _ r0
        go_simp
        refine hK.out _ _ ?hB713 (fun hHeld => ?_)
        case hB713 => (first | (with_reducible exact keepK15 (Lib.hid ((Up.refl _).alloc _ _)) HX.out))
        clear hK K
        (try simp only [Act.put, List.setIfInBounds_toArray, List.set_cons_zero, List.set_cons_succ])
        refine wpAnyH_ready (rs := [13]) (by kernel_rfl) (by simp) ?_
        refine AllReadyH.cons (o := ⟨_, _, _, _, _, _⟩) rfl (fun K hK => ?_) (AllReadyH.nil)
        go_simp
        refine hK.out _ _ ?hB714 (fun hHeld => ?_)
        case hB714 => (first | (with_reducible exact keepK15 (Lib.hid ((Up.refl _).alloc _ _)) HX.out))
        clear hK K
        (try simp only [Act.put, List.setIfInBounds_toArray, List.set_cons_zero, List.set_cons_succ])
        refine wpAnyH_take (i := 14) (oi := ⟨_, _, _, _, _, _⟩) (v := ?v718) rfl (by kernel_rfl) (by kernel_rfl) (by kernel_rfl) (fun _ _ _ h => h) (Or.inl ⟨by rfl, ?hy718⟩) (by assumption) ?_
        case hy718 => (intro w hSw; (try dsimp only at hSw); go_simp; (try (with_reducible rfl)))
        (try simp only [Act.put, List.setIfInBounds_toArray, List.set_cons_zero, List.set_cons_succ])
        refine wpAnyH_done (by kernel_rfl) ?_ _
        clear hHeld HSS HX
        have n1_ : ¬ (w9.heap.size = w.heap.size + 1) := by omega
        have n2_ : ¬ (w.heap.size + 1 = w9.heap.size) := by omega
        go_wp2_with fail
        obtain ⟨wa, hwa⟩ : ∃ y, y = (((((w9.setCell ⟨w.heap.size + 1, 0, none⟩ (.int .i64 y0)).setCell ⟨w.heap.size + 1, 1, none⟩ (.int .i64 y1)).setCell ⟨w.heap.size + 1, 2, none⟩ (.int .i64 y2)).setCell ⟨w.heap.size + 1, 3, none⟩ (.int .i64 y3)).setCell ⟨w.heap.size + 1, 4, none⟩ (.int .i64 y4)).setCell ⟨w.heap.size + 1, 5, none⟩ (.int .i64 y5) := ⟨_, rfl⟩
        rw [← hwa]
        obtain ⟨s0, s1, s2, s3, s4, s5⟩ := set6cells (v0 := .int .i64 y0) (v1 := .int .i64 y1) (v2 := .int .i64 y2) (v3 := .int .i64 y3) (v4 := .int .i64 y4) (v5 := .int .i64 y5) r0 r1 r2 r3 r4 r5
        rw [← hwa] at s0 s1 s2 s3 s4 s5
        have r0 := ((Up.refl wa).alloc #[.int .i64 y0, .int .i64 y1, .int .i64 y2, .int .i64 y3, .int .i64 y4, .int .i64 y5] 42).keep _ _ _ s0
        have r1 := ((Up.refl wa).alloc #[.int .i64 y0, .int .i64 y1, .int .i64 y2, .int .i64 y3, .int .i64 y4, .int .i64 y5] 42).keep _ _ _ s1
        have r2 := ((Up.refl wa).alloc #[.int .i64 y0, .int .i64 y1, .int .i64 y2, .int .i64 y3, .int .i64 y4, .int .i64 y5] 42).keep _ _ _ s2
        have r3 := ((Up.refl wa).alloc #[.int .i64 y0, .int .i64 y1, .int .i64 y2, .int .i64 y3, .int .i64 y4, .int .i64 y5] 42).keep _ _ _ s3
        have r4 := ((Up.refl wa).alloc #[.int .i64 y0, .int .i64 y1, .int .i64 y2, .int .i64 y3, .int .i64 y4, .int .i64 y5] 42).keep _ _ _ s4
        have r5 := ((Up.refl wa).alloc #[.int .i64 y0, .int .i64 y1, .int .i64 y2, .int .i64 y3, .int .i64 y4, .int .i64 y5] 42).keep _ _ _ s5
        refine bodyPost_ret (v := .tuple #[.agg #[.int .i64 y0, .int .i64 y1, .int .i64 y2, .int .i64 y3, .int .i64 y4, .int .i64 y5], .int .i64 0]) (by simp [results, Try.results28, go_sem, r0, r1, r2, r3, r4, r5]) rfl ⟨rfl, ?_⟩
        exact (by rw [hwa]; exact (HW.out.set6 (by omega)).alloc _ _)
      · have hlt_ : w.heap.size + 1 < w7.heap.size := World.block_lt_of_cell? _ _ r0
        have hp1_ : p1 < w7.heap.size := by have := World.block_lt_of_cell? _ _ hHeld.2.2.1; simpa using this
        have hp2_ : p2 < w7.heap.size := by have := World.block_lt_of_cell? _ _ hHeld.2.2.2.2.2.2.2.2.2.1; simpa using this
        have g0 : (w7.alloc (.cells #[.int .i64 0, .int .i64 0, .int .i64 0, .int .i64 0, .int .i64 0, .int .i64 0] 42)).cell? ⟨w7.heap.size, 0, none⟩ = some (.int .i64 0) := by simp [go_sem]
        have g1 : (w7.alloc (.cells #[.int .i64 0, .int .i64 0, .int .i64 0, .int .i64 0, .int .i64 0, .int .i64 0] 42)).cell? ⟨w7.heap.size, 1, none⟩ = some (.int .i64 0) := by simp [go_sem]
        have g2 : (w7.alloc (.cells #[.int .i64 0, .int .i64 0, .int .i64 0, .int .i64 0, .int .i64 0, .int .i64 0] 42)).cell? ⟨w7.heap.size, 2, none⟩ = some (.int .i64 0) := by simp [go_sem]
        have g3 : (w7.alloc (.cells #[.int .i64 0, .int .i64 0, .int .i64 0, .int .i64 0, .int .i64 0, .int .i64 0] 42)).cell? ⟨w7.heap.size, 3, none⟩ = some (.int .i64 0) := by simp [go_sem]
        have g4 : (w7.alloc (.cells #[.int .i64 0, .int .i64 0, .int .i64 0, .int .i64 0, .int .i64 0, .int .i64 0] 42)).cell? ⟨w7.heap.size, 4, none⟩ = some (.int .i64 0) := by simp [go_sem]
        have g5 : (w7.alloc (.cells #[.int .i64 0, .int .i64 0, .int .i64 0, .int .i64 0, .int .i64 0, .int .i64 0] 42)).cell? ⟨w7.heap.size, 5, none⟩ = some (.int .i64 0) := by simp [go_sem]
        have r0 := ((Up.refl w7).alloc #[.int .i64 0, .int .i64 0, .int .i64 0, .int .i64 0, .int .i64 0, .int .i64 0] 42).keep _ _ _ r0
        have r1 := ((Up.refl w7).alloc #[.int .i64 0, .int .i64 0, .int .i64 0, .int .i64 0, .int .i64 0, .int .i64 0] 42).keep _ _ _ r1
        have r2 := ((Up.refl w7).alloc #[.int .i64 0, .int .i64 0, .int .i64 0, .int .i64 0, .int .i64 0, .int .i64 0] 42).keep _ _ _ r2
        have r3 := ((Up.refl w7).alloc #[.int .i64 0, .int .i64 0, .int .i64 0, .int .i64 0, .int .i64 0, .int .i64 0] 42).keep _ _ _ r3
        have r4 := ((Up.refl w7).alloc #[.int .i64 0, .int .i64 0, .int .i64 0, .int .i64 0, .int .i64 0, .int .i64 0] 42).keep _ _ _ r4
        have r5 := ((Up.refl w7).alloc #[.int .i64 0, .int .i64 0, .int .i64 0, .int .i64 0, .int .i64 0, .int .i64 0] 42).keep _ _ _ r5
        have HW := Lib.hid (HW.out.alloc #[.int .i64 0, .int .i64 0, .int .i64 0, .int .i64 0, .int .i64 0, .int .i64 0] 42)
        have z0 := HW.out.ownGe (g := w.heap.size + 1) (by omega) 0
        have z1 := HW.out.ownGe (g := w.heap.size + 1) (by omega) 1
        have z2 := HW.out.ownGe (g := w.heap.size + 1) (by omega) 2
        have z3 := HW.out.ownGe (g := w.heap.size + 1) (by omega) 3
        have z4 := HW.out.ownGe (g := w.heap.size + 1) (by omega) 4
        have z5 := HW.out.ownGe (g := w.heap.size + 1) (by omega) 5
        have k0 := HW.out.ownGe (g := w7.heap.size) (by omega) 0
        have k1 := HW.out.ownGe (g := w7.heap.size) (by omega) 1
        have k2 := HW.out.ownGe (g := w7.heap.size) (by omega) 2
        have k3 := HW.out.ownGe (g := w7.heap.size) (by omega) 3
        have k4 := HW.out.ownGe (g := w7.heap.size) (by omega) 4
        have k5 := HW.out.ownGe (g := w7.heap.size) (by omega) 5
        go_simp
        refine hK.out _ _ ?hB719 (fun hHeld => ?_)
        case hB719 => (with_reducible exact keepK15 (Lib.hid ((Up.refl _).alloc _ _)) hHeld)
        clear hK K
        (try simp only [Act.put, List.setIfInBounds_toArray, List.set_cons_zero, List.set_cons_succ])
        refine wpAnyH_ready (rs := [8]) (by kernel_rfl) (by simp) ?_
        refine AllReadyH.cons (o := ⟨_, _, _, _, _, _⟩) rfl (fun K hK => ?_) (AllReadyH.nil)
        go_simp
        (go_at_call 76; (with_reducible refine (KW.out _).mono ?_); rintro e w9 ⟨rfl, hu⟩; have HW := Lib.hid (HW.out.trans hu); have HX := Lib.hid (keepK15 (Lib.hid hu) hHeld); have r0 := hu.keep _ _ _ r0; have r1 := hu.keep _ _ _ r1; have r2 := hu.keep _ _ _ r2; have r3 := hu.keep _ _ _ r3; have r4 := hu.keep _ _ _ r4; have r5 := hu.keep _ _ _ r5; have g0 := hu.keep _ _ _ g0; have g1 := hu.keep _ _ _ g1; have g2 := hu.keep _ _ _ g2; have g3 := hu.keep _ _ _ g3; have g4 := hu.keep _ _ _ g4; have g5 := hu.keep _ _ _ g5; have z0 := HW.out.ownGe (g := w.heap.size + 1) (by omega) 0; have z1 := HW.out.ownGe (g := w.heap.size + 1) (by omega) 1; have z2 := HW.out.ownGe (g := w.heap.size + 1) (by omega) 2; have z3 := HW.out.ownGe (g := w.heap.size + 1) (by omega) 3; have z4 := HW.out.ownGe (g := w.heap.size + 1) (by omega) 4; have z5 := HW.out.ownGe (g := w.heap.size + 1) (by omega) 5; have k0 := HW.out.ownGe (g := w7.heap.size) (by omega) 0; have k1 := HW.out.ownGe (g := w7.heap.size) (by omega) 1; have k2 := HW.out.ownGe (g := w7.heap.size) (by omega) 2; have k3 := HW.out.ownGe (g := w7.heap.size) (by omega) 3; have k4 := HW.out.ownGe (g := w7.heap.size) (by omega) 4; have k5 := HW.out.ownGe (g := w7.heap.size) (by omega) 5; clear hu)
        (try go_wp2_with fail)
        refine hK.out _ _ ?hB720 (fun hHeld => ?_)
        case hB720 => (with_reducible exact HX.out)
        clear hK K
        (try simp only [Act.put, List.setIfInBounds_toArray, List.set_cons_zero, List.set_cons_succ])
        refine wpAnyH_take (i := 9) (oi := ⟨_, _, _, _, _, _⟩) (v := ?v721) rfl (by kernel_rfl) (by kernel_rfl) (by kernel_rfl) (fun _ _ _ h => h) (Or.inl ⟨by rfl, ?hy721⟩) (by assumption) ?_
        case hy721 => (intro w hSw; (try dsimp only at hSw); go_simp; (try (with_reducible rfl)))
        (try simp only [Act.put, List.setIfInBounds_toArray, List.set_cons_zero, List.set_cons_succ])
        refine wpAnyH_take (i := 10) (oi := ⟨_, _, _, _, _, _⟩) (v := ?v722) rfl (by kernel_rfl) (by kernel_rfl) (by kernel_rfl) (fun _ _ _ h => h) (Or.inl ⟨by rfl, ?hy722⟩) (by assumption) ?_
        case hy722 => (intro w hSw; (try dsimp only at hSw); go_simp; (try (with_reducible rfl)))
        (try simp only [Act.put, List.setIfInBounds_toArray, List.set_cons_zero, List.set_cons_succ])
        refine wpAnyH_take (i := 11) (oi := ⟨_, _, _, _, _, _⟩) (v := ?v723) rfl (by kernel_rfl) (by kernel_rfl) (by kernel_rfl) (fun _ _ _ h => h) (Or.inl ⟨by rfl, ?hy723⟩) (by assumption) ?_
        case hy723 => (intro w hSw; (try dsimp only at hSw); go_simp; (try (with_reducible rfl)))
        (try simp only [Act.put, List.setIfInBounds_toArray, List.set_cons_zero, List.set_cons_succ])
        refine wpAnyH_ready (rs := [13]) (by kernel_rfl) (by simp) ?_
        refine AllReadyH.cons (o := ⟨_, _, _, _, _, _⟩) rfl (fun K hK => ?_) (AllReadyH.nil)
        go_simp
        refine hK.out _ _ ?hB724 (fun hHeld => ?_)
        case hB724 => (with_reducible exact set6K15 hHeld (by omega) (by omega) (by omega) (by omega))
        clear hK K
        (try simp only [Act.put, List.setIfInBounds_toArray, List.set_cons_zero, List.set_cons_succ])
        refine wpAnyH_take (i := 14) (oi := ⟨_, _, _, _, _, _⟩) (v := ?v725) rfl (by kernel_rfl) (by kernel_rfl) (by kernel_rfl) (fun _ _ _ h => h) (Or.inl ⟨by rfl, ?hy725⟩) (by assumption) ?_
        case hy725 => (intro w hSw; (try dsimp only at hSw); go_simp; (try (with_reducible rfl)))
        (try simp only [Act.put, List.setIfInBounds_toArray, List.set_cons_zero, List.set_cons_succ])
        refine wpAnyH_done (by kernel_rfl) ?_ _
        clear hHeld HSS
        (try clear HX)
        have n1_ : ¬ (w7.heap.size = w.heap.size + 1) := by omega
        have n2_ : ¬ (w.heap.size + 1 = w7.heap.size) := by omega
        go_wp2_with fail
        refine bodyPost_ret (v := .tuple #[.agg #[.int .i64 y0, .int .i64 y1, .int .i64 y2, .int .i64 y3, .int .i64 y4, .int .i64 y5], .int .i64 0]) (by simp [results, Try.results28, go_sem, r0, r1, r2, r3, r4, r5]) rfl ⟨rfl, ?_⟩
        exact (HW.out.set6 (by omega)).set6 (by omega)
    · have hlt_ : w.heap.size + 1 < w6.heap.size := World.block_lt_of_cell? _ _ r0
      have hp1_ : p1 < w6.heap.size := by have := World.block_lt_of_cell? _ _ hHeld.2.2.1; simpa using this
      have hp2_ : p2 < w6.heap.size := by have := World.block_lt_of_cell? _ _ hHeld.2.2.2.2.2.2.2.2.2.1; simpa using this
      have g0 : (w6.alloc (.cells #[.int .i64 0, .int .i64 0, .int .i64 0, .int .i64 0, .int .i64 0, .int .i64 0] 42)).cell? ⟨w6.heap.size, 0, none⟩ = some (.int .i64 0) := by simp [go_sem]
      have g1 : (w6.alloc (.cells #[.int .i64 0, .int .i64 0, .int .i64 0, .int .i64 0, .int .i64 0, .int .i64 0] 42)).cell? ⟨w6.heap.size, 1, none⟩ = some (.int .i64 0) := by simp [go_sem]
      have g2 : (w6.alloc (.cells #[.int .i64 0, .int .i64 0, .int .i64 0, .int .i64 0, .int .i64 0, .int .i64 0] 42)).cell? ⟨w6.heap.size, 2, none⟩ = some (.int .i64 0) := by simp [go_sem]
      have g3 : (w6.alloc (.cells #[.int .i64 0, .int .i64 0, .int .i64 0, .int .i64 0, .int .i64 0, .int .i64 0] 42)).cell? ⟨w6.heap.size, 3, none⟩ = some (.int .i64 0) := by simp [go_sem]
      have g4 : (w6.alloc (.cells #[.int .i64 0, .int .i64 0, .int .i64 0, .int .i64 0, .int .i64 0, .int .i64 0] 42)).cell? ⟨w6.heap.size, 4, none⟩ = some (.int .i64 0) := by simp [go_sem]
      have g5 : (w6.alloc (.cells #[.int .i64 0, .int .i64 0, .int .i64 0, .int .i64 0, .int .i64 0, .int .i64 0] 42)).cell? ⟨w6.heap.size, 5, none⟩ = some (.int .i64 0) := by simp [go_sem]
      have r0 := ((Up.refl w6).alloc #[.int .i64 0, .int .i64 0, .int .i64 0, .int .i64 0, .int .i64 0, .int .i64 0] 42).keep _ _ _ r0
      have r1 := ((Up.refl w6).alloc #[.int .i64 0, .int .i64 0, .int .i64 0, .int .i64 0, .int .i64 0, .int .i64 0] 42).keep _ _ _ r1
      have r2 := ((Up.refl w6).alloc #[.int .i64 0, .int .i64 0, .int .i64 0, .int .i64 0, .int .i64 0, .int .i64 0] 42).keep _ _ _ r2
      have r3 := ((Up.refl w6).alloc #[.int .i64 0, .int .i64 0, .int .i64 0, .int .i64 0, .int .i64 0, .int .i64 0] 42).keep _ _ _ r3
      have r4 := ((Up.refl w6).alloc #[.int .i64 0, .int .i64 0, .int .i64 0, .int .i64 0, .int .i64 0, .int .i64 0] 42).keep _ _ _ r4
      have r5 := ((Up.refl w6).alloc #[.int .i64 0, .int .i64 0, .int .i64 0, .int .i64 0, .int .i64 0, .int .i64 0] 42).keep _ _ _ r5
      have HW := Lib.hid (HW.out.alloc #[.int .i64 0, .int .i64 0, .int .i64 0, .int .i64 0, .int .i64 0, .int .i64 0] 42)
      have z0 := HW.out.ownGe (g := w.heap.size + 1) (by omega) 0
      have z1 := HW.out.ownGe (g := w.heap.size + 1) (by omega) 1
      have z2 := HW.out.ownGe (g := w.heap.size + 1) (by omega) 2
      have z3 := HW.out.ownGe (g := w.heap.size + 1) (by omega) 3
      have z4 := HW.out.ownGe (g := w.heap.size + 1) (by omega) 4
      have z5 := HW.out.ownGe (g := w.heap.size + 1) (by omega) 5
      have k0 := HW.out.ownGe (g := w6.heap.size) (by omega) 0
      have k1 := HW.out.ownGe (g := w6.heap.size) (by omega) 1
      have k2 := HW.out.ownGe (g := w6.heap.size) (by omega) 2
      have k3 := HW.out.ownGe (g := w6.heap.size) (by omega) 3
      have k4 := HW.out.ownGe (g := w6.heap.size) (by omega) 4
      have k5 := HW.out.ownGe (g := w6.heap.size) (by omega) 5
      go_simp
      refine hK.out _ _ ?hB726 (fun hHeld => ?_)
      case hB726 => (with_reducible exact keepK15 (Lib.hid ((Up.refl _).alloc _ _)) hHeld)
      clear hK K
      (try simp only [Act.put, List.setIfInBounds_toArray, List.set_cons_zero, List.set_cons_succ])
      refine wpAnyH_ready (rs := [7]) (by kernel_rfl) (by simp) ?_
      refine AllReadyH.cons (o := ⟨_, _, _, _, _, _⟩) rfl (fun K hK => ?_) (AllReadyH.nil)
      go_simp
      (go_at_call 16; (with_reducible refine (K2.out _).mono ?_); rintro e w7 ⟨rfl, hu⟩; have HW := Lib.hid (HW.out.trans hu); have HX := Lib.hid (keepK15 (Lib.hid hu) hHeld); have r0 := hu.keep _ _ _ r0; have r1 := hu.keep _ _ _ r1; have r2 := hu.keep _ _ _ r2; have r3 := hu.keep _ _ _ r3; have r4 := hu.keep _ _ _ r4; have r5 := hu.keep _ _ _ r5; have g0 := hu.keep _ _ _ g0; have g1 := hu.keep _ _ _ g1; have g2 := hu.keep _ _ _ g2; have g3 := hu.keep _ _ _ g3; have g4 := hu.keep _ _ _ g4; have g5 := hu.keep _ _ _ g5; have z0 := HW.out.ownGe (g := w.heap.size + 1) (by omega) 0; have z1 := HW.out.ownGe (g := w.heap.size + 1) (by omega) 1; have z2 := HW.out.ownGe (g := w.heap.size + 1) (by omega) 2; have z3 := HW.out.ownGe (g := w.heap.size + 1) (by omega) 3; have z4 := HW.out.ownGe (g := w.heap.size + 1) (by omega) 4; have z5 := HW.out.ownGe (g := w.heap.size + 1) (by omega) 5; have k0 := HW.out.ownGe (g := w6.heap.size) (by omega) 0; have k1 := HW.out.ownGe (g := w6.heap.size) (by omega) 1; have k2 := HW.out.ownGe (g := w6.heap.size) (by omega) 2; have k3 := HW.out.ownGe (g := w6.heap.size) (by omega) 3; have k4 := HW.out.ownGe (g := w6.heap.size) (by omega) 4; have k5 := HW.out.ownGe (g := w6.heap.size) (by omega) 5; clear hu)
      (try go_wp2_with fail)
      refine hK.out _ _ ?hB727 (fun hHeld => ?_)
      case hB727 => (with_reducible exact HX.out)
      clear hK K
      (try simp only [Act.put, List.setIfInBounds_toArray, List.set_cons_zero, List.set_cons_succ])
      refine wpAnyH_ready (rs := [8]) (by kernel_rfl) (by simp) ?_
      refine AllReadyH.cons (o := ⟨_, _, _, _, _, _⟩) rfl (fun K hK => ?_) (AllReadyH.nil)
      go_simp
      (go_at_call 76; (with_reducible refine (KW.out _).mono ?_); rintro e w9 ⟨rfl, hu⟩; have HW := Lib.hid (HW.out.trans hu); have HX := Lib.hid (keepK15 (Lib.hid hu) hHeld); have r0 := hu.keep _ _ _ r0; have r1 := hu.keep _ _ _ r1; have r2 := hu.keep _ _ _ r2; have r3 := hu.keep _ _ _ r3; have r4 := hu.keep _ _ _ r4; have r5 := hu.keep _ _ _ r5; have g0 := hu.keep _ _ _ g0; have g1 := hu.keep _ _ _ g1; have g2 := hu.keep _ _ _ g2; have g3 := hu.keep _ _ _ g3; have g4 := hu.keep _ _ _ g4; have g5 := hu.keep _ _ _ g5; have z0 := HW.out.ownGe (g := w.heap.size + 1) (by omega) 0; have z1 := HW.out.ownGe (g := w.heap.size + 1) (by omega) 1; have z2 := HW.out.ownGe (g := w.heap.size + 1) (by omega) 2; have z3 := HW.out.ownGe (g := w.heap.size + 1) (by omega) 3; have z4 := HW.out.ownGe (g := w.heap.size + 1) (by omega) 4; have z5 := HW.out.ownGe (g := w.heap.size + 1) (by omega) 5; have k0 := HW.out.ownGe (g := w6.heap.size) (by omega) 0; have k1 := HW.out.ownGe (g := w6.heap.size) (by omega) 1; have k2 := HW.out.ownGe (g := w6.heap.size) (by omega) 2; have k3 := HW.out.ownGe (g := w6.heap.size) (by omega) 3; have k4 := HW.out.ownGe (g := w6.heap.size) (by omega) 4; have k5 := HW.out.ownGe (g := w6.heap.size) (by omega) 5; clear hu)
      (try go_wp2_with fail)
      refine hK.out _ _ ?hB728 (fun hHeld => ?_)
      case hB728 => (with_reducible exact HX.out)
      clear hK K
      (try simp only [Act.put, List.setIfInBounds_toArray, List.set_cons_zero, List.set_cons_succ])
      refine wpAnyH_take (i := 9) (oi := ⟨_, _, _, _, _, _⟩) (v := ?v729) rfl (by kernel_rfl) (by kernel_rfl) (by kernel_rfl) (fun _ _ _ h => h) (Or.inl ⟨by rfl, ?hy729⟩) (by assumption) ?_
      case hy729 => (intro w hSw; (try dsimp only at hSw); go_simp; (try (with_reducible rfl)))
      (try simp only [Act.put, List.setIfInBounds_toArray, List.set_cons_zero, List.set_cons_succ])
      refine wpAnyH_take (i := 10) (oi := ⟨_, _, _, _, _, _⟩) (v := ?v730) rfl (by kernel_rfl) (by kernel_rfl) (by kernel_rfl) (fun _ _ _ h => h) (Or.inl ⟨by rfl, ?hy730⟩) (by assumption) ?_
      case hy730 => (intro w hSw; (try dsimp only at hSw); go_simp; (try (with_reducible rfl)))
      (try simp only [Act.put, List.setIfInBounds_toArray, List.set_cons_zero, List.set_cons_succ])
      refine wpAnyH_take (i := 11) (oi := ⟨_, _, _, _, _, _⟩) (v := ?v731) rfl (by kernel_rfl) (by kernel_rfl) (by kernel_rfl) (fun _ _ _ h => h) (Or.inl ⟨by rfl, ?hy731⟩) (by assumption) ?_
      case hy731 => (intro w hSw; (try dsimp only at hSw); go_simp; (try (with_reducible rfl)))
      (try simp only [Act.put, List.setIfInBounds_toArray, List.set_cons_zero, List.set_cons_succ])
      refine wpAnyH_ready (rs := [13]) (by kernel_rfl) (by simp) ?_
      refine AllReadyH.cons (o := ⟨_, _, _, _, _, _⟩) rfl (fun K hK => ?_) (AllReadyH.nil)
      go_simp
      refine hK.out _ _ ?hB732 (fun hHeld => ?_)
      case hB732 => (with_reducible exact set6K15 hHeld (by omega) (by omega) (by omega) (by omega))
      clear hK K
      (try simp only [Act.put, List.setIfInBounds_toArray, List.set_cons_zero, List.set_cons_succ])
      refine wpAnyH_take (i := 14) (oi := ⟨_, _, _, _, _, _⟩) (v := ?v733) rfl (by kernel_rfl) (by kernel_rfl) (by kernel_rfl) (fun _ _ _ h => h) (Or.inl ⟨by rfl, ?hy733⟩) (by assumption) ?_
      case hy733 => (intro w hSw; (try dsimp only at hSw); go_simp; (try (with_reducible rfl)))
      (try simp only [Act.put, List.setIfInBounds_toArray, List.set_cons_zero, List.set_cons_succ])
      refine wpAnyH_done (by kernel_rfl) ?_ _
      clear hHeld HSS
      (try clear HX)
      have n1_ : ¬ (w6.heap.size = w.heap.size + 1) := by omega
      have n2_ : ¬ (w.heap.size + 1 = w6.heap.size) := by omega
      go_wp2_with fail
      refine bodyPost_ret (v := .tuple #[.agg #[.int .i64 y0, .int .i64 y1, .int .i64 y2, .int .i64 y3, .int .i64 y4, .int .i64 y5], .int .i64 0]) (by simp [results, Try.results28, go_sem, r0, r1, r2, r3, r4, r5]) rfl ⟨rfl, ?_⟩
      exact (HW.out.set6 (by omega)).set6 (by omega)
  · have hlt_ : w.heap.size + 1 < W5.heap.size := World.block_lt_of_cell? _ _ r0
    have hp1_ : p1 < W5.heap.size := by have := World.block_lt_of_cell? _ _ hHeld.2.2.1; simpa using this
    have hp2_ : p2 < W5.heap.size := by have := World.block_lt_of_cell? _ _ hHeld.2.2.2.2.2.2.2.2.2.1; simpa using this
    have g0 : (W5.alloc (.cells #[.int .i64 0, .int .i64 0, .int .i64 0, .int .i64 0, .int .i64 0, .int .i64 0] 42)).cell? ⟨W5.heap.size, 0, none⟩ = some (.int .i64 0) := by simp [go_sem]
    have g1 : (W5.alloc (.cells #[.int .i64 0, .int .i64 0, .int .i64 0, .int .i64 0, .int .i64 0, .int .i64 0] 42)).cell? ⟨W5.heap.size, 1, none⟩ = some (.int .i64 0) := by simp [go_sem]
    have g2 : (W5.alloc (.cells #[.int .i64 0, .int .i64 0, .int .i64 0, .int .i64 0, .int .i64 0, .int .i64 0] 42)).cell? ⟨W5.heap.size, 2, none⟩ = some (.int .i64 0) := by simp [go_sem]
    have g3 : (W5.alloc (.cells #[.int .i64 0, .int .i64 0, .int .i64 0, .int .i64 0, .int .i64 0, .int .i64 0] 42)).cell? ⟨W5.heap.size, 3, none⟩ = some (.int .i64 0) := by simp [go_sem]
    have g4 : (W5.alloc (.cells #[.int .i64 0, .int .i64 0, .int .i64 0, .int .i64 0, .int .i64 0, .int .i64 0] 42)).cell? ⟨W5.heap.size, 4, none⟩ = some (.int .i64 0) := by simp [go_sem]
    have g5 : (W5.alloc (.cells #[.int .i64 0, .int .i64 0, .int .i64 0, .int .i64 0, .int .i64 0, .int .i64 0] 42)).cell? ⟨W5.heap.size, 5, none⟩ = some (.int .i64 0) := by simp [go_sem]
    have r0 := ((Up.refl W5).alloc #[.int .i64 0, .int .i64 0, .int .i64 0, .int .i64 0, .int .i64 0, .int .i64 0] 42).keep _ _ _ r0
    have r1 := ((Up.refl W5).alloc #[.int .i64 0, .int .i64 0, .int .i64 0, .int .i64 0, .int .i64 0, .int .i64 0] 42).keep _ _ _ r1
    have r2 := ((Up.refl W5).alloc #[.int .i64 0, .int .i64 0, .int .i64 0, .int .i64 0, .int .i64 0, .int .i64 0] 42).keep _ _ _ r2
    have r3 := ((Up.refl W5).alloc #[.int .i64 0, .int .i64 0, .int .i64 0, .int .i64 0, .int .i64 0, .int .i64 0] 42).keep _ _ _ r3
    have r4 := ((Up.refl W5).alloc #[.int .i64 0, .int .i64 0, .int .i64 0, .int .i64 0, .int .i64 0, .int .i64 0] 42).keep _ _ _ r4
    have r5 := ((Up.refl W5).alloc #[.int .i64 0, .int .i64 0, .int .i64 0, .int .i64 0, .int .i64 0, .int .i64 0] 42).keep _ _ _ r5
    have HW := Lib.hid (HW.out.alloc #[.int .i64 0, .int .i64 0, .int .i64 0, .int .i64 0, .int .i64 0, .int .i64 0] 42)
    have z0 := HW.out.ownGe (g := w.heap.size + 1) (by omega) 0
    have z1 := HW.out.ownGe (g := w.heap.size + 1) (by omega) 1
    have z2 := HW.out.ownGe (g := w.heap.size + 1) (by omega) 2
    have z3 := HW.out.ownGe (g := w.heap.size + 1) (by omega) 3
    have z4 := HW.out.ownGe (g := w.heap.size + 1) (by omega) 4
    have z5 := HW.out.ownGe (g := w.heap.size + 1) (by omega) 5
    have k0 := HW.out.ownGe (g := W5.heap.size) (by omega) 0
    have k1 := HW.out.ownGe (g := W5.heap.size) (by omega) 1
    have k2 := HW.out.ownGe (g := W5.heap.size) (by omega) 2
    have k3 := HW.out.ownGe (g := W5.heap.size) (by omega) 3
    have k4 := HW.out.ownGe (g := W5.heap.size) (by omega) 4
    have k5 := HW.out.ownGe (g := W5.heap.size) (by omega) 5
    go_simp
    refine hK.out _ _ ?hB734 (fun hHeld => ?_)
    case hB734 => (with_reducible exact keepK15 (Lib.hid ((Up.refl _).alloc _ _)) hHeld)
    clear hK K
    (try simp only [Act.put, List.setIfInBounds_toArray, List.set_cons_zero, List.set_cons_succ])
    refine wpAnyH_ready (rs := [3]) (by kernel_rfl) (by simp) ?_
    refine AllReadyH.cons (o := ⟨_, _, _, _, _, _⟩) rfl (fun K hK => ?_) (AllReadyH.nil)
    go_simp
    (go_at_call 16; (with_reducible refine (K1.out _).mono ?_); rintro e w6 ⟨rfl, hu⟩; have HW := Lib.hid (HW.out.trans hu); have HX := Lib.hid (keepK15 (Lib.hid hu) hHeld); have r0 := hu.keep _ _ _ r0; have r1 := hu.keep _ _ _ r1; have r2 := hu.keep _ _ _ r2; have r3 := hu.keep _ _ _ r3; have r4 := hu.keep _ _ _ r4; have r5 := hu.keep _ _ _ r5; have g0 := hu.keep _ _ _ g0; have g1 := hu.keep _ _ _ g1; have g2 := hu.keep _ _ _ g2; have g3 := hu.keep _ _ _ g3; have g4 := hu.keep _ _ _ g4; have g5 := hu.keep _ _ _ g5; have z0 := HW.out.ownGe (g := w.heap.size + 1) (by omega) 0; have z1 := HW.out.ownGe (g := w.heap.size + 1) (by omega) 1; have z2 := HW.out.ownGe (g := w.heap.size + 1) (by omega) 2; have z3 := HW.out.ownGe (g := w.heap.size + 1) (by omega) 3; have z4 := HW.out.ownGe (g := w.heap.size + 1) (by omega) 4; have z5 := HW.out.ownGe (g := w.heap.size + 1) (by omega) 5; have k0 := HW.out.ownGe (g := W5.heap.size) (by omega) 0; have k1 := HW.out.ownGe (g := W5.heap.size) (by omega) 1; have k2 := HW.out.ownGe (g := W5.heap.size) (by omega) 2; have k3 := HW.out.ownGe (g := W5.heap.size) (by omega) 3; have k4 := HW.out.ownGe (g := W5.heap.size) (by omega) 4; have k5 := HW.out.ownGe (g := W5.heap.size) (by omega) 5; clear hu)
    (try go_wp2_with fail)
    refine hK.out _ _ ?hB735 (fun hHeld => ?_)
    case hB735 => (with_reducible exact HX.out)
    clear hK K
    (try simp only [Act.put, List.setIfInBounds_toArray, List.set_cons_zero, List.set_cons_succ])
    refine wpAnyH_ready (rs := [7]) (by kernel_rfl) (by simp) ?_
    refine AllReadyH.cons (o := ⟨_, _, _, _, _, _⟩) rfl (fun K hK => ?_) (AllReadyH.nil)
    go_simp
    (go_at_call 16; (with_reducible refine (K2.out _).mono ?_); rintro e w7 ⟨rfl, hu⟩; have HW := Lib.hid (HW.out.trans hu); have HX := Lib.hid (keepK15 (Lib.hid hu) hHeld); have r0 := hu.keep _ _ _ r0; have r1 := hu.keep _ _ _ r1; have r2 := hu.keep _ _ _ r2; have r3 := hu.keep _ _ _ r3; have r4 := hu.keep _ _ _ r4; have r5 := hu.keep _ _ _ r5; have g0 := hu.keep _ _ _ g0; have g1 := hu.keep _ _ _ g1; have g2 := hu.keep _ _ _ g2; have g3 := hu.keep _ _ _ g3; have g4 := hu.keep _ _ _ g4; have g5 := hu.keep _ _ _ g5; have z0 := HW.out.ownGe (g := w.heap.size + 1) (by omega) 0; have z1 := HW.out.ownGe (g := w.heap.size + 1) (by omega) 1; have z2 := HW.out.ownGe (g := w.heap.size + 1) (by omega) 2; have z3 := HW.out.ownGe (g := w.heap.size + 1) (by omega) 3; have z4 := HW.out.ownGe (g := w.heap.size + 1) (by omega) 4; have z5 := HW.out.ownGe (g := w.heap.size + 1) (by omega) 5; have k0 := HW.out.ownGe (g := W5.heap.size) (by omega) 0; have k1 := HW.out.ownGe (g := W5.heap.size) (by omega) 1; have k2 := HW.out.ownGe (g := W5.heap.size) (by omega) 2; have k3 := HW.out.ownGe (g := W5.heap.size) (by omega) 3; have k4 := HW.out.ownGe (g := W5.heap.size) (by omega) 4; have k5 := HW.out.ownGe (g := W5.heap.size) (by omega) 5; clear hu)
    (try go_wp2_with fail)
    refine hK.out _ _ ?hB736 (fun hHeld => ?_)
    case hB736 => (with_reducible exact HX.out)
    clear hK K
    (try simp only [Act.put, List.setIfInBounds_toArray, List.set_cons_zero, List.set_cons_succ])
    refine wpAnyH_ready (rs := [8]) (by kernel_rfl) (by simp) ?_
    refine AllReadyH.cons (o := ⟨_, _, _, _, _, _⟩) rfl (fun K hK => ?_) (AllReadyH.nil)
    go_simp
    (go_at_call 76; (with_reducible refine (KW.out _).mono ?_); rintro e w9 ⟨rfl, hu⟩; have HW := Lib.hid (HW.out.trans hu); have HX := Lib.hid (keepK15 (Lib.hid hu) hHeld); have r0 := hu.keep _ _ _ r0; have r1 := hu.keep _ _ _ r1; have r2 := hu.keep _ _ _ r2; have r3 := hu.keep _ _ _ r3; have r4 := hu.keep _ _ _ r4; have r5 := hu.keep _ _ _ r5; have g0 := hu.keep _ _ _ g0; have g1 := hu.keep _ _ _ g1; have g2 := hu.keep _ _ _ g2; have g3 := hu.keep _ _ _ g3; have g4 := hu.keep _ _ _ g4; have g5 := hu.keep _ _ _ g5; have z0 := HW.out.ownGe (g := w.heap.size + 1) (by omega) 0; have z1 := HW.out.ownGe (g := w.heap.size + 1) (by omega) 1; have z2 := HW.out.ownGe (g := w.heap.size + 1) (by omega) 2; have z3 := HW.out.ownGe (g := w.heap.size + 1) (by omega) 3; have z4 := HW.out.ownGe (g := w.heap.size + 1) (by omega) 4; have z5 := HW.out.ownGe (g := w.heap.size + 1) (by omega) 5; have k0 := HW.out.ownGe (g := W5.heap.size) (by omega) 0; have k1 := HW.out.ownGe (g := W5.heap.size) (by omega) 1; have k2 := HW.out.ownGe (g := W5.heap.size) (by omega) 2; have k3 := HW.out.ownGe (g := W5.heap.size) (by omega) 3; have k4 := HW.out.ownGe (g := W5.heap.size) (by omega) 4; have k5 := HW.out.ownGe (g := W5.heap.size) (by omega) 5; clear hu)
    (try go_wp2_with fail)
    refine hK.out _ _ ?hB737 (fun hHeld => ?_)
    case hB737 => (with_reducible exact HX.out)
    clear hK K
    (try simp only [Act.put, List.setIfInBounds_toArray, List.set_cons_zero, List.set_cons_succ])
    refine wpAnyH_take (i := 9) (oi := ⟨_, _, _, _, _, _⟩) (v := ?v738) rfl (by kernel_rfl) (by kernel_rfl) (by kernel_rfl) (fun _ _ _ h => h) (Or.inl ⟨by rfl, ?hy738⟩) (by assumption) ?_
    case hy738 => (intro w hSw; (try dsimp only at hSw); go_simp; (try (with_reducible rfl)))
    (try simp only [Act.put, List.setIfInBounds_toArray, List.set_cons_zero, List.set_cons_succ])
    refine wpAnyH_take (i := 10) (oi := ⟨_, _, _, _, _, _⟩) (v := ?v739) rfl (by kernel_rfl) (by kernel_rfl) (by kernel_rfl) (fun _ _ _ h => h) (Or.inl ⟨by rfl, ?hy739⟩) (by assumption) ?_
    case hy739 => (intro w hSw; (try dsimp only at hSw); go_simp; (try (with_reducible rfl)))
    (try simp only [Act.put, List.setIfInBounds_toArray, List.set_cons_zero, List.set_cons_succ])
    refine wpAnyH_take (i := 11) (oi := ⟨_, _, _, _, _, _⟩) (v := ?v740) rfl (by kernel_rfl) (by kernel_rfl) (by kernel_rfl) (fun _ _ _ h => h) (Or.inl ⟨by rfl, ?hy740⟩) (by assumption) ?_
    case hy740 => (intro w hSw; (try dsimp only at hSw); go_simp; (try (with_reducible rfl)))
    (try simp only [Act.put, List.setIfInBounds_toArray, List.set_cons_zero, List.set_cons_succ])
    refine wpAnyH_ready (rs := [13]) (by kernel_rfl) (by simp) ?_
    refine AllReadyH.cons (o := ⟨_, _, _, _, _, _⟩) rfl (fun K hK => ?_) (AllReadyH.nil)
    go_simp
    refine hK.out _ _ ?hB741 (fun hHeld => ?_)
    case hB741 => (with_reducible exact set6K15 hHeld (by omega) (by omega) (by omega) (by omega))
    clear hK K
    (try simp only [Act.put, List.setIfInBounds_toArray, List.set_cons_zero, List.set_cons_succ])
    refine wpAnyH_take (i := 14) (oi := ⟨_, _, _, _, _, _⟩) (v := ?v742) rfl (by kernel_rfl) (by kernel_rfl) (by kernel_rfl) (fun _ _ _ h => h) (Or.inl ⟨by rfl, ?hy742⟩) (by assumption) ?_
    case hy742 => (intro w hSw; (try dsimp only at hSw); go_simp; (try (with_reducible rfl)))
    (try simp only [Act.put, List.setIfInBounds_toArray, List.set_cons_zero, List.set_cons_succ])
    refine wpAnyH_done (by kernel_rfl) ?_ _
    clear hHeld HSS
    (try clear HX)
    have n1_ : ¬ (W5.heap.size = w.heap.size + 1) := by omega
    have n2_ : ¬ (w.heap.size + 1 = W5.heap.size) := by omega
    go_wp2_with fail
    refine bodyPost_ret (v := .tuple #[.agg #[.int .i64 y0, .int .i64 y1, .int .i64 y2, .int .i64 y3, .int .i64 y4, .int .i64 y5], .int .i64 0]) (by simp [results, Try.results28, go_sem, r0, r1, r2, r3, r4, r5]) rfl ⟨rfl, ?_⟩
    exact (HW.out.set6 (by omega)).set6 (by omega)

theorem ask13_up (g v q c now seq : Int) (n k : Nat) (A : Option Addr) (X : List Mrk) (hn : n ≤ 50000) (w : World) (hS : SG cM w A n X) :
    Calls Try.prog 28 #[.agg #[.int .i64 g, .int .i64 v, .int .i64 q, .int .i64 c, .int .i64 now, .int .i64 seq, .slice A n k]] w fun e w' => e = .returned (akM (stM g v q c now seq X) (asM g now v X)) ∧ Up w w' := by
  cases hv : stM g v q c now seq X with
  | false => exact ask13_bad g v q c now seq n k A X hn hv w hS
  | true =>
    rw [enM_asM g (fun e => one_live hv e)]
    exact ask13_good g v q c now seq n k A X hn hv w hS

end Go.Proofs.Ytafkoddgefcpnaa
