/- extremes and quantile of package recent. -/
import Derived.Test.YtflahclphdlolaaGreatZELoFrame
import Derived.Test.YtflahclphdlolaaGreatZEQnt
import Derived.Test.YtflahclphdlolaaGreatZESort
import Derived.Test.YtflahclphdlolaaGreatZFAdv
import Derived.Test.YtflahclphdlolaaGreatZFAskM
import Derived.Test.YtflahclphdlolaaGreatZFNum
import Derived.Test.YtflahclphdlolaaGreatZG0a
import Derived.Test.YtflahclphdlolaaGreatZG2a
import Derived.Test.YtflahclphdlolaaGreatZG4a
import Derived.Test.YtflahclphdlolaaGreatZG5a
namespace Go.Proofs.YtflahclphdlolaaGreat
open Go.RowKit

set_option maxHeartbeats 8000000 in
set_option maxRecDepth 100000 in
theorem extremes_up (n k : Nat) (A : Option Addr) (L : List It) (hn : n ≤ 1000000) (w : World) (hS : Sl w A n L) {N D e0 : Int} {Vs : List Int} (h : (if L = [] then ((0 : Int), (0 : Int), ([] : List Int), (7 : Int)) else (0, 0, [leV L, grV L], 0)) = (N, D, Vs, e0)) :
    Calls Tryz.prog 19 #[.slice A n k] w fun e w' => ∃ A' k', e = .returned (.tuple #[.agg #[.int .i64 N, .int .i64 D, .int .i64 N, .int .i64 D, .int .i64 N, .int .i64 D, .slice A' Vs.length k', .int .u64 0, .int .u64 0, .int .u64 0, .int .u64 0], .int .i64 e0]) ∧ Sn w' A' Vs.length Vs ∧ Nw w A' ∧ Up w w' := by
  have K1 := Lib.hid (fun W (h : Sl W A n L) => least_up n k A L hn W h)
  have K2 := Lib.hid (fun W (h : Sl W A n L) => greatest_up n k A L hn W h)
  rw [leE_V] at K1
  rw [grE_V] at K2
  have HS := Lib.hid hS
  by_cases he : L = []
  · rw [if_pos he] at h
    rw [decide_eq_false (show ¬ L ≠ [] by simp [he])] at K1
    cases h
    generalize leV L = x at *
    clear hS he K2
    unfold got at K1
    go_enter Tryz.func19, Tryz.ntmps19
    go_wp2_with fail
    refine (K1.out _ (HS.out.up ((Up.refl _).alloc _ _))).mono ?_
    rintro e w1 ⟨rfl, hu⟩
    have HU1 := Lib.hid (((Up.refl w).alloc #[.int .i64 0, .int .i64 0, .int .i64 0, .int .i64 0, .int .i64 0, .int .i64 0, .slice none 0 0, .int .u64 0, .int .u64 0, .int .u64 0, .int .u64 0] 40).trans hu)
    have r0 := hu.keep (w.heap.size) 0 (.int .i64 0) (by simp [go_sem])
    have r1 := hu.keep (w.heap.size) 1 (.int .i64 0) (by simp [go_sem])
    have r2 := hu.keep (w.heap.size) 2 (.int .i64 0) (by simp [go_sem])
    have r3 := hu.keep (w.heap.size) 3 (.int .i64 0) (by simp [go_sem])
    have r4 := hu.keep (w.heap.size) 4 (.int .i64 0) (by simp [go_sem])
    have r5 := hu.keep (w.heap.size) 5 (.int .i64 0) (by simp [go_sem])
    have r6 := hu.keep (w.heap.size) 6 (.slice none 0 0) (by simp [go_sem])
    have r7 := hu.keep (w.heap.size) 7 (.int .u64 0) (by simp [go_sem])
    have r8 := hu.keep (w.heap.size) 8 (.int .u64 0) (by simp [go_sem])
    have r9 := hu.keep (w.heap.size) 9 (.int .u64 0) (by simp [go_sem])
    have r10 := hu.keep (w.heap.size) 10 (.int .u64 0) (by simp [go_sem])
    have z0 := HU1.out.ownGe (g := w.heap.size) (by omega) 0
    have z1 := HU1.out.ownGe (g := w.heap.size) (by omega) 1
    have z2 := HU1.out.ownGe (g := w.heap.size) (by omega) 2
    have z3 := HU1.out.ownGe (g := w.heap.size) (by omega) 3
    have z4 := HU1.out.ownGe (g := w.heap.size) (by omega) 4
    have z5 := HU1.out.ownGe (g := w.heap.size) (by omega) 5
    have z6 := HU1.out.ownGe (g := w.heap.size) (by omega) 6
    have z7 := HU1.out.ownGe (g := w.heap.size) (by omega) 7
    have z8 := HU1.out.ownGe (g := w.heap.size) (by omega) 8
    have z9 := HU1.out.ownGe (g := w.heap.size) (by omega) 9
    have z10 := HU1.out.ownGe (g := w.heap.size) (by omega) 10
    clear hu
    go_wp2_with fail
    refine bodyPost_ret (v := .tuple #[.agg #[.int .i64 0, .int .i64 0, .int .i64 0, .int .i64 0, .int .i64 0, .int .i64 0, .slice none 0 0, .int .u64 0, .int .u64 0, .int .u64 0, .int .u64 0], .int .i64 7]) (by simp [results, Tryz.results19, go_sem, r0, r1, r2, r3, r4, r5, r6, r7, r8, r9, r10]) rfl ⟨none, 0, rfl, Sn.none_, Nw.none_, ?_⟩
    exact HU1.out.set11 (Nat.le_refl _)
  · rw [if_neg he] at h
    rw [decide_eq_true (show L ≠ [] from he)] at K1 K2
    cases h
    generalize leV L = x at *
    generalize grV L = y at *
    clear hS he
    unfold got at K1 K2
    go_enter Tryz.func19, Tryz.ntmps19
    go_wp2_with fail
    refine (K1.out _ (HS.out.up ((Up.refl _).alloc _ _))).mono ?_
    rintro e w1 ⟨rfl, hu⟩
    have HU1 := Lib.hid (((Up.refl w).alloc #[.int .i64 0, .int .i64 0, .int .i64 0, .int .i64 0, .int .i64 0, .int .i64 0, .slice none 0 0, .int .u64 0, .int .u64 0, .int .u64 0, .int .u64 0] 40).trans hu)
    go_wp2_with fail
    refine (K2.out _ (HS.out.up HU1.out)).mono ?_
    rintro e w2 ⟨rfl, hu2⟩
    have hv := hu.trans hu2
    have HU2 := Lib.hid (HU1.out.trans hu2)
    have r0 := hv.keep (w.heap.size) 0 (.int .i64 0) (by simp [go_sem])
    have r1 := hv.keep (w.heap.size) 1 (.int .i64 0) (by simp [go_sem])
    have r2 := hv.keep (w.heap.size) 2 (.int .i64 0) (by simp [go_sem])
    have r3 := hv.keep (w.heap.size) 3 (.int .i64 0) (by simp [go_sem])
    have r4 := hv.keep (w.heap.size) 4 (.int .i64 0) (by simp [go_sem])
    have r5 := hv.keep (w.heap.size) 5 (.int .i64 0) (by simp [go_sem])
    have r6 := hv.keep (w.heap.size) 6 (.slice none 0 0) (by simp [go_sem])
    have r7 := hv.keep (w.heap.size) 7 (.int .u64 0) (by simp [go_sem])
    have r8 := hv.keep (w.heap.size) 8 (.int .u64 0) (by simp [go_sem])
    have r9 := hv.keep (w.heap.size) 9 (.int .u64 0) (by simp [go_sem])
    have r10 := hv.keep (w.heap.size) 10 (.int .u64 0) (by simp [go_sem])
    have z0 := HU2.out.ownGe (g := w.heap.size) (by omega) 0
    have z1 := HU2.out.ownGe (g := w.heap.size) (by omega) 1
    have z2 := HU2.out.ownGe (g := w.heap.size) (by omega) 2
    have z3 := HU2.out.ownGe (g := w.heap.size) (by omega) 3
    have z4 := HU2.out.ownGe (g := w.heap.size) (by omega) 4
    have z5 := HU2.out.ownGe (g := w.heap.size) (by omega) 5
    have z6 := HU2.out.ownGe (g := w.heap.size) (by omega) 6
    have z7 := HU2.out.ownGe (g := w.heap.size) (by omega) 7
    have z8 := HU2.out.ownGe (g := w.heap.size) (by omega) 8
    have z9 := HU2.out.ownGe (g := w.heap.size) (by omega) 9
    have z10 := HU2.out.ownGe (g := w.heap.size) (by omega) 10
    have hlt : w.heap.size < w2.heap.size := World.block_lt_of_cell? _ _ r0
    clear hu hu2 hv
    go_wp2_with fail
    refine bodyPost_ret (v := .tuple #[.agg #[.int .i64 0, .int .i64 0, .int .i64 0, .int .i64 0, .int .i64 0, .int .i64 0, .slice (some ⟨w2.heap.size, 0, none⟩) 2 2, .int .u64 0, .int .u64 0, .int .u64 0, .int .u64 0], .int .i64 0]) (by simp [results, Tryz.results19, go_sem, r0, r1, r2, r3, r4, r5, r6, r7, r8, r9, r10, hlt]) rfl ⟨some ⟨w2.heap.size, 0, none⟩, 2, rfl, ?_, fun b o e => by cases e; exact HU2.out.size, ?_⟩
    · exact (Bn.new _ [x, y] _ (by simp [World.setCell])).sn rfl
    · exact (HU2.out.set11 (Nat.le_refl _)).alloc _ _

set_option maxHeartbeats 8000000 in
set_option maxRecDepth 100000 in
theorem quantile9_lo (n k : Nat) (A : Option Addr) (L : List It) (a b : Int) (hb : b ≤ 9223372036854775807) (hn : n ≤ 1000000) (w : World) (hS : Sl w A n L) {N D e0 : Int} {Vs : List Int}
    (h : (if askB a b = false then ((0 : Int), (0 : Int), ([] : List Int), (1 : Int)) else if (qnO L a b).isSome = true then (0, 0, [(qnO L a b).getD 0], 0) else (0, 0, [], 7)) = (N, D, Vs, e0)) :
    Calls Tryz.prog 21 #[.slice A n k, .int .i64 a, .int .i64 b] w fun e w' => ∃ A' k', e = .returned (.tuple #[.agg #[.int .i64 N, .int .i64 D, .int .i64 N, .int .i64 D, .int .i64 N, .int .i64 D, .slice A' Vs.length k', .int .u64 0, .int .u64 0, .int .u64 0, .int .u64 0], .int .i64 e0]) ∧ Sn w' A' Vs.length Vs ∧ Nw w A' ∧ Lo w w' := by
  have K1 := Lib.hid (fun W (h : Sl W A n L) => quantile_lo n k A L a b hb hn W h)
  have HS := Lib.hid hS
  by_cases ha : askB a b = false
  · rw [if_pos ha] at h
    cases h
    have h3 : b < 1 ∨ a < 0 ∨ b < a := by have := of_decide_eq_false ha; omega
    clear K1 hS ha
    by_cases h1 : b < 1
    · have t1 : decide (b < 1) = true := decide_eq_true h1
      clear h1 h3
      go_enter Tryz.func21, Tryz.ntmps21
      go_wp2_with fail
      refine bodyPost_ret (v := .tuple #[.agg #[.int .i64 0, .int .i64 0, .int .i64 0, .int .i64 0, .int .i64 0, .int .i64 0, .slice none 0 0, .int .u64 0, .int .u64 0, .int .u64 0, .int .u64 0], .int .i64 1]) (by simp [results, Tryz.results21, go_sem]) rfl ⟨none, 0, rfl, Sn.none_, Nw.none_, ?_⟩
      exact Lo.of_up (by repeat (first | exact Up.refl _ | refine Up.alloc ?_ _ _ | refine Up.setCell ?_ (by first | (simp; done) | (simp; omega) | omega) _ | refine Up.drewN ?_ _ | refine Up.drew ?_))
    have t1 : decide (b < 1) = false := decide_eq_false h1
    by_cases h2 : a < 0
    · have t2 : decide (a < 0) = true := decide_eq_true h2
      clear h1 h2 h3
      go_enter Tryz.func21, Tryz.ntmps21
      go_wp2_with fail
      refine bodyPost_ret (v := .tuple #[.agg #[.int .i64 0, .int .i64 0, .int .i64 0, .int .i64 0, .int .i64 0, .int .i64 0, .slice none 0 0, .int .u64 0, .int .u64 0, .int .u64 0, .int .u64 0], .int .i64 1]) (by simp [results, Tryz.results21, go_sem]) rfl ⟨none, 0, rfl, Sn.none_, Nw.none_, ?_⟩
      exact Lo.of_up (by repeat (first | exact Up.refl _ | refine Up.alloc ?_ _ _ | refine Up.setCell ?_ (by first | (simp; done) | (simp; omega) | omega) _ | refine Up.drewN ?_ _ | refine Up.drew ?_))
    have t2 : decide (a < 0) = false := decide_eq_false h2
    have t3 : decide (b < a) = true := decide_eq_true (by omega)
    clear h1 h2 h3
    go_enter Tryz.func21, Tryz.ntmps21
    go_wp2_with fail
    refine bodyPost_ret (v := .tuple #[.agg #[.int .i64 0, .int .i64 0, .int .i64 0, .int .i64 0, .int .i64 0, .int .i64 0, .slice none 0 0, .int .u64 0, .int .u64 0, .int .u64 0, .int .u64 0], .int .i64 1]) (by simp [results, Tryz.results21, go_sem]) rfl ⟨none, 0, rfl, Sn.none_, Nw.none_, ?_⟩
    exact Lo.of_up (by repeat (first | exact Up.refl _ | refine Up.alloc ?_ _ _ | refine Up.setCell ?_ (by first | (simp; done) | (simp; omega) | omega) _ | refine Up.drewN ?_ _ | refine Up.drew ?_))
  rw [if_neg ha] at h
  have h3 : 1 ≤ b ∧ 0 ≤ a ∧ a ≤ b := of_decide_eq_true (by rw [Bool.not_eq_false] at ha; exact ha)
  have t1 : decide (b < 1) = false := decide_eq_false (by omega)
  have t2 : decide (a < 0) = false := decide_eq_false (by omega)
  have t3 : decide (b < a) = false := decide_eq_false (by omega)
  clear h3 ha hS
  generalize (qnO L a b).getD 0 = y at *
  generalize (qnO L a b).isSome = s at *
  unfold got at K1
  cases s with
  | false =>
    rw [if_neg (by simp)] at h
    cases h
    go_enter Tryz.func21, Tryz.ntmps21
    go_wp2_with fail
    refine (K1.out _ (HS.out.up ((Up.refl _).alloc _ _))).mono ?_
    rintro e w1 ⟨rfl, hu⟩
    have HV : Hid (Lo (w.alloc (.cells #[.int .i64 0, .int .i64 0, .int .i64 0, .int .i64 0, .int .i64 0, .int .i64 0, .slice none 0 0, .int .u64 0, .int .u64 0, .int .u64 0, .int .u64 0] 40)) w1) := Lib.hid hu
    have HU1 : Hid (Lo w w1) := Lib.hid (Below.trans ((Up.refl w).alloc #[.int .i64 0, .int .i64 0, .int .i64 0, .int .i64 0, .int .i64 0, .int .i64 0, .slice none 0 0, .int .u64 0, .int .u64 0, .int .u64 0, .int .u64 0] 40).below (hu.mono (by simp)))
    have r0 := HV.out.keep (w.heap.size) 0 (.int .i64 0) (by simp [go_sem])
    have r1 := HV.out.keep (w.heap.size) 1 (.int .i64 0) (by simp [go_sem])
    have r2 := HV.out.keep (w.heap.size) 2 (.int .i64 0) (by simp [go_sem])
    have r3 := HV.out.keep (w.heap.size) 3 (.int .i64 0) (by simp [go_sem])
    have r4 := HV.out.keep (w.heap.size) 4 (.int .i64 0) (by simp [go_sem])
    have r5 := HV.out.keep (w.heap.size) 5 (.int .i64 0) (by simp [go_sem])
    have r6 := HV.out.keep (w.heap.size) 6 (.slice none 0 0) (by simp [go_sem])
    have r7 := HV.out.keep (w.heap.size) 7 (.int .u64 0) (by simp [go_sem])
    have r8 := HV.out.keep (w.heap.size) 8 (.int .u64 0) (by simp [go_sem])
    have r9 := HV.out.keep (w.heap.size) 9 (.int .u64 0) (by simp [go_sem])
    have r10 := HV.out.keep (w.heap.size) 10 (.int .u64 0) (by simp [go_sem])
    have z0 : w1.frozen? ⟨w.heap.size, 0, none⟩ = false := (HV.out.frozen9 _ (by simp)).trans ((Blk.new w _ _).frozen 0)
    have z1 : w1.frozen? ⟨w.heap.size, 1, none⟩ = false := (HV.out.frozen9 _ (by simp)).trans ((Blk.new w _ _).frozen 1)
    have z2 : w1.frozen? ⟨w.heap.size, 2, none⟩ = false := (HV.out.frozen9 _ (by simp)).trans ((Blk.new w _ _).frozen 2)
    have z3 : w1.frozen? ⟨w.heap.size, 3, none⟩ = false := (HV.out.frozen9 _ (by simp)).trans ((Blk.new w _ _).frozen 3)
    have z4 : w1.frozen? ⟨w.heap.size, 4, none⟩ = false := (HV.out.frozen9 _ (by simp)).trans ((Blk.new w _ _).frozen 4)
    have z5 : w1.frozen? ⟨w.heap.size, 5, none⟩ = false := (HV.out.frozen9 _ (by simp)).trans ((Blk.new w _ _).frozen 5)
    have z6 : w1.frozen? ⟨w.heap.size, 6, none⟩ = false := (HV.out.frozen9 _ (by simp)).trans ((Blk.new w _ _).frozen 6)
    have z7 : w1.frozen? ⟨w.heap.size, 7, none⟩ = false := (HV.out.frozen9 _ (by simp)).trans ((Blk.new w _ _).frozen 7)
    have z8 : w1.frozen? ⟨w.heap.size, 8, none⟩ = false := (HV.out.frozen9 _ (by simp)).trans ((Blk.new w _ _).frozen 8)
    have z9 : w1.frozen? ⟨w.heap.size, 9, none⟩ = false := (HV.out.frozen9 _ (by simp)).trans ((Blk.new w _ _).frozen 9)
    have z10 : w1.frozen? ⟨w.heap.size, 10, none⟩ = false := (HV.out.frozen9 _ (by simp)).trans ((Blk.new w _ _).frozen 10)
    clear hu
    go_wp2_with fail
    refine bodyPost_ret (v := .tuple #[.agg #[.int .i64 0, .int .i64 0, .int .i64 0, .int .i64 0, .int .i64 0, .int .i64 0, .slice none 0 0, .int .u64 0, .int .u64 0, .int .u64 0, .int .u64 0], .int .i64 7]) (by simp [results, Tryz.results21, go_sem, r0, r1, r2, r3, r4, r5, r6, r7, r8, r9, r10]) rfl ⟨none, 0, rfl, Sn.none_, Nw.none_, ?_⟩
    exact HU1.out.set11 (Nat.le_refl _)
  | true =>
    rw [if_pos rfl] at h
    cases h
    go_enter Tryz.func21, Tryz.ntmps21
    go_wp2_with fail
    refine (K1.out _ (HS.out.up ((Up.refl _).alloc _ _))).mono ?_
    rintro e w1 ⟨rfl, hu⟩
    have HV : Hid (Lo (w.alloc (.cells #[.int .i64 0, .int .i64 0, .int .i64 0, .int .i64 0, .int .i64 0, .int .i64 0, .slice none 0 0, .int .u64 0, .int .u64 0, .int .u64 0, .int .u64 0] 40)) w1) := Lib.hid hu
    have HU1 : Hid (Lo w w1) := Lib.hid (Below.trans ((Up.refl w).alloc #[.int .i64 0, .int .i64 0, .int .i64 0, .int .i64 0, .int .i64 0, .int .i64 0, .slice none 0 0, .int .u64 0, .int .u64 0, .int .u64 0, .int .u64 0] 40).below (hu.mono (by simp)))
    have r0 := HV.out.keep (w.heap.size) 0 (.int .i64 0) (by simp [go_sem])
    have r1 := HV.out.keep (w.heap.size) 1 (.int .i64 0) (by simp [go_sem])
    have r2 := HV.out.keep (w.heap.size) 2 (.int .i64 0) (by simp [go_sem])
    have r3 := HV.out.keep (w.heap.size) 3 (.int .i64 0) (by simp [go_sem])
    have r4 := HV.out.keep (w.heap.size) 4 (.int .i64 0) (by simp [go_sem])
    have r5 := HV.out.keep (w.heap.size) 5 (.int .i64 0) (by simp [go_sem])
    have r6 := HV.out.keep (w.heap.size) 6 (.slice none 0 0) (by simp [go_sem])
    have r7 := HV.out.keep (w.heap.size) 7 (.int .u64 0) (by simp [go_sem])
    have r8 := HV.out.keep (w.heap.size) 8 (.int .u64 0) (by simp [go_sem])
    have r9 := HV.out.keep (w.heap.size) 9 (.int .u64 0) (by simp [go_sem])
    have r10 := HV.out.keep (w.heap.size) 10 (.int .u64 0) (by simp [go_sem])
    have z0 : w1.frozen? ⟨w.heap.size, 0, none⟩ = false := (HV.out.frozen9 _ (by simp)).trans ((Blk.new w _ _).frozen 0)
    have z1 : w1.frozen? ⟨w.heap.size, 1, none⟩ = false := (HV.out.frozen9 _ (by simp)).trans ((Blk.new w _ _).frozen 1)
    have z2 : w1.frozen? ⟨w.heap.size, 2, none⟩ = false := (HV.out.frozen9 _ (by simp)).trans ((Blk.new w _ _).frozen 2)
    have z3 : w1.frozen? ⟨w.heap.size, 3, none⟩ = false := (HV.out.frozen9 _ (by simp)).trans ((Blk.new w _ _).frozen 3)
    have z4 : w1.frozen? ⟨w.heap.size, 4, none⟩ = false := (HV.out.frozen9 _ (by simp)).trans ((Blk.new w _ _).frozen 4)
    have z5 : w1.frozen? ⟨w.heap.size, 5, none⟩ = false := (HV.out.frozen9 _ (by simp)).trans ((Blk.new w _ _).frozen 5)
    have z6 : w1.frozen? ⟨w.heap.size, 6, none⟩ = false := (HV.out.frozen9 _ (by simp)).trans ((Blk.new w _ _).frozen 6)
    have z7 : w1.frozen? ⟨w.heap.size, 7, none⟩ = false := (HV.out.frozen9 _ (by simp)).trans ((Blk.new w _ _).frozen 7)
    have z8 : w1.frozen? ⟨w.heap.size, 8, none⟩ = false := (HV.out.frozen9 _ (by simp)).trans ((Blk.new w _ _).frozen 8)
    have z9 : w1.frozen? ⟨w.heap.size, 9, none⟩ = false := (HV.out.frozen9 _ (by simp)).trans ((Blk.new w _ _).frozen 9)
    have z10 : w1.frozen? ⟨w.heap.size, 10, none⟩ = false := (HV.out.frozen9 _ (by simp)).trans ((Blk.new w _ _).frozen 10)
    have hlt : w.heap.size < w1.heap.size := World.block_lt_of_cell? _ _ r0
    clear hu
    go_wp2_with fail
    refine bodyPost_ret (v := .tuple #[.agg #[.int .i64 0, .int .i64 0, .int .i64 0, .int .i64 0, .int .i64 0, .int .i64 0, .slice (some ⟨w1.heap.size, 0, none⟩) 1 1, .int .u64 0, .int .u64 0, .int .u64 0, .int .u64 0], .int .i64 0]) (by simp [results, Tryz.results21, go_sem, r0, r1, r2, r3, r4, r5, r6, r7, r8, r9, r10, hlt]) rfl ⟨some ⟨w1.heap.size, 0, none⟩, 1, rfl, ?_, fun b o e => by cases e; exact Nat.le_of_lt hlt, ?_⟩
    · exact (Bn.new _ [y] _ (by simp [World.setCell])).sn rfl
    · exact (HU1.out.set11 (Nat.le_refl _)).up ((Up.refl _).alloc _ _)
end Go.Proofs.YtflahclphdlolaaGreat
