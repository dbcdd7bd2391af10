/- Texts of these claims, one after the other. -/
import Derived.Test.YtafkoddgefcpnaaRows
import Derived.Test.YtafkoddgefcpnaaZKDisq193
import Derived.Test.YtafkoddgefcpnaaZKFnq249
import Derived.Test.YtafkoddgefcpnaaZKMvq194
namespace Go.Proofs.Ytafkoddgefcpnaa
open Go.RowKit
set_option linter.unusedVariables false

theorem mrk_bds {g v q c now seq : Int} {X : List Mrk} {n : Nat} (hl : X.length = n) (hm : mayM g v q c now = true) (hx : mrkB g v c now seq X = true) : ∀ j, j < n → bdM (X.getD j mk0) := by
  obtain ⟨g1, g2, hc, g4⟩ := mayC_facts (mayM_true hm).2
  obtain ⟨hs2, hok⟩ := mrkB_true hx
  exact fun j hj => (hok j (by rw [hl]; exact hj)).bd hc.2 hs2.2

set_option maxHeartbeats 4000000 in
set_option maxRecDepth 100000 in
theorem validate13_up (g v q c now seq : Int) (n k : Nat) (A : Option Addr) (X : List Mrk) (hn : n ≤ 50000) (w : World) (hS : SG cM w A n X) :
    Calls Try.prog 22 #[.agg #[.int .i64 g, .int .i64 v, .int .i64 q, .int .i64 c, .int .i64 now, .int .i64 seq, .slice A n k]] w fun e w' => e = .returned (.int .i64 (stME g v q c now seq X)) ∧ Up w w' := by
  have KN := Lib.hid (nearness_up g q)
  cases hm : mayM g v q c now with
  | false =>
    rw [stME_no (show stM g v q c now seq X = false by unfold stM; rw [hm]; rfl)]
    have KV := Lib.hid (fun (b1 a1 : Nat) W (hu : Up w W) (hb : W.cell? ⟨b1, 0, none⟩ = some (.int .i64 q)) (ha : W.cell? ⟨a1, 0, none⟩ = some (.int .i64 g)) => mvalid_up (clM g q) (fun _ => False) b1 a1 g v q c now seq n k A X hn (fun h => by rw [hm] at h; cases h) W (fun P M h => h.elim) (hS.up hu))
    rw [hm, Bool.false_and] at KV
    clear hm hS
    go_enter Try.func22, Try.ntmps22
    go_wp2_with (first | (go_at_call 65; (with_reducible refine (KN.out _).mono ?_); rintro e w1 ⟨xa, xb, rfl, hu, cb, ca⟩; have HU1 := Lib.hid (((Up.refl w).alloc _ _).trans hu); have CB := Lib.hid cb; have CA := Lib.hid ca; have a0 := hu.keep w.heap.size 0 (.int .i64 g) (by simp [go_sem]); have a1 := hu.keep w.heap.size 1 (.int .i64 v) (by simp [go_sem]); have a2 := hu.keep w.heap.size 2 (.int .i64 q) (by simp [go_sem]); have a3 := hu.keep w.heap.size 3 (.int .i64 c) (by simp [go_sem]); have a4 := hu.keep w.heap.size 4 (.int .i64 now) (by simp [go_sem]); have a5 := hu.keep w.heap.size 5 (.int .i64 seq) (by simp [go_sem]); have a6 := hu.keep w.heap.size 6 (.slice A n k) (by simp [go_sem]); clear hu cb ca) | (go_at_call 66; (with_reducible refine (KV.out xb xa _ HU1.out CB.out CA.out).mono ?_); rintro e w2 ⟨rfl, hu⟩; have HU2 := Lib.hid (HU1.out.trans hu); have CB2 := Lib.hid (hu.keep _ _ _ CB.out); have CA2 := Lib.hid (hu.keep _ _ _ CA.out); have a0 := hu.keep _ _ _ a0; have a1 := hu.keep _ _ _ a1; have a2 := hu.keep _ _ _ a2; have a3 := hu.keep _ _ _ a3; have a4 := hu.keep _ _ _ a4; have a5 := hu.keep _ _ _ a5; have a6 := hu.keep _ _ _ a6; clear hu))
    go_ret
    exact ⟨rfl, HU2.out⟩
  | true =>
  have hq : 1 ≤ q ∧ q ≤ 64 := (mayC_true (mayM_true hm).2).2
  have KV := Lib.hid (fun (b1 a1 : Nat) W (hu : Up w W) (hb : W.cell? ⟨b1, 0, none⟩ = some (.int .i64 q)) (ha : W.cell? ⟨a1, 0, none⟩ = some (.int .i64 g)) => mvalid_up (clM g q) (bdG g) b1 a1 g v q c now seq n k A X hn (fun _ hx j hj => bdM_of (g := g) (mrk_bds hS.1 hm hx j hj)) W (near_rule b1 a1 g q hq W hb ha) (hS.up hu))
  rw [hm, Bool.true_and] at KV
  cases hv : (mrkB g v c now seq X && dfB (clM g q) X) with
  | false =>
    rw [stME_no (show stM g v q c now seq X = false by rw [stM_form, hm, hv]; rfl)]
    rw [hv] at KV
    clear hm hS hv
    go_enter Try.func22, Try.ntmps22
    go_wp2_with (first | (go_at_call 65; (with_reducible refine (KN.out _).mono ?_); rintro e w1 ⟨xa, xb, rfl, hu, cb, ca⟩; have HU1 := Lib.hid (((Up.refl w).alloc _ _).trans hu); have CB := Lib.hid cb; have CA := Lib.hid ca; have a0 := hu.keep w.heap.size 0 (.int .i64 g) (by simp [go_sem]); have a1 := hu.keep w.heap.size 1 (.int .i64 v) (by simp [go_sem]); have a2 := hu.keep w.heap.size 2 (.int .i64 q) (by simp [go_sem]); have a3 := hu.keep w.heap.size 3 (.int .i64 c) (by simp [go_sem]); have a4 := hu.keep w.heap.size 4 (.int .i64 now) (by simp [go_sem]); have a5 := hu.keep w.heap.size 5 (.int .i64 seq) (by simp [go_sem]); have a6 := hu.keep w.heap.size 6 (.slice A n k) (by simp [go_sem]); clear hu cb ca) | (go_at_call 66; (with_reducible refine (KV.out xb xa _ HU1.out CB.out CA.out).mono ?_); rintro e w2 ⟨rfl, hu⟩; have HU2 := Lib.hid (HU1.out.trans hu); have CB2 := Lib.hid (hu.keep _ _ _ CB.out); have CA2 := Lib.hid (hu.keep _ _ _ CA.out); have a0 := hu.keep _ _ _ a0; have a1 := hu.keep _ _ _ a1; have a2 := hu.keep _ _ _ a2; have a3 := hu.keep _ _ _ a3; have a4 := hu.keep _ _ _ a4; have a5 := hu.keep _ _ _ a5; have a6 := hu.keep _ _ _ a6; clear hu))
    go_ret
    exact ⟨rfl, HU2.out⟩
  | true =>
  rw [hv] at KV
  have hx : mrkB g v c now seq X = true := (Bool.and_eq_true _ _ ▸ hv : _ ∧ _).1
  have KG := Lib.hid (fun (b1 a1 : Nat) W (hu : Up w W) (hb : W.cell? ⟨b1, 0, none⟩ = some (.int .i64 q)) (ha : W.cell? ⟨a1, 0, none⟩ = some (.int .i64 g)) => validGaps_up b1 a1 g q n k A X hn hq (mrk_bds hS.1 hm hx) W hb ha (hS.up hu))
  have HE : Hid (stME g v q c now seq X = if gpB (clM g q) X = true then 0 else 2) := Lib.hid (by unfold stME; rw [stM_form, hm, hv]; rfl)
  rw [HE.out]
  clear hm hS hv hx hq HE
  cases hg : gpB (clM g q) X with
  | false =>
    rw [hg] at KG
    rw [if_neg Bool.false_ne_true]
    clear hg
    go_enter Try.func22, Try.ntmps22
    go_wp2_with (first | (go_at_call 65; (with_reducible refine (KN.out _).mono ?_); rintro e w1 ⟨xa, xb, rfl, hu, cb, ca⟩; have HU1 := Lib.hid (((Up.refl w).alloc _ _).trans hu); have CB := Lib.hid cb; have CA := Lib.hid ca; have a0 := hu.keep w.heap.size 0 (.int .i64 g) (by simp [go_sem]); have a1 := hu.keep w.heap.size 1 (.int .i64 v) (by simp [go_sem]); have a2 := hu.keep w.heap.size 2 (.int .i64 q) (by simp [go_sem]); have a3 := hu.keep w.heap.size 3 (.int .i64 c) (by simp [go_sem]); have a4 := hu.keep w.heap.size 4 (.int .i64 now) (by simp [go_sem]); have a5 := hu.keep w.heap.size 5 (.int .i64 seq) (by simp [go_sem]); have a6 := hu.keep w.heap.size 6 (.slice A n k) (by simp [go_sem]); clear hu cb ca) | (go_at_call 66; (with_reducible refine (KV.out xb xa _ HU1.out CB.out CA.out).mono ?_); rintro e w2 ⟨rfl, hu⟩; have HU2 := Lib.hid (HU1.out.trans hu); have CB2 := Lib.hid (hu.keep _ _ _ CB.out); have CA2 := Lib.hid (hu.keep _ _ _ CA.out); have a0 := hu.keep _ _ _ a0; have a1 := hu.keep _ _ _ a1; have a2 := hu.keep _ _ _ a2; have a3 := hu.keep _ _ _ a3; have a4 := hu.keep _ _ _ a4; have a5 := hu.keep _ _ _ a5; have a6 := hu.keep _ _ _ a6; clear hu) | (go_at_call 67; (with_reducible refine (KG.out xb xa _ HU2.out CB2.out CA2.out).mono ?_); rintro e w3 ⟨rfl, hu⟩; have HU3 := Lib.hid (HU2.out.trans hu); clear hu))
    go_ret
    exact ⟨rfl, HU3.out⟩
  | true =>
    rw [hg] at KG
    rw [if_pos rfl]
    clear hg
    go_enter Try.func22, Try.ntmps22
    go_wp2_with (first | (go_at_call 65; (with_reducible refine (KN.out _).mono ?_); rintro e w1 ⟨xa, xb, rfl, hu, cb, ca⟩; have HU1 := Lib.hid (((Up.refl w).alloc _ _).trans hu); have CB := Lib.hid cb; have CA := Lib.hid ca; have a0 := hu.keep w.heap.size 0 (.int .i64 g) (by simp [go_sem]); have a1 := hu.keep w.heap.size 1 (.int .i64 v) (by simp [go_sem]); have a2 := hu.keep w.heap.size 2 (.int .i64 q) (by simp [go_sem]); have a3 := hu.keep w.heap.size 3 (.int .i64 c) (by simp [go_sem]); have a4 := hu.keep w.heap.size 4 (.int .i64 now) (by simp [go_sem]); have a5 := hu.keep w.heap.size 5 (.int .i64 seq) (by simp [go_sem]); have a6 := hu.keep w.heap.size 6 (.slice A n k) (by simp [go_sem]); clear hu cb ca) | (go_at_call 66; (with_reducible refine (KV.out xb xa _ HU1.out CB.out CA.out).mono ?_); rintro e w2 ⟨rfl, hu⟩; have HU2 := Lib.hid (HU1.out.trans hu); have CB2 := Lib.hid (hu.keep _ _ _ CB.out); have CA2 := Lib.hid (hu.keep _ _ _ CA.out); have a0 := hu.keep _ _ _ a0; have a1 := hu.keep _ _ _ a1; have a2 := hu.keep _ _ _ a2; have a3 := hu.keep _ _ _ a3; have a4 := hu.keep _ _ _ a4; have a5 := hu.keep _ _ _ a5; have a6 := hu.keep _ _ _ a6; clear hu) | (go_at_call 67; (with_reducible refine (KG.out xb xa _ HU2.out CB2.out CA2.out).mono ?_); rintro e w3 ⟨rfl, hu⟩; have HU3 := Lib.hid (HU2.out.trans hu); clear hu))
    go_ret
    exact ⟨rfl, HU3.out⟩

set_option maxHeartbeats 4000000 in
set_option maxRecDepth 100000 in
theorem new13_yes (g v q c now : Int) (h : mayM g v q c now = true) (w : World) :
    Calls Try.prog 13 #[.int .i64 g, .int .i64 v, .int .i64 q, .int .i64 c, .int .i64 now] w fun e w' => e = .returned (.tuple #[.agg #[.int .i64 g, .int .i64 v, .int .i64 q, .int .i64 c, .int .i64 now, .int .i64 0, .slice none 0 0], .int .i64 0]) ∧ Up w w' := by
  have KN := Lib.hid (mnew_yes g v q c now h)
  clear h
  go_enter Try.func13, Try.ntmps13
  go_wp2_with (go_at_call 54; (with_reducible refine (KN.out _).mono ?_); rintro e w1 ⟨rfl, hu⟩; have HU1 := Lib.hid (((Up.refl w).alloc _ _).trans hu); have r0 := hu.keep w.heap.size 0 (.int .i64 0) (by simp [go_sem]); have r1 := hu.keep w.heap.size 1 (.int .i64 0) (by simp [go_sem]); have r2 := hu.keep w.heap.size 2 (.int .i64 0) (by simp [go_sem]); have r3 := hu.keep w.heap.size 3 (.int .i64 0) (by simp [go_sem]); have r4 := hu.keep w.heap.size 4 (.int .i64 0) (by simp [go_sem]); have r5 := hu.keep w.heap.size 5 (.int .i64 0) (by simp [go_sem]); have r6 := hu.keep w.heap.size 6 (.slice none 0 0) (by simp [go_sem]); have z0 := HU1.out.ownGe (g := w.heap.size) (Nat.le_refl _) 0; have z1 := HU1.out.ownGe (g := w.heap.size) (Nat.le_refl _) 1; have z2 := HU1.out.ownGe (g := w.heap.size) (Nat.le_refl _) 2; have z3 := HU1.out.ownGe (g := w.heap.size) (Nat.le_refl _) 3; have z4 := HU1.out.ownGe (g := w.heap.size) (Nat.le_refl _) 4; have z5 := HU1.out.ownGe (g := w.heap.size) (Nat.le_refl _) 5; have z6 := HU1.out.ownGe (g := w.heap.size) (Nat.le_refl _) 6; clear hu)
  refine bodyPost_ret (v := .tuple #[.agg #[.int .i64 g, .int .i64 v, .int .i64 q, .int .i64 c, .int .i64 now, .int .i64 0, .slice none 0 0], .int .i64 0]) (by simp [results, Try.results13, go_sem, r0, r1, r2, r3, r4, r5, r6]) rfl ⟨rfl, ?_⟩
  exact HU1.out.set7 (Nat.le_refl _)

end Go.Proofs.Ytafkoddgefcpnaa

namespace Go.Proofs.Ytafkoddgefcpnaa
open Go.RowKit
set_option linter.unusedVariables false

theorem stM_may {g v q c now seq : Int} {X : List Mrk} (h : stM g v q c now seq X = true) : mayC v q c now = true := (mayM_true (stM_true h).1).2
end Go.Proofs.Ytafkoddgefcpnaa
