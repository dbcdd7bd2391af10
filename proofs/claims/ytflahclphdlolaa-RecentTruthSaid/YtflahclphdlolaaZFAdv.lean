/- What Advance of package recent and of its reference returns. -/
import Derived.Test.YtflahclphdlolaaZCClock
import Derived.Test.YtflahclphdlolaaZELive
import Derived.Test.YtflahclphdlolaaZELive2
import Derived.Test.YtflahclphdlolaaZFBase
import Derived.Test.YtflahclphdlolaaZFRVal
import Derived.Test.YtflahclphdlolaaZFVal
import Derived.Test.YtflahclphdlolaaZG0a
import Derived.Test.YtflahclphdlolaaZG2a
import Derived.Test.YtflahclphdlolaaZG4a
import Derived.Test.YtflahclphdlolaaZGLaw
namespace Go.Proofs.Ytflahclphdlolaa
open Go.RowKit

theorem valB_later {L : List It} {now to : Int} (h : valB L now = true) (h1 : now ≤ to) (h2 : to ≤ 16777216) : valB L to = true := by
  unfold valB at h ⊢
  rw [Bool.and_eq_true, decide_eq_true_eq] at h ⊢
  exact ⟨tickB_yes (by have := tickB_true h.1; omega) h2, fun j hj => by have g := h.2 j hj; exact ⟨g.1, by have := g.2.1; omega, g.2.2⟩⟩
theorem adv_live {L : List It} {v c now to : Int} (h : mayB v c now = true ∧ (L.length : Int) ≤ c ∧ valB L now = true ∧ okB now v L = true) (h1 : now ≤ to) (h2 : to ≤ 16777216) : (valB L to && winB v) = true := by
  rw [valB_later h.2.2.1 h1 h2, (mayB_true h.1).2.1]; rfl
theorem Sl.off {w : World} {A : Option Addr} {n p o : Nat} {M : List It} (h : Sl w A n M) (hn : ∀ b o, A = some ⟨b, o, none⟩ → b ≠ p) (x : Value) : Sl (w.setCell ⟨p, o, none⟩ x) A n M := by
  refine ⟨h.1, fun h0 => ?_⟩
  obtain ⟨b, o, e, hc⟩ := h.2 h0
  exact ⟨b, o, e, fun j u hj => (cell_far (fun hp => hn b o e hp.symm)).trans (hc j u hj)⟩
/-- An address that was not there before. -/
def Nw (w : World) (A : Option Addr) : Prop := ∀ b o, A = some ⟨b, o, none⟩ → w.heap.size ≤ b
theorem Own.nw {w0 w : World} {A : Option Addr} {n c : Nat} {L : List It} (h : Own w0 w (.slice A n c) n L) : Nw w0 A := by
  intro b o e
  rcases h.2 with ⟨h1, _⟩ | ⟨g, cap, cur, h1, h2, _⟩
  · injection h1 with h1; rw [h1] at e; cases e
  · injection h1 with h1
    rw [h1] at e
    injection e with e
    injection e with e1 e2
    omega
theorem Own.cap {w0 w : World} {A : Option Addr} {n c : Nat} {L : List It} (h : Own w0 w (.slice A n c) n L) : n ≤ c := by
  obtain ⟨A2, c2, e, h1, _⟩ := h.sl
  cases e
  exact h1
theorem Nw.up {w w1 : World} {A : Option Addr} (h : Nw w1 A) (hu : Up w w1) : Nw w A := fun b o e => Nat.le_trans hu.size (h b o e)
theorem back_no {now to : Int} (h : to < now ∨ 16777216 < to) : backE now to = 3 := if_pos h
theorem back_yes {now to : Int} (h : now ≤ to) (k : to ≤ 16777216) : backE now to = 0 := if_neg (by omega)
theorem adv_no {now to : Int} (ht : tickB now = true) (h : to < now ∨ 16777216 < to) : (if tickB now = true then (if to < now ∨ 16777216 < to then ((0 : Int), (3 : Int)) else (to, 0)) else (0, 1)) = (0, 3) := by rw [if_pos ht, if_pos h]
theorem adv_yes {now to : Int} (ht : tickB now = true) (h : now ≤ to) (k : to ≤ 16777216) : (if tickB now = true then (if to < now ∨ 16777216 < to then ((0 : Int), (3 : Int)) else (to, 0)) else (0, 1)) = (to, 0) := by rw [if_pos ht, if_neg (by omega)]

set_option maxHeartbeats 4000000 in
set_option maxRecDepth 100000 in
theorem adv9_bad (v c now to : Int) (n k : Nat) (A : Option Addr) (L : List It) (hv : stB v c now L = false) (w : World) (hS : Sl w A n L) :
    Calls Try.prog 12 #[.agg #[.int .i64 v, .int .i64 c, .int .i64 now, .slice A n k], .int .i64 to] w fun e w' => e = .returned (.tuple #[.agg #[.int .i64 0, .int .i64 0, .int .i64 0, .slice none 0 0], .int .i64 2]) ∧ Up w w' := by
  have KV := Lib.hid (fun W (h : Sl W A n L) => validate9_up v c now n k A L W h)
  rw [stE_no hv] at KV
  have HS := Lib.hid hS
  clear hS hv
  go_enter Try.func12, Try.ntmps12
  go_wp2_with (go_at_call 16; (with_reducible refine (KV.out _ (HS.out.up (((Up.refl w).alloc _ _).alloc _ _))).mono ?_); rintro e w1 ⟨rfl, hu⟩; have HU1 := Lib.hid ((((Up.refl w).alloc #[.int .i64 v, .int .i64 c, .int .i64 now, .slice A n k] 24).alloc #[.int .i64 0, .int .i64 0, .int .i64 0, .slice none 0 0] 24).trans hu); have c00 := hu.keep (w.heap.size) 0 (.int .i64 v) (by simp [go_sem]); have c01 := hu.keep (w.heap.size) 1 (.int .i64 c) (by simp [go_sem]); have c02 := hu.keep (w.heap.size) 2 (.int .i64 now) (by simp [go_sem]); have c03 := hu.keep (w.heap.size) 3 (.slice A n k) (by simp [go_sem]); have c10 := hu.keep (w.heap.size + 1) 0 (.int .i64 0) (by simp [go_sem]); have c11 := hu.keep (w.heap.size + 1) 1 (.int .i64 0) (by simp [go_sem]); have c12 := hu.keep (w.heap.size + 1) 2 (.int .i64 0) (by simp [go_sem]); have c13 := hu.keep (w.heap.size + 1) 3 (.slice none 0 0) (by simp [go_sem]); have z00 := HU1.out.ownGe (g := w.heap.size) (Nat.le_refl _) 0; have z01 := HU1.out.ownGe (g := w.heap.size) (Nat.le_refl _) 1; have z02 := HU1.out.ownGe (g := w.heap.size) (Nat.le_refl _) 2; have z03 := HU1.out.ownGe (g := w.heap.size) (Nat.le_refl _) 3; have z10 := HU1.out.ownGe (g := w.heap.size + 1) (by omega) 0; have z11 := HU1.out.ownGe (g := w.heap.size + 1) (by omega) 1; have z12 := HU1.out.ownGe (g := w.heap.size + 1) (by omega) 2; have z13 := HU1.out.ownGe (g := w.heap.size + 1) (by omega) 3; have hlt : w.heap.size + 1 < w1.heap.size := World.block_lt_of_cell? _ _ c10; have hlt0 : w.heap.size < w1.heap.size := Nat.lt_of_succ_lt hlt; clear hu)
  refine bodyPost_ret (v := .tuple #[.agg #[.int .i64 0, .int .i64 0, .int .i64 0, .slice none 0 0], .int .i64 2]) (by simp [results, Try.results12, go_sem, c10, c11, c12, c13]) rfl ⟨rfl, ?_⟩
  exact HU1.out.set4 (by omega)

set_option maxHeartbeats 4000000 in
set_option maxRecDepth 100000 in
theorem adv9_time (v c now to : Int) (n k : Nat) (A : Option Addr) (L : List It) (hv : stB v c now L = true) (ht : to < now ∨ 16777216 < to) (w : World) (hS : Sl w A n L) :
    Calls Try.prog 12 #[.agg #[.int .i64 v, .int .i64 c, .int .i64 now, .slice A n k], .int .i64 to] w fun e w' => e = .returned (.tuple #[.agg #[.int .i64 0, .int .i64 0, .int .i64 0, .slice none 0 0], .int .i64 3]) ∧ Up w w' := by
  have KV := Lib.hid (fun W (h : Sl W A n L) => validate9_up v c now n k A L W h)
  rw [stE_yes hv] at KV
  have HS := Lib.hid hS
  have KB := Lib.hid (fun W => advance_any now to 0 3 (adv_no (mayB_true (stB_true hv).1).1 ht) W)
  clear hS hv ht
  go_enter Try.func12, Try.ntmps12
  go_wp2_with (first | (go_at_call 32; (with_reducible refine (KB.out _).mono ?_); rintro e w2 ⟨rfl, rfl⟩) | (go_at_call 16; (with_reducible refine (KV.out _ (HS.out.up (((Up.refl w).alloc _ _).alloc _ _))).mono ?_); rintro e w1 ⟨rfl, hu⟩; have HU1 := Lib.hid ((((Up.refl w).alloc #[.int .i64 v, .int .i64 c, .int .i64 now, .slice A n k] 24).alloc #[.int .i64 0, .int .i64 0, .int .i64 0, .slice none 0 0] 24).trans hu); have c00 := hu.keep (w.heap.size) 0 (.int .i64 v) (by simp [go_sem]); have c01 := hu.keep (w.heap.size) 1 (.int .i64 c) (by simp [go_sem]); have c02 := hu.keep (w.heap.size) 2 (.int .i64 now) (by simp [go_sem]); have c03 := hu.keep (w.heap.size) 3 (.slice A n k) (by simp [go_sem]); have c10 := hu.keep (w.heap.size + 1) 0 (.int .i64 0) (by simp [go_sem]); have c11 := hu.keep (w.heap.size + 1) 1 (.int .i64 0) (by simp [go_sem]); have c12 := hu.keep (w.heap.size + 1) 2 (.int .i64 0) (by simp [go_sem]); have c13 := hu.keep (w.heap.size + 1) 3 (.slice none 0 0) (by simp [go_sem]); have z00 := HU1.out.ownGe (g := w.heap.size) (Nat.le_refl _) 0; have z01 := HU1.out.ownGe (g := w.heap.size) (Nat.le_refl _) 1; have z02 := HU1.out.ownGe (g := w.heap.size) (Nat.le_refl _) 2; have z03 := HU1.out.ownGe (g := w.heap.size) (Nat.le_refl _) 3; have z10 := HU1.out.ownGe (g := w.heap.size + 1) (by omega) 0; have z11 := HU1.out.ownGe (g := w.heap.size + 1) (by omega) 1; have z12 := HU1.out.ownGe (g := w.heap.size + 1) (by omega) 2; have z13 := HU1.out.ownGe (g := w.heap.size + 1) (by omega) 3; have hlt : w.heap.size + 1 < w1.heap.size := World.block_lt_of_cell? _ _ c10; have hlt0 : w.heap.size < w1.heap.size := Nat.lt_of_succ_lt hlt; clear hu))
  refine bodyPost_ret (v := .tuple #[.agg #[.int .i64 0, .int .i64 0, .int .i64 0, .slice none 0 0], .int .i64 3]) (by simp [results, Try.results12, go_sem, c10, c11, c12, c13]) rfl ⟨rfl, ?_⟩
  exact HU1.out.set4 (by omega)

set_option maxHeartbeats 4000000 in
set_option maxRecDepth 100000 in
theorem adv9_good (v c now to : Int) (n k : Nat) (A : Option Addr) (L : List It) (hv : stB v c now L = true) (h1 : now ≤ to) (h2 : to ≤ 16777216) (w : World) (hS : Sl w A n L) :
    Calls Try.prog 12 #[.agg #[.int .i64 v, .int .i64 c, .int .i64 now, .slice A n k], .int .i64 to] w fun e w' => ∃ A' n' k', e = .returned (.tuple #[.agg #[.int .i64 v, .int .i64 c, .int .i64 to, .slice A' n' k'], .int .i64 0]) ∧ n' ≤ n ∧ n' ≤ k' ∧ Nw w A' ∧ Sl w' A' n' (livE L to v) ∧ Up w w' := by
  have KV := Lib.hid (fun W (h : Sl W A n L) => validate9_up v c now n k A L W h)
  rw [stE_yes hv] at KV
  have HS := Lib.hid hS
  have hn : n ≤ 65536 := by
    have := stB_true hv
    have h3 := (mayB_true this.1).2.2.2
    have h4 := this.2.1
    rw [hS.1] at h4
    omega
  have KL := Lib.hid (fun W (h : Sl W A n L) => live8_up_own n k A L to v (by omega) (adv_live (stB_true hv) h1 h2) W h)
  have KB := Lib.hid (fun W => advance_any now to to 0 (adv_yes (mayB_true (stB_true hv).1).1 h1 h2) W)
  clear hS hv h1 h2 hn
  generalize livE L to v = M at KL ⊢
  go_enter Try.func12, Try.ntmps12
  go_wp2_with (first | (go_at_call 32; (with_reducible refine (KB.out _).mono ?_); rintro e w1 ⟨rfl, rfl⟩) | (go_at_call 16; (with_reducible refine (KV.out _ (HS.out.up (((Up.refl w).alloc _ _).alloc _ _))).mono ?_); rintro e w1 ⟨rfl, hu⟩; have HU1 := Lib.hid ((((Up.refl w).alloc #[.int .i64 v, .int .i64 c, .int .i64 now, .slice A n k] 24).alloc #[.int .i64 0, .int .i64 0, .int .i64 0, .slice none 0 0] 24).trans hu); have c00 := hu.keep (w.heap.size) 0 (.int .i64 v) (by simp [go_sem]); have c01 := hu.keep (w.heap.size) 1 (.int .i64 c) (by simp [go_sem]); have c02 := hu.keep (w.heap.size) 2 (.int .i64 now) (by simp [go_sem]); have c03 := hu.keep (w.heap.size) 3 (.slice A n k) (by simp [go_sem]); have c10 := hu.keep (w.heap.size + 1) 0 (.int .i64 0) (by simp [go_sem]); have c11 := hu.keep (w.heap.size + 1) 1 (.int .i64 0) (by simp [go_sem]); have c12 := hu.keep (w.heap.size + 1) 2 (.int .i64 0) (by simp [go_sem]); have c13 := hu.keep (w.heap.size + 1) 3 (.slice none 0 0) (by simp [go_sem]); have z00 := HU1.out.ownGe (g := w.heap.size) (Nat.le_refl _) 0; have z01 := HU1.out.ownGe (g := w.heap.size) (Nat.le_refl _) 1; have z02 := HU1.out.ownGe (g := w.heap.size) (Nat.le_refl _) 2; have z03 := HU1.out.ownGe (g := w.heap.size) (Nat.le_refl _) 3; have z10 := HU1.out.ownGe (g := w.heap.size + 1) (by omega) 0; have z11 := HU1.out.ownGe (g := w.heap.size + 1) (by omega) 1; have z12 := HU1.out.ownGe (g := w.heap.size + 1) (by omega) 2; have z13 := HU1.out.ownGe (g := w.heap.size + 1) (by omega) 3; have hlt : w.heap.size + 1 < w1.heap.size := World.block_lt_of_cell? _ _ c10; have hlt0 : w.heap.size < w1.heap.size := Nat.lt_of_succ_lt hlt; clear hu))
  refine (KL.out _ (HS.out.up HU1.out)).mono ?_
  rintro e w2 ⟨A2, n2, k2, rfl, hn2, hM, hu⟩
  have HU2 := Lib.hid (HU1.out.trans hu)
  have HM := Lib.hid hM
  have d10 := hu.keep _ _ _ c10
  have d11 := hu.keep _ _ _ c11
  have d12 := hu.keep _ _ _ c12
  have d13 := hu.keep _ _ _ c13
  have d00 := hu.keep _ _ _ c00
  have d01 := hu.keep _ _ _ c01
  have d02 := hu.keep _ _ _ c02
  have d03 := hu.keep _ _ _ c03
  have y00 := HU2.out.ownGe (g := w.heap.size) (Nat.le_refl _) 0
  have y10 := HU2.out.ownGe (g := w.heap.size + 1) (by omega) 0
  have y01 := HU2.out.ownGe (g := w.heap.size) (Nat.le_refl _) 1
  have y11 := HU2.out.ownGe (g := w.heap.size + 1) (by omega) 1
  have y02 := HU2.out.ownGe (g := w.heap.size) (Nat.le_refl _) 2
  have y12 := HU2.out.ownGe (g := w.heap.size + 1) (by omega) 2
  have y03 := HU2.out.ownGe (g := w.heap.size) (Nat.le_refl _) 3
  have y13 := HU2.out.ownGe (g := w.heap.size + 1) (by omega) 3
  clear c00 c01 c02 c03 c10 c11 c12 c13 z00 z01 z02 z03 z10 z11 z12 z13 hu hM
  go_wp2_with fail
  refine bodyPost_ret (v := .tuple #[.agg #[.int .i64 v, .int .i64 c, .int .i64 to, .slice A2 n2 k2], .int .i64 0]) (by simp [results, Try.results12, go_sem, d10, d11, d12, d13]) rfl ⟨A2, n2, k2, rfl, hn2, HM.out.cap, HM.out.nw.up HU1.out, ?_, ?_⟩
  · obtain ⟨A3, k3, e3, _, hS3⟩ := HM.out.sl
    cases e3
    exact ((hS3.off (HM.out.off (by omega)) _).off (HM.out.off (by omega)) _).off4 (HM.out.off (by omega)) _ _ _ _
  · exact ((HU2.out.setCell (Nat.le_refl _) _).setCell (Nat.le_refl _) _).set4 (by omega)

set_option maxHeartbeats 4000000 in
set_option maxRecDepth 100000 in
theorem radv9_bad (v c now to : Int) (n k : Nat) (A : Option Addr) (L : List It) (hv : stB v c now L = false) (w : World) (hS : Sl w A n L) :
    Calls Try.prog 13 #[.agg #[.int .i64 v, .int .i64 c, .int .i64 now, .slice A n k], .int .i64 to] w fun e w' => e = .returned (.tuple #[.agg #[.int .i64 0, .int .i64 0, .int .i64 0, .slice none 0 0], .int .i64 2]) ∧ Up w w' := by
  have KV := Lib.hid (fun W (h : Sl W A n L) => rvalidate9_up v c now n k A L W h)
  rw [stE_no hv] at KV
  have HS := Lib.hid hS
  clear hS hv
  go_enter Try.func13, Try.ntmps13
  go_wp2_with (go_at_call 17; (with_reducible refine (KV.out _ (HS.out.up (((Up.refl w).alloc _ _).alloc _ _))).mono ?_); rintro e w1 ⟨rfl, hu⟩; have HU1 := Lib.hid ((((Up.refl w).alloc #[.int .i64 v, .int .i64 c, .int .i64 now, .slice A n k] 24).alloc #[.int .i64 0, .int .i64 0, .int .i64 0, .slice none 0 0] 24).trans hu); have c00 := hu.keep (w.heap.size) 0 (.int .i64 v) (by simp [go_sem]); have c01 := hu.keep (w.heap.size) 1 (.int .i64 c) (by simp [go_sem]); have c02 := hu.keep (w.heap.size) 2 (.int .i64 now) (by simp [go_sem]); have c03 := hu.keep (w.heap.size) 3 (.slice A n k) (by simp [go_sem]); have c10 := hu.keep (w.heap.size + 1) 0 (.int .i64 0) (by simp [go_sem]); have c11 := hu.keep (w.heap.size + 1) 1 (.int .i64 0) (by simp [go_sem]); have c12 := hu.keep (w.heap.size + 1) 2 (.int .i64 0) (by simp [go_sem]); have c13 := hu.keep (w.heap.size + 1) 3 (.slice none 0 0) (by simp [go_sem]); have z00 := HU1.out.ownGe (g := w.heap.size) (Nat.le_refl _) 0; have z01 := HU1.out.ownGe (g := w.heap.size) (Nat.le_refl _) 1; have z02 := HU1.out.ownGe (g := w.heap.size) (Nat.le_refl _) 2; have z03 := HU1.out.ownGe (g := w.heap.size) (Nat.le_refl _) 3; have z10 := HU1.out.ownGe (g := w.heap.size + 1) (by omega) 0; have z11 := HU1.out.ownGe (g := w.heap.size + 1) (by omega) 1; have z12 := HU1.out.ownGe (g := w.heap.size + 1) (by omega) 2; have z13 := HU1.out.ownGe (g := w.heap.size + 1) (by omega) 3; have hlt : w.heap.size + 1 < w1.heap.size := World.block_lt_of_cell? _ _ c10; have hlt0 : w.heap.size < w1.heap.size := Nat.lt_of_succ_lt hlt; clear hu)
  refine bodyPost_ret (v := .tuple #[.agg #[.int .i64 0, .int .i64 0, .int .i64 0, .slice none 0 0], .int .i64 2]) (by simp [results, Try.results13, go_sem, c10, c11, c12, c13]) rfl ⟨rfl, ?_⟩
  exact HU1.out.set4 (by omega)

set_option maxHeartbeats 4000000 in
set_option maxRecDepth 100000 in
theorem radv9_time (v c now to : Int) (n k : Nat) (A : Option Addr) (L : List It) (hv : stB v c now L = true) (ht : to < now ∨ 16777216 < to) (w : World) (hS : Sl w A n L) :
    Calls Try.prog 13 #[.agg #[.int .i64 v, .int .i64 c, .int .i64 now, .slice A n k], .int .i64 to] w fun e w' => e = .returned (.tuple #[.agg #[.int .i64 0, .int .i64 0, .int .i64 0, .slice none 0 0], .int .i64 3]) ∧ Up w w' := by
  have KV := Lib.hid (fun W (h : Sl W A n L) => rvalidate9_up v c now n k A L W h)
  rw [stE_yes hv] at KV
  have HS := Lib.hid hS
  have KB := Lib.hid (fun W => rback_any now to W)
  rw [back_no ht] at KB
  clear hS hv ht
  go_enter Try.func13, Try.ntmps13
  go_wp2_with (first | (go_at_call 34; (with_reducible refine (KB.out _).mono ?_); rintro e w2 ⟨rfl, rfl⟩) | (go_at_call 17; (with_reducible refine (KV.out _ (HS.out.up (((Up.refl w).alloc _ _).alloc _ _))).mono ?_); rintro e w1 ⟨rfl, hu⟩; have HU1 := Lib.hid ((((Up.refl w).alloc #[.int .i64 v, .int .i64 c, .int .i64 now, .slice A n k] 24).alloc #[.int .i64 0, .int .i64 0, .int .i64 0, .slice none 0 0] 24).trans hu); have c00 := hu.keep (w.heap.size) 0 (.int .i64 v) (by simp [go_sem]); have c01 := hu.keep (w.heap.size) 1 (.int .i64 c) (by simp [go_sem]); have c02 := hu.keep (w.heap.size) 2 (.int .i64 now) (by simp [go_sem]); have c03 := hu.keep (w.heap.size) 3 (.slice A n k) (by simp [go_sem]); have c10 := hu.keep (w.heap.size + 1) 0 (.int .i64 0) (by simp [go_sem]); have c11 := hu.keep (w.heap.size + 1) 1 (.int .i64 0) (by simp [go_sem]); have c12 := hu.keep (w.heap.size + 1) 2 (.int .i64 0) (by simp [go_sem]); have c13 := hu.keep (w.heap.size + 1) 3 (.slice none 0 0) (by simp [go_sem]); have z00 := HU1.out.ownGe (g := w.heap.size) (Nat.le_refl _) 0; have z01 := HU1.out.ownGe (g := w.heap.size) (Nat.le_refl _) 1; have z02 := HU1.out.ownGe (g := w.heap.size) (Nat.le_refl _) 2; have z03 := HU1.out.ownGe (g := w.heap.size) (Nat.le_refl _) 3; have z10 := HU1.out.ownGe (g := w.heap.size + 1) (by omega) 0; have z11 := HU1.out.ownGe (g := w.heap.size + 1) (by omega) 1; have z12 := HU1.out.ownGe (g := w.heap.size + 1) (by omega) 2; have z13 := HU1.out.ownGe (g := w.heap.size + 1) (by omega) 3; have hlt : w.heap.size + 1 < w1.heap.size := World.block_lt_of_cell? _ _ c10; have hlt0 : w.heap.size < w1.heap.size := Nat.lt_of_succ_lt hlt; clear hu))
  refine bodyPost_ret (v := .tuple #[.agg #[.int .i64 0, .int .i64 0, .int .i64 0, .slice none 0 0], .int .i64 3]) (by simp [results, Try.results13, go_sem, c10, c11, c12, c13]) rfl ⟨rfl, ?_⟩
  exact HU1.out.set4 (by omega)

set_option maxHeartbeats 4000000 in
set_option maxRecDepth 100000 in
theorem radv9_good (v c now to : Int) (n k : Nat) (A : Option Addr) (L : List It) (hv : stB v c now L = true) (h1 : now ≤ to) (h2 : to ≤ 16777216) (w : World) (hS : Sl w A n L) :
    Calls Try.prog 13 #[.agg #[.int .i64 v, .int .i64 c, .int .i64 now, .slice A n k], .int .i64 to] w fun e w' => ∃ A' n' k', e = .returned (.tuple #[.agg #[.int .i64 v, .int .i64 c, .int .i64 to, .slice A' n' k'], .int .i64 0]) ∧ n' ≤ n ∧ n' ≤ k' ∧ Nw w A' ∧ Sl w' A' n' (livE L to v) ∧ Up w w' := by
  have KV := Lib.hid (fun W (h : Sl W A n L) => rvalidate9_up v c now n k A L W h)
  rw [stE_yes hv] at KV
  have HS := Lib.hid hS
  have hn : n ≤ 65536 := by
    have := stB_true hv
    have h3 := (mayB_true this.1).2.2.2
    have h4 := this.2.1
    rw [hS.1] at h4
    omega
  have KL := Lib.hid (fun W (h : Sl W A n L) => rlive8_up_own n k A L to v (by omega) (adv_live (stB_true hv) h1 h2) W h)
  have KB := Lib.hid (fun W => rback_any now to W)
  rw [back_yes h1 h2] at KB
  clear hS hv h1 h2 hn
  generalize livE L to v = M at KL ⊢
  go_enter Try.func13, Try.ntmps13
  go_wp2_with (first | (go_at_call 34; (with_reducible refine (KB.out _).mono ?_); rintro e w1 ⟨rfl, rfl⟩) | (go_at_call 17; (with_reducible refine (KV.out _ (HS.out.up (((Up.refl w).alloc _ _).alloc _ _))).mono ?_); rintro e w1 ⟨rfl, hu⟩; have HU1 := Lib.hid ((((Up.refl w).alloc #[.int .i64 v, .int .i64 c, .int .i64 now, .slice A n k] 24).alloc #[.int .i64 0, .int .i64 0, .int .i64 0, .slice none 0 0] 24).trans hu); have c00 := hu.keep (w.heap.size) 0 (.int .i64 v) (by simp [go_sem]); have c01 := hu.keep (w.heap.size) 1 (.int .i64 c) (by simp [go_sem]); have c02 := hu.keep (w.heap.size) 2 (.int .i64 now) (by simp [go_sem]); have c03 := hu.keep (w.heap.size) 3 (.slice A n k) (by simp [go_sem]); have c10 := hu.keep (w.heap.size + 1) 0 (.int .i64 0) (by simp [go_sem]); have c11 := hu.keep (w.heap.size + 1) 1 (.int .i64 0) (by simp [go_sem]); have c12 := hu.keep (w.heap.size + 1) 2 (.int .i64 0) (by simp [go_sem]); have c13 := hu.keep (w.heap.size + 1) 3 (.slice none 0 0) (by simp [go_sem]); have z00 := HU1.out.ownGe (g := w.heap.size) (Nat.le_refl _) 0; have z01 := HU1.out.ownGe (g := w.heap.size) (Nat.le_refl _) 1; have z02 := HU1.out.ownGe (g := w.heap.size) (Nat.le_refl _) 2; have z03 := HU1.out.ownGe (g := w.heap.size) (Nat.le_refl _) 3; have z10 := HU1.out.ownGe (g := w.heap.size + 1) (by omega) 0; have z11 := HU1.out.ownGe (g := w.heap.size + 1) (by omega) 1; have z12 := HU1.out.ownGe (g := w.heap.size + 1) (by omega) 2; have z13 := HU1.out.ownGe (g := w.heap.size + 1) (by omega) 3; have hlt : w.heap.size + 1 < w1.heap.size := World.block_lt_of_cell? _ _ c10; have hlt0 : w.heap.size < w1.heap.size := Nat.lt_of_succ_lt hlt; clear hu))
  have HSS : Hid (Up w w1 ∧ w1.cell? ⟨w.heap.size, 0, none⟩ = some (.int .i64 v) ∧ w1.cell? ⟨w.heap.size, 1, none⟩ = some (.int .i64 c) ∧ w1.cell? ⟨w.heap.size, 3, none⟩ = some (.slice A n k)) := Lib.hid ⟨HU1.out, c00, c01, c03⟩
  go_region_held3 (fun w' => Up w w' ∧ w'.cell? ⟨w.heap.size, 0, none⟩ = some (.int .i64 v) ∧ w'.cell? ⟨w.heap.size, 1, none⟩ = some (.int .i64 c) ∧ w'.cell? ⟨w.heap.size, 3, none⟩ = some (.slice A n k))
    (repeat (first | (with_reducible refine set3 ?_ (by omega) (by omega) (by omega) (by omega)) | (with_reducible exact HSS.out) | (with_reducible exact keep3 (by assumption) (by assumption)) | (with_reducible exact Hid.out (by assumption)) | (with_reducible refine keep3 (Lib.hid (Up.refl _).drew) ?_)))
    (first
      | (go_at_call 35; (with_reducible refine (KL.out _ (HS.out.up (by assumption : Up w _ ∧ _).1)).mono ?_); rintro e w2 ⟨A2, n2, k2, rfl, hn2, hM, hu⟩; have HU2 := Lib.hid hu; have HS2 := Lib.hid (keep3 HU2 (by assumption)); have HM := Lib.hid hM; have d10 := hu.keep (w.heap.size + 1) 0 (.int .i64 0) c10; have d11 := hu.keep (w.heap.size + 1) 1 (.int .i64 0) c11; have d12 := hu.keep (w.heap.size + 1) 2 (.int .i64 0) c12; have d13 := hu.keep (w.heap.size + 1) 3 (.slice none 0 0) c13; have y10 := HS2.out.1.ownGe (g := w.heap.size + 1) (by omega) 0; have y11 := HS2.out.1.ownGe (g := w.heap.size + 1) (by omega) 1; have y12 := HS2.out.1.ownGe (g := w.heap.size + 1) (by omega) 2; have y13 := HS2.out.1.ownGe (g := w.heap.size + 1) (by omega) 3; clear hu hM))
  clear ‹Up w _ ∧ _›
  clear c00 c01 c02 c03 c10 c11 c12 c13 z00 z01 z02 z03 z10 z11 z12 z13
  go_wp2_with fail
  refine bodyPost_ret (v := .tuple #[.agg #[.int .i64 v, .int .i64 c, .int .i64 to, .slice A2 n2 k2], .int .i64 0]) (by simp [results, Try.results13, go_sem, d10, d11, d12, d13]) rfl ⟨A2, n2, k2, rfl, hn2, HM.out.cap, HM.out.nw.up HU1.out.drew, ?_, ?_⟩
  · obtain ⟨A3, k3, e3, _, hS3⟩ := HM.out.sl
    cases e3
    exact hS3.off4 (HM.out.off (by simp; omega)) _ _ _ _
  · exact HS2.out.1.set4 (by omega)
end Go.Proofs.Ytflahclphdlolaa
