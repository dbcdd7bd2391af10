/- What Advance of package sum and of its reference returns. -/
import Derived.Test.YtfdjhahnggdklaaZBSmallm2
import Derived.Test.YtfdjhahnggdklaaZCClock
import Derived.Test.YtfdjhahnggdklaaZGBasem8
import Derived.Test.YtfdjhahnggdklaaZGLawm3
import Derived.Test.YtfdjhahnggdklaaZHOrdm2
import Derived.Test.YtfdjhahnggdklaaZHRInsm2
import Derived.Test.YtfdjhahnggdklaaZHRVal
import Derived.Test.YtfdjhahnggdklaaZHRowm3
import Derived.Test.YtfdjhahnggdklaaZHSamem5
import Derived.Test.YtfdjhahnggdklaaZHSmallm7
import Derived.Test.YtfdjhahnggdklaaZIAdvm2
import Derived.Test.YtfdjhahnggdklaaZIBasem2
import Derived.Test.YtfdjhahnggdklaaZJBase
import Derived.Test.YtfdjhahnggdklaaZJSt
import Derived.Test.YtfdjhahnggdklaaZJVal
import Derived.Test.YtfdjhahnggdklaaZREasym4
import Derived.Test.YtfdjhahnggdklaaZWCmpm5
import Derived.Test.YtfdjhahnggdklaaZWGcd
import Derived.Test.YtfdjhahnggdklaaZWMathm9
import Derived.Test.YtfdjhahnggdklaaZWRDiv2
namespace Go.Proofs.Ytfdjhahnggdklaa
open Go.RowKit
set_option linter.unusedVariables false

theorem setO12 {w w1 : World} {p o : Nat} {x0 x1 x2 x3 v : Value} (h : Up w w1 ∧ w1.cell? ⟨p, 0, none⟩ = some x0 ∧ w1.cell? ⟨p, 1, none⟩ = some x1 ∧ w1.cell? ⟨p, 2, none⟩ = some x2 ∧ w1.cell? ⟨p, 3, none⟩ = some x3) (hp : w.heap.size ≤ p) (ho : o = 4 ∨ o = 5) : Up w (w1.setCell ⟨p, o, none⟩ v) ∧ (w1.setCell ⟨p, o, none⟩ v).cell? ⟨p, 0, none⟩ = some x0 ∧ (w1.setCell ⟨p, o, none⟩ v).cell? ⟨p, 1, none⟩ = some x1 ∧ (w1.setCell ⟨p, o, none⟩ v).cell? ⟨p, 2, none⟩ = some x2 ∧ (w1.setCell ⟨p, o, none⟩ v).cell? ⟨p, 3, none⟩ = some x3 :=
  ⟨h.1.setCell hp _, (World.cell?_setCell_other _ _ _ _ (by intro e; injection e with e1 e2; omega)).trans h.2.1, (World.cell?_setCell_other _ _ _ _ (by intro e; injection e with e1 e2; omega)).trans h.2.2.1, (World.cell?_setCell_other _ _ _ _ (by intro e; injection e with e1 e2; omega)).trans h.2.2.2.1, (World.cell?_setCell_other _ _ _ _ (by intro e; injection e with e1 e2; omega)).trans h.2.2.2.2⟩

set_option maxHeartbeats 4000000 in
set_option maxRecDepth 100000 in
theorem adv12_bad (v q c mx now td : Int) (n k : Nat) (A : Option Addr) (L : List It) (hn : n ≤ 50000) (hk : n ≤ k) (hv : stS v q c mx now L = false) (w : World) (hS : Sl w A n L) :
    Calls Try.prog 13 #[.agg #[.int .i64 v, .int .i64 q, .int .i64 c, .int .i64 mx, .int .i64 now, .slice A n k], .int .i64 td] w fun e w' => e = .returned (.tuple #[.agg #[.int .i64 0, .int .i64 0, .int .i64 0, .int .i64 0, .int .i64 0, .slice none 0 0], .int .i64 2]) ∧ Up w w' := by
  have KV := Lib.hid (fun W (h : Sl W A n L) => validate12_up v q c mx now n k A L hn W h)
  rw [stSE_no hv] at KV
  have HS := Lib.hid hS
  clear hS hv
  go_enter Try.func13, Try.ntmps13
  go_wp2_with (go_at_call 19; (with_reducible refine (KV.out _ (HS.out.up (((Up.refl w).alloc _ _).alloc _ _))).mono ?_); rintro e w1 ⟨rfl, hu⟩; have HU1 := Lib.hid ((((Up.refl w).alloc #[.int .i64 v, .int .i64 q, .int .i64 c, .int .i64 mx, .int .i64 now, .slice A n k] 24).alloc #[.int .i64 0, .int .i64 0, .int .i64 0, .int .i64 0, .int .i64 0, .slice none 0 0] 24).trans hu); have c00 := hu.keep (w.heap.size) 0 (.int .i64 v) (by simp [go_sem]); have c01 := hu.keep (w.heap.size) 1 (.int .i64 q) (by simp [go_sem]); have c02 := hu.keep (w.heap.size) 2 (.int .i64 c) (by simp [go_sem]); have c03 := hu.keep (w.heap.size) 3 (.int .i64 mx) (by simp [go_sem]); have c04 := hu.keep (w.heap.size) 4 (.int .i64 now) (by simp [go_sem]); have c05 := hu.keep (w.heap.size) 5 (.slice A n k) (by simp [go_sem]); have c10 := hu.keep (w.heap.size + 1) 0 (.int .i64 0) (by simp [go_sem]); have c11 := hu.keep (w.heap.size + 1) 1 (.int .i64 0) (by simp [go_sem]); have c12 := hu.keep (w.heap.size + 1) 2 (.int .i64 0) (by simp [go_sem]); have c13 := hu.keep (w.heap.size + 1) 3 (.int .i64 0) (by simp [go_sem]); have c14 := hu.keep (w.heap.size + 1) 4 (.int .i64 0) (by simp [go_sem]); have c15 := hu.keep (w.heap.size + 1) 5 (.slice none 0 0) (by simp [go_sem]); have z00 := HU1.out.ownGe (g := w.heap.size) (Nat.le_refl _) 0; have z01 := HU1.out.ownGe (g := w.heap.size) (Nat.le_refl _) 1; have z02 := HU1.out.ownGe (g := w.heap.size) (Nat.le_refl _) 2; have z03 := HU1.out.ownGe (g := w.heap.size) (Nat.le_refl _) 3; have z04 := HU1.out.ownGe (g := w.heap.size) (Nat.le_refl _) 4; have z05 := HU1.out.ownGe (g := w.heap.size) (Nat.le_refl _) 5; have z10 := HU1.out.ownGe (g := w.heap.size + 1) (by omega) 0; have z11 := HU1.out.ownGe (g := w.heap.size + 1) (by omega) 1; have z12 := HU1.out.ownGe (g := w.heap.size + 1) (by omega) 2; have z13 := HU1.out.ownGe (g := w.heap.size + 1) (by omega) 3; have z14 := HU1.out.ownGe (g := w.heap.size + 1) (by omega) 4; have z15 := HU1.out.ownGe (g := w.heap.size + 1) (by omega) 5; have hlt : w.heap.size + 1 < w1.heap.size := World.block_lt_of_cell? _ _ c10; have hlt0 : w.heap.size < w1.heap.size := Nat.lt_of_succ_lt hlt; clear hu)
  refine bodyPost_ret (v := .tuple #[.agg #[.int .i64 0, .int .i64 0, .int .i64 0, .int .i64 0, .int .i64 0, .slice none 0 0], .int .i64 2]) (by simp [results, Try.results13, go_sem, c10, c11, c12, c13, c14, c15]) rfl ⟨rfl, ?_⟩
  exact HU1.out.set6 (by omega)

set_option maxHeartbeats 4000000 in
set_option maxRecDepth 100000 in
theorem adv12_time (v q c mx now td : Int) (n k : Nat) (A : Option Addr) (L : List It) (hn : n ≤ 50000) (hk : n ≤ k) (hv : stS v q c mx now L = true) (ht : td < now ∨ 16777216 < td) (w : World) (hS : Sl w A n L) :
    Calls Try.prog 13 #[.agg #[.int .i64 v, .int .i64 q, .int .i64 c, .int .i64 mx, .int .i64 now, .slice A n k], .int .i64 td] w fun e w' => e = .returned (.tuple #[.agg #[.int .i64 0, .int .i64 0, .int .i64 0, .int .i64 0, .int .i64 0, .slice none 0 0], .int .i64 3]) ∧ Up w w' := by
  have KV := Lib.hid (fun W (h : Sl W A n L) => validate12_up v q c mx now n k A L hn W h)
  rw [stSE_yes hv] at KV
  have HS := Lib.hid hS
  have KB := Lib.hid (fun W => advance_any now td 0 3 (adv_no (by have h := mayC_true (stC_true (stS_true hv).1).1; exact (mayB_true h.1).1) ht) W)
  clear hS hv ht
  go_enter Try.func13, Try.ntmps13
  go_wp2_with (first | (go_at_call 39; (with_reducible refine (KB.out _).mono ?_); rintro e w2 ⟨rfl, rfl⟩) | (go_at_call 19; (with_reducible refine (KV.out _ (HS.out.up (((Up.refl w).alloc _ _).alloc _ _))).mono ?_); rintro e w1 ⟨rfl, hu⟩; have HU1 := Lib.hid ((((Up.refl w).alloc #[.int .i64 v, .int .i64 q, .int .i64 c, .int .i64 mx, .int .i64 now, .slice A n k] 24).alloc #[.int .i64 0, .int .i64 0, .int .i64 0, .int .i64 0, .int .i64 0, .slice none 0 0] 24).trans hu); have c00 := hu.keep (w.heap.size) 0 (.int .i64 v) (by simp [go_sem]); have c01 := hu.keep (w.heap.size) 1 (.int .i64 q) (by simp [go_sem]); have c02 := hu.keep (w.heap.size) 2 (.int .i64 c) (by simp [go_sem]); have c03 := hu.keep (w.heap.size) 3 (.int .i64 mx) (by simp [go_sem]); have c04 := hu.keep (w.heap.size) 4 (.int .i64 now) (by simp [go_sem]); have c05 := hu.keep (w.heap.size) 5 (.slice A n k) (by simp [go_sem]); have c10 := hu.keep (w.heap.size + 1) 0 (.int .i64 0) (by simp [go_sem]); have c11 := hu.keep (w.heap.size + 1) 1 (.int .i64 0) (by simp [go_sem]); have c12 := hu.keep (w.heap.size + 1) 2 (.int .i64 0) (by simp [go_sem]); have c13 := hu.keep (w.heap.size + 1) 3 (.int .i64 0) (by simp [go_sem]); have c14 := hu.keep (w.heap.size + 1) 4 (.int .i64 0) (by simp [go_sem]); have c15 := hu.keep (w.heap.size + 1) 5 (.slice none 0 0) (by simp [go_sem]); have z00 := HU1.out.ownGe (g := w.heap.size) (Nat.le_refl _) 0; have z01 := HU1.out.ownGe (g := w.heap.size) (Nat.le_refl _) 1; have z02 := HU1.out.ownGe (g := w.heap.size) (Nat.le_refl _) 2; have z03 := HU1.out.ownGe (g := w.heap.size) (Nat.le_refl _) 3; have z04 := HU1.out.ownGe (g := w.heap.size) (Nat.le_refl _) 4; have z05 := HU1.out.ownGe (g := w.heap.size) (Nat.le_refl _) 5; have z10 := HU1.out.ownGe (g := w.heap.size + 1) (by omega) 0; have z11 := HU1.out.ownGe (g := w.heap.size + 1) (by omega) 1; have z12 := HU1.out.ownGe (g := w.heap.size + 1) (by omega) 2; have z13 := HU1.out.ownGe (g := w.heap.size + 1) (by omega) 3; have z14 := HU1.out.ownGe (g := w.heap.size + 1) (by omega) 4; have z15 := HU1.out.ownGe (g := w.heap.size + 1) (by omega) 5; have hlt : w.heap.size + 1 < w1.heap.size := World.block_lt_of_cell? _ _ c10; have hlt0 : w.heap.size < w1.heap.size := Nat.lt_of_succ_lt hlt; clear hu))
  refine bodyPost_ret (v := .tuple #[.agg #[.int .i64 0, .int .i64 0, .int .i64 0, .int .i64 0, .int .i64 0, .slice none 0 0], .int .i64 3]) (by simp [results, Try.results13, go_sem, c10, c11, c12, c13, c14, c15]) rfl ⟨rfl, ?_⟩
  exact HU1.out.set6 (by omega)

set_option maxHeartbeats 4000000 in
set_option maxRecDepth 100000 in
theorem adv12_good (v q c mx now td : Int) (n k : Nat) (A : Option Addr) (L : List It) (hn : n ≤ 50000) (hk : n ≤ k) (hv : stS v q c mx now L = true) (h1 : now ≤ td) (h2 : td ≤ 16777216) (w : World) (hS : Sl w A n L) :
    Calls Try.prog 13 #[.agg #[.int .i64 v, .int .i64 q, .int .i64 c, .int .i64 mx, .int .i64 now, .slice A n k], .int .i64 td] w fun e w' => ∃ A' n' k', e = .returned (.tuple #[.agg #[.int .i64 v, .int .i64 q, .int .i64 c, .int .i64 mx, .int .i64 td,  .slice A' n' k'], .int .i64 0]) ∧ n' ≤ n ∧ n' ≤ k' ∧ Nw w A' ∧ Sl w' A' n' (exL L (firZ td v)) ∧ Up w w' := by
  have KV := Lib.hid (fun W (h : Sl W A n L) => validate12_up v q c mx now n k A L hn W h)
  rw [stSE_yes hv] at KV
  have HS := Lib.hid hS
  have KB := Lib.hid (fun W => advance_any now td td 0 (adv_yes (by have h := mayC_true (stC_true (stS_true hv).1).1; exact (mayB_true h.1).1) h1 h2) W)
  have KF := Lib.hid (first_any td v)
  have KE := Lib.hid (fun W (h : Sl W A n L) => expire_up n k A L (firZ td v) hn hk W h)
  clear hS hv h1 h2
  generalize firZ td v = f0 at *
  generalize exL L f0 = M at *
  go_enter Try.func13, Try.ntmps13
  go_wp2_with (first | (go_at_call 39; (with_reducible refine (KB.out _).mono ?_); rintro e w' ⟨rfl, rfl⟩) | (go_at_call 19; (with_reducible refine (KV.out _ (HS.out.up (((Up.refl w).alloc _ _).alloc _ _))).mono ?_); rintro e w1 ⟨rfl, hu⟩; have HU1 := Lib.hid ((((Up.refl w).alloc #[.int .i64 v, .int .i64 q, .int .i64 c, .int .i64 mx, .int .i64 now, .slice A n k] 24).alloc #[.int .i64 0, .int .i64 0, .int .i64 0, .int .i64 0, .int .i64 0, .slice none 0 0] 24).trans hu); have c00 := hu.keep (w.heap.size) 0 (.int .i64 v) (by simp [go_sem]); have c01 := hu.keep (w.heap.size) 1 (.int .i64 q) (by simp [go_sem]); have c02 := hu.keep (w.heap.size) 2 (.int .i64 c) (by simp [go_sem]); have c03 := hu.keep (w.heap.size) 3 (.int .i64 mx) (by simp [go_sem]); have c04 := hu.keep (w.heap.size) 4 (.int .i64 now) (by simp [go_sem]); have c05 := hu.keep (w.heap.size) 5 (.slice A n k) (by simp [go_sem]); have c10 := hu.keep (w.heap.size + 1) 0 (.int .i64 0) (by simp [go_sem]); have c11 := hu.keep (w.heap.size + 1) 1 (.int .i64 0) (by simp [go_sem]); have c12 := hu.keep (w.heap.size + 1) 2 (.int .i64 0) (by simp [go_sem]); have c13 := hu.keep (w.heap.size + 1) 3 (.int .i64 0) (by simp [go_sem]); have c14 := hu.keep (w.heap.size + 1) 4 (.int .i64 0) (by simp [go_sem]); have c15 := hu.keep (w.heap.size + 1) 5 (.slice none 0 0) (by simp [go_sem]); have z00 := HU1.out.ownGe (g := w.heap.size) (Nat.le_refl _) 0; have z01 := HU1.out.ownGe (g := w.heap.size) (Nat.le_refl _) 1; have z02 := HU1.out.ownGe (g := w.heap.size) (Nat.le_refl _) 2; have z03 := HU1.out.ownGe (g := w.heap.size) (Nat.le_refl _) 3; have z04 := HU1.out.ownGe (g := w.heap.size) (Nat.le_refl _) 4; have z05 := HU1.out.ownGe (g := w.heap.size) (Nat.le_refl _) 5; have z10 := HU1.out.ownGe (g := w.heap.size + 1) (by omega) 0; have z11 := HU1.out.ownGe (g := w.heap.size + 1) (by omega) 1; have z12 := HU1.out.ownGe (g := w.heap.size + 1) (by omega) 2; have z13 := HU1.out.ownGe (g := w.heap.size + 1) (by omega) 3; have z14 := HU1.out.ownGe (g := w.heap.size + 1) (by omega) 4; have z15 := HU1.out.ownGe (g := w.heap.size + 1) (by omega) 5; have hlt : w.heap.size + 1 < w1.heap.size := World.block_lt_of_cell? _ _ c10; have hlt0 : w.heap.size < w1.heap.size := Nat.lt_of_succ_lt hlt; clear hu))
  have HSS : Hid (Up w w1 ∧ w1.cell? ⟨w.heap.size, 0, none⟩ = some (.int .i64 v) ∧ w1.cell? ⟨w.heap.size, 1, none⟩ = some (.int .i64 q) ∧ w1.cell? ⟨w.heap.size, 2, none⟩ = some (.int .i64 c) ∧ w1.cell? ⟨w.heap.size, 3, none⟩ = some (.int .i64 mx)) := Lib.hid ⟨HU1.out, c00, c01, c02, c03⟩
  refine wp_region_held_drew (S := fun w' => Up w w' ∧ w'.cell? ⟨w.heap.size, 0, none⟩ = some (.int .i64 v) ∧ w'.cell? ⟨w.heap.size, 1, none⟩ = some (.int .i64 q) ∧ w'.cell? ⟨w.heap.size, 2, none⟩ = some (.int .i64 c) ∧ w'.cell? ⟨w.heap.size, 3, none⟩ = some (.int .i64 mx)) (by kernel_rfl) ?hB7 (fun hHeld => ?_)
  case hB7 => (first | (with_reducible assumption) | (with_reducible exact keepQ4 (Lib.hid (Up.refl _).drew) HSS.out) | (with_reducible exact HX2.out) | (with_reducible exact setO12 hHeld (Nat.le_refl _) (by omega)))
  refine wpAnyH_take (i := 0) (oi := ⟨_, _, _, _, _, _⟩) (v := ?v8) rfl (by kernel_rfl) (by kernel_rfl) (by kernel_rfl) (fun _ _ _ h => h) (Or.inl ⟨by rfl, ?hy8⟩) (by assumption) ?_
  case hy8 => (intro w hSw; (try dsimp only at hSw); go_simp; (try (with_reducible rfl)))
  (try simp only [Act.put, List.setIfInBounds_toArray, List.set_cons_zero, List.set_cons_succ])
  refine wpAnyH_take (i := 1) (oi := ⟨_, _, _, _, _, _⟩) (v := ?v9) rfl (by kernel_rfl) (by kernel_rfl) (by kernel_rfl) (fun _ _ _ h => h) (Or.inl ⟨by rfl, ?hy9⟩) (by assumption) ?_
  case hy9 => (intro w hSw; (try dsimp only at hSw); go_simp; (try (with_reducible rfl)))
  (try simp only [Act.put, List.setIfInBounds_toArray, List.set_cons_zero, List.set_cons_succ])
  refine wpAnyH_take (i := 3) (oi := ⟨_, _, _, _, _, _⟩) (v := ?v10) rfl (by kernel_rfl) (by kernel_rfl) (by kernel_rfl) (fun _ _ _ h => h) (Or.inl ⟨by rfl, ?hy10⟩) (by assumption) ?_
  case hy10 => (intro w hSw; (try dsimp only at hSw); go_simp; (try (with_reducible rfl)))
  (try simp only [Act.put, List.setIfInBounds_toArray, List.set_cons_zero, List.set_cons_succ])
  refine wpAnyH_take (i := 4) (oi := ⟨_, _, _, _, _, _⟩) (v := ?v11) rfl (by kernel_rfl) (by kernel_rfl) (by kernel_rfl) (fun _ _ _ h => h) (Or.inl ⟨by rfl, ?hy11⟩) (by assumption) ?_
  case hy11 => (intro w hSw; (try dsimp only at hSw); go_simp; (try (with_reducible rfl)))
  (try simp only [Act.put, List.setIfInBounds_toArray, List.set_cons_zero, List.set_cons_succ])
  refine wpAnyH_take (i := 5) (oi := ⟨_, _, _, _, _, _⟩) (v := ?v12) rfl (by kernel_rfl) (by kernel_rfl) (by kernel_rfl) (fun _ _ _ h => h) (Or.inl ⟨by rfl, ?hy12⟩) (by assumption) ?_
  case hy12 => (intro w hSw; (try dsimp only at hSw); go_simp; (try (with_reducible rfl)))
  (try simp only [Act.put, List.setIfInBounds_toArray, List.set_cons_zero, List.set_cons_succ])
  refine wpAnyH_ready (rs := [2, 6]) (by kernel_rfl) (by simp) ?_
  refine AllReadyH.cons (o := ⟨_, _, _, _, _, _⟩) rfl (fun K hK => ?_) (AllReadyH.cons (o := ⟨_, _, _, _, _, _⟩) rfl (fun K hK => ?_) AllReadyH.nil)
  · go_simp
    refine hK.out _ _ ?hB13 (fun hHeld => ?_)
    case hB13 => (first | (with_reducible assumption) | (with_reducible exact keepQ4 (Lib.hid (Up.refl _).drew) HSS.out) | (with_reducible exact HX2.out) | (with_reducible exact setO12 hHeld (Nat.le_refl _) (by omega)))
    clear hK K
    (try simp only [Act.put, List.setIfInBounds_toArray, List.set_cons_zero, List.set_cons_succ])
    refine wpAnyH_take (i := 8) (oi := ⟨_, _, _, _, _, _⟩) (v := ?v14) rfl (by kernel_rfl) (by kernel_rfl) (by kernel_rfl) (fun _ _ _ h => h) (Or.inl ⟨by rfl, ?hy14⟩) (by assumption) ?_
    case hy14 => (intro w hSw; (try dsimp only at hSw); go_simp; (try (with_reducible rfl)))
    (try simp only [Act.put, List.setIfInBounds_toArray, List.set_cons_zero, List.set_cons_succ])
    refine wpAnyH_ready (rs := [6]) (by kernel_rfl) (by simp) ?_
    refine AllReadyH.cons (o := ⟨_, _, _, _, _, _⟩) rfl (fun K hK => ?_) AllReadyH.nil
    go_simp
    (go_at_call 41; (with_reducible refine (KF.out _).mono ?_); rintro e w' ⟨rfl, rfl⟩)
    (try go_wp2_with fail)
    refine hK.out _ _ ?hB15 (fun hHeld => ?_)
    case hB15 => (first | (with_reducible assumption) | (with_reducible exact keepQ4 (Lib.hid (Up.refl _).drew) HSS.out) | (with_reducible exact HX2.out) | (with_reducible exact setO12 hHeld (Nat.le_refl _) (by omega)))
    clear hK K
    (try simp only [Act.put, List.setIfInBounds_toArray, List.set_cons_zero, List.set_cons_succ])
    refine wpAnyH_ready (rs := [7]) (by kernel_rfl) (by simp) ?_
    refine AllReadyH.cons (o := ⟨_, _, _, _, _, _⟩) rfl (fun K hK => ?_) AllReadyH.nil
    go_simp
    (go_at_call 40; (with_reducible refine (KE.out _ (HS.out.up HU1.out.drew)).mono ?_); rintro e w2 ⟨A2, n2, k2, rfl, hn2, hM, hu⟩; have HM := Lib.hid hM; have HU2 := Lib.hid (HU1.out.drew.trans hu); have HX2 := Lib.hid (keepQ4 (Lib.hid hu) hHeld); have d00 := hu.keep _ _ _ c00; have d10 := hu.keep _ _ _ c10; have d01 := hu.keep _ _ _ c01; have d11 := hu.keep _ _ _ c11; have d02 := hu.keep _ _ _ c02; have d12 := hu.keep _ _ _ c12; have d03 := hu.keep _ _ _ c03; have d13 := hu.keep _ _ _ c13; have d04 := hu.keep _ _ _ c04; have d14 := hu.keep _ _ _ c14; have d05 := hu.keep _ _ _ c05; have d15 := hu.keep _ _ _ c15; have y00 := HU2.out.ownGe (g := w.heap.size) (Nat.le_refl _) 0; have y10 := HU2.out.ownGe (g := w.heap.size + 1) (by omega) 0; have y01 := HU2.out.ownGe (g := w.heap.size) (Nat.le_refl _) 1; have y11 := HU2.out.ownGe (g := w.heap.size + 1) (by omega) 1; have y02 := HU2.out.ownGe (g := w.heap.size) (Nat.le_refl _) 2; have y12 := HU2.out.ownGe (g := w.heap.size + 1) (by omega) 2; have y03 := HU2.out.ownGe (g := w.heap.size) (Nat.le_refl _) 3; have y13 := HU2.out.ownGe (g := w.heap.size + 1) (by omega) 3; have y04 := HU2.out.ownGe (g := w.heap.size) (Nat.le_refl _) 4; have y14 := HU2.out.ownGe (g := w.heap.size + 1) (by omega) 4; have y05 := HU2.out.ownGe (g := w.heap.size) (Nat.le_refl _) 5; have y15 := HU2.out.ownGe (g := w.heap.size + 1) (by omega) 5; clear hu hM)
    (try go_wp2_with fail)
    refine hK.out _ _ ?hB16 (fun hHeld => ?_)
    case hB16 => (first | (with_reducible assumption) | (with_reducible exact keepQ4 (Lib.hid (Up.refl _).drew) HSS.out) | (with_reducible exact HX2.out) | (with_reducible exact setO12 hHeld (Nat.le_refl _) (by omega)))
    clear hK K
    (try simp only [Act.put, List.setIfInBounds_toArray, List.set_cons_zero, List.set_cons_succ])
    refine wpAnyH_ready (rs := [9]) (by kernel_rfl) (by simp) ?_
    refine AllReadyH.cons (o := ⟨_, _, _, _, _, _⟩) rfl (fun K hK => ?_) AllReadyH.nil
    go_simp
    refine hK.out _ _ ?hB17 (fun hHeld => ?_)
    case hB17 => (first | (with_reducible assumption) | (with_reducible exact keepQ4 (Lib.hid (Up.refl _).drew) HSS.out) | (with_reducible exact HX2.out) | (with_reducible exact setO12 hHeld (Nat.le_refl _) (by omega)))
    clear hK K
    (try simp only [Act.put, List.setIfInBounds_toArray, List.set_cons_zero, List.set_cons_succ])
    refine wpAnyH_take (i := 10) (oi := ⟨_, _, _, _, _, _⟩) (v := ?v18) rfl (by kernel_rfl) (by kernel_rfl) (by kernel_rfl) (fun _ _ _ h => h) (Or.inl ⟨by rfl, ?hy18⟩) (by assumption) ?_
    case hy18 => (intro w hSw; (try dsimp only at hSw); go_simp; (try (with_reducible rfl)))
    (try simp only [Act.put, List.setIfInBounds_toArray, List.set_cons_zero, List.set_cons_succ])
    refine wpAnyH_ready (rs := [11]) (by kernel_rfl) (by simp) ?_
    refine AllReadyH.cons (o := ⟨_, _, _, _, _, _⟩) rfl (fun K hK => ?_) AllReadyH.nil
    go_simp
    refine hK.out _ _ ?hB19 (fun hHeld => ?_)
    case hB19 => (first | (with_reducible assumption) | (with_reducible exact keepQ4 (Lib.hid (Up.refl _).drew) HSS.out) | (with_reducible exact HX2.out) | (with_reducible exact setO12 hHeld (Nat.le_refl _) (by omega)))
    clear hK K
    (try simp only [Act.put, List.setIfInBounds_toArray, List.set_cons_zero, List.set_cons_succ])
    refine wpAnyH_done (by kernel_rfl) ?_ _
    clear hHeld
    clear c00 c10 z00 z10 HSS HX2
    go_wp2_with fail
    refine bodyPost_ret (v := .tuple #[.agg #[.int .i64 v, .int .i64 q, .int .i64 c, .int .i64 mx, .int .i64 td, .slice A2 n2 k2], .int .i64 0]) (by simp [results, Try.results13, go_sem, d10, d11, d12, d13, d14, d15]) rfl ⟨A2, n2, k2, rfl, hn2, HM.out.at_.1, HM.out.nw.up HU1.out.drew, ?_, ?_⟩
    · exact ((HM.out.at_.2.off (HM.out.nw.off (by simpa using hlt0)) _).off (HM.out.nw.off (by simpa using hlt0)) _).off6 (HM.out.nw.off (by simpa using hlt)) _ _ _ _ _ _
    · exact ((HU2.out.setCell (Nat.le_refl _) _).setCell (Nat.le_refl _) _).set6 (by omega)
  · go_simp
    (go_at_call 41; (with_reducible refine (KF.out _).mono ?_); rintro e w' ⟨rfl, rfl⟩)
    (try go_wp2_with fail)
    refine hK.out _ _ ?hB20 (fun hHeld => ?_)
    case hB20 => (first | (with_reducible assumption) | (with_reducible exact keepQ4 (Lib.hid (Up.refl _).drew) HSS.out) | (with_reducible exact HX2.out) | (with_reducible exact setO12 hHeld (Nat.le_refl _) (by omega)))
    clear hK K
    (try simp only [Act.put, List.setIfInBounds_toArray, List.set_cons_zero, List.set_cons_succ])
    refine wpAnyH_ready (rs := [2]) (by kernel_rfl) (by simp) ?_
    refine AllReadyH.cons (o := ⟨_, _, _, _, _, _⟩) rfl (fun K hK => ?_) AllReadyH.nil
    go_simp
    refine hK.out _ _ ?hB21 (fun hHeld => ?_)
    case hB21 => (first | (with_reducible assumption) | (with_reducible exact keepQ4 (Lib.hid (Up.refl _).drew) HSS.out) | (with_reducible exact HX2.out) | (with_reducible exact setO12 hHeld (Nat.le_refl _) (by omega)))
    clear hK K
    (try simp only [Act.put, List.setIfInBounds_toArray, List.set_cons_zero, List.set_cons_succ])
    refine wpAnyH_take (i := 8) (oi := ⟨_, _, _, _, _, _⟩) (v := ?v22) rfl (by kernel_rfl) (by kernel_rfl) (by kernel_rfl) (fun _ _ _ h => h) (Or.inl ⟨by rfl, ?hy22⟩) (by assumption) ?_
    case hy22 => (intro w hSw; (try dsimp only at hSw); go_simp; (try (with_reducible rfl)))
    (try simp only [Act.put, List.setIfInBounds_toArray, List.set_cons_zero, List.set_cons_succ])
    refine wpAnyH_ready (rs := [7]) (by kernel_rfl) (by simp) ?_
    refine AllReadyH.cons (o := ⟨_, _, _, _, _, _⟩) rfl (fun K hK => ?_) AllReadyH.nil
    go_simp
    (go_at_call 40; (with_reducible refine (KE.out _ (HS.out.up HU1.out.drew)).mono ?_); rintro e w2 ⟨A2, n2, k2, rfl, hn2, hM, hu⟩; have HM := Lib.hid hM; have HU2 := Lib.hid (HU1.out.drew.trans hu); have HX2 := Lib.hid (keepQ4 (Lib.hid hu) hHeld); have d00 := hu.keep _ _ _ c00; have d10 := hu.keep _ _ _ c10; have d01 := hu.keep _ _ _ c01; have d11 := hu.keep _ _ _ c11; have d02 := hu.keep _ _ _ c02; have d12 := hu.keep _ _ _ c12; have d03 := hu.keep _ _ _ c03; have d13 := hu.keep _ _ _ c13; have d04 := hu.keep _ _ _ c04; have d14 := hu.keep _ _ _ c14; have d05 := hu.keep _ _ _ c05; have d15 := hu.keep _ _ _ c15; have y00 := HU2.out.ownGe (g := w.heap.size) (Nat.le_refl _) 0; have y10 := HU2.out.ownGe (g := w.heap.size + 1) (by omega) 0; have y01 := HU2.out.ownGe (g := w.heap.size) (Nat.le_refl _) 1; have y11 := HU2.out.ownGe (g := w.heap.size + 1) (by omega) 1; have y02 := HU2.out.ownGe (g := w.heap.size) (Nat.le_refl _) 2; have y12 := HU2.out.ownGe (g := w.heap.size + 1) (by omega) 2; have y03 := HU2.out.ownGe (g := w.heap.size) (Nat.le_refl _) 3; have y13 := HU2.out.ownGe (g := w.heap.size + 1) (by omega) 3; have y04 := HU2.out.ownGe (g := w.heap.size) (Nat.le_refl _) 4; have y14 := HU2.out.ownGe (g := w.heap.size + 1) (by omega) 4; have y05 := HU2.out.ownGe (g := w.heap.size) (Nat.le_refl _) 5; have y15 := HU2.out.ownGe (g := w.heap.size + 1) (by omega) 5; clear hu hM)
    (try go_wp2_with fail)
    refine hK.out _ _ ?hB23 (fun hHeld => ?_)
    case hB23 => (first | (with_reducible assumption) | (with_reducible exact keepQ4 (Lib.hid (Up.refl _).drew) HSS.out) | (with_reducible exact HX2.out) | (with_reducible exact setO12 hHeld (Nat.le_refl _) (by omega)))
    clear hK K
    (try simp only [Act.put, List.setIfInBounds_toArray, List.set_cons_zero, List.set_cons_succ])
    refine wpAnyH_ready (rs := [9]) (by kernel_rfl) (by simp) ?_
    refine AllReadyH.cons (o := ⟨_, _, _, _, _, _⟩) rfl (fun K hK => ?_) AllReadyH.nil
    go_simp
    refine hK.out _ _ ?hB24 (fun hHeld => ?_)
    case hB24 => (first | (with_reducible assumption) | (with_reducible exact keepQ4 (Lib.hid (Up.refl _).drew) HSS.out) | (with_reducible exact HX2.out) | (with_reducible exact setO12 hHeld (Nat.le_refl _) (by omega)))
    clear hK K
    (try simp only [Act.put, List.setIfInBounds_toArray, List.set_cons_zero, List.set_cons_succ])
    refine wpAnyH_take (i := 10) (oi := ⟨_, _, _, _, _, _⟩) (v := ?v25) rfl (by kernel_rfl) (by kernel_rfl) (by kernel_rfl) (fun _ _ _ h => h) (Or.inl ⟨by rfl, ?hy25⟩) (by assumption) ?_
    case hy25 => (intro w hSw; (try dsimp only at hSw); go_simp; (try (with_reducible rfl)))
    (try simp only [Act.put, List.setIfInBounds_toArray, List.set_cons_zero, List.set_cons_succ])
    refine wpAnyH_ready (rs := [11]) (by kernel_rfl) (by simp) ?_
    refine AllReadyH.cons (o := ⟨_, _, _, _, _, _⟩) rfl (fun K hK => ?_) AllReadyH.nil
    go_simp
    refine hK.out _ _ ?hB26 (fun hHeld => ?_)
    case hB26 => (first | (with_reducible assumption) | (with_reducible exact keepQ4 (Lib.hid (Up.refl _).drew) HSS.out) | (with_reducible exact HX2.out) | (with_reducible exact setO12 hHeld (Nat.le_refl _) (by omega)))
    clear hK K
    (try simp only [Act.put, List.setIfInBounds_toArray, List.set_cons_zero, List.set_cons_succ])
    refine wpAnyH_done (by kernel_rfl) ?_ _
    clear hHeld
    clear c00 c10 z00 z10 HSS HX2
    go_wp2_with fail
    refine bodyPost_ret (v := .tuple #[.agg #[.int .i64 v, .int .i64 q, .int .i64 c, .int .i64 mx, .int .i64 td, .slice A2 n2 k2], .int .i64 0]) (by simp [results, Try.results13, go_sem, d10, d11, d12, d13, d14, d15]) rfl ⟨A2, n2, k2, rfl, hn2, HM.out.at_.1, HM.out.nw.up HU1.out.drew, ?_, ?_⟩
    · exact ((HM.out.at_.2.off (HM.out.nw.off (by simpa using hlt0)) _).off (HM.out.nw.off (by simpa using hlt0)) _).off6 (HM.out.nw.off (by simpa using hlt)) _ _ _ _ _ _
    · exact ((HU2.out.setCell (Nat.le_refl _) _).setCell (Nat.le_refl _) _).set6 (by omega)

set_option maxHeartbeats 4000000 in
set_option maxRecDepth 100000 in
theorem radv12_bad (v q c mx now td : Int) (n k : Nat) (A : Option Addr) (L : List It) (hn : n ≤ 50000) (hk : n ≤ k) (hv : stS v q c mx now L = false) (w : World) (hS : Sl w A n L) :
    Calls Try.prog 14 #[.agg #[.int .i64 v, .int .i64 q, .int .i64 c, .int .i64 mx, .int .i64 now, .slice A n k], .int .i64 td] w fun e w' => e = .returned (.tuple #[.agg #[.int .i64 0, .int .i64 0, .int .i64 0, .int .i64 0, .int .i64 0, .slice none 0 0], .int .i64 2]) ∧ Up w w' := by
  have KV := Lib.hid (fun W (h : Sl W A n L) => rvalidate12_up v q c mx now n k A L hn W h)
  rw [stSE_no hv] at KV
  have HS := Lib.hid hS
  clear hS hv
  go_enter Try.func14, Try.ntmps14
  go_wp2_with (go_at_call 20; (with_reducible refine (KV.out _ (HS.out.up (((Up.refl w).alloc _ _).alloc _ _))).mono ?_); rintro e w1 ⟨rfl, hu⟩; have HU1 := Lib.hid ((((Up.refl w).alloc #[.int .i64 v, .int .i64 q, .int .i64 c, .int .i64 mx, .int .i64 now, .slice A n k] 24).alloc #[.int .i64 0, .int .i64 0, .int .i64 0, .int .i64 0, .int .i64 0, .slice none 0 0] 24).trans hu); have c00 := hu.keep (w.heap.size) 0 (.int .i64 v) (by simp [go_sem]); have c01 := hu.keep (w.heap.size) 1 (.int .i64 q) (by simp [go_sem]); have c02 := hu.keep (w.heap.size) 2 (.int .i64 c) (by simp [go_sem]); have c03 := hu.keep (w.heap.size) 3 (.int .i64 mx) (by simp [go_sem]); have c04 := hu.keep (w.heap.size) 4 (.int .i64 now) (by simp [go_sem]); have c05 := hu.keep (w.heap.size) 5 (.slice A n k) (by simp [go_sem]); have c10 := hu.keep (w.heap.size + 1) 0 (.int .i64 0) (by simp [go_sem]); have c11 := hu.keep (w.heap.size + 1) 1 (.int .i64 0) (by simp [go_sem]); have c12 := hu.keep (w.heap.size + 1) 2 (.int .i64 0) (by simp [go_sem]); have c13 := hu.keep (w.heap.size + 1) 3 (.int .i64 0) (by simp [go_sem]); have c14 := hu.keep (w.heap.size + 1) 4 (.int .i64 0) (by simp [go_sem]); have c15 := hu.keep (w.heap.size + 1) 5 (.slice none 0 0) (by simp [go_sem]); have z00 := HU1.out.ownGe (g := w.heap.size) (Nat.le_refl _) 0; have z01 := HU1.out.ownGe (g := w.heap.size) (Nat.le_refl _) 1; have z02 := HU1.out.ownGe (g := w.heap.size) (Nat.le_refl _) 2; have z03 := HU1.out.ownGe (g := w.heap.size) (Nat.le_refl _) 3; have z04 := HU1.out.ownGe (g := w.heap.size) (Nat.le_refl _) 4; have z05 := HU1.out.ownGe (g := w.heap.size) (Nat.le_refl _) 5; have z10 := HU1.out.ownGe (g := w.heap.size + 1) (by omega) 0; have z11 := HU1.out.ownGe (g := w.heap.size + 1) (by omega) 1; have z12 := HU1.out.ownGe (g := w.heap.size + 1) (by omega) 2; have z13 := HU1.out.ownGe (g := w.heap.size + 1) (by omega) 3; have z14 := HU1.out.ownGe (g := w.heap.size + 1) (by omega) 4; have z15 := HU1.out.ownGe (g := w.heap.size + 1) (by omega) 5; have hlt : w.heap.size + 1 < w1.heap.size := World.block_lt_of_cell? _ _ c10; have hlt0 : w.heap.size < w1.heap.size := Nat.lt_of_succ_lt hlt; clear hu)
  refine bodyPost_ret (v := .tuple #[.agg #[.int .i64 0, .int .i64 0, .int .i64 0, .int .i64 0, .int .i64 0, .slice none 0 0], .int .i64 2]) (by simp [results, Try.results14, go_sem, c10, c11, c12, c13, c14, c15]) rfl ⟨rfl, ?_⟩
  exact HU1.out.set6 (by omega)

set_option maxHeartbeats 4000000 in
set_option maxRecDepth 100000 in
theorem radv12_time (v q c mx now td : Int) (n k : Nat) (A : Option Addr) (L : List It) (hn : n ≤ 50000) (hk : n ≤ k) (hv : stS v q c mx now L = true) (ht : td < now ∨ 16777216 < td) (w : World) (hS : Sl w A n L) :
    Calls Try.prog 14 #[.agg #[.int .i64 v, .int .i64 q, .int .i64 c, .int .i64 mx, .int .i64 now, .slice A n k], .int .i64 td] w fun e w' => e = .returned (.tuple #[.agg #[.int .i64 0, .int .i64 0, .int .i64 0, .int .i64 0, .int .i64 0, .slice none 0 0], .int .i64 3]) ∧ Up w w' := by
  have KV := Lib.hid (fun W (h : Sl W A n L) => rvalidate12_up v q c mx now n k A L hn W h)
  rw [stSE_yes hv] at KV
  have HS := Lib.hid hS
  have KB := Lib.hid (fun W => rback_any now td W)
  rw [back_no ht] at KB
  clear hS hv ht
  go_enter Try.func14, Try.ntmps14
  go_wp2_with (first | (go_at_call 42; (with_reducible refine (KB.out _).mono ?_); rintro e w2 ⟨rfl, rfl⟩) | (go_at_call 20; (with_reducible refine (KV.out _ (HS.out.up (((Up.refl w).alloc _ _).alloc _ _))).mono ?_); rintro e w1 ⟨rfl, hu⟩; have HU1 := Lib.hid ((((Up.refl w).alloc #[.int .i64 v, .int .i64 q, .int .i64 c, .int .i64 mx, .int .i64 now, .slice A n k] 24).alloc #[.int .i64 0, .int .i64 0, .int .i64 0, .int .i64 0, .int .i64 0, .slice none 0 0] 24).trans hu); have c00 := hu.keep (w.heap.size) 0 (.int .i64 v) (by simp [go_sem]); have c01 := hu.keep (w.heap.size) 1 (.int .i64 q) (by simp [go_sem]); have c02 := hu.keep (w.heap.size) 2 (.int .i64 c) (by simp [go_sem]); have c03 := hu.keep (w.heap.size) 3 (.int .i64 mx) (by simp [go_sem]); have c04 := hu.keep (w.heap.size) 4 (.int .i64 now) (by simp [go_sem]); have c05 := hu.keep (w.heap.size) 5 (.slice A n k) (by simp [go_sem]); have c10 := hu.keep (w.heap.size + 1) 0 (.int .i64 0) (by simp [go_sem]); have c11 := hu.keep (w.heap.size + 1) 1 (.int .i64 0) (by simp [go_sem]); have c12 := hu.keep (w.heap.size + 1) 2 (.int .i64 0) (by simp [go_sem]); have c13 := hu.keep (w.heap.size + 1) 3 (.int .i64 0) (by simp [go_sem]); have c14 := hu.keep (w.heap.size + 1) 4 (.int .i64 0) (by simp [go_sem]); have c15 := hu.keep (w.heap.size + 1) 5 (.slice none 0 0) (by simp [go_sem]); have z00 := HU1.out.ownGe (g := w.heap.size) (Nat.le_refl _) 0; have z01 := HU1.out.ownGe (g := w.heap.size) (Nat.le_refl _) 1; have z02 := HU1.out.ownGe (g := w.heap.size) (Nat.le_refl _) 2; have z03 := HU1.out.ownGe (g := w.heap.size) (Nat.le_refl _) 3; have z04 := HU1.out.ownGe (g := w.heap.size) (Nat.le_refl _) 4; have z05 := HU1.out.ownGe (g := w.heap.size) (Nat.le_refl _) 5; have z10 := HU1.out.ownGe (g := w.heap.size + 1) (by omega) 0; have z11 := HU1.out.ownGe (g := w.heap.size + 1) (by omega) 1; have z12 := HU1.out.ownGe (g := w.heap.size + 1) (by omega) 2; have z13 := HU1.out.ownGe (g := w.heap.size + 1) (by omega) 3; have z14 := HU1.out.ownGe (g := w.heap.size + 1) (by omega) 4; have z15 := HU1.out.ownGe (g := w.heap.size + 1) (by omega) 5; have hlt : w.heap.size + 1 < w1.heap.size := World.block_lt_of_cell? _ _ c10; have hlt0 : w.heap.size < w1.heap.size := Nat.lt_of_succ_lt hlt; clear hu))
  refine bodyPost_ret (v := .tuple #[.agg #[.int .i64 0, .int .i64 0, .int .i64 0, .int .i64 0, .int .i64 0, .slice none 0 0], .int .i64 3]) (by simp [results, Try.results14, go_sem, c10, c11, c12, c13, c14, c15]) rfl ⟨rfl, ?_⟩
  exact HU1.out.set6 (by omega)

set_option maxHeartbeats 4000000 in
set_option maxRecDepth 100000 in
theorem radv12_good (v q c mx now td : Int) (n k : Nat) (A : Option Addr) (L : List It) (hn : n ≤ 50000) (hk : n ≤ k) (hv : stS v q c mx now L = true) (h1 : now ≤ td) (h2 : td ≤ 16777216) (w : World) (hS : Sl w A n L) :
    Calls Try.prog 14 #[.agg #[.int .i64 v, .int .i64 q, .int .i64 c, .int .i64 mx, .int .i64 now, .slice A n k], .int .i64 td] w fun e w' => ∃ A' n' k', e = .returned (.tuple #[.agg #[.int .i64 v, .int .i64 q, .int .i64 c, .int .i64 mx, .int .i64 td,  .slice A' n' k'], .int .i64 0]) ∧ n' ≤ n ∧ Sl w' A' n' (exL L (firZ td v)) ∧ Up w w' := by
  have KV := Lib.hid (fun W (h : Sl W A n L) => rvalidate12_up v q c mx now n k A L hn W h)
  rw [stSE_yes hv] at KV
  have HS := Lib.hid hS
  have KB := Lib.hid (fun W => rback_any now td W)
  rw [back_yes h1 h2] at KB
  have KF := Lib.hid (rfirst_any td v)
  have KE := Lib.hid (fun W h => rexpire_in n k A L (firZ td v) hn hk w W hS h)
  clear hS hv h1 h2
  generalize firZ td v = f0 at *
  generalize exL L f0 = M at *
  go_enter Try.func14, Try.ntmps14
  go_wp2_with (first | (go_at_call 42; (with_reducible refine (KB.out _).mono ?_); rintro e w' ⟨rfl, rfl⟩) | (go_at_call 20; (with_reducible refine (KV.out _ (HS.out.up (((Up.refl w).alloc _ _).alloc _ _))).mono ?_); rintro e w1 ⟨rfl, hu⟩; have HU1 := Lib.hid ((((Up.refl w).alloc #[.int .i64 v, .int .i64 q, .int .i64 c, .int .i64 mx, .int .i64 now, .slice A n k] 24).alloc #[.int .i64 0, .int .i64 0, .int .i64 0, .int .i64 0, .int .i64 0, .slice none 0 0] 24).trans hu); have c00 := hu.keep (w.heap.size) 0 (.int .i64 v) (by simp [go_sem]); have c01 := hu.keep (w.heap.size) 1 (.int .i64 q) (by simp [go_sem]); have c02 := hu.keep (w.heap.size) 2 (.int .i64 c) (by simp [go_sem]); have c03 := hu.keep (w.heap.size) 3 (.int .i64 mx) (by simp [go_sem]); have c04 := hu.keep (w.heap.size) 4 (.int .i64 now) (by simp [go_sem]); have c05 := hu.keep (w.heap.size) 5 (.slice A n k) (by simp [go_sem]); have c10 := hu.keep (w.heap.size + 1) 0 (.int .i64 0) (by simp [go_sem]); have c11 := hu.keep (w.heap.size + 1) 1 (.int .i64 0) (by simp [go_sem]); have c12 := hu.keep (w.heap.size + 1) 2 (.int .i64 0) (by simp [go_sem]); have c13 := hu.keep (w.heap.size + 1) 3 (.int .i64 0) (by simp [go_sem]); have c14 := hu.keep (w.heap.size + 1) 4 (.int .i64 0) (by simp [go_sem]); have c15 := hu.keep (w.heap.size + 1) 5 (.slice none 0 0) (by simp [go_sem]); have z00 := HU1.out.ownGe (g := w.heap.size) (Nat.le_refl _) 0; have z01 := HU1.out.ownGe (g := w.heap.size) (Nat.le_refl _) 1; have z02 := HU1.out.ownGe (g := w.heap.size) (Nat.le_refl _) 2; have z03 := HU1.out.ownGe (g := w.heap.size) (Nat.le_refl _) 3; have z04 := HU1.out.ownGe (g := w.heap.size) (Nat.le_refl _) 4; have z05 := HU1.out.ownGe (g := w.heap.size) (Nat.le_refl _) 5; have z10 := HU1.out.ownGe (g := w.heap.size + 1) (by omega) 0; have z11 := HU1.out.ownGe (g := w.heap.size + 1) (by omega) 1; have z12 := HU1.out.ownGe (g := w.heap.size + 1) (by omega) 2; have z13 := HU1.out.ownGe (g := w.heap.size + 1) (by omega) 3; have z14 := HU1.out.ownGe (g := w.heap.size + 1) (by omega) 4; have z15 := HU1.out.ownGe (g := w.heap.size + 1) (by omega) 5; have hlt : w.heap.size + 1 < w1.heap.size := World.block_lt_of_cell? _ _ c10; have hlt0 : w.heap.size < w1.heap.size := Nat.lt_of_succ_lt hlt; clear hu))
  have HSS : Hid (Up w w1 ∧ w1.cell? ⟨w.heap.size, 0, none⟩ = some (.int .i64 v) ∧ w1.cell? ⟨w.heap.size, 1, none⟩ = some (.int .i64 q) ∧ w1.cell? ⟨w.heap.size, 2, none⟩ = some (.int .i64 c) ∧ w1.cell? ⟨w.heap.size, 3, none⟩ = some (.int .i64 mx)) := Lib.hid ⟨HU1.out, c00, c01, c02, c03⟩
  refine wp_region_held_drew (S := fun w' => Up w w' ∧ w'.cell? ⟨w.heap.size, 0, none⟩ = some (.int .i64 v) ∧ w'.cell? ⟨w.heap.size, 1, none⟩ = some (.int .i64 q) ∧ w'.cell? ⟨w.heap.size, 2, none⟩ = some (.int .i64 c) ∧ w'.cell? ⟨w.heap.size, 3, none⟩ = some (.int .i64 mx)) (by kernel_rfl) ?hB27 (fun hHeld => ?_)
  case hB27 => (first | (with_reducible assumption) | (with_reducible exact keepQ4 (Lib.hid (Up.refl _).drew) HSS.out) | (with_reducible exact HX2.out) | (with_reducible exact setO12 hHeld (Nat.le_refl _) (by omega)))
  refine wpAnyH_take (i := 0) (oi := ⟨_, _, _, _, _, _⟩) (v := ?v28) rfl (by kernel_rfl) (by kernel_rfl) (by kernel_rfl) (fun _ _ _ h => h) (Or.inl ⟨by rfl, ?hy28⟩) (by assumption) ?_
  case hy28 => (intro w hSw; (try dsimp only at hSw); go_simp; (try (with_reducible rfl)))
  (try simp only [Act.put, List.setIfInBounds_toArray, List.set_cons_zero, List.set_cons_succ])
  refine wpAnyH_take (i := 1) (oi := ⟨_, _, _, _, _, _⟩) (v := ?v29) rfl (by kernel_rfl) (by kernel_rfl) (by kernel_rfl) (fun _ _ _ h => h) (Or.inl ⟨by rfl, ?hy29⟩) (by assumption) ?_
  case hy29 => (intro w hSw; (try dsimp only at hSw); go_simp; (try (with_reducible rfl)))
  (try simp only [Act.put, List.setIfInBounds_toArray, List.set_cons_zero, List.set_cons_succ])
  refine wpAnyH_take (i := 3) (oi := ⟨_, _, _, _, _, _⟩) (v := ?v30) rfl (by kernel_rfl) (by kernel_rfl) (by kernel_rfl) (fun _ _ _ h => h) (Or.inl ⟨by rfl, ?hy30⟩) (by assumption) ?_
  case hy30 => (intro w hSw; (try dsimp only at hSw); go_simp; (try (with_reducible rfl)))
  (try simp only [Act.put, List.setIfInBounds_toArray, List.set_cons_zero, List.set_cons_succ])
  refine wpAnyH_take (i := 4) (oi := ⟨_, _, _, _, _, _⟩) (v := ?v31) rfl (by kernel_rfl) (by kernel_rfl) (by kernel_rfl) (fun _ _ _ h => h) (Or.inl ⟨by rfl, ?hy31⟩) (by assumption) ?_
  case hy31 => (intro w hSw; (try dsimp only at hSw); go_simp; (try (with_reducible rfl)))
  (try simp only [Act.put, List.setIfInBounds_toArray, List.set_cons_zero, List.set_cons_succ])
  refine wpAnyH_take (i := 5) (oi := ⟨_, _, _, _, _, _⟩) (v := ?v32) rfl (by kernel_rfl) (by kernel_rfl) (by kernel_rfl) (fun _ _ _ h => h) (Or.inl ⟨by rfl, ?hy32⟩) (by assumption) ?_
  case hy32 => (intro w hSw; (try dsimp only at hSw); go_simp; (try (with_reducible rfl)))
  (try simp only [Act.put, List.setIfInBounds_toArray, List.set_cons_zero, List.set_cons_succ])
  refine wpAnyH_ready (rs := [2, 6]) (by kernel_rfl) (by simp) ?_
  refine AllReadyH.cons (o := ⟨_, _, _, _, _, _⟩) rfl (fun K hK => ?_) (AllReadyH.cons (o := ⟨_, _, _, _, _, _⟩) rfl (fun K hK => ?_) AllReadyH.nil)
  · go_simp
    refine hK.out _ _ ?hB33 (fun hHeld => ?_)
    case hB33 => (first | (with_reducible assumption) | (with_reducible exact keepQ4 (Lib.hid (Up.refl _).drew) HSS.out) | (with_reducible exact HX2.out) | (with_reducible exact setO12 hHeld (Nat.le_refl _) (by omega)))
    clear hK K
    (try simp only [Act.put, List.setIfInBounds_toArray, List.set_cons_zero, List.set_cons_succ])
    refine wpAnyH_take (i := 8) (oi := ⟨_, _, _, _, _, _⟩) (v := ?v34) rfl (by kernel_rfl) (by kernel_rfl) (by kernel_rfl) (fun _ _ _ h => h) (Or.inl ⟨by rfl, ?hy34⟩) (by assumption) ?_
    case hy34 => (intro w hSw; (try dsimp only at hSw); go_simp; (try (with_reducible rfl)))
    (try simp only [Act.put, List.setIfInBounds_toArray, List.set_cons_zero, List.set_cons_succ])
    refine wpAnyH_ready (rs := [6]) (by kernel_rfl) (by simp) ?_
    refine AllReadyH.cons (o := ⟨_, _, _, _, _, _⟩) rfl (fun K hK => ?_) AllReadyH.nil
    go_simp
    (go_at_call 44; (with_reducible refine (KF.out _).mono ?_); rintro e w' ⟨rfl, rfl⟩)
    (try go_wp2_with fail)
    refine hK.out _ _ ?hB35 (fun hHeld => ?_)
    case hB35 => (first | (with_reducible assumption) | (with_reducible exact keepQ4 (Lib.hid (Up.refl _).drew) HSS.out) | (with_reducible exact HX2.out) | (with_reducible exact setO12 hHeld (Nat.le_refl _) (by omega)))
    clear hK K
    (try simp only [Act.put, List.setIfInBounds_toArray, List.set_cons_zero, List.set_cons_succ])
    refine wpAnyH_ready (rs := [7]) (by kernel_rfl) (by simp) ?_
    refine AllReadyH.cons (o := ⟨_, _, _, _, _, _⟩) rfl (fun K hK => ?_) AllReadyH.nil
    go_simp
    (go_at_call 43; (with_reducible refine (KE.out _ (HU1.out.drew)).mono ?_); rintro e w2 ⟨A2, n2, k2, rfl, hn2, hM, hu⟩; have HM := Lib.hid hM; have HU2 := Lib.hid (HU1.out.drew.trans hu); have HX2 := Lib.hid (keepQ4 (Lib.hid hu) hHeld); have d00 := hu.keep _ _ _ c00; have d10 := hu.keep _ _ _ c10; have d01 := hu.keep _ _ _ c01; have d11 := hu.keep _ _ _ c11; have d02 := hu.keep _ _ _ c02; have d12 := hu.keep _ _ _ c12; have d03 := hu.keep _ _ _ c03; have d13 := hu.keep _ _ _ c13; have d04 := hu.keep _ _ _ c04; have d14 := hu.keep _ _ _ c14; have d05 := hu.keep _ _ _ c05; have d15 := hu.keep _ _ _ c15; have y00 := HU2.out.ownGe (g := w.heap.size) (Nat.le_refl _) 0; have y10 := HU2.out.ownGe (g := w.heap.size + 1) (by omega) 0; have y01 := HU2.out.ownGe (g := w.heap.size) (Nat.le_refl _) 1; have y11 := HU2.out.ownGe (g := w.heap.size + 1) (by omega) 1; have y02 := HU2.out.ownGe (g := w.heap.size) (Nat.le_refl _) 2; have y12 := HU2.out.ownGe (g := w.heap.size + 1) (by omega) 2; have y03 := HU2.out.ownGe (g := w.heap.size) (Nat.le_refl _) 3; have y13 := HU2.out.ownGe (g := w.heap.size + 1) (by omega) 3; have y04 := HU2.out.ownGe (g := w.heap.size) (Nat.le_refl _) 4; have y14 := HU2.out.ownGe (g := w.heap.size + 1) (by omega) 4; have y05 := HU2.out.ownGe (g := w.heap.size) (Nat.le_refl _) 5; have y15 := HU2.out.ownGe (g := w.heap.size + 1) (by omega) 5; clear hu hM)
    (try go_wp2_with fail)
    refine hK.out _ _ ?hB36 (fun hHeld => ?_)
    case hB36 => (first | (with_reducible assumption) | (with_reducible exact keepQ4 (Lib.hid (Up.refl _).drew) HSS.out) | (with_reducible exact HX2.out) | (with_reducible exact setO12 hHeld (Nat.le_refl _) (by omega)))
    clear hK K
    (try simp only [Act.put, List.setIfInBounds_toArray, List.set_cons_zero, List.set_cons_succ])
    refine wpAnyH_ready (rs := [9]) (by kernel_rfl) (by simp) ?_
    refine AllReadyH.cons (o := ⟨_, _, _, _, _, _⟩) rfl (fun K hK => ?_) AllReadyH.nil
    go_simp
    refine hK.out _ _ ?hB37 (fun hHeld => ?_)
    case hB37 => (first | (with_reducible assumption) | (with_reducible exact keepQ4 (Lib.hid (Up.refl _).drew) HSS.out) | (with_reducible exact HX2.out) | (with_reducible exact setO12 hHeld (Nat.le_refl _) (by omega)))
    clear hK K
    (try simp only [Act.put, List.setIfInBounds_toArray, List.set_cons_zero, List.set_cons_succ])
    refine wpAnyH_take (i := 10) (oi := ⟨_, _, _, _, _, _⟩) (v := ?v38) rfl (by kernel_rfl) (by kernel_rfl) (by kernel_rfl) (fun _ _ _ h => h) (Or.inl ⟨by rfl, ?hy38⟩) (by assumption) ?_
    case hy38 => (intro w hSw; (try dsimp only at hSw); go_simp; (try (with_reducible rfl)))
    (try simp only [Act.put, List.setIfInBounds_toArray, List.set_cons_zero, List.set_cons_succ])
    refine wpAnyH_ready (rs := [11]) (by kernel_rfl) (by simp) ?_
    refine AllReadyH.cons (o := ⟨_, _, _, _, _, _⟩) rfl (fun K hK => ?_) AllReadyH.nil
    go_simp
    refine hK.out _ _ ?hB39 (fun hHeld => ?_)
    case hB39 => (first | (with_reducible assumption) | (with_reducible exact keepQ4 (Lib.hid (Up.refl _).drew) HSS.out) | (with_reducible exact HX2.out) | (with_reducible exact setO12 hHeld (Nat.le_refl _) (by omega)))
    clear hK K
    (try simp only [Act.put, List.setIfInBounds_toArray, List.set_cons_zero, List.set_cons_succ])
    refine wpAnyH_done (by kernel_rfl) ?_ _
    clear hHeld
    clear c00 c10 z00 z10 HSS HX2
    go_wp2_with fail
    refine bodyPost_ret (v := .tuple #[.agg #[.int .i64 v, .int .i64 q, .int .i64 c, .int .i64 mx, .int .i64 td, .slice A2 n2 k2], .int .i64 0]) (by simp [results, Try.results14, go_sem, d10, d11, d12, d13, d14, d15]) rfl ⟨A2, n2, k2, rfl, hn2, ?_, ?_⟩
    · exact HM.out.up (((HU2.out.setCell (Nat.le_refl _) _).setCell (Nat.le_refl _) _).set6 (by omega))
    · exact ((HU2.out.setCell (Nat.le_refl _) _).setCell (Nat.le_refl _) _).set6 (by omega)
  · go_simp
    (go_at_call 44; (with_reducible refine (KF.out _).mono ?_); rintro e w' ⟨rfl, rfl⟩)
    (try go_wp2_with fail)
    refine hK.out _ _ ?hB40 (fun hHeld => ?_)
    case hB40 => (first | (with_reducible assumption) | (with_reducible exact keepQ4 (Lib.hid (Up.refl _).drew) HSS.out) | (with_reducible exact HX2.out) | (with_reducible exact setO12 hHeld (Nat.le_refl _) (by omega)))
    clear hK K
    (try simp only [Act.put, List.setIfInBounds_toArray, List.set_cons_zero, List.set_cons_succ])
    refine wpAnyH_ready (rs := [2]) (by kernel_rfl) (by simp) ?_
    refine AllReadyH.cons (o := ⟨_, _, _, _, _, _⟩) rfl (fun K hK => ?_) AllReadyH.nil
    go_simp
    refine hK.out _ _ ?hB41 (fun hHeld => ?_)
    case hB41 => (first | (with_reducible assumption) | (with_reducible exact keepQ4 (Lib.hid (Up.refl _).drew) HSS.out) | (with_reducible exact HX2.out) | (with_reducible exact setO12 hHeld (Nat.le_refl _) (by omega)))
    clear hK K
    (try simp only [Act.put, List.setIfInBounds_toArray, List.set_cons_zero, List.set_cons_succ])
    refine wpAnyH_take (i := 8) (oi := ⟨_, _, _, _, _, _⟩) (v := ?v42) rfl (by kernel_rfl) (by kernel_rfl) (by kernel_rfl) (fun _ _ _ h => h) (Or.inl ⟨by rfl, ?hy42⟩) (by assumption) ?_
    case hy42 => (intro w hSw; (try dsimp only at hSw); go_simp; (try (with_reducible rfl)))
    (try simp only [Act.put, List.setIfInBounds_toArray, List.set_cons_zero, List.set_cons_succ])
    refine wpAnyH_ready (rs := [7]) (by kernel_rfl) (by simp) ?_
    refine AllReadyH.cons (o := ⟨_, _, _, _, _, _⟩) rfl (fun K hK => ?_) AllReadyH.nil
    go_simp
    (go_at_call 43; (with_reducible refine (KE.out _ (HU1.out.drew)).mono ?_); rintro e w2 ⟨A2, n2, k2, rfl, hn2, hM, hu⟩; have HM := Lib.hid hM; have HU2 := Lib.hid (HU1.out.drew.trans hu); have HX2 := Lib.hid (keepQ4 (Lib.hid hu) hHeld); have d00 := hu.keep _ _ _ c00; have d10 := hu.keep _ _ _ c10; have d01 := hu.keep _ _ _ c01; have d11 := hu.keep _ _ _ c11; have d02 := hu.keep _ _ _ c02; have d12 := hu.keep _ _ _ c12; have d03 := hu.keep _ _ _ c03; have d13 := hu.keep _ _ _ c13; have d04 := hu.keep _ _ _ c04; have d14 := hu.keep _ _ _ c14; have d05 := hu.keep _ _ _ c05; have d15 := hu.keep _ _ _ c15; have y00 := HU2.out.ownGe (g := w.heap.size) (Nat.le_refl _) 0; have y10 := HU2.out.ownGe (g := w.heap.size + 1) (by omega) 0; have y01 := HU2.out.ownGe (g := w.heap.size) (Nat.le_refl _) 1; have y11 := HU2.out.ownGe (g := w.heap.size + 1) (by omega) 1; have y02 := HU2.out.ownGe (g := w.heap.size) (Nat.le_refl _) 2; have y12 := HU2.out.ownGe (g := w.heap.size + 1) (by omega) 2; have y03 := HU2.out.ownGe (g := w.heap.size) (Nat.le_refl _) 3; have y13 := HU2.out.ownGe (g := w.heap.size + 1) (by omega) 3; have y04 := HU2.out.ownGe (g := w.heap.size) (Nat.le_refl _) 4; have y14 := HU2.out.ownGe (g := w.heap.size + 1) (by omega) 4; have y05 := HU2.out.ownGe (g := w.heap.size) (Nat.le_refl _) 5; have y15 := HU2.out.ownGe (g := w.heap.size + 1) (by omega) 5; clear hu hM)
    (try go_wp2_with fail)
    refine hK.out _ _ ?hB43 (fun hHeld => ?_)
    case hB43 => (first | (with_reducible assumption) | (with_reducible exact keepQ4 (Lib.hid (Up.refl _).drew) HSS.out) | (with_reducible exact HX2.out) | (with_reducible exact setO12 hHeld (Nat.le_refl _) (by omega)))
    clear hK K
    (try simp only [Act.put, List.setIfInBounds_toArray, List.set_cons_zero, List.set_cons_succ])
    refine wpAnyH_ready (rs := [9]) (by kernel_rfl) (by simp) ?_
    refine AllReadyH.cons (o := ⟨_, _, _, _, _, _⟩) rfl (fun K hK => ?_) AllReadyH.nil
    go_simp
    refine hK.out _ _ ?hB44 (fun hHeld => ?_)
    case hB44 => (first | (with_reducible assumption) | (with_reducible exact keepQ4 (Lib.hid (Up.refl _).drew) HSS.out) | (with_reducible exact HX2.out) | (with_reducible exact setO12 hHeld (Nat.le_refl _) (by omega)))
    clear hK K
    (try simp only [Act.put, List.setIfInBounds_toArray, List.set_cons_zero, List.set_cons_succ])
    refine wpAnyH_take (i := 10) (oi := ⟨_, _, _, _, _, _⟩) (v := ?v45) rfl (by kernel_rfl) (by kernel_rfl) (by kernel_rfl) (fun _ _ _ h => h) (Or.inl ⟨by rfl, ?hy45⟩) (by assumption) ?_
    case hy45 => (intro w hSw; (try dsimp only at hSw); go_simp; (try (with_reducible rfl)))
    (try simp only [Act.put, List.setIfInBounds_toArray, List.set_cons_zero, List.set_cons_succ])
    refine wpAnyH_ready (rs := [11]) (by kernel_rfl) (by simp) ?_
    refine AllReadyH.cons (o := ⟨_, _, _, _, _, _⟩) rfl (fun K hK => ?_) AllReadyH.nil
    go_simp
    refine hK.out _ _ ?hB46 (fun hHeld => ?_)
    case hB46 => (first | (with_reducible assumption) | (with_reducible exact keepQ4 (Lib.hid (Up.refl _).drew) HSS.out) | (with_reducible exact HX2.out) | (with_reducible exact setO12 hHeld (Nat.le_refl _) (by omega)))
    clear hK K
    (try simp only [Act.put, List.setIfInBounds_toArray, List.set_cons_zero, List.set_cons_succ])
    refine wpAnyH_done (by kernel_rfl) ?_ _
    clear hHeld
    clear c00 c10 z00 z10 HSS HX2
    go_wp2_with fail
    refine bodyPost_ret (v := .tuple #[.agg #[.int .i64 v, .int .i64 q, .int .i64 c, .int .i64 mx, .int .i64 td, .slice A2 n2 k2], .int .i64 0]) (by simp [results, Try.results14, go_sem, d10, d11, d12, d13, d14, d15]) rfl ⟨A2, n2, k2, rfl, hn2, ?_, ?_⟩
    · exact HM.out.up (((HU2.out.setCell (Nat.le_refl _) _).setCell (Nat.le_refl _) _).set6 (by omega))
    · exact ((HU2.out.setCell (Nat.le_refl _) _).setCell (Nat.le_refl _) _).set6 (by omega)
end Go.Proofs.Ytfdjhahnggdklaa
