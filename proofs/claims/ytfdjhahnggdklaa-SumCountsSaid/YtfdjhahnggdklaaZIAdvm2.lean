/- Texts of these claims, one after the other. -/
import Derived.Test.YtfdjhahnggdklaaZCClock
import Derived.Test.YtfdjhahnggdklaaZGBasem8
import Derived.Test.YtfdjhahnggdklaaZGLawm3
import Derived.Test.YtfdjhahnggdklaaZHGrowm2
import Derived.Test.YtfdjhahnggdklaaZHOrdm2
import Derived.Test.YtfdjhahnggdklaaZHRInsm2
import Derived.Test.YtfdjhahnggdklaaZHRVal
import Derived.Test.YtfdjhahnggdklaaZHRowm3
import Derived.Test.YtfdjhahnggdklaaZHSamem5
import Derived.Test.YtfdjhahnggdklaaZHSmallm7
import Derived.Test.YtfdjhahnggdklaaZIBasem2
import Derived.Test.YtfdjhahnggdklaaZIVal
import Derived.Test.YtfdjhahnggdklaaZWCmpm5
import Derived.Test.YtfdjhahnggdklaaZWMathm9
namespace Go.Proofs.Ytfdjhahnggdklaa
open Go.RowKit
set_option linter.unusedVariables false

theorem back_no {now td : Int} (h : td < now ∨ 16777216 < td) : backE now td = 3 := if_pos h
theorem back_yes {now td : Int} (h : now ≤ td) (k : td ≤ 16777216) : backE now td = 0 := if_neg (by omega)
theorem adv_no {now td : Int} (ht : tickB now = true) (h : td < now ∨ 16777216 < td) : (if tickB now = true then (if td < now ∨ 16777216 < td then ((0 : Int), (3 : Int)) else (td, 0)) else (0, 1)) = (0, 3) := by rw [if_pos ht, if_pos h]
theorem adv_yes {now td : Int} (ht : tickB now = true) (h : now ≤ td) (k : td ≤ 16777216) : (if tickB now = true then (if td < now ∨ 16777216 < td then ((0 : Int), (3 : Int)) else (td, 0)) else (0, 1)) = (td, 0) := by rw [if_pos ht, if_neg (by omega)]
theorem setO {w w1 : World} {p o : Nat} {x0 x1 x2 v : Value} (h : Up w w1 ∧ w1.cell? ⟨p, 0, none⟩ = some x0 ∧ w1.cell? ⟨p, 1, none⟩ = some x1 ∧ w1.cell? ⟨p, 2, none⟩ = some x2) (hp : w.heap.size ≤ p) (ho : o = 3 ∨ o = 4) : Up w (w1.setCell ⟨p, o, none⟩ v) ∧ (w1.setCell ⟨p, o, none⟩ v).cell? ⟨p, 0, none⟩ = some x0 ∧ (w1.setCell ⟨p, o, none⟩ v).cell? ⟨p, 1, none⟩ = some x1 ∧ (w1.setCell ⟨p, o, none⟩ v).cell? ⟨p, 2, none⟩ = some x2 :=
  ⟨h.1.setCell hp _, (World.cell?_setCell_other _ _ _ _ (by intro e; injection e with e1 e2; omega)).trans h.2.1, (World.cell?_setCell_other _ _ _ _ (by intro e; injection e with e1 e2; omega)).trans h.2.2.1, (World.cell?_setCell_other _ _ _ _ (by intro e; injection e with e1 e2; omega)).trans h.2.2.2⟩
theorem keepQ3 {w w1 w2 : World} {b0 o0 b1 o1 b2 o2 : Nat} {x0 x1 x2 : Value} (hu : Hid (Up w1 w2)) (h : Up w w1 ∧ w1.cell? ⟨b0, o0, none⟩ = some x0 ∧ w1.cell? ⟨b1, o1, none⟩ = some x1 ∧ w1.cell? ⟨b2, o2, none⟩ = some x2) : Up w w2 ∧ w2.cell? ⟨b0, o0, none⟩ = some x0 ∧ w2.cell? ⟨b1, o1, none⟩ = some x1 ∧ w2.cell? ⟨b2, o2, none⟩ = some x2 :=
  ⟨h.1.trans hu.out, hu.out.keep _ _ _ h.2.1, hu.out.keep _ _ _ h.2.2.1, hu.out.keep _ _ _ h.2.2.2⟩

set_option maxHeartbeats 4000000 in
set_option maxRecDepth 100000 in
theorem adv11_good (v q c now td : Int) (n k : Nat) (A : Option Addr) (L : List It) (hn : n ≤ 50000) (hk : n ≤ k) (hv : stC v q c now L = true) (h1 : now ≤ td) (h2 : td ≤ 16777216) (w : World) (hS : Sl w A n L) :
    Calls Try.prog 32 #[.agg #[.int .i64 v, .int .i64 q, .int .i64 c, .int .i64 now, .slice A n k], .int .i64 td] w fun e w' => ∃ A' n' k', e = .returned (.tuple #[.agg #[.int .i64 v, .int .i64 q, .int .i64 c, .int .i64 td,  .slice A' n' k'], .int .i64 0]) ∧ n' ≤ n ∧ n' ≤ k' ∧ Nw w A' ∧ Sl w' A' n' (exL L (firZ td v)) ∧ Up w w' := by
  have KV := Lib.hid (fun W (h : Sl W A n L) => validate11_up v q c now n k A L hn W h)
  rw [stCE_yes hv] at KV
  have HS := Lib.hid hS
  have KB := Lib.hid (fun W => advance_any now td td 0 (adv_yes (by have h := mayC_true (stC_true hv).1; exact (mayB_true h.1).1) h1 h2) W)
  have KF := Lib.hid (first_any td v)
  have KE := Lib.hid (fun W (h : Sl W A n L) => expire_up n k A L (firZ td v) hn hk W h)
  clear hS hv h1 h2
  generalize firZ td v = f0 at *
  generalize exL L f0 = M at *
  go_enter Try.func32, Try.ntmps32
  go_wp2_with (first | (go_at_call 39; (with_reducible refine (KB.out _).mono ?_); rintro e w' ⟨rfl, rfl⟩) | (go_at_call 67; (with_reducible refine (KV.out _ (HS.out.up (((Up.refl w).alloc _ _).alloc _ _))).mono ?_); rintro e w1 ⟨rfl, hu⟩; have HU1 := Lib.hid ((((Up.refl w).alloc #[.int .i64 v, .int .i64 q, .int .i64 c, .int .i64 now, .slice A n k] 56).alloc #[.int .i64 0, .int .i64 0, .int .i64 0, .int .i64 0, .slice none 0 0] 56).trans hu); have c00 := hu.keep (w.heap.size) 0 (.int .i64 v) (by simp [go_sem]); have c01 := hu.keep (w.heap.size) 1 (.int .i64 q) (by simp [go_sem]); have c02 := hu.keep (w.heap.size) 2 (.int .i64 c) (by simp [go_sem]); have c03 := hu.keep (w.heap.size) 3 (.int .i64 now) (by simp [go_sem]); have c04 := hu.keep (w.heap.size) 4 (.slice A n k) (by simp [go_sem]); have c10 := hu.keep (w.heap.size + 1) 0 (.int .i64 0) (by simp [go_sem]); have c11 := hu.keep (w.heap.size + 1) 1 (.int .i64 0) (by simp [go_sem]); have c12 := hu.keep (w.heap.size + 1) 2 (.int .i64 0) (by simp [go_sem]); have c13 := hu.keep (w.heap.size + 1) 3 (.int .i64 0) (by simp [go_sem]); have c14 := hu.keep (w.heap.size + 1) 4 (.slice none 0 0) (by simp [go_sem]); have z00 := HU1.out.ownGe (g := w.heap.size) (Nat.le_refl _) 0; have z01 := HU1.out.ownGe (g := w.heap.size) (Nat.le_refl _) 1; have z02 := HU1.out.ownGe (g := w.heap.size) (Nat.le_refl _) 2; have z03 := HU1.out.ownGe (g := w.heap.size) (Nat.le_refl _) 3; have z04 := HU1.out.ownGe (g := w.heap.size) (Nat.le_refl _) 4; have z10 := HU1.out.ownGe (g := w.heap.size + 1) (by omega) 0; have z11 := HU1.out.ownGe (g := w.heap.size + 1) (by omega) 1; have z12 := HU1.out.ownGe (g := w.heap.size + 1) (by omega) 2; have z13 := HU1.out.ownGe (g := w.heap.size + 1) (by omega) 3; have z14 := HU1.out.ownGe (g := w.heap.size + 1) (by omega) 4; have hlt : w.heap.size + 1 < w1.heap.size := World.block_lt_of_cell? _ _ c10; have hlt0 : w.heap.size < w1.heap.size := Nat.lt_of_succ_lt hlt; clear hu))
  have HSS : Hid (Up w w1 ∧ w1.cell? ⟨w.heap.size, 0, none⟩ = some (.int .i64 v) ∧ w1.cell? ⟨w.heap.size, 1, none⟩ = some (.int .i64 q) ∧ w1.cell? ⟨w.heap.size, 2, none⟩ = some (.int .i64 c)) := Lib.hid ⟨HU1.out, c00, c01, c02⟩
  refine wp_region_held_drew (S := fun w' => Up w w' ∧ w'.cell? ⟨w.heap.size, 0, none⟩ = some (.int .i64 v) ∧ w'.cell? ⟨w.heap.size, 1, none⟩ = some (.int .i64 q) ∧ w'.cell? ⟨w.heap.size, 2, none⟩ = some (.int .i64 c)) (by kernel_rfl) ?hB7 (fun hHeld => ?_)
  case hB7 => (first | (with_reducible assumption) | (with_reducible exact keepQ3 (Lib.hid (Up.refl _).drew) HSS.out) | (with_reducible exact HX2.out) | (with_reducible exact setO hHeld (Nat.le_refl _) (by omega)))
  refine wpAnyH_take (i := 0) (oi := ⟨_, _, _, _, _, _⟩) (v := ?v8) rfl (by kernel_rfl) (by kernel_rfl) (by kernel_rfl) (fun _ _ _ h => h) (Or.inl ⟨by rfl, ?hy8⟩) (by assumption) ?_
  case hy8 => (intro w hSw; (try dsimp only at hSw); go_simp; (try (with_reducible rfl)))
  (try simp only [Act.put, List.setIfInBounds_toArray, List.set_cons_zero, List.set_cons_succ])
  refine wpAnyH_take (i := 1) (oi := ⟨_, _, _, _, _, _⟩) (v := ?v9) rfl (by kernel_rfl) (by kernel_rfl) (by kernel_rfl) (fun _ _ _ h => h) (Or.inl ⟨by rfl, ?hy9⟩) (by assumption) ?_
  case hy9 => (intro w hSw; (try dsimp only at hSw); go_simp; (try (with_reducible rfl)))
  (try simp only [Act.put, List.setIfInBounds_toArray, List.set_cons_zero, List.set_cons_succ])
  refine wpAnyH_take (i := 3) (oi := ⟨_, _, _, _, _, _⟩) (v := ?v10) rfl (by kernel_rfl) (by kernel_rfl) (by kernel_rfl) (fun _ _ _ h => h) (Or.inl ⟨by rfl, ?hy10⟩) (by assumption) ?_
  case hy10 => (intro w hSw; (try dsimp only at hSw); go_simp; (try (with_reducible rfl)))
  (try simp only [Act.put, List.setIfInBounds_toArray, List.set_cons_zero, List.set_cons_succ])
  refine wpAnyH_take (i := 4) (oi := ⟨_, _, _, _, _, _⟩) (v := ?v11) rfl (by kernel_rfl) (by kernel_rfl) (by kernel_rfl) (fun _ _ _ h => h) (Or.inl ⟨by rfl, ?hy11⟩) (by assumption) ?_
  case hy11 => (intro w hSw; (try dsimp only at hSw); go_simp; (try (with_reducible rfl)))
  (try simp only [Act.put, List.setIfInBounds_toArray, List.set_cons_zero, List.set_cons_succ])
  refine wpAnyH_take (i := 5) (oi := ⟨_, _, _, _, _, _⟩) (v := ?v12) rfl (by kernel_rfl) (by kernel_rfl) (by kernel_rfl) (fun _ _ _ h => h) (Or.inl ⟨by rfl, ?hy12⟩) (by assumption) ?_
  case hy12 => (intro w hSw; (try dsimp only at hSw); go_simp; (try (with_reducible rfl)))
  (try simp only [Act.put, List.setIfInBounds_toArray, List.set_cons_zero, List.set_cons_succ])
  refine wpAnyH_ready (rs := [2, 6]) (by kernel_rfl) (by simp) ?_
  refine AllReadyH.cons (o := ⟨_, _, _, _, _, _⟩) rfl (fun K hK => ?_) (AllReadyH.cons (o := ⟨_, _, _, _, _, _⟩) rfl (fun K hK => ?_) AllReadyH.nil)
  · go_simp
    refine hK.out _ _ ?hB13 (fun hHeld => ?_)
    case hB13 => (first | (with_reducible assumption) | (with_reducible exact keepQ3 (Lib.hid (Up.refl _).drew) HSS.out) | (with_reducible exact HX2.out) | (with_reducible exact setO hHeld (Nat.le_refl _) (by omega)))
    clear hK K
    (try simp only [Act.put, List.setIfInBounds_toArray, List.set_cons_zero, List.set_cons_succ])
    refine wpAnyH_take (i := 8) (oi := ⟨_, _, _, _, _, _⟩) (v := ?v14) rfl (by kernel_rfl) (by kernel_rfl) (by kernel_rfl) (fun _ _ _ h => h) (Or.inl ⟨by rfl, ?hy14⟩) (by assumption) ?_
    case hy14 => (intro w hSw; (try dsimp only at hSw); go_simp; (try (with_reducible rfl)))
    (try simp only [Act.put, List.setIfInBounds_toArray, List.set_cons_zero, List.set_cons_succ])
    refine wpAnyH_ready (rs := [6]) (by kernel_rfl) (by simp) ?_
    refine AllReadyH.cons (o := ⟨_, _, _, _, _, _⟩) rfl (fun K hK => ?_) AllReadyH.nil
    go_simp
    (go_at_call 41; (with_reducible refine (KF.out _).mono ?_); rintro e w' ⟨rfl, rfl⟩)
    (try go_wp2_with fail)
    refine hK.out _ _ ?hB15 (fun hHeld => ?_)
    case hB15 => (first | (with_reducible assumption) | (with_reducible exact keepQ3 (Lib.hid (Up.refl _).drew) HSS.out) | (with_reducible exact HX2.out) | (with_reducible exact setO hHeld (Nat.le_refl _) (by omega)))
    clear hK K
    (try simp only [Act.put, List.setIfInBounds_toArray, List.set_cons_zero, List.set_cons_succ])
    refine wpAnyH_ready (rs := [7]) (by kernel_rfl) (by simp) ?_
    refine AllReadyH.cons (o := ⟨_, _, _, _, _, _⟩) rfl (fun K hK => ?_) AllReadyH.nil
    go_simp
    (go_at_call 40; (with_reducible refine (KE.out _ (HS.out.up HU1.out.drew)).mono ?_); rintro e w2 ⟨A2, n2, k2, rfl, hn2, hM, hu⟩; have HM := Lib.hid hM; have HU2 := Lib.hid (HU1.out.drew.trans hu); have HX2 := Lib.hid (keepQ3 (Lib.hid hu) hHeld); have d00 := hu.keep _ _ _ c00; have d10 := hu.keep _ _ _ c10; have d01 := hu.keep _ _ _ c01; have d11 := hu.keep _ _ _ c11; have d02 := hu.keep _ _ _ c02; have d12 := hu.keep _ _ _ c12; have d03 := hu.keep _ _ _ c03; have d13 := hu.keep _ _ _ c13; have d04 := hu.keep _ _ _ c04; have d14 := hu.keep _ _ _ c14; have y00 := HU2.out.ownGe (g := w.heap.size) (Nat.le_refl _) 0; have y10 := HU2.out.ownGe (g := w.heap.size + 1) (by omega) 0; have y01 := HU2.out.ownGe (g := w.heap.size) (Nat.le_refl _) 1; have y11 := HU2.out.ownGe (g := w.heap.size + 1) (by omega) 1; have y02 := HU2.out.ownGe (g := w.heap.size) (Nat.le_refl _) 2; have y12 := HU2.out.ownGe (g := w.heap.size + 1) (by omega) 2; have y03 := HU2.out.ownGe (g := w.heap.size) (Nat.le_refl _) 3; have y13 := HU2.out.ownGe (g := w.heap.size + 1) (by omega) 3; have y04 := HU2.out.ownGe (g := w.heap.size) (Nat.le_refl _) 4; have y14 := HU2.out.ownGe (g := w.heap.size + 1) (by omega) 4; clear hu hM)
    (try go_wp2_with fail)
    refine hK.out _ _ ?hB16 (fun hHeld => ?_)
    case hB16 => (first | (with_reducible assumption) | (with_reducible exact keepQ3 (Lib.hid (Up.refl _).drew) HSS.out) | (with_reducible exact HX2.out) | (with_reducible exact setO hHeld (Nat.le_refl _) (by omega)))
    clear hK K
    (try simp only [Act.put, List.setIfInBounds_toArray, List.set_cons_zero, List.set_cons_succ])
    refine wpAnyH_ready (rs := [9]) (by kernel_rfl) (by simp) ?_
    refine AllReadyH.cons (o := ⟨_, _, _, _, _, _⟩) rfl (fun K hK => ?_) AllReadyH.nil
    go_simp
    refine hK.out _ _ ?hB17 (fun hHeld => ?_)
    case hB17 => (first | (with_reducible assumption) | (with_reducible exact keepQ3 (Lib.hid (Up.refl _).drew) HSS.out) | (with_reducible exact HX2.out) | (with_reducible exact setO hHeld (Nat.le_refl _) (by omega)))
    clear hK K
    (try simp only [Act.put, List.setIfInBounds_toArray, List.set_cons_zero, List.set_cons_succ])
    refine wpAnyH_take (i := 10) (oi := ⟨_, _, _, _, _, _⟩) (v := ?v18) rfl (by kernel_rfl) (by kernel_rfl) (by kernel_rfl) (fun _ _ _ h => h) (Or.inl ⟨by rfl, ?hy18⟩) (by assumption) ?_
    case hy18 => (intro w hSw; (try dsimp only at hSw); go_simp; (try (with_reducible rfl)))
    (try simp only [Act.put, List.setIfInBounds_toArray, List.set_cons_zero, List.set_cons_succ])
    refine wpAnyH_ready (rs := [11]) (by kernel_rfl) (by simp) ?_
    refine AllReadyH.cons (o := ⟨_, _, _, _, _, _⟩) rfl (fun K hK => ?_) AllReadyH.nil
    go_simp
    refine hK.out _ _ ?hB19 (fun hHeld => ?_)
    case hB19 => (first | (with_reducible assumption) | (with_reducible exact keepQ3 (Lib.hid (Up.refl _).drew) HSS.out) | (with_reducible exact HX2.out) | (with_reducible exact setO hHeld (Nat.le_refl _) (by omega)))
    clear hK K
    (try simp only [Act.put, List.setIfInBounds_toArray, List.set_cons_zero, List.set_cons_succ])
    refine wpAnyH_done (by kernel_rfl) ?_ _
    clear hHeld
    clear c00 c10 z00 z10 HSS HX2
    go_wp2_with fail
    refine bodyPost_ret (v := .tuple #[.agg #[.int .i64 v, .int .i64 q, .int .i64 c, .int .i64 td, .slice A2 n2 k2], .int .i64 0]) (by simp [results, Try.results32, go_sem, d10, d11, d12, d13, d14]) rfl ⟨A2, n2, k2, rfl, hn2, HM.out.at_.1, HM.out.nw.up HU1.out.drew, ?_, ?_⟩
    · exact ((HM.out.at_.2.off (HM.out.nw.off (by simpa using hlt0)) _).off (HM.out.nw.off (by simpa using hlt0)) _).off5 (HM.out.nw.off (by simpa using hlt)) _ _ _ _ _
    · exact ((HU2.out.setCell (Nat.le_refl _) _).setCell (Nat.le_refl _) _).set5 (by omega)
  · go_simp
    (go_at_call 41; (with_reducible refine (KF.out _).mono ?_); rintro e w' ⟨rfl, rfl⟩)
    (try go_wp2_with fail)
    refine hK.out _ _ ?hB20 (fun hHeld => ?_)
    case hB20 => (first | (with_reducible assumption) | (with_reducible exact keepQ3 (Lib.hid (Up.refl _).drew) HSS.out) | (with_reducible exact HX2.out) | (with_reducible exact setO hHeld (Nat.le_refl _) (by omega)))
    clear hK K
    (try simp only [Act.put, List.setIfInBounds_toArray, List.set_cons_zero, List.set_cons_succ])
    refine wpAnyH_ready (rs := [2]) (by kernel_rfl) (by simp) ?_
    refine AllReadyH.cons (o := ⟨_, _, _, _, _, _⟩) rfl (fun K hK => ?_) AllReadyH.nil
    go_simp
    refine hK.out _ _ ?hB21 (fun hHeld => ?_)
    case hB21 => (first | (with_reducible assumption) | (with_reducible exact keepQ3 (Lib.hid (Up.refl _).drew) HSS.out) | (with_reducible exact HX2.out) | (with_reducible exact setO hHeld (Nat.le_refl _) (by omega)))
    clear hK K
    (try simp only [Act.put, List.setIfInBounds_toArray, List.set_cons_zero, List.set_cons_succ])
    refine wpAnyH_take (i := 8) (oi := ⟨_, _, _, _, _, _⟩) (v := ?v22) rfl (by kernel_rfl) (by kernel_rfl) (by kernel_rfl) (fun _ _ _ h => h) (Or.inl ⟨by rfl, ?hy22⟩) (by assumption) ?_
    case hy22 => (intro w hSw; (try dsimp only at hSw); go_simp; (try (with_reducible rfl)))
    (try simp only [Act.put, List.setIfInBounds_toArray, List.set_cons_zero, List.set_cons_succ])
    refine wpAnyH_ready (rs := [7]) (by kernel_rfl) (by simp) ?_
    refine AllReadyH.cons (o := ⟨_, _, _, _, _, _⟩) rfl (fun K hK => ?_) AllReadyH.nil
    go_simp
    (go_at_call 40; (with_reducible refine (KE.out _ (HS.out.up HU1.out.drew)).mono ?_); rintro e w2 ⟨A2, n2, k2, rfl, hn2, hM, hu⟩; have HM := Lib.hid hM; have HU2 := Lib.hid (HU1.out.drew.trans hu); have HX2 := Lib.hid (keepQ3 (Lib.hid hu) hHeld); have d00 := hu.keep _ _ _ c00; have d10 := hu.keep _ _ _ c10; have d01 := hu.keep _ _ _ c01; have d11 := hu.keep _ _ _ c11; have d02 := hu.keep _ _ _ c02; have d12 := hu.keep _ _ _ c12; have d03 := hu.keep _ _ _ c03; have d13 := hu.keep _ _ _ c13; have d04 := hu.keep _ _ _ c04; have d14 := hu.keep _ _ _ c14; have y00 := HU2.out.ownGe (g := w.heap.size) (Nat.le_refl _) 0; have y10 := HU2.out.ownGe (g := w.heap.size + 1) (by omega) 0; have y01 := HU2.out.ownGe (g := w.heap.size) (Nat.le_refl _) 1; have y11 := HU2.out.ownGe (g := w.heap.size + 1) (by omega) 1; have y02 := HU2.out.ownGe (g := w.heap.size) (Nat.le_refl _) 2; have y12 := HU2.out.ownGe (g := w.heap.size + 1) (by omega) 2; have y03 := HU2.out.ownGe (g := w.heap.size) (Nat.le_refl _) 3; have y13 := HU2.out.ownGe (g := w.heap.size + 1) (by omega) 3; have y04 := HU2.out.ownGe (g := w.heap.size) (Nat.le_refl _) 4; have y14 := HU2.out.ownGe (g := w.heap.size + 1) (by omega) 4; clear hu hM)
    (try go_wp2_with fail)
    refine hK.out _ _ ?hB23 (fun hHeld => ?_)
    case hB23 => (first | (with_reducible assumption) | (with_reducible exact keepQ3 (Lib.hid (Up.refl _).drew) HSS.out) | (with_reducible exact HX2.out) | (with_reducible exact setO hHeld (Nat.le_refl _) (by omega)))
    clear hK K
    (try simp only [Act.put, List.setIfInBounds_toArray, List.set_cons_zero, List.set_cons_succ])
    refine wpAnyH_ready (rs := [9]) (by kernel_rfl) (by simp) ?_
    refine AllReadyH.cons (o := ⟨_, _, _, _, _, _⟩) rfl (fun K hK => ?_) AllReadyH.nil
    go_simp
    refine hK.out _ _ ?hB24 (fun hHeld => ?_)
    case hB24 => (first | (with_reducible assumption) | (with_reducible exact keepQ3 (Lib.hid (Up.refl _).drew) HSS.out) | (with_reducible exact HX2.out) | (with_reducible exact setO hHeld (Nat.le_refl _) (by omega)))
    clear hK K
    (try simp only [Act.put, List.setIfInBounds_toArray, List.set_cons_zero, List.set_cons_succ])
    refine wpAnyH_take (i := 10) (oi := ⟨_, _, _, _, _, _⟩) (v := ?v25) rfl (by kernel_rfl) (by kernel_rfl) (by kernel_rfl) (fun _ _ _ h => h) (Or.inl ⟨by rfl, ?hy25⟩) (by assumption) ?_
    case hy25 => (intro w hSw; (try dsimp only at hSw); go_simp; (try (with_reducible rfl)))
    (try simp only [Act.put, List.setIfInBounds_toArray, List.set_cons_zero, List.set_cons_succ])
    refine wpAnyH_ready (rs := [11]) (by kernel_rfl) (by simp) ?_
    refine AllReadyH.cons (o := ⟨_, _, _, _, _, _⟩) rfl (fun K hK => ?_) AllReadyH.nil
    go_simp
    refine hK.out _ _ ?hB26 (fun hHeld => ?_)
    case hB26 => (first | (with_reducible assumption) | (with_reducible exact keepQ3 (Lib.hid (Up.refl _).drew) HSS.out) | (with_reducible exact HX2.out) | (with_reducible exact setO hHeld (Nat.le_refl _) (by omega)))
    clear hK K
    (try simp only [Act.put, List.setIfInBounds_toArray, List.set_cons_zero, List.set_cons_succ])
    refine wpAnyH_done (by kernel_rfl) ?_ _
    clear hHeld
    clear c00 c10 z00 z10 HSS HX2
    go_wp2_with fail
    refine bodyPost_ret (v := .tuple #[.agg #[.int .i64 v, .int .i64 q, .int .i64 c, .int .i64 td, .slice A2 n2 k2], .int .i64 0]) (by simp [results, Try.results32, go_sem, d10, d11, d12, d13, d14]) rfl ⟨A2, n2, k2, rfl, hn2, HM.out.at_.1, HM.out.nw.up HU1.out.drew, ?_, ?_⟩
    · exact ((HM.out.at_.2.off (HM.out.nw.off (by simpa using hlt0)) _).off (HM.out.nw.off (by simpa using hlt0)) _).off5 (HM.out.nw.off (by simpa using hlt)) _ _ _ _ _
    · exact ((HU2.out.setCell (Nat.le_refl _) _).setCell (Nat.le_refl _) _).set5 (by omega)

end Go.Proofs.Ytfdjhahnggdklaa

namespace Go.Proofs.Ytfdjhahnggdklaa
open Go.RowKit
set_option linter.unusedVariables false


set_option maxHeartbeats 4000000 in
set_option maxRecDepth 100000 in
theorem add11_good (v q c now : Int) (n k : Nat) (A : Option Addr) (L : List It) (hn : n ≤ 50000) (hk : n ≤ k) (hv : stC v q c now L = true) (hf : totB L ≠ c) (w : World) (hS : Sl w A n L) :
    Calls Try.prog 33 #[.agg #[.int .i64 v, .int .i64 q, .int .i64 c, .int .i64 now, .slice A n k]] w fun e w' => ∃ A' n' k', e = .returned (.tuple #[.agg #[.int .i64 v, .int .i64 q, .int .i64 c, .int .i64 now, .slice A' n' k'], .int .i64 0]) ∧ n' ≤ n + 1024 ∧ n' ≤ k' ∧ Nw w A' ∧ Sl w' A' n' (puB q now L) ∧ Up w w' := by
  have KV := Lib.hid (fun W (h : Sl W A n L) => validate11_up v q c now n k A L hn W h)
  rw [stCE_yes hv] at KV
  have HS := Lib.hid hS
  have KT := Lib.hid (fun W (h : Sl W A n L) => total10_up n k A L (by omega) W h)
  obtain ⟨_, b2, b3, b4⟩ := stC_add hv hf
  have KI := Lib.hid (fun W (h : Sl W A n L) => insert_up n k A L q now hn W h)
  rw [imL_one (stC_true hv).2.1 b2.1 b2.2 b3 b4] at KI
  generalize puB q now L = M at *
  generalize totB L = y at *
  have t1 : (y == c) = false := by simp [hf]
  clear hS hv hf b2 b3 b4
  go_enter Try.func33, Try.ntmps33
  go_wp2_with (go_at_call 67; (with_reducible refine (KV.out _ (HS.out.up (((Up.refl w).alloc _ _).alloc _ _))).mono ?_); rintro e w1 ⟨rfl, hu⟩; have HU1 := Lib.hid ((((Up.refl w).alloc #[.int .i64 v, .int .i64 q, .int .i64 c, .int .i64 now, .slice A n k] 56).alloc #[.int .i64 0, .int .i64 0, .int .i64 0, .int .i64 0, .slice none 0 0] 56).trans hu); have c00 := hu.keep (w.heap.size) 0 (.int .i64 v) (by simp [go_sem]); have c01 := hu.keep (w.heap.size) 1 (.int .i64 q) (by simp [go_sem]); have c02 := hu.keep (w.heap.size) 2 (.int .i64 c) (by simp [go_sem]); have c03 := hu.keep (w.heap.size) 3 (.int .i64 now) (by simp [go_sem]); have c04 := hu.keep (w.heap.size) 4 (.slice A n k) (by simp [go_sem]); have c10 := hu.keep (w.heap.size + 1) 0 (.int .i64 0) (by simp [go_sem]); have c11 := hu.keep (w.heap.size + 1) 1 (.int .i64 0) (by simp [go_sem]); have c12 := hu.keep (w.heap.size + 1) 2 (.int .i64 0) (by simp [go_sem]); have c13 := hu.keep (w.heap.size + 1) 3 (.int .i64 0) (by simp [go_sem]); have c14 := hu.keep (w.heap.size + 1) 4 (.slice none 0 0) (by simp [go_sem]); have z00 := HU1.out.ownGe (g := w.heap.size) (Nat.le_refl _) 0; have z01 := HU1.out.ownGe (g := w.heap.size) (Nat.le_refl _) 1; have z02 := HU1.out.ownGe (g := w.heap.size) (Nat.le_refl _) 2; have z03 := HU1.out.ownGe (g := w.heap.size) (Nat.le_refl _) 3; have z04 := HU1.out.ownGe (g := w.heap.size) (Nat.le_refl _) 4; have z10 := HU1.out.ownGe (g := w.heap.size + 1) (by omega) 0; have z11 := HU1.out.ownGe (g := w.heap.size + 1) (by omega) 1; have z12 := HU1.out.ownGe (g := w.heap.size + 1) (by omega) 2; have z13 := HU1.out.ownGe (g := w.heap.size + 1) (by omega) 3; have z14 := HU1.out.ownGe (g := w.heap.size + 1) (by omega) 4; have hlt : w.heap.size + 1 < w1.heap.size := World.block_lt_of_cell? _ _ c10; have hlt0 : w.heap.size < w1.heap.size := Nat.lt_of_succ_lt hlt; clear hu)
  have HSS : Hid (Up w w1 ∧ w1.cell? ⟨w.heap.size, 0, none⟩ = some (.int .i64 v) ∧ w1.cell? ⟨w.heap.size, 1, none⟩ = some (.int .i64 q) ∧ w1.cell? ⟨w.heap.size, 2, none⟩ = some (.int .i64 c) ∧ w1.cell? ⟨w.heap.size, 3, none⟩ = some (.int .i64 now) ∧ w1.cell? ⟨w.heap.size, 4, none⟩ = some (.slice A n k) ∧ w1.cell? ⟨w.heap.size + 1, 0, none⟩ = some (.int .i64 0) ∧ w1.cell? ⟨w.heap.size + 1, 1, none⟩ = some (.int .i64 0) ∧ w1.cell? ⟨w.heap.size + 1, 2, none⟩ = some (.int .i64 0) ∧ w1.cell? ⟨w.heap.size + 1, 3, none⟩ = some (.int .i64 0) ∧ w1.cell? ⟨w.heap.size + 1, 4, none⟩ = some (.slice none 0 0)) := Lib.hid ⟨HU1.out, c00, c01, c02, c03, c04, c10, c11, c12, c13, c14⟩
  clear c00 z00 c01 z01 c02 z02 c03 z03 c04 z04 c10 z10 c11 z11 c12 z12 c13 z13 c14 z14 hlt hlt0
  go_region_held3 (fun w' => Up w w' ∧ w'.cell? ⟨w.heap.size, 0, none⟩ = some (.int .i64 v) ∧ w'.cell? ⟨w.heap.size, 1, none⟩ = some (.int .i64 q) ∧ w'.cell? ⟨w.heap.size, 2, none⟩ = some (.int .i64 c) ∧ w'.cell? ⟨w.heap.size, 3, none⟩ = some (.int .i64 now) ∧ w'.cell? ⟨w.heap.size, 4, none⟩ = some (.slice A n k) ∧ w'.cell? ⟨w.heap.size + 1, 0, none⟩ = some (.int .i64 0) ∧ w'.cell? ⟨w.heap.size + 1, 1, none⟩ = some (.int .i64 0) ∧ w'.cell? ⟨w.heap.size + 1, 2, none⟩ = some (.int .i64 0) ∧ w'.cell? ⟨w.heap.size + 1, 3, none⟩ = some (.int .i64 0) ∧ w'.cell? ⟨w.heap.size + 1, 4, none⟩ = some (.slice none 0 0))
    (repeat (first | (with_reducible exact HSS.out) | (with_reducible exact keepQ10 (by assumption) (by assumption)) | (with_reducible exact Hid.out (by assumption)) | (with_reducible refine keepQ10 (Lib.hid (Up.refl _).drew) ?_)))
    (first | (go_at_call 45; (with_reducible refine (KT.out _ (HS.out.up (by assumption : Up w _ ∧ _).1)).mono ?_); rintro e w3 ⟨rfl, hu⟩; have HU3 := Lib.hid hu; have HX3 := Lib.hid (keepQ10 HU3 (by assumption)); clear hu))
  clear ‹Up w _ ∧ _›
  obtain ⟨_, d00, d01, d02, d03, d04, d10, d11, d12, d13, d14⟩ := HX3.out
  have HU3w : Hid (Up w w3) := Lib.hid HX3.out.1
  have y00 := HU3w.out.ownGe (g := w.heap.size) (Nat.le_refl _) 0
  have y10 := HU3w.out.ownGe (g := w.heap.size + 1) (by omega) 0
  have y01 := HU3w.out.ownGe (g := w.heap.size) (Nat.le_refl _) 1
  have y11 := HU3w.out.ownGe (g := w.heap.size + 1) (by omega) 1
  have y02 := HU3w.out.ownGe (g := w.heap.size) (Nat.le_refl _) 2
  have y12 := HU3w.out.ownGe (g := w.heap.size + 1) (by omega) 2
  have y03 := HU3w.out.ownGe (g := w.heap.size) (Nat.le_refl _) 3
  have y13 := HU3w.out.ownGe (g := w.heap.size + 1) (by omega) 3
  have y04 := HU3w.out.ownGe (g := w.heap.size) (Nat.le_refl _) 4
  have y14 := HU3w.out.ownGe (g := w.heap.size + 1) (by omega) 4
  have hlt : w.heap.size + 1 < w3.heap.size := World.block_lt_of_cell? _ _ d10
  have hlt0 : w.heap.size < w3.heap.size := Nat.lt_of_succ_lt hlt
  go_wp2_with (go_at_call 68; (with_reducible refine (KI.out _ (HS.out.up HU3w.out)).mono ?_); rintro e w4 ⟨A4, n4, k4, rfl, hn4, hM, hu⟩; have HM := Lib.hid hM; have HU4 := Lib.hid (HU3w.out.trans hu); have e00 := hu.keep _ _ _ d00; have e10 := hu.keep _ _ _ d10; have e01 := hu.keep _ _ _ d01; have e11 := hu.keep _ _ _ d11; have e02 := hu.keep _ _ _ d02; have e12 := hu.keep _ _ _ d12; have e03 := hu.keep _ _ _ d03; have e13 := hu.keep _ _ _ d13; have e04 := hu.keep _ _ _ d04; have e14 := hu.keep _ _ _ d14; have x00 := HU4.out.ownGe (g := w.heap.size) (Nat.le_refl _) 0; have x10 := HU4.out.ownGe (g := w.heap.size + 1) (by omega) 0; have x01 := HU4.out.ownGe (g := w.heap.size) (Nat.le_refl _) 1; have x11 := HU4.out.ownGe (g := w.heap.size + 1) (by omega) 1; have x02 := HU4.out.ownGe (g := w.heap.size) (Nat.le_refl _) 2; have x12 := HU4.out.ownGe (g := w.heap.size + 1) (by omega) 2; have x03 := HU4.out.ownGe (g := w.heap.size) (Nat.le_refl _) 3; have x13 := HU4.out.ownGe (g := w.heap.size + 1) (by omega) 3; have x04 := HU4.out.ownGe (g := w.heap.size) (Nat.le_refl _) 4; have x14 := HU4.out.ownGe (g := w.heap.size + 1) (by omega) 4; have hlt4 : w.heap.size + 1 < w4.heap.size := World.block_lt_of_cell? _ _ e10; clear hu hM)
  refine bodyPost_ret (v := .tuple #[.agg #[.int .i64 v, .int .i64 q, .int .i64 c, .int .i64 now, .slice A4 n4 k4], .int .i64 0]) (by simp [results, Try.results33, go_sem, e10, e11, e12, e13, e14]) rfl ⟨A4, n4, k4, rfl, hn4, HM.out.at_.1, HM.out.nw.up HU3w.out, ?_, ?_⟩
  · exact (HM.out.at_.2.off (HM.out.nw.off hlt0) _).off5 (HM.out.nw.off hlt) _ _ _ _ _
  · exact (HU4.out.setCell (Nat.le_refl _) _).set5 (by omega)

end Go.Proofs.Ytfdjhahnggdklaa
