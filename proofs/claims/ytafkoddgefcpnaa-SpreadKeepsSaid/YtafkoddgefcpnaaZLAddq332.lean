/- Texts of these claims, one after the other. -/
import Derived.Test.YtafkoddgefcpnaaRows
import Derived.Test.YtafkoddgefcpnaaZLAdvq331
namespace Go.Proofs.Ytafkoddgefcpnaa
open Go.RowKit
set_option linter.unusedVariables false

theorem set7L6 {w w1 : World} {p pa : Nat} {x0 x1 x2 x3 x4 x5 v0 v1 v2 v3 v4 v5 v6 : Value} (h : Up w w1 ∧ w1.cell? ⟨pa, 0, none⟩ = some x0 ∧ w1.cell? ⟨pa, 1, none⟩ = some x1 ∧ w1.cell? ⟨pa, 2, none⟩ = some x2 ∧ w1.cell? ⟨pa, 3, none⟩ = some x3 ∧ w1.cell? ⟨pa, 4, none⟩ = some x4 ∧ w1.cell? ⟨pa, 5, none⟩ = some x5) (hp : w.heap.size ≤ p) (ha : p ≠ pa) : Up w (((((((w1.setCell ⟨p, 0, none⟩ (v0)).setCell ⟨p, 1, none⟩ (v1)).setCell ⟨p, 2, none⟩ (v2)).setCell ⟨p, 3, none⟩ (v3)).setCell ⟨p, 4, none⟩ (v4)).setCell ⟨p, 5, none⟩ (v5)).setCell ⟨p, 6, none⟩ (v6)) ∧ (((((((w1.setCell ⟨p, 0, none⟩ (v0)).setCell ⟨p, 1, none⟩ (v1)).setCell ⟨p, 2, none⟩ (v2)).setCell ⟨p, 3, none⟩ (v3)).setCell ⟨p, 4, none⟩ (v4)).setCell ⟨p, 5, none⟩ (v5)).setCell ⟨p, 6, none⟩ (v6)).cell? ⟨pa, 0, none⟩ = some x0 ∧ (((((((w1.setCell ⟨p, 0, none⟩ (v0)).setCell ⟨p, 1, none⟩ (v1)).setCell ⟨p, 2, none⟩ (v2)).setCell ⟨p, 3, none⟩ (v3)).setCell ⟨p, 4, none⟩ (v4)).setCell ⟨p, 5, none⟩ (v5)).setCell ⟨p, 6, none⟩ (v6)).cell? ⟨pa, 1, none⟩ = some x1 ∧ (((((((w1.setCell ⟨p, 0, none⟩ (v0)).setCell ⟨p, 1, none⟩ (v1)).setCell ⟨p, 2, none⟩ (v2)).setCell ⟨p, 3, none⟩ (v3)).setCell ⟨p, 4, none⟩ (v4)).setCell ⟨p, 5, none⟩ (v5)).setCell ⟨p, 6, none⟩ (v6)).cell? ⟨pa, 2, none⟩ = some x2 ∧ (((((((w1.setCell ⟨p, 0, none⟩ (v0)).setCell ⟨p, 1, none⟩ (v1)).setCell ⟨p, 2, none⟩ (v2)).setCell ⟨p, 3, none⟩ (v3)).setCell ⟨p, 4, none⟩ (v4)).setCell ⟨p, 5, none⟩ (v5)).setCell ⟨p, 6, none⟩ (v6)).cell? ⟨pa, 3, none⟩ = some x3 ∧ (((((((w1.setCell ⟨p, 0, none⟩ (v0)).setCell ⟨p, 1, none⟩ (v1)).setCell ⟨p, 2, none⟩ (v2)).setCell ⟨p, 3, none⟩ (v3)).setCell ⟨p, 4, none⟩ (v4)).setCell ⟨p, 5, none⟩ (v5)).setCell ⟨p, 6, none⟩ (v6)).cell? ⟨pa, 4, none⟩ = some x4 ∧ (((((((w1.setCell ⟨p, 0, none⟩ (v0)).setCell ⟨p, 1, none⟩ (v1)).setCell ⟨p, 2, none⟩ (v2)).setCell ⟨p, 3, none⟩ (v3)).setCell ⟨p, 4, none⟩ (v4)).setCell ⟨p, 5, none⟩ (v5)).setCell ⟨p, 6, none⟩ (v6)).cell? ⟨pa, 5, none⟩ = some x5 :=
  ⟨h.1.set7 hp, far7 h.2.1 ha, far7 h.2.2.1 ha, far7 h.2.2.2.1 ha, far7 h.2.2.2.2.1 ha, far7 h.2.2.2.2.2.1 ha, far7 h.2.2.2.2.2.2 ha⟩
set_option maxHeartbeats 4000000 in
set_option maxRecDepth 100000 in
theorem add14_full (v q c now seq d : Int) (n k : Nat) (A : Option Addr) (X : List Mrk) (hn : n ≤ 50000) (hk : n ≤ k) (hv : stP v q c now seq X = true) (hd : valG 4 d) (hf : fuM c seq X = true) (w : World) (hS : SG cM w A n X) :
    Calls Try.prog 53 #[.agg #[.int .i64 v, .int .i64 q, .int .i64 c, .int .i64 now, .int .i64 seq, .slice A n k], .int .i64 d] w fun e w' => e = .returned (.tuple #[.agg #[.int .i64 0, .int .i64 0, .int .i64 0, .int .i64 0, .int .i64 0, .slice none 0 0], .int .i64 5]) ∧ Up w w' := by
  have KV := Lib.hid (fun W (h : SG cM W A n X) => validate14_up v q c now seq n k A X hn W h)
  rw [stPE_yes hv] at KV
  have HS := Lib.hid hS
  have KT := Lib.hid (toSmooth_up v q c now seq n k A)
  have KN := Lib.hid (closeness_up q)
  have KA := Lib.hid (fun (b1 : Nat) W (hu : Up w W) (hb : W.cell? ⟨b1, 0, none⟩ = some (.int .i64 q)) => maddS_full b1 4 v q c now seq d n k A X hn (by omega) hd hf W (hS.up hu))
  have KF := Lib.hid (fromSmooth_up 0 0 0 0 0 0 0 0 none)
  clear hS hv hd hf
  go_enter Try.func53, Try.ntmps53
  go_upto_region 4 with (go_at_call 51; (with_reducible refine (KV.out _ (HS.out.up (((Up.refl w).alloc _ _).alloc _ _))).mono ?_); rintro e w1 ⟨rfl, hu⟩; have hv := (((Up.refl w).alloc #[.int .i64 v, .int .i64 q, .int .i64 c, .int .i64 now, .int .i64 seq, .slice A n k] 61).alloc #[.int .i64 0, .int .i64 0, .int .i64 0, .int .i64 0, .int .i64 0, .slice none 0 0] 61).trans hu; have HV1 := Lib.hid hv; have HU1 := Lib.hid ((Up.refl w).trans hv); have a_1_0 := hu.keep (w.heap.size) 0 (.int .i64 v) (by simp [go_sem]); have a_1_1 := hu.keep (w.heap.size) 1 (.int .i64 q) (by simp [go_sem]); have a_1_2 := hu.keep (w.heap.size) 2 (.int .i64 c) (by simp [go_sem]); have a_1_3 := hu.keep (w.heap.size) 3 (.int .i64 now) (by simp [go_sem]); have a_1_4 := hu.keep (w.heap.size) 4 (.int .i64 seq) (by simp [go_sem]); have a_1_5 := hu.keep (w.heap.size) 5 (.slice A n k) (by simp [go_sem]); have r_1_0 := hu.keep (w.heap.size + 1) 0 (.int .i64 0) (by simp [go_sem]); have r_1_1 := hu.keep (w.heap.size + 1) 1 (.int .i64 0) (by simp [go_sem]); have r_1_2 := hu.keep (w.heap.size + 1) 2 (.int .i64 0) (by simp [go_sem]); have r_1_3 := hu.keep (w.heap.size + 1) 3 (.int .i64 0) (by simp [go_sem]); have r_1_4 := hu.keep (w.heap.size + 1) 4 (.int .i64 0) (by simp [go_sem]); have r_1_5 := hu.keep (w.heap.size + 1) 5 (.slice none 0 0) (by simp [go_sem]); have la1 := World.block_lt_of_cell? _ _ a_1_0; have lr1 := World.block_lt_of_cell? _ _ r_1_0; clear hu hv )
  have HSS : Hid (Up w w1 ∧ w1.cell? ⟨w.heap.size, 0, none⟩ = some (.int .i64 v) ∧ w1.cell? ⟨w.heap.size, 1, none⟩ = some (.int .i64 q) ∧ w1.cell? ⟨w.heap.size, 2, none⟩ = some (.int .i64 c) ∧ w1.cell? ⟨w.heap.size, 3, none⟩ = some (.int .i64 now) ∧ w1.cell? ⟨w.heap.size, 4, none⟩ = some (.int .i64 seq) ∧ w1.cell? ⟨w.heap.size, 5, none⟩ = some (.slice A n k)) := Lib.hid ⟨HU1.out, a_1_0, a_1_1, a_1_2, a_1_3, a_1_4, a_1_5⟩
  have HW := Lib.hid HU1.out.drew
  clear a_1_0 a_1_1 a_1_2 a_1_3 a_1_4 a_1_5
  go_wp2_with fail
  refine wp_region_held_drew (S := fun w' => Up w w' ∧ w'.cell? ⟨w.heap.size, 0, none⟩ = some (.int .i64 v) ∧ w'.cell? ⟨w.heap.size, 1, none⟩ = some (.int .i64 q) ∧ w'.cell? ⟨w.heap.size, 2, none⟩ = some (.int .i64 c) ∧ w'.cell? ⟨w.heap.size, 3, none⟩ = some (.int .i64 now) ∧ w'.cell? ⟨w.heap.size, 4, none⟩ = some (.int .i64 seq) ∧ w'.cell? ⟨w.heap.size, 5, none⟩ = some (.slice A n k)) (by kernel_rfl) ?hB39 (fun hHeld => ?_)
  case hB39 => (with_reducible exact keepL6 (Lib.hid (Up.refl _).drew) HSS.out)
  refine wpAnyH_take (i := 0) (oi := ⟨_, _, _, _, _, _⟩) (v := ?v40) rfl (by kernel_rfl) (by kernel_rfl) (by kernel_rfl) (fun _ _ _ h => h) (Or.inl ⟨by rfl, ?hy40⟩) (by assumption) ?_
  case hy40 => (intro w hSw; (try dsimp only at hSw); go_simp; (try (with_reducible rfl)))
  (try simp only [Act.put, List.setIfInBounds_toArray, List.set_cons_zero, List.set_cons_succ])
  refine wpAnyH_take (i := 2) (oi := ⟨_, _, _, _, _, _⟩) (v := ?v41) rfl (by kernel_rfl) (by kernel_rfl) (by kernel_rfl) (fun _ _ _ h => h) (Or.inl ⟨by rfl, ?hy41⟩) (by assumption) ?_
  case hy41 => (intro w hSw; (try dsimp only at hSw); go_simp; (try (with_reducible rfl)))
  (try simp only [Act.put, List.setIfInBounds_toArray, List.set_cons_zero, List.set_cons_succ])
  refine wpAnyH_take (i := 3) (oi := ⟨_, _, _, _, _, _⟩) (v := ?v42) rfl (by kernel_rfl) (by kernel_rfl) (by kernel_rfl) (fun _ _ _ h => h) (Or.inl ⟨by rfl, ?hy42⟩) (by assumption) ?_
  case hy42 => (intro w hSw; (try dsimp only at hSw); go_simp; (try (with_reducible rfl)))
  (try simp only [Act.put, List.setIfInBounds_toArray, List.set_cons_zero, List.set_cons_succ])
  refine wpAnyH_take (i := 4) (oi := ⟨_, _, _, _, _, _⟩) (v := ?v43) rfl (by kernel_rfl) (by kernel_rfl) (by kernel_rfl) (fun _ _ _ h => h) (Or.inl ⟨by rfl, ?hy43⟩) (by assumption) ?_
  case hy43 => (intro w hSw; (try dsimp only at hSw); go_simp; (try (with_reducible rfl)))
  (try simp only [Act.put, List.setIfInBounds_toArray, List.set_cons_zero, List.set_cons_succ])
  refine wpAnyH_ready (rs := [1, 10]) (by kernel_rfl) (by simp) ?_
  refine AllReadyH.cons (o := ⟨_, _, _, _, _, _⟩) rfl (fun K hK => ?_) (AllReadyH.cons (o := ⟨_, _, _, _, _, _⟩) rfl (fun K hK => ?_) (AllReadyH.nil))
  · go_simp
    (go_at_call 101; (with_reducible refine (KT.out _).mono ?_); rintro e w2 ⟨rfl, hu⟩; have HW := Lib.hid (HW.out.trans hu); have HX := Lib.hid (keepL6 (Lib.hid hu) hHeld); have r_1_0 := hu.keep _ _ _ r_1_0; have r_1_1 := hu.keep _ _ _ r_1_1; have r_1_2 := hu.keep _ _ _ r_1_2; have r_1_3 := hu.keep _ _ _ r_1_3; have r_1_4 := hu.keep _ _ _ r_1_4; have r_1_5 := hu.keep _ _ _ r_1_5; clear hu)
    (try go_wp2_with fail)
    refine hK.out _ _ ?hB44 (fun hHeld => ?_)
    case hB44 => (with_reducible exact HX.out)
    clear hK K
    (try simp only [Act.put, List.setIfInBounds_toArray, List.set_cons_zero, List.set_cons_succ])
    refine wpAnyH_ready (rs := [5, 10]) (by kernel_rfl) (by simp) ?_
    refine AllReadyH.cons (o := ⟨_, _, _, _, _, _⟩) rfl (fun K hK => ?_) (AllReadyH.cons (o := ⟨_, _, _, _, _, _⟩) rfl (fun K hK => ?_) (AllReadyH.nil))
    · go_simp
      (go_at_call 102; (with_reducible refine (KN.out _).mono ?_); rintro e w3 ⟨xb, rfl, hu, cb⟩; have HW := Lib.hid (HW.out.trans hu); have HX := Lib.hid (keepL6 (Lib.hid hu) hHeld); have r_1_0 := hu.keep _ _ _ r_1_0; have r_1_1 := hu.keep _ _ _ r_1_1; have r_1_2 := hu.keep _ _ _ r_1_2; have r_1_3 := hu.keep _ _ _ r_1_3; have r_1_4 := hu.keep _ _ _ r_1_4; have r_1_5 := hu.keep _ _ _ r_1_5; have CB := Lib.hid cb; clear cb; clear hu)
      (try go_wp2_with fail)
      refine hK.out _ _ ?hB45 (fun hHeld => ?_)
      case hB45 => (with_reducible exact HX.out)
      clear hK K
      (try simp only [Act.put, List.setIfInBounds_toArray, List.set_cons_zero, List.set_cons_succ])
      refine wpAnyH_ready (rs := [6, 10]) (by kernel_rfl) (by simp) ?_
      refine AllReadyH.cons (o := ⟨_, _, _, _, _, _⟩) rfl (fun K hK => ?_) (AllReadyH.cons (o := ⟨_, _, _, _, _, _⟩) rfl (fun K hK => ?_) (AllReadyH.nil))
      · go_simp
        (go_at_call 72; (with_reducible refine (KA.out xb _ hHeld.1 CB.out).mono ?_); have hlr_ := World.block_lt_of_cell? _ _ r_1_0; have hsz_ := hHeld.1.size; rintro e w4 ⟨rfl, hu⟩; have HW := Lib.hid (HW.out.trans hu); have HX := Lib.hid (keepL6 (Lib.hid hu) hHeld); have r_1_0 := hu.keep _ _ _ r_1_0; have r_1_1 := hu.keep _ _ _ r_1_1; have r_1_2 := hu.keep _ _ _ r_1_2; have r_1_3 := hu.keep _ _ _ r_1_3; have r_1_4 := hu.keep _ _ _ r_1_4; have r_1_5 := hu.keep _ _ _ r_1_5; clear hu)
        (try go_wp2_with fail)
        refine hK.out _ _ ?hB46 (fun hHeld => ?_)
        case hB46 => (with_reducible exact HX.out)
        clear hK K
        (try simp only [Act.put, List.setIfInBounds_toArray, List.set_cons_zero, List.set_cons_succ])
        refine wpAnyH_take (i := 7) (oi := ⟨_, _, _, _, _, _⟩) (v := ?v47) rfl (by kernel_rfl) (by kernel_rfl) (by kernel_rfl) (fun _ _ _ h => h) (Or.inl ⟨by rfl, ?hy47⟩) (by assumption) ?_
        case hy47 => (intro w hSw; (try dsimp only at hSw); go_simp; (try (with_reducible rfl)))
        (try simp only [Act.put, List.setIfInBounds_toArray, List.set_cons_zero, List.set_cons_succ])
        refine wpAnyH_take (i := 8) (oi := ⟨_, _, _, _, _, _⟩) (v := ?v48) rfl (by kernel_rfl) (by kernel_rfl) (by kernel_rfl) (fun _ _ _ h => h) (Or.inl ⟨by rfl, ?hy48⟩) (by assumption) ?_
        case hy48 => (intro w hSw; (try dsimp only at hSw); go_simp; (try (with_reducible rfl)))
        (try simp only [Act.put, List.setIfInBounds_toArray, List.set_cons_zero, List.set_cons_succ])
        refine wpAnyH_take (i := 9) (oi := ⟨_, _, _, _, _, _⟩) (v := ?v49) rfl (by kernel_rfl) (by kernel_rfl) (by kernel_rfl) (fun _ _ _ h => h) (Or.inl ⟨by rfl, ?hy49⟩) (by assumption) ?_
        case hy49 => (intro w hSw; (try dsimp only at hSw); go_simp; (try (with_reducible rfl)))
        (try simp only [Act.put, List.setIfInBounds_toArray, List.set_cons_zero, List.set_cons_succ])
        refine wpAnyH_ready (rs := [10]) (by kernel_rfl) (by simp) ?_
        refine AllReadyH.cons (o := ⟨_, _, _, _, _, _⟩) rfl (fun K hK => ?_) (AllReadyH.nil)
        go_simp
        refine hK.out _ _ ?hB50 (fun hHeld => ?_)
        case hB50 => (with_reducible exact keepL6 (Lib.hid ((Up.refl _).alloc _ _)) HX.out)
        clear hK K
        (try simp only [Act.put, List.setIfInBounds_toArray, List.set_cons_zero, List.set_cons_succ])
        refine wpAnyH_ready (rs := [11]) (by kernel_rfl) (by simp) ?_
        refine AllReadyH.cons (o := ⟨_, _, _, _, _, _⟩) rfl (fun K hK => ?_) (AllReadyH.nil)
        go_simp
        refine hK.out _ _ ?hB51 (fun hHeld => ?_)
        case hB51 => (with_reducible exact keepL6 (Lib.hid ((Up.refl _).alloc _ _)) HX.out)
        clear hK K
        (try simp only [Act.put, List.setIfInBounds_toArray, List.set_cons_zero, List.set_cons_succ])
        refine wpAnyH_take (i := 12) (oi := ⟨_, _, _, _, _, _⟩) (v := ?v52) rfl (by kernel_rfl) (by kernel_rfl) (by kernel_rfl) (fun _ _ _ h => h) (Or.inl ⟨by rfl, ?hy52⟩) (by assumption) ?_
        case hy52 => (intro w hSw; (try dsimp only at hSw); go_simp; (try (with_reducible rfl)))
        (try simp only [Act.put, List.setIfInBounds_toArray, List.set_cons_zero, List.set_cons_succ])
        refine wpAnyH_done (by kernel_rfl) ?_ _
        have hlt_ : w.heap.size + 1 < w4.heap.size := World.block_lt_of_cell? _ _ r_1_0
        obtain ⟨wa, hwa⟩ : ∃ z, z = w4.alloc (.cells #[.int .i64 0, .int .i64 0, .int .i64 0, .int .i64 0, .int .i64 0, .int .i64 0, .slice none 0 0] 26) := ⟨_, rfl⟩
        rw [← hwa]
        have hv : Up w4 wa := by rw [hwa]; exact (Up.refl _).alloc _ _
        have g0 : wa.cell? ⟨w4.heap.size, 0, none⟩ = some (.int .i64 0) := by rw [hwa]; simp [go_sem]
        have g1 : wa.cell? ⟨w4.heap.size, 1, none⟩ = some (.int .i64 0) := by rw [hwa]; simp [go_sem]
        have g2 : wa.cell? ⟨w4.heap.size, 2, none⟩ = some (.int .i64 0) := by rw [hwa]; simp [go_sem]
        have g3 : wa.cell? ⟨w4.heap.size, 3, none⟩ = some (.int .i64 0) := by rw [hwa]; simp [go_sem]
        have g4 : wa.cell? ⟨w4.heap.size, 4, none⟩ = some (.int .i64 0) := by rw [hwa]; simp [go_sem]
        have g5 : wa.cell? ⟨w4.heap.size, 5, none⟩ = some (.int .i64 0) := by rw [hwa]; simp [go_sem]
        have g6 : wa.cell? ⟨w4.heap.size, 6, none⟩ = some (.slice none 0 0) := by rw [hwa]; simp [go_sem]
        have r_1_0 := hv.keep _ _ _ r_1_0
        have r_1_1 := hv.keep _ _ _ r_1_1
        have r_1_2 := hv.keep _ _ _ r_1_2
        have r_1_3 := hv.keep _ _ _ r_1_3
        have r_1_4 := hv.keep _ _ _ r_1_4
        have r_1_5 := hv.keep _ _ _ r_1_5
        have HW := Lib.hid (HW.out.trans hv)
        clear hwa hv HX HSS hHeld
        have hlra := World.block_lt_of_cell? _ _ r_1_0
        go_wp2_with (go_at_call 90; (with_reducible refine (KF.out _).mono ?_); rintro e w5 ⟨rfl, hu⟩; have HW := Lib.hid (HW.out.trans hu); have r_1_0 := hu.keep _ _ _ r_1_0; have r_1_1 := hu.keep _ _ _ r_1_1; have r_1_2 := hu.keep _ _ _ r_1_2; have r_1_3 := hu.keep _ _ _ r_1_3; have r_1_4 := hu.keep _ _ _ r_1_4; have r_1_5 := hu.keep _ _ _ r_1_5; have z0 := HW.out.ownGe (g := w.heap.size + 1) (by omega) 0; have z1 := HW.out.ownGe (g := w.heap.size + 1) (by omega) 1; have z2 := HW.out.ownGe (g := w.heap.size + 1) (by omega) 2; have z3 := HW.out.ownGe (g := w.heap.size + 1) (by omega) 3; have z4 := HW.out.ownGe (g := w.heap.size + 1) (by omega) 4; have z5 := HW.out.ownGe (g := w.heap.size + 1) (by omega) 5; clear hu)
        refine bodyPost_ret (v := .tuple #[.agg #[.int .i64 0, .int .i64 0, .int .i64 0, .int .i64 0, .int .i64 0, .slice none 0 0], .int .i64 5]) (by simp [results, Try.results53, go_sem, r_1_0, r_1_1, r_1_2, r_1_3, r_1_4, r_1_5]) rfl ⟨rfl, ?_⟩
        exact HW.out.setP6 (by omega)
      · have hlt_ : w.heap.size + 1 < w3.heap.size := World.block_lt_of_cell? _ _ r_1_0
        have g0 : (w3.alloc (.cells #[.int .i64 0, .int .i64 0, .int .i64 0, .int .i64 0, .int .i64 0, .int .i64 0, .slice none 0 0] 26)).cell? ⟨w3.heap.size, 0, none⟩ = some (.int .i64 0) := by simp [go_sem]
        have g1 : (w3.alloc (.cells #[.int .i64 0, .int .i64 0, .int .i64 0, .int .i64 0, .int .i64 0, .int .i64 0, .slice none 0 0] 26)).cell? ⟨w3.heap.size, 1, none⟩ = some (.int .i64 0) := by simp [go_sem]
        have g2 : (w3.alloc (.cells #[.int .i64 0, .int .i64 0, .int .i64 0, .int .i64 0, .int .i64 0, .int .i64 0, .slice none 0 0] 26)).cell? ⟨w3.heap.size, 2, none⟩ = some (.int .i64 0) := by simp [go_sem]
        have g3 : (w3.alloc (.cells #[.int .i64 0, .int .i64 0, .int .i64 0, .int .i64 0, .int .i64 0, .int .i64 0, .slice none 0 0] 26)).cell? ⟨w3.heap.size, 3, none⟩ = some (.int .i64 0) := by simp [go_sem]
        have g4 : (w3.alloc (.cells #[.int .i64 0, .int .i64 0, .int .i64 0, .int .i64 0, .int .i64 0, .int .i64 0, .slice none 0 0] 26)).cell? ⟨w3.heap.size, 4, none⟩ = some (.int .i64 0) := by simp [go_sem]
        have g5 : (w3.alloc (.cells #[.int .i64 0, .int .i64 0, .int .i64 0, .int .i64 0, .int .i64 0, .int .i64 0, .slice none 0 0] 26)).cell? ⟨w3.heap.size, 5, none⟩ = some (.int .i64 0) := by simp [go_sem]
        have g6 : (w3.alloc (.cells #[.int .i64 0, .int .i64 0, .int .i64 0, .int .i64 0, .int .i64 0, .int .i64 0, .slice none 0 0] 26)).cell? ⟨w3.heap.size, 6, none⟩ = some (.slice none 0 0) := by simp [go_sem]
        have r_1_0 := ((Up.refl w3).alloc #[.int .i64 0, .int .i64 0, .int .i64 0, .int .i64 0, .int .i64 0, .int .i64 0, .slice none 0 0] 26).keep _ _ _ r_1_0
        have r_1_1 := ((Up.refl w3).alloc #[.int .i64 0, .int .i64 0, .int .i64 0, .int .i64 0, .int .i64 0, .int .i64 0, .slice none 0 0] 26).keep _ _ _ r_1_1
        have r_1_2 := ((Up.refl w3).alloc #[.int .i64 0, .int .i64 0, .int .i64 0, .int .i64 0, .int .i64 0, .int .i64 0, .slice none 0 0] 26).keep _ _ _ r_1_2
        have r_1_3 := ((Up.refl w3).alloc #[.int .i64 0, .int .i64 0, .int .i64 0, .int .i64 0, .int .i64 0, .int .i64 0, .slice none 0 0] 26).keep _ _ _ r_1_3
        have r_1_4 := ((Up.refl w3).alloc #[.int .i64 0, .int .i64 0, .int .i64 0, .int .i64 0, .int .i64 0, .int .i64 0, .slice none 0 0] 26).keep _ _ _ r_1_4
        have r_1_5 := ((Up.refl w3).alloc #[.int .i64 0, .int .i64 0, .int .i64 0, .int .i64 0, .int .i64 0, .int .i64 0, .slice none 0 0] 26).keep _ _ _ r_1_5
        have HW := Lib.hid (HW.out.alloc #[.int .i64 0, .int .i64 0, .int .i64 0, .int .i64 0, .int .i64 0, .int .i64 0, .slice none 0 0] 26)
        have CB := Lib.hid (((Up.refl w3).alloc #[.int .i64 0, .int .i64 0, .int .i64 0, .int .i64 0, .int .i64 0, .int .i64 0, .slice none 0 0] 26).keep _ _ _ CB.out)
        go_simp
        refine hK.out _ _ ?hB53 (fun hHeld => ?_)
        case hB53 => (with_reducible exact keepL6 (Lib.hid ((Up.refl _).alloc _ _)) hHeld)
        clear hK K
        (try simp only [Act.put, List.setIfInBounds_toArray, List.set_cons_zero, List.set_cons_succ])
        refine wpAnyH_ready (rs := [6]) (by kernel_rfl) (by simp) ?_
        refine AllReadyH.cons (o := ⟨_, _, _, _, _, _⟩) rfl (fun K hK => ?_) (AllReadyH.nil)
        go_simp
        (go_at_call 72; (with_reducible refine (KA.out xb _ hHeld.1 CB.out).mono ?_); have hlr_ := World.block_lt_of_cell? _ _ r_1_0; have hsz_ := hHeld.1.size; have htb_ := World.block_lt_of_cell? _ _ g0; rintro e w4 ⟨rfl, hu⟩; have HW := Lib.hid (HW.out.trans hu); have HX := Lib.hid (keepL6 (Lib.hid hu) hHeld); have r_1_0 := hu.keep _ _ _ r_1_0; have r_1_1 := hu.keep _ _ _ r_1_1; have r_1_2 := hu.keep _ _ _ r_1_2; have r_1_3 := hu.keep _ _ _ r_1_3; have r_1_4 := hu.keep _ _ _ r_1_4; have r_1_5 := hu.keep _ _ _ r_1_5; have g0 := hu.keep _ _ _ g0; have g1 := hu.keep _ _ _ g1; have g2 := hu.keep _ _ _ g2; have g3 := hu.keep _ _ _ g3; have g4 := hu.keep _ _ _ g4; have g5 := hu.keep _ _ _ g5; have g6 := hu.keep _ _ _ g6; have fz0 := HW.out.ownGe (g := w3.heap.size) (by omega) 0; have fz1 := HW.out.ownGe (g := w3.heap.size) (by omega) 1; have fz2 := HW.out.ownGe (g := w3.heap.size) (by omega) 2; have fz3 := HW.out.ownGe (g := w3.heap.size) (by omega) 3; have fz4 := HW.out.ownGe (g := w3.heap.size) (by omega) 4; have fz5 := HW.out.ownGe (g := w3.heap.size) (by omega) 5; have fz6 := HW.out.ownGe (g := w3.heap.size) (by omega) 6; clear hu)
        (try go_wp2_with fail)
        refine hK.out _ _ ?hB54 (fun hHeld => ?_)
        case hB54 => (with_reducible exact HX.out)
        clear hK K
        (try simp only [Act.put, List.setIfInBounds_toArray, List.set_cons_zero, List.set_cons_succ])
        refine wpAnyH_take (i := 7) (oi := ⟨_, _, _, _, _, _⟩) (v := ?v55) rfl (by kernel_rfl) (by kernel_rfl) (by kernel_rfl) (fun _ _ _ h => h) (Or.inl ⟨by rfl, ?hy55⟩) (by assumption) ?_
        case hy55 => (intro w hSw; (try dsimp only at hSw); go_simp; (try (with_reducible rfl)))
        (try simp only [Act.put, List.setIfInBounds_toArray, List.set_cons_zero, List.set_cons_succ])
        refine wpAnyH_take (i := 8) (oi := ⟨_, _, _, _, _, _⟩) (v := ?v56) rfl (by kernel_rfl) (by kernel_rfl) (by kernel_rfl) (fun _ _ _ h => h) (Or.inl ⟨by rfl, ?hy56⟩) (by assumption) ?_
        case hy56 => (intro w hSw; (try dsimp only at hSw); go_simp; (try (with_reducible rfl)))
        (try simp only [Act.put, List.setIfInBounds_toArray, List.set_cons_zero, List.set_cons_succ])
        refine wpAnyH_take (i := 9) (oi := ⟨_, _, _, _, _, _⟩) (v := ?v57) rfl (by kernel_rfl) (by kernel_rfl) (by kernel_rfl) (fun _ _ _ h => h) (Or.inl ⟨by rfl, ?hy57⟩) (by assumption) ?_
        case hy57 => (intro w hSw; (try dsimp only at hSw); go_simp; (try (with_reducible rfl)))
        (try simp only [Act.put, List.setIfInBounds_toArray, List.set_cons_zero, List.set_cons_succ])
        refine wpAnyH_ready (rs := [11]) (by kernel_rfl) (by simp) ?_
        refine AllReadyH.cons (o := ⟨_, _, _, _, _, _⟩) rfl (fun K hK => ?_) (AllReadyH.nil)
        go_simp
        refine hK.out _ _ ?hB58 (fun hHeld => ?_)
        case hB58 => (with_reducible exact set7L6 hHeld (by omega) (by omega))
        clear hK K
        (try simp only [Act.put, List.setIfInBounds_toArray, List.set_cons_zero, List.set_cons_succ])
        refine wpAnyH_take (i := 12) (oi := ⟨_, _, _, _, _, _⟩) (v := ?v59) rfl (by kernel_rfl) (by kernel_rfl) (by kernel_rfl) (fun _ _ _ h => h) (Or.inl ⟨by rfl, ?hy59⟩) (by assumption) ?_
        case hy59 => (intro w hSw; (try dsimp only at hSw); go_simp; (try (with_reducible rfl)))
        (try simp only [Act.put, List.setIfInBounds_toArray, List.set_cons_zero, List.set_cons_succ])
        refine wpAnyH_done (by kernel_rfl) ?_ _
        obtain ⟨wa, hwa⟩ : ∃ z, z = ((((((w4.setCell ⟨w3.heap.size, 0, none⟩ (.int .i64 0)).setCell ⟨w3.heap.size, 1, none⟩ (.int .i64 0)).setCell ⟨w3.heap.size, 2, none⟩ (.int .i64 0)).setCell ⟨w3.heap.size, 3, none⟩ (.int .i64 0)).setCell ⟨w3.heap.size, 4, none⟩ (.int .i64 0)).setCell ⟨w3.heap.size, 5, none⟩ (.int .i64 0)).setCell ⟨w3.heap.size, 6, none⟩ (.slice none 0 0) := ⟨_, rfl⟩
        rw [← hwa]
        obtain ⟨g0_, g1_, g2_, g3_, g4_, g5_, g6_⟩ := cells7 (w := w4) (p := w3.heap.size) (v0 := .int .i64 0) (v1 := .int .i64 0) (v2 := .int .i64 0) (v3 := .int .i64 0) (v4 := .int .i64 0) (v5 := .int .i64 0) (v6 := .slice none 0 0) g0 g1 g2 g3 g4 g5 g6
        rw [← hwa] at g0_ g1_ g2_ g3_ g4_ g5_ g6_
        have r_1_0_ : wa.cell? ⟨w.heap.size + 1, 0, none⟩ = some (.int .i64 0) := by rw [hwa]; exact far7 (w := w4) r_1_0 (by omega)
        have r_1_1_ : wa.cell? ⟨w.heap.size + 1, 1, none⟩ = some (.int .i64 0) := by rw [hwa]; exact far7 (w := w4) r_1_1 (by omega)
        have r_1_2_ : wa.cell? ⟨w.heap.size + 1, 2, none⟩ = some (.int .i64 0) := by rw [hwa]; exact far7 (w := w4) r_1_2 (by omega)
        have r_1_3_ : wa.cell? ⟨w.heap.size + 1, 3, none⟩ = some (.int .i64 0) := by rw [hwa]; exact far7 (w := w4) r_1_3 (by omega)
        have r_1_4_ : wa.cell? ⟨w.heap.size + 1, 4, none⟩ = some (.int .i64 0) := by rw [hwa]; exact far7 (w := w4) r_1_4 (by omega)
        have r_1_5_ : wa.cell? ⟨w.heap.size + 1, 5, none⟩ = some (.slice none 0 0) := by rw [hwa]; exact far7 (w := w4) r_1_5 (by omega)
        have HW := Lib.hid (show Up w wa by rw [hwa]; exact HW.out.set7 (by omega))
        clear hwa HX HSS hHeld fz0 fz1 fz2 fz3 fz4 fz5 fz6 g0 g1 g2 g3 g4 g5 g6 r_1_0 r_1_1 r_1_2 r_1_3 r_1_4 r_1_5
        have g0 := g0_
        have g1 := g1_
        have g2 := g2_
        have g3 := g3_
        have g4 := g4_
        have g5 := g5_
        have g6 := g6_
        have r_1_0 := r_1_0_
        have r_1_1 := r_1_1_
        have r_1_2 := r_1_2_
        have r_1_3 := r_1_3_
        have r_1_4 := r_1_4_
        have r_1_5 := r_1_5_
        have hlra := World.block_lt_of_cell? _ _ r_1_0
        go_wp2_with (go_at_call 90; (with_reducible refine (KF.out _).mono ?_); rintro e w5 ⟨rfl, hu⟩; have HW := Lib.hid (HW.out.trans hu); have r_1_0 := hu.keep _ _ _ r_1_0; have r_1_1 := hu.keep _ _ _ r_1_1; have r_1_2 := hu.keep _ _ _ r_1_2; have r_1_3 := hu.keep _ _ _ r_1_3; have r_1_4 := hu.keep _ _ _ r_1_4; have r_1_5 := hu.keep _ _ _ r_1_5; have z0 := HW.out.ownGe (g := w.heap.size + 1) (by omega) 0; have z1 := HW.out.ownGe (g := w.heap.size + 1) (by omega) 1; have z2 := HW.out.ownGe (g := w.heap.size + 1) (by omega) 2; have z3 := HW.out.ownGe (g := w.heap.size + 1) (by omega) 3; have z4 := HW.out.ownGe (g := w.heap.size + 1) (by omega) 4; have z5 := HW.out.ownGe (g := w.heap.size + 1) (by omega) 5; clear hu)
        refine bodyPost_ret (v := .tuple #[.agg #[.int .i64 0, .int .i64 0, .int .i64 0, .int .i64 0, .int .i64 0, .slice none 0 0], .int .i64 5]) (by simp [results, Try.results53, go_sem, r_1_0, r_1_1, r_1_2, r_1_3, r_1_4, r_1_5]) rfl ⟨rfl, ?_⟩
        exact HW.out.setP6 (by omega)
    · have hlt_ : w.heap.size + 1 < w2.heap.size := World.block_lt_of_cell? _ _ r_1_0
      have g0 : (w2.alloc (.cells #[.int .i64 0, .int .i64 0, .int .i64 0, .int .i64 0, .int .i64 0, .int .i64 0, .slice none 0 0] 26)).cell? ⟨w2.heap.size, 0, none⟩ = some (.int .i64 0) := by simp [go_sem]
      have g1 : (w2.alloc (.cells #[.int .i64 0, .int .i64 0, .int .i64 0, .int .i64 0, .int .i64 0, .int .i64 0, .slice none 0 0] 26)).cell? ⟨w2.heap.size, 1, none⟩ = some (.int .i64 0) := by simp [go_sem]
      have g2 : (w2.alloc (.cells #[.int .i64 0, .int .i64 0, .int .i64 0, .int .i64 0, .int .i64 0, .int .i64 0, .slice none 0 0] 26)).cell? ⟨w2.heap.size, 2, none⟩ = some (.int .i64 0) := by simp [go_sem]
      have g3 : (w2.alloc (.cells #[.int .i64 0, .int .i64 0, .int .i64 0, .int .i64 0, .int .i64 0, .int .i64 0, .slice none 0 0] 26)).cell? ⟨w2.heap.size, 3, none⟩ = some (.int .i64 0) := by simp [go_sem]
      have g4 : (w2.alloc (.cells #[.int .i64 0, .int .i64 0, .int .i64 0, .int .i64 0, .int .i64 0, .int .i64 0, .slice none 0 0] 26)).cell? ⟨w2.heap.size, 4, none⟩ = some (.int .i64 0) := by simp [go_sem]
      have g5 : (w2.alloc (.cells #[.int .i64 0, .int .i64 0, .int .i64 0, .int .i64 0, .int .i64 0, .int .i64 0, .slice none 0 0] 26)).cell? ⟨w2.heap.size, 5, none⟩ = some (.int .i64 0) := by simp [go_sem]
      have g6 : (w2.alloc (.cells #[.int .i64 0, .int .i64 0, .int .i64 0, .int .i64 0, .int .i64 0, .int .i64 0, .slice none 0 0] 26)).cell? ⟨w2.heap.size, 6, none⟩ = some (.slice none 0 0) := by simp [go_sem]
      have r_1_0 := ((Up.refl w2).alloc #[.int .i64 0, .int .i64 0, .int .i64 0, .int .i64 0, .int .i64 0, .int .i64 0, .slice none 0 0] 26).keep _ _ _ r_1_0
      have r_1_1 := ((Up.refl w2).alloc #[.int .i64 0, .int .i64 0, .int .i64 0, .int .i64 0, .int .i64 0, .int .i64 0, .slice none 0 0] 26).keep _ _ _ r_1_1
      have r_1_2 := ((Up.refl w2).alloc #[.int .i64 0, .int .i64 0, .int .i64 0, .int .i64 0, .int .i64 0, .int .i64 0, .slice none 0 0] 26).keep _ _ _ r_1_2
      have r_1_3 := ((Up.refl w2).alloc #[.int .i64 0, .int .i64 0, .int .i64 0, .int .i64 0, .int .i64 0, .int .i64 0, .slice none 0 0] 26).keep _ _ _ r_1_3
      have r_1_4 := ((Up.refl w2).alloc #[.int .i64 0, .int .i64 0, .int .i64 0, .int .i64 0, .int .i64 0, .int .i64 0, .slice none 0 0] 26).keep _ _ _ r_1_4
      have r_1_5 := ((Up.refl w2).alloc #[.int .i64 0, .int .i64 0, .int .i64 0, .int .i64 0, .int .i64 0, .int .i64 0, .slice none 0 0] 26).keep _ _ _ r_1_5
      have HW := Lib.hid (HW.out.alloc #[.int .i64 0, .int .i64 0, .int .i64 0, .int .i64 0, .int .i64 0, .int .i64 0, .slice none 0 0] 26)
      go_simp
      refine hK.out _ _ ?hB60 (fun hHeld => ?_)
      case hB60 => (with_reducible exact keepL6 (Lib.hid ((Up.refl _).alloc _ _)) hHeld)
      clear hK K
      (try simp only [Act.put, List.setIfInBounds_toArray, List.set_cons_zero, List.set_cons_succ])
      refine wpAnyH_ready (rs := [5]) (by kernel_rfl) (by simp) ?_
      refine AllReadyH.cons (o := ⟨_, _, _, _, _, _⟩) rfl (fun K hK => ?_) (AllReadyH.nil)
      go_simp
      (go_at_call 102; (with_reducible refine (KN.out _).mono ?_); rintro e w3 ⟨xb, rfl, hu, cb⟩; have HW := Lib.hid (HW.out.trans hu); have HX := Lib.hid (keepL6 (Lib.hid hu) hHeld); have r_1_0 := hu.keep _ _ _ r_1_0; have r_1_1 := hu.keep _ _ _ r_1_1; have r_1_2 := hu.keep _ _ _ r_1_2; have r_1_3 := hu.keep _ _ _ r_1_3; have r_1_4 := hu.keep _ _ _ r_1_4; have r_1_5 := hu.keep _ _ _ r_1_5; have g0 := hu.keep _ _ _ g0; have g1 := hu.keep _ _ _ g1; have g2 := hu.keep _ _ _ g2; have g3 := hu.keep _ _ _ g3; have g4 := hu.keep _ _ _ g4; have g5 := hu.keep _ _ _ g5; have g6 := hu.keep _ _ _ g6; have fz0 := HW.out.ownGe (g := w2.heap.size) (by omega) 0; have fz1 := HW.out.ownGe (g := w2.heap.size) (by omega) 1; have fz2 := HW.out.ownGe (g := w2.heap.size) (by omega) 2; have fz3 := HW.out.ownGe (g := w2.heap.size) (by omega) 3; have fz4 := HW.out.ownGe (g := w2.heap.size) (by omega) 4; have fz5 := HW.out.ownGe (g := w2.heap.size) (by omega) 5; have fz6 := HW.out.ownGe (g := w2.heap.size) (by omega) 6; have CB := Lib.hid cb; clear cb; clear hu)
      (try go_wp2_with fail)
      refine hK.out _ _ ?hB61 (fun hHeld => ?_)
      case hB61 => (with_reducible exact HX.out)
      clear hK K
      (try simp only [Act.put, List.setIfInBounds_toArray, List.set_cons_zero, List.set_cons_succ])
      refine wpAnyH_ready (rs := [6]) (by kernel_rfl) (by simp) ?_
      refine AllReadyH.cons (o := ⟨_, _, _, _, _, _⟩) rfl (fun K hK => ?_) (AllReadyH.nil)
      go_simp
      (go_at_call 72; (with_reducible refine (KA.out xb _ hHeld.1 CB.out).mono ?_); have hlr_ := World.block_lt_of_cell? _ _ r_1_0; have hsz_ := hHeld.1.size; have htb_ := World.block_lt_of_cell? _ _ g0; rintro e w4 ⟨rfl, hu⟩; have HW := Lib.hid (HW.out.trans hu); have HX := Lib.hid (keepL6 (Lib.hid hu) hHeld); have r_1_0 := hu.keep _ _ _ r_1_0; have r_1_1 := hu.keep _ _ _ r_1_1; have r_1_2 := hu.keep _ _ _ r_1_2; have r_1_3 := hu.keep _ _ _ r_1_3; have r_1_4 := hu.keep _ _ _ r_1_4; have r_1_5 := hu.keep _ _ _ r_1_5; have g0 := hu.keep _ _ _ g0; have g1 := hu.keep _ _ _ g1; have g2 := hu.keep _ _ _ g2; have g3 := hu.keep _ _ _ g3; have g4 := hu.keep _ _ _ g4; have g5 := hu.keep _ _ _ g5; have g6 := hu.keep _ _ _ g6; have fz0 := HW.out.ownGe (g := w2.heap.size) (by omega) 0; have fz1 := HW.out.ownGe (g := w2.heap.size) (by omega) 1; have fz2 := HW.out.ownGe (g := w2.heap.size) (by omega) 2; have fz3 := HW.out.ownGe (g := w2.heap.size) (by omega) 3; have fz4 := HW.out.ownGe (g := w2.heap.size) (by omega) 4; have fz5 := HW.out.ownGe (g := w2.heap.size) (by omega) 5; have fz6 := HW.out.ownGe (g := w2.heap.size) (by omega) 6; clear hu)
      (try go_wp2_with fail)
      refine hK.out _ _ ?hB62 (fun hHeld => ?_)
      case hB62 => (with_reducible exact HX.out)
      clear hK K
      (try simp only [Act.put, List.setIfInBounds_toArray, List.set_cons_zero, List.set_cons_succ])
      refine wpAnyH_take (i := 7) (oi := ⟨_, _, _, _, _, _⟩) (v := ?v63) rfl (by kernel_rfl) (by kernel_rfl) (by kernel_rfl) (fun _ _ _ h => h) (Or.inl ⟨by rfl, ?hy63⟩) (by assumption) ?_
      case hy63 => (intro w hSw; (try dsimp only at hSw); go_simp; (try (with_reducible rfl)))
      (try simp only [Act.put, List.setIfInBounds_toArray, List.set_cons_zero, List.set_cons_succ])
      refine wpAnyH_take (i := 8) (oi := ⟨_, _, _, _, _, _⟩) (v := ?v64) rfl (by kernel_rfl) (by kernel_rfl) (by kernel_rfl) (fun _ _ _ h => h) (Or.inl ⟨by rfl, ?hy64⟩) (by assumption) ?_
      case hy64 => (intro w hSw; (try dsimp only at hSw); go_simp; (try (with_reducible rfl)))
      (try simp only [Act.put, List.setIfInBounds_toArray, List.set_cons_zero, List.set_cons_succ])
      refine wpAnyH_take (i := 9) (oi := ⟨_, _, _, _, _, _⟩) (v := ?v65) rfl (by kernel_rfl) (by kernel_rfl) (by kernel_rfl) (fun _ _ _ h => h) (Or.inl ⟨by rfl, ?hy65⟩) (by assumption) ?_
      case hy65 => (intro w hSw; (try dsimp only at hSw); go_simp; (try (with_reducible rfl)))
      (try simp only [Act.put, List.setIfInBounds_toArray, List.set_cons_zero, List.set_cons_succ])
      refine wpAnyH_ready (rs := [11]) (by kernel_rfl) (by simp) ?_
      refine AllReadyH.cons (o := ⟨_, _, _, _, _, _⟩) rfl (fun K hK => ?_) (AllReadyH.nil)
      go_simp
      refine hK.out _ _ ?hB66 (fun hHeld => ?_)
      case hB66 => (with_reducible exact set7L6 hHeld (by omega) (by omega))
      clear hK K
      (try simp only [Act.put, List.setIfInBounds_toArray, List.set_cons_zero, List.set_cons_succ])
      refine wpAnyH_take (i := 12) (oi := ⟨_, _, _, _, _, _⟩) (v := ?v67) rfl (by kernel_rfl) (by kernel_rfl) (by kernel_rfl) (fun _ _ _ h => h) (Or.inl ⟨by rfl, ?hy67⟩) (by assumption) ?_
      case hy67 => (intro w hSw; (try dsimp only at hSw); go_simp; (try (with_reducible rfl)))
      (try simp only [Act.put, List.setIfInBounds_toArray, List.set_cons_zero, List.set_cons_succ])
      refine wpAnyH_done (by kernel_rfl) ?_ _
      obtain ⟨wa, hwa⟩ : ∃ z, z = ((((((w4.setCell ⟨w2.heap.size, 0, none⟩ (.int .i64 0)).setCell ⟨w2.heap.size, 1, none⟩ (.int .i64 0)).setCell ⟨w2.heap.size, 2, none⟩ (.int .i64 0)).setCell ⟨w2.heap.size, 3, none⟩ (.int .i64 0)).setCell ⟨w2.heap.size, 4, none⟩ (.int .i64 0)).setCell ⟨w2.heap.size, 5, none⟩ (.int .i64 0)).setCell ⟨w2.heap.size, 6, none⟩ (.slice none 0 0) := ⟨_, rfl⟩
      rw [← hwa]
      obtain ⟨g0_, g1_, g2_, g3_, g4_, g5_, g6_⟩ := cells7 (w := w4) (p := w2.heap.size) (v0 := .int .i64 0) (v1 := .int .i64 0) (v2 := .int .i64 0) (v3 := .int .i64 0) (v4 := .int .i64 0) (v5 := .int .i64 0) (v6 := .slice none 0 0) g0 g1 g2 g3 g4 g5 g6
      rw [← hwa] at g0_ g1_ g2_ g3_ g4_ g5_ g6_
      have r_1_0_ : wa.cell? ⟨w.heap.size + 1, 0, none⟩ = some (.int .i64 0) := by rw [hwa]; exact far7 (w := w4) r_1_0 (by omega)
      have r_1_1_ : wa.cell? ⟨w.heap.size + 1, 1, none⟩ = some (.int .i64 0) := by rw [hwa]; exact far7 (w := w4) r_1_1 (by omega)
      have r_1_2_ : wa.cell? ⟨w.heap.size + 1, 2, none⟩ = some (.int .i64 0) := by rw [hwa]; exact far7 (w := w4) r_1_2 (by omega)
      have r_1_3_ : wa.cell? ⟨w.heap.size + 1, 3, none⟩ = some (.int .i64 0) := by rw [hwa]; exact far7 (w := w4) r_1_3 (by omega)
      have r_1_4_ : wa.cell? ⟨w.heap.size + 1, 4, none⟩ = some (.int .i64 0) := by rw [hwa]; exact far7 (w := w4) r_1_4 (by omega)
      have r_1_5_ : wa.cell? ⟨w.heap.size + 1, 5, none⟩ = some (.slice none 0 0) := by rw [hwa]; exact far7 (w := w4) r_1_5 (by omega)
      have HW := Lib.hid (show Up w wa by rw [hwa]; exact HW.out.set7 (by omega))
      clear hwa HX HSS hHeld fz0 fz1 fz2 fz3 fz4 fz5 fz6 g0 g1 g2 g3 g4 g5 g6 r_1_0 r_1_1 r_1_2 r_1_3 r_1_4 r_1_5
      have g0 := g0_
      have g1 := g1_
      have g2 := g2_
      have g3 := g3_
      have g4 := g4_
      have g5 := g5_
      have g6 := g6_
      have r_1_0 := r_1_0_
      have r_1_1 := r_1_1_
      have r_1_2 := r_1_2_
      have r_1_3 := r_1_3_
      have r_1_4 := r_1_4_
      have r_1_5 := r_1_5_
      have hlra := World.block_lt_of_cell? _ _ r_1_0
      go_wp2_with (go_at_call 90; (with_reducible refine (KF.out _).mono ?_); rintro e w5 ⟨rfl, hu⟩; have HW := Lib.hid (HW.out.trans hu); have r_1_0 := hu.keep _ _ _ r_1_0; have r_1_1 := hu.keep _ _ _ r_1_1; have r_1_2 := hu.keep _ _ _ r_1_2; have r_1_3 := hu.keep _ _ _ r_1_3; have r_1_4 := hu.keep _ _ _ r_1_4; have r_1_5 := hu.keep _ _ _ r_1_5; have z0 := HW.out.ownGe (g := w.heap.size + 1) (by omega) 0; have z1 := HW.out.ownGe (g := w.heap.size + 1) (by omega) 1; have z2 := HW.out.ownGe (g := w.heap.size + 1) (by omega) 2; have z3 := HW.out.ownGe (g := w.heap.size + 1) (by omega) 3; have z4 := HW.out.ownGe (g := w.heap.size + 1) (by omega) 4; have z5 := HW.out.ownGe (g := w.heap.size + 1) (by omega) 5; clear hu)
      refine bodyPost_ret (v := .tuple #[.agg #[.int .i64 0, .int .i64 0, .int .i64 0, .int .i64 0, .int .i64 0, .slice none 0 0], .int .i64 5]) (by simp [results, Try.results53, go_sem, r_1_0, r_1_1, r_1_2, r_1_3, r_1_4, r_1_5]) rfl ⟨rfl, ?_⟩
      exact HW.out.setP6 (by omega)
  · have hlt_ : w.heap.size + 1 < w1.heap.size := World.block_lt_of_cell? _ _ r_1_0
    have g0 : (w1.alloc (.cells #[.int .i64 0, .int .i64 0, .int .i64 0, .int .i64 0, .int .i64 0, .int .i64 0, .slice none 0 0] 26)).cell? ⟨w1.heap.size, 0, none⟩ = some (.int .i64 0) := by simp [go_sem]
    have g1 : (w1.alloc (.cells #[.int .i64 0, .int .i64 0, .int .i64 0, .int .i64 0, .int .i64 0, .int .i64 0, .slice none 0 0] 26)).cell? ⟨w1.heap.size, 1, none⟩ = some (.int .i64 0) := by simp [go_sem]
    have g2 : (w1.alloc (.cells #[.int .i64 0, .int .i64 0, .int .i64 0, .int .i64 0, .int .i64 0, .int .i64 0, .slice none 0 0] 26)).cell? ⟨w1.heap.size, 2, none⟩ = some (.int .i64 0) := by simp [go_sem]
    have g3 : (w1.alloc (.cells #[.int .i64 0, .int .i64 0, .int .i64 0, .int .i64 0, .int .i64 0, .int .i64 0, .slice none 0 0] 26)).cell? ⟨w1.heap.size, 3, none⟩ = some (.int .i64 0) := by simp [go_sem]
    have g4 : (w1.alloc (.cells #[.int .i64 0, .int .i64 0, .int .i64 0, .int .i64 0, .int .i64 0, .int .i64 0, .slice none 0 0] 26)).cell? ⟨w1.heap.size, 4, none⟩ = some (.int .i64 0) := by simp [go_sem]
    have g5 : (w1.alloc (.cells #[.int .i64 0, .int .i64 0, .int .i64 0, .int .i64 0, .int .i64 0, .int .i64 0, .slice none 0 0] 26)).cell? ⟨w1.heap.size, 5, none⟩ = some (.int .i64 0) := by simp [go_sem]
    have g6 : (w1.alloc (.cells #[.int .i64 0, .int .i64 0, .int .i64 0, .int .i64 0, .int .i64 0, .int .i64 0, .slice none 0 0] 26)).cell? ⟨w1.heap.size, 6, none⟩ = some (.slice none 0 0) := by simp [go_sem]
    have r_1_0 := ((Up.refl w1).alloc #[.int .i64 0, .int .i64 0, .int .i64 0, .int .i64 0, .int .i64 0, .int .i64 0, .slice none 0 0] 26).keep _ _ _ r_1_0
    have r_1_1 := ((Up.refl w1).alloc #[.int .i64 0, .int .i64 0, .int .i64 0, .int .i64 0, .int .i64 0, .int .i64 0, .slice none 0 0] 26).keep _ _ _ r_1_1
    have r_1_2 := ((Up.refl w1).alloc #[.int .i64 0, .int .i64 0, .int .i64 0, .int .i64 0, .int .i64 0, .int .i64 0, .slice none 0 0] 26).keep _ _ _ r_1_2
    have r_1_3 := ((Up.refl w1).alloc #[.int .i64 0, .int .i64 0, .int .i64 0, .int .i64 0, .int .i64 0, .int .i64 0, .slice none 0 0] 26).keep _ _ _ r_1_3
    have r_1_4 := ((Up.refl w1).alloc #[.int .i64 0, .int .i64 0, .int .i64 0, .int .i64 0, .int .i64 0, .int .i64 0, .slice none 0 0] 26).keep _ _ _ r_1_4
    have r_1_5 := ((Up.refl w1).alloc #[.int .i64 0, .int .i64 0, .int .i64 0, .int .i64 0, .int .i64 0, .int .i64 0, .slice none 0 0] 26).keep _ _ _ r_1_5
    have HW := Lib.hid (HW.out.alloc #[.int .i64 0, .int .i64 0, .int .i64 0, .int .i64 0, .int .i64 0, .int .i64 0, .slice none 0 0] 26)
    go_simp
    refine hK.out _ _ ?hB68 (fun hHeld => ?_)
    case hB68 => (with_reducible exact keepL6 (Lib.hid ((Up.refl _).alloc _ _)) hHeld)
    clear hK K
    (try simp only [Act.put, List.setIfInBounds_toArray, List.set_cons_zero, List.set_cons_succ])
    refine wpAnyH_ready (rs := [1]) (by kernel_rfl) (by simp) ?_
    refine AllReadyH.cons (o := ⟨_, _, _, _, _, _⟩) rfl (fun K hK => ?_) (AllReadyH.nil)
    go_simp
    (go_at_call 101; (with_reducible refine (KT.out _).mono ?_); rintro e w2 ⟨rfl, hu⟩; have HW := Lib.hid (HW.out.trans hu); have HX := Lib.hid (keepL6 (Lib.hid hu) hHeld); have r_1_0 := hu.keep _ _ _ r_1_0; have r_1_1 := hu.keep _ _ _ r_1_1; have r_1_2 := hu.keep _ _ _ r_1_2; have r_1_3 := hu.keep _ _ _ r_1_3; have r_1_4 := hu.keep _ _ _ r_1_4; have r_1_5 := hu.keep _ _ _ r_1_5; have g0 := hu.keep _ _ _ g0; have g1 := hu.keep _ _ _ g1; have g2 := hu.keep _ _ _ g2; have g3 := hu.keep _ _ _ g3; have g4 := hu.keep _ _ _ g4; have g5 := hu.keep _ _ _ g5; have g6 := hu.keep _ _ _ g6; have fz0 := HW.out.ownGe (g := w1.heap.size) (by omega) 0; have fz1 := HW.out.ownGe (g := w1.heap.size) (by omega) 1; have fz2 := HW.out.ownGe (g := w1.heap.size) (by omega) 2; have fz3 := HW.out.ownGe (g := w1.heap.size) (by omega) 3; have fz4 := HW.out.ownGe (g := w1.heap.size) (by omega) 4; have fz5 := HW.out.ownGe (g := w1.heap.size) (by omega) 5; have fz6 := HW.out.ownGe (g := w1.heap.size) (by omega) 6; clear hu)
    (try go_wp2_with fail)
    refine hK.out _ _ ?hB69 (fun hHeld => ?_)
    case hB69 => (with_reducible exact HX.out)
    clear hK K
    (try simp only [Act.put, List.setIfInBounds_toArray, List.set_cons_zero, List.set_cons_succ])
    refine wpAnyH_ready (rs := [5]) (by kernel_rfl) (by simp) ?_
    refine AllReadyH.cons (o := ⟨_, _, _, _, _, _⟩) rfl (fun K hK => ?_) (AllReadyH.nil)
    go_simp
    (go_at_call 102; (with_reducible refine (KN.out _).mono ?_); rintro e w3 ⟨xb, rfl, hu, cb⟩; have HW := Lib.hid (HW.out.trans hu); have HX := Lib.hid (keepL6 (Lib.hid hu) hHeld); have r_1_0 := hu.keep _ _ _ r_1_0; have r_1_1 := hu.keep _ _ _ r_1_1; have r_1_2 := hu.keep _ _ _ r_1_2; have r_1_3 := hu.keep _ _ _ r_1_3; have r_1_4 := hu.keep _ _ _ r_1_4; have r_1_5 := hu.keep _ _ _ r_1_5; have g0 := hu.keep _ _ _ g0; have g1 := hu.keep _ _ _ g1; have g2 := hu.keep _ _ _ g2; have g3 := hu.keep _ _ _ g3; have g4 := hu.keep _ _ _ g4; have g5 := hu.keep _ _ _ g5; have g6 := hu.keep _ _ _ g6; have fz0 := HW.out.ownGe (g := w1.heap.size) (by omega) 0; have fz1 := HW.out.ownGe (g := w1.heap.size) (by omega) 1; have fz2 := HW.out.ownGe (g := w1.heap.size) (by omega) 2; have fz3 := HW.out.ownGe (g := w1.heap.size) (by omega) 3; have fz4 := HW.out.ownGe (g := w1.heap.size) (by omega) 4; have fz5 := HW.out.ownGe (g := w1.heap.size) (by omega) 5; have fz6 := HW.out.ownGe (g := w1.heap.size) (by omega) 6; have CB := Lib.hid cb; clear cb; clear hu)
    (try go_wp2_with fail)
    refine hK.out _ _ ?hB70 (fun hHeld => ?_)
    case hB70 => (with_reducible exact HX.out)
    clear hK K
    (try simp only [Act.put, List.setIfInBounds_toArray, List.set_cons_zero, List.set_cons_succ])
    refine wpAnyH_ready (rs := [6]) (by kernel_rfl) (by simp) ?_
    refine AllReadyH.cons (o := ⟨_, _, _, _, _, _⟩) rfl (fun K hK => ?_) (AllReadyH.nil)
    go_simp
    (go_at_call 72; (with_reducible refine (KA.out xb _ hHeld.1 CB.out).mono ?_); have hlr_ := World.block_lt_of_cell? _ _ r_1_0; have hsz_ := hHeld.1.size; have htb_ := World.block_lt_of_cell? _ _ g0; rintro e w4 ⟨rfl, hu⟩; have HW := Lib.hid (HW.out.trans hu); have HX := Lib.hid (keepL6 (Lib.hid hu) hHeld); have r_1_0 := hu.keep _ _ _ r_1_0; have r_1_1 := hu.keep _ _ _ r_1_1; have r_1_2 := hu.keep _ _ _ r_1_2; have r_1_3 := hu.keep _ _ _ r_1_3; have r_1_4 := hu.keep _ _ _ r_1_4; have r_1_5 := hu.keep _ _ _ r_1_5; have g0 := hu.keep _ _ _ g0; have g1 := hu.keep _ _ _ g1; have g2 := hu.keep _ _ _ g2; have g3 := hu.keep _ _ _ g3; have g4 := hu.keep _ _ _ g4; have g5 := hu.keep _ _ _ g5; have g6 := hu.keep _ _ _ g6; have fz0 := HW.out.ownGe (g := w1.heap.size) (by omega) 0; have fz1 := HW.out.ownGe (g := w1.heap.size) (by omega) 1; have fz2 := HW.out.ownGe (g := w1.heap.size) (by omega) 2; have fz3 := HW.out.ownGe (g := w1.heap.size) (by omega) 3; have fz4 := HW.out.ownGe (g := w1.heap.size) (by omega) 4; have fz5 := HW.out.ownGe (g := w1.heap.size) (by omega) 5; have fz6 := HW.out.ownGe (g := w1.heap.size) (by omega) 6; clear hu)
    (try go_wp2_with fail)
    refine hK.out _ _ ?hB71 (fun hHeld => ?_)
    case hB71 => (with_reducible exact HX.out)
    clear hK K
    (try simp only [Act.put, List.setIfInBounds_toArray, List.set_cons_zero, List.set_cons_succ])
    refine wpAnyH_take (i := 7) (oi := ⟨_, _, _, _, _, _⟩) (v := ?v72) rfl (by kernel_rfl) (by kernel_rfl) (by kernel_rfl) (fun _ _ _ h => h) (Or.inl ⟨by rfl, ?hy72⟩) (by assumption) ?_
    case hy72 => (intro w hSw; (try dsimp only at hSw); go_simp; (try (with_reducible rfl)))
    (try simp only [Act.put, List.setIfInBounds_toArray, List.set_cons_zero, List.set_cons_succ])
    refine wpAnyH_take (i := 8) (oi := ⟨_, _, _, _, _, _⟩) (v := ?v73) rfl (by kernel_rfl) (by kernel_rfl) (by kernel_rfl) (fun _ _ _ h => h) (Or.inl ⟨by rfl, ?hy73⟩) (by assumption) ?_
    case hy73 => (intro w hSw; (try dsimp only at hSw); go_simp; (try (with_reducible rfl)))
    (try simp only [Act.put, List.setIfInBounds_toArray, List.set_cons_zero, List.set_cons_succ])
    refine wpAnyH_take (i := 9) (oi := ⟨_, _, _, _, _, _⟩) (v := ?v74) rfl (by kernel_rfl) (by kernel_rfl) (by kernel_rfl) (fun _ _ _ h => h) (Or.inl ⟨by rfl, ?hy74⟩) (by assumption) ?_
    case hy74 => (intro w hSw; (try dsimp only at hSw); go_simp; (try (with_reducible rfl)))
    (try simp only [Act.put, List.setIfInBounds_toArray, List.set_cons_zero, List.set_cons_succ])
    refine wpAnyH_ready (rs := [11]) (by kernel_rfl) (by simp) ?_
    refine AllReadyH.cons (o := ⟨_, _, _, _, _, _⟩) rfl (fun K hK => ?_) (AllReadyH.nil)
    go_simp
    refine hK.out _ _ ?hB75 (fun hHeld => ?_)
    case hB75 => (with_reducible exact set7L6 hHeld (by omega) (by omega))
    clear hK K
    (try simp only [Act.put, List.setIfInBounds_toArray, List.set_cons_zero, List.set_cons_succ])
    refine wpAnyH_take (i := 12) (oi := ⟨_, _, _, _, _, _⟩) (v := ?v76) rfl (by kernel_rfl) (by kernel_rfl) (by kernel_rfl) (fun _ _ _ h => h) (Or.inl ⟨by rfl, ?hy76⟩) (by assumption) ?_
    case hy76 => (intro w hSw; (try dsimp only at hSw); go_simp; (try (with_reducible rfl)))
    (try simp only [Act.put, List.setIfInBounds_toArray, List.set_cons_zero, List.set_cons_succ])
    refine wpAnyH_done (by kernel_rfl) ?_ _
    obtain ⟨wa, hwa⟩ : ∃ z, z = ((((((w4.setCell ⟨w1.heap.size, 0, none⟩ (.int .i64 0)).setCell ⟨w1.heap.size, 1, none⟩ (.int .i64 0)).setCell ⟨w1.heap.size, 2, none⟩ (.int .i64 0)).setCell ⟨w1.heap.size, 3, none⟩ (.int .i64 0)).setCell ⟨w1.heap.size, 4, none⟩ (.int .i64 0)).setCell ⟨w1.heap.size, 5, none⟩ (.int .i64 0)).setCell ⟨w1.heap.size, 6, none⟩ (.slice none 0 0) := ⟨_, rfl⟩
    rw [← hwa]
    obtain ⟨g0_, g1_, g2_, g3_, g4_, g5_, g6_⟩ := cells7 (w := w4) (p := w1.heap.size) (v0 := .int .i64 0) (v1 := .int .i64 0) (v2 := .int .i64 0) (v3 := .int .i64 0) (v4 := .int .i64 0) (v5 := .int .i64 0) (v6 := .slice none 0 0) g0 g1 g2 g3 g4 g5 g6
    rw [← hwa] at g0_ g1_ g2_ g3_ g4_ g5_ g6_
    have r_1_0_ : wa.cell? ⟨w.heap.size + 1, 0, none⟩ = some (.int .i64 0) := by rw [hwa]; exact far7 (w := w4) r_1_0 (by omega)
    have r_1_1_ : wa.cell? ⟨w.heap.size + 1, 1, none⟩ = some (.int .i64 0) := by rw [hwa]; exact far7 (w := w4) r_1_1 (by omega)
    have r_1_2_ : wa.cell? ⟨w.heap.size + 1, 2, none⟩ = some (.int .i64 0) := by rw [hwa]; exact far7 (w := w4) r_1_2 (by omega)
    have r_1_3_ : wa.cell? ⟨w.heap.size + 1, 3, none⟩ = some (.int .i64 0) := by rw [hwa]; exact far7 (w := w4) r_1_3 (by omega)
    have r_1_4_ : wa.cell? ⟨w.heap.size + 1, 4, none⟩ = some (.int .i64 0) := by rw [hwa]; exact far7 (w := w4) r_1_4 (by omega)
    have r_1_5_ : wa.cell? ⟨w.heap.size + 1, 5, none⟩ = some (.slice none 0 0) := by rw [hwa]; exact far7 (w := w4) r_1_5 (by omega)
    have HW := Lib.hid (show Up w wa by rw [hwa]; exact HW.out.set7 (by omega))
    clear hwa HX HSS hHeld fz0 fz1 fz2 fz3 fz4 fz5 fz6 g0 g1 g2 g3 g4 g5 g6 r_1_0 r_1_1 r_1_2 r_1_3 r_1_4 r_1_5
    have g0 := g0_
    have g1 := g1_
    have g2 := g2_
    have g3 := g3_
    have g4 := g4_
    have g5 := g5_
    have g6 := g6_
    have r_1_0 := r_1_0_
    have r_1_1 := r_1_1_
    have r_1_2 := r_1_2_
    have r_1_3 := r_1_3_
    have r_1_4 := r_1_4_
    have r_1_5 := r_1_5_
    have hlra := World.block_lt_of_cell? _ _ r_1_0
    go_wp2_with (go_at_call 90; (with_reducible refine (KF.out _).mono ?_); rintro e w5 ⟨rfl, hu⟩; have HW := Lib.hid (HW.out.trans hu); have r_1_0 := hu.keep _ _ _ r_1_0; have r_1_1 := hu.keep _ _ _ r_1_1; have r_1_2 := hu.keep _ _ _ r_1_2; have r_1_3 := hu.keep _ _ _ r_1_3; have r_1_4 := hu.keep _ _ _ r_1_4; have r_1_5 := hu.keep _ _ _ r_1_5; have z0 := HW.out.ownGe (g := w.heap.size + 1) (by omega) 0; have z1 := HW.out.ownGe (g := w.heap.size + 1) (by omega) 1; have z2 := HW.out.ownGe (g := w.heap.size + 1) (by omega) 2; have z3 := HW.out.ownGe (g := w.heap.size + 1) (by omega) 3; have z4 := HW.out.ownGe (g := w.heap.size + 1) (by omega) 4; have z5 := HW.out.ownGe (g := w.heap.size + 1) (by omega) 5; clear hu)
    refine bodyPost_ret (v := .tuple #[.agg #[.int .i64 0, .int .i64 0, .int .i64 0, .int .i64 0, .int .i64 0, .slice none 0 0], .int .i64 5]) (by simp [results, Try.results53, go_sem, r_1_0, r_1_1, r_1_2, r_1_3, r_1_4, r_1_5]) rfl ⟨rfl, ?_⟩
    exact HW.out.setP6 (by omega)

/-- What a good Add wants of the marks behind the new one. -/
theorem good14 {v q c now seq d : Int} {X : List Mrk} {n : Nat} (hl : X.length = n) (hv : stP v q c now seq X = true) (hd : valG 4 d) (hf : fuM c seq X = false) : (0 ≤ seq ∧ seq ≤ 1099511627776) ∧ (∀ j, j < n → bdM (X.getD j mk0)) ∧ ∀ i p j, i < p → p ≤ j → j < n + 1 → clQ q ((inM (seq + 1) now d X).getD i mk0) ((inM (seq + 1) now d X).getD p mk0) = false → clQ q ((inM (seq + 1) now d X).getD i mk0) ((inM (seq + 1) now d X).getD j mk0) = false := by
  obtain ⟨hm, hx, _⟩ := stP_true hv
  obtain ⟨g1, g2, hc, g4⟩ := mayC_facts hm
  obtain ⟨hs2, hok⟩ := mrkB_true hx
  obtain ⟨i1, i2⟩ := inM_facts (now := now) hx hc.2 hf hd.1 hd.2.1
  refine ⟨hs2, fun j hj => (hok j (by rw [hl]; exact hj)).bd hc.2 hs2.2, fun i p j hip hpj hj h => ?_⟩
  cases hk : clQ q ((inM (seq + 1) now d X).getD i mk0) ((inM (seq + 1) now d X).getD j mk0) with
  | false => rfl
  | true => exact absurd (clQ_anti (i1 p (by rw [inM_len, hl]; omega)) (i2 p j hpj (by rw [inM_len, hl]; exact hj)) hk) (by rw [h]; exact Bool.false_ne_true)

set_option maxHeartbeats 4000000 in
set_option maxRecDepth 100000 in
theorem add14_good (v q c now seq d : Int) (n k : Nat) (A : Option Addr) (X : List Mrk) (hn : n ≤ 50000) (hk : n ≤ k) (hv : stP v q c now seq X = true) (hd : valG 4 d) (hf : fuM c seq X = false) (w : World) (hS : SG cM w A n X) :
    Calls Try.prog 53 #[.agg #[.int .i64 v, .int .i64 q, .int .i64 c, .int .i64 now, .int .i64 seq, .slice A n k], .int .i64 d] w fun e w' => ∃ A' n' k', e = .returned (.tuple #[.agg #[.int .i64 v, .int .i64 q, .int .i64 c, .int .i64 now, .int .i64 (seq + 1), .slice A' n' k'], .int .i64 0]) ∧ n' ≤ n + 1 ∧ n' ≤ k' ∧ Nw w A' ∧ Up w w' ∧ SG cM w' A' n' (adS q seq now d X) := by
  have HL := Lib.hid hS.1
  obtain ⟨hs2, hD, hAN⟩ := good14 hS.1 hv hd hf
  have KV := Lib.hid (fun W (h : SG cM W A n X) => validate14_up v q c now seq n k A X hn W h)
  rw [stPE_yes hv] at KV
  have HS := Lib.hid hS
  have KT := Lib.hid (toSmooth_up v q c now seq n k A)
  have KN := Lib.hid (closeness_up q)
  have KA := Lib.hid (fun (b1 : Nat) W (hu : Up w W) (hb : W.cell? ⟨b1, 0, none⟩ = some (.int .i64 q)) => maddS_good (clQ q) (fun _ => True) b1 4 v q c now seq d n k A X hn (by omega) hd hf hs2 hD (fun _ _ => trivial) hAN W (close_rule b1 q W hb) (hS.up hu))
  have KF := Lib.hid (fun A5 n5 k5 => fromSmooth_up 4 v q c now (seq + 1) n5 k5 A5)
  have HZ : Hid (prL (clQ q) (n + 1) (inM (seq + 1) now d X) = adS q seq now d X) := Lib.hid (by rw [← HL.out]; rfl)
  rw [HZ.out] at KA
  clear HZ hs2 hD hAN hS hv hd hf
  generalize adS q seq now d X = Z at *
  go_enter Try.func53, Try.ntmps53
  go_upto_region 4 with (go_at_call 51; (with_reducible refine (KV.out _ (HS.out.up (((Up.refl w).alloc _ _).alloc _ _))).mono ?_); rintro e w1 ⟨rfl, hu⟩; have hv := (((Up.refl w).alloc #[.int .i64 v, .int .i64 q, .int .i64 c, .int .i64 now, .int .i64 seq, .slice A n k] 61).alloc #[.int .i64 0, .int .i64 0, .int .i64 0, .int .i64 0, .int .i64 0, .slice none 0 0] 61).trans hu; have HV1 := Lib.hid hv; have HU1 := Lib.hid ((Up.refl w).trans hv); have a_1_0 := hu.keep (w.heap.size) 0 (.int .i64 v) (by simp [go_sem]); have a_1_1 := hu.keep (w.heap.size) 1 (.int .i64 q) (by simp [go_sem]); have a_1_2 := hu.keep (w.heap.size) 2 (.int .i64 c) (by simp [go_sem]); have a_1_3 := hu.keep (w.heap.size) 3 (.int .i64 now) (by simp [go_sem]); have a_1_4 := hu.keep (w.heap.size) 4 (.int .i64 seq) (by simp [go_sem]); have a_1_5 := hu.keep (w.heap.size) 5 (.slice A n k) (by simp [go_sem]); have r_1_0 := hu.keep (w.heap.size + 1) 0 (.int .i64 0) (by simp [go_sem]); have r_1_1 := hu.keep (w.heap.size + 1) 1 (.int .i64 0) (by simp [go_sem]); have r_1_2 := hu.keep (w.heap.size + 1) 2 (.int .i64 0) (by simp [go_sem]); have r_1_3 := hu.keep (w.heap.size + 1) 3 (.int .i64 0) (by simp [go_sem]); have r_1_4 := hu.keep (w.heap.size + 1) 4 (.int .i64 0) (by simp [go_sem]); have r_1_5 := hu.keep (w.heap.size + 1) 5 (.slice none 0 0) (by simp [go_sem]); have la1 := World.block_lt_of_cell? _ _ a_1_0; have lr1 := World.block_lt_of_cell? _ _ r_1_0; clear hu hv )
  have HSS : Hid (Up w w1 ∧ w1.cell? ⟨w.heap.size, 0, none⟩ = some (.int .i64 v) ∧ w1.cell? ⟨w.heap.size, 1, none⟩ = some (.int .i64 q) ∧ w1.cell? ⟨w.heap.size, 2, none⟩ = some (.int .i64 c) ∧ w1.cell? ⟨w.heap.size, 3, none⟩ = some (.int .i64 now) ∧ w1.cell? ⟨w.heap.size, 4, none⟩ = some (.int .i64 seq) ∧ w1.cell? ⟨w.heap.size, 5, none⟩ = some (.slice A n k)) := Lib.hid ⟨HU1.out, a_1_0, a_1_1, a_1_2, a_1_3, a_1_4, a_1_5⟩
  have HW := Lib.hid HU1.out.drew
  clear a_1_0 a_1_1 a_1_2 a_1_3 a_1_4 a_1_5
  go_wp2_with fail
  refine wp_region_held_drew (S := fun w' => Up w w' ∧ w'.cell? ⟨w.heap.size, 0, none⟩ = some (.int .i64 v) ∧ w'.cell? ⟨w.heap.size, 1, none⟩ = some (.int .i64 q) ∧ w'.cell? ⟨w.heap.size, 2, none⟩ = some (.int .i64 c) ∧ w'.cell? ⟨w.heap.size, 3, none⟩ = some (.int .i64 now) ∧ w'.cell? ⟨w.heap.size, 4, none⟩ = some (.int .i64 seq) ∧ w'.cell? ⟨w.heap.size, 5, none⟩ = some (.slice A n k)) (by kernel_rfl) ?hB77 (fun hHeld => ?_)
  case hB77 => (with_reducible exact keepL6 (Lib.hid (Up.refl _).drew) HSS.out)
  refine wpAnyH_take (i := 0) (oi := ⟨_, _, _, _, _, _⟩) (v := ?v78) rfl (by kernel_rfl) (by kernel_rfl) (by kernel_rfl) (fun _ _ _ h => h) (Or.inl ⟨by rfl, ?hy78⟩) (by assumption) ?_
  case hy78 => (intro w hSw; (try dsimp only at hSw); go_simp; (try (with_reducible rfl)))
  (try simp only [Act.put, List.setIfInBounds_toArray, List.set_cons_zero, List.set_cons_succ])
  refine wpAnyH_take (i := 2) (oi := ⟨_, _, _, _, _, _⟩) (v := ?v79) rfl (by kernel_rfl) (by kernel_rfl) (by kernel_rfl) (fun _ _ _ h => h) (Or.inl ⟨by rfl, ?hy79⟩) (by assumption) ?_
  case hy79 => (intro w hSw; (try dsimp only at hSw); go_simp; (try (with_reducible rfl)))
  (try simp only [Act.put, List.setIfInBounds_toArray, List.set_cons_zero, List.set_cons_succ])
  refine wpAnyH_take (i := 3) (oi := ⟨_, _, _, _, _, _⟩) (v := ?v80) rfl (by kernel_rfl) (by kernel_rfl) (by kernel_rfl) (fun _ _ _ h => h) (Or.inl ⟨by rfl, ?hy80⟩) (by assumption) ?_
  case hy80 => (intro w hSw; (try dsimp only at hSw); go_simp; (try (with_reducible rfl)))
  (try simp only [Act.put, List.setIfInBounds_toArray, List.set_cons_zero, List.set_cons_succ])
  refine wpAnyH_take (i := 4) (oi := ⟨_, _, _, _, _, _⟩) (v := ?v81) rfl (by kernel_rfl) (by kernel_rfl) (by kernel_rfl) (fun _ _ _ h => h) (Or.inl ⟨by rfl, ?hy81⟩) (by assumption) ?_
  case hy81 => (intro w hSw; (try dsimp only at hSw); go_simp; (try (with_reducible rfl)))
  (try simp only [Act.put, List.setIfInBounds_toArray, List.set_cons_zero, List.set_cons_succ])
  refine wpAnyH_ready (rs := [1, 10]) (by kernel_rfl) (by simp) ?_
  refine AllReadyH.cons (o := ⟨_, _, _, _, _, _⟩) rfl (fun K hK => ?_) (AllReadyH.cons (o := ⟨_, _, _, _, _, _⟩) rfl (fun K hK => ?_) (AllReadyH.nil))
  · go_simp
    (go_at_call 101; (with_reducible refine (KT.out _).mono ?_); rintro e w2 ⟨rfl, hu⟩; have HW := Lib.hid (HW.out.trans hu); have HX := Lib.hid (keepL6 (Lib.hid hu) hHeld); have r_1_0 := hu.keep _ _ _ r_1_0; have r_1_1 := hu.keep _ _ _ r_1_1; have r_1_2 := hu.keep _ _ _ r_1_2; have r_1_3 := hu.keep _ _ _ r_1_3; have r_1_4 := hu.keep _ _ _ r_1_4; have r_1_5 := hu.keep _ _ _ r_1_5; clear hu)
    (try go_wp2_with fail)
    refine hK.out _ _ ?hB82 (fun hHeld => ?_)
    case hB82 => (with_reducible exact HX.out)
    clear hK K
    (try simp only [Act.put, List.setIfInBounds_toArray, List.set_cons_zero, List.set_cons_succ])
    refine wpAnyH_ready (rs := [5, 10]) (by kernel_rfl) (by simp) ?_
    refine AllReadyH.cons (o := ⟨_, _, _, _, _, _⟩) rfl (fun K hK => ?_) (AllReadyH.cons (o := ⟨_, _, _, _, _, _⟩) rfl (fun K hK => ?_) (AllReadyH.nil))
    · go_simp
      (go_at_call 102; (with_reducible refine (KN.out _).mono ?_); rintro e w3 ⟨xb, rfl, hu, cb⟩; have HW := Lib.hid (HW.out.trans hu); have HX := Lib.hid (keepL6 (Lib.hid hu) hHeld); have r_1_0 := hu.keep _ _ _ r_1_0; have r_1_1 := hu.keep _ _ _ r_1_1; have r_1_2 := hu.keep _ _ _ r_1_2; have r_1_3 := hu.keep _ _ _ r_1_3; have r_1_4 := hu.keep _ _ _ r_1_4; have r_1_5 := hu.keep _ _ _ r_1_5; have CB := Lib.hid cb; clear cb; clear hu)
      (try go_wp2_with fail)
      refine hK.out _ _ ?hB83 (fun hHeld => ?_)
      case hB83 => (with_reducible exact HX.out)
      clear hK K
      (try simp only [Act.put, List.setIfInBounds_toArray, List.set_cons_zero, List.set_cons_succ])
      refine wpAnyH_ready (rs := [6, 10]) (by kernel_rfl) (by simp) ?_
      refine AllReadyH.cons (o := ⟨_, _, _, _, _, _⟩) rfl (fun K hK => ?_) (AllReadyH.cons (o := ⟨_, _, _, _, _, _⟩) rfl (fun K hK => ?_) (AllReadyH.nil))
      · go_simp
        (go_at_call 72; (with_reducible refine (KA.out xb _ hHeld.1 CB.out).mono ?_); have hlr_ := World.block_lt_of_cell? _ _ r_1_0; have hsz_ := hHeld.1.size; rintro e w4 ⟨A5, n5, k5, rfl, hn5, hk5, hnw, hu, hM⟩; have HW := Lib.hid (HW.out.trans hu); have HX := Lib.hid (keepL6 (Lib.hid hu) hHeld); have r_1_0 := hu.keep _ _ _ r_1_0; have r_1_1 := hu.keep _ _ _ r_1_1; have r_1_2 := hu.keep _ _ _ r_1_2; have r_1_3 := hu.keep _ _ _ r_1_3; have r_1_4 := hu.keep _ _ _ r_1_4; have r_1_5 := hu.keep _ _ _ r_1_5; have HM5 := Lib.hid hM; have HNW := Lib.hid hnw; clear hM hnw; clear hu)
        (try go_wp2_with fail)
        refine hK.out _ _ ?hB84 (fun hHeld => ?_)
        case hB84 => (with_reducible exact HX.out)
        clear hK K
        (try simp only [Act.put, List.setIfInBounds_toArray, List.set_cons_zero, List.set_cons_succ])
        refine wpAnyH_take (i := 7) (oi := ⟨_, _, _, _, _, _⟩) (v := ?v85) rfl (by kernel_rfl) (by kernel_rfl) (by kernel_rfl) (fun _ _ _ h => h) (Or.inl ⟨by rfl, ?hy85⟩) (by assumption) ?_
        case hy85 => (intro w hSw; (try dsimp only at hSw); go_simp; (try (with_reducible rfl)))
        (try simp only [Act.put, List.setIfInBounds_toArray, List.set_cons_zero, List.set_cons_succ])
        refine wpAnyH_take (i := 8) (oi := ⟨_, _, _, _, _, _⟩) (v := ?v86) rfl (by kernel_rfl) (by kernel_rfl) (by kernel_rfl) (fun _ _ _ h => h) (Or.inl ⟨by rfl, ?hy86⟩) (by assumption) ?_
        case hy86 => (intro w hSw; (try dsimp only at hSw); go_simp; (try (with_reducible rfl)))
        (try simp only [Act.put, List.setIfInBounds_toArray, List.set_cons_zero, List.set_cons_succ])
        refine wpAnyH_take (i := 9) (oi := ⟨_, _, _, _, _, _⟩) (v := ?v87) rfl (by kernel_rfl) (by kernel_rfl) (by kernel_rfl) (fun _ _ _ h => h) (Or.inl ⟨by rfl, ?hy87⟩) (by assumption) ?_
        case hy87 => (intro w hSw; (try dsimp only at hSw); go_simp; (try (with_reducible rfl)))
        (try simp only [Act.put, List.setIfInBounds_toArray, List.set_cons_zero, List.set_cons_succ])
        refine wpAnyH_ready (rs := [10]) (by kernel_rfl) (by simp) ?_
        refine AllReadyH.cons (o := ⟨_, _, _, _, _, _⟩) rfl (fun K hK => ?_) (AllReadyH.nil)
        go_simp
        refine hK.out _ _ ?hB88 (fun hHeld => ?_)
        case hB88 => (with_reducible exact keepL6 (Lib.hid ((Up.refl _).alloc _ _)) HX.out)
        clear hK K
        (try simp only [Act.put, List.setIfInBounds_toArray, List.set_cons_zero, List.set_cons_succ])
        refine wpAnyH_ready (rs := [11]) (by kernel_rfl) (by simp) ?_
        refine AllReadyH.cons (o := ⟨_, _, _, _, _, _⟩) rfl (fun K hK => ?_) (AllReadyH.nil)
        go_simp
        refine hK.out _ _ ?hB89 (fun hHeld => ?_)
        case hB89 => (with_reducible exact keepL6 (Lib.hid ((Up.refl _).alloc _ _)) HX.out)
        clear hK K
        (try simp only [Act.put, List.setIfInBounds_toArray, List.set_cons_zero, List.set_cons_succ])
        refine wpAnyH_take (i := 12) (oi := ⟨_, _, _, _, _, _⟩) (v := ?v90) rfl (by kernel_rfl) (by kernel_rfl) (by kernel_rfl) (fun _ _ _ h => h) (Or.inl ⟨by rfl, ?hy90⟩) (by assumption) ?_
        case hy90 => (intro w hSw; (try dsimp only at hSw); go_simp; (try (with_reducible rfl)))
        (try simp only [Act.put, List.setIfInBounds_toArray, List.set_cons_zero, List.set_cons_succ])
        refine wpAnyH_done (by kernel_rfl) ?_ _
        have hlt_ : w.heap.size + 1 < w4.heap.size := World.block_lt_of_cell? _ _ r_1_0
        obtain ⟨wa, hwa⟩ : ∃ z, z = w4.alloc (.cells #[.int .i64 4, .int .i64 v, .int .i64 q, .int .i64 c, .int .i64 now, .int .i64 (seq + 1), .slice A5 n5 k5] 26) := ⟨_, rfl⟩
        rw [← hwa]
        have hv : Up w4 wa := by rw [hwa]; exact (Up.refl _).alloc _ _
        have g0 : wa.cell? ⟨w4.heap.size, 0, none⟩ = some (.int .i64 4) := by rw [hwa]; simp [go_sem]
        have g1 : wa.cell? ⟨w4.heap.size, 1, none⟩ = some (.int .i64 v) := by rw [hwa]; simp [go_sem]
        have g2 : wa.cell? ⟨w4.heap.size, 2, none⟩ = some (.int .i64 q) := by rw [hwa]; simp [go_sem]
        have g3 : wa.cell? ⟨w4.heap.size, 3, none⟩ = some (.int .i64 c) := by rw [hwa]; simp [go_sem]
        have g4 : wa.cell? ⟨w4.heap.size, 4, none⟩ = some (.int .i64 now) := by rw [hwa]; simp [go_sem]
        have g5 : wa.cell? ⟨w4.heap.size, 5, none⟩ = some (.int .i64 (seq + 1)) := by rw [hwa]; simp [go_sem]
        have g6 : wa.cell? ⟨w4.heap.size, 6, none⟩ = some (.slice A5 n5 k5) := by rw [hwa]; simp [go_sem]
        have r_1_0 := hv.keep _ _ _ r_1_0
        have r_1_1 := hv.keep _ _ _ r_1_1
        have r_1_2 := hv.keep _ _ _ r_1_2
        have r_1_3 := hv.keep _ _ _ r_1_3
        have r_1_4 := hv.keep _ _ _ r_1_4
        have r_1_5 := hv.keep _ _ _ r_1_5
        have HW := Lib.hid (HW.out.trans hv)
        have HM := Lib.hid (HM5.out.up hv)
        clear hwa hv HX HSS hHeld
        have hlra := World.block_lt_of_cell? _ _ r_1_0
        go_wp2_with (go_at_call 90; (with_reducible refine (KF.out _ _ _ _).mono ?_); rintro e w5 ⟨rfl, hu⟩; have HW := Lib.hid (HW.out.trans hu); have r_1_0 := hu.keep _ _ _ r_1_0; have r_1_1 := hu.keep _ _ _ r_1_1; have r_1_2 := hu.keep _ _ _ r_1_2; have r_1_3 := hu.keep _ _ _ r_1_3; have r_1_4 := hu.keep _ _ _ r_1_4; have r_1_5 := hu.keep _ _ _ r_1_5; have z0 := HW.out.ownGe (g := w.heap.size + 1) (by omega) 0; have z1 := HW.out.ownGe (g := w.heap.size + 1) (by omega) 1; have z2 := HW.out.ownGe (g := w.heap.size + 1) (by omega) 2; have z3 := HW.out.ownGe (g := w.heap.size + 1) (by omega) 3; have z4 := HW.out.ownGe (g := w.heap.size + 1) (by omega) 4; have z5 := HW.out.ownGe (g := w.heap.size + 1) (by omega) 5; have HM := Lib.hid (HM.out.up hu); clear hu)
        refine bodyPost_ret (v := .tuple #[.agg #[.int .i64 v, .int .i64 q, .int .i64 c, .int .i64 now, .int .i64 (seq + 1), .slice A5 n5 k5], .int .i64 0]) (by simp [results, Try.results53, go_sem, r_1_0, r_1_1, r_1_2, r_1_3, r_1_4, r_1_5]) rfl ⟨A5, n5, k5, rfl, hn5, hk5, fun b_ o_ h_ => Nat.le_trans hsz_ (HNW.out b_ o_ h_), ?_, ?_⟩
        · exact HW.out.setP6 (by omega)
        · exact HM.out.offP6 (fun b_ o_ h_ => by have := HNW.out b_ o_ h_; omega) _ _ _ _ _ _
      · have hlt_ : w.heap.size + 1 < w3.heap.size := World.block_lt_of_cell? _ _ r_1_0
        have g0 : (w3.alloc (.cells #[.int .i64 0, .int .i64 0, .int .i64 0, .int .i64 0, .int .i64 0, .int .i64 0, .slice none 0 0] 26)).cell? ⟨w3.heap.size, 0, none⟩ = some (.int .i64 0) := by simp [go_sem]
        have g1 : (w3.alloc (.cells #[.int .i64 0, .int .i64 0, .int .i64 0, .int .i64 0, .int .i64 0, .int .i64 0, .slice none 0 0] 26)).cell? ⟨w3.heap.size, 1, none⟩ = some (.int .i64 0) := by simp [go_sem]
        have g2 : (w3.alloc (.cells #[.int .i64 0, .int .i64 0, .int .i64 0, .int .i64 0, .int .i64 0, .int .i64 0, .slice none 0 0] 26)).cell? ⟨w3.heap.size, 2, none⟩ = some (.int .i64 0) := by simp [go_sem]
        have g3 : (w3.alloc (.cells #[.int .i64 0, .int .i64 0, .int .i64 0, .int .i64 0, .int .i64 0, .int .i64 0, .slice none 0 0] 26)).cell? ⟨w3.heap.size, 3, none⟩ = some (.int .i64 0) := by simp [go_sem]
        have g4 : (w3.alloc (.cells #[.int .i64 0, .int .i64 0, .int .i64 0, .int .i64 0, .int .i64 0, .int .i64 0, .slice none 0 0] 26)).cell? ⟨w3.heap.size, 4, none⟩ = some (.int .i64 0) := by simp [go_sem]
        have g5 : (w3.alloc (.cells #[.int .i64 0, .int .i64 0, .int .i64 0, .int .i64 0, .int .i64 0, .int .i64 0, .slice none 0 0] 26)).cell? ⟨w3.heap.size, 5, none⟩ = some (.int .i64 0) := by simp [go_sem]
        have g6 : (w3.alloc (.cells #[.int .i64 0, .int .i64 0, .int .i64 0, .int .i64 0, .int .i64 0, .int .i64 0, .slice none 0 0] 26)).cell? ⟨w3.heap.size, 6, none⟩ = some (.slice none 0 0) := by simp [go_sem]
        have r_1_0 := ((Up.refl w3).alloc #[.int .i64 0, .int .i64 0, .int .i64 0, .int .i64 0, .int .i64 0, .int .i64 0, .slice none 0 0] 26).keep _ _ _ r_1_0
        have r_1_1 := ((Up.refl w3).alloc #[.int .i64 0, .int .i64 0, .int .i64 0, .int .i64 0, .int .i64 0, .int .i64 0, .slice none 0 0] 26).keep _ _ _ r_1_1
        have r_1_2 := ((Up.refl w3).alloc #[.int .i64 0, .int .i64 0, .int .i64 0, .int .i64 0, .int .i64 0, .int .i64 0, .slice none 0 0] 26).keep _ _ _ r_1_2
        have r_1_3 := ((Up.refl w3).alloc #[.int .i64 0, .int .i64 0, .int .i64 0, .int .i64 0, .int .i64 0, .int .i64 0, .slice none 0 0] 26).keep _ _ _ r_1_3
        have r_1_4 := ((Up.refl w3).alloc #[.int .i64 0, .int .i64 0, .int .i64 0, .int .i64 0, .int .i64 0, .int .i64 0, .slice none 0 0] 26).keep _ _ _ r_1_4
        have r_1_5 := ((Up.refl w3).alloc #[.int .i64 0, .int .i64 0, .int .i64 0, .int .i64 0, .int .i64 0, .int .i64 0, .slice none 0 0] 26).keep _ _ _ r_1_5
        have HW := Lib.hid (HW.out.alloc #[.int .i64 0, .int .i64 0, .int .i64 0, .int .i64 0, .int .i64 0, .int .i64 0, .slice none 0 0] 26)
        have CB := Lib.hid (((Up.refl w3).alloc #[.int .i64 0, .int .i64 0, .int .i64 0, .int .i64 0, .int .i64 0, .int .i64 0, .slice none 0 0] 26).keep _ _ _ CB.out)
        go_simp
        refine hK.out _ _ ?hB91 (fun hHeld => ?_)
        case hB91 => (with_reducible exact keepL6 (Lib.hid ((Up.refl _).alloc _ _)) hHeld)
        clear hK K
        (try simp only [Act.put, List.setIfInBounds_toArray, List.set_cons_zero, List.set_cons_succ])
        refine wpAnyH_ready (rs := [6]) (by kernel_rfl) (by simp) ?_
        refine AllReadyH.cons (o := ⟨_, _, _, _, _, _⟩) rfl (fun K hK => ?_) (AllReadyH.nil)
        go_simp
        (go_at_call 72; (with_reducible refine (KA.out xb _ hHeld.1 CB.out).mono ?_); have hlr_ := World.block_lt_of_cell? _ _ r_1_0; have hsz_ := hHeld.1.size; have htb_ := World.block_lt_of_cell? _ _ g0; rintro e w4 ⟨A5, n5, k5, rfl, hn5, hk5, hnw, hu, hM⟩; have HW := Lib.hid (HW.out.trans hu); have HX := Lib.hid (keepL6 (Lib.hid hu) hHeld); have r_1_0 := hu.keep _ _ _ r_1_0; have r_1_1 := hu.keep _ _ _ r_1_1; have r_1_2 := hu.keep _ _ _ r_1_2; have r_1_3 := hu.keep _ _ _ r_1_3; have r_1_4 := hu.keep _ _ _ r_1_4; have r_1_5 := hu.keep _ _ _ r_1_5; have g0 := hu.keep _ _ _ g0; have g1 := hu.keep _ _ _ g1; have g2 := hu.keep _ _ _ g2; have g3 := hu.keep _ _ _ g3; have g4 := hu.keep _ _ _ g4; have g5 := hu.keep _ _ _ g5; have g6 := hu.keep _ _ _ g6; have fz0 := HW.out.ownGe (g := w3.heap.size) (by omega) 0; have fz1 := HW.out.ownGe (g := w3.heap.size) (by omega) 1; have fz2 := HW.out.ownGe (g := w3.heap.size) (by omega) 2; have fz3 := HW.out.ownGe (g := w3.heap.size) (by omega) 3; have fz4 := HW.out.ownGe (g := w3.heap.size) (by omega) 4; have fz5 := HW.out.ownGe (g := w3.heap.size) (by omega) 5; have fz6 := HW.out.ownGe (g := w3.heap.size) (by omega) 6; have HM5 := Lib.hid hM; have HNW := Lib.hid hnw; clear hM hnw; clear hu)
        (try go_wp2_with fail)
        refine hK.out _ _ ?hB92 (fun hHeld => ?_)
        case hB92 => (with_reducible exact HX.out)
        clear hK K
        (try simp only [Act.put, List.setIfInBounds_toArray, List.set_cons_zero, List.set_cons_succ])
        refine wpAnyH_take (i := 7) (oi := ⟨_, _, _, _, _, _⟩) (v := ?v93) rfl (by kernel_rfl) (by kernel_rfl) (by kernel_rfl) (fun _ _ _ h => h) (Or.inl ⟨by rfl, ?hy93⟩) (by assumption) ?_
        case hy93 => (intro w hSw; (try dsimp only at hSw); go_simp; (try (with_reducible rfl)))
        (try simp only [Act.put, List.setIfInBounds_toArray, List.set_cons_zero, List.set_cons_succ])
        refine wpAnyH_take (i := 8) (oi := ⟨_, _, _, _, _, _⟩) (v := ?v94) rfl (by kernel_rfl) (by kernel_rfl) (by kernel_rfl) (fun _ _ _ h => h) (Or.inl ⟨by rfl, ?hy94⟩) (by assumption) ?_
        case hy94 => (intro w hSw; (try dsimp only at hSw); go_simp; (try (with_reducible rfl)))
        (try simp only [Act.put, List.setIfInBounds_toArray, List.set_cons_zero, List.set_cons_succ])
        refine wpAnyH_take (i := 9) (oi := ⟨_, _, _, _, _, _⟩) (v := ?v95) rfl (by kernel_rfl) (by kernel_rfl) (by kernel_rfl) (fun _ _ _ h => h) (Or.inl ⟨by rfl, ?hy95⟩) (by assumption) ?_
        case hy95 => (intro w hSw; (try dsimp only at hSw); go_simp; (try (with_reducible rfl)))
        (try simp only [Act.put, List.setIfInBounds_toArray, List.set_cons_zero, List.set_cons_succ])
        refine wpAnyH_ready (rs := [11]) (by kernel_rfl) (by simp) ?_
        refine AllReadyH.cons (o := ⟨_, _, _, _, _, _⟩) rfl (fun K hK => ?_) (AllReadyH.nil)
        go_simp
        refine hK.out _ _ ?hB96 (fun hHeld => ?_)
        case hB96 => (with_reducible exact set7L6 hHeld (by omega) (by omega))
        clear hK K
        (try simp only [Act.put, List.setIfInBounds_toArray, List.set_cons_zero, List.set_cons_succ])
        refine wpAnyH_take (i := 12) (oi := ⟨_, _, _, _, _, _⟩) (v := ?v97) rfl (by kernel_rfl) (by kernel_rfl) (by kernel_rfl) (fun _ _ _ h => h) (Or.inl ⟨by rfl, ?hy97⟩) (by assumption) ?_
        case hy97 => (intro w hSw; (try dsimp only at hSw); go_simp; (try (with_reducible rfl)))
        (try simp only [Act.put, List.setIfInBounds_toArray, List.set_cons_zero, List.set_cons_succ])
        refine wpAnyH_done (by kernel_rfl) ?_ _
        obtain ⟨wa, hwa⟩ : ∃ z, z = ((((((w4.setCell ⟨w3.heap.size, 0, none⟩ (.int .i64 4)).setCell ⟨w3.heap.size, 1, none⟩ (.int .i64 v)).setCell ⟨w3.heap.size, 2, none⟩ (.int .i64 q)).setCell ⟨w3.heap.size, 3, none⟩ (.int .i64 c)).setCell ⟨w3.heap.size, 4, none⟩ (.int .i64 now)).setCell ⟨w3.heap.size, 5, none⟩ (.int .i64 (seq + 1))).setCell ⟨w3.heap.size, 6, none⟩ (.slice A5 n5 k5) := ⟨_, rfl⟩
        rw [← hwa]
        obtain ⟨g0_, g1_, g2_, g3_, g4_, g5_, g6_⟩ := cells7 (w := w4) (p := w3.heap.size) (v0 := .int .i64 4) (v1 := .int .i64 v) (v2 := .int .i64 q) (v3 := .int .i64 c) (v4 := .int .i64 now) (v5 := .int .i64 (seq + 1)) (v6 := .slice A5 n5 k5) g0 g1 g2 g3 g4 g5 g6
        rw [← hwa] at g0_ g1_ g2_ g3_ g4_ g5_ g6_
        have r_1_0_ : wa.cell? ⟨w.heap.size + 1, 0, none⟩ = some (.int .i64 0) := by rw [hwa]; exact far7 (w := w4) r_1_0 (by omega)
        have r_1_1_ : wa.cell? ⟨w.heap.size + 1, 1, none⟩ = some (.int .i64 0) := by rw [hwa]; exact far7 (w := w4) r_1_1 (by omega)
        have r_1_2_ : wa.cell? ⟨w.heap.size + 1, 2, none⟩ = some (.int .i64 0) := by rw [hwa]; exact far7 (w := w4) r_1_2 (by omega)
        have r_1_3_ : wa.cell? ⟨w.heap.size + 1, 3, none⟩ = some (.int .i64 0) := by rw [hwa]; exact far7 (w := w4) r_1_3 (by omega)
        have r_1_4_ : wa.cell? ⟨w.heap.size + 1, 4, none⟩ = some (.int .i64 0) := by rw [hwa]; exact far7 (w := w4) r_1_4 (by omega)
        have r_1_5_ : wa.cell? ⟨w.heap.size + 1, 5, none⟩ = some (.slice none 0 0) := by rw [hwa]; exact far7 (w := w4) r_1_5 (by omega)
        have HW := Lib.hid (show Up w wa by rw [hwa]; exact HW.out.set7 (by omega))
        have HM := Lib.hid (show SG cM wa A5 n5 Z by rw [hwa]; exact HM5.out.off7 (fun b_ o_ h_ => by have := HNW.out b_ o_ h_; omega) _ _ _ _ _ _ _)
        clear hwa HX HSS hHeld fz0 fz1 fz2 fz3 fz4 fz5 fz6 g0 g1 g2 g3 g4 g5 g6 r_1_0 r_1_1 r_1_2 r_1_3 r_1_4 r_1_5
        have g0 := g0_
        have g1 := g1_
        have g2 := g2_
        have g3 := g3_
        have g4 := g4_
        have g5 := g5_
        have g6 := g6_
        have r_1_0 := r_1_0_
        have r_1_1 := r_1_1_
        have r_1_2 := r_1_2_
        have r_1_3 := r_1_3_
        have r_1_4 := r_1_4_
        have r_1_5 := r_1_5_
        have hlra := World.block_lt_of_cell? _ _ r_1_0
        go_wp2_with (go_at_call 90; (with_reducible refine (KF.out _ _ _ _).mono ?_); rintro e w5 ⟨rfl, hu⟩; have HW := Lib.hid (HW.out.trans hu); have r_1_0 := hu.keep _ _ _ r_1_0; have r_1_1 := hu.keep _ _ _ r_1_1; have r_1_2 := hu.keep _ _ _ r_1_2; have r_1_3 := hu.keep _ _ _ r_1_3; have r_1_4 := hu.keep _ _ _ r_1_4; have r_1_5 := hu.keep _ _ _ r_1_5; have z0 := HW.out.ownGe (g := w.heap.size + 1) (by omega) 0; have z1 := HW.out.ownGe (g := w.heap.size + 1) (by omega) 1; have z2 := HW.out.ownGe (g := w.heap.size + 1) (by omega) 2; have z3 := HW.out.ownGe (g := w.heap.size + 1) (by omega) 3; have z4 := HW.out.ownGe (g := w.heap.size + 1) (by omega) 4; have z5 := HW.out.ownGe (g := w.heap.size + 1) (by omega) 5; have HM := Lib.hid (HM.out.up hu); clear hu)
        refine bodyPost_ret (v := .tuple #[.agg #[.int .i64 v, .int .i64 q, .int .i64 c, .int .i64 now, .int .i64 (seq + 1), .slice A5 n5 k5], .int .i64 0]) (by simp [results, Try.results53, go_sem, r_1_0, r_1_1, r_1_2, r_1_3, r_1_4, r_1_5]) rfl ⟨A5, n5, k5, rfl, hn5, hk5, fun b_ o_ h_ => Nat.le_trans hsz_ (HNW.out b_ o_ h_), ?_, ?_⟩
        · exact HW.out.setP6 (by omega)
        · exact HM.out.offP6 (fun b_ o_ h_ => by have := HNW.out b_ o_ h_; omega) _ _ _ _ _ _
    · have hlt_ : w.heap.size + 1 < w2.heap.size := World.block_lt_of_cell? _ _ r_1_0
      have g0 : (w2.alloc (.cells #[.int .i64 0, .int .i64 0, .int .i64 0, .int .i64 0, .int .i64 0, .int .i64 0, .slice none 0 0] 26)).cell? ⟨w2.heap.size, 0, none⟩ = some (.int .i64 0) := by simp [go_sem]
      have g1 : (w2.alloc (.cells #[.int .i64 0, .int .i64 0, .int .i64 0, .int .i64 0, .int .i64 0, .int .i64 0, .slice none 0 0] 26)).cell? ⟨w2.heap.size, 1, none⟩ = some (.int .i64 0) := by simp [go_sem]
      have g2 : (w2.alloc (.cells #[.int .i64 0, .int .i64 0, .int .i64 0, .int .i64 0, .int .i64 0, .int .i64 0, .slice none 0 0] 26)).cell? ⟨w2.heap.size, 2, none⟩ = some (.int .i64 0) := by simp [go_sem]
      have g3 : (w2.alloc (.cells #[.int .i64 0, .int .i64 0, .int .i64 0, .int .i64 0, .int .i64 0, .int .i64 0, .slice none 0 0] 26)).cell? ⟨w2.heap.size, 3, none⟩ = some (.int .i64 0) := by simp [go_sem]
      have g4 : (w2.alloc (.cells #[.int .i64 0, .int .i64 0, .int .i64 0, .int .i64 0, .int .i64 0, .int .i64 0, .slice none 0 0] 26)).cell? ⟨w2.heap.size, 4, none⟩ = some (.int .i64 0) := by simp [go_sem]
      have g5 : (w2.alloc (.cells #[.int .i64 0, .int .i64 0, .int .i64 0, .int .i64 0, .int .i64 0, .int .i64 0, .slice none 0 0] 26)).cell? ⟨w2.heap.size, 5, none⟩ = some (.int .i64 0) := by simp [go_sem]
      have g6 : (w2.alloc (.cells #[.int .i64 0, .int .i64 0, .int .i64 0, .int .i64 0, .int .i64 0, .int .i64 0, .slice none 0 0] 26)).cell? ⟨w2.heap.size, 6, none⟩ = some (.slice none 0 0) := by simp [go_sem]
      have r_1_0 := ((Up.refl w2).alloc #[.int .i64 0, .int .i64 0, .int .i64 0, .int .i64 0, .int .i64 0, .int .i64 0, .slice none 0 0] 26).keep _ _ _ r_1_0
      have r_1_1 := ((Up.refl w2).alloc #[.int .i64 0, .int .i64 0, .int .i64 0, .int .i64 0, .int .i64 0, .int .i64 0, .slice none 0 0] 26).keep _ _ _ r_1_1
      have r_1_2 := ((Up.refl w2).alloc #[.int .i64 0, .int .i64 0, .int .i64 0, .int .i64 0, .int .i64 0, .int .i64 0, .slice none 0 0] 26).keep _ _ _ r_1_2
      have r_1_3 := ((Up.refl w2).alloc #[.int .i64 0, .int .i64 0, .int .i64 0, .int .i64 0, .int .i64 0, .int .i64 0, .slice none 0 0] 26).keep _ _ _ r_1_3
      have r_1_4 := ((Up.refl w2).alloc #[.int .i64 0, .int .i64 0, .int .i64 0, .int .i64 0, .int .i64 0, .int .i64 0, .slice none 0 0] 26).keep _ _ _ r_1_4
      have r_1_5 := ((Up.refl w2).alloc #[.int .i64 0, .int .i64 0, .int .i64 0, .int .i64 0, .int .i64 0, .int .i64 0, .slice none 0 0] 26).keep _ _ _ r_1_5
      have HW := Lib.hid (HW.out.alloc #[.int .i64 0, .int .i64 0, .int .i64 0, .int .i64 0, .int .i64 0, .int .i64 0, .slice none 0 0] 26)
      go_simp
      refine hK.out _ _ ?hB98 (fun hHeld => ?_)
      case hB98 => (with_reducible exact keepL6 (Lib.hid ((Up.refl _).alloc _ _)) hHeld)
      clear hK K
      (try simp only [Act.put, List.setIfInBounds_toArray, List.set_cons_zero, List.set_cons_succ])
      refine wpAnyH_ready (rs := [5]) (by kernel_rfl) (by simp) ?_
      refine AllReadyH.cons (o := ⟨_, _, _, _, _, _⟩) rfl (fun K hK => ?_) (AllReadyH.nil)
      go_simp
      (go_at_call 102; (with_reducible refine (KN.out _).mono ?_); rintro e w3 ⟨xb, rfl, hu, cb⟩; have HW := Lib.hid (HW.out.trans hu); have HX := Lib.hid (keepL6 (Lib.hid hu) hHeld); have r_1_0 := hu.keep _ _ _ r_1_0; have r_1_1 := hu.keep _ _ _ r_1_1; have r_1_2 := hu.keep _ _ _ r_1_2; have r_1_3 := hu.keep _ _ _ r_1_3; have r_1_4 := hu.keep _ _ _ r_1_4; have r_1_5 := hu.keep _ _ _ r_1_5; have g0 := hu.keep _ _ _ g0; have g1 := hu.keep _ _ _ g1; have g2 := hu.keep _ _ _ g2; have g3 := hu.keep _ _ _ g3; have g4 := hu.keep _ _ _ g4; have g5 := hu.keep _ _ _ g5; have g6 := hu.keep _ _ _ g6; have fz0 := HW.out.ownGe (g := w2.heap.size) (by omega) 0; have fz1 := HW.out.ownGe (g := w2.heap.size) (by omega) 1; have fz2 := HW.out.ownGe (g := w2.heap.size) (by omega) 2; have fz3 := HW.out.ownGe (g := w2.heap.size) (by omega) 3; have fz4 := HW.out.ownGe (g := w2.heap.size) (by omega) 4; have fz5 := HW.out.ownGe (g := w2.heap.size) (by omega) 5; have fz6 := HW.out.ownGe (g := w2.heap.size) (by omega) 6; have CB := Lib.hid cb; clear cb; clear hu)
      (try go_wp2_with fail)
      refine hK.out _ _ ?hB99 (fun hHeld => ?_)
      case hB99 => (with_reducible exact HX.out)
      clear hK K
      (try simp only [Act.put, List.setIfInBounds_toArray, List.set_cons_zero, List.set_cons_succ])
      refine wpAnyH_ready (rs := [6]) (by kernel_rfl) (by simp) ?_
      refine AllReadyH.cons (o := ⟨_, _, _, _, _, _⟩) rfl (fun K hK => ?_) (AllReadyH.nil)
      go_simp
      (go_at_call 72; (with_reducible refine (KA.out xb _ hHeld.1 CB.out).mono ?_); have hlr_ := World.block_lt_of_cell? _ _ r_1_0; have hsz_ := hHeld.1.size; have htb_ := World.block_lt_of_cell? _ _ g0; rintro e w4 ⟨A5, n5, k5, rfl, hn5, hk5, hnw, hu, hM⟩; have HW := Lib.hid (HW.out.trans hu); have HX := Lib.hid (keepL6 (Lib.hid hu) hHeld); have r_1_0 := hu.keep _ _ _ r_1_0; have r_1_1 := hu.keep _ _ _ r_1_1; have r_1_2 := hu.keep _ _ _ r_1_2; have r_1_3 := hu.keep _ _ _ r_1_3; have r_1_4 := hu.keep _ _ _ r_1_4; have r_1_5 := hu.keep _ _ _ r_1_5; have g0 := hu.keep _ _ _ g0; have g1 := hu.keep _ _ _ g1; have g2 := hu.keep _ _ _ g2; have g3 := hu.keep _ _ _ g3; have g4 := hu.keep _ _ _ g4; have g5 := hu.keep _ _ _ g5; have g6 := hu.keep _ _ _ g6; have fz0 := HW.out.ownGe (g := w2.heap.size) (by omega) 0; have fz1 := HW.out.ownGe (g := w2.heap.size) (by omega) 1; have fz2 := HW.out.ownGe (g := w2.heap.size) (by omega) 2; have fz3 := HW.out.ownGe (g := w2.heap.size) (by omega) 3; have fz4 := HW.out.ownGe (g := w2.heap.size) (by omega) 4; have fz5 := HW.out.ownGe (g := w2.heap.size) (by omega) 5; have fz6 := HW.out.ownGe (g := w2.heap.size) (by omega) 6; have HM5 := Lib.hid hM; have HNW := Lib.hid hnw; clear hM hnw; clear hu)
      (try go_wp2_with fail)
      refine hK.out _ _ ?hB100 (fun hHeld => ?_)
      case hB100 => (with_reducible exact HX.out)
      clear hK K
      (try simp only [Act.put, List.setIfInBounds_toArray, List.set_cons_zero, List.set_cons_succ])
      refine wpAnyH_take (i := 7) (oi := ⟨_, _, _, _, _, _⟩) (v := ?v101) rfl (by kernel_rfl) (by kernel_rfl) (by kernel_rfl) (fun _ _ _ h => h) (Or.inl ⟨by rfl, ?hy101⟩) (by assumption) ?_
      case hy101 => (intro w hSw; (try dsimp only at hSw); go_simp; (try (with_reducible rfl)))
      (try simp only [Act.put, List.setIfInBounds_toArray, List.set_cons_zero, List.set_cons_succ])
      refine wpAnyH_take (i := 8) (oi := ⟨_, _, _, _, _, _⟩) (v := ?v102) rfl (by kernel_rfl) (by kernel_rfl) (by kernel_rfl) (fun _ _ _ h => h) (Or.inl ⟨by rfl, ?hy102⟩) (by assumption) ?_
      case hy102 => (intro w hSw; (try dsimp only at hSw); go_simp; (try (with_reducible rfl)))
      (try simp only [Act.put, List.setIfInBounds_toArray, List.set_cons_zero, List.set_cons_succ])
      refine wpAnyH_take (i := 9) (oi := ⟨_, _, _, _, _, _⟩) (v := ?v103) rfl (by kernel_rfl) (by kernel_rfl) (by kernel_rfl) (fun _ _ _ h => h) (Or.inl ⟨by rfl, ?hy103⟩) (by assumption) ?_
      case hy103 => (intro w hSw; (try dsimp only at hSw); go_simp; (try (with_reducible rfl)))
      (try simp only [Act.put, List.setIfInBounds_toArray, List.set_cons_zero, List.set_cons_succ])
      refine wpAnyH_ready (rs := [11]) (by kernel_rfl) (by simp) ?_
      refine AllReadyH.cons (o := ⟨_, _, _, _, _, _⟩) rfl (fun K hK => ?_) (AllReadyH.nil)
      go_simp
      refine hK.out _ _ ?hB104 (fun hHeld => ?_)
      case hB104 => (with_reducible exact set7L6 hHeld (by omega) (by omega))
      clear hK K
      (try simp only [Act.put, List.setIfInBounds_toArray, List.set_cons_zero, List.set_cons_succ])
      refine wpAnyH_take (i := 12) (oi := ⟨_, _, _, _, _, _⟩) (v := ?v105) rfl (by kernel_rfl) (by kernel_rfl) (by kernel_rfl) (fun _ _ _ h => h) (Or.inl ⟨by rfl, ?hy105⟩) (by assumption) ?_
      case hy105 => (intro w hSw; (try dsimp only at hSw); go_simp; (try (with_reducible rfl)))
      (try simp only [Act.put, List.setIfInBounds_toArray, List.set_cons_zero, List.set_cons_succ])
      refine wpAnyH_done (by kernel_rfl) ?_ _
      obtain ⟨wa, hwa⟩ : ∃ z, z = ((((((w4.setCell ⟨w2.heap.size, 0, none⟩ (.int .i64 4)).setCell ⟨w2.heap.size, 1, none⟩ (.int .i64 v)).setCell ⟨w2.heap.size, 2, none⟩ (.int .i64 q)).setCell ⟨w2.heap.size, 3, none⟩ (.int .i64 c)).setCell ⟨w2.heap.size, 4, none⟩ (.int .i64 now)).setCell ⟨w2.heap.size, 5, none⟩ (.int .i64 (seq + 1))).setCell ⟨w2.heap.size, 6, none⟩ (.slice A5 n5 k5) := ⟨_, rfl⟩
      rw [← hwa]
      obtain ⟨g0_, g1_, g2_, g3_, g4_, g5_, g6_⟩ := cells7 (w := w4) (p := w2.heap.size) (v0 := .int .i64 4) (v1 := .int .i64 v) (v2 := .int .i64 q) (v3 := .int .i64 c) (v4 := .int .i64 now) (v5 := .int .i64 (seq + 1)) (v6 := .slice A5 n5 k5) g0 g1 g2 g3 g4 g5 g6
      rw [← hwa] at g0_ g1_ g2_ g3_ g4_ g5_ g6_
      have r_1_0_ : wa.cell? ⟨w.heap.size + 1, 0, none⟩ = some (.int .i64 0) := by rw [hwa]; exact far7 (w := w4) r_1_0 (by omega)
      have r_1_1_ : wa.cell? ⟨w.heap.size + 1, 1, none⟩ = some (.int .i64 0) := by rw [hwa]; exact far7 (w := w4) r_1_1 (by omega)
      have r_1_2_ : wa.cell? ⟨w.heap.size + 1, 2, none⟩ = some (.int .i64 0) := by rw [hwa]; exact far7 (w := w4) r_1_2 (by omega)
      have r_1_3_ : wa.cell? ⟨w.heap.size + 1, 3, none⟩ = some (.int .i64 0) := by rw [hwa]; exact far7 (w := w4) r_1_3 (by omega)
      have r_1_4_ : wa.cell? ⟨w.heap.size + 1, 4, none⟩ = some (.int .i64 0) := by rw [hwa]; exact far7 (w := w4) r_1_4 (by omega)
      have r_1_5_ : wa.cell? ⟨w.heap.size + 1, 5, none⟩ = some (.slice none 0 0) := by rw [hwa]; exact far7 (w := w4) r_1_5 (by omega)
      have HW := Lib.hid (show Up w wa by rw [hwa]; exact HW.out.set7 (by omega))
      have HM := Lib.hid (show SG cM wa A5 n5 Z by rw [hwa]; exact HM5.out.off7 (fun b_ o_ h_ => by have := HNW.out b_ o_ h_; omega) _ _ _ _ _ _ _)
      clear hwa HX HSS hHeld fz0 fz1 fz2 fz3 fz4 fz5 fz6 g0 g1 g2 g3 g4 g5 g6 r_1_0 r_1_1 r_1_2 r_1_3 r_1_4 r_1_5
      have g0 := g0_
      have g1 := g1_
      have g2 := g2_
      have g3 := g3_
      have g4 := g4_
      have g5 := g5_
      have g6 := g6_
      have r_1_0 := r_1_0_
      have r_1_1 := r_1_1_
      have r_1_2 := r_1_2_
      have r_1_3 := r_1_3_
      have r_1_4 := r_1_4_
      have r_1_5 := r_1_5_
      have hlra := World.block_lt_of_cell? _ _ r_1_0
      go_wp2_with (go_at_call 90; (with_reducible refine (KF.out _ _ _ _).mono ?_); rintro e w5 ⟨rfl, hu⟩; have HW := Lib.hid (HW.out.trans hu); have r_1_0 := hu.keep _ _ _ r_1_0; have r_1_1 := hu.keep _ _ _ r_1_1; have r_1_2 := hu.keep _ _ _ r_1_2; have r_1_3 := hu.keep _ _ _ r_1_3; have r_1_4 := hu.keep _ _ _ r_1_4; have r_1_5 := hu.keep _ _ _ r_1_5; have z0 := HW.out.ownGe (g := w.heap.size + 1) (by omega) 0; have z1 := HW.out.ownGe (g := w.heap.size + 1) (by omega) 1; have z2 := HW.out.ownGe (g := w.heap.size + 1) (by omega) 2; have z3 := HW.out.ownGe (g := w.heap.size + 1) (by omega) 3; have z4 := HW.out.ownGe (g := w.heap.size + 1) (by omega) 4; have z5 := HW.out.ownGe (g := w.heap.size + 1) (by omega) 5; have HM := Lib.hid (HM.out.up hu); clear hu)
      refine bodyPost_ret (v := .tuple #[.agg #[.int .i64 v, .int .i64 q, .int .i64 c, .int .i64 now, .int .i64 (seq + 1), .slice A5 n5 k5], .int .i64 0]) (by simp [results, Try.results53, go_sem, r_1_0, r_1_1, r_1_2, r_1_3, r_1_4, r_1_5]) rfl ⟨A5, n5, k5, rfl, hn5, hk5, fun b_ o_ h_ => Nat.le_trans hsz_ (HNW.out b_ o_ h_), ?_, ?_⟩
      · exact HW.out.setP6 (by omega)
      · exact HM.out.offP6 (fun b_ o_ h_ => by have := HNW.out b_ o_ h_; omega) _ _ _ _ _ _
  · have hlt_ : w.heap.size + 1 < w1.heap.size := World.block_lt_of_cell? _ _ r_1_0
    have g0 : (w1.alloc (.cells #[.int .i64 0, .int .i64 0, .int .i64 0, .int .i64 0, .int .i64 0, .int .i64 0, .slice none 0 0] 26)).cell? ⟨w1.heap.size, 0, none⟩ = some (.int .i64 0) := by simp [go_sem]
    have g1 : (w1.alloc (.cells #[.int .i64 0, .int .i64 0, .int .i64 0, .int .i64 0, .int .i64 0, .int .i64 0, .slice none 0 0] 26)).cell? ⟨w1.heap.size, 1, none⟩ = some (.int .i64 0) := by simp [go_sem]
    have g2 : (w1.alloc (.cells #[.int .i64 0, .int .i64 0, .int .i64 0, .int .i64 0, .int .i64 0, .int .i64 0, .slice none 0 0] 26)).cell? ⟨w1.heap.size, 2, none⟩ = some (.int .i64 0) := by simp [go_sem]
    have g3 : (w1.alloc (.cells #[.int .i64 0, .int .i64 0, .int .i64 0, .int .i64 0, .int .i64 0, .int .i64 0, .slice none 0 0] 26)).cell? ⟨w1.heap.size, 3, none⟩ = some (.int .i64 0) := by simp [go_sem]
    have g4 : (w1.alloc (.cells #[.int .i64 0, .int .i64 0, .int .i64 0, .int .i64 0, .int .i64 0, .int .i64 0, .slice none 0 0] 26)).cell? ⟨w1.heap.size, 4, none⟩ = some (.int .i64 0) := by simp [go_sem]
    have g5 : (w1.alloc (.cells #[.int .i64 0, .int .i64 0, .int .i64 0, .int .i64 0, .int .i64 0, .int .i64 0, .slice none 0 0] 26)).cell? ⟨w1.heap.size, 5, none⟩ = some (.int .i64 0) := by simp [go_sem]
    have g6 : (w1.alloc (.cells #[.int .i64 0, .int .i64 0, .int .i64 0, .int .i64 0, .int .i64 0, .int .i64 0, .slice none 0 0] 26)).cell? ⟨w1.heap.size, 6, none⟩ = some (.slice none 0 0) := by simp [go_sem]
    have r_1_0 := ((Up.refl w1).alloc #[.int .i64 0, .int .i64 0, .int .i64 0, .int .i64 0, .int .i64 0, .int .i64 0, .slice none 0 0] 26).keep _ _ _ r_1_0
    have r_1_1 := ((Up.refl w1).alloc #[.int .i64 0, .int .i64 0, .int .i64 0, .int .i64 0, .int .i64 0, .int .i64 0, .slice none 0 0] 26).keep _ _ _ r_1_1
    have r_1_2 := ((Up.refl w1).alloc #[.int .i64 0, .int .i64 0, .int .i64 0, .int .i64 0, .int .i64 0, .int .i64 0, .slice none 0 0] 26).keep _ _ _ r_1_2
    have r_1_3 := ((Up.refl w1).alloc #[.int .i64 0, .int .i64 0, .int .i64 0, .int .i64 0, .int .i64 0, .int .i64 0, .slice none 0 0] 26).keep _ _ _ r_1_3
    have r_1_4 := ((Up.refl w1).alloc #[.int .i64 0, .int .i64 0, .int .i64 0, .int .i64 0, .int .i64 0, .int .i64 0, .slice none 0 0] 26).keep _ _ _ r_1_4
    have r_1_5 := ((Up.refl w1).alloc #[.int .i64 0, .int .i64 0, .int .i64 0, .int .i64 0, .int .i64 0, .int .i64 0, .slice none 0 0] 26).keep _ _ _ r_1_5
    have HW := Lib.hid (HW.out.alloc #[.int .i64 0, .int .i64 0, .int .i64 0, .int .i64 0, .int .i64 0, .int .i64 0, .slice none 0 0] 26)
    go_simp
    refine hK.out _ _ ?hB106 (fun hHeld => ?_)
    case hB106 => (with_reducible exact keepL6 (Lib.hid ((Up.refl _).alloc _ _)) hHeld)
    clear hK K
    (try simp only [Act.put, List.setIfInBounds_toArray, List.set_cons_zero, List.set_cons_succ])
    refine wpAnyH_ready (rs := [1]) (by kernel_rfl) (by simp) ?_
    refine AllReadyH.cons (o := ⟨_, _, _, _, _, _⟩) rfl (fun K hK => ?_) (AllReadyH.nil)
    go_simp
    (go_at_call 101; (with_reducible refine (KT.out _).mono ?_); rintro e w2 ⟨rfl, hu⟩; have HW := Lib.hid (HW.out.trans hu); have HX := Lib.hid (keepL6 (Lib.hid hu) hHeld); have r_1_0 := hu.keep _ _ _ r_1_0; have r_1_1 := hu.keep _ _ _ r_1_1; have r_1_2 := hu.keep _ _ _ r_1_2; have r_1_3 := hu.keep _ _ _ r_1_3; have r_1_4 := hu.keep _ _ _ r_1_4; have r_1_5 := hu.keep _ _ _ r_1_5; have g0 := hu.keep _ _ _ g0; have g1 := hu.keep _ _ _ g1; have g2 := hu.keep _ _ _ g2; have g3 := hu.keep _ _ _ g3; have g4 := hu.keep _ _ _ g4; have g5 := hu.keep _ _ _ g5; have g6 := hu.keep _ _ _ g6; have fz0 := HW.out.ownGe (g := w1.heap.size) (by omega) 0; have fz1 := HW.out.ownGe (g := w1.heap.size) (by omega) 1; have fz2 := HW.out.ownGe (g := w1.heap.size) (by omega) 2; have fz3 := HW.out.ownGe (g := w1.heap.size) (by omega) 3; have fz4 := HW.out.ownGe (g := w1.heap.size) (by omega) 4; have fz5 := HW.out.ownGe (g := w1.heap.size) (by omega) 5; have fz6 := HW.out.ownGe (g := w1.heap.size) (by omega) 6; clear hu)
    (try go_wp2_with fail)
    refine hK.out _ _ ?hB107 (fun hHeld => ?_)
    case hB107 => (with_reducible exact HX.out)
    clear hK K
    (try simp only [Act.put, List.setIfInBounds_toArray, List.set_cons_zero, List.set_cons_succ])
    refine wpAnyH_ready (rs := [5]) (by kernel_rfl) (by simp) ?_
    refine AllReadyH.cons (o := ⟨_, _, _, _, _, _⟩) rfl (fun K hK => ?_) (AllReadyH.nil)
    go_simp
    (go_at_call 102; (with_reducible refine (KN.out _).mono ?_); rintro e w3 ⟨xb, rfl, hu, cb⟩; have HW := Lib.hid (HW.out.trans hu); have HX := Lib.hid (keepL6 (Lib.hid hu) hHeld); have r_1_0 := hu.keep _ _ _ r_1_0; have r_1_1 := hu.keep _ _ _ r_1_1; have r_1_2 := hu.keep _ _ _ r_1_2; have r_1_3 := hu.keep _ _ _ r_1_3; have r_1_4 := hu.keep _ _ _ r_1_4; have r_1_5 := hu.keep _ _ _ r_1_5; have g0 := hu.keep _ _ _ g0; have g1 := hu.keep _ _ _ g1; have g2 := hu.keep _ _ _ g2; have g3 := hu.keep _ _ _ g3; have g4 := hu.keep _ _ _ g4; have g5 := hu.keep _ _ _ g5; have g6 := hu.keep _ _ _ g6; have fz0 := HW.out.ownGe (g := w1.heap.size) (by omega) 0; have fz1 := HW.out.ownGe (g := w1.heap.size) (by omega) 1; have fz2 := HW.out.ownGe (g := w1.heap.size) (by omega) 2; have fz3 := HW.out.ownGe (g := w1.heap.size) (by omega) 3; have fz4 := HW.out.ownGe (g := w1.heap.size) (by omega) 4; have fz5 := HW.out.ownGe (g := w1.heap.size) (by omega) 5; have fz6 := HW.out.ownGe (g := w1.heap.size) (by omega) 6; have CB := Lib.hid cb; clear cb; clear hu)
    (try go_wp2_with fail)
    refine hK.out _ _ ?hB108 (fun hHeld => ?_)
    case hB108 => (with_reducible exact HX.out)
    clear hK K
    (try simp only [Act.put, List.setIfInBounds_toArray, List.set_cons_zero, List.set_cons_succ])
    refine wpAnyH_ready (rs := [6]) (by kernel_rfl) (by simp) ?_
    refine AllReadyH.cons (o := ⟨_, _, _, _, _, _⟩) rfl (fun K hK => ?_) (AllReadyH.nil)
    go_simp
    (go_at_call 72; (with_reducible refine (KA.out xb _ hHeld.1 CB.out).mono ?_); have hlr_ := World.block_lt_of_cell? _ _ r_1_0; have hsz_ := hHeld.1.size; have htb_ := World.block_lt_of_cell? _ _ g0; rintro e w4 ⟨A5, n5, k5, rfl, hn5, hk5, hnw, hu, hM⟩; have HW := Lib.hid (HW.out.trans hu); have HX := Lib.hid (keepL6 (Lib.hid hu) hHeld); have r_1_0 := hu.keep _ _ _ r_1_0; have r_1_1 := hu.keep _ _ _ r_1_1; have r_1_2 := hu.keep _ _ _ r_1_2; have r_1_3 := hu.keep _ _ _ r_1_3; have r_1_4 := hu.keep _ _ _ r_1_4; have r_1_5 := hu.keep _ _ _ r_1_5; have g0 := hu.keep _ _ _ g0; have g1 := hu.keep _ _ _ g1; have g2 := hu.keep _ _ _ g2; have g3 := hu.keep _ _ _ g3; have g4 := hu.keep _ _ _ g4; have g5 := hu.keep _ _ _ g5; have g6 := hu.keep _ _ _ g6; have fz0 := HW.out.ownGe (g := w1.heap.size) (by omega) 0; have fz1 := HW.out.ownGe (g := w1.heap.size) (by omega) 1; have fz2 := HW.out.ownGe (g := w1.heap.size) (by omega) 2; have fz3 := HW.out.ownGe (g := w1.heap.size) (by omega) 3; have fz4 := HW.out.ownGe (g := w1.heap.size) (by omega) 4; have fz5 := HW.out.ownGe (g := w1.heap.size) (by omega) 5; have fz6 := HW.out.ownGe (g := w1.heap.size) (by omega) 6; have HM5 := Lib.hid hM; have HNW := Lib.hid hnw; clear hM hnw; clear hu)
    (try go_wp2_with fail)
    refine hK.out _ _ ?hB109 (fun hHeld => ?_)
    case hB109 => (with_reducible exact HX.out)
    clear hK K
    (try simp only [Act.put, List.setIfInBounds_toArray, List.set_cons_zero, List.set_cons_succ])
    refine wpAnyH_take (i := 7) (oi := ⟨_, _, _, _, _, _⟩) (v := ?v110) rfl (by kernel_rfl) (by kernel_rfl) (by kernel_rfl) (fun _ _ _ h => h) (Or.inl ⟨by rfl, ?hy110⟩) (by assumption) ?_
    case hy110 => (intro w hSw; (try dsimp only at hSw); go_simp; (try (with_reducible rfl)))
    (try simp only [Act.put, List.setIfInBounds_toArray, List.set_cons_zero, List.set_cons_succ])
    refine wpAnyH_take (i := 8) (oi := ⟨_, _, _, _, _, _⟩) (v := ?v111) rfl (by kernel_rfl) (by kernel_rfl) (by kernel_rfl) (fun _ _ _ h => h) (Or.inl ⟨by rfl, ?hy111⟩) (by assumption) ?_
    case hy111 => (intro w hSw; (try dsimp only at hSw); go_simp; (try (with_reducible rfl)))
    (try simp only [Act.put, List.setIfInBounds_toArray, List.set_cons_zero, List.set_cons_succ])
    refine wpAnyH_take (i := 9) (oi := ⟨_, _, _, _, _, _⟩) (v := ?v112) rfl (by kernel_rfl) (by kernel_rfl) (by kernel_rfl) (fun _ _ _ h => h) (Or.inl ⟨by rfl, ?hy112⟩) (by assumption) ?_
    case hy112 => (intro w hSw; (try dsimp only at hSw); go_simp; (try (with_reducible rfl)))
    (try simp only [Act.put, List.setIfInBounds_toArray, List.set_cons_zero, List.set_cons_succ])
    refine wpAnyH_ready (rs := [11]) (by kernel_rfl) (by simp) ?_
    refine AllReadyH.cons (o := ⟨_, _, _, _, _, _⟩) rfl (fun K hK => ?_) (AllReadyH.nil)
    go_simp
    refine hK.out _ _ ?hB113 (fun hHeld => ?_)
    case hB113 => (with_reducible exact set7L6 hHeld (by omega) (by omega))
    clear hK K
    (try simp only [Act.put, List.setIfInBounds_toArray, List.set_cons_zero, List.set_cons_succ])
    refine wpAnyH_take (i := 12) (oi := ⟨_, _, _, _, _, _⟩) (v := ?v114) rfl (by kernel_rfl) (by kernel_rfl) (by kernel_rfl) (fun _ _ _ h => h) (Or.inl ⟨by rfl, ?hy114⟩) (by assumption) ?_
    case hy114 => (intro w hSw; (try dsimp only at hSw); go_simp; (try (with_reducible rfl)))
    (try simp only [Act.put, List.setIfInBounds_toArray, List.set_cons_zero, List.set_cons_succ])
    refine wpAnyH_done (by kernel_rfl) ?_ _
    obtain ⟨wa, hwa⟩ : ∃ z, z = ((((((w4.setCell ⟨w1.heap.size, 0, none⟩ (.int .i64 4)).setCell ⟨w1.heap.size, 1, none⟩ (.int .i64 v)).setCell ⟨w1.heap.size, 2, none⟩ (.int .i64 q)).setCell ⟨w1.heap.size, 3, none⟩ (.int .i64 c)).setCell ⟨w1.heap.size, 4, none⟩ (.int .i64 now)).setCell ⟨w1.heap.size, 5, none⟩ (.int .i64 (seq + 1))).setCell ⟨w1.heap.size, 6, none⟩ (.slice A5 n5 k5) := ⟨_, rfl⟩
    rw [← hwa]
    obtain ⟨g0_, g1_, g2_, g3_, g4_, g5_, g6_⟩ := cells7 (w := w4) (p := w1.heap.size) (v0 := .int .i64 4) (v1 := .int .i64 v) (v2 := .int .i64 q) (v3 := .int .i64 c) (v4 := .int .i64 now) (v5 := .int .i64 (seq + 1)) (v6 := .slice A5 n5 k5) g0 g1 g2 g3 g4 g5 g6
    rw [← hwa] at g0_ g1_ g2_ g3_ g4_ g5_ g6_
    have r_1_0_ : wa.cell? ⟨w.heap.size + 1, 0, none⟩ = some (.int .i64 0) := by rw [hwa]; exact far7 (w := w4) r_1_0 (by omega)
    have r_1_1_ : wa.cell? ⟨w.heap.size + 1, 1, none⟩ = some (.int .i64 0) := by rw [hwa]; exact far7 (w := w4) r_1_1 (by omega)
    have r_1_2_ : wa.cell? ⟨w.heap.size + 1, 2, none⟩ = some (.int .i64 0) := by rw [hwa]; exact far7 (w := w4) r_1_2 (by omega)
    have r_1_3_ : wa.cell? ⟨w.heap.size + 1, 3, none⟩ = some (.int .i64 0) := by rw [hwa]; exact far7 (w := w4) r_1_3 (by omega)
    have r_1_4_ : wa.cell? ⟨w.heap.size + 1, 4, none⟩ = some (.int .i64 0) := by rw [hwa]; exact far7 (w := w4) r_1_4 (by omega)
    have r_1_5_ : wa.cell? ⟨w.heap.size + 1, 5, none⟩ = some (.slice none 0 0) := by rw [hwa]; exact far7 (w := w4) r_1_5 (by omega)
    have HW := Lib.hid (show Up w wa by rw [hwa]; exact HW.out.set7 (by omega))
    have HM := Lib.hid (show SG cM wa A5 n5 Z by rw [hwa]; exact HM5.out.off7 (fun b_ o_ h_ => by have := HNW.out b_ o_ h_; omega) _ _ _ _ _ _ _)
    clear hwa HX HSS hHeld fz0 fz1 fz2 fz3 fz4 fz5 fz6 g0 g1 g2 g3 g4 g5 g6 r_1_0 r_1_1 r_1_2 r_1_3 r_1_4 r_1_5
    have g0 := g0_
    have g1 := g1_
    have g2 := g2_
    have g3 := g3_
    have g4 := g4_
    have g5 := g5_
    have g6 := g6_
    have r_1_0 := r_1_0_
    have r_1_1 := r_1_1_
    have r_1_2 := r_1_2_
    have r_1_3 := r_1_3_
    have r_1_4 := r_1_4_
    have r_1_5 := r_1_5_
    have hlra := World.block_lt_of_cell? _ _ r_1_0
    go_wp2_with (go_at_call 90; (with_reducible refine (KF.out _ _ _ _).mono ?_); rintro e w5 ⟨rfl, hu⟩; have HW := Lib.hid (HW.out.trans hu); have r_1_0 := hu.keep _ _ _ r_1_0; have r_1_1 := hu.keep _ _ _ r_1_1; have r_1_2 := hu.keep _ _ _ r_1_2; have r_1_3 := hu.keep _ _ _ r_1_3; have r_1_4 := hu.keep _ _ _ r_1_4; have r_1_5 := hu.keep _ _ _ r_1_5; have z0 := HW.out.ownGe (g := w.heap.size + 1) (by omega) 0; have z1 := HW.out.ownGe (g := w.heap.size + 1) (by omega) 1; have z2 := HW.out.ownGe (g := w.heap.size + 1) (by omega) 2; have z3 := HW.out.ownGe (g := w.heap.size + 1) (by omega) 3; have z4 := HW.out.ownGe (g := w.heap.size + 1) (by omega) 4; have z5 := HW.out.ownGe (g := w.heap.size + 1) (by omega) 5; have HM := Lib.hid (HM.out.up hu); clear hu)
    refine bodyPost_ret (v := .tuple #[.agg #[.int .i64 v, .int .i64 q, .int .i64 c, .int .i64 now, .int .i64 (seq + 1), .slice A5 n5 k5], .int .i64 0]) (by simp [results, Try.results53, go_sem, r_1_0, r_1_1, r_1_2, r_1_3, r_1_4, r_1_5]) rfl ⟨A5, n5, k5, rfl, hn5, hk5, fun b_ o_ h_ => Nat.le_trans hsz_ (HNW.out b_ o_ h_), ?_, ?_⟩
    · exact HW.out.setP6 (by omega)
    · exact HM.out.offP6 (fun b_ o_ h_ => by have := HNW.out b_ o_ h_; omega) _ _ _ _ _ _

end Go.Proofs.Ytafkoddgefcpnaa

namespace Go.Proofs.Ytafkoddgefcpnaa
open Go.RowKit
set_option linter.unusedVariables false

theorem Sl.offP6 {w : World} {A : Option Addr} {n p : Nat} {M : List It} (h : Sl w A n M) (hn : ∀ b o, A = some ⟨b, o, none⟩ → b ≠ p) (v0 v1 v2 v3 v4 v5 : Value) : Sl ((((((w.setCell ⟨p, 0, none⟩ (v0)).setCell ⟨p, 1, none⟩ (v1)).setCell ⟨p, 2, none⟩ (v2)).setCell ⟨p, 3, none⟩ (v3)).setCell ⟨p, 4, none⟩ (v4)).setCell ⟨p, 5, none⟩ (v5)) A n M :=
  (((((h.off hn _).off hn _).off hn _).off hn _).off hn _).off hn _
theorem cellsP6 {w : World} {p : Nat} {v0 v1 v2 v3 v4 v5 x0 x1 x2 x3 x4 x5 : Value} (e0 : w.cell? ⟨p, 0, none⟩ = some x0) (e1 : w.cell? ⟨p, 1, none⟩ = some x1) (e2 : w.cell? ⟨p, 2, none⟩ = some x2) (e3 : w.cell? ⟨p, 3, none⟩ = some x3) (e4 : w.cell? ⟨p, 4, none⟩ = some x4) (e5 : w.cell? ⟨p, 5, none⟩ = some x5) :
    let W := (((((w.setCell ⟨p, 0, none⟩ (v0)).setCell ⟨p, 1, none⟩ (v1)).setCell ⟨p, 2, none⟩ (v2)).setCell ⟨p, 3, none⟩ (v3)).setCell ⟨p, 4, none⟩ (v4)).setCell ⟨p, 5, none⟩ (v5)
    W.cell? ⟨p, 0, none⟩ = some v0 ∧ W.cell? ⟨p, 1, none⟩ = some v1 ∧ W.cell? ⟨p, 2, none⟩ = some v2 ∧ W.cell? ⟨p, 3, none⟩ = some v3 ∧ W.cell? ⟨p, 4, none⟩ = some v4 ∧ W.cell? ⟨p, 5, none⟩ = some v5 :=
  ⟨cell_set (cell_set (cell_set (cell_set (cell_set (cell_set e0))))), cell_set (cell_set (cell_set (cell_set (cell_set (cell_set e1))))), cell_set (cell_set (cell_set (cell_set (cell_set (cell_set e2))))), cell_set (cell_set (cell_set (cell_set (cell_set (cell_set e3))))), cell_set (cell_set (cell_set (cell_set (cell_set (cell_set e4))))), cell_set (cell_set (cell_set (cell_set (cell_set (cell_set e5)))))⟩
/-- The variable in block p holds a state with the marks X. -/
structure Vp (W : World) (p : Nat) (v q c now seq : Int) (X : List Mrk) (A : Option Addr) (k : Nat) : Prop where
  c0 : W.cell? ⟨p, 0, none⟩ = some (.int .i64 v)
  c1 : W.cell? ⟨p, 1, none⟩ = some (.int .i64 q)
  c2 : W.cell? ⟨p, 2, none⟩ = some (.int .i64 c)
  c3 : W.cell? ⟨p, 3, none⟩ = some (.int .i64 now)
  c4 : W.cell? ⟨p, 4, none⟩ = some (.int .i64 seq)
  c5 : W.cell? ⟨p, 5, none⟩ = some (.slice A X.length k)
  sl : SG cM W A X.length X
  off : ∀ b o, A = some ⟨b, o, none⟩ → b ≠ p
  cap : X.length ≤ k
theorem Vp.up {W W2 : World} {p : Nat} {v q c now seq : Int} {X : List Mrk} {A : Option Addr} {k : Nat} (h : Vp W p v q c now seq X A k) (hu : Up W W2) : Vp W2 p v q c now seq X A k :=
  ⟨hu.keep _ _ _ h.c0, hu.keep _ _ _ h.c1, hu.keep _ _ _ h.c2, hu.keep _ _ _ h.c3, hu.keep _ _ _ h.c4, hu.keep _ _ _ h.c5, h.sl.up hu, h.off, h.cap⟩
theorem Vp.lt {W : World} {p : Nat} {v q c now seq : Int} {X : List Mrk} {A : Option Addr} {k : Nat} (h : Vp W p v q c now seq X A k) : p < W.heap.size := World.block_lt_of_cell? _ _ h.c0
/-- A store of a new state into the variable. -/
theorem Vp.put {W : World} {p : Nat} {v q c now seq : Int} {X : List Mrk} {A : Option Addr} {k : Nat} {x0 x1 x2 x3 x4 x5 : Value} (e0 : W.cell? ⟨p, 0, none⟩ = some x0) (e1 : W.cell? ⟨p, 1, none⟩ = some x1) (e2 : W.cell? ⟨p, 2, none⟩ = some x2) (e3 : W.cell? ⟨p, 3, none⟩ = some x3) (e4 : W.cell? ⟨p, 4, none⟩ = some x4) (e5 : W.cell? ⟨p, 5, none⟩ = some x5)
    (sl : SG cM W A X.length X) (off : ∀ b o, A = some ⟨b, o, none⟩ → b ≠ p) (cap : X.length ≤ k) :
    Vp ((((((W.setCell ⟨p, 0, none⟩ (.int .i64 v)).setCell ⟨p, 1, none⟩ (.int .i64 q)).setCell ⟨p, 2, none⟩ (.int .i64 c)).setCell ⟨p, 3, none⟩ (.int .i64 now)).setCell ⟨p, 4, none⟩ (.int .i64 seq)).setCell ⟨p, 5, none⟩ (.slice A X.length k)) p v q c now seq X A k := by
  obtain ⟨a0, a1, a2, a3, a4, a5⟩ := cellsP6 (v0 := .int .i64 v) (v1 := .int .i64 q) (v2 := .int .i64 c) (v3 := .int .i64 now) (v4 := .int .i64 seq) (v5 := .slice A X.length k) e0 e1 e2 e3 e4 e5
  exact ⟨a0, a1, a2, a3, a4, a5, sl.offP6 off _ _ _ _ _ _, off, cap⟩
/-- A new variable. -/
theorem Vp.new {W : World} {v q c now seq : Int} {X : List Mrk} {A : Option Addr} {k : Nat} (sl : SG cM W A X.length X) (cap : X.length ≤ k) (off : ∀ b o, A = some ⟨b, o, none⟩ → b ≠ W.heap.size) :
    Vp (W.alloc (.cells #[.int .i64 v, .int .i64 q, .int .i64 c, .int .i64 now, .int .i64 seq, .slice A X.length k] 61)) W.heap.size v q c now seq X A k :=
  ⟨by simp [go_sem], by simp [go_sem], by simp [go_sem], by simp [go_sem], by simp [go_sem], by simp [go_sem], sl.up ((Up.refl _).alloc _ _), off, cap⟩
/-- Advance of what a variable holds. -/
theorem advVP {W0 W : World} {v q c now td : Int} {X : List Mrk} {M : List It} {A : Option Addr} {k : Nat} (hs : Sp v q c now X M) (sl : SG cM W0 A X.length X) (cap : X.length ≤ k) (hu : Up W0 W) (h1 : now ≤ td) (h2 : td ≤ 16777216) :
    Calls Try.prog 50 #[.agg #[.int .i64 v, .int .i64 q, .int .i64 c, .int .i64 now, .int .i64 M.length, .slice A X.length k], .int .i64 td] W fun e W' => ∃ A' k', e = .returned (.tuple #[.agg #[.int .i64 v, .int .i64 q, .int .i64 c, .int .i64 td, .int .i64 M.length, .slice A' (drM td v X).length k'], .int .i64 0]) ∧ (drM td v X).length ≤ k' ∧ Nw W A' ∧ SG cM W' A' (drM td v X).length (drM td v X) ∧ Up W W' := by
  have hf : X.length ≤ 50000 := by have := hs.len; have := hs.2.1; omega
  refine (adv14_good v q c now M.length td X.length k A X hf cap hs.st h1 h2 W (sl.up hu)).mono ?_
  rintro e W' ⟨A', n', k', rfl, _, hk, hn, hU, hS⟩
  obtain rfl : (drM td v X).length = n' := hS.1
  exact ⟨A', k', rfl, hk, hn, hS, hU⟩
/-- Add of a value for which there is room. -/
theorem addVP {W0 W : World} {v q c now d : Int} {X : List Mrk} {M : List It} {A : Option Addr} {k : Nat} (hs : Sp v q c now X M) (sl : SG cM W0 A X.length X) (cap : X.length ≤ k) (hu : Up W0 W) (hd : valG 4 d) (hf : fuM c M.length X = false) :
    Calls Try.prog 53 #[.agg #[.int .i64 v, .int .i64 q, .int .i64 c, .int .i64 now, .int .i64 M.length, .slice A X.length k], .int .i64 d] W fun e W' => ∃ A' k', e = .returned (.tuple #[.agg #[.int .i64 v, .int .i64 q, .int .i64 c, .int .i64 now, .int .i64 ((M.length : Int) + 1), .slice A' (adS q M.length now d X).length k'], .int .i64 0]) ∧ (adS q M.length now d X).length ≤ k' ∧ Nw W A' ∧ SG cM W' A' (adS q M.length now d X).length (adS q M.length now d X) ∧ Up W W' := by
  have hl : X.length ≤ 50000 := by have := hs.len; have := hs.2.1; omega
  refine (add14_good v q c now M.length d X.length k A X hl cap hs.st hd hf W (sl.up hu)).mono ?_
  rintro e W' ⟨A', n', k', rfl, _, hk, hn, hU, hS⟩
  obtain rfl : (adS q M.length now d X).length = n' := hS.1
  exact ⟨A', k', rfl, hk, hn, hS, hU⟩
/-- Add of a value for which there is none. -/
theorem addVP_full {W0 W : World} {v q c now d : Int} {X : List Mrk} {M : List It} {A : Option Addr} {k : Nat} (hs : Sp v q c now X M) (sl : SG cM W0 A X.length X) (cap : X.length ≤ k) (hu : Up W0 W) (hd : valG 4 d) (hf : fuM c M.length X = true) :
    Calls Try.prog 53 #[.agg #[.int .i64 v, .int .i64 q, .int .i64 c, .int .i64 now, .int .i64 M.length, .slice A X.length k], .int .i64 d] W fun e W' => e = .returned (.tuple #[.agg #[.int .i64 0, .int .i64 0, .int .i64 0, .int .i64 0, .int .i64 0, .slice none 0 0], .int .i64 5]) ∧ Up W W' := by
  have hl : X.length ≤ 50000 := by have := hs.len; have := hs.2.1; omega
  exact add14_full v q c now M.length d X.length k A X hl cap hs.st hd hf W (sl.up hu)
/-- Blocks from s on. -/
def Ge (s : Nat) (A : Option Addr) : Prop := ∀ b o, A = some ⟨b, o, none⟩ → s ≤ b
theorem Ge.none_ (s : Nat) : Ge s none := fun _ _ e => by cases e
theorem Sl.out {W : World} {A : Option Addr} {n : Nat} {M : List It} (h : Sl W A n M) (hn : 0 < n) : ∃ b o, A = some ⟨b, o, none⟩ ∧ b < W.heap.size := by
  obtain ⟨b, o, e, d0, _⟩ := h.at_ hn
  exact ⟨b, o, e, World.block_lt_of_cell? _ _ d0⟩
theorem items14_up (n k : Nat) (A : Option Addr) (L : List It) (v : Int) (h1 : 1 ≤ v) (h2 : v ≤ 25) (mx : Nat) (mi : Int) (e : (mx : Int) = mi) (hmx : mx ≤ 200) (w : World) (hS : Sl w A n L) :
    Calls Try.prog 49 #[.slice A n k, .int .i64 v, .int .i64 mi] w fun e w' => ∃ A' n' k' M z, e = .returned (.slice A' n' k') ∧ n' ≤ mx ∧ mdT M z ∧ (∀ j, j < n' → valG 4 (M.getD j (0, 0)).2) ∧ Nw w A' ∧ Sl w' A' n' M ∧ Up w w' := by
  subst e
  refine (itemsI_up n k A L v h1 h2 mx hmx w hS).mono ?_
  rintro e1 w1 ⟨A1, n1, k1_, M0, z, rfl, hn1, hP, hO, hu⟩
  have HS1 : Sl w1 A1 n1 M0 := by obtain ⟨A9, k9, e9, _, h9⟩ := hO.sl; cases e9; exact h9
  refine ⟨A1, n1, k1_, M0, z, rfl, hn1, hP.t, fun j hj => ?_, hO.nw, HS1, hu⟩
  have := of_decide_eq_true (show decide (-4096 ≤ (M0.getD j (0, 0)).2 ∧ (M0.getD j (0, 0)).2 ≤ 4096) = true from (hP.2.2 j (by rw [HS1.1]; exact hj)).2.2.2)
  exact ⟨this.1, this.2, Or.inr (Or.inr rfl)⟩
/-- Where the loop of SpreadKeeps is. -/
def RpN (w wr : World) (p : Nat) (v q c : Int) (Am : Option Addr) (nm : Nat) (M0 : List It) (z : Int) (i : Nat) : Prop :=
  ∃ (now : Int) (X : List Mrk) (M : List It) (A1 : Option Addr) (k1 : Nat), Vp wr p v q c now M.length X A1 k1 ∧ Sp v q c now X M ∧ M.length ≤ i ∧ (i < nm → now ≤ (M0.getD i (0, 0)).1) ∧ (0 ≤ now ∧ now ≤ z) ∧ Sl wr Am nm M0 ∧ Up w wr
end Go.Proofs.Ytafkoddgefcpnaa
