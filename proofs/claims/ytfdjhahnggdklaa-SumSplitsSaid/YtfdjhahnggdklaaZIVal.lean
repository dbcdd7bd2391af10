/- What Validate of package count and of its reference returns. -/
import Derived.Test.YtfdjhahnggdklaaZCClock
import Derived.Test.YtfdjhahnggdklaaZGBasem8
import Derived.Test.YtfdjhahnggdklaaZGLawm3
import Derived.Test.YtfdjhahnggdklaaZHOrdm2
import Derived.Test.YtfdjhahnggdklaaZHRVal
import Derived.Test.YtfdjhahnggdklaaZHRowm3
import Derived.Test.YtfdjhahnggdklaaZHSamem5
import Derived.Test.YtfdjhahnggdklaaZHSmallm7
import Derived.Test.YtfdjhahnggdklaaZHVal
import Derived.Test.YtfdjhahnggdklaaZIBasem2
import Derived.Test.YtfdjhahnggdklaaZWCmpm5
import Derived.Test.YtfdjhahnggdklaaZWMathm9
namespace Go.Proofs.Ytfdjhahnggdklaa
open Go.RowKit
set_option linter.unusedVariables false


set_option maxHeartbeats 4000000 in
set_option maxRecDepth 100000 in
theorem allLive11_up (v q c now : Int) (n k : Nat) (A : Option Addr) (L : List It) (hn : n ≤ 50000) (w : World) (hS : Sl w A n L) :
    Calls Try.prog 98 #[.agg #[.int .i64 v, .int .i64 q, .int .i64 c, .int .i64 now, .slice A n k]] w fun e w' => e = .returned (.bool (lvX now v L)) ∧ Up w w' := by
  have HL := Lib.hid hS.1
  have HS := Lib.hid hS
  have KL := Lib.hid (live_any now v)
  have HB := Lib.hid (fun j (hj : j < L.length) (h : liveB now v (L.getD j (0, 0)).1 = false) => lvX_bad (X := L) hj h)
  have HT := Lib.hid (show (∀ j, j < L.length → liveB now v (L.getD j (0, 0)).1 = true) → lvX now v L = true from fun h => decide_eq_true h)
  generalize lvX now v L = r at HB HT ⊢
  clear hS
  go_enter Try.func98, Try.ntmps98
  go_wp2_with fail
  go_loopw [8] (fun t wr => ∃ i : Nat, t = .int .i64 i ∧ i ≤ n ∧ Hid (∀ j, j < i → liveB now v (L.getD j (0, 0)).1 = true) ∧ Hid (Up (w.alloc (.cells #[.int .i64 v, .int .i64 q, .int .i64 c, .int .i64 now, .slice A n k] 56)) wr)) (fun t _ => n - (intOf t).toNat)
  case atStart => exact ⟨0, rfl, Nat.zero_le _, Lib.hid (fun j hj => absurd hj (Nat.not_lt_zero _)), Lib.hid (Up.refl _)⟩
  case round =>
    obtain ⟨i, rfl, hin, HG, HW⟩ := hrel
    have c0 := HW.out.keep w.heap.size 0 (.int .i64 v) (by simp [go_sem])
    have c3 := HW.out.keep w.heap.size 3 (.int .i64 now) (by simp [go_sem])
    have hlt : w.heap.size < wr.heap.size := World.block_lt_of_cell? _ _ c0
    by_cases hi : i < n
    · obtain ⟨b, o, rfl, d0, d1⟩ := (HS.out.up (((Up.refl w).alloc _ _).trans HW.out)).at_ hi
      have hil : i < L.length := by rw [HL.out]; exact hi
      have HX : Hid (liveB now v (L.getD i (0, 0)).1 = false → r = false) := Lib.hid (HB.out i hil)
      have HY : Hid (liveB now v (L.getD i (0, 0)).1 = true → ∀ j, j < i + 1 → liveB now v (L.getD j (0, 0)).1 = true) := Lib.hid (fun h j hj => by
        rcases Nat.lt_or_ge j i with g | g
        · exact HG.out j g
        · obtain rfl : j = i := by omega
          exact h)
      have KJ := Lib.hid (KL.out (L.getD i (0, 0)).1)
      generalize (L.getD i (0, 0)).1 = p0 at d0 HX HY KJ
      generalize (L.getD i (0, 0)).2 = p1 at d1
      have f2 : (i : Int) < n := by omega
      have f3 : (0 : Int) ≤ i := by omega
      cases hp : liveB now v p0 with
      | false =>
        obtain rfl : r = false := HX.out hp
        rw [hp] at KJ
        clear hp HB HT HG HX HY
        go_wp2_with (go_at_call 88; (with_reducible refine (KJ.out _).mono ?_); rintro e w' ⟨rfl, rfl⟩)
        go_ret
        exact ⟨rfl, ((Up.refl w).alloc _ _).trans (HW.out.alloc _ _)⟩
      | true =>
        have HG1 := Lib.hid (HY.out hp)
        rw [hp] at KJ
        clear hp HG HX HY
        go_wp2_with (go_at_call 88; (with_reducible refine (KJ.out _).mono ?_); rintro e w' ⟨rfl, rfl⟩)
        go_roundw
        case rel => exact ⟨i + 1, by go_num, by omega, HG1, Lib.hid (HW.out.alloc _ _)⟩
        case measure => simp [intOf]; omega
    · obtain rfl : i = n := by omega
      obtain rfl : r = true := HT.out (fun j hj => HG.out j (by rw [HL.out] at hj; exact hj))
      clear HB HT HG
      go_wp2_with fail
      go_ret
      exact ⟨rfl, ((Up.refl w).alloc _ _).trans HW.out⟩

set_option maxHeartbeats 4000000 in
set_option maxRecDepth 100000 in
theorem rfits11_up (v q c now : Int) (n k : Nat) (A : Option Addr) (L : List It) (hn : n ≤ 50000) (w : World) (hS : Sl w A n L) :
    Calls Try.prog 53 #[.slice A n k, .int .i64 v, .int .i64 q, .int .i64 c, .int .i64 now] w fun e w' => e = .returned (.bool (stC v q c now L)) ∧ Up w w' := by
  have KM := Lib.hid (rmay_any v c now)
  have KK := Lib.hid (rmayK11_any q)
  have KV := Lib.hid (rvalid10_up n k A L q (by omega) w hS)
  have KT := Lib.hid (fun W (h : Sl W A n L) => rtotal10_up n k A L (by omega) W h)
  have e0 : stC v q c now L = (mayB v c now && (decide (1 ≤ q ∧ q ≤ 64) && (vaB L q && (decide (totB L ≤ c) && lvX now v L)))) := by
    unfold stC mayC
    rw [Bool.and_comm (lvX now v L) (decide (totB L ≤ c)), Bool.and_assoc]
  rw [e0]
  clear e0
  cases hm : mayB v c now with
  | false =>
    rw [hm] at KM
    clear hm hS
    go_enter Try.func53, Try.ntmps53
    go_wp2_with (first | (go_at_call 36; (with_reducible refine (KM.out _).mono ?_); rintro e w' ⟨rfl, rfl⟩) | (go_at_call 37; (with_reducible refine (KK.out _).mono ?_); rintro e w' ⟨rfl, rfl⟩) | (go_at_call 78; (with_reducible refine KV.out.mono ?_); rintro e w1 ⟨rfl, hu⟩; have HU1 := Lib.hid hu; clear hu) | (go_at_call 47; (with_reducible refine (KT.out _ (HS.out.up HU1.out)).mono ?_); rintro e w2 ⟨rfl, hu⟩; have HU2 := Lib.hid (HU1.out.trans hu); clear hu))
    go_ret
    exact ⟨rfl, Up.refl _⟩
  | true =>
  rw [hm] at KM
  cases hk : decide (1 ≤ q ∧ q ≤ 64) with
  | false =>
    rw [hk] at KK
    clear hm hk hS
    go_enter Try.func53, Try.ntmps53
    go_wp2_with (first | (go_at_call 36; (with_reducible refine (KM.out _).mono ?_); rintro e w' ⟨rfl, rfl⟩) | (go_at_call 37; (with_reducible refine (KK.out _).mono ?_); rintro e w' ⟨rfl, rfl⟩) | (go_at_call 78; (with_reducible refine KV.out.mono ?_); rintro e w1 ⟨rfl, hu⟩; have HU1 := Lib.hid hu; clear hu) | (go_at_call 47; (with_reducible refine (KT.out _ (HS.out.up HU1.out)).mono ?_); rintro e w2 ⟨rfl, hu⟩; have HU2 := Lib.hid (HU1.out.trans hu); clear hu))
    go_ret
    exact ⟨rfl, Up.refl _⟩
  | true =>
  rw [hk] at KK
  cases hv : vaB L q with
  | false =>
    rw [hv] at KV
    clear hm hk hv hS
    go_enter Try.func53, Try.ntmps53
    go_wp2_with (first | (go_at_call 36; (with_reducible refine (KM.out _).mono ?_); rintro e w' ⟨rfl, rfl⟩) | (go_at_call 37; (with_reducible refine (KK.out _).mono ?_); rintro e w' ⟨rfl, rfl⟩) | (go_at_call 78; (with_reducible refine KV.out.mono ?_); rintro e w1 ⟨rfl, hu⟩; have HU1 := Lib.hid hu; clear hu) | (go_at_call 47; (with_reducible refine (KT.out _ (HS.out.up HU1.out)).mono ?_); rintro e w2 ⟨rfl, hu⟩; have HU2 := Lib.hid (HU1.out.trans hu); clear hu))
    go_ret
    exact ⟨rfl, HU1.out⟩
  | true =>
  rw [hv] at KV
  generalize totB L = y at *
  cases hy : decide (y ≤ c) with
  | false =>
    have t1 : decide (c < y) = true := decide_eq_true (by have := of_decide_eq_false hy; omega)
    have HS := Lib.hid hS
    clear hm hk hv hS hy
    go_enter Try.func53, Try.ntmps53
    go_wp2_with (first | (go_at_call 36; (with_reducible refine (KM.out _).mono ?_); rintro e w' ⟨rfl, rfl⟩) | (go_at_call 37; (with_reducible refine (KK.out _).mono ?_); rintro e w' ⟨rfl, rfl⟩) | (go_at_call 78; (with_reducible refine KV.out.mono ?_); rintro e w1 ⟨rfl, hu⟩; have HU1 := Lib.hid hu; clear hu) | (go_at_call 47; (with_reducible refine (KT.out _ (HS.out.up HU1.out)).mono ?_); rintro e w2 ⟨rfl, hu⟩; have HU2 := Lib.hid (HU1.out.trans hu); clear hu))
    go_ret
    exact ⟨rfl, HU2.out⟩
  | true =>
  have t1 : decide (c < y) = false := decide_eq_false (by have := of_decide_eq_true hy; omega)
  rw [Bool.true_and, Bool.true_and, Bool.true_and, Bool.true_and]
  clear hm hk hv hy
  have HL := Lib.hid hS.1
  have HS := Lib.hid hS
  have KL := Lib.hid (rlive_any now v)
  have HB := Lib.hid (fun j (hj : j < L.length) (h : liveB now v (L.getD j (0, 0)).1 = false) => lvX_bad (X := L) hj h)
  have HT := Lib.hid (show (∀ j, j < L.length → liveB now v (L.getD j (0, 0)).1 = true) → lvX now v L = true from fun h => decide_eq_true h)
  generalize lvX now v L = r at HB HT ⊢
  clear hS
  go_enter Try.func53, Try.ntmps53
  go_wp2_with (first | (go_at_call 36; (with_reducible refine (KM.out _).mono ?_); rintro e w' ⟨rfl, rfl⟩) | (go_at_call 37; (with_reducible refine (KK.out _).mono ?_); rintro e w' ⟨rfl, rfl⟩) | (go_at_call 78; (with_reducible refine KV.out.mono ?_); rintro e w1 ⟨rfl, hu⟩; have HU1 := Lib.hid hu; clear hu) | (go_at_call 47; (with_reducible refine (KT.out _ (HS.out.up HU1.out)).mono ?_); rintro e w2 ⟨rfl, hu⟩; have HU2 := Lib.hid (HU1.out.trans hu); clear hu))
  go_loopw [37] (fun t wr => ∃ i : Nat, t = .int .i64 i ∧ i ≤ n ∧ Hid (∀ j, j < i → liveB now v (L.getD j (0, 0)).1 = true) ∧ Hid (Up w wr)) (fun t _ => n - (intOf t).toNat)
  case atStart => exact ⟨0, rfl, Nat.zero_le _, Lib.hid (fun j hj => absurd hj (Nat.not_lt_zero _)), HU2⟩
  case round =>
    obtain ⟨i, rfl, hin, HG, HW⟩ := hrel
    by_cases hi : i < n
    · obtain ⟨b, o, rfl, d0, d1⟩ := (HS.out.up (HW.out)).at_ hi
      have hil : i < L.length := by rw [HL.out]; exact hi
      have HX : Hid (liveB now v (L.getD i (0, 0)).1 = false → r = false) := Lib.hid (HB.out i hil)
      have HY : Hid (liveB now v (L.getD i (0, 0)).1 = true → ∀ j, j < i + 1 → liveB now v (L.getD j (0, 0)).1 = true) := Lib.hid (fun h j hj => by
        rcases Nat.lt_or_ge j i with g | g
        · exact HG.out j g
        · obtain rfl : j = i := by omega
          exact h)
      have KJ := Lib.hid (KL.out (L.getD i (0, 0)).1)
      generalize (L.getD i (0, 0)).1 = p0 at d0 HX HY KJ
      generalize (L.getD i (0, 0)).2 = p1 at d1
      have f2 : (i : Int) < n := by omega
      have f3 : (0 : Int) ≤ i := by omega
      cases hp : liveB now v p0 with
      | false =>
        obtain rfl : r = false := HX.out hp
        rw [hp] at KJ
        clear hp HB HT HG HX HY
        go_wp2_with (go_at_call 89; (with_reducible refine (KJ.out _).mono ?_); rintro e w' ⟨rfl, rfl⟩)
        go_ret
        exact ⟨rfl, HW.out.alloc _ _⟩
      | true =>
        have HG1 := Lib.hid (HY.out hp)
        rw [hp] at KJ
        clear hp HG HX HY
        go_wp2_with (go_at_call 89; (with_reducible refine (KJ.out _).mono ?_); rintro e w' ⟨rfl, rfl⟩)
        go_roundw
        case rel => exact ⟨i + 1, by go_num, by omega, HG1, Lib.hid (HW.out.alloc _ _)⟩
        case measure => simp [intOf]; omega
    · obtain rfl : i = n := by omega
      obtain rfl : r = true := HT.out (fun j hj => HG.out j (by rw [HL.out] at hj; exact hj))
      clear HB HT HG
      go_wp2_with fail
      go_ret
      exact ⟨rfl, HW.out⟩

set_option maxHeartbeats 4000000 in
set_option maxRecDepth 100000 in
theorem validate11_up (v q c now : Int) (n k : Nat) (A : Option Addr) (L : List It) (hn : n ≤ 50000) (w : World) (hS : Sl w A n L) :
    Calls Try.prog 67 #[.agg #[.int .i64 v, .int .i64 q, .int .i64 c, .int .i64 now, .slice A n k]] w fun e w' => e = .returned (.int .i64 (stCE v q c now L)) ∧ Up w w' := by
  have KM := Lib.hid (validSizes11_any v q c now)
  have KV := Lib.hid (fun W (h : Sl W A n L) => valid10_up n k A L q (by omega) W h)
  have KA := Lib.hid (fun W (h : Sl W A n L) => allLive11_up v q c now n k A L hn W h)
  have KT := Lib.hid (fun W (h : Sl W A n L) => total10_up n k A L (by omega) W h)
  have HS := Lib.hid hS
  unfold stCE stC
  clear hS
  cases hm : mayC v q c now with
  | false =>
    rw [hm] at KM
    clear hm
    go_enter Try.func67, Try.ntmps67
    go_wp2_with (first | (go_at_call 64; (with_reducible refine (KM.out _).mono ?_); rintro e w' ⟨rfl, rfl⟩) | (go_at_call 51; (with_reducible refine (KV.out _ (HS.out.up ((Up.refl w).alloc _ _))).mono ?_); rintro e w1 ⟨rfl, hu⟩; have c0 := hu.keep w.heap.size 0 (.int .i64 v) (by simp [go_sem]); have c1 := hu.keep w.heap.size 1 (.int .i64 q) (by simp [go_sem]); have c2 := hu.keep w.heap.size 2 (.int .i64 c) (by simp [go_sem]); have c3 := hu.keep w.heap.size 3 (.int .i64 now) (by simp [go_sem]); have c4 := hu.keep w.heap.size 4 (.slice A n k) (by simp [go_sem]); have HU1 := Lib.hid (((Up.refl w).alloc _ _).trans hu); clear hu))
    go_ret
    refine ⟨rfl, ?_⟩
    repeat (first | exact Up.refl _ | refine Up.alloc ?_ _ _ | refine Up.setCell ?_ (by first | (simp; done) | (simp; omega) | omega) _ | refine Up.drewN ?_ _ | refine Up.drew ?_)
  | true =>
  rw [hm] at KM
  cases hv : vaB L q with
  | false =>
    rw [hv] at KV
    clear hm hv
    go_enter Try.func67, Try.ntmps67
    go_wp2_with (first | (go_at_call 64; (with_reducible refine (KM.out _).mono ?_); rintro e w' ⟨rfl, rfl⟩) | (go_at_call 51; (with_reducible refine (KV.out _ (HS.out.up ((Up.refl w).alloc _ _))).mono ?_); rintro e w1 ⟨rfl, hu⟩; have c0 := hu.keep w.heap.size 0 (.int .i64 v) (by simp [go_sem]); have c1 := hu.keep w.heap.size 1 (.int .i64 q) (by simp [go_sem]); have c2 := hu.keep w.heap.size 2 (.int .i64 c) (by simp [go_sem]); have c3 := hu.keep w.heap.size 3 (.int .i64 now) (by simp [go_sem]); have c4 := hu.keep w.heap.size 4 (.slice A n k) (by simp [go_sem]); have HU1 := Lib.hid (((Up.refl w).alloc _ _).trans hu); clear hu))
    go_ret
    exact ⟨rfl, HU1.out⟩
  | true =>
  rw [hv] at KV
  generalize totB L = y at *
  cases hl : lvX now v L with
  | false =>
    rw [hl] at KA
    clear hm hv hl
    go_enter Try.func67, Try.ntmps67
    go_wp2_with (first | (go_at_call 64; (with_reducible refine (KM.out _).mono ?_); rintro e w' ⟨rfl, rfl⟩) | (go_at_call 51; (with_reducible refine (KV.out _ (HS.out.up ((Up.refl w).alloc _ _))).mono ?_); rintro e w1 ⟨rfl, hu⟩; have c0 := hu.keep w.heap.size 0 (.int .i64 v) (by simp [go_sem]); have c1 := hu.keep w.heap.size 1 (.int .i64 q) (by simp [go_sem]); have c2 := hu.keep w.heap.size 2 (.int .i64 c) (by simp [go_sem]); have c3 := hu.keep w.heap.size 3 (.int .i64 now) (by simp [go_sem]); have c4 := hu.keep w.heap.size 4 (.slice A n k) (by simp [go_sem]); have HU1 := Lib.hid (((Up.refl w).alloc _ _).trans hu); clear hu))
    have HSS : Hid (Up w w1 ∧ w1.cell? ⟨w.heap.size, 0, none⟩ = some (.int .i64 v) ∧ w1.cell? ⟨w.heap.size, 1, none⟩ = some (.int .i64 q) ∧ w1.cell? ⟨w.heap.size, 2, none⟩ = some (.int .i64 c) ∧ w1.cell? ⟨w.heap.size, 3, none⟩ = some (.int .i64 now) ∧ w1.cell? ⟨w.heap.size, 4, none⟩ = some (.slice A n k)) := Lib.hid ⟨HU1.out, c0, c1, c2, c3, c4⟩
    clear c0 c1 c2 c3 c4
    refine wp_region_held_drew (S := fun w' => Up w w' ∧ w'.cell? ⟨w.heap.size, 0, none⟩ = some (.int .i64 v) ∧ w'.cell? ⟨w.heap.size, 1, none⟩ = some (.int .i64 q) ∧ w'.cell? ⟨w.heap.size, 2, none⟩ = some (.int .i64 c) ∧ w'.cell? ⟨w.heap.size, 3, none⟩ = some (.int .i64 now) ∧ w'.cell? ⟨w.heap.size, 4, none⟩ = some (.slice A n k)) (by kernel_rfl) ?hB1 (fun hHeld => ?_)
    case hB1 => (first | (with_reducible assumption) | (with_reducible exact keepQ5 (Lib.hid (Up.refl _).drew) HSS.out) | (with_reducible exact HX2.out))
    refine wpAnyH_take (i := 0) (oi := ⟨_, _, _, _, _, _⟩) (v := ?v2) rfl (by kernel_rfl) (by kernel_rfl) (by kernel_rfl) (fun _ _ _ h => h) (Or.inl ⟨by rfl, ?hy2⟩) (by assumption) ?_
    case hy2 => (intro w hSw; (try dsimp only at hSw); go_simp; (try (with_reducible rfl)))
    (try simp only [Act.put, List.setIfInBounds_toArray, List.set_cons_zero, List.set_cons_succ])
    refine wpAnyH_ready (rs := [1]) (by kernel_rfl) (by simp) ?_
    refine AllReadyH.cons (o := ⟨_, _, _, _, _, _⟩) rfl (fun K hK => ?_) AllReadyH.nil
    go_simp
    (go_at_call 98; (with_reducible refine (KA.out _ (HS.out.up hHeld.1)).mono ?_); rintro e w2 ⟨rfl, hu⟩; have HU2 := Lib.hid hu; have HX2 := Lib.hid (keepQ5 HU2 hHeld); clear hu)
    (try go_wp2_with fail)
    refine hK.out _ _ ?hB3 (fun hHeld => ?_)
    case hB3 => (first | (with_reducible assumption) | (with_reducible exact keepQ5 (Lib.hid (Up.refl _).drew) HSS.out) | (with_reducible exact HX2.out))
    clear hK K
    (try simp only [Act.put, List.setIfInBounds_toArray, List.set_cons_zero, List.set_cons_succ])
    refine wpAnyH_take (i := 2) (oi := ⟨_, _, _, _, _, _⟩) (v := ?v4) rfl (by kernel_rfl) (by kernel_rfl) (by kernel_rfl) (fun _ _ _ h => h) (Or.inl ⟨by rfl, ?hy4⟩) (by assumption) ?_
    case hy4 => (intro w hSw; (try dsimp only at hSw); go_simp; (try (with_reducible rfl)))
    (try simp only [Act.put, List.setIfInBounds_toArray, List.set_cons_zero, List.set_cons_succ])
    refine wpAnyH_take (i := 3) (oi := ⟨_, _, _, _, _, _⟩) (v := ?v5) rfl (by kernel_rfl) (by kernel_rfl) (by kernel_rfl) (fun _ _ _ h => h) (Or.inl ⟨by rfl, ?hy5⟩) (by assumption) ?_
    case hy5 => (intro w hSw; (try dsimp only at hSw); go_simp; (try (with_reducible rfl)))
    (try simp only [Act.put, List.setIfInBounds_toArray, List.set_cons_zero, List.set_cons_succ])
    refine wpAnyH_take (i := 4) (oi := ⟨_, _, _, _, _, _⟩) (v := undef) rfl (by kernel_rfl) (by kernel_rfl) (by kernel_rfl) (fun _ _ _ h => h) (Or.inr ⟨by rfl, rfl⟩) (by assumption) ?_
    (try simp only [Act.put, List.setIfInBounds_toArray, List.set_cons_zero, List.set_cons_succ])
    refine wpAnyH_take (i := 5) (oi := ⟨_, _, _, _, _, _⟩) (v := undef) rfl (by kernel_rfl) (by kernel_rfl) (by kernel_rfl) (fun _ _ _ h => h) (Or.inr ⟨by rfl, rfl⟩) (by assumption) ?_
    (try simp only [Act.put, List.setIfInBounds_toArray, List.set_cons_zero, List.set_cons_succ])
    refine wpAnyH_take (i := 6) (oi := ⟨_, _, _, _, _, _⟩) (v := undef) rfl (by kernel_rfl) (by kernel_rfl) (by kernel_rfl) (fun _ _ _ h => h) (Or.inr ⟨by rfl, rfl⟩) (by assumption) ?_
    (try simp only [Act.put, List.setIfInBounds_toArray, List.set_cons_zero, List.set_cons_succ])
    refine wpAnyH_take (i := 7) (oi := ⟨_, _, _, _, _, _⟩) (v := undef) rfl (by kernel_rfl) (by kernel_rfl) (by kernel_rfl) (fun _ _ _ h => h) (Or.inr ⟨by rfl, rfl⟩) (by assumption) ?_
    (try simp only [Act.put, List.setIfInBounds_toArray, List.set_cons_zero, List.set_cons_succ])
    refine wpAnyH_take (i := 8) (oi := ⟨_, _, _, _, _, _⟩) (v := undef) rfl (by kernel_rfl) (by kernel_rfl) (by kernel_rfl) (fun _ _ _ h => h) (Or.inr ⟨by rfl, rfl⟩) (by assumption) ?_
    (try simp only [Act.put, List.setIfInBounds_toArray, List.set_cons_zero, List.set_cons_succ])
    refine wpAnyH_take (i := 9) (oi := ⟨_, _, _, _, _, _⟩) (v := undef) rfl (by kernel_rfl) (by kernel_rfl) (by kernel_rfl) (fun _ _ _ h => h) (Or.inr ⟨by rfl, rfl⟩) (by assumption) ?_
    (try simp only [Act.put, List.setIfInBounds_toArray, List.set_cons_zero, List.set_cons_succ])
    refine wpAnyH_take (i := 10) (oi := ⟨_, _, _, _, _, _⟩) (v := ?v6) rfl (by kernel_rfl) (by kernel_rfl) (by kernel_rfl) (fun _ _ _ h => h) (Or.inl ⟨by rfl, ?hy6⟩) (by assumption) ?_
    case hy6 => (intro w hSw; (try dsimp only at hSw); go_simp; (try (with_reducible rfl)))
    (try simp only [Act.put, List.setIfInBounds_toArray, List.set_cons_zero, List.set_cons_succ])
    refine wpAnyH_done (by kernel_rfl) ?_ _
    go_wp2_with fail
    go_ret
    exact ⟨rfl, HX2.out.1⟩
  | true =>
  rw [hl] at KA
  have HR : Hid ((if (true && (true && (true && decide (y ≤ c)))) = true then (0 : Int) else 2) = if c < y then 2 else 0) := Lib.hid (by
    by_cases h : y ≤ c
    · rw [decide_eq_true h, if_neg (show ¬ c < y by omega)]; rfl
    · rw [decide_eq_false h, if_pos (show c < y by omega)]; rfl)
  rw [HR.out]
  cases hy : decide (c < y)
  all_goals
    have HY := Lib.hid hy
    have HZ : Hid ((if c < y then (2 : Int) else 0) = if decide (c < y) = true then 2 else 0) := Lib.hid (by by_cases h : c < y <;> simp [h])
    rw [HZ.out, hy]
    clear hm hv hl HZ HR HY
    go_enter Try.func67, Try.ntmps67
    go_wp2_with (first | (go_at_call 64; (with_reducible refine (KM.out _).mono ?_); rintro e w' ⟨rfl, rfl⟩) | (go_at_call 51; (with_reducible refine (KV.out _ (HS.out.up ((Up.refl w).alloc _ _))).mono ?_); rintro e w1 ⟨rfl, hu⟩; have c0 := hu.keep w.heap.size 0 (.int .i64 v) (by simp [go_sem]); have c1 := hu.keep w.heap.size 1 (.int .i64 q) (by simp [go_sem]); have c2 := hu.keep w.heap.size 2 (.int .i64 c) (by simp [go_sem]); have c3 := hu.keep w.heap.size 3 (.int .i64 now) (by simp [go_sem]); have c4 := hu.keep w.heap.size 4 (.slice A n k) (by simp [go_sem]); have HU1 := Lib.hid (((Up.refl w).alloc _ _).trans hu); clear hu))
    have HSS : Hid (Up w w1 ∧ w1.cell? ⟨w.heap.size, 0, none⟩ = some (.int .i64 v) ∧ w1.cell? ⟨w.heap.size, 1, none⟩ = some (.int .i64 q) ∧ w1.cell? ⟨w.heap.size, 2, none⟩ = some (.int .i64 c) ∧ w1.cell? ⟨w.heap.size, 3, none⟩ = some (.int .i64 now) ∧ w1.cell? ⟨w.heap.size, 4, none⟩ = some (.slice A n k)) := Lib.hid ⟨HU1.out, c0, c1, c2, c3, c4⟩
    clear c0 c1 c2 c3 c4
    go_region_held3 (fun w' => Up w w' ∧ w'.cell? ⟨w.heap.size, 0, none⟩ = some (.int .i64 v) ∧ w'.cell? ⟨w.heap.size, 1, none⟩ = some (.int .i64 q) ∧ w'.cell? ⟨w.heap.size, 2, none⟩ = some (.int .i64 c) ∧ w'.cell? ⟨w.heap.size, 3, none⟩ = some (.int .i64 now) ∧ w'.cell? ⟨w.heap.size, 4, none⟩ = some (.slice A n k))
      (repeat (first | (with_reducible exact HSS.out) | (with_reducible exact keepQ5 (by assumption) (by assumption)) | (with_reducible exact Hid.out (by assumption)) | (with_reducible refine keepQ5 (Lib.hid (Up.refl _).drew) ?_)))
      (first
      | (go_at_call 98; (with_reducible refine (KA.out _ (HS.out.up (by assumption : Up w _ ∧ _).1)).mono ?_); rintro e w2 ⟨rfl, hu⟩; have HU2 := Lib.hid hu; have HX2 := Lib.hid (keepQ5 HU2 (by assumption)); clear hu)
      | (go_at_call 45; (with_reducible refine (KT.out _ (HS.out.up (by assumption : Up w _ ∧ _).1)).mono ?_); rintro e w3 ⟨rfl, hu⟩; have HU3 := Lib.hid hu; have HX3 := Lib.hid (keepQ5 HU3 (by assumption)); clear hu))
    clear ‹Up w _ ∧ _›
    go_wp2_with fail
    go_ret
    exact ⟨rfl, HX3.out.1⟩
end Go.Proofs.Ytfdjhahnggdklaa
