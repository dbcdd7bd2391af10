/- What Validate of package sum and of its reference returns. -/
import Derived.Test.YtfdjhahnggdklaaZCClock
import Derived.Test.YtfdjhahnggdklaaZGBasem8
import Derived.Test.YtfdjhahnggdklaaZGLawm3
import Derived.Test.YtfdjhahnggdklaaZHOrdm2
import Derived.Test.YtfdjhahnggdklaaZHRVal
import Derived.Test.YtfdjhahnggdklaaZHRowm3
import Derived.Test.YtfdjhahnggdklaaZHSamem5
import Derived.Test.YtfdjhahnggdklaaZHSmallm7
import Derived.Test.YtfdjhahnggdklaaZHVal
import Derived.Test.YtfdjhahnggdklaaZIBasem2
import Derived.Test.YtfdjhahnggdklaaZIVal
import Derived.Test.YtfdjhahnggdklaaZJBase
import Derived.Test.YtfdjhahnggdklaaZJSt
import Derived.Test.YtfdjhahnggdklaaZREasym4
import Derived.Test.YtfdjhahnggdklaaZWCmpm5
import Derived.Test.YtfdjhahnggdklaaZWGcd
import Derived.Test.YtfdjhahnggdklaaZWMathm9
import Derived.Test.YtfdjhahnggdklaaZWRDiv2
namespace Go.Proofs.Ytfdjhahnggdklaa
open Go.RowKit
set_option linter.unusedVariables false


set_option maxHeartbeats 4000000 in
set_option maxRecDepth 100000 in
theorem allLive12_up (v q c mx now : Int) (n k : Nat) (A : Option Addr) (L : List It) (hn : n ≤ 50000) (w : World) (hS : Sl w A n L) :
    Calls Try.prog 52 #[.agg #[.int .i64 v, .int .i64 q, .int .i64 c, .int .i64 mx, .int .i64 now, .slice A n k]] w fun e w' => e = .returned (.bool (lvX now v L)) ∧ Up w w' := by
  have HL := Lib.hid hS.1
  have HS := Lib.hid hS
  have KL := Lib.hid (live_any now v)
  have HB := Lib.hid (fun j (hj : j < L.length) (h : liveB now v (L.getD j (0, 0)).1 = false) => lvX_bad (X := L) hj h)
  have HT := Lib.hid (show (∀ j, j < L.length → liveB now v (L.getD j (0, 0)).1 = true) → lvX now v L = true from fun h => decide_eq_true h)
  generalize lvX now v L = r at HB HT ⊢
  clear hS
  go_enter Try.func52, Try.ntmps52
  go_wp2_with fail
  go_loopw [8] (fun t wr => ∃ i : Nat, t = .int .i64 i ∧ i ≤ n ∧ Hid (∀ j, j < i → liveB now v (L.getD j (0, 0)).1 = true) ∧ Hid (Up (w.alloc (.cells #[.int .i64 v, .int .i64 q, .int .i64 c, .int .i64 mx, .int .i64 now, .slice A n k] 24)) wr)) (fun t _ => n - (intOf t).toNat)
  case atStart => exact ⟨0, rfl, Nat.zero_le _, Lib.hid (fun j hj => absurd hj (Nat.not_lt_zero _)), Lib.hid (Up.refl _)⟩
  case round =>
    obtain ⟨i, rfl, hin, HG, HW⟩ := hrel
    have c0 := HW.out.keep w.heap.size 0 (.int .i64 v) (by simp [go_sem])
    have c4 := HW.out.keep w.heap.size 4 (.int .i64 now) (by simp [go_sem])
    have hlt : w.heap.size < wr.heap.size := World.block_lt_of_cell? _ _ c0
    by_cases hi : i < n
    · obtain ⟨b, o, rfl, d0, d1⟩ := (HS.out.up (((Up.refl w).alloc _ _).trans HW.out)).at_ hi
      have hil : i < L.length := by rw [HL.out]; exact hi
      have HX : Hid (liveB now v (L.getD i (0, 0)).1 = false → r = false) := Lib.hid (HB.out i hil)
      have HY : Hid (liveB now v (L.getD i (0, 0)).1 = true → ∀ j, j < i + 1 → liveB now v (L.getD j (0, 0)).1 = true) := Lib.hid (fun h j hj => by
        rcases Nat.lt_or_ge j i with g | g
        · exact HG.out j g
        · obtain rfl : j = i := by omega
          exact h)
      have KJ := Lib.hid (KL.out (L.getD i (0, 0)).1)
      generalize (L.getD i (0, 0)).1 = p0 at d0 HX HY KJ
      generalize (L.getD i (0, 0)).2 = p1 at d1
      have f2 : (i : Int) < n := by omega
      have f3 : (0 : Int) ≤ i := by omega
      cases hp : liveB now v p0 with
      | false =>
        obtain rfl : r = false := HX.out hp
        rw [hp] at KJ
        clear hp HB HT HG HX HY
        go_wp2_with (go_at_call 88; (with_reducible refine (KJ.out _).mono ?_); rintro e w' ⟨rfl, rfl⟩)
        go_ret
        exact ⟨rfl, ((Up.refl w).alloc _ _).trans (HW.out.alloc _ _)⟩
      | true =>
        have HG1 := Lib.hid (HY.out hp)
        rw [hp] at KJ
        clear hp HG HX HY
        go_wp2_with (go_at_call 88; (with_reducible refine (KJ.out _).mono ?_); rintro e w' ⟨rfl, rfl⟩)
        go_roundw
        case rel => exact ⟨i + 1, by go_num, by omega, HG1, Lib.hid (HW.out.alloc _ _)⟩
        case measure => simp [intOf]; omega
    · obtain rfl : i = n := by omega
      obtain rfl : r = true := HT.out (fun j hj => HG.out j (by rw [HL.out] at hj; exact hj))
      clear HB HT HG
      go_wp2_with fail
      go_ret
      exact ⟨rfl, ((Up.refl w).alloc _ _).trans HW.out⟩

set_option maxHeartbeats 4000000 in
set_option maxRecDepth 100000 in
theorem rvalidate12_up (v q c mx now : Int) (n k : Nat) (A : Option Addr) (L : List It) (hn : n ≤ 50000) (w : World) (hS : Sl w A n L) :
    Calls Try.prog 20 #[.agg #[.int .i64 v, .int .i64 q, .int .i64 c, .int .i64 mx, .int .i64 now, .slice A n k]] w fun e w' => e = .returned (.int .i64 (stSE v q c mx now L)) ∧ Up w w' := by
  have KF := Lib.hid (fun W (h : Sl W A n L) => rfits11_up v q c now n k A L hn W h)
  have KX := Lib.hid (rmaymax_any mx)
  have HS := Lib.hid hS
  unfold stSE stS
  clear hS
  generalize stC v q c now L = r at *
  generalize mxB mx = r2 at *
  cases r <;> cases r2
  all_goals
    go_enter Try.func20, Try.ntmps20
    go_wp2_with (first | (go_at_call 53; (with_reducible refine (KF.out _ (HS.out.up ((Up.refl w).alloc _ _))).mono ?_); rintro e w1 ⟨rfl, hu⟩; have HU := Lib.hid (((Up.refl w).alloc _ _).trans hu); have c3 := hu.keep w.heap.size 3 (.int .i64 mx) (by simp [go_sem]); clear hu) | (go_at_call 38; (with_reducible refine (KX.out _).mono ?_); rintro e w' ⟨rfl, rfl⟩))
    go_ret
    exact ⟨rfl, HU.out⟩

set_option maxHeartbeats 4000000 in
set_option maxRecDepth 100000 in
theorem validate12_up (v q c mx now : Int) (n k : Nat) (A : Option Addr) (L : List It) (hn : n ≤ 50000) (w : World) (hS : Sl w A n L) :
    Calls Try.prog 19 #[.agg #[.int .i64 v, .int .i64 q, .int .i64 c, .int .i64 mx, .int .i64 now, .slice A n k]] w fun e w' => e = .returned (.int .i64 (stSE v q c mx now L)) ∧ Up w w' := by
  have KM := Lib.hid (fun W => validSizes12_up v q c mx now n k A W)
  have KV := Lib.hid (fun W (h : Sl W A n L) => valid10_up n k A L q (by omega) W h)
  have KA := Lib.hid (fun W (h : Sl W A n L) => allLive12_up v q c mx now n k A L hn W h)
  have KT := Lib.hid (fun W (h : Sl W A n L) => total10_up n k A L (by omega) W h)
  have HS := Lib.hid hS
  unfold stSE
  rw [stS_form]
  clear hS
  cases hm : mayS v q c mx now with
  | false =>
    rw [hm] at KM
    clear hm
    go_enter Try.func19, Try.ntmps19
    go_wp2_with (first | (go_at_call 35; (with_reducible refine (KM.out _).mono ?_); rintro e w0 ⟨rfl, hu⟩; have g0 := hu.keep w.heap.size 0 (.int .i64 v) (by simp [go_sem]); have g1 := hu.keep w.heap.size 1 (.int .i64 q) (by simp [go_sem]); have g2 := hu.keep w.heap.size 2 (.int .i64 c) (by simp [go_sem]); have g3 := hu.keep w.heap.size 3 (.int .i64 mx) (by simp [go_sem]); have g4 := hu.keep w.heap.size 4 (.int .i64 now) (by simp [go_sem]); have g5 := hu.keep w.heap.size 5 (.slice A n k) (by simp [go_sem]); have HU0 := Lib.hid (((Up.refl w).alloc _ _).trans hu); clear hu) | (go_at_call 51; (with_reducible refine (KV.out _ (HS.out.up HU0.out)).mono ?_); rintro e w1 ⟨rfl, hu⟩; have c0 := hu.keep _ _ _ g0; have c1 := hu.keep _ _ _ g1; have c2 := hu.keep _ _ _ g2; have c3 := hu.keep _ _ _ g3; have c4 := hu.keep _ _ _ g4; have c5 := hu.keep _ _ _ g5; have HU1 := Lib.hid (HU0.out.trans hu); clear hu g0 g1 g2 g3 g4 g5))
    go_ret
    exact ⟨rfl, HU0.out⟩
  | true =>
  rw [hm] at KM
  cases hv : vaB L q with
  | false =>
    rw [hv] at KV
    clear hm hv
    go_enter Try.func19, Try.ntmps19
    go_wp2_with (first | (go_at_call 35; (with_reducible refine (KM.out _).mono ?_); rintro e w0 ⟨rfl, hu⟩; have g0 := hu.keep w.heap.size 0 (.int .i64 v) (by simp [go_sem]); have g1 := hu.keep w.heap.size 1 (.int .i64 q) (by simp [go_sem]); have g2 := hu.keep w.heap.size 2 (.int .i64 c) (by simp [go_sem]); have g3 := hu.keep w.heap.size 3 (.int .i64 mx) (by simp [go_sem]); have g4 := hu.keep w.heap.size 4 (.int .i64 now) (by simp [go_sem]); have g5 := hu.keep w.heap.size 5 (.slice A n k) (by simp [go_sem]); have HU0 := Lib.hid (((Up.refl w).alloc _ _).trans hu); clear hu) | (go_at_call 51; (with_reducible refine (KV.out _ (HS.out.up HU0.out)).mono ?_); rintro e w1 ⟨rfl, hu⟩; have c0 := hu.keep _ _ _ g0; have c1 := hu.keep _ _ _ g1; have c2 := hu.keep _ _ _ g2; have c3 := hu.keep _ _ _ g3; have c4 := hu.keep _ _ _ g4; have c5 := hu.keep _ _ _ g5; have HU1 := Lib.hid (HU0.out.trans hu); clear hu g0 g1 g2 g3 g4 g5))
    go_ret
    exact ⟨rfl, HU1.out⟩
  | true =>
  rw [hv] at KV
  generalize totB L = y at *
  cases hl : lvX now v L with
  | false =>
    rw [hl] at KA
    clear hm hv hl
    go_enter Try.func19, Try.ntmps19
    go_wp2_with (first | (go_at_call 35; (with_reducible refine (KM.out _).mono ?_); rintro e w0 ⟨rfl, hu⟩; have g0 := hu.keep w.heap.size 0 (.int .i64 v) (by simp [go_sem]); have g1 := hu.keep w.heap.size 1 (.int .i64 q) (by simp [go_sem]); have g2 := hu.keep w.heap.size 2 (.int .i64 c) (by simp [go_sem]); have g3 := hu.keep w.heap.size 3 (.int .i64 mx) (by simp [go_sem]); have g4 := hu.keep w.heap.size 4 (.int .i64 now) (by simp [go_sem]); have g5 := hu.keep w.heap.size 5 (.slice A n k) (by simp [go_sem]); have HU0 := Lib.hid (((Up.refl w).alloc _ _).trans hu); clear hu) | (go_at_call 51; (with_reducible refine (KV.out _ (HS.out.up HU0.out)).mono ?_); rintro e w1 ⟨rfl, hu⟩; have c0 := hu.keep _ _ _ g0; have c1 := hu.keep _ _ _ g1; have c2 := hu.keep _ _ _ g2; have c3 := hu.keep _ _ _ g3; have c4 := hu.keep _ _ _ g4; have c5 := hu.keep _ _ _ g5; have HU1 := Lib.hid (HU0.out.trans hu); clear hu g0 g1 g2 g3 g4 g5))
    have HSS : Hid (Up w w1 ∧ w1.cell? ⟨w.heap.size, 0, none⟩ = some (.int .i64 v) ∧ w1.cell? ⟨w.heap.size, 1, none⟩ = some (.int .i64 q) ∧ w1.cell? ⟨w.heap.size, 2, none⟩ = some (.int .i64 c) ∧ w1.cell? ⟨w.heap.size, 3, none⟩ = some (.int .i64 mx) ∧ w1.cell? ⟨w.heap.size, 4, none⟩ = some (.int .i64 now) ∧ w1.cell? ⟨w.heap.size, 5, none⟩ = some (.slice A n k)) := Lib.hid ⟨HU1.out, c0, c1, c2, c3, c4, c5⟩
    clear c0 c1 c2 c3 c4 c5
    refine wp_region_held_drew (S := fun w' => Up w w' ∧ w'.cell? ⟨w.heap.size, 0, none⟩ = some (.int .i64 v) ∧ w'.cell? ⟨w.heap.size, 1, none⟩ = some (.int .i64 q) ∧ w'.cell? ⟨w.heap.size, 2, none⟩ = some (.int .i64 c) ∧ w'.cell? ⟨w.heap.size, 3, none⟩ = some (.int .i64 mx) ∧ w'.cell? ⟨w.heap.size, 4, none⟩ = some (.int .i64 now) ∧ w'.cell? ⟨w.heap.size, 5, none⟩ = some (.slice A n k)) (by kernel_rfl) ?hB1 (fun hHeld => ?_)
    case hB1 => (first | (with_reducible assumption) | (with_reducible exact keepQ6 (Lib.hid (Up.refl _).drew) HSS.out) | (with_reducible exact HX2.out))
    refine wpAnyH_take (i := 0) (oi := ⟨_, _, _, _, _, _⟩) (v := ?v2) rfl (by kernel_rfl) (by kernel_rfl) (by kernel_rfl) (fun _ _ _ h => h) (Or.inl ⟨by rfl, ?hy2⟩) (by assumption) ?_
    case hy2 => (intro w hSw; (try dsimp only at hSw); go_simp; (try (with_reducible rfl)))
    (try simp only [Act.put, List.setIfInBounds_toArray, List.set_cons_zero, List.set_cons_succ])
    refine wpAnyH_ready (rs := [1]) (by kernel_rfl) (by simp) ?_
    refine AllReadyH.cons (o := ⟨_, _, _, _, _, _⟩) rfl (fun K hK => ?_) AllReadyH.nil
    go_simp
    (go_at_call 52; (with_reducible refine (KA.out _ (HS.out.up hHeld.1)).mono ?_); rintro e w2 ⟨rfl, hu⟩; have HU2 := Lib.hid hu; have HX2 := Lib.hid (keepQ6 HU2 hHeld); clear hu)
    (try go_wp2_with fail)
    refine hK.out _ _ ?hB3 (fun hHeld => ?_)
    case hB3 => (first | (with_reducible assumption) | (with_reducible exact keepQ6 (Lib.hid (Up.refl _).drew) HSS.out) | (with_reducible exact HX2.out))
    clear hK K
    (try simp only [Act.put, List.setIfInBounds_toArray, List.set_cons_zero, List.set_cons_succ])
    refine wpAnyH_take (i := 2) (oi := ⟨_, _, _, _, _, _⟩) (v := ?v4) rfl (by kernel_rfl) (by kernel_rfl) (by kernel_rfl) (fun _ _ _ h => h) (Or.inl ⟨by rfl, ?hy4⟩) (by assumption) ?_
    case hy4 => (intro w hSw; (try dsimp only at hSw); go_simp; (try (with_reducible rfl)))
    (try simp only [Act.put, List.setIfInBounds_toArray, List.set_cons_zero, List.set_cons_succ])
    refine wpAnyH_take (i := 3) (oi := ⟨_, _, _, _, _, _⟩) (v := ?v5) rfl (by kernel_rfl) (by kernel_rfl) (by kernel_rfl) (fun _ _ _ h => h) (Or.inl ⟨by rfl, ?hy5⟩) (by assumption) ?_
    case hy5 => (intro w hSw; (try dsimp only at hSw); go_simp; (try (with_reducible rfl)))
    (try simp only [Act.put, List.setIfInBounds_toArray, List.set_cons_zero, List.set_cons_succ])
    refine wpAnyH_take (i := 4) (oi := ⟨_, _, _, _, _, _⟩) (v := undef) rfl (by kernel_rfl) (by kernel_rfl) (by kernel_rfl) (fun _ _ _ h => h) (Or.inr ⟨by rfl, rfl⟩) (by assumption) ?_
    (try simp only [Act.put, List.setIfInBounds_toArray, List.set_cons_zero, List.set_cons_succ])
    refine wpAnyH_take (i := 5) (oi := ⟨_, _, _, _, _, _⟩) (v := undef) rfl (by kernel_rfl) (by kernel_rfl) (by kernel_rfl) (fun _ _ _ h => h) (Or.inr ⟨by rfl, rfl⟩) (by assumption) ?_
    (try simp only [Act.put, List.setIfInBounds_toArray, List.set_cons_zero, List.set_cons_succ])
    refine wpAnyH_take (i := 6) (oi := ⟨_, _, _, _, _, _⟩) (v := undef) rfl (by kernel_rfl) (by kernel_rfl) (by kernel_rfl) (fun _ _ _ h => h) (Or.inr ⟨by rfl, rfl⟩) (by assumption) ?_
    (try simp only [Act.put, List.setIfInBounds_toArray, List.set_cons_zero, List.set_cons_succ])
    refine wpAnyH_take (i := 7) (oi := ⟨_, _, _, _, _, _⟩) (v := undef) rfl (by kernel_rfl) (by kernel_rfl) (by kernel_rfl) (fun _ _ _ h => h) (Or.inr ⟨by rfl, rfl⟩) (by assumption) ?_
    (try simp only [Act.put, List.setIfInBounds_toArray, List.set_cons_zero, List.set_cons_succ])
    refine wpAnyH_take (i := 8) (oi := ⟨_, _, _, _, _, _⟩) (v := undef) rfl (by kernel_rfl) (by kernel_rfl) (by kernel_rfl) (fun _ _ _ h => h) (Or.inr ⟨by rfl, rfl⟩) (by assumption) ?_
    (try simp only [Act.put, List.setIfInBounds_toArray, List.set_cons_zero, List.set_cons_succ])
    refine wpAnyH_take (i := 9) (oi := ⟨_, _, _, _, _, _⟩) (v := undef) rfl (by kernel_rfl) (by kernel_rfl) (by kernel_rfl) (fun _ _ _ h => h) (Or.inr ⟨by rfl, rfl⟩) (by assumption) ?_
    (try simp only [Act.put, List.setIfInBounds_toArray, List.set_cons_zero, List.set_cons_succ])
    refine wpAnyH_take (i := 10) (oi := ⟨_, _, _, _, _, _⟩) (v := ?v6) rfl (by kernel_rfl) (by kernel_rfl) (by kernel_rfl) (fun _ _ _ h => h) (Or.inl ⟨by rfl, ?hy6⟩) (by assumption) ?_
    case hy6 => (intro w hSw; (try dsimp only at hSw); go_simp; (try (with_reducible rfl)))
    (try simp only [Act.put, List.setIfInBounds_toArray, List.set_cons_zero, List.set_cons_succ])
    refine wpAnyH_done (by kernel_rfl) ?_ _
    go_wp2_with fail
    go_ret
    exact ⟨rfl, HX2.out.1⟩
  | true =>
  rw [hl] at KA
  have HR : Hid ((if (true && (true && (true && decide (y ≤ c)))) = true then (0 : Int) else 2) = if c < y then 2 else 0) := Lib.hid (by
    by_cases h : y ≤ c
    · rw [decide_eq_true h, if_neg (show ¬ c < y by omega)]; rfl
    · rw [decide_eq_false h, if_pos (show c < y by omega)]; rfl)
  rw [HR.out]
  cases hy : decide (c < y)
  all_goals
    have HY := Lib.hid hy
    have HZ : Hid ((if c < y then (2 : Int) else 0) = if decide (c < y) = true then 2 else 0) := Lib.hid (by by_cases h : c < y <;> simp [h])
    rw [HZ.out, hy]
    clear hm hv hl HZ HR HY
    go_enter Try.func19, Try.ntmps19
    go_wp2_with (first | (go_at_call 35; (with_reducible refine (KM.out _).mono ?_); rintro e w0 ⟨rfl, hu⟩; have g0 := hu.keep w.heap.size 0 (.int .i64 v) (by simp [go_sem]); have g1 := hu.keep w.heap.size 1 (.int .i64 q) (by simp [go_sem]); have g2 := hu.keep w.heap.size 2 (.int .i64 c) (by simp [go_sem]); have g3 := hu.keep w.heap.size 3 (.int .i64 mx) (by simp [go_sem]); have g4 := hu.keep w.heap.size 4 (.int .i64 now) (by simp [go_sem]); have g5 := hu.keep w.heap.size 5 (.slice A n k) (by simp [go_sem]); have HU0 := Lib.hid (((Up.refl w).alloc _ _).trans hu); clear hu) | (go_at_call 51; (with_reducible refine (KV.out _ (HS.out.up HU0.out)).mono ?_); rintro e w1 ⟨rfl, hu⟩; have c0 := hu.keep _ _ _ g0; have c1 := hu.keep _ _ _ g1; have c2 := hu.keep _ _ _ g2; have c3 := hu.keep _ _ _ g3; have c4 := hu.keep _ _ _ g4; have c5 := hu.keep _ _ _ g5; have HU1 := Lib.hid (HU0.out.trans hu); clear hu g0 g1 g2 g3 g4 g5))
    have HSS : Hid (Up w w1 ∧ w1.cell? ⟨w.heap.size, 0, none⟩ = some (.int .i64 v) ∧ w1.cell? ⟨w.heap.size, 1, none⟩ = some (.int .i64 q) ∧ w1.cell? ⟨w.heap.size, 2, none⟩ = some (.int .i64 c) ∧ w1.cell? ⟨w.heap.size, 3, none⟩ = some (.int .i64 mx) ∧ w1.cell? ⟨w.heap.size, 4, none⟩ = some (.int .i64 now) ∧ w1.cell? ⟨w.heap.size, 5, none⟩ = some (.slice A n k)) := Lib.hid ⟨HU1.out, c0, c1, c2, c3, c4, c5⟩
    clear c0 c1 c2 c3 c4 c5
    go_region_held3 (fun w' => Up w w' ∧ w'.cell? ⟨w.heap.size, 0, none⟩ = some (.int .i64 v) ∧ w'.cell? ⟨w.heap.size, 1, none⟩ = some (.int .i64 q) ∧ w'.cell? ⟨w.heap.size, 2, none⟩ = some (.int .i64 c) ∧ w'.cell? ⟨w.heap.size, 3, none⟩ = some (.int .i64 mx) ∧ w'.cell? ⟨w.heap.size, 4, none⟩ = some (.int .i64 now) ∧ w'.cell? ⟨w.heap.size, 5, none⟩ = some (.slice A n k))
      (repeat (first | (with_reducible exact HSS.out) | (with_reducible exact keepQ6 (by assumption) (by assumption)) | (with_reducible exact Hid.out (by assumption)) | (with_reducible refine keepQ6 (Lib.hid (Up.refl _).drew) ?_)))
      (first
      | (go_at_call 52; (with_reducible refine (KA.out _ (HS.out.up (by assumption : Up w _ ∧ _).1)).mono ?_); rintro e w2 ⟨rfl, hu⟩; have HU2 := Lib.hid hu; have HX2 := Lib.hid (keepQ6 HU2 (by assumption)); clear hu)
      | (go_at_call 45; (with_reducible refine (KT.out _ (HS.out.up (by assumption : Up w _ ∧ _).1)).mono ?_); rintro e w3 ⟨rfl, hu⟩; have HU3 := Lib.hid hu; have HX3 := Lib.hid (keepQ6 HU3 (by assumption)); clear hu))
    clear ‹Up w _ ∧ _›
    go_wp2_with fail
    go_ret
    exact ⟨rfl, HX3.out.1⟩
end Go.Proofs.Ytfdjhahnggdklaa
