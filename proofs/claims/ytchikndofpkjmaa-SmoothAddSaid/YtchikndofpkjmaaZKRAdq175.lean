/- The reference of layer 13: Add. -/
import Derived.Test.YtchikndofpkjmaaRows
import Derived.Test.YtchikndofpkjmaaZKRAmq174
namespace Go.Proofs.Ytchikndofpkjmaa
open Go.RowKit
set_option linter.unusedVariables false

set_option maxHeartbeats 4000000 in
set_option maxRecDepth 100000 in
theorem radd13_bad (g v q c now seq d : Int) (n k : Nat) (A : Option Addr) (X : List Mrk) (hn : n ≤ 50000) (hk : n ≤ k) (hv : stM g v q c now seq X = false) (w : World) (hS : SG cM w A n X) :
    Calls Try.prog 24 #[.agg #[.int .i64 g, .int .i64 v, .int .i64 q, .int .i64 c, .int .i64 now, .int .i64 seq, .slice A n k], .int .i64 d] w fun e w' => e = .returned (.tuple #[.agg #[.int .i64 0, .int .i64 0, .int .i64 0, .int .i64 0, .int .i64 0, .int .i64 0, .slice none 0 0], .int .i64 2]) ∧ Up w w' := by
  have KV := Lib.hid (fun W (h : SG cM W A n X) => rvalidate13_up g v q c now seq n k A X hn W h)
  rw [stME_no hv] at KV
  have HS := Lib.hid hS
  clear hS hv
  go_enter Try.func24, Try.ntmps24
  go_wp2_with (go_at_call 20; (with_reducible refine (KV.out _ (HS.out.up (((Up.refl w).alloc _ _).alloc _ _))).mono ?_); rintro e w1 ⟨rfl, hu⟩; have HU1 := Lib.hid ((((Up.refl w).alloc #[.int .i64 g, .int .i64 v, .int .i64 q, .int .i64 c, .int .i64 now, .int .i64 seq, .slice A n k] 26).alloc #[.int .i64 0, .int .i64 0, .int .i64 0, .int .i64 0, .int .i64 0, .int .i64 0, .slice none 0 0] 26).trans hu); have c00 := hu.keep (w.heap.size) 0 (.int .i64 g) (by simp [go_sem]); have c01 := hu.keep (w.heap.size) 1 (.int .i64 v) (by simp [go_sem]); have c02 := hu.keep (w.heap.size) 2 (.int .i64 q) (by simp [go_sem]); have c03 := hu.keep (w.heap.size) 3 (.int .i64 c) (by simp [go_sem]); have c04 := hu.keep (w.heap.size) 4 (.int .i64 now) (by simp [go_sem]); have c05 := hu.keep (w.heap.size) 5 (.int .i64 seq) (by simp [go_sem]); have c06 := hu.keep (w.heap.size) 6 (.slice A n k) (by simp [go_sem]); have c10 := hu.keep (w.heap.size + 1) 0 (.int .i64 0) (by simp [go_sem]); have c11 := hu.keep (w.heap.size + 1) 1 (.int .i64 0) (by simp [go_sem]); have c12 := hu.keep (w.heap.size + 1) 2 (.int .i64 0) (by simp [go_sem]); have c13 := hu.keep (w.heap.size + 1) 3 (.int .i64 0) (by simp [go_sem]); have c14 := hu.keep (w.heap.size + 1) 4 (.int .i64 0) (by simp [go_sem]); have c15 := hu.keep (w.heap.size + 1) 5 (.int .i64 0) (by simp [go_sem]); have c16 := hu.keep (w.heap.size + 1) 6 (.slice none 0 0) (by simp [go_sem]); have z00 := HU1.out.ownGe (g := w.heap.size) (Nat.le_refl _) 0; have z01 := HU1.out.ownGe (g := w.heap.size) (Nat.le_refl _) 1; have z02 := HU1.out.ownGe (g := w.heap.size) (Nat.le_refl _) 2; have z03 := HU1.out.ownGe (g := w.heap.size) (Nat.le_refl _) 3; have z04 := HU1.out.ownGe (g := w.heap.size) (Nat.le_refl _) 4; have z05 := HU1.out.ownGe (g := w.heap.size) (Nat.le_refl _) 5; have z06 := HU1.out.ownGe (g := w.heap.size) (Nat.le_refl _) 6; have z10 := HU1.out.ownGe (g := w.heap.size + 1) (by omega) 0; have z11 := HU1.out.ownGe (g := w.heap.size + 1) (by omega) 1; have z12 := HU1.out.ownGe (g := w.heap.size + 1) (by omega) 2; have z13 := HU1.out.ownGe (g := w.heap.size + 1) (by omega) 3; have z14 := HU1.out.ownGe (g := w.heap.size + 1) (by omega) 4; have z15 := HU1.out.ownGe (g := w.heap.size + 1) (by omega) 5; have z16 := HU1.out.ownGe (g := w.heap.size + 1) (by omega) 6; have hlt : w.heap.size + 1 < w1.heap.size := World.block_lt_of_cell? _ _ c10; have hlt0 : w.heap.size < w1.heap.size := Nat.lt_of_succ_lt hlt; clear hu)
  refine bodyPost_ret (v := .tuple #[.agg #[.int .i64 0, .int .i64 0, .int .i64 0, .int .i64 0, .int .i64 0, .int .i64 0, .slice none 0 0], .int .i64 2]) (by simp [results, Try.results24, go_sem, c10, c11, c12, c13, c14, c15, c16]) rfl ⟨rfl, ?_⟩
  exact HU1.out.set7 (by omega)

set_option maxHeartbeats 4000000 in
set_option maxRecDepth 100000 in
theorem radd13_range (g v q c now seq d : Int) (n k : Nat) (A : Option Addr) (X : List Mrk) (hn : n ≤ 50000) (hk : n ≤ k) (hv : stM g v q c now seq X = true) (hd : ¬ valG g d) (w : World) (hS : SG cM w A n X) :
    Calls Try.prog 24 #[.agg #[.int .i64 g, .int .i64 v, .int .i64 q, .int .i64 c, .int .i64 now, .int .i64 seq, .slice A n k], .int .i64 d] w fun e w' => e = .returned (.tuple #[.agg #[.int .i64 0, .int .i64 0, .int .i64 0, .int .i64 0, .int .i64 0, .int .i64 0, .slice none 0 0], .int .i64 4]) ∧ Up w w' := by
  have KV := Lib.hid (fun W (h : SG cM W A n X) => rvalidate13_up g v q c now seq n k A X hn W h)
  rw [stME_yes hv] at KV
  have HS := Lib.hid hS
  have KI := Lib.hid (rvalue13_any g d)
  rw [decide_eq_false hd] at KI
  clear hS hv hd
  go_enter Try.func24, Try.ntmps24
  go_wp2_with (first | (go_at_call 58; (with_reducible refine (KI.out _).mono ?_); rintro e w2 ⟨rfl, rfl⟩) | (go_at_call 20; (with_reducible refine (KV.out _ (HS.out.up (((Up.refl w).alloc _ _).alloc _ _))).mono ?_); rintro e w1 ⟨rfl, hu⟩; have HU1 := Lib.hid ((((Up.refl w).alloc #[.int .i64 g, .int .i64 v, .int .i64 q, .int .i64 c, .int .i64 now, .int .i64 seq, .slice A n k] 26).alloc #[.int .i64 0, .int .i64 0, .int .i64 0, .int .i64 0, .int .i64 0, .int .i64 0, .slice none 0 0] 26).trans hu); have c00 := hu.keep (w.heap.size) 0 (.int .i64 g) (by simp [go_sem]); have c01 := hu.keep (w.heap.size) 1 (.int .i64 v) (by simp [go_sem]); have c02 := hu.keep (w.heap.size) 2 (.int .i64 q) (by simp [go_sem]); have c03 := hu.keep (w.heap.size) 3 (.int .i64 c) (by simp [go_sem]); have c04 := hu.keep (w.heap.size) 4 (.int .i64 now) (by simp [go_sem]); have c05 := hu.keep (w.heap.size) 5 (.int .i64 seq) (by simp [go_sem]); have c06 := hu.keep (w.heap.size) 6 (.slice A n k) (by simp [go_sem]); have c10 := hu.keep (w.heap.size + 1) 0 (.int .i64 0) (by simp [go_sem]); have c11 := hu.keep (w.heap.size + 1) 1 (.int .i64 0) (by simp [go_sem]); have c12 := hu.keep (w.heap.size + 1) 2 (.int .i64 0) (by simp [go_sem]); have c13 := hu.keep (w.heap.size + 1) 3 (.int .i64 0) (by simp [go_sem]); have c14 := hu.keep (w.heap.size + 1) 4 (.int .i64 0) (by simp [go_sem]); have c15 := hu.keep (w.heap.size + 1) 5 (.int .i64 0) (by simp [go_sem]); have c16 := hu.keep (w.heap.size + 1) 6 (.slice none 0 0) (by simp [go_sem]); have z00 := HU1.out.ownGe (g := w.heap.size) (Nat.le_refl _) 0; have z01 := HU1.out.ownGe (g := w.heap.size) (Nat.le_refl _) 1; have z02 := HU1.out.ownGe (g := w.heap.size) (Nat.le_refl _) 2; have z03 := HU1.out.ownGe (g := w.heap.size) (Nat.le_refl _) 3; have z04 := HU1.out.ownGe (g := w.heap.size) (Nat.le_refl _) 4; have z05 := HU1.out.ownGe (g := w.heap.size) (Nat.le_refl _) 5; have z06 := HU1.out.ownGe (g := w.heap.size) (Nat.le_refl _) 6; have z10 := HU1.out.ownGe (g := w.heap.size + 1) (by omega) 0; have z11 := HU1.out.ownGe (g := w.heap.size + 1) (by omega) 1; have z12 := HU1.out.ownGe (g := w.heap.size + 1) (by omega) 2; have z13 := HU1.out.ownGe (g := w.heap.size + 1) (by omega) 3; have z14 := HU1.out.ownGe (g := w.heap.size + 1) (by omega) 4; have z15 := HU1.out.ownGe (g := w.heap.size + 1) (by omega) 5; have z16 := HU1.out.ownGe (g := w.heap.size + 1) (by omega) 6; have hlt : w.heap.size + 1 < w1.heap.size := World.block_lt_of_cell? _ _ c10; have hlt0 : w.heap.size < w1.heap.size := Nat.lt_of_succ_lt hlt; clear hu))
  refine bodyPost_ret (v := .tuple #[.agg #[.int .i64 0, .int .i64 0, .int .i64 0, .int .i64 0, .int .i64 0, .int .i64 0, .slice none 0 0], .int .i64 4]) (by simp [results, Try.results24, go_sem, c10, c11, c12, c13, c14, c15, c16]) rfl ⟨rfl, ?_⟩
  exact HU1.out.set7 (by omega)

set_option maxHeartbeats 4000000 in
set_option maxRecDepth 100000 in
theorem radd13_full (g v q c now seq d : Int) (n k : Nat) (A : Option Addr) (X : List Mrk) (hn : n ≤ 50000) (hk : n ≤ k) (hv : stM g v q c now seq X = true) (hd : valG g d) (hf : fuM c seq X = true) (w : World) (hS : SG cM w A n X) :
    Calls Try.prog 24 #[.agg #[.int .i64 g, .int .i64 v, .int .i64 q, .int .i64 c, .int .i64 now, .int .i64 seq, .slice A n k], .int .i64 d] w fun e w' => e = .returned (.tuple #[.agg #[.int .i64 0, .int .i64 0, .int .i64 0, .int .i64 0, .int .i64 0, .int .i64 0, .slice none 0 0], .int .i64 5]) ∧ Up w w' := by
  have KV := Lib.hid (fun W (h : SG cM W A n X) => rvalidate13_up g v q c now seq n k A X hn W h)
  rw [stME_yes hv] at KV
  have HS := Lib.hid hS
  have KI := Lib.hid (rvalue13_any g d)
  rw [decide_eq_true hd] at KI
  have HF : Hid (0 < n ∧ (X.getD 0 mk0).n = c ∨ seq = 1099511627776) := Lib.hid (by
    unfold fuM at hf
    rw [hS.1, Bool.or_eq_true, Bool.and_eq_true, decide_eq_true_eq, decide_eq_true_eq, decide_eq_true_eq] at hf
    exact hf)
  clear hS hv hd hf
  by_cases h0 : 0 < n
  · have f20 : (0 : Int) < n := by omega
    obtain ⟨b, o, rfl, _⟩ := mrk_at HS.out mk0 h0
    have HT := Lib.hid (fun W (h : Up w W) => (mrk_prev (HS.out.up h) h0).2.2.1)
    simp only [Nat.zero_mul, Nat.add_zero] at HT
    generalize (X.getD 0 mk0).n = x0 at *
    by_cases hc : x0 = c
    · subst hc
      clear HF
      go_enter Try.func24, Try.ntmps24
      go_upto_region 6 with (first | (go_at_call 58; (with_reducible refine (KI.out _).mono ?_); rintro e w2 ⟨rfl, rfl⟩) | (go_at_call 20; (with_reducible refine (KV.out _ (HS.out.up (((Up.refl w).alloc _ _).alloc _ _))).mono ?_); rintro e w1 ⟨rfl, hu⟩; have HU1 := Lib.hid ((((Up.refl w).alloc #[.int .i64 g, .int .i64 v, .int .i64 q, .int .i64 x0, .int .i64 now, .int .i64 seq, .slice (some ⟨b, o, none⟩) n k] 26).alloc #[.int .i64 0, .int .i64 0, .int .i64 0, .int .i64 0, .int .i64 0, .int .i64 0, .slice none 0 0] 26).trans hu); have c00 := hu.keep (w.heap.size) 0 (.int .i64 g) (by simp [go_sem]); have c01 := hu.keep (w.heap.size) 1 (.int .i64 v) (by simp [go_sem]); have c02 := hu.keep (w.heap.size) 2 (.int .i64 q) (by simp [go_sem]); have c03 := hu.keep (w.heap.size) 3 (.int .i64 x0) (by simp [go_sem]); have c04 := hu.keep (w.heap.size) 4 (.int .i64 now) (by simp [go_sem]); have c05 := hu.keep (w.heap.size) 5 (.int .i64 seq) (by simp [go_sem]); have c06 := hu.keep (w.heap.size) 6 (.slice (some ⟨b, o, none⟩) n k) (by simp [go_sem]); have c10 := hu.keep (w.heap.size + 1) 0 (.int .i64 0) (by simp [go_sem]); have c11 := hu.keep (w.heap.size + 1) 1 (.int .i64 0) (by simp [go_sem]); have c12 := hu.keep (w.heap.size + 1) 2 (.int .i64 0) (by simp [go_sem]); have c13 := hu.keep (w.heap.size + 1) 3 (.int .i64 0) (by simp [go_sem]); have c14 := hu.keep (w.heap.size + 1) 4 (.int .i64 0) (by simp [go_sem]); have c15 := hu.keep (w.heap.size + 1) 5 (.int .i64 0) (by simp [go_sem]); have c16 := hu.keep (w.heap.size + 1) 6 (.slice none 0 0) (by simp [go_sem]); have z00 := HU1.out.ownGe (g := w.heap.size) (Nat.le_refl _) 0; have z01 := HU1.out.ownGe (g := w.heap.size) (Nat.le_refl _) 1; have z02 := HU1.out.ownGe (g := w.heap.size) (Nat.le_refl _) 2; have z03 := HU1.out.ownGe (g := w.heap.size) (Nat.le_refl _) 3; have z04 := HU1.out.ownGe (g := w.heap.size) (Nat.le_refl _) 4; have z05 := HU1.out.ownGe (g := w.heap.size) (Nat.le_refl _) 5; have z06 := HU1.out.ownGe (g := w.heap.size) (Nat.le_refl _) 6; have z10 := HU1.out.ownGe (g := w.heap.size + 1) (by omega) 0; have z11 := HU1.out.ownGe (g := w.heap.size + 1) (by omega) 1; have z12 := HU1.out.ownGe (g := w.heap.size + 1) (by omega) 2; have z13 := HU1.out.ownGe (g := w.heap.size + 1) (by omega) 3; have z14 := HU1.out.ownGe (g := w.heap.size + 1) (by omega) 4; have z15 := HU1.out.ownGe (g := w.heap.size + 1) (by omega) 5; have z16 := HU1.out.ownGe (g := w.heap.size + 1) (by omega) 6; have hlt : w.heap.size + 1 < w1.heap.size := World.block_lt_of_cell? _ _ c10; have hlt0 : w.heap.size < w1.heap.size := Nat.lt_of_succ_lt hlt; clear hu))
      have hd2 := HT.out _ HU1.out
      have HSS : Hid (Up w w1 ∧ w1.cell? ⟨w.heap.size, 0, none⟩ = some (.int .i64 g) ∧ w1.cell? ⟨w.heap.size, 1, none⟩ = some (.int .i64 v) ∧ w1.cell? ⟨w.heap.size, 2, none⟩ = some (.int .i64 q) ∧ w1.cell? ⟨w.heap.size, 3, none⟩ = some (.int .i64 x0) ∧ w1.cell? ⟨w.heap.size, 4, none⟩ = some (.int .i64 now) ∧ w1.cell? ⟨w.heap.size, 5, none⟩ = some (.int .i64 seq) ∧ w1.cell? ⟨w.heap.size, 6, none⟩ = some (.slice (some ⟨b, o, none⟩) n k) ∧ w1.cell? ⟨(w.heap.size + 1), 0, none⟩ = some (.int .i64 0) ∧ w1.cell? ⟨(w.heap.size + 1), 1, none⟩ = some (.int .i64 0) ∧ w1.cell? ⟨(w.heap.size + 1), 2, none⟩ = some (.int .i64 0) ∧ w1.cell? ⟨(w.heap.size + 1), 3, none⟩ = some (.int .i64 0) ∧ w1.cell? ⟨(w.heap.size + 1), 4, none⟩ = some (.int .i64 0) ∧ w1.cell? ⟨(w.heap.size + 1), 5, none⟩ = some (.int .i64 0) ∧ w1.cell? ⟨(w.heap.size + 1), 6, none⟩ = some (.slice none 0 0) ∧ w1.cell? ⟨b, o + 2, none⟩ = some (.int .i64 x0)) := Lib.hid ⟨HU1.out, c00, c01, c02, c03, c04, c05, c06, c10, c11, c12, c13, c14, c15, c16, hd2⟩
      clear hd2 HT
      go_wp2_with fail
      refine wp_region_held_drew (S := fun w' => Up w w' ∧ w'.cell? ⟨w.heap.size, 0, none⟩ = some (.int .i64 g) ∧ w'.cell? ⟨w.heap.size, 1, none⟩ = some (.int .i64 v) ∧ w'.cell? ⟨w.heap.size, 2, none⟩ = some (.int .i64 q) ∧ w'.cell? ⟨w.heap.size, 3, none⟩ = some (.int .i64 x0) ∧ w'.cell? ⟨w.heap.size, 4, none⟩ = some (.int .i64 now) ∧ w'.cell? ⟨w.heap.size, 5, none⟩ = some (.int .i64 seq) ∧ w'.cell? ⟨w.heap.size, 6, none⟩ = some (.slice (some ⟨b, o, none⟩) n k) ∧ w'.cell? ⟨(w.heap.size + 1), 0, none⟩ = some (.int .i64 0) ∧ w'.cell? ⟨(w.heap.size + 1), 1, none⟩ = some (.int .i64 0) ∧ w'.cell? ⟨(w.heap.size + 1), 2, none⟩ = some (.int .i64 0) ∧ w'.cell? ⟨(w.heap.size + 1), 3, none⟩ = some (.int .i64 0) ∧ w'.cell? ⟨(w.heap.size + 1), 4, none⟩ = some (.int .i64 0) ∧ w'.cell? ⟨(w.heap.size + 1), 5, none⟩ = some (.int .i64 0) ∧ w'.cell? ⟨(w.heap.size + 1), 6, none⟩ = some (.slice none 0 0) ∧ w'.cell? ⟨b, o + 2, none⟩ = some (.int .i64 x0)) (by kernel_rfl) ?hB803 (fun hHeld => ?_)
      case hB803 => (first | (with_reducible assumption) | (with_reducible exact keepK15 (Lib.hid (Up.refl _).drew) HSS.out))
      refine wpAnyH_take (i := 0) (oi := ⟨_, _, _, _, _, _⟩) (v := ?v804) rfl (by kernel_rfl) (by kernel_rfl) (by kernel_rfl) (fun _ _ _ h => h) (Or.inl ⟨by rfl, ?hy804⟩) (by assumption) ?_
      case hy804 => (intro w hSw; (try dsimp only at hSw); go_simp; (try (with_reducible rfl)))
      (try simp only [Act.put, List.setIfInBounds_toArray, List.set_cons_zero, List.set_cons_succ])
      refine wpAnyH_take (i := 1) (oi := ⟨_, _, _, _, _, _⟩) (v := ?v805) rfl (by kernel_rfl) (by kernel_rfl) (by kernel_rfl) (fun _ _ _ h => h) (Or.inl ⟨by rfl, ?hy805⟩) (by assumption) ?_
      case hy805 => (intro w hSw; (try dsimp only at hSw); go_simp; (try (with_reducible rfl)))
      (try simp only [Act.put, List.setIfInBounds_toArray, List.set_cons_zero, List.set_cons_succ])
      refine wpAnyH_take (i := 2) (oi := ⟨_, _, _, _, _, _⟩) (v := ?v806) rfl (by kernel_rfl) (by kernel_rfl) (by kernel_rfl) (fun _ _ _ h => h) (Or.inl ⟨by rfl, ?hy806⟩) (by assumption) ?_
      case hy806 => (intro w hSw; (try dsimp only at hSw); go_simp; (try (with_reducible rfl)))
      (try simp only [Act.put, List.setIfInBounds_toArray, List.set_cons_zero, List.set_cons_succ])
      refine wpAnyH_take (i := 3) (oi := ⟨_, _, _, _, _, _⟩) (v := ?v807) rfl (by kernel_rfl) (by kernel_rfl) (by kernel_rfl) (fun _ _ _ h => h) (Or.inl ⟨by rfl, ?hy807⟩) (by assumption) ?_
      case hy807 => (intro w hSw; (try dsimp only at hSw); go_simp; (try (with_reducible rfl)))
      (try simp only [Act.put, List.setIfInBounds_toArray, List.set_cons_zero, List.set_cons_succ])
      refine wpAnyH_take (i := 4) (oi := ⟨_, _, _, _, _, _⟩) (v := ?v808) rfl (by kernel_rfl) (by kernel_rfl) (by kernel_rfl) (fun _ _ _ h => h) (Or.inl ⟨by rfl, ?hy808⟩) (by assumption) ?_
      case hy808 => (intro w hSw; (try dsimp only at hSw); go_simp; (try (with_reducible rfl)))
      (try simp only [Act.put, List.setIfInBounds_toArray, List.set_cons_zero, List.set_cons_succ])
      refine wpAnyH_take (i := 5) (oi := ⟨_, _, _, _, _, _⟩) (v := ?v809) rfl (by kernel_rfl) (by kernel_rfl) (by kernel_rfl) (fun _ _ _ h => h) (Or.inl ⟨by rfl, ?hy809⟩) (by assumption) ?_
      case hy809 => (intro w hSw; (try dsimp only at hSw); go_simp; (try (with_reducible rfl)))
      (try simp only [Act.put, List.setIfInBounds_toArray, List.set_cons_zero, List.set_cons_succ])
      refine wpAnyH_take (i := 6) (oi := ⟨_, _, _, _, _, _⟩) (v := ?v810) rfl (by kernel_rfl) (by kernel_rfl) (by kernel_rfl) (fun _ _ _ h => h) (Or.inl ⟨by rfl, ?hy810⟩) (by assumption) ?_
      case hy810 => (intro w hSw; (try dsimp only at hSw); go_simp; (try (with_reducible rfl)))
      (try simp only [Act.put, List.setIfInBounds_toArray, List.set_cons_zero, List.set_cons_succ])
      refine wpAnyH_take (i := 7) (oi := ⟨_, _, _, _, _, _⟩) (v := ?v811) rfl (by kernel_rfl) (by kernel_rfl) (by kernel_rfl) (fun _ _ _ h => h) (Or.inl ⟨by rfl, ?hy811⟩) (by assumption) ?_
      case hy811 => (intro w hSw; (try dsimp only at hSw); go_simp; (try (with_reducible rfl)))
      (try simp only [Act.put, List.setIfInBounds_toArray, List.set_cons_zero, List.set_cons_succ])
      refine wpAnyH_take (i := 8) (oi := ⟨_, _, _, _, _, _⟩) (v := ?v812) rfl (by kernel_rfl) (by kernel_rfl) (by kernel_rfl) (fun _ _ _ h => h) (Or.inl ⟨by rfl, ?hy812⟩) (by assumption) ?_
      case hy812 => (intro w hSw; (try dsimp only at hSw); go_simp; (try (with_reducible rfl)))
      (try simp only [Act.put, List.setIfInBounds_toArray, List.set_cons_zero, List.set_cons_succ])
      refine wpAnyH_take (i := 9) (oi := ⟨_, _, _, _, _, _⟩) (v := ?v813) rfl (by kernel_rfl) (by kernel_rfl) (by kernel_rfl) (fun _ _ _ h => h) (Or.inl ⟨by rfl, ?hy813⟩) (by assumption) ?_
      case hy813 => (intro w hSw; (try dsimp only at hSw); go_simp; (try (with_reducible rfl)))
      (try simp only [Act.put, List.setIfInBounds_toArray, List.set_cons_zero, List.set_cons_succ])
      refine wpAnyH_take (i := 10) (oi := ⟨_, _, _, _, _, _⟩) (v := ?v814) rfl (by kernel_rfl) (by kernel_rfl) (by kernel_rfl) (fun _ _ _ h => h) (Or.inl ⟨by rfl, ?hy814⟩) (by assumption) ?_
      case hy814 => (intro w hSw; (try dsimp only at hSw); go_simp; (try (with_reducible rfl)))
      (try simp only [Act.put, List.setIfInBounds_toArray, List.set_cons_zero, List.set_cons_succ])
      refine wpAnyH_take (i := 11) (oi := ⟨_, _, _, _, _, _⟩) (v := ?v815) rfl (by kernel_rfl) (by kernel_rfl) (by kernel_rfl) (fun _ _ _ h => h) (Or.inl ⟨by rfl, ?hy815⟩) (by assumption) ?_
      case hy815 => (intro w hSw; (try dsimp only at hSw); go_simp; (try (with_reducible rfl)))
      (try simp only [Act.put, List.setIfInBounds_toArray, List.set_cons_zero, List.set_cons_succ])
      refine wpAnyH_take (i := 12) (oi := ⟨_, _, _, _, _, _⟩) (v := ?v816) rfl (by kernel_rfl) (by kernel_rfl) (by kernel_rfl) (fun _ _ _ h => h) (Or.inl ⟨by rfl, ?hy816⟩) (by assumption) ?_
      case hy816 => (intro w hSw; (try dsimp only at hSw); go_simp; (try (with_reducible rfl)))
      (try simp only [Act.put, List.setIfInBounds_toArray, List.set_cons_zero, List.set_cons_succ])
      refine wpAnyH_take (i := 13) (oi := ⟨_, _, _, _, _, _⟩) (v := ?v817) rfl (by kernel_rfl) (by kernel_rfl) (by kernel_rfl) (fun _ _ _ h => h) (Or.inl ⟨by rfl, ?hy817⟩) (by assumption) ?_
      case hy817 => (intro w hSw; (try dsimp only at hSw); go_simp; (try (with_reducible rfl)))
      (try simp only [Act.put, List.setIfInBounds_toArray, List.set_cons_zero, List.set_cons_succ])
      refine wpAnyH_take (i := 14) (oi := ⟨_, _, _, _, _, _⟩) (v := ?v818) rfl (by kernel_rfl) (by kernel_rfl) (by kernel_rfl) (fun _ _ _ h => h) (Or.inl ⟨by rfl, ?hy818⟩) (by assumption) ?_
      case hy818 => (intro w hSw; (try dsimp only at hSw); go_simp; (try (with_reducible rfl)))
      (try simp only [Act.put, List.setIfInBounds_toArray, List.set_cons_zero, List.set_cons_succ])
      refine wpAnyH_take (i := 15) (oi := ⟨_, _, _, _, _, _⟩) (v := undef) rfl (by kernel_rfl) (by kernel_rfl) (by kernel_rfl) (fun _ _ _ h => h) (Or.inr ⟨by rfl, rfl⟩) (by assumption) ?_
      (try simp only [Act.put, List.setIfInBounds_toArray, List.set_cons_zero, List.set_cons_succ])
      refine wpAnyH_take (i := 16) (oi := ⟨_, _, _, _, _, _⟩) (v := undef) rfl (by kernel_rfl) (by kernel_rfl) (by kernel_rfl) (fun _ _ _ h => h) (Or.inr ⟨by rfl, rfl⟩) (by assumption) ?_
      (try simp only [Act.put, List.setIfInBounds_toArray, List.set_cons_zero, List.set_cons_succ])
      refine wpAnyH_take (i := 17) (oi := ⟨_, _, _, _, _, _⟩) (v := undef) rfl (by kernel_rfl) (by kernel_rfl) (by kernel_rfl) (fun _ _ _ h => h) (Or.inr ⟨by rfl, rfl⟩) (by assumption) ?_
      (try simp only [Act.put, List.setIfInBounds_toArray, List.set_cons_zero, List.set_cons_succ])
      refine wpAnyH_take (i := 18) (oi := ⟨_, _, _, _, _, _⟩) (v := ?v819) rfl (by kernel_rfl) (by kernel_rfl) (by kernel_rfl) (fun _ _ _ h => h) (Or.inl ⟨by rfl, ?hy819⟩) (by assumption) ?_
      case hy819 => (intro w hSw; (try dsimp only at hSw); go_simp; (try (with_reducible rfl)))
      (try simp only [Act.put, List.setIfInBounds_toArray, List.set_cons_zero, List.set_cons_succ])
      refine wpAnyH_done (by kernel_rfl) ?_ _
      (try clear hHeld)
      (repeat clear ‹Up w _ ∧ _›)
      go_wp2_with fail
      refine bodyPost_ret (v := .tuple #[.agg #[.int .i64 0, .int .i64 0, .int .i64 0, .int .i64 0, .int .i64 0, .int .i64 0, .slice none 0 0], .int .i64 5]) (by simp [results, Try.results24, go_sem, c10, c11, c12, c13, c14, c15, c16]) rfl ⟨rfl, ?_⟩
      exact (HU1.out.set7 (by omega)).drew
    · obtain rfl : seq = 1099511627776 := HF.out.elim (fun h => absurd h.2 hc) id
      have t1 : (x0 == c) = false := beq_eq_false_iff_ne.2 hc
      clear HF hc
      go_enter Try.func24, Try.ntmps24
      go_upto_region 6 with (first | (go_at_call 58; (with_reducible refine (KI.out _).mono ?_); rintro e w2 ⟨rfl, rfl⟩) | (go_at_call 20; (with_reducible refine (KV.out _ (HS.out.up (((Up.refl w).alloc _ _).alloc _ _))).mono ?_); rintro e w1 ⟨rfl, hu⟩; have HU1 := Lib.hid ((((Up.refl w).alloc #[.int .i64 g, .int .i64 v, .int .i64 q, .int .i64 c, .int .i64 now, .int .i64 1099511627776, .slice (some ⟨b, o, none⟩) n k] 26).alloc #[.int .i64 0, .int .i64 0, .int .i64 0, .int .i64 0, .int .i64 0, .int .i64 0, .slice none 0 0] 26).trans hu); have c00 := hu.keep (w.heap.size) 0 (.int .i64 g) (by simp [go_sem]); have c01 := hu.keep (w.heap.size) 1 (.int .i64 v) (by simp [go_sem]); have c02 := hu.keep (w.heap.size) 2 (.int .i64 q) (by simp [go_sem]); have c03 := hu.keep (w.heap.size) 3 (.int .i64 c) (by simp [go_sem]); have c04 := hu.keep (w.heap.size) 4 (.int .i64 now) (by simp [go_sem]); have c05 := hu.keep (w.heap.size) 5 (.int .i64 1099511627776) (by simp [go_sem]); have c06 := hu.keep (w.heap.size) 6 (.slice (some ⟨b, o, none⟩) n k) (by simp [go_sem]); have c10 := hu.keep (w.heap.size + 1) 0 (.int .i64 0) (by simp [go_sem]); have c11 := hu.keep (w.heap.size + 1) 1 (.int .i64 0) (by simp [go_sem]); have c12 := hu.keep (w.heap.size + 1) 2 (.int .i64 0) (by simp [go_sem]); have c13 := hu.keep (w.heap.size + 1) 3 (.int .i64 0) (by simp [go_sem]); have c14 := hu.keep (w.heap.size + 1) 4 (.int .i64 0) (by simp [go_sem]); have c15 := hu.keep (w.heap.size + 1) 5 (.int .i64 0) (by simp [go_sem]); have c16 := hu.keep (w.heap.size + 1) 6 (.slice none 0 0) (by simp [go_sem]); have z00 := HU1.out.ownGe (g := w.heap.size) (Nat.le_refl _) 0; have z01 := HU1.out.ownGe (g := w.heap.size) (Nat.le_refl _) 1; have z02 := HU1.out.ownGe (g := w.heap.size) (Nat.le_refl _) 2; have z03 := HU1.out.ownGe (g := w.heap.size) (Nat.le_refl _) 3; have z04 := HU1.out.ownGe (g := w.heap.size) (Nat.le_refl _) 4; have z05 := HU1.out.ownGe (g := w.heap.size) (Nat.le_refl _) 5; have z06 := HU1.out.ownGe (g := w.heap.size) (Nat.le_refl _) 6; have z10 := HU1.out.ownGe (g := w.heap.size + 1) (by omega) 0; have z11 := HU1.out.ownGe (g := w.heap.size + 1) (by omega) 1; have z12 := HU1.out.ownGe (g := w.heap.size + 1) (by omega) 2; have z13 := HU1.out.ownGe (g := w.heap.size + 1) (by omega) 3; have z14 := HU1.out.ownGe (g := w.heap.size + 1) (by omega) 4; have z15 := HU1.out.ownGe (g := w.heap.size + 1) (by omega) 5; have z16 := HU1.out.ownGe (g := w.heap.size + 1) (by omega) 6; have hlt : w.heap.size + 1 < w1.heap.size := World.block_lt_of_cell? _ _ c10; have hlt0 : w.heap.size < w1.heap.size := Nat.lt_of_succ_lt hlt; clear hu))
      have hd2 := HT.out _ HU1.out
      have HSS : Hid (Up w w1 ∧ w1.cell? ⟨w.heap.size, 0, none⟩ = some (.int .i64 g) ∧ w1.cell? ⟨w.heap.size, 1, none⟩ = some (.int .i64 v) ∧ w1.cell? ⟨w.heap.size, 2, none⟩ = some (.int .i64 q) ∧ w1.cell? ⟨w.heap.size, 3, none⟩ = some (.int .i64 c) ∧ w1.cell? ⟨w.heap.size, 4, none⟩ = some (.int .i64 now) ∧ w1.cell? ⟨w.heap.size, 5, none⟩ = some (.int .i64 1099511627776) ∧ w1.cell? ⟨w.heap.size, 6, none⟩ = some (.slice (some ⟨b, o, none⟩) n k) ∧ w1.cell? ⟨(w.heap.size + 1), 0, none⟩ = some (.int .i64 0) ∧ w1.cell? ⟨(w.heap.size + 1), 1, none⟩ = some (.int .i64 0) ∧ w1.cell? ⟨(w.heap.size + 1), 2, none⟩ = some (.int .i64 0) ∧ w1.cell? ⟨(w.heap.size + 1), 3, none⟩ = some (.int .i64 0) ∧ w1.cell? ⟨(w.heap.size + 1), 4, none⟩ = some (.int .i64 0) ∧ w1.cell? ⟨(w.heap.size + 1), 5, none⟩ = some (.int .i64 0) ∧ w1.cell? ⟨(w.heap.size + 1), 6, none⟩ = some (.slice none 0 0) ∧ w1.cell? ⟨b, o + 2, none⟩ = some (.int .i64 x0)) := Lib.hid ⟨HU1.out, c00, c01, c02, c03, c04, c05, c06, c10, c11, c12, c13, c14, c15, c16, hd2⟩
      clear hd2 HT
      go_wp2_with fail
      refine wp_region_held_drew (S := fun w' => Up w w' ∧ w'.cell? ⟨w.heap.size, 0, none⟩ = some (.int .i64 g) ∧ w'.cell? ⟨w.heap.size, 1, none⟩ = some (.int .i64 v) ∧ w'.cell? ⟨w.heap.size, 2, none⟩ = some (.int .i64 q) ∧ w'.cell? ⟨w.heap.size, 3, none⟩ = some (.int .i64 c) ∧ w'.cell? ⟨w.heap.size, 4, none⟩ = some (.int .i64 now) ∧ w'.cell? ⟨w.heap.size, 5, none⟩ = some (.int .i64 1099511627776) ∧ w'.cell? ⟨w.heap.size, 6, none⟩ = some (.slice (some ⟨b, o, none⟩) n k) ∧ w'.cell? ⟨(w.heap.size + 1), 0, none⟩ = some (.int .i64 0) ∧ w'.cell? ⟨(w.heap.size + 1), 1, none⟩ = some (.int .i64 0) ∧ w'.cell? ⟨(w.heap.size + 1), 2, none⟩ = some (.int .i64 0) ∧ w'.cell? ⟨(w.heap.size + 1), 3, none⟩ = some (.int .i64 0) ∧ w'.cell? ⟨(w.heap.size + 1), 4, none⟩ = some (.int .i64 0) ∧ w'.cell? ⟨(w.heap.size + 1), 5, none⟩ = some (.int .i64 0) ∧ w'.cell? ⟨(w.heap.size + 1), 6, none⟩ = some (.slice none 0 0) ∧ w'.cell? ⟨b, o + 2, none⟩ = some (.int .i64 x0)) (by kernel_rfl) ?hB820 (fun hHeld => ?_)
      case hB820 => (first | (with_reducible assumption) | (with_reducible exact keepK15 (Lib.hid (Up.refl _).drew) HSS.out))
      refine wpAnyH_take (i := 0) (oi := ⟨_, _, _, _, _, _⟩) (v := ?v821) rfl (by kernel_rfl) (by kernel_rfl) (by kernel_rfl) (fun _ _ _ h => h) (Or.inl ⟨by rfl, ?hy821⟩) (by assumption) ?_
      case hy821 => (intro w hSw; (try dsimp only at hSw); go_simp; (try (with_reducible rfl)))
      (try simp only [Act.put, List.setIfInBounds_toArray, List.set_cons_zero, List.set_cons_succ])
      refine wpAnyH_take (i := 1) (oi := ⟨_, _, _, _, _, _⟩) (v := ?v822) rfl (by kernel_rfl) (by kernel_rfl) (by kernel_rfl) (fun _ _ _ h => h) (Or.inl ⟨by rfl, ?hy822⟩) (by assumption) ?_
      case hy822 => (intro w hSw; (try dsimp only at hSw); go_simp; (try (with_reducible rfl)))
      (try simp only [Act.put, List.setIfInBounds_toArray, List.set_cons_zero, List.set_cons_succ])
      refine wpAnyH_take (i := 2) (oi := ⟨_, _, _, _, _, _⟩) (v := ?v823) rfl (by kernel_rfl) (by kernel_rfl) (by kernel_rfl) (fun _ _ _ h => h) (Or.inl ⟨by rfl, ?hy823⟩) (by assumption) ?_
      case hy823 => (intro w hSw; (try dsimp only at hSw); go_simp; (try (with_reducible rfl)))
      (try simp only [Act.put, List.setIfInBounds_toArray, List.set_cons_zero, List.set_cons_succ])
      refine wpAnyH_take (i := 3) (oi := ⟨_, _, _, _, _, _⟩) (v := ?v824) rfl (by kernel_rfl) (by kernel_rfl) (by kernel_rfl) (fun _ _ _ h => h) (Or.inl ⟨by rfl, ?hy824⟩) (by assumption) ?_
      case hy824 => (intro w hSw; (try dsimp only at hSw); go_simp; (try (with_reducible rfl)))
      (try simp only [Act.put, List.setIfInBounds_toArray, List.set_cons_zero, List.set_cons_succ])
      refine wpAnyH_take (i := 4) (oi := ⟨_, _, _, _, _, _⟩) (v := ?v825) rfl (by kernel_rfl) (by kernel_rfl) (by kernel_rfl) (fun _ _ _ h => h) (Or.inl ⟨by rfl, ?hy825⟩) (by assumption) ?_
      case hy825 => (intro w hSw; (try dsimp only at hSw); go_simp; (try (with_reducible rfl)))
      (try simp only [Act.put, List.setIfInBounds_toArray, List.set_cons_zero, List.set_cons_succ])
      refine wpAnyH_take (i := 5) (oi := ⟨_, _, _, _, _, _⟩) (v := ?v826) rfl (by kernel_rfl) (by kernel_rfl) (by kernel_rfl) (fun _ _ _ h => h) (Or.inl ⟨by rfl, ?hy826⟩) (by assumption) ?_
      case hy826 => (intro w hSw; (try dsimp only at hSw); go_simp; (try (with_reducible rfl)))
      (try simp only [Act.put, List.setIfInBounds_toArray, List.set_cons_zero, List.set_cons_succ])
      refine wpAnyH_take (i := 6) (oi := ⟨_, _, _, _, _, _⟩) (v := ?v827) rfl (by kernel_rfl) (by kernel_rfl) (by kernel_rfl) (fun _ _ _ h => h) (Or.inl ⟨by rfl, ?hy827⟩) (by assumption) ?_
      case hy827 => (intro w hSw; (try dsimp only at hSw); go_simp; (try (with_reducible rfl)))
      (try simp only [Act.put, List.setIfInBounds_toArray, List.set_cons_zero, List.set_cons_succ])
      refine wpAnyH_take (i := 7) (oi := ⟨_, _, _, _, _, _⟩) (v := ?v828) rfl (by kernel_rfl) (by kernel_rfl) (by kernel_rfl) (fun _ _ _ h => h) (Or.inl ⟨by rfl, ?hy828⟩) (by assumption) ?_
      case hy828 => (intro w hSw; (try dsimp only at hSw); go_simp; (try (with_reducible rfl)))
      (try simp only [Act.put, List.setIfInBounds_toArray, List.set_cons_zero, List.set_cons_succ])
      refine wpAnyH_take (i := 8) (oi := ⟨_, _, _, _, _, _⟩) (v := ?v829) rfl (by kernel_rfl) (by kernel_rfl) (by kernel_rfl) (fun _ _ _ h => h) (Or.inl ⟨by rfl, ?hy829⟩) (by assumption) ?_
      case hy829 => (intro w hSw; (try dsimp only at hSw); go_simp; (try (with_reducible rfl)))
      (try simp only [Act.put, List.setIfInBounds_toArray, List.set_cons_zero, List.set_cons_succ])
      refine wpAnyH_take (i := 9) (oi := ⟨_, _, _, _, _, _⟩) (v := ?v830) rfl (by kernel_rfl) (by kernel_rfl) (by kernel_rfl) (fun _ _ _ h => h) (Or.inl ⟨by rfl, ?hy830⟩) (by assumption) ?_
      case hy830 => (intro w hSw; (try dsimp only at hSw); go_simp; (try (with_reducible rfl)))
      (try simp only [Act.put, List.setIfInBounds_toArray, List.set_cons_zero, List.set_cons_succ])
      refine wpAnyH_take (i := 10) (oi := ⟨_, _, _, _, _, _⟩) (v := ?v831) rfl (by kernel_rfl) (by kernel_rfl) (by kernel_rfl) (fun _ _ _ h => h) (Or.inl ⟨by rfl, ?hy831⟩) (by assumption) ?_
      case hy831 => (intro w hSw; (try dsimp only at hSw); go_simp; (try (with_reducible rfl)))
      (try simp only [Act.put, List.setIfInBounds_toArray, List.set_cons_zero, List.set_cons_succ])
      refine wpAnyH_take (i := 11) (oi := ⟨_, _, _, _, _, _⟩) (v := ?v832) rfl (by kernel_rfl) (by kernel_rfl) (by kernel_rfl) (fun _ _ _ h => h) (Or.inl ⟨by rfl, ?hy832⟩) (by assumption) ?_
      case hy832 => (intro w hSw; (try dsimp only at hSw); go_simp; (try (with_reducible rfl)))
      (try simp only [Act.put, List.setIfInBounds_toArray, List.set_cons_zero, List.set_cons_succ])
      refine wpAnyH_take (i := 12) (oi := ⟨_, _, _, _, _, _⟩) (v := ?v833) rfl (by kernel_rfl) (by kernel_rfl) (by kernel_rfl) (fun _ _ _ h => h) (Or.inl ⟨by rfl, ?hy833⟩) (by assumption) ?_
      case hy833 => (intro w hSw; (try dsimp only at hSw); go_simp; (try (with_reducible rfl)))
      (try simp only [Act.put, List.setIfInBounds_toArray, List.set_cons_zero, List.set_cons_succ])
      refine wpAnyH_take (i := 13) (oi := ⟨_, _, _, _, _, _⟩) (v := ?v834) rfl (by kernel_rfl) (by kernel_rfl) (by kernel_rfl) (fun _ _ _ h => h) (Or.inl ⟨by rfl, ?hy834⟩) (by assumption) ?_
      case hy834 => (intro w hSw; (try dsimp only at hSw); go_simp; (try (with_reducible rfl)))
      (try simp only [Act.put, List.setIfInBounds_toArray, List.set_cons_zero, List.set_cons_succ])
      refine wpAnyH_take (i := 14) (oi := ⟨_, _, _, _, _, _⟩) (v := ?v835) rfl (by kernel_rfl) (by kernel_rfl) (by kernel_rfl) (fun _ _ _ h => h) (Or.inl ⟨by rfl, ?hy835⟩) (by assumption) ?_
      case hy835 => (intro w hSw; (try dsimp only at hSw); go_simp; (try (with_reducible rfl)))
      (try simp only [Act.put, List.setIfInBounds_toArray, List.set_cons_zero, List.set_cons_succ])
      refine wpAnyH_take (i := 15) (oi := ⟨_, _, _, _, _, _⟩) (v := ?v836) rfl (by kernel_rfl) (by kernel_rfl) (by kernel_rfl) (fun _ _ _ h => h) (Or.inl ⟨by rfl, ?hy836⟩) (by assumption) ?_
      case hy836 => (intro w hSw; (try dsimp only at hSw); go_simp; (try (with_reducible rfl)))
      (try simp only [Act.put, List.setIfInBounds_toArray, List.set_cons_zero, List.set_cons_succ])
      refine wpAnyH_take (i := 16) (oi := ⟨_, _, _, _, _, _⟩) (v := ?v837) rfl (by kernel_rfl) (by kernel_rfl) (by kernel_rfl) (fun _ _ _ h => h) (Or.inl ⟨by rfl, ?hy837⟩) (by assumption) ?_
      case hy837 => (intro w hSw; (try dsimp only at hSw); go_simp; (try (with_reducible rfl)))
      (try simp only [Act.put, List.setIfInBounds_toArray, List.set_cons_zero, List.set_cons_succ])
      refine wpAnyH_take (i := 17) (oi := ⟨_, _, _, _, _, _⟩) (v := ?v838) rfl (by kernel_rfl) (by kernel_rfl) (by kernel_rfl) (fun _ _ _ h => h) (Or.inl ⟨by rfl, ?hy838⟩) (by assumption) ?_
      case hy838 => (intro w hSw; (try dsimp only at hSw); go_simp; (try (with_reducible rfl)))
      (try simp only [Act.put, List.setIfInBounds_toArray, List.set_cons_zero, List.set_cons_succ])
      refine wpAnyH_take (i := 18) (oi := ⟨_, _, _, _, _, _⟩) (v := ?v839) rfl (by kernel_rfl) (by kernel_rfl) (by kernel_rfl) (fun _ _ _ h => h) (Or.inl ⟨by rfl, ?hy839⟩) (by assumption) ?_
      case hy839 => (intro w hSw; (try dsimp only at hSw); go_simp; (try (with_reducible rfl)))
      (try simp only [Act.put, List.setIfInBounds_toArray, List.set_cons_zero, List.set_cons_succ])
      refine wpAnyH_done (by kernel_rfl) ?_ _
      (try clear hHeld)
      (repeat clear ‹Up w _ ∧ _›)
      go_wp2_with fail
      refine bodyPost_ret (v := .tuple #[.agg #[.int .i64 0, .int .i64 0, .int .i64 0, .int .i64 0, .int .i64 0, .int .i64 0, .slice none 0 0], .int .i64 5]) (by simp [results, Try.results24, go_sem, c10, c11, c12, c13, c14, c15, c16]) rfl ⟨rfl, ?_⟩
      exact (HU1.out.set7 (by omega)).drew
  · obtain rfl : seq = 1099511627776 := HF.out.elim (fun h => absurd h.1 h0) id
    have t1 : decide ((0 : Int) < n) = false := decide_eq_false (by omega)
    have t1n : decide (0 < n) = false := decide_eq_false h0
    have t1p : (0 < n) = False := eq_false h0
    clear HF h0
    go_enter Try.func24, Try.ntmps24
    go_upto_region 6 with (first | (go_at_call 58; (with_reducible refine (KI.out _).mono ?_); rintro e w2 ⟨rfl, rfl⟩) | (go_at_call 20; (with_reducible refine (KV.out _ (HS.out.up (((Up.refl w).alloc _ _).alloc _ _))).mono ?_); rintro e w1 ⟨rfl, hu⟩; have HU1 := Lib.hid ((((Up.refl w).alloc #[.int .i64 g, .int .i64 v, .int .i64 q, .int .i64 c, .int .i64 now, .int .i64 1099511627776, .slice A n k] 26).alloc #[.int .i64 0, .int .i64 0, .int .i64 0, .int .i64 0, .int .i64 0, .int .i64 0, .slice none 0 0] 26).trans hu); have c00 := hu.keep (w.heap.size) 0 (.int .i64 g) (by simp [go_sem]); have c01 := hu.keep (w.heap.size) 1 (.int .i64 v) (by simp [go_sem]); have c02 := hu.keep (w.heap.size) 2 (.int .i64 q) (by simp [go_sem]); have c03 := hu.keep (w.heap.size) 3 (.int .i64 c) (by simp [go_sem]); have c04 := hu.keep (w.heap.size) 4 (.int .i64 now) (by simp [go_sem]); have c05 := hu.keep (w.heap.size) 5 (.int .i64 1099511627776) (by simp [go_sem]); have c06 := hu.keep (w.heap.size) 6 (.slice A n k) (by simp [go_sem]); have c10 := hu.keep (w.heap.size + 1) 0 (.int .i64 0) (by simp [go_sem]); have c11 := hu.keep (w.heap.size + 1) 1 (.int .i64 0) (by simp [go_sem]); have c12 := hu.keep (w.heap.size + 1) 2 (.int .i64 0) (by simp [go_sem]); have c13 := hu.keep (w.heap.size + 1) 3 (.int .i64 0) (by simp [go_sem]); have c14 := hu.keep (w.heap.size + 1) 4 (.int .i64 0) (by simp [go_sem]); have c15 := hu.keep (w.heap.size + 1) 5 (.int .i64 0) (by simp [go_sem]); have c16 := hu.keep (w.heap.size + 1) 6 (.slice none 0 0) (by simp [go_sem]); have z00 := HU1.out.ownGe (g := w.heap.size) (Nat.le_refl _) 0; have z01 := HU1.out.ownGe (g := w.heap.size) (Nat.le_refl _) 1; have z02 := HU1.out.ownGe (g := w.heap.size) (Nat.le_refl _) 2; have z03 := HU1.out.ownGe (g := w.heap.size) (Nat.le_refl _) 3; have z04 := HU1.out.ownGe (g := w.heap.size) (Nat.le_refl _) 4; have z05 := HU1.out.ownGe (g := w.heap.size) (Nat.le_refl _) 5; have z06 := HU1.out.ownGe (g := w.heap.size) (Nat.le_refl _) 6; have z10 := HU1.out.ownGe (g := w.heap.size + 1) (by omega) 0; have z11 := HU1.out.ownGe (g := w.heap.size + 1) (by omega) 1; have z12 := HU1.out.ownGe (g := w.heap.size + 1) (by omega) 2; have z13 := HU1.out.ownGe (g := w.heap.size + 1) (by omega) 3; have z14 := HU1.out.ownGe (g := w.heap.size + 1) (by omega) 4; have z15 := HU1.out.ownGe (g := w.heap.size + 1) (by omega) 5; have z16 := HU1.out.ownGe (g := w.heap.size + 1) (by omega) 6; have hlt : w.heap.size + 1 < w1.heap.size := World.block_lt_of_cell? _ _ c10; have hlt0 : w.heap.size < w1.heap.size := Nat.lt_of_succ_lt hlt; clear hu))
    have HSS : Hid (Up w w1 ∧ w1.cell? ⟨w.heap.size, 0, none⟩ = some (.int .i64 g) ∧ w1.cell? ⟨w.heap.size, 1, none⟩ = some (.int .i64 v) ∧ w1.cell? ⟨w.heap.size, 2, none⟩ = some (.int .i64 q) ∧ w1.cell? ⟨w.heap.size, 3, none⟩ = some (.int .i64 c) ∧ w1.cell? ⟨w.heap.size, 4, none⟩ = some (.int .i64 now) ∧ w1.cell? ⟨w.heap.size, 5, none⟩ = some (.int .i64 1099511627776) ∧ w1.cell? ⟨w.heap.size, 6, none⟩ = some (.slice A n k) ∧ w1.cell? ⟨(w.heap.size + 1), 0, none⟩ = some (.int .i64 0) ∧ w1.cell? ⟨(w.heap.size + 1), 1, none⟩ = some (.int .i64 0) ∧ w1.cell? ⟨(w.heap.size + 1), 2, none⟩ = some (.int .i64 0) ∧ w1.cell? ⟨(w.heap.size + 1), 3, none⟩ = some (.int .i64 0) ∧ w1.cell? ⟨(w.heap.size + 1), 4, none⟩ = some (.int .i64 0) ∧ w1.cell? ⟨(w.heap.size + 1), 5, none⟩ = some (.int .i64 0) ∧ w1.cell? ⟨(w.heap.size + 1), 6, none⟩ = some (.slice none 0 0)) := Lib.hid ⟨HU1.out, c00, c01, c02, c03, c04, c05, c06, c10, c11, c12, c13, c14, c15, c16⟩
    skip
    go_wp2_with fail
    refine wp_region_held_drew (S := fun w' => Up w w' ∧ w'.cell? ⟨w.heap.size, 0, none⟩ = some (.int .i64 g) ∧ w'.cell? ⟨w.heap.size, 1, none⟩ = some (.int .i64 v) ∧ w'.cell? ⟨w.heap.size, 2, none⟩ = some (.int .i64 q) ∧ w'.cell? ⟨w.heap.size, 3, none⟩ = some (.int .i64 c) ∧ w'.cell? ⟨w.heap.size, 4, none⟩ = some (.int .i64 now) ∧ w'.cell? ⟨w.heap.size, 5, none⟩ = some (.int .i64 1099511627776) ∧ w'.cell? ⟨w.heap.size, 6, none⟩ = some (.slice A n k) ∧ w'.cell? ⟨(w.heap.size + 1), 0, none⟩ = some (.int .i64 0) ∧ w'.cell? ⟨(w.heap.size + 1), 1, none⟩ = some (.int .i64 0) ∧ w'.cell? ⟨(w.heap.size + 1), 2, none⟩ = some (.int .i64 0) ∧ w'.cell? ⟨(w.heap.size + 1), 3, none⟩ = some (.int .i64 0) ∧ w'.cell? ⟨(w.heap.size + 1), 4, none⟩ = some (.int .i64 0) ∧ w'.cell? ⟨(w.heap.size + 1), 5, none⟩ = some (.int .i64 0) ∧ w'.cell? ⟨(w.heap.size + 1), 6, none⟩ = some (.slice none 0 0)) (by kernel_rfl) ?hB840 (fun hHeld => ?_)
    case hB840 => (first | (with_reducible assumption) | (with_reducible exact keepK14 (Lib.hid (Up.refl _).drew) HSS.out))
    refine wpAnyH_take (i := 0) (oi := ⟨_, _, _, _, _, _⟩) (v := ?v841) rfl (by kernel_rfl) (by kernel_rfl) (by kernel_rfl) (fun _ _ _ h => h) (Or.inl ⟨by rfl, ?hy841⟩) (by assumption) ?_
    case hy841 => (intro w hSw; (try dsimp only at hSw); go_simp; (try (with_reducible rfl)))
    (try simp only [Act.put, List.setIfInBounds_toArray, List.set_cons_zero, List.set_cons_succ])
    refine wpAnyH_take (i := 1) (oi := ⟨_, _, _, _, _, _⟩) (v := ?v842) rfl (by kernel_rfl) (by kernel_rfl) (by kernel_rfl) (fun _ _ _ h => h) (Or.inl ⟨by rfl, ?hy842⟩) (by assumption) ?_
    case hy842 => (intro w hSw; (try dsimp only at hSw); go_simp; (try (with_reducible rfl)))
    (try simp only [Act.put, List.setIfInBounds_toArray, List.set_cons_zero, List.set_cons_succ])
    refine wpAnyH_take (i := 2) (oi := ⟨_, _, _, _, _, _⟩) (v := ?v843) rfl (by kernel_rfl) (by kernel_rfl) (by kernel_rfl) (fun _ _ _ h => h) (Or.inl ⟨by rfl, ?hy843⟩) (by assumption) ?_
    case hy843 => (intro w hSw; (try dsimp only at hSw); go_simp; (try (with_reducible rfl)))
    (try simp only [Act.put, List.setIfInBounds_toArray, List.set_cons_zero, List.set_cons_succ])
    refine wpAnyH_take (i := 3) (oi := ⟨_, _, _, _, _, _⟩) (v := ?v844) rfl (by kernel_rfl) (by kernel_rfl) (by kernel_rfl) (fun _ _ _ h => h) (Or.inl ⟨by rfl, ?hy844⟩) (by assumption) ?_
    case hy844 => (intro w hSw; (try dsimp only at hSw); go_simp; (try (with_reducible rfl)))
    (try simp only [Act.put, List.setIfInBounds_toArray, List.set_cons_zero, List.set_cons_succ])
    refine wpAnyH_take (i := 4) (oi := ⟨_, _, _, _, _, _⟩) (v := ?v845) rfl (by kernel_rfl) (by kernel_rfl) (by kernel_rfl) (fun _ _ _ h => h) (Or.inl ⟨by rfl, ?hy845⟩) (by assumption) ?_
    case hy845 => (intro w hSw; (try dsimp only at hSw); go_simp; (try (with_reducible rfl)))
    (try simp only [Act.put, List.setIfInBounds_toArray, List.set_cons_zero, List.set_cons_succ])
    refine wpAnyH_take (i := 5) (oi := ⟨_, _, _, _, _, _⟩) (v := undef) rfl (by kernel_rfl) (by kernel_rfl) (by kernel_rfl) (fun _ _ _ h => h) (Or.inr ⟨by rfl, rfl⟩) (by assumption) ?_
    (try simp only [Act.put, List.setIfInBounds_toArray, List.set_cons_zero, List.set_cons_succ])
    refine wpAnyH_take (i := 6) (oi := ⟨_, _, _, _, _, _⟩) (v := undef) rfl (by kernel_rfl) (by kernel_rfl) (by kernel_rfl) (fun _ _ _ h => h) (Or.inr ⟨by rfl, rfl⟩) (by assumption) ?_
    (try simp only [Act.put, List.setIfInBounds_toArray, List.set_cons_zero, List.set_cons_succ])
    refine wpAnyH_take (i := 7) (oi := ⟨_, _, _, _, _, _⟩) (v := undef) rfl (by kernel_rfl) (by kernel_rfl) (by kernel_rfl) (fun _ _ _ h => h) (Or.inr ⟨by rfl, rfl⟩) (by assumption) ?_
    (try simp only [Act.put, List.setIfInBounds_toArray, List.set_cons_zero, List.set_cons_succ])
    refine wpAnyH_take (i := 8) (oi := ⟨_, _, _, _, _, _⟩) (v := undef) rfl (by kernel_rfl) (by kernel_rfl) (by kernel_rfl) (fun _ _ _ h => h) (Or.inr ⟨by rfl, rfl⟩) (by assumption) ?_
    (try simp only [Act.put, List.setIfInBounds_toArray, List.set_cons_zero, List.set_cons_succ])
    refine wpAnyH_take (i := 9) (oi := ⟨_, _, _, _, _, _⟩) (v := undef) rfl (by kernel_rfl) (by kernel_rfl) (by kernel_rfl) (fun _ _ _ h => h) (Or.inr ⟨by rfl, rfl⟩) (by assumption) ?_
    (try simp only [Act.put, List.setIfInBounds_toArray, List.set_cons_zero, List.set_cons_succ])
    refine wpAnyH_take (i := 10) (oi := ⟨_, _, _, _, _, _⟩) (v := undef) rfl (by kernel_rfl) (by kernel_rfl) (by kernel_rfl) (fun _ _ _ h => h) (Or.inr ⟨by rfl, rfl⟩) (by assumption) ?_
    (try simp only [Act.put, List.setIfInBounds_toArray, List.set_cons_zero, List.set_cons_succ])
    refine wpAnyH_take (i := 11) (oi := ⟨_, _, _, _, _, _⟩) (v := undef) rfl (by kernel_rfl) (by kernel_rfl) (by kernel_rfl) (fun _ _ _ h => h) (Or.inr ⟨by rfl, rfl⟩) (by assumption) ?_
    (try simp only [Act.put, List.setIfInBounds_toArray, List.set_cons_zero, List.set_cons_succ])
    refine wpAnyH_take (i := 12) (oi := ⟨_, _, _, _, _, _⟩) (v := undef) rfl (by kernel_rfl) (by kernel_rfl) (by kernel_rfl) (fun _ _ _ h => h) (Or.inr ⟨by rfl, rfl⟩) (by assumption) ?_
    (try simp only [Act.put, List.setIfInBounds_toArray, List.set_cons_zero, List.set_cons_succ])
    refine wpAnyH_take (i := 13) (oi := ⟨_, _, _, _, _, _⟩) (v := ?v846) rfl (by kernel_rfl) (by kernel_rfl) (by kernel_rfl) (fun _ _ _ h => h) (Or.inl ⟨by rfl, ?hy846⟩) (by assumption) ?_
    case hy846 => (intro w hSw; (try dsimp only at hSw); go_simp; (try (with_reducible rfl)))
    (try simp only [Act.put, List.setIfInBounds_toArray, List.set_cons_zero, List.set_cons_succ])
    refine wpAnyH_take (i := 14) (oi := ⟨_, _, _, _, _, _⟩) (v := ?v847) rfl (by kernel_rfl) (by kernel_rfl) (by kernel_rfl) (fun _ _ _ h => h) (Or.inl ⟨by rfl, ?hy847⟩) (by assumption) ?_
    case hy847 => (intro w hSw; (try dsimp only at hSw); go_simp; (try (with_reducible rfl)))
    (try simp only [Act.put, List.setIfInBounds_toArray, List.set_cons_zero, List.set_cons_succ])
    refine wpAnyH_take (i := 15) (oi := ⟨_, _, _, _, _, _⟩) (v := ?v848) rfl (by kernel_rfl) (by kernel_rfl) (by kernel_rfl) (fun _ _ _ h => h) (Or.inl ⟨by rfl, ?hy848⟩) (by assumption) ?_
    case hy848 => (intro w hSw; (try dsimp only at hSw); go_simp; (try (with_reducible rfl)))
    (try simp only [Act.put, List.setIfInBounds_toArray, List.set_cons_zero, List.set_cons_succ])
    refine wpAnyH_take (i := 16) (oi := ⟨_, _, _, _, _, _⟩) (v := ?v849) rfl (by kernel_rfl) (by kernel_rfl) (by kernel_rfl) (fun _ _ _ h => h) (Or.inl ⟨by rfl, ?hy849⟩) (by assumption) ?_
    case hy849 => (intro w hSw; (try dsimp only at hSw); go_simp; (try (with_reducible rfl)))
    (try simp only [Act.put, List.setIfInBounds_toArray, List.set_cons_zero, List.set_cons_succ])
    refine wpAnyH_take (i := 17) (oi := ⟨_, _, _, _, _, _⟩) (v := ?v850) rfl (by kernel_rfl) (by kernel_rfl) (by kernel_rfl) (fun _ _ _ h => h) (Or.inl ⟨by rfl, ?hy850⟩) (by assumption) ?_
    case hy850 => (intro w hSw; (try dsimp only at hSw); go_simp; (try (with_reducible rfl)))
    (try simp only [Act.put, List.setIfInBounds_toArray, List.set_cons_zero, List.set_cons_succ])
    refine wpAnyH_take (i := 18) (oi := ⟨_, _, _, _, _, _⟩) (v := ?v851) rfl (by kernel_rfl) (by kernel_rfl) (by kernel_rfl) (fun _ _ _ h => h) (Or.inl ⟨by rfl, ?hy851⟩) (by assumption) ?_
    case hy851 => (intro w hSw; (try dsimp only at hSw); go_simp; (try (with_reducible rfl)))
    (try simp only [Act.put, List.setIfInBounds_toArray, List.set_cons_zero, List.set_cons_succ])
    refine wpAnyH_done (by kernel_rfl) ?_ _
    (try clear hHeld)
    (repeat clear ‹Up w _ ∧ _›)
    go_wp2_with fail
    refine bodyPost_ret (v := .tuple #[.agg #[.int .i64 0, .int .i64 0, .int .i64 0, .int .i64 0, .int .i64 0, .int .i64 0, .slice none 0 0], .int .i64 5]) (by simp [results, Try.results24, go_sem, c10, c11, c12, c13, c14, c15, c16]) rfl ⟨rfl, ?_⟩
    exact (HU1.out.set7 (by omega)).drew

set_option maxHeartbeats 4000000 in
set_option maxRecDepth 100000 in
theorem radd13_good_pos (g v q c now seq d : Int) (n k : Nat) (A : Option Addr) (X : List Mrk) (hn : n ≤ 50000) (hk : n ≤ k) (h0 : 0 < n) (hv : stM g v q c now seq X = true) (hd : valG g d) (hf : fuM c seq X = false) (w : World) (hS : SG cM w A n X) :
    Calls Try.prog 24 #[.agg #[.int .i64 g, .int .i64 v, .int .i64 q, .int .i64 c, .int .i64 now, .int .i64 seq, .slice A n k], .int .i64 d] w fun e w' => ∃ A' n' k', e = .returned (.tuple #[.agg #[.int .i64 g, .int .i64 v, .int .i64 q, .int .i64 c, .int .i64 now, .int .i64 (seq + 1), .slice A' n' k'], .int .i64 0]) ∧ n' ≤ n + 1 ∧ n' ≤ k' ∧ Up w w' ∧ SG cM w' A' n' (adM g q seq now d X) := by
  have HL := Lib.hid hS.1
  have KV := Lib.hid (fun W (h : SG cM W A n X) => rvalidate13_up g v q c now seq n k A X hn W h)
  rw [stME_yes hv] at KV
  have HS := Lib.hid hS
  have KI := Lib.hid (rvalue13_any g d)
  rw [decide_eq_true hd] at KI
  have HQ : Hid (1 ≤ q ∧ q ≤ 64) := Lib.hid (mayC_true (stM_may hv)).2
  have HD : Hid (∀ j, j < n → bdM (X.getD j mk0)) := Lib.hid (by
    obtain ⟨hm, hx, _⟩ := stM_true hv
    obtain ⟨g1, g2, hc, g4⟩ := mayC_facts (mayM_true hm).2
    obtain ⟨hs2, hok⟩ := mrkB_true hx
    exact fun j hj => (hok j (by rw [hS.1]; exact hj)).bd hc.2 hs2.2)
  have HI : Hid (∀ j, j < n + 1 → bdG g ((inM (seq + 1) now d X).getD j mk0)) := Lib.hid (by
    obtain ⟨hm, hx, _⟩ := stM_true hv
    obtain ⟨hg, hm2⟩ := mayM_true hm
    obtain ⟨g1, g2, hc, g4⟩ := mayC_facts hm2
    obtain ⟨hs2, hok⟩ := mrkB_true hx
    intro j hj
    refine ⟨inM_bd hg hc.2 hs2.2 hok hd (by rw [hS.1]; exact hj), ?_⟩
    by_cases hjn : j < n
    · rw [inM_get (by rw [hS.1]; exact hjn)]
      obtain ⟨_, _, _, ⟨l1, l2⟩, ⟨l3, l4⟩, _⟩ := HD.out j hjn
      obtain ⟨d1, d2, _⟩ := hd
      show In (min _ d) ∧ In (max _ d)
      have p1 := min_b l1 l2 d1 d2
      have p2 := min_b l3 l4 d1 d2
      exact ⟨⟨by omega, by omega⟩, ⟨by omega, by omega⟩⟩
    · obtain rfl : j = X.length := by rw [hS.1]; omega
      rw [inM_last]
      obtain ⟨d1, d2, _⟩ := hd
      exact ⟨⟨by show _ ≤ d; omega, by show d ≤ _; omega⟩, ⟨by show _ ≤ d; omega, by show d ≤ _; omega⟩⟩)
  have HAN : Hid (∀ i j, i ≤ j → j < n + 1 → ofZ g ((inM (seq + 1) now d X).getD j mk0) ≤ ofZ g ((inM (seq + 1) now d X).getD i mk0)) := Lib.hid (by
    obtain ⟨hm, hx, _⟩ := stM_true hv
    obtain ⟨hs2, hok⟩ := mrkB_true hx
    exact fun i j hij hj => inM_anti (mayM_true hm).1 hok hd hij (by rw [hS.1]; exact hj))
  have w5_ : IntKind.i64.wrap (seq + 1) = seq + 1 := by
    obtain ⟨_, hx, _⟩ := stM_true hv
    obtain ⟨hs2, _⟩ := mrkB_true hx
    rw [IntKind.wrap_i64]; omega
  have KE := Lib.hid (fun W (h : Up w W) => rinclude_up n k A X (seq + 1) now d hn HD.out hd.1 hd.2.1 W (hS.up h))
  have HZ : Hid (prL (clM g q) (n + 1) (inM (seq + 1) now d X) = adM g q seq now d X) := Lib.hid (by rw [← HL.out]; rfl)
  have HI2 : Hid (∀ x ∈ inM (seq + 1) now d X, bdG g x) := Lib.hid (fun x hx => by
    obtain ⟨j, hj, e⟩ := mem_getD hx
    rw [inM_len, HL.out] at hj
    rw [← e]; exact HI.out j hj)
  clear HD HI HAN
  generalize adM g q seq now d X = Z at *
  generalize inM (seq + 1) now d X = M3 at *
  have w6_ : IntKind.i64.wrap (q + 1) = q + 1 := by have := HQ.out; rw [IntKind.wrap_i64]; omega
  have HSn := Lib.hid hS
  clear hS hv hd
  obtain ⟨b, o, rfl, _⟩ := mrk_at HSn.out mk0 h0
  have HF : Hid ((X.getD 0 mk0).n ≠ c ∧ seq ≠ 1099511627776) := Lib.hid (by
    unfold fuM at hf
    rw [HSn.out.1, Bool.or_eq_false_iff, Bool.and_eq_false_iff, decide_eq_false_iff_not, decide_eq_false_iff_not, decide_eq_false_iff_not] at hf
    exact ⟨hf.1.elim (fun h2 => absurd h0 h2) id, hf.2⟩)
  clear hf
  have t2 : (seq == 1099511627776) = false := beq_eq_false_iff_ne.2 HF.out.2
  have t3 : ((X.getD 0 mk0).n == c) = false := beq_eq_false_iff_ne.2 HF.out.1
  have HT := Lib.hid (fun W (h : Up w W) => (mrk_prev (HSn.out.up h) h0).2.2.1)
  clear HF
  generalize (X.getD 0 mk0).n = x0 at *
  have f20 : (0 : Int) < n := by omega
  simp only [Nat.zero_mul, Nat.add_zero] at HT
  go_enter Try.func24, Try.ntmps24
  go_upto_region 6 with (first | (go_at_call 58; (with_reducible refine (KI.out _).mono ?_); rintro e w2 ⟨rfl, rfl⟩) | (go_at_call 20; (with_reducible refine (KV.out _ (HS.out.up (((Up.refl w).alloc _ _).alloc _ _))).mono ?_); rintro e w1 ⟨rfl, hu⟩; have HU1 := Lib.hid ((((Up.refl w).alloc #[.int .i64 g, .int .i64 v, .int .i64 q, .int .i64 c, .int .i64 now, .int .i64 seq, .slice (some ⟨b, o, none⟩) n k] 26).alloc #[.int .i64 0, .int .i64 0, .int .i64 0, .int .i64 0, .int .i64 0, .int .i64 0, .slice none 0 0] 26).trans hu); have c00 := hu.keep (w.heap.size) 0 (.int .i64 g) (by simp [go_sem]); have c01 := hu.keep (w.heap.size) 1 (.int .i64 v) (by simp [go_sem]); have c02 := hu.keep (w.heap.size) 2 (.int .i64 q) (by simp [go_sem]); have c03 := hu.keep (w.heap.size) 3 (.int .i64 c) (by simp [go_sem]); have c04 := hu.keep (w.heap.size) 4 (.int .i64 now) (by simp [go_sem]); have c05 := hu.keep (w.heap.size) 5 (.int .i64 seq) (by simp [go_sem]); have c06 := hu.keep (w.heap.size) 6 (.slice (some ⟨b, o, none⟩) n k) (by simp [go_sem]); have c10 := hu.keep (w.heap.size + 1) 0 (.int .i64 0) (by simp [go_sem]); have c11 := hu.keep (w.heap.size + 1) 1 (.int .i64 0) (by simp [go_sem]); have c12 := hu.keep (w.heap.size + 1) 2 (.int .i64 0) (by simp [go_sem]); have c13 := hu.keep (w.heap.size + 1) 3 (.int .i64 0) (by simp [go_sem]); have c14 := hu.keep (w.heap.size + 1) 4 (.int .i64 0) (by simp [go_sem]); have c15 := hu.keep (w.heap.size + 1) 5 (.int .i64 0) (by simp [go_sem]); have c16 := hu.keep (w.heap.size + 1) 6 (.slice none 0 0) (by simp [go_sem]); have z00 := HU1.out.ownGe (g := w.heap.size) (Nat.le_refl _) 0; have z01 := HU1.out.ownGe (g := w.heap.size) (Nat.le_refl _) 1; have z02 := HU1.out.ownGe (g := w.heap.size) (Nat.le_refl _) 2; have z03 := HU1.out.ownGe (g := w.heap.size) (Nat.le_refl _) 3; have z04 := HU1.out.ownGe (g := w.heap.size) (Nat.le_refl _) 4; have z05 := HU1.out.ownGe (g := w.heap.size) (Nat.le_refl _) 5; have z06 := HU1.out.ownGe (g := w.heap.size) (Nat.le_refl _) 6; have z10 := HU1.out.ownGe (g := w.heap.size + 1) (by omega) 0; have z11 := HU1.out.ownGe (g := w.heap.size + 1) (by omega) 1; have z12 := HU1.out.ownGe (g := w.heap.size + 1) (by omega) 2; have z13 := HU1.out.ownGe (g := w.heap.size + 1) (by omega) 3; have z14 := HU1.out.ownGe (g := w.heap.size + 1) (by omega) 4; have z15 := HU1.out.ownGe (g := w.heap.size + 1) (by omega) 5; have z16 := HU1.out.ownGe (g := w.heap.size + 1) (by omega) 6; have hlt : w.heap.size + 1 < w1.heap.size := World.block_lt_of_cell? _ _ c10; have hlt0 : w.heap.size < w1.heap.size := Nat.lt_of_succ_lt hlt; clear hu))
  have hd2 := HT.out _ HU1.out
  have HSS : Hid (Up w w1 ∧ w1.cell? ⟨w.heap.size, 0, none⟩ = some (.int .i64 g) ∧ w1.cell? ⟨w.heap.size, 1, none⟩ = some (.int .i64 v) ∧ w1.cell? ⟨w.heap.size, 2, none⟩ = some (.int .i64 q) ∧ w1.cell? ⟨w.heap.size, 3, none⟩ = some (.int .i64 c) ∧ w1.cell? ⟨w.heap.size, 4, none⟩ = some (.int .i64 now) ∧ w1.cell? ⟨w.heap.size, 5, none⟩ = some (.int .i64 seq) ∧ w1.cell? ⟨w.heap.size, 6, none⟩ = some (.slice (some ⟨b, o, none⟩) n k) ∧ w1.cell? ⟨(w.heap.size + 1), 0, none⟩ = some (.int .i64 0) ∧ w1.cell? ⟨(w.heap.size + 1), 1, none⟩ = some (.int .i64 0) ∧ w1.cell? ⟨(w.heap.size + 1), 2, none⟩ = some (.int .i64 0) ∧ w1.cell? ⟨(w.heap.size + 1), 3, none⟩ = some (.int .i64 0) ∧ w1.cell? ⟨(w.heap.size + 1), 4, none⟩ = some (.int .i64 0) ∧ w1.cell? ⟨(w.heap.size + 1), 5, none⟩ = some (.int .i64 0) ∧ w1.cell? ⟨(w.heap.size + 1), 6, none⟩ = some (.slice none 0 0) ∧ w1.cell? ⟨b, o + 2, none⟩ = some (.int .i64 x0)) := Lib.hid ⟨HU1.out, c00, c01, c02, c03, c04, c05, c06, c10, c11, c12, c13, c14, c15, c16, hd2⟩
  clear hd2 HT
  go_wp2_with fail
  refine wp_region_held_drew (S := fun w' => Up w w' ∧ w'.cell? ⟨w.heap.size, 0, none⟩ = some (.int .i64 g) ∧ w'.cell? ⟨w.heap.size, 1, none⟩ = some (.int .i64 v) ∧ w'.cell? ⟨w.heap.size, 2, none⟩ = some (.int .i64 q) ∧ w'.cell? ⟨w.heap.size, 3, none⟩ = some (.int .i64 c) ∧ w'.cell? ⟨w.heap.size, 4, none⟩ = some (.int .i64 now) ∧ w'.cell? ⟨w.heap.size, 5, none⟩ = some (.int .i64 seq) ∧ w'.cell? ⟨w.heap.size, 6, none⟩ = some (.slice (some ⟨b, o, none⟩) n k) ∧ w'.cell? ⟨(w.heap.size + 1), 0, none⟩ = some (.int .i64 0) ∧ w'.cell? ⟨(w.heap.size + 1), 1, none⟩ = some (.int .i64 0) ∧ w'.cell? ⟨(w.heap.size + 1), 2, none⟩ = some (.int .i64 0) ∧ w'.cell? ⟨(w.heap.size + 1), 3, none⟩ = some (.int .i64 0) ∧ w'.cell? ⟨(w.heap.size + 1), 4, none⟩ = some (.int .i64 0) ∧ w'.cell? ⟨(w.heap.size + 1), 5, none⟩ = some (.int .i64 0) ∧ w'.cell? ⟨(w.heap.size + 1), 6, none⟩ = some (.slice none 0 0) ∧ w'.cell? ⟨b, o + 2, none⟩ = some (.int .i64 x0)) (by kernel_rfl) ?hB852 (fun hHeld => ?_)
  case hB852 => (first | (with_reducible assumption) | (with_reducible exact keepK15 (Lib.hid (Up.refl _).drew) HSS.out))
  refine wpAnyH_take (i := 0) (oi := ⟨_, _, _, _, _, _⟩) (v := ?v853) rfl (by kernel_rfl) (by kernel_rfl) (by kernel_rfl) (fun _ _ _ h => h) (Or.inl ⟨by rfl, ?hy853⟩) (by assumption) ?_
  case hy853 => (intro w hSw; (try dsimp only at hSw); go_simp; (try (with_reducible rfl)))
  (try simp only [Act.put, List.setIfInBounds_toArray, List.set_cons_zero, List.set_cons_succ])
  refine wpAnyH_take (i := 1) (oi := ⟨_, _, _, _, _, _⟩) (v := ?v854) rfl (by kernel_rfl) (by kernel_rfl) (by kernel_rfl) (fun _ _ _ h => h) (Or.inl ⟨by rfl, ?hy854⟩) (by assumption) ?_
  case hy854 => (intro w hSw; (try dsimp only at hSw); go_simp; (try (with_reducible rfl)))
  (try simp only [Act.put, List.setIfInBounds_toArray, List.set_cons_zero, List.set_cons_succ])
  refine wpAnyH_take (i := 2) (oi := ⟨_, _, _, _, _, _⟩) (v := ?v855) rfl (by kernel_rfl) (by kernel_rfl) (by kernel_rfl) (fun _ _ _ h => h) (Or.inl ⟨by rfl, ?hy855⟩) (by assumption) ?_
  case hy855 => (intro w hSw; (try dsimp only at hSw); go_simp; (try (with_reducible rfl)))
  (try simp only [Act.put, List.setIfInBounds_toArray, List.set_cons_zero, List.set_cons_succ])
  refine wpAnyH_take (i := 3) (oi := ⟨_, _, _, _, _, _⟩) (v := ?v856) rfl (by kernel_rfl) (by kernel_rfl) (by kernel_rfl) (fun _ _ _ h => h) (Or.inl ⟨by rfl, ?hy856⟩) (by assumption) ?_
  case hy856 => (intro w hSw; (try dsimp only at hSw); go_simp; (try (with_reducible rfl)))
  (try simp only [Act.put, List.setIfInBounds_toArray, List.set_cons_zero, List.set_cons_succ])
  refine wpAnyH_take (i := 4) (oi := ⟨_, _, _, _, _, _⟩) (v := ?v857) rfl (by kernel_rfl) (by kernel_rfl) (by kernel_rfl) (fun _ _ _ h => h) (Or.inl ⟨by rfl, ?hy857⟩) (by assumption) ?_
  case hy857 => (intro w hSw; (try dsimp only at hSw); go_simp; (try (with_reducible rfl)))
  (try simp only [Act.put, List.setIfInBounds_toArray, List.set_cons_zero, List.set_cons_succ])
  refine wpAnyH_take (i := 5) (oi := ⟨_, _, _, _, _, _⟩) (v := ?v858) rfl (by kernel_rfl) (by kernel_rfl) (by kernel_rfl) (fun _ _ _ h => h) (Or.inl ⟨by rfl, ?hy858⟩) (by assumption) ?_
  case hy858 => (intro w hSw; (try dsimp only at hSw); go_simp; (try (with_reducible rfl)))
  (try simp only [Act.put, List.setIfInBounds_toArray, List.set_cons_zero, List.set_cons_succ])
  refine wpAnyH_take (i := 6) (oi := ⟨_, _, _, _, _, _⟩) (v := ?v859) rfl (by kernel_rfl) (by kernel_rfl) (by kernel_rfl) (fun _ _ _ h => h) (Or.inl ⟨by rfl, ?hy859⟩) (by assumption) ?_
  case hy859 => (intro w hSw; (try dsimp only at hSw); go_simp; (try (with_reducible rfl)))
  (try simp only [Act.put, List.setIfInBounds_toArray, List.set_cons_zero, List.set_cons_succ])
  refine wpAnyH_take (i := 7) (oi := ⟨_, _, _, _, _, _⟩) (v := ?v860) rfl (by kernel_rfl) (by kernel_rfl) (by kernel_rfl) (fun _ _ _ h => h) (Or.inl ⟨by rfl, ?hy860⟩) (by assumption) ?_
  case hy860 => (intro w hSw; (try dsimp only at hSw); go_simp; (try (with_reducible rfl)))
  (try simp only [Act.put, List.setIfInBounds_toArray, List.set_cons_zero, List.set_cons_succ])
  refine wpAnyH_take (i := 8) (oi := ⟨_, _, _, _, _, _⟩) (v := ?v861) rfl (by kernel_rfl) (by kernel_rfl) (by kernel_rfl) (fun _ _ _ h => h) (Or.inl ⟨by rfl, ?hy861⟩) (by assumption) ?_
  case hy861 => (intro w hSw; (try dsimp only at hSw); go_simp; (try (with_reducible rfl)))
  (try simp only [Act.put, List.setIfInBounds_toArray, List.set_cons_zero, List.set_cons_succ])
  refine wpAnyH_take (i := 9) (oi := ⟨_, _, _, _, _, _⟩) (v := ?v862) rfl (by kernel_rfl) (by kernel_rfl) (by kernel_rfl) (fun _ _ _ h => h) (Or.inl ⟨by rfl, ?hy862⟩) (by assumption) ?_
  case hy862 => (intro w hSw; (try dsimp only at hSw); go_simp; (try (with_reducible rfl)))
  (try simp only [Act.put, List.setIfInBounds_toArray, List.set_cons_zero, List.set_cons_succ])
  refine wpAnyH_take (i := 10) (oi := ⟨_, _, _, _, _, _⟩) (v := ?v863) rfl (by kernel_rfl) (by kernel_rfl) (by kernel_rfl) (fun _ _ _ h => h) (Or.inl ⟨by rfl, ?hy863⟩) (by assumption) ?_
  case hy863 => (intro w hSw; (try dsimp only at hSw); go_simp; (try (with_reducible rfl)))
  (try simp only [Act.put, List.setIfInBounds_toArray, List.set_cons_zero, List.set_cons_succ])
  refine wpAnyH_take (i := 11) (oi := ⟨_, _, _, _, _, _⟩) (v := ?v864) rfl (by kernel_rfl) (by kernel_rfl) (by kernel_rfl) (fun _ _ _ h => h) (Or.inl ⟨by rfl, ?hy864⟩) (by assumption) ?_
  case hy864 => (intro w hSw; (try dsimp only at hSw); go_simp; (try (with_reducible rfl)))
  (try simp only [Act.put, List.setIfInBounds_toArray, List.set_cons_zero, List.set_cons_succ])
  refine wpAnyH_take (i := 12) (oi := ⟨_, _, _, _, _, _⟩) (v := ?v865) rfl (by kernel_rfl) (by kernel_rfl) (by kernel_rfl) (fun _ _ _ h => h) (Or.inl ⟨by rfl, ?hy865⟩) (by assumption) ?_
  case hy865 => (intro w hSw; (try dsimp only at hSw); go_simp; (try (with_reducible rfl)))
  (try simp only [Act.put, List.setIfInBounds_toArray, List.set_cons_zero, List.set_cons_succ])
  refine wpAnyH_take (i := 13) (oi := ⟨_, _, _, _, _, _⟩) (v := ?v866) rfl (by kernel_rfl) (by kernel_rfl) (by kernel_rfl) (fun _ _ _ h => h) (Or.inl ⟨by rfl, ?hy866⟩) (by assumption) ?_
  case hy866 => (intro w hSw; (try dsimp only at hSw); go_simp; (try (with_reducible rfl)))
  (try simp only [Act.put, List.setIfInBounds_toArray, List.set_cons_zero, List.set_cons_succ])
  refine wpAnyH_take (i := 14) (oi := ⟨_, _, _, _, _, _⟩) (v := ?v867) rfl (by kernel_rfl) (by kernel_rfl) (by kernel_rfl) (fun _ _ _ h => h) (Or.inl ⟨by rfl, ?hy867⟩) (by assumption) ?_
  case hy867 => (intro w hSw; (try dsimp only at hSw); go_simp; (try (with_reducible rfl)))
  (try simp only [Act.put, List.setIfInBounds_toArray, List.set_cons_zero, List.set_cons_succ])
  refine wpAnyH_take (i := 15) (oi := ⟨_, _, _, _, _, _⟩) (v := ?v868) rfl (by kernel_rfl) (by kernel_rfl) (by kernel_rfl) (fun _ _ _ h => h) (Or.inl ⟨by rfl, ?hy868⟩) (by assumption) ?_
  case hy868 => (intro w hSw; (try dsimp only at hSw); go_simp; (try (with_reducible rfl)))
  (try simp only [Act.put, List.setIfInBounds_toArray, List.set_cons_zero, List.set_cons_succ])
  refine wpAnyH_take (i := 16) (oi := ⟨_, _, _, _, _, _⟩) (v := ?v869) rfl (by kernel_rfl) (by kernel_rfl) (by kernel_rfl) (fun _ _ _ h => h) (Or.inl ⟨by rfl, ?hy869⟩) (by assumption) ?_
  case hy869 => (intro w hSw; (try dsimp only at hSw); go_simp; (try (with_reducible rfl)))
  (try simp only [Act.put, List.setIfInBounds_toArray, List.set_cons_zero, List.set_cons_succ])
  refine wpAnyH_take (i := 17) (oi := ⟨_, _, _, _, _, _⟩) (v := ?v870) rfl (by kernel_rfl) (by kernel_rfl) (by kernel_rfl) (fun _ _ _ h => h) (Or.inl ⟨by rfl, ?hy870⟩) (by assumption) ?_
  case hy870 => (intro w hSw; (try dsimp only at hSw); go_simp; (try (with_reducible rfl)))
  (try simp only [Act.put, List.setIfInBounds_toArray, List.set_cons_zero, List.set_cons_succ])
  refine wpAnyH_take (i := 18) (oi := ⟨_, _, _, _, _, _⟩) (v := ?v871) rfl (by kernel_rfl) (by kernel_rfl) (by kernel_rfl) (fun _ _ _ h => h) (Or.inl ⟨by rfl, ?hy871⟩) (by assumption) ?_
  case hy871 => (intro w hSw; (try dsimp only at hSw); go_simp; (try (with_reducible rfl)))
  (try simp only [Act.put, List.setIfInBounds_toArray, List.set_cons_zero, List.set_cons_succ])
  refine wpAnyH_done (by kernel_rfl) ?_ _
  (try clear hHeld)
  (repeat clear ‹Up w _ ∧ _›)
  go_upto_region 9 with fail
  refine (show ∀ W2 : World, W2 = _ → Code.wp _ _ _ _ W2 from fun W2 hW2 => ?_) _ rfl
  have U2 := Lib.hid (show Up w W2 by rw [hW2]; exact (HU1.out.setCell (Nat.le_refl _) _).drew)
  have b0 : W2.cell? ⟨w.heap.size, 0, none⟩ = some (.int .i64 g) := by rw [hW2]; simp [go_sem, c00]
  have b1 : W2.cell? ⟨w.heap.size, 1, none⟩ = some (.int .i64 v) := by rw [hW2]; simp [go_sem, c01]
  have b2 : W2.cell? ⟨w.heap.size, 2, none⟩ = some (.int .i64 q) := by rw [hW2]; simp [go_sem, c02]
  have b3 : W2.cell? ⟨w.heap.size, 3, none⟩ = some (.int .i64 c) := by rw [hW2]; simp [go_sem, c03]
  have b4 : W2.cell? ⟨w.heap.size, 4, none⟩ = some (.int .i64 now) := by rw [hW2]; simp [go_sem, c04]
  have b5 : W2.cell? ⟨w.heap.size, 5, none⟩ = some (.int .i64 (seq + 1)) := by rw [hW2]; simp [go_sem, c05]
  have b6 : W2.cell? ⟨w.heap.size, 6, none⟩ = some (.slice (some ⟨b, o, none⟩) n k) := by rw [hW2]; simp [go_sem, c06]
  have r0 : W2.cell? ⟨w.heap.size + 1, 0, none⟩ = some (.int .i64 0) := by rw [hW2]; simp [go_sem, c10]
  have r1 : W2.cell? ⟨w.heap.size + 1, 1, none⟩ = some (.int .i64 0) := by rw [hW2]; simp [go_sem, c11]
  have r2 : W2.cell? ⟨w.heap.size + 1, 2, none⟩ = some (.int .i64 0) := by rw [hW2]; simp [go_sem, c12]
  have r3 : W2.cell? ⟨w.heap.size + 1, 3, none⟩ = some (.int .i64 0) := by rw [hW2]; simp [go_sem, c13]
  have r4 : W2.cell? ⟨w.heap.size + 1, 4, none⟩ = some (.int .i64 0) := by rw [hW2]; simp [go_sem, c14]
  have r5 : W2.cell? ⟨w.heap.size + 1, 5, none⟩ = some (.int .i64 0) := by rw [hW2]; simp [go_sem, c15]
  have r6 : W2.cell? ⟨w.heap.size + 1, 6, none⟩ = some (.slice none 0 0) := by rw [hW2]; simp [go_sem, c16]
  clear hW2 HU1
  (try clear KV KI)
  clear hlt hlt0 c00 c01 c02 c03 c04 c05 c06 c10 c11 c12 c13 c14 c15 c16 z00 z01 z02 z03 z04 z05 z06 z10 z11 z12 z13 z14 z15 z16
  have HSS : Hid (Up w W2 ∧ W2.cell? ⟨w.heap.size, 0, none⟩ = some (.int .i64 g) ∧ W2.cell? ⟨w.heap.size, 1, none⟩ = some (.int .i64 v) ∧ W2.cell? ⟨w.heap.size, 2, none⟩ = some (.int .i64 q) ∧ W2.cell? ⟨w.heap.size, 3, none⟩ = some (.int .i64 c) ∧ W2.cell? ⟨w.heap.size, 4, none⟩ = some (.int .i64 now) ∧ W2.cell? ⟨w.heap.size, 5, none⟩ = some (.int .i64 (seq + 1)) ∧ W2.cell? ⟨w.heap.size, 6, none⟩ = some (.slice (some ⟨b, o, none⟩) n k) ∧ W2.cell? ⟨(w.heap.size + 1), 0, none⟩ = some (.int .i64 0) ∧ W2.cell? ⟨(w.heap.size + 1), 1, none⟩ = some (.int .i64 0) ∧ W2.cell? ⟨(w.heap.size + 1), 2, none⟩ = some (.int .i64 0) ∧ W2.cell? ⟨(w.heap.size + 1), 3, none⟩ = some (.int .i64 0) ∧ W2.cell? ⟨(w.heap.size + 1), 4, none⟩ = some (.int .i64 0) ∧ W2.cell? ⟨(w.heap.size + 1), 5, none⟩ = some (.int .i64 0) ∧ W2.cell? ⟨(w.heap.size + 1), 6, none⟩ = some (.slice none 0 0)) := Lib.hid ⟨U2.out, b0, b1, b2, b3, b4, b5, b6, r0, r1, r2, r3, r4, r5, r6⟩
  clear b0 b1 b2 b3 b4 b5 b6 r0 r1 r2 r3 r4 r5 r6
  go_wp2_with fail
  refine wp_region_held_drew (S := fun w' => Up w w' ∧ w'.cell? ⟨w.heap.size, 0, none⟩ = some (.int .i64 g) ∧ w'.cell? ⟨w.heap.size, 1, none⟩ = some (.int .i64 v) ∧ w'.cell? ⟨w.heap.size, 2, none⟩ = some (.int .i64 q) ∧ w'.cell? ⟨w.heap.size, 3, none⟩ = some (.int .i64 c) ∧ w'.cell? ⟨w.heap.size, 4, none⟩ = some (.int .i64 now) ∧ w'.cell? ⟨w.heap.size, 5, none⟩ = some (.int .i64 (seq + 1)) ∧ w'.cell? ⟨w.heap.size, 6, none⟩ = some (.slice (some ⟨b, o, none⟩) n k) ∧ w'.cell? ⟨(w.heap.size + 1), 0, none⟩ = some (.int .i64 0) ∧ w'.cell? ⟨(w.heap.size + 1), 1, none⟩ = some (.int .i64 0) ∧ w'.cell? ⟨(w.heap.size + 1), 2, none⟩ = some (.int .i64 0) ∧ w'.cell? ⟨(w.heap.size + 1), 3, none⟩ = some (.int .i64 0) ∧ w'.cell? ⟨(w.heap.size + 1), 4, none⟩ = some (.int .i64 0) ∧ w'.cell? ⟨(w.heap.size + 1), 5, none⟩ = some (.int .i64 0) ∧ w'.cell? ⟨(w.heap.size + 1), 6, none⟩ = some (.slice none 0 0)) (by kernel_rfl) ?hB926 (fun hHeld => ?_)
  case hB926 => (first | (with_reducible assumption) | (with_reducible exact keepK14 (Lib.hid (Up.refl _).drew) HSS.out) | (with_reducible exact HX3.out))
  refine wpAnyH_take (i := 0) (oi := ⟨_, _, _, _, _, _⟩) (v := ?v927) rfl (by kernel_rfl) (by kernel_rfl) (by kernel_rfl) (fun _ _ _ h => h) (Or.inl ⟨by rfl, ?hy927⟩) (by assumption) ?_
  case hy927 => (intro w hSw; (try dsimp only at hSw); go_simp; (try (with_reducible rfl)))
  (try simp only [Act.put, List.setIfInBounds_toArray, List.set_cons_zero, List.set_cons_succ])
  refine wpAnyH_take (i := 1) (oi := ⟨_, _, _, _, _, _⟩) (v := ?v928) rfl (by kernel_rfl) (by kernel_rfl) (by kernel_rfl) (fun _ _ _ h => h) (Or.inl ⟨by rfl, ?hy928⟩) (by assumption) ?_
  case hy928 => (intro w hSw; (try dsimp only at hSw); go_simp; (try (with_reducible rfl)))
  (try simp only [Act.put, List.setIfInBounds_toArray, List.set_cons_zero, List.set_cons_succ])
  refine wpAnyH_take (i := 2) (oi := ⟨_, _, _, _, _, _⟩) (v := ?v929) rfl (by kernel_rfl) (by kernel_rfl) (by kernel_rfl) (fun _ _ _ h => h) (Or.inl ⟨by rfl, ?hy929⟩) (by assumption) ?_
  case hy929 => (intro w hSw; (try dsimp only at hSw); go_simp; (try (with_reducible rfl)))
  (try simp only [Act.put, List.setIfInBounds_toArray, List.set_cons_zero, List.set_cons_succ])
  refine wpAnyH_take (i := 3) (oi := ⟨_, _, _, _, _, _⟩) (v := ?v930) rfl (by kernel_rfl) (by kernel_rfl) (by kernel_rfl) (fun _ _ _ h => h) (Or.inl ⟨by rfl, ?hy930⟩) (by assumption) ?_
  case hy930 => (intro w hSw; (try dsimp only at hSw); go_simp; (try (with_reducible rfl)))
  (try simp only [Act.put, List.setIfInBounds_toArray, List.set_cons_zero, List.set_cons_succ])
  refine wpAnyH_take (i := 4) (oi := ⟨_, _, _, _, _, _⟩) (v := ?v931) rfl (by kernel_rfl) (by kernel_rfl) (by kernel_rfl) (fun _ _ _ h => h) (Or.inl ⟨by rfl, ?hy931⟩) (by assumption) ?_
  case hy931 => (intro w hSw; (try dsimp only at hSw); go_simp; (try (with_reducible rfl)))
  (try simp only [Act.put, List.setIfInBounds_toArray, List.set_cons_zero, List.set_cons_succ])
  refine wpAnyH_take (i := 5) (oi := ⟨_, _, _, _, _, _⟩) (v := ?v932) rfl (by kernel_rfl) (by kernel_rfl) (by kernel_rfl) (fun _ _ _ h => h) (Or.inl ⟨by rfl, ?hy932⟩) (by assumption) ?_
  case hy932 => (intro w hSw; (try dsimp only at hSw); go_simp; (try (with_reducible rfl)))
  (try simp only [Act.put, List.setIfInBounds_toArray, List.set_cons_zero, List.set_cons_succ])
  refine wpAnyH_take (i := 6) (oi := ⟨_, _, _, _, _, _⟩) (v := ?v933) rfl (by kernel_rfl) (by kernel_rfl) (by kernel_rfl) (fun _ _ _ h => h) (Or.inl ⟨by rfl, ?hy933⟩) (by assumption) ?_
  case hy933 => (intro w hSw; (try dsimp only at hSw); go_simp; (try (with_reducible rfl)))
  (try simp only [Act.put, List.setIfInBounds_toArray, List.set_cons_zero, List.set_cons_succ])
  refine wpAnyH_take (i := 8) (oi := ⟨_, _, _, _, _, _⟩) (v := ?v934) rfl (by kernel_rfl) (by kernel_rfl) (by kernel_rfl) (fun _ _ _ h => h) (Or.inl ⟨by rfl, ?hy934⟩) (by assumption) ?_
  case hy934 => (intro w hSw; (try dsimp only at hSw); go_simp; (try (with_reducible rfl)))
  (try simp only [Act.put, List.setIfInBounds_toArray, List.set_cons_zero, List.set_cons_succ])
  refine wpAnyH_take (i := 9) (oi := ⟨_, _, _, _, _, _⟩) (v := ?v935) rfl (by kernel_rfl) (by kernel_rfl) (by kernel_rfl) (fun _ _ _ h => h) (Or.inl ⟨by rfl, ?hy935⟩) (by assumption) ?_
  case hy935 => (intro w hSw; (try dsimp only at hSw); go_simp; (try (with_reducible rfl)))
  (try simp only [Act.put, List.setIfInBounds_toArray, List.set_cons_zero, List.set_cons_succ])
  refine wpAnyH_ready (rs := [7]) (by kernel_rfl) (by simp) ?_
  refine AllReadyH.cons (o := ⟨_, _, _, _, _, _⟩) rfl (fun K hK => ?_) AllReadyH.nil
  go_simp
  (go_at_call 59; (with_reducible refine (KE.out _ U2.out.drew).mono ?_); rintro e w3 ⟨A3, k3, rfl, hk3, hnw, hu, hM⟩; have HM3 := Lib.hid hM; have hltW := World.block_lt_of_cell? _ _ hHeld.2.2.2.2.2.2.2.2.1; have HNW : Hid (∀ b_ o_, A3 = some ⟨b_, o_, none⟩ → w.heap.size + 1 < b_) := Lib.hid (fun b_ o_ h_ => Nat.lt_of_lt_of_le hltW (hnw b_ o_ h_)); clear hltW; have HX3 := Lib.hid (keepK14 (Lib.hid hu) hHeld); clear hu hM hnw)
  (try go_wp2_with fail)
  refine hK.out _ _ ?hB936 (fun hHeld => ?_)
  case hB936 => (first | (with_reducible assumption) | (with_reducible exact keepK14 (Lib.hid (Up.refl _).drew) HSS.out) | (with_reducible exact HX3.out))
  clear hK K
  (try simp only [Act.put, List.setIfInBounds_toArray, List.set_cons_zero, List.set_cons_succ])
  refine wpAnyH_take (i := 10) (oi := ⟨_, _, _, _, _, _⟩) (v := ?v937) rfl (by kernel_rfl) (by kernel_rfl) (by kernel_rfl) (fun _ _ _ h => h) (Or.inl ⟨by rfl, ?hy937⟩) (by assumption) ?_
  case hy937 => (intro w hSw; (try dsimp only at hSw); go_simp; (try (with_reducible rfl)))
  (try simp only [Act.put, List.setIfInBounds_toArray, List.set_cons_zero, List.set_cons_succ])
  refine wpAnyH_take (i := 11) (oi := ⟨_, _, _, _, _, _⟩) (v := ?v938) rfl (by kernel_rfl) (by kernel_rfl) (by kernel_rfl) (fun _ _ _ h => h) (Or.inl ⟨by rfl, ?hy938⟩) (by assumption) ?_
  case hy938 => (intro w hSw; (try dsimp only at hSw); go_simp; (try (with_reducible rfl)))
  (try simp only [Act.put, List.setIfInBounds_toArray, List.set_cons_zero, List.set_cons_succ])
  refine wpAnyH_done (by kernel_rfl) ?_ _
  clear hHeld HSS
  have HX := HX3
  clear HX3
  go_wp2_with fail
  go_loopw [7, 9] (fun t7 t9 wr => ∃ (i m kk : Nat) (B : Option Addr) (R : List Mrk), t7 = .slice B m kk ∧ t9 = .int .i64 i ∧ i ≤ m ∧ m ≤ kk ∧ m ≤ n + 1 ∧ Hid (SG cM wr B m R) ∧ Hid (∀ x ∈ R, bdG g x) ∧ Hid (R.take i ++ prL (clM g q) (m - i) (R.drop i) = Z) ∧ Hid (∀ b_ o_, B = some ⟨b_, o_, none⟩ → w.heap.size + 1 < b_) ∧ Hid (Up w3 wr)) (fun t7 t9 _ => lnS t7 - (intOf t9).toNat)
  case atStart => exact ⟨0, n + 1, k3, A3, M3, rfl, rfl, Nat.zero_le _, hk3, Nat.le_refl _, HM3, HI2, Lib.hid (by rw [← HZ.out]; rfl), HNW, Lib.hid (Up.refl _)⟩
  case round =>
    obtain ⟨wo, hwo⟩ : ∃ x, x = wr := ⟨_, rfl⟩
    subst hwo
    obtain ⟨i, m, kk, B, R, rfl, rfl, him, hmk, hmn, HR, HB, HZr, HN, HW⟩ := hrel
    by_cases hi : i < m
    · obtain ⟨b, o, rfl, _⟩ := mrk_at HR.out mk0 hi
      have hRl := Lib.hid HR.out.1
      have f30 : (0 : Int) ≤ i := by omega
      have fi : (i : Int) < m := by omega
      have HBi := Lib.hid (HB.out _ (getD_mem (by rw [hRl.out]; exact hi)))
      have HNO : Hid ((∀ p, i < p → p < m → clM g q (R.getD i mk0) (R.getD p mk0) = false) → R.take (i + 1) ++ prL (clM g q) (m - (i + 1)) (R.drop (i + 1)) = Z) := Lib.hid (fun h => rprune_no hRl.out hi HZr.out h)
      have HYS : Hid (∀ j, i < j → j < m → clM g q (R.getD i mk0) (R.getD j mk0) = true → (∀ p, j < p → p < m → clM g q (R.getD i mk0) (R.getD p mk0) = false) → (R.take (i + 1) ++ R.drop j).take (i + 1) ++ prL (clM g q) (i + 1 + (m - j) - (i + 1)) ((R.take (i + 1) ++ R.drop j).drop (i + 1)) = Z) := Lib.hid (fun j h1 h2 h3 h4 => rprune_yes hRl.out h1 h2 HZr.out h3 h4)
      have HCI := Lib.hid (fun W (h : Up wo W) => mrk_prev (HR.out.up h) hi)
      have cg := HW.out.keep _ _ _ HX.out.2.1
      generalize hMi : R.getD i mk0 = Mi at *
      have hMi := Lib.hid hMi
      obtain ⟨sq1, t1, nn1, s1, qq1, lo1, hi1⟩ := Mi
      simp only at HCI
      have w7_ : IntKind.i64.wrap ((i : Int) + 1) = (i : Int) + 1 := by rw [IntKind.wrap_i64]; omega
      clear HZr
      go_wp2_with fail
      go_loopw [10, 11] (fun t10 t11 wr => ∃ j nx : Nat, t10 = .int .i64 j ∧ t11 = .int .i64 nx ∧ i ≤ j ∧ j < nx ∧ nx ≤ m ∧ Hid (i < j → clM g q ⟨sq1, t1, nn1, s1, qq1, lo1, hi1⟩ (R.getD j mk0) = true) ∧ Hid (∀ p, j < p → p < nx → clM g q ⟨sq1, t1, nn1, s1, qq1, lo1, hi1⟩ (R.getD p mk0) = false) ∧ Hid (Up wo wr)) (fun _ t _ => m - (intOf t).toNat)
      case atStart => exact ⟨i, i + 1, rfl, by go_num, Nat.le_refl _, by omega, by omega, Lib.hid (fun h => absurd h (Nat.lt_irrefl _)), Lib.hid (fun p h1 h2 => absurd h1 (by omega)), Lib.hid (Up.refl _)⟩
      case round =>
        obtain ⟨j, nx, rfl, rfl, hij, hjn, hnm, HC, HF, HV⟩ := hrel
        have f31 : (0 : Int) ≤ nx := by omega
        have f32 : (0 : Int) ≤ j := by omega
        by_cases hx : nx < m
        · have fx : (nx : Int) < m := by omega
          obtain ⟨x0, x1, x2, x3, x4, x5, x6⟩ := mrk_prev (HR.out.up HV.out) hx
          obtain ⟨d0, d1, d2, d3, d4, d5, d6⟩ := HCI.out _ HV.out
          have HBn := Lib.hid (HB.out _ (getD_mem (by rw [hRl.out]; exact hx)))
          generalize hMn : R.getD nx mk0 = Mn at *
          have hMn := Lib.hid hMn
          obtain ⟨sq, t, nn, s, qq, lo, hi⟩ := Mn
          simp only at x0 x1 x2 x3 x4 x5 x6
          have HSS : Hid (Up wo wr ∧ wr.cell? ⟨w.heap.size, 0, none⟩ = some (.int .i64 g) ∧ wr.cell? ⟨b, o + i * 7, none⟩ = some (.int .i64 sq1) ∧ wr.cell? ⟨b, o + i * 7 + 1, none⟩ = some (.int .i64 t1) ∧ wr.cell? ⟨b, o + i * 7 + 2, none⟩ = some (.int .i64 nn1) ∧ wr.cell? ⟨b, o + i * 7 + 3, none⟩ = some (.int .i64 s1) ∧ wr.cell? ⟨b, o + i * 7 + 4, none⟩ = some (.int .i64 qq1) ∧ wr.cell? ⟨b, o + i * 7 + 5, none⟩ = some (.int .i64 lo1) ∧ wr.cell? ⟨b, o + i * 7 + 6, none⟩ = some (.int .i64 hi1) ∧ wr.cell? ⟨b, o + nx * 7, none⟩ = some (.int .i64 sq) ∧ wr.cell? ⟨b, o + nx * 7 + 1, none⟩ = some (.int .i64 t) ∧ wr.cell? ⟨b, o + nx * 7 + 2, none⟩ = some (.int .i64 nn) ∧ wr.cell? ⟨b, o + nx * 7 + 3, none⟩ = some (.int .i64 s) ∧ wr.cell? ⟨b, o + nx * 7 + 4, none⟩ = some (.int .i64 qq) ∧ wr.cell? ⟨b, o + nx * 7 + 5, none⟩ = some (.int .i64 lo) ∧ wr.cell? ⟨b, o + nx * 7 + 6, none⟩ = some (.int .i64 hi)) := Lib.hid ⟨HV.out, HV.out.keep _ _ _ cg, d0, d1, d2, d3, d4, d5, d6, x0, x1, x2, x3, x4, x5, x6⟩
          clear d0 d1 d2 d3 d4 d5 d6 x0 x1 x2 x3 x4 x5 x6
          have BP_ := HBi.out
          have BM_ := HBn.out
          have K1 := Lib.hid (rof13_up g sq t nn s qq lo hi BM_.2.1 BM_.2.2)
          have K2 := Lib.hid (rof13_up g sq1 t1 nn1 s1 qq1 lo1 hi1 BP_.2.1 BP_.2.2)
          have Z1 := (near_in HQ.out BP_.1.1 BP_.1.2).1
          have Z2 := (near_in HQ.out BM_.1.1 BM_.1.2).2
          have v1_ : IntKind.i64.wrap (q * ofZ g ⟨sq1, t1, nn1, s1, qq1, lo1, hi1⟩) = q * ofZ g ⟨sq1, t1, nn1, s1, qq1, lo1, hi1⟩ := by rw [IntKind.wrap_i64]; omega
          have v2_ : IntKind.i64.wrap ((q + 1) * ofZ g ⟨sq, t, nn, s, qq, lo, hi⟩) = (q + 1) * ofZ g ⟨sq, t, nn, s, qq, lo, hi⟩ := by rw [IntKind.wrap_i64]; omega
          clear Z1 Z2 BP_ BM_
          cases hk : clM g q ⟨sq1, t1, nn1, s1, qq1, lo1, hi1⟩ ⟨sq, t, nn, s, qq, lo, hi⟩ with
          | false =>
            have HF2 : Hid (∀ p, j < p → p < nx + 1 → clM g q ⟨sq1, t1, nn1, s1, qq1, lo1, hi1⟩ (R.getD p mk0) = false) := Lib.hid (fun p h1 h2 => by
              rcases Nat.lt_or_ge p nx with hp | hp
              · exact HF.out p h1 hp
              · obtain rfl : p = nx := by omega
                rw [hMn.out]; exact hk)
            have tk := of_decide_eq_false hk
            clear hk HF HBn hMn HNO HYS HCI
            generalize ofZ g ⟨sq1, t1, nn1, s1, qq1, lo1, hi1⟩ = x at *
            generalize ofZ g ⟨sq, t, nn, s, qq, lo, hi⟩ = y at *
            have tk : decide (q * x ≤ (q + 1) * y) = false := decide_eq_false tk
            go_wp2_with fail
            refine wp_region_held_drew (S := fun w' => Up wo w' ∧ w'.cell? ⟨w.heap.size, 0, none⟩ = some (.int .i64 g) ∧ w'.cell? ⟨b, o + i * 7, none⟩ = some (.int .i64 sq1) ∧ w'.cell? ⟨b, o + i * 7 + 1, none⟩ = some (.int .i64 t1) ∧ w'.cell? ⟨b, o + i * 7 + 2, none⟩ = some (.int .i64 nn1) ∧ w'.cell? ⟨b, o + i * 7 + 3, none⟩ = some (.int .i64 s1) ∧ w'.cell? ⟨b, o + i * 7 + 4, none⟩ = some (.int .i64 qq1) ∧ w'.cell? ⟨b, o + i * 7 + 5, none⟩ = some (.int .i64 lo1) ∧ w'.cell? ⟨b, o + i * 7 + 6, none⟩ = some (.int .i64 hi1) ∧ w'.cell? ⟨b, o + nx * 7, none⟩ = some (.int .i64 sq) ∧ w'.cell? ⟨b, o + nx * 7 + 1, none⟩ = some (.int .i64 t) ∧ w'.cell? ⟨b, o + nx * 7 + 2, none⟩ = some (.int .i64 nn) ∧ w'.cell? ⟨b, o + nx * 7 + 3, none⟩ = some (.int .i64 s) ∧ w'.cell? ⟨b, o + nx * 7 + 4, none⟩ = some (.int .i64 qq) ∧ w'.cell? ⟨b, o + nx * 7 + 5, none⟩ = some (.int .i64 lo) ∧ w'.cell? ⟨b, o + nx * 7 + 6, none⟩ = some (.int .i64 hi)) (by kernel_rfl) ?hB872 (fun hHeld => ?_)
            case hB872 => (first | (with_reducible assumption) | (with_reducible exact keepK15 (Lib.hid (Up.refl _).drew) HSS.out) | (with_reducible exact HX4.out) | (with_reducible exact HX5.out))
            refine wpAnyH_take (i := 0) (oi := ⟨_, _, _, _, _, _⟩) (v := ?v873) rfl (by kernel_rfl) (by kernel_rfl) (by kernel_rfl) (fun _ _ _ h => h) (Or.inl ⟨by rfl, ?hy873⟩) (by assumption) ?_
            case hy873 => (intro w hSw; (try dsimp only at hSw); go_simp; (try (with_reducible rfl)))
            (try simp only [Act.put, List.setIfInBounds_toArray, List.set_cons_zero, List.set_cons_succ])
            refine wpAnyH_take (i := 1) (oi := ⟨_, _, _, _, _, _⟩) (v := ?v874) rfl (by kernel_rfl) (by kernel_rfl) (by kernel_rfl) (fun _ _ _ h => h) (Or.inl ⟨by rfl, ?hy874⟩) (by assumption) ?_
            case hy874 => (intro w hSw; (try dsimp only at hSw); go_simp; (try (with_reducible rfl)))
            (try simp only [Act.put, List.setIfInBounds_toArray, List.set_cons_zero, List.set_cons_succ])
            refine wpAnyH_take (i := 2) (oi := ⟨_, _, _, _, _, _⟩) (v := ?v875) rfl (by kernel_rfl) (by kernel_rfl) (by kernel_rfl) (fun _ _ _ h => h) (Or.inl ⟨by rfl, ?hy875⟩) (by assumption) ?_
            case hy875 => (intro w hSw; (try dsimp only at hSw); go_simp; (try (with_reducible rfl)))
            (try simp only [Act.put, List.setIfInBounds_toArray, List.set_cons_zero, List.set_cons_succ])
            refine wpAnyH_take (i := 3) (oi := ⟨_, _, _, _, _, _⟩) (v := ?v876) rfl (by kernel_rfl) (by kernel_rfl) (by kernel_rfl) (fun _ _ _ h => h) (Or.inl ⟨by rfl, ?hy876⟩) (by assumption) ?_
            case hy876 => (intro w hSw; (try dsimp only at hSw); go_simp; (try (with_reducible rfl)))
            (try simp only [Act.put, List.setIfInBounds_toArray, List.set_cons_zero, List.set_cons_succ])
            refine wpAnyH_take (i := 4) (oi := ⟨_, _, _, _, _, _⟩) (v := ?v877) rfl (by kernel_rfl) (by kernel_rfl) (by kernel_rfl) (fun _ _ _ h => h) (Or.inl ⟨by rfl, ?hy877⟩) (by assumption) ?_
            case hy877 => (intro w hSw; (try dsimp only at hSw); go_simp; (try (with_reducible rfl)))
            (try simp only [Act.put, List.setIfInBounds_toArray, List.set_cons_zero, List.set_cons_succ])
            refine wpAnyH_take (i := 5) (oi := ⟨_, _, _, _, _, _⟩) (v := ?v878) rfl (by kernel_rfl) (by kernel_rfl) (by kernel_rfl) (fun _ _ _ h => h) (Or.inl ⟨by rfl, ?hy878⟩) (by assumption) ?_
            case hy878 => (intro w hSw; (try dsimp only at hSw); go_simp; (try (with_reducible rfl)))
            (try simp only [Act.put, List.setIfInBounds_toArray, List.set_cons_zero, List.set_cons_succ])
            refine wpAnyH_take (i := 6) (oi := ⟨_, _, _, _, _, _⟩) (v := ?v879) rfl (by kernel_rfl) (by kernel_rfl) (by kernel_rfl) (fun _ _ _ h => h) (Or.inl ⟨by rfl, ?hy879⟩) (by assumption) ?_
            case hy879 => (intro w hSw; (try dsimp only at hSw); go_simp; (try (with_reducible rfl)))
            (try simp only [Act.put, List.setIfInBounds_toArray, List.set_cons_zero, List.set_cons_succ])
            refine wpAnyH_take (i := 7) (oi := ⟨_, _, _, _, _, _⟩) (v := ?v880) rfl (by kernel_rfl) (by kernel_rfl) (by kernel_rfl) (fun _ _ _ h => h) (Or.inl ⟨by rfl, ?hy880⟩) (by assumption) ?_
            case hy880 => (intro w hSw; (try dsimp only at hSw); go_simp; (try (with_reducible rfl)))
            (try simp only [Act.put, List.setIfInBounds_toArray, List.set_cons_zero, List.set_cons_succ])
            refine wpAnyH_take (i := 10) (oi := ⟨_, _, _, _, _, _⟩) (v := ?v881) rfl (by kernel_rfl) (by kernel_rfl) (by kernel_rfl) (fun _ _ _ h => h) (Or.inl ⟨by rfl, ?hy881⟩) (by assumption) ?_
            case hy881 => (intro w hSw; (try dsimp only at hSw); go_simp; (try (with_reducible rfl)))
            (try simp only [Act.put, List.setIfInBounds_toArray, List.set_cons_zero, List.set_cons_succ])
            refine wpAnyH_take (i := 11) (oi := ⟨_, _, _, _, _, _⟩) (v := ?v882) rfl (by kernel_rfl) (by kernel_rfl) (by kernel_rfl) (fun _ _ _ h => h) (Or.inl ⟨by rfl, ?hy882⟩) (by assumption) ?_
            case hy882 => (intro w hSw; (try dsimp only at hSw); go_simp; (try (with_reducible rfl)))
            (try simp only [Act.put, List.setIfInBounds_toArray, List.set_cons_zero, List.set_cons_succ])
            refine wpAnyH_take (i := 12) (oi := ⟨_, _, _, _, _, _⟩) (v := ?v883) rfl (by kernel_rfl) (by kernel_rfl) (by kernel_rfl) (fun _ _ _ h => h) (Or.inl ⟨by rfl, ?hy883⟩) (by assumption) ?_
            case hy883 => (intro w hSw; (try dsimp only at hSw); go_simp; (try (with_reducible rfl)))
            (try simp only [Act.put, List.setIfInBounds_toArray, List.set_cons_zero, List.set_cons_succ])
            refine wpAnyH_take (i := 13) (oi := ⟨_, _, _, _, _, _⟩) (v := ?v884) rfl (by kernel_rfl) (by kernel_rfl) (by kernel_rfl) (fun _ _ _ h => h) (Or.inl ⟨by rfl, ?hy884⟩) (by assumption) ?_
            case hy884 => (intro w hSw; (try dsimp only at hSw); go_simp; (try (with_reducible rfl)))
            (try simp only [Act.put, List.setIfInBounds_toArray, List.set_cons_zero, List.set_cons_succ])
            refine wpAnyH_take (i := 14) (oi := ⟨_, _, _, _, _, _⟩) (v := ?v885) rfl (by kernel_rfl) (by kernel_rfl) (by kernel_rfl) (fun _ _ _ h => h) (Or.inl ⟨by rfl, ?hy885⟩) (by assumption) ?_
            case hy885 => (intro w hSw; (try dsimp only at hSw); go_simp; (try (with_reducible rfl)))
            (try simp only [Act.put, List.setIfInBounds_toArray, List.set_cons_zero, List.set_cons_succ])
            refine wpAnyH_take (i := 15) (oi := ⟨_, _, _, _, _, _⟩) (v := ?v886) rfl (by kernel_rfl) (by kernel_rfl) (by kernel_rfl) (fun _ _ _ h => h) (Or.inl ⟨by rfl, ?hy886⟩) (by assumption) ?_
            case hy886 => (intro w hSw; (try dsimp only at hSw); go_simp; (try (with_reducible rfl)))
            (try simp only [Act.put, List.setIfInBounds_toArray, List.set_cons_zero, List.set_cons_succ])
            refine wpAnyH_take (i := 16) (oi := ⟨_, _, _, _, _, _⟩) (v := ?v887) rfl (by kernel_rfl) (by kernel_rfl) (by kernel_rfl) (fun _ _ _ h => h) (Or.inl ⟨by rfl, ?hy887⟩) (by assumption) ?_
            case hy887 => (intro w hSw; (try dsimp only at hSw); go_simp; (try (with_reducible rfl)))
            (try simp only [Act.put, List.setIfInBounds_toArray, List.set_cons_zero, List.set_cons_succ])
            refine wpAnyH_ready (rs := [8]) (by kernel_rfl) (by simp) ?_
            refine AllReadyH.cons (o := ⟨_, _, _, _, _, _⟩) rfl (fun K hK => ?_) AllReadyH.nil
            go_simp
            (go_at_call 14; (with_reducible refine (K1.out _).mono ?_); rintro e w4 ⟨rfl, hu⟩; have HU4 := Lib.hid hu; have HX4 := Lib.hid (keepK15 HU4 hHeld); clear hu)
            (try go_wp2_with fail)
            refine hK.out _ _ ?hB888 (fun hHeld => ?_)
            case hB888 => (first | (with_reducible assumption) | (with_reducible exact keepK15 (Lib.hid (Up.refl _).drew) HSS.out) | (with_reducible exact HX4.out) | (with_reducible exact HX5.out))
            clear hK K
            (try simp only [Act.put, List.setIfInBounds_toArray, List.set_cons_zero, List.set_cons_succ])
            refine wpAnyH_take (i := 9) (oi := ⟨_, _, _, _, _, _⟩) (v := ?v889) rfl (by kernel_rfl) (by kernel_rfl) (by kernel_rfl) (fun _ _ _ h => h) (Or.inl ⟨by rfl, ?hy889⟩) (by assumption) ?_
            case hy889 => (intro w hSw; (try dsimp only at hSw); go_simp; (try (with_reducible rfl)))
            (try simp only [Act.put, List.setIfInBounds_toArray, List.set_cons_zero, List.set_cons_succ])
            refine wpAnyH_ready (rs := [17]) (by kernel_rfl) (by simp) ?_
            refine AllReadyH.cons (o := ⟨_, _, _, _, _, _⟩) rfl (fun K hK => ?_) AllReadyH.nil
            go_simp
            (go_at_call 14; (with_reducible refine (K2.out _).mono ?_); rintro e w5 ⟨rfl, hu⟩; have HU5 := Lib.hid hu; have HX5 := Lib.hid (keepK15 HU5 hHeld); clear hu)
            (try go_wp2_with fail)
            refine hK.out _ _ ?hB890 (fun hHeld => ?_)
            case hB890 => (first | (with_reducible assumption) | (with_reducible exact keepK15 (Lib.hid (Up.refl _).drew) HSS.out) | (with_reducible exact HX4.out) | (with_reducible exact HX5.out))
            clear hK K
            (try simp only [Act.put, List.setIfInBounds_toArray, List.set_cons_zero, List.set_cons_succ])
            refine wpAnyH_take (i := 18) (oi := ⟨_, _, _, _, _, _⟩) (v := ?v891) rfl (by kernel_rfl) (by kernel_rfl) (by kernel_rfl) (fun _ _ _ h => h) (Or.inl ⟨by rfl, ?hy891⟩) (by assumption) ?_
            case hy891 => (intro w hSw; (try dsimp only at hSw); go_simp; (try (with_reducible rfl)))
            (try simp only [Act.put, List.setIfInBounds_toArray, List.set_cons_zero, List.set_cons_succ])
            refine wpAnyH_take (i := 19) (oi := ⟨_, _, _, _, _, _⟩) (v := ?v892) rfl (by kernel_rfl) (by kernel_rfl) (by kernel_rfl) (fun _ _ _ h => h) (Or.inl ⟨by rfl, ?hy892⟩) (by assumption) ?_
            case hy892 => (intro w hSw; (try dsimp only at hSw); go_simp; (try (with_reducible rfl)))
            (try simp only [Act.put, List.setIfInBounds_toArray, List.set_cons_zero, List.set_cons_succ])
            refine wpAnyH_done (by kernel_rfl) ?_ _
            have UX := Lib.hid hHeld.1
            (repeat clear ‹Up wo _ ∧ _›)
            go_wp2_with fail
            go_roundw
            case rel => exact ⟨j, nx + 1, rfl, by go_num, hij, by omega, by omega, HC, HF2, UX⟩
            case measure => simp [intOf]; omega
          | true =>
            have HC2 : Hid (i < nx → clM g q ⟨sq1, t1, nn1, s1, qq1, lo1, hi1⟩ (R.getD nx mk0) = true) := Lib.hid (fun _ => by rw [hMn.out]; exact hk)
            have tk := of_decide_eq_true hk
            clear hk HF HC HBn hMn HNO HYS HCI
            generalize ofZ g ⟨sq1, t1, nn1, s1, qq1, lo1, hi1⟩ = x at *
            generalize ofZ g ⟨sq, t, nn, s, qq, lo, hi⟩ = y at *
            have tk : decide (q * x ≤ (q + 1) * y) = true := decide_eq_true tk
            go_wp2_with fail
            refine wp_region_held_drew (S := fun w' => Up wo w' ∧ w'.cell? ⟨w.heap.size, 0, none⟩ = some (.int .i64 g) ∧ w'.cell? ⟨b, o + i * 7, none⟩ = some (.int .i64 sq1) ∧ w'.cell? ⟨b, o + i * 7 + 1, none⟩ = some (.int .i64 t1) ∧ w'.cell? ⟨b, o + i * 7 + 2, none⟩ = some (.int .i64 nn1) ∧ w'.cell? ⟨b, o + i * 7 + 3, none⟩ = some (.int .i64 s1) ∧ w'.cell? ⟨b, o + i * 7 + 4, none⟩ = some (.int .i64 qq1) ∧ w'.cell? ⟨b, o + i * 7 + 5, none⟩ = some (.int .i64 lo1) ∧ w'.cell? ⟨b, o + i * 7 + 6, none⟩ = some (.int .i64 hi1) ∧ w'.cell? ⟨b, o + nx * 7, none⟩ = some (.int .i64 sq) ∧ w'.cell? ⟨b, o + nx * 7 + 1, none⟩ = some (.int .i64 t) ∧ w'.cell? ⟨b, o + nx * 7 + 2, none⟩ = some (.int .i64 nn) ∧ w'.cell? ⟨b, o + nx * 7 + 3, none⟩ = some (.int .i64 s) ∧ w'.cell? ⟨b, o + nx * 7 + 4, none⟩ = some (.int .i64 qq) ∧ w'.cell? ⟨b, o + nx * 7 + 5, none⟩ = some (.int .i64 lo) ∧ w'.cell? ⟨b, o + nx * 7 + 6, none⟩ = some (.int .i64 hi)) (by kernel_rfl) ?hB893 (fun hHeld => ?_)
            case hB893 => (first | (with_reducible assumption) | (with_reducible exact keepK15 (Lib.hid (Up.refl _).drew) HSS.out) | (with_reducible exact HX4.out) | (with_reducible exact HX5.out))
            refine wpAnyH_take (i := 0) (oi := ⟨_, _, _, _, _, _⟩) (v := ?v894) rfl (by kernel_rfl) (by kernel_rfl) (by kernel_rfl) (fun _ _ _ h => h) (Or.inl ⟨by rfl, ?hy894⟩) (by assumption) ?_
            case hy894 => (intro w hSw; (try dsimp only at hSw); go_simp; (try (with_reducible rfl)))
            (try simp only [Act.put, List.setIfInBounds_toArray, List.set_cons_zero, List.set_cons_succ])
            refine wpAnyH_take (i := 1) (oi := ⟨_, _, _, _, _, _⟩) (v := ?v895) rfl (by kernel_rfl) (by kernel_rfl) (by kernel_rfl) (fun _ _ _ h => h) (Or.inl ⟨by rfl, ?hy895⟩) (by assumption) ?_
            case hy895 => (intro w hSw; (try dsimp only at hSw); go_simp; (try (with_reducible rfl)))
            (try simp only [Act.put, List.setIfInBounds_toArray, List.set_cons_zero, List.set_cons_succ])
            refine wpAnyH_take (i := 2) (oi := ⟨_, _, _, _, _, _⟩) (v := ?v896) rfl (by kernel_rfl) (by kernel_rfl) (by kernel_rfl) (fun _ _ _ h => h) (Or.inl ⟨by rfl, ?hy896⟩) (by assumption) ?_
            case hy896 => (intro w hSw; (try dsimp only at hSw); go_simp; (try (with_reducible rfl)))
            (try simp only [Act.put, List.setIfInBounds_toArray, List.set_cons_zero, List.set_cons_succ])
            refine wpAnyH_take (i := 3) (oi := ⟨_, _, _, _, _, _⟩) (v := ?v897) rfl (by kernel_rfl) (by kernel_rfl) (by kernel_rfl) (fun _ _ _ h => h) (Or.inl ⟨by rfl, ?hy897⟩) (by assumption) ?_
            case hy897 => (intro w hSw; (try dsimp only at hSw); go_simp; (try (with_reducible rfl)))
            (try simp only [Act.put, List.setIfInBounds_toArray, List.set_cons_zero, List.set_cons_succ])
            refine wpAnyH_take (i := 4) (oi := ⟨_, _, _, _, _, _⟩) (v := ?v898) rfl (by kernel_rfl) (by kernel_rfl) (by kernel_rfl) (fun _ _ _ h => h) (Or.inl ⟨by rfl, ?hy898⟩) (by assumption) ?_
            case hy898 => (intro w hSw; (try dsimp only at hSw); go_simp; (try (with_reducible rfl)))
            (try simp only [Act.put, List.setIfInBounds_toArray, List.set_cons_zero, List.set_cons_succ])
            refine wpAnyH_take (i := 5) (oi := ⟨_, _, _, _, _, _⟩) (v := ?v899) rfl (by kernel_rfl) (by kernel_rfl) (by kernel_rfl) (fun _ _ _ h => h) (Or.inl ⟨by rfl, ?hy899⟩) (by assumption) ?_
            case hy899 => (intro w hSw; (try dsimp only at hSw); go_simp; (try (with_reducible rfl)))
            (try simp only [Act.put, List.setIfInBounds_toArray, List.set_cons_zero, List.set_cons_succ])
            refine wpAnyH_take (i := 6) (oi := ⟨_, _, _, _, _, _⟩) (v := ?v900) rfl (by kernel_rfl) (by kernel_rfl) (by kernel_rfl) (fun _ _ _ h => h) (Or.inl ⟨by rfl, ?hy900⟩) (by assumption) ?_
            case hy900 => (intro w hSw; (try dsimp only at hSw); go_simp; (try (with_reducible rfl)))
            (try simp only [Act.put, List.setIfInBounds_toArray, List.set_cons_zero, List.set_cons_succ])
            refine wpAnyH_take (i := 7) (oi := ⟨_, _, _, _, _, _⟩) (v := ?v901) rfl (by kernel_rfl) (by kernel_rfl) (by kernel_rfl) (fun _ _ _ h => h) (Or.inl ⟨by rfl, ?hy901⟩) (by assumption) ?_
            case hy901 => (intro w hSw; (try dsimp only at hSw); go_simp; (try (with_reducible rfl)))
            (try simp only [Act.put, List.setIfInBounds_toArray, List.set_cons_zero, List.set_cons_succ])
            refine wpAnyH_take (i := 10) (oi := ⟨_, _, _, _, _, _⟩) (v := ?v902) rfl (by kernel_rfl) (by kernel_rfl) (by kernel_rfl) (fun _ _ _ h => h) (Or.inl ⟨by rfl, ?hy902⟩) (by assumption) ?_
            case hy902 => (intro w hSw; (try dsimp only at hSw); go_simp; (try (with_reducible rfl)))
            (try simp only [Act.put, List.setIfInBounds_toArray, List.set_cons_zero, List.set_cons_succ])
            refine wpAnyH_take (i := 11) (oi := ⟨_, _, _, _, _, _⟩) (v := ?v903) rfl (by kernel_rfl) (by kernel_rfl) (by kernel_rfl) (fun _ _ _ h => h) (Or.inl ⟨by rfl, ?hy903⟩) (by assumption) ?_
            case hy903 => (intro w hSw; (try dsimp only at hSw); go_simp; (try (with_reducible rfl)))
            (try simp only [Act.put, List.setIfInBounds_toArray, List.set_cons_zero, List.set_cons_succ])
            refine wpAnyH_take (i := 12) (oi := ⟨_, _, _, _, _, _⟩) (v := ?v904) rfl (by kernel_rfl) (by kernel_rfl) (by kernel_rfl) (fun _ _ _ h => h) (Or.inl ⟨by rfl, ?hy904⟩) (by assumption) ?_
            case hy904 => (intro w hSw; (try dsimp only at hSw); go_simp; (try (with_reducible rfl)))
            (try simp only [Act.put, List.setIfInBounds_toArray, List.set_cons_zero, List.set_cons_succ])
            refine wpAnyH_take (i := 13) (oi := ⟨_, _, _, _, _, _⟩) (v := ?v905) rfl (by kernel_rfl) (by kernel_rfl) (by kernel_rfl) (fun _ _ _ h => h) (Or.inl ⟨by rfl, ?hy905⟩) (by assumption) ?_
            case hy905 => (intro w hSw; (try dsimp only at hSw); go_simp; (try (with_reducible rfl)))
            (try simp only [Act.put, List.setIfInBounds_toArray, List.set_cons_zero, List.set_cons_succ])
            refine wpAnyH_take (i := 14) (oi := ⟨_, _, _, _, _, _⟩) (v := ?v906) rfl (by kernel_rfl) (by kernel_rfl) (by kernel_rfl) (fun _ _ _ h => h) (Or.inl ⟨by rfl, ?hy906⟩) (by assumption) ?_
            case hy906 => (intro w hSw; (try dsimp only at hSw); go_simp; (try (with_reducible rfl)))
            (try simp only [Act.put, List.setIfInBounds_toArray, List.set_cons_zero, List.set_cons_succ])
            refine wpAnyH_take (i := 15) (oi := ⟨_, _, _, _, _, _⟩) (v := ?v907) rfl (by kernel_rfl) (by kernel_rfl) (by kernel_rfl) (fun _ _ _ h => h) (Or.inl ⟨by rfl, ?hy907⟩) (by assumption) ?_
            case hy907 => (intro w hSw; (try dsimp only at hSw); go_simp; (try (with_reducible rfl)))
            (try simp only [Act.put, List.setIfInBounds_toArray, List.set_cons_zero, List.set_cons_succ])
            refine wpAnyH_take (i := 16) (oi := ⟨_, _, _, _, _, _⟩) (v := ?v908) rfl (by kernel_rfl) (by kernel_rfl) (by kernel_rfl) (fun _ _ _ h => h) (Or.inl ⟨by rfl, ?hy908⟩) (by assumption) ?_
            case hy908 => (intro w hSw; (try dsimp only at hSw); go_simp; (try (with_reducible rfl)))
            (try simp only [Act.put, List.setIfInBounds_toArray, List.set_cons_zero, List.set_cons_succ])
            refine wpAnyH_ready (rs := [8]) (by kernel_rfl) (by simp) ?_
            refine AllReadyH.cons (o := ⟨_, _, _, _, _, _⟩) rfl (fun K hK => ?_) AllReadyH.nil
            go_simp
            (go_at_call 14; (with_reducible refine (K1.out _).mono ?_); rintro e w4 ⟨rfl, hu⟩; have HU4 := Lib.hid hu; have HX4 := Lib.hid (keepK15 HU4 hHeld); clear hu)
            (try go_wp2_with fail)
            refine hK.out _ _ ?hB909 (fun hHeld => ?_)
            case hB909 => (first | (with_reducible assumption) | (with_reducible exact keepK15 (Lib.hid (Up.refl _).drew) HSS.out) | (with_reducible exact HX4.out) | (with_reducible exact HX5.out))
            clear hK K
            (try simp only [Act.put, List.setIfInBounds_toArray, List.set_cons_zero, List.set_cons_succ])
            refine wpAnyH_take (i := 9) (oi := ⟨_, _, _, _, _, _⟩) (v := ?v910) rfl (by kernel_rfl) (by kernel_rfl) (by kernel_rfl) (fun _ _ _ h => h) (Or.inl ⟨by rfl, ?hy910⟩) (by assumption) ?_
            case hy910 => (intro w hSw; (try dsimp only at hSw); go_simp; (try (with_reducible rfl)))
            (try simp only [Act.put, List.setIfInBounds_toArray, List.set_cons_zero, List.set_cons_succ])
            refine wpAnyH_ready (rs := [17]) (by kernel_rfl) (by simp) ?_
            refine AllReadyH.cons (o := ⟨_, _, _, _, _, _⟩) rfl (fun K hK => ?_) AllReadyH.nil
            go_simp
            (go_at_call 14; (with_reducible refine (K2.out _).mono ?_); rintro e w5 ⟨rfl, hu⟩; have HU5 := Lib.hid hu; have HX5 := Lib.hid (keepK15 HU5 hHeld); clear hu)
            (try go_wp2_with fail)
            refine hK.out _ _ ?hB911 (fun hHeld => ?_)
            case hB911 => (first | (with_reducible assumption) | (with_reducible exact keepK15 (Lib.hid (Up.refl _).drew) HSS.out) | (with_reducible exact HX4.out) | (with_reducible exact HX5.out))
            clear hK K
            (try simp only [Act.put, List.setIfInBounds_toArray, List.set_cons_zero, List.set_cons_succ])
            refine wpAnyH_take (i := 18) (oi := ⟨_, _, _, _, _, _⟩) (v := ?v912) rfl (by kernel_rfl) (by kernel_rfl) (by kernel_rfl) (fun _ _ _ h => h) (Or.inl ⟨by rfl, ?hy912⟩) (by assumption) ?_
            case hy912 => (intro w hSw; (try dsimp only at hSw); go_simp; (try (with_reducible rfl)))
            (try simp only [Act.put, List.setIfInBounds_toArray, List.set_cons_zero, List.set_cons_succ])
            refine wpAnyH_take (i := 19) (oi := ⟨_, _, _, _, _, _⟩) (v := ?v913) rfl (by kernel_rfl) (by kernel_rfl) (by kernel_rfl) (fun _ _ _ h => h) (Or.inl ⟨by rfl, ?hy913⟩) (by assumption) ?_
            case hy913 => (intro w hSw; (try dsimp only at hSw); go_simp; (try (with_reducible rfl)))
            (try simp only [Act.put, List.setIfInBounds_toArray, List.set_cons_zero, List.set_cons_succ])
            refine wpAnyH_done (by kernel_rfl) ?_ _
            have UX := Lib.hid hHeld.1
            (repeat clear ‹Up wo _ ∧ _›)
            go_wp2_with fail
            go_roundw
            case rel => exact ⟨nx, nx + 1, rfl, by go_num, by omega, by omega, by omega, HC2, Lib.hid (fun p h1 h2 => absurd h1 (by omega)), UX⟩
            case measure => simp [intOf]; omega
        · obtain rfl : nx = m := by omega
          have fx : decide ((nx : Int) < nx) = false := decide_eq_false (by omega)
          by_cases hji : i < j
          · have fj : (i : Int) < j := by omega
            have fjm : (j : Int) ≤ nx := by omega
            have HZ2 := Lib.hid (HYS.out j hji (by omega) (HC.out hji) HF.out)
            have HR1 := Lib.hid (HR.out.up HV.out)
            have HB2 : Hid (∀ x ∈ R.take (i + 1) ++ R.drop j, bdG g x) := Lib.hid (sub_bd HB.out)
            have hrun1 := sliceToM_run b o nx kk i (by omega)
            have hrun2 := sliceFromM_run b o nx kk j (by omega) (by omega)
            have HWq := Lib.hid (HW.out.trans HV.out)
            have hlq := World.block_lt_of_cell? _ _ (HWq.out.keep _ _ _ HX.out.2.2.2.2.2.2.2.2.1)
            clear HYS HNO HCI HC HF cg HB
            go_wp2_with fail
            refine wp_region_held_drew (S := fun w' => Up wr w' ∧ True) (by kernel_rfl) ?hB914 (fun hHeld => ?_)
            case hB914 => exact ⟨(Up.refl _).drew, trivial⟩
            refine wpAnyH_take (i := 1) (oi := ⟨_, _, _, _, _, _⟩) (v := ?v915) rfl (by kernel_rfl) (by kernel_rfl) (by kernel_rfl) (fun _ _ _ h => h) (Or.inl ⟨by rfl, ?hy915⟩) (by assumption) ?_
            case hy915 => (intro w hSw; (try dsimp only at hSw); go_simp; (try (with_reducible rfl)))
            (try simp only [Act.put, List.setIfInBounds_toArray, List.set_cons_zero, List.set_cons_succ])
            refine wpAnyH_take (i := 2) (oi := ⟨_, _, _, _, _, _⟩) (v := ?v916) rfl (by kernel_rfl) (by kernel_rfl) (by kernel_rfl) (fun _ _ _ h => h) (Or.inl ⟨by rfl, ?hy916⟩) (by assumption) ?_
            case hy916 => (intro w hSw; (try dsimp only at hSw); go_simp; (try (with_reducible rfl)))
            (try simp only [Act.put, List.setIfInBounds_toArray, List.set_cons_zero, List.set_cons_succ])
            refine wpAnyH_take (i := 3) (oi := ⟨_, _, _, _, _, _⟩) (v := ?v917) rfl (by kernel_rfl) (by kernel_rfl) (by kernel_rfl) (fun _ _ _ h => h) (Or.inl ⟨by rfl, ?hy917⟩) (by assumption) ?_
            case hy917 => (intro w hSw; (try dsimp only at hSw); go_simp; (try (with_reducible rfl)))
            (try simp only [Act.put, List.setIfInBounds_toArray, List.set_cons_zero, List.set_cons_succ])
            refine wpAnyH_take (i := 4) (oi := ⟨_, _, _, _, _, _⟩) (v := ?v918) rfl (by kernel_rfl) (by kernel_rfl) (by kernel_rfl) (fun _ _ _ h => h) (Or.inl ⟨by rfl, ?hy918⟩) (by assumption) ?_
            case hy918 => (intro w hSw; (try dsimp only at hSw); go_simp; (try (with_reducible rfl)))
            (try simp only [Act.put, List.setIfInBounds_toArray, List.set_cons_zero, List.set_cons_succ])
            refine wpAnyH_take (i := 6) (oi := ⟨_, _, _, _, _, _⟩) (v := ?v919) rfl (by kernel_rfl) (by kernel_rfl) (by kernel_rfl) (fun _ _ _ h => h) (Or.inl ⟨by rfl, ?hy919⟩) (by assumption) ?_
            case hy919 => (intro w hSw; (try dsimp only at hSw); go_simp; (try (with_reducible rfl)))
            (try simp only [Act.put, List.setIfInBounds_toArray, List.set_cons_zero, List.set_cons_succ])
            refine wpAnyH_take (i := 7) (oi := ⟨_, _, _, _, _, _⟩) (v := ?v920) rfl (by kernel_rfl) (by kernel_rfl) (by kernel_rfl) (fun _ _ _ h => h) (Or.inl ⟨by rfl, ?hy920⟩) (by assumption) ?_
            case hy920 => (intro w hSw; (try dsimp only at hSw); go_simp; (try (with_reducible rfl)))
            (try simp only [Act.put, List.setIfInBounds_toArray, List.set_cons_zero, List.set_cons_succ])
            refine wpAnyH_take (i := 8) (oi := ⟨_, _, _, _, _, _⟩) (v := ?v921) rfl (by kernel_rfl) (by kernel_rfl) (by kernel_rfl) (fun _ _ _ h => h) (Or.inl ⟨by rfl, ?hy921⟩) (by assumption) ?_
            case hy921 => (intro w hSw; (try dsimp only at hSw); go_simp; (try (with_reducible rfl)))
            (try simp only [Act.put, List.setIfInBounds_toArray, List.set_cons_zero, List.set_cons_succ])
            refine wpAnyH_ready (rs := [0]) (by kernel_rfl) (by simp) ?_
            refine AllReadyH.cons (o := ⟨_, _, _, _, _, _⟩) rfl (fun K hK => ?_) AllReadyH.nil
            go_simp
            refine hK.out _ _ ?hB922 (fun hHeld => ?_)
            case hB922 => exact ⟨((Up.refl _).drew).alloc _ _, trivial⟩
            clear hK K
            (try simp only [Act.put, List.setIfInBounds_toArray, List.set_cons_zero, List.set_cons_succ])
            obtain ⟨A6, k6, w6, hr6, hO6, hU6⟩ := appendM 24 wr.drew (wr.drew.alloc (.cells #[] 23)) (.slice (some ⟨wr.heap.size, 0, none⟩) 0 0) 0 [] (OG.fresh (f := cM) (e := 23) (s := 7) (w0 := wr.drew) (w := wr.drew) (Nat.le_refl _) #[] rfl) ((Up.refl _).alloc _ _) (some ⟨b, o, none⟩) (i + 1) kk (R.take (i + 1)) ((HR1.out.first cM_len (by omega)).up ((Up.refl _).drew.alloc _ _)) (by omega)
            simp only [Nat.zero_add, List.nil_append] at hr6 hO6
            have HO6 := Lib.hid hO6
            have HU6 := Lib.hid ((Up.refl wr).drew.trans hU6)
            obtain ⟨A7, k7, w7, hr7, hO7, hU7⟩ := appendM 24 wr.drew w6 (.slice A6 (i + 1) k6) (i + 1) (R.take (i + 1)) HO6.out hU6 (some ⟨b, o + j * 7, none⟩) (nx - j) (kk - j) (R.drop j) ((HR1.out.cutM (by omega)).up HU6.out) (by omega)
            have HO7 := Lib.hid hO7
            have HU7 := Lib.hid ((Up.refl wr).drew.trans hU7)
            clear hO6 hU6 hO7 hU7
            refine wpAnyH_ready (rs := [5]) (by kernel_rfl) (by simp) ?_
            refine AllReadyH.cons (o := ⟨_, _, _, _, _, _⟩) rfl (fun K hK => ?_) AllReadyH.nil
            refine step_append_run rfl (.tmp 97) (.tmp 101) _ rfl (.slice (some ⟨wr.heap.size, 0, none⟩) 0 0) (.slice (some ⟨b, o, none⟩) (i + 1) kk) rfl rfl _ _ hr6 ?_
            refine hK.out _ _ ?hB923 (fun hHeld => ?_)
            case hB923 => exact ⟨HU6.out, trivial⟩
            clear hK K
            (try simp only [Act.put, List.setIfInBounds_toArray, List.set_cons_zero, List.set_cons_succ])
            refine wpAnyH_ready (rs := [9]) (by kernel_rfl) (by simp) ?_
            refine AllReadyH.cons (o := ⟨_, _, _, _, _, _⟩) rfl (fun K hK => ?_) AllReadyH.nil
            refine step_append_run rfl (.tmp 102) (.tmp 105) _ rfl (.slice A6 (i + 1) k6) (.slice (some ⟨b, o + j * 7, none⟩) (nx - j) (kk - j)) rfl rfl _ _ hr7 ?_
            refine hK.out _ _ ?hB924 (fun hHeld => ?_)
            case hB924 => exact ⟨HU7.out, trivial⟩
            clear hK K
            (try simp only [Act.put, List.setIfInBounds_toArray, List.set_cons_zero, List.set_cons_succ])
            refine wpAnyH_take (i := 10) (oi := ⟨_, _, _, _, _, _⟩) (v := ?v925) rfl (by kernel_rfl) (by kernel_rfl) (by kernel_rfl) (fun _ _ _ h => h) (Or.inl ⟨by rfl, ?hy925⟩) (by assumption) ?_
            case hy925 => (intro w hSw; (try dsimp only at hSw); go_simp; (try (with_reducible rfl)))
            (try simp only [Act.put, List.setIfInBounds_toArray, List.set_cons_zero, List.set_cons_succ])
            refine wpAnyH_done (by kernel_rfl) ?_ _
            clear hHeld
            go_wp2_with fail
            go_roundw
            case rel => exact ⟨i + 1, i + 1 + (nx - j), k7, A7, R.take (i + 1) ++ R.drop j, rfl, by go_num, by omega, (OG.sg HO7.out).1, by omega, Lib.hid (OG.sg HO7.out).2, HB2, HZ2, Lib.hid (fun b_ o_ h_ => Nat.lt_of_lt_of_le hlq (OG.nw HO7.out b_ o_ h_)), Lib.hid (HWq.out.trans HU7.out)⟩
            case measure => simp [lnS, intOf]; omega
          · obtain rfl : j = i := by omega
            have HZ2 := Lib.hid (HNO.out (fun p h1 h2 => HF.out p h1 h2))
            clear HYS HNO HCI HC HF cg
            go_wp2_with fail
            go_roundw
            case rel => exact ⟨j + 1, nx, kk, some ⟨b, o, none⟩, R, rfl, by go_num, by omega, hmk, hmn, Lib.hid (HR.out.up HV.out), HB, HZ2, HN, Lib.hid (HW.out.trans HV.out)⟩
            case measure => simp [lnS, intOf]; omega
    · obtain rfl : i = m := by omega
      have fi : decide ((i : Int) < i) = false := decide_eq_false (by omega)
      have HRZ : Hid (R = Z) := Lib.hid (by
        have e := HZr.out
        rw [Nat.sub_self, show R.drop i = [] from List.drop_eq_nil_of_le (by rw [HR.out.1]; exact Nat.le_refl _), prL_nil, List.append_nil, List.take_of_length_le (by rw [HR.out.1]; exact Nat.le_refl _)] at e
        exact e)
      obtain rfl : R = Z := HRZ.out
      have UU := HX.out.1.trans HW.out
      have c00 := HW.out.keep _ _ _ HX.out.2.1
      have c01 := HW.out.keep _ _ _ HX.out.2.2.1
      have c02 := HW.out.keep _ _ _ HX.out.2.2.2.1
      have c03 := HW.out.keep _ _ _ HX.out.2.2.2.2.1
      have c04 := HW.out.keep _ _ _ HX.out.2.2.2.2.2.1
      have c05 := HW.out.keep _ _ _ HX.out.2.2.2.2.2.2.1
      have c06 := HW.out.keep _ _ _ HX.out.2.2.2.2.2.2.2.1
      have c10 := HW.out.keep _ _ _ HX.out.2.2.2.2.2.2.2.2.1
      have c11 := HW.out.keep _ _ _ HX.out.2.2.2.2.2.2.2.2.2.1
      have c12 := HW.out.keep _ _ _ HX.out.2.2.2.2.2.2.2.2.2.2.1
      have c13 := HW.out.keep _ _ _ HX.out.2.2.2.2.2.2.2.2.2.2.2.1
      have c14 := HW.out.keep _ _ _ HX.out.2.2.2.2.2.2.2.2.2.2.2.2.1
      have c15 := HW.out.keep _ _ _ HX.out.2.2.2.2.2.2.2.2.2.2.2.2.2.1
      have c16 := HW.out.keep _ _ _ HX.out.2.2.2.2.2.2.2.2.2.2.2.2.2.2
      have z06 := UU.ownGe (g := w.heap.size) (Nat.le_refl _) 6
      have z10 := UU.ownGe (g := w.heap.size + 1) (by omega) 0
      have z11 := UU.ownGe (g := w.heap.size + 1) (by omega) 1
      have z12 := UU.ownGe (g := w.heap.size + 1) (by omega) 2
      have z13 := UU.ownGe (g := w.heap.size + 1) (by omega) 3
      have z14 := UU.ownGe (g := w.heap.size + 1) (by omega) 4
      have z15 := UU.ownGe (g := w.heap.size + 1) (by omega) 5
      have z16 := UU.ownGe (g := w.heap.size + 1) (by omega) 6
      have UU := Lib.hid UU
      have hlt := World.block_lt_of_cell? _ _ c10
      have HRw := HR
      clear HX HZr HRZ HB
      go_wp2_with fail
      refine bodyPost_ret (v := .tuple #[.agg #[.int .i64 g, .int .i64 v, .int .i64 q, .int .i64 c, .int .i64 now, .int .i64 (seq + 1), .slice B i kk], .int .i64 0]) (by simp [results, Try.results24, go_sem, c10, c11, c12, c13, c14, c15, c16]) rfl ⟨B, i, kk, rfl, hmn, hmk, ?_, ?_⟩
      · exact (UU.out.setCell (Nat.le_refl _) _).set7 (by omega)
      · exact (HRw.out.off (fun b_ o_ h_ => by have := HN.out b_ o_ h_; omega) _).off7 (fun b_ o_ h_ => by have := HN.out b_ o_ h_; omega) _ _ _ _ _ _ _
set_option maxHeartbeats 4000000 in
set_option maxRecDepth 100000 in
theorem radd13_good_zero (g v q c now seq d : Int) (n k : Nat) (A : Option Addr) (X : List Mrk) (hn : n ≤ 50000) (hk : n ≤ k) (h0 : ¬ 0 < n) (hv : stM g v q c now seq X = true) (hd : valG g d) (hf : fuM c seq X = false) (w : World) (hS : SG cM w A n X) :
    Calls Try.prog 24 #[.agg #[.int .i64 g, .int .i64 v, .int .i64 q, .int .i64 c, .int .i64 now, .int .i64 seq, .slice A n k], .int .i64 d] w fun e w' => ∃ A' n' k', e = .returned (.tuple #[.agg #[.int .i64 g, .int .i64 v, .int .i64 q, .int .i64 c, .int .i64 now, .int .i64 (seq + 1), .slice A' n' k'], .int .i64 0]) ∧ n' ≤ n + 1 ∧ n' ≤ k' ∧ Up w w' ∧ SG cM w' A' n' (adM g q seq now d X) := by
  have HL := Lib.hid hS.1
  have KV := Lib.hid (fun W (h : SG cM W A n X) => rvalidate13_up g v q c now seq n k A X hn W h)
  rw [stME_yes hv] at KV
  have HS := Lib.hid hS
  have KI := Lib.hid (rvalue13_any g d)
  rw [decide_eq_true hd] at KI
  have HQ : Hid (1 ≤ q ∧ q ≤ 64) := Lib.hid (mayC_true (stM_may hv)).2
  have HD : Hid (∀ j, j < n → bdM (X.getD j mk0)) := Lib.hid (by
    obtain ⟨hm, hx, _⟩ := stM_true hv
    obtain ⟨g1, g2, hc, g4⟩ := mayC_facts (mayM_true hm).2
    obtain ⟨hs2, hok⟩ := mrkB_true hx
    exact fun j hj => (hok j (by rw [hS.1]; exact hj)).bd hc.2 hs2.2)
  have HI : Hid (∀ j, j < n + 1 → bdG g ((inM (seq + 1) now d X).getD j mk0)) := Lib.hid (by
    obtain ⟨hm, hx, _⟩ := stM_true hv
    obtain ⟨hg, hm2⟩ := mayM_true hm
    obtain ⟨g1, g2, hc, g4⟩ := mayC_facts hm2
    obtain ⟨hs2, hok⟩ := mrkB_true hx
    intro j hj
    refine ⟨inM_bd hg hc.2 hs2.2 hok hd (by rw [hS.1]; exact hj), ?_⟩
    by_cases hjn : j < n
    · rw [inM_get (by rw [hS.1]; exact hjn)]
      obtain ⟨_, _, _, ⟨l1, l2⟩, ⟨l3, l4⟩, _⟩ := HD.out j hjn
      obtain ⟨d1, d2, _⟩ := hd
      show In (min _ d) ∧ In (max _ d)
      have p1 := min_b l1 l2 d1 d2
      have p2 := min_b l3 l4 d1 d2
      exact ⟨⟨by omega, by omega⟩, ⟨by omega, by omega⟩⟩
    · obtain rfl : j = X.length := by rw [hS.1]; omega
      rw [inM_last]
      obtain ⟨d1, d2, _⟩ := hd
      exact ⟨⟨by show _ ≤ d; omega, by show d ≤ _; omega⟩, ⟨by show _ ≤ d; omega, by show d ≤ _; omega⟩⟩)
  have HAN : Hid (∀ i j, i ≤ j → j < n + 1 → ofZ g ((inM (seq + 1) now d X).getD j mk0) ≤ ofZ g ((inM (seq + 1) now d X).getD i mk0)) := Lib.hid (by
    obtain ⟨hm, hx, _⟩ := stM_true hv
    obtain ⟨hs2, hok⟩ := mrkB_true hx
    exact fun i j hij hj => inM_anti (mayM_true hm).1 hok hd hij (by rw [hS.1]; exact hj))
  have w5_ : IntKind.i64.wrap (seq + 1) = seq + 1 := by
    obtain ⟨_, hx, _⟩ := stM_true hv
    obtain ⟨hs2, _⟩ := mrkB_true hx
    rw [IntKind.wrap_i64]; omega
  have KE := Lib.hid (fun W (h : Up w W) => rinclude_up n k A X (seq + 1) now d hn HD.out hd.1 hd.2.1 W (hS.up h))
  have HZ : Hid (prL (clM g q) (n + 1) (inM (seq + 1) now d X) = adM g q seq now d X) := Lib.hid (by rw [← HL.out]; rfl)
  have HI2 : Hid (∀ x ∈ inM (seq + 1) now d X, bdG g x) := Lib.hid (fun x hx => by
    obtain ⟨j, hj, e⟩ := mem_getD hx
    rw [inM_len, HL.out] at hj
    rw [← e]; exact HI.out j hj)
  clear HD HI HAN
  generalize adM g q seq now d X = Z at *
  generalize inM (seq + 1) now d X = M3 at *
  have w6_ : IntKind.i64.wrap (q + 1) = q + 1 := by have := HQ.out; rw [IntKind.wrap_i64]; omega
  have HSn := Lib.hid hS
  clear hS hv hd
  have HF : Hid (seq ≠ 1099511627776) := Lib.hid (by
    unfold fuM at hf
    rw [HSn.out.1, Bool.or_eq_false_iff, Bool.and_eq_false_iff, decide_eq_false_iff_not, decide_eq_false_iff_not, decide_eq_false_iff_not] at hf
    exact hf.2)
  clear hf
  have t2 : (seq == 1099511627776) = false := beq_eq_false_iff_ne.2 HF.out
  have t1 : decide ((0 : Int) < n) = false := decide_eq_false (by omega)
  have t1n : decide (0 < n) = false := decide_eq_false h0
  have t1p : (0 < n) = False := eq_false h0
  clear HF h0
  go_enter Try.func24, Try.ntmps24
  go_upto_region 6 with (first | (go_at_call 58; (with_reducible refine (KI.out _).mono ?_); rintro e w2 ⟨rfl, rfl⟩) | (go_at_call 20; (with_reducible refine (KV.out _ (HS.out.up (((Up.refl w).alloc _ _).alloc _ _))).mono ?_); rintro e w1 ⟨rfl, hu⟩; have HU1 := Lib.hid ((((Up.refl w).alloc #[.int .i64 g, .int .i64 v, .int .i64 q, .int .i64 c, .int .i64 now, .int .i64 seq, .slice A n k] 26).alloc #[.int .i64 0, .int .i64 0, .int .i64 0, .int .i64 0, .int .i64 0, .int .i64 0, .slice none 0 0] 26).trans hu); have c00 := hu.keep (w.heap.size) 0 (.int .i64 g) (by simp [go_sem]); have c01 := hu.keep (w.heap.size) 1 (.int .i64 v) (by simp [go_sem]); have c02 := hu.keep (w.heap.size) 2 (.int .i64 q) (by simp [go_sem]); have c03 := hu.keep (w.heap.size) 3 (.int .i64 c) (by simp [go_sem]); have c04 := hu.keep (w.heap.size) 4 (.int .i64 now) (by simp [go_sem]); have c05 := hu.keep (w.heap.size) 5 (.int .i64 seq) (by simp [go_sem]); have c06 := hu.keep (w.heap.size) 6 (.slice A n k) (by simp [go_sem]); have c10 := hu.keep (w.heap.size + 1) 0 (.int .i64 0) (by simp [go_sem]); have c11 := hu.keep (w.heap.size + 1) 1 (.int .i64 0) (by simp [go_sem]); have c12 := hu.keep (w.heap.size + 1) 2 (.int .i64 0) (by simp [go_sem]); have c13 := hu.keep (w.heap.size + 1) 3 (.int .i64 0) (by simp [go_sem]); have c14 := hu.keep (w.heap.size + 1) 4 (.int .i64 0) (by simp [go_sem]); have c15 := hu.keep (w.heap.size + 1) 5 (.int .i64 0) (by simp [go_sem]); have c16 := hu.keep (w.heap.size + 1) 6 (.slice none 0 0) (by simp [go_sem]); have z00 := HU1.out.ownGe (g := w.heap.size) (Nat.le_refl _) 0; have z01 := HU1.out.ownGe (g := w.heap.size) (Nat.le_refl _) 1; have z02 := HU1.out.ownGe (g := w.heap.size) (Nat.le_refl _) 2; have z03 := HU1.out.ownGe (g := w.heap.size) (Nat.le_refl _) 3; have z04 := HU1.out.ownGe (g := w.heap.size) (Nat.le_refl _) 4; have z05 := HU1.out.ownGe (g := w.heap.size) (Nat.le_refl _) 5; have z06 := HU1.out.ownGe (g := w.heap.size) (Nat.le_refl _) 6; have z10 := HU1.out.ownGe (g := w.heap.size + 1) (by omega) 0; have z11 := HU1.out.ownGe (g := w.heap.size + 1) (by omega) 1; have z12 := HU1.out.ownGe (g := w.heap.size + 1) (by omega) 2; have z13 := HU1.out.ownGe (g := w.heap.size + 1) (by omega) 3; have z14 := HU1.out.ownGe (g := w.heap.size + 1) (by omega) 4; have z15 := HU1.out.ownGe (g := w.heap.size + 1) (by omega) 5; have z16 := HU1.out.ownGe (g := w.heap.size + 1) (by omega) 6; have hlt : w.heap.size + 1 < w1.heap.size := World.block_lt_of_cell? _ _ c10; have hlt0 : w.heap.size < w1.heap.size := Nat.lt_of_succ_lt hlt; clear hu))
  have HSS : Hid (Up w w1 ∧ w1.cell? ⟨w.heap.size, 0, none⟩ = some (.int .i64 g) ∧ w1.cell? ⟨w.heap.size, 1, none⟩ = some (.int .i64 v) ∧ w1.cell? ⟨w.heap.size, 2, none⟩ = some (.int .i64 q) ∧ w1.cell? ⟨w.heap.size, 3, none⟩ = some (.int .i64 c) ∧ w1.cell? ⟨w.heap.size, 4, none⟩ = some (.int .i64 now) ∧ w1.cell? ⟨w.heap.size, 5, none⟩ = some (.int .i64 seq) ∧ w1.cell? ⟨w.heap.size, 6, none⟩ = some (.slice A n k) ∧ w1.cell? ⟨(w.heap.size + 1), 0, none⟩ = some (.int .i64 0) ∧ w1.cell? ⟨(w.heap.size + 1), 1, none⟩ = some (.int .i64 0) ∧ w1.cell? ⟨(w.heap.size + 1), 2, none⟩ = some (.int .i64 0) ∧ w1.cell? ⟨(w.heap.size + 1), 3, none⟩ = some (.int .i64 0) ∧ w1.cell? ⟨(w.heap.size + 1), 4, none⟩ = some (.int .i64 0) ∧ w1.cell? ⟨(w.heap.size + 1), 5, none⟩ = some (.int .i64 0) ∧ w1.cell? ⟨(w.heap.size + 1), 6, none⟩ = some (.slice none 0 0)) := Lib.hid ⟨HU1.out, c00, c01, c02, c03, c04, c05, c06, c10, c11, c12, c13, c14, c15, c16⟩
  skip
  go_wp2_with fail
  refine wp_region_held_drew (S := fun w' => Up w w' ∧ w'.cell? ⟨w.heap.size, 0, none⟩ = some (.int .i64 g) ∧ w'.cell? ⟨w.heap.size, 1, none⟩ = some (.int .i64 v) ∧ w'.cell? ⟨w.heap.size, 2, none⟩ = some (.int .i64 q) ∧ w'.cell? ⟨w.heap.size, 3, none⟩ = some (.int .i64 c) ∧ w'.cell? ⟨w.heap.size, 4, none⟩ = some (.int .i64 now) ∧ w'.cell? ⟨w.heap.size, 5, none⟩ = some (.int .i64 seq) ∧ w'.cell? ⟨w.heap.size, 6, none⟩ = some (.slice A n k) ∧ w'.cell? ⟨(w.heap.size + 1), 0, none⟩ = some (.int .i64 0) ∧ w'.cell? ⟨(w.heap.size + 1), 1, none⟩ = some (.int .i64 0) ∧ w'.cell? ⟨(w.heap.size + 1), 2, none⟩ = some (.int .i64 0) ∧ w'.cell? ⟨(w.heap.size + 1), 3, none⟩ = some (.int .i64 0) ∧ w'.cell? ⟨(w.heap.size + 1), 4, none⟩ = some (.int .i64 0) ∧ w'.cell? ⟨(w.heap.size + 1), 5, none⟩ = some (.int .i64 0) ∧ w'.cell? ⟨(w.heap.size + 1), 6, none⟩ = some (.slice none 0 0)) (by kernel_rfl) ?hB939 (fun hHeld => ?_)
  case hB939 => (first | (with_reducible assumption) | (with_reducible exact keepK14 (Lib.hid (Up.refl _).drew) HSS.out))
  refine wpAnyH_take (i := 0) (oi := ⟨_, _, _, _, _, _⟩) (v := ?v940) rfl (by kernel_rfl) (by kernel_rfl) (by kernel_rfl) (fun _ _ _ h => h) (Or.inl ⟨by rfl, ?hy940⟩) (by assumption) ?_
  case hy940 => (intro w hSw; (try dsimp only at hSw); go_simp; (try (with_reducible rfl)))
  (try simp only [Act.put, List.setIfInBounds_toArray, List.set_cons_zero, List.set_cons_succ])
  refine wpAnyH_take (i := 1) (oi := ⟨_, _, _, _, _, _⟩) (v := ?v941) rfl (by kernel_rfl) (by kernel_rfl) (by kernel_rfl) (fun _ _ _ h => h) (Or.inl ⟨by rfl, ?hy941⟩) (by assumption) ?_
  case hy941 => (intro w hSw; (try dsimp only at hSw); go_simp; (try (with_reducible rfl)))
  (try simp only [Act.put, List.setIfInBounds_toArray, List.set_cons_zero, List.set_cons_succ])
  refine wpAnyH_take (i := 2) (oi := ⟨_, _, _, _, _, _⟩) (v := ?v942) rfl (by kernel_rfl) (by kernel_rfl) (by kernel_rfl) (fun _ _ _ h => h) (Or.inl ⟨by rfl, ?hy942⟩) (by assumption) ?_
  case hy942 => (intro w hSw; (try dsimp only at hSw); go_simp; (try (with_reducible rfl)))
  (try simp only [Act.put, List.setIfInBounds_toArray, List.set_cons_zero, List.set_cons_succ])
  refine wpAnyH_take (i := 3) (oi := ⟨_, _, _, _, _, _⟩) (v := ?v943) rfl (by kernel_rfl) (by kernel_rfl) (by kernel_rfl) (fun _ _ _ h => h) (Or.inl ⟨by rfl, ?hy943⟩) (by assumption) ?_
  case hy943 => (intro w hSw; (try dsimp only at hSw); go_simp; (try (with_reducible rfl)))
  (try simp only [Act.put, List.setIfInBounds_toArray, List.set_cons_zero, List.set_cons_succ])
  refine wpAnyH_take (i := 4) (oi := ⟨_, _, _, _, _, _⟩) (v := ?v944) rfl (by kernel_rfl) (by kernel_rfl) (by kernel_rfl) (fun _ _ _ h => h) (Or.inl ⟨by rfl, ?hy944⟩) (by assumption) ?_
  case hy944 => (intro w hSw; (try dsimp only at hSw); go_simp; (try (with_reducible rfl)))
  (try simp only [Act.put, List.setIfInBounds_toArray, List.set_cons_zero, List.set_cons_succ])
  refine wpAnyH_take (i := 5) (oi := ⟨_, _, _, _, _, _⟩) (v := undef) rfl (by kernel_rfl) (by kernel_rfl) (by kernel_rfl) (fun _ _ _ h => h) (Or.inr ⟨by rfl, rfl⟩) (by assumption) ?_
  (try simp only [Act.put, List.setIfInBounds_toArray, List.set_cons_zero, List.set_cons_succ])
  refine wpAnyH_take (i := 6) (oi := ⟨_, _, _, _, _, _⟩) (v := undef) rfl (by kernel_rfl) (by kernel_rfl) (by kernel_rfl) (fun _ _ _ h => h) (Or.inr ⟨by rfl, rfl⟩) (by assumption) ?_
  (try simp only [Act.put, List.setIfInBounds_toArray, List.set_cons_zero, List.set_cons_succ])
  refine wpAnyH_take (i := 7) (oi := ⟨_, _, _, _, _, _⟩) (v := undef) rfl (by kernel_rfl) (by kernel_rfl) (by kernel_rfl) (fun _ _ _ h => h) (Or.inr ⟨by rfl, rfl⟩) (by assumption) ?_
  (try simp only [Act.put, List.setIfInBounds_toArray, List.set_cons_zero, List.set_cons_succ])
  refine wpAnyH_take (i := 8) (oi := ⟨_, _, _, _, _, _⟩) (v := undef) rfl (by kernel_rfl) (by kernel_rfl) (by kernel_rfl) (fun _ _ _ h => h) (Or.inr ⟨by rfl, rfl⟩) (by assumption) ?_
  (try simp only [Act.put, List.setIfInBounds_toArray, List.set_cons_zero, List.set_cons_succ])
  refine wpAnyH_take (i := 9) (oi := ⟨_, _, _, _, _, _⟩) (v := undef) rfl (by kernel_rfl) (by kernel_rfl) (by kernel_rfl) (fun _ _ _ h => h) (Or.inr ⟨by rfl, rfl⟩) (by assumption) ?_
  (try simp only [Act.put, List.setIfInBounds_toArray, List.set_cons_zero, List.set_cons_succ])
  refine wpAnyH_take (i := 10) (oi := ⟨_, _, _, _, _, _⟩) (v := undef) rfl (by kernel_rfl) (by kernel_rfl) (by kernel_rfl) (fun _ _ _ h => h) (Or.inr ⟨by rfl, rfl⟩) (by assumption) ?_
  (try simp only [Act.put, List.setIfInBounds_toArray, List.set_cons_zero, List.set_cons_succ])
  refine wpAnyH_take (i := 11) (oi := ⟨_, _, _, _, _, _⟩) (v := undef) rfl (by kernel_rfl) (by kernel_rfl) (by kernel_rfl) (fun _ _ _ h => h) (Or.inr ⟨by rfl, rfl⟩) (by assumption) ?_
  (try simp only [Act.put, List.setIfInBounds_toArray, List.set_cons_zero, List.set_cons_succ])
  refine wpAnyH_take (i := 12) (oi := ⟨_, _, _, _, _, _⟩) (v := undef) rfl (by kernel_rfl) (by kernel_rfl) (by kernel_rfl) (fun _ _ _ h => h) (Or.inr ⟨by rfl, rfl⟩) (by assumption) ?_
  (try simp only [Act.put, List.setIfInBounds_toArray, List.set_cons_zero, List.set_cons_succ])
  refine wpAnyH_take (i := 13) (oi := ⟨_, _, _, _, _, _⟩) (v := ?v945) rfl (by kernel_rfl) (by kernel_rfl) (by kernel_rfl) (fun _ _ _ h => h) (Or.inl ⟨by rfl, ?hy945⟩) (by assumption) ?_
  case hy945 => (intro w hSw; (try dsimp only at hSw); go_simp; (try (with_reducible rfl)))
  (try simp only [Act.put, List.setIfInBounds_toArray, List.set_cons_zero, List.set_cons_succ])
  refine wpAnyH_take (i := 14) (oi := ⟨_, _, _, _, _, _⟩) (v := ?v946) rfl (by kernel_rfl) (by kernel_rfl) (by kernel_rfl) (fun _ _ _ h => h) (Or.inl ⟨by rfl, ?hy946⟩) (by assumption) ?_
  case hy946 => (intro w hSw; (try dsimp only at hSw); go_simp; (try (with_reducible rfl)))
  (try simp only [Act.put, List.setIfInBounds_toArray, List.set_cons_zero, List.set_cons_succ])
  refine wpAnyH_take (i := 15) (oi := ⟨_, _, _, _, _, _⟩) (v := ?v947) rfl (by kernel_rfl) (by kernel_rfl) (by kernel_rfl) (fun _ _ _ h => h) (Or.inl ⟨by rfl, ?hy947⟩) (by assumption) ?_
  case hy947 => (intro w hSw; (try dsimp only at hSw); go_simp; (try (with_reducible rfl)))
  (try simp only [Act.put, List.setIfInBounds_toArray, List.set_cons_zero, List.set_cons_succ])
  refine wpAnyH_take (i := 16) (oi := ⟨_, _, _, _, _, _⟩) (v := ?v948) rfl (by kernel_rfl) (by kernel_rfl) (by kernel_rfl) (fun _ _ _ h => h) (Or.inl ⟨by rfl, ?hy948⟩) (by assumption) ?_
  case hy948 => (intro w hSw; (try dsimp only at hSw); go_simp; (try (with_reducible rfl)))
  (try simp only [Act.put, List.setIfInBounds_toArray, List.set_cons_zero, List.set_cons_succ])
  refine wpAnyH_take (i := 17) (oi := ⟨_, _, _, _, _, _⟩) (v := ?v949) rfl (by kernel_rfl) (by kernel_rfl) (by kernel_rfl) (fun _ _ _ h => h) (Or.inl ⟨by rfl, ?hy949⟩) (by assumption) ?_
  case hy949 => (intro w hSw; (try dsimp only at hSw); go_simp; (try (with_reducible rfl)))
  (try simp only [Act.put, List.setIfInBounds_toArray, List.set_cons_zero, List.set_cons_succ])
  refine wpAnyH_take (i := 18) (oi := ⟨_, _, _, _, _, _⟩) (v := ?v950) rfl (by kernel_rfl) (by kernel_rfl) (by kernel_rfl) (fun _ _ _ h => h) (Or.inl ⟨by rfl, ?hy950⟩) (by assumption) ?_
  case hy950 => (intro w hSw; (try dsimp only at hSw); go_simp; (try (with_reducible rfl)))
  (try simp only [Act.put, List.setIfInBounds_toArray, List.set_cons_zero, List.set_cons_succ])
  refine wpAnyH_done (by kernel_rfl) ?_ _
  (try clear hHeld)
  (repeat clear ‹Up w _ ∧ _›)
  go_upto_region 9 with fail
  refine (show ∀ W2 : World, W2 = _ → Code.wp _ _ _ _ W2 from fun W2 hW2 => ?_) _ rfl
  have U2 := Lib.hid (show Up w W2 by rw [hW2]; exact (HU1.out.setCell (Nat.le_refl _) _).drew)
  have b0 : W2.cell? ⟨w.heap.size, 0, none⟩ = some (.int .i64 g) := by rw [hW2]; simp [go_sem, c00]
  have b1 : W2.cell? ⟨w.heap.size, 1, none⟩ = some (.int .i64 v) := by rw [hW2]; simp [go_sem, c01]
  have b2 : W2.cell? ⟨w.heap.size, 2, none⟩ = some (.int .i64 q) := by rw [hW2]; simp [go_sem, c02]
  have b3 : W2.cell? ⟨w.heap.size, 3, none⟩ = some (.int .i64 c) := by rw [hW2]; simp [go_sem, c03]
  have b4 : W2.cell? ⟨w.heap.size, 4, none⟩ = some (.int .i64 now) := by rw [hW2]; simp [go_sem, c04]
  have b5 : W2.cell? ⟨w.heap.size, 5, none⟩ = some (.int .i64 (seq + 1)) := by rw [hW2]; simp [go_sem, c05]
  have b6 : W2.cell? ⟨w.heap.size, 6, none⟩ = some (.slice A n k) := by rw [hW2]; simp [go_sem, c06]
  have r0 : W2.cell? ⟨w.heap.size + 1, 0, none⟩ = some (.int .i64 0) := by rw [hW2]; simp [go_sem, c10]
  have r1 : W2.cell? ⟨w.heap.size + 1, 1, none⟩ = some (.int .i64 0) := by rw [hW2]; simp [go_sem, c11]
  have r2 : W2.cell? ⟨w.heap.size + 1, 2, none⟩ = some (.int .i64 0) := by rw [hW2]; simp [go_sem, c12]
  have r3 : W2.cell? ⟨w.heap.size + 1, 3, none⟩ = some (.int .i64 0) := by rw [hW2]; simp [go_sem, c13]
  have r4 : W2.cell? ⟨w.heap.size + 1, 4, none⟩ = some (.int .i64 0) := by rw [hW2]; simp [go_sem, c14]
  have r5 : W2.cell? ⟨w.heap.size + 1, 5, none⟩ = some (.int .i64 0) := by rw [hW2]; simp [go_sem, c15]
  have r6 : W2.cell? ⟨w.heap.size + 1, 6, none⟩ = some (.slice none 0 0) := by rw [hW2]; simp [go_sem, c16]
  clear hW2 HU1
  (try clear KV KI)
  clear hlt hlt0 c00 c01 c02 c03 c04 c05 c06 c10 c11 c12 c13 c14 c15 c16 z00 z01 z02 z03 z04 z05 z06 z10 z11 z12 z13 z14 z15 z16
  have HSS : Hid (Up w W2 ∧ W2.cell? ⟨w.heap.size, 0, none⟩ = some (.int .i64 g) ∧ W2.cell? ⟨w.heap.size, 1, none⟩ = some (.int .i64 v) ∧ W2.cell? ⟨w.heap.size, 2, none⟩ = some (.int .i64 q) ∧ W2.cell? ⟨w.heap.size, 3, none⟩ = some (.int .i64 c) ∧ W2.cell? ⟨w.heap.size, 4, none⟩ = some (.int .i64 now) ∧ W2.cell? ⟨w.heap.size, 5, none⟩ = some (.int .i64 (seq + 1)) ∧ W2.cell? ⟨w.heap.size, 6, none⟩ = some (.slice A n k) ∧ W2.cell? ⟨(w.heap.size + 1), 0, none⟩ = some (.int .i64 0) ∧ W2.cell? ⟨(w.heap.size + 1), 1, none⟩ = some (.int .i64 0) ∧ W2.cell? ⟨(w.heap.size + 1), 2, none⟩ = some (.int .i64 0) ∧ W2.cell? ⟨(w.heap.size + 1), 3, none⟩ = some (.int .i64 0) ∧ W2.cell? ⟨(w.heap.size + 1), 4, none⟩ = some (.int .i64 0) ∧ W2.cell? ⟨(w.heap.size + 1), 5, none⟩ = some (.int .i64 0) ∧ W2.cell? ⟨(w.heap.size + 1), 6, none⟩ = some (.slice none 0 0)) := Lib.hid ⟨U2.out, b0, b1, b2, b3, b4, b5, b6, r0, r1, r2, r3, r4, r5, r6⟩
  clear b0 b1 b2 b3 b4 b5 b6 r0 r1 r2 r3 r4 r5 r6
  go_wp2_with fail
  refine wp_region_held_drew (S := fun w' => Up w w' ∧ w'.cell? ⟨w.heap.size, 0, none⟩ = some (.int .i64 g) ∧ w'.cell? ⟨w.heap.size, 1, none⟩ = some (.int .i64 v) ∧ w'.cell? ⟨w.heap.size, 2, none⟩ = some (.int .i64 q) ∧ w'.cell? ⟨w.heap.size, 3, none⟩ = some (.int .i64 c) ∧ w'.cell? ⟨w.heap.size, 4, none⟩ = some (.int .i64 now) ∧ w'.cell? ⟨w.heap.size, 5, none⟩ = some (.int .i64 (seq + 1)) ∧ w'.cell? ⟨w.heap.size, 6, none⟩ = some (.slice A n k) ∧ w'.cell? ⟨(w.heap.size + 1), 0, none⟩ = some (.int .i64 0) ∧ w'.cell? ⟨(w.heap.size + 1), 1, none⟩ = some (.int .i64 0) ∧ w'.cell? ⟨(w.heap.size + 1), 2, none⟩ = some (.int .i64 0) ∧ w'.cell? ⟨(w.heap.size + 1), 3, none⟩ = some (.int .i64 0) ∧ w'.cell? ⟨(w.heap.size + 1), 4, none⟩ = some (.int .i64 0) ∧ w'.cell? ⟨(w.heap.size + 1), 5, none⟩ = some (.int .i64 0) ∧ w'.cell? ⟨(w.heap.size + 1), 6, none⟩ = some (.slice none 0 0)) (by kernel_rfl) ?hB1005 (fun hHeld => ?_)
  case hB1005 => (first | (with_reducible assumption) | (with_reducible exact keepK14 (Lib.hid (Up.refl _).drew) HSS.out) | (with_reducible exact HX3.out))
  refine wpAnyH_take (i := 0) (oi := ⟨_, _, _, _, _, _⟩) (v := ?v1006) rfl (by kernel_rfl) (by kernel_rfl) (by kernel_rfl) (fun _ _ _ h => h) (Or.inl ⟨by rfl, ?hy1006⟩) (by assumption) ?_
  case hy1006 => (intro w hSw; (try dsimp only at hSw); go_simp; (try (with_reducible rfl)))
  (try simp only [Act.put, List.setIfInBounds_toArray, List.set_cons_zero, List.set_cons_succ])
  refine wpAnyH_take (i := 1) (oi := ⟨_, _, _, _, _, _⟩) (v := ?v1007) rfl (by kernel_rfl) (by kernel_rfl) (by kernel_rfl) (fun _ _ _ h => h) (Or.inl ⟨by rfl, ?hy1007⟩) (by assumption) ?_
  case hy1007 => (intro w hSw; (try dsimp only at hSw); go_simp; (try (with_reducible rfl)))
  (try simp only [Act.put, List.setIfInBounds_toArray, List.set_cons_zero, List.set_cons_succ])
  refine wpAnyH_take (i := 2) (oi := ⟨_, _, _, _, _, _⟩) (v := ?v1008) rfl (by kernel_rfl) (by kernel_rfl) (by kernel_rfl) (fun _ _ _ h => h) (Or.inl ⟨by rfl, ?hy1008⟩) (by assumption) ?_
  case hy1008 => (intro w hSw; (try dsimp only at hSw); go_simp; (try (with_reducible rfl)))
  (try simp only [Act.put, List.setIfInBounds_toArray, List.set_cons_zero, List.set_cons_succ])
  refine wpAnyH_take (i := 3) (oi := ⟨_, _, _, _, _, _⟩) (v := ?v1009) rfl (by kernel_rfl) (by kernel_rfl) (by kernel_rfl) (fun _ _ _ h => h) (Or.inl ⟨by rfl, ?hy1009⟩) (by assumption) ?_
  case hy1009 => (intro w hSw; (try dsimp only at hSw); go_simp; (try (with_reducible rfl)))
  (try simp only [Act.put, List.setIfInBounds_toArray, List.set_cons_zero, List.set_cons_succ])
  refine wpAnyH_take (i := 4) (oi := ⟨_, _, _, _, _, _⟩) (v := ?v1010) rfl (by kernel_rfl) (by kernel_rfl) (by kernel_rfl) (fun _ _ _ h => h) (Or.inl ⟨by rfl, ?hy1010⟩) (by assumption) ?_
  case hy1010 => (intro w hSw; (try dsimp only at hSw); go_simp; (try (with_reducible rfl)))
  (try simp only [Act.put, List.setIfInBounds_toArray, List.set_cons_zero, List.set_cons_succ])
  refine wpAnyH_take (i := 5) (oi := ⟨_, _, _, _, _, _⟩) (v := ?v1011) rfl (by kernel_rfl) (by kernel_rfl) (by kernel_rfl) (fun _ _ _ h => h) (Or.inl ⟨by rfl, ?hy1011⟩) (by assumption) ?_
  case hy1011 => (intro w hSw; (try dsimp only at hSw); go_simp; (try (with_reducible rfl)))
  (try simp only [Act.put, List.setIfInBounds_toArray, List.set_cons_zero, List.set_cons_succ])
  refine wpAnyH_take (i := 6) (oi := ⟨_, _, _, _, _, _⟩) (v := ?v1012) rfl (by kernel_rfl) (by kernel_rfl) (by kernel_rfl) (fun _ _ _ h => h) (Or.inl ⟨by rfl, ?hy1012⟩) (by assumption) ?_
  case hy1012 => (intro w hSw; (try dsimp only at hSw); go_simp; (try (with_reducible rfl)))
  (try simp only [Act.put, List.setIfInBounds_toArray, List.set_cons_zero, List.set_cons_succ])
  refine wpAnyH_take (i := 8) (oi := ⟨_, _, _, _, _, _⟩) (v := ?v1013) rfl (by kernel_rfl) (by kernel_rfl) (by kernel_rfl) (fun _ _ _ h => h) (Or.inl ⟨by rfl, ?hy1013⟩) (by assumption) ?_
  case hy1013 => (intro w hSw; (try dsimp only at hSw); go_simp; (try (with_reducible rfl)))
  (try simp only [Act.put, List.setIfInBounds_toArray, List.set_cons_zero, List.set_cons_succ])
  refine wpAnyH_take (i := 9) (oi := ⟨_, _, _, _, _, _⟩) (v := ?v1014) rfl (by kernel_rfl) (by kernel_rfl) (by kernel_rfl) (fun _ _ _ h => h) (Or.inl ⟨by rfl, ?hy1014⟩) (by assumption) ?_
  case hy1014 => (intro w hSw; (try dsimp only at hSw); go_simp; (try (with_reducible rfl)))
  (try simp only [Act.put, List.setIfInBounds_toArray, List.set_cons_zero, List.set_cons_succ])
  refine wpAnyH_ready (rs := [7]) (by kernel_rfl) (by simp) ?_
  refine AllReadyH.cons (o := ⟨_, _, _, _, _, _⟩) rfl (fun K hK => ?_) AllReadyH.nil
  go_simp
  (go_at_call 59; (with_reducible refine (KE.out _ U2.out.drew).mono ?_); rintro e w3 ⟨A3, k3, rfl, hk3, hnw, hu, hM⟩; have HM3 := Lib.hid hM; have hltW := World.block_lt_of_cell? _ _ hHeld.2.2.2.2.2.2.2.2.1; have HNW : Hid (∀ b_ o_, A3 = some ⟨b_, o_, none⟩ → w.heap.size + 1 < b_) := Lib.hid (fun b_ o_ h_ => Nat.lt_of_lt_of_le hltW (hnw b_ o_ h_)); clear hltW; have HX3 := Lib.hid (keepK14 (Lib.hid hu) hHeld); clear hu hM hnw)
  (try go_wp2_with fail)
  refine hK.out _ _ ?hB1015 (fun hHeld => ?_)
  case hB1015 => (first | (with_reducible assumption) | (with_reducible exact keepK14 (Lib.hid (Up.refl _).drew) HSS.out) | (with_reducible exact HX3.out))
  clear hK K
  (try simp only [Act.put, List.setIfInBounds_toArray, List.set_cons_zero, List.set_cons_succ])
  refine wpAnyH_take (i := 10) (oi := ⟨_, _, _, _, _, _⟩) (v := ?v1016) rfl (by kernel_rfl) (by kernel_rfl) (by kernel_rfl) (fun _ _ _ h => h) (Or.inl ⟨by rfl, ?hy1016⟩) (by assumption) ?_
  case hy1016 => (intro w hSw; (try dsimp only at hSw); go_simp; (try (with_reducible rfl)))
  (try simp only [Act.put, List.setIfInBounds_toArray, List.set_cons_zero, List.set_cons_succ])
  refine wpAnyH_take (i := 11) (oi := ⟨_, _, _, _, _, _⟩) (v := ?v1017) rfl (by kernel_rfl) (by kernel_rfl) (by kernel_rfl) (fun _ _ _ h => h) (Or.inl ⟨by rfl, ?hy1017⟩) (by assumption) ?_
  case hy1017 => (intro w hSw; (try dsimp only at hSw); go_simp; (try (with_reducible rfl)))
  (try simp only [Act.put, List.setIfInBounds_toArray, List.set_cons_zero, List.set_cons_succ])
  refine wpAnyH_done (by kernel_rfl) ?_ _
  clear hHeld HSS
  have HX := HX3
  clear HX3
  go_wp2_with fail
  go_loopw [7, 9] (fun t7 t9 wr => ∃ (i m kk : Nat) (B : Option Addr) (R : List Mrk), t7 = .slice B m kk ∧ t9 = .int .i64 i ∧ i ≤ m ∧ m ≤ kk ∧ m ≤ n + 1 ∧ Hid (SG cM wr B m R) ∧ Hid (∀ x ∈ R, bdG g x) ∧ Hid (R.take i ++ prL (clM g q) (m - i) (R.drop i) = Z) ∧ Hid (∀ b_ o_, B = some ⟨b_, o_, none⟩ → w.heap.size + 1 < b_) ∧ Hid (Up w3 wr)) (fun t7 t9 _ => lnS t7 - (intOf t9).toNat)
  case atStart => exact ⟨0, n + 1, k3, A3, M3, rfl, rfl, Nat.zero_le _, hk3, Nat.le_refl _, HM3, HI2, Lib.hid (by rw [← HZ.out]; rfl), HNW, Lib.hid (Up.refl _)⟩
  case round =>
    obtain ⟨wo, hwo⟩ : ∃ x, x = wr := ⟨_, rfl⟩
    subst hwo
    obtain ⟨i, m, kk, B, R, rfl, rfl, him, hmk, hmn, HR, HB, HZr, HN, HW⟩ := hrel
    by_cases hi : i < m
    · obtain ⟨b, o, rfl, _⟩ := mrk_at HR.out mk0 hi
      have hRl := Lib.hid HR.out.1
      have f30 : (0 : Int) ≤ i := by omega
      have fi : (i : Int) < m := by omega
      have HBi := Lib.hid (HB.out _ (getD_mem (by rw [hRl.out]; exact hi)))
      have HNO : Hid ((∀ p, i < p → p < m → clM g q (R.getD i mk0) (R.getD p mk0) = false) → R.take (i + 1) ++ prL (clM g q) (m - (i + 1)) (R.drop (i + 1)) = Z) := Lib.hid (fun h => rprune_no hRl.out hi HZr.out h)
      have HYS : Hid (∀ j, i < j → j < m → clM g q (R.getD i mk0) (R.getD j mk0) = true → (∀ p, j < p → p < m → clM g q (R.getD i mk0) (R.getD p mk0) = false) → (R.take (i + 1) ++ R.drop j).take (i + 1) ++ prL (clM g q) (i + 1 + (m - j) - (i + 1)) ((R.take (i + 1) ++ R.drop j).drop (i + 1)) = Z) := Lib.hid (fun j h1 h2 h3 h4 => rprune_yes hRl.out h1 h2 HZr.out h3 h4)
      have HCI := Lib.hid (fun W (h : Up wo W) => mrk_prev (HR.out.up h) hi)
      have cg := HW.out.keep _ _ _ HX.out.2.1
      generalize hMi : R.getD i mk0 = Mi at *
      have hMi := Lib.hid hMi
      obtain ⟨sq1, t1, nn1, s1, qq1, lo1, hi1⟩ := Mi
      simp only at HCI
      have w7_ : IntKind.i64.wrap ((i : Int) + 1) = (i : Int) + 1 := by rw [IntKind.wrap_i64]; omega
      clear HZr
      go_wp2_with fail
      go_loopw [10, 11] (fun t10 t11 wr => ∃ j nx : Nat, t10 = .int .i64 j ∧ t11 = .int .i64 nx ∧ i ≤ j ∧ j < nx ∧ nx ≤ m ∧ Hid (i < j → clM g q ⟨sq1, t1, nn1, s1, qq1, lo1, hi1⟩ (R.getD j mk0) = true) ∧ Hid (∀ p, j < p → p < nx → clM g q ⟨sq1, t1, nn1, s1, qq1, lo1, hi1⟩ (R.getD p mk0) = false) ∧ Hid (Up wo wr)) (fun _ t _ => m - (intOf t).toNat)
      case atStart => exact ⟨i, i + 1, rfl, by go_num, Nat.le_refl _, by omega, by omega, Lib.hid (fun h => absurd h (Nat.lt_irrefl _)), Lib.hid (fun p h1 h2 => absurd h1 (by omega)), Lib.hid (Up.refl _)⟩
      case round =>
        obtain ⟨j, nx, rfl, rfl, hij, hjn, hnm, HC, HF, HV⟩ := hrel
        have f31 : (0 : Int) ≤ nx := by omega
        have f32 : (0 : Int) ≤ j := by omega
        by_cases hx : nx < m
        · have fx : (nx : Int) < m := by omega
          obtain ⟨x0, x1, x2, x3, x4, x5, x6⟩ := mrk_prev (HR.out.up HV.out) hx
          obtain ⟨d0, d1, d2, d3, d4, d5, d6⟩ := HCI.out _ HV.out
          have HBn := Lib.hid (HB.out _ (getD_mem (by rw [hRl.out]; exact hx)))
          generalize hMn : R.getD nx mk0 = Mn at *
          have hMn := Lib.hid hMn
          obtain ⟨sq, t, nn, s, qq, lo, hi⟩ := Mn
          simp only at x0 x1 x2 x3 x4 x5 x6
          have HSS : Hid (Up wo wr ∧ wr.cell? ⟨w.heap.size, 0, none⟩ = some (.int .i64 g) ∧ wr.cell? ⟨b, o + i * 7, none⟩ = some (.int .i64 sq1) ∧ wr.cell? ⟨b, o + i * 7 + 1, none⟩ = some (.int .i64 t1) ∧ wr.cell? ⟨b, o + i * 7 + 2, none⟩ = some (.int .i64 nn1) ∧ wr.cell? ⟨b, o + i * 7 + 3, none⟩ = some (.int .i64 s1) ∧ wr.cell? ⟨b, o + i * 7 + 4, none⟩ = some (.int .i64 qq1) ∧ wr.cell? ⟨b, o + i * 7 + 5, none⟩ = some (.int .i64 lo1) ∧ wr.cell? ⟨b, o + i * 7 + 6, none⟩ = some (.int .i64 hi1) ∧ wr.cell? ⟨b, o + nx * 7, none⟩ = some (.int .i64 sq) ∧ wr.cell? ⟨b, o + nx * 7 + 1, none⟩ = some (.int .i64 t) ∧ wr.cell? ⟨b, o + nx * 7 + 2, none⟩ = some (.int .i64 nn) ∧ wr.cell? ⟨b, o + nx * 7 + 3, none⟩ = some (.int .i64 s) ∧ wr.cell? ⟨b, o + nx * 7 + 4, none⟩ = some (.int .i64 qq) ∧ wr.cell? ⟨b, o + nx * 7 + 5, none⟩ = some (.int .i64 lo) ∧ wr.cell? ⟨b, o + nx * 7 + 6, none⟩ = some (.int .i64 hi)) := Lib.hid ⟨HV.out, HV.out.keep _ _ _ cg, d0, d1, d2, d3, d4, d5, d6, x0, x1, x2, x3, x4, x5, x6⟩
          clear d0 d1 d2 d3 d4 d5 d6 x0 x1 x2 x3 x4 x5 x6
          have BP_ := HBi.out
          have BM_ := HBn.out
          have K1 := Lib.hid (rof13_up g sq t nn s qq lo hi BM_.2.1 BM_.2.2)
          have K2 := Lib.hid (rof13_up g sq1 t1 nn1 s1 qq1 lo1 hi1 BP_.2.1 BP_.2.2)
          have Z1 := (near_in HQ.out BP_.1.1 BP_.1.2).1
          have Z2 := (near_in HQ.out BM_.1.1 BM_.1.2).2
          have v1_ : IntKind.i64.wrap (q * ofZ g ⟨sq1, t1, nn1, s1, qq1, lo1, hi1⟩) = q * ofZ g ⟨sq1, t1, nn1, s1, qq1, lo1, hi1⟩ := by rw [IntKind.wrap_i64]; omega
          have v2_ : IntKind.i64.wrap ((q + 1) * ofZ g ⟨sq, t, nn, s, qq, lo, hi⟩) = (q + 1) * ofZ g ⟨sq, t, nn, s, qq, lo, hi⟩ := by rw [IntKind.wrap_i64]; omega
          clear Z1 Z2 BP_ BM_
          cases hk : clM g q ⟨sq1, t1, nn1, s1, qq1, lo1, hi1⟩ ⟨sq, t, nn, s, qq, lo, hi⟩ with
          | false =>
            have HF2 : Hid (∀ p, j < p → p < nx + 1 → clM g q ⟨sq1, t1, nn1, s1, qq1, lo1, hi1⟩ (R.getD p mk0) = false) := Lib.hid (fun p h1 h2 => by
              rcases Nat.lt_or_ge p nx with hp | hp
              · exact HF.out p h1 hp
              · obtain rfl : p = nx := by omega
                rw [hMn.out]; exact hk)
            have tk := of_decide_eq_false hk
            clear hk HF HBn hMn HNO HYS HCI
            generalize ofZ g ⟨sq1, t1, nn1, s1, qq1, lo1, hi1⟩ = x at *
            generalize ofZ g ⟨sq, t, nn, s, qq, lo, hi⟩ = y at *
            have tk : decide (q * x ≤ (q + 1) * y) = false := decide_eq_false tk
            go_wp2_with fail
            refine wp_region_held_drew (S := fun w' => Up wo w' ∧ w'.cell? ⟨w.heap.size, 0, none⟩ = some (.int .i64 g) ∧ w'.cell? ⟨b, o + i * 7, none⟩ = some (.int .i64 sq1) ∧ w'.cell? ⟨b, o + i * 7 + 1, none⟩ = some (.int .i64 t1) ∧ w'.cell? ⟨b, o + i * 7 + 2, none⟩ = some (.int .i64 nn1) ∧ w'.cell? ⟨b, o + i * 7 + 3, none⟩ = some (.int .i64 s1) ∧ w'.cell? ⟨b, o + i * 7 + 4, none⟩ = some (.int .i64 qq1) ∧ w'.cell? ⟨b, o + i * 7 + 5, none⟩ = some (.int .i64 lo1) ∧ w'.cell? ⟨b, o + i * 7 + 6, none⟩ = some (.int .i64 hi1) ∧ w'.cell? ⟨b, o + nx * 7, none⟩ = some (.int .i64 sq) ∧ w'.cell? ⟨b, o + nx * 7 + 1, none⟩ = some (.int .i64 t) ∧ w'.cell? ⟨b, o + nx * 7 + 2, none⟩ = some (.int .i64 nn) ∧ w'.cell? ⟨b, o + nx * 7 + 3, none⟩ = some (.int .i64 s) ∧ w'.cell? ⟨b, o + nx * 7 + 4, none⟩ = some (.int .i64 qq) ∧ w'.cell? ⟨b, o + nx * 7 + 5, none⟩ = some (.int .i64 lo) ∧ w'.cell? ⟨b, o + nx * 7 + 6, none⟩ = some (.int .i64 hi)) (by kernel_rfl) ?hB951 (fun hHeld => ?_)
            case hB951 => (first | (with_reducible assumption) | (with_reducible exact keepK15 (Lib.hid (Up.refl _).drew) HSS.out) | (with_reducible exact HX4.out) | (with_reducible exact HX5.out))
            refine wpAnyH_take (i := 0) (oi := ⟨_, _, _, _, _, _⟩) (v := ?v952) rfl (by kernel_rfl) (by kernel_rfl) (by kernel_rfl) (fun _ _ _ h => h) (Or.inl ⟨by rfl, ?hy952⟩) (by assumption) ?_
            case hy952 => (intro w hSw; (try dsimp only at hSw); go_simp; (try (with_reducible rfl)))
            (try simp only [Act.put, List.setIfInBounds_toArray, List.set_cons_zero, List.set_cons_succ])
            refine wpAnyH_take (i := 1) (oi := ⟨_, _, _, _, _, _⟩) (v := ?v953) rfl (by kernel_rfl) (by kernel_rfl) (by kernel_rfl) (fun _ _ _ h => h) (Or.inl ⟨by rfl, ?hy953⟩) (by assumption) ?_
            case hy953 => (intro w hSw; (try dsimp only at hSw); go_simp; (try (with_reducible rfl)))
            (try simp only [Act.put, List.setIfInBounds_toArray, List.set_cons_zero, List.set_cons_succ])
            refine wpAnyH_take (i := 2) (oi := ⟨_, _, _, _, _, _⟩) (v := ?v954) rfl (by kernel_rfl) (by kernel_rfl) (by kernel_rfl) (fun _ _ _ h => h) (Or.inl ⟨by rfl, ?hy954⟩) (by assumption) ?_
            case hy954 => (intro w hSw; (try dsimp only at hSw); go_simp; (try (with_reducible rfl)))
            (try simp only [Act.put, List.setIfInBounds_toArray, List.set_cons_zero, List.set_cons_succ])
            refine wpAnyH_take (i := 3) (oi := ⟨_, _, _, _, _, _⟩) (v := ?v955) rfl (by kernel_rfl) (by kernel_rfl) (by kernel_rfl) (fun _ _ _ h => h) (Or.inl ⟨by rfl, ?hy955⟩) (by assumption) ?_
            case hy955 => (intro w hSw; (try dsimp only at hSw); go_simp; (try (with_reducible rfl)))
            (try simp only [Act.put, List.setIfInBounds_toArray, List.set_cons_zero, List.set_cons_succ])
            refine wpAnyH_take (i := 4) (oi := ⟨_, _, _, _, _, _⟩) (v := ?v956) rfl (by kernel_rfl) (by kernel_rfl) (by kernel_rfl) (fun _ _ _ h => h) (Or.inl ⟨by rfl, ?hy956⟩) (by assumption) ?_
            case hy956 => (intro w hSw; (try dsimp only at hSw); go_simp; (try (with_reducible rfl)))
            (try simp only [Act.put, List.setIfInBounds_toArray, List.set_cons_zero, List.set_cons_succ])
            refine wpAnyH_take (i := 5) (oi := ⟨_, _, _, _, _, _⟩) (v := ?v957) rfl (by kernel_rfl) (by kernel_rfl) (by kernel_rfl) (fun _ _ _ h => h) (Or.inl ⟨by rfl, ?hy957⟩) (by assumption) ?_
            case hy957 => (intro w hSw; (try dsimp only at hSw); go_simp; (try (with_reducible rfl)))
            (try simp only [Act.put, List.setIfInBounds_toArray, List.set_cons_zero, List.set_cons_succ])
            refine wpAnyH_take (i := 6) (oi := ⟨_, _, _, _, _, _⟩) (v := ?v958) rfl (by kernel_rfl) (by kernel_rfl) (by kernel_rfl) (fun _ _ _ h => h) (Or.inl ⟨by rfl, ?hy958⟩) (by assumption) ?_
            case hy958 => (intro w hSw; (try dsimp only at hSw); go_simp; (try (with_reducible rfl)))
            (try simp only [Act.put, List.setIfInBounds_toArray, List.set_cons_zero, List.set_cons_succ])
            refine wpAnyH_take (i := 7) (oi := ⟨_, _, _, _, _, _⟩) (v := ?v959) rfl (by kernel_rfl) (by kernel_rfl) (by kernel_rfl) (fun _ _ _ h => h) (Or.inl ⟨by rfl, ?hy959⟩) (by assumption) ?_
            case hy959 => (intro w hSw; (try dsimp only at hSw); go_simp; (try (with_reducible rfl)))
            (try simp only [Act.put, List.setIfInBounds_toArray, List.set_cons_zero, List.set_cons_succ])
            refine wpAnyH_take (i := 10) (oi := ⟨_, _, _, _, _, _⟩) (v := ?v960) rfl (by kernel_rfl) (by kernel_rfl) (by kernel_rfl) (fun _ _ _ h => h) (Or.inl ⟨by rfl, ?hy960⟩) (by assumption) ?_
            case hy960 => (intro w hSw; (try dsimp only at hSw); go_simp; (try (with_reducible rfl)))
            (try simp only [Act.put, List.setIfInBounds_toArray, List.set_cons_zero, List.set_cons_succ])
            refine wpAnyH_take (i := 11) (oi := ⟨_, _, _, _, _, _⟩) (v := ?v961) rfl (by kernel_rfl) (by kernel_rfl) (by kernel_rfl) (fun _ _ _ h => h) (Or.inl ⟨by rfl, ?hy961⟩) (by assumption) ?_
            case hy961 => (intro w hSw; (try dsimp only at hSw); go_simp; (try (with_reducible rfl)))
            (try simp only [Act.put, List.setIfInBounds_toArray, List.set_cons_zero, List.set_cons_succ])
            refine wpAnyH_take (i := 12) (oi := ⟨_, _, _, _, _, _⟩) (v := ?v962) rfl (by kernel_rfl) (by kernel_rfl) (by kernel_rfl) (fun _ _ _ h => h) (Or.inl ⟨by rfl, ?hy962⟩) (by assumption) ?_
            case hy962 => (intro w hSw; (try dsimp only at hSw); go_simp; (try (with_reducible rfl)))
            (try simp only [Act.put, List.setIfInBounds_toArray, List.set_cons_zero, List.set_cons_succ])
            refine wpAnyH_take (i := 13) (oi := ⟨_, _, _, _, _, _⟩) (v := ?v963) rfl (by kernel_rfl) (by kernel_rfl) (by kernel_rfl) (fun _ _ _ h => h) (Or.inl ⟨by rfl, ?hy963⟩) (by assumption) ?_
            case hy963 => (intro w hSw; (try dsimp only at hSw); go_simp; (try (with_reducible rfl)))
            (try simp only [Act.put, List.setIfInBounds_toArray, List.set_cons_zero, List.set_cons_succ])
            refine wpAnyH_take (i := 14) (oi := ⟨_, _, _, _, _, _⟩) (v := ?v964) rfl (by kernel_rfl) (by kernel_rfl) (by kernel_rfl) (fun _ _ _ h => h) (Or.inl ⟨by rfl, ?hy964⟩) (by assumption) ?_
            case hy964 => (intro w hSw; (try dsimp only at hSw); go_simp; (try (with_reducible rfl)))
            (try simp only [Act.put, List.setIfInBounds_toArray, List.set_cons_zero, List.set_cons_succ])
            refine wpAnyH_take (i := 15) (oi := ⟨_, _, _, _, _, _⟩) (v := ?v965) rfl (by kernel_rfl) (by kernel_rfl) (by kernel_rfl) (fun _ _ _ h => h) (Or.inl ⟨by rfl, ?hy965⟩) (by assumption) ?_
            case hy965 => (intro w hSw; (try dsimp only at hSw); go_simp; (try (with_reducible rfl)))
            (try simp only [Act.put, List.setIfInBounds_toArray, List.set_cons_zero, List.set_cons_succ])
            refine wpAnyH_take (i := 16) (oi := ⟨_, _, _, _, _, _⟩) (v := ?v966) rfl (by kernel_rfl) (by kernel_rfl) (by kernel_rfl) (fun _ _ _ h => h) (Or.inl ⟨by rfl, ?hy966⟩) (by assumption) ?_
            case hy966 => (intro w hSw; (try dsimp only at hSw); go_simp; (try (with_reducible rfl)))
            (try simp only [Act.put, List.setIfInBounds_toArray, List.set_cons_zero, List.set_cons_succ])
            refine wpAnyH_ready (rs := [8]) (by kernel_rfl) (by simp) ?_
            refine AllReadyH.cons (o := ⟨_, _, _, _, _, _⟩) rfl (fun K hK => ?_) AllReadyH.nil
            go_simp
            (go_at_call 14; (with_reducible refine (K1.out _).mono ?_); rintro e w4 ⟨rfl, hu⟩; have HU4 := Lib.hid hu; have HX4 := Lib.hid (keepK15 HU4 hHeld); clear hu)
            (try go_wp2_with fail)
            refine hK.out _ _ ?hB967 (fun hHeld => ?_)
            case hB967 => (first | (with_reducible assumption) | (with_reducible exact keepK15 (Lib.hid (Up.refl _).drew) HSS.out) | (with_reducible exact HX4.out) | (with_reducible exact HX5.out))
            clear hK K
            (try simp only [Act.put, List.setIfInBounds_toArray, List.set_cons_zero, List.set_cons_succ])
            refine wpAnyH_take (i := 9) (oi := ⟨_, _, _, _, _, _⟩) (v := ?v968) rfl (by kernel_rfl) (by kernel_rfl) (by kernel_rfl) (fun _ _ _ h => h) (Or.inl ⟨by rfl, ?hy968⟩) (by assumption) ?_
            case hy968 => (intro w hSw; (try dsimp only at hSw); go_simp; (try (with_reducible rfl)))
            (try simp only [Act.put, List.setIfInBounds_toArray, List.set_cons_zero, List.set_cons_succ])
            refine wpAnyH_ready (rs := [17]) (by kernel_rfl) (by simp) ?_
            refine AllReadyH.cons (o := ⟨_, _, _, _, _, _⟩) rfl (fun K hK => ?_) AllReadyH.nil
            go_simp
            (go_at_call 14; (with_reducible refine (K2.out _).mono ?_); rintro e w5 ⟨rfl, hu⟩; have HU5 := Lib.hid hu; have HX5 := Lib.hid (keepK15 HU5 hHeld); clear hu)
            (try go_wp2_with fail)
            refine hK.out _ _ ?hB969 (fun hHeld => ?_)
            case hB969 => (first | (with_reducible assumption) | (with_reducible exact keepK15 (Lib.hid (Up.refl _).drew) HSS.out) | (with_reducible exact HX4.out) | (with_reducible exact HX5.out))
            clear hK K
            (try simp only [Act.put, List.setIfInBounds_toArray, List.set_cons_zero, List.set_cons_succ])
            refine wpAnyH_take (i := 18) (oi := ⟨_, _, _, _, _, _⟩) (v := ?v970) rfl (by kernel_rfl) (by kernel_rfl) (by kernel_rfl) (fun _ _ _ h => h) (Or.inl ⟨by rfl, ?hy970⟩) (by assumption) ?_
            case hy970 => (intro w hSw; (try dsimp only at hSw); go_simp; (try (with_reducible rfl)))
            (try simp only [Act.put, List.setIfInBounds_toArray, List.set_cons_zero, List.set_cons_succ])
            refine wpAnyH_take (i := 19) (oi := ⟨_, _, _, _, _, _⟩) (v := ?v971) rfl (by kernel_rfl) (by kernel_rfl) (by kernel_rfl) (fun _ _ _ h => h) (Or.inl ⟨by rfl, ?hy971⟩) (by assumption) ?_
            case hy971 => (intro w hSw; (try dsimp only at hSw); go_simp; (try (with_reducible rfl)))
            (try simp only [Act.put, List.setIfInBounds_toArray, List.set_cons_zero, List.set_cons_succ])
            refine wpAnyH_done (by kernel_rfl) ?_ _
            have UX := Lib.hid hHeld.1
            (repeat clear ‹Up wo _ ∧ _›)
            go_wp2_with fail
            go_roundw
            case rel => exact ⟨j, nx + 1, rfl, by go_num, hij, by omega, by omega, HC, HF2, UX⟩
            case measure => simp [intOf]; omega
          | true =>
            have HC2 : Hid (i < nx → clM g q ⟨sq1, t1, nn1, s1, qq1, lo1, hi1⟩ (R.getD nx mk0) = true) := Lib.hid (fun _ => by rw [hMn.out]; exact hk)
            have tk := of_decide_eq_true hk
            clear hk HF HC HBn hMn HNO HYS HCI
            generalize ofZ g ⟨sq1, t1, nn1, s1, qq1, lo1, hi1⟩ = x at *
            generalize ofZ g ⟨sq, t, nn, s, qq, lo, hi⟩ = y at *
            have tk : decide (q * x ≤ (q + 1) * y) = true := decide_eq_true tk
            go_wp2_with fail
            refine wp_region_held_drew (S := fun w' => Up wo w' ∧ w'.cell? ⟨w.heap.size, 0, none⟩ = some (.int .i64 g) ∧ w'.cell? ⟨b, o + i * 7, none⟩ = some (.int .i64 sq1) ∧ w'.cell? ⟨b, o + i * 7 + 1, none⟩ = some (.int .i64 t1) ∧ w'.cell? ⟨b, o + i * 7 + 2, none⟩ = some (.int .i64 nn1) ∧ w'.cell? ⟨b, o + i * 7 + 3, none⟩ = some (.int .i64 s1) ∧ w'.cell? ⟨b, o + i * 7 + 4, none⟩ = some (.int .i64 qq1) ∧ w'.cell? ⟨b, o + i * 7 + 5, none⟩ = some (.int .i64 lo1) ∧ w'.cell? ⟨b, o + i * 7 + 6, none⟩ = some (.int .i64 hi1) ∧ w'.cell? ⟨b, o + nx * 7, none⟩ = some (.int .i64 sq) ∧ w'.cell? ⟨b, o + nx * 7 + 1, none⟩ = some (.int .i64 t) ∧ w'.cell? ⟨b, o + nx * 7 + 2, none⟩ = some (.int .i64 nn) ∧ w'.cell? ⟨b, o + nx * 7 + 3, none⟩ = some (.int .i64 s) ∧ w'.cell? ⟨b, o + nx * 7 + 4, none⟩ = some (.int .i64 qq) ∧ w'.cell? ⟨b, o + nx * 7 + 5, none⟩ = some (.int .i64 lo) ∧ w'.cell? ⟨b, o + nx * 7 + 6, none⟩ = some (.int .i64 hi)) (by kernel_rfl) ?hB972 (fun hHeld => ?_)
            case hB972 => (first | (with_reducible assumption) | (with_reducible exact keepK15 (Lib.hid (Up.refl _).drew) HSS.out) | (with_reducible exact HX4.out) | (with_reducible exact HX5.out))
            refine wpAnyH_take (i := 0) (oi := ⟨_, _, _, _, _, _⟩) (v := ?v973) rfl (by kernel_rfl) (by kernel_rfl) (by kernel_rfl) (fun _ _ _ h => h) (Or.inl ⟨by rfl, ?hy973⟩) (by assumption) ?_
            case hy973 => (intro w hSw; (try dsimp only at hSw); go_simp; (try (with_reducible rfl)))
            (try simp only [Act.put, List.setIfInBounds_toArray, List.set_cons_zero, List.set_cons_succ])
            refine wpAnyH_take (i := 1) (oi := ⟨_, _, _, _, _, _⟩) (v := ?v974) rfl (by kernel_rfl) (by kernel_rfl) (by kernel_rfl) (fun _ _ _ h => h) (Or.inl ⟨by rfl, ?hy974⟩) (by assumption) ?_
            case hy974 => (intro w hSw; (try dsimp only at hSw); go_simp; (try (with_reducible rfl)))
            (try simp only [Act.put, List.setIfInBounds_toArray, List.set_cons_zero, List.set_cons_succ])
            refine wpAnyH_take (i := 2) (oi := ⟨_, _, _, _, _, _⟩) (v := ?v975) rfl (by kernel_rfl) (by kernel_rfl) (by kernel_rfl) (fun _ _ _ h => h) (Or.inl ⟨by rfl, ?hy975⟩) (by assumption) ?_
            case hy975 => (intro w hSw; (try dsimp only at hSw); go_simp; (try (with_reducible rfl)))
            (try simp only [Act.put, List.setIfInBounds_toArray, List.set_cons_zero, List.set_cons_succ])
            refine wpAnyH_take (i := 3) (oi := ⟨_, _, _, _, _, _⟩) (v := ?v976) rfl (by kernel_rfl) (by kernel_rfl) (by kernel_rfl) (fun _ _ _ h => h) (Or.inl ⟨by rfl, ?hy976⟩) (by assumption) ?_
            case hy976 => (intro w hSw; (try dsimp only at hSw); go_simp; (try (with_reducible rfl)))
            (try simp only [Act.put, List.setIfInBounds_toArray, List.set_cons_zero, List.set_cons_succ])
            refine wpAnyH_take (i := 4) (oi := ⟨_, _, _, _, _, _⟩) (v := ?v977) rfl (by kernel_rfl) (by kernel_rfl) (by kernel_rfl) (fun _ _ _ h => h) (Or.inl ⟨by rfl, ?hy977⟩) (by assumption) ?_
            case hy977 => (intro w hSw; (try dsimp only at hSw); go_simp; (try (with_reducible rfl)))
            (try simp only [Act.put, List.setIfInBounds_toArray, List.set_cons_zero, List.set_cons_succ])
            refine wpAnyH_take (i := 5) (oi := ⟨_, _, _, _, _, _⟩) (v := ?v978) rfl (by kernel_rfl) (by kernel_rfl) (by kernel_rfl) (fun _ _ _ h => h) (Or.inl ⟨by rfl, ?hy978⟩) (by assumption) ?_
            case hy978 => (intro w hSw; (try dsimp only at hSw); go_simp; (try (with_reducible rfl)))
            (try simp only [Act.put, List.setIfInBounds_toArray, List.set_cons_zero, List.set_cons_succ])
            refine wpAnyH_take (i := 6) (oi := ⟨_, _, _, _, _, _⟩) (v := ?v979) rfl (by kernel_rfl) (by kernel_rfl) (by kernel_rfl) (fun _ _ _ h => h) (Or.inl ⟨by rfl, ?hy979⟩) (by assumption) ?_
            case hy979 => (intro w hSw; (try dsimp only at hSw); go_simp; (try (with_reducible rfl)))
            (try simp only [Act.put, List.setIfInBounds_toArray, List.set_cons_zero, List.set_cons_succ])
            refine wpAnyH_take (i := 7) (oi := ⟨_, _, _, _, _, _⟩) (v := ?v980) rfl (by kernel_rfl) (by kernel_rfl) (by kernel_rfl) (fun _ _ _ h => h) (Or.inl ⟨by rfl, ?hy980⟩) (by assumption) ?_
            case hy980 => (intro w hSw; (try dsimp only at hSw); go_simp; (try (with_reducible rfl)))
            (try simp only [Act.put, List.setIfInBounds_toArray, List.set_cons_zero, List.set_cons_succ])
            refine wpAnyH_take (i := 10) (oi := ⟨_, _, _, _, _, _⟩) (v := ?v981) rfl (by kernel_rfl) (by kernel_rfl) (by kernel_rfl) (fun _ _ _ h => h) (Or.inl ⟨by rfl, ?hy981⟩) (by assumption) ?_
            case hy981 => (intro w hSw; (try dsimp only at hSw); go_simp; (try (with_reducible rfl)))
            (try simp only [Act.put, List.setIfInBounds_toArray, List.set_cons_zero, List.set_cons_succ])
            refine wpAnyH_take (i := 11) (oi := ⟨_, _, _, _, _, _⟩) (v := ?v982) rfl (by kernel_rfl) (by kernel_rfl) (by kernel_rfl) (fun _ _ _ h => h) (Or.inl ⟨by rfl, ?hy982⟩) (by assumption) ?_
            case hy982 => (intro w hSw; (try dsimp only at hSw); go_simp; (try (with_reducible rfl)))
            (try simp only [Act.put, List.setIfInBounds_toArray, List.set_cons_zero, List.set_cons_succ])
            refine wpAnyH_take (i := 12) (oi := ⟨_, _, _, _, _, _⟩) (v := ?v983) rfl (by kernel_rfl) (by kernel_rfl) (by kernel_rfl) (fun _ _ _ h => h) (Or.inl ⟨by rfl, ?hy983⟩) (by assumption) ?_
            case hy983 => (intro w hSw; (try dsimp only at hSw); go_simp; (try (with_reducible rfl)))
            (try simp only [Act.put, List.setIfInBounds_toArray, List.set_cons_zero, List.set_cons_succ])
            refine wpAnyH_take (i := 13) (oi := ⟨_, _, _, _, _, _⟩) (v := ?v984) rfl (by kernel_rfl) (by kernel_rfl) (by kernel_rfl) (fun _ _ _ h => h) (Or.inl ⟨by rfl, ?hy984⟩) (by assumption) ?_
            case hy984 => (intro w hSw; (try dsimp only at hSw); go_simp; (try (with_reducible rfl)))
            (try simp only [Act.put, List.setIfInBounds_toArray, List.set_cons_zero, List.set_cons_succ])
            refine wpAnyH_take (i := 14) (oi := ⟨_, _, _, _, _, _⟩) (v := ?v985) rfl (by kernel_rfl) (by kernel_rfl) (by kernel_rfl) (fun _ _ _ h => h) (Or.inl ⟨by rfl, ?hy985⟩) (by assumption) ?_
            case hy985 => (intro w hSw; (try dsimp only at hSw); go_simp; (try (with_reducible rfl)))
            (try simp only [Act.put, List.setIfInBounds_toArray, List.set_cons_zero, List.set_cons_succ])
            refine wpAnyH_take (i := 15) (oi := ⟨_, _, _, _, _, _⟩) (v := ?v986) rfl (by kernel_rfl) (by kernel_rfl) (by kernel_rfl) (fun _ _ _ h => h) (Or.inl ⟨by rfl, ?hy986⟩) (by assumption) ?_
            case hy986 => (intro w hSw; (try dsimp only at hSw); go_simp; (try (with_reducible rfl)))
            (try simp only [Act.put, List.setIfInBounds_toArray, List.set_cons_zero, List.set_cons_succ])
            refine wpAnyH_take (i := 16) (oi := ⟨_, _, _, _, _, _⟩) (v := ?v987) rfl (by kernel_rfl) (by kernel_rfl) (by kernel_rfl) (fun _ _ _ h => h) (Or.inl ⟨by rfl, ?hy987⟩) (by assumption) ?_
            case hy987 => (intro w hSw; (try dsimp only at hSw); go_simp; (try (with_reducible rfl)))
            (try simp only [Act.put, List.setIfInBounds_toArray, List.set_cons_zero, List.set_cons_succ])
            refine wpAnyH_ready (rs := [8]) (by kernel_rfl) (by simp) ?_
            refine AllReadyH.cons (o := ⟨_, _, _, _, _, _⟩) rfl (fun K hK => ?_) AllReadyH.nil
            go_simp
            (go_at_call 14; (with_reducible refine (K1.out _).mono ?_); rintro e w4 ⟨rfl, hu⟩; have HU4 := Lib.hid hu; have HX4 := Lib.hid (keepK15 HU4 hHeld); clear hu)
            (try go_wp2_with fail)
            refine hK.out _ _ ?hB988 (fun hHeld => ?_)
            case hB988 => (first | (with_reducible assumption) | (with_reducible exact keepK15 (Lib.hid (Up.refl _).drew) HSS.out) | (with_reducible exact HX4.out) | (with_reducible exact HX5.out))
            clear hK K
            (try simp only [Act.put, List.setIfInBounds_toArray, List.set_cons_zero, List.set_cons_succ])
            refine wpAnyH_take (i := 9) (oi := ⟨_, _, _, _, _, _⟩) (v := ?v989) rfl (by kernel_rfl) (by kernel_rfl) (by kernel_rfl) (fun _ _ _ h => h) (Or.inl ⟨by rfl, ?hy989⟩) (by assumption) ?_
            case hy989 => (intro w hSw; (try dsimp only at hSw); go_simp; (try (with_reducible rfl)))
            (try simp only [Act.put, List.setIfInBounds_toArray, List.set_cons_zero, List.set_cons_succ])
            refine wpAnyH_ready (rs := [17]) (by kernel_rfl) (by simp) ?_
            refine AllReadyH.cons (o := ⟨_, _, _, _, _, _⟩) rfl (fun K hK => ?_) AllReadyH.nil
            go_simp
            (go_at_call 14; (with_reducible refine (K2.out _).mono ?_); rintro e w5 ⟨rfl, hu⟩; have HU5 := Lib.hid hu; have HX5 := Lib.hid (keepK15 HU5 hHeld); clear hu)
            (try go_wp2_with fail)
            refine hK.out _ _ ?hB990 (fun hHeld => ?_)
            case hB990 => (first | (with_reducible assumption) | (with_reducible exact keepK15 (Lib.hid (Up.refl _).drew) HSS.out) | (with_reducible exact HX4.out) | (with_reducible exact HX5.out))
            clear hK K
            (try simp only [Act.put, List.setIfInBounds_toArray, List.set_cons_zero, List.set_cons_succ])
            refine wpAnyH_take (i := 18) (oi := ⟨_, _, _, _, _, _⟩) (v := ?v991) rfl (by kernel_rfl) (by kernel_rfl) (by kernel_rfl) (fun _ _ _ h => h) (Or.inl ⟨by rfl, ?hy991⟩) (by assumption) ?_
            case hy991 => (intro w hSw; (try dsimp only at hSw); go_simp; (try (with_reducible rfl)))
            (try simp only [Act.put, List.setIfInBounds_toArray, List.set_cons_zero, List.set_cons_succ])
            refine wpAnyH_take (i := 19) (oi := ⟨_, _, _, _, _, _⟩) (v := ?v992) rfl (by kernel_rfl) (by kernel_rfl) (by kernel_rfl) (fun _ _ _ h => h) (Or.inl ⟨by rfl, ?hy992⟩) (by assumption) ?_
            case hy992 => (intro w hSw; (try dsimp only at hSw); go_simp; (try (with_reducible rfl)))
            (try simp only [Act.put, List.setIfInBounds_toArray, List.set_cons_zero, List.set_cons_succ])
            refine wpAnyH_done (by kernel_rfl) ?_ _
            have UX := Lib.hid hHeld.1
            (repeat clear ‹Up wo _ ∧ _›)
            go_wp2_with fail
            go_roundw
            case rel => exact ⟨nx, nx + 1, rfl, by go_num, by omega, by omega, by omega, HC2, Lib.hid (fun p h1 h2 => absurd h1 (by omega)), UX⟩
            case measure => simp [intOf]; omega
        · obtain rfl : nx = m := by omega
          have fx : decide ((nx : Int) < nx) = false := decide_eq_false (by omega)
          by_cases hji : i < j
          · have fj : (i : Int) < j := by omega
            have fjm : (j : Int) ≤ nx := by omega
            have HZ2 := Lib.hid (HYS.out j hji (by omega) (HC.out hji) HF.out)
            have HR1 := Lib.hid (HR.out.up HV.out)
            have HB2 : Hid (∀ x ∈ R.take (i + 1) ++ R.drop j, bdG g x) := Lib.hid (sub_bd HB.out)
            have hrun1 := sliceToM_run b o nx kk i (by omega)
            have hrun2 := sliceFromM_run b o nx kk j (by omega) (by omega)
            have HWq := Lib.hid (HW.out.trans HV.out)
            have hlq := World.block_lt_of_cell? _ _ (HWq.out.keep _ _ _ HX.out.2.2.2.2.2.2.2.2.1)
            clear HYS HNO HCI HC HF cg HB
            go_wp2_with fail
            refine wp_region_held_drew (S := fun w' => Up wr w' ∧ True) (by kernel_rfl) ?hB993 (fun hHeld => ?_)
            case hB993 => exact ⟨(Up.refl _).drew, trivial⟩
            refine wpAnyH_take (i := 1) (oi := ⟨_, _, _, _, _, _⟩) (v := ?v994) rfl (by kernel_rfl) (by kernel_rfl) (by kernel_rfl) (fun _ _ _ h => h) (Or.inl ⟨by rfl, ?hy994⟩) (by assumption) ?_
            case hy994 => (intro w hSw; (try dsimp only at hSw); go_simp; (try (with_reducible rfl)))
            (try simp only [Act.put, List.setIfInBounds_toArray, List.set_cons_zero, List.set_cons_succ])
            refine wpAnyH_take (i := 2) (oi := ⟨_, _, _, _, _, _⟩) (v := ?v995) rfl (by kernel_rfl) (by kernel_rfl) (by kernel_rfl) (fun _ _ _ h => h) (Or.inl ⟨by rfl, ?hy995⟩) (by assumption) ?_
            case hy995 => (intro w hSw; (try dsimp only at hSw); go_simp; (try (with_reducible rfl)))
            (try simp only [Act.put, List.setIfInBounds_toArray, List.set_cons_zero, List.set_cons_succ])
            refine wpAnyH_take (i := 3) (oi := ⟨_, _, _, _, _, _⟩) (v := ?v996) rfl (by kernel_rfl) (by kernel_rfl) (by kernel_rfl) (fun _ _ _ h => h) (Or.inl ⟨by rfl, ?hy996⟩) (by assumption) ?_
            case hy996 => (intro w hSw; (try dsimp only at hSw); go_simp; (try (with_reducible rfl)))
            (try simp only [Act.put, List.setIfInBounds_toArray, List.set_cons_zero, List.set_cons_succ])
            refine wpAnyH_take (i := 4) (oi := ⟨_, _, _, _, _, _⟩) (v := ?v997) rfl (by kernel_rfl) (by kernel_rfl) (by kernel_rfl) (fun _ _ _ h => h) (Or.inl ⟨by rfl, ?hy997⟩) (by assumption) ?_
            case hy997 => (intro w hSw; (try dsimp only at hSw); go_simp; (try (with_reducible rfl)))
            (try simp only [Act.put, List.setIfInBounds_toArray, List.set_cons_zero, List.set_cons_succ])
            refine wpAnyH_take (i := 6) (oi := ⟨_, _, _, _, _, _⟩) (v := ?v998) rfl (by kernel_rfl) (by kernel_rfl) (by kernel_rfl) (fun _ _ _ h => h) (Or.inl ⟨by rfl, ?hy998⟩) (by assumption) ?_
            case hy998 => (intro w hSw; (try dsimp only at hSw); go_simp; (try (with_reducible rfl)))
            (try simp only [Act.put, List.setIfInBounds_toArray, List.set_cons_zero, List.set_cons_succ])
            refine wpAnyH_take (i := 7) (oi := ⟨_, _, _, _, _, _⟩) (v := ?v999) rfl (by kernel_rfl) (by kernel_rfl) (by kernel_rfl) (fun _ _ _ h => h) (Or.inl ⟨by rfl, ?hy999⟩) (by assumption) ?_
            case hy999 => (intro w hSw; (try dsimp only at hSw); go_simp; (try (with_reducible rfl)))
            (try simp only [Act.put, List.setIfInBounds_toArray, List.set_cons_zero, List.set_cons_succ])
            refine wpAnyH_take (i := 8) (oi := ⟨_, _, _, _, _, _⟩) (v := ?v1000) rfl (by kernel_rfl) (by kernel_rfl) (by kernel_rfl) (fun _ _ _ h => h) (Or.inl ⟨by rfl, ?hy1000⟩) (by assumption) ?_
            case hy1000 => (intro w hSw; (try dsimp only at hSw); go_simp; (try (with_reducible rfl)))
            (try simp only [Act.put, List.setIfInBounds_toArray, List.set_cons_zero, List.set_cons_succ])
            refine wpAnyH_ready (rs := [0]) (by kernel_rfl) (by simp) ?_
            refine AllReadyH.cons (o := ⟨_, _, _, _, _, _⟩) rfl (fun K hK => ?_) AllReadyH.nil
            go_simp
            refine hK.out _ _ ?hB1001 (fun hHeld => ?_)
            case hB1001 => exact ⟨((Up.refl _).drew).alloc _ _, trivial⟩
            clear hK K
            (try simp only [Act.put, List.setIfInBounds_toArray, List.set_cons_zero, List.set_cons_succ])
            obtain ⟨A6, k6, w6, hr6, hO6, hU6⟩ := appendM 24 wr.drew (wr.drew.alloc (.cells #[] 23)) (.slice (some ⟨wr.heap.size, 0, none⟩) 0 0) 0 [] (OG.fresh (f := cM) (e := 23) (s := 7) (w0 := wr.drew) (w := wr.drew) (Nat.le_refl _) #[] rfl) ((Up.refl _).alloc _ _) (some ⟨b, o, none⟩) (i + 1) kk (R.take (i + 1)) ((HR1.out.first cM_len (by omega)).up ((Up.refl _).drew.alloc _ _)) (by omega)
            simp only [Nat.zero_add, List.nil_append] at hr6 hO6
            have HO6 := Lib.hid hO6
            have HU6 := Lib.hid ((Up.refl wr).drew.trans hU6)
            obtain ⟨A7, k7, w7, hr7, hO7, hU7⟩ := appendM 24 wr.drew w6 (.slice A6 (i + 1) k6) (i + 1) (R.take (i + 1)) HO6.out hU6 (some ⟨b, o + j * 7, none⟩) (nx - j) (kk - j) (R.drop j) ((HR1.out.cutM (by omega)).up HU6.out) (by omega)
            have HO7 := Lib.hid hO7
            have HU7 := Lib.hid ((Up.refl wr).drew.trans hU7)
            clear hO6 hU6 hO7 hU7
            refine wpAnyH_ready (rs := [5]) (by kernel_rfl) (by simp) ?_
            refine AllReadyH.cons (o := ⟨_, _, _, _, _, _⟩) rfl (fun K hK => ?_) AllReadyH.nil
            refine step_append_run rfl (.tmp 97) (.tmp 101) _ rfl (.slice (some ⟨wr.heap.size, 0, none⟩) 0 0) (.slice (some ⟨b, o, none⟩) (i + 1) kk) rfl rfl _ _ hr6 ?_
            refine hK.out _ _ ?hB1002 (fun hHeld => ?_)
            case hB1002 => exact ⟨HU6.out, trivial⟩
            clear hK K
            (try simp only [Act.put, List.setIfInBounds_toArray, List.set_cons_zero, List.set_cons_succ])
            refine wpAnyH_ready (rs := [9]) (by kernel_rfl) (by simp) ?_
            refine AllReadyH.cons (o := ⟨_, _, _, _, _, _⟩) rfl (fun K hK => ?_) AllReadyH.nil
            refine step_append_run rfl (.tmp 102) (.tmp 105) _ rfl (.slice A6 (i + 1) k6) (.slice (some ⟨b, o + j * 7, none⟩) (nx - j) (kk - j)) rfl rfl _ _ hr7 ?_
            refine hK.out _ _ ?hB1003 (fun hHeld => ?_)
            case hB1003 => exact ⟨HU7.out, trivial⟩
            clear hK K
            (try simp only [Act.put, List.setIfInBounds_toArray, List.set_cons_zero, List.set_cons_succ])
            refine wpAnyH_take (i := 10) (oi := ⟨_, _, _, _, _, _⟩) (v := ?v1004) rfl (by kernel_rfl) (by kernel_rfl) (by kernel_rfl) (fun _ _ _ h => h) (Or.inl ⟨by rfl, ?hy1004⟩) (by assumption) ?_
            case hy1004 => (intro w hSw; (try dsimp only at hSw); go_simp; (try (with_reducible rfl)))
            (try simp only [Act.put, List.setIfInBounds_toArray, List.set_cons_zero, List.set_cons_succ])
            refine wpAnyH_done (by kernel_rfl) ?_ _
            clear hHeld
            go_wp2_with fail
            go_roundw
            case rel => exact ⟨i + 1, i + 1 + (nx - j), k7, A7, R.take (i + 1) ++ R.drop j, rfl, by go_num, by omega, (OG.sg HO7.out).1, by omega, Lib.hid (OG.sg HO7.out).2, HB2, HZ2, Lib.hid (fun b_ o_ h_ => Nat.lt_of_lt_of_le hlq (OG.nw HO7.out b_ o_ h_)), Lib.hid (HWq.out.trans HU7.out)⟩
            case measure => simp [lnS, intOf]; omega
          · obtain rfl : j = i := by omega
            have HZ2 := Lib.hid (HNO.out (fun p h1 h2 => HF.out p h1 h2))
            clear HYS HNO HCI HC HF cg
            go_wp2_with fail
            go_roundw
            case rel => exact ⟨j + 1, nx, kk, some ⟨b, o, none⟩, R, rfl, by go_num, by omega, hmk, hmn, Lib.hid (HR.out.up HV.out), HB, HZ2, HN, Lib.hid (HW.out.trans HV.out)⟩
            case measure => simp [lnS, intOf]; omega
    · obtain rfl : i = m := by omega
      have fi : decide ((i : Int) < i) = false := decide_eq_false (by omega)
      have HRZ : Hid (R = Z) := Lib.hid (by
        have e := HZr.out
        rw [Nat.sub_self, show R.drop i = [] from List.drop_eq_nil_of_le (by rw [HR.out.1]; exact Nat.le_refl _), prL_nil, List.append_nil, List.take_of_length_le (by rw [HR.out.1]; exact Nat.le_refl _)] at e
        exact e)
      obtain rfl : R = Z := HRZ.out
      have UU := HX.out.1.trans HW.out
      have c00 := HW.out.keep _ _ _ HX.out.2.1
      have c01 := HW.out.keep _ _ _ HX.out.2.2.1
      have c02 := HW.out.keep _ _ _ HX.out.2.2.2.1
      have c03 := HW.out.keep _ _ _ HX.out.2.2.2.2.1
      have c04 := HW.out.keep _ _ _ HX.out.2.2.2.2.2.1
      have c05 := HW.out.keep _ _ _ HX.out.2.2.2.2.2.2.1
      have c06 := HW.out.keep _ _ _ HX.out.2.2.2.2.2.2.2.1
      have c10 := HW.out.keep _ _ _ HX.out.2.2.2.2.2.2.2.2.1
      have c11 := HW.out.keep _ _ _ HX.out.2.2.2.2.2.2.2.2.2.1
      have c12 := HW.out.keep _ _ _ HX.out.2.2.2.2.2.2.2.2.2.2.1
      have c13 := HW.out.keep _ _ _ HX.out.2.2.2.2.2.2.2.2.2.2.2.1
      have c14 := HW.out.keep _ _ _ HX.out.2.2.2.2.2.2.2.2.2.2.2.2.1
      have c15 := HW.out.keep _ _ _ HX.out.2.2.2.2.2.2.2.2.2.2.2.2.2.1
      have c16 := HW.out.keep _ _ _ HX.out.2.2.2.2.2.2.2.2.2.2.2.2.2.2
      have z06 := UU.ownGe (g := w.heap.size) (Nat.le_refl _) 6
      have z10 := UU.ownGe (g := w.heap.size + 1) (by omega) 0
      have z11 := UU.ownGe (g := w.heap.size + 1) (by omega) 1
      have z12 := UU.ownGe (g := w.heap.size + 1) (by omega) 2
      have z13 := UU.ownGe (g := w.heap.size + 1) (by omega) 3
      have z14 := UU.ownGe (g := w.heap.size + 1) (by omega) 4
      have z15 := UU.ownGe (g := w.heap.size + 1) (by omega) 5
      have z16 := UU.ownGe (g := w.heap.size + 1) (by omega) 6
      have UU := Lib.hid UU
      have hlt := World.block_lt_of_cell? _ _ c10
      have HRw := HR
      clear HX HZr HRZ HB
      go_wp2_with fail
      refine bodyPost_ret (v := .tuple #[.agg #[.int .i64 g, .int .i64 v, .int .i64 q, .int .i64 c, .int .i64 now, .int .i64 (seq + 1), .slice B i kk], .int .i64 0]) (by simp [results, Try.results24, go_sem, c10, c11, c12, c13, c14, c15, c16]) rfl ⟨B, i, kk, rfl, hmn, hmk, ?_, ?_⟩
      · exact (UU.out.setCell (Nat.le_refl _) _).set7 (by omega)
      · exact (HRw.out.off (fun b_ o_ h_ => by have := HN.out b_ o_ h_; omega) _).off7 (fun b_ o_ h_ => by have := HN.out b_ o_ h_; omega) _ _ _ _ _ _ _
theorem radd13_good (g v q c now seq d : Int) (n k : Nat) (A : Option Addr) (X : List Mrk) (hn : n ≤ 50000) (hk : n ≤ k) (hv : stM g v q c now seq X = true) (hd : valG g d) (hf : fuM c seq X = false) (w : World) (hS : SG cM w A n X) :
    Calls Try.prog 24 #[.agg #[.int .i64 g, .int .i64 v, .int .i64 q, .int .i64 c, .int .i64 now, .int .i64 seq, .slice A n k], .int .i64 d] w fun e w' => ∃ A' n' k', e = .returned (.tuple #[.agg #[.int .i64 g, .int .i64 v, .int .i64 q, .int .i64 c, .int .i64 now, .int .i64 (seq + 1), .slice A' n' k'], .int .i64 0]) ∧ n' ≤ n + 1 ∧ n' ≤ k' ∧ Up w w' ∧ SG cM w' A' n' (adM g q seq now d X) := by
  by_cases h0 : 0 < n
  · exact radd13_good_pos g v q c now seq d n k A X hn hk h0 hv hd hf w hS
  · exact radd13_good_zero g v q c now seq d n k A X hn hk h0 hv hd hf w hS
end Go.Proofs.Ytchikndofpkjmaa
