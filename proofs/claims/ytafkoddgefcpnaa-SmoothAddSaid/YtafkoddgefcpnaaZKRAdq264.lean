/- The reference of layer 13: Add. -/
import Derived.Test.YtafkoddgefcpnaaRows
import Derived.Test.YtafkoddgefcpnaaZKRAmq263
namespace Go.Proofs.Ytafkoddgefcpnaa
open Go.RowKit
set_option linter.unusedVariables false

set_option maxHeartbeats 4000000 in
set_option maxRecDepth 100000 in
theorem radd13_bad (g v q c now seq d : Int) (n k : Nat) (A : Option Addr) (X : List Mrk) (hn : n ≤ 50000) (hk : n ≤ k) (hv : stM g v q c now seq X = false) (w : World) (hS : SG cM w A n X) :
    Calls Try.prog 27 #[.agg #[.int .i64 g, .int .i64 v, .int .i64 q, .int .i64 c, .int .i64 now, .int .i64 seq, .slice A n k], .int .i64 d] w fun e w' => e = .returned (.tuple #[.agg #[.int .i64 0, .int .i64 0, .int .i64 0, .int .i64 0, .int .i64 0, .int .i64 0, .slice none 0 0], .int .i64 2]) ∧ Up w w' := by
  have KV := Lib.hid (fun W (h : SG cM W A n X) => rvalidate13_up g v q c now seq n k A X hn W h)
  rw [stME_no hv] at KV
  have HS := Lib.hid hS
  clear hS hv
  go_enter Try.func27, Try.ntmps27
  go_wp2_with (go_at_call 23; (with_reducible refine (KV.out _ (HS.out.up (((Up.refl w).alloc _ _).alloc _ _))).mono ?_); rintro e w1 ⟨rfl, hu⟩; have HU1 := Lib.hid ((((Up.refl w).alloc #[.int .i64 g, .int .i64 v, .int .i64 q, .int .i64 c, .int .i64 now, .int .i64 seq, .slice A n k] 26).alloc #[.int .i64 0, .int .i64 0, .int .i64 0, .int .i64 0, .int .i64 0, .int .i64 0, .slice none 0 0] 26).trans hu); have c00 := hu.keep (w.heap.size) 0 (.int .i64 g) (by simp [go_sem]); have c01 := hu.keep (w.heap.size) 1 (.int .i64 v) (by simp [go_sem]); have c02 := hu.keep (w.heap.size) 2 (.int .i64 q) (by simp [go_sem]); have c03 := hu.keep (w.heap.size) 3 (.int .i64 c) (by simp [go_sem]); have c04 := hu.keep (w.heap.size) 4 (.int .i64 now) (by simp [go_sem]); have c05 := hu.keep (w.heap.size) 5 (.int .i64 seq) (by simp [go_sem]); have c06 := hu.keep (w.heap.size) 6 (.slice A n k) (by simp [go_sem]); have c10 := hu.keep (w.heap.size + 1) 0 (.int .i64 0) (by simp [go_sem]); have c11 := hu.keep (w.heap.size + 1) 1 (.int .i64 0) (by simp [go_sem]); have c12 := hu.keep (w.heap.size + 1) 2 (.int .i64 0) (by simp [go_sem]); have c13 := hu.keep (w.heap.size + 1) 3 (.int .i64 0) (by simp [go_sem]); have c14 := hu.keep (w.heap.size + 1) 4 (.int .i64 0) (by simp [go_sem]); have c15 := hu.keep (w.heap.size + 1) 5 (.int .i64 0) (by simp [go_sem]); have c16 := hu.keep (w.heap.size + 1) 6 (.slice none 0 0) (by simp [go_sem]); have z00 := HU1.out.ownGe (g := w.heap.size) (Nat.le_refl _) 0; have z01 := HU1.out.ownGe (g := w.heap.size) (Nat.le_refl _) 1; have z02 := HU1.out.ownGe (g := w.heap.size) (Nat.le_refl _) 2; have z03 := HU1.out.ownGe (g := w.heap.size) (Nat.le_refl _) 3; have z04 := HU1.out.ownGe (g := w.heap.size) (Nat.le_refl _) 4; have z05 := HU1.out.ownGe (g := w.heap.size) (Nat.le_refl _) 5; have z06 := HU1.out.ownGe (g := w.heap.size) (Nat.le_refl _) 6; have z10 := HU1.out.ownGe (g := w.heap.size + 1) (by omega) 0; have z11 := HU1.out.ownGe (g := w.heap.size + 1) (by omega) 1; have z12 := HU1.out.ownGe (g := w.heap.size + 1) (by omega) 2; have z13 := HU1.out.ownGe (g := w.heap.size + 1) (by omega) 3; have z14 := HU1.out.ownGe (g := w.heap.size + 1) (by omega) 4; have z15 := HU1.out.ownGe (g := w.heap.size + 1) (by omega) 5; have z16 := HU1.out.ownGe (g := w.heap.size + 1) (by omega) 6; have hlt : w.heap.size + 1 < w1.heap.size := World.block_lt_of_cell? _ _ c10; have hlt0 : w.heap.size < w1.heap.size := Nat.lt_of_succ_lt hlt; clear hu)
  refine bodyPost_ret (v := .tuple #[.agg #[.int .i64 0, .int .i64 0, .int .i64 0, .int .i64 0, .int .i64 0, .int .i64 0, .slice none 0 0], .int .i64 2]) (by simp [results, Try.results27, go_sem, c10, c11, c12, c13, c14, c15, c16]) rfl ⟨rfl, ?_⟩
  exact HU1.out.set7 (by omega)

set_option maxHeartbeats 4000000 in
set_option maxRecDepth 100000 in
theorem radd13_range (g v q c now seq d : Int) (n k : Nat) (A : Option Addr) (X : List Mrk) (hn : n ≤ 50000) (hk : n ≤ k) (hv : stM g v q c now seq X = true) (hd : ¬ valG g d) (w : World) (hS : SG cM w A n X) :
    Calls Try.prog 27 #[.agg #[.int .i64 g, .int .i64 v, .int .i64 q, .int .i64 c, .int .i64 now, .int .i64 seq, .slice A n k], .int .i64 d] w fun e w' => e = .returned (.tuple #[.agg #[.int .i64 0, .int .i64 0, .int .i64 0, .int .i64 0, .int .i64 0, .int .i64 0, .slice none 0 0], .int .i64 4]) ∧ Up w w' := by
  have KV := Lib.hid (fun W (h : SG cM W A n X) => rvalidate13_up g v q c now seq n k A X hn W h)
  rw [stME_yes hv] at KV
  have HS := Lib.hid hS
  have KI := Lib.hid (rvalue13_any g d)
  rw [decide_eq_false hd] at KI
  clear hS hv hd
  go_enter Try.func27, Try.ntmps27
  go_wp2_with (first | (go_at_call 73; (with_reducible refine (KI.out _).mono ?_); rintro e w2 ⟨rfl, rfl⟩) | (go_at_call 23; (with_reducible refine (KV.out _ (HS.out.up (((Up.refl w).alloc _ _).alloc _ _))).mono ?_); rintro e w1 ⟨rfl, hu⟩; have HU1 := Lib.hid ((((Up.refl w).alloc #[.int .i64 g, .int .i64 v, .int .i64 q, .int .i64 c, .int .i64 now, .int .i64 seq, .slice A n k] 26).alloc #[.int .i64 0, .int .i64 0, .int .i64 0, .int .i64 0, .int .i64 0, .int .i64 0, .slice none 0 0] 26).trans hu); have c00 := hu.keep (w.heap.size) 0 (.int .i64 g) (by simp [go_sem]); have c01 := hu.keep (w.heap.size) 1 (.int .i64 v) (by simp [go_sem]); have c02 := hu.keep (w.heap.size) 2 (.int .i64 q) (by simp [go_sem]); have c03 := hu.keep (w.heap.size) 3 (.int .i64 c) (by simp [go_sem]); have c04 := hu.keep (w.heap.size) 4 (.int .i64 now) (by simp [go_sem]); have c05 := hu.keep (w.heap.size) 5 (.int .i64 seq) (by simp [go_sem]); have c06 := hu.keep (w.heap.size) 6 (.slice A n k) (by simp [go_sem]); have c10 := hu.keep (w.heap.size + 1) 0 (.int .i64 0) (by simp [go_sem]); have c11 := hu.keep (w.heap.size + 1) 1 (.int .i64 0) (by simp [go_sem]); have c12 := hu.keep (w.heap.size + 1) 2 (.int .i64 0) (by simp [go_sem]); have c13 := hu.keep (w.heap.size + 1) 3 (.int .i64 0) (by simp [go_sem]); have c14 := hu.keep (w.heap.size + 1) 4 (.int .i64 0) (by simp [go_sem]); have c15 := hu.keep (w.heap.size + 1) 5 (.int .i64 0) (by simp [go_sem]); have c16 := hu.keep (w.heap.size + 1) 6 (.slice none 0 0) (by simp [go_sem]); have z00 := HU1.out.ownGe (g := w.heap.size) (Nat.le_refl _) 0; have z01 := HU1.out.ownGe (g := w.heap.size) (Nat.le_refl _) 1; have z02 := HU1.out.ownGe (g := w.heap.size) (Nat.le_refl _) 2; have z03 := HU1.out.ownGe (g := w.heap.size) (Nat.le_refl _) 3; have z04 := HU1.out.ownGe (g := w.heap.size) (Nat.le_refl _) 4; have z05 := HU1.out.ownGe (g := w.heap.size) (Nat.le_refl _) 5; have z06 := HU1.out.ownGe (g := w.heap.size) (Nat.le_refl _) 6; have z10 := HU1.out.ownGe (g := w.heap.size + 1) (by omega) 0; have z11 := HU1.out.ownGe (g := w.heap.size + 1) (by omega) 1; have z12 := HU1.out.ownGe (g := w.heap.size + 1) (by omega) 2; have z13 := HU1.out.ownGe (g := w.heap.size + 1) (by omega) 3; have z14 := HU1.out.ownGe (g := w.heap.size + 1) (by omega) 4; have z15 := HU1.out.ownGe (g := w.heap.size + 1) (by omega) 5; have z16 := HU1.out.ownGe (g := w.heap.size + 1) (by omega) 6; have hlt : w.heap.size + 1 < w1.heap.size := World.block_lt_of_cell? _ _ c10; have hlt0 : w.heap.size < w1.heap.size := Nat.lt_of_succ_lt hlt; clear hu))
  refine bodyPost_ret (v := .tuple #[.agg #[.int .i64 0, .int .i64 0, .int .i64 0, .int .i64 0, .int .i64 0, .int .i64 0, .slice none 0 0], .int .i64 4]) (by simp [results, Try.results27, go_sem, c10, c11, c12, c13, c14, c15, c16]) rfl ⟨rfl, ?_⟩
  exact HU1.out.set7 (by omega)

set_option maxHeartbeats 4000000 in
set_option maxRecDepth 100000 in
theorem radd13_full (g v q c now seq d : Int) (n k : Nat) (A : Option Addr) (X : List Mrk) (hn : n ≤ 50000) (hk : n ≤ k) (hv : stM g v q c now seq X = true) (hd : valG g d) (hf : fuM c seq X = true) (w : World) (hS : SG cM w A n X) :
    Calls Try.prog 27 #[.agg #[.int .i64 g, .int .i64 v, .int .i64 q, .int .i64 c, .int .i64 now, .int .i64 seq, .slice A n k], .int .i64 d] w fun e w' => e = .returned (.tuple #[.agg #[.int .i64 0, .int .i64 0, .int .i64 0, .int .i64 0, .int .i64 0, .int .i64 0, .slice none 0 0], .int .i64 5]) ∧ Up w w' := by
  have KV := Lib.hid (fun W (h : SG cM W A n X) => rvalidate13_up g v q c now seq n k A X hn W h)
  rw [stME_yes hv] at KV
  have HS := Lib.hid hS
  have KI := Lib.hid (rvalue13_any g d)
  rw [decide_eq_true hd] at KI
  have HF : Hid (0 < n ∧ (X.getD 0 mk0).n = c ∨ seq = 1099511627776) := Lib.hid (by
    unfold fuM at hf
    rw [hS.1, Bool.or_eq_true, Bool.and_eq_true, decide_eq_true_eq, decide_eq_true_eq, decide_eq_true_eq] at hf
    exact hf)
  clear hS hv hd hf
  by_cases h0 : 0 < n
  · have f20 : (0 : Int) < n := by omega
    obtain ⟨b, o, rfl, _⟩ := mrk_at HS.out mk0 h0
    have HT := Lib.hid (fun W (h : Up w W) => (mrk_prev (HS.out.up h) h0).2.2.1)
    simp only [Nat.zero_mul, Nat.add_zero] at HT
    generalize (X.getD 0 mk0).n = x0 at *
    by_cases hc : x0 = c
    · subst hc
      clear HF
      go_enter Try.func27, Try.ntmps27
      go_upto_region 6 with (first | (go_at_call 73; (with_reducible refine (KI.out _).mono ?_); rintro e w2 ⟨rfl, rfl⟩) | (go_at_call 23; (with_reducible refine (KV.out _ (HS.out.up (((Up.refl w).alloc _ _).alloc _ _))).mono ?_); rintro e w1 ⟨rfl, hu⟩; have HU1 := Lib.hid ((((Up.refl w).alloc #[.int .i64 g, .int .i64 v, .int .i64 q, .int .i64 x0, .int .i64 now, .int .i64 seq, .slice (some ⟨b, o, none⟩) n k] 26).alloc #[.int .i64 0, .int .i64 0, .int .i64 0, .int .i64 0, .int .i64 0, .int .i64 0, .slice none 0 0] 26).trans hu); have c00 := hu.keep (w.heap.size) 0 (.int .i64 g) (by simp [go_sem]); have c01 := hu.keep (w.heap.size) 1 (.int .i64 v) (by simp [go_sem]); have c02 := hu.keep (w.heap.size) 2 (.int .i64 q) (by simp [go_sem]); have c03 := hu.keep (w.heap.size) 3 (.int .i64 x0) (by simp [go_sem]); have c04 := hu.keep (w.heap.size) 4 (.int .i64 now) (by simp [go_sem]); have c05 := hu.keep (w.heap.size) 5 (.int .i64 seq) (by simp [go_sem]); have c06 := hu.keep (w.heap.size) 6 (.slice (some ⟨b, o, none⟩) n k) (by simp [go_sem]); have c10 := hu.keep (w.heap.size + 1) 0 (.int .i64 0) (by simp [go_sem]); have c11 := hu.keep (w.heap.size + 1) 1 (.int .i64 0) (by simp [go_sem]); have c12 := hu.keep (w.heap.size + 1) 2 (.int .i64 0) (by simp [go_sem]); have c13 := hu.keep (w.heap.size + 1) 3 (.int .i64 0) (by simp [go_sem]); have c14 := hu.keep (w.heap.size + 1) 4 (.int .i64 0) (by simp [go_sem]); have c15 := hu.keep (w.heap.size + 1) 5 (.int .i64 0) (by simp [go_sem]); have c16 := hu.keep (w.heap.size + 1) 6 (.slice none 0 0) (by simp [go_sem]); have z00 := HU1.out.ownGe (g := w.heap.size) (Nat.le_refl _) 0; have z01 := HU1.out.ownGe (g := w.heap.size) (Nat.le_refl _) 1; have z02 := HU1.out.ownGe (g := w.heap.size) (Nat.le_refl _) 2; have z03 := HU1.out.ownGe (g := w.heap.size) (Nat.le_refl _) 3; have z04 := HU1.out.ownGe (g := w.heap.size) (Nat.le_refl _) 4; have z05 := HU1.out.ownGe (g := w.heap.size) (Nat.le_refl _) 5; have z06 := HU1.out.ownGe (g := w.heap.size) (Nat.le_refl _) 6; have z10 := HU1.out.ownGe (g := w.heap.size + 1) (by omega) 0; have z11 := HU1.out.ownGe (g := w.heap.size + 1) (by omega) 1; have z12 := HU1.out.ownGe (g := w.heap.size + 1) (by omega) 2; have z13 := HU1.out.ownGe (g := w.heap.size + 1) (by omega) 3; have z14 := HU1.out.ownGe (g := w.heap.size + 1) (by omega) 4; have z15 := HU1.out.ownGe (g := w.heap.size + 1) (by omega) 5; have z16 := HU1.out.ownGe (g := w.heap.size + 1) (by omega) 6; have hlt : w.heap.size + 1 < w1.heap.size := World.block_lt_of_cell? _ _ c10; have hlt0 : w.heap.size < w1.heap.size := Nat.lt_of_succ_lt hlt; clear hu))
      have hd2 := HT.out _ HU1.out
      have HSS : Hid (Up w w1 ∧ w1.cell? ⟨w.heap.size, 0, none⟩ = some (.int .i64 g) ∧ w1.cell? ⟨w.heap.size, 1, none⟩ = some (.int .i64 v) ∧ w1.cell? ⟨w.heap.size, 2, none⟩ = some (.int .i64 q) ∧ w1.cell? ⟨w.heap.size, 3, none⟩ = some (.int .i64 x0) ∧ w1.cell? ⟨w.heap.size, 4, none⟩ = some (.int .i64 now) ∧ w1.cell? ⟨w.heap.size, 5, none⟩ = some (.int .i64 seq) ∧ w1.cell? ⟨w.heap.size, 6, none⟩ = some (.slice (some ⟨b, o, none⟩) n k) ∧ w1.cell? ⟨(w.heap.size + 1), 0, none⟩ = some (.int .i64 0) ∧ w1.cell? ⟨(w.heap.size + 1), 1, none⟩ = some (.int .i64 0) ∧ w1.cell? ⟨(w.heap.size + 1), 2, none⟩ = some (.int .i64 0) ∧ w1.cell? ⟨(w.heap.size + 1), 3, none⟩ = some (.int .i64 0) ∧ w1.cell? ⟨(w.heap.size + 1), 4, none⟩ = some (.int .i64 0) ∧ w1.cell? ⟨(w.heap.size + 1), 5, none⟩ = some (.int .i64 0) ∧ w1.cell? ⟨(w.heap.size + 1), 6, none⟩ = some (.slice none 0 0) ∧ w1.cell? ⟨b, o + 2, none⟩ = some (.int .i64 x0)) := Lib.hid ⟨HU1.out, c00, c01, c02, c03, c04, c05, c06, c10, c11, c12, c13, c14, c15, c16, hd2⟩
      clear hd2 HT
      go_wp2_with fail
      refine wp_region_held_drew (S := fun w' => Up w w' ∧ w'.cell? ⟨w.heap.size, 0, none⟩ = some (.int .i64 g) ∧ w'.cell? ⟨w.heap.size, 1, none⟩ = some (.int .i64 v) ∧ w'.cell? ⟨w.heap.size, 2, none⟩ = some (.int .i64 q) ∧ w'.cell? ⟨w.heap.size, 3, none⟩ = some (.int .i64 x0) ∧ w'.cell? ⟨w.heap.size, 4, none⟩ = some (.int .i64 now) ∧ w'.cell? ⟨w.heap.size, 5, none⟩ = some (.int .i64 seq) ∧ w'.cell? ⟨w.heap.size, 6, none⟩ = some (.slice (some ⟨b, o, none⟩) n k) ∧ w'.cell? ⟨(w.heap.size + 1), 0, none⟩ = some (.int .i64 0) ∧ w'.cell? ⟨(w.heap.size + 1), 1, none⟩ = some (.int .i64 0) ∧ w'.cell? ⟨(w.heap.size + 1), 2, none⟩ = some (.int .i64 0) ∧ w'.cell? ⟨(w.heap.size + 1), 3, none⟩ = some (.int .i64 0) ∧ w'.cell? ⟨(w.heap.size + 1), 4, none⟩ = some (.int .i64 0) ∧ w'.cell? ⟨(w.heap.size + 1), 5, none⟩ = some (.int .i64 0) ∧ w'.cell? ⟨(w.heap.size + 1), 6, none⟩ = some (.slice none 0 0) ∧ w'.cell? ⟨b, o + 2, none⟩ = some (.int .i64 x0)) (by kernel_rfl) ?hB488 (fun hHeld => ?_)
      case hB488 => (first | (with_reducible assumption) | (with_reducible exact keepK15 (Lib.hid (Up.refl _).drew) HSS.out))
      refine wpAnyH_take (i := 0) (oi := ⟨_, _, _, _, _, _⟩) (v := ?v489) rfl (by kernel_rfl) (by kernel_rfl) (by kernel_rfl) (fun _ _ _ h => h) (Or.inl ⟨by rfl, ?hy489⟩) (by assumption) ?_
      case hy489 => (intro w hSw; (try dsimp only at hSw); go_simp; (try (with_reducible rfl)))
      (try simp only [Act.put, List.setIfInBounds_toArray, List.set_cons_zero, List.set_cons_succ])
      refine wpAnyH_take (i := 1) (oi := ⟨_, _, _, _, _, _⟩) (v := ?v490) rfl (by kernel_rfl) (by kernel_rfl) (by kernel_rfl) (fun _ _ _ h => h) (Or.inl ⟨by rfl, ?hy490⟩) (by assumption) ?_
      case hy490 => (intro w hSw; (try dsimp only at hSw); go_simp; (try (with_reducible rfl)))
      (try simp only [Act.put, List.setIfInBounds_toArray, List.set_cons_zero, List.set_cons_succ])
      refine wpAnyH_take (i := 2) (oi := ⟨_, _, _, _, _, _⟩) (v := ?v491) rfl (by kernel_rfl) (by kernel_rfl) (by kernel_rfl) (fun _ _ _ h => h) (Or.inl ⟨by rfl, ?hy491⟩) (by assumption) ?_
      case hy491 => (intro w hSw; (try dsimp only at hSw); go_simp; (try (with_reducible rfl)))
      (try simp only [Act.put, List.setIfInBounds_toArray, List.set_cons_zero, List.set_cons_succ])
      refine wpAnyH_take (i := 3) (oi := ⟨_, _, _, _, _, _⟩) (v := ?v492) rfl (by kernel_rfl) (by kernel_rfl) (by kernel_rfl) (fun _ _ _ h => h) (Or.inl ⟨by rfl, ?hy492⟩) (by assumption) ?_
      case hy492 => (intro w hSw; (try dsimp only at hSw); go_simp; (try (with_reducible rfl)))
      (try simp only [Act.put, List.setIfInBounds_toArray, List.set_cons_zero, List.set_cons_succ])
      refine wpAnyH_take (i := 4) (oi := ⟨_, _, _, _, _, _⟩) (v := ?v493) rfl (by kernel_rfl) (by kernel_rfl) (by kernel_rfl) (fun _ _ _ h => h) (Or.inl ⟨by rfl, ?hy493⟩) (by assumption) ?_
      case hy493 => (intro w hSw; (try dsimp only at hSw); go_simp; (try (with_reducible rfl)))
      (try simp only [Act.put, List.setIfInBounds_toArray, List.set_cons_zero, List.set_cons_succ])
      refine wpAnyH_take (i := 5) (oi := ⟨_, _, _, _, _, _⟩) (v := ?v494) rfl (by kernel_rfl) (by kernel_rfl) (by kernel_rfl) (fun _ _ _ h => h) (Or.inl ⟨by rfl, ?hy494⟩) (by assumption) ?_
      case hy494 => (intro w hSw; (try dsimp only at hSw); go_simp; (try (with_reducible rfl)))
      (try simp only [Act.put, List.setIfInBounds_toArray, List.set_cons_zero, List.set_cons_succ])
      refine wpAnyH_take (i := 6) (oi := ⟨_, _, _, _, _, _⟩) (v := ?v495) rfl (by kernel_rfl) (by kernel_rfl) (by kernel_rfl) (fun _ _ _ h => h) (Or.inl ⟨by rfl, ?hy495⟩) (by assumption) ?_
      case hy495 => (intro w hSw; (try dsimp only at hSw); go_simp; (try (with_reducible rfl)))
      (try simp only [Act.put, List.setIfInBounds_toArray, List.set_cons_zero, List.set_cons_succ])
      refine wpAnyH_take (i := 7) (oi := ⟨_, _, _, _, _, _⟩) (v := ?v496) rfl (by kernel_rfl) (by kernel_rfl) (by kernel_rfl) (fun _ _ _ h => h) (Or.inl ⟨by rfl, ?hy496⟩) (by assumption) ?_
      case hy496 => (intro w hSw; (try dsimp only at hSw); go_simp; (try (with_reducible rfl)))
      (try simp only [Act.put, List.setIfInBounds_toArray, List.set_cons_zero, List.set_cons_succ])
      refine wpAnyH_take (i := 8) (oi := ⟨_, _, _, _, _, _⟩) (v := ?v497) rfl (by kernel_rfl) (by kernel_rfl) (by kernel_rfl) (fun _ _ _ h => h) (Or.inl ⟨by rfl, ?hy497⟩) (by assumption) ?_
      case hy497 => (intro w hSw; (try dsimp only at hSw); go_simp; (try (with_reducible rfl)))
      (try simp only [Act.put, List.setIfInBounds_toArray, List.set_cons_zero, List.set_cons_succ])
      refine wpAnyH_take (i := 9) (oi := ⟨_, _, _, _, _, _⟩) (v := ?v498) rfl (by kernel_rfl) (by kernel_rfl) (by kernel_rfl) (fun _ _ _ h => h) (Or.inl ⟨by rfl, ?hy498⟩) (by assumption) ?_
      case hy498 => (intro w hSw; (try dsimp only at hSw); go_simp; (try (with_reducible rfl)))
      (try simp only [Act.put, List.setIfInBounds_toArray, List.set_cons_zero, List.set_cons_succ])
      refine wpAnyH_take (i := 10) (oi := ⟨_, _, _, _, _, _⟩) (v := ?v499) rfl (by kernel_rfl) (by kernel_rfl) (by kernel_rfl) (fun _ _ _ h => h) (Or.inl ⟨by rfl, ?hy499⟩) (by assumption) ?_
      case hy499 => (intro w hSw; (try dsimp only at hSw); go_simp; (try (with_reducible rfl)))
      (try simp only [Act.put, List.setIfInBounds_toArray, List.set_cons_zero, List.set_cons_succ])
      refine wpAnyH_take (i := 11) (oi := ⟨_, _, _, _, _, _⟩) (v := ?v500) rfl (by kernel_rfl) (by kernel_rfl) (by kernel_rfl) (fun _ _ _ h => h) (Or.inl ⟨by rfl, ?hy500⟩) (by assumption) ?_
      case hy500 => (intro w hSw; (try dsimp only at hSw); go_simp; (try (with_reducible rfl)))
      (try simp only [Act.put, List.setIfInBounds_toArray, List.set_cons_zero, List.set_cons_succ])
      refine wpAnyH_take (i := 12) (oi := ⟨_, _, _, _, _, _⟩) (v := ?v501) rfl (by kernel_rfl) (by kernel_rfl) (by kernel_rfl) (fun _ _ _ h => h) (Or.inl ⟨by rfl, ?hy501⟩) (by assumption) ?_
      case hy501 => (intro w hSw; (try dsimp only at hSw); go_simp; (try (with_reducible rfl)))
      (try simp only [Act.put, List.setIfInBounds_toArray, List.set_cons_zero, List.set_cons_succ])
      refine wpAnyH_take (i := 13) (oi := ⟨_, _, _, _, _, _⟩) (v := ?v502) rfl (by kernel_rfl) (by kernel_rfl) (by kernel_rfl) (fun _ _ _ h => h) (Or.inl ⟨by rfl, ?hy502⟩) (by assumption) ?_
      case hy502 => (intro w hSw; (try dsimp only at hSw); go_simp; (try (with_reducible rfl)))
      (try simp only [Act.put, List.setIfInBounds_toArray, List.set_cons_zero, List.set_cons_succ])
      refine wpAnyH_take (i := 14) (oi := ⟨_, _, _, _, _, _⟩) (v := ?v503) rfl (by kernel_rfl) (by kernel_rfl) (by kernel_rfl) (fun _ _ _ h => h) (Or.inl ⟨by rfl, ?hy503⟩) (by assumption) ?_
      case hy503 => (intro w hSw; (try dsimp only at hSw); go_simp; (try (with_reducible rfl)))
      (try simp only [Act.put, List.setIfInBounds_toArray, List.set_cons_zero, List.set_cons_succ])
      refine wpAnyH_take (i := 15) (oi := ⟨_, _, _, _, _, _⟩) (v := undef) rfl (by kernel_rfl) (by kernel_rfl) (by kernel_rfl) (fun _ _ _ h => h) (Or.inr ⟨by rfl, rfl⟩) (by assumption) ?_
      (try simp only [Act.put, List.setIfInBounds_toArray, List.set_cons_zero, List.set_cons_succ])
      refine wpAnyH_take (i := 16) (oi := ⟨_, _, _, _, _, _⟩) (v := undef) rfl (by kernel_rfl) (by kernel_rfl) (by kernel_rfl) (fun _ _ _ h => h) (Or.inr ⟨by rfl, rfl⟩) (by assumption) ?_
      (try simp only [Act.put, List.setIfInBounds_toArray, List.set_cons_zero, List.set_cons_succ])
      refine wpAnyH_take (i := 17) (oi := ⟨_, _, _, _, _, _⟩) (v := undef) rfl (by kernel_rfl) (by kernel_rfl) (by kernel_rfl) (fun _ _ _ h => h) (Or.inr ⟨by rfl, rfl⟩) (by assumption) ?_
      (try simp only [Act.put, List.setIfInBounds_toArray, List.set_cons_zero, List.set_cons_succ])
      refine wpAnyH_take (i := 18) (oi := ⟨_, _, _, _, _, _⟩) (v := ?v504) rfl (by kernel_rfl) (by kernel_rfl) (by kernel_rfl) (fun _ _ _ h => h) (Or.inl ⟨by rfl, ?hy504⟩) (by assumption) ?_
      case hy504 => (intro w hSw; (try dsimp only at hSw); go_simp; (try (with_reducible rfl)))
      (try simp only [Act.put, List.setIfInBounds_toArray, List.set_cons_zero, List.set_cons_succ])
      refine wpAnyH_done (by kernel_rfl) ?_ _
      (try clear hHeld)
      (repeat clear ‹Up w _ ∧ _›)
      go_wp2_with fail
      refine bodyPost_ret (v := .tuple #[.agg #[.int .i64 0, .int .i64 0, .int .i64 0, .int .i64 0, .int .i64 0, .int .i64 0, .slice none 0 0], .int .i64 5]) (by simp [results, Try.results27, go_sem, c10, c11, c12, c13, c14, c15, c16]) rfl ⟨rfl, ?_⟩
      exact (HU1.out.set7 (by omega)).drew
    · obtain rfl : seq = 1099511627776 := HF.out.elim (fun h => absurd h.2 hc) id
      have t1 : (x0 == c) = false := beq_eq_false_iff_ne.2 hc
      clear HF hc
      go_enter Try.func27, Try.ntmps27
      go_upto_region 6 with (first | (go_at_call 73; (with_reducible refine (KI.out _).mono ?_); rintro e w2 ⟨rfl, rfl⟩) | (go_at_call 23; (with_reducible refine (KV.out _ (HS.out.up (((Up.refl w).alloc _ _).alloc _ _))).mono ?_); rintro e w1 ⟨rfl, hu⟩; have HU1 := Lib.hid ((((Up.refl w).alloc #[.int .i64 g, .int .i64 v, .int .i64 q, .int .i64 c, .int .i64 now, .int .i64 1099511627776, .slice (some ⟨b, o, none⟩) n k] 26).alloc #[.int .i64 0, .int .i64 0, .int .i64 0, .int .i64 0, .int .i64 0, .int .i64 0, .slice none 0 0] 26).trans hu); have c00 := hu.keep (w.heap.size) 0 (.int .i64 g) (by simp [go_sem]); have c01 := hu.keep (w.heap.size) 1 (.int .i64 v) (by simp [go_sem]); have c02 := hu.keep (w.heap.size) 2 (.int .i64 q) (by simp [go_sem]); have c03 := hu.keep (w.heap.size) 3 (.int .i64 c) (by simp [go_sem]); have c04 := hu.keep (w.heap.size) 4 (.int .i64 now) (by simp [go_sem]); have c05 := hu.keep (w.heap.size) 5 (.int .i64 1099511627776) (by simp [go_sem]); have c06 := hu.keep (w.heap.size) 6 (.slice (some ⟨b, o, none⟩) n k) (by simp [go_sem]); have c10 := hu.keep (w.heap.size + 1) 0 (.int .i64 0) (by simp [go_sem]); have c11 := hu.keep (w.heap.size + 1) 1 (.int .i64 0) (by simp [go_sem]); have c12 := hu.keep (w.heap.size + 1) 2 (.int .i64 0) (by simp [go_sem]); have c13 := hu.keep (w.heap.size + 1) 3 (.int .i64 0) (by simp [go_sem]); have c14 := hu.keep (w.heap.size + 1) 4 (.int .i64 0) (by simp [go_sem]); have c15 := hu.keep (w.heap.size + 1) 5 (.int .i64 0) (by simp [go_sem]); have c16 := hu.keep (w.heap.size + 1) 6 (.slice none 0 0) (by simp [go_sem]); have z00 := HU1.out.ownGe (g := w.heap.size) (Nat.le_refl _) 0; have z01 := HU1.out.ownGe (g := w.heap.size) (Nat.le_refl _) 1; have z02 := HU1.out.ownGe (g := w.heap.size) (Nat.le_refl _) 2; have z03 := HU1.out.ownGe (g := w.heap.size) (Nat.le_refl _) 3; have z04 := HU1.out.ownGe (g := w.heap.size) (Nat.le_refl _) 4; have z05 := HU1.out.ownGe (g := w.heap.size) (Nat.le_refl _) 5; have z06 := HU1.out.ownGe (g := w.heap.size) (Nat.le_refl _) 6; have z10 := HU1.out.ownGe (g := w.heap.size + 1) (by omega) 0; have z11 := HU1.out.ownGe (g := w.heap.size + 1) (by omega) 1; have z12 := HU1.out.ownGe (g := w.heap.size + 1) (by omega) 2; have z13 := HU1.out.ownGe (g := w.heap.size + 1) (by omega) 3; have z14 := HU1.out.ownGe (g := w.heap.size + 1) (by omega) 4; have z15 := HU1.out.ownGe (g := w.heap.size + 1) (by omega) 5; have z16 := HU1.out.ownGe (g := w.heap.size + 1) (by omega) 6; have hlt : w.heap.size + 1 < w1.heap.size := World.block_lt_of_cell? _ _ c10; have hlt0 : w.heap.size < w1.heap.size := Nat.lt_of_succ_lt hlt; clear hu))
      have hd2 := HT.out _ HU1.out
      have HSS : Hid (Up w w1 ∧ w1.cell? ⟨w.heap.size, 0, none⟩ = some (.int .i64 g) ∧ w1.cell? ⟨w.heap.size, 1, none⟩ = some (.int .i64 v) ∧ w1.cell? ⟨w.heap.size, 2, none⟩ = some (.int .i64 q) ∧ w1.cell? ⟨w.heap.size, 3, none⟩ = some (.int .i64 c) ∧ w1.cell? ⟨w.heap.size, 4, none⟩ = some (.int .i64 now) ∧ w1.cell? ⟨w.heap.size, 5, none⟩ = some (.int .i64 1099511627776) ∧ w1.cell? ⟨w.heap.size, 6, none⟩ = some (.slice (some ⟨b, o, none⟩) n k) ∧ w1.cell? ⟨(w.heap.size + 1), 0, none⟩ = some (.int .i64 0) ∧ w1.cell? ⟨(w.heap.size + 1), 1, none⟩ = some (.int .i64 0) ∧ w1.cell? ⟨(w.heap.size + 1), 2, none⟩ = some (.int .i64 0) ∧ w1.cell? ⟨(w.heap.size + 1), 3, none⟩ = some (.int .i64 0) ∧ w1.cell? ⟨(w.heap.size + 1), 4, none⟩ = some (.int .i64 0) ∧ w1.cell? ⟨(w.heap.size + 1), 5, none⟩ = some (.int .i64 0) ∧ w1.cell? ⟨(w.heap.size + 1), 6, none⟩ = some (.slice none 0 0) ∧ w1.cell? ⟨b, o + 2, none⟩ = some (.int .i64 x0)) := Lib.hid ⟨HU1.out, c00, c01, c02, c03, c04, c05, c06, c10, c11, c12, c13, c14, c15, c16, hd2⟩
      clear hd2 HT
      go_wp2_with fail
      refine wp_region_held_drew (S := fun w' => Up w w' ∧ w'.cell? ⟨w.heap.size, 0, none⟩ = some (.int .i64 g) ∧ w'.cell? ⟨w.heap.size, 1, none⟩ = some (.int .i64 v) ∧ w'.cell? ⟨w.heap.size, 2, none⟩ = some (.int .i64 q) ∧ w'.cell? ⟨w.heap.size, 3, none⟩ = some (.int .i64 c) ∧ w'.cell? ⟨w.heap.size, 4, none⟩ = some (.int .i64 now) ∧ w'.cell? ⟨w.heap.size, 5, none⟩ = some (.int .i64 1099511627776) ∧ w'.cell? ⟨w.heap.size, 6, none⟩ = some (.slice (some ⟨b, o, none⟩) n k) ∧ w'.cell? ⟨(w.heap.size + 1), 0, none⟩ = some (.int .i64 0) ∧ w'.cell? ⟨(w.heap.size + 1), 1, none⟩ = some (.int .i64 0) ∧ w'.cell? ⟨(w.heap.size + 1), 2, none⟩ = some (.int .i64 0) ∧ w'.cell? ⟨(w.heap.size + 1), 3, none⟩ = some (.int .i64 0) ∧ w'.cell? ⟨(w.heap.size + 1), 4, none⟩ = some (.int .i64 0) ∧ w'.cell? ⟨(w.heap.size + 1), 5, none⟩ = some (.int .i64 0) ∧ w'.cell? ⟨(w.heap.size + 1), 6, none⟩ = some (.slice none 0 0) ∧ w'.cell? ⟨b, o + 2, none⟩ = some (.int .i64 x0)) (by kernel_rfl) ?hB505 (fun hHeld => ?_)
      case hB505 => (first | (with_reducible assumption) | (with_reducible exact keepK15 (Lib.hid (Up.refl _).drew) HSS.out))
      refine wpAnyH_take (i := 0) (oi := ⟨_, _, _, _, _, _⟩) (v := ?v506) rfl (by kernel_rfl) (by kernel_rfl) (by kernel_rfl) (fun _ _ _ h => h) (Or.inl ⟨by rfl, ?hy506⟩) (by assumption) ?_
      case hy506 => (intro w hSw; (try dsimp only at hSw); go_simp; (try (with_reducible rfl)))
      (try simp only [Act.put, List.setIfInBounds_toArray, List.set_cons_zero, List.set_cons_succ])
      refine wpAnyH_take (i := 1) (oi := ⟨_, _, _, _, _, _⟩) (v := ?v507) rfl (by kernel_rfl) (by kernel_rfl) (by kernel_rfl) (fun _ _ _ h => h) (Or.inl ⟨by rfl, ?hy507⟩) (by assumption) ?_
      case hy507 => (intro w hSw; (try dsimp only at hSw); go_simp; (try (with_reducible rfl)))
      (try simp only [Act.put, List.setIfInBounds_toArray, List.set_cons_zero, List.set_cons_succ])
      refine wpAnyH_take (i := 2) (oi := ⟨_, _, _, _, _, _⟩) (v := ?v508) rfl (by kernel_rfl) (by kernel_rfl) (by kernel_rfl) (fun _ _ _ h => h) (Or.inl ⟨by rfl, ?hy508⟩) (by assumption) ?_
      case hy508 => (intro w hSw; (try dsimp only at hSw); go_simp; (try (with_reducible rfl)))
      (try simp only [Act.put, List.setIfInBounds_toArray, List.set_cons_zero, List.set_cons_succ])
      refine wpAnyH_take (i := 3) (oi := ⟨_, _, _, _, _, _⟩) (v := ?v509) rfl (by kernel_rfl) (by kernel_rfl) (by kernel_rfl) (fun _ _ _ h => h) (Or.inl ⟨by rfl, ?hy509⟩) (by assumption) ?_
      case hy509 => (intro w hSw; (try dsimp only at hSw); go_simp; (try (with_reducible rfl)))
      (try simp only [Act.put, List.setIfInBounds_toArray, List.set_cons_zero, List.set_cons_succ])
      refine wpAnyH_take (i := 4) (oi := ⟨_, _, _, _, _, _⟩) (v := ?v510) rfl (by kernel_rfl) (by kernel_rfl) (by kernel_rfl) (fun _ _ _ h => h) (Or.inl ⟨by rfl, ?hy510⟩) (by assumption) ?_
      case hy510 => (intro w hSw; (try dsimp only at hSw); go_simp; (try (with_reducible rfl)))
      (try simp only [Act.put, List.setIfInBounds_toArray, List.set_cons_zero, List.set_cons_succ])
      refine wpAnyH_take (i := 5) (oi := ⟨_, _, _, _, _, _⟩) (v := ?v511) rfl (by kernel_rfl) (by kernel_rfl) (by kernel_rfl) (fun _ _ _ h => h) (Or.inl ⟨by rfl, ?hy511⟩) (by assumption) ?_
      case hy511 => (intro w hSw; (try dsimp only at hSw); go_simp; (try (with_reducible rfl)))
      (try simp only [Act.put, List.setIfInBounds_toArray, List.set_cons_zero, List.set_cons_succ])
      refine wpAnyH_take (i := 6) (oi := ⟨_, _, _, _, _, _⟩) (v := ?v512) rfl (by kernel_rfl) (by kernel_rfl) (by kernel_rfl) (fun _ _ _ h => h) (Or.inl ⟨by rfl, ?hy512⟩) (by assumption) ?_
      case hy512 => (intro w hSw; (try dsimp only at hSw); go_simp; (try (with_reducible rfl)))
      (try simp only [Act.put, List.setIfInBounds_toArray, List.set_cons_zero, List.set_cons_succ])
      refine wpAnyH_take (i := 7) (oi := ⟨_, _, _, _, _, _⟩) (v := ?v513) rfl (by kernel_rfl) (by kernel_rfl) (by kernel_rfl) (fun _ _ _ h => h) (Or.inl ⟨by rfl, ?hy513⟩) (by assumption) ?_
      case hy513 => (intro w hSw; (try dsimp only at hSw); go_simp; (try (with_reducible rfl)))
      (try simp only [Act.put, List.setIfInBounds_toArray, List.set_cons_zero, List.set_cons_succ])
      refine wpAnyH_take (i := 8) (oi := ⟨_, _, _, _, _, _⟩) (v := ?v514) rfl (by kernel_rfl) (by kernel_rfl) (by kernel_rfl) (fun _ _ _ h => h) (Or.inl ⟨by rfl, ?hy514⟩) (by assumption) ?_
      case hy514 => (intro w hSw; (try dsimp only at hSw); go_simp; (try (with_reducible rfl)))
      (try simp only [Act.put, List.setIfInBounds_toArray, List.set_cons_zero, List.set_cons_succ])
      refine wpAnyH_take (i := 9) (oi := ⟨_, _, _, _, _, _⟩) (v := ?v515) rfl (by kernel_rfl) (by kernel_rfl) (by kernel_rfl) (fun _ _ _ h => h) (Or.inl ⟨by rfl, ?hy515⟩) (by assumption) ?_
      case hy515 => (intro w hSw; (try dsimp only at hSw); go_simp; (try (with_reducible rfl)))
      (try simp only [Act.put, List.setIfInBounds_toArray, List.set_cons_zero, List.set_cons_succ])
      refine wpAnyH_take (i := 10) (oi := ⟨_, _, _, _, _, _⟩) (v := ?v516) rfl (by kernel_rfl) (by kernel_rfl) (by kernel_rfl) (fun _ _ _ h => h) (Or.inl ⟨by rfl, ?hy516⟩) (by assumption) ?_
      case hy516 => (intro w hSw; (try dsimp only at hSw); go_simp; (try (with_reducible rfl)))
      (try simp only [Act.put, List.setIfInBounds_toArray, List.set_cons_zero, List.set_cons_succ])
      refine wpAnyH_take (i := 11) (oi := ⟨_, _, _, _, _, _⟩) (v := ?v517) rfl (by kernel_rfl) (by kernel_rfl) (by kernel_rfl) (fun _ _ _ h => h) (Or.inl ⟨by rfl, ?hy517⟩) (by assumption) ?_
      case hy517 => (intro w hSw; (try dsimp only at hSw); go_simp; (try (with_reducible rfl)))
      (try simp only [Act.put, List.setIfInBounds_toArray, List.set_cons_zero, List.set_cons_succ])
      refine wpAnyH_take (i := 12) (oi := ⟨_, _, _, _, _, _⟩) (v := ?v518) rfl (by kernel_rfl) (by kernel_rfl) (by kernel_rfl) (fun _ _ _ h => h) (Or.inl ⟨by rfl, ?hy518⟩) (by assumption) ?_
      case hy518 => (intro w hSw; (try dsimp only at hSw); go_simp; (try (with_reducible rfl)))
      (try simp only [Act.put, List.setIfInBounds_toArray, List.set_cons_zero, List.set_cons_succ])
      refine wpAnyH_take (i := 13) (oi := ⟨_, _, _, _, _, _⟩) (v := ?v519) rfl (by kernel_rfl) (by kernel_rfl) (by kernel_rfl) (fun _ _ _ h => h) (Or.inl ⟨by rfl, ?hy519⟩) (by assumption) ?_
      case hy519 => (intro w hSw; (try dsimp only at hSw); go_simp; (try (with_reducible rfl)))
      (try simp only [Act.put, List.setIfInBounds_toArray, List.set_cons_zero, List.set_cons_succ])
      refine wpAnyH_take (i := 14) (oi := ⟨_, _, _, _, _, _⟩) (v := ?v520) rfl (by kernel_rfl) (by kernel_rfl) (by kernel_rfl) (fun _ _ _ h => h) (Or.inl ⟨by rfl, ?hy520⟩) (by assumption) ?_
      case hy520 => (intro w hSw; (try dsimp only at hSw); go_simp; (try (with_reducible rfl)))
      (try simp only [Act.put, List.setIfInBounds_toArray, List.set_cons_zero, List.set_cons_succ])
      refine wpAnyH_take (i := 15) (oi := ⟨_, _, _, _, _, _⟩) (v := ?v521) rfl (by kernel_rfl) (by kernel_rfl) (by kernel_rfl) (fun _ _ _ h => h) (Or.inl ⟨by rfl, ?hy521⟩) (by assumption) ?_
      case hy521 => (intro w hSw; (try dsimp only at hSw); go_simp; (try (with_reducible rfl)))
      (try simp only [Act.put, List.setIfInBounds_toArray, List.set_cons_zero, List.set_cons_succ])
      refine wpAnyH_take (i := 16) (oi := ⟨_, _, _, _, _, _⟩) (v := ?v522) rfl (by kernel_rfl) (by kernel_rfl) (by kernel_rfl) (fun _ _ _ h => h) (Or.inl ⟨by rfl, ?hy522⟩) (by assumption) ?_
      case hy522 => (intro w hSw; (try dsimp only at hSw); go_simp; (try (with_reducible rfl)))
      (try simp only [Act.put, List.setIfInBounds_toArray, List.set_cons_zero, List.set_cons_succ])
      refine wpAnyH_take (i := 17) (oi := ⟨_, _, _, _, _, _⟩) (v := ?v523) rfl (by kernel_rfl) (by kernel_rfl) (by kernel_rfl) (fun _ _ _ h => h) (Or.inl ⟨by rfl, ?hy523⟩) (by assumption) ?_
      case hy523 => (intro w hSw; (try dsimp only at hSw); go_simp; (try (with_reducible rfl)))
      (try simp only [Act.put, List.setIfInBounds_toArray, List.set_cons_zero, List.set_cons_succ])
      refine wpAnyH_take (i := 18) (oi := ⟨_, _, _, _, _, _⟩) (v := ?v524) rfl (by kernel_rfl) (by kernel_rfl) (by kernel_rfl) (fun _ _ _ h => h) (Or.inl ⟨by rfl, ?hy524⟩) (by assumption) ?_
      case hy524 => (intro w hSw; (try dsimp only at hSw); go_simp; (try (with_reducible rfl)))
      (try simp only [Act.put, List.setIfInBounds_toArray, List.set_cons_zero, List.set_cons_succ])
      refine wpAnyH_done (by kernel_rfl) ?_ _
      (try clear hHeld)
      (repeat clear ‹Up w _ ∧ _›)
      go_wp2_with fail
      refine bodyPost_ret (v := .tuple #[.agg #[.int .i64 0, .int .i64 0, .int .i64 0, .int .i64 0, .int .i64 0, .int .i64 0, .slice none 0 0], .int .i64 5]) (by simp [results, Try.results27, go_sem, c10, c11, c12, c13, c14, c15, c16]) rfl ⟨rfl, ?_⟩
      exact (HU1.out.set7 (by omega)).drew
  · obtain rfl : seq = 1099511627776 := HF.out.elim (fun h => absurd h.1 h0) id
    have t1 : decide ((0 : Int) < n) = false := decide_eq_false (by omega)
    have t1n : decide (0 < n) = false := decide_eq_false h0
    have t1p : (0 < n) = False := eq_false h0
    clear HF h0
    go_enter Try.func27, Try.ntmps27
    go_upto_region 6 with (first | (go_at_call 73; (with_reducible refine (KI.out _).mono ?_); rintro e w2 ⟨rfl, rfl⟩) | (go_at_call 23; (with_reducible refine (KV.out _ (HS.out.up (((Up.refl w).alloc _ _).alloc _ _))).mono ?_); rintro e w1 ⟨rfl, hu⟩; have HU1 := Lib.hid ((((Up.refl w).alloc #[.int .i64 g, .int .i64 v, .int .i64 q, .int .i64 c, .int .i64 now, .int .i64 1099511627776, .slice A n k] 26).alloc #[.int .i64 0, .int .i64 0, .int .i64 0, .int .i64 0, .int .i64 0, .int .i64 0, .slice none 0 0] 26).trans hu); have c00 := hu.keep (w.heap.size) 0 (.int .i64 g) (by simp [go_sem]); have c01 := hu.keep (w.heap.size) 1 (.int .i64 v) (by simp [go_sem]); have c02 := hu.keep (w.heap.size) 2 (.int .i64 q) (by simp [go_sem]); have c03 := hu.keep (w.heap.size) 3 (.int .i64 c) (by simp [go_sem]); have c04 := hu.keep (w.heap.size) 4 (.int .i64 now) (by simp [go_sem]); have c05 := hu.keep (w.heap.size) 5 (.int .i64 1099511627776) (by simp [go_sem]); have c06 := hu.keep (w.heap.size) 6 (.slice A n k) (by simp [go_sem]); have c10 := hu.keep (w.heap.size + 1) 0 (.int .i64 0) (by simp [go_sem]); have c11 := hu.keep (w.heap.size + 1) 1 (.int .i64 0) (by simp [go_sem]); have c12 := hu.keep (w.heap.size + 1) 2 (.int .i64 0) (by simp [go_sem]); have c13 := hu.keep (w.heap.size + 1) 3 (.int .i64 0) (by simp [go_sem]); have c14 := hu.keep (w.heap.size + 1) 4 (.int .i64 0) (by simp [go_sem]); have c15 := hu.keep (w.heap.size + 1) 5 (.int .i64 0) (by simp [go_sem]); have c16 := hu.keep (w.heap.size + 1) 6 (.slice none 0 0) (by simp [go_sem]); have z00 := HU1.out.ownGe (g := w.heap.size) (Nat.le_refl _) 0; have z01 := HU1.out.ownGe (g := w.heap.size) (Nat.le_refl _) 1; have z02 := HU1.out.ownGe (g := w.heap.size) (Nat.le_refl _) 2; have z03 := HU1.out.ownGe (g := w.heap.size) (Nat.le_refl _) 3; have z04 := HU1.out.ownGe (g := w.heap.size) (Nat.le_refl _) 4; have z05 := HU1.out.ownGe (g := w.heap.size) (Nat.le_refl _) 5; have z06 := HU1.out.ownGe (g := w.heap.size) (Nat.le_refl _) 6; have z10 := HU1.out.ownGe (g := w.heap.size + 1) (by omega) 0; have z11 := HU1.out.ownGe (g := w.heap.size + 1) (by omega) 1; have z12 := HU1.out.ownGe (g := w.heap.size + 1) (by omega) 2; have z13 := HU1.out.ownGe (g := w.heap.size + 1) (by omega) 3; have z14 := HU1.out.ownGe (g := w.heap.size + 1) (by omega) 4; have z15 := HU1.out.ownGe (g := w.heap.size + 1) (by omega) 5; have z16 := HU1.out.ownGe (g := w.heap.size + 1) (by omega) 6; have hlt : w.heap.size + 1 < w1.heap.size := World.block_lt_of_cell? _ _ c10; have hlt0 : w.heap.size < w1.heap.size := Nat.lt_of_succ_lt hlt; clear hu))
    have HSS : Hid (Up w w1 ∧ w1.cell? ⟨w.heap.size, 0, none⟩ = some (.int .i64 g) ∧ w1.cell? ⟨w.heap.size, 1, none⟩ = some (.int .i64 v) ∧ w1.cell? ⟨w.heap.size, 2, none⟩ = some (.int .i64 q) ∧ w1.cell? ⟨w.heap.size, 3, none⟩ = some (.int .i64 c) ∧ w1.cell? ⟨w.heap.size, 4, none⟩ = some (.int .i64 now) ∧ w1.cell? ⟨w.heap.size, 5, none⟩ = some (.int .i64 1099511627776) ∧ w1.cell? ⟨w.heap.size, 6, none⟩ = some (.slice A n k) ∧ w1.cell? ⟨(w.heap.size + 1), 0, none⟩ = some (.int .i64 0) ∧ w1.cell? ⟨(w.heap.size + 1), 1, none⟩ = some (.int .i64 0) ∧ w1.cell? ⟨(w.heap.size + 1), 2, none⟩ = some (.int .i64 0) ∧ w1.cell? ⟨(w.heap.size + 1), 3, none⟩ = some (.int .i64 0) ∧ w1.cell? ⟨(w.heap.size + 1), 4, none⟩ = some (.int .i64 0) ∧ w1.cell? ⟨(w.heap.size + 1), 5, none⟩ = some (.int .i64 0) ∧ w1.cell? ⟨(w.heap.size + 1), 6, none⟩ = some (.slice none 0 0)) := Lib.hid ⟨HU1.out, c00, c01, c02, c03, c04, c05, c06, c10, c11, c12, c13, c14, c15, c16⟩
    skip
    go_wp2_with fail
    refine wp_region_held_drew (S := fun w' => Up w w' ∧ w'.cell? ⟨w.heap.size, 0, none⟩ = some (.int .i64 g) ∧ w'.cell? ⟨w.heap.size, 1, none⟩ = some (.int .i64 v) ∧ w'.cell? ⟨w.heap.size, 2, none⟩ = some (.int .i64 q) ∧ w'.cell? ⟨w.heap.size, 3, none⟩ = some (.int .i64 c) ∧ w'.cell? ⟨w.heap.size, 4, none⟩ = some (.int .i64 now) ∧ w'.cell? ⟨w.heap.size, 5, none⟩ = some (.int .i64 1099511627776) ∧ w'.cell? ⟨w.heap.size, 6, none⟩ = some (.slice A n k) ∧ w'.cell? ⟨(w.heap.size + 1), 0, none⟩ = some (.int .i64 0) ∧ w'.cell? ⟨(w.heap.size + 1), 1, none⟩ = some (.int .i64 0) ∧ w'.cell? ⟨(w.heap.size + 1), 2, none⟩ = some (.int .i64 0) ∧ w'.cell? ⟨(w.heap.size + 1), 3, none⟩ = some (.int .i64 0) ∧ w'.cell? ⟨(w.heap.size + 1), 4, none⟩ = some (.int .i64 0) ∧ w'.cell? ⟨(w.heap.size + 1), 5, none⟩ = some (.int .i64 0) ∧ w'.cell? ⟨(w.heap.size + 1), 6, none⟩ = some (.slice none 0 0)) (by kernel_rfl) ?hB525 (fun hHeld => ?_)
    case hB525 => (first | (with_reducible assumption) | (with_reducible exact keepK14 (Lib.hid (Up.refl _).drew) HSS.out))
    refine wpAnyH_take (i := 0) (oi := ⟨_, _, _, _, _, _⟩) (v := ?v526) rfl (by kernel_rfl) (by kernel_rfl) (by kernel_rfl) (fun _ _ _ h => h) (Or.inl ⟨by rfl, ?hy526⟩) (by assumption) ?_
    case hy526 => (intro w hSw; (try dsimp only at hSw); go_simp; (try (with_reducible rfl)))
    (try simp only [Act.put, List.setIfInBounds_toArray, List.set_cons_zero, List.set_cons_succ])
    refine wpAnyH_take (i := 1) (oi := ⟨_, _, _, _, _, _⟩) (v := ?v527) rfl (by kernel_rfl) (by kernel_rfl) (by kernel_rfl) (fun _ _ _ h => h) (Or.inl ⟨by rfl, ?hy527⟩) (by assumption) ?_
    case hy527 => (intro w hSw; (try dsimp only at hSw); go_simp; (try (with_reducible rfl)))
    (try simp only [Act.put, List.setIfInBounds_toArray, List.set_cons_zero, List.set_cons_succ])
    refine wpAnyH_take (i := 2) (oi := ⟨_, _, _, _, _, _⟩) (v := ?v528) rfl (by kernel_rfl) (by kernel_rfl) (by kernel_rfl) (fun _ _ _ h => h) (Or.inl ⟨by rfl, ?hy528⟩) (by assumption) ?_
    case hy528 => (intro w hSw; (try dsimp only at hSw); go_simp; (try (with_reducible rfl)))
    (try simp only [Act.put, List.setIfInBounds_toArray, List.set_cons_zero, List.set_cons_succ])
    refine wpAnyH_take (i := 3) (oi := ⟨_, _, _, _, _, _⟩) (v := ?v529) rfl (by kernel_rfl) (by kernel_rfl) (by kernel_rfl) (fun _ _ _ h => h) (Or.inl ⟨by rfl, ?hy529⟩) (by assumption) ?_
    case hy529 => (intro w hSw; (try dsimp only at hSw); go_simp; (try (with_reducible rfl)))
    (try simp only [Act.put, List.setIfInBounds_toArray, List.set_cons_zero, List.set_cons_succ])
    refine wpAnyH_take (i := 4) (oi := ⟨_, _, _, _, _, _⟩) (v := ?v530) rfl (by kernel_rfl) (by kernel_rfl) (by kernel_rfl) (fun _ _ _ h => h) (Or.inl ⟨by rfl, ?hy530⟩) (by assumption) ?_
    case hy530 => (intro w hSw; (try dsimp only at hSw); go_simp; (try (with_reducible rfl)))
    (try simp only [Act.put, List.setIfInBounds_toArray, List.set_cons_zero, List.set_cons_succ])
    refine wpAnyH_take (i := 5) (oi := ⟨_, _, _, _, _, _⟩) (v := undef) rfl (by kernel_rfl) (by kernel_rfl) (by kernel_rfl) (fun _ _ _ h => h) (Or.inr ⟨by rfl, rfl⟩) (by assumption) ?_
    (try simp only [Act.put, List.setIfInBounds_toArray, List.set_cons_zero, List.set_cons_succ])
    refine wpAnyH_take (i := 6) (oi := ⟨_, _, _, _, _, _⟩) (v := undef) rfl (by kernel_rfl) (by kernel_rfl) (by kernel_rfl) (fun _ _ _ h => h) (Or.inr ⟨by rfl, rfl⟩) (by assumption) ?_
    (try simp only [Act.put, List.setIfInBounds_toArray, List.set_cons_zero, List.set_cons_succ])
    refine wpAnyH_take (i := 7) (oi := ⟨_, _, _, _, _, _⟩) (v := undef) rfl (by kernel_rfl) (by kernel_rfl) (by kernel_rfl) (fun _ _ _ h => h) (Or.inr ⟨by rfl, rfl⟩) (by assumption) ?_
    (try simp only [Act.put, List.setIfInBounds_toArray, List.set_cons_zero, List.set_cons_succ])
    refine wpAnyH_take (i := 8) (oi := ⟨_, _, _, _, _, _⟩) (v := undef) rfl (by kernel_rfl) (by kernel_rfl) (by kernel_rfl) (fun _ _ _ h => h) (Or.inr ⟨by rfl, rfl⟩) (by assumption) ?_
    (try simp only [Act.put, List.setIfInBounds_toArray, List.set_cons_zero, List.set_cons_succ])
    refine wpAnyH_take (i := 9) (oi := ⟨_, _, _, _, _, _⟩) (v := undef) rfl (by kernel_rfl) (by kernel_rfl) (by kernel_rfl) (fun _ _ _ h => h) (Or.inr ⟨by rfl, rfl⟩) (by assumption) ?_
    (try simp only [Act.put, List.setIfInBounds_toArray, List.set_cons_zero, List.set_cons_succ])
    refine wpAnyH_take (i := 10) (oi := ⟨_, _, _, _, _, _⟩) (v := undef) rfl (by kernel_rfl) (by kernel_rfl) (by kernel_rfl) (fun _ _ _ h => h) (Or.inr ⟨by rfl, rfl⟩) (by assumption) ?_
    (try simp only [Act.put, List.setIfInBounds_toArray, List.set_cons_zero, List.set_cons_succ])
    refine wpAnyH_take (i := 11) (oi := ⟨_, _, _, _, _, _⟩) (v := undef) rfl (by kernel_rfl) (by kernel_rfl) (by kernel_rfl) (fun _ _ _ h => h) (Or.inr ⟨by rfl, rfl⟩) (by assumption) ?_
    (try simp only [Act.put, List.setIfInBounds_toArray, List.set_cons_zero, List.set_cons_succ])
    refine wpAnyH_take (i := 12) (oi := ⟨_, _, _, _, _, _⟩) (v := undef) rfl (by kernel_rfl) (by kernel_rfl) (by kernel_rfl) (fun _ _ _ h => h) (Or.inr ⟨by rfl, rfl⟩) (by assumption) ?_
    (try simp only [Act.put, List.setIfInBounds_toArray, List.set_cons_zero, List.set_cons_succ])
    refine wpAnyH_take (i := 13) (oi := ⟨_, _, _, _, _, _⟩) (v := ?v531) rfl (by kernel_rfl) (by kernel_rfl) (by kernel_rfl) (fun _ _ _ h => h) (Or.inl ⟨by rfl, ?hy531⟩) (by assumption) ?_
    case hy531 => (intro w hSw; (try dsimp only at hSw); go_simp; (try (with_reducible rfl)))
    (try simp only [Act.put, List.setIfInBounds_toArray, List.set_cons_zero, List.set_cons_succ])
    refine wpAnyH_take (i := 14) (oi := ⟨_, _, _, _, _, _⟩) (v := ?v532) rfl (by kernel_rfl) (by kernel_rfl) (by kernel_rfl) (fun _ _ _ h => h) (Or.inl ⟨by rfl, ?hy532⟩) (by assumption) ?_
    case hy532 => (intro w hSw; (try dsimp only at hSw); go_simp; (try (with_reducible rfl)))
    (try simp only [Act.put, List.setIfInBounds_toArray, List.set_cons_zero, List.set_cons_succ])
    refine wpAnyH_take (i := 15) (oi := ⟨_, _, _, _, _, _⟩) (v := ?v533) rfl (by kernel_rfl) (by kernel_rfl) (by kernel_rfl) (fun _ _ _ h => h) (Or.inl ⟨by rfl, ?hy533⟩) (by assumption) ?_
    case hy533 => (intro w hSw; (try dsimp only at hSw); go_simp; (try (with_reducible rfl)))
    (try simp only [Act.put, List.setIfInBounds_toArray, List.set_cons_zero, List.set_cons_succ])
    refine wpAnyH_take (i := 16) (oi := ⟨_, _, _, _, _, _⟩) (v := ?v534) rfl (by kernel_rfl) (by kernel_rfl) (by kernel_rfl) (fun _ _ _ h => h) (Or.inl ⟨by rfl, ?hy534⟩) (by assumption) ?_
    case hy534 => (intro w hSw; (try dsimp only at hSw); go_simp; (try (with_reducible rfl)))
    (try simp only [Act.put, List.setIfInBounds_toArray, List.set_cons_zero, List.set_cons_succ])
    refine wpAnyH_take (i := 17) (oi := ⟨_, _, _, _, _, _⟩) (v := ?v535) rfl (by kernel_rfl) (by kernel_rfl) (by kernel_rfl) (fun _ _ _ h => h) (Or.inl ⟨by rfl, ?hy535⟩) (by assumption) ?_
    case hy535 => (intro w hSw; (try dsimp only at hSw); go_simp; (try (with_reducible rfl)))
    (try simp only [Act.put, List.setIfInBounds_toArray, List.set_cons_zero, List.set_cons_succ])
    refine wpAnyH_take (i := 18) (oi := ⟨_, _, _, _, _, _⟩) (v := ?v536) rfl (by kernel_rfl) (by kernel_rfl) (by kernel_rfl) (fun _ _ _ h => h) (Or.inl ⟨by rfl, ?hy536⟩) (by assumption) ?_
    case hy536 => (intro w hSw; (try dsimp only at hSw); go_simp; (try (with_reducible rfl)))
    (try simp only [Act.put, List.setIfInBounds_toArray, List.set_cons_zero, List.set_cons_succ])
    refine wpAnyH_done (by kernel_rfl) ?_ _
    (try clear hHeld)
    (repeat clear ‹Up w _ ∧ _›)
    go_wp2_with fail
    refine bodyPost_ret (v := .tuple #[.agg #[.int .i64 0, .int .i64 0, .int .i64 0, .int .i64 0, .int .i64 0, .int .i64 0, .slice none 0 0], .int .i64 5]) (by simp [results, Try.results27, go_sem, c10, c11, c12, c13, c14, c15, c16]) rfl ⟨rfl, ?_⟩
    exact (HU1.out.set7 (by omega)).drew

set_option maxHeartbeats 4000000 in
set_option maxRecDepth 100000 in
theorem radd13_good_pos (g v q c now seq d : Int) (n k : Nat) (A : Option Addr) (X : List Mrk) (hn : n ≤ 50000) (hk : n ≤ k) (h0 : 0 < n) (hv : stM g v q c now seq X = true) (hd : valG g d) (hf : fuM c seq X = false) (w : World) (hS : SG cM w A n X) :
    Calls Try.prog 27 #[.agg #[.int .i64 g, .int .i64 v, .int .i64 q, .int .i64 c, .int .i64 now, .int .i64 seq, .slice A n k], .int .i64 d] w fun e w' => ∃ A' n' k', e = .returned (.tuple #[.agg #[.int .i64 g, .int .i64 v, .int .i64 q, .int .i64 c, .int .i64 now, .int .i64 (seq + 1), .slice A' n' k'], .int .i64 0]) ∧ n' ≤ n + 1 ∧ n' ≤ k' ∧ Up w w' ∧ SG cM w' A' n' (adM g q seq now d X) := by
  have HL := Lib.hid hS.1
  have KV := Lib.hid (fun W (h : SG cM W A n X) => rvalidate13_up g v q c now seq n k A X hn W h)
  rw [stME_yes hv] at KV
  have HS := Lib.hid hS
  have KI := Lib.hid (rvalue13_any g d)
  rw [decide_eq_true hd] at KI
  have HQ : Hid (1 ≤ q ∧ q ≤ 64) := Lib.hid (mayC_true (stM_may hv)).2
  have HD : Hid (∀ j, j < n → bdM (X.getD j mk0)) := Lib.hid (by
    obtain ⟨hm, hx, _⟩ := stM_true hv
    obtain ⟨g1, g2, hc, g4⟩ := mayC_facts (mayM_true hm).2
    obtain ⟨hs2, hok⟩ := mrkB_true hx
    exact fun j hj => (hok j (by rw [hS.1]; exact hj)).bd hc.2 hs2.2)
  have HI : Hid (∀ j, j < n + 1 → bdG g ((inM (seq + 1) now d X).getD j mk0)) := Lib.hid (by
    obtain ⟨hm, hx, _⟩ := stM_true hv
    obtain ⟨hg, hm2⟩ := mayM_true hm
    obtain ⟨g1, g2, hc, g4⟩ := mayC_facts hm2
    obtain ⟨hs2, hok⟩ := mrkB_true hx
    intro j hj
    refine ⟨inM_bd hg hc.2 hs2.2 hok hd (by rw [hS.1]; exact hj), ?_⟩
    by_cases hjn : j < n
    · rw [inM_get (by rw [hS.1]; exact hjn)]
      obtain ⟨_, _, _, ⟨l1, l2⟩, ⟨l3, l4⟩, _⟩ := HD.out j hjn
      obtain ⟨d1, d2, _⟩ := hd
      show In (min _ d) ∧ In (max _ d)
      have p1 := min_b l1 l2 d1 d2
      have p2 := min_b l3 l4 d1 d2
      exact ⟨⟨by omega, by omega⟩, ⟨by omega, by omega⟩⟩
    · obtain rfl : j = X.length := by rw [hS.1]; omega
      rw [inM_last]
      obtain ⟨d1, d2, _⟩ := hd
      exact ⟨⟨by show _ ≤ d; omega, by show d ≤ _; omega⟩, ⟨by show _ ≤ d; omega, by show d ≤ _; omega⟩⟩)
  have HAN : Hid (∀ i j, i ≤ j → j < n + 1 → ofZ g ((inM (seq + 1) now d X).getD j mk0) ≤ ofZ g ((inM (seq + 1) now d X).getD i mk0)) := Lib.hid (by
    obtain ⟨hm, hx, _⟩ := stM_true hv
    obtain ⟨hs2, hok⟩ := mrkB_true hx
    exact fun i j hij hj => inM_anti (mayM_true hm).1 hok hd hij (by rw [hS.1]; exact hj))
  have w5_ : IntKind.i64.wrap (seq + 1) = seq + 1 := by
    obtain ⟨_, hx, _⟩ := stM_true hv
    obtain ⟨hs2, _⟩ := mrkB_true hx
    rw [IntKind.wrap_i64]; omega
  have KE := Lib.hid (fun W (h : Up w W) => rinclude_up n k A X (seq + 1) now d hn HD.out hd.1 hd.2.1 W (hS.up h))
  have HZ : Hid (prL (clM g q) (n + 1) (inM (seq + 1) now d X) = adM g q seq now d X) := Lib.hid (by rw [← HL.out]; rfl)
  have HI2 : Hid (∀ x ∈ inM (seq + 1) now d X, bdG g x) := Lib.hid (fun x hx => by
    obtain ⟨j, hj, e⟩ := mem_getD hx
    rw [inM_len, HL.out] at hj
    rw [← e]; exact HI.out j hj)
  clear HD HI HAN
  generalize adM g q seq now d X = Z at *
  generalize inM (seq + 1) now d X = M3 at *
  have w6_ : IntKind.i64.wrap (q + 1) = q + 1 := by have := HQ.out; rw [IntKind.wrap_i64]; omega
  have HSn := Lib.hid hS
  clear hS hv hd
  obtain ⟨b, o, rfl, _⟩ := mrk_at HSn.out mk0 h0
  have HF : Hid ((X.getD 0 mk0).n ≠ c ∧ seq ≠ 1099511627776) := Lib.hid (by
    unfold fuM at hf
    rw [HSn.out.1, Bool.or_eq_false_iff, Bool.and_eq_false_iff, decide_eq_false_iff_not, decide_eq_false_iff_not, decide_eq_false_iff_not] at hf
    exact ⟨hf.1.elim (fun h2 => absurd h0 h2) id, hf.2⟩)
  clear hf
  have t2 : (seq == 1099511627776) = false := beq_eq_false_iff_ne.2 HF.out.2
  have t3 : ((X.getD 0 mk0).n == c) = false := beq_eq_false_iff_ne.2 HF.out.1
  have HT := Lib.hid (fun W (h : Up w W) => (mrk_prev (HSn.out.up h) h0).2.2.1)
  clear HF
  generalize (X.getD 0 mk0).n = x0 at *
  have f20 : (0 : Int) < n := by omega
  simp only [Nat.zero_mul, Nat.add_zero] at HT
  go_enter Try.func27, Try.ntmps27
  go_upto_region 6 with (first | (go_at_call 73; (with_reducible refine (KI.out _).mono ?_); rintro e w2 ⟨rfl, rfl⟩) | (go_at_call 23; (with_reducible refine (KV.out _ (HS.out.up (((Up.refl w).alloc _ _).alloc _ _))).mono ?_); rintro e w1 ⟨rfl, hu⟩; have HU1 := Lib.hid ((((Up.refl w).alloc #[.int .i64 g, .int .i64 v, .int .i64 q, .int .i64 c, .int .i64 now, .int .i64 seq, .slice (some ⟨b, o, none⟩) n k] 26).alloc #[.int .i64 0, .int .i64 0, .int .i64 0, .int .i64 0, .int .i64 0, .int .i64 0, .slice none 0 0] 26).trans hu); have c00 := hu.keep (w.heap.size) 0 (.int .i64 g) (by simp [go_sem]); have c01 := hu.keep (w.heap.size) 1 (.int .i64 v) (by simp [go_sem]); have c02 := hu.keep (w.heap.size) 2 (.int .i64 q) (by simp [go_sem]); have c03 := hu.keep (w.heap.size) 3 (.int .i64 c) (by simp [go_sem]); have c04 := hu.keep (w.heap.size) 4 (.int .i64 now) (by simp [go_sem]); have c05 := hu.keep (w.heap.size) 5 (.int .i64 seq) (by simp [go_sem]); have c06 := hu.keep (w.heap.size) 6 (.slice (some ⟨b, o, none⟩) n k) (by simp [go_sem]); have c10 := hu.keep (w.heap.size + 1) 0 (.int .i64 0) (by simp [go_sem]); have c11 := hu.keep (w.heap.size + 1) 1 (.int .i64 0) (by simp [go_sem]); have c12 := hu.keep (w.heap.size + 1) 2 (.int .i64 0) (by simp [go_sem]); have c13 := hu.keep (w.heap.size + 1) 3 (.int .i64 0) (by simp [go_sem]); have c14 := hu.keep (w.heap.size + 1) 4 (.int .i64 0) (by simp [go_sem]); have c15 := hu.keep (w.heap.size + 1) 5 (.int .i64 0) (by simp [go_sem]); have c16 := hu.keep (w.heap.size + 1) 6 (.slice none 0 0) (by simp [go_sem]); have z00 := HU1.out.ownGe (g := w.heap.size) (Nat.le_refl _) 0; have z01 := HU1.out.ownGe (g := w.heap.size) (Nat.le_refl _) 1; have z02 := HU1.out.ownGe (g := w.heap.size) (Nat.le_refl _) 2; have z03 := HU1.out.ownGe (g := w.heap.size) (Nat.le_refl _) 3; have z04 := HU1.out.ownGe (g := w.heap.size) (Nat.le_refl _) 4; have z05 := HU1.out.ownGe (g := w.heap.size) (Nat.le_refl _) 5; have z06 := HU1.out.ownGe (g := w.heap.size) (Nat.le_refl _) 6; have z10 := HU1.out.ownGe (g := w.heap.size + 1) (by omega) 0; have z11 := HU1.out.ownGe (g := w.heap.size + 1) (by omega) 1; have z12 := HU1.out.ownGe (g := w.heap.size + 1) (by omega) 2; have z13 := HU1.out.ownGe (g := w.heap.size + 1) (by omega) 3; have z14 := HU1.out.ownGe (g := w.heap.size + 1) (by omega) 4; have z15 := HU1.out.ownGe (g := w.heap.size + 1) (by omega) 5; have z16 := HU1.out.ownGe (g := w.heap.size + 1) (by omega) 6; have hlt : w.heap.size + 1 < w1.heap.size := World.block_lt_of_cell? _ _ c10; have hlt0 : w.heap.size < w1.heap.size := Nat.lt_of_succ_lt hlt; clear hu))
  have hd2 := HT.out _ HU1.out
  have HSS : Hid (Up w w1 ∧ w1.cell? ⟨w.heap.size, 0, none⟩ = some (.int .i64 g) ∧ w1.cell? ⟨w.heap.size, 1, none⟩ = some (.int .i64 v) ∧ w1.cell? ⟨w.heap.size, 2, none⟩ = some (.int .i64 q) ∧ w1.cell? ⟨w.heap.size, 3, none⟩ = some (.int .i64 c) ∧ w1.cell? ⟨w.heap.size, 4, none⟩ = some (.int .i64 now) ∧ w1.cell? ⟨w.heap.size, 5, none⟩ = some (.int .i64 seq) ∧ w1.cell? ⟨w.heap.size, 6, none⟩ = some (.slice (some ⟨b, o, none⟩) n k) ∧ w1.cell? ⟨(w.heap.size + 1), 0, none⟩ = some (.int .i64 0) ∧ w1.cell? ⟨(w.heap.size + 1), 1, none⟩ = some (.int .i64 0) ∧ w1.cell? ⟨(w.heap.size + 1), 2, none⟩ = some (.int .i64 0) ∧ w1.cell? ⟨(w.heap.size + 1), 3, none⟩ = some (.int .i64 0) ∧ w1.cell? ⟨(w.heap.size + 1), 4, none⟩ = some (.int .i64 0) ∧ w1.cell? ⟨(w.heap.size + 1), 5, none⟩ = some (.int .i64 0) ∧ w1.cell? ⟨(w.heap.size + 1), 6, none⟩ = some (.slice none 0 0) ∧ w1.cell? ⟨b, o + 2, none⟩ = some (.int .i64 x0)) := Lib.hid ⟨HU1.out, c00, c01, c02, c03, c04, c05, c06, c10, c11, c12, c13, c14, c15, c16, hd2⟩
  clear hd2 HT
  go_wp2_with fail
  refine wp_region_held_drew (S := fun w' => Up w w' ∧ w'.cell? ⟨w.heap.size, 0, none⟩ = some (.int .i64 g) ∧ w'.cell? ⟨w.heap.size, 1, none⟩ = some (.int .i64 v) ∧ w'.cell? ⟨w.heap.size, 2, none⟩ = some (.int .i64 q) ∧ w'.cell? ⟨w.heap.size, 3, none⟩ = some (.int .i64 c) ∧ w'.cell? ⟨w.heap.size, 4, none⟩ = some (.int .i64 now) ∧ w'.cell? ⟨w.heap.size, 5, none⟩ = some (.int .i64 seq) ∧ w'.cell? ⟨w.heap.size, 6, none⟩ = some (.slice (some ⟨b, o, none⟩) n k) ∧ w'.cell? ⟨(w.heap.size + 1), 0, none⟩ = some (.int .i64 0) ∧ w'.cell? ⟨(w.heap.size + 1), 1, none⟩ = some (.int .i64 0) ∧ w'.cell? ⟨(w.heap.size + 1), 2, none⟩ = some (.int .i64 0) ∧ w'.cell? ⟨(w.heap.size + 1), 3, none⟩ = some (.int .i64 0) ∧ w'.cell? ⟨(w.heap.size + 1), 4, none⟩ = some (.int .i64 0) ∧ w'.cell? ⟨(w.heap.size + 1), 5, none⟩ = some (.int .i64 0) ∧ w'.cell? ⟨(w.heap.size + 1), 6, none⟩ = some (.slice none 0 0) ∧ w'.cell? ⟨b, o + 2, none⟩ = some (.int .i64 x0)) (by kernel_rfl) ?hB537 (fun hHeld => ?_)
  case hB537 => (first | (with_reducible assumption) | (with_reducible exact keepK15 (Lib.hid (Up.refl _).drew) HSS.out))
  refine wpAnyH_take (i := 0) (oi := ⟨_, _, _, _, _, _⟩) (v := ?v538) rfl (by kernel_rfl) (by kernel_rfl) (by kernel_rfl) (fun _ _ _ h => h) (Or.inl ⟨by rfl, ?hy538⟩) (by assumption) ?_
  case hy538 => (intro w hSw; (try dsimp only at hSw); go_simp; (try (with_reducible rfl)))
  (try simp only [Act.put, List.setIfInBounds_toArray, List.set_cons_zero, List.set_cons_succ])
  refine wpAnyH_take (i := 1) (oi := ⟨_, _, _, _, _, _⟩) (v := ?v539) rfl (by kernel_rfl) (by kernel_rfl) (by kernel_rfl) (fun _ _ _ h => h) (Or.inl ⟨by rfl, ?hy539⟩) (by assumption) ?_
  case hy539 => (intro w hSw; (try dsimp only at hSw); go_simp; (try (with_reducible rfl)))
  (try simp only [Act.put, List.setIfInBounds_toArray, List.set_cons_zero, List.set_cons_succ])
  refine wpAnyH_take (i := 2) (oi := ⟨_, _, _, _, _, _⟩) (v := ?v540) rfl (by kernel_rfl) (by kernel_rfl) (by kernel_rfl) (fun _ _ _ h => h) (Or.inl ⟨by rfl, ?hy540⟩) (by assumption) ?_
  case hy540 => (intro w hSw; (try dsimp only at hSw); go_simp; (try (with_reducible rfl)))
  (try simp only [Act.put, List.setIfInBounds_toArray, List.set_cons_zero, List.set_cons_succ])
  refine wpAnyH_take (i := 3) (oi := ⟨_, _, _, _, _, _⟩) (v := ?v541) rfl (by kernel_rfl) (by kernel_rfl) (by kernel_rfl) (fun _ _ _ h => h) (Or.inl ⟨by rfl, ?hy541⟩) (by assumption) ?_
  case hy541 => (intro w hSw; (try dsimp only at hSw); go_simp; (try (with_reducible rfl)))
  (try simp only [Act.put, List.setIfInBounds_toArray, List.set_cons_zero, List.set_cons_succ])
  refine wpAnyH_take (i := 4) (oi := ⟨_, _, _, _, _, _⟩) (v := ?v542) rfl (by kernel_rfl) (by kernel_rfl) (by kernel_rfl) (fun _ _ _ h => h) (Or.inl ⟨by rfl, ?hy542⟩) (by assumption) ?_
  case hy542 => (intro w hSw; (try dsimp only at hSw); go_simp; (try (with_reducible rfl)))
  (try simp only [Act.put, List.setIfInBounds_toArray, List.set_cons_zero, List.set_cons_succ])
  refine wpAnyH_take (i := 5) (oi := ⟨_, _, _, _, _, _⟩) (v := ?v543) rfl (by kernel_rfl) (by kernel_rfl) (by kernel_rfl) (fun _ _ _ h => h) (Or.inl ⟨by rfl, ?hy543⟩) (by assumption) ?_
  case hy543 => (intro w hSw; (try dsimp only at hSw); go_simp; (try (with_reducible rfl)))
  (try simp only [Act.put, List.setIfInBounds_toArray, List.set_cons_zero, List.set_cons_succ])
  refine wpAnyH_take (i := 6) (oi := ⟨_, _, _, _, _, _⟩) (v := ?v544) rfl (by kernel_rfl) (by kernel_rfl) (by kernel_rfl) (fun _ _ _ h => h) (Or.inl ⟨by rfl, ?hy544⟩) (by assumption) ?_
  case hy544 => (intro w hSw; (try dsimp only at hSw); go_simp; (try (with_reducible rfl)))
  (try simp only [Act.put, List.setIfInBounds_toArray, List.set_cons_zero, List.set_cons_succ])
  refine wpAnyH_take (i := 7) (oi := ⟨_, _, _, _, _, _⟩) (v := ?v545) rfl (by kernel_rfl) (by kernel_rfl) (by kernel_rfl) (fun _ _ _ h => h) (Or.inl ⟨by rfl, ?hy545⟩) (by assumption) ?_
  case hy545 => (intro w hSw; (try dsimp only at hSw); go_simp; (try (with_reducible rfl)))
  (try simp only [Act.put, List.setIfInBounds_toArray, List.set_cons_zero, List.set_cons_succ])
  refine wpAnyH_take (i := 8) (oi := ⟨_, _, _, _, _, _⟩) (v := ?v546) rfl (by kernel_rfl) (by kernel_rfl) (by kernel_rfl) (fun _ _ _ h => h) (Or.inl ⟨by rfl, ?hy546⟩) (by assumption) ?_
  case hy546 => (intro w hSw; (try dsimp only at hSw); go_simp; (try (with_reducible rfl)))
  (try simp only [Act.put, List.setIfInBounds_toArray, List.set_cons_zero, List.set_cons_succ])
  refine wpAnyH_take (i := 9) (oi := ⟨_, _, _, _, _, _⟩) (v := ?v547) rfl (by kernel_rfl) (by kernel_rfl) (by kernel_rfl) (fun _ _ _ h => h) (Or.inl ⟨by rfl, ?hy547⟩) (by assumption) ?_
  case hy547 => (intro w hSw; (try dsimp only at hSw); go_simp; (try (with_reducible rfl)))
  (try simp only [Act.put, List.setIfInBounds_toArray, List.set_cons_zero, List.set_cons_succ])
  refine wpAnyH_take (i := 10) (oi := ⟨_, _, _, _, _, _⟩) (v := ?v548) rfl (by kernel_rfl) (by kernel_rfl) (by kernel_rfl) (fun _ _ _ h => h) (Or.inl ⟨by rfl, ?hy548⟩) (by assumption) ?_
  case hy548 => (intro w hSw; (try dsimp only at hSw); go_simp; (try (with_reducible rfl)))
  (try simp only [Act.put, List.setIfInBounds_toArray, List.set_cons_zero, List.set_cons_succ])
  refine wpAnyH_take (i := 11) (oi := ⟨_, _, _, _, _, _⟩) (v := ?v549) rfl (by kernel_rfl) (by kernel_rfl) (by kernel_rfl) (fun _ _ _ h => h) (Or.inl ⟨by rfl, ?hy549⟩) (by assumption) ?_
  case hy549 => (intro w hSw; (try dsimp only at hSw); go_simp; (try (with_reducible rfl)))
  (try simp only [Act.put, List.setIfInBounds_toArray, List.set_cons_zero, List.set_cons_succ])
  refine wpAnyH_take (i := 12) (oi := ⟨_, _, _, _, _, _⟩) (v := ?v550) rfl (by kernel_rfl) (by kernel_rfl) (by kernel_rfl) (fun _ _ _ h => h) (Or.inl ⟨by rfl, ?hy550⟩) (by assumption) ?_
  case hy550 => (intro w hSw; (try dsimp only at hSw); go_simp; (try (with_reducible rfl)))
  (try simp only [Act.put, List.setIfInBounds_toArray, List.set_cons_zero, List.set_cons_succ])
  refine wpAnyH_take (i := 13) (oi := ⟨_, _, _, _, _, _⟩) (v := ?v551) rfl (by kernel_rfl) (by kernel_rfl) (by kernel_rfl) (fun _ _ _ h => h) (Or.inl ⟨by rfl, ?hy551⟩) (by assumption) ?_
  case hy551 => (intro w hSw; (try dsimp only at hSw); go_simp; (try (with_reducible rfl)))
  (try simp only [Act.put, List.setIfInBounds_toArray, List.set_cons_zero, List.set_cons_succ])
  refine wpAnyH_take (i := 14) (oi := ⟨_, _, _, _, _, _⟩) (v := ?v552) rfl (by kernel_rfl) (by kernel_rfl) (by kernel_rfl) (fun _ _ _ h => h) (Or.inl ⟨by rfl, ?hy552⟩) (by assumption) ?_
  case hy552 => (intro w hSw; (try dsimp only at hSw); go_simp; (try (with_reducible rfl)))
  (try simp only [Act.put, List.setIfInBounds_toArray, List.set_cons_zero, List.set_cons_succ])
  refine wpAnyH_take (i := 15) (oi := ⟨_, _, _, _, _, _⟩) (v := ?v553) rfl (by kernel_rfl) (by kernel_rfl) (by kernel_rfl) (fun _ _ _ h => h) (Or.inl ⟨by rfl, ?hy553⟩) (by assumption) ?_
  case hy553 => (intro w hSw; (try dsimp only at hSw); go_simp; (try (with_reducible rfl)))
  (try simp only [Act.put, List.setIfInBounds_toArray, List.set_cons_zero, List.set_cons_succ])
  refine wpAnyH_take (i := 16) (oi := ⟨_, _, _, _, _, _⟩) (v := ?v554) rfl (by kernel_rfl) (by kernel_rfl) (by kernel_rfl) (fun _ _ _ h => h) (Or.inl ⟨by rfl, ?hy554⟩) (by assumption) ?_
  case hy554 => (intro w hSw; (try dsimp only at hSw); go_simp; (try (with_reducible rfl)))
  (try simp only [Act.put, List.setIfInBounds_toArray, List.set_cons_zero, List.set_cons_succ])
  refine wpAnyH_take (i := 17) (oi := ⟨_, _, _, _, _, _⟩) (v := ?v555) rfl (by kernel_rfl) (by kernel_rfl) (by kernel_rfl) (fun _ _ _ h => h) (Or.inl ⟨by rfl, ?hy555⟩) (by assumption) ?_
  case hy555 => (intro w hSw; (try dsimp only at hSw); go_simp; (try (with_reducible rfl)))
  (try simp only [Act.put, List.setIfInBounds_toArray, List.set_cons_zero, List.set_cons_succ])
  refine wpAnyH_take (i := 18) (oi := ⟨_, _, _, _, _, _⟩) (v := ?v556) rfl (by kernel_rfl) (by kernel_rfl) (by kernel_rfl) (fun _ _ _ h => h) (Or.inl ⟨by rfl, ?hy556⟩) (by assumption) ?_
  case hy556 => (intro w hSw; (try dsimp only at hSw); go_simp; (try (with_reducible rfl)))
  (try simp only [Act.put, List.setIfInBounds_toArray, List.set_cons_zero, List.set_cons_succ])
  refine wpAnyH_done (by kernel_rfl) ?_ _
  (try clear hHeld)
  (repeat clear ‹Up w _ ∧ _›)
  go_upto_region 9 with fail
  refine (show ∀ W2 : World, W2 = _ → Code.wp _ _ _ _ W2 from fun W2 hW2 => ?_) _ rfl
  have U2 := Lib.hid (show Up w W2 by rw [hW2]; exact (HU1.out.setCell (Nat.le_refl _) _).drew)
  have b0 : W2.cell? ⟨w.heap.size, 0, none⟩ = some (.int .i64 g) := by rw [hW2]; simp [go_sem, c00]
  have b1 : W2.cell? ⟨w.heap.size, 1, none⟩ = some (.int .i64 v) := by rw [hW2]; simp [go_sem, c01]
  have b2 : W2.cell? ⟨w.heap.size, 2, none⟩ = some (.int .i64 q) := by rw [hW2]; simp [go_sem, c02]
  have b3 : W2.cell? ⟨w.heap.size, 3, none⟩ = some (.int .i64 c) := by rw [hW2]; simp [go_sem, c03]
  have b4 : W2.cell? ⟨w.heap.size, 4, none⟩ = some (.int .i64 now) := by rw [hW2]; simp [go_sem, c04]
  have b5 : W2.cell? ⟨w.heap.size, 5, none⟩ = some (.int .i64 (seq + 1)) := by rw [hW2]; simp [go_sem, c05]
  have b6 : W2.cell? ⟨w.heap.size, 6, none⟩ = some (.slice (some ⟨b, o, none⟩) n k) := by rw [hW2]; simp [go_sem, c06]
  have r0 : W2.cell? ⟨w.heap.size + 1, 0, none⟩ = some (.int .i64 0) := by rw [hW2]; simp [go_sem, c10]
  have r1 : W2.cell? ⟨w.heap.size + 1, 1, none⟩ = some (.int .i64 0) := by rw [hW2]; simp [go_sem, c11]
  have r2 : W2.cell? ⟨w.heap.size + 1, 2, none⟩ = some (.int .i64 0) := by rw [hW2]; simp [go_sem, c12]
  have r3 : W2.cell? ⟨w.heap.size + 1, 3, none⟩ = some (.int .i64 0) := by rw [hW2]; simp [go_sem, c13]
  have r4 : W2.cell? ⟨w.heap.size + 1, 4, none⟩ = some (.int .i64 0) := by rw [hW2]; simp [go_sem, c14]
  have r5 : W2.cell? ⟨w.heap.size + 1, 5, none⟩ = some (.int .i64 0) := by rw [hW2]; simp [go_sem, c15]
  have r6 : W2.cell? ⟨w.heap.size + 1, 6, none⟩ = some (.slice none 0 0) := by rw [hW2]; simp [go_sem, c16]
  clear hW2 HU1
  (try clear KV KI)
  clear hlt hlt0 c00 c01 c02 c03 c04 c05 c06 c10 c11 c12 c13 c14 c15 c16 z00 z01 z02 z03 z04 z05 z06 z10 z11 z12 z13 z14 z15 z16
  have HSS : Hid (Up w W2 ∧ W2.cell? ⟨w.heap.size, 0, none⟩ = some (.int .i64 g) ∧ W2.cell? ⟨w.heap.size, 1, none⟩ = some (.int .i64 v) ∧ W2.cell? ⟨w.heap.size, 2, none⟩ = some (.int .i64 q) ∧ W2.cell? ⟨w.heap.size, 3, none⟩ = some (.int .i64 c) ∧ W2.cell? ⟨w.heap.size, 4, none⟩ = some (.int .i64 now) ∧ W2.cell? ⟨w.heap.size, 5, none⟩ = some (.int .i64 (seq + 1)) ∧ W2.cell? ⟨w.heap.size, 6, none⟩ = some (.slice (some ⟨b, o, none⟩) n k) ∧ W2.cell? ⟨(w.heap.size + 1), 0, none⟩ = some (.int .i64 0) ∧ W2.cell? ⟨(w.heap.size + 1), 1, none⟩ = some (.int .i64 0) ∧ W2.cell? ⟨(w.heap.size + 1), 2, none⟩ = some (.int .i64 0) ∧ W2.cell? ⟨(w.heap.size + 1), 3, none⟩ = some (.int .i64 0) ∧ W2.cell? ⟨(w.heap.size + 1), 4, none⟩ = some (.int .i64 0) ∧ W2.cell? ⟨(w.heap.size + 1), 5, none⟩ = some (.int .i64 0) ∧ W2.cell? ⟨(w.heap.size + 1), 6, none⟩ = some (.slice none 0 0)) := Lib.hid ⟨U2.out, b0, b1, b2, b3, b4, b5, b6, r0, r1, r2, r3, r4, r5, r6⟩
  clear b0 b1 b2 b3 b4 b5 b6 r0 r1 r2 r3 r4 r5 r6
  go_wp2_with fail
  refine wp_region_held_drew (S := fun w' => Up w w' ∧ w'.cell? ⟨w.heap.size, 0, none⟩ = some (.int .i64 g) ∧ w'.cell? ⟨w.heap.size, 1, none⟩ = some (.int .i64 v) ∧ w'.cell? ⟨w.heap.size, 2, none⟩ = some (.int .i64 q) ∧ w'.cell? ⟨w.heap.size, 3, none⟩ = some (.int .i64 c) ∧ w'.cell? ⟨w.heap.size, 4, none⟩ = some (.int .i64 now) ∧ w'.cell? ⟨w.heap.size, 5, none⟩ = some (.int .i64 (seq + 1)) ∧ w'.cell? ⟨w.heap.size, 6, none⟩ = some (.slice (some ⟨b, o, none⟩) n k) ∧ w'.cell? ⟨(w.heap.size + 1), 0, none⟩ = some (.int .i64 0) ∧ w'.cell? ⟨(w.heap.size + 1), 1, none⟩ = some (.int .i64 0) ∧ w'.cell? ⟨(w.heap.size + 1), 2, none⟩ = some (.int .i64 0) ∧ w'.cell? ⟨(w.heap.size + 1), 3, none⟩ = some (.int .i64 0) ∧ w'.cell? ⟨(w.heap.size + 1), 4, none⟩ = some (.int .i64 0) ∧ w'.cell? ⟨(w.heap.size + 1), 5, none⟩ = some (.int .i64 0) ∧ w'.cell? ⟨(w.heap.size + 1), 6, none⟩ = some (.slice none 0 0)) (by kernel_rfl) ?hB611 (fun hHeld => ?_)
  case hB611 => (first | (with_reducible assumption) | (with_reducible exact keepK14 (Lib.hid (Up.refl _).drew) HSS.out) | (with_reducible exact HX3.out))
  refine wpAnyH_take (i := 0) (oi := ⟨_, _, _, _, _, _⟩) (v := ?v612) rfl (by kernel_rfl) (by kernel_rfl) (by kernel_rfl) (fun _ _ _ h => h) (Or.inl ⟨by rfl, ?hy612⟩) (by assumption) ?_
  case hy612 => (intro w hSw; (try dsimp only at hSw); go_simp; (try (with_reducible rfl)))
  (try simp only [Act.put, List.setIfInBounds_toArray, List.set_cons_zero, List.set_cons_succ])
  refine wpAnyH_take (i := 1) (oi := ⟨_, _, _, _, _, _⟩) (v := ?v613) rfl (by kernel_rfl) (by kernel_rfl) (by kernel_rfl) (fun _ _ _ h => h) (Or.inl ⟨by rfl, ?hy613⟩) (by assumption) ?_
  case hy613 => (intro w hSw; (try dsimp only at hSw); go_simp; (try (with_reducible rfl)))
  (try simp only [Act.put, List.setIfInBounds_toArray, List.set_cons_zero, List.set_cons_succ])
  refine wpAnyH_take (i := 2) (oi := ⟨_, _, _, _, _, _⟩) (v := ?v614) rfl (by kernel_rfl) (by kernel_rfl) (by kernel_rfl) (fun _ _ _ h => h) (Or.inl ⟨by rfl, ?hy614⟩) (by assumption) ?_
  case hy614 => (intro w hSw; (try dsimp only at hSw); go_simp; (try (with_reducible rfl)))
  (try simp only [Act.put, List.setIfInBounds_toArray, List.set_cons_zero, List.set_cons_succ])
  refine wpAnyH_take (i := 3) (oi := ⟨_, _, _, _, _, _⟩) (v := ?v615) rfl (by kernel_rfl) (by kernel_rfl) (by kernel_rfl) (fun _ _ _ h => h) (Or.inl ⟨by rfl, ?hy615⟩) (by assumption) ?_
  case hy615 => (intro w hSw; (try dsimp only at hSw); go_simp; (try (with_reducible rfl)))
  (try simp only [Act.put, List.setIfInBounds_toArray, List.set_cons_zero, List.set_cons_succ])
  refine wpAnyH_take (i := 4) (oi := ⟨_, _, _, _, _, _⟩) (v := ?v616) rfl (by kernel_rfl) (by kernel_rfl) (by kernel_rfl) (fun _ _ _ h => h) (Or.inl ⟨by rfl, ?hy616⟩) (by assumption) ?_
  case hy616 => (intro w hSw; (try dsimp only at hSw); go_simp; (try (with_reducible rfl)))
  (try simp only [Act.put, List.setIfInBounds_toArray, List.set_cons_zero, List.set_cons_succ])
  refine wpAnyH_take (i := 5) (oi := ⟨_, _, _, _, _, _⟩) (v := ?v617) rfl (by kernel_rfl) (by kernel_rfl) (by kernel_rfl) (fun _ _ _ h => h) (Or.inl ⟨by rfl, ?hy617⟩) (by assumption) ?_
  case hy617 => (intro w hSw; (try dsimp only at hSw); go_simp; (try (with_reducible rfl)))
  (try simp only [Act.put, List.setIfInBounds_toArray, List.set_cons_zero, List.set_cons_succ])
  refine wpAnyH_take (i := 6) (oi := ⟨_, _, _, _, _, _⟩) (v := ?v618) rfl (by kernel_rfl) (by kernel_rfl) (by kernel_rfl) (fun _ _ _ h => h) (Or.inl ⟨by rfl, ?hy618⟩) (by assumption) ?_
  case hy618 => (intro w hSw; (try dsimp only at hSw); go_simp; (try (with_reducible rfl)))
  (try simp only [Act.put, List.setIfInBounds_toArray, List.set_cons_zero, List.set_cons_succ])
  refine wpAnyH_take (i := 8) (oi := ⟨_, _, _, _, _, _⟩) (v := ?v619) rfl (by kernel_rfl) (by kernel_rfl) (by kernel_rfl) (fun _ _ _ h => h) (Or.inl ⟨by rfl, ?hy619⟩) (by assumption) ?_
  case hy619 => (intro w hSw; (try dsimp only at hSw); go_simp; (try (with_reducible rfl)))
  (try simp only [Act.put, List.setIfInBounds_toArray, List.set_cons_zero, List.set_cons_succ])
  refine wpAnyH_take (i := 9) (oi := ⟨_, _, _, _, _, _⟩) (v := ?v620) rfl (by kernel_rfl) (by kernel_rfl) (by kernel_rfl) (fun _ _ _ h => h) (Or.inl ⟨by rfl, ?hy620⟩) (by assumption) ?_
  case hy620 => (intro w hSw; (try dsimp only at hSw); go_simp; (try (with_reducible rfl)))
  (try simp only [Act.put, List.setIfInBounds_toArray, List.set_cons_zero, List.set_cons_succ])
  refine wpAnyH_ready (rs := [7]) (by kernel_rfl) (by simp) ?_
  refine AllReadyH.cons (o := ⟨_, _, _, _, _, _⟩) rfl (fun K hK => ?_) AllReadyH.nil
  go_simp
  (go_at_call 74; (with_reducible refine (KE.out _ U2.out.drew).mono ?_); rintro e w3 ⟨A3, k3, rfl, hk3, hnw, hu, hM⟩; have HM3 := Lib.hid hM; have hltW := World.block_lt_of_cell? _ _ hHeld.2.2.2.2.2.2.2.2.1; have HNW : Hid (∀ b_ o_, A3 = some ⟨b_, o_, none⟩ → w.heap.size + 1 < b_) := Lib.hid (fun b_ o_ h_ => Nat.lt_of_lt_of_le hltW (hnw b_ o_ h_)); clear hltW; have HX3 := Lib.hid (keepK14 (Lib.hid hu) hHeld); clear hu hM hnw)
  (try go_wp2_with fail)
  refine hK.out _ _ ?hB621 (fun hHeld => ?_)
  case hB621 => (first | (with_reducible assumption) | (with_reducible exact keepK14 (Lib.hid (Up.refl _).drew) HSS.out) | (with_reducible exact HX3.out))
  clear hK K
  (try simp only [Act.put, List.setIfInBounds_toArray, List.set_cons_zero, List.set_cons_succ])
  refine wpAnyH_take (i := 10) (oi := ⟨_, _, _, _, _, _⟩) (v := ?v622) rfl (by kernel_rfl) (by kernel_rfl) (by kernel_rfl) (fun _ _ _ h => h) (Or.inl ⟨by rfl, ?hy622⟩) (by assumption) ?_
  case hy622 => (intro w hSw; (try dsimp only at hSw); go_simp; (try (with_reducible rfl)))
  (try simp only [Act.put, List.setIfInBounds_toArray, List.set_cons_zero, List.set_cons_succ])
  refine wpAnyH_take (i := 11) (oi := ⟨_, _, _, _, _, _⟩) (v := ?v623) rfl (by kernel_rfl) (by kernel_rfl) (by kernel_rfl) (fun _ _ _ h => h) (Or.inl ⟨by rfl, ?hy623⟩) (by assumption) ?_
  case hy623 => (intro w hSw; (try dsimp only at hSw); go_simp; (try (with_reducible rfl)))
  (try simp only [Act.put, List.setIfInBounds_toArray, List.set_cons_zero, List.set_cons_succ])
  refine wpAnyH_done (by kernel_rfl) ?_ _
  clear hHeld HSS
  have HX := HX3
  clear HX3
  go_wp2_with fail
  go_loopw [7, 9] (fun t7 t9 wr => ∃ (i m kk : Nat) (B : Option Addr) (R : List Mrk), t7 = .slice B m kk ∧ t9 = .int .i64 i ∧ i ≤ m ∧ m ≤ kk ∧ m ≤ n + 1 ∧ Hid (SG cM wr B m R) ∧ Hid (∀ x ∈ R, bdG g x) ∧ Hid (R.take i ++ prL (clM g q) (m - i) (R.drop i) = Z) ∧ Hid (∀ b_ o_, B = some ⟨b_, o_, none⟩ → w.heap.size + 1 < b_) ∧ Hid (Up w3 wr)) (fun t7 t9 _ => lnS t7 - (intOf t9).toNat)
  case atStart => exact ⟨0, n + 1, k3, A3, M3, rfl, rfl, Nat.zero_le _, hk3, Nat.le_refl _, HM3, HI2, Lib.hid (by rw [← HZ.out]; rfl), HNW, Lib.hid (Up.refl _)⟩
  case round =>
    obtain ⟨wo, hwo⟩ : ∃ x, x = wr := ⟨_, rfl⟩
    subst hwo
    obtain ⟨i, m, kk, B, R, rfl, rfl, him, hmk, hmn, HR, HB, HZr, HN, HW⟩ := hrel
    by_cases hi : i < m
    · obtain ⟨b, o, rfl, _⟩ := mrk_at HR.out mk0 hi
      have hRl := Lib.hid HR.out.1
      have f30 : (0 : Int) ≤ i := by omega
      have fi : (i : Int) < m := by omega
      have HBi := Lib.hid (HB.out _ (getD_mem (by rw [hRl.out]; exact hi)))
      have HNO : Hid ((∀ p, i < p → p < m → clM g q (R.getD i mk0) (R.getD p mk0) = false) → R.take (i + 1) ++ prL (clM g q) (m - (i + 1)) (R.drop (i + 1)) = Z) := Lib.hid (fun h => rprune_no hRl.out hi HZr.out h)
      have HYS : Hid (∀ j, i < j → j < m → clM g q (R.getD i mk0) (R.getD j mk0) = true → (∀ p, j < p → p < m → clM g q (R.getD i mk0) (R.getD p mk0) = false) → (R.take (i + 1) ++ R.drop j).take (i + 1) ++ prL (clM g q) (i + 1 + (m - j) - (i + 1)) ((R.take (i + 1) ++ R.drop j).drop (i + 1)) = Z) := Lib.hid (fun j h1 h2 h3 h4 => rprune_yes hRl.out h1 h2 HZr.out h3 h4)
      have HCI := Lib.hid (fun W (h : Up wo W) => mrk_prev (HR.out.up h) hi)
      have cg := HW.out.keep _ _ _ HX.out.2.1
      generalize hMi : R.getD i mk0 = Mi at *
      have hMi := Lib.hid hMi
      obtain ⟨sq1, t1, nn1, s1, qq1, lo1, hi1⟩ := Mi
      simp only at HCI
      have w7_ : IntKind.i64.wrap ((i : Int) + 1) = (i : Int) + 1 := by rw [IntKind.wrap_i64]; omega
      clear HZr
      go_wp2_with fail
      go_loopw [10, 11] (fun t10 t11 wr => ∃ j nx : Nat, t10 = .int .i64 j ∧ t11 = .int .i64 nx ∧ i ≤ j ∧ j < nx ∧ nx ≤ m ∧ Hid (i < j → clM g q ⟨sq1, t1, nn1, s1, qq1, lo1, hi1⟩ (R.getD j mk0) = true) ∧ Hid (∀ p, j < p → p < nx → clM g q ⟨sq1, t1, nn1, s1, qq1, lo1, hi1⟩ (R.getD p mk0) = false) ∧ Hid (Up wo wr)) (fun _ t _ => m - (intOf t).toNat)
      case atStart => exact ⟨i, i + 1, rfl, by go_num, Nat.le_refl _, by omega, by omega, Lib.hid (fun h => absurd h (Nat.lt_irrefl _)), Lib.hid (fun p h1 h2 => absurd h1 (by omega)), Lib.hid (Up.refl _)⟩
      case round =>
        obtain ⟨j, nx, rfl, rfl, hij, hjn, hnm, HC, HF, HV⟩ := hrel
        have f31 : (0 : Int) ≤ nx := by omega
        have f32 : (0 : Int) ≤ j := by omega
        by_cases hx : nx < m
        · have fx : (nx : Int) < m := by omega
          obtain ⟨x0, x1, x2, x3, x4, x5, x6⟩ := mrk_prev (HR.out.up HV.out) hx
          obtain ⟨d0, d1, d2, d3, d4, d5, d6⟩ := HCI.out _ HV.out
          have HBn := Lib.hid (HB.out _ (getD_mem (by rw [hRl.out]; exact hx)))
          generalize hMn : R.getD nx mk0 = Mn at *
          have hMn := Lib.hid hMn
          obtain ⟨sq, t, nn, s, qq, lo, hi⟩ := Mn
          simp only at x0 x1 x2 x3 x4 x5 x6
          have HSS : Hid (Up wo wr ∧ wr.cell? ⟨w.heap.size, 0, none⟩ = some (.int .i64 g) ∧ wr.cell? ⟨b, o + i * 7, none⟩ = some (.int .i64 sq1) ∧ wr.cell? ⟨b, o + i * 7 + 1, none⟩ = some (.int .i64 t1) ∧ wr.cell? ⟨b, o + i * 7 + 2, none⟩ = some (.int .i64 nn1) ∧ wr.cell? ⟨b, o + i * 7 + 3, none⟩ = some (.int .i64 s1) ∧ wr.cell? ⟨b, o + i * 7 + 4, none⟩ = some (.int .i64 qq1) ∧ wr.cell? ⟨b, o + i * 7 + 5, none⟩ = some (.int .i64 lo1) ∧ wr.cell? ⟨b, o + i * 7 + 6, none⟩ = some (.int .i64 hi1) ∧ wr.cell? ⟨b, o + nx * 7, none⟩ = some (.int .i64 sq) ∧ wr.cell? ⟨b, o + nx * 7 + 1, none⟩ = some (.int .i64 t) ∧ wr.cell? ⟨b, o + nx * 7 + 2, none⟩ = some (.int .i64 nn) ∧ wr.cell? ⟨b, o + nx * 7 + 3, none⟩ = some (.int .i64 s) ∧ wr.cell? ⟨b, o + nx * 7 + 4, none⟩ = some (.int .i64 qq) ∧ wr.cell? ⟨b, o + nx * 7 + 5, none⟩ = some (.int .i64 lo) ∧ wr.cell? ⟨b, o + nx * 7 + 6, none⟩ = some (.int .i64 hi)) := Lib.hid ⟨HV.out, HV.out.keep _ _ _ cg, d0, d1, d2, d3, d4, d5, d6, x0, x1, x2, x3, x4, x5, x6⟩
          clear d0 d1 d2 d3 d4 d5 d6 x0 x1 x2 x3 x4 x5 x6
          have BP_ := HBi.out
          have BM_ := HBn.out
          have K1 := Lib.hid (rof13_up g sq t nn s qq lo hi BM_.2.1 BM_.2.2)
          have K2 := Lib.hid (rof13_up g sq1 t1 nn1 s1 qq1 lo1 hi1 BP_.2.1 BP_.2.2)
          have Z1 := (near_in HQ.out BP_.1.1 BP_.1.2).1
          have Z2 := (near_in HQ.out BM_.1.1 BM_.1.2).2
          have v1_ : IntKind.i64.wrap (q * ofZ g ⟨sq1, t1, nn1, s1, qq1, lo1, hi1⟩) = q * ofZ g ⟨sq1, t1, nn1, s1, qq1, lo1, hi1⟩ := by rw [IntKind.wrap_i64]; omega
          have v2_ : IntKind.i64.wrap ((q + 1) * ofZ g ⟨sq, t, nn, s, qq, lo, hi⟩) = (q + 1) * ofZ g ⟨sq, t, nn, s, qq, lo, hi⟩ := by rw [IntKind.wrap_i64]; omega
          clear Z1 Z2 BP_ BM_
          cases hk : clM g q ⟨sq1, t1, nn1, s1, qq1, lo1, hi1⟩ ⟨sq, t, nn, s, qq, lo, hi⟩ with
          | false =>
            have HF2 : Hid (∀ p, j < p → p < nx + 1 → clM g q ⟨sq1, t1, nn1, s1, qq1, lo1, hi1⟩ (R.getD p mk0) = false) := Lib.hid (fun p h1 h2 => by
              rcases Nat.lt_or_ge p nx with hp | hp
              · exact HF.out p h1 hp
              · obtain rfl : p = nx := by omega
                rw [hMn.out]; exact hk)
            have tk := of_decide_eq_false hk
            clear hk HF HBn hMn HNO HYS HCI
            generalize ofZ g ⟨sq1, t1, nn1, s1, qq1, lo1, hi1⟩ = x at *
            generalize ofZ g ⟨sq, t, nn, s, qq, lo, hi⟩ = y at *
            have tk : decide (q * x ≤ (q + 1) * y) = false := decide_eq_false tk
            go_wp2_with fail
            refine wp_region_held_drew (S := fun w' => Up wo w' ∧ w'.cell? ⟨w.heap.size, 0, none⟩ = some (.int .i64 g) ∧ w'.cell? ⟨b, o + i * 7, none⟩ = some (.int .i64 sq1) ∧ w'.cell? ⟨b, o + i * 7 + 1, none⟩ = some (.int .i64 t1) ∧ w'.cell? ⟨b, o + i * 7 + 2, none⟩ = some (.int .i64 nn1) ∧ w'.cell? ⟨b, o + i * 7 + 3, none⟩ = some (.int .i64 s1) ∧ w'.cell? ⟨b, o + i * 7 + 4, none⟩ = some (.int .i64 qq1) ∧ w'.cell? ⟨b, o + i * 7 + 5, none⟩ = some (.int .i64 lo1) ∧ w'.cell? ⟨b, o + i * 7 + 6, none⟩ = some (.int .i64 hi1) ∧ w'.cell? ⟨b, o + nx * 7, none⟩ = some (.int .i64 sq) ∧ w'.cell? ⟨b, o + nx * 7 + 1, none⟩ = some (.int .i64 t) ∧ w'.cell? ⟨b, o + nx * 7 + 2, none⟩ = some (.int .i64 nn) ∧ w'.cell? ⟨b, o + nx * 7 + 3, none⟩ = some (.int .i64 s) ∧ w'.cell? ⟨b, o + nx * 7 + 4, none⟩ = some (.int .i64 qq) ∧ w'.cell? ⟨b, o + nx * 7 + 5, none⟩ = some (.int .i64 lo) ∧ w'.cell? ⟨b, o + nx * 7 + 6, none⟩ = some (.int .i64 hi)) (by kernel_rfl) ?hB557 (fun hHeld => ?_)
            case hB557 => (first | (with_reducible assumption) | (with_reducible exact keepK15 (Lib.hid (Up.refl _).drew) HSS.out) | (with_reducible exact HX4.out) | (with_reducible exact HX5.out))
            refine wpAnyH_take (i := 0) (oi := ⟨_, _, _, _, _, _⟩) (v := ?v558) rfl (by kernel_rfl) (by kernel_rfl) (by kernel_rfl) (fun _ _ _ h => h) (Or.inl ⟨by rfl, ?hy558⟩) (by assumption) ?_
            case hy558 => (intro w hSw; (try dsimp only at hSw); go_simp; (try (with_reducible rfl)))
            (try simp only [Act.put, List.setIfInBounds_toArray, List.set_cons_zero, List.set_cons_succ])
            refine wpAnyH_take (i := 1) (oi := ⟨_, _, _, _, _, _⟩) (v := ?v559) rfl (by kernel_rfl) (by kernel_rfl) (by kernel_rfl) (fun _ _ _ h => h) (Or.inl ⟨by rfl, ?hy559⟩) (by assumption) ?_
            case hy559 => (intro w hSw; (try dsimp only at hSw); go_simp; (try (with_reducible rfl)))
            (try simp only [Act.put, List.setIfInBounds_toArray, List.set_cons_zero, List.set_cons_succ])
            refine wpAnyH_take (i := 2) (oi := ⟨_, _, _, _, _, _⟩) (v := ?v560) rfl (by kernel_rfl) (by kernel_rfl) (by kernel_rfl) (fun _ _ _ h => h) (Or.inl ⟨by rfl, ?hy560⟩) (by assumption) ?_
            case hy560 => (intro w hSw; (try dsimp only at hSw); go_simp; (try (with_reducible rfl)))
            (try simp only [Act.put, List.setIfInBounds_toArray, List.set_cons_zero, List.set_cons_succ])
            refine wpAnyH_take (i := 3) (oi := ⟨_, _, _, _, _, _⟩) (v := ?v561) rfl (by kernel_rfl) (by kernel_rfl) (by kernel_rfl) (fun _ _ _ h => h) (Or.inl ⟨by rfl, ?hy561⟩) (by assumption) ?_
            case hy561 => (intro w hSw; (try dsimp only at hSw); go_simp; (try (with_reducible rfl)))
            (try simp only [Act.put, List.setIfInBounds_toArray, List.set_cons_zero, List.set_cons_succ])
            refine wpAnyH_take (i := 4) (oi := ⟨_, _, _, _, _, _⟩) (v := ?v562) rfl (by kernel_rfl) (by kernel_rfl) (by kernel_rfl) (fun _ _ _ h => h) (Or.inl ⟨by rfl, ?hy562⟩) (by assumption) ?_
            case hy562 => (intro w hSw; (try dsimp only at hSw); go_simp; (try (with_reducible rfl)))
            (try simp only [Act.put, List.setIfInBounds_toArray, List.set_cons_zero, List.set_cons_succ])
            refine wpAnyH_take (i := 5) (oi := ⟨_, _, _, _, _, _⟩) (v := ?v563) rfl (by kernel_rfl) (by kernel_rfl) (by kernel_rfl) (fun _ _ _ h => h) (Or.inl ⟨by rfl, ?hy563⟩) (by assumption) ?_
            case hy563 => (intro w hSw; (try dsimp only at hSw); go_simp; (try (with_reducible rfl)))
            (try simp only [Act.put, List.setIfInBounds_toArray, List.set_cons_zero, List.set_cons_succ])
            refine wpAnyH_take (i := 6) (oi := ⟨_, _, _, _, _, _⟩) (v := ?v564) rfl (by kernel_rfl) (by kernel_rfl) (by kernel_rfl) (fun _ _ _ h => h) (Or.inl ⟨by rfl, ?hy564⟩) (by assumption) ?_
            case hy564 => (intro w hSw; (try dsimp only at hSw); go_simp; (try (with_reducible rfl)))
            (try simp only [Act.put, List.setIfInBounds_toArray, List.set_cons_zero, List.set_cons_succ])
            refine wpAnyH_take (i := 7) (oi := ⟨_, _, _, _, _, _⟩) (v := ?v565) rfl (by kernel_rfl) (by kernel_rfl) (by kernel_rfl) (fun _ _ _ h => h) (Or.inl ⟨by rfl, ?hy565⟩) (by assumption) ?_
            case hy565 => (intro w hSw; (try dsimp only at hSw); go_simp; (try (with_reducible rfl)))
            (try simp only [Act.put, List.setIfInBounds_toArray, List.set_cons_zero, List.set_cons_succ])
            refine wpAnyH_take (i := 10) (oi := ⟨_, _, _, _, _, _⟩) (v := ?v566) rfl (by kernel_rfl) (by kernel_rfl) (by kernel_rfl) (fun _ _ _ h => h) (Or.inl ⟨by rfl, ?hy566⟩) (by assumption) ?_
            case hy566 => (intro w hSw; (try dsimp only at hSw); go_simp; (try (with_reducible rfl)))
            (try simp only [Act.put, List.setIfInBounds_toArray, List.set_cons_zero, List.set_cons_succ])
            refine wpAnyH_take (i := 11) (oi := ⟨_, _, _, _, _, _⟩) (v := ?v567) rfl (by kernel_rfl) (by kernel_rfl) (by kernel_rfl) (fun _ _ _ h => h) (Or.inl ⟨by rfl, ?hy567⟩) (by assumption) ?_
            case hy567 => (intro w hSw; (try dsimp only at hSw); go_simp; (try (with_reducible rfl)))
            (try simp only [Act.put, List.setIfInBounds_toArray, List.set_cons_zero, List.set_cons_succ])
            refine wpAnyH_take (i := 12) (oi := ⟨_, _, _, _, _, _⟩) (v := ?v568) rfl (by kernel_rfl) (by kernel_rfl) (by kernel_rfl) (fun _ _ _ h => h) (Or.inl ⟨by rfl, ?hy568⟩) (by assumption) ?_
            case hy568 => (intro w hSw; (try dsimp only at hSw); go_simp; (try (with_reducible rfl)))
            (try simp only [Act.put, List.setIfInBounds_toArray, List.set_cons_zero, List.set_cons_succ])
            refine wpAnyH_take (i := 13) (oi := ⟨_, _, _, _, _, _⟩) (v := ?v569) rfl (by kernel_rfl) (by kernel_rfl) (by kernel_rfl) (fun _ _ _ h => h) (Or.inl ⟨by rfl, ?hy569⟩) (by assumption) ?_
            case hy569 => (intro w hSw; (try dsimp only at hSw); go_simp; (try (with_reducible rfl)))
            (try simp only [Act.put, List.setIfInBounds_toArray, List.set_cons_zero, List.set_cons_succ])
            refine wpAnyH_take (i := 14) (oi := ⟨_, _, _, _, _, _⟩) (v := ?v570) rfl (by kernel_rfl) (by kernel_rfl) (by kernel_rfl) (fun _ _ _ h => h) (Or.inl ⟨by rfl, ?hy570⟩) (by assumption) ?_
            case hy570 => (intro w hSw; (try dsimp only at hSw); go_simp; (try (with_reducible rfl)))
            (try simp only [Act.put, List.setIfInBounds_toArray, List.set_cons_zero, List.set_cons_succ])
            refine wpAnyH_take (i := 15) (oi := ⟨_, _, _, _, _, _⟩) (v := ?v571) rfl (by kernel_rfl) (by kernel_rfl) (by kernel_rfl) (fun _ _ _ h => h) (Or.inl ⟨by rfl, ?hy571⟩) (by assumption) ?_
            case hy571 => (intro w hSw; (try dsimp only at hSw); go_simp; (try (with_reducible rfl)))
            (try simp only [Act.put, List.setIfInBounds_toArray, List.set_cons_zero, List.set_cons_succ])
            refine wpAnyH_take (i := 16) (oi := ⟨_, _, _, _, _, _⟩) (v := ?v572) rfl (by kernel_rfl) (by kernel_rfl) (by kernel_rfl) (fun _ _ _ h => h) (Or.inl ⟨by rfl, ?hy572⟩) (by assumption) ?_
            case hy572 => (intro w hSw; (try dsimp only at hSw); go_simp; (try (with_reducible rfl)))
            (try simp only [Act.put, List.setIfInBounds_toArray, List.set_cons_zero, List.set_cons_succ])
            refine wpAnyH_ready (rs := [8]) (by kernel_rfl) (by simp) ?_
            refine AllReadyH.cons (o := ⟨_, _, _, _, _, _⟩) rfl (fun K hK => ?_) AllReadyH.nil
            go_simp
            (go_at_call 17; (with_reducible refine (K1.out _).mono ?_); rintro e w4 ⟨rfl, hu⟩; have HU4 := Lib.hid hu; have HX4 := Lib.hid (keepK15 HU4 hHeld); clear hu)
            (try go_wp2_with fail)
            refine hK.out _ _ ?hB573 (fun hHeld => ?_)
            case hB573 => (first | (with_reducible assumption) | (with_reducible exact keepK15 (Lib.hid (Up.refl _).drew) HSS.out) | (with_reducible exact HX4.out) | (with_reducible exact HX5.out))
            clear hK K
            (try simp only [Act.put, List.setIfInBounds_toArray, List.set_cons_zero, List.set_cons_succ])
            refine wpAnyH_take (i := 9) (oi := ⟨_, _, _, _, _, _⟩) (v := ?v574) rfl (by kernel_rfl) (by kernel_rfl) (by kernel_rfl) (fun _ _ _ h => h) (Or.inl ⟨by rfl, ?hy574⟩) (by assumption) ?_
            case hy574 => (intro w hSw; (try dsimp only at hSw); go_simp; (try (with_reducible rfl)))
            (try simp only [Act.put, List.setIfInBounds_toArray, List.set_cons_zero, List.set_cons_succ])
            refine wpAnyH_ready (rs := [17]) (by kernel_rfl) (by simp) ?_
            refine AllReadyH.cons (o := ⟨_, _, _, _, _, _⟩) rfl (fun K hK => ?_) AllReadyH.nil
            go_simp
            (go_at_call 17; (with_reducible refine (K2.out _).mono ?_); rintro e w5 ⟨rfl, hu⟩; have HU5 := Lib.hid hu; have HX5 := Lib.hid (keepK15 HU5 hHeld); clear hu)
            (try go_wp2_with fail)
            refine hK.out _ _ ?hB575 (fun hHeld => ?_)
            case hB575 => (first | (with_reducible assumption) | (with_reducible exact keepK15 (Lib.hid (Up.refl _).drew) HSS.out) | (with_reducible exact HX4.out) | (with_reducible exact HX5.out))
            clear hK K
            (try simp only [Act.put, List.setIfInBounds_toArray, List.set_cons_zero, List.set_cons_succ])
            refine wpAnyH_take (i := 18) (oi := ⟨_, _, _, _, _, _⟩) (v := ?v576) rfl (by kernel_rfl) (by kernel_rfl) (by kernel_rfl) (fun _ _ _ h => h) (Or.inl ⟨by rfl, ?hy576⟩) (by assumption) ?_
            case hy576 => (intro w hSw; (try dsimp only at hSw); go_simp; (try (with_reducible rfl)))
            (try simp only [Act.put, List.setIfInBounds_toArray, List.set_cons_zero, List.set_cons_succ])
            refine wpAnyH_take (i := 19) (oi := ⟨_, _, _, _, _, _⟩) (v := ?v577) rfl (by kernel_rfl) (by kernel_rfl) (by kernel_rfl) (fun _ _ _ h => h) (Or.inl ⟨by rfl, ?hy577⟩) (by assumption) ?_
            case hy577 => (intro w hSw; (try dsimp only at hSw); go_simp; (try (with_reducible rfl)))
            (try simp only [Act.put, List.setIfInBounds_toArray, List.set_cons_zero, List.set_cons_succ])
            refine wpAnyH_done (by kernel_rfl) ?_ _
            have UX := Lib.hid hHeld.1
            (repeat clear ‹Up wo _ ∧ _›)
            go_wp2_with fail
            go_roundw
            case rel => exact ⟨j, nx + 1, rfl, by go_num, hij, by omega, by omega, HC, HF2, UX⟩
            case measure => simp [intOf]; omega
          | true =>
            have HC2 : Hid (i < nx → clM g q ⟨sq1, t1, nn1, s1, qq1, lo1, hi1⟩ (R.getD nx mk0) = true) := Lib.hid (fun _ => by rw [hMn.out]; exact hk)
            have tk := of_decide_eq_true hk
            clear hk HF HC HBn hMn HNO HYS HCI
            generalize ofZ g ⟨sq1, t1, nn1, s1, qq1, lo1, hi1⟩ = x at *
            generalize ofZ g ⟨sq, t, nn, s, qq, lo, hi⟩ = y at *
            have tk : decide (q * x ≤ (q + 1) * y) = true := decide_eq_true tk
            go_wp2_with fail
            refine wp_region_held_drew (S := fun w' => Up wo w' ∧ w'.cell? ⟨w.heap.size, 0, none⟩ = some (.int .i64 g) ∧ w'.cell? ⟨b, o + i * 7, none⟩ = some (.int .i64 sq1) ∧ w'.cell? ⟨b, o + i * 7 + 1, none⟩ = some (.int .i64 t1) ∧ w'.cell? ⟨b, o + i * 7 + 2, none⟩ = some (.int .i64 nn1) ∧ w'.cell? ⟨b, o + i * 7 + 3, none⟩ = some (.int .i64 s1) ∧ w'.cell? ⟨b, o + i * 7 + 4, none⟩ = some (.int .i64 qq1) ∧ w'.cell? ⟨b, o + i * 7 + 5, none⟩ = some (.int .i64 lo1) ∧ w'.cell? ⟨b, o + i * 7 + 6, none⟩ = some (.int .i64 hi1) ∧ w'.cell? ⟨b, o + nx * 7, none⟩ = some (.int .i64 sq) ∧ w'.cell? ⟨b, o + nx * 7 + 1, none⟩ = some (.int .i64 t) ∧ w'.cell? ⟨b, o + nx * 7 + 2, none⟩ = some (.int .i64 nn) ∧ w'.cell? ⟨b, o + nx * 7 + 3, none⟩ = some (.int .i64 s) ∧ w'.cell? ⟨b, o + nx * 7 + 4, none⟩ = some (.int .i64 qq) ∧ w'.cell? ⟨b, o + nx * 7 + 5, none⟩ = some (.int .i64 lo) ∧ w'.cell? ⟨b, o + nx * 7 + 6, none⟩ = some (.int .i64 hi)) (by kernel_rfl) ?hB578 (fun hHeld => ?_)
            case hB578 => (first | (with_reducible assumption) | (with_reducible exact keepK15 (Lib.hid (Up.refl _).drew) HSS.out) | (with_reducible exact HX4.out) | (with_reducible exact HX5.out))
            refine wpAnyH_take (i := 0) (oi := ⟨_, _, _, _, _, _⟩) (v := ?v579) rfl (by kernel_rfl) (by kernel_rfl) (by kernel_rfl) (fun _ _ _ h => h) (Or.inl ⟨by rfl, ?hy579⟩) (by assumption) ?_
            case hy579 => (intro w hSw; (try dsimp only at hSw); go_simp; (try (with_reducible rfl)))
            (try simp only [Act.put, List.setIfInBounds_toArray, List.set_cons_zero, List.set_cons_succ])
            refine wpAnyH_take (i := 1) (oi := ⟨_, _, _, _, _, _⟩) (v := ?v580) rfl (by kernel_rfl) (by kernel_rfl) (by kernel_rfl) (fun _ _ _ h => h) (Or.inl ⟨by rfl, ?hy580⟩) (by assumption) ?_
            case hy580 => (intro w hSw; (try dsimp only at hSw); go_simp; (try (with_reducible rfl)))
            (try simp only [Act.put, List.setIfInBounds_toArray, List.set_cons_zero, List.set_cons_succ])
            refine wpAnyH_take (i := 2) (oi := ⟨_, _, _, _, _, _⟩) (v := ?v581) rfl (by kernel_rfl) (by kernel_rfl) (by kernel_rfl) (fun _ _ _ h => h) (Or.inl ⟨by rfl, ?hy581⟩) (by assumption) ?_
            case hy581 => (intro w hSw; (try dsimp only at hSw); go_simp; (try (with_reducible rfl)))
            (try simp only [Act.put, List.setIfInBounds_toArray, List.set_cons_zero, List.set_cons_succ])
            refine wpAnyH_take (i := 3) (oi := ⟨_, _, _, _, _, _⟩) (v := ?v582) rfl (by kernel_rfl) (by kernel_rfl) (by kernel_rfl) (fun _ _ _ h => h) (Or.inl ⟨by rfl, ?hy582⟩) (by assumption) ?_
            case hy582 => (intro w hSw; (try dsimp only at hSw); go_simp; (try (with_reducible rfl)))
            (try simp only [Act.put, List.setIfInBounds_toArray, List.set_cons_zero, List.set_cons_succ])
            refine wpAnyH_take (i := 4) (oi := ⟨_, _, _, _, _, _⟩) (v := ?v583) rfl (by kernel_rfl) (by kernel_rfl) (by kernel_rfl) (fun _ _ _ h => h) (Or.inl ⟨by rfl, ?hy583⟩) (by assumption) ?_
            case hy583 => (intro w hSw; (try dsimp only at hSw); go_simp; (try (with_reducible rfl)))
            (try simp only [Act.put, List.setIfInBounds_toArray, List.set_cons_zero, List.set_cons_succ])
            refine wpAnyH_take (i := 5) (oi := ⟨_, _, _, _, _, _⟩) (v := ?v584) rfl (by kernel_rfl) (by kernel_rfl) (by kernel_rfl) (fun _ _ _ h => h) (Or.inl ⟨by rfl, ?hy584⟩) (by assumption) ?_
            case hy584 => (intro w hSw; (try dsimp only at hSw); go_simp; (try (with_reducible rfl)))
            (try simp only [Act.put, List.setIfInBounds_toArray, List.set_cons_zero, List.set_cons_succ])
            refine wpAnyH_take (i := 6) (oi := ⟨_, _, _, _, _, _⟩) (v := ?v585) rfl (by kernel_rfl) (by kernel_rfl) (by kernel_rfl) (fun _ _ _ h => h) (Or.inl ⟨by rfl, ?hy585⟩) (by assumption) ?_
            case hy585 => (intro w hSw; (try dsimp only at hSw); go_simp; (try (with_reducible rfl)))
            (try simp only [Act.put, List.setIfInBounds_toArray, List.set_cons_zero, List.set_cons_succ])
            refine wpAnyH_take (i := 7) (oi := ⟨_, _, _, _, _, _⟩) (v := ?v586) rfl (by kernel_rfl) (by kernel_rfl) (by kernel_rfl) (fun _ _ _ h => h) (Or.inl ⟨by rfl, ?hy586⟩) (by assumption) ?_
            case hy586 => (intro w hSw; (try dsimp only at hSw); go_simp; (try (with_reducible rfl)))
            (try simp only [Act.put, List.setIfInBounds_toArray, List.set_cons_zero, List.set_cons_succ])
            refine wpAnyH_take (i := 10) (oi := ⟨_, _, _, _, _, _⟩) (v := ?v587) rfl (by kernel_rfl) (by kernel_rfl) (by kernel_rfl) (fun _ _ _ h => h) (Or.inl ⟨by rfl, ?hy587⟩) (by assumption) ?_
            case hy587 => (intro w hSw; (try dsimp only at hSw); go_simp; (try (with_reducible rfl)))
            (try simp only [Act.put, List.setIfInBounds_toArray, List.set_cons_zero, List.set_cons_succ])
            refine wpAnyH_take (i := 11) (oi := ⟨_, _, _, _, _, _⟩) (v := ?v588) rfl (by kernel_rfl) (by kernel_rfl) (by kernel_rfl) (fun _ _ _ h => h) (Or.inl ⟨by rfl, ?hy588⟩) (by assumption) ?_
            case hy588 => (intro w hSw; (try dsimp only at hSw); go_simp; (try (with_reducible rfl)))
            (try simp only [Act.put, List.setIfInBounds_toArray, List.set_cons_zero, List.set_cons_succ])
            refine wpAnyH_take (i := 12) (oi := ⟨_, _, _, _, _, _⟩) (v := ?v589) rfl (by kernel_rfl) (by kernel_rfl) (by kernel_rfl) (fun _ _ _ h => h) (Or.inl ⟨by rfl, ?hy589⟩) (by assumption) ?_
            case hy589 => (intro w hSw; (try dsimp only at hSw); go_simp; (try (with_reducible rfl)))
            (try simp only [Act.put, List.setIfInBounds_toArray, List.set_cons_zero, List.set_cons_succ])
            refine wpAnyH_take (i := 13) (oi := ⟨_, _, _, _, _, _⟩) (v := ?v590) rfl (by kernel_rfl) (by kernel_rfl) (by kernel_rfl) (fun _ _ _ h => h) (Or.inl ⟨by rfl, ?hy590⟩) (by assumption) ?_
            case hy590 => (intro w hSw; (try dsimp only at hSw); go_simp; (try (with_reducible rfl)))
            (try simp only [Act.put, List.setIfInBounds_toArray, List.set_cons_zero, List.set_cons_succ])
            refine wpAnyH_take (i := 14) (oi := ⟨_, _, _, _, _, _⟩) (v := ?v591) rfl (by kernel_rfl) (by kernel_rfl) (by kernel_rfl) (fun _ _ _ h => h) (Or.inl ⟨by rfl, ?hy591⟩) (by assumption) ?_
            case hy591 => (intro w hSw; (try dsimp only at hSw); go_simp; (try (with_reducible rfl)))
            (try simp only [Act.put, List.setIfInBounds_toArray, List.set_cons_zero, List.set_cons_succ])
            refine wpAnyH_take (i := 15) (oi := ⟨_, _, _, _, _, _⟩) (v := ?v592) rfl (by kernel_rfl) (by kernel_rfl) (by kernel_rfl) (fun _ _ _ h => h) (Or.inl ⟨by rfl, ?hy592⟩) (by assumption) ?_
            case hy592 => (intro w hSw; (try dsimp only at hSw); go_simp; (try (with_reducible rfl)))
            (try simp only [Act.put, List.setIfInBounds_toArray, List.set_cons_zero, List.set_cons_succ])
            refine wpAnyH_take (i := 16) (oi := ⟨_, _, _, _, _, _⟩) (v := ?v593) rfl (by kernel_rfl) (by kernel_rfl) (by kernel_rfl) (fun _ _ _ h => h) (Or.inl ⟨by rfl, ?hy593⟩) (by assumption) ?_
            case hy593 => (intro w hSw; (try dsimp only at hSw); go_simp; (try (with_reducible rfl)))
            (try simp only [Act.put, List.setIfInBounds_toArray, List.set_cons_zero, List.set_cons_succ])
            refine wpAnyH_ready (rs := [8]) (by kernel_rfl) (by simp) ?_
            refine AllReadyH.cons (o := ⟨_, _, _, _, _, _⟩) rfl (fun K hK => ?_) AllReadyH.nil
            go_simp
            (go_at_call 17; (with_reducible refine (K1.out _).mono ?_); rintro e w4 ⟨rfl, hu⟩; have HU4 := Lib.hid hu; have HX4 := Lib.hid (keepK15 HU4 hHeld); clear hu)
            (try go_wp2_with fail)
            refine hK.out _ _ ?hB594 (fun hHeld => ?_)
            case hB594 => (first | (with_reducible assumption) | (with_reducible exact keepK15 (Lib.hid (Up.refl _).drew) HSS.out) | (with_reducible exact HX4.out) | (with_reducible exact HX5.out))
            clear hK K
            (try simp only [Act.put, List.setIfInBounds_toArray, List.set_cons_zero, List.set_cons_succ])
            refine wpAnyH_take (i := 9) (oi := ⟨_, _, _, _, _, _⟩) (v := ?v595) rfl (by kernel_rfl) (by kernel_rfl) (by kernel_rfl) (fun _ _ _ h => h) (Or.inl ⟨by rfl, ?hy595⟩) (by assumption) ?_
            case hy595 => (intro w hSw; (try dsimp only at hSw); go_simp; (try (with_reducible rfl)))
            (try simp only [Act.put, List.setIfInBounds_toArray, List.set_cons_zero, List.set_cons_succ])
            refine wpAnyH_ready (rs := [17]) (by kernel_rfl) (by simp) ?_
            refine AllReadyH.cons (o := ⟨_, _, _, _, _, _⟩) rfl (fun K hK => ?_) AllReadyH.nil
            go_simp
            (go_at_call 17; (with_reducible refine (K2.out _).mono ?_); rintro e w5 ⟨rfl, hu⟩; have HU5 := Lib.hid hu; have HX5 := Lib.hid (keepK15 HU5 hHeld); clear hu)
            (try go_wp2_with fail)
            refine hK.out _ _ ?hB596 (fun hHeld => ?_)
            case hB596 => (first | (with_reducible assumption) | (with_reducible exact keepK15 (Lib.hid (Up.refl _).drew) HSS.out) | (with_reducible exact HX4.out) | (with_reducible exact HX5.out))
            clear hK K
            (try simp only [Act.put, List.setIfInBounds_toArray, List.set_cons_zero, List.set_cons_succ])
            refine wpAnyH_take (i := 18) (oi := ⟨_, _, _, _, _, _⟩) (v := ?v597) rfl (by kernel_rfl) (by kernel_rfl) (by kernel_rfl) (fun _ _ _ h => h) (Or.inl ⟨by rfl, ?hy597⟩) (by assumption) ?_
            case hy597 => (intro w hSw; (try dsimp only at hSw); go_simp; (try (with_reducible rfl)))
            (try simp only [Act.put, List.setIfInBounds_toArray, List.set_cons_zero, List.set_cons_succ])
            refine wpAnyH_take (i := 19) (oi := ⟨_, _, _, _, _, _⟩) (v := ?v598) rfl (by kernel_rfl) (by kernel_rfl) (by kernel_rfl) (fun _ _ _ h => h) (Or.inl ⟨by rfl, ?hy598⟩) (by assumption) ?_
            case hy598 => (intro w hSw; (try dsimp only at hSw); go_simp; (try (with_reducible rfl)))
            (try simp only [Act.put, List.setIfInBounds_toArray, List.set_cons_zero, List.set_cons_succ])
            refine wpAnyH_done (by kernel_rfl) ?_ _
            have UX := Lib.hid hHeld.1
            (repeat clear ‹Up wo _ ∧ _›)
            go_wp2_with fail
            go_roundw
            case rel => exact ⟨nx, nx + 1, rfl, by go_num, by omega, by omega, by omega, HC2, Lib.hid (fun p h1 h2 => absurd h1 (by omega)), UX⟩
            case measure => simp [intOf]; omega
        · obtain rfl : nx = m := by omega
          have fx : decide ((nx : Int) < nx) = false := decide_eq_false (by omega)
          by_cases hji : i < j
          · have fj : (i : Int) < j := by omega
            have fjm : (j : Int) ≤ nx := by omega
            have HZ2 := Lib.hid (HYS.out j hji (by omega) (HC.out hji) HF.out)
            have HR1 := Lib.hid (HR.out.up HV.out)
            have HB2 : Hid (∀ x ∈ R.take (i + 1) ++ R.drop j, bdG g x) := Lib.hid (sub_bd HB.out)
            have hrun1 := sliceToM_run b o nx kk i (by omega)
            have hrun2 := sliceFromM_run b o nx kk j (by omega) (by omega)
            have HWq := Lib.hid (HW.out.trans HV.out)
            have hlq := World.block_lt_of_cell? _ _ (HWq.out.keep _ _ _ HX.out.2.2.2.2.2.2.2.2.1)
            clear HYS HNO HCI HC HF cg HB
            go_wp2_with fail
            refine wp_region_held_drew (S := fun w' => Up wr w' ∧ True) (by kernel_rfl) ?hB599 (fun hHeld => ?_)
            case hB599 => exact ⟨(Up.refl _).drew, trivial⟩
            refine wpAnyH_take (i := 1) (oi := ⟨_, _, _, _, _, _⟩) (v := ?v600) rfl (by kernel_rfl) (by kernel_rfl) (by kernel_rfl) (fun _ _ _ h => h) (Or.inl ⟨by rfl, ?hy600⟩) (by assumption) ?_
            case hy600 => (intro w hSw; (try dsimp only at hSw); go_simp; (try (with_reducible rfl)))
            (try simp only [Act.put, List.setIfInBounds_toArray, List.set_cons_zero, List.set_cons_succ])
            refine wpAnyH_take (i := 2) (oi := ⟨_, _, _, _, _, _⟩) (v := ?v601) rfl (by kernel_rfl) (by kernel_rfl) (by kernel_rfl) (fun _ _ _ h => h) (Or.inl ⟨by rfl, ?hy601⟩) (by assumption) ?_
            case hy601 => (intro w hSw; (try dsimp only at hSw); go_simp; (try (with_reducible rfl)))
            (try simp only [Act.put, List.setIfInBounds_toArray, List.set_cons_zero, List.set_cons_succ])
            refine wpAnyH_take (i := 3) (oi := ⟨_, _, _, _, _, _⟩) (v := ?v602) rfl (by kernel_rfl) (by kernel_rfl) (by kernel_rfl) (fun _ _ _ h => h) (Or.inl ⟨by rfl, ?hy602⟩) (by assumption) ?_
            case hy602 => (intro w hSw; (try dsimp only at hSw); go_simp; (try (with_reducible rfl)))
            (try simp only [Act.put, List.setIfInBounds_toArray, List.set_cons_zero, List.set_cons_succ])
            refine wpAnyH_take (i := 4) (oi := ⟨_, _, _, _, _, _⟩) (v := ?v603) rfl (by kernel_rfl) (by kernel_rfl) (by kernel_rfl) (fun _ _ _ h => h) (Or.inl ⟨by rfl, ?hy603⟩) (by assumption) ?_
            case hy603 => (intro w hSw; (try dsimp only at hSw); go_simp; (try (with_reducible rfl)))
            (try simp only [Act.put, List.setIfInBounds_toArray, List.set_cons_zero, List.set_cons_succ])
            refine wpAnyH_take (i := 6) (oi := ⟨_, _, _, _, _, _⟩) (v := ?v604) rfl (by kernel_rfl) (by kernel_rfl) (by kernel_rfl) (fun _ _ _ h => h) (Or.inl ⟨by rfl, ?hy604⟩) (by assumption) ?_
            case hy604 => (intro w hSw; (try dsimp only at hSw); go_simp; (try (with_reducible rfl)))
            (try simp only [Act.put, List.setIfInBounds_toArray, List.set_cons_zero, List.set_cons_succ])
            refine wpAnyH_take (i := 7) (oi := ⟨_, _, _, _, _, _⟩) (v := ?v605) rfl (by kernel_rfl) (by kernel_rfl) (by kernel_rfl) (fun _ _ _ h => h) (Or.inl ⟨by rfl, ?hy605⟩) (by assumption) ?_
            case hy605 => (intro w hSw; (try dsimp only at hSw); go_simp; (try (with_reducible rfl)))
            (try simp only [Act.put, List.setIfInBounds_toArray, List.set_cons_zero, List.set_cons_succ])
            refine wpAnyH_take (i := 8) (oi := ⟨_, _, _, _, _, _⟩) (v := ?v606) rfl (by kernel_rfl) (by kernel_rfl) (by kernel_rfl) (fun _ _ _ h => h) (Or.inl ⟨by rfl, ?hy606⟩) (by assumption) ?_
            case hy606 => (intro w hSw; (try dsimp only at hSw); go_simp; (try (with_reducible rfl)))
            (try simp only [Act.put, List.setIfInBounds_toArray, List.set_cons_zero, List.set_cons_succ])
            refine wpAnyH_ready (rs := [0]) (by kernel_rfl) (by simp) ?_
            refine AllReadyH.cons (o := ⟨_, _, _, _, _, _⟩) rfl (fun K hK => ?_) AllReadyH.nil
            go_simp
            refine hK.out _ _ ?hB607 (fun hHeld => ?_)
            case hB607 => exact ⟨((Up.refl _).drew).alloc _ _, trivial⟩
            clear hK K
            (try simp only [Act.put, List.setIfInBounds_toArray, List.set_cons_zero, List.set_cons_succ])
            obtain ⟨A6, k6, w6, hr6, hO6, hU6⟩ := appendM 24 wr.drew (wr.drew.alloc (.cells #[] 23)) (.slice (some ⟨wr.heap.size, 0, none⟩) 0 0) 0 [] (OG.fresh (f := cM) (e := 23) (s := 7) (w0 := wr.drew) (w := wr.drew) (Nat.le_refl _) #[] rfl) ((Up.refl _).alloc _ _) (some ⟨b, o, none⟩) (i + 1) kk (R.take (i + 1)) ((HR1.out.first cM_len (by omega)).up ((Up.refl _).drew.alloc _ _)) (by omega)
            simp only [Nat.zero_add, List.nil_append] at hr6 hO6
            have HO6 := Lib.hid hO6
            have HU6 := Lib.hid ((Up.refl wr).drew.trans hU6)
            obtain ⟨A7, k7, w7, hr7, hO7, hU7⟩ := appendM 24 wr.drew w6 (.slice A6 (i + 1) k6) (i + 1) (R.take (i + 1)) HO6.out hU6 (some ⟨b, o + j * 7, none⟩) (nx - j) (kk - j) (R.drop j) ((HR1.out.cutM (by omega)).up HU6.out) (by omega)
            have HO7 := Lib.hid hO7
            have HU7 := Lib.hid ((Up.refl wr).drew.trans hU7)
            clear hO6 hU6 hO7 hU7
            refine wpAnyH_ready (rs := [5]) (by kernel_rfl) (by simp) ?_
            refine AllReadyH.cons (o := ⟨_, _, _, _, _, _⟩) rfl (fun K hK => ?_) AllReadyH.nil
            refine step_append_run rfl (.tmp 97) (.tmp 101) _ rfl (.slice (some ⟨wr.heap.size, 0, none⟩) 0 0) (.slice (some ⟨b, o, none⟩) (i + 1) kk) rfl rfl _ _ hr6 ?_
            refine hK.out _ _ ?hB608 (fun hHeld => ?_)
            case hB608 => exact ⟨HU6.out, trivial⟩
            clear hK K
            (try simp only [Act.put, List.setIfInBounds_toArray, List.set_cons_zero, List.set_cons_succ])
            refine wpAnyH_ready (rs := [9]) (by kernel_rfl) (by simp) ?_
            refine AllReadyH.cons (o := ⟨_, _, _, _, _, _⟩) rfl (fun K hK => ?_) AllReadyH.nil
            refine step_append_run rfl (.tmp 102) (.tmp 105) _ rfl (.slice A6 (i + 1) k6) (.slice (some ⟨b, o + j * 7, none⟩) (nx - j) (kk - j)) rfl rfl _ _ hr7 ?_
            refine hK.out _ _ ?hB609 (fun hHeld => ?_)
            case hB609 => exact ⟨HU7.out, trivial⟩
            clear hK K
            (try simp only [Act.put, List.setIfInBounds_toArray, List.set_cons_zero, List.set_cons_succ])
            refine wpAnyH_take (i := 10) (oi := ⟨_, _, _, _, _, _⟩) (v := ?v610) rfl (by kernel_rfl) (by kernel_rfl) (by kernel_rfl) (fun _ _ _ h => h) (Or.inl ⟨by rfl, ?hy610⟩) (by assumption) ?_
            case hy610 => (intro w hSw; (try dsimp only at hSw); go_simp; (try (with_reducible rfl)))
            (try simp only [Act.put, List.setIfInBounds_toArray, List.set_cons_zero, List.set_cons_succ])
            refine wpAnyH_done (by kernel_rfl) ?_ _
            clear hHeld
            go_wp2_with fail
            go_roundw
            case rel => exact ⟨i + 1, i + 1 + (nx - j), k7, A7, R.take (i + 1) ++ R.drop j, rfl, by go_num, by omega, (OG.sg HO7.out).1, by omega, Lib.hid (OG.sg HO7.out).2, HB2, HZ2, Lib.hid (fun b_ o_ h_ => Nat.lt_of_lt_of_le hlq (OG.nw HO7.out b_ o_ h_)), Lib.hid (HWq.out.trans HU7.out)⟩
            case measure => simp [lnS, intOf]; omega
          · obtain rfl : j = i := by omega
            have HZ2 := Lib.hid (HNO.out (fun p h1 h2 => HF.out p h1 h2))
            clear HYS HNO HCI HC HF cg
            go_wp2_with fail
            go_roundw
            case rel => exact ⟨j + 1, nx, kk, some ⟨b, o, none⟩, R, rfl, by go_num, by omega, hmk, hmn, Lib.hid (HR.out.up HV.out), HB, HZ2, HN, Lib.hid (HW.out.trans HV.out)⟩
            case measure => simp [lnS, intOf]; omega
    · obtain rfl : i = m := by omega
      have fi : decide ((i : Int) < i) = false := decide_eq_false (by omega)
      have HRZ : Hid (R = Z) := Lib.hid (by
        have e := HZr.out
        rw [Nat.sub_self, show R.drop i = [] from List.drop_eq_nil_of_le (by rw [HR.out.1]; exact Nat.le_refl _), prL_nil, List.append_nil, List.take_of_length_le (by rw [HR.out.1]; exact Nat.le_refl _)] at e
        exact e)
      obtain rfl : R = Z := HRZ.out
      have UU := HX.out.1.trans HW.out
      have c00 := HW.out.keep _ _ _ HX.out.2.1
      have c01 := HW.out.keep _ _ _ HX.out.2.2.1
      have c02 := HW.out.keep _ _ _ HX.out.2.2.2.1
      have c03 := HW.out.keep _ _ _ HX.out.2.2.2.2.1
      have c04 := HW.out.keep _ _ _ HX.out.2.2.2.2.2.1
      have c05 := HW.out.keep _ _ _ HX.out.2.2.2.2.2.2.1
      have c06 := HW.out.keep _ _ _ HX.out.2.2.2.2.2.2.2.1
      have c10 := HW.out.keep _ _ _ HX.out.2.2.2.2.2.2.2.2.1
      have c11 := HW.out.keep _ _ _ HX.out.2.2.2.2.2.2.2.2.2.1
      have c12 := HW.out.keep _ _ _ HX.out.2.2.2.2.2.2.2.2.2.2.1
      have c13 := HW.out.keep _ _ _ HX.out.2.2.2.2.2.2.2.2.2.2.2.1
      have c14 := HW.out.keep _ _ _ HX.out.2.2.2.2.2.2.2.2.2.2.2.2.1
      have c15 := HW.out.keep _ _ _ HX.out.2.2.2.2.2.2.2.2.2.2.2.2.2.1
      have c16 := HW.out.keep _ _ _ HX.out.2.2.2.2.2.2.2.2.2.2.2.2.2.2
      have z06 := UU.ownGe (g := w.heap.size) (Nat.le_refl _) 6
      have z10 := UU.ownGe (g := w.heap.size + 1) (by omega) 0
      have z11 := UU.ownGe (g := w.heap.size + 1) (by omega) 1
      have z12 := UU.ownGe (g := w.heap.size + 1) (by omega) 2
      have z13 := UU.ownGe (g := w.heap.size + 1) (by omega) 3
      have z14 := UU.ownGe (g := w.heap.size + 1) (by omega) 4
      have z15 := UU.ownGe (g := w.heap.size + 1) (by omega) 5
      have z16 := UU.ownGe (g := w.heap.size + 1) (by omega) 6
      have UU := Lib.hid UU
      have hlt := World.block_lt_of_cell? _ _ c10
      have HRw := HR
      clear HX HZr HRZ HB
      go_wp2_with fail
      refine bodyPost_ret (v := .tuple #[.agg #[.int .i64 g, .int .i64 v, .int .i64 q, .int .i64 c, .int .i64 now, .int .i64 (seq + 1), .slice B i kk], .int .i64 0]) (by simp [results, Try.results27, go_sem, c10, c11, c12, c13, c14, c15, c16]) rfl ⟨B, i, kk, rfl, hmn, hmk, ?_, ?_⟩
      · exact (UU.out.setCell (Nat.le_refl _) _).set7 (by omega)
      · exact (HRw.out.off (fun b_ o_ h_ => by have := HN.out b_ o_ h_; omega) _).off7 (fun b_ o_ h_ => by have := HN.out b_ o_ h_; omega) _ _ _ _ _ _ _
set_option maxHeartbeats 4000000 in
set_option maxRecDepth 100000 in
theorem radd13_good_zero (g v q c now seq d : Int) (n k : Nat) (A : Option Addr) (X : List Mrk) (hn : n ≤ 50000) (hk : n ≤ k) (h0 : ¬ 0 < n) (hv : stM g v q c now seq X = true) (hd : valG g d) (hf : fuM c seq X = false) (w : World) (hS : SG cM w A n X) :
    Calls Try.prog 27 #[.agg #[.int .i64 g, .int .i64 v, .int .i64 q, .int .i64 c, .int .i64 now, .int .i64 seq, .slice A n k], .int .i64 d] w fun e w' => ∃ A' n' k', e = .returned (.tuple #[.agg #[.int .i64 g, .int .i64 v, .int .i64 q, .int .i64 c, .int .i64 now, .int .i64 (seq + 1), .slice A' n' k'], .int .i64 0]) ∧ n' ≤ n + 1 ∧ n' ≤ k' ∧ Up w w' ∧ SG cM w' A' n' (adM g q seq now d X) := by
  have HL := Lib.hid hS.1
  have KV := Lib.hid (fun W (h : SG cM W A n X) => rvalidate13_up g v q c now seq n k A X hn W h)
  rw [stME_yes hv] at KV
  have HS := Lib.hid hS
  have KI := Lib.hid (rvalue13_any g d)
  rw [decide_eq_true hd] at KI
  have HQ : Hid (1 ≤ q ∧ q ≤ 64) := Lib.hid (mayC_true (stM_may hv)).2
  have HD : Hid (∀ j, j < n → bdM (X.getD j mk0)) := Lib.hid (by
    obtain ⟨hm, hx, _⟩ := stM_true hv
    obtain ⟨g1, g2, hc, g4⟩ := mayC_facts (mayM_true hm).2
    obtain ⟨hs2, hok⟩ := mrkB_true hx
    exact fun j hj => (hok j (by rw [hS.1]; exact hj)).bd hc.2 hs2.2)
  have HI : Hid (∀ j, j < n + 1 → bdG g ((inM (seq + 1) now d X).getD j mk0)) := Lib.hid (by
    obtain ⟨hm, hx, _⟩ := stM_true hv
    obtain ⟨hg, hm2⟩ := mayM_true hm
    obtain ⟨g1, g2, hc, g4⟩ := mayC_facts hm2
    obtain ⟨hs2, hok⟩ := mrkB_true hx
    intro j hj
    refine ⟨inM_bd hg hc.2 hs2.2 hok hd (by rw [hS.1]; exact hj), ?_⟩
    by_cases hjn : j < n
    · rw [inM_get (by rw [hS.1]; exact hjn)]
      obtain ⟨_, _, _, ⟨l1, l2⟩, ⟨l3, l4⟩, _⟩ := HD.out j hjn
      obtain ⟨d1, d2, _⟩ := hd
      show In (min _ d) ∧ In (max _ d)
      have p1 := min_b l1 l2 d1 d2
      have p2 := min_b l3 l4 d1 d2
      exact ⟨⟨by omega, by omega⟩, ⟨by omega, by omega⟩⟩
    · obtain rfl : j = X.length := by rw [hS.1]; omega
      rw [inM_last]
      obtain ⟨d1, d2, _⟩ := hd
      exact ⟨⟨by show _ ≤ d; omega, by show d ≤ _; omega⟩, ⟨by show _ ≤ d; omega, by show d ≤ _; omega⟩⟩)
  have HAN : Hid (∀ i j, i ≤ j → j < n + 1 → ofZ g ((inM (seq + 1) now d X).getD j mk0) ≤ ofZ g ((inM (seq + 1) now d X).getD i mk0)) := Lib.hid (by
    obtain ⟨hm, hx, _⟩ := stM_true hv
    obtain ⟨hs2, hok⟩ := mrkB_true hx
    exact fun i j hij hj => inM_anti (mayM_true hm).1 hok hd hij (by rw [hS.1]; exact hj))
  have w5_ : IntKind.i64.wrap (seq + 1) = seq + 1 := by
    obtain ⟨_, hx, _⟩ := stM_true hv
    obtain ⟨hs2, _⟩ := mrkB_true hx
    rw [IntKind.wrap_i64]; omega
  have KE := Lib.hid (fun W (h : Up w W) => rinclude_up n k A X (seq + 1) now d hn HD.out hd.1 hd.2.1 W (hS.up h))
  have HZ : Hid (prL (clM g q) (n + 1) (inM (seq + 1) now d X) = adM g q seq now d X) := Lib.hid (by rw [← HL.out]; rfl)
  have HI2 : Hid (∀ x ∈ inM (seq + 1) now d X, bdG g x) := Lib.hid (fun x hx => by
    obtain ⟨j, hj, e⟩ := mem_getD hx
    rw [inM_len, HL.out] at hj
    rw [← e]; exact HI.out j hj)
  clear HD HI HAN
  generalize adM g q seq now d X = Z at *
  generalize inM (seq + 1) now d X = M3 at *
  have w6_ : IntKind.i64.wrap (q + 1) = q + 1 := by have := HQ.out; rw [IntKind.wrap_i64]; omega
  have HSn := Lib.hid hS
  clear hS hv hd
  have HF : Hid (seq ≠ 1099511627776) := Lib.hid (by
    unfold fuM at hf
    rw [HSn.out.1, Bool.or_eq_false_iff, Bool.and_eq_false_iff, decide_eq_false_iff_not, decide_eq_false_iff_not, decide_eq_false_iff_not] at hf
    exact hf.2)
  clear hf
  have t2 : (seq == 1099511627776) = false := beq_eq_false_iff_ne.2 HF.out
  have t1 : decide ((0 : Int) < n) = false := decide_eq_false (by omega)
  have t1n : decide (0 < n) = false := decide_eq_false h0
  have t1p : (0 < n) = False := eq_false h0
  clear HF h0
  go_enter Try.func27, Try.ntmps27
  go_upto_region 6 with (first | (go_at_call 73; (with_reducible refine (KI.out _).mono ?_); rintro e w2 ⟨rfl, rfl⟩) | (go_at_call 23; (with_reducible refine (KV.out _ (HS.out.up (((Up.refl w).alloc _ _).alloc _ _))).mono ?_); rintro e w1 ⟨rfl, hu⟩; have HU1 := Lib.hid ((((Up.refl w).alloc #[.int .i64 g, .int .i64 v, .int .i64 q, .int .i64 c, .int .i64 now, .int .i64 seq, .slice A n k] 26).alloc #[.int .i64 0, .int .i64 0, .int .i64 0, .int .i64 0, .int .i64 0, .int .i64 0, .slice none 0 0] 26).trans hu); have c00 := hu.keep (w.heap.size) 0 (.int .i64 g) (by simp [go_sem]); have c01 := hu.keep (w.heap.size) 1 (.int .i64 v) (by simp [go_sem]); have c02 := hu.keep (w.heap.size) 2 (.int .i64 q) (by simp [go_sem]); have c03 := hu.keep (w.heap.size) 3 (.int .i64 c) (by simp [go_sem]); have c04 := hu.keep (w.heap.size) 4 (.int .i64 now) (by simp [go_sem]); have c05 := hu.keep (w.heap.size) 5 (.int .i64 seq) (by simp [go_sem]); have c06 := hu.keep (w.heap.size) 6 (.slice A n k) (by simp [go_sem]); have c10 := hu.keep (w.heap.size + 1) 0 (.int .i64 0) (by simp [go_sem]); have c11 := hu.keep (w.heap.size + 1) 1 (.int .i64 0) (by simp [go_sem]); have c12 := hu.keep (w.heap.size + 1) 2 (.int .i64 0) (by simp [go_sem]); have c13 := hu.keep (w.heap.size + 1) 3 (.int .i64 0) (by simp [go_sem]); have c14 := hu.keep (w.heap.size + 1) 4 (.int .i64 0) (by simp [go_sem]); have c15 := hu.keep (w.heap.size + 1) 5 (.int .i64 0) (by simp [go_sem]); have c16 := hu.keep (w.heap.size + 1) 6 (.slice none 0 0) (by simp [go_sem]); have z00 := HU1.out.ownGe (g := w.heap.size) (Nat.le_refl _) 0; have z01 := HU1.out.ownGe (g := w.heap.size) (Nat.le_refl _) 1; have z02 := HU1.out.ownGe (g := w.heap.size) (Nat.le_refl _) 2; have z03 := HU1.out.ownGe (g := w.heap.size) (Nat.le_refl _) 3; have z04 := HU1.out.ownGe (g := w.heap.size) (Nat.le_refl _) 4; have z05 := HU1.out.ownGe (g := w.heap.size) (Nat.le_refl _) 5; have z06 := HU1.out.ownGe (g := w.heap.size) (Nat.le_refl _) 6; have z10 := HU1.out.ownGe (g := w.heap.size + 1) (by omega) 0; have z11 := HU1.out.ownGe (g := w.heap.size + 1) (by omega) 1; have z12 := HU1.out.ownGe (g := w.heap.size + 1) (by omega) 2; have z13 := HU1.out.ownGe (g := w.heap.size + 1) (by omega) 3; have z14 := HU1.out.ownGe (g := w.heap.size + 1) (by omega) 4; have z15 := HU1.out.ownGe (g := w.heap.size + 1) (by omega) 5; have z16 := HU1.out.ownGe (g := w.heap.size + 1) (by omega) 6; have hlt : w.heap.size + 1 < w1.heap.size := World.block_lt_of_cell? _ _ c10; have hlt0 : w.heap.size < w1.heap.size := Nat.lt_of_succ_lt hlt; clear hu))
  have HSS : Hid (Up w w1 ∧ w1.cell? ⟨w.heap.size, 0, none⟩ = some (.int .i64 g) ∧ w1.cell? ⟨w.heap.size, 1, none⟩ = some (.int .i64 v) ∧ w1.cell? ⟨w.heap.size, 2, none⟩ = some (.int .i64 q) ∧ w1.cell? ⟨w.heap.size, 3, none⟩ = some (.int .i64 c) ∧ w1.cell? ⟨w.heap.size, 4, none⟩ = some (.int .i64 now) ∧ w1.cell? ⟨w.heap.size, 5, none⟩ = some (.int .i64 seq) ∧ w1.cell? ⟨w.heap.size, 6, none⟩ = some (.slice A n k) ∧ w1.cell? ⟨(w.heap.size + 1), 0, none⟩ = some (.int .i64 0) ∧ w1.cell? ⟨(w.heap.size + 1), 1, none⟩ = some (.int .i64 0) ∧ w1.cell? ⟨(w.heap.size + 1), 2, none⟩ = some (.int .i64 0) ∧ w1.cell? ⟨(w.heap.size + 1), 3, none⟩ = some (.int .i64 0) ∧ w1.cell? ⟨(w.heap.size + 1), 4, none⟩ = some (.int .i64 0) ∧ w1.cell? ⟨(w.heap.size + 1), 5, none⟩ = some (.int .i64 0) ∧ w1.cell? ⟨(w.heap.size + 1), 6, none⟩ = some (.slice none 0 0)) := Lib.hid ⟨HU1.out, c00, c01, c02, c03, c04, c05, c06, c10, c11, c12, c13, c14, c15, c16⟩
  skip
  go_wp2_with fail
  refine wp_region_held_drew (S := fun w' => Up w w' ∧ w'.cell? ⟨w.heap.size, 0, none⟩ = some (.int .i64 g) ∧ w'.cell? ⟨w.heap.size, 1, none⟩ = some (.int .i64 v) ∧ w'.cell? ⟨w.heap.size, 2, none⟩ = some (.int .i64 q) ∧ w'.cell? ⟨w.heap.size, 3, none⟩ = some (.int .i64 c) ∧ w'.cell? ⟨w.heap.size, 4, none⟩ = some (.int .i64 now) ∧ w'.cell? ⟨w.heap.size, 5, none⟩ = some (.int .i64 seq) ∧ w'.cell? ⟨w.heap.size, 6, none⟩ = some (.slice A n k) ∧ w'.cell? ⟨(w.heap.size + 1), 0, none⟩ = some (.int .i64 0) ∧ w'.cell? ⟨(w.heap.size + 1), 1, none⟩ = some (.int .i64 0) ∧ w'.cell? ⟨(w.heap.size + 1), 2, none⟩ = some (.int .i64 0) ∧ w'.cell? ⟨(w.heap.size + 1), 3, none⟩ = some (.int .i64 0) ∧ w'.cell? ⟨(w.heap.size + 1), 4, none⟩ = some (.int .i64 0) ∧ w'.cell? ⟨(w.heap.size + 1), 5, none⟩ = some (.int .i64 0) ∧ w'.cell? ⟨(w.heap.size + 1), 6, none⟩ = some (.slice none 0 0)) (by kernel_rfl) ?hB624 (fun hHeld => ?_)
  case hB624 => (first | (with_reducible assumption) | (with_reducible exact keepK14 (Lib.hid (Up.refl _).drew) HSS.out))
  refine wpAnyH_take (i := 0) (oi := ⟨_, _, _, _, _, _⟩) (v := ?v625) rfl (by kernel_rfl) (by kernel_rfl) (by kernel_rfl) (fun _ _ _ h => h) (Or.inl ⟨by rfl, ?hy625⟩) (by assumption) ?_
  case hy625 => (intro w hSw; (try dsimp only at hSw); go_simp; (try (with_reducible rfl)))
  (try simp only [Act.put, List.setIfInBounds_toArray, List.set_cons_zero, List.set_cons_succ])
  refine wpAnyH_take (i := 1) (oi := ⟨_, _, _, _, _, _⟩) (v := ?v626) rfl (by kernel_rfl) (by kernel_rfl) (by kernel_rfl) (fun _ _ _ h => h) (Or.inl ⟨by rfl, ?hy626⟩) (by assumption) ?_
  case hy626 => (intro w hSw; (try dsimp only at hSw); go_simp; (try (with_reducible rfl)))
  (try simp only [Act.put, List.setIfInBounds_toArray, List.set_cons_zero, List.set_cons_succ])
  refine wpAnyH_take (i := 2) (oi := ⟨_, _, _, _, _, _⟩) (v := ?v627) rfl (by kernel_rfl) (by kernel_rfl) (by kernel_rfl) (fun _ _ _ h => h) (Or.inl ⟨by rfl, ?hy627⟩) (by assumption) ?_
  case hy627 => (intro w hSw; (try dsimp only at hSw); go_simp; (try (with_reducible rfl)))
  (try simp only [Act.put, List.setIfInBounds_toArray, List.set_cons_zero, List.set_cons_succ])
  refine wpAnyH_take (i := 3) (oi := ⟨_, _, _, _, _, _⟩) (v := ?v628) rfl (by kernel_rfl) (by kernel_rfl) (by kernel_rfl) (fun _ _ _ h => h) (Or.inl ⟨by rfl, ?hy628⟩) (by assumption) ?_
  case hy628 => (intro w hSw; (try dsimp only at hSw); go_simp; (try (with_reducible rfl)))
  (try simp only [Act.put, List.setIfInBounds_toArray, List.set_cons_zero, List.set_cons_succ])
  refine wpAnyH_take (i := 4) (oi := ⟨_, _, _, _, _, _⟩) (v := ?v629) rfl (by kernel_rfl) (by kernel_rfl) (by kernel_rfl) (fun _ _ _ h => h) (Or.inl ⟨by rfl, ?hy629⟩) (by assumption) ?_
  case hy629 => (intro w hSw; (try dsimp only at hSw); go_simp; (try (with_reducible rfl)))
  (try simp only [Act.put, List.setIfInBounds_toArray, List.set_cons_zero, List.set_cons_succ])
  refine wpAnyH_take (i := 5) (oi := ⟨_, _, _, _, _, _⟩) (v := undef) rfl (by kernel_rfl) (by kernel_rfl) (by kernel_rfl) (fun _ _ _ h => h) (Or.inr ⟨by rfl, rfl⟩) (by assumption) ?_
  (try simp only [Act.put, List.setIfInBounds_toArray, List.set_cons_zero, List.set_cons_succ])
  refine wpAnyH_take (i := 6) (oi := ⟨_, _, _, _, _, _⟩) (v := undef) rfl (by kernel_rfl) (by kernel_rfl) (by kernel_rfl) (fun _ _ _ h => h) (Or.inr ⟨by rfl, rfl⟩) (by assumption) ?_
  (try simp only [Act.put, List.setIfInBounds_toArray, List.set_cons_zero, List.set_cons_succ])
  refine wpAnyH_take (i := 7) (oi := ⟨_, _, _, _, _, _⟩) (v := undef) rfl (by kernel_rfl) (by kernel_rfl) (by kernel_rfl) (fun _ _ _ h => h) (Or.inr ⟨by rfl, rfl⟩) (by assumption) ?_
  (try simp only [Act.put, List.setIfInBounds_toArray, List.set_cons_zero, List.set_cons_succ])
  refine wpAnyH_take (i := 8) (oi := ⟨_, _, _, _, _, _⟩) (v := undef) rfl (by kernel_rfl) (by kernel_rfl) (by kernel_rfl) (fun _ _ _ h => h) (Or.inr ⟨by rfl, rfl⟩) (by assumption) ?_
  (try simp only [Act.put, List.setIfInBounds_toArray, List.set_cons_zero, List.set_cons_succ])
  refine wpAnyH_take (i := 9) (oi := ⟨_, _, _, _, _, _⟩) (v := undef) rfl (by kernel_rfl) (by kernel_rfl) (by kernel_rfl) (fun _ _ _ h => h) (Or.inr ⟨by rfl, rfl⟩) (by assumption) ?_
  (try simp only [Act.put, List.setIfInBounds_toArray, List.set_cons_zero, List.set_cons_succ])
  refine wpAnyH_take (i := 10) (oi := ⟨_, _, _, _, _, _⟩) (v := undef) rfl (by kernel_rfl) (by kernel_rfl) (by kernel_rfl) (fun _ _ _ h => h) (Or.inr ⟨by rfl, rfl⟩) (by assumption) ?_
  (try simp only [Act.put, List.setIfInBounds_toArray, List.set_cons_zero, List.set_cons_succ])
  refine wpAnyH_take (i := 11) (oi := ⟨_, _, _, _, _, _⟩) (v := undef) rfl (by kernel_rfl) (by kernel_rfl) (by kernel_rfl) (fun _ _ _ h => h) (Or.inr ⟨by rfl, rfl⟩) (by assumption) ?_
  (try simp only [Act.put, List.setIfInBounds_toArray, List.set_cons_zero, List.set_cons_succ])
  refine wpAnyH_take (i := 12) (oi := ⟨_, _, _, _, _, _⟩) (v := undef) rfl (by kernel_rfl) (by kernel_rfl) (by kernel_rfl) (fun _ _ _ h => h) (Or.inr ⟨by rfl, rfl⟩) (by assumption) ?_
  (try simp only [Act.put, List.setIfInBounds_toArray, List.set_cons_zero, List.set_cons_succ])
  refine wpAnyH_take (i := 13) (oi := ⟨_, _, _, _, _, _⟩) (v := ?v630) rfl (by kernel_rfl) (by kernel_rfl) (by kernel_rfl) (fun _ _ _ h => h) (Or.inl ⟨by rfl, ?hy630⟩) (by assumption) ?_
  case hy630 => (intro w hSw; (try dsimp only at hSw); go_simp; (try (with_reducible rfl)))
  (try simp only [Act.put, List.setIfInBounds_toArray, List.set_cons_zero, List.set_cons_succ])
  refine wpAnyH_take (i := 14) (oi := ⟨_, _, _, _, _, _⟩) (v := ?v631) rfl (by kernel_rfl) (by kernel_rfl) (by kernel_rfl) (fun _ _ _ h => h) (Or.inl ⟨by rfl, ?hy631⟩) (by assumption) ?_
  case hy631 => (intro w hSw; (try dsimp only at hSw); go_simp; (try (with_reducible rfl)))
  (try simp only [Act.put, List.setIfInBounds_toArray, List.set_cons_zero, List.set_cons_succ])
  refine wpAnyH_take (i := 15) (oi := ⟨_, _, _, _, _, _⟩) (v := ?v632) rfl (by kernel_rfl) (by kernel_rfl) (by kernel_rfl) (fun _ _ _ h => h) (Or.inl ⟨by rfl, ?hy632⟩) (by assumption) ?_
  case hy632 => (intro w hSw; (try dsimp only at hSw); go_simp; (try (with_reducible rfl)))
  (try simp only [Act.put, List.setIfInBounds_toArray, List.set_cons_zero, List.set_cons_succ])
  refine wpAnyH_take (i := 16) (oi := ⟨_, _, _, _, _, _⟩) (v := ?v633) rfl (by kernel_rfl) (by kernel_rfl) (by kernel_rfl) (fun _ _ _ h => h) (Or.inl ⟨by rfl, ?hy633⟩) (by assumption) ?_
  case hy633 => (intro w hSw; (try dsimp only at hSw); go_simp; (try (with_reducible rfl)))
  (try simp only [Act.put, List.setIfInBounds_toArray, List.set_cons_zero, List.set_cons_succ])
  refine wpAnyH_take (i := 17) (oi := ⟨_, _, _, _, _, _⟩) (v := ?v634) rfl (by kernel_rfl) (by kernel_rfl) (by kernel_rfl) (fun _ _ _ h => h) (Or.inl ⟨by rfl, ?hy634⟩) (by assumption) ?_
  case hy634 => (intro w hSw; (try dsimp only at hSw); go_simp; (try (with_reducible rfl)))
  (try simp only [Act.put, List.setIfInBounds_toArray, List.set_cons_zero, List.set_cons_succ])
  refine wpAnyH_take (i := 18) (oi := ⟨_, _, _, _, _, _⟩) (v := ?v635) rfl (by kernel_rfl) (by kernel_rfl) (by kernel_rfl) (fun _ _ _ h => h) (Or.inl ⟨by rfl, ?hy635⟩) (by assumption) ?_
  case hy635 => (intro w hSw; (try dsimp only at hSw); go_simp; (try (with_reducible rfl)))
  (try simp only [Act.put, List.setIfInBounds_toArray, List.set_cons_zero, List.set_cons_succ])
  refine wpAnyH_done (by kernel_rfl) ?_ _
  (try clear hHeld)
  (repeat clear ‹Up w _ ∧ _›)
  go_upto_region 9 with fail
  refine (show ∀ W2 : World, W2 = _ → Code.wp _ _ _ _ W2 from fun W2 hW2 => ?_) _ rfl
  have U2 := Lib.hid (show Up w W2 by rw [hW2]; exact (HU1.out.setCell (Nat.le_refl _) _).drew)
  have b0 : W2.cell? ⟨w.heap.size, 0, none⟩ = some (.int .i64 g) := by rw [hW2]; simp [go_sem, c00]
  have b1 : W2.cell? ⟨w.heap.size, 1, none⟩ = some (.int .i64 v) := by rw [hW2]; simp [go_sem, c01]
  have b2 : W2.cell? ⟨w.heap.size, 2, none⟩ = some (.int .i64 q) := by rw [hW2]; simp [go_sem, c02]
  have b3 : W2.cell? ⟨w.heap.size, 3, none⟩ = some (.int .i64 c) := by rw [hW2]; simp [go_sem, c03]
  have b4 : W2.cell? ⟨w.heap.size, 4, none⟩ = some (.int .i64 now) := by rw [hW2]; simp [go_sem, c04]
  have b5 : W2.cell? ⟨w.heap.size, 5, none⟩ = some (.int .i64 (seq + 1)) := by rw [hW2]; simp [go_sem, c05]
  have b6 : W2.cell? ⟨w.heap.size, 6, none⟩ = some (.slice A n k) := by rw [hW2]; simp [go_sem, c06]
  have r0 : W2.cell? ⟨w.heap.size + 1, 0, none⟩ = some (.int .i64 0) := by rw [hW2]; simp [go_sem, c10]
  have r1 : W2.cell? ⟨w.heap.size + 1, 1, none⟩ = some (.int .i64 0) := by rw [hW2]; simp [go_sem, c11]
  have r2 : W2.cell? ⟨w.heap.size + 1, 2, none⟩ = some (.int .i64 0) := by rw [hW2]; simp [go_sem, c12]
  have r3 : W2.cell? ⟨w.heap.size + 1, 3, none⟩ = some (.int .i64 0) := by rw [hW2]; simp [go_sem, c13]
  have r4 : W2.cell? ⟨w.heap.size + 1, 4, none⟩ = some (.int .i64 0) := by rw [hW2]; simp [go_sem, c14]
  have r5 : W2.cell? ⟨w.heap.size + 1, 5, none⟩ = some (.int .i64 0) := by rw [hW2]; simp [go_sem, c15]
  have r6 : W2.cell? ⟨w.heap.size + 1, 6, none⟩ = some (.slice none 0 0) := by rw [hW2]; simp [go_sem, c16]
  clear hW2 HU1
  (try clear KV KI)
  clear hlt hlt0 c00 c01 c02 c03 c04 c05 c06 c10 c11 c12 c13 c14 c15 c16 z00 z01 z02 z03 z04 z05 z06 z10 z11 z12 z13 z14 z15 z16
  have HSS : Hid (Up w W2 ∧ W2.cell? ⟨w.heap.size, 0, none⟩ = some (.int .i64 g) ∧ W2.cell? ⟨w.heap.size, 1, none⟩ = some (.int .i64 v) ∧ W2.cell? ⟨w.heap.size, 2, none⟩ = some (.int .i64 q) ∧ W2.cell? ⟨w.heap.size, 3, none⟩ = some (.int .i64 c) ∧ W2.cell? ⟨w.heap.size, 4, none⟩ = some (.int .i64 now) ∧ W2.cell? ⟨w.heap.size, 5, none⟩ = some (.int .i64 (seq + 1)) ∧ W2.cell? ⟨w.heap.size, 6, none⟩ = some (.slice A n k) ∧ W2.cell? ⟨(w.heap.size + 1), 0, none⟩ = some (.int .i64 0) ∧ W2.cell? ⟨(w.heap.size + 1), 1, none⟩ = some (.int .i64 0) ∧ W2.cell? ⟨(w.heap.size + 1), 2, none⟩ = some (.int .i64 0) ∧ W2.cell? ⟨(w.heap.size + 1), 3, none⟩ = some (.int .i64 0) ∧ W2.cell? ⟨(w.heap.size + 1), 4, none⟩ = some (.int .i64 0) ∧ W2.cell? ⟨(w.heap.size + 1), 5, none⟩ = some (.int .i64 0) ∧ W2.cell? ⟨(w.heap.size + 1), 6, none⟩ = some (.slice none 0 0)) := Lib.hid ⟨U2.out, b0, b1, b2, b3, b4, b5, b6, r0, r1, r2, r3, r4, r5, r6⟩
  clear b0 b1 b2 b3 b4 b5 b6 r0 r1 r2 r3 r4 r5 r6
  go_wp2_with fail
  refine wp_region_held_drew (S := fun w' => Up w w' ∧ w'.cell? ⟨w.heap.size, 0, none⟩ = some (.int .i64 g) ∧ w'.cell? ⟨w.heap.size, 1, none⟩ = some (.int .i64 v) ∧ w'.cell? ⟨w.heap.size, 2, none⟩ = some (.int .i64 q) ∧ w'.cell? ⟨w.heap.size, 3, none⟩ = some (.int .i64 c) ∧ w'.cell? ⟨w.heap.size, 4, none⟩ = some (.int .i64 now) ∧ w'.cell? ⟨w.heap.size, 5, none⟩ = some (.int .i64 (seq + 1)) ∧ w'.cell? ⟨w.heap.size, 6, none⟩ = some (.slice A n k) ∧ w'.cell? ⟨(w.heap.size + 1), 0, none⟩ = some (.int .i64 0) ∧ w'.cell? ⟨(w.heap.size + 1), 1, none⟩ = some (.int .i64 0) ∧ w'.cell? ⟨(w.heap.size + 1), 2, none⟩ = some (.int .i64 0) ∧ w'.cell? ⟨(w.heap.size + 1), 3, none⟩ = some (.int .i64 0) ∧ w'.cell? ⟨(w.heap.size + 1), 4, none⟩ = some (.int .i64 0) ∧ w'.cell? ⟨(w.heap.size + 1), 5, none⟩ = some (.int .i64 0) ∧ w'.cell? ⟨(w.heap.size + 1), 6, none⟩ = some (.slice none 0 0)) (by kernel_rfl) ?hB690 (fun hHeld => ?_)
  case hB690 => (first | (with_reducible assumption) | (with_reducible exact keepK14 (Lib.hid (Up.refl _).drew) HSS.out) | (with_reducible exact HX3.out))
  refine wpAnyH_take (i := 0) (oi := ⟨_, _, _, _, _, _⟩) (v := ?v691) rfl (by kernel_rfl) (by kernel_rfl) (by kernel_rfl) (fun _ _ _ h => h) (Or.inl ⟨by rfl, ?hy691⟩) (by assumption) ?_
  case hy691 => (intro w hSw; (try dsimp only at hSw); go_simp; (try (with_reducible rfl)))
  (try simp only [Act.put, List.setIfInBounds_toArray, List.set_cons_zero, List.set_cons_succ])
  refine wpAnyH_take (i := 1) (oi := ⟨_, _, _, _, _, _⟩) (v := ?v692) rfl (by kernel_rfl) (by kernel_rfl) (by kernel_rfl) (fun _ _ _ h => h) (Or.inl ⟨by rfl, ?hy692⟩) (by assumption) ?_
  case hy692 => (intro w hSw; (try dsimp only at hSw); go_simp; (try (with_reducible rfl)))
  (try simp only [Act.put, List.setIfInBounds_toArray, List.set_cons_zero, List.set_cons_succ])
  refine wpAnyH_take (i := 2) (oi := ⟨_, _, _, _, _, _⟩) (v := ?v693) rfl (by kernel_rfl) (by kernel_rfl) (by kernel_rfl) (fun _ _ _ h => h) (Or.inl ⟨by rfl, ?hy693⟩) (by assumption) ?_
  case hy693 => (intro w hSw; (try dsimp only at hSw); go_simp; (try (with_reducible rfl)))
  (try simp only [Act.put, List.setIfInBounds_toArray, List.set_cons_zero, List.set_cons_succ])
  refine wpAnyH_take (i := 3) (oi := ⟨_, _, _, _, _, _⟩) (v := ?v694) rfl (by kernel_rfl) (by kernel_rfl) (by kernel_rfl) (fun _ _ _ h => h) (Or.inl ⟨by rfl, ?hy694⟩) (by assumption) ?_
  case hy694 => (intro w hSw; (try dsimp only at hSw); go_simp; (try (with_reducible rfl)))
  (try simp only [Act.put, List.setIfInBounds_toArray, List.set_cons_zero, List.set_cons_succ])
  refine wpAnyH_take (i := 4) (oi := ⟨_, _, _, _, _, _⟩) (v := ?v695) rfl (by kernel_rfl) (by kernel_rfl) (by kernel_rfl) (fun _ _ _ h => h) (Or.inl ⟨by rfl, ?hy695⟩) (by assumption) ?_
  case hy695 => (intro w hSw; (try dsimp only at hSw); go_simp; (try (with_reducible rfl)))
  (try simp only [Act.put, List.setIfInBounds_toArray, List.set_cons_zero, List.set_cons_succ])
  refine wpAnyH_take (i := 5) (oi := ⟨_, _, _, _, _, _⟩) (v := ?v696) rfl (by kernel_rfl) (by kernel_rfl) (by kernel_rfl) (fun _ _ _ h => h) (Or.inl ⟨by rfl, ?hy696⟩) (by assumption) ?_
  case hy696 => (intro w hSw; (try dsimp only at hSw); go_simp; (try (with_reducible rfl)))
  (try simp only [Act.put, List.setIfInBounds_toArray, List.set_cons_zero, List.set_cons_succ])
  refine wpAnyH_take (i := 6) (oi := ⟨_, _, _, _, _, _⟩) (v := ?v697) rfl (by kernel_rfl) (by kernel_rfl) (by kernel_rfl) (fun _ _ _ h => h) (Or.inl ⟨by rfl, ?hy697⟩) (by assumption) ?_
  case hy697 => (intro w hSw; (try dsimp only at hSw); go_simp; (try (with_reducible rfl)))
  (try simp only [Act.put, List.setIfInBounds_toArray, List.set_cons_zero, List.set_cons_succ])
  refine wpAnyH_take (i := 8) (oi := ⟨_, _, _, _, _, _⟩) (v := ?v698) rfl (by kernel_rfl) (by kernel_rfl) (by kernel_rfl) (fun _ _ _ h => h) (Or.inl ⟨by rfl, ?hy698⟩) (by assumption) ?_
  case hy698 => (intro w hSw; (try dsimp only at hSw); go_simp; (try (with_reducible rfl)))
  (try simp only [Act.put, List.setIfInBounds_toArray, List.set_cons_zero, List.set_cons_succ])
  refine wpAnyH_take (i := 9) (oi := ⟨_, _, _, _, _, _⟩) (v := ?v699) rfl (by kernel_rfl) (by kernel_rfl) (by kernel_rfl) (fun _ _ _ h => h) (Or.inl ⟨by rfl, ?hy699⟩) (by assumption) ?_
  case hy699 => (intro w hSw; (try dsimp only at hSw); go_simp; (try (with_reducible rfl)))
  (try simp only [Act.put, List.setIfInBounds_toArray, List.set_cons_zero, List.set_cons_succ])
  refine wpAnyH_ready (rs := [7]) (by kernel_rfl) (by simp) ?_
  refine AllReadyH.cons (o := ⟨_, _, _, _, _, _⟩) rfl (fun K hK => ?_) AllReadyH.nil
  go_simp
  (go_at_call 74; (with_reducible refine (KE.out _ U2.out.drew).mono ?_); rintro e w3 ⟨A3, k3, rfl, hk3, hnw, hu, hM⟩; have HM3 := Lib.hid hM; have hltW := World.block_lt_of_cell? _ _ hHeld.2.2.2.2.2.2.2.2.1; have HNW : Hid (∀ b_ o_, A3 = some ⟨b_, o_, none⟩ → w.heap.size + 1 < b_) := Lib.hid (fun b_ o_ h_ => Nat.lt_of_lt_of_le hltW (hnw b_ o_ h_)); clear hltW; have HX3 := Lib.hid (keepK14 (Lib.hid hu) hHeld); clear hu hM hnw)
  (try go_wp2_with fail)
  refine hK.out _ _ ?hB700 (fun hHeld => ?_)
  case hB700 => (first | (with_reducible assumption) | (with_reducible exact keepK14 (Lib.hid (Up.refl _).drew) HSS.out) | (with_reducible exact HX3.out))
  clear hK K
  (try simp only [Act.put, List.setIfInBounds_toArray, List.set_cons_zero, List.set_cons_succ])
  refine wpAnyH_take (i := 10) (oi := ⟨_, _, _, _, _, _⟩) (v := ?v701) rfl (by kernel_rfl) (by kernel_rfl) (by kernel_rfl) (fun _ _ _ h => h) (Or.inl ⟨by rfl, ?hy701⟩) (by assumption) ?_
  case hy701 => (intro w hSw; (try dsimp only at hSw); go_simp; (try (with_reducible rfl)))
  (try simp only [Act.put, List.setIfInBounds_toArray, List.set_cons_zero, List.set_cons_succ])
  refine wpAnyH_take (i := 11) (oi := ⟨_, _, _, _, _, _⟩) (v := ?v702) rfl (by kernel_rfl) (by kernel_rfl) (by kernel_rfl) (fun _ _ _ h => h) (Or.inl ⟨by rfl, ?hy702⟩) (by assumption) ?_
  case hy702 => (intro w hSw; (try dsimp only at hSw); go_simp; (try (with_reducible rfl)))
  (try simp only [Act.put, List.setIfInBounds_toArray, List.set_cons_zero, List.set_cons_succ])
  refine wpAnyH_done (by kernel_rfl) ?_ _
  clear hHeld HSS
  have HX := HX3
  clear HX3
  go_wp2_with fail
  go_loopw [7, 9] (fun t7 t9 wr => ∃ (i m kk : Nat) (B : Option Addr) (R : List Mrk), t7 = .slice B m kk ∧ t9 = .int .i64 i ∧ i ≤ m ∧ m ≤ kk ∧ m ≤ n + 1 ∧ Hid (SG cM wr B m R) ∧ Hid (∀ x ∈ R, bdG g x) ∧ Hid (R.take i ++ prL (clM g q) (m - i) (R.drop i) = Z) ∧ Hid (∀ b_ o_, B = some ⟨b_, o_, none⟩ → w.heap.size + 1 < b_) ∧ Hid (Up w3 wr)) (fun t7 t9 _ => lnS t7 - (intOf t9).toNat)
  case atStart => exact ⟨0, n + 1, k3, A3, M3, rfl, rfl, Nat.zero_le _, hk3, Nat.le_refl _, HM3, HI2, Lib.hid (by rw [← HZ.out]; rfl), HNW, Lib.hid (Up.refl _)⟩
  case round =>
    obtain ⟨wo, hwo⟩ : ∃ x, x = wr := ⟨_, rfl⟩
    subst hwo
    obtain ⟨i, m, kk, B, R, rfl, rfl, him, hmk, hmn, HR, HB, HZr, HN, HW⟩ := hrel
    by_cases hi : i < m
    · obtain ⟨b, o, rfl, _⟩ := mrk_at HR.out mk0 hi
      have hRl := Lib.hid HR.out.1
      have f30 : (0 : Int) ≤ i := by omega
      have fi : (i : Int) < m := by omega
      have HBi := Lib.hid (HB.out _ (getD_mem (by rw [hRl.out]; exact hi)))
      have HNO : Hid ((∀ p, i < p → p < m → clM g q (R.getD i mk0) (R.getD p mk0) = false) → R.take (i + 1) ++ prL (clM g q) (m - (i + 1)) (R.drop (i + 1)) = Z) := Lib.hid (fun h => rprune_no hRl.out hi HZr.out h)
      have HYS : Hid (∀ j, i < j → j < m → clM g q (R.getD i mk0) (R.getD j mk0) = true → (∀ p, j < p → p < m → clM g q (R.getD i mk0) (R.getD p mk0) = false) → (R.take (i + 1) ++ R.drop j).take (i + 1) ++ prL (clM g q) (i + 1 + (m - j) - (i + 1)) ((R.take (i + 1) ++ R.drop j).drop (i + 1)) = Z) := Lib.hid (fun j h1 h2 h3 h4 => rprune_yes hRl.out h1 h2 HZr.out h3 h4)
      have HCI := Lib.hid (fun W (h : Up wo W) => mrk_prev (HR.out.up h) hi)
      have cg := HW.out.keep _ _ _ HX.out.2.1
      generalize hMi : R.getD i mk0 = Mi at *
      have hMi := Lib.hid hMi
      obtain ⟨sq1, t1, nn1, s1, qq1, lo1, hi1⟩ := Mi
      simp only at HCI
      have w7_ : IntKind.i64.wrap ((i : Int) + 1) = (i : Int) + 1 := by rw [IntKind.wrap_i64]; omega
      clear HZr
      go_wp2_with fail
      go_loopw [10, 11] (fun t10 t11 wr => ∃ j nx : Nat, t10 = .int .i64 j ∧ t11 = .int .i64 nx ∧ i ≤ j ∧ j < nx ∧ nx ≤ m ∧ Hid (i < j → clM g q ⟨sq1, t1, nn1, s1, qq1, lo1, hi1⟩ (R.getD j mk0) = true) ∧ Hid (∀ p, j < p → p < nx → clM g q ⟨sq1, t1, nn1, s1, qq1, lo1, hi1⟩ (R.getD p mk0) = false) ∧ Hid (Up wo wr)) (fun _ t _ => m - (intOf t).toNat)
      case atStart => exact ⟨i, i + 1, rfl, by go_num, Nat.le_refl _, by omega, by omega, Lib.hid (fun h => absurd h (Nat.lt_irrefl _)), Lib.hid (fun p h1 h2 => absurd h1 (by omega)), Lib.hid (Up.refl _)⟩
      case round =>
        obtain ⟨j, nx, rfl, rfl, hij, hjn, hnm, HC, HF, HV⟩ := hrel
        have f31 : (0 : Int) ≤ nx := by omega
        have f32 : (0 : Int) ≤ j := by omega
        by_cases hx : nx < m
        · have fx : (nx : Int) < m := by omega
          obtain ⟨x0, x1, x2, x3, x4, x5, x6⟩ := mrk_prev (HR.out.up HV.out) hx
          obtain ⟨d0, d1, d2, d3, d4, d5, d6⟩ := HCI.out _ HV.out
          have HBn := Lib.hid (HB.out _ (getD_mem (by rw [hRl.out]; exact hx)))
          generalize hMn : R.getD nx mk0 = Mn at *
          have hMn := Lib.hid hMn
          obtain ⟨sq, t, nn, s, qq, lo, hi⟩ := Mn
          simp only at x0 x1 x2 x3 x4 x5 x6
          have HSS : Hid (Up wo wr ∧ wr.cell? ⟨w.heap.size, 0, none⟩ = some (.int .i64 g) ∧ wr.cell? ⟨b, o + i * 7, none⟩ = some (.int .i64 sq1) ∧ wr.cell? ⟨b, o + i * 7 + 1, none⟩ = some (.int .i64 t1) ∧ wr.cell? ⟨b, o + i * 7 + 2, none⟩ = some (.int .i64 nn1) ∧ wr.cell? ⟨b, o + i * 7 + 3, none⟩ = some (.int .i64 s1) ∧ wr.cell? ⟨b, o + i * 7 + 4, none⟩ = some (.int .i64 qq1) ∧ wr.cell? ⟨b, o + i * 7 + 5, none⟩ = some (.int .i64 lo1) ∧ wr.cell? ⟨b, o + i * 7 + 6, none⟩ = some (.int .i64 hi1) ∧ wr.cell? ⟨b, o + nx * 7, none⟩ = some (.int .i64 sq) ∧ wr.cell? ⟨b, o + nx * 7 + 1, none⟩ = some (.int .i64 t) ∧ wr.cell? ⟨b, o + nx * 7 + 2, none⟩ = some (.int .i64 nn) ∧ wr.cell? ⟨b, o + nx * 7 + 3, none⟩ = some (.int .i64 s) ∧ wr.cell? ⟨b, o + nx * 7 + 4, none⟩ = some (.int .i64 qq) ∧ wr.cell? ⟨b, o + nx * 7 + 5, none⟩ = some (.int .i64 lo) ∧ wr.cell? ⟨b, o + nx * 7 + 6, none⟩ = some (.int .i64 hi)) := Lib.hid ⟨HV.out, HV.out.keep _ _ _ cg, d0, d1, d2, d3, d4, d5, d6, x0, x1, x2, x3, x4, x5, x6⟩
          clear d0 d1 d2 d3 d4 d5 d6 x0 x1 x2 x3 x4 x5 x6
          have BP_ := HBi.out
          have BM_ := HBn.out
          have K1 := Lib.hid (rof13_up g sq t nn s qq lo hi BM_.2.1 BM_.2.2)
          have K2 := Lib.hid (rof13_up g sq1 t1 nn1 s1 qq1 lo1 hi1 BP_.2.1 BP_.2.2)
          have Z1 := (near_in HQ.out BP_.1.1 BP_.1.2).1
          have Z2 := (near_in HQ.out BM_.1.1 BM_.1.2).2
          have v1_ : IntKind.i64.wrap (q * ofZ g ⟨sq1, t1, nn1, s1, qq1, lo1, hi1⟩) = q * ofZ g ⟨sq1, t1, nn1, s1, qq1, lo1, hi1⟩ := by rw [IntKind.wrap_i64]; omega
          have v2_ : IntKind.i64.wrap ((q + 1) * ofZ g ⟨sq, t, nn, s, qq, lo, hi⟩) = (q + 1) * ofZ g ⟨sq, t, nn, s, qq, lo, hi⟩ := by rw [IntKind.wrap_i64]; omega
          clear Z1 Z2 BP_ BM_
          cases hk : clM g q ⟨sq1, t1, nn1, s1, qq1, lo1, hi1⟩ ⟨sq, t, nn, s, qq, lo, hi⟩ with
          | false =>
            have HF2 : Hid (∀ p, j < p → p < nx + 1 → clM g q ⟨sq1, t1, nn1, s1, qq1, lo1, hi1⟩ (R.getD p mk0) = false) := Lib.hid (fun p h1 h2 => by
              rcases Nat.lt_or_ge p nx with hp | hp
              · exact HF.out p h1 hp
              · obtain rfl : p = nx := by omega
                rw [hMn.out]; exact hk)
            have tk := of_decide_eq_false hk
            clear hk HF HBn hMn HNO HYS HCI
            generalize ofZ g ⟨sq1, t1, nn1, s1, qq1, lo1, hi1⟩ = x at *
            generalize ofZ g ⟨sq, t, nn, s, qq, lo, hi⟩ = y at *
            have tk : decide (q * x ≤ (q + 1) * y) = false := decide_eq_false tk
            go_wp2_with fail
            refine wp_region_held_drew (S := fun w' => Up wo w' ∧ w'.cell? ⟨w.heap.size, 0, none⟩ = some (.int .i64 g) ∧ w'.cell? ⟨b, o + i * 7, none⟩ = some (.int .i64 sq1) ∧ w'.cell? ⟨b, o + i * 7 + 1, none⟩ = some (.int .i64 t1) ∧ w'.cell? ⟨b, o + i * 7 + 2, none⟩ = some (.int .i64 nn1) ∧ w'.cell? ⟨b, o + i * 7 + 3, none⟩ = some (.int .i64 s1) ∧ w'.cell? ⟨b, o + i * 7 + 4, none⟩ = some (.int .i64 qq1) ∧ w'.cell? ⟨b, o + i * 7 + 5, none⟩ = some (.int .i64 lo1) ∧ w'.cell? ⟨b, o + i * 7 + 6, none⟩ = some (.int .i64 hi1) ∧ w'.cell? ⟨b, o + nx * 7, none⟩ = some (.int .i64 sq) ∧ w'.cell? ⟨b, o + nx * 7 + 1, none⟩ = some (.int .i64 t) ∧ w'.cell? ⟨b, o + nx * 7 + 2, none⟩ = some (.int .i64 nn) ∧ w'.cell? ⟨b, o + nx * 7 + 3, none⟩ = some (.int .i64 s) ∧ w'.cell? ⟨b, o + nx * 7 + 4, none⟩ = some (.int .i64 qq) ∧ w'.cell? ⟨b, o + nx * 7 + 5, none⟩ = some (.int .i64 lo) ∧ w'.cell? ⟨b, o + nx * 7 + 6, none⟩ = some (.int .i64 hi)) (by kernel_rfl) ?hB636 (fun hHeld => ?_)
            case hB636 => (first | (with_reducible assumption) | (with_reducible exact keepK15 (Lib.hid (Up.refl _).drew) HSS.out) | (with_reducible exact HX4.out) | (with_reducible exact HX5.out))
            refine wpAnyH_take (i := 0) (oi := ⟨_, _, _, _, _, _⟩) (v := ?v637) rfl (by kernel_rfl) (by kernel_rfl) (by kernel_rfl) (fun _ _ _ h => h) (Or.inl ⟨by rfl, ?hy637⟩) (by assumption) ?_
            case hy637 => (intro w hSw; (try dsimp only at hSw); go_simp; (try (with_reducible rfl)))
            (try simp only [Act.put, List.setIfInBounds_toArray, List.set_cons_zero, List.set_cons_succ])
            refine wpAnyH_take (i := 1) (oi := ⟨_, _, _, _, _, _⟩) (v := ?v638) rfl (by kernel_rfl) (by kernel_rfl) (by kernel_rfl) (fun _ _ _ h => h) (Or.inl ⟨by rfl, ?hy638⟩) (by assumption) ?_
            case hy638 => (intro w hSw; (try dsimp only at hSw); go_simp; (try (with_reducible rfl)))
            (try simp only [Act.put, List.setIfInBounds_toArray, List.set_cons_zero, List.set_cons_succ])
            refine wpAnyH_take (i := 2) (oi := ⟨_, _, _, _, _, _⟩) (v := ?v639) rfl (by kernel_rfl) (by kernel_rfl) (by kernel_rfl) (fun _ _ _ h => h) (Or.inl ⟨by rfl, ?hy639⟩) (by assumption) ?_
            case hy639 => (intro w hSw; (try dsimp only at hSw); go_simp; (try (with_reducible rfl)))
            (try simp only [Act.put, List.setIfInBounds_toArray, List.set_cons_zero, List.set_cons_succ])
            refine wpAnyH_take (i := 3) (oi := ⟨_, _, _, _, _, _⟩) (v := ?v640) rfl (by kernel_rfl) (by kernel_rfl) (by kernel_rfl) (fun _ _ _ h => h) (Or.inl ⟨by rfl, ?hy640⟩) (by assumption) ?_
            case hy640 => (intro w hSw; (try dsimp only at hSw); go_simp; (try (with_reducible rfl)))
            (try simp only [Act.put, List.setIfInBounds_toArray, List.set_cons_zero, List.set_cons_succ])
            refine wpAnyH_take (i := 4) (oi := ⟨_, _, _, _, _, _⟩) (v := ?v641) rfl (by kernel_rfl) (by kernel_rfl) (by kernel_rfl) (fun _ _ _ h => h) (Or.inl ⟨by rfl, ?hy641⟩) (by assumption) ?_
            case hy641 => (intro w hSw; (try dsimp only at hSw); go_simp; (try (with_reducible rfl)))
            (try simp only [Act.put, List.setIfInBounds_toArray, List.set_cons_zero, List.set_cons_succ])
            refine wpAnyH_take (i := 5) (oi := ⟨_, _, _, _, _, _⟩) (v := ?v642) rfl (by kernel_rfl) (by kernel_rfl) (by kernel_rfl) (fun _ _ _ h => h) (Or.inl ⟨by rfl, ?hy642⟩) (by assumption) ?_
            case hy642 => (intro w hSw; (try dsimp only at hSw); go_simp; (try (with_reducible rfl)))
            (try simp only [Act.put, List.setIfInBounds_toArray, List.set_cons_zero, List.set_cons_succ])
            refine wpAnyH_take (i := 6) (oi := ⟨_, _, _, _, _, _⟩) (v := ?v643) rfl (by kernel_rfl) (by kernel_rfl) (by kernel_rfl) (fun _ _ _ h => h) (Or.inl ⟨by rfl, ?hy643⟩) (by assumption) ?_
            case hy643 => (intro w hSw; (try dsimp only at hSw); go_simp; (try (with_reducible rfl)))
            (try simp only [Act.put, List.setIfInBounds_toArray, List.set_cons_zero, List.set_cons_succ])
            refine wpAnyH_take (i := 7) (oi := ⟨_, _, _, _, _, _⟩) (v := ?v644) rfl (by kernel_rfl) (by kernel_rfl) (by kernel_rfl) (fun _ _ _ h => h) (Or.inl ⟨by rfl, ?hy644⟩) (by assumption) ?_
            case hy644 => (intro w hSw; (try dsimp only at hSw); go_simp; (try (with_reducible rfl)))
            (try simp only [Act.put, List.setIfInBounds_toArray, List.set_cons_zero, List.set_cons_succ])
            refine wpAnyH_take (i := 10) (oi := ⟨_, _, _, _, _, _⟩) (v := ?v645) rfl (by kernel_rfl) (by kernel_rfl) (by kernel_rfl) (fun _ _ _ h => h) (Or.inl ⟨by rfl, ?hy645⟩) (by assumption) ?_
            case hy645 => (intro w hSw; (try dsimp only at hSw); go_simp; (try (with_reducible rfl)))
            (try simp only [Act.put, List.setIfInBounds_toArray, List.set_cons_zero, List.set_cons_succ])
            refine wpAnyH_take (i := 11) (oi := ⟨_, _, _, _, _, _⟩) (v := ?v646) rfl (by kernel_rfl) (by kernel_rfl) (by kernel_rfl) (fun _ _ _ h => h) (Or.inl ⟨by rfl, ?hy646⟩) (by assumption) ?_
            case hy646 => (intro w hSw; (try dsimp only at hSw); go_simp; (try (with_reducible rfl)))
            (try simp only [Act.put, List.setIfInBounds_toArray, List.set_cons_zero, List.set_cons_succ])
            refine wpAnyH_take (i := 12) (oi := ⟨_, _, _, _, _, _⟩) (v := ?v647) rfl (by kernel_rfl) (by kernel_rfl) (by kernel_rfl) (fun _ _ _ h => h) (Or.inl ⟨by rfl, ?hy647⟩) (by assumption) ?_
            case hy647 => (intro w hSw; (try dsimp only at hSw); go_simp; (try (with_reducible rfl)))
            (try simp only [Act.put, List.setIfInBounds_toArray, List.set_cons_zero, List.set_cons_succ])
            refine wpAnyH_take (i := 13) (oi := ⟨_, _, _, _, _, _⟩) (v := ?v648) rfl (by kernel_rfl) (by kernel_rfl) (by kernel_rfl) (fun _ _ _ h => h) (Or.inl ⟨by rfl, ?hy648⟩) (by assumption) ?_
            case hy648 => (intro w hSw; (try dsimp only at hSw); go_simp; (try (with_reducible rfl)))
            (try simp only [Act.put, List.setIfInBounds_toArray, List.set_cons_zero, List.set_cons_succ])
            refine wpAnyH_take (i := 14) (oi := ⟨_, _, _, _, _, _⟩) (v := ?v649) rfl (by kernel_rfl) (by kernel_rfl) (by kernel_rfl) (fun _ _ _ h => h) (Or.inl ⟨by rfl, ?hy649⟩) (by assumption) ?_
            case hy649 => (intro w hSw; (try dsimp only at hSw); go_simp; (try (with_reducible rfl)))
            (try simp only [Act.put, List.setIfInBounds_toArray, List.set_cons_zero, List.set_cons_succ])
            refine wpAnyH_take (i := 15) (oi := ⟨_, _, _, _, _, _⟩) (v := ?v650) rfl (by kernel_rfl) (by kernel_rfl) (by kernel_rfl) (fun _ _ _ h => h) (Or.inl ⟨by rfl, ?hy650⟩) (by assumption) ?_
            case hy650 => (intro w hSw; (try dsimp only at hSw); go_simp; (try (with_reducible rfl)))
            (try simp only [Act.put, List.setIfInBounds_toArray, List.set_cons_zero, List.set_cons_succ])
            refine wpAnyH_take (i := 16) (oi := ⟨_, _, _, _, _, _⟩) (v := ?v651) rfl (by kernel_rfl) (by kernel_rfl) (by kernel_rfl) (fun _ _ _ h => h) (Or.inl ⟨by rfl, ?hy651⟩) (by assumption) ?_
            case hy651 => (intro w hSw; (try dsimp only at hSw); go_simp; (try (with_reducible rfl)))
            (try simp only [Act.put, List.setIfInBounds_toArray, List.set_cons_zero, List.set_cons_succ])
            refine wpAnyH_ready (rs := [8]) (by kernel_rfl) (by simp) ?_
            refine AllReadyH.cons (o := ⟨_, _, _, _, _, _⟩) rfl (fun K hK => ?_) AllReadyH.nil
            go_simp
            (go_at_call 17; (with_reducible refine (K1.out _).mono ?_); rintro e w4 ⟨rfl, hu⟩; have HU4 := Lib.hid hu; have HX4 := Lib.hid (keepK15 HU4 hHeld); clear hu)
            (try go_wp2_with fail)
            refine hK.out _ _ ?hB652 (fun hHeld => ?_)
            case hB652 => (first | (with_reducible assumption) | (with_reducible exact keepK15 (Lib.hid (Up.refl _).drew) HSS.out) | (with_reducible exact HX4.out) | (with_reducible exact HX5.out))
            clear hK K
            (try simp only [Act.put, List.setIfInBounds_toArray, List.set_cons_zero, List.set_cons_succ])
            refine wpAnyH_take (i := 9) (oi := ⟨_, _, _, _, _, _⟩) (v := ?v653) rfl (by kernel_rfl) (by kernel_rfl) (by kernel_rfl) (fun _ _ _ h => h) (Or.inl ⟨by rfl, ?hy653⟩) (by assumption) ?_
            case hy653 => (intro w hSw; (try dsimp only at hSw); go_simp; (try (with_reducible rfl)))
            (try simp only [Act.put, List.setIfInBounds_toArray, List.set_cons_zero, List.set_cons_succ])
            refine wpAnyH_ready (rs := [17]) (by kernel_rfl) (by simp) ?_
            refine AllReadyH.cons (o := ⟨_, _, _, _, _, _⟩) rfl (fun K hK => ?_) AllReadyH.nil
            go_simp
            (go_at_call 17; (with_reducible refine (K2.out _).mono ?_); rintro e w5 ⟨rfl, hu⟩; have HU5 := Lib.hid hu; have HX5 := Lib.hid (keepK15 HU5 hHeld); clear hu)
            (try go_wp2_with fail)
            refine hK.out _ _ ?hB654 (fun hHeld => ?_)
            case hB654 => (first | (with_reducible assumption) | (with_reducible exact keepK15 (Lib.hid (Up.refl _).drew) HSS.out) | (with_reducible exact HX4.out) | (with_reducible exact HX5.out))
            clear hK K
            (try simp only [Act.put, List.setIfInBounds_toArray, List.set_cons_zero, List.set_cons_succ])
            refine wpAnyH_take (i := 18) (oi := ⟨_, _, _, _, _, _⟩) (v := ?v655) rfl (by kernel_rfl) (by kernel_rfl) (by kernel_rfl) (fun _ _ _ h => h) (Or.inl ⟨by rfl, ?hy655⟩) (by assumption) ?_
            case hy655 => (intro w hSw; (try dsimp only at hSw); go_simp; (try (with_reducible rfl)))
            (try simp only [Act.put, List.setIfInBounds_toArray, List.set_cons_zero, List.set_cons_succ])
            refine wpAnyH_take (i := 19) (oi := ⟨_, _, _, _, _, _⟩) (v := ?v656) rfl (by kernel_rfl) (by kernel_rfl) (by kernel_rfl) (fun _ _ _ h => h) (Or.inl ⟨by rfl, ?hy656⟩) (by assumption) ?_
            case hy656 => (intro w hSw; (try dsimp only at hSw); go_simp; (try (with_reducible rfl)))
            (try simp only [Act.put, List.setIfInBounds_toArray, List.set_cons_zero, List.set_cons_succ])
            refine wpAnyH_done (by kernel_rfl) ?_ _
            have UX := Lib.hid hHeld.1
            (repeat clear ‹Up wo _ ∧ _›)
            go_wp2_with fail
            go_roundw
            case rel => exact ⟨j, nx + 1, rfl, by go_num, hij, by omega, by omega, HC, HF2, UX⟩
            case measure => simp [intOf]; omega
          | true =>
            have HC2 : Hid (i < nx → clM g q ⟨sq1, t1, nn1, s1, qq1, lo1, hi1⟩ (R.getD nx mk0) = true) := Lib.hid (fun _ => by rw [hMn.out]; exact hk)
            have tk := of_decide_eq_true hk
            clear hk HF HC HBn hMn HNO HYS HCI
            generalize ofZ g ⟨sq1, t1, nn1, s1, qq1, lo1, hi1⟩ = x at *
            generalize ofZ g ⟨sq, t, nn, s, qq, lo, hi⟩ = y at *
            have tk : decide (q * x ≤ (q + 1) * y) = true := decide_eq_true tk
            go_wp2_with fail
            refine wp_region_held_drew (S := fun w' => Up wo w' ∧ w'.cell? ⟨w.heap.size, 0, none⟩ = some (.int .i64 g) ∧ w'.cell? ⟨b, o + i * 7, none⟩ = some (.int .i64 sq1) ∧ w'.cell? ⟨b, o + i * 7 + 1, none⟩ = some (.int .i64 t1) ∧ w'.cell? ⟨b, o + i * 7 + 2, none⟩ = some (.int .i64 nn1) ∧ w'.cell? ⟨b, o + i * 7 + 3, none⟩ = some (.int .i64 s1) ∧ w'.cell? ⟨b, o + i * 7 + 4, none⟩ = some (.int .i64 qq1) ∧ w'.cell? ⟨b, o + i * 7 + 5, none⟩ = some (.int .i64 lo1) ∧ w'.cell? ⟨b, o + i * 7 + 6, none⟩ = some (.int .i64 hi1) ∧ w'.cell? ⟨b, o + nx * 7, none⟩ = some (.int .i64 sq) ∧ w'.cell? ⟨b, o + nx * 7 + 1, none⟩ = some (.int .i64 t) ∧ w'.cell? ⟨b, o + nx * 7 + 2, none⟩ = some (.int .i64 nn) ∧ w'.cell? ⟨b, o + nx * 7 + 3, none⟩ = some (.int .i64 s) ∧ w'.cell? ⟨b, o + nx * 7 + 4, none⟩ = some (.int .i64 qq) ∧ w'.cell? ⟨b, o + nx * 7 + 5, none⟩ = some (.int .i64 lo) ∧ w'.cell? ⟨b, o + nx * 7 + 6, none⟩ = some (.int .i64 hi)) (by kernel_rfl) ?hB657 (fun hHeld => ?_)
            case hB657 => (first | (with_reducible assumption) | (with_reducible exact keepK15 (Lib.hid (Up.refl _).drew) HSS.out) | (with_reducible exact HX4.out) | (with_reducible exact HX5.out))
            refine wpAnyH_take (i := 0) (oi := ⟨_, _, _, _, _, _⟩) (v := ?v658) rfl (by kernel_rfl) (by kernel_rfl) (by kernel_rfl) (fun _ _ _ h => h) (Or.inl ⟨by rfl, ?hy658⟩) (by assumption) ?_
            case hy658 => (intro w hSw; (try dsimp only at hSw); go_simp; (try (with_reducible rfl)))
            (try simp only [Act.put, List.setIfInBounds_toArray, List.set_cons_zero, List.set_cons_succ])
            refine wpAnyH_take (i := 1) (oi := ⟨_, _, _, _, _, _⟩) (v := ?v659) rfl (by kernel_rfl) (by kernel_rfl) (by kernel_rfl) (fun _ _ _ h => h) (Or.inl ⟨by rfl, ?hy659⟩) (by assumption) ?_
            case hy659 => (intro w hSw; (try dsimp only at hSw); go_simp; (try (with_reducible rfl)))
            (try simp only [Act.put, List.setIfInBounds_toArray, List.set_cons_zero, List.set_cons_succ])
            refine wpAnyH_take (i := 2) (oi := ⟨_, _, _, _, _, _⟩) (v := ?v660) rfl (by kernel_rfl) (by kernel_rfl) (by kernel_rfl) (fun _ _ _ h => h) (Or.inl ⟨by rfl, ?hy660⟩) (by assumption) ?_
            case hy660 => (intro w hSw; (try dsimp only at hSw); go_simp; (try (with_reducible rfl)))
            (try simp only [Act.put, List.setIfInBounds_toArray, List.set_cons_zero, List.set_cons_succ])
            refine wpAnyH_take (i := 3) (oi := ⟨_, _, _, _, _, _⟩) (v := ?v661) rfl (by kernel_rfl) (by kernel_rfl) (by kernel_rfl) (fun _ _ _ h => h) (Or.inl ⟨by rfl, ?hy661⟩) (by assumption) ?_
            case hy661 => (intro w hSw; (try dsimp only at hSw); go_simp; (try (with_reducible rfl)))
            (try simp only [Act.put, List.setIfInBounds_toArray, List.set_cons_zero, List.set_cons_succ])
            refine wpAnyH_take (i := 4) (oi := ⟨_, _, _, _, _, _⟩) (v := ?v662) rfl (by kernel_rfl) (by kernel_rfl) (by kernel_rfl) (fun _ _ _ h => h) (Or.inl ⟨by rfl, ?hy662⟩) (by assumption) ?_
            case hy662 => (intro w hSw; (try dsimp only at hSw); go_simp; (try (with_reducible rfl)))
            (try simp only [Act.put, List.setIfInBounds_toArray, List.set_cons_zero, List.set_cons_succ])
            refine wpAnyH_take (i := 5) (oi := ⟨_, _, _, _, _, _⟩) (v := ?v663) rfl (by kernel_rfl) (by kernel_rfl) (by kernel_rfl) (fun _ _ _ h => h) (Or.inl ⟨by rfl, ?hy663⟩) (by assumption) ?_
            case hy663 => (intro w hSw; (try dsimp only at hSw); go_simp; (try (with_reducible rfl)))
            (try simp only [Act.put, List.setIfInBounds_toArray, List.set_cons_zero, List.set_cons_succ])
            refine wpAnyH_take (i := 6) (oi := ⟨_, _, _, _, _, _⟩) (v := ?v664) rfl (by kernel_rfl) (by kernel_rfl) (by kernel_rfl) (fun _ _ _ h => h) (Or.inl ⟨by rfl, ?hy664⟩) (by assumption) ?_
            case hy664 => (intro w hSw; (try dsimp only at hSw); go_simp; (try (with_reducible rfl)))
            (try simp only [Act.put, List.setIfInBounds_toArray, List.set_cons_zero, List.set_cons_succ])
            refine wpAnyH_take (i := 7) (oi := ⟨_, _, _, _, _, _⟩) (v := ?v665) rfl (by kernel_rfl) (by kernel_rfl) (by kernel_rfl) (fun _ _ _ h => h) (Or.inl ⟨by rfl, ?hy665⟩) (by assumption) ?_
            case hy665 => (intro w hSw; (try dsimp only at hSw); go_simp; (try (with_reducible rfl)))
            (try simp only [Act.put, List.setIfInBounds_toArray, List.set_cons_zero, List.set_cons_succ])
            refine wpAnyH_take (i := 10) (oi := ⟨_, _, _, _, _, _⟩) (v := ?v666) rfl (by kernel_rfl) (by kernel_rfl) (by kernel_rfl) (fun _ _ _ h => h) (Or.inl ⟨by rfl, ?hy666⟩) (by assumption) ?_
            case hy666 => (intro w hSw; (try dsimp only at hSw); go_simp; (try (with_reducible rfl)))
            (try simp only [Act.put, List.setIfInBounds_toArray, List.set_cons_zero, List.set_cons_succ])
            refine wpAnyH_take (i := 11) (oi := ⟨_, _, _, _, _, _⟩) (v := ?v667) rfl (by kernel_rfl) (by kernel_rfl) (by kernel_rfl) (fun _ _ _ h => h) (Or.inl ⟨by rfl, ?hy667⟩) (by assumption) ?_
            case hy667 => (intro w hSw; (try dsimp only at hSw); go_simp; (try (with_reducible rfl)))
            (try simp only [Act.put, List.setIfInBounds_toArray, List.set_cons_zero, List.set_cons_succ])
            refine wpAnyH_take (i := 12) (oi := ⟨_, _, _, _, _, _⟩) (v := ?v668) rfl (by kernel_rfl) (by kernel_rfl) (by kernel_rfl) (fun _ _ _ h => h) (Or.inl ⟨by rfl, ?hy668⟩) (by assumption) ?_
            case hy668 => (intro w hSw; (try dsimp only at hSw); go_simp; (try (with_reducible rfl)))
            (try simp only [Act.put, List.setIfInBounds_toArray, List.set_cons_zero, List.set_cons_succ])
            refine wpAnyH_take (i := 13) (oi := ⟨_, _, _, _, _, _⟩) (v := ?v669) rfl (by kernel_rfl) (by kernel_rfl) (by kernel_rfl) (fun _ _ _ h => h) (Or.inl ⟨by rfl, ?hy669⟩) (by assumption) ?_
            case hy669 => (intro w hSw; (try dsimp only at hSw); go_simp; (try (with_reducible rfl)))
            (try simp only [Act.put, List.setIfInBounds_toArray, List.set_cons_zero, List.set_cons_succ])
            refine wpAnyH_take (i := 14) (oi := ⟨_, _, _, _, _, _⟩) (v := ?v670) rfl (by kernel_rfl) (by kernel_rfl) (by kernel_rfl) (fun _ _ _ h => h) (Or.inl ⟨by rfl, ?hy670⟩) (by assumption) ?_
            case hy670 => (intro w hSw; (try dsimp only at hSw); go_simp; (try (with_reducible rfl)))
            (try simp only [Act.put, List.setIfInBounds_toArray, List.set_cons_zero, List.set_cons_succ])
            refine wpAnyH_take (i := 15) (oi := ⟨_, _, _, _, _, _⟩) (v := ?v671) rfl (by kernel_rfl) (by kernel_rfl) (by kernel_rfl) (fun _ _ _ h => h) (Or.inl ⟨by rfl, ?hy671⟩) (by assumption) ?_
            case hy671 => (intro w hSw; (try dsimp only at hSw); go_simp; (try (with_reducible rfl)))
            (try simp only [Act.put, List.setIfInBounds_toArray, List.set_cons_zero, List.set_cons_succ])
            refine wpAnyH_take (i := 16) (oi := ⟨_, _, _, _, _, _⟩) (v := ?v672) rfl (by kernel_rfl) (by kernel_rfl) (by kernel_rfl) (fun _ _ _ h => h) (Or.inl ⟨by rfl, ?hy672⟩) (by assumption) ?_
            case hy672 => (intro w hSw; (try dsimp only at hSw); go_simp; (try (with_reducible rfl)))
            (try simp only [Act.put, List.setIfInBounds_toArray, List.set_cons_zero, List.set_cons_succ])
            refine wpAnyH_ready (rs := [8]) (by kernel_rfl) (by simp) ?_
            refine AllReadyH.cons (o := ⟨_, _, _, _, _, _⟩) rfl (fun K hK => ?_) AllReadyH.nil
            go_simp
            (go_at_call 17; (with_reducible refine (K1.out _).mono ?_); rintro e w4 ⟨rfl, hu⟩; have HU4 := Lib.hid hu; have HX4 := Lib.hid (keepK15 HU4 hHeld); clear hu)
            (try go_wp2_with fail)
            refine hK.out _ _ ?hB673 (fun hHeld => ?_)
            case hB673 => (first | (with_reducible assumption) | (with_reducible exact keepK15 (Lib.hid (Up.refl _).drew) HSS.out) | (with_reducible exact HX4.out) | (with_reducible exact HX5.out))
            clear hK K
            (try simp only [Act.put, List.setIfInBounds_toArray, List.set_cons_zero, List.set_cons_succ])
            refine wpAnyH_take (i := 9) (oi := ⟨_, _, _, _, _, _⟩) (v := ?v674) rfl (by kernel_rfl) (by kernel_rfl) (by kernel_rfl) (fun _ _ _ h => h) (Or.inl ⟨by rfl, ?hy674⟩) (by assumption) ?_
            case hy674 => (intro w hSw; (try dsimp only at hSw); go_simp; (try (with_reducible rfl)))
            (try simp only [Act.put, List.setIfInBounds_toArray, List.set_cons_zero, List.set_cons_succ])
            refine wpAnyH_ready (rs := [17]) (by kernel_rfl) (by simp) ?_
            refine AllReadyH.cons (o := ⟨_, _, _, _, _, _⟩) rfl (fun K hK => ?_) AllReadyH.nil
            go_simp
            (go_at_call 17; (with_reducible refine (K2.out _).mono ?_); rintro e w5 ⟨rfl, hu⟩; have HU5 := Lib.hid hu; have HX5 := Lib.hid (keepK15 HU5 hHeld); clear hu)
            (try go_wp2_with fail)
            refine hK.out _ _ ?hB675 (fun hHeld => ?_)
            case hB675 => (first | (with_reducible assumption) | (with_reducible exact keepK15 (Lib.hid (Up.refl _).drew) HSS.out) | (with_reducible exact HX4.out) | (with_reducible exact HX5.out))
            clear hK K
            (try simp only [Act.put, List.setIfInBounds_toArray, List.set_cons_zero, List.set_cons_succ])
            refine wpAnyH_take (i := 18) (oi := ⟨_, _, _, _, _, _⟩) (v := ?v676) rfl (by kernel_rfl) (by kernel_rfl) (by kernel_rfl) (fun _ _ _ h => h) (Or.inl ⟨by rfl, ?hy676⟩) (by assumption) ?_
            case hy676 => (intro w hSw; (try dsimp only at hSw); go_simp; (try (with_reducible rfl)))
            (try simp only [Act.put, List.setIfInBounds_toArray, List.set_cons_zero, List.set_cons_succ])
            refine wpAnyH_take (i := 19) (oi := ⟨_, _, _, _, _, _⟩) (v := ?v677) rfl (by kernel_rfl) (by kernel_rfl) (by kernel_rfl) (fun _ _ _ h => h) (Or.inl ⟨by rfl, ?hy677⟩) (by assumption) ?_
            case hy677 => (intro w hSw; (try dsimp only at hSw); go_simp; (try (with_reducible rfl)))
            (try simp only [Act.put, List.setIfInBounds_toArray, List.set_cons_zero, List.set_cons_succ])
            refine wpAnyH_done (by kernel_rfl) ?_ _
            have UX := Lib.hid hHeld.1
            (repeat clear ‹Up wo _ ∧ _›)
            go_wp2_with fail
            go_roundw
            case rel => exact ⟨nx, nx + 1, rfl, by go_num, by omega, by omega, by omega, HC2, Lib.hid (fun p h1 h2 => absurd h1 (by omega)), UX⟩
            case measure => simp [intOf]; omega
        · obtain rfl : nx = m := by omega
          have fx : decide ((nx : Int) < nx) = false := decide_eq_false (by omega)
          by_cases hji : i < j
          · have fj : (i : Int) < j := by omega
            have fjm : (j : Int) ≤ nx := by omega
            have HZ2 := Lib.hid (HYS.out j hji (by omega) (HC.out hji) HF.out)
            have HR1 := Lib.hid (HR.out.up HV.out)
            have HB2 : Hid (∀ x ∈ R.take (i + 1) ++ R.drop j, bdG g x) := Lib.hid (sub_bd HB.out)
            have hrun1 := sliceToM_run b o nx kk i (by omega)
            have hrun2 := sliceFromM_run b o nx kk j (by omega) (by omega)
            have HWq := Lib.hid (HW.out.trans HV.out)
            have hlq := World.block_lt_of_cell? _ _ (HWq.out.keep _ _ _ HX.out.2.2.2.2.2.2.2.2.1)
            clear HYS HNO HCI HC HF cg HB
            go_wp2_with fail
            refine wp_region_held_drew (S := fun w' => Up wr w' ∧ True) (by kernel_rfl) ?hB678 (fun hHeld => ?_)
            case hB678 => exact ⟨(Up.refl _).drew, trivial⟩
            refine wpAnyH_take (i := 1) (oi := ⟨_, _, _, _, _, _⟩) (v := ?v679) rfl (by kernel_rfl) (by kernel_rfl) (by kernel_rfl) (fun _ _ _ h => h) (Or.inl ⟨by rfl, ?hy679⟩) (by assumption) ?_
            case hy679 => (intro w hSw; (try dsimp only at hSw); go_simp; (try (with_reducible rfl)))
            (try simp only [Act.put, List.setIfInBounds_toArray, List.set_cons_zero, List.set_cons_succ])
            refine wpAnyH_take (i := 2) (oi := ⟨_, _, _, _, _, _⟩) (v := ?v680) rfl (by kernel_rfl) (by kernel_rfl) (by kernel_rfl) (fun _ _ _ h => h) (Or.inl ⟨by rfl, ?hy680⟩) (by assumption) ?_
            case hy680 => (intro w hSw; (try dsimp only at hSw); go_simp; (try (with_reducible rfl)))
            (try simp only [Act.put, List.setIfInBounds_toArray, List.set_cons_zero, List.set_cons_succ])
            refine wpAnyH_take (i := 3) (oi := ⟨_, _, _, _, _, _⟩) (v := ?v681) rfl (by kernel_rfl) (by kernel_rfl) (by kernel_rfl) (fun _ _ _ h => h) (Or.inl ⟨by rfl, ?hy681⟩) (by assumption) ?_
            case hy681 => (intro w hSw; (try dsimp only at hSw); go_simp; (try (with_reducible rfl)))
            (try simp only [Act.put, List.setIfInBounds_toArray, List.set_cons_zero, List.set_cons_succ])
            refine wpAnyH_take (i := 4) (oi := ⟨_, _, _, _, _, _⟩) (v := ?v682) rfl (by kernel_rfl) (by kernel_rfl) (by kernel_rfl) (fun _ _ _ h => h) (Or.inl ⟨by rfl, ?hy682⟩) (by assumption) ?_
            case hy682 => (intro w hSw; (try dsimp only at hSw); go_simp; (try (with_reducible rfl)))
            (try simp only [Act.put, List.setIfInBounds_toArray, List.set_cons_zero, List.set_cons_succ])
            refine wpAnyH_take (i := 6) (oi := ⟨_, _, _, _, _, _⟩) (v := ?v683) rfl (by kernel_rfl) (by kernel_rfl) (by kernel_rfl) (fun _ _ _ h => h) (Or.inl ⟨by rfl, ?hy683⟩) (by assumption) ?_
            case hy683 => (intro w hSw; (try dsimp only at hSw); go_simp; (try (with_reducible rfl)))
            (try simp only [Act.put, List.setIfInBounds_toArray, List.set_cons_zero, List.set_cons_succ])
            refine wpAnyH_take (i := 7) (oi := ⟨_, _, _, _, _, _⟩) (v := ?v684) rfl (by kernel_rfl) (by kernel_rfl) (by kernel_rfl) (fun _ _ _ h => h) (Or.inl ⟨by rfl, ?hy684⟩) (by assumption) ?_
            case hy684 => (intro w hSw; (try dsimp only at hSw); go_simp; (try (with_reducible rfl)))
            (try simp only [Act.put, List.setIfInBounds_toArray, List.set_cons_zero, List.set_cons_succ])
            refine wpAnyH_take (i := 8) (oi := ⟨_, _, _, _, _, _⟩) (v := ?v685) rfl (by kernel_rfl) (by kernel_rfl) (by kernel_rfl) (fun _ _ _ h => h) (Or.inl ⟨by rfl, ?hy685⟩) (by assumption) ?_
            case hy685 => (intro w hSw; (try dsimp only at hSw); go_simp; (try (with_reducible rfl)))
            (try simp only [Act.put, List.setIfInBounds_toArray, List.set_cons_zero, List.set_cons_succ])
            refine wpAnyH_ready (rs := [0]) (by kernel_rfl) (by simp) ?_
            refine AllReadyH.cons (o := ⟨_, _, _, _, _, _⟩) rfl (fun K hK => ?_) AllReadyH.nil
            go_simp
            refine hK.out _ _ ?hB686 (fun hHeld => ?_)
            case hB686 => exact ⟨((Up.refl _).drew).alloc _ _, trivial⟩
            clear hK K
            (try simp only [Act.put, List.setIfInBounds_toArray, List.set_cons_zero, List.set_cons_succ])
            obtain ⟨A6, k6, w6, hr6, hO6, hU6⟩ := appendM 24 wr.drew (wr.drew.alloc (.cells #[] 23)) (.slice (some ⟨wr.heap.size, 0, none⟩) 0 0) 0 [] (OG.fresh (f := cM) (e := 23) (s := 7) (w0 := wr.drew) (w := wr.drew) (Nat.le_refl _) #[] rfl) ((Up.refl _).alloc _ _) (some ⟨b, o, none⟩) (i + 1) kk (R.take (i + 1)) ((HR1.out.first cM_len (by omega)).up ((Up.refl _).drew.alloc _ _)) (by omega)
            simp only [Nat.zero_add, List.nil_append] at hr6 hO6
            have HO6 := Lib.hid hO6
            have HU6 := Lib.hid ((Up.refl wr).drew.trans hU6)
            obtain ⟨A7, k7, w7, hr7, hO7, hU7⟩ := appendM 24 wr.drew w6 (.slice A6 (i + 1) k6) (i + 1) (R.take (i + 1)) HO6.out hU6 (some ⟨b, o + j * 7, none⟩) (nx - j) (kk - j) (R.drop j) ((HR1.out.cutM (by omega)).up HU6.out) (by omega)
            have HO7 := Lib.hid hO7
            have HU7 := Lib.hid ((Up.refl wr).drew.trans hU7)
            clear hO6 hU6 hO7 hU7
            refine wpAnyH_ready (rs := [5]) (by kernel_rfl) (by simp) ?_
            refine AllReadyH.cons (o := ⟨_, _, _, _, _, _⟩) rfl (fun K hK => ?_) AllReadyH.nil
            refine step_append_run rfl (.tmp 97) (.tmp 101) _ rfl (.slice (some ⟨wr.heap.size, 0, none⟩) 0 0) (.slice (some ⟨b, o, none⟩) (i + 1) kk) rfl rfl _ _ hr6 ?_
            refine hK.out _ _ ?hB687 (fun hHeld => ?_)
            case hB687 => exact ⟨HU6.out, trivial⟩
            clear hK K
            (try simp only [Act.put, List.setIfInBounds_toArray, List.set_cons_zero, List.set_cons_succ])
            refine wpAnyH_ready (rs := [9]) (by kernel_rfl) (by simp) ?_
            refine AllReadyH.cons (o := ⟨_, _, _, _, _, _⟩) rfl (fun K hK => ?_) AllReadyH.nil
            refine step_append_run rfl (.tmp 102) (.tmp 105) _ rfl (.slice A6 (i + 1) k6) (.slice (some ⟨b, o + j * 7, none⟩) (nx - j) (kk - j)) rfl rfl _ _ hr7 ?_
            refine hK.out _ _ ?hB688 (fun hHeld => ?_)
            case hB688 => exact ⟨HU7.out, trivial⟩
            clear hK K
            (try simp only [Act.put, List.setIfInBounds_toArray, List.set_cons_zero, List.set_cons_succ])
            refine wpAnyH_take (i := 10) (oi := ⟨_, _, _, _, _, _⟩) (v := ?v689) rfl (by kernel_rfl) (by kernel_rfl) (by kernel_rfl) (fun _ _ _ h => h) (Or.inl ⟨by rfl, ?hy689⟩) (by assumption) ?_
            case hy689 => (intro w hSw; (try dsimp only at hSw); go_simp; (try (with_reducible rfl)))
            (try simp only [Act.put, List.setIfInBounds_toArray, List.set_cons_zero, List.set_cons_succ])
            refine wpAnyH_done (by kernel_rfl) ?_ _
            clear hHeld
            go_wp2_with fail
            go_roundw
            case rel => exact ⟨i + 1, i + 1 + (nx - j), k7, A7, R.take (i + 1) ++ R.drop j, rfl, by go_num, by omega, (OG.sg HO7.out).1, by omega, Lib.hid (OG.sg HO7.out).2, HB2, HZ2, Lib.hid (fun b_ o_ h_ => Nat.lt_of_lt_of_le hlq (OG.nw HO7.out b_ o_ h_)), Lib.hid (HWq.out.trans HU7.out)⟩
            case measure => simp [lnS, intOf]; omega
          · obtain rfl : j = i := by omega
            have HZ2 := Lib.hid (HNO.out (fun p h1 h2 => HF.out p h1 h2))
            clear HYS HNO HCI HC HF cg
            go_wp2_with fail
            go_roundw
            case rel => exact ⟨j + 1, nx, kk, some ⟨b, o, none⟩, R, rfl, by go_num, by omega, hmk, hmn, Lib.hid (HR.out.up HV.out), HB, HZ2, HN, Lib.hid (HW.out.trans HV.out)⟩
            case measure => simp [lnS, intOf]; omega
    · obtain rfl : i = m := by omega
      have fi : decide ((i : Int) < i) = false := decide_eq_false (by omega)
      have HRZ : Hid (R = Z) := Lib.hid (by
        have e := HZr.out
        rw [Nat.sub_self, show R.drop i = [] from List.drop_eq_nil_of_le (by rw [HR.out.1]; exact Nat.le_refl _), prL_nil, List.append_nil, List.take_of_length_le (by rw [HR.out.1]; exact Nat.le_refl _)] at e
        exact e)
      obtain rfl : R = Z := HRZ.out
      have UU := HX.out.1.trans HW.out
      have c00 := HW.out.keep _ _ _ HX.out.2.1
      have c01 := HW.out.keep _ _ _ HX.out.2.2.1
      have c02 := HW.out.keep _ _ _ HX.out.2.2.2.1
      have c03 := HW.out.keep _ _ _ HX.out.2.2.2.2.1
      have c04 := HW.out.keep _ _ _ HX.out.2.2.2.2.2.1
      have c05 := HW.out.keep _ _ _ HX.out.2.2.2.2.2.2.1
      have c06 := HW.out.keep _ _ _ HX.out.2.2.2.2.2.2.2.1
      have c10 := HW.out.keep _ _ _ HX.out.2.2.2.2.2.2.2.2.1
      have c11 := HW.out.keep _ _ _ HX.out.2.2.2.2.2.2.2.2.2.1
      have c12 := HW.out.keep _ _ _ HX.out.2.2.2.2.2.2.2.2.2.2.1
      have c13 := HW.out.keep _ _ _ HX.out.2.2.2.2.2.2.2.2.2.2.2.1
      have c14 := HW.out.keep _ _ _ HX.out.2.2.2.2.2.2.2.2.2.2.2.2.1
      have c15 := HW.out.keep _ _ _ HX.out.2.2.2.2.2.2.2.2.2.2.2.2.2.1
      have c16 := HW.out.keep _ _ _ HX.out.2.2.2.2.2.2.2.2.2.2.2.2.2.2
      have z06 := UU.ownGe (g := w.heap.size) (Nat.le_refl _) 6
      have z10 := UU.ownGe (g := w.heap.size + 1) (by omega) 0
      have z11 := UU.ownGe (g := w.heap.size + 1) (by omega) 1
      have z12 := UU.ownGe (g := w.heap.size + 1) (by omega) 2
      have z13 := UU.ownGe (g := w.heap.size + 1) (by omega) 3
      have z14 := UU.ownGe (g := w.heap.size + 1) (by omega) 4
      have z15 := UU.ownGe (g := w.heap.size + 1) (by omega) 5
      have z16 := UU.ownGe (g := w.heap.size + 1) (by omega) 6
      have UU := Lib.hid UU
      have hlt := World.block_lt_of_cell? _ _ c10
      have HRw := HR
      clear HX HZr HRZ HB
      go_wp2_with fail
      refine bodyPost_ret (v := .tuple #[.agg #[.int .i64 g, .int .i64 v, .int .i64 q, .int .i64 c, .int .i64 now, .int .i64 (seq + 1), .slice B i kk], .int .i64 0]) (by simp [results, Try.results27, go_sem, c10, c11, c12, c13, c14, c15, c16]) rfl ⟨B, i, kk, rfl, hmn, hmk, ?_, ?_⟩
      · exact (UU.out.setCell (Nat.le_refl _) _).set7 (by omega)
      · exact (HRw.out.off (fun b_ o_ h_ => by have := HN.out b_ o_ h_; omega) _).off7 (fun b_ o_ h_ => by have := HN.out b_ o_ h_; omega) _ _ _ _ _ _ _
theorem radd13_good (g v q c now seq d : Int) (n k : Nat) (A : Option Addr) (X : List Mrk) (hn : n ≤ 50000) (hk : n ≤ k) (hv : stM g v q c now seq X = true) (hd : valG g d) (hf : fuM c seq X = false) (w : World) (hS : SG cM w A n X) :
    Calls Try.prog 27 #[.agg #[.int .i64 g, .int .i64 v, .int .i64 q, .int .i64 c, .int .i64 now, .int .i64 seq, .slice A n k], .int .i64 d] w fun e w' => ∃ A' n' k', e = .returned (.tuple #[.agg #[.int .i64 g, .int .i64 v, .int .i64 q, .int .i64 c, .int .i64 now, .int .i64 (seq + 1), .slice A' n' k'], .int .i64 0]) ∧ n' ≤ n + 1 ∧ n' ≤ k' ∧ Up w w' ∧ SG cM w' A' n' (adM g q seq now d X) := by
  by_cases h0 : 0 < n
  · exact radd13_good_pos g v q c now seq d n k A X hn hk h0 hv hd hf w hS
  · exact radd13_good_zero g v q c now seq d n k A X hn hk h0 hv hd hf w hS
end Go.Proofs.Ytafkoddgefcpnaa
