/- Ask of package halve and of its reference. -/
import Derived.Test.YtegaeaonoggmkaaRows
import Derived.Test.YtegaeaonoggmkaaZOAskq107
import Derived.Test.YtegaeaonoggmkaaZOValq94
import Derived.Test.YtegaeaonoggmkaaZOWvq106
namespace Go.Proofs.Ytegaeaonoggmkaa
open Go.RowKit
set_option linter.unusedVariables false

set_option maxHeartbeats 4000000 in
set_option maxRecDepth 100000 in
theorem rask16_up (now : Int) (n k : Nat) (A : Option Addr) (S : List Int) (hn : n ≤ 100000) (hI : ∀ x ∈ S, In x) (hc : In now) (w : World) (hS : Sn w A n S) :
    Calls Try.prog 19 #[.agg #[.int .i64 now, .slice A n k]] w fun e w' => e = .returned (akH now S) ∧ Up w w' := by
  have HS := Lib.hid hS
  have KV := Lib.hid (fun W (hu : Up w W) => rvalidate16_up now n k A S hn hI hc W (hS.up hu))
  unfold stHE at KV
  cases hv : stH now S
  case false =>
    rw [akH_no hv]
    rw [if_neg (by rw [hv]; decide)] at KV
    clear hv hS hI
    go_enter Try.func19, Try.ntmps19
    go_wp2_with (go_at_call 21; (with_reducible refine (KV.out _ (((Up.refl w).alloc _ _).alloc _ _)).mono ?_); rintro e w1 ⟨rfl, hu⟩; obtain ⟨U1, E1⟩ := call2 w hu; clear hu)
    refine bodyPost_ret (v := .tuple #[.agg #[.int .u64 0, .int .u64 0, .int .u64 0, .int .u64 0], .int .i64 2]) (by simp [results, Try.results19, go_sem, E1]) rfl ⟨rfl, ?_⟩
    ((repeat (first | (with_reducible exact Up.refl _) | (with_reducible exact U1.out) | (with_reducible refine Up.alloc ?_ _ _) | (with_reducible refine Up.setCell ?_ ?_ _) | (with_reducible refine Up.drewN ?_ _) | (with_reducible refine Up.drew ?_))); all_goals (first | (simp; done) | (simp; omega) | omega))
  rw [akH_yes hv]
  rw [if_pos hv] at KV
  obtain ⟨h1, h2, h3⟩ := stH_is hS.1 hv
  have hX := hS.1
  have HL := Lib.hid hX
  have hn1 : 1 ≤ n := h1.1
  have hn6 : n ≤ 64 := h1.2
  obtain ⟨m, hm⟩ : ∃ z, z = n - 1 := ⟨_, rfl⟩
  have km : IntKind.i64.wrap ((n : Int) - 1) = m := by rw [hm]; exact (IntWalk.i64_in _ (by omega)).trans (by omega)
  have KD := Lib.hid (fun W => rwleft_o 1 m ⟨by decide, by decide⟩ (by omega) (by rw [Int.one_mul]; exact pow_in2 (by omega)) W)
  rw [Int.one_mul] at KD
  have KO1 := Lib.hid (fun W => rwof_o 1 ⟨by decide, by decide⟩ W)
  rw [show hiZ (1 : Int) = 0 from rfl, show loZ (1 : Int) = 1 from rfl] at KO1 KD
  have hf : ∀ e, e < n → 0 ≤ S.getD e 0 ∧ S.getD e 0 ≤ 1099511627776 := fun e he => h3 _ (by simp [List.getD, show e < S.length by omega])
  rw [hX, ← hm]
  have HN : Hid (asH S = asF n (fun e => S.getD e 0) n) := Lib.hid (by unfold asH; rw [hX])
  rw [HN.out]
  have HF2 := Lib.hid (fun i (hi : i ≤ n) => asF_in hv (n := i) (by omega))
  rw [hX] at HF2
  have HF := Lib.hid hf
  obtain ⟨D, hD⟩ : ∃ z, z = (2 : Int) ^ m := ⟨_, rfl⟩
  rw [← hD] at KD ⊢
  obtain ⟨R, hR⟩ : ∃ z, z = asF n (fun e => S.getD e 0) n := ⟨_, rfl⟩
  rw [← hR]
  have HR := Lib.hid hR
  have Hm := Lib.hid hm
  clear hv hS hI h1 h2 h3 hX hf hD hR hm
  go_enter Try.func19, Try.ntmps19
  go_wp2_with (first
    | (go_at_call 21; (with_reducible refine (KV.out _ (((Up.refl w).alloc _ _).alloc _ _)).mono ?_); rintro e w1 ⟨rfl, hu⟩; obtain ⟨U1, E1⟩ := call2 w hu; clear hu)
    | (go_at_call 43; (with_reducible refine (KO1.out _).mono ?_); rintro e w2 ⟨rfl, hu⟩; obtain ⟨U2, E2⟩ := call2 w hu; clear hu)
    | (go_at_call 42; (with_reducible refine (KD.out _).mono ?_); rintro e w3 ⟨rfl, hu⟩; obtain ⟨U3, E3⟩ := call2 w hu; clear hu))
  go_loopw [34] (fun u wr => ∃ (i : Nat) (X : Int), u = .int .i64 i ∧ i ≤ n ∧ Hid (X = asF n (fun e => S.getD e 0) i) ∧ wr.cell? ⟨w3.heap.size + 1, 0, none⟩ = some (.int .u64 (hiZ X)) ∧ wr.cell? ⟨w3.heap.size + 1, 1, none⟩ = some (.int .u64 (loZ X)) ∧ wr.cell? ⟨w3.heap.size + 1, 2, none⟩ = some (.int .u64 (hiZ D)) ∧ wr.cell? ⟨w3.heap.size + 1, 3, none⟩ = some (.int .u64 (loZ D)) ∧ Hid (Up w3 wr)) (fun u _ => n - (intOf u).toNat)
  case atStart =>
    refine ⟨0, 0, rfl, Nat.zero_le _, Lib.hid rfl, ?_, ?_, ?_, ?_, Lib.hid (((Up.refl w3).alloc _ _).alloc _ _)⟩
    all_goals simp [go_sem, hiZ, loZ]
  case round =>
    obtain ⟨i, X, rfl, hin, HX, r0, r1, r2, r3, HW⟩ := hrel
    have hg : w3.heap.size + 1 < wr.heap.size := World.block_lt_of_cell? _ _ r0
    by_cases hi : i < n
    case neg =>
      obtain rfl : i = n := by omega
      have f1 : decide ((i : Int) < i) = false := decide_eq_false (by omega)
      obtain rfl : R = X := by rw [HR.out, HX.out]
      obtain ⟨Ur, Er⟩ := hold2 w w.heap.size (w.heap.size + 1) HW.out
      have zf := fun o => Ur.out.ownGe (Nat.le_succ w.heap.size) o
      clear HR HX HF HF2 KV HS HL HN
      go_wp2_with fail
      refine bodyPost_ret (v := .tuple #[.agg #[.int .u64 (hiZ R), .int .u64 (loZ R), .int .u64 (hiZ D), .int .u64 (loZ D)], .int .i64 0]) (by simp [results, Try.results19, go_sem, E1, E2, E3, Er]) rfl ⟨rfl, ?_⟩
      ((repeat (first | (with_reducible exact Up.refl _) | (with_reducible exact Ur.out) | (with_reducible refine Up.alloc ?_ _ _) | (with_reducible refine Up.setCell ?_ ?_ _) | (with_reducible refine Up.drewN ?_ _) | (with_reducible refine Up.drew ?_))); all_goals (first | (simp; done) | (simp; omega) | omega))
    obtain ⟨b, o, rfl, x0⟩ := (HS.out.up (U3.out.trans HW.out)).one hi
    have hb : b < wr.heap.size := World.block_lt_of_cell? _ _ x0
    have hx := (HF2.out i hin).1
    rw [← HX.out] at hx
    have hs := HF.out i hi
    have hx2 := (HF2.out (i + 1) hi).1
    have hx3 := (HF2.out i hin).2 i hi
    have Hm2 := Hm.out
    obtain ⟨j, hj⟩ : ∃ z, z = n - 1 - i := ⟨_, rfl⟩
    rw [← hj] at hx3
    rw [show asF n (fun e => S.getD e 0) (i + 1) = asF n (fun e => S.getD e 0) i + S.getD i 0 * 2 ^ j by rw [hj]; rfl, ← HX.out] at hx2
    have HX2 : Hid (X + S.getD i 0 * 2 ^ j = asF n (fun e => S.getD e 0) (i + 1)) := Lib.hid (by rw [HX.out, hj]; rfl)
    obtain ⟨s, hse⟩ : ∃ z, z = S.getD i 0 := ⟨_, rfl⟩
    rw [← hse] at x0 HX2 hx2 hs hx3
    have ks : IntKind.u64.wrap s = s := by rw [IntKind.wrap_u64]; omega
    have kj : IntKind.i64.wrap ((m : Int) - i) = j := by rw [hj, Hm2]; exact (IntWalk.i64_in _ (by omega)).trans (by omega)
    have KO := Lib.hid (fun W => rwof_o s ⟨by omega, by omega⟩ W)
    have K1 := Lib.hid (fun W => rwleft_o s j ⟨by omega, by omega⟩ (by omega) hx3 W)
    have K2 := Lib.hid (fun W => rwadd_o X (s * 2 ^ j) hx hx3 hx2 W)
    obtain ⟨P, hP⟩ : ∃ z, z = s * 2 ^ j := ⟨_, rfl⟩
    rw [← hP] at K1 K2 HX2
    obtain ⟨Y, hY⟩ : ∃ z, z = X + P := ⟨_, rfl⟩
    rw [← hY] at K2 HX2
    have g2 : (i : Int) < n := by omega
    have g3 : (0 : Int) ≤ i := by omega
    clear hse hx hx2 hs hY hP HX hx3 hj Hm2
    go_wp2_with (first
      | (go_at_call 43; (with_reducible refine (KO.out _).mono ?_); rintro e w4 ⟨rfl, hu⟩; obtain ⟨U4, E4⟩ := hold1 w3 (w3.heap.size + 1) hu; clear hu)
      | (go_at_call 42; (with_reducible refine (K1.out _).mono ?_); rintro e w5 ⟨rfl, hu⟩; obtain ⟨U5, E5⟩ := hold1 w3 (w3.heap.size + 1) hu; clear hu)
      | (go_at_call 44; (with_reducible refine (K2.out _).mono ?_); rintro e w6 ⟨rfl, hu⟩; obtain ⟨U6, E6⟩ := hold1 w3 (w3.heap.size + 1) hu; have z6 := fun o => U6.out.ownGe (show w3.heap.size ≤ w3.heap.size + 1 by omega) o; clear hu))
    go_roundw
    case rel =>
      refine ⟨i + 1, Y, by go_num, by omega, HX2, ?_, ?_, ?_, ?_, Lib.hid ?_⟩
      · simp [go_sem, E6, E5, E4, r0]
      · simp [go_sem, E6, E5, E4, r1]
      · simp [go_sem, E6, E5, E4, r2]
      · simp [go_sem, E6, E5, E4, r3]
      · ((repeat (first | (with_reducible exact Up.refl _) | (with_reducible exact U6.out) | (with_reducible refine Up.alloc ?_ _ _) | (with_reducible refine Up.setCell ?_ ?_ _) | (with_reducible refine Up.drewN ?_ _) | (with_reducible refine Up.drew ?_))); all_goals (first | (simp; done) | (simp; omega) | omega))
    case measure => simp [intOf]; omega
end Go.Proofs.Ytegaeaonoggmkaa
