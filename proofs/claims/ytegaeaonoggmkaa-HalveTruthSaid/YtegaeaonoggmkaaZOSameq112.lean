/- Same of the reference of layer 16; few and awake of the laws. -/
import Derived.Test.YtegaeaonoggmkaaRows
import Derived.Test.YtegaeaonoggmkaaZOAskq107
namespace Go.Proofs.Ytegaeaonoggmkaa
open Go.RowKit
set_option linter.unusedVariables false

theorem eqF16 (a b c d : Int) (w : World) : (Op.equalIn 10000 37 (.agg #[.int .u64 a, .int .u64 b, .int .u64 c, .int .u64 d]) (.agg #[.int .u64 a, .int .u64 b, .int .u64 c, .int .u64 d])).run Try.prog w = .ok true w := by
  have qu := Try.underlying33
  have qa := Try.isAgg33
  have qz := Try.sizeOf33
  have ru := Try.underlying35
  have ra := Try.isAgg35
  have rz := Try.sizeOf35
  have e : ∀ x y w, (Op.equalIn 9999 35 (.agg #[.int .u64 x, .int .u64 y]) (.agg #[.int .u64 x, .int .u64 y])).run Try.prog w = .ok true w := fun x y w => by
    rw [show (9999 : Nat) = 9998 + 1 from rfl, Op.equalIn]
    simp only [Sem.run_bind, run_underlying Try.underlying35, Result.andThen_ok]
    go_simp
  rw [show (10000 : Nat) = 9999 + 1 from rfl, Op.equalIn]
  simp only [Sem.run_bind, run_underlying Try.underlying37, Result.andThen_ok]
  go_simp
set_option maxHeartbeats 4000000 in
set_option maxRecDepth 100000 in
theorem awk16 : nwH 3 0 = (0, [0, 0, 0], 0) ∧ anR 0 [0, 0, 0] 5 = (0, [5, 0, 0], 0) ∧ avR 0 [5, 0, 0] 1 = (1, [0, 5, 0], 0) ∧ anR 1 [0, 5, 0] 2 = (1, [2, 5, 0], 0) := by
  refine ⟨?_, ?_, ?_, ?_⟩
  · unfold nwH; rw [if_pos (by decide)]; rfl
  · unfold anR; rw [if_pos (show stH 0 [0, 0, 0] = true by decide), if_neg (by decide), if_neg (by decide)]; rfl
  · unfold avR; rw [if_pos (show stH 0 [5, 0, 0] = true by decide), if_neg (by decide)]; rfl
  · unfold anR; rw [if_pos (show stH 1 [0, 5, 0] = true by decide), if_neg (by decide), if_neg (by decide)]; rfl
theorem awk16a : akH 1 [2, 5, 0] = .tuple #[.agg #[.int .u64 0, .int .u64 18, .int .u64 0, .int .u64 4], .int .i64 0] := by
  rw [akH_yes (show stH 1 [2, 5, 0] = true by decide)]
  rfl
set_option maxHeartbeats 4000000 in
set_option maxRecDepth 100000 in
theorem awake16_up (w : World) : Calls Try.prog 12 #[] w fun e w' => e = .returned (.bool true) ∧ Up w w' := by
  have K1 := Lib.hid (fun W => (new16_up 3 0 W).mono (fun e w' (h : RsH _ W e w') => by rw [awk16.1] at h; exact h.of))
  have K2 := Lib.hid (fun W A k (hS : Sn W A 3 [0, 0, 0]) => (add16_up 0 3 k A [0, 0, 0] 5 (by omega) (by simp [In]) ⟨by decide, by decide⟩ W hS).mono (fun e w' (h : RsH _ W e w') => by rw [awk16.2.1] at h; exact h.of))
  have K3 := Lib.hid (fun W A k (hS : Sn W A 3 [5, 0, 0]) => (advance16_up 0 3 k A [5, 0, 0] 1 (by omega) (by simp [In]) ⟨by decide, by decide⟩ W hS).mono (fun e w' (h : RsH _ W e w') => by rw [awk16.2.2.1] at h; exact h.of))
  have K4 := Lib.hid (fun W A k (hS : Sn W A 3 [0, 5, 0]) => (add16_up 1 3 k A [0, 5, 0] 2 (by omega) (by simp [In]) ⟨by decide, by decide⟩ W hS).mono (fun e w' (h : RsH _ W e w') => by rw [awk16.2.2.2] at h; exact h.of))
  have K5 := Lib.hid (fun W A k (hS : Sn W A 3 [2, 5, 0]) => (ask16_up 1 3 k A [2, 5, 0] (by omega) (by simp [In]) ⟨by decide, by decide⟩ W hS).mono (fun e w' h => by rw [awk16a] at h; exact h))
  simp only [List.length_cons, List.length_nil, Nat.zero_add, Nat.reduceAdd] at K1 K2 K3 K4
  have qe := eqF16 0 18 0 4
  go_enter Try.func12, Try.ntmps12
  go_wp2_with (first
    | (go_at_call 9; (with_reducible refine (K1.out _).mono ?_); rintro e w1 ⟨A1, k1, rfl, hN, hS, hu⟩; have HS1 := Lib.hid hS; have HN1 := Lib.hid hN.2; have U1 := Lib.hid hu; have hl1 := hu.size; clear hN hS hu)
    | (go_at_call 16; ((with_reducible refine (K2.out _ A1 k1 ?_).mono ?_); · (repeat (first | (with_reducible exact HS1.out) | (with_reducible exact HS1.out.up ((Up.refl _).alloc _ _)) | (with_reducible refine Sn.far ?_ (fun b o e => by have := HN1.out b o e; omega) _)))); rintro e w2 ⟨A2, k2, rfl, hN, hS, hu⟩; have HN2 : Hid (∀ b o, A2 = some ⟨b, o, none⟩ → w1.heap.size < b) := Lib.hid (fun b o e => by have := hN.2 b o e; simp at this; omega); have HS2 := Lib.hid hS; obtain ⟨U2, E2⟩ := hold1 w w1.heap.size hu; have z2 := fun o => U2.out.ownGe hl1 o; have hb2 : w1.heap.size < w2.heap.size := E2.2; have d2_0 : w2.cell? ⟨w1.heap.size, 0, none⟩ = some (.int .i64 0) := (by simp [go_sem, E2]); have d2_1 : w2.cell? ⟨w1.heap.size, 1, none⟩ = some (.slice A1 3 k1) := (by simp [go_sem, E2]); clear hN hS hu E2)
    | (go_at_call 14; ((with_reducible refine (K3.out _ A2 k2 ?_).mono ?_); · (repeat (first | (with_reducible exact HS2.out) | (with_reducible exact HS2.out.up ((Up.refl _).alloc _ _)) | (with_reducible refine Sn.far ?_ (fun b o e => by have := HN2.out b o e; omega) _)))); rintro e w3 ⟨A3, k3, rfl, hN, hS, hu⟩; have HN3 : Hid (∀ b o, A3 = some ⟨b, o, none⟩ → w1.heap.size < b) := Lib.hid (fun b o e => by have := hN.2 b o e; simp at this; omega); have HS3 := Lib.hid hS; obtain ⟨U3, E3⟩ := hold1 w w1.heap.size hu; have z3 := fun o => U3.out.ownGe hl1 o; have hb3 : w1.heap.size < w3.heap.size := E3.2; have d3_0 : w3.cell? ⟨w1.heap.size, 0, none⟩ = some (.int .i64 0) := (by simp [go_sem, E3, d2_0]); have d3_1 : w3.cell? ⟨w1.heap.size, 1, none⟩ = some (.slice A2 3 k2) := (by simp [go_sem, E3, d2_1]); clear hN hS hu E3 d2_0 d2_1)
    | (go_at_call 16; ((with_reducible refine (K4.out _ A3 k3 ?_).mono ?_); · (repeat (first | (with_reducible exact HS3.out) | (with_reducible exact HS3.out.up ((Up.refl _).alloc _ _)) | (with_reducible refine Sn.far ?_ (fun b o e => by have := HN3.out b o e; omega) _)))); rintro e w4 ⟨A4, k4, rfl, hN, hS, hu⟩; have HN4 : Hid (∀ b o, A4 = some ⟨b, o, none⟩ → w1.heap.size < b) := Lib.hid (fun b o e => by have := hN.2 b o e; simp at this; omega); have HS4 := Lib.hid hS; obtain ⟨U4, E4⟩ := hold1 w w1.heap.size hu; have z4 := fun o => U4.out.ownGe hl1 o; have hb4 : w1.heap.size < w4.heap.size := E4.2; have d4_0 : w4.cell? ⟨w1.heap.size, 0, none⟩ = some (.int .i64 1) := (by simp [go_sem, E4, d3_0]); have d4_1 : w4.cell? ⟨w1.heap.size, 1, none⟩ = some (.slice A3 3 k3) := (by simp [go_sem, E4, d3_1]); clear hN hS hu E4 d3_0 d3_1)
    | (go_at_call 18; ((with_reducible refine (K5.out _ A4 k4 ?_).mono ?_); · (repeat (first | (with_reducible exact HS4.out) | (with_reducible exact HS4.out.up ((Up.refl _).alloc _ _)) | (with_reducible refine Sn.far ?_ (fun b o e => by have := HN4.out b o e; omega) _)))); rintro e w6 ⟨rfl, hu⟩; obtain ⟨U6, E6⟩ := hold1 w w1.heap.size hu; clear hu))
  go_ret
  exact ⟨rfl, U6.out.alloc _ _⟩
end Go.Proofs.Ytegaeaonoggmkaa
