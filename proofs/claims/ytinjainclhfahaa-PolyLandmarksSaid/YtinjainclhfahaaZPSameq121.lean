/- Texts of these claims, one after the other. -/
import Derived.Test.YtinjainclhfahaaRows
import Derived.Test.YtinjainclhfahaaZPAskq117
namespace Go.Proofs.Ytinjainclhfahaa
open Go.RowKit
set_option linter.unusedVariables false

theorem RsO.of {p l c e : Int} {X : List Int} {w w' : World} {v : Ending} (h : RsO (p, l, c, X, e) w v w') : ∃ (A : Option Addr) (k : Nat), v = .returned (.tuple #[.agg #[.int .i64 p, .int .i64 l, .int .i64 c, .slice A X.length k], .int .i64 e]) ∧ SG cW w' A X.length X ∧ Up w w' := h
theorem eqF15 (a b c d : Int) (w : World) : (Op.equalIn 10000 37 (.agg #[.int .u64 a, .int .u64 b, .int .u64 c, .int .u64 d]) (.agg #[.int .u64 a, .int .u64 b, .int .u64 c, .int .u64 d])).run Try.prog w = .ok true w := by
  have qu := Try.underlying33
  have qa := Try.isAgg33
  have qz := Try.sizeOf33
  have ru := Try.underlying35
  have ra := Try.isAgg35
  have rz := Try.sizeOf35
  have e : ∀ x y w, (Op.equalIn 9999 35 (.agg #[.int .u64 x, .int .u64 y]) (.agg #[.int .u64 x, .int .u64 y])).run Try.prog w = .ok true w := fun x y w => by
    rw [show (9999 : Nat) = 9998 + 1 from rfl, Op.equalIn]
    simp only [Sem.run_bind, run_underlying Try.underlying35, Result.andThen_ok]
    go_simp
  rw [show (10000 : Nat) = 9999 + 1 from rfl, Op.equalIn]
  simp only [Sem.run_bind, run_underlying Try.underlying37, Result.andThen_ok]
  go_simp
set_option maxHeartbeats 4000000 in
set_option maxRecDepth 100000 in
theorem awk15 : nwQ 1 0 = (1, 0, 0, [0, 0], 0) ∧ addQ 1 0 0 [0, 0] 4 = (1, 0, 0, [4, 4], 0) ∧ advQ 1 0 0 [4, 4] 2 = (1, 0, 2, [4, 4], 0) ∧ addQ 1 0 2 [4, 4] 3 = (1, 0, 2, [7, 13], 0) := by
  refine ⟨?_, ?_, ?_, ?_⟩
  · unfold nwQ; rw [if_pos (by decide)]; rfl
  · unfold addQ; rw [if_pos (show stP 1 0 0 [0, 0] = true by decide), if_neg (by decide), if_pos (show fitL (adP (0 - 0 + 1) 4 [0, 0]) = true by decide)]; rfl
  · unfold advQ; rw [if_pos (show stP 1 0 0 [4, 4] = true by decide), if_neg (by decide)]
  · unfold addQ; rw [if_pos (show stP 1 0 2 [4, 4] = true by decide), if_neg (by decide), if_pos (show fitL (adP (2 - 0 + 1) 3 [4, 4]) = true by decide)]; rfl
theorem awk15a : akP 1 0 2 [7, 13] = .tuple #[.agg #[.int .u64 0, .int .u64 13, .int .u64 0, .int .u64 3], .int .i64 0] := by
  unfold akP
  rw [if_pos (show stP 1 0 2 [7, 13] = true by decide)]
  rfl
theorem NwK.off {w : World} {A : Option Addr} {n k p : Nat} (h : NwK w A n k) (hp : p < w.heap.size) : ∀ b o, A = some ⟨b, o, none⟩ → b ≠ p := h.2.off hp
set_option maxHeartbeats 4000000 in
set_option maxRecDepth 100000 in
theorem awake15_up (w : World) : Calls Try.prog 12 #[] w fun e w' => e = .returned (.bool true) ∧ Up w w' := by
  have K1 := Lib.hid (fun W => (new15_up 1 0 W).mono (fun e w' (h : Rs _ W e w') => by rw [awk15.1] at h; exact h.of))
  have K2 := Lib.hid (fun W A k hk (hS : SG cW W A 2 [0, 0]) => (add15_up 1 0 0 4 2 k A [0, 0] (by omega) hk (by simp [In2]) W hS).mono (fun e w' (h : Rs _ W e w') => by rw [awk15.2.1] at h; exact h.of))
  have K3 := Lib.hid (fun W A k hk (hS : SG cW W A 2 [4, 4]) => (advance15_up 1 0 0 2 2 k A [4, 4] (by omega) hk (by simp [In2]) W hS).mono (fun e w' (h : Rs _ W e w') => by rw [awk15.2.2.1] at h; exact h.of))
  have K4 := Lib.hid (fun W A k hk (hS : SG cW W A 2 [4, 4]) => (add15_up 1 0 2 3 2 k A [4, 4] (by omega) hk (by simp [In2]) W hS).mono (fun e w' (h : Rs _ W e w') => by rw [awk15.2.2.2] at h; exact h.of))
  have K5 := Lib.hid (fun W A k hk (hS : SG cW W A 2 [7, 13]) => (ask15_up 1 0 2 2 k A [7, 13] (by omega) hk (by simp [In2]) W hS).mono (fun e w' h => by rw [awk15a] at h; exact h))
  simp only [List.length_cons, List.length_nil, Nat.zero_add, Nat.reduceAdd] at K1 K2 K3 K4
  have qe := eqF15 0 13 0 3
  go_enter Try.func12, Try.ntmps12
  go_wp2_with (first
    | (go_at_call 9; (with_reducible refine (K1.out _).mono ?_); rintro e w1 ⟨A1, k1, rfl, hN, hS, hu⟩; have HS1 := Lib.hid hS; have HK1 := Lib.hid hN.1; have HN1 := Lib.hid hN.2; have U1 := Lib.hid hu; have hl1 := hu.size; clear hN hS hu)
    | (go_at_call 16; ((with_reducible refine (K2.out _ A1 k1 HK1.out ?_).mono ?_); · (repeat (first | (with_reducible exact HS1.out) | (with_reducible exact HS1.out.up ((Up.refl _).alloc _ _)) | (with_reducible refine SG.off ?_ (fun b o e => by have := HN1.out b o e; omega) _)))); rintro e w2 ⟨A2, k2, rfl, hN, hS, hu⟩; have HN2 : Hid (∀ b o, A2 = some ⟨b, o, none⟩ → w1.heap.size < b) := Lib.hid (fun b o e => by have := hN.2 b o e; simp at this; omega); have HS2 := Lib.hid hS; have HK2 := Lib.hid hN.1; obtain ⟨U2, E2⟩ := hold1 w w1.heap.size hu; have z2 := fun o => U2.out.ownGe hl1 o; have hb2 : w1.heap.size < w2.heap.size := E2.2; have d2_0 : w2.cell? ⟨w1.heap.size, 0, none⟩ = some (.int .i64 1) := (by simp [go_sem, E2]); have d2_1 : w2.cell? ⟨w1.heap.size, 1, none⟩ = some (.int .i64 0) := (by simp [go_sem, E2]); have d2_2 : w2.cell? ⟨w1.heap.size, 2, none⟩ = some (.int .i64 0) := (by simp [go_sem, E2]); have d2_3 : w2.cell? ⟨w1.heap.size, 3, none⟩ = some (.slice A1 2 k1) := (by simp [go_sem, E2]); clear hN hS hu E2)
    | (go_at_call 14; ((with_reducible refine (K3.out _ A2 k2 HK2.out ?_).mono ?_); · (repeat (first | (with_reducible exact HS2.out) | (with_reducible exact HS2.out.up ((Up.refl _).alloc _ _)) | (with_reducible refine SG.off ?_ (fun b o e => by have := HN2.out b o e; omega) _)))); rintro e w3 ⟨A3, k3, rfl, hN, hS, hu⟩; have HN3 : Hid (∀ b o, A3 = some ⟨b, o, none⟩ → w1.heap.size < b) := Lib.hid (fun b o e => by have := hN.2 b o e; simp at this; omega); have HS3 := Lib.hid hS; have HK3 := Lib.hid hN.1; obtain ⟨U3, E3⟩ := hold1 w w1.heap.size hu; have z3 := fun o => U3.out.ownGe hl1 o; have hb3 : w1.heap.size < w3.heap.size := E3.2; have d3_0 : w3.cell? ⟨w1.heap.size, 0, none⟩ = some (.int .i64 1) := (by simp [go_sem, E3, d2_0]); have d3_1 : w3.cell? ⟨w1.heap.size, 1, none⟩ = some (.int .i64 0) := (by simp [go_sem, E3, d2_1]); have d3_2 : w3.cell? ⟨w1.heap.size, 2, none⟩ = some (.int .i64 0) := (by simp [go_sem, E3, d2_2]); have d3_3 : w3.cell? ⟨w1.heap.size, 3, none⟩ = some (.slice A2 2 k2) := (by simp [go_sem, E3, d2_3]); clear hN hS hu E3 d2_0 d2_1 d2_2 d2_3)
    | (go_at_call 16; ((with_reducible refine (K4.out _ A3 k3 HK3.out ?_).mono ?_); · (repeat (first | (with_reducible exact HS3.out) | (with_reducible exact HS3.out.up ((Up.refl _).alloc _ _)) | (with_reducible refine SG.off ?_ (fun b o e => by have := HN3.out b o e; omega) _)))); rintro e w4 ⟨A4, k4, rfl, hN, hS, hu⟩; have HN4 : Hid (∀ b o, A4 = some ⟨b, o, none⟩ → w1.heap.size < b) := Lib.hid (fun b o e => by have := hN.2 b o e; simp at this; omega); have HS4 := Lib.hid hS; have HK4 := Lib.hid hN.1; obtain ⟨U4, E4⟩ := hold1 w w1.heap.size hu; have z4 := fun o => U4.out.ownGe hl1 o; have hb4 : w1.heap.size < w4.heap.size := E4.2; have d4_0 : w4.cell? ⟨w1.heap.size, 0, none⟩ = some (.int .i64 1) := (by simp [go_sem, E4, d3_0]); have d4_1 : w4.cell? ⟨w1.heap.size, 1, none⟩ = some (.int .i64 0) := (by simp [go_sem, E4, d3_1]); have d4_2 : w4.cell? ⟨w1.heap.size, 2, none⟩ = some (.int .i64 2) := (by simp [go_sem, E4, d3_2]); have d4_3 : w4.cell? ⟨w1.heap.size, 3, none⟩ = some (.slice A3 2 k3) := (by simp [go_sem, E4, d3_3]); clear hN hS hu E4 d3_0 d3_1 d3_2 d3_3)
    | (go_at_call 18; ((with_reducible refine (K5.out _ A4 k4 HK4.out ?_).mono ?_); · (repeat (first | (with_reducible exact HS4.out) | (with_reducible exact HS4.out.up ((Up.refl _).alloc _ _)) | (with_reducible refine SG.off ?_ (fun b o e => by have := HN4.out b o e; omega) _)))); rintro e w6 ⟨rfl, hu⟩; obtain ⟨U6, E6⟩ := hold1 w w1.heap.size hu; clear hu))
  go_ret
  exact ⟨rfl, U6.out.alloc _ _⟩
end Go.Proofs.Ytinjainclhfahaa

namespace Go.Proofs.Ytinjainclhfahaa
open Go.RowKit
set_option linter.unusedVariables false

theorem eqW15 (a b : Int) (w : World) : (Op.equalIn 10000 35 (.agg #[.int .u64 a, .int .u64 b]) (.agg #[.int .u64 a, .int .u64 b])).run Try.prog w = .ok true w := by
  have qu := Try.underlying33
  have qa := Try.isAgg33
  have qz := Try.sizeOf33
  rw [show (10000 : Nat) = 9999 + 1 from rfl, Op.equalIn]
  simp only [Sem.run_bind, run_underlying Try.underlying35, Result.andThen_ok]
  go_simp
end Go.Proofs.Ytinjainclhfahaa
