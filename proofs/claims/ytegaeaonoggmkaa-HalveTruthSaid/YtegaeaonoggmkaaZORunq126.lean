/- Texts of these claims, one after the other. -/
import Derived.Test.YtegaeaonoggmkaaRows
import Derived.Test.YtegaeaonoggmkaaZERHalveq129
import Derived.Test.YtegaeaonoggmkaaZJPosq124
import Derived.Test.YtegaeaonoggmkaaZORunq125
namespace Go.Proofs.Ytegaeaonoggmkaa
open Go.RowKit
set_option linter.unusedVariables false

theorem takeS_getD {M : List It} {i : Nat} (h : i < M.length) : M.take (i + 1) = M.take i ++ [((M.getD i (0, 0)).1, (M.getD i (0, 0)).2)] := by
  have e : M.getD i (0, 0) = M[i] := by simp [List.getD, h]
  rw [e]
  exact (List.take_append_getElem h).symm
/-- Items of ascending ticks up to z. -/
def itH (z : Int) (M : List It) : Prop := (0 ≤ z ∧ z ≤ 10200) ∧ ∀ j, j < M.length → 0 ≤ (M.getD j (0, 0)).1 ∧ (M.getD j (0, 0)).1 ≤ z ∧ (0 < j → (M.getD (j - 1) (0, 0)).1 ≤ (M.getD j (0, 0)).1) ∧ 0 ≤ (M.getD j (0, 0)).2 ∧ (M.getD j (0, 0)).2 ≤ 4096
theorem itH_of {M : List It} {z : Int} (h : mdT M z) (hl : M.length ≤ 200) (hv : ∀ j, j < M.length → 0 ≤ (M.getD j (0, 0)).2 ∧ (M.getD j (0, 0)).2 ≤ 4096) : itH z M :=
  ⟨⟨h.1, by have := h.2.1; omega⟩, fun j hj => ⟨(h.2.2 j hj).1, (h.2.2 j hj).2.1, (h.2.2 j hj).2.2, (hv j hj).1, (hv j hj).2⟩⟩
/-- What run returns. -/
def RunH (a : Nat) (z : Int) (M : List It) (w : World) (e : Ending) (w' : World) : Prop := ∃ (A : Option Addr) (k : Nat) (c : Int), e = .returned (.tuple #[.agg #[.int .i64 c, .slice A a k], .bool true]) ∧ Nw w A ∧ Sn w' A a (hvS c a M) ∧ (0 ≤ c ∧ c ≤ z ∧ okH c M) ∧ Up w w'
set_option maxHeartbeats 4000000 in
set_option maxRecDepth 100000 in
theorem run16_up (a : Nat) (z : Int) (n k : Nat) (A : Option Addr) (M : List It) (ha : 1 ≤ a ∧ a ≤ 64) (hn : n ≤ 200) (hM : itH z M) (w : World) (hS : Sl w A n M) :
    Calls Try.prog 26 #[.int .i64 a, .slice A n k] w fun e w' => RunH a z M w e w' := by
  have K1 := Lib.hid (fun W => (new16_up a 0 W).mono (fun e w' (h : RsH _ W e w') => by rw [hv_make ha (Int.le_refl _) (by decide)] at h; exact h.st (hvS_len _ _ _)))
  unfold StH at K1
  have HS := Lib.hid hS
  have HM := Lib.hid hM
  have HL := Lib.hid hS.1
  clear hS hM
  go_enter Try.func26, Try.ntmps26
  go_wp2_with (go_at_call 9; (with_reducible refine (K1.out _).mono ?_); rintro e w1 ⟨A1, k1, rfl, hN, hS, hu⟩; have HS1 := Lib.hid hS; have HN1 := Lib.hid hN; obtain ⟨U1, E1⟩ := hold1 w w.heap.size hu; have hl2 : w.heap.size < w1.heap.size := E1.2; have hl1 := Nat.le_of_lt hl2; clear hN hS hu)
  go_loopw [7, 17] (fun f u wr => ∃ (i : Nat) (c : Int) (A1 : Option Addr) (k1 : Nat), f = .int .i64 0 ∧ u = .int .i64 i ∧ i ≤ n ∧ Hid (0 ≤ c ∧ c ≤ z ∧ okH c (M.take i) ∧ (i < n → c ≤ (M.getD i (0, 0)).1)) ∧ Hid (∀ b o, A1 = some ⟨b, o, none⟩ → b ≠ w1.heap.size ∧ w.heap.size < b) ∧ Hid (Sn wr A1 a (hvS c a (M.take i))) ∧ wr.cell? ⟨w1.heap.size, 0, none⟩ = some (.int .i64 c) ∧ wr.cell? ⟨w1.heap.size, 1, none⟩ = some (.slice A1 a k1) ∧ wr.cell? ⟨w.heap.size, 0, none⟩ = some (.int .i64 0) ∧ wr.cell? ⟨w.heap.size, 1, none⟩ = some (.slice none 0 0) ∧ Hid (Up w wr)) (fun _ u _ => n - (intOf u).toNat)
  case atStart =>
    refine ⟨0, 0, A1, k1, rfl, rfl, Nat.zero_le _, Lib.hid ⟨Int.le_refl _, HM.out.1.1, fun x hx => absurd hx (by simp), fun hi => (HM.out.2 0 (by rw [HL.out]; exact hi)).1⟩, Lib.hid (fun b o e => by
      have h1 := HN1.out b o e
      simp at h1
      obtain ⟨b2, o2, e2, y0⟩ := HS1.out.one (show 0 < a by omega)
      rw [e] at e2
      injection e2 with e2
      injection e2 with e3 e4
      have h2 : b2 < w1.heap.size := World.block_lt_of_cell? _ _ y0
      omega), Lib.hid (HS1.out.up ((Up.refl _).alloc _ _)), ?_, ?_, ?_, ?_, Lib.hid (U1.out.alloc _ _)⟩
    all_goals (simp [go_sem, E1])
  case round =>
    obtain ⟨i, c, A2, k2, rfl, rfl, hin, HC, HN2, HS2, x0, x1, r0, r1, HW⟩ := hrel
    have hP : w1.heap.size < wr.heap.size := World.block_lt_of_cell? _ _ x0
    have z0 := fun o => HW.out.ownGe (Nat.le_refl w.heap.size) o
    by_cases hi : i < n
    case neg =>
      obtain rfl : i = n := by omega
      have f1 : decide ((i : Int) < i) = false := decide_eq_false (by omega)
      have HR : Hid (Sn wr A2 a (hvS c a M) ∧ 0 ≤ c ∧ c ≤ z ∧ okH c M) := Lib.hid (by
        have h1 := HS2.out
        have h2 := HC.out
        rw [List.take_of_length_le (by rw [HL.out]; exact Nat.le_refl _)] at h1 h2
        exact ⟨h1, h2.1, h2.2.1, h2.2.2.1⟩)
      clear K1 HC HS2 HM HL
      go_wp2_with fail
      refine bodyPost_ret (v := .tuple #[.agg #[.int .i64 c, .slice A2 a k2], .bool true]) (by simp [results, Try.results26, go_sem, r0, r1]) rfl ⟨A2, k2, c, rfl, fun b o e => by have := HN2.out b o e; omega, ?_, HR.out.2, ?_⟩
      · (repeat (first | (with_reducible exact HR.out.1) | (with_reducible exact HR.out.1.up ((Up.refl _).alloc _ _)) | (with_reducible refine Sn.far ?_ (fun b o e => by have := HN2.out b o e; omega) _)))
      · ((repeat (first | (with_reducible exact Up.refl _) | (with_reducible exact HW.out) | (with_reducible refine Up.alloc ?_ _ _) | (with_reducible refine Up.setCell ?_ ?_ _) | (with_reducible refine Up.drewN ?_ _) | (with_reducible refine Up.drew ?_))); all_goals (first | (simp; done) | (simp; omega) | omega))
    obtain ⟨b, o, rfl, d0, d1⟩ := (HS.out.up HW.out).at_ hi
    have hil : i < M.length := by rw [HL.out]; exact hi
    have q := HM.out.2 i hil
    have q2 : i + 1 < n → (M.getD i (0, 0)).1 ≤ (M.getD (i + 1) (0, 0)).1 := fun h => (HM.out.2 (i + 1) (by rw [HL.out]; exact h)).2.2.1 (Nat.succ_pos _)
    have qz := HM.out.1
    have qc := HC.out.2.2.2 hi
    have hl9 : (M.take i).length ≤ 1000 := by rw [List.length_take]; omega
    have et := takeS_getD hil
    have s1 := hvS_st HC.out.2.2.1 ha (show 0 ≤ c ∧ c ≤ 16777216 by have := HC.out; omega) hl9
    have s2 := hvS_st (HC.out.2.2.1.later qc) ha (show 0 ≤ (M.getD i (0, 0)).1 ∧ (M.getD i (0, 0)).1 ≤ 16777216 by omega) hl9
    have KA := Lib.hid (fun W A k (hS : Sn W A a (hvS c a (M.take i))) => (advance16_up c a k A _ (M.getD i (0, 0)).1 (by omega) (st_in s1).1 (st_in s1).2 W hS).mono (fun e w' (h : RsH _ W e w') => by rw [hv_adv ha HC.out.1 qc (by omega) HC.out.2.2.1 hl9] at h; exact h.st (hvS_len _ _ _)))
    have KB := Lib.hid (fun W A k (hS : Sn W A a (hvS (M.getD i (0, 0)).1 a (M.take i))) => (add16_up (M.getD i (0, 0)).1 a k A _ (M.getD i (0, 0)).2 (by omega) (st_in s2).1 (st_in s2).2 W hS).mono (fun e w' (h : RsH _ W e w') => by rw [hv_add ha ⟨by omega, by omega⟩ ⟨q.2.2.2.1, q.2.2.2.2⟩ (HC.out.2.2.1.later qc) hl9, ← et] at h; exact h.st (hvS_len _ _ _)))
    unfold StH at KA KB
    have HC2 : Hid (0 ≤ (M.getD i (0, 0)).1 ∧ (M.getD i (0, 0)).1 ≤ z ∧ okH (M.getD i (0, 0)).1 (M.take (i + 1)) ∧ (i + 1 < n → (M.getD i (0, 0)).1 ≤ (M.getD (i + 1) (0, 0)).1)) := Lib.hid ⟨q.1, q.2.1, by rw [et]; exact (HC.out.2.2.1.later qc).push q.1 ⟨q.2.2.2.1, q.2.2.2.2⟩, q2⟩
    clear q q2 qz qc hl9 et HC K1 s1 s2
    obtain ⟨Y2, hY2⟩ : ∃ z, z = hvS (M.getD i (0, 0)).1 a (M.take (i + 1)) := ⟨_, rfl⟩
    rw [← hY2] at KB
    have HY2 := Lib.hid hY2
    clear hY2
    generalize hvS c a (M.take i) = Y1 at *
    generalize hvS (M.getD i (0, 0)).1 a (M.take i) = Y3 at *
    generalize (M.getD i (0, 0)).1 = t at *
    generalize (M.getD i (0, 0)).2 = v at *
    have g2 : (i : Int) < n := by omega
    have g3 : (0 : Int) ≤ i := by omega
    have Ea := fun c t o => ((Up.refl wr).alloc c t).cells.1 w1.heap.size o hP
    have Eb := fun c t o => ((Up.refl wr).alloc c t).cells.1 w.heap.size o (by omega)
    have nP : w1.heap.size ≠ w.heap.size := by omega
    go_wp2_with (first
      | (go_at_call 14; ((with_reducible refine (KA.out _ A2 k2 ?_).mono ?_); · (repeat (first | (with_reducible exact HS2.out) | (with_reducible exact HS2.out.up ((Up.refl _).alloc _ _)) | (with_reducible refine Sn.far ?_ (fun b o e => by have := HN2.out b o e; omega) _)))); rintro e w3 ⟨A3, k3, rfl, hN, hS, hu⟩; have HN3 : Hid (∀ b o, A3 = some ⟨b, o, none⟩ → b ≠ w1.heap.size ∧ w.heap.size < b) := Lib.hid (fun b o e => by have := hN b o e; simp at this; omega); have HS3 := Lib.hid hS; obtain ⟨U3, E3⟩ := hold3 w w.heap.size w1.heap.size wr.heap.size hu; have z3 := fun o => U3.out.ownGe hl1 o; have hb3 : w1.heap.size < w3.heap.size := E3.2.2.1; have nw3 : wr.heap.size < w3.heap.size := E3.2.2.2; have v1 : w3.cell? ⟨wr.heap.size, 1, none⟩ = some (.int .i64 v) := (by simp [go_sem, E3]); have e0 : w3.cell? ⟨w1.heap.size, 0, none⟩ = some (.int .i64 c) := (by simp [go_sem, E3, Ea, x0]); have e1 : w3.cell? ⟨w1.heap.size, 1, none⟩ = some (.slice A2 a k2) := (by simp [go_sem, E3, Ea, x1]); have rr0 : w3.cell? ⟨w.heap.size, 0, none⟩ = some (.int .i64 0) := (by simp [go_sem, E3, Eb, r0]); have rr1 : w3.cell? ⟨w.heap.size, 1, none⟩ = some (.slice none 0 0) := (by simp [go_sem, E3, Eb, r1]); clear hN hS hu E3)
      | (go_at_call 16; ((with_reducible refine (KB.out _ A3 k3 ?_).mono ?_); · (repeat (first | (with_reducible exact HS3.out) | (with_reducible exact HS3.out.up ((Up.refl _).alloc _ _)) | (with_reducible refine Sn.far ?_ (fun b o e => by have := HN3.out b o e; omega) _)))); rintro e w4 ⟨A4, k4, rfl, hN, hS, hu⟩; have HN4 : Hid (∀ b o, A4 = some ⟨b, o, none⟩ → b ≠ w1.heap.size ∧ w.heap.size < b) := Lib.hid (fun b o e => by have := hN b o e; simp at this; omega); have HS4 := Lib.hid hS; obtain ⟨U4, E4⟩ := hold2 w w.heap.size w1.heap.size hu; have z4 := fun o => U4.out.ownGe hl1 o; have hb4 : w1.heap.size < w4.heap.size := E4.2.2; have f0 : w4.cell? ⟨w1.heap.size, 0, none⟩ = some (.int .i64 t) := (by simp [go_sem, E4, e0]); have f1 : w4.cell? ⟨w1.heap.size, 1, none⟩ = some (.slice A3 a k3) := (by simp [go_sem, E4, e1]); have s0 : w4.cell? ⟨w.heap.size, 0, none⟩ = some (.int .i64 0) := (by simp [go_sem, E4, rr0]); have s1 : w4.cell? ⟨w.heap.size, 1, none⟩ = some (.slice none 0 0) := (by simp [go_sem, E4, rr1]); clear hN hS hu E4))
    go_roundw
    case rel =>
      refine ⟨i + 1, t, A4, k4, rfl, by go_num, by omega, HC2, HN4, Lib.hid ?_, ?_, ?_, ?_, ?_, Lib.hid ?_⟩
      · rw [← HY2.out]; exact (by (repeat (first | (with_reducible exact HS4.out) | (with_reducible exact HS4.out.up ((Up.refl _).alloc _ _)) | (with_reducible refine Sn.far ?_ (fun b o e => by have := HN4.out b o e; omega) _))))
      · simp [go_sem, f0]
      · simp [go_sem, f1]
      · simp [go_sem, s0]
      · simp [go_sem, s1]
      · ((repeat (first | (with_reducible exact Up.refl _) | (with_reducible exact U4.out) | (with_reducible refine Up.alloc ?_ _ _) | (with_reducible refine Up.setCell ?_ ?_ _) | (with_reducible refine Up.drewN ?_ _) | (with_reducible refine Up.drew ?_))); all_goals (first | (simp; done) | (simp; omega) | omega))
    case measure => simp [intOf]; omega
end Go.Proofs.Ytegaeaonoggmkaa

namespace Go.Proofs.Ytegaeaonoggmkaa
open Go.RowKit
set_option linter.unusedVariables false

theorem leftV_one {N : Nat} (h : 1 ≤ N ∧ N ≤ 64) : leftV 1 ((N : Int) - 1) = 2 ^ (N - 1) := by
  have e : ((N : Int) - 1).toNat = N - 1 := by omega
  have q := leftB_yes (v := 1) (n := (N : Int) - 1) (by omega) (by rw [e, Int.one_mul]; exact pow_in2 (by omega))
  rw [q.2, e, Int.one_mul]
theorem akH_hv {N : Nat} {t : Int} {M : List It} (ha : 1 ≤ N ∧ N ≤ 64) (ht : 0 ≤ t ∧ t ≤ 16777216) (ho : okH t M) (hl : M.length ≤ 1000) : akH t (hvS t N M) = .tuple #[.agg #[.int .u64 (hiZ (sumH t N M)), .int .u64 (loZ (sumH t N M)), .int .u64 (hiZ (2 ^ (N - 1))), .int .u64 (loZ (2 ^ (N - 1)))], .int .i64 0] := by
  unfold akH; rw [hv_ask ha ht ho hl]
theorem gotH_some (v D : Int) : gotH (some v) D = .returned (.tuple #[.agg #[.int .u64 (hiZ v), .int .u64 (loZ v), .int .u64 (hiZ D), .int .u64 (loZ D)], .bool true]) := rfl
theorem gotH_hv {N : Nat} {t : Int} {M : List It} (ha : 1 ≤ N ∧ N ≤ 64) (ht : 0 ≤ t ∧ t ≤ 16777216) (ho : okH t M) (hl : M.length ≤ 1000) : gotH (hvO M t N) (leftV 1 ((N : Int) - 1)) = .returned (.tuple #[.agg #[.int .u64 (hiZ (sumH t N M)), .int .u64 (loZ (sumH t N M)), .int .u64 (hiZ (2 ^ (N - 1))), .int .u64 (loZ (2 ^ (N - 1)))], .bool true]) := by
  rw [hvO_sum ha ht ho hl, leftV_one ha, gotH_some]
theorem okH_in {t : Int} {M : List It} (h : okH t M) (ht : t ≤ 16777216) : InI M := fun x hx => by
  have := h x hx
  exact ⟨⟨by omega, by omega⟩, ⟨by omega, by omega⟩⟩
end Go.Proofs.Ytegaeaonoggmkaa
