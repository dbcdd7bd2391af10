/- Texts of these claims, one after the other. -/
import Derived.Test.YtinjainclhfahaaRows
import Derived.Test.YtinjainclhfahaaZERPolyq108
import Derived.Test.YtinjainclhfahaaZPSameq121
import Derived.Test.YtinjainclhfahaaZPShiftq139
namespace Go.Proofs.Ytinjainclhfahaa
open Go.RowKit
set_option linter.unusedVariables false

/-- A state of moments and its row. -/
def StR (p land c : Int) (n : Nat) (X : List Int) (w : World) (e : Ending) (w' : World) : Prop := ∃ (A : Option Addr) (k : Nat), e = .returned (.tuple #[.agg #[.int .i64 p, .int .i64 land, .int .i64 c, .slice A n k], .int .i64 0]) ∧ n ≤ k ∧ Nw w A ∧ SG cW w' A n X ∧ Up w w'
theorem Rs.st {p l c : Int} {n : Nat} {X : List Int} {w w' : World} {v : Ending} (h : Rs (p, l, c, X, 0) w v w') (hn : X.length = n) : StR p l c n X w v w' := by
  subst hn
  obtain ⟨A, k, h1, h2, h3, h4⟩ := h
  exact ⟨A, k, h1, h2.1, h2.2, h3, h4⟩
theorem moL_st {p : Nat} {land c : Int} {M : List It} (hp : p ≤ 4) (hl0 : 0 ≤ land) (hlc : land ≤ c) (hc : c ≤ 16777216) (ho : okM land c M) : stP p land c (moL land (p + 1) M) = true :=
  stP_yes ⟨by omega, by omega, by omega⟩ (by rw [moL_len]; omega) (moL_ng _ ho)
theorem run_adv {p : Nat} {land c t : Int} {M : List It} (hp : p ≤ 4) (hl0 : 0 ≤ land) (hlc : land ≤ c) (hct : c ≤ t) (ht : t ≤ 16777216) (ho : okM land c M) : advQ p land c (moL land (p + 1) M) t = ((p : Int), land, t, moL land (p + 1) M, 0) := by
  unfold advQ
  rw [if_pos (moL_st hp hl0 hlc (by omega) ho), if_neg (by omega)]
theorem run_add {p : Nat} {land t v : Int} {M : List It} (hp : p ≤ 4) (hl0 : 0 ≤ land) (hlt : land ≤ t) (ht : t - land + 1 ≤ 2097152) (ht2 : t ≤ 16777216) (hv : 0 ≤ v ∧ v ≤ 4096) (hl : M.length ≤ 900) (ho : okM land t M) : addQ p land t (moL land (p + 1) M) v = ((p : Int), land, t, moL land (p + 1) (M ++ [(t, v)]), 0) := by
  unfold addQ
  rw [if_pos (moL_st hp hl0 hlt ht2 ho), if_neg (by omega), moL_add, if_pos (moL_in (ho.push hlt hv) hlt (by rw [List.length_append]; simp; omega) ht (by omega))]
theorem run_new {p : Nat} {land : Int} (hp : p ≤ 4) (h0 : 0 ≤ land) (h1 : land ≤ 16777216) : nwQ p land = ((p : Int), land, land, moL land (p + 1) [], 0) := by
  unfold nwQ
  rw [if_pos ⟨by omega, by omega⟩, moL_nil, byL_zero, show ((p : Int) + 1).toNat = p + 1 by omega]
theorem take_succ_getD {M : List It} {i : Nat} (h : i < M.length) : M.take (i + 1) = M.take i ++ [((M.getD i (0, 0)).1, (M.getD i (0, 0)).2)] := by
  have e : M.getD i (0, 0) = M[i] := by simp [List.getD, h]
  rw [e]
  exact (List.take_append_getElem h).symm
/-- What run returns. -/
def RunR (p : Nat) (land : Int) (M : List It) (w : World) (e : Ending) (w' : World) : Prop := ∃ (A : Option Addr) (k : Nat) (c : Int), e = .returned (.tuple #[.agg #[.int .i64 p, .int .i64 land, .int .i64 c, .slice A (p + 1) k], .bool true]) ∧ p + 1 ≤ k ∧ Nw w A ∧ SG cW w' A (p + 1) (moL land (p + 1) M) ∧ (land ≤ c ∧ c ≤ 48060 + land ∧ okM land c M) ∧ Up w w'
set_option maxHeartbeats 4000000 in
set_option maxRecDepth 100000 in
theorem run15_up (p : Nat) (land z : Int) (n k : Nat) (A : Option Addr) (M : List It) (hp : p ≤ 4) (h0 : 0 ≤ land) (h1 : land ≤ 999999) (hn : n ≤ 60) (hM : sdM land z M) (w : World) (hS : Sl w A n M) :
    Calls Try.prog 29 #[.int .i64 p, .int .i64 land, .slice A n k] w fun e w' => RunR p land M w e w' := by
  have K1 := Lib.hid (fun W => (new15_up p land W).mono (fun e w' (h : Rs _ W e w') => by rw [run_new hp h0 (by omega)] at h; exact h.st (moL_len _ _ _)))
  unfold StR at K1
  have HS := Lib.hid hS
  have HM := Lib.hid hM
  have HL := Lib.hid hS.1
  clear hS hM
  go_enter Try.func29, Try.ntmps29
  go_wp2_with (go_at_call 9; (with_reducible refine (K1.out _).mono ?_); rintro e w1 ⟨A1, k1, rfl, hK, hN, hS, hu⟩; have HS1 := Lib.hid hS; have HK1 := Lib.hid hK; have HN1 := Lib.hid hN; obtain ⟨U1, E1⟩ := hold1 w w.heap.size hu; have hl2 : w.heap.size < w1.heap.size := E1.2; have hl1 := Nat.le_of_lt hl2; clear hK hN hS hu)
  go_loopw [9, 20] (fun f u wr => ∃ (i : Nat) (c : Int) (A1 : Option Addr) (k1 : Nat), f = .int .i64 0 ∧ u = .int .i64 i ∧ i ≤ n ∧ Hid (land ≤ c ∧ c ≤ z + land ∧ okM land c (M.take i) ∧ (i < n → c ≤ (M.getD i (0, 0)).1)) ∧ Hid (p + 1 ≤ k1) ∧ Hid (∀ b o, A1 = some ⟨b, o, none⟩ → b ≠ w1.heap.size ∧ w.heap.size < b) ∧ Hid (SG cW wr A1 (p + 1) (moL land (p + 1) (M.take i))) ∧ wr.cell? ⟨w1.heap.size, 0, none⟩ = some (.int .i64 p) ∧ wr.cell? ⟨w1.heap.size, 1, none⟩ = some (.int .i64 land) ∧ wr.cell? ⟨w1.heap.size, 2, none⟩ = some (.int .i64 c) ∧ wr.cell? ⟨w1.heap.size, 3, none⟩ = some (.slice A1 (p + 1) k1) ∧ wr.cell? ⟨w.heap.size, 0, none⟩ = some (.int .i64 0) ∧ wr.cell? ⟨w.heap.size, 1, none⟩ = some (.int .i64 0) ∧ wr.cell? ⟨w.heap.size, 2, none⟩ = some (.int .i64 0) ∧ wr.cell? ⟨w.heap.size, 3, none⟩ = some (.slice none 0 0) ∧ Hid (Up w wr)) (fun _ u _ => n - (intOf u).toNat)
  case atStart =>
    refine ⟨0, land, A1, k1, rfl, rfl, Nat.zero_le _, Lib.hid ⟨Int.le_refl _, by have := HM.out.1; omega, fun x hx => absurd hx (by simp), fun hi => (HM.out.2 0 (by rw [HL.out]; exact hi)).1⟩, HK1, Lib.hid (fun b o e => by
      have h1 := HN1.out b o e
      simp at h1
      obtain ⟨b2, o2, e2, y0, _⟩ := wide_at HS1.out (show 0 < p + 1 by omega)
      rw [e] at e2
      injection e2 with e2
      injection e2 with e3 e4
      have h2 : b2 < w1.heap.size := World.block_lt_of_cell? _ _ y0
      omega), Lib.hid (HS1.out.up ((Up.refl _).alloc _ _)), ?_, ?_, ?_, ?_, ?_, ?_, ?_, ?_, Lib.hid (U1.out.alloc _ _)⟩
    all_goals (simp [go_sem, E1])
  case round =>
    obtain ⟨i, c, A2, k2, rfl, rfl, hin, HC, HK2, HN2, HS2, x0, x1, x2, x3, r0, r1, r2, r3, HW⟩ := hrel
    have hP : w1.heap.size < wr.heap.size := World.block_lt_of_cell? _ _ x0
    have z0 := fun o => HW.out.ownGe (Nat.le_refl w.heap.size) o
    by_cases hi : i < n
    case neg =>
      obtain rfl : i = n := by omega
      have f1 : decide ((i : Int) < i) = false := decide_eq_false (by omega)
      have HR : Hid (SG cW wr A2 (p + 1) (moL land (p + 1) M) ∧ land ≤ c ∧ c ≤ 48060 + land ∧ okM land c M) := Lib.hid (by
        have h1 := HS2.out
        have h2 := HC.out
        rw [List.take_of_length_le (by rw [HL.out]; exact Nat.le_refl _)] at h1 h2
        exact ⟨h1, h2.1, by have := HM.out.1; omega, h2.2.2.1⟩)
      clear K1 HC HS2 HM HL
      go_wp2_with fail
      refine bodyPost_ret (v := .tuple #[.agg #[.int .i64 p, .int .i64 land, .int .i64 c, .slice A2 (p + 1) k2], .bool true]) (by simp [results, Try.results29, go_sem, r0, r1, r2, r3]) rfl ⟨A2, k2, c, rfl, HK2.out, fun b o e => by have := HN2.out b o e; omega, ?_, HR.out.2, ?_⟩
      · (repeat (first | (with_reducible exact HR.out.1) | (with_reducible exact HR.out.1.up ((Up.refl _).alloc _ _)) | (with_reducible refine SG.off ?_ (fun b o e => by have := HN2.out b o e; omega) _)))
      · ((repeat (first | (with_reducible exact Up.refl _) | (with_reducible exact HW.out) | (with_reducible refine Up.alloc ?_ _ _) | (with_reducible refine Up.setCell ?_ ?_ _) | (with_reducible refine Up.drewN ?_ _) | (with_reducible refine Up.drew ?_))); all_goals (first | (simp; done) | (simp; omega) | omega))
    obtain ⟨b, o, rfl, d0, d1⟩ := (HS.out.up HW.out).at_ hi
    have hil : i < M.length := by rw [HL.out]; exact hi
    have q := HM.out.2 i hil
    have q2 : i + 1 < n → (M.getD i (0, 0)).1 ≤ (M.getD (i + 1) (0, 0)).1 := fun h => (HM.out.2 (i + 1) (by rw [HL.out]; exact h)).2.2.1 (Nat.succ_pos _)
    have qz := HM.out.1
    have qc := HC.out.2.2.2 hi
    have hl9 : (M.take i).length ≤ 900 := by rw [List.length_take]; omega
    have et := take_succ_getD hil
    have KA := Lib.hid (fun W A k hk (hS : SG cW W A (p + 1) (moL land (p + 1) (M.take i))) => (advance15_up p land c (M.getD i (0, 0)).1 (p + 1) k A _ (by omega) hk (fitL_iff.1 (moL_in HC.out.2.2.1 HC.out.1 (by omega) (by have := HC.out.2.1; omega) (by omega))) W hS).mono (fun e w' (h : Rs _ W e w') => by rw [run_adv hp h0 HC.out.1 qc (by omega) HC.out.2.2.1] at h; exact h.st (moL_len _ _ _)))
    have KB := Lib.hid (fun W A k hk (hS : SG cW W A (p + 1) (moL land (p + 1) (M.take i))) => (add15_up p land (M.getD i (0, 0)).1 (M.getD i (0, 0)).2 (p + 1) k A _ (by omega) hk (fitL_iff.1 (moL_in HC.out.2.2.1 HC.out.1 (by omega) (by have := HC.out.2.1; omega) (by omega))) W hS).mono (fun e w' (h : Rs _ W e w') => by rw [run_add hp h0 (by omega) (by omega) (by omega) ⟨q.2.2.2.1, q.2.2.2.2⟩ hl9 (HC.out.2.2.1.later qc), ← et] at h; exact h.st (moL_len _ _ _)))
    unfold StR at KA KB
    have HC2 : Hid (land ≤ (M.getD i (0, 0)).1 ∧ (M.getD i (0, 0)).1 ≤ z + land ∧ okM land (M.getD i (0, 0)).1 (M.take (i + 1)) ∧ (i + 1 < n → (M.getD i (0, 0)).1 ≤ (M.getD (i + 1) (0, 0)).1)) := Lib.hid ⟨q.1, q.2.1, by rw [et]; exact (HC.out.2.2.1.later qc).push q.1 ⟨q.2.2.2.1, q.2.2.2.2⟩, q2⟩
    clear q q2 qz qc hl9 et HC K1
    obtain ⟨Y2, hY2⟩ : ∃ z, z = moL land (p + 1) (M.take (i + 1)) := ⟨_, rfl⟩
    rw [← hY2] at KB
    have HY2 := Lib.hid hY2
    clear hY2
    generalize moL land (p + 1) (M.take i) = Y1 at *
    generalize (M.getD i (0, 0)).1 = t at *
    generalize (M.getD i (0, 0)).2 = v at *
    have g2 : (i : Int) < n := by omega
    have g3 : (0 : Int) ≤ i := by omega
    have Ea := fun c t o => ((Up.refl wr).alloc c t).cells.1 w1.heap.size o hP
    have Eb := fun c t o => ((Up.refl wr).alloc c t).cells.1 w.heap.size o (by omega)
    have nP : w1.heap.size ≠ w.heap.size := by omega
    go_wp2_with (first
      | (go_at_call 14; ((with_reducible refine (KA.out _ A2 k2 HK2.out ?_).mono ?_); · (repeat (first | (with_reducible exact HS2.out) | (with_reducible exact HS2.out.up ((Up.refl _).alloc _ _)) | (with_reducible refine SG.off ?_ (fun b o e => by have := HN2.out b o e; omega) _)))); rintro e w3 ⟨A3, k3, rfl, hK, hN, hS, hu⟩; have HN3 : Hid (∀ b o, A3 = some ⟨b, o, none⟩ → b ≠ w1.heap.size ∧ w.heap.size < b) := Lib.hid (fun b o e => by have := hN b o e; simp at this; omega); have HS3 := Lib.hid hS; have HK3 := Lib.hid hK; obtain ⟨U3, E3⟩ := hold3 w w.heap.size w1.heap.size wr.heap.size hu; have z3 := fun o => U3.out.ownGe hl1 o; have hb3 : w1.heap.size < w3.heap.size := E3.2.2.1; have nw3 : wr.heap.size < w3.heap.size := E3.2.2.2; have v1 : w3.cell? ⟨wr.heap.size, 1, none⟩ = some (.int .i64 v) := (by simp [go_sem, E3]); have e0 : w3.cell? ⟨w1.heap.size, 0, none⟩ = some (.int .i64 p) := (by simp [go_sem, E3, Ea, x0]); have e1 : w3.cell? ⟨w1.heap.size, 1, none⟩ = some (.int .i64 land) := (by simp [go_sem, E3, Ea, x1]); have e2 : w3.cell? ⟨w1.heap.size, 2, none⟩ = some (.int .i64 c) := (by simp [go_sem, E3, Ea, x2]); have e3 : w3.cell? ⟨w1.heap.size, 3, none⟩ = some (.slice A2 (p + 1) k2) := (by simp [go_sem, E3, Ea, x3]); have rr0 : w3.cell? ⟨w.heap.size, 0, none⟩ = some (.int .i64 0) := (by simp [go_sem, E3, Eb, r0]); have rr1 : w3.cell? ⟨w.heap.size, 1, none⟩ = some (.int .i64 0) := (by simp [go_sem, E3, Eb, r1]); have rr2 : w3.cell? ⟨w.heap.size, 2, none⟩ = some (.int .i64 0) := (by simp [go_sem, E3, Eb, r2]); have rr3 : w3.cell? ⟨w.heap.size, 3, none⟩ = some (.slice none 0 0) := (by simp [go_sem, E3, Eb, r3]); clear hK hN hS hu E3)
      | (go_at_call 16; ((with_reducible refine (KB.out _ A3 k3 HK3.out ?_).mono ?_); · (repeat (first | (with_reducible exact HS3.out) | (with_reducible exact HS3.out.up ((Up.refl _).alloc _ _)) | (with_reducible refine SG.off ?_ (fun b o e => by have := HN3.out b o e; omega) _)))); rintro e w4 ⟨A4, k4, rfl, hK, hN, hS, hu⟩; have HN4 : Hid (∀ b o, A4 = some ⟨b, o, none⟩ → b ≠ w1.heap.size ∧ w.heap.size < b) := Lib.hid (fun b o e => by have := hN b o e; simp at this; omega); have HS4 := Lib.hid hS; have HK4 := Lib.hid hK; obtain ⟨U4, E4⟩ := hold2 w w.heap.size w1.heap.size hu; have z4 := fun o => U4.out.ownGe hl1 o; have hb4 : w1.heap.size < w4.heap.size := E4.2.2; have f0 : w4.cell? ⟨w1.heap.size, 0, none⟩ = some (.int .i64 p) := (by simp [go_sem, E4, e0]); have f1 : w4.cell? ⟨w1.heap.size, 1, none⟩ = some (.int .i64 land) := (by simp [go_sem, E4, e1]); have f2 : w4.cell? ⟨w1.heap.size, 2, none⟩ = some (.int .i64 t) := (by simp [go_sem, E4, e2]); have f3 : w4.cell? ⟨w1.heap.size, 3, none⟩ = some (.slice A3 (p + 1) k3) := (by simp [go_sem, E4, e3]); have s0 : w4.cell? ⟨w.heap.size, 0, none⟩ = some (.int .i64 0) := (by simp [go_sem, E4, rr0]); have s1 : w4.cell? ⟨w.heap.size, 1, none⟩ = some (.int .i64 0) := (by simp [go_sem, E4, rr1]); have s2 : w4.cell? ⟨w.heap.size, 2, none⟩ = some (.int .i64 0) := (by simp [go_sem, E4, rr2]); have s3 : w4.cell? ⟨w.heap.size, 3, none⟩ = some (.slice none 0 0) := (by simp [go_sem, E4, rr3]); clear hK hN hS hu E4))
    go_roundw
    case rel =>
      refine ⟨i + 1, t, A4, k4, rfl, by go_num, by omega, HC2, HK4, HN4, Lib.hid ?_, ?_, ?_, ?_, ?_, ?_, ?_, ?_, ?_, Lib.hid (U4.out.set4 hl1)⟩
      · rw [← HY2.out]; exact (by (repeat (first | (with_reducible exact HS4.out) | (with_reducible exact HS4.out.up ((Up.refl _).alloc _ _)) | (with_reducible refine SG.off ?_ (fun b o e => by have := HN4.out b o e; omega) _))))
      all_goals (simp [go_sem, f0, f1, f2, f3, s0, s1, s2, s3])
    case measure => simp [intOf]; omega
end Go.Proofs.Ytinjainclhfahaa

namespace Go.Proofs.Ytinjainclhfahaa
open Go.RowKit
set_option linter.unusedVariables false

theorem okM_in {land c : Int} {M : List It} (h0 : 0 ≤ land) (hc : c ≤ 16777216) (ho : okM land c M) : InI M := by
  intro x hx
  have := ho _ hx
  exact ⟨⟨by omega, by omega⟩, ⟨by omega, by omega⟩⟩
theorem gotW_some (v : Int) : gotW (some v) = .returned (.tuple #[.agg #[.int .u64 (hiZ v), .int .u64 (loZ v)], .bool true]) := rfl
end Go.Proofs.Ytinjainclhfahaa
