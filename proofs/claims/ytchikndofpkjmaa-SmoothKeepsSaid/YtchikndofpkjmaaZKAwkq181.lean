/- What awake of the laws of package smooth returns. -/
import Derived.Test.YtchikndofpkjmaaRows
import Derived.Test.YtchikndofpkjmaaZKAddq171
import Derived.Test.YtchikndofpkjmaaZWGcdq137
namespace Go.Proofs.Ytchikndofpkjmaa
open Go.RowKit
set_option linter.unusedVariables false

theorem awkM_st0 : stM 1 9 1 100 0 0 ([] : List Mrk) = true := by decide
theorem awkM_st1 : stM 1 9 1 100 0 1 ([⟨1, 0, 1, 1, 1, 1, 1⟩] : List Mrk) = true := by decide
theorem awkM_st2 : stM 1 9 1 100 0 2 ([⟨1, 0, 2, 2, 2, 1, 1⟩, ⟨2, 0, 1, 1, 1, 1, 1⟩] : List Mrk) = true := by decide
theorem awkM_st3 : stM 1 9 1 100 0 3 ([⟨1, 0, 3, 3, 3, 1, 1⟩, ⟨2, 0, 2, 2, 2, 1, 1⟩, ⟨3, 0, 1, 1, 1, 1, 1⟩] : List Mrk) = true := by decide
theorem awkM_ad0 : adM 1 1 0 0 1 ([] : List Mrk) = ([⟨1, 0, 1, 1, 1, 1, 1⟩] : List Mrk) := rfl
theorem awkM_fu0 : fuM 100 0 ([] : List Mrk) = false := by decide
theorem awkM_ad1 : adM 1 1 1 0 1 ([⟨1, 0, 1, 1, 1, 1, 1⟩] : List Mrk) = ([⟨1, 0, 2, 2, 2, 1, 1⟩, ⟨2, 0, 1, 1, 1, 1, 1⟩] : List Mrk) := rfl
theorem awkM_fu1 : fuM 100 1 ([⟨1, 0, 1, 1, 1, 1, 1⟩] : List Mrk) = false := by decide
theorem awkM_ad2 : adM 1 1 2 0 1 ([⟨1, 0, 2, 2, 2, 1, 1⟩, ⟨2, 0, 1, 1, 1, 1, 1⟩] : List Mrk) = ([⟨1, 0, 3, 3, 3, 1, 1⟩, ⟨2, 0, 2, 2, 2, 1, 1⟩, ⟨3, 0, 1, 1, 1, 1, 1⟩] : List Mrk) := rfl
theorem awkM_fu2 : fuM 100 2 ([⟨1, 0, 2, 2, 2, 1, 1⟩, ⟨2, 0, 1, 1, 1, 1, 1⟩] : List Mrk) = false := by decide
theorem awkM_ad3 : adM 1 1 3 0 1 ([⟨1, 0, 3, 3, 3, 1, 1⟩, ⟨2, 0, 2, 2, 2, 1, 1⟩, ⟨3, 0, 1, 1, 1, 1, 1⟩] : List Mrk) = ([⟨1, 0, 4, 4, 4, 1, 1⟩, ⟨3, 0, 2, 2, 2, 1, 1⟩, ⟨4, 0, 1, 1, 1, 1, 1⟩] : List Mrk) := rfl
theorem awkM_fu3 : fuM 100 3 ([⟨1, 0, 3, 3, 3, 1, 1⟩, ⟨2, 0, 2, 2, 2, 1, 1⟩, ⟨3, 0, 1, 1, 1, 1, 1⟩] : List Mrk) = false := by decide
theorem awkM_val : valG 1 1 := by decide
theorem awkM_new (W : World) : Calls Try.prog 10 #[.int .i64 1, .int .i64 9, .int .i64 1, .int .i64 100, .int .i64 0] W fun e w' => e = .returned (.tuple #[.agg #[.int .i64 1, .int .i64 9, .int .i64 1, .int .i64 100, .int .i64 0, .int .i64 0, .slice none 0 0], .int .i64 0]) ∧ Up W w' :=
  new13_yes 1 9 1 100 0 (by decide) W
theorem awkM_add0 (W : World) (A : Option Addr) (k : Nat) (hk : 0 ≤ k) (hS : SG cM W A 0 ([] : List Mrk)) : Calls Try.prog 23 #[.agg #[.int .i64 1, .int .i64 9, .int .i64 1, .int .i64 100, .int .i64 0, .int .i64 0, .slice A 0 k], .int .i64 1] W fun e w' => ∃ A' k', e = .returned (.tuple #[.agg #[.int .i64 1, .int .i64 9, .int .i64 1, .int .i64 100, .int .i64 0, .int .i64 1, .slice A' 1 k'], .int .i64 0]) ∧ 1 ≤ k' ∧ Nw W A' ∧ Up W w' ∧ SG cM w' A' 1 ([⟨1, 0, 1, 1, 1, 1, 1⟩] : List Mrk) :=
  (add13_good 1 9 1 100 0 0 1 0 k A _ (by omega) hk awkM_st0 awkM_val awkM_fu0 W hS).mono (fun _ _ ⟨A', n', k', h1, _, hk', h3, h4, h5⟩ => by
    rw [awkM_ad0] at h5
    obtain rfl : n' = 1 := h5.1.symm
    exact ⟨A', k', h1, hk', h3, h4, h5⟩)
theorem awkM_add1 (W : World) (A : Option Addr) (k : Nat) (hk : 1 ≤ k) (hS : SG cM W A 1 ([⟨1, 0, 1, 1, 1, 1, 1⟩] : List Mrk)) : Calls Try.prog 23 #[.agg #[.int .i64 1, .int .i64 9, .int .i64 1, .int .i64 100, .int .i64 0, .int .i64 1, .slice A 1 k], .int .i64 1] W fun e w' => ∃ A' k', e = .returned (.tuple #[.agg #[.int .i64 1, .int .i64 9, .int .i64 1, .int .i64 100, .int .i64 0, .int .i64 2, .slice A' 2 k'], .int .i64 0]) ∧ 2 ≤ k' ∧ Nw W A' ∧ Up W w' ∧ SG cM w' A' 2 ([⟨1, 0, 2, 2, 2, 1, 1⟩, ⟨2, 0, 1, 1, 1, 1, 1⟩] : List Mrk) :=
  (add13_good 1 9 1 100 0 1 1 1 k A _ (by omega) hk awkM_st1 awkM_val awkM_fu1 W hS).mono (fun _ _ ⟨A', n', k', h1, _, hk', h3, h4, h5⟩ => by
    rw [awkM_ad1] at h5
    obtain rfl : n' = 2 := h5.1.symm
    exact ⟨A', k', h1, hk', h3, h4, h5⟩)
theorem awkM_add2 (W : World) (A : Option Addr) (k : Nat) (hk : 2 ≤ k) (hS : SG cM W A 2 ([⟨1, 0, 2, 2, 2, 1, 1⟩, ⟨2, 0, 1, 1, 1, 1, 1⟩] : List Mrk)) : Calls Try.prog 23 #[.agg #[.int .i64 1, .int .i64 9, .int .i64 1, .int .i64 100, .int .i64 0, .int .i64 2, .slice A 2 k], .int .i64 1] W fun e w' => ∃ A' k', e = .returned (.tuple #[.agg #[.int .i64 1, .int .i64 9, .int .i64 1, .int .i64 100, .int .i64 0, .int .i64 3, .slice A' 3 k'], .int .i64 0]) ∧ 3 ≤ k' ∧ Nw W A' ∧ Up W w' ∧ SG cM w' A' 3 ([⟨1, 0, 3, 3, 3, 1, 1⟩, ⟨2, 0, 2, 2, 2, 1, 1⟩, ⟨3, 0, 1, 1, 1, 1, 1⟩] : List Mrk) :=
  (add13_good 1 9 1 100 0 2 1 2 k A _ (by omega) hk awkM_st2 awkM_val awkM_fu2 W hS).mono (fun _ _ ⟨A', n', k', h1, _, hk', h3, h4, h5⟩ => by
    rw [awkM_ad2] at h5
    obtain rfl : n' = 3 := h5.1.symm
    exact ⟨A', k', h1, hk', h3, h4, h5⟩)
theorem awkM_add3 (W : World) (A : Option Addr) (k : Nat) (hk : 3 ≤ k) (hS : SG cM W A 3 ([⟨1, 0, 3, 3, 3, 1, 1⟩, ⟨2, 0, 2, 2, 2, 1, 1⟩, ⟨3, 0, 1, 1, 1, 1, 1⟩] : List Mrk)) : Calls Try.prog 23 #[.agg #[.int .i64 1, .int .i64 9, .int .i64 1, .int .i64 100, .int .i64 0, .int .i64 3, .slice A 3 k], .int .i64 1] W fun e w' => ∃ A' k', e = .returned (.tuple #[.agg #[.int .i64 1, .int .i64 9, .int .i64 1, .int .i64 100, .int .i64 0, .int .i64 4, .slice A' 3 k'], .int .i64 0]) ∧ 3 ≤ k' ∧ Nw W A' ∧ Up W w' ∧ SG cM w' A' 3 ([⟨1, 0, 4, 4, 4, 1, 1⟩, ⟨3, 0, 2, 2, 2, 1, 1⟩, ⟨4, 0, 1, 1, 1, 1, 1⟩] : List Mrk) :=
  (add13_good 1 9 1 100 0 3 1 3 k A _ (by omega) hk awkM_st3 awkM_val awkM_fu3 W hS).mono (fun _ _ ⟨A', n', k', h1, _, hk', h3, h4, h5⟩ => by
    rw [awkM_ad3] at h5
    obtain rfl : n' = 3 := h5.1.symm
    exact ⟨A', k', h1, hk', h3, h4, h5⟩)
/-- What awake holds ahead of the round i. -/
def AwK (w0 W : World) (p i : Nat) : Prop :=
  ∃ (A : Option Addr) (n k : Nat) (X : List Mrk), (i = 0 ∧ n = 0 ∧ X = [] ∨ i = 1 ∧ n = 1 ∧ X = ([⟨1, 0, 1, 1, 1, 1, 1⟩] : List Mrk) ∨ i = 2 ∧ n = 2 ∧ X = ([⟨1, 0, 2, 2, 2, 1, 1⟩, ⟨2, 0, 1, 1, 1, 1, 1⟩] : List Mrk) ∨ i = 3 ∧ n = 3 ∧ X = ([⟨1, 0, 3, 3, 3, 1, 1⟩, ⟨2, 0, 2, 2, 2, 1, 1⟩, ⟨3, 0, 1, 1, 1, 1, 1⟩] : List Mrk) ∨ i = 4 ∧ n = 3 ∧ X = ([⟨1, 0, 4, 4, 4, 1, 1⟩, ⟨3, 0, 2, 2, 2, 1, 1⟩, ⟨4, 0, 1, 1, 1, 1, 1⟩] : List Mrk)) ∧ n ≤ k ∧ SG cM W A n X ∧ (∀ b o, A = some ⟨b, o, none⟩ → b ≠ p) ∧ Up w0 W ∧ W.cell? ⟨p, 0, none⟩ = some (.int .i64 1) ∧ W.cell? ⟨p, 1, none⟩ = some (.int .i64 9) ∧ W.cell? ⟨p, 2, none⟩ = some (.int .i64 1) ∧ W.cell? ⟨p, 3, none⟩ = some (.int .i64 100) ∧ W.cell? ⟨p, 4, none⟩ = some (.int .i64 0) ∧ W.cell? ⟨p, 5, none⟩ = some (.int .i64 i) ∧ W.cell? ⟨p, 6, none⟩ = some (.slice A n k)
theorem awkM_step (i n : Nat) (X : List Mrk) (h : i = 0 ∧ n = 0 ∧ X = [] ∨ i = 1 ∧ n = 1 ∧ X = ([⟨1, 0, 1, 1, 1, 1, 1⟩] : List Mrk) ∨ i = 2 ∧ n = 2 ∧ X = ([⟨1, 0, 2, 2, 2, 1, 1⟩, ⟨2, 0, 1, 1, 1, 1, 1⟩] : List Mrk) ∨ i = 3 ∧ n = 3 ∧ X = ([⟨1, 0, 3, 3, 3, 1, 1⟩, ⟨2, 0, 2, 2, 2, 1, 1⟩, ⟨3, 0, 1, 1, 1, 1, 1⟩] : List Mrk)) (W : World) (A : Option Addr) (k : Nat) (hk : n ≤ k) (hS : SG cM W A n X) : Calls Try.prog 23 #[.agg #[.int .i64 1, .int .i64 9, .int .i64 1, .int .i64 100, .int .i64 0, .int .i64 i, .slice A n k], .int .i64 1] W fun e w' => ∃ A' n' k' X', e = .returned (.tuple #[.agg #[.int .i64 1, .int .i64 9, .int .i64 1, .int .i64 100, .int .i64 0, .int .i64 ((i : Int) + 1), .slice A' n' k'], .int .i64 0]) ∧ (i = 0 ∧ n' = 1 ∧ X' = ([⟨1, 0, 1, 1, 1, 1, 1⟩] : List Mrk) ∨ i = 1 ∧ n' = 2 ∧ X' = ([⟨1, 0, 2, 2, 2, 1, 1⟩, ⟨2, 0, 1, 1, 1, 1, 1⟩] : List Mrk) ∨ i = 2 ∧ n' = 3 ∧ X' = ([⟨1, 0, 3, 3, 3, 1, 1⟩, ⟨2, 0, 2, 2, 2, 1, 1⟩, ⟨3, 0, 1, 1, 1, 1, 1⟩] : List Mrk) ∨ i = 3 ∧ n' = 3 ∧ X' = ([⟨1, 0, 4, 4, 4, 1, 1⟩, ⟨3, 0, 2, 2, 2, 1, 1⟩, ⟨4, 0, 1, 1, 1, 1, 1⟩] : List Mrk)) ∧ n' ≤ k' ∧ Nw W A' ∧ Up W w' ∧ SG cM w' A' n' X' := by
  rcases h with ⟨rfl, rfl, rfl⟩ | ⟨rfl, rfl, rfl⟩ | ⟨rfl, rfl, rfl⟩ | ⟨rfl, rfl, rfl⟩
  · exact (awkM_add0 W A k hk hS).mono (fun _ _ ⟨A', k', h1, h2, h3, h4, h5⟩ => ⟨A', 1, k', _, h1, by simp, h2, h3, h4, h5⟩)
  · exact (awkM_add1 W A k hk hS).mono (fun _ _ ⟨A', k', h1, h2, h3, h4, h5⟩ => ⟨A', 2, k', _, h1, by simp, h2, h3, h4, h5⟩)
  · exact (awkM_add2 W A k hk hS).mono (fun _ _ ⟨A', k', h1, h2, h3, h4, h5⟩ => ⟨A', 3, k', _, h1, by simp, h2, h3, h4, h5⟩)
  · exact (awkM_add3 W A k hk hS).mono (fun _ _ ⟨A', k', h1, h2, h3, h4, h5⟩ => ⟨A', 3, k', _, h1, by simp, h2, h3, h4, h5⟩)

set_option maxHeartbeats 16000000 in
set_option maxRecDepth 100000 in
theorem awake13_up (w : World) : Calls Try.prog 17 #[] w fun e w' => e = .returned (.bool true) ∧ Up w w' := by
  have K1 := Lib.hid awkM_new
  go_enter Try.func17, Try.ntmps17
  go_wp2_with (go_at_call 10; (with_reducible refine (K1.out _).mono ?_); rintro e w1 ⟨rfl, hu⟩; have HU1 := Lib.hid hu; clear hu)
  have HR0 : Hid (AwK w (w1.alloc (.cells #[.int .i64 1, .int .i64 9, .int .i64 1, .int .i64 100, .int .i64 0, .int .i64 0, .slice none 0 0] 26)) w1.heap.size 0) := Lib.hid ⟨none, 0, 0, [], Or.inl ⟨rfl, rfl, rfl⟩, Nat.le_refl _, SG.none_, (fun _ _ e => by cases e), HU1.out.alloc _ _, by simp [go_sem], by simp [go_sem], by simp [go_sem], by simp [go_sem], by simp [go_sem], by simp [go_sem], by simp [go_sem]⟩
  have hp : w.heap.size ≤ w1.heap.size := HU1.out.size
  generalize w1.heap.size = p at *
  clear HU1 K1
  go_loopw [2, 3] (fun s t wr => ∃ i : Nat, s = .int .i64 0 ∧ t = .int .i64 i ∧ i ≤ 4 ∧ Hid (AwK w wr p i)) (fun _ t _ => 4 - (intOf t).toNat)
  case atStart => exact ⟨0, rfl, rfl, Nat.zero_le _, HR0⟩
  case round =>
    obtain ⟨i, rfl, rfl, hi, HQ⟩ := hrel
    obtain ⟨A, n, k, X, hX, hk, hS, hoff, hU, x0, x1, x2, x3, x4, x5, x6⟩ := HQ.out
    have HS := Lib.hid hS
    have HU := Lib.hid hU
    by_cases hlt : i < 4
    · have K2 := Lib.hid (fun W (h : SG cM W A n X) => awkM_step i n X (by
        rcases hX with h | h | h | h | h
        · exact Or.inl h
        · exact Or.inr (Or.inl h)
        · exact Or.inr (Or.inr (Or.inl h))
        · exact Or.inr (Or.inr (Or.inr h))
        · exact absurd h.1 (by omega)) W A k hk h)
      have f2 : (i : Int) < 4 := by omega
      have hpl : p < wr.heap.size := World.block_lt_of_cell? _ _ x0
      clear hX HQ hS hU hoff
      go_wp2_with (go_at_call 23; (with_reducible refine (K2.out _ HS.out).mono ?_); rintro e w2 ⟨A2, n2, k2, X2, rfl, hX2, hk2, hn2, hu, hS2⟩; have HX2 := Lib.hid hX2; have HS2 := Lib.hid hS2; have HN2 := Lib.hid (hn2.off hpl); have HU2 := Lib.hid (HU.out.trans hu); have f0_ := HU2.out.ownGe (g := p) hp 0; have f1_ := HU2.out.ownGe (g := p) hp 1; have f2_ := HU2.out.ownGe (g := p) hp 2; have f3_ := HU2.out.ownGe (g := p) hp 3; have f4_ := HU2.out.ownGe (g := p) hp 4; have f5_ := HU2.out.ownGe (g := p) hp 5; have f6_ := HU2.out.ownGe (g := p) hp 6; have y0 := hu.keep _ _ _ x0; have y1 := hu.keep _ _ _ x1; have y2 := hu.keep _ _ _ x2; have y3 := hu.keep _ _ _ x3; have y4 := hu.keep _ _ _ x4; have y5 := hu.keep _ _ _ x5; have y6 := hu.keep _ _ _ x6; clear hu hS2 hn2 hX2 x0 x1 x2 x3 x4 x5 x6)
      go_roundw
      case rel =>
        obtain ⟨z0, z1, z2, z3, z4, z5, z6⟩ := cells7 (v0 := .int .i64 1) (v1 := .int .i64 9) (v2 := .int .i64 1) (v3 := .int .i64 100) (v4 := .int .i64 0) (v5 := .int .i64 ((i : Int) + 1)) (v6 := .slice A2 n2 k2) y0 y1 y2 y3 y4 y5 y6
        exact ⟨i + 1, rfl, by go_num, by omega, Lib.hid ⟨A2, n2, k2, X2, by
          rcases HX2.out with ⟨h1, h2⟩ | ⟨h1, h2⟩ | ⟨h1, h2⟩ | ⟨h1, h2⟩
          · exact Or.inr (Or.inl ⟨by omega, h2⟩)
          · exact Or.inr (Or.inr (Or.inl ⟨by omega, h2⟩))
          · exact Or.inr (Or.inr (Or.inr (Or.inl ⟨by omega, h2⟩)))
          · exact Or.inr (Or.inr (Or.inr (Or.inr ⟨by omega, h2⟩))), hk2, HS2.out.off7 HN2.out _ _ _ _ _ _ _, HN2.out, HU2.out.set7 hp, z0, z1, z2, z3, z4, by rw [z5]; simp, z6⟩⟩
      case measure => simp [intOf]; omega
    · obtain rfl : i = 4 := by omega
      obtain ⟨rfl, rfl⟩ : n = 3 ∧ X = ([⟨1, 0, 4, 4, 4, 1, 1⟩, ⟨3, 0, 2, 2, 2, 1, 1⟩, ⟨4, 0, 1, 1, 1, 1, 1⟩] : List Mrk) := by
        rcases hX with h | h | h | h | h
        · exact absurd h.1 (by omega)
        · exact absurd h.1 (by omega)
        · exact absurd h.1 (by omega)
        · exact absurd h.1 (by omega)
        · exact h.2
      obtain ⟨b, o, rfl, d0, d1, d2, d3, d4, d5, d6⟩ := mrk_at hS mk0 (show 1 < 3 by omega)
      simp at d2
      clear hX HQ hS hU hoff
      go_wp2
      go_ret
      exact ⟨rfl, HU.out⟩
end Go.Proofs.Ytchikndofpkjmaa
