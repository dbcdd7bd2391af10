/- plus of package poly and of its reference. -/
import Derived.Test.YtinjainclhfahaaRows
import Derived.Test.YtinjainclhfahaaZPValq104
namespace Go.Proofs.Ytinjainclhfahaa
open Go.RowKit
set_option linter.unusedVariables false

/-- A list of moments, if all fit. -/
def PlR (r : Bool) (n : Nat) (Z : List Int) (w : World) (e : Ending) (w' : World) : Prop := ∃ (A' : Option Addr) (n' k' : Nat), e = .returned (.tuple #[.slice A' n' k', .bool r]) ∧ (r = true → n' = n ∧ NwK w A' n' k' ∧ SG cW w' A' n Z) ∧ Up w w'
theorem PlR.yes {n k : Nat} {Z : List Int} {A : Option Addr} {w w' : World} {e : Ending} (h : e = .returned (.tuple #[.slice A n k, .bool true])) (hN : NwK w A n k) (hS : SG cW w' A n Z) (hu : Up w w') : PlR true n Z w e w' := ⟨A, n, k, h, fun _ => ⟨rfl, hN, hS⟩, hu⟩
theorem PlR.no {n : Nat} {Z : List Int} {w w' : World} {e : Ending} (h : e = .returned (.tuple #[.slice none 0 0, .bool false])) (hu : Up w w') : PlR false n Z w e w' := ⟨none, 0, 0, h, fun q => absurd q (by decide), hu⟩
set_option maxHeartbeats 4000000 in
set_option maxRecDepth 100000 in
theorem plus15_up (n k j : Nat) (A B : Option Addr) (X Y : List Int) (hn : n ≤ 5000) (hIX : ∀ x ∈ X, In2 x) (hIY : ∀ x ∈ Y, In2 x) (w : World) (hX : SG cW w A n X) (hY : SG cW w B n Y) :
    Calls Try.prog 38 #[.slice A n k, .slice B n j] w fun e w' => PlR (fitL (plP X Y)) n (plP X Y) w e w' := by
  have HX := Lib.hid hX
  have HY := Lib.hid hY
  have HIX := Lib.hid hIX
  have HIY := Lib.hid hIY
  have hZ : plP X Y = byL n (fun j => X.getD j 0 + Y.getD j 0) := by unfold plP; rw [hX.1]
  have HZ := Lib.hid hZ
  have HB : Hid (∀ j, j < n → fits2 (X.getD j 0 + Y.getD j 0) = false → fitL (plP X Y) = false) := Lib.hid (fun j hj h => by rw [hZ]; exact fitL_no hj (fun q => by rw [fits2_yes q] at h; cases h))
  have HT : Hid ((∀ j, j < n → fits2 (X.getD j 0 + Y.getD j 0) = true) → fitL (plP X Y) = true) := Lib.hid (fun h => by rw [hZ]; exact fitL_by.2 (fun j hj => fits2_in (h j hj)))
  generalize fitL (plP X Y) = r at HB HT ⊢
  generalize plP X Y = Z at HZ ⊢
  clear hX hY hIX hIY hZ
  have mk := fun W => makeW_run n (by omega) W
  go_enter Try.func38, Try.ntmps38
  go_wp2_with fail
  go_loopw [15] (fun t wr => ∃ (i : Nat) (M : List Int), t = .int .i64 i ∧ i ≤ n ∧ Hid (∀ j, j < i → fits2 (X.getD j 0 + Y.getD j 0) = true) ∧ Hid (∀ j, j < i → M.getD j 0 = X.getD j 0 + Y.getD j 0) ∧ Hid (SG cW wr (some ⟨w.heap.size, 0, none⟩) n M) ∧ w.heap.size < wr.heap.size ∧ Hid (Up w wr)) (fun t _ => n - (intOf t).toNat)
  case atStart => exact ⟨0, _, rfl, Nat.zero_le _, Lib.hid (fun j hj => absurd hj (Nat.not_lt_zero _)), Lib.hid (fun j hj => absurd hj (Nat.not_lt_zero _)), Lib.hid (madeW_row w n), by simp, Lib.hid ((Up.refl w).alloc _ _)⟩
  case round =>
    obtain ⟨i, M, rfl, hin, HG, HM, HO, hwr, HW⟩ := hrel
    by_cases hi : i < n
    case neg =>
      obtain rfl : i = n := by omega
      have f1 : decide ((i : Int) < i) = false := decide_eq_false (by omega)
      obtain rfl : r = true := HT.out HG.out
      clear HB HT HG
      go_wp2_with fail
      refine bodyPost_ret (v := .tuple #[.slice (some ⟨w.heap.size, 0, none⟩) i i, .bool true]) (by simp [results, Try.results38, go_sem]) rfl (PlR.yes rfl (⟨Nat.le_refl _, fun b o e => by injection e with e; injection e with e; omega⟩) (by rw [HZ.out]; exact (byL_eq HO.out.1 HM.out ▸ HO.out)) HW.out)
    obtain ⟨a, oa, rfl, x0, x1⟩ := wide_at (HX.out.up HW.out) hi
    obtain ⟨b, ob, rfl, y0, y1⟩ := wide_at (HY.out.up HW.out) hi
    have ha : a < wr.heap.size := World.block_lt_of_cell? _ _ x0
    have hb : b < wr.heap.size := World.block_lt_of_cell? _ _ y0
    have KA := Lib.hid (fun W => wadd_v (X.getD i 0) (Y.getD i 0) (getD_in HIX.out i) (getD_in HIY.out i) W)
    have HX2 : Hid (fits2 (X.getD i 0 + Y.getD i 0) = false → r = false) := Lib.hid (HB.out i hi)
    have HA : Hid (fits2 (X.getD i 0 + Y.getD i 0) = true → (∀ j, j < i + 1 → fits2 (X.getD j 0 + Y.getD j 0) = true) ∧ fit2 (X.getD i 0 + Y.getD i 0) = X.getD i 0 + Y.getD i 0) := Lib.hid (fun h => ⟨fun j hj => by
      rcases Nat.lt_or_ge j i with y | y
      · exact HG.out j y
      · obtain rfl : j = i := by omega
        exact h, fit2_yes (fits2_in h)⟩)
    obtain ⟨V, hV⟩ : ∃ z, z = fit2 (X.getD i 0 + Y.getD i 0) := ⟨_, rfl⟩
    rw [← hV] at HA KA
    have HV := Lib.hid hV
    generalize fits2 (X.getD i 0 + Y.getD i 0) = fo at *
    have g2 : (i : Int) < n := by omega
    have g3 : (0 : Int) ≤ i := by omega
    clear HB HT HG hV
    obtain ⟨b2, o2, e2, r0, r1⟩ := wide_at HO.out hi
    injection e2 with e2
    injection e2 with e2 e3
    subst e2 e3
    simp only [Nat.zero_add] at r0 r1
    obtain ⟨x, hx⟩ : ∃ z, z = X.getD i 0 := ⟨_, rfl⟩
    obtain ⟨y, hy⟩ : ∃ z, z = Y.getD i 0 := ⟨_, rfl⟩
    rw [← hx] at x0 x1 KA
    rw [← hy] at y0 y1 KA
    have Hx := Lib.hid hx
    have Hy := Lib.hid hy
    clear hx hy
    go_upto_region 5 with fail
    refine (show ∀ ws : World, ws = _ → Code.wp _ _ _ _ ws from fun ws hws => ?_) _ rfl
    obtain ⟨Us, Es⟩ := hold2 wr a b (Up.of_eq hws)
    clear hws
    go_cut [8, 9] (fun s t wx => ∃ g : Nat, s = .pointer (some ⟨g, 0, none⟩) ∧ t = .bool fo ∧ ws.heap.size ≤ g ∧ wx.cell? ⟨g, 0, none⟩ = some (.int .u64 (hiZ V)) ∧ wx.cell? ⟨g, 1, none⟩ = some (.int .u64 (loZ V)) ∧ Hid (Up ws wx))
    case first =>
      go_region_held3 (KB2 a b ws ws) (first | (with_reducible exact KB2.start (Lib.hid (Up.refl ws))) | (with_reducible exact KB2.next (by assumption) (by assumption)) | (repeat (first | (with_reducible assumption) | (with_reducible exact Hid.out (by assumption)) | (with_reducible exact KB2.base (Lib.hid (Up.refl ws))) | (with_reducible exact KB2.start (Lib.hid (Up.refl ws))) | (with_reducible refine KB2.next ((Up.refl _).alloc _ _) ?_) | (with_reducible refine KB2.next (Up.refl _).drew ?_) | (with_reducible refine KB2.set ?_ (by first | omega | (simp; done) | (simp; omega)) (by first | omega | (simp; done) | (simp; omega)) (by first | omega | (simp; done) | (simp; omega)))))) (first
        | (go_at_call 55; (with_reducible refine (KA.out _).mono ?_); rintro e w1 ⟨rfl, hu1⟩; have HS1 := Lib.hid (KB2.next hu1 (by assumption)); have hc1 := hu1.cells.1; have hz1 := hu1.cells.2; have hs1 := hu1.size; (try simp at hs1); (try (have hg0_1 : ws.heap.size < w1.heap.size := by omega))))
      all_goals
        go_wp2_with fail
        go_meet
        refine ⟨_, rfl, rfl, ?_, ?_, ?_, Lib.hid (KB2.to (by assumption))⟩
        · first | omega | (simp; done) | (simp; omega)
        all_goals (first | (simp [go_sem, *]; done) | (simp [go_sem]; done))
    obtain ⟨q, rfl, rfl, hq, q0, q1, HQ⟩ := hcut
    have hqc : q < wc.heap.size := World.block_lt_of_cell? _ _ q0
    have HC := Lib.hid (Us.out.trans HQ.out)
    clear HQ Us Es x0 x1 y0 y1
    cases fo
    case false =>
      obtain rfl : r = false := HX2.out rfl
      go_wp2_with fail
      refine bodyPost_ret (v := .tuple #[.slice none 0 0, .bool false]) (by simp [results, Try.results38, go_sem]) rfl (PlR.no rfl (HW.out.trans HC.out))
    obtain ⟨hG, hVV⟩ := HA.out rfl
    have HG2 := Lib.hid hG
    have HVV := Lib.hid hVV
    clear hG hVV HA HX2
    have r0' := HC.out.keep _ _ _ r0
    have r1' := HC.out.keep _ _ _ r1
    have hz := fun o => (HW.out.trans HC.out).ownGe (Nat.le_refl w.heap.size) o
    have hl : w.heap.size < wc.heap.size := World.block_lt_of_cell? _ _ r0'
    have HO2 := Lib.hid ((HO.out.up HC.out).setW (x := V) hi)
    have HU2 := Lib.hid (HW.out.trans HC.out)
    have HM2 : Hid (∀ j, j < i + 1 → (M.set i V).getD j 0 = X.getD j 0 + Y.getD j 0) := Lib.hid (fun j hj => by
      rw [getD_setI M i j V (by rw [HO.out.1]; exact hi)]
      by_cases e : i = j
      · subst e; rw [if_pos rfl]; exact HVV.out
      · rw [if_neg e]; exact HM.out j (by omega))
    clear HC r0 r1 HM
    go_wp2_with fail
    go_roundw
    case rel => exact ⟨i + 1, M.set i V, by go_num, by omega, HG2, HM2, Lib.hid (by simpa using HO2.out), by simp; omega, Lib.hid ((HU2.out.setCell (Nat.le_refl _) _).setCell (Nat.le_refl _) _)⟩
    case measure => simp [intOf]; omega
end Go.Proofs.Ytinjainclhfahaa
