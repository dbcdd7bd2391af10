/- plus of package poly and of its reference. -/
import Derived.Test.YtinjainclhfahaaRows
import Derived.Test.YtinjainclhfahaaZPRowq105
import Derived.Test.YtinjainclhfahaaZPWvq103
namespace Go.Proofs.Ytinjainclhfahaa
open Go.RowKit
set_option linter.unusedVariables false

set_option maxHeartbeats 4000000 in
set_option maxRecDepth 100000 in
theorem rplus15_up (n k j : Nat) (A B : Option Addr) (X Y : List Int) (hn : n ≤ 5000) (hIX : ∀ x ∈ X, In2 x) (hIY : ∀ x ∈ Y, In2 x) (w : World) (hX : SG cW w A n X) (hY : SG cW w B n Y) :
    Calls Try.prog 46 #[.slice A n k, .slice B n j] w fun e w' => PlR (fitL (plP X Y)) n (plP X Y) w e w' := by
  have HX := Lib.hid hX
  have HY := Lib.hid hY
  have HIX := Lib.hid hIX
  have HIY := Lib.hid hIY
  have hZ : plP X Y = byL n (fun j => X.getD j 0 + Y.getD j 0) := by unfold plP; rw [hX.1]
  have HZ := Lib.hid hZ
  have HB : Hid (∀ j, j < n → fits2 (X.getD j 0 + Y.getD j 0) = false → fitL (plP X Y) = false) := Lib.hid (fun j hj h => by rw [hZ]; exact fitL_no hj (fun q => by rw [fits2_yes q] at h; cases h))
  have HT : Hid ((∀ j, j < n → fits2 (X.getD j 0 + Y.getD j 0) = true) → fitL (plP X Y) = true) := Lib.hid (fun h => by rw [hZ]; exact fitL_by.2 (fun j hj => fits2_in (h j hj)))
  generalize fitL (plP X Y) = r at HB HT ⊢
  generalize plP X Y = Z at HZ ⊢
  clear hX hY hIX hIY hZ
  go_enter Try.func46, Try.ntmps46
  go_wp2_with fail
  go_loopw [6, 12] (fun s t wr => ∃ (i : Nat) (A1 : Option Addr) (k1 : Nat), s = .slice A1 i k1 ∧ t = .int .i64 i ∧ i ≤ n ∧ Hid (∀ j, j < i → fits2 (X.getD j 0 + Y.getD j 0) = true) ∧ Hid (OwW w wr (.slice A1 i k1) i (byL i (fun j => X.getD j 0 + Y.getD j 0))) ∧ Hid (Up w wr)) (fun _ t _ => n - (intOf t).toNat)
  case atStart => exact ⟨0, none, 0, rfl, rfl, Nat.zero_le _, Lib.hid (fun j hj => absurd hj (Nat.not_lt_zero _)), Lib.hid (OG.nil _ _ _), Lib.hid (Up.refl _)⟩
  case round =>
    obtain ⟨i, A1, k1, rfl, rfl, hin, HG, HO, HW⟩ := hrel
    by_cases hi : i < n
    case neg =>
      obtain rfl : i = n := by omega
      have f1 : decide ((i : Int) < i) = false := decide_eq_false (by omega)
      obtain rfl : r = true := HT.out HG.out
      clear HB HT HG
      go_wp2_with fail
      refine bodyPost_ret (v := .tuple #[.slice A1 i k1, .bool true]) (by simp [results, Try.results46, go_sem]) rfl (PlR.yes rfl (⟨HO.out.sg.1, HO.out.nw⟩) (by rw [HZ.out]; exact HO.out.sg.2) HW.out)
    obtain ⟨a, oa, rfl, x0, x1⟩ := wide_at (HX.out.up HW.out) hi
    obtain ⟨b, ob, rfl, y0, y1⟩ := wide_at (HY.out.up HW.out) hi
    have ha : a < wr.heap.size := World.block_lt_of_cell? _ _ x0
    have hb : b < wr.heap.size := World.block_lt_of_cell? _ _ y0
    have KA := Lib.hid (fun W => rwadd_v (X.getD i 0) (Y.getD i 0) (getD_in HIX.out i) (getD_in HIY.out i) W)
    have HX2 : Hid (fits2 (X.getD i 0 + Y.getD i 0) = false → r = false) := Lib.hid (HB.out i hi)
    have HA : Hid (fits2 (X.getD i 0 + Y.getD i 0) = true → (∀ j, j < i + 1 → fits2 (X.getD j 0 + Y.getD j 0) = true) ∧ fit2 (X.getD i 0 + Y.getD i 0) = X.getD i 0 + Y.getD i 0) := Lib.hid (fun h => ⟨fun j hj => by
      rcases Nat.lt_or_ge j i with y | y
      · exact HG.out j y
      · obtain rfl : j = i := by omega
        exact h, fit2_yes (fits2_in h)⟩)
    obtain ⟨V, hV⟩ : ∃ z, z = fit2 (X.getD i 0 + Y.getD i 0) := ⟨_, rfl⟩
    rw [← hV] at HA KA
    have HV := Lib.hid hV
    generalize fits2 (X.getD i 0 + Y.getD i 0) = fo at *
    have g2 : (i : Int) < n := by omega
    have g3 : (0 : Int) ≤ i := by omega
    clear HB HT HG hV
    obtain ⟨x, hx⟩ : ∃ z, z = X.getD i 0 := ⟨_, rfl⟩
    obtain ⟨y, hy⟩ : ∃ z, z = Y.getD i 0 := ⟨_, rfl⟩
    rw [← hx] at x0 x1 KA
    rw [← hy] at y0 y1 KA
    have Hx := Lib.hid hx
    have Hy := Lib.hid hy
    clear hx hy
    go_upto_region 5 with fail
    refine (show ∀ ws : World, ws = _ → Code.wp _ _ _ _ ws from fun ws hws => ?_) _ rfl
    obtain ⟨Us, Es⟩ := hold2 wr a b (Up.of_eq hws)
    clear hws
    go_cut [8, 9] (fun s t wx => ∃ g : Nat, s = .pointer (some ⟨g, 0, none⟩) ∧ t = .bool fo ∧ ws.heap.size ≤ g ∧ wx.cell? ⟨g, 0, none⟩ = some (.int .u64 (hiZ V)) ∧ wx.cell? ⟨g, 1, none⟩ = some (.int .u64 (loZ V)) ∧ Hid (Up ws wx))
    case first =>
      go_region_held3 (KB2 a b ws ws) (first | (with_reducible exact KB2.start (Lib.hid (Up.refl ws))) | (with_reducible exact KB2.next (by assumption) (by assumption)) | (repeat (first | (with_reducible assumption) | (with_reducible exact Hid.out (by assumption)) | (with_reducible exact KB2.base (Lib.hid (Up.refl ws))) | (with_reducible exact KB2.start (Lib.hid (Up.refl ws))) | (with_reducible refine KB2.next ((Up.refl _).alloc _ _) ?_) | (with_reducible refine KB2.next (Up.refl _).drew ?_) | (with_reducible refine KB2.set ?_ (by first | omega | (simp; done) | (simp; omega)) (by first | omega | (simp; done) | (simp; omega)) (by first | omega | (simp; done) | (simp; omega)))))) (first
        | (go_at_call 52; (with_reducible refine (KA.out _).mono ?_); rintro e w1 ⟨rfl, hu1⟩; have HS1 := Lib.hid (KB2.next hu1 (by assumption)); have hc1 := hu1.cells.1; have hz1 := hu1.cells.2; have hs1 := hu1.size; (try simp at hs1); (try (have hg0_1 : ws.heap.size < w1.heap.size := by omega))))
      all_goals
        go_wp2_with fail
        go_meet
        refine ⟨_, rfl, rfl, ?_, ?_, ?_, Lib.hid (KB2.to (by assumption))⟩
        · first | omega | (simp; done) | (simp; omega)
        all_goals (first | (simp [go_sem, *]; done) | (simp [go_sem]; done))
    obtain ⟨q, rfl, rfl, hq, q0, q1, HQ⟩ := hcut
    have hqc : q < wc.heap.size := World.block_lt_of_cell? _ _ q0
    have HC := Lib.hid (Us.out.trans HQ.out)
    clear HQ Us Es x0 x1 y0 y1
    cases fo
    case false =>
      obtain rfl : r = false := HX2.out rfl
      go_wp2_with fail
      refine bodyPost_ret (v := .tuple #[.slice none 0 0, .bool false]) (by simp [results, Try.results46, go_sem]) rfl (PlR.no rfl (HW.out.trans HC.out))
    obtain ⟨hG, hVV⟩ := HA.out rfl
    have HG2 := Lib.hid hG
    have HVV := Lib.hid hVV
    clear hG hVV HA HX2
    obtain ⟨A2, k2, w2, hr, hO2, hU2⟩ := append1W w wc A1 i k1 _ V (HO.out.of_up HC.out) (HW.out.trans HC.out) (by omega)
    have HO2 := Lib.hid hO2
    have HU2 := Lib.hid hU2
    clear hO2 hU2
    go_wp2_with (refine wpList_append_run (o := ⟨some 32, _, _, _, _, _⟩) rfl (.tmp 29) (.tmp 31) _ rfl _ _ rfl rfl _ _ hr ?_)
    go_roundw
    case rel => exact ⟨i + 1, A2, k2, rfl, by go_num, by omega, HG2, Lib.hid (by rw [byL_push, ← HVV.out]; exact HO2.out), HU2⟩
    case measure => simp [intOf]; omega
end Go.Proofs.Ytinjainclhfahaa
