/- rebased of package poly. -/
import Derived.Test.YtinjainclhfahaaRows
import Derived.Test.YtinjainclhfahaaZPOldq109
namespace Go.Proofs.Ytinjainclhfahaa
open Go.RowKit
set_option linter.unusedVariables false

theorem reS_take {d : Int} {X : List Int} {j : Nat} : ∀ {m n : Nat}, n ≤ m → reS d (X.take m) j n = reS d X j n := by
  intro m n
  induction n with
  | zero => intro _; rfl
  | succ n ih =>
    intro h
    have e : (X.take m).getD n 0 = X.getD n 0 := by simp only [List.getD, List.getElem?_take]; rw [if_pos (by omega)]
    show reS d (X.take m) j n + d ^ (j - n) * chZ j n * (X.take m).getD n 0 = _
    rw [ih (by omega), e]; rfl
set_option maxHeartbeats 4000000 in
set_option maxRecDepth 100000 in
theorem rebased_up (p l c t d : Int) (n k : Nat) (A : Option Addr) (X : List Int) (hk : n ≤ k) (hn : n ≤ 5) (ht0 : 0 ≤ t) (ht1 : t ≤ l) (hl : l ≤ 16777216) (hd : d = l - t) (hIX : ∀ x ∈ X, In2 x) (w : World) (hX : SG cW w A n X) :
    Calls Try.prog 50 #[.agg #[.int .i64 p, .int .i64 l, .int .i64 c, .slice A n k], .int .i64 t] w fun e w' => PlR (fitL (reP d X)) n (reP d X) w e w' := by
  have HX := Lib.hid hX
  have HIX := Lib.hid hIX
  have hZ : reP d X = byL n (fun j => reS d X j (j + 1)) := by unfold reP; rw [hX.1]
  have HZ := Lib.hid hZ
  have HB : Hid (∀ j, j < n → fits2 (reS d X j (j + 1)) = false → fitL (reP d X) = false) := Lib.hid (fun j hj h => by rw [hZ]; exact fitL_no hj (fun q => by rw [fits2_yes q] at h; cases h))
  have HT : Hid ((∀ j, j < n → fits2 (reS d X j (j + 1)) = true) → fitL (reP d X) = true) := Lib.hid (fun h => by rw [hZ]; exact fitL_by.2 (fun j hj => fits2_in (h j hj)))
  generalize fitL (reP d X) = r at HB HT ⊢
  generalize reP d X = Z at HZ ⊢
  have k1 : IntKind.i64.wrap (l - t) = d := by rw [hd]; exact IntWalk.i64_in _ (by omega)
  have k2 : IntKind.u64.wrap d = d := by rw [IntKind.wrap_u64]; omega
  have KD : Hid (∀ i, i < n → ∀ W, Up w W → Calls Try.prog 60 #[.slice A (i + 1) k, .int .u64 d] W fun e w' => e = .returned (.tuple #[.agg #[.int .u64 (hiZ (fit2 (reS d X i (i + 1)))), .int .u64 (loZ (fit2 (reS d X i (i + 1))))], .bool (fits2 (reS d X i (i + 1)))]) ∧ Up W w') := Lib.hid (fun i hi W hu => by
    have h := older_up d i k A (X.take (i + 1)) (by omega) (by omega) (by omega) (fun x hx => hIX x (List.mem_of_mem_take hx)) W ((hX.up hu).first cW_len (show i + 1 ≤ n by omega))
    rw [reS_take (Nat.le_refl _)] at h
    exact h)
  have mk := fun W => makeW_run n (by omega) W
  clear hX hIX hZ ht0 ht1 hl hd
  go_enter Try.func50, Try.ntmps50
  go_wp2_with fail
  go_loopw [16] (fun t wr => ∃ (i : Nat) (M : List Int), t = .int .i64 i ∧ i ≤ n ∧ Hid (∀ j, j < i → fits2 (reS d X j (j + 1)) = true) ∧ Hid (∀ j, j < i → M.getD j 0 = reS d X j (j + 1)) ∧ Hid (SG cW wr (some ⟨w.heap.size + 1, 0, none⟩) n M) ∧ Hid (Up (w.alloc (.cells #[.int .i64 p, .int .i64 l, .int .i64 c, .slice A n k] 24)) wr)) (fun t _ => n - (intOf t).toNat)
  case atStart => exact ⟨0, _, rfl, Nat.zero_le _, Lib.hid (fun j hj => absurd hj (Nat.not_lt_zero _)), Lib.hid (fun j hj => absurd hj (Nat.not_lt_zero _)), Lib.hid (by have := fun c => madeW_row (w.alloc c) n; simp only [size_alloc] at this; exact this _), Lib.hid ((Up.refl _).alloc _ _)⟩
  case round =>
    obtain ⟨i, M, rfl, hin, HG, HM, HO, HW1⟩ := hrel
    obtain ⟨HW, Er⟩ := call1 w HW1.out
    by_cases hi : i < n
    case neg =>
      obtain rfl : i = n := by omega
      have f1 : decide ((i : Int) < i) = false := decide_eq_false (by omega)
      obtain rfl : r = true := HT.out HG.out
      clear HB HT HG KD
      go_wp2_with fail
      refine bodyPost_ret (v := .tuple #[.slice (some ⟨w.heap.size + 1, 0, none⟩) i i, .bool true]) (by simp [results, Try.results50, go_sem]) rfl (PlR.yes rfl ⟨Nat.le_refl _, fun b o e => by injection e with e; injection e with e; omega⟩ (by rw [HZ.out]; exact (byL_eq HO.out.1 HM.out ▸ HO.out)) HW.out)
    have KA := Lib.hid (KD.out i hi)
    have HX2 : Hid (fits2 (reS d X i (i + 1)) = false → r = false) := Lib.hid (HB.out i hi)
    have HA : Hid (fits2 (reS d X i (i + 1)) = true → (∀ j, j < i + 1 → fits2 (reS d X j (j + 1)) = true) ∧ fit2 (reS d X i (i + 1)) = reS d X i (i + 1)) := Lib.hid (fun h => ⟨fun j hj => by
      rcases Nat.lt_or_ge j i with y | y
      · exact HG.out j y
      · obtain rfl : j = i := by omega
        exact h, fit2_yes (fits2_in h)⟩)
    obtain ⟨V, hV⟩ : ∃ z, z = fit2 (reS d X i (i + 1)) := ⟨_, rfl⟩
    rw [← hV] at HA KA
    generalize fits2 (reS d X i (i + 1)) = fo at *
    have g2 : (i : Int) < n := by omega
    have g3 : (0 : Int) ≤ i := by omega
    clear HB HT HG hV KD
    obtain ⟨b2, o2, e2, r0, r1⟩ := wide_at HO.out hi
    injection e2 with e2
    injection e2 with e2 e3
    subst e2 e3
    simp only [Nat.zero_add] at r0 r1
    have hlr : w.heap.size + 1 < wr.heap.size := World.block_lt_of_cell? _ _ r0
    obtain ⟨ab, ao, rfl, _⟩ := wide_at (HX.out.up HW.out) hi
    obtain ⟨N, hN⟩ : ∃ z, z = i + 1 := ⟨_, rfl⟩
    rw [← hN] at KA
    have HN := Lib.hid hN
    have kN : IntKind.i64.wrap ((i : Int) + 1) = N := by rw [IntKind.wrap_i64]; omega
    have hNk : N ≤ k := by omega
    clear hN
    go_upto_region 5 with fail
    refine (show ∀ ws : World, ws = _ → Code.wp _ _ _ _ ws from fun ws hws => ?_) _ rfl
    obtain ⟨Us, Es⟩ := hold2 wr w.heap.size (w.heap.size + 1) (Up.of_eq hws)
    clear hws
    go_cut [8, 9] (fun s t wx => ∃ g : Nat, s = .pointer (some ⟨g, 0, none⟩) ∧ t = .bool fo ∧ ws.heap.size ≤ g ∧ wx.cell? ⟨g, 0, none⟩ = some (.int .u64 (hiZ V)) ∧ wx.cell? ⟨g, 1, none⟩ = some (.int .u64 (loZ V)) ∧ Hid (Up ws wx))
    case first =>
      go_region_held3 (KB1 w.heap.size ws ws) (first | (with_reducible exact KB1.start (Lib.hid (Up.refl ws))) | (with_reducible exact KB1.next (by assumption) (by assumption)) | (repeat (first | (with_reducible assumption) | (with_reducible exact Hid.out (by assumption)) | (with_reducible exact KB1.base (Lib.hid (Up.refl ws))) | (with_reducible exact KB1.start (Lib.hid (Up.refl ws))) | (with_reducible refine KB1.next ((Up.refl _).alloc _ _) ?_) | (with_reducible refine KB1.next (Up.refl _).drew ?_) | (with_reducible refine KB1.set ?_ (by first | omega | (simp; done) | (simp; omega)) (by first | omega | (simp; done) | (simp; omega)))))) (first
        | (go_at_call 60; (with_reducible refine (KA.out _ (HW.out.trans (Us.out.trans (KB1.to (by assumption))))).mono ?_); rintro e w1 ⟨rfl, hu1⟩; have HS1 := Lib.hid (KB1.next hu1 (by assumption)); have hc1 := hu1.cells.1; have hz1 := hu1.cells.2; have hs1 := hu1.size; (try simp at hs1); (try (have hg0_1 : ws.heap.size < w1.heap.size := by omega))))
      all_goals
        go_wp2_with fail
        go_meet
        refine ⟨_, rfl, rfl, ?_, ?_, ?_, Lib.hid (KB1.to (by assumption))⟩
        · first | omega | (simp; done) | (simp; omega)
        all_goals (first | (simp [go_sem, *]; done) | (simp [go_sem]; done))
    obtain ⟨q, rfl, rfl, hq, q0, q1, HQ⟩ := hcut
    have hqc : q < wc.heap.size := World.block_lt_of_cell? _ _ q0
    have HC := Lib.hid (Us.out.trans HQ.out)
    have r0' := HC.out.keep _ _ _ r0
    have r1' := HC.out.keep _ _ _ r1
    clear HQ Us Es
    cases fo
    case false =>
      obtain rfl : r = false := HX2.out rfl
      go_wp2_with fail
      refine bodyPost_ret (v := .tuple #[.slice none 0 0, .bool false]) (by simp [results, Try.results50, go_sem]) rfl (PlR.no rfl (HW.out.trans HC.out))
    obtain ⟨hG, hVV⟩ := HA.out rfl
    have HG2 := Lib.hid hG
    have HVV := Lib.hid hVV
    clear hG hVV HA HX2
    have hz := fun o => (HW.out.trans HC.out).ownGe (Nat.le_succ w.heap.size) o
    have hl : w.heap.size + 1 < wc.heap.size := World.block_lt_of_cell? _ _ r0'
    have HO2 := Lib.hid ((HO.out.up HC.out).setW (x := V) hi)
    have HU2 := Lib.hid (HW1.out.trans HC.out)
    have HM2 : Hid (∀ j, j < i + 1 → (M.set i V).getD j 0 = reS d X j (j + 1)) := Lib.hid (fun j hj => by
      rw [getD_setI M i j V (by rw [HO.out.1]; exact hi)]
      by_cases e : i = j
      · subst e; rw [if_pos rfl]; exact HVV.out
      · rw [if_neg e]; exact HM.out j (by omega))
    clear HC r0 r1 HM
    go_wp2_with fail
    go_roundw
    case rel => exact ⟨i + 1, M.set i V, by rw [HN.out], by omega, HG2, HM2, Lib.hid (by simpa using HO2.out), Lib.hid ((HU2.out.setCell (by simp) _).setCell (by simp) _)⟩
    case measure => have := HN.out; simp [intOf]; omega
end Go.Proofs.Ytinjainclhfahaa
