/- What Validate of the reference of layer 15 returns. -/
import Derived.Test.YtinjainclhfahaaRows
import Derived.Test.YtinjainclhfahaaZPValq104
import Derived.Test.YtinjainclhfahaaZPWvq103
namespace Go.Proofs.Ytinjainclhfahaa
open Go.RowKit
set_option linter.unusedVariables false

set_option maxHeartbeats 4000000 in
set_option maxRecDepth 100000 in
theorem rvalidate15_up (p l c : Int) (n k : Nat) (A : Option Addr) (X : List Int) (hn : n ≤ 50000) (hI : ∀ x ∈ X, In2 x) (w : World) (hS : SG cW w A n X) :
    Calls Try.prog 21 #[.agg #[.int .i64 p, .int .i64 l, .int .i64 c, .slice A n k]] w fun e w' => e = .returned (.int .i64 (stQE p l c X)) ∧ Up w w' := by
  have KT := Lib.hid (rtick_any c)
  unfold stQE stP okP
  by_cases hp : 0 ≤ p ∧ p ≤ 4
  case neg =>
    rw [show decide ((0 ≤ p ∧ p ≤ 4) ∧ (0 ≤ c ∧ c ≤ 16777216) ∧ (0 ≤ l ∧ l ≤ c)) = false from decide_eq_false (fun h => hp h.1), Bool.false_and, if_neg (by decide)]
    rcases (show p < 0 ∨ (0 ≤ p ∧ 4 < p) by omega) with h | ⟨h, h2⟩
    all_goals
      clear hp hS hI KT
      go_enter Try.func21, Try.ntmps21
      go_wp2_with fail
      go_ret
      exact ⟨rfl, (Up.refl w).alloc _ _⟩
  have f1 : decide (p < 0) = false := decide_eq_false (by omega)
  have f2 : decide (4 < p) = false := decide_eq_false (by omega)
  by_cases hc : 0 ≤ c ∧ c ≤ 16777216
  case neg =>
    rw [show decide ((0 ≤ p ∧ p ≤ 4) ∧ (0 ≤ c ∧ c ≤ 16777216) ∧ (0 ≤ l ∧ l ≤ c)) = false from decide_eq_false (fun h => hc h.2.1), Bool.false_and, if_neg (by decide)]
    rw [show tickB c = false from decide_eq_false hc] at KT
    clear hp hc hS hI
    go_enter Try.func21, Try.ntmps21
    go_wp2_with (go_at_call 33; (with_reducible refine (KT.out _).mono ?_); rintro e w' ⟨rfl, rfl⟩)
    go_ret
    exact ⟨rfl, (Up.refl w).alloc _ _⟩
  rw [show tickB c = true from decide_eq_true hc] at KT
  by_cases hl : 0 ≤ l ∧ l ≤ c
  case neg =>
    rw [show decide ((0 ≤ p ∧ p ≤ 4) ∧ (0 ≤ c ∧ c ≤ 16777216) ∧ (0 ≤ l ∧ l ≤ c)) = false from decide_eq_false (fun h => hl h.2.2), Bool.false_and, if_neg (by decide)]
    rcases (show l < 0 ∨ (0 ≤ l ∧ c < l) by omega) with h | ⟨h, h2⟩
    all_goals
      clear hp hc hl hS hI
      go_enter Try.func21, Try.ntmps21
      go_wp2_with (go_at_call 33; (with_reducible refine (KT.out _).mono ?_); rintro e w' ⟨rfl, rfl⟩)
      go_ret
      exact ⟨rfl, (Up.refl w).alloc _ _⟩
  rw [show decide ((0 ≤ p ∧ p ≤ 4) ∧ (0 ≤ c ∧ c ≤ 16777216) ∧ (0 ≤ l ∧ l ≤ c)) = true from decide_eq_true ⟨hp, hc, hl⟩, Bool.true_and]
  obtain ⟨hl0, hl1⟩ := hl
  have t1 : decide (l < 0) = false := decide_eq_false (by omega)
  have t2 : decide (c < l) = false := decide_eq_false (by omega)
  have kw : IntKind.i64.wrap (p + 1) = p + 1 := IntWalk.i64_in _ (by omega)
  have hX := hS.1
  by_cases hn1 : (n : Int) = p + 1
  case neg =>
    rw [decide_eq_false (show ¬ (X.length : Int) = p + 1 by rw [hX]; exact hn1), Bool.false_and, if_neg (by decide)]
    have t3 : ((n : Int) != p + 1) = true := by simp [hn1]
    clear hp hc hS hI hl0 hl1 hX hn1
    go_enter Try.func21, Try.ntmps21
    go_wp2_with (go_at_call 33; (with_reducible refine (KT.out _).mono ?_); rintro e w' ⟨rfl, rfl⟩)
    go_ret
    exact ⟨rfl, (Up.refl w).alloc _ _⟩
  rw [decide_eq_true (show (X.length : Int) = p + 1 by rw [hX]; exact hn1), Bool.true_and]
  have t3 : ((n : Int) != p + 1) = false := by simp [hn1]
  have HL := Lib.hid hX
  have HS := Lib.hid hS
  have HI := Lib.hid hI
  obtain ⟨gg, hgg⟩ : ∃ z, z = c - l + 1 := ⟨_, rfl⟩
  have HWg : Hid (Word gg) := Lib.hid ⟨by omega, by omega⟩
  have k1 : IntKind.i64.wrap (c - l) = c - l := IntWalk.i64_in _ (by omega)
  have k2 : IntKind.i64.wrap (c - l + 1) = gg := by rw [hgg]; exact IntWalk.i64_in _ (by omega)
  have k3 : IntKind.u64.wrap gg = gg := by rw [IntKind.wrap_u64]; have := HWg.out.1; have := HWg.out.2; omega
  rw [← hgg]
  have HB := Lib.hid (fun j (hj : j + 1 < X.length) (h : prB gg (X.getD j 0) (X.getD (j + 1) 0) = false) => show (if ngB gg X = true then (0 : Int) else 2) = 2 by rw [ngB_bad hj h]; rfl)
  have HT := Lib.hid (fun (h : ∀ j, j + 1 < X.length → prB gg (X.getD j 0) (X.getD (j + 1) 0) = true) => show (if ngB gg X = true then (0 : Int) else 2) = 0 by rw [ngB_good h]; rfl)
  have KO := Lib.hid (fun W => rwof_v gg HWg.out W)
  have HG := Lib.hid (word_in HWg.out)
  have hn2 : 1 ≤ n := by omega
  have hn3 : n ≤ 5 := by omega
  have hpn : p = (n : Int) - 1 := by omega
  subst hpn
  generalize (if ngB gg X = true then (0 : Int) else 2) = r at HB HT ⊢
  clear hS hI hp hc hl0 hl1 hX hn1 hgg
  go_enter Try.func21, Try.ntmps21
  go_wp2_with (go_at_call 33; (with_reducible refine (KT.out _).mono ?_); rintro e w' ⟨rfl, rfl⟩)
  go_loopw [3] (fun t wr => ∃ i : Nat, t = .int .i64 ((i : Int) + 1) ∧ i + 1 ≤ n ∧ Hid (∀ j, j < i → prB gg (X.getD j 0) (X.getD (j + 1) 0) = true) ∧ Hid (Up (w.alloc (.cells #[.int .i64 ((n : Int) - 1), .int .i64 l, .int .i64 c, .slice A n k] 24)) wr)) (fun t _ => n + 1 - (intOf t).toNat)
  case atStart => exact ⟨0, by simp, hn2, Lib.hid (fun j hj => absurd hj (Nat.not_lt_zero _)), Lib.hid (Up.refl _)⟩
  case round =>
    obtain ⟨i, rfl, hin, HP, HW⟩ := hrel
    obtain ⟨Ur, Er⟩ := call1 w HW.out
    by_cases hi : i + 1 < n
    case neg =>
      obtain rfl : r = 0 := HT.out (fun j hj => HP.out j (by have := HL.out; omega))
      have f1 : decide ((i : Int) + 1 ≤ (n : Int) - 1) = false := decide_eq_false (by omega)
      clear HT HB HP
      go_wp2_with fail
      go_ret
      exact ⟨rfl, Ur.out⟩
    obtain ⟨b, o, rfl, x0, x1⟩ := wide_at (HS.out.up Ur.out) (show i < n by omega)
    obtain ⟨b2, o2, e2, y0, y1⟩ := wide_at (HS.out.up Ur.out) hi
    injection e2 with e2
    injection e2 with e2 e3
    subst e2 e3
    have hb : b < wr.heap.size := World.block_lt_of_cell? _ _ x0
    have ia := getD_in HI.out i
    have ib := getD_in HI.out (i + 1)
    have HX : Hid (prB gg (X.getD i 0) (X.getD (i + 1) 0) = false → r = 2) := Lib.hid (HB.out i (by have := HL.out; omega))
    have HA : Hid (prB gg (X.getD i 0) (X.getD (i + 1) 0) = true → ∀ j, j < i + 1 → prB gg (X.getD j 0) (X.getD (j + 1) 0) = true) := Lib.hid (fun h j hj => by
      rcases Nat.lt_or_ge j i with y | y
      · exact HP.out j y
      · obtain rfl : j = i := by omega
        exact h)
    have PW := Lib.hid (pr_ways (g := gg) ia ib HWg.out)
    generalize X.getD i 0 = a at *
    generalize X.getD (i + 1) 0 = z at *
    have KM := Lib.hid (fun W => rwmul_v a gg ia HG.out W)
    have iM := fit2_in2 (a * gg)
    have K1 := Lib.hid (fun W => rcompare_v z a ib ia W)
    have K2 := Lib.hid (fun W => rcompare_v z (fit2 (a * gg)) ib iM W)
    have g0 : (i : Int) + 1 ≤ (n : Int) - 1 := by omega
    have g1 : (0 : Int) ≤ (i : Int) + 1 := by omega
    have g2 : (i : Int) + 1 < n := by omega
    have g3 : (0 : Int) ≤ i := by omega
    have g4 : (i : Int) < n := by omega
    have g5 : ((i : Int) + 1).toNat = i + 1 := by omega
    have g6 : (i : Int) + 1 - 1 = i := by omega
    have g7 : IntKind.i64.wrap (i : Int) = i := by rw [IntKind.wrap_i64]; omega
    clear HB HT HP iM ia ib
    generalize cmpZ z (fit2 (a * gg)) = c2 at *
    generalize prB gg a z = pr at *
    generalize fit2 (a * gg) = M at *
    generalize fits2 (a * gg) = fo at *
    generalize a * gg = ag at *
    generalize cmpZ z a = c1 at *
    go_upto_region 6 with fail
    refine (show ∀ ws : World, ws = _ → Code.wp _ _ _ _ ws from fun ws hws => ?_) _ rfl
    obtain ⟨Us, Es⟩ := hold2 wr w.heap.size b (Up.of_eq hws)
    clear hws
    go_cut [4, 5] (fun s t wx => ∃ g : Nat, s = .pointer (some ⟨g, 0, none⟩) ∧ t = .bool fo ∧ ws.heap.size ≤ g ∧ wx.cell? ⟨g, 0, none⟩ = some (.int .u64 (hiZ M)) ∧ wx.cell? ⟨g, 1, none⟩ = some (.int .u64 (loZ M)) ∧ Hid (Up ws wx))
    case first =>
      go_region_held3 (KB2 w.heap.size b ws ws) (first | (with_reducible exact KB2.start (Lib.hid (Up.refl ws))) | (with_reducible exact KB2.next (by assumption) (by assumption)) | (repeat (first | (with_reducible assumption) | (with_reducible exact Hid.out (by assumption)) | (with_reducible exact KB2.base (Lib.hid (Up.refl ws))) | (with_reducible exact KB2.start (Lib.hid (Up.refl ws))) | (with_reducible refine KB2.next ((Up.refl _).alloc _ _) ?_) | (with_reducible refine KB2.next (Up.refl _).drew ?_) | (with_reducible refine KB2.set ?_ (by first | omega | (simp; done) | (simp; omega)) (by first | omega | (simp; done) | (simp; omega)) (by first | omega | (simp; done) | (simp; omega)))))) (first
        | (go_at_call 45; (with_reducible refine (KO.out _).mono ?_); rintro e w1 ⟨rfl, hu1⟩; have HS1 := Lib.hid (KB2.next hu1 (by assumption)); have hc1 := hu1.cells.1; have hz1 := hu1.cells.2; have hs1 := hu1.size; (try simp at hs1); (try (have hg0_1 : ws.heap.size < w1.heap.size := by omega)))
        | (go_at_call 44; (with_reducible refine (KM.out _).mono ?_); rintro e w2 ⟨rfl, hu2⟩; have HS2 := Lib.hid (KB2.next hu2 (by assumption)); have hc2 := hu2.cells.1; have hz2 := hu2.cells.2; have hs2 := hu2.size; (try simp at hs2); (try (have hg0_2 : ws.heap.size < w2.heap.size := by omega)); (try (have hg1_2 : w1.heap.size < w2.heap.size := by omega))))
      all_goals
        go_wp2_with fail
        go_meet
        refine ⟨_, rfl, rfl, ?_, ?_, ?_, Lib.hid (KB2.to (by assumption))⟩
        · first | omega | (simp; done) | (simp; omega)
        all_goals (first | (simp [go_sem, *]; done) | (simp [go_sem]; done))
    obtain ⟨q, rfl, rfl, hq, q0, q1, HQ⟩ := hcut
    have hqc : q < wc.heap.size := World.block_lt_of_cell? _ _ q0
    obtain ⟨Uq, Eq⟩ := hold2 wr w.heap.size b HQ.out
    clear HQ
    rcases PW.out with ⟨f1, f2⟩ | ⟨f1, rfl, f3, f2⟩ | ⟨f1, rfl, f3, f2⟩ | ⟨f1, rfl, f2⟩
    · go_wp2_with fail
      refine wp_region_held_drew (S := KB3 w.heap.size q b wr wc) (by kernel_rfl) (KB3.start Uq) (fun hHeld => ?_)
      refine takeT 0 rfl (by assumption) ?_
      (try simp only [Act.put, stpA, stpB, stpC])
      refine takeT 1 rfl (by assumption) ?_
      (try simp only [Act.put, stpA, stpB, stpC])
      refine takeT 2 rfl (by assumption) ?_
      (try simp only [Act.put, stpA, stpB, stpC])
      refine takeT 3 rfl (by assumption) ?_
      (try simp only [Act.put, stpA, stpB, stpC])
      refine takeT 4 rfl (by assumption) ?_
      (try simp only [Act.put, stpA, stpB, stpC])
      refine takeT 5 rfl (by assumption) ?_
      (try simp only [Act.put, stpA, stpB, stpC])
      refine takeT 6 rfl (by assumption) ?_
      (try simp only [Act.put, stpA, stpB, stpC])
      refine takeT 7 rfl (by assumption) ?_
      (try simp only [Act.put, stpA, stpB, stpC])
      refine takeT 8 rfl (by assumption) ?_
      (try simp only [Act.put, stpA, stpB, stpC])
      refine takeT 9 rfl (by assumption) ?_
      (try simp only [Act.put, stpA, stpB, stpC])
      refine takeT 10 rfl (by assumption) ?_
      (try simp only [Act.put, stpA, stpB, stpC])
      refine wpAnyH_ready (rs := [11]) (by kernel_rfl) (by simp) ?_
      refine AllReadyH.cons (o := ⟨_, _, _, _, _, _⟩) rfl (fun K hK => ?_) AllReadyH.nil
      go_simp
      (go_at_call 49; (with_reducible refine (K1.out _).mono ?_); rintro e w9 ⟨rfl, hu⟩)
      (try go_wp2_with fail)
      refine hK.out _ _ (hHeld.up hu) (fun hHeld => ?_)
      clear hK K
      (try simp only [Act.put, stpA, stpB, stpC])
      refine takeT 12 rfl (by assumption) ?_
      (try simp only [Act.put, stpA, stpB, stpC])
      refine takeT 13 rfl (by assumption) ?_
      (try simp only [Act.put, stpA, stpB, stpC])
      refine takeU 14 rfl (by assumption) ?_
      (try simp only [Act.put, stpA, stpB, stpC])
      refine takeU 15 rfl (by assumption) ?_
      (try simp only [Act.put, stpA, stpB, stpC])
      refine takeU 16 rfl (by assumption) ?_
      (try simp only [Act.put, stpA, stpB, stpC])
      refine takeU 17 rfl (by assumption) ?_
      (try simp only [Act.put, stpA, stpB, stpC])
      refine takeU 18 rfl (by assumption) ?_
      (try simp only [Act.put, stpA, stpB, stpC])
      refine takeU 19 rfl (by assumption) ?_
      (try simp only [Act.put, stpA, stpB, stpC])
      refine takeU 20 rfl (by assumption) ?_
      (try simp only [Act.put, stpA, stpB, stpC])
      refine takeU 21 rfl (by assumption) ?_
      (try simp only [Act.put, stpA, stpB, stpC])
      refine takeU 22 rfl (by assumption) ?_
      (try simp only [Act.put, stpA, stpB, stpC])
      refine takeU 23 rfl (by assumption) ?_
      (try simp only [Act.put, stpA, stpB, stpC])
      refine takeU 24 rfl (by assumption) ?_
      (try simp only [Act.put, stpA, stpB, stpC])
      refine takeT 25 rfl (by assumption) ?_
      (try simp only [Act.put, stpA, stpB, stpC])
      refine wpAnyH_done (by kernel_rfl) ?_ _
      have HF := Lib.hid (KB3.to hHeld)
      clear hHeld
      go_wp2_with fail
      go_ret
      obtain rfl : r = 2 := HX.out f2
      exact ⟨rfl, Ur.out.trans HF.out⟩
    · go_wp2_with fail
      go_region_held3 (KB3 w.heap.size q b wr wc) (first | (with_reducible exact KB3.start Uq) | (with_reducible exact KB3.next (by assumption) (by assumption))) (first
    | (go_at_call 49; (with_reducible refine (K1.out _).mono ?_); rintro e w9 ⟨rfl, hu⟩)
    | (go_at_call 49; (with_reducible refine (K2.out _).mono ?_); rintro e w9 ⟨rfl, hu⟩))
      have HF := Lib.hid (KB3.to (by assumption))
      go_wp2_with fail
      go_ret
      obtain rfl : r = 2 := HX.out f2
      exact ⟨rfl, Ur.out.trans HF.out⟩
    · go_wp2_with fail
      go_region_held3 (KB3 w.heap.size q b wr wc) (first | (with_reducible exact KB3.start Uq) | (with_reducible exact KB3.next (by assumption) (by assumption))) (first
    | (go_at_call 49; (with_reducible refine (K1.out _).mono ?_); rintro e w9 ⟨rfl, hu⟩)
    | (go_at_call 49; (with_reducible refine (K2.out _).mono ?_); rintro e w9 ⟨rfl, hu⟩))
      have HF := Lib.hid (KB3.to (by assumption))
      go_wp2_with fail
      go_roundw
      case rel => exact ⟨i + 1, by go_num, by omega, Lib.hid (HA.out f2), Lib.hid (HW.out.trans HF.out)⟩
      case measure => simp [intOf]; omega
    · go_wp2_with fail
      refine wp_region_held_drew (S := KB3 w.heap.size q b wr wc) (by kernel_rfl) (KB3.start Uq) (fun hHeld => ?_)
      refine takeT 0 rfl (by assumption) ?_
      (try simp only [Act.put, stpA, stpB, stpC])
      refine takeT 1 rfl (by assumption) ?_
      (try simp only [Act.put, stpA, stpB, stpC])
      refine takeT 2 rfl (by assumption) ?_
      (try simp only [Act.put, stpA, stpB, stpC])
      refine takeT 3 rfl (by assumption) ?_
      (try simp only [Act.put, stpA, stpB, stpC])
      refine takeT 4 rfl (by assumption) ?_
      (try simp only [Act.put, stpA, stpB, stpC])
      refine takeT 5 rfl (by assumption) ?_
      (try simp only [Act.put, stpA, stpB, stpC])
      refine takeT 6 rfl (by assumption) ?_
      (try simp only [Act.put, stpA, stpB, stpC])
      refine takeT 7 rfl (by assumption) ?_
      (try simp only [Act.put, stpA, stpB, stpC])
      refine takeT 8 rfl (by assumption) ?_
      (try simp only [Act.put, stpA, stpB, stpC])
      refine takeT 9 rfl (by assumption) ?_
      (try simp only [Act.put, stpA, stpB, stpC])
      refine takeT 10 rfl (by assumption) ?_
      (try simp only [Act.put, stpA, stpB, stpC])
      refine wpAnyH_ready (rs := [11]) (by kernel_rfl) (by simp) ?_
      refine AllReadyH.cons (o := ⟨_, _, _, _, _, _⟩) rfl (fun K hK => ?_) AllReadyH.nil
      go_simp
      (go_at_call 49; (with_reducible refine (K1.out _).mono ?_); rintro e w9 ⟨rfl, hu⟩)
      (try go_wp2_with fail)
      refine hK.out _ _ (hHeld.up hu) (fun hHeld => ?_)
      clear hK K
      (try simp only [Act.put, stpA, stpB, stpC])
      refine takeT 12 rfl (by assumption) ?_
      (try simp only [Act.put, stpA, stpB, stpC])
      refine takeT 13 rfl (by assumption) ?_
      (try simp only [Act.put, stpA, stpB, stpC])
      refine takeT 14 rfl (by assumption) ?_
      (try simp only [Act.put, stpA, stpB, stpC])
      refine takeT 15 rfl (by assumption) ?_
      (try simp only [Act.put, stpA, stpB, stpC])
      refine takeU 16 rfl (by assumption) ?_
      (try simp only [Act.put, stpA, stpB, stpC])
      refine takeU 17 rfl (by assumption) ?_
      (try simp only [Act.put, stpA, stpB, stpC])
      refine takeU 18 rfl (by assumption) ?_
      (try simp only [Act.put, stpA, stpB, stpC])
      refine takeU 19 rfl (by assumption) ?_
      (try simp only [Act.put, stpA, stpB, stpC])
      refine takeU 20 rfl (by assumption) ?_
      (try simp only [Act.put, stpA, stpB, stpC])
      refine takeU 21 rfl (by assumption) ?_
      (try simp only [Act.put, stpA, stpB, stpC])
      refine takeU 22 rfl (by assumption) ?_
      (try simp only [Act.put, stpA, stpB, stpC])
      refine takeU 23 rfl (by assumption) ?_
      (try simp only [Act.put, stpA, stpB, stpC])
      refine takeT 24 rfl (by assumption) ?_
      (try simp only [Act.put, stpA, stpB, stpC])
      refine takeT 25 rfl (by assumption) ?_
      (try simp only [Act.put, stpA, stpB, stpC])
      refine wpAnyH_done (by kernel_rfl) ?_ _
      have HF := Lib.hid (KB3.to hHeld)
      clear hHeld
      go_wp2_with fail
      go_roundw
      case rel => exact ⟨i + 1, by go_num, by omega, Lib.hid (HA.out f2), Lib.hid (HW.out.trans HF.out)⟩
      case measure => simp [intOf]; omega
end Go.Proofs.Ytinjainclhfahaa
