/- What Validate of package poly returns. -/
import Derived.Test.YtinjainclhfahaaRows
import Derived.Test.YtinjainclhfahaaZPBaseq96
namespace Go.Proofs.Ytinjainclhfahaa
open Go.RowKit
set_option linter.unusedVariables false

/-- Whether two neighbours are in their place. -/
def prB (g a z : Int) : Bool := decide (a ≤ z ∧ z ≤ a * g)
theorem ngB_bad {g : Int} {X : List Int} {j : Nat} (hj : j + 1 < X.length) (h : prB g (X.getD j 0) (X.getD (j + 1) 0) = false) : ngB g X = false := by
  rw [← Bool.not_eq_true, ngB_iff]
  exact fun q => absurd (q j hj) (of_decide_eq_false h)
theorem ngB_good {g : Int} {X : List Int} (h : ∀ j, j + 1 < X.length → prB g (X.getD j 0) (X.getD (j + 1) 0) = true) : ngB g X = true := ngB_iff.2 (fun j hj => of_decide_eq_true (h j hj))
theorem cmpP_lt (x y : Int) : decide (cmpZ x y < 0) = decide (x < y) := by
  unfold cmpZ
  by_cases h : x < y
  · rw [if_pos h, decide_eq_true h]; rfl
  · rw [if_neg h, decide_eq_false h]
    by_cases e : x = y
    · rw [if_pos e]; rfl
    · rw [if_neg e]; rfl
theorem cmpP_gt (x y : Int) : decide (0 < cmpZ x y) = decide (y < x) := by
  unfold cmpZ
  by_cases h : x < y
  · rw [if_pos h, decide_eq_false (show ¬ y < x by omega)]; rfl
  · rw [if_neg h]
    by_cases e : x = y
    · rw [if_pos e, decide_eq_false (show ¬ y < x by omega)]; rfl
    · rw [if_neg e, decide_eq_true (show y < x by omega)]; rfl
/-- How the test of two neighbours goes: the lower bound, and the upper one if it fits. -/
theorem pr_ways {g a z : Int} (ia : In2 a) (ib : In2 z) (hg : Word g) : (decide (cmpZ z a < 0) = true ∧ prB g a z = false) ∨ (decide (cmpZ z a < 0) = false ∧ fits2 (a * g) = true ∧ decide (0 < cmpZ z (fit2 (a * g))) = true ∧ prB g a z = false) ∨ (decide (cmpZ z a < 0) = false ∧ fits2 (a * g) = true ∧ decide (0 < cmpZ z (fit2 (a * g))) = false ∧ prB g a z = true) ∨ (decide (cmpZ z a < 0) = false ∧ fits2 (a * g) = false ∧ prB g a z = true) := by
  rw [cmpP_lt, cmpP_gt]
  unfold prB
  by_cases h : z < a
  · exact Or.inl ⟨decide_eq_true h, decide_eq_false (fun q => by omega)⟩
  · refine Or.inr ?_
    cases hf : fits2 (a * g) with
    | false =>
      have : ¬ In2 (a * g) := fun q => by rw [fits2_yes q] at hf; cases hf
      have p0 := Int.mul_nonneg ia.1 hg.1
      have p1 : ¬ a * g < 340282366920938463463374607431768211456 := fun q => this ⟨p0, q⟩
      exact Or.inr (Or.inr ⟨decide_eq_false h, rfl, decide_eq_true ⟨by omega, by have := ib.2; omega⟩⟩)
    | true =>
      have e : fit2 (a * g) = a * g := by unfold fit2; rw [if_pos hf]
      rw [e]
      by_cases k : a * g < z
      · exact Or.inl ⟨decide_eq_false h, rfl, decide_eq_true k, decide_eq_false (fun q => by omega)⟩
      · exact Or.inr (Or.inl ⟨decide_eq_false h, rfl, decide_eq_false k, decide_eq_true ⟨by omega, by omega⟩⟩)
set_option maxHeartbeats 4000000 in
set_option maxRecDepth 100000 in
theorem inPlace_up (n k : Nat) (A : Option Addr) (X : List Int) (g : Int) (hn : n ≤ 50000) (hI : ∀ x ∈ X, In2 x) (hg : Word g) (w : World) (hS : SG cW w A n X) :
    Calls Try.prog 48 #[.slice A n k, .int .u64 g] w fun e w' => e = .returned (.bool (ngB g X)) ∧ Up w w' := by
  have HL := Lib.hid hS.1
  have HS := Lib.hid hS
  have HI := Lib.hid hI
  have HB := Lib.hid (fun j (hj : j + 1 < X.length) (h : prB g (X.getD j 0) (X.getD (j + 1) 0) = false) => ngB_bad (X := X) hj h)
  have HT := Lib.hid (fun (h : ∀ j, j + 1 < X.length → prB g (X.getD j 0) (X.getD (j + 1) 0) = true) => ngB_good (X := X) h)
  have KO := Lib.hid (fun W => wof_v g hg W)
  have HG := Lib.hid (word_in hg)
  have HWg := Lib.hid hg
  generalize ngB g X = r at HB HT ⊢
  clear hS hI hg
  go_enter Try.func48, Try.ntmps48
  go_wp2_with fail
  go_loopw [5] (fun t wr => ∃ i : Nat, t = .int .i64 ((i : Int) + 1) ∧ (i + 1 ≤ n ∨ i = 0) ∧ Hid (∀ j, j < i → prB g (X.getD j 0) (X.getD (j + 1) 0) = true) ∧ Hid (Up w wr)) (fun t _ => n + 1 - (intOf t).toNat)
  case atStart => exact ⟨0, by simp, Or.inr rfl, Lib.hid (fun j hj => absurd hj (Nat.not_lt_zero _)), Lib.hid (Up.refl _)⟩
  case round =>
    obtain ⟨i, rfl, hin, HP, HW⟩ := hrel
    by_cases hi : i + 1 < n
    case neg =>
      obtain rfl : r = true := HT.out (fun j hj => HP.out j (by have := HL.out; omega))
      have f1 : decide ((i : Int) + 1 < n) = false := decide_eq_false (by omega)
      clear HT HB HP
      go_wp2_with fail
      go_ret
      exact ⟨rfl, HW.out⟩
    obtain ⟨b, o, rfl, x0, x1⟩ := wide_at (HS.out.up HW.out) (show i < n by omega)
    obtain ⟨b2, o2, e2, y0, y1⟩ := wide_at (HS.out.up HW.out) hi
    injection e2 with e2
    injection e2 with e2 e3
    subst e2 e3
    have hb : b < wr.heap.size := World.block_lt_of_cell? _ _ x0
    have ia := getD_in HI.out i
    have ib := getD_in HI.out (i + 1)
    have HX : Hid (prB g (X.getD i 0) (X.getD (i + 1) 0) = false → r = false) := Lib.hid (HB.out i (by have := HL.out; omega))
    have HA : Hid (prB g (X.getD i 0) (X.getD (i + 1) 0) = true → ∀ j, j < i + 1 → prB g (X.getD j 0) (X.getD (j + 1) 0) = true) := Lib.hid (fun h j hj => by
      rcases Nat.lt_or_ge j i with y | y
      · exact HP.out j y
      · obtain rfl : j = i := by omega
        exact h)
    have PW := Lib.hid (pr_ways (g := g) ia ib HWg.out)
    generalize X.getD i 0 = a at *
    generalize X.getD (i + 1) 0 = z at *
    have KM := Lib.hid (fun W => wmul_v a g ia HG.out W)
    have iM := fit2_in2 (a * g)
    have K1 := Lib.hid (fun W => compare_v z a ib ia W)
    have K2 := Lib.hid (fun W => compare_v z (fit2 (a * g)) ib iM W)
    have g1 : (0 : Int) ≤ (i : Int) + 1 := by omega
    have g2 : (i : Int) + 1 < n := by omega
    have g3 : (0 : Int) ≤ i := by omega
    have g4 : (i : Int) < n := by omega
    have g5 : ((i : Int) + 1).toNat = i + 1 := by omega
    have g6 : (i : Int) + 1 - 1 = i := by omega
    have g7 : IntKind.i64.wrap (i : Int) = i := by rw [IntKind.wrap_i64]; omega
    clear HB HT HP iM ia ib
    generalize cmpZ z (fit2 (a * g)) = c2 at *
    generalize prB g a z = pr at *
    generalize fit2 (a * g) = M at *
    generalize fits2 (a * g) = fo at *
    generalize a * g = ag at *
    generalize cmpZ z a = c1 at *
    go_upto_region 5 with fail
    refine (show ∀ ws : World, ws = _ → Code.wp _ _ _ _ ws from fun ws hws => ?_) _ rfl
    obtain ⟨Us, Es⟩ := hold2 wr wr.heap.size b (Up.of_eq hws)
    clear hws
    go_cut [7, 8] (fun s t wx => ∃ g : Nat, s = .pointer (some ⟨g, 0, none⟩) ∧ t = .bool fo ∧ ws.heap.size ≤ g ∧ wx.cell? ⟨g, 0, none⟩ = some (.int .u64 (hiZ M)) ∧ wx.cell? ⟨g, 1, none⟩ = some (.int .u64 (loZ M)) ∧ Hid (Up ws wx))
    case first =>
      go_region_held3 (KB1 wr.heap.size ws ws) (first | (with_reducible exact KB1.start (Lib.hid (Up.refl ws))) | (with_reducible exact KB1.next (by assumption) (by assumption)) | (repeat (first | (with_reducible assumption) | (with_reducible exact Hid.out (by assumption)) | (with_reducible exact KB1.base (Lib.hid (Up.refl ws))) | (with_reducible exact KB1.start (Lib.hid (Up.refl ws))) | (with_reducible refine KB1.next ((Up.refl _).alloc _ _) ?_) | (with_reducible refine KB1.next (Up.refl _).drew ?_) | (with_reducible refine KB1.set ?_ (by first | omega | (simp; done) | (simp; omega)) (by first | omega | (simp; done) | (simp; omega)))))) (first
        | (go_at_call 57; (with_reducible refine (KO.out _).mono ?_); rintro e w1 ⟨rfl, hu1⟩; have HS1 := Lib.hid (KB1.next hu1 (by assumption)); have hc1 := hu1.cells.1; have hz1 := hu1.cells.2; have hs1 := hu1.size; (try simp at hs1); (try (have hg0_1 : ws.heap.size < w1.heap.size := by omega)))
        | (go_at_call 56; (with_reducible refine (KM.out _).mono ?_); rintro e w2 ⟨rfl, hu2⟩; have HS2 := Lib.hid (KB1.next hu2 (by assumption)); have hc2 := hu2.cells.1; have hz2 := hu2.cells.2; have hs2 := hu2.size; (try simp at hs2); (try (have hg0_2 : ws.heap.size < w2.heap.size := by omega)); (try (have hg1_2 : w1.heap.size < w2.heap.size := by omega))))
      all_goals
        go_wp2_with fail
        go_meet
        refine ⟨_, rfl, rfl, ?_, ?_, ?_, Lib.hid (KB1.to (by assumption))⟩
        · first | omega | (simp; done) | (simp; omega)
        all_goals (first | (simp [go_sem, *]; done) | (simp [go_sem]; done))
    obtain ⟨q, rfl, rfl, hq, q0, q1, HQ⟩ := hcut
    have hqc : q < wc.heap.size := World.block_lt_of_cell? _ _ q0
    obtain ⟨Uq, Eq⟩ := hold2 wr wr.heap.size b HQ.out
    clear HQ
    rcases PW.out with ⟨f1, f2⟩ | ⟨f1, rfl, f3, f2⟩ | ⟨f1, rfl, f3, f2⟩ | ⟨f1, rfl, f2⟩
    · go_wp2_with fail
      refine wp_region_held_drew (S := KB3 wr.heap.size q b wr wc) (by kernel_rfl) (KB3.start Uq) (fun hHeld => ?_)
      refine takeT 0 rfl (by assumption) ?_
      (try simp only [Act.put, stpA, stpB, stpC])
      refine takeT 1 rfl (by assumption) ?_
      (try simp only [Act.put, stpA, stpB, stpC])
      refine takeT 2 rfl (by assumption) ?_
      (try simp only [Act.put, stpA, stpB, stpC])
      refine takeT 3 rfl (by assumption) ?_
      (try simp only [Act.put, stpA, stpB, stpC])
      refine takeT 4 rfl (by assumption) ?_
      (try simp only [Act.put, stpA, stpB, stpC])
      refine wpAnyH_ready (rs := [5]) (by kernel_rfl) (by simp) ?_
      refine AllReadyH.cons (o := ⟨_, _, _, _, _, _⟩) rfl (fun K hK => ?_) AllReadyH.nil
      go_simp
      (go_at_call 59; (with_reducible refine (K1.out _).mono ?_); rintro e w9 ⟨rfl, hu⟩)
      (try go_wp2_with fail)
      refine hK.out _ _ (hHeld.up hu) (fun hHeld => ?_)
      clear hK K
      (try simp only [Act.put, stpA, stpB, stpC])
      refine takeT 6 rfl (by assumption) ?_
      (try simp only [Act.put, stpA, stpB, stpC])
      refine takeT 7 rfl (by assumption) ?_
      (try simp only [Act.put, stpA, stpB, stpC])
      refine takeU 8 rfl (by assumption) ?_
      (try simp only [Act.put, stpA, stpB, stpC])
      refine takeU 9 rfl (by assumption) ?_
      (try simp only [Act.put, stpA, stpB, stpC])
      refine takeU 10 rfl (by assumption) ?_
      (try simp only [Act.put, stpA, stpB, stpC])
      refine takeU 11 rfl (by assumption) ?_
      (try simp only [Act.put, stpA, stpB, stpC])
      refine takeU 12 rfl (by assumption) ?_
      (try simp only [Act.put, stpA, stpB, stpC])
      refine takeU 13 rfl (by assumption) ?_
      (try simp only [Act.put, stpA, stpB, stpC])
      refine takeU 14 rfl (by assumption) ?_
      (try simp only [Act.put, stpA, stpB, stpC])
      refine takeU 15 rfl (by assumption) ?_
      (try simp only [Act.put, stpA, stpB, stpC])
      refine takeU 16 rfl (by assumption) ?_
      (try simp only [Act.put, stpA, stpB, stpC])
      refine takeU 17 rfl (by assumption) ?_
      (try simp only [Act.put, stpA, stpB, stpC])
      refine takeT 18 rfl (by assumption) ?_
      (try simp only [Act.put, stpA, stpB, stpC])
      refine wpAnyH_done (by kernel_rfl) ?_ _
      have HF := Lib.hid (KB3.to hHeld)
      clear hHeld
      go_wp2_with fail
      go_ret
      obtain rfl : r = false := HX.out f2
      exact ⟨rfl, HW.out.trans HF.out⟩
    · go_wp2_with fail
      go_region_held3 (KB3 wr.heap.size q b wr wc) (first | (with_reducible exact KB3.start Uq) | (with_reducible exact KB3.next (by assumption) (by assumption))) (first
    | (go_at_call 59; (with_reducible refine (K1.out _).mono ?_); rintro e w9 ⟨rfl, hu⟩)
    | (go_at_call 59; (with_reducible refine (K2.out _).mono ?_); rintro e w9 ⟨rfl, hu⟩))
      have HF := Lib.hid (KB3.to (by assumption))
      go_wp2_with fail
      go_ret
      obtain rfl : r = false := HX.out f2
      exact ⟨rfl, HW.out.trans HF.out⟩
    · go_wp2_with fail
      go_region_held3 (KB3 wr.heap.size q b wr wc) (first | (with_reducible exact KB3.start Uq) | (with_reducible exact KB3.next (by assumption) (by assumption))) (first
    | (go_at_call 59; (with_reducible refine (K1.out _).mono ?_); rintro e w9 ⟨rfl, hu⟩)
    | (go_at_call 59; (with_reducible refine (K2.out _).mono ?_); rintro e w9 ⟨rfl, hu⟩))
      have HF := Lib.hid (KB3.to (by assumption))
      go_wp2_with fail
      go_roundw
      case rel => exact ⟨i + 1, by go_num, by omega, Lib.hid (HA.out f2), Lib.hid (HW.out.trans HF.out)⟩
      case measure => simp [intOf]; omega
    · go_wp2_with fail
      refine wp_region_held_drew (S := KB3 wr.heap.size q b wr wc) (by kernel_rfl) (KB3.start Uq) (fun hHeld => ?_)
      refine takeT 0 rfl (by assumption) ?_
      (try simp only [Act.put, stpA, stpB, stpC])
      refine takeT 1 rfl (by assumption) ?_
      (try simp only [Act.put, stpA, stpB, stpC])
      refine takeT 2 rfl (by assumption) ?_
      (try simp only [Act.put, stpA, stpB, stpC])
      refine takeT 3 rfl (by assumption) ?_
      (try simp only [Act.put, stpA, stpB, stpC])
      refine takeT 4 rfl (by assumption) ?_
      (try simp only [Act.put, stpA, stpB, stpC])
      refine wpAnyH_ready (rs := [5]) (by kernel_rfl) (by simp) ?_
      refine AllReadyH.cons (o := ⟨_, _, _, _, _, _⟩) rfl (fun K hK => ?_) AllReadyH.nil
      go_simp
      (go_at_call 59; (with_reducible refine (K1.out _).mono ?_); rintro e w9 ⟨rfl, hu⟩)
      (try go_wp2_with fail)
      refine hK.out _ _ (hHeld.up hu) (fun hHeld => ?_)
      clear hK K
      (try simp only [Act.put, stpA, stpB, stpC])
      refine takeT 6 rfl (by assumption) ?_
      (try simp only [Act.put, stpA, stpB, stpC])
      refine takeT 7 rfl (by assumption) ?_
      (try simp only [Act.put, stpA, stpB, stpC])
      refine takeT 8 rfl (by assumption) ?_
      (try simp only [Act.put, stpA, stpB, stpC])
      refine takeT 9 rfl (by assumption) ?_
      (try simp only [Act.put, stpA, stpB, stpC])
      refine takeU 10 rfl (by assumption) ?_
      (try simp only [Act.put, stpA, stpB, stpC])
      refine takeU 11 rfl (by assumption) ?_
      (try simp only [Act.put, stpA, stpB, stpC])
      refine takeU 12 rfl (by assumption) ?_
      (try simp only [Act.put, stpA, stpB, stpC])
      refine takeU 13 rfl (by assumption) ?_
      (try simp only [Act.put, stpA, stpB, stpC])
      refine takeU 14 rfl (by assumption) ?_
      (try simp only [Act.put, stpA, stpB, stpC])
      refine takeU 15 rfl (by assumption) ?_
      (try simp only [Act.put, stpA, stpB, stpC])
      refine takeU 16 rfl (by assumption) ?_
      (try simp only [Act.put, stpA, stpB, stpC])
      refine takeT 17 rfl (by assumption) ?_
      (try simp only [Act.put, stpA, stpB, stpC])
      refine takeT 18 rfl (by assumption) ?_
      (try simp only [Act.put, stpA, stpB, stpC])
      refine wpAnyH_done (by kernel_rfl) ?_ _
      have HF := Lib.hid (KB3.to hHeld)
      clear hHeld
      go_wp2_with fail
      go_roundw
      case rel => exact ⟨i + 1, by go_num, by omega, Lib.hid (HA.out f2), Lib.hid (HW.out.trans HF.out)⟩
      case measure => simp [intOf]; omega
set_option maxHeartbeats 4000000 in
set_option maxRecDepth 100000 in
theorem validate15_up (p l c : Int) (n k : Nat) (A : Option Addr) (X : List Int) (hn : n ≤ 50000) (hI : ∀ x ∈ X, In2 x) (w : World) (hS : SG cW w A n X) :
    Calls Try.prog 20 #[.agg #[.int .i64 p, .int .i64 l, .int .i64 c, .slice A n k]] w fun e w' => e = .returned (.int .i64 (stQE p l c X)) ∧ Up w w' := by
  have KP := Lib.hid (isPower15_any p)
  have KT := Lib.hid (isTick15_any c)
  unfold stQE stP okP
  by_cases hp : 0 ≤ p ∧ p ≤ 4
  case neg =>
    rw [show decide ((0 ≤ p ∧ p ≤ 4) ∧ (0 ≤ c ∧ c ≤ 16777216) ∧ (0 ≤ l ∧ l ≤ c)) = false from decide_eq_false (fun h => hp h.1), Bool.false_and, if_neg (by decide)]
    rw [decide_eq_false hp] at KP
    clear hp hS hI KT
    go_enter Try.func20, Try.ntmps20
    go_wp2_with (first  | (go_at_call 31; (with_reducible refine (KP.out _).mono ?_); rintro e w' ⟨rfl, rfl⟩)  | (go_at_call 32; (with_reducible refine (KT.out _).mono ?_); rintro e w' ⟨rfl, rfl⟩))
    go_ret
    exact ⟨rfl, (Up.refl w).alloc _ _⟩
  rw [decide_eq_true hp] at KP
  by_cases hc : 0 ≤ c ∧ c ≤ 16777216
  case neg =>
    rw [show decide ((0 ≤ p ∧ p ≤ 4) ∧ (0 ≤ c ∧ c ≤ 16777216) ∧ (0 ≤ l ∧ l ≤ c)) = false from decide_eq_false (fun h => hc h.2.1), Bool.false_and, if_neg (by decide)]
    rw [decide_eq_false hc] at KT
    clear hp hc hS hI
    go_enter Try.func20, Try.ntmps20
    go_wp2_with (first  | (go_at_call 31; (with_reducible refine (KP.out _).mono ?_); rintro e w' ⟨rfl, rfl⟩)  | (go_at_call 32; (with_reducible refine (KT.out _).mono ?_); rintro e w' ⟨rfl, rfl⟩))
    go_ret
    exact ⟨rfl, (Up.refl w).alloc _ _⟩
  rw [decide_eq_true hc] at KT
  by_cases hl : 0 ≤ l ∧ l ≤ c
  case neg =>
    rw [show decide ((0 ≤ p ∧ p ≤ 4) ∧ (0 ≤ c ∧ c ≤ 16777216) ∧ (0 ≤ l ∧ l ≤ c)) = false from decide_eq_false (fun h => hl h.2.2), Bool.false_and, if_neg (by decide)]
    rcases (show l < 0 ∨ (0 ≤ l ∧ c < l) by omega) with h | ⟨h, h2⟩
    all_goals
      clear hp hc hl hS hI
      go_enter Try.func20, Try.ntmps20
      go_wp2_with (first  | (go_at_call 31; (with_reducible refine (KP.out _).mono ?_); rintro e w' ⟨rfl, rfl⟩)  | (go_at_call 32; (with_reducible refine (KT.out _).mono ?_); rintro e w' ⟨rfl, rfl⟩))
      go_ret
      exact ⟨rfl, (Up.refl w).alloc _ _⟩
  rw [show decide ((0 ≤ p ∧ p ≤ 4) ∧ (0 ≤ c ∧ c ≤ 16777216) ∧ (0 ≤ l ∧ l ≤ c)) = true from decide_eq_true ⟨hp, hc, hl⟩, Bool.true_and]
  obtain ⟨hl0, hl1⟩ := hl
  have t1 : decide (l < 0) = false := decide_eq_false (by omega)
  have t2 : decide (c < l) = false := decide_eq_false (by omega)
  have kw : IntKind.i64.wrap (p + 1) = p + 1 := IntWalk.i64_in _ (by omega)
  have hX := hS.1
  by_cases hn1 : (n : Int) = p + 1
  case neg =>
    rw [decide_eq_false (show ¬ (X.length : Int) = p + 1 by rw [hX]; exact hn1), Bool.false_and, if_neg (by decide)]
    have t3 : ((n : Int) != p + 1) = true := by simp [hn1]
    clear hp hc hS hI hl0 hl1 hX hn1
    go_enter Try.func20, Try.ntmps20
    go_upto_region 3 with (first  | (go_at_call 31; (with_reducible refine (KP.out _).mono ?_); rintro e w' ⟨rfl, rfl⟩)  | (go_at_call 32; (with_reducible refine (KT.out _).mono ?_); rintro e w' ⟨rfl, rfl⟩))
    refine (show ∀ ws : World, ws = _ → Code.wp _ _ _ _ ws from fun ws hws => ?_) _ rfl
    obtain ⟨Us, Es⟩ := hold1 w w.heap.size (Up.of_eq hws)
    clear hws
    refine wp_region_held_drew (S := KB1 w.heap.size w ws) (by kernel_rfl) (KB1.start Us) (fun hHeld => ?_)
    refine takeT 0 rfl (by assumption) ?_
    (try simp only [Act.put, stpA, stpB, stpC])
    refine takeT 1 rfl (by assumption) ?_
    (try simp only [Act.put, stpA, stpB, stpC])
    refine takeT 2 rfl (by assumption) ?_
    (try simp only [Act.put, stpA, stpB, stpC])
    refine takeT 3 rfl (by assumption) ?_
    (try simp only [Act.put, stpA, stpB, stpC])
    refine takeT 4 rfl (by assumption) ?_
    (try simp only [Act.put, stpA, stpB, stpC])
    refine takeT 5 rfl (by assumption) ?_
    (try simp only [Act.put, stpA, stpB, stpC])
    refine takeT 6 rfl (by assumption) ?_
    (try simp only [Act.put, stpA, stpB, stpC])
    refine takeT 7 rfl (by assumption) ?_
    (try simp only [Act.put, stpA, stpB, stpC])
    refine takeU 8 rfl (by assumption) ?_
    (try simp only [Act.put, stpA, stpB, stpC])
    refine takeU 9 rfl (by assumption) ?_
    (try simp only [Act.put, stpA, stpB, stpC])
    refine takeU 10 rfl (by assumption) ?_
    (try simp only [Act.put, stpA, stpB, stpC])
    refine takeU 11 rfl (by assumption) ?_
    (try simp only [Act.put, stpA, stpB, stpC])
    refine takeU 12 rfl (by assumption) ?_
    (try simp only [Act.put, stpA, stpB, stpC])
    refine takeU 13 rfl (by assumption) ?_
    (try simp only [Act.put, stpA, stpB, stpC])
    refine takeT 14 rfl (by assumption) ?_
    (try simp only [Act.put, stpA, stpB, stpC])
    refine wpAnyH_done (by kernel_rfl) ?_ _
    have HF := Lib.hid (KB1.to hHeld)
    clear hHeld
    go_wp2_with fail
    go_ret
    exact ⟨rfl, HF.out⟩
  rw [decide_eq_true (show (X.length : Int) = p + 1 by rw [hX]; exact hn1), Bool.true_and]
  have t3 : ((n : Int) != p + 1) = false := by simp [hn1]
  have KG := Lib.hid (gage_up p l c n k A hl0 hl1 hc.2)
  have KB := Lib.hid (fun W (hu : Up w W) => inPlace_up n k A X (c - l + 1) hn hI ⟨by omega, by omega⟩ W (hS.up hu))
  generalize ngB (c - l + 1) X = r at *
  clear hp hc hS hI hl0 hl1 hX hn1
  go_enter Try.func20, Try.ntmps20
  go_upto_region 3 with (first  | (go_at_call 31; (with_reducible refine (KP.out _).mono ?_); rintro e w' ⟨rfl, rfl⟩)  | (go_at_call 32; (with_reducible refine (KT.out _).mono ?_); rintro e w' ⟨rfl, rfl⟩))
  refine (show ∀ ws : World, ws = _ → Code.wp _ _ _ _ ws from fun ws hws => ?_) _ rfl
  obtain ⟨Us, Es⟩ := hold1 w w.heap.size (Up.of_eq hws)
  clear hws
  go_region_held3 (KB1 w.heap.size w ws) (first | (with_reducible exact KB1.start Us) | (with_reducible exact KB1.next (by assumption) (by assumption))) (first  | (go_at_call 40; (with_reducible refine (KG.out _).mono ?_); rintro e w' ⟨rfl, hu⟩)  | (go_at_call 48; (with_reducible refine (KB.out _ (KB1.to (by assumption))).mono ?_); rintro e w' ⟨rfl, hu⟩))
  have HF := Lib.hid (KB1.to (by assumption))
  cases r
  all_goals
    go_wp2_with fail
    go_ret
    exact ⟨rfl, HF.out⟩
end Go.Proofs.Ytinjainclhfahaa
