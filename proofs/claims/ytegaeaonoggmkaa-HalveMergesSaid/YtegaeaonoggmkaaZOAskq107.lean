/- Ask of package halve and of its reference. -/
import Derived.Test.YtegaeaonoggmkaaRows
import Derived.Test.YtegaeaonoggmkaaZOAddq97
namespace Go.Proofs.Ytegaeaonoggmkaa
open Go.RowKit
set_option linter.unusedVariables false

/-- What Ask returns. -/
def akH (now : Int) (S : List Int) : Value := .tuple #[.agg #[.int .u64 (hiZ (akR now S).1), .int .u64 (loZ (akR now S).1), .int .u64 (hiZ (akR now S).2.1), .int .u64 (loZ (akR now S).2.1)], .int .i64 (akR now S).2.2]
theorem akH_no {now : Int} {S : List Int} (h : stH now S = false) : akH now S = .tuple #[.agg #[.int .u64 0, .int .u64 0, .int .u64 0, .int .u64 0], .int .i64 2] := by
  unfold akH akR; rw [if_neg (by rw [h]; decide)]; rfl
theorem akH_yes {now : Int} {S : List Int} (h : stH now S = true) : akH now S = .tuple #[.agg #[.int .u64 (hiZ (asH S)), .int .u64 (loZ (asH S)), .int .u64 (hiZ (2 ^ (S.length - 1))), .int .u64 (loZ (2 ^ (S.length - 1)))], .int .i64 0] := by
  unfold akH akR; rw [if_pos h]
theorem pow_in2 {m : Nat} (hm : m ≤ 64) : In2 (2 ^ m) := by
  have h1 := two_pow_nn m
  have h2 := two_pow_le hm
  rw [show (2 : Int) ^ 64 = 18446744073709551616 by decide] at h2
  exact ⟨by omega, by omega⟩
set_option maxHeartbeats 4000000 in
set_option maxRecDepth 100000 in
theorem ask16_up (now : Int) (n k : Nat) (A : Option Addr) (S : List Int) (hn : n ≤ 100000) (hI : ∀ x ∈ S, In x) (hc : In now) (w : World) (hS : Sn w A n S) :
    Calls Try.prog 18 #[.agg #[.int .i64 now, .slice A n k]] w fun e w' => e = .returned (akH now S) ∧ Up w w' := by
  have HS := Lib.hid hS
  have KV := Lib.hid (fun W (hu : Up w W) => validate16_up now n k A S hn hI hc W (hS.up hu))
  unfold stHE at KV
  cases hv : stH now S
  case false =>
    rw [akH_no hv]
    rw [if_neg (by rw [hv]; decide)] at KV
    clear hv hS hI
    go_enter Try.func18, Try.ntmps18
    go_wp2_with (go_at_call 20; (with_reducible refine (KV.out _ (((Up.refl w).alloc _ _).alloc _ _)).mono ?_); rintro e w1 ⟨rfl, hu⟩; obtain ⟨U1, E1⟩ := call2 w hu; clear hu)
    refine bodyPost_ret (v := .tuple #[.agg #[.int .u64 0, .int .u64 0, .int .u64 0, .int .u64 0], .int .i64 2]) (by simp [results, Try.results18, go_sem, E1]) rfl ⟨rfl, ?_⟩
    ((repeat (first | (with_reducible exact Up.refl _) | (with_reducible exact U1.out) | (with_reducible refine Up.alloc ?_ _ _) | (with_reducible refine Up.setCell ?_ ?_ _) | (with_reducible refine Up.drewN ?_ _) | (with_reducible refine Up.drew ?_))); all_goals (first | (simp; done) | (simp; omega) | omega))
  rw [akH_yes hv]
  rw [if_pos hv] at KV
  obtain ⟨h1, h2, h3⟩ := stH_is hS.1 hv
  have hX := hS.1
  have HL := Lib.hid hX
  have hn1 : 1 ≤ n := h1.1
  have hn6 : n ≤ 64 := h1.2
  obtain ⟨m, hm⟩ : ∃ z, z = n - 1 := ⟨_, rfl⟩
  have km : IntKind.i64.wrap ((n : Int) - 1) = m := by rw [hm]; exact (IntWalk.i64_in _ (by omega)).trans (by omega)
  have KD := Lib.hid (fun W => wleft_o 1 m ⟨by decide, by decide⟩ (by omega) (by rw [Int.one_mul]; exact pow_in2 (by omega)) W)
  rw [Int.one_mul] at KD
  have KO1 := Lib.hid (fun W => wof_o 1 ⟨by decide, by decide⟩ W)
  rw [show hiZ (1 : Int) = 0 from rfl, show loZ (1 : Int) = 1 from rfl] at KO1 KD
  have hf : ∀ e, e < n → 0 ≤ S.getD e 0 ∧ S.getD e 0 ≤ 1099511627776 := fun e he => h3 _ (by simp [List.getD, show e < S.length by omega])
  rw [hX, ← hm]
  have HN : Hid (asH S = hoF (fun e => S.getD e 0) n) := Lib.hid (by rw [hoF_all]; unfold asH; rw [hX])
  rw [HN.out]
  have HF2 := Lib.hid (fun i (hi : i ≤ n) => hoF_in (f := fun e => S.getD e 0) (n := i) (by omega) (fun e he => hf e (by omega)))
  have HF := Lib.hid hf
  obtain ⟨D, hD⟩ : ∃ z, z = (2 : Int) ^ m := ⟨_, rfl⟩
  rw [← hD] at KD ⊢
  obtain ⟨R, hR⟩ : ∃ z, z = hoF (fun e => S.getD e 0) n := ⟨_, rfl⟩
  rw [← hR]
  have HR := Lib.hid hR
  clear hv hS hI h1 h2 h3 hX hf hD hR hm
  go_enter Try.func18, Try.ntmps18
  go_wp2_with (go_at_call 20; (with_reducible refine (KV.out _ (((Up.refl w).alloc _ _).alloc _ _)).mono ?_); rintro e w1 ⟨rfl, hu⟩; obtain ⟨U1, E1⟩ := call2 w hu; clear hu)
  go_loopw [22] (fun u wr => ∃ (i : Nat) (X : Int), u = .int .i64 i ∧ i ≤ n ∧ Hid (X = hoF (fun e => S.getD e 0) i) ∧ wr.cell? ⟨w1.heap.size, 0, none⟩ = some (.int .u64 (hiZ X)) ∧ wr.cell? ⟨w1.heap.size, 1, none⟩ = some (.int .u64 (loZ X)) ∧ Hid (Up w1 wr)) (fun u _ => n - (intOf u).toNat)
  case atStart =>
    refine ⟨0, 0, rfl, Nat.zero_le _, Lib.hid rfl, ?_, ?_, Lib.hid ((Up.refl w1).alloc _ _)⟩
    · simp [go_sem, hiZ]
    · simp [go_sem, loZ]
  case round =>
    obtain ⟨i, X, rfl, hin, HX, r0, r1, HW⟩ := hrel
    have hg : w1.heap.size < wr.heap.size := World.block_lt_of_cell? _ _ r0
    by_cases hi : i < n
    case neg =>
      obtain rfl : i = n := by omega
      have f1 : decide ((i : Int) < i) = false := decide_eq_false (by omega)
      obtain rfl : R = X := by rw [HR.out, HX.out]
      clear HR HX HF HF2 KV HS HL HN
      go_upto_region 11 with fail
      refine (show ∀ ws : World, ws = _ → Code.wp _ _ _ _ ws from fun ws hws => ?_) _ rfl
      have hs1 := U1.out.size
      obtain ⟨Ur, Er⟩ := hold2 w w.heap.size (w.heap.size + 1) (HW.out.trans (Up.of_eq hws))
      have r0' := (Up.of_eq hws).keep _ _ _ r0
      have r1' := (Up.of_eq hws).keep _ _ _ r1
      clear hws r0 r1
      go_cut [10, 11] (fun s t wx => ∃ g : Nat, s = .pointer (some ⟨g, 0, none⟩) ∧ t = .bool true ∧ ws.heap.size ≤ g ∧ wx.cell? ⟨g, 0, none⟩ = some (.int .u64 (hiZ D)) ∧ wx.cell? ⟨g, 1, none⟩ = some (.int .u64 (loZ D)) ∧ Hid (Up ws wx))
      case first =>
        go_region_held3 (KB1 w.heap.size ws ws) (first | (with_reducible exact KB1.start (Lib.hid (Up.refl ws))) | (with_reducible exact KB1.next (by assumption) (by assumption)) | (repeat (first | (with_reducible assumption) | (with_reducible exact Hid.out (by assumption)) | (with_reducible exact KB1.base (Lib.hid (Up.refl ws))) | (with_reducible exact KB1.start (Lib.hid (Up.refl ws))) | (with_reducible refine KB1.next ((Up.refl _).alloc _ _) ?_) | (with_reducible refine KB1.next (Up.refl _).drew ?_) | (with_reducible refine KB1.set ?_ (by first | omega | (simp; done) | (simp; omega)) (by first | omega | (simp; done) | (simp; omega)))))) (first
          | (go_at_call 41; (with_reducible refine (KO1.out _).mono ?_); rintro e w1 ⟨rfl, hu1⟩; have HS1 := Lib.hid (KB1.next hu1 (by assumption)); have hc1 := hu1.cells.1; have hz1 := hu1.cells.2; have hs1 := hu1.size; (try simp at hs1); (try (have hg0_1 : ws.heap.size < w1.heap.size := by omega)))
          | (go_at_call 39; (with_reducible refine (KD.out _).mono ?_); rintro e w2 ⟨rfl, hu2⟩; have HS2 := Lib.hid (KB1.next hu2 (by assumption)); have hc2 := hu2.cells.1; have hz2 := hu2.cells.2; have hs2 := hu2.size; (try simp at hs2); (try (have hg0_2 : ws.heap.size < w2.heap.size := by omega)); (try (have hg1_2 : w1.heap.size < w2.heap.size := by omega))))
        all_goals
          go_wp2_with fail
          go_meet
          refine ⟨_, rfl, rfl, ?_, ?_, ?_, Lib.hid (KB1.to (by assumption))⟩
          · first | omega | (simp; done) | (simp; omega)
          all_goals (first | (simp [go_sem, *]; done) | (simp [go_sem]; done))
      obtain ⟨q, rfl, rfl, hq, q0, q1, HQ⟩ := hcut
      have d0 := HQ.out.keep _ _ _ r0'
      have d1 := HQ.out.keep _ _ _ r1'
      obtain ⟨Uq, Eq⟩ := hold2 w w.heap.size (w.heap.size + 1) HQ.out
      have zf := fun o => Uq.out.ownGe (Nat.le_succ w.heap.size) o
      go_wp2_with fail
      refine bodyPost_ret (v := .tuple #[.agg #[.int .u64 (hiZ R), .int .u64 (loZ R), .int .u64 (hiZ D), .int .u64 (loZ D)], .int .i64 0]) (by simp [results, Try.results18, go_sem, E1, Er, Eq]) rfl ⟨rfl, ?_⟩
      ((repeat (first | (with_reducible exact Up.refl _) | (with_reducible exact Uq.out) | (with_reducible refine Up.alloc ?_ _ _) | (with_reducible refine Up.setCell ?_ ?_ _) | (with_reducible refine Up.drewN ?_ _) | (with_reducible refine Up.drew ?_))); all_goals (first | (simp; done) | (simp; omega) | omega))
    obtain ⟨b, o, rfl, x0⟩ := (HS.out.up (U1.out.trans HW.out)).one hi
    have hb : b < wr.heap.size := World.block_lt_of_cell? _ _ x0
    have hx := HF2.out i hin
    rw [← HX.out] at hx
    have hs := HF.out i hi
    have hx2 := HF2.out (i + 1) hi
    rw [show hoF (fun e => S.getD e 0) (i + 1) = 2 * hoF (fun e => S.getD e 0) i + S.getD i 0 from rfl, ← HX.out] at hx2
    have HX2 : Hid (2 * X + S.getD i 0 = hoF (fun e => S.getD e 0) (i + 1)) := Lib.hid (by rw [HX.out]; rfl)
    obtain ⟨s, hse⟩ : ∃ z, z = S.getD i 0 := ⟨_, rfl⟩
    rw [← hse] at x0 HX2 hx2 hs
    have ks : IntKind.u64.wrap s = s := by rw [IntKind.wrap_u64]; omega
    have K1 := Lib.hid (fun W => wleft_o X 1 ⟨by omega, by omega⟩ (by decide) (by rw [Int.pow_one]; exact ⟨by omega, by omega⟩) W)
    rw [Int.pow_one, Int.mul_comm X 2, show ((1 : Nat) : Int) = 1 from rfl] at K1
    have KO := Lib.hid (fun W => wof_o s ⟨by omega, by omega⟩ W)
    have K2 := Lib.hid (fun W => wadd_o (2 * X) s ⟨by omega, by omega⟩ ⟨by omega, by omega⟩ ⟨by omega, by omega⟩ W)
    obtain ⟨Y, hY⟩ : ∃ z, z = 2 * X + s := ⟨_, rfl⟩
    rw [← hY] at K2 HX2
    obtain ⟨P, hP⟩ : ∃ z, z = 2 * X := ⟨_, rfl⟩
    rw [← hP] at K1 K2
    have g2 : (i : Int) < n := by omega
    have g3 : (0 : Int) ≤ i := by omega
    clear hse hx hx2 hs hY hP HX
    go_upto_region 9 with (go_at_call 39; (with_reducible refine (K1.out _).mono ?_); rintro e w2 ⟨rfl, hu⟩; have r0' := hu.keep _ _ _ r0; have r1' := hu.keep _ _ _ r1; have HW1 := Lib.hid (HW.out.trans hu); clear hu r0 r1 HW K1)
    refine (show ∀ ws : World, ws = _ → Code.wp _ _ _ _ ws from fun ws hws => ?_) _ rfl
    have hl1 : w1.heap.size < w2.heap.size := World.block_lt_of_cell? _ _ r0'
    obtain ⟨Us, Es⟩ := hold2 w2 w2.heap.size w1.heap.size (Up.of_eq hws)
    have hls : w1.heap.size < ws.heap.size := by have := (Up.of_eq hws).size; simp at this; omega
    have hz := fun o => (HW1.out.trans Us.out).ownGe (Nat.le_refl w1.heap.size) o
    have HWs := Lib.hid (HW1.out.trans Us.out)
    clear hws
    have q0 := Us.out.keep _ _ _ r0'
    have q1 := Us.out.keep _ _ _ r1'
    refine wp_region_held_drew (S := KB1 w2.heap.size w1 ws) (by kernel_rfl) (KB1.start HWs) (fun hHeld => ?_)
    refine takeT 0 rfl (by assumption) ?_
    (try simp only [Act.put, stpA, stpB, stpC])
    refine takeT 1 rfl (by assumption) ?_
    (try simp only [Act.put, stpA, stpB, stpC])
    refine takeT 2 rfl (by assumption) ?_
    (try simp only [Act.put, stpA, stpB, stpC])
    refine wpAnyH_ready (rs := [3]) (by kernel_rfl) (by simp) ?_
    refine AllReadyH.cons (o := ⟨_, _, _, _, _, _⟩) rfl (fun K hK => ?_) AllReadyH.nil
    go_simp
    (go_at_call 41; (with_reducible refine (KO.out _).mono ?_); rintro e w3 ⟨rfl, hu3⟩; obtain ⟨U3, E3⟩ := hold2 ws w2.heap.size w1.heap.size hu3)
    (try go_wp2_with fail)
    refine hK.out _ _ (hHeld.up hu3) (fun hHeld => ?_)
    clear hK K
    (try simp only [Act.put, stpA, stpB, stpC])
    refine wpAnyH_ready (rs := [4]) (by kernel_rfl) (by simp) ?_
    refine AllReadyH.cons (o := ⟨_, _, _, _, _, _⟩) rfl (fun K hK => ?_) AllReadyH.nil
    go_simp
    (go_at_call 40; (with_reducible refine (K2.out _).mono ?_); rintro e w4 ⟨rfl, hu4⟩; obtain ⟨U4, E4⟩ := hold2 ws w2.heap.size w1.heap.size hu4)
    (try go_wp2_with fail)
    refine hK.out _ _ (hHeld.up hu4) (fun hHeld => ?_)
    clear hK K
    (try simp only [Act.put, stpA, stpB, stpC])
    refine takeT 5 rfl (by assumption) ?_
    (try simp only [Act.put, stpA, stpB, stpC])
    refine takeT 6 rfl (by assumption) ?_
    (try simp only [Act.put, stpA, stpB, stpC])
    refine takeT 7 rfl (by assumption) ?_
    (try simp only [Act.put, stpA, stpB, stpC])
    have hz3 := fun o => (HWs.out.trans U4.out).ownGe (Nat.le_refl w1.heap.size) o
    refine wpAnyH_ready (rs := [8]) (by kernel_rfl) (by simp) ?_
    refine AllReadyH.cons (o := ⟨_, _, _, _, _, _⟩) rfl (fun K hK => ?_) AllReadyH.nil
    go_simp
    refine hK.out _ _ (by repeat (first | (with_reducible exact hHeld) | (with_reducible refine KB1.set ?_))) (fun hHeld => ?_)
    clear hK K
    (try simp only [Act.put, stpA, stpB, stpC])
    refine wpAnyH_done (by kernel_rfl) ?_ _
    have HF9 := Lib.hid (KB1.to hHeld)
    clear hHeld
    go_wp2_with fail
    go_roundw
    case rel =>
      refine ⟨i + 1, Y, by go_num, by omega, HX2, ?_, ?_, HF9⟩
      · rw [cell_set (cell_set (U4.out.keep _ _ _ q0))]; rfl
      · rw [cell_set (cell_set (U4.out.keep _ _ _ q1))]; rfl
    case measure => simp [intOf]; omega
end Go.Proofs.Ytegaeaonoggmkaa
