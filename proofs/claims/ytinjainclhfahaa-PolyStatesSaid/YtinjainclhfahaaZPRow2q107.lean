/- single of package poly, and Clone. -/
import Derived.Test.YtinjainclhfahaaRows
import Derived.Test.YtinjainclhfahaaZPRowq105
namespace Go.Proofs.Ytinjainclhfahaa
open Go.RowKit
set_option linter.unusedVariables false

/-- A row that is returned. -/
def RwR (n : Nat) (Z : List Int) (w : World) (e : Ending) (w' : World) : Prop := ∃ (A' : Option Addr) (k' : Nat), e = .returned (.slice A' n k') ∧ NwK w A' n k' ∧ SG cW w' A' n Z ∧ Up w w'
theorem RwR.mk {n k : Nat} {Z : List Int} {A : Option Addr} {w w' : World} {e : Ending} (h : e = .returned (.slice A n k)) (hN : NwK w A n k) (hS : SG cW w' A n Z) (hu : Up w w') : RwR n Z w e w' := ⟨A, k, h, hN, hS, hu⟩
set_option maxHeartbeats 4000000 in
set_option maxRecDepth 100000 in
theorem single15_up (v g : Int) (p : Nat) (hv0 : 0 ≤ v) (hv1 : v ≤ 4096) (hg0 : 0 ≤ g) (hg1 : g ≤ 16777217) (hp : p ≤ 4) (w : World) :
    Calls Try.prog 39 #[.int .u64 v, .int .u64 g, .int .i64 p] w fun e w' => RwR (p + 1) (byL (p + 1) (fun j => v * g ^ j)) w e w' := by
  have kp : IntKind.i64.wrap ((p : Int) + 1) = ((p + 1 : Nat) : Int) := by rw [IntKind.wrap_i64]; omega
  have hn : p + 1 ≤ 5 := by omega
  have KW := Lib.hid (fun j (hj : j < p + 1) W => wpow_v g j hg0 hg1 (by omega) W)
  have KO := Lib.hid (fun W => wof_v v ⟨hv0, by omega⟩ W)
  have KM : Hid (∀ j, j < p + 1 → ∀ W, Calls Try.prog 56 #[.agg #[.int .u64 (hiZ (g ^ j)), .int .u64 (loZ (g ^ j))], .agg #[.int .u64 (hiZ v), .int .u64 (loZ v)]] W fun e w' => e = .returned (.tuple #[.agg #[.int .u64 (hiZ (v * g ^ j)), .int .u64 (loZ (v * g ^ j))], .bool true]) ∧ Up W w') := Lib.hid (fun j hj W => by
    have ip := age_in hg0 hg1 (show j ≤ 4 by omega)
    have iq := (term_in hg0 hg1 hv0 hv1 (show j ≤ 4 by omega)).2
    have h := wmul_v (g ^ j) v ip ⟨hv0, by omega⟩ W
    rw [fits2_yes iq, fit2_yes iq, Int.mul_comm (g ^ j) v] at h
    exact h)
  have mk := fun W => makeW_run (p + 1) (by omega) W
  generalize p + 1 = n at *
  clear hv0 hv1 hg0 hg1 hp
  go_enter Try.func39, Try.ntmps39
  go_wp2_with fail
  go_loopw [16] (fun t wr => ∃ (i : Nat) (M : List Int), t = .int .i64 i ∧ i ≤ n ∧ Hid (∀ j, j < i → M.getD j 0 = v * g ^ j) ∧ Hid (SG cW wr (some ⟨w.heap.size, 0, none⟩) n M) ∧ w.heap.size < wr.heap.size ∧ Hid (Up w wr)) (fun t _ => n - (intOf t).toNat)
  case atStart => exact ⟨0, _, rfl, Nat.zero_le _, Lib.hid (fun j hj => absurd hj (Nat.not_lt_zero _)), Lib.hid (madeW_row w n), by simp, Lib.hid ((Up.refl w).alloc _ _)⟩
  case round =>
    obtain ⟨i, M, rfl, hin, HM, HO, hwr, HW⟩ := hrel
    by_cases hi : i < n
    case neg =>
      obtain rfl : i = n := by omega
      have f1 : decide ((i : Int) < i) = false := decide_eq_false (by omega)
      clear KW KO KM
      go_wp2_with fail
      refine bodyPost_ret (v := .slice (some ⟨w.heap.size, 0, none⟩) i i) (by simp [results, Try.results39, go_sem]) rfl (RwR.mk rfl ⟨Nat.le_refl _, fun b o e => by injection e with e; injection e with e; omega⟩ (byL_eq HO.out.1 HM.out ▸ HO.out) HW.out)
    have K1 := Lib.hid (KW.out i hi)
    have K2 := Lib.hid (KM.out i hi)
    obtain ⟨b2, o2, e2, r0, r1⟩ := wide_at HO.out hi
    injection e2 with e2
    injection e2 with e2 e3
    subst e2 e3
    simp only [Nat.zero_add] at r0 r1
    obtain ⟨V, hV⟩ : ∃ z, z = v * g ^ i := ⟨_, rfl⟩
    obtain ⟨P, hP⟩ : ∃ z, z = g ^ i := ⟨_, rfl⟩
    rw [← hV] at K2
    rw [← hP] at K1 K2
    have HV := Lib.hid hV
    have g2 : (i : Int) < n := by omega
    have g3 : (0 : Int) ≤ i := by omega
    clear hV hP KW KM
    go_upto_region 6 with (go_at_call 47; (with_reducible refine (K1.out _).mono ?_); rintro e w1 ⟨rfl, hu⟩; have r0' := hu.keep _ _ _ r0; have r1' := hu.keep _ _ _ r1; have HW1 := Lib.hid (HW.out.trans hu); have HO1 := Lib.hid (HO.out.up hu); clear hu r0 r1 HW HO K1)
    refine (show ∀ ws : World, ws = _ → Code.wp _ _ _ _ ws from fun ws hws => ?_) _ rfl
    have hl1 : w.heap.size < w1.heap.size := World.block_lt_of_cell? _ _ r0'
    obtain ⟨Us, Es⟩ := hold2 w1 w1.heap.size w.heap.size (Up.of_eq hws)
    have hls : w.heap.size < ws.heap.size := by have := (Up.of_eq hws).size; simp at this; omega
    have hz := fun o => (HW1.out.trans Us.out).ownGe (Nat.le_refl w.heap.size) o
    have HWs := Lib.hid (HW1.out.trans Us.out)
    clear hws
    have q0 := Us.out.keep _ _ _ r0'
    have q1 := Us.out.keep _ _ _ r1'
    refine wp_region_held_drew (S := KB1 w1.heap.size w ws) (by kernel_rfl) (KB1.start HWs) (fun hHeld => ?_)
    refine takeT 0 rfl (by assumption) ?_
    (try simp only [Act.put, stpA, stpB, stpC])
    refine takeT 1 rfl (by assumption) ?_
    (try simp only [Act.put, stpA, stpB, stpC])
    refine takeT 2 rfl (by assumption) ?_
    (try simp only [Act.put, stpA, stpB, stpC])
    refine takeT 3 rfl (by assumption) ?_
    (try simp only [Act.put, stpA, stpB, stpC])
    refine wpAnyH_ready (rs := [4]) (by kernel_rfl) (by simp) ?_
    refine AllReadyH.cons (o := ⟨_, _, _, _, _, _⟩) rfl (fun K hK => ?_) AllReadyH.nil
    go_simp
    (go_at_call 57; (with_reducible refine (KO.out _).mono ?_); rintro e w2 ⟨rfl, hu2⟩; obtain ⟨U2, E2⟩ := hold2 ws w1.heap.size w.heap.size hu2)
    (try go_wp2_with fail)
    refine hK.out _ _ (hHeld.up hu2) (fun hHeld => ?_)
    clear hK K
    (try simp only [Act.put, stpA, stpB, stpC])
    refine wpAnyH_ready (rs := [5]) (by kernel_rfl) (by simp) ?_
    refine AllReadyH.cons (o := ⟨_, _, _, _, _, _⟩) rfl (fun K hK => ?_) AllReadyH.nil
    go_simp
    (go_at_call 56; (with_reducible refine (K2.out _).mono ?_); rintro e w3 ⟨rfl, hu3⟩; obtain ⟨U3, E3⟩ := hold2 ws w1.heap.size w.heap.size hu3)
    (try go_wp2_with fail)
    refine hK.out _ _ (hHeld.up hu3) (fun hHeld => ?_)
    clear hK K
    (try simp only [Act.put, stpA, stpB, stpC])
    refine takeT 6 rfl (by assumption) ?_
    (try simp only [Act.put, stpA, stpB, stpC])
    refine takeT 7 rfl (by assumption) ?_
    (try simp only [Act.put, stpA, stpB, stpC])
    refine takeT 8 rfl (by assumption) ?_
    (try simp only [Act.put, stpA, stpB, stpC])
    refine takeT 9 rfl (by assumption) ?_
    (try simp only [Act.put, stpA, stpB, stpC])
    have hz3 := fun o => (HWs.out.trans U3.out).ownGe (Nat.le_refl w.heap.size) o
    refine wpAnyH_ready (rs := [10]) (by kernel_rfl) (by simp) ?_
    refine AllReadyH.cons (o := ⟨_, _, _, _, _, _⟩) rfl (fun K hK => ?_) AllReadyH.nil
    go_simp
    refine hK.out _ _ (by repeat (first | (with_reducible exact hHeld) | (with_reducible refine KB1.set ?_))) (fun hHeld => ?_)
    clear hK K
    (try simp only [Act.put, stpA, stpB, stpC])
    refine wpAnyH_done (by kernel_rfl) ?_ _
    have HF := Lib.hid (KB1.to hHeld)
    clear hHeld
    have hl3 : w.heap.size < w3.heap.size := by have := U3.out.size; omega
    have HO2 := Lib.hid ((HO1.out.up (Us.out.trans U3.out)).setW (x := V) hi)
    have HM2 : Hid (∀ j, j < i + 1 → (M.set i V).getD j 0 = v * g ^ j) := Lib.hid (fun j hj => by
      rw [getD_setI M i j V (by rw [HO1.out.1]; exact hi)]
      by_cases e : i = j
      · subst e; rw [if_pos rfl]; exact HV.out
      · rw [if_neg e]; exact HM.out j (by omega))
    go_wp2_with fail
    go_roundw
    case rel => exact ⟨i + 1, M.set i V, by go_num, by omega, HM2, Lib.hid (by simpa using HO2.out), by simp; omega, HF⟩
    case measure => simp [intOf]; omega
set_option maxHeartbeats 4000000 in
set_option maxRecDepth 100000 in
theorem clone15_up (n k : Nat) (A : Option Addr) (L : List Int) (hn : n ≤ 100000) (w : World) (hS : SG cW w A n L) :
    Calls Try.prog 36 #[.slice A n k] w fun e w' => RwR n L w e w' := by
  cases A with
  | none =>
    have h0 : n = 0 := by
      rcases Nat.eq_zero_or_pos n with h | h
      · exact h
      · obtain ⟨b, o, e, _⟩ := hS.2 h; cases e
    subst h0
    have e : L = [] := List.eq_nil_of_length_eq_zero hS.1
    subst e
    have hq := fun W => Lib.run_eql_slice_nil (P := Try.prog) W 22 35 none 0 k 0 0 Try.underlying22
    go_enter Try.func36, Try.ntmps36
    go_wp2_with fail
    go_ret
    exact RwR.mk rfl ⟨Nat.le_refl _, fun _ _ q => (by cases q)⟩ SG.none_ (Up.refl _)
  | some a =>
    have hO : OwW w (w.alloc (.cells #[] 35)) (.slice (some ⟨w.heap.size, 0, none⟩) 0 0) 0 [] := OG.fresh (Nat.le_refl _) #[] rfl
    obtain ⟨A', k', w', hr, h1, h2⟩ := appendW 22 w (w.alloc (.cells #[] 35)) _ 0 [] hO ((Up.refl w).alloc _ _) (some a) n k L (hS.up ((Up.refl w).alloc _ _)) (by omega)
    simp only [Nat.zero_add, List.nil_append] at hr h1
    have hq := fun W => Lib.run_eql_slice_nil (P := Try.prog) W 22 35 (some a) n k 0 0 Try.underlying22
    have H1 := Lib.hid h1
    have H2 := Lib.hid h2
    clear hS hO h1 h2
    go_enter Try.func36, Try.ntmps36
    go_wp2_with (refine wpList_append_run (o := ⟨some 7, _, _, _, _, _⟩) rfl (.tmp 5) (.tmp 6) _ rfl _ _ rfl rfl _ _ hr ?_)
    go_ret
    exact RwR.mk rfl ⟨H1.out.sg.1, H1.out.nw⟩ H1.out.sg.2 H2.out
end Go.Proofs.Ytinjainclhfahaa
