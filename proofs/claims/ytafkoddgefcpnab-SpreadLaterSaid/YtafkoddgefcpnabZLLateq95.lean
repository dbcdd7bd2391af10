/- What the law SpreadLater makes of raw items: values at tick 0, and the mark of items. -/
import Derived.Test.YtafkoddgefcpnabRows
import Derived.Test.YtafkoddgefcpnabZERSprq94
import Derived.Test.YtafkoddgefcpnabZETot2q93
import Derived.Test.YtafkoddgefcpnabZLLatq87
import Derived.Test.YtafkoddgefcpnabZLOneq89
namespace Go.Proofs.Ytafkoddgefcpnab
open Go.RowKit
set_option linter.unusedVariables false

def vlQ (M : List It) : Prop := ∀ x ∈ M, x.1 = 0 ∧ -4096 ≤ x.2 ∧ x.2 ≤ 4096
theorem vlQ.push {M : List It} {y : Int} (h : vlQ M) (hy : valueB y = true) : vlQ (M ++ [(0, y)]) := by
  intro x hx
  rcases List.mem_append.1 hx with hx | hx
  · exact h x hx
  · simp only [List.mem_singleton] at hx
    subst hx
    exact ⟨rfl, of_decide_eq_true (show decide (-4096 ≤ y ∧ y ≤ 4096) = true from hy)⟩
theorem vlQ.app {M L : List It} (h : vlQ M) (h2 : vlQ L) : vlQ (M ++ L) := fun x hx => (List.mem_append.1 hx).elim (h x) (h2 x)
theorem vlQ.few {M : List It} (h : vlQ M) (hl : M.length ≤ 200) : fewB M = true := by
  unfold fewB
  rw [Bool.and_eq_true, decide_eq_true_eq, List.all_eq_true]
  exact ⟨hl, fun x hx => decide_eq_true (by have := h x hx; omega)⟩
theorem vlQ.mk {M : List It} {n : Nat} (h : vlQ M) (h0 : M ≠ []) (hn : M.length = n) (hl : n ≤ 200) : myM ⟨1, 0, n, suL (M.map (fun x => x.2)), sqL (M.map (fun x => x.2)), mnL (M.map (fun x => x.2)), mxL (M.map (fun x => x.2))⟩ = true ∧ (⟨1, 0, n, suL (M.map (fun x => x.2)), sqL (M.map (fun x => x.2)), mnL (M.map (fun x => x.2)), mxL (M.map (fun x => x.2))⟩ : Mrk) = mkV 1 0 (M.map (fun x => x.2)) := by
  have hm := myM_mkV (sq := 1) (t := 0) (A := M.map (fun x => x.2)) (fun y hy => by
    obtain ⟨x, hx, rfl⟩ := List.mem_map.1 hy
    exact (h x hx).2) (by simpa using h0) (by rw [List.length_map]; omega)
  have e : (⟨1, 0, n, suL (M.map (fun x => x.2)), sqL (M.map (fun x => x.2)), mnL (M.map (fun x => x.2)), mxL (M.map (fun x => x.2))⟩ : Mrk) = mkV 1 0 (M.map (fun x => x.2)) := by
    unfold mkV; rw [List.length_map, hn]
  exact ⟨by rw [e]; exact hm, e⟩
/-- The law's test says that the suffix is close, and then Within holds. -/
theorem late_wi {k : Int} {D B C : List It} {na nb : Nat} (hk : 1 ≤ k ∧ k ≤ 4) (hD : vlQ D) (hB : vlQ B) (hC : vlQ C) (h0 : B ≠ []) (hna : (D ++ B).length = na) (hnb : B.length = nb) (hl : na ≤ 100) (hlC : C.length ≤ 60)
    (hc : clQ k ⟨1, 0, na, suL ((D ++ B).map (fun x => x.2)), sqL ((D ++ B).map (fun x => x.2)), mnL ((D ++ B).map (fun x => x.2)), mxL ((D ++ B).map (fun x => x.2))⟩ ⟨1, 0, nb, suL (B.map (fun x => x.2)), sqL (B.map (fun x => x.2)), mnL (B.map (fun x => x.2)), mxL (B.map (fun x => x.2))⟩ = true) :
    wiB (sprN (B ++ C)) (sprD (B ++ C)) (sprN (B ++ C)) (sprD (B ++ C)) (sprN (D ++ B ++ C)) (sprD (D ++ B ++ C)) k (sprN (B ++ C)) (sprD (B ++ C)) = true ∧ In (sprN (B ++ C)) ∧ In (sprD (B ++ C)) ∧ In (sprN (D ++ B ++ C)) ∧ In (sprD (D ++ B ++ C)) ∧ sprB (B ++ C) = true ∧ sprB (D ++ B ++ C) = true := by
  have hnb2 : nb ≤ na := by rw [← hna, ← hnb, List.length_append]; omega
  obtain ⟨a1, a2⟩ := (hD.app hB).mk (by simp [h0]) hna (by omega)
  obtain ⟨b1, b2⟩ := hB.mk h0 hnb (by omega)
  rw [a2] at a1 hc
  rw [b2] at b1 hc
  exact later_wi hk.1 (fun x hx => (((hD.app hB).app hC) x hx).2) (by rw [List.length_append, hna]; omega) h0 ((clQ_mkV ⟨hk.1, by omega⟩ a1 b1).1 hc)
set_option maxHeartbeats 4000000 in
set_option maxRecDepth 100000 in
theorem values_up (n k : Nat) (A : Option Addr) (L : List It) (mx : Nat) (mi : Int) (e : (mx : Int) = mi) (hmx : mx ≤ 200) (w : World) (hS : Sl w A n L) :
    Calls Try.prog 5 #[.slice A n k, .int .i64 mi] w fun e w' => ∃ A' n' k' M, e = .returned (.slice A' n' k') ∧ n' ≤ mx ∧ vlQ M ∧ Own w w' (.slice A' n' k') n' M ∧ Up w w' := by
  have KV := Lib.hid mvalue_any
  have HS := Lib.hid hS
  have HE := Lib.hid e
  clear hS e
  go_enter Try.func5, Try.ntmps5
  go_wp2_with fail
  go_loopw [5, 6] (fun s u wr => ∃ (i : Nat) (A1 : Option Addr) (k1 : Nat) (M : List It), s = .slice A1 i k1 ∧ u = .int .i64 i ∧ i ≤ mx ∧ Hid (vlQ M) ∧ Hid (Own w wr (.slice A1 i k1) i M) ∧ Hid (Up w wr)) (fun _ u _ => mx - (intOf u).toNat)
  case atStart => exact ⟨0, none, 0, [], rfl, rfl, Nat.zero_le _, Lib.hid (fun x hx => by cases hx), Lib.hid (Own.nil _ _), Lib.hid (Up.refl _)⟩
  case round =>
    obtain ⟨i, A1, k1, M, rfl, rfl, hi, HP, HO, HU⟩ := hrel
    have he := HE.out
    by_cases hlt : i < n
    case neg =>
      have t1 : decide ((i : Int) < n) = false := decide_eq_false (by omega)
      have t1n : decide (i < n) = false := decide_eq_false hlt
      clear he
      go_wp2_with fail
      go_ret
      exact ⟨_, _, _, M, rfl, hi, HP.out, HO.out, HU.out⟩
    have t1 : decide ((i : Int) < n) = true := decide_eq_true (by omega)
    have t1n : decide (i < n) = true := decide_eq_true hlt
    by_cases hl2 : i < mx
    case neg =>
      have t2 : decide ((i : Int) < mi) = false := decide_eq_false (by omega)
      clear he
      go_wp2_with fail
      go_ret
      exact ⟨_, _, _, M, rfl, hi, HP.out, HO.out, HU.out⟩
    have t2 : decide ((i : Int) < mi) = true := decide_eq_true (by omega)
    obtain ⟨b, o, rfl, d0, d1⟩ := (HS.out.up HU.out).at_ hlt
    generalize (L.getD i (0, 0)).1 = p0 at *
    generalize (L.getD i (0, 0)).2 = p1 at *
    have f2 : (i : Int) < n := by omega
    have f3 : (0 : Int) ≤ i := by omega
    have HR : Hid (∀ x : Int, ∃ A2 k2 w2, (Builtin.append_ #[22, 22] 22 #[.slice A1 i k1, .slice (some ⟨wr.heap.size, 0, none⟩) 1 1]).run Try.prog (wr.alloc (.cells #[.int .i64 0, .int .i64 x] 40)) = .ok (.slice A2 (i + 1) k2) w2 ∧ Own w w2 (.slice A2 (i + 1) k2) (i + 1) (M ++ [(0, x)]) ∧ Up w w2) :=
      Lib.hid (fun x => append1I_run 22 w wr A1 i k1 M 0 x HO.out HU.out (by omega))
    clear he
    go_wp2_with (first
      | (go_at_call 12; (with_reducible refine (KV.out _ _).mono ?_); rintro e w' ⟨y, rfl, hy, rfl⟩; have HY := Lib.hid hy; clear hy; obtain ⟨A2, k2, w2, hr, hO2, hU2⟩ := HR.out y; have HO2 := Lib.hid hO2; have HU2 := Lib.hid hU2; clear hO2 hU2)
      | (refine wpList_append_run (o := ⟨some 27, _, _, _, _, _⟩) rfl (.tmp 18) (.tmp 26) _ rfl _ _ rfl rfl _ _ hr ?_))
    go_roundw
    case rel => exact ⟨i + 1, A2, k2, M ++ [(0, y)], rfl, by go_num, by omega, Lib.hid (HP.out.push HY.out), HO2, HU2⟩
    case measure => simp [intOf]; omega

set_option maxHeartbeats 4000000 in
set_option maxRecDepth 100000 in
theorem mark14_up (n k : Nat) (A : Option Addr) (M : List It) (hn : n ≤ 1000) (hv : vlQ M) (w : World) (hS : Sl w A n M) :
    Calls Try.prog 7 #[.slice A n k] w fun e w' => e = .returned (.agg #[.int .i64 1, .int .i64 0, .int .i64 n, .int .i64 (suL (M.map (fun x => x.2))), .int .i64 (sqL (M.map (fun x => x.2))), .int .i64 (mnL (M.map (fun x => x.2))), .int .i64 (mxL (M.map (fun x => x.2)))]) ∧ Up w w' := by
  have HS := Lib.hid hS
  have hI : InI M := fun x hx => by have := hv x hx; unfold In; omega
  have K1 := Lib.hid (fun W (h : Sl W A n M) => rsum_up n k A M (by omega) hI W h)
  have K2 := Lib.hid (fun W (h : Sl W A n M) => rsquaresE_up n k A M (by omega) hI W h)
  have K3 := Lib.hid (fun W (h : Sl W A n M) => rleast_up n k A M (by omega) W h)
  have K4 := Lib.hid (fun W (h : Sl W A n M) => rgreatest_up n k A M (by omega) W h)
  have hb := tr_bd (fun x hx => (hv x hx).2) n
  rw [List.take_of_length_le (by rw [hS.1]; exact Nat.le_refl _), hS.1] at hb
  obtain ⟨_, hb2, hb3, hb4⟩ := hb
  rw [sm_su, show fit (suL (M.map (fun x => x.2))) = suL (M.map (fun x => x.2)) by unfold fit; rw [show fits (suL (M.map (fun x => x.2))) = true from decide_eq_true ⟨by omega, by omega⟩]; rfl] at K1
  rw [sq_sq, show fit (sqL (M.map (fun x => x.2))) = sqL (M.map (fun x => x.2)) by unfold fit; rw [show fits (sqL (M.map (fun x => x.2))) = true from decide_eq_true ⟨by omega, by omega⟩]; rfl] at K2
  obtain ⟨b3, e3⟩ : ∃ b, leE M = got (mnL (M.map (fun x => x.2))) b := by
    by_cases h0 : M = []
    · subst h0; exact ⟨false, if_pos rfl⟩
    · exact ⟨true, by unfold leE; rw [if_neg h0, leZ_list h0]⟩
  obtain ⟨b4, e4⟩ : ∃ b, grE M = got (mxL (M.map (fun x => x.2))) b := by
    by_cases h0 : M = []
    · subst h0; exact ⟨false, if_pos rfl⟩
    · exact ⟨true, by unfold grE; rw [if_neg h0, grZ_list h0]⟩
  rw [e3] at K3
  rw [e4] at K4
  generalize fits (suL (M.map (fun x => x.2))) = b1 at *
  generalize fits (sqL (M.map (fun x => x.2))) = b2 at *
  generalize suL (M.map (fun x => x.2)) = su at *
  generalize sqL (M.map (fun x => x.2)) = sq_ at *
  generalize mnL (M.map (fun x => x.2)) = mn at *
  generalize mxL (M.map (fun x => x.2)) = mx at *
  unfold got at K1 K2 K3 K4
  clear hS hI hb2 hb3 hb4 e3 e4 hv
  go_enter Try.func7, Try.ntmps7
  go_upto_region 2 with fail
  refine (show ∀ W0 : World, W0 = _ → Code.wp _ _ _ _ W0 from fun W0 hW0 => ?_) _ rfl
  have r0 : W0.cell? ⟨w.heap.size, 0, none⟩ = some (.int .i64 0) := by rw [hW0]; simp [go_sem]
  have r1 : W0.cell? ⟨w.heap.size, 1, none⟩ = some (.int .i64 0) := by rw [hW0]; simp [go_sem]
  have r2 : W0.cell? ⟨w.heap.size, 2, none⟩ = some (.int .i64 0) := by rw [hW0]; simp [go_sem]
  have r3 : W0.cell? ⟨w.heap.size, 3, none⟩ = some (.int .i64 0) := by rw [hW0]; simp [go_sem]
  have r4 : W0.cell? ⟨w.heap.size, 4, none⟩ = some (.int .i64 0) := by rw [hW0]; simp [go_sem]
  have r5 : W0.cell? ⟨w.heap.size, 5, none⟩ = some (.int .i64 0) := by rw [hW0]; simp [go_sem]
  have r6 : W0.cell? ⟨w.heap.size, 6, none⟩ = some (.int .i64 0) := by rw [hW0]; simp [go_sem]
  have m0 : W0.cell? ⟨w.heap.size + 1, 0, none⟩ = some (.int .i64 1) := by rw [hW0]; simp [go_sem]
  have m1 : W0.cell? ⟨w.heap.size + 1, 1, none⟩ = some (.int .i64 0) := by rw [hW0]; simp [go_sem]
  have m2 : W0.cell? ⟨w.heap.size + 1, 2, none⟩ = some (.int .i64 n) := by rw [hW0]; simp [go_sem]
  have m3 : W0.cell? ⟨w.heap.size + 1, 3, none⟩ = some (.int .i64 0) := by rw [hW0]; simp [go_sem]
  have m4 : W0.cell? ⟨w.heap.size + 1, 4, none⟩ = some (.int .i64 0) := by rw [hW0]; simp [go_sem]
  have m5 : W0.cell? ⟨w.heap.size + 1, 5, none⟩ = some (.int .i64 0) := by rw [hW0]; simp [go_sem]
  have m6 : W0.cell? ⟨w.heap.size + 1, 6, none⟩ = some (.int .i64 0) := by rw [hW0]; simp [go_sem]
  have HW : Hid (Up w W0) := Lib.hid (by rw [hW0]; exact ((Up.refl w).alloc _ _).alloc _ _)
  clear hW0
  go_upto_region 3 with (go_at_call 16; (with_reducible refine (K1.out _ (HS.out.up HW.out)).mono ?_); rintro e u0 ⟨rfl, hu⟩; have HW := Lib.hid (HW.out.trans hu); have r0 := hu.keep _ _ _ r0; have r1 := hu.keep _ _ _ r1; have r2 := hu.keep _ _ _ r2; have r3 := hu.keep _ _ _ r3; have r4 := hu.keep _ _ _ r4; have r5 := hu.keep _ _ _ r5; have r6 := hu.keep _ _ _ r6; have m0 := hu.keep _ _ _ m0; have m1 := hu.keep _ _ _ m1; have m2 := hu.keep _ _ _ m2; have m3 := hu.keep _ _ _ m3; have m4 := hu.keep _ _ _ m4; have m5 := hu.keep _ _ _ m5; have m6 := hu.keep _ _ _ m6; have zm3 := HW.out.ownGe (g := w.heap.size + 1) (by omega) 3; clear hu)
  refine (show ∀ W1 : World, W1 = _ → Code.wp _ _ _ _ W1 from fun W1 hW1 => ?_) _ rfl
  have r0_ : W1.cell? ⟨w.heap.size, 0, none⟩ = some (.int .i64 0) := by rw [hW1]; exact (cell_far (by show w.heap.size + 1 ≠ w.heap.size; omega)).trans r0
  have r1_ : W1.cell? ⟨w.heap.size, 1, none⟩ = some (.int .i64 0) := by rw [hW1]; exact (cell_far (by show w.heap.size + 1 ≠ w.heap.size; omega)).trans r1
  have r2_ : W1.cell? ⟨w.heap.size, 2, none⟩ = some (.int .i64 0) := by rw [hW1]; exact (cell_far (by show w.heap.size + 1 ≠ w.heap.size; omega)).trans r2
  have r3_ : W1.cell? ⟨w.heap.size, 3, none⟩ = some (.int .i64 0) := by rw [hW1]; exact (cell_far (by show w.heap.size + 1 ≠ w.heap.size; omega)).trans r3
  have r4_ : W1.cell? ⟨w.heap.size, 4, none⟩ = some (.int .i64 0) := by rw [hW1]; exact (cell_far (by show w.heap.size + 1 ≠ w.heap.size; omega)).trans r4
  have r5_ : W1.cell? ⟨w.heap.size, 5, none⟩ = some (.int .i64 0) := by rw [hW1]; exact (cell_far (by show w.heap.size + 1 ≠ w.heap.size; omega)).trans r5
  have r6_ : W1.cell? ⟨w.heap.size, 6, none⟩ = some (.int .i64 0) := by rw [hW1]; exact (cell_far (by show w.heap.size + 1 ≠ w.heap.size; omega)).trans r6
  have m0_ : W1.cell? ⟨w.heap.size + 1, 0, none⟩ = some (.int .i64 1) := by rw [hW1]; simp [go_sem, m0]
  have m1_ : W1.cell? ⟨w.heap.size + 1, 1, none⟩ = some (.int .i64 0) := by rw [hW1]; simp [go_sem, m1]
  have m2_ : W1.cell? ⟨w.heap.size + 1, 2, none⟩ = some (.int .i64 n) := by rw [hW1]; simp [go_sem, m2]
  have m3_ : W1.cell? ⟨w.heap.size + 1, 3, none⟩ = some (.int .i64 su) := by rw [hW1]; simp [go_sem, m3]
  have m4_ : W1.cell? ⟨w.heap.size + 1, 4, none⟩ = some (.int .i64 0) := by rw [hW1]; simp [go_sem, m4]
  have m5_ : W1.cell? ⟨w.heap.size + 1, 5, none⟩ = some (.int .i64 0) := by rw [hW1]; simp [go_sem, m5]
  have m6_ : W1.cell? ⟨w.heap.size + 1, 6, none⟩ = some (.int .i64 0) := by rw [hW1]; simp [go_sem, m6]
  have HW := Lib.hid (show Up w W1 by rw [hW1]; exact HW.out.setCell (by show w.heap.size ≤ w.heap.size + 1; omega) _)
  clear hW1 zm3 r0 r1 r2 r3 r4 r5 r6 m0 m1 m2 m3 m4 m5 m6
  have r0 := r0_
  have r1 := r1_
  have r2 := r2_
  have r3 := r3_
  have r4 := r4_
  have r5 := r5_
  have r6 := r6_
  have m0 := m0_
  have m1 := m1_
  have m2 := m2_
  have m3 := m3_
  have m4 := m4_
  have m5 := m5_
  have m6 := m6_
  clear r0_ r1_ r2_ r3_ r4_ r5_ r6_ m0_ m1_ m2_ m3_ m4_ m5_ m6_
  go_upto_region 4 with (go_at_call 17; (with_reducible refine (K2.out _ (HS.out.up HW.out)).mono ?_); rintro e u1 ⟨rfl, hu⟩; have HW := Lib.hid (HW.out.trans hu); have r0 := hu.keep _ _ _ r0; have r1 := hu.keep _ _ _ r1; have r2 := hu.keep _ _ _ r2; have r3 := hu.keep _ _ _ r3; have r4 := hu.keep _ _ _ r4; have r5 := hu.keep _ _ _ r5; have r6 := hu.keep _ _ _ r6; have m0 := hu.keep _ _ _ m0; have m1 := hu.keep _ _ _ m1; have m2 := hu.keep _ _ _ m2; have m3 := hu.keep _ _ _ m3; have m4 := hu.keep _ _ _ m4; have m5 := hu.keep _ _ _ m5; have m6 := hu.keep _ _ _ m6; have zm4 := HW.out.ownGe (g := w.heap.size + 1) (by omega) 4; clear hu)
  refine (show ∀ W2 : World, W2 = _ → Code.wp _ _ _ _ W2 from fun W2 hW2 => ?_) _ rfl
  have r0_ : W2.cell? ⟨w.heap.size, 0, none⟩ = some (.int .i64 0) := by rw [hW2]; exact (cell_far (by show w.heap.size + 1 ≠ w.heap.size; omega)).trans r0
  have r1_ : W2.cell? ⟨w.heap.size, 1, none⟩ = some (.int .i64 0) := by rw [hW2]; exact (cell_far (by show w.heap.size + 1 ≠ w.heap.size; omega)).trans r1
  have r2_ : W2.cell? ⟨w.heap.size, 2, none⟩ = some (.int .i64 0) := by rw [hW2]; exact (cell_far (by show w.heap.size + 1 ≠ w.heap.size; omega)).trans r2
  have r3_ : W2.cell? ⟨w.heap.size, 3, none⟩ = some (.int .i64 0) := by rw [hW2]; exact (cell_far (by show w.heap.size + 1 ≠ w.heap.size; omega)).trans r3
  have r4_ : W2.cell? ⟨w.heap.size, 4, none⟩ = some (.int .i64 0) := by rw [hW2]; exact (cell_far (by show w.heap.size + 1 ≠ w.heap.size; omega)).trans r4
  have r5_ : W2.cell? ⟨w.heap.size, 5, none⟩ = some (.int .i64 0) := by rw [hW2]; exact (cell_far (by show w.heap.size + 1 ≠ w.heap.size; omega)).trans r5
  have r6_ : W2.cell? ⟨w.heap.size, 6, none⟩ = some (.int .i64 0) := by rw [hW2]; exact (cell_far (by show w.heap.size + 1 ≠ w.heap.size; omega)).trans r6
  have m0_ : W2.cell? ⟨w.heap.size + 1, 0, none⟩ = some (.int .i64 1) := by rw [hW2]; simp [go_sem, m0]
  have m1_ : W2.cell? ⟨w.heap.size + 1, 1, none⟩ = some (.int .i64 0) := by rw [hW2]; simp [go_sem, m1]
  have m2_ : W2.cell? ⟨w.heap.size + 1, 2, none⟩ = some (.int .i64 n) := by rw [hW2]; simp [go_sem, m2]
  have m3_ : W2.cell? ⟨w.heap.size + 1, 3, none⟩ = some (.int .i64 su) := by rw [hW2]; simp [go_sem, m3]
  have m4_ : W2.cell? ⟨w.heap.size + 1, 4, none⟩ = some (.int .i64 sq_) := by rw [hW2]; simp [go_sem, m4]
  have m5_ : W2.cell? ⟨w.heap.size + 1, 5, none⟩ = some (.int .i64 0) := by rw [hW2]; simp [go_sem, m5]
  have m6_ : W2.cell? ⟨w.heap.size + 1, 6, none⟩ = some (.int .i64 0) := by rw [hW2]; simp [go_sem, m6]
  have HW := Lib.hid (show Up w W2 by rw [hW2]; exact HW.out.setCell (by show w.heap.size ≤ w.heap.size + 1; omega) _)
  clear hW2 zm4 r0 r1 r2 r3 r4 r5 r6 m0 m1 m2 m3 m4 m5 m6
  have r0 := r0_
  have r1 := r1_
  have r2 := r2_
  have r3 := r3_
  have r4 := r4_
  have r5 := r5_
  have r6 := r6_
  have m0 := m0_
  have m1 := m1_
  have m2 := m2_
  have m3 := m3_
  have m4 := m4_
  have m5 := m5_
  have m6 := m6_
  clear r0_ r1_ r2_ r3_ r4_ r5_ r6_ m0_ m1_ m2_ m3_ m4_ m5_ m6_
  go_upto_region 5 with (go_at_call 18; (with_reducible refine (K3.out _ (HS.out.up HW.out)).mono ?_); rintro e u2 ⟨rfl, hu⟩; have HW := Lib.hid (HW.out.trans hu); have r0 := hu.keep _ _ _ r0; have r1 := hu.keep _ _ _ r1; have r2 := hu.keep _ _ _ r2; have r3 := hu.keep _ _ _ r3; have r4 := hu.keep _ _ _ r4; have r5 := hu.keep _ _ _ r5; have r6 := hu.keep _ _ _ r6; have m0 := hu.keep _ _ _ m0; have m1 := hu.keep _ _ _ m1; have m2 := hu.keep _ _ _ m2; have m3 := hu.keep _ _ _ m3; have m4 := hu.keep _ _ _ m4; have m5 := hu.keep _ _ _ m5; have m6 := hu.keep _ _ _ m6; have zm5 := HW.out.ownGe (g := w.heap.size + 1) (by omega) 5; clear hu)
  refine (show ∀ W3 : World, W3 = _ → Code.wp _ _ _ _ W3 from fun W3 hW3 => ?_) _ rfl
  have r0_ : W3.cell? ⟨w.heap.size, 0, none⟩ = some (.int .i64 0) := by rw [hW3]; exact (cell_far (by show w.heap.size + 1 ≠ w.heap.size; omega)).trans r0
  have r1_ : W3.cell? ⟨w.heap.size, 1, none⟩ = some (.int .i64 0) := by rw [hW3]; exact (cell_far (by show w.heap.size + 1 ≠ w.heap.size; omega)).trans r1
  have r2_ : W3.cell? ⟨w.heap.size, 2, none⟩ = some (.int .i64 0) := by rw [hW3]; exact (cell_far (by show w.heap.size + 1 ≠ w.heap.size; omega)).trans r2
  have r3_ : W3.cell? ⟨w.heap.size, 3, none⟩ = some (.int .i64 0) := by rw [hW3]; exact (cell_far (by show w.heap.size + 1 ≠ w.heap.size; omega)).trans r3
  have r4_ : W3.cell? ⟨w.heap.size, 4, none⟩ = some (.int .i64 0) := by rw [hW3]; exact (cell_far (by show w.heap.size + 1 ≠ w.heap.size; omega)).trans r4
  have r5_ : W3.cell? ⟨w.heap.size, 5, none⟩ = some (.int .i64 0) := by rw [hW3]; exact (cell_far (by show w.heap.size + 1 ≠ w.heap.size; omega)).trans r5
  have r6_ : W3.cell? ⟨w.heap.size, 6, none⟩ = some (.int .i64 0) := by rw [hW3]; exact (cell_far (by show w.heap.size + 1 ≠ w.heap.size; omega)).trans r6
  have m0_ : W3.cell? ⟨w.heap.size + 1, 0, none⟩ = some (.int .i64 1) := by rw [hW3]; simp [go_sem, m0]
  have m1_ : W3.cell? ⟨w.heap.size + 1, 1, none⟩ = some (.int .i64 0) := by rw [hW3]; simp [go_sem, m1]
  have m2_ : W3.cell? ⟨w.heap.size + 1, 2, none⟩ = some (.int .i64 n) := by rw [hW3]; simp [go_sem, m2]
  have m3_ : W3.cell? ⟨w.heap.size + 1, 3, none⟩ = some (.int .i64 su) := by rw [hW3]; simp [go_sem, m3]
  have m4_ : W3.cell? ⟨w.heap.size + 1, 4, none⟩ = some (.int .i64 sq_) := by rw [hW3]; simp [go_sem, m4]
  have m5_ : W3.cell? ⟨w.heap.size + 1, 5, none⟩ = some (.int .i64 mn) := by rw [hW3]; simp [go_sem, m5]
  have m6_ : W3.cell? ⟨w.heap.size + 1, 6, none⟩ = some (.int .i64 0) := by rw [hW3]; simp [go_sem, m6]
  have HW := Lib.hid (show Up w W3 by rw [hW3]; exact HW.out.setCell (by show w.heap.size ≤ w.heap.size + 1; omega) _)
  clear hW3 zm5 r0 r1 r2 r3 r4 r5 r6 m0 m1 m2 m3 m4 m5 m6
  have r0 := r0_
  have r1 := r1_
  have r2 := r2_
  have r3 := r3_
  have r4 := r4_
  have r5 := r5_
  have r6 := r6_
  have m0 := m0_
  have m1 := m1_
  have m2 := m2_
  have m3 := m3_
  have m4 := m4_
  have m5 := m5_
  have m6 := m6_
  clear r0_ r1_ r2_ r3_ r4_ r5_ r6_ m0_ m1_ m2_ m3_ m4_ m5_ m6_
  go_upto_region 6 with (go_at_call 18; (with_reducible refine (K4.out _ (HS.out.up HW.out)).mono ?_); rintro e u3 ⟨rfl, hu⟩; have HW := Lib.hid (HW.out.trans hu); have r0 := hu.keep _ _ _ r0; have r1 := hu.keep _ _ _ r1; have r2 := hu.keep _ _ _ r2; have r3 := hu.keep _ _ _ r3; have r4 := hu.keep _ _ _ r4; have r5 := hu.keep _ _ _ r5; have r6 := hu.keep _ _ _ r6; have m0 := hu.keep _ _ _ m0; have m1 := hu.keep _ _ _ m1; have m2 := hu.keep _ _ _ m2; have m3 := hu.keep _ _ _ m3; have m4 := hu.keep _ _ _ m4; have m5 := hu.keep _ _ _ m5; have m6 := hu.keep _ _ _ m6; have zm6 := HW.out.ownGe (g := w.heap.size + 1) (by omega) 6; clear hu)
  refine (show ∀ W4 : World, W4 = _ → Code.wp _ _ _ _ W4 from fun W4 hW4 => ?_) _ rfl
  have r0_ : W4.cell? ⟨w.heap.size, 0, none⟩ = some (.int .i64 0) := by rw [hW4]; exact (cell_far (by show w.heap.size + 1 ≠ w.heap.size; omega)).trans r0
  have r1_ : W4.cell? ⟨w.heap.size, 1, none⟩ = some (.int .i64 0) := by rw [hW4]; exact (cell_far (by show w.heap.size + 1 ≠ w.heap.size; omega)).trans r1
  have r2_ : W4.cell? ⟨w.heap.size, 2, none⟩ = some (.int .i64 0) := by rw [hW4]; exact (cell_far (by show w.heap.size + 1 ≠ w.heap.size; omega)).trans r2
  have r3_ : W4.cell? ⟨w.heap.size, 3, none⟩ = some (.int .i64 0) := by rw [hW4]; exact (cell_far (by show w.heap.size + 1 ≠ w.heap.size; omega)).trans r3
  have r4_ : W4.cell? ⟨w.heap.size, 4, none⟩ = some (.int .i64 0) := by rw [hW4]; exact (cell_far (by show w.heap.size + 1 ≠ w.heap.size; omega)).trans r4
  have r5_ : W4.cell? ⟨w.heap.size, 5, none⟩ = some (.int .i64 0) := by rw [hW4]; exact (cell_far (by show w.heap.size + 1 ≠ w.heap.size; omega)).trans r5
  have r6_ : W4.cell? ⟨w.heap.size, 6, none⟩ = some (.int .i64 0) := by rw [hW4]; exact (cell_far (by show w.heap.size + 1 ≠ w.heap.size; omega)).trans r6
  have m0_ : W4.cell? ⟨w.heap.size + 1, 0, none⟩ = some (.int .i64 1) := by rw [hW4]; simp [go_sem, m0]
  have m1_ : W4.cell? ⟨w.heap.size + 1, 1, none⟩ = some (.int .i64 0) := by rw [hW4]; simp [go_sem, m1]
  have m2_ : W4.cell? ⟨w.heap.size + 1, 2, none⟩ = some (.int .i64 n) := by rw [hW4]; simp [go_sem, m2]
  have m3_ : W4.cell? ⟨w.heap.size + 1, 3, none⟩ = some (.int .i64 su) := by rw [hW4]; simp [go_sem, m3]
  have m4_ : W4.cell? ⟨w.heap.size + 1, 4, none⟩ = some (.int .i64 sq_) := by rw [hW4]; simp [go_sem, m4]
  have m5_ : W4.cell? ⟨w.heap.size + 1, 5, none⟩ = some (.int .i64 mn) := by rw [hW4]; simp [go_sem, m5]
  have m6_ : W4.cell? ⟨w.heap.size + 1, 6, none⟩ = some (.int .i64 mx) := by rw [hW4]; simp [go_sem, m6]
  have HW := Lib.hid (show Up w W4 by rw [hW4]; exact HW.out.setCell (by show w.heap.size ≤ w.heap.size + 1; omega) _)
  clear hW4 zm6 r0 r1 r2 r3 r4 r5 r6 m0 m1 m2 m3 m4 m5 m6
  have r0 := r0_
  have r1 := r1_
  have r2 := r2_
  have r3 := r3_
  have r4 := r4_
  have r5 := r5_
  have r6 := r6_
  have m0 := m0_
  have m1 := m1_
  have m2 := m2_
  have m3 := m3_
  have m4 := m4_
  have m5 := m5_
  have m6 := m6_
  clear r0_ r1_ r2_ r3_ r4_ r5_ r6_ m0_ m1_ m2_ m3_ m4_ m5_ m6_
  have z0 := HW.out.ownGe (g := w.heap.size) (Nat.le_refl _) 0
  have z1 := HW.out.ownGe (g := w.heap.size) (Nat.le_refl _) 1
  have z2 := HW.out.ownGe (g := w.heap.size) (Nat.le_refl _) 2
  have z3 := HW.out.ownGe (g := w.heap.size) (Nat.le_refl _) 3
  have z4 := HW.out.ownGe (g := w.heap.size) (Nat.le_refl _) 4
  have z5 := HW.out.ownGe (g := w.heap.size) (Nat.le_refl _) 5
  have z6 := HW.out.ownGe (g := w.heap.size) (Nat.le_refl _) 6
  go_wp2_with fail
  refine bodyPost_ret (v := .agg #[.int .i64 1, .int .i64 0, .int .i64 n, .int .i64 su, .int .i64 sq_, .int .i64 mn, .int .i64 mx]) (by simp [results, Try.results7, go_sem, r0, r1, r2, r3, r4, r5, r6]) rfl ⟨rfl, ?_⟩
  exact HW.out.set7 (Nat.le_refl _)
end Go.Proofs.Ytafkoddgefcpnab
