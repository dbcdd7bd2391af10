/- The items that the laws of package smooth play, and their aggregate as the laws count it. -/
import Derived.Test.YtafkoddgefcpnaaRows
import Derived.Test.YtafkoddgefcpnaaZFMadeq282
import Derived.Test.YtafkoddgefcpnaaZJPosq288
namespace Go.Proofs.Ytafkoddgefcpnaa
open Go.RowKit
set_option linter.unusedVariables false

set_option maxHeartbeats 4000000 in
set_option maxRecDepth 100000 in
theorem truth13_1 (n k : Nat) (A : Option Addr) (M : List It) (hn : n ≤ 1000) (hv : ∀ x ∈ M, -4096 ≤ x.2 ∧ x.2 ≤ 4096) (w : World) (hS : Sl w A n M) :
    Calls Try.prog 35 #[.slice A n k, .int .i64 1] w fun e w' => e = .returned (.int .i64 (((M.map (fun x => x.2)).length : Int))) ∧ Up w w' := by
  have HS := Lib.hid hS
  have HL := Lib.hid hS.1
  have HB := Lib.hid (tr_bd hv)
  have HVv := Lib.hid hv
  obtain ⟨R, eR⟩ : ∃ R : Int, ((M.map (fun x => x.2)).length : Int) = R := ⟨_, rfl⟩
  rw [eR]
  have HR := Lib.hid eR
  clear eR
  clear hS hv
  go_enter Try.func35, Try.ntmps35
  go_wp2
  go_loopw [5, 14] (fun s t wr => ∃ (i : Nat) (y : Int), s = .int .i64 y ∧ t = .int .i64 i ∧ i ≤ n ∧ Hid (y = (((M.take i).map (fun x => x.2)).length : Int)) ∧ Hid (Up w wr)) (fun _ t _ => n - (intOf t).toNat)
  case atStart => exact ⟨0, 0, rfl, rfl, Nat.zero_le _, Lib.hid rfl, Lib.hid (Up.refl _)⟩
  case round =>
    obtain ⟨i, y, rfl, rfl, hi_, HY, HU⟩ := hrel
    obtain ⟨r1, r2, r3, r4⟩ := HB.out i
    by_cases hlt : i < n
    · obtain ⟨b, o, rfl, d0, d1⟩ := (HS.out.up HU.out).at_ hlt
      have hml : i < M.length := by rw [HL.out]; exact hlt
      have HT := Lib.hid (tr_take hml)
      have hmem := HVv.out (M.getD i (0, 0)) (by rw [List.getD_eq_getElem?_getD, List.getElem?_eq_getElem hml]; exact List.getElem_mem hml)
      have hq1 := hmem.1
      have hq2 := hmem.2
      have hL := HL.out
      generalize (M.getD i (0, 0)).2 = p1 at *
      generalize (M.getD i (0, 0)).1 = p0 at *
      have f2 : (i : Int) < n := by omega
      have f3 : (0 : Int) ≤ i := by omega
      have hy := HY.out
      have k9 : IntKind.i64.wrap (y + 1) = y + 1 := IntWalk.i64_in _ (by omega)
      have HN : Hid (y + 1 = (((M.take (i + 1)).map (fun x => x.2)).length : Int)) := Lib.hid (by rw [HT.out, List.length_append, List.length_singleton, HY.out]; omega)
      clear hy hmem r1 r2 r3 r4 hL HY HT
      clear hml
      go_wp2_with fail
      go_roundw
      case rel => exact ⟨i + 1, y + 1, rfl, by go_num, by omega, HN, Lib.hid (HU.out.alloc _ _)⟩
      case measure => simp [intOf]; omega
    · obtain rfl : i = n := by omega
      obtain rfl : y = R := by rw [HY.out, ← HR.out, List.take_of_length_le (by rw [HL.out]; exact Nat.le_refl _)]
      clear HY HR r1 r2 r3 r4
      go_wp2_with fail
      go_ret
      exact ⟨rfl, HU.out⟩

set_option maxHeartbeats 4000000 in
set_option maxRecDepth 100000 in
theorem truth13_2 (n k : Nat) (A : Option Addr) (M : List It) (hn : n ≤ 1000) (hv : ∀ x ∈ M, -4096 ≤ x.2 ∧ x.2 ≤ 4096) (w : World) (hS : Sl w A n M) :
    Calls Try.prog 35 #[.slice A n k, .int .i64 2] w fun e w' => e = .returned (.int .i64 (suL (M.map (fun x => x.2)))) ∧ Up w w' := by
  have HS := Lib.hid hS
  have HL := Lib.hid hS.1
  have HB := Lib.hid (tr_bd hv)
  have HVv := Lib.hid hv
  obtain ⟨R, eR⟩ : ∃ R : Int, suL (M.map (fun x => x.2)) = R := ⟨_, rfl⟩
  rw [eR]
  have HR := Lib.hid eR
  clear eR
  clear hS hv
  go_enter Try.func35, Try.ntmps35
  go_wp2
  go_loopw [5, 14] (fun s t wr => ∃ (i : Nat) (y : Int), s = .int .i64 y ∧ t = .int .i64 i ∧ i ≤ n ∧ Hid (y = suL ((M.take i).map (fun x => x.2))) ∧ Hid (Up w wr)) (fun _ t _ => n - (intOf t).toNat)
  case atStart => exact ⟨0, 0, rfl, rfl, Nat.zero_le _, Lib.hid rfl, Lib.hid (Up.refl _)⟩
  case round =>
    obtain ⟨i, y, rfl, rfl, hi_, HY, HU⟩ := hrel
    obtain ⟨r1, r2, r3, r4⟩ := HB.out i
    by_cases hlt : i < n
    · obtain ⟨b, o, rfl, d0, d1⟩ := (HS.out.up HU.out).at_ hlt
      have hml : i < M.length := by rw [HL.out]; exact hlt
      have HT := Lib.hid (tr_take hml)
      have hmem := HVv.out (M.getD i (0, 0)) (by rw [List.getD_eq_getElem?_getD, List.getElem?_eq_getElem hml]; exact List.getElem_mem hml)
      have hq1 := hmem.1
      have hq2 := hmem.2
      have hL := HL.out
      generalize (M.getD i (0, 0)).2 = p1 at *
      generalize (M.getD i (0, 0)).1 = p0 at *
      have f2 : (i : Int) < n := by omega
      have f3 : (0 : Int) ≤ i := by omega
      have hy := HY.out
      have k9 : IntKind.i64.wrap (y + p1) = y + p1 := IntWalk.i64_in _ (by omega)
      have HN : Hid (y + p1 = suL ((M.take (i + 1)).map (fun x => x.2))) := Lib.hid (by rw [HT.out, suL_push, HY.out])
      clear hy hmem r1 r2 r3 r4 hL HY HT
      clear hml
      go_wp2_with fail
      go_roundw
      case rel => exact ⟨i + 1, y + p1, rfl, by go_num, by omega, HN, Lib.hid (HU.out.alloc _ _)⟩
      case measure => simp [intOf]; omega
    · obtain rfl : i = n := by omega
      obtain rfl : y = R := by rw [HY.out, ← HR.out, List.take_of_length_le (by rw [HL.out]; exact Nat.le_refl _)]
      clear HY HR r1 r2 r3 r4
      go_wp2_with fail
      go_ret
      exact ⟨rfl, HU.out⟩

set_option maxHeartbeats 4000000 in
set_option maxRecDepth 100000 in
theorem truth13_3 (n k : Nat) (A : Option Addr) (M : List It) (hn : n ≤ 1000) (hv : ∀ x ∈ M, -4096 ≤ x.2 ∧ x.2 ≤ 4096) (w : World) (hS : Sl w A n M) :
    Calls Try.prog 35 #[.slice A n k, .int .i64 3] w fun e w' => e = .returned (.int .i64 (sqL (M.map (fun x => x.2)))) ∧ Up w w' := by
  have HS := Lib.hid hS
  have HL := Lib.hid hS.1
  have HB := Lib.hid (tr_bd hv)
  have HVv := Lib.hid hv
  obtain ⟨R, eR⟩ : ∃ R : Int, sqL (M.map (fun x => x.2)) = R := ⟨_, rfl⟩
  rw [eR]
  have HR := Lib.hid eR
  clear eR
  clear hS hv
  go_enter Try.func35, Try.ntmps35
  go_wp2
  go_loopw [5, 14] (fun s t wr => ∃ (i : Nat) (y : Int), s = .int .i64 y ∧ t = .int .i64 i ∧ i ≤ n ∧ Hid (y = sqL ((M.take i).map (fun x => x.2))) ∧ Hid (Up w wr)) (fun _ t _ => n - (intOf t).toNat)
  case atStart => exact ⟨0, 0, rfl, rfl, Nat.zero_le _, Lib.hid rfl, Lib.hid (Up.refl _)⟩
  case round =>
    obtain ⟨i, y, rfl, rfl, hi_, HY, HU⟩ := hrel
    obtain ⟨r1, r2, r3, r4⟩ := HB.out i
    by_cases hlt : i < n
    · obtain ⟨b, o, rfl, d0, d1⟩ := (HS.out.up HU.out).at_ hlt
      have hml : i < M.length := by rw [HL.out]; exact hlt
      have HT := Lib.hid (tr_take hml)
      have hmem := HVv.out (M.getD i (0, 0)) (by rw [List.getD_eq_getElem?_getD, List.getElem?_eq_getElem hml]; exact List.getElem_mem hml)
      have hq1 := hmem.1
      have hq2 := hmem.2
      have hL := HL.out
      generalize (M.getD i (0, 0)).2 = p1 at *
      generalize (M.getD i (0, 0)).1 = p0 at *
      have f2 : (i : Int) < n := by omega
      have f3 : (0 : Int) ≤ i := by omega
      have hy := HY.out
      have hs := sq_bd hq1 hq2
      have hs0 := sq_nn p1
      have HN : Hid (y + p1 * p1 = sqL ((M.take (i + 1)).map (fun x => x.2))) := Lib.hid (by rw [HT.out, sqL_push, HY.out])
      obtain ⟨ss, es⟩ : ∃ s, p1 * p1 = s := ⟨_, rfl⟩
      rw [es] at hs hs0 HN
      have k8 : IntKind.i64.wrap (p1 * p1) = ss := by rw [es]; exact IntWalk.i64_in _ (by omega)
      have k9 : IntKind.i64.wrap (y + ss) = y + ss := IntWalk.i64_in _ (by omega)
      clear hy hmem r1 r2 r3 r4 hL HY HT hs hs0 es
      clear hml
      go_wp2_with fail
      go_roundw
      case rel => exact ⟨i + 1, y + ss, rfl, by go_num, by omega, HN, Lib.hid (HU.out.alloc _ _)⟩
      case measure => simp [intOf]; omega
    · obtain rfl : i = n := by omega
      obtain rfl : y = R := by rw [HY.out, ← HR.out, List.take_of_length_le (by rw [HL.out]; exact Nat.le_refl _)]
      clear HY HR r1 r2 r3 r4
      go_wp2_with fail
      go_ret
      exact ⟨rfl, HU.out⟩

set_option maxHeartbeats 4000000 in
set_option maxRecDepth 100000 in
theorem truth13_4 (n k : Nat) (A : Option Addr) (M : List It) (hn : n ≤ 1000) (hv : ∀ x ∈ M, -4096 ≤ x.2 ∧ x.2 ≤ 4096) (w : World) (hS : Sl w A n M) :
    Calls Try.prog 35 #[.slice A n k, .int .i64 4] w fun e w' => e = .returned (.int .i64 (mxL (M.map (fun x => x.2)) - mnL (M.map (fun x => x.2)))) ∧ Up w w' := by
  have HS := Lib.hid hS
  have HL := Lib.hid hS.1
  have HB := Lib.hid (tr_bd hv)
  have HVv := Lib.hid hv
  have KL := Lib.hid (fun W (h : Sl W A n M) => rleast_up n k A M (by omega) W h)
  have KG := Lib.hid (fun W (h : Sl W A n M) => rgreatest_up n k A M (by omega) W h)
  obtain ⟨lo, hi, b1, e1, e2, e3, q1, q2, q3, q4⟩ : ∃ lo hi b, leE M = got lo b ∧ grE M = got hi b ∧ mxL (M.map (fun x => x.2)) - mnL (M.map (fun x => x.2)) = hi - lo ∧ -4096 ≤ lo ∧ lo ≤ 4096 ∧ -4096 ≤ hi ∧ hi ≤ 4096 := by
    by_cases h0 : M = []
    · subst h0
      exact ⟨0, 0, false, if_pos rfl, if_pos rfl, rfl, by omega, by omega, by omega, by omega⟩
    · have hne : M.map (fun x => x.2) ≠ [] := by simpa using h0
      have hm : ∀ y ∈ M.map (fun x => x.2), -4096 ≤ y ∧ y ≤ 4096 := fun y hy => by
        obtain ⟨x, hx, rfl⟩ := List.mem_map.1 hy
        exact hv x hx
      have a1 := hm _ (mnL_mem hne)
      have a2 := hm _ (mxL_mem hne)
      exact ⟨_, _, true, if_neg h0, if_neg h0, by rw [leZ_list h0, grZ_list h0], by rw [leZ_list h0]; exact a1.1, by rw [leZ_list h0]; exact a1.2, by rw [grZ_list h0]; exact a2.1, by rw [grZ_list h0]; exact a2.2⟩
  rw [e1] at KL
  rw [e2] at KG
  rw [e3]
  clear e1 e2 e3
  have w4_ : IntKind.i64.wrap (hi - lo) = hi - lo := IntWalk.i64_in _ (by omega)
  clear hS hv
  go_enter Try.func35, Try.ntmps35
  go_wp2
  go_loopw [5, 14] (fun s t wr => ∃ (i : Nat) (y : Int), s = .int .i64 y ∧ t = .int .i64 i ∧ i ≤ n ∧ Hid (y = (0 : Int)) ∧ Hid (Up w wr)) (fun _ t _ => n - (intOf t).toNat)
  case atStart => exact ⟨0, 0, rfl, rfl, Nat.zero_le _, Lib.hid rfl, Lib.hid (Up.refl _)⟩
  case round =>
    obtain ⟨i, y, rfl, rfl, hi_, HY, HU⟩ := hrel
    obtain ⟨r1, r2, r3, r4⟩ := HB.out i
    by_cases hlt : i < n
    · obtain ⟨b, o, rfl, d0, d1⟩ := (HS.out.up HU.out).at_ hlt
      have hml : i < M.length := by rw [HL.out]; exact hlt
      have HT := Lib.hid (tr_take hml)
      have hmem := HVv.out (M.getD i (0, 0)) (by rw [List.getD_eq_getElem?_getD, List.getElem?_eq_getElem hml]; exact List.getElem_mem hml)
      have hq1 := hmem.1
      have hq2 := hmem.2
      have hL := HL.out
      generalize (M.getD i (0, 0)).2 = p1 at *
      generalize (M.getD i (0, 0)).1 = p0 at *
      have f2 : (i : Int) < n := by omega
      have f3 : (0 : Int) ≤ i := by omega
      clear hmem r1 r2 r3 r4 hL HT
      clear hml
      go_wp2_with fail
      go_roundw
      case rel => exact ⟨i + 1, y, rfl, by go_num, by omega, HY, Lib.hid (HU.out.alloc _ _)⟩
      case measure => simp [intOf]; omega
    · obtain rfl : i = n := by omega
      clear r1 r2 r3 r4 HY
      go_wp2_with (first
        | (go_at_call 81; (with_reducible refine (KL.out _ (HS.out.up HU.out)).mono ?_); rintro e w1 ⟨rfl, hu⟩; have HU1 := Lib.hid (HU.out.trans hu); clear hu)
        | (go_at_call 81; (with_reducible refine (KG.out _ (HS.out.up HU1.out)).mono ?_); rintro e w2 ⟨rfl, hu⟩; have HU2 := Lib.hid (HU1.out.trans hu); clear hu))
      go_ret
      exact ⟨rfl, HU2.out⟩

theorem truth13_up (n k : Nat) (A : Option Addr) (M : List It) (g : Int) (hg : 1 ≤ g ∧ g ≤ 4) (hn : n ≤ 1000) (hv : ∀ x ∈ M, -4096 ≤ x.2 ∧ x.2 ≤ 4096) (w : World) (hS : Sl w A n M) :
    Calls Try.prog 35 #[.slice A n k, .int .i64 g] w fun e w' => e = .returned (.int .i64 (agZ g (M.map (fun x => x.2)))) ∧ Up w w' := by
  have : g = 1 ∨ g = 2 ∨ g = 3 ∨ g = 4 := by omega
  rcases this with rfl | rfl | rfl | rfl
  · exact truth13_1 n k A M hn hv w hS
  · exact truth13_2 n k A M hn hv w hS
  · exact truth13_3 n k A M hn hv w hS
  · exact truth13_4 n k A M hn hv w hS
end Go.Proofs.Ytafkoddgefcpnaa
