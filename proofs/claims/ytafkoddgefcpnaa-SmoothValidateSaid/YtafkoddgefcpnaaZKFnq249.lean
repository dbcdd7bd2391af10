/- Texts of these claims, one after the other. -/
import Derived.Test.YtafkoddgefcpnaaRows
import Derived.Test.YtafkoddgefcpnaaZKValq177
namespace Go.Proofs.Ytafkoddgefcpnaa
open Go.RowKit
set_option linter.unusedVariables false

theorem makeM_run (c : Nat) (hc : c ≤ 100000) (w : World) : ∃ cs : Array Value, cs.size = (c + 1) * 7 ∧ (Instr.makeSlice 24 (.int .i64 0) (.int .i64 ((c : Int) + 1))).run Try.prog w = .ok (.slice (some ⟨w.heap.size, 0, none⟩) 0 (c + 1)) (w.alloc (.cells cs 23)) := by
  obtain ⟨i, hi, hz, hs, hb⟩ := info_parts mark_info
  have := run_make (P := Try.prog) w 24 23 i _ Try.underlying24 hi hz .i64 .i64 0 ((c + 1 : Nat) : Int) (by omega) (by omega) (by rw [hb]; omega) (by omega)
  rw [show ((c : Int) + 1) = ((c + 1 : Nat) : Int) by omega]
  refine ⟨_, ?_, this⟩
  rw [hs]
  simp [madeCells]
theorem OwM.made {w0 w : World} (hu : w0.heap.size ≤ w.heap.size) (cs : Array Value) (c : Nat) (hc : c ≤ 1000000) (hs : cs.size = c * 7) : OwM w0 (w.alloc (.cells cs 23)) (.slice (some ⟨w.heap.size, 0, none⟩) 0 c) 0 [] :=
  ⟨rfl, by simp [flG], Or.inr ⟨w.heap.size, c, cs, rfl, hu, heap_alloc_new w _, Nat.zero_le _, by simp [maxLen]; omega, hs, by simp [flG]⟩⟩
/-- A sum and a product of a mark's numbers and a value. -/
theorem inc_fits {m : Mrk} {v : Int} (h : bdM m) (h1 : -4096 ≤ v) (h2 : v ≤ 4096) : IntKind.i64.wrap (m.n + 1) = m.n + 1 ∧ IntKind.i64.wrap (m.s + v) = m.s + v ∧ IntKind.i64.wrap (v * v) = v * v ∧ IntKind.i64.wrap (m.q + v * v) = m.q + v * v := by
  obtain ⟨a, b, c, _⟩ := h
  have y1 := sq_bd (x := v) (m := 4096) (by omega) h2
  have y2 := sq_nn v
  refine ⟨?_, ?_, ?_, ?_⟩ <;> rw [IntKind.wrap_i64] <;> omega
theorem take_map {v : Int} {X : List Mrk} {i : Nat} (h : i < X.length) : (X.take (i + 1)).map (incM v) = (X.take i).map (incM v) ++ [incM v (X.getD i mk0)] := by
  rw [List.take_succ_eq_append_getElem h, List.map_append, List.map_singleton]
  simp [List.getD, h]

set_option maxHeartbeats 4000000 in
set_option maxRecDepth 100000 in
theorem extended_up (n k : Nat) (A : Option Addr) (X : List Mrk) (seq now v : Int) (hn : n ≤ 50000) (hX : ∀ j, j < n → bdM (X.getD j mk0)) (hv1 : -4096 ≤ v) (hv2 : v ≤ 4096) (w : World) (hS : SG cM w A n X) :
    Calls Try.prog 114 #[.slice A n k, .int .i64 seq, .int .i64 now, .int .i64 v] w fun e w' => ∃ A' k', e = .returned (.slice A' (n + 1) k') ∧ Up w w' ∧ SG cM w' A' (n + 1) (inM seq now v X) := by
  have HL := Lib.hid hS.1
  have HS := Lib.hid hS
  have HX := Lib.hid hX
  obtain ⟨cs, hcs, hmk⟩ := makeM_run n (by omega) w
  have HM0 := Lib.hid (OwM.made (w0 := w) (w := w) (Nat.le_refl _) cs (n + 1) (by omega) hcs)
  have z1 : IntKind.i64.wrap (v * v) = v * v := (inc_fits (m := ⟨1, 0, 1, 0, 0, 0, 0⟩) ⟨by simp, by simp, by simp, by simp, by simp, by simp⟩ hv1 hv2).2.2.1
  clear hS hX hcs
  go_enter Try.func114, Try.ntmps114
  go_wp2_with fail
  go_loopw [9, 18] (fun t9 t wr => ∃ (i : Nat) (B : Option Addr) (kb : Nat), t9 = .slice B i kb ∧ t = .int .i64 i ∧ i ≤ n ∧ Hid (OwM w wr (.slice B i kb) i ((X.take i).map (incM v))) ∧ Hid (Up w wr)) (fun _ t _ => n - (intOf t).toNat)
  case atStart => exact ⟨0, _, _, rfl, rfl, Nat.zero_le _, HM0, Lib.hid ((Up.refl w).alloc _ _)⟩
  case round =>
    obtain ⟨i, B, kb, rfl, rfl, hin, HO, HW⟩ := hrel
    by_cases hi' : i < n
    · obtain ⟨b, o, rfl, d0, d1, d2, d3, d4, d5, d6⟩ := mrk_at (HS.out.up HW.out) mk0 hi'
      have HT := Lib.hid (take_map (v := v) (X := X) (i := i) (by rw [HL.out]; exact hi'))
      obtain ⟨y1, y2, _, y3⟩ := inc_fits (HX.out i hi') hv1 hv2
      generalize X.getD i mk0 = M at *
      obtain ⟨sq, t, nn, s, qq, lo, hi⟩ := M
      simp only at d0 d1 d2 d3 d4 d5 d6 y1 y2 y3
      have f20 : (i : Int) < n := by omega
      have f30 : (0 : Int) ≤ i := by omega
      go_upto_region 9 with fail
      refine (show ∀ W9 : World, W9 = _ → Code.wp _ _ _ _ W9 from fun W9 hW9 => ?_) _ rfl
      have cW9_0 : W9.cell? ⟨wr.heap.size, 0, none⟩ = some (.int .i64 sq) := by rw [hW9]; simp [go_sem]
      have cW9_1 : W9.cell? ⟨wr.heap.size, 1, none⟩ = some (.int .i64 t) := by rw [hW9]; simp [go_sem]
      have cW9_2 : W9.cell? ⟨wr.heap.size, 2, none⟩ = some (.int .i64 (nn + 1)) := by rw [hW9]; simp [go_sem]
      have cW9_3 : W9.cell? ⟨wr.heap.size, 3, none⟩ = some (.int .i64 (s + v)) := by rw [hW9]; simp [go_sem]
      have cW9_4 : W9.cell? ⟨wr.heap.size, 4, none⟩ = some (.int .i64 (qq + v * v)) := by rw [hW9]; simp [go_sem]
      have cW9_5 : W9.cell? ⟨wr.heap.size, 5, none⟩ = some (.int .i64 (min lo v)) := by rw [hW9]; simp [go_sem]; (split <;> omega)
      have cW9_6 : W9.cell? ⟨wr.heap.size, 6, none⟩ = some (.int .i64 (max hi v)) := by rw [hW9]; simp [go_sem]; (split <;> omega)
      have UW9 : Hid (Up wr W9) := Lib.hid (by rw [hW9]; repeat (first | exact Up.refl _ | refine Up.alloc ?_ _ _ | refine Up.setCell ?_ (by first | (simp; done) | (simp; omega) | omega) _ | refine Up.drewN ?_ _ | refine Up.drew ?_))
      clear hW9
      obtain ⟨A2, k2, w2, hr, hO2, hU2⟩ := append1M w W9 B i kb _ sq t (nn + 1) (s + v) (qq + v * v) (min lo v) (max hi v) ⟨HO.out.1, HO.out.2.of_up UW9.out⟩ (HW.out.trans UW9.out) (by omega)
      have HO2 := Lib.hid hO2
      have HU2 := Lib.hid hU2
      clear hO2 hU2
      go_wp2_with (refine wpList_append_run (o := ⟨some 51, _, _, _, _, _⟩) rfl (.tmp 48) (.tmp 50) _ rfl _ _ rfl rfl _ _ hr ?_)
      go_roundw
      case rel => exact ⟨i + 1, A2, k2, rfl, by go_num, by omega, Lib.hid (by rw [HT.out]; exact HO2.out), HU2⟩
      case measure => simp [intOf]; omega
    · obtain rfl : i = n := by omega
      go_upto_region 11 with fail
      obtain ⟨A2, k2, w2, hr, hO2, hU2⟩ := append1M w wr B i kb _ seq now 1 v (v * v) v v HO.out HW.out (by omega)
      have HO2 := Lib.hid hO2
      have HU2 := Lib.hid hU2
      clear hO2 hU2
      go_wp2_with (refine wpList_append_run (o := ⟨some 64, _, _, _, _, _⟩) rfl (.tmp 53) (.tmp 63) _ rfl _ _ rfl rfl _ _ hr ?_)
      go_ret
      exact ⟨A2, k2, rfl, HU2.out, by
        have h := (OG.sg HO2.out).2
        rw [show X.take i = X by rw [← HL.out]; exact List.take_length] at h
        exact h⟩

end Go.Proofs.Ytafkoddgefcpnaa

namespace Go.Proofs.Ytafkoddgefcpnaa
open Go.RowKit
set_option linter.unusedVariables false

theorem makeM0_run (c : Nat) (hc : c ≤ 100001) (w : World) : ∃ cs : Array Value, cs.size = c * 7 ∧ (Instr.makeSlice 24 (.int .i64 0) (.int .i64 (c : Int))).run Try.prog w = .ok (.slice (some ⟨w.heap.size, 0, none⟩) 0 c) (w.alloc (.cells cs 23)) := by
  obtain ⟨i, hi, hz, hs, hb⟩ := info_parts mark_info
  have := run_make (P := Try.prog) w 24 23 i _ Try.underlying24 hi hz .i64 .i64 0 (c : Int) (by omega) (by omega) (by rw [hb]; omega) (by omega)
  refine ⟨_, ?_, this⟩
  rw [hs]
  simp [madeCells]
theorem prune_stepG {nr : Mrk → Mrk → Bool} {n i nx : Nat} {X M Z : List Mrk} (hl : X.length = n) (hi : i < n) (hanti : ∀ p j, i < p → p ≤ j → j < n → nr (X.getD i mk0) (X.getD p mk0) = false → nr (X.getD i mk0) (X.getD j mk0) = false) (h : M ++ prL nr (n - i) (X.drop i) = Z) (h1 : i + 1 ≤ nx) (h2 : nx < n ∨ nx = i + 1) (h3 : i + 1 < nx → nr (X.getD i mk0) (X.getD nx mk0) = true) (h4 : nx + 1 < n → nr (X.getD i mk0) (X.getD (nx + 1) mk0) = false) : (M ++ [X.getD i mk0]) ++ prL nr (n - nx) (X.drop nx) = Z := by
  have e1 : X.drop i = X.getD i mk0 :: X.drop (i + 1) := by
    rw [List.drop_eq_getElem_cons (by omega)]; simp [List.getD, show i < X.length by omega]
  rw [e1, show n - i = (n - i - 1) + 1 by omega] at h
  have h := prL_go h
  rw [cutL_pru mk0 h1 (by rw [hl]; exact h2) h3 (fun j hj1 hj2 => by
    rw [hl] at hj2
    exact hanti (nx + 1) j (by omega) (by omega) hj2 (h4 (by omega)))] at h
  rw [prL_fuel nr (n - nx) (n - i - 1) (X.drop nx) (by rw [List.length_drop]; omega) (by rw [List.length_drop]; omega)]
  exact h

end Go.Proofs.Ytafkoddgefcpnaa
