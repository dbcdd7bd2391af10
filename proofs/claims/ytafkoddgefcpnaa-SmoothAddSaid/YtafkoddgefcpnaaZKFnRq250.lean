/- Rows of marks: Include and Drop of the reference. -/
import Derived.Test.YtafkoddgefcpnaaRows
import Derived.Test.YtafkoddgefcpnaaZKBaseq174
import Derived.Test.YtafkoddgefcpnaaZKFnq249
import Derived.Test.YtafkoddgefcpnaaZKRowq125
import Derived.Test.YtafkoddgefcpnaaZKValq178
namespace Go.Proofs.Ytafkoddgefcpnaa
open Go.RowKit
set_option linter.unusedVariables false

set_option maxHeartbeats 4000000 in
set_option maxRecDepth 100000 in
theorem rinclude_up (n k : Nat) (A : Option Addr) (X : List Mrk) (seq now v : Int) (hn : n ≤ 50000) (hX : ∀ j, j < n → bdM (X.getD j mk0)) (hv1 : -4096 ≤ v) (hv2 : v ≤ 4096) (w : World) (hS : SG cM w A n X) :
    Calls Try.prog 74 #[.slice A n k, .int .i64 seq, .int .i64 now, .int .i64 v] w fun e w' => ∃ A' k', e = .returned (.slice A' (n + 1) k') ∧ n + 1 ≤ k' ∧ Nw w A' ∧ Up w w' ∧ SG cM w' A' (n + 1) (inM seq now v X) := by
  have HL := Lib.hid hS.1
  have HS := Lib.hid hS
  have HX := Lib.hid hX
  have z1 : IntKind.i64.wrap (v * v) = v * v := (inc_fits (m := ⟨1, 0, 1, 0, 0, 0, 0⟩) ⟨by simp, by simp, by simp, by simp, by simp, by simp⟩ hv1 hv2).2.2.1
  clear hS hX
  go_enter Try.func74, Try.ntmps74
  go_wp2_with fail
  go_loopw [9, 14] (fun t9 t14 wr => ∃ (i : Nat) (B : Option Addr) (kb : Nat), t9 = .slice B i kb ∧ t14 = .int .i64 i ∧ i ≤ n ∧ Hid (OwM w wr (.slice B i kb) i ((X.take i).map (incM v))) ∧ Hid (Up w wr)) (fun _ t _ => n - (intOf t).toNat)
  case atStart => exact ⟨0, none, 0, rfl, rfl, Nat.zero_le _, Lib.hid (OG.nil _ _ _), Lib.hid (Up.refl w)⟩
  case round =>
    obtain ⟨i, B, kb, rfl, rfl, hin, HO, HW⟩ := hrel
    by_cases hi' : i < n
    · obtain ⟨b, o, rfl, d0, d1, d2, d3, d4, d5, d6⟩ := mrk_at (HS.out.up HW.out) mk0 hi'
      have HT := Lib.hid (take_map (v := v) (X := X) (i := i) (by rw [HL.out]; exact hi'))
      obtain ⟨y1, y2, _, y3⟩ := inc_fits (HX.out i hi') hv1 hv2
      generalize X.getD i mk0 = M at *
      obtain ⟨sq, t, nn, s, qq, lo, hi⟩ := M
      simp only at d0 d1 d2 d3 d4 d5 d6 y1 y2 y3
      have f20 : (i : Int) < n := by omega
      have f30 : (0 : Int) ≤ i := by omega
      have hmn : (if v < lo then v else lo) = min lo v := by split <;> omega
      have hmx : (if hi < v then v else hi) = max hi v := by split <;> omega
      go_upto_region 5 with fail
      refine (show ∀ W5 : World, W5 = _ → Code.wp _ _ _ _ W5 from fun W5 hW5 => ?_) _ rfl
      have cW5_0 : W5.cell? ⟨wr.heap.size, 0, none⟩ = some (.int .i64 sq) := by rw [hW5]; simp [go_sem]
      have cW5_1 : W5.cell? ⟨wr.heap.size, 1, none⟩ = some (.int .i64 t) := by rw [hW5]; simp [go_sem]
      have cW5_2 : W5.cell? ⟨wr.heap.size, 2, none⟩ = some (.int .i64 nn) := by rw [hW5]; simp [go_sem]
      have cW5_3 : W5.cell? ⟨wr.heap.size, 3, none⟩ = some (.int .i64 s) := by rw [hW5]; simp [go_sem]
      have cW5_4 : W5.cell? ⟨wr.heap.size, 4, none⟩ = some (.int .i64 qq) := by rw [hW5]; simp [go_sem]
      have cW5_5 : W5.cell? ⟨wr.heap.size, 5, none⟩ = some (.int .i64 lo) := by rw [hW5]; simp [go_sem]
      have cW5_6 : W5.cell? ⟨wr.heap.size, 6, none⟩ = some (.int .i64 hi) := by rw [hW5]; simp [go_sem]
      have UW5 : Hid (Up wr W5) := Lib.hid (by rw [hW5]; repeat (first | exact Up.refl _ | refine Up.alloc ?_ _ _ | refine Up.setCell ?_ (by first | (simp; done) | (simp; omega) | omega) _ | refine Up.drewN ?_ _ | refine Up.drew ?_))
      clear hW5
      obtain ⟨A2, k2, w2, hr, hO2, hU2⟩ := append1M w W5 B i kb _ sq t (nn + 1) (s + v) (qq + v * v) (min lo v) (max hi v) ⟨HO.out.1, HO.out.2.of_up UW5.out⟩ (HW.out.trans UW5.out) (by omega)
      have HO2 := Lib.hid hO2
      have HU2 := Lib.hid hU2
      clear hO2 hU2

      go_wp2_with (refine wpList_append_run (o := ⟨some 46, _, _, _, _, _⟩) rfl (.tmp 18) (.tmp 45) _ rfl _ _ rfl rfl _ _ hr ?_)
      go_roundw
      case rel => exact ⟨i + 1, A2, k2, rfl, by go_num, by omega, Lib.hid (by rw [HT.out]; exact HO2.out), HU2⟩
      case measure => simp [intOf]; omega
    · obtain rfl : i = n := by omega
      go_upto_region 7 with fail
      obtain ⟨A2, k2, w2, hr, hO2, hU2⟩ := append1M w wr B i kb _ seq now 1 v (v * v) v v HO.out HW.out (by omega)
      have HO2 := Lib.hid hO2
      have HU2 := Lib.hid hU2
      clear hO2 hU2
      go_wp2_with (refine wpList_append_run (o := ⟨some 59, _, _, _, _, _⟩) rfl (.tmp 48) (.tmp 58) _ rfl _ _ rfl rfl _ _ hr ?_)
      go_ret
      exact ⟨A2, k2, rfl, (OG.sg HO2.out).1, OG.nw HO2.out, HU2.out, by
        have h := (OG.sg HO2.out).2
        rw [show X.take i = X by rw [← HL.out]; exact List.take_length] at h
        exact h⟩

end Go.Proofs.Ytafkoddgefcpnaa
