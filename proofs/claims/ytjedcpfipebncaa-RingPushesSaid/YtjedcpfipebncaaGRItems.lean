/- What Items of the reference returns. -/
import Derived.Test.YtjedcpfipebncaaGLaw
import Derived.Test.YtjedcpfipebncaaGVal2
namespace Go.Proofs.Ytjedcpfipebncaa
open Go.RowKit

set_option maxHeartbeats 2000000 in
set_option maxRecDepth 100000 in
theorem ritems_bad (c h l : Int) (n k : Nat) (A : Option Addr) (L : List It) (hv : vB c h l L = false) (w : World) (hS : Sl w A n L) :
    Calls Try.prog 16 #[.agg #[.int .i64 c, .int .i64 h, .int .i64 l, .slice A n k]] w fun e w' => e = .returned (.slice none 0 0) ∧ Up w w' := by
  have K1 := Lib.hid (rval_bad c h l n k A L hv (w.alloc (.cells #[.int .i64 c, .int .i64 h, .int .i64 l, .slice A n k] 24)) (hS.up ((Up.refl _).alloc _ _)))
  clear hS hv
  go_enter Try.func16, Try.ntmps16
  go_wp2_with (go_at_call 15; refine K1.out.mono ?_; rintro e w' ⟨rfl, hu⟩; have HU := Lib.hid hu; clear hu)
  go_ret
  exact ⟨rfl, ((Up.refl _).alloc _ _).trans HU.out⟩

set_option maxHeartbeats 4000000 in
set_option maxRecDepth 100000 in
theorem ritems_good (c h k : Nat) (A : Option Addr) (M : List It) (hc : 1 ≤ c) (hc' : c ≤ 65536) (hh : h < c) (hM : M.length ≤ c) (w : World) (hS : Sl w A c (ofL c h M)) :
    Calls Try.prog 16 #[.agg #[.int .i64 c, .int .i64 h, .int .i64 M.length, .slice A c k]] w fun e w' => ∃ A' k', e = .returned (.slice A' M.length k') ∧ M.length ≤ k' ∧ Sl w' A' M.length M ∧ Up w w' := by
  have K1 := Lib.hid (rval_good c h k A M hc hc' hh hM (w.alloc (.cells #[.int .i64 c, .int .i64 h, .int .i64 M.length, .slice A c k] 24)) (hS.up ((Up.refl _).alloc _ _)))
  have HS := Lib.hid hS
  obtain ⟨l, hl⟩ : ∃ l, l = M.length := ⟨_, rfl⟩
  have HL := Lib.hid hl
  rw [← hl] at hM K1 ⊢
  clear hS hl
  obtain ⟨w1, hw1⟩ : ∃ w1, w1 = w.alloc (.cells #[.int .i64 c, .int .i64 h, .int .i64 l, .slice A c k] 24) := ⟨_, rfl⟩
  have HW1 := Lib.hid hw1
  have HU1 : Hid (Up w w1) := Lib.hid (by rw [hw1]; exact (Up.refl _).alloc _ _)
  have b0 : w1.cell? ⟨w.heap.size, 0, none⟩ = some (.int .i64 c) := by rw [hw1]; simp [go_sem]
  have b1 : w1.cell? ⟨w.heap.size, 1, none⟩ = some (.int .i64 h) := by rw [hw1]; simp [go_sem]
  have b2 : w1.cell? ⟨w.heap.size, 2, none⟩ = some (.int .i64 l) := by rw [hw1]; simp [go_sem]
  have b3 : w1.cell? ⟨w.heap.size, 3, none⟩ = some (.slice A c k) := by rw [hw1]; simp [go_sem]
  rw [← hw1] at K1
  clear hw1
  go_enter Try.func16, Try.ntmps16
  go_wp2_with (go_at_call 15; rw [← HW1.out]; refine K1.out.mono ?_; rintro e w' ⟨rfl, hu⟩; have HU := Lib.hid hu; clear hu)
  go_loopw [3, 4] (fun v t wr => ∃ i : Nat, t = .int .i64 i ∧ i ≤ l ∧ Hid (Up w1 wr) ∧ Hid (Own w1 wr v i (M.take i))) (fun _ t _ => l - (intOf t).toNat)
  case atStart => exact ⟨0, rfl, Nat.zero_le _, HU, Lib.hid (Own.nil _ _)⟩
  case round =>
    obtain ⟨i, rfl, i2, HU, HO⟩ := hrel
    have c0 := HU.out.keep _ _ _ b0
    have c1 := HU.out.keep _ _ _ b1
    have c2 := HU.out.keep _ _ _ b2
    have c3 := HU.out.keep _ _ _ b3
    clear b0 b1 b2 b3
    by_cases hlt : i < l
    · have hm : (h + i) % c < c := Nat.mod_lt _ (by omega)
      obtain ⟨b, o, rfl, d0, d1⟩ := (HS.out.up (HU1.out.trans HU.out)).at_ hm
      rw [ofL_place c h M i hh (by omega)] at d0 d1
      obtain ⟨m, hmm⟩ : ∃ m, m = (h + i) % c := ⟨_, rfl⟩
      have HM := Lib.hid hmm
      rw [← hmm] at hm d0 d1
      clear hmm
      have e1 : IntKind.i64.wrap ((h : Int) + i) = (h : Int) + i := IntWalk.i64_in _ (by omega) 
      have e2 : ((h : Int) + i).tmod c = (m : Int) := by rw [Int.tmod_eq_emod_of_nonneg (by clear e1; omega), HM.out]; rfl
      have e3 : IntKind.i64.wrap (m : Int) = m := IntWalk.i64_in _ (by clear e1 e2; omega)
      have f1 : ¬ c = 0 := by clear e1 e2; omega
      have f2 : (m : Int) < c := by clear e1 e2; omega
      have f3 : (0 : Int) ≤ m := by clear e1 e2; omega
      obtain ⟨p0, hp0⟩ : ∃ p, p = (M.getD i (0, 0)).1 := ⟨_, rfl⟩
      obtain ⟨p1, hp1⟩ : ∃ p, p = (M.getD i (0, 0)).2 := ⟨_, rfl⟩
      rw [← hp0] at d0
      rw [← hp1] at d1
      have HP := Lib.hid (show M.getD i (0, 0) = (p0, p1) by rw [hp0, hp1])
      clear hp0 hp1
      obtain ⟨v', w', hr, hO, hU⟩ := append_run 22 w1 (wr.alloc (.cells #[.int .i64 p0, .int .i64 p1] 35)).drew _ i (M.take i) (HO.out.of_up ((Up.refl _).alloc _ _).drew) (HU.out.alloc _ _).drew (some ⟨wr.heap.size, 0, none⟩) 1 1 [(p0, p1)] (one_new wr p0 p1) (by omega)
      rw [← HP.out, ← take_snoc M i (by rw [← HL.out]; exact hlt)] at hO
      have HO' := Lib.hid hO
      have HU' := Lib.hid hU
      have HR := Lib.hid hr
      clear hO hU hr
      go_wp2
      go_region_law (refine step_append_run rfl (.tmp 14) (.tmp 26) _ rfl _ _ rfl rfl _ _ HR.out ?_)
      all_goals
        go_wp2
        go_roundw
        case rel => exact ⟨i + 1, by go_num, by omega, HU', HO'⟩
        case measure => simp [intOf]; omega
    · obtain ⟨A', k', rfl, hk', hs'⟩ := HO.out.sl
      have HS' := Lib.hid hs'
      clear hs'
      obtain rfl : i = l := by omega
      go_wp2
      go_ret
      rw [HL.out, List.take_length] at HS'
      exact ⟨A', k', rfl, hk', by rw [HL.out]; exact HS'.out, HU1.out.trans HU.out⟩
end Go.Proofs.Ytjedcpfipebncaa
