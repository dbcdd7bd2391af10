/- What awake of the laws of package sum returns. -/
import Derived.Test.YtfdjhahnggdklaaZBSmallm2
import Derived.Test.YtfdjhahnggdklaaZGBasem8
import Derived.Test.YtfdjhahnggdklaaZGLawm3
import Derived.Test.YtfdjhahnggdklaaZHEqm5
import Derived.Test.YtfdjhahnggdklaaZHGrowm2
import Derived.Test.YtfdjhahnggdklaaZHRowm3
import Derived.Test.YtfdjhahnggdklaaZHSamem5
import Derived.Test.YtfdjhahnggdklaaZHSmallm7
import Derived.Test.YtfdjhahnggdklaaZIBasem2
import Derived.Test.YtfdjhahnggdklaaZJAdd
import Derived.Test.YtfdjhahnggdklaaZJAsk
import Derived.Test.YtfdjhahnggdklaaZJBase
import Derived.Test.YtfdjhahnggdklaaZJSt
import Derived.Test.YtfdjhahnggdklaaZREasym4
import Derived.Test.YtfdjhahnggdklaaZWCmpm5
import Derived.Test.YtfdjhahnggdklaaZWGcd
import Derived.Test.YtfdjhahnggdklaaZWMathm9
import Derived.Test.YtfdjhahnggdklaaZWRDiv2
namespace Go.Proofs.Ytfdjhahnggdklaa
open Go.RowKit
set_option linter.unusedVariables false

theorem put5 : itB 1 0 5 [] = [(0, 1), (0, 1), (0, 0)] := by decide
theorem awkS_st : stS 10 1 100 9 0 [] = true ∧ stS 10 1 100 9 0 [(0, 1), (0, 1), (0, 0)] = true := by
  have h := (Hs.start (v := 10) (k := 1) (c := 100) (now := 0) (by decide)).st
  have h2 := (stC_many h 5 (by decide)).1
  rw [put5] at h2
  exact ⟨stS_yes h (by omega) (by omega), stS_yes h2 (by omega) (by omega)⟩
theorem awkS_ak : akV (stS 10 1 100 9 0 [(0, 1), (0, 1), (0, 0)]) [(0, 1), (0, 1), (0, 0)] = .tuple #[.agg #[.int .i64 4, .int .i64 1, .int .i64 4, .int .i64 1, .int .i64 5, .int .i64 1], .int .i64 0] := by
  rw [awkS_st.2]
  rfl
theorem awkS_new (W : World) : Calls Try.prog 8 #[.int .i64 10, .int .i64 1, .int .i64 100, .int .i64 9, .int .i64 0] W fun e w' => e = .returned (.tuple #[.agg #[.int .i64 10, .int .i64 1, .int .i64 100, .int .i64 9, .int .i64 0, .slice none 0 0], .int .i64 0]) ∧ Up W w' :=
  new12_yes 10 1 100 9 0 (by decide) W
theorem awkS_add (W : World) : Calls Try.prog 15 #[.agg #[.int .i64 10, .int .i64 1, .int .i64 100, .int .i64 9, .int .i64 0, .slice none 0 0], .int .i64 5] W fun e w' => ∃ A' k', e = .returned (.tuple #[.agg #[.int .i64 10, .int .i64 1, .int .i64 100, .int .i64 9, .int .i64 0, .slice A' 3 k'], .int .i64 0]) ∧ Nw W A' ∧ Sl w' A' 3 [(0, 1), (0, 1), (0, 0)] ∧ Up W w' :=
  (add12_good 10 1 100 9 0 5 0 0 none [] (by omega) (Nat.le_refl _) awkS_st.1 (by omega) (by omega) (by decide) W Sl.none_).mono (fun _ _ ⟨A', n', k', h1, _, _, h3, h4, h5⟩ => by
    rw [show (5 : Int).toNat = 5 from rfl, put5] at h4
    obtain rfl : n' = 3 := h4.1.symm
    exact ⟨A', k', h1, h3, h4, h5⟩)
theorem awkS_ask (W : World) (A : Option Addr) (k : Nat) (h : Sl W A 3 [(0, 1), (0, 1), (0, 0)]) : Calls Try.prog 17 #[.agg #[.int .i64 10, .int .i64 1, .int .i64 100, .int .i64 9, .int .i64 0, .slice A 3 k]] W fun e w' => e = .returned (.tuple #[.agg #[.int .i64 4, .int .i64 1, .int .i64 4, .int .i64 1, .int .i64 5, .int .i64 1], .int .i64 0]) ∧ Up W w' := by
  have := ask12_up 10 1 100 9 0 3 k A [(0, 1), (0, 1), (0, 0)] (by omega) W h
  rwa [awkS_ak] at this

set_option maxHeartbeats 4000000 in
set_option maxRecDepth 100000 in
theorem awake12_up (w : World) : Calls Try.prog 11 #[] w fun e w' => e = .returned (.bool true) ∧ Up w w' := by
  have K1 := Lib.hid awkS_new
  have K2 := Lib.hid awkS_add
  have K3 := Lib.hid awkS_ask
  go_enter Try.func11, Try.ntmps11
  go_wp2_with (first
    | (go_at_call 8; (with_reducible refine (K1.out _).mono ?_); rintro e w1 ⟨rfl, hu⟩; have HU1 := Lib.hid hu; clear hu)
    | (go_at_call 15; (with_reducible refine (K2.out _).mono ?_); rintro e w2 ⟨A2, k2, rfl, hn, hs, hu⟩; have HN := Lib.hid hn; have HS := Lib.hid hs; have HU2 := Lib.hid ((HU1.out.alloc _ _).trans hu); have a0 := hu.keep w1.heap.size 0 (.int .i64 10) (by simp [go_sem]); have a1 := hu.keep w1.heap.size 1 (.int .i64 1) (by simp [go_sem]); have a2 := hu.keep w1.heap.size 2 (.int .i64 100) (by simp [go_sem]); have a3 := hu.keep w1.heap.size 3 (.int .i64 9) (by simp [go_sem]); have a4 := hu.keep w1.heap.size 4 (.int .i64 0) (by simp [go_sem]); have a5 := hu.keep w1.heap.size 5 (.slice none 0 0) (by simp [go_sem]); have hw1 := HU1.out.size; have hlt : w1.heap.size < w2.heap.size := World.block_lt_of_cell? _ _ a0; have f0 := HU2.out.ownGe (g := w1.heap.size) hw1 0; have f1 := HU2.out.ownGe (g := w1.heap.size) hw1 1; have f2 := HU2.out.ownGe (g := w1.heap.size) hw1 2; have f3 := HU2.out.ownGe (g := w1.heap.size) hw1 3; have f4 := HU2.out.ownGe (g := w1.heap.size) hw1 4; have f5 := HU2.out.ownGe (g := w1.heap.size) hw1 5; clear hu hn hs)
    | (go_at_call 17; (with_reducible refine (K3.out _ A2 k2 (HS.out.off6 (HN.out.off (by simp)) _ _ _ _ _ _)).mono ?_); rintro e w3 ⟨rfl, hu⟩; have HU3 := Lib.hid ((HU2.out.set6 hw1).trans hu); clear hu))
  go_ret
  exact ⟨rfl, HU3.out.alloc _ _⟩
end Go.Proofs.Ytfdjhahnggdklaa
