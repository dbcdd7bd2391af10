/- Package halve: functions without a loop; New of both. -/
import Derived.Test.YtegaeaonoggmkaaRows
import Derived.Test.YtegaeaonoggmkaaZOBaseq91
import Derived.Test.YtegaeaonoggmkaaZOMemq78
import Derived.Test.YtegaeaonoggmkaaZOStq50
namespace Go.Proofs.Ytegaeaonoggmkaa
open Go.RowKit
set_option linter.unusedVariables false

set_option maxHeartbeats 4000000 in
set_option maxRecDepth 100000 in
theorem rnew16_up (a t : Int) (w : World) :
    Calls Try.prog 10 #[.int .i64 a, .int .i64 t] w fun e w' => RsH (nwH a t) w e w' := by
  have KT := Lib.hid (rtick_any t)
  unfold nwH
  by_cases ha : 1 ≤ a ∧ a ≤ 64
  case neg =>
    rw [if_neg (fun h => ha h.1)]
    rcases (show a < 1 ∨ (1 ≤ a ∧ 64 < a) by omega) with h | ⟨g, h⟩
    all_goals
      clear ha
      go_enter Try.func10, Try.ntmps10
      go_wp2_with (go_at_call 31; (with_reducible refine (KT.out _).mono ?_); rintro e w' ⟨rfl, rfl⟩)
      refine bodyPost_ret (v := .tuple #[.agg #[.int .i64 0, .slice none 0 0], .int .i64 1]) (by simp [results, Try.results10, go_sem]) rfl (RsH.no rfl ?_)
      repeat (first | exact Up.refl _ | refine Up.alloc ?_ _ _ | refine Up.setCell ?_ (by first | (simp; done) | (simp; omega) | omega) _ | refine Up.drewN ?_ _ | refine Up.drew ?_)
  by_cases ht : 0 ≤ t ∧ t ≤ 16777216
  case neg =>
    rw [if_neg (fun h => ht h.2)]
    rw [show tickB t = false from decide_eq_false ht] at KT
    obtain ⟨h0, h1⟩ := ha
    clear ht
    go_enter Try.func10, Try.ntmps10
    go_wp2_with (go_at_call 31; (with_reducible refine (KT.out _).mono ?_); rintro e w' ⟨rfl, rfl⟩)
    refine bodyPost_ret (v := .tuple #[.agg #[.int .i64 0, .slice none 0 0], .int .i64 1]) (by simp [results, Try.results10, go_sem]) rfl (RsH.no rfl ?_)
    repeat (first | exact Up.refl _ | refine Up.alloc ?_ _ _ | refine Up.setCell ?_ (by first | (simp; done) | (simp; omega) | omega) _ | refine Up.drewN ?_ _ | refine Up.drew ?_)
  rw [if_pos ⟨ha, ht⟩]
  rw [show tickB t = true from decide_eq_true ht] at KT
  obtain ⟨N, rfl⟩ : ∃ m : Nat, a = m := ⟨a.toNat, by omega⟩
  rw [Int.toNat_natCast]
  obtain ⟨h0, h1⟩ := ha
  have mk := fun W => makeN_run_ N (by omega) W
  clear ht
  go_enter Try.func10, Try.ntmps10
  go_wp2_with (go_at_call 31; (with_reducible refine (KT.out _).mono ?_); rintro e w' ⟨rfl, rfl⟩)
  refine bodyPost_ret (v := .tuple #[.agg #[.int .i64 t, .slice (some ⟨w.heap.size + 1, 0, none⟩) N N], .int .i64 0]) (by simp [results, Try.results10, go_sem]; try rfl) rfl (RsH.yes rfl ?_ ?_ ?_)
  · exact ⟨Nat.le_refl _, fun b o e => by injection e with e; injection e with e; omega⟩
  · have := fun c => madeN_row (w.alloc c) N
    simp only [size_alloc] at this
    exact this _
  · repeat (first | exact Up.refl _ | refine Up.alloc ?_ _ _ | refine Up.setCell ?_ (by first | (simp; done) | (simp; omega) | omega) _ | refine Up.drewN ?_ _ | refine Up.drew ?_)
end Go.Proofs.Ytegaeaonoggmkaa
