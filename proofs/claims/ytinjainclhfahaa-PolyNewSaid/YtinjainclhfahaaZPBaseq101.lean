/- Package poly: results, and the functions without a loop. -/
import Derived.Test.YtinjainclhfahaaRows
import Derived.Test.YtinjainclhfahaaZPBaseq96
namespace Go.Proofs.Ytinjainclhfahaa
open Go.RowKit
set_option linter.unusedVariables false

set_option maxHeartbeats 4000000 in
set_option maxRecDepth 100000 in
theorem rnew15_up (p t : Int) (w : World) :
    Calls Try.prog 10 #[.int .i64 p, .int .i64 t] w fun e w' => Rs (nwQ p t) w e w' := by
  have KT := Lib.hid (rtick_any t)
  unfold nwQ
  by_cases hp : 0 ≤ p ∧ p ≤ 4
  case neg =>
    rw [if_neg (fun h => hp h.1)]
    rcases (show p < 0 ∨ 4 < p by omega) with h | h
    all_goals
      clear hp
      go_enter Try.func10, Try.ntmps10
      go_wp2_with (go_at_call 33; (with_reducible refine (KT.out _).mono ?_); rintro e w' ⟨rfl, rfl⟩)
      refine bodyPost_ret (v := .tuple #[.agg #[.int .i64 0, .int .i64 0, .int .i64 0, .slice none 0 0], .int .i64 1]) (by simp [results, Try.results10, go_sem]) rfl (Rs.no rfl ?_)
      repeat (first | exact Up.refl _ | refine Up.alloc ?_ _ _ | refine Up.setCell ?_ (by first | (simp; done) | (simp; omega) | omega) _ | refine Up.drewN ?_ _ | refine Up.drew ?_)
  by_cases ht : 0 ≤ t ∧ t ≤ 16777216
  case neg =>
    rw [if_neg (fun h => ht h.2)]
    rw [show tickB t = false from decide_eq_false ht] at KT
    obtain ⟨h0, h1⟩ := hp
    clear ht
    go_enter Try.func10, Try.ntmps10
    go_wp2_with (go_at_call 33; (with_reducible refine (KT.out _).mono ?_); rintro e w' ⟨rfl, rfl⟩)
    refine bodyPost_ret (v := .tuple #[.agg #[.int .i64 0, .int .i64 0, .int .i64 0, .slice none 0 0], .int .i64 1]) (by simp [results, Try.results10, go_sem]) rfl (Rs.no rfl ?_)
    repeat (first | exact Up.refl _ | refine Up.alloc ?_ _ _ | refine Up.setCell ?_ (by first | (simp; done) | (simp; omega) | omega) _ | refine Up.drewN ?_ _ | refine Up.drew ?_)
  rw [if_pos ⟨hp, ht⟩]
  rw [show tickB t = true from decide_eq_true ht] at KT
  obtain ⟨m, rfl⟩ : ∃ m : Nat, p = m := ⟨p.toNat, by omega⟩
  rw [show ((m : Int) + 1).toNat = m + 1 by omega]
  obtain ⟨h0, h1⟩ := hp
  have hm : m ≤ 4 := by omega
  have kp : IntKind.i64.wrap ((m : Int) + 1) = ((m + 1 : Nat) : Int) := by rw [IntKind.wrap_i64]; omega
  have mk := fun W => makeW_run (m + 1) (by omega) W
  generalize m + 1 = N at *
  clear ht
  go_enter Try.func10, Try.ntmps10
  go_wp2_with (go_at_call 33; (with_reducible refine (KT.out _).mono ?_); rintro e w' ⟨rfl, rfl⟩)
  refine bodyPost_ret (v := .tuple #[.agg #[.int .i64 m, .int .i64 t, .int .i64 t, .slice (some ⟨w.heap.size + 1, 0, none⟩) N N], .int .i64 0]) (by simp [results, Try.results10, go_sem]; try rfl) rfl (Rs.yes rfl ?_ ?_ ?_)
  · exact ⟨Nat.le_refl _, fun b o e => by injection e with e; injection e with e; omega⟩
  · have := fun c => madeW_row (w.alloc c) N
    simp only [size_alloc] at this
    exact this _
  · repeat (first | exact Up.refl _ | refine Up.alloc ?_ _ _ | refine Up.setCell ?_ (by first | (simp; done) | (simp; omega) | omega) _ | refine Up.drewN ?_ _ | refine Up.drew ?_)
end Go.Proofs.Ytinjainclhfahaa
