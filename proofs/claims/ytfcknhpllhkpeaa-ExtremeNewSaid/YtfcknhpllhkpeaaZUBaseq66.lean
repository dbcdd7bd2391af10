/- Package extreme: functions without a loop; New of both. -/
import Derived.Test.YtfcknhpllhkpeaaRows
import Derived.Test.YtfcknhpllhkpeaaZUBaseq64
import Derived.Test.YtfcknhpllhkpeaaZUMemq59
namespace Go.Proofs.Ytfcknhpllhkpeaa
open Go.RowKit
set_option linter.unusedVariables false

set_option maxHeartbeats 4000000 in
set_option maxRecDepth 100000 in
theorem rnew17_up (mx : Bool) (v c now : Int) (w : World) :
    Calls Try.prog 10 #[.bool mx, .int .i64 v, .int .i64 c, .int .i64 now] w fun e w' => RsX (nwX mx v c now) w e w' := by
  have KM := Lib.hid (rmay_any v c now)
  unfold nwX
  cases h : mayB v c now
  · rw [h] at KM
    rw [if_neg (by decide)]
    clear h
    go_enter Try.func10, Try.ntmps10
    go_wp2_with (go_at_call 32; (with_reducible refine (KM.out _).mono ?_); rintro e w' ⟨rfl, rfl⟩)
    refine bodyPost_ret (v := .tuple #[.agg #[.bool false, .int .i64 0, .int .i64 0, .int .i64 0, .slice none 0 0], .int .i64 1]) (by simp [results, Try.results10, go_sem]) rfl (RsX.no rfl ?_)
    repeat (first | exact Up.refl _ | refine Up.alloc ?_ _ _ | refine Up.setCell ?_ (by first | (simp; done) | (simp; omega) | omega) _ | refine Up.drewN ?_ _ | refine Up.drew ?_)
  · rw [h] at KM
    rw [if_pos rfl]
    clear h
    go_enter Try.func10, Try.ntmps10
    go_wp2_with (go_at_call 32; (with_reducible refine (KM.out _).mono ?_); rintro e w' ⟨rfl, rfl⟩)
    refine bodyPost_ret (v := .tuple #[.agg #[.bool mx, .int .i64 v, .int .i64 c, .int .i64 now, .slice none 0 0], .int .i64 0]) (by simp [results, Try.results10, go_sem]) rfl (RsX.yes rfl ⟨Nat.le_refl _, fun _ _ q => (by cases q)⟩ Sl.none_ ?_)
    repeat (first | exact Up.refl _ | refine Up.alloc ?_ _ _ | refine Up.setCell ?_ (by first | (simp; done) | (simp; omega) | omega) _ | refine Up.drewN ?_ _ | refine Up.drew ?_)
end Go.Proofs.Ytfcknhpllhkpeaa
