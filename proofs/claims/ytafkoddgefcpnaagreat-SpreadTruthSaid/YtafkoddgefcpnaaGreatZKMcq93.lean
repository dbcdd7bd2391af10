/- Package marks: New, Advance, Ends. -/
import Derived.Test.YtafkoddgefcpnaaGreatRows
import Derived.Test.YtafkoddgefcpnaaGreatZKBaseq83
import Derived.Test.YtafkoddgefcpnaaGreatZKValq85
namespace Go.Proofs.YtafkoddgefcpnaaGreat
open Go.RowKit
set_option linter.unusedVariables false

set_option maxHeartbeats 4000000 in
set_option maxRecDepth 100000 in
theorem mnew_yes (g v q c now:Int) (h:mayM g v q c now=true) (w:World) :
    Calls Tryz.prog 48 #[.int .i64 g,.int .i64 v,.int .i64 q,.int .i64 c,.int .i64 now] w fun e w'=>e=.returned (.tuple #[.agg #[.int .i64 g,.int .i64 v,.int .i64 q,.int .i64 c,.int .i64 now,.int .i64 0,.slice none 0 0],.int .i64 0])∧Up w w':=by
  have KS:=Lib.hid (validSizes13_any g q c)
  have KF:=Lib.hid (first_any now v)
  rw [mayM_form,Bool.and_eq_true] at h
  rw [h.1] at KS
  have h0:=firZ_low h.2
  clear h
  generalize firZ now v=x at *
  have t0:decide (x<0)=false:=decide_eq_false (by omega)
  clear h0
  go_enter Tryz.func48,Tryz.ntmps48
  go_wp2_with (first | (go_at_call 79;(with_reducible refine (KS.out _).mono ?_);rintro e w' ⟨rfl,rfl⟩) | (go_at_call 80;(with_reducible refine (KF.out _).mono ?_);rintro e w' ⟨rfl,rfl⟩))
  refine bodyPost_ret (v:=.tuple #[.agg #[.int .i64 g,.int .i64 v,.int .i64 q,.int .i64 c,.int .i64 now,.int .i64 0,.slice none 0 0],.int .i64 0]) (by simp [results,Tryz.results48,go_sem]) rfl ⟨?_,?_⟩
  · rfl
  · repeat (first | exact Up.refl _ | refine Up.alloc ?_ _ _ | refine Up.setCell ?_ (by first | (simp;done) | (simp;omega) | omega) _ | refine Up.drewN ?_ _ | refine Up.drew ?_)

end Go.Proofs.YtafkoddgefcpnaaGreat
