/- Package marks: New, Advance, Ends. -/
import Derived.Test.YtafkoddgefcpnaaGreatRows
import Derived.Test.YtafkoddgefcpnaaGreatZKFrameq71
import Derived.Test.YtafkoddgefcpnaaGreatZKValq85
namespace Go.Proofs.YtafkoddgefcpnaaGreat
open Go.RowKit
set_option linter.unusedVariables false

set_option maxHeartbeats 4000000 in
set_option maxRecDepth 100000 in
theorem madv_time (g v q c now seq td:Int) (n k:Nat) (A:Option Addr) (hn0:tickB now=true) (ht:td<now∨16777216<td) (w:World) :
    Calls Tryz.prog 26 #[.agg #[.int .i64 g,.int .i64 v,.int .i64 q,.int .i64 c,.int .i64 now,.int .i64 seq,.slice A n k],.int .i64 td] w fun e w'=>e=.returned (.tuple #[.agg #[.int .i64 0,.int .i64 0,.int .i64 0,.int .i64 0,.int .i64 0,.int .i64 0,.slice none 0 0],.int .i64 3])∧Up w w':=by
  have KB:=Lib.hid (fun W=>advance_any now td 0 3 (adv_no hn0 ht) W)
  clear hn0 ht
  go_enter Tryz.func26,Tryz.ntmps26
  go_wp2_with (go_at_call 64;(with_reducible refine (KB.out _).mono ?_);rintro e w2 ⟨rfl,rfl⟩)
  refine bodyPost_ret (v:=.tuple #[.agg #[.int .i64 0,.int .i64 0,.int .i64 0,.int .i64 0,.int .i64 0,.int .i64 0,.slice none 0 0],.int .i64 3]) (by simp [results,Tryz.results26,go_sem]) rfl ⟨?_,?_⟩
  · rfl
  · repeat (first | exact Up.refl _ | refine Up.alloc ?_ _ _ | refine Up.setCell ?_ (by first | (simp;done) | (simp;omega) | omega) _ | refine Up.drewN ?_ _ | refine Up.drew ?_)

end Go.Proofs.YtafkoddgefcpnaaGreat
