/- Package marks: Add, with one rule. -/
import Derived.Test.YtafkoddgefcpnaaGreatRows
import Derived.Test.YtafkoddgefcpnaaGreatZKMcq92
import Derived.Test.YtafkoddgefcpnaaGreatZLMaq168
namespace Go.Proofs.YtafkoddgefcpnaaGreat
open Go.RowKit
set_option linter.unusedVariables false

set_option maxHeartbeats 4000000 in
set_option maxRecDepth 100000 in
theorem maddS_range (b1:Nat) (g v q c now seq d:Int) (n k:Nat) (A:Option Addr) (hg:1≤g∧g≤4) (hd:¬ valG g d) (w:World) :
    Calls Tryz.prog 31 #[.agg #[.int .i64 g,.int .i64 v,.int .i64 q,.int .i64 c,.int .i64 now,.int .i64 seq,.slice A n k],.int .i64 d,.func (.func 69) #[] #[.pointer (some ⟨b1,0,none⟩)]] w fun e w'=>e=.returned (.tuple #[.agg #[.int .i64 0,.int .i64 0,.int .i64 0,.int .i64 0,.int .i64 0,.int .i64 0,.slice none 0 0],.int .i64 4])∧Up w w':=by
  have KI:=Lib.hid (isValueG_any d g hg)
  rw [decide_eq_false hd] at KI
  clear hd hg
  go_enter Tryz.func31,Tryz.ntmps31
  go_wp2_with (go_at_call 66;(with_reducible refine (KI.out _).mono ?_);rintro e w2 ⟨rfl,rfl⟩)
  refine bodyPost_ret (v:=.tuple #[.agg #[.int .i64 0,.int .i64 0,.int .i64 0,.int .i64 0,.int .i64 0,.int .i64 0,.slice none 0 0],.int .i64 4]) (by simp [results,Tryz.results31,go_sem]) rfl ⟨?_,?_⟩
  · rfl
  · repeat (first | exact Up.refl _ | refine Up.alloc ?_ _ _ | refine Up.setCell ?_ (by first | (simp;done) | (simp;omega) | omega) _ | refine Up.drewN ?_ _ | refine Up.drew ?_)

end Go.Proofs.YtafkoddgefcpnaaGreat
